import PyProof.Rows.All
import Wide.All
import OpenK.AllK
import Wide.FinOn
import Lean
import PyProof.EqAt
import PyProof.EqKinds
import PyProof.TupleCall
import PySem.Challenge.RW_piecebounds_k27_squares_and_spreads_plan
set_option Elab.async false
set_option linter.all false
set_option maxRecDepth 100000
namespace L2
open PySem PySem.Spec PyProof.Rows
abbrev Key:=Sum Int Str
def keyIs:Key->Value->Bool
 | .inl k,v=>Value.isInt k v
 | .inr x,v=>Value.isStrOf x v
def keyH (w:World):Key->Int
 | .inl k=>hashInt k
 | .inr x=>hashStr w x
theorem keyIs_shape:∀ {k:Key} {v:Value},keyIs k v=true->(∃ i t,k=Sum.inl i/\v=Value.int i t)\/(∃ x t,k=Sum.inr x/\v=Value.str x t)
 | .inl i,v,h=>by
  obtain⟨t,e⟩:=Value.isInt_shape (k:=i) (v:=v) h
  exact .inl ⟨i,t,rfl,e⟩
 | .inr x,v,h=>by
  obtain⟨t,e⟩:=Value.isStrOf_shape (x:=x) (v:=v) h
  exact .inr ⟨x,t,rfl,e⟩
theorem key_ll (a b:Int):decide ((Sum.inl a:Key)=Sum.inl b)=(a == b):=by
 by_cases e:a=b
 ·subst e;simp
 ·have h:¬ (Sum.inl a:Key)=Sum.inl b:=λq=>e (Sum.inl.inj q)
  rw[decide_eq_false h]
  exact(beq_eq_false_iff_ne.mpr e).symm
theorem key_rr (a b:Str):decide ((Sum.inr a:Key)=Sum.inr b)=decide (a=b):=by
 by_cases e:a=b
 ·subst e;simp
 ·have h:¬ (Sum.inr a:Key)=Sum.inr b:=λq=>e (Sum.inr.inj q)
  rw[decide_eq_false h,decide_eq_false e]
theorem key_lr (a:Int)(b:Str):decide ((Sum.inl a:Key)=Sum.inr b)=false:=decide_eq_false (λq=>nomatch q)
theorem key_rl (a:Str)(b:Int):decide ((Sum.inr a:Key)=Sum.inl b)=false:=decide_eq_false (λq=>nomatch q)
def mixKind (prog:Program)(w:World):PySem.KeyKind prog w Key where
 is:=keyIs
 hash:=keyH w
 inj:=λv a b ha hb=>by
  rcases keyIs_shape ha with ⟨i,t,rfl,rfl⟩ | ⟨x,t,rfl,rfl⟩
  ·rcases keyIs_shape hb with ⟨j,u,rfl,e⟩ | ⟨y,u,rfl,e⟩
   ·injection e with e1 _;rw[e1]
   ·exact nomatch e
  ·rcases keyIs_shape hb with ⟨j,u,rfl,e⟩ | ⟨y,u,rfl,e⟩
   ·exact nomatch e
   ·injection e with e1 _;rw[e1]
 byValue:=λk v h=>by
  rcases keyIs_shape h with ⟨i,t,rfl,rfl⟩ | ⟨x,t,rfl,rfl⟩<;>rfl
 pyHash:=λhv h=>by
  rcases keyIs_shape hv with ⟨i,t,rfl,rfl⟩ | ⟨x,t,rfl,rfl⟩
  ·exact wpAny_pyHash_int h
  ·exact wpAny_pyHash_str h
 eqBool:=λhu hv h=>by
  rcases keyIs_shape hu with ⟨i,t,rfl,rfl⟩ | ⟨x,t,rfl,rfl⟩
  ·rcases keyIs_shape hv with ⟨j,u,rfl,rfl⟩ | ⟨y,u,rfl,rfl⟩
   ·rw[key_ll] at h;exact wpAny_eqBool_int h
   ·rw[key_lr] at h;exact SeqAt.EqAt.int_str i t y u _ _ _ _ h
  ·rcases keyIs_shape hv with ⟨j,u,rfl,rfl⟩ | ⟨y,u,rfl,rfl⟩
   ·rw[key_rl] at h;exact SeqAt.EqAt.str_int x t j u _ _ _ _ h
   ·rw[key_rr] at h;exact wpAny_eqBool_str h
 «strs»:=λk x t v h=>by
  rcases keyIs_shape h with ⟨i,u,rfl,e⟩ | ⟨y,u,rfl,e⟩
  ·exact nomatch e
  ·injection e with e1 _
   subst e1
   cases v<;>rfl
end L2
namespace L2
open PySem PySem.Spec PyProof.Rows
inductive V where
 | non | bl (b:Bool) | int (i:Int) | str (x:Str) | byt (b:Array UInt8) | flt (b:UInt64) | ref (a:Addr) | ty (n:String)
 deriving DecidableEq
def RelV:V->Value->Prop
 | .non,u=>u=Value.none
 | .bl b,u=>u=Value.bool b
 | .int i,u=>∃ t,u=Value.int i t
 | .str x,u=>∃ t,u=Value.str x t
 | .byt b,u=>∃ t,u=Value.bytes b t
 | .flt b,u=>∃ t,u=Value.float b t
 | .ref a,u=>u=Value.ref a
 | .ty n,u=>u=Value.type n
abbrev Vals:List V->List Value->Prop:=Paired RelV
theorem Vals.length {xs:List V}{us:List Value}(r:Vals xs us):xs.length=us.length:=Paired.length r
theorem Vals.get:∀ {xs:List V} {us:List Value} {i:Nat} {x:V},Vals xs us->xs[i]?=some x->∃ u,us[i]?=some u/\RelV x u
 | _,_,_,_,.nil,e=>by simp at e
 | _,_,0,_,.cons r _,e=>by simp at e;subst e;exact⟨_,rfl,r⟩
 | _,_,i+1,x,.cons _ t,e=>by
  obtain⟨u,h1,h2⟩:=Vals.get (i:=i) (x:=x) t (by simpa using e)
  exact⟨u,by simpa using h1,h2⟩
theorem Vals.set {x:V}{u:Value}(r:RelV x u):∀ {xs:List V} {us:List Value} (i:Nat),Vals xs us->Vals (xs.set i x) (us.set i u)
 | _,_,_,.nil=>.nil
 | _,_,0,.cons _ t=>.cons r t
 | _,_,i+1,.cons q t=>.cons q (Vals.set r i t)
theorem Vals.append:∀ {xs ys:List V} {us ws:List Value},Vals xs us->Vals ys ws->Vals (xs++ys) (us++ws)
 | _,_,_,_,.nil,s=>s
 | _,_,_,_,.cons r t,s=>.cons r (Vals.append t s)
theorem Vals.take:∀ {xs:List V} {us:List Value} (n:Nat),Vals xs us->Vals (xs.take n) (us.take n)
 | _,_,0,_=>.nil
 | _,_,_+1,.nil=>.nil
 | _,_,n+1,.cons r t=>.cons r (Vals.take n t)
theorem Vals.drop:∀ {xs:List V} {us:List Value} (n:Nat),Vals xs us->Vals (xs.drop n) (us.drop n)
 | _,_,0,r=>r
 | _,_,_+1,.nil=>.nil
 | _,_,n+1,.cons _ t=>Vals.drop n t
def RelO:Option V->Option Value->Prop
 | some v,some u=>RelV v u
 | none,none=>True
 | _,_=>False
def KV {κ:Type}:List (κ×V)->List (κ×Value)->Prop:=Paired λ(p:κ×V) (q:κ×Value)=>p.1=q.1/\RelV p.2 q.2
def kV:Key->V
 | .inl i=>.int i
 | .inr x=>.str x
inductive HO where
  | lst (xs:List V)
  | tup (xs:List V)
  | dK (kvs:List (Key×V)) | dT (kvs:List (List Key×V))
  | set (S:Int->Bool) (n:Nat)
  | ins (C dx:Addr) (fs:List (Str×V))
  | own (x:Addr)
  | xd (fs:List (Str×V))
  | met (f x:Addr)
  | rng (lo hi:Int)
  | frz (o:Obj) (u:HO)
  | tbl (ps:Array Value)
  | ext (φ:Heap->Prop)
abbrev Hp:=Addr->Option HO
def upd (H:Hp)(a:Addr)(o:HO):Hp:=λb=>if b=a then some o else H b
theorem upd_same {H:Hp}{a:Addr}{o:HO}:upd H a o a=some o:=by unfold upd;rw[if_pos rfl]
theorem upd_ne {H:Hp}{a b:Addr}{o:HO}(h:b≠a):upd H a o b=H b:=by unfold upd;rw[if_neg h]
theorem ne_of_none {H:Hp}{a b:Addr}{o:HO}(h:H a=some o)(h':H b=none):a≠b:=by
 intro e;subst e;rw[h] at h';cases h'
section
variable (P:Program)(w:World)
def ObjOk (H:Hp)(h:Heap)(a:Addr):HO->Prop
 | .lst xs=>xs.length<=sizeLine/\∃ (its:List Value) (n:Nat),Vals xs its/\h.get? a=some { cls:=.type "list",data:=.seq its.toArray n }
 | .tup xs=>xs.length<=sizeLine/\∃ its:List Value,Vals xs its/\IsTup h a its.toArray
 | .dK kvs=>kvs.length<=sizeLine/\(a == sysModules)=false/\∃ vs,KV kvs vs/\h.DictOf (mixKind P w) a vs
 | .dT kvs=>kvs.length<=sizeLine/\(a == sysModules)=false/\∃ xs:List (List Key×Addr×Value),
   Paired (λ(p:List Key×V) (q:List Key×Addr×Value)=>p.1=q.1/\H q.2.1=some (.tup (p.1.map kV))/\RelV p.2 q.2.2) kvs xs /\
   ∃ o es ep,h.get? a=some o/\o.ExactDict/\o.data=.dict es ep/\es.toList=xs.map (entryOfKey (tupleKind (mixKind P w)))/\(xs.map (·.1)).Nodup
 | .set S n=>h.SetOf (intKind P w) a S n
 | .ins C dx fs=>H dx=some (.own a)/\fs.length<=1000/\dx≠a/\h.get? a=some (W.instObj C dx) /\
   ∃ mA,h.Ns1 dx mA/\(∀ f,RelO (fs.lookup f) (mA f))/\PySem.Within mA (fs.map (·.1))
 | .own _=>∃ o,h.get? a=some o
 | .xd fs=>∃ mA,h.Ns1 a mA/\∀ f,RelO (fs.lookup f) (mA f)
 | .rng lo hi=>∃ t u v,h.get? a=some { cls:=.type "range",data:=.fields #[.int lo t,.int hi u,.int 1 v] }
 | .frz o u=>h.get? a=some o/\ObjOk H h a u
 | .tbl ps=>h.get? a=some { cls:=.none,data:=.fields ps }
 | .met f x=>h.get? a=some (W.methodObj (.ref f) (.ref x))
 | .ext φ=>φ h/\(∃ o,h.get? a=some o)/\∀ h1 h2:Heap,φ h1->(∀ o,h1.get? a=some o->h2.get? a=some o)->φ h2
def HOk (H:Hp)(h:Heap):Prop:=∀ a o,H a=some o->ObjOk P w H h a o
end
section
variable {P:Program}{w:World}{H H':Hp}{h h':Heap}{a:Addr}{o:HO}
theorem ObjOk.lt (x:ObjOk P w H h a o):a<h.objs.size:=by
 cases o with
 | lst xs=>obtain⟨_,_,_,_,e⟩:=x;exact Heap.lt_size e
 | tup xs=>obtain⟨_,_,_,p⟩:=x;exact p.lt
 | dK kvs=>obtain⟨_,_,_,_,o,_,_,e,_⟩:=x;exact Heap.lt_size e
 | dT kvs=>obtain⟨_,_,_,_,o,_,_,e,_⟩:=x;exact Heap.lt_size e
 | set S n=>obtain⟨o,_,_,_,e,_⟩:=x;exact Heap.lt_size e
 | ins C dx fs=>obtain⟨_,_,_,e,_⟩:=x;exact Heap.lt_size e
 | own y=>obtain⟨_,e⟩:=x;exact Heap.lt_size e
 | xd fs=>obtain⟨_,⟨_,_,_,e,_⟩,_⟩:=x;exact Heap.lt_size e
 | rng lo hi=>obtain⟨_,_,_,e⟩:=x;exact Heap.lt_size e
 | frz ob u=>obtain⟨e,_⟩:=x;exact Heap.lt_size e
 | tbl ps=>exact Heap.lt_size (show h.get? a=some _ from x)
 | met f y=>exact Heap.lt_size (show h.get? a=some _ from x)
 | ext φ=>obtain⟨_,⟨_,e⟩,_⟩:=x;exact Heap.lt_size e
theorem Paired.mapP {α β:Type}{F G:α->β->Prop}:∀ {l₁:List α} {l₂:List β},Paired F l₁ l₂->(∀ a b,F a b->G a b)->Paired G l₁ l₂
 | _,_,.nil,_=>.nil
 | _,_,.cons r t,f=>.cons (f _ _ r) (Paired.mapP t f)
theorem ObjOk.stay (x:ObjOk P w H h a o)(k:∀ b u,(b=a\/H b=some (.own a))->h.get? b=some u->h'.get? b=some u)
  (ho:∀ b,H b=some (.own a)->H' b=some (.own a)) (ht:∀ b xs,H b=some (.tup xs)->H' b=some (.tup xs)):ObjOk P w H' h' a o:=by
 induction o with
 | lst xs=>obtain⟨z,its,n,r,e⟩:=x;exact⟨z,its,n,r,k _ _ (.inl rfl) e⟩
 | tup xs=>obtain⟨z,its,r,ob,e,c⟩:=x;exact⟨z,its,r,ob,k _ _ (.inl rfl) e,c⟩
 | dK kvs=>obtain⟨z,y,vs,r,ob,es,ep,e,c⟩:=x;exact⟨z,y,vs,r,ob,es,ep,k _ _ (.inl rfl) e,c⟩
 | dT kvs =>
  obtain⟨z,y,xs,r,ob,es,ep,e,c⟩:=x
  exact⟨z,y,xs,Paired.mapP r λp q z=>⟨z.1,ht _ _ z.2.1,z.2.2⟩,ob,es,ep,k _ _ (.inl rfl) e,c⟩
 | set S n=>obtain⟨ob,es,ep,t,e,c⟩:=x;exact⟨ob,es,ep,t,k _ _ (.inl rfl) e,c⟩
 | ins C dx fs =>
  obtain⟨d,z,ne,e,mA,⟨od,es,ep,e2,c⟩,r⟩:=x
  exact⟨ho _ d,z,ne,k _ _ (.inl rfl) e,mA,⟨od,es,ep,k _ _ (.inr d) e2,c⟩,r⟩
 | own y=>obtain⟨ob,e⟩:=x;exact⟨ob,k _ _ (.inl rfl) e⟩
 | xd fs=>obtain⟨mA,⟨od,es,ep,e,c⟩,r⟩:=x;exact⟨mA,⟨od,es,ep,k _ _ (.inl rfl) e,c⟩,r⟩
 | rng lo hi=>obtain⟨t,u,v,e⟩:=x;exact⟨t,u,v,k _ _ (.inl rfl) e⟩
 | frz ob u ih=>obtain⟨e,q⟩:=x;exact⟨k _ _ (.inl rfl) e,ih q⟩
 | tbl ps =>
  have e:h.get? a=some { cls:=.none,data:=.fields ps }:=x
  show h'.get? a=some { cls:=.none,data:=.fields ps }
  exact k a _ (.inl rfl) e
 | met f y =>
  have e:h.get? a=some (W.methodObj (.ref f) (.ref y)):=x
  show h'.get? a=some (W.methodObj (.ref f) (.ref y))
  exact k a _ (.inl rfl) e
 | ext φ=>obtain⟨p,⟨o,e⟩,st⟩:=x;exact⟨st _ _ p λo q=>k _ _ (.inl rfl) q,⟨o,k _ _ (.inl rfl) e⟩,st⟩
theorem HOk.lt (x:HOk P w H h)(e:H a=some o):a<h.objs.size:=(x a o e).lt
theorem HOk.fresh (x:HOk P w H h)(e:h.objs.size<=a):H a=none:=by
 cases q:H a with
 | none=>rfl
 | some u=>exact absurd (Nat.lt_of_lt_of_le (x.lt q) e) (Nat.lt_irrefl _)
theorem HOk.kept (x:HOk P w H h)(k:∀ b u,h.get? b=some u->h'.get? b=some u):HOk P w H h':=λa o e =>
 (x a o e).stay (λb u _ q=>k b u q) (λ_ q=>q) λ_ _ q=>q
theorem HOk.laid (x:HOk P w H h)(k:∀ b u,h.get? b=some u->h'.get? b=some u)(hp:h.objs.size<=a)(new:ObjOk P w (upd H a o) h' a o):HOk P w (upd H a o) h':=λb u e=>by
 have hn:=x.fresh hp
 by_cases hb:b=a
 ·subst hb;rw[upd_same] at e;cases e;exact new
 ·rw[upd_ne hb] at e
  exact(x b u e).stay (λc v _ q=>k c v q) (λc q=>by rw[upd_ne (ne_of_none q hn)];exact q) λc xs q=>by rw[upd_ne (ne_of_none q hn)];exact q
end
def Rd (H:Hp)(a:Addr)(u:HO):Prop:=H a=some u\/∃ o,H a=some (.frz o u)
theorem Rd.ok {P:Program}{w:World}{H:Hp}{h:Heap}{a:Addr}{u:HO}(r:Rd H a u)(x:HOk P w H h):ObjOk P w H h a u:=by
 rcases r with r | ⟨o,r⟩
 ·exact x a u r
 ·obtain⟨_,q⟩:=x a _ r
  exact q
def Mut:Option HO->Prop
 | some (.lst _)=>True
 | some (.dK _)=>True
 | some (.dT _)=>True
 | some (.set _ _)=>True
 | some (.ins _ _ _)=>True
 | some (.ext _)=>True
 | _=>False
section
variable {P:Program}{w:World}{H:Hp}{h h':Heap}{x e:Addr}{o':HO}
theorem HOk.write (ok:HOk P w H h)(mu:Mut (H x))(he:e=x\/H e=some (.own x))(k:∀ b u,b≠e->h.get? b=some u->h'.get? b=some u)(heo:∃ u,h'.get? e=some u)
  (new:ObjOk P w (upd H x o') h' x o'):HOk P w (upd H x o') h':=λb u q=>by
 have nown:∀ c y,H c=some (.own y)->c≠x:=λc y r z=>by subst z;rw[r] at mu;exact mu
 have ntup:∀ c xs,H c=some (.tup xs)->c≠x:=λc xs r z=>by subst z;rw[r] at mu;exact mu
 by_cases hb:b=x
 ·subst hb;rw[upd_same] at q;cases q;exact new
 ·rw[upd_ne hb] at q
  by_cases hbe:b=e
  ·have q':H b=some (.own x):=by
    rcases he with z | z
    ·exact absurd (hbe.trans z) hb
    ·rw[hbe];exact z
   rw[q] at q';cases q'
   obtain⟨v,hv⟩:=heo
   exact⟨v,by rw[hbe];exact hv⟩
  ·refine(ok b u q).stay (λc v hc r=>k c v ?_ r) (λc r=>by rw[upd_ne (nown c b r)];exact r) λc xs r=>by rw[upd_ne (ntup c xs r)];exact r
   rcases hc with rfl | hc
   ·exact hbe
   ·rintro rfl
    rcases he with z | z
    ·exact nown c b hc z
    ·rw[hc] at z;cases z;exact hb rfl
end
structure Un (fs ex:List Addr)(H H':Hp)(h h':Heap):Prop where
 keep:∀ b o,h.get? b=some o->H b=none->b∉fs->b∉ex->h'.get? b=some o
 slot:∀ b o,h.get? b=some o->H b=none->b∈fs->b∉ex->∃ sl,h'.get? b=some { o with slots:=sl }
 free:∀ b o,h.get? b=some o->H b=none->b∉ex->H' b=none
 there:∀ b o,h.get? b=some o->b∉ex->∃ o',h'.get? b=some o'
 tups:∀ b xs,H b=some (.tup xs)->H' b=some (.tup xs)
 frzs:∀ b o u,H b=some (.frz o u)->H' b=some (.frz o u)
 tbls:∀ b ps,H b=some (.tbl ps)->∃ more,H' b=some (.tbl (ps++more))
section
variable {fs fs' ex ex':List Addr}{H H1 H2:Hp}{h h1 h2 h':Heap}{a x e:Addr}{o:HO}
theorem Un.any (u:Un fs ex H H1 h h1){b:Addr}{ob:Obj}(q:h.get? b=some ob)(n:H b=none)(hx:b∉ex):∃ sl,h1.get? b=some { ob with slots:=sl }:=by
 by_cases hb:b∈fs
 ·exact u.slot b ob q n hb hx
 ·exact⟨ob.slots,u.keep b ob q n hb hx⟩
theorem Un.trans (a:Un fs ex H H1 h h1)(b:Un fs ex H1 H2 h1 h2):Un fs ex H H2 h h2 where
 keep:=λc ob q n hc hx=>b.keep c ob (a.keep c ob q n hc hx) (a.free c ob q n hx) hc hx
 slot:=λc ob q n hc hx=>by
  obtain⟨sl,e1⟩:=a.slot c ob q n hc hx
  obtain⟨sl',e2⟩:=b.slot c _ e1 (a.free c ob q n hx) hc hx
  exact⟨sl',e2⟩
 free:=λc ob q n hx=>by
  obtain⟨o',e1⟩:=a.there c ob q hx
  exact b.free c o' e1 (a.free c ob q n hx) hx
 there:=λc ob q hx=>by
  obtain⟨o',e1⟩:=a.there c ob q hx
  exact b.there c o' e1 hx
 tups:=λc xs q=>b.tups c xs (a.tups c xs q)
 frzs:=λc ob xs q=>b.frzs c ob xs (a.frzs c ob xs q)
 tbls:=λc ps q=>by
  obtain⟨m1,e1⟩:=a.tbls c ps q
  obtain⟨m2,e2⟩:=b.tbls c _ e1
  exact⟨m1++m2,by rw[e2,Array.append_assoc]⟩
theorem Un.kept (k:∀ b u,h.get? b=some u->h'.get? b=some u):Un fs ex H H h h' :=
 ⟨λb ob q _ _ _=>k b ob q,λb ob q _ _ _=>⟨ob.slots,k b ob q⟩,λ_ _ _ n _=>n,λb ob q _=>⟨ob,k b ob q⟩,λ_ _ q=>q,λ_ _ _ q=>q,λ_ ps q=>⟨#[],by rw[q];simp⟩⟩
theorem Un.refl:Un fs ex H H h h:=Un.kept λ_ _ q=>q
theorem Un.laid (k:∀ b u,h.get? b=some u->h'.get? b=some u)(hp:h.objs.size<=a)(hn:H a=none):Un fs ex H (upd H a o) h h' where
 keep:=λb u q _ _ _=>k b u q
 slot:=λb u q _ _ _=>⟨u.slots,k b u q⟩
 free:=λb u q n _=>by rw[upd_ne (Nat.ne_of_lt (Nat.lt_of_lt_of_le (Heap.lt_size q) hp))];exact n
 there:=λb u q _=>⟨u,k b u q⟩
 tups:=λb xs q=>by rw[upd_ne (ne_of_none q hn)];exact q
 frzs:=λb u xs q=>by rw[upd_ne (ne_of_none q hn)];exact q
 tbls:=λb ps q=>⟨#[],by rw[upd_ne (ne_of_none q hn),q];simp⟩
theorem Un.write (mu:Mut (H x))(he:e=x\/H e=some (.own x))(k:∀ b u,b≠e->h.get? b=some u->h'.get? b=some u)(heo:∃ u,h'.get? e=some u):Un fs ex H (upd H x o) h h':=by
 have hx:∀ b,H b=none->b≠x:=λb n z=>by subst z;rw[n] at mu;exact mu
 have hb:∀ b,H b=none->b≠e:=λb n z=>by
  subst z
  rcases he with r | r
  ·exact hx b n r
  ·rw[n] at r;cases r
 have hm:∀ b u,H b=some u->¬ Mut (some u)->b≠x:=λb u q nm z=>by subst z;rw[q] at mu;exact nm mu
 refine⟨λb u q n _ _=>k b u (hb b n) q,λb u q n _ _=>⟨u.slots,k b u (hb b n) q⟩,λb u q n _=>by rw[upd_ne (hx b n)];exact n,λb u q _=>?_,
  λb xs q=>by rw[upd_ne (hm b _ q λz=>z)];exact q,λb u xs q=>by rw[upd_ne (hm b _ q λz=>z)];exact q,λb ps q=>⟨#[],by rw[upd_ne (hm b _ q λz=>z),q];simp⟩⟩
 by_cases hbe:b=e
 ·subst hbe;exact heo
 ·exact⟨u,k b u hbe q⟩
end
def trk (h:Heap)(H:Hp):List Addr:=(List.range h.objs.size).filter λa=>(H a).isSome
def hidT (h:Heap)(H:Hp):Heap:=W.hideAll h (trk h H)
theorem hidT_size (h:Heap)(H:Hp):(hidT h H).objs.size=h.objs.size:=W.hideAll_size _ _
theorem hidT_get {h:Heap}{H:Hp}{b:Addr}{o:Obj}(e:h.get? b=some o)(n:H b=none):(hidT h H).get? b=some o :=
 W.hideAll_get _ e λhm=>by
  have q:(H b).isSome=true:=(List.mem_filter.mp hm).2
  rw[n] at q;simp at q
theorem of_hidT {h:Heap}{H:Hp}{b:Addr}{o:Obj}(e:(hidT h H).get? b=some o):h.get? b=some o/\H b=none:=by
 have e':h.get? b=some o:=W.of_hideAll (trk h H) e
 refine⟨e',?_⟩
 cases q:H b with
 | none=>rfl
 | some x =>
  have hm:b∈trk h H:=List.mem_filter.mpr ⟨List.mem_range.mpr (Heap.lt_size e'),by simp[q]⟩
  have z:(hidT h H).get? b=none:=W.hideAll_none (trk h H) hm
  rw[z] at e;cases e
end L2
namespace L2
open PySem PySem.Spec PyProof.Rows
structure Mod (K:W.Frag)(mg:Str->Option Value)(base:Heap):Prop where
 kin:K.In base
 glob:base.Ns mainGlobals mg
 blt:∃ mb,base.Ns builtinsNs mb/\∀ x:Str,x≠"__name__"->mb x=bootBuiltins x
 nolimit:base.NoLimit
structure Cx where
 prog:Program
 w:World
 K:W.Frag
 mg:Str->Option Value
 base:Heap
 A:Around
 N:List Str
 s₀:Shared
 H₀:Hp
 env:Env
 outer:List Env
 stack:List Env
 ex:List Addr
 fn:Str->Bool
 calm:Bool
 pn:List (Addr×Obj)
 xe:Value->Shared->Prop
def frs (l:List Env):List Addr:=l.filterMap (·.frame)
abbrev Cx.fs (X:Cx):List Addr:=frs X.outer
def Vis (sc:Scope)(x:Str):Prop:=sc.names.lookup x=some .local\/sc.names.lookup x=some .cell\/sc.names.lookup x=some .free
def Loc (sc:Scope)(x:Str):Prop:=sc.names.lookup x=some .local\/sc.names.lookup x=some .cell
def Look (env:Env)(h:Heap)(m:Str->Option Value)(x:Str)(u:Value):Prop :=
 (env.kindOf x=some .local/\m x=some u)\/((env.kindOf x=some .cell\/env.kindOf x=some .free)/\∃ c,env.cells.lookup x=some c/\h.IsCell c (some u))
structure Cx.Ok (X:Cx):Prop where
 mod:Mod X.K X.mg X.base
 kind:X.env.scope.kind=.function
 glob:X.env.globals=mainGlobals
 blt:X.env.builtins=builtinsNs
 above:X.s₀.heap.objs.size<=X.env.locals
 inj:∀ x y c,X.env.cells.lookup x=some c->X.env.cells.lookup y=some c->x=y
 has:∀ x,(X.env.kindOf x=some .cell\/X.env.kindOf x=some .free)->∃ c,X.env.cells.lookup x=some c
 cab:∀ x c,X.fn x=true->X.env.cells.lookup x=some c->X.s₀.heap.objs.size<=c
 hd:X.calm=true->X.A.handled=none
 frames:X.A.frames=some X.stack
 stk:X.stack=X.outer\/(X.stack=X.env::X.outer/\X.env.frame=some X.env.locals)
 exf:∀ b∈X.ex,b≠X.env.locals/\∀ x c,X.env.cells.lookup x=some c->c≠b
 bs:∀ b o,X.base.get? b=some o->X.s₀.heap.get? b=some o/\X.H₀ b=none
 bsz:X.base.objs.size<=X.s₀.heap.objs.size
 noex:∀ b o,X.base.get? b=some o->b∉X.ex
 exfs:∀ b∈X.ex,b∉X.fs
 funs:X.s₀.heap.FunFrames X.base X.outer
 frf:∀ b∈X.fs,X.H₀ b=none
structure Inv (X:Cx)(pins:List (Addr×Obj))(σ:List (Option V))(H:Hp)(s:Shared):Prop where
 ok:X.Ok
 os:s.os=X.s₀.os
 bare:AllBare s.gens
 base:Un X.fs X.ex X.H₀ H X.s₀.heap s.heap
 loc:∃ m,s.heap.Ns X.env.locals m/\∀ (i:Nat) (x:Str) (v:V),X.N[i]?=some x->σ[i]?=some (some v)->Vis X.env.scope x->∃ u,RelV v u/\Look X.env s.heap m x u
 cell:∀ x c,X.env.cells.lookup x=some c->∃ v,s.heap.IsCell c v
 free:H X.env.locals=none
 freeC:∀ x c,X.env.cells.lookup x=some c->H c=none
 pin:∀ p∈X.pn++pins,s.heap.get? p.1=some p.2/\H p.1=none/\p.1≠X.env.locals/\p.1∉X.fs/\∀ v,p.2.data≠.cell v
 hok:HOk X.prog X.w H s.heap
 len:σ.length=X.N.length
section
variable {X:Cx}{pins:List (Addr×Obj)}{σ:List (Option V)}{H H':Hp}{s:Shared}{h':Heap}
theorem Cx.Ok.nofr (ok:X.Ok){b:Addr}{o:Obj}(e:X.base.get? b=some o):b∉X.fs:=λhb=>by
 have:=(ok.funs.mem hb).1
 rw[e] at this;cases this
theorem Inv.bs (I:Inv X pins σ H s):∀ b o,X.base.get? b=some o->s.heap.get? b=some o/\H b=none:=λb o e =>
 ⟨I.base.keep b o (I.ok.bs b o e).1 (I.ok.bs b o e).2 (I.ok.nofr e) (I.ok.noex b o e),I.base.free b o (I.ok.bs b o e).1 (I.ok.bs b o e).2 (I.ok.noex b o e)⟩
theorem Inv.bk (I:Inv X pins σ H s):∀ b o,X.base.get? b=some o->s.heap.get? b=some o:=λb o e=>(I.bs b o e).1
theorem Inv.mod (I:Inv X pins σ H s):Mod X.K X.mg X.base:=I.ok.mod
theorem Inv.kIn (I:Inv X pins σ H s):X.K.In s.heap:=I.ok.mod.kin.keeps I.bk
theorem Inv.lt (I:Inv X pins σ H s):X.env.locals<s.heap.objs.size:=let ⟨_,hn,_⟩:=I.loc;hn.lt
theorem Inv.sz (I:Inv X pins σ H s):X.s₀.heap.objs.size<=s.heap.objs.size:=Nat.le_trans I.ok.above (Nat.le_of_lt I.lt)
theorem Inv.nofs (I:Inv X pins σ H s){a:Addr}(h:s.heap.objs.size<=a):a∉X.fs:=λhb=>by
 obtain⟨_,o,ho,_⟩:=I.ok.funs.mem hb
 exact absurd (Nat.lt_of_lt_of_le (Heap.lt_size ho) (Nat.le_trans I.sz h)) (Nat.lt_irrefl _)
theorem Inv.cne (I:Inv X pins σ H s):∀ x c,X.env.cells.lookup x=some c->c≠X.env.locals:=λx c e z=>by
 obtain⟨v,o,ho,hd⟩:=I.cell x c e
 obtain⟨m,⟨o',es,ep,ho',hd',_⟩,_⟩:=I.loc
 rw[z,ho'] at ho;cases ho;rw[hd'] at hd;cases hd
theorem Inv.funs (I:Inv X pins σ H s):s.heap.FunFrames X.base X.outer:=by
 have all:∀ (l:List Env),(∀ b∈frs l,b∈X.fs)->X.s₀.heap.FunFrames X.base l->s.heap.FunFrames X.base l:=by
  intro l
  induction l with
  | nil=>intro _ _;trivial
  | cons env r ih =>
   intro hs hl
   obtain⟨hk,⟨L,o,hf,hn,ho,hd⟩,hr⟩:=hl
   have hL:L∈X.fs:=hs L (by unfold frs;rw[List.filterMap_cons,hf];exact List.mem_cons_self)
   obtain⟨sl,e⟩:=I.base.slot L o ho (I.ok.frf L hL) hL λz=>I.ok.exfs L z hL
   exact⟨hk,⟨L,_,hf,hn,e,hd⟩,ih (λb hb=>hs b (by unfold frs;rw[List.filterMap_cons,hf];exact List.mem_cons_of_mem _ hb)) hr⟩
 exact all X.outer (λ_ hb=>hb) I.ok.funs
theorem Inv.stack (I:Inv X pins σ H s):s.heap.FunFrames X.base X.stack:=by
 rcases I.ok.stk with e | ⟨e,hf⟩
 ·rw[e];exact I.funs
 ·rw[e]
  obtain⟨m,hn,_⟩:=I.loc
  refine .cons (by rw[I.ok.kind];decide) hf hn ?_ I.funs
  exact Heap.get?_none_of_le (Nat.le_trans I.ok.bsz I.ok.above)
theorem Inv.stkSub (I:Inv X pins σ H s):∀ b∈frs X.stack,b∈X.env.locals::X.fs:=λb hb=>by
 rcases I.ok.stk with e | ⟨e,hf⟩
 ·rw[e] at hb;exact List.mem_cons_of_mem _ hb
 ·rw[e] at hb
  unfold frs at hb
  rw[List.filterMap_cons,hf] at hb
  exact hb
theorem Inv.stkFree (I:Inv X pins σ H s):∀ b∈frs X.stack,H b=none:=λb hb=>by
 rcases List.mem_cons.mp (I.stkSub b hb) with e | hb
 ·rw[e];exact I.free
 ·obtain⟨_,o,ho,_⟩:=I.ok.funs.mem hb
  exact I.base.free b o ho (I.ok.frf b hb) λz=>I.ok.exfs b z hb
theorem Inv.step {g':Array GenState}{t':Nat}{d':Drawn}{ch:List Addr}(I:Inv X pins σ H s)
  (hch:∀ b∈ch,(b∈X.ex\/X.s₀.heap.objs.size<=b)/\b≠X.env.locals/\(∀ x c,X.env.cells.lookup x=some c->c≠b)/\∀ p∈X.pn++pins,p.1≠b)
  (keep:∀ b o,b≠X.env.locals->b∉X.fs->b∉ch->s.heap.get? b=some o->H b=none->h'.get? b=some o)
  (slot:∀ b o,b≠X.env.locals->b∈X.fs->b∉ch->s.heap.get? b=some o->H b=none->∃ sl,h'.get? b=some { o with slots:=sl }) (free:∀ b o,b∉ch->s.heap.get? b=some o->H b=none->H' b=none)
  (there:∀ b o,b∉ch->s.heap.get? b=some o->∃ o',h'.get? b=some o')
  (tups:∀ b xs,H b=some (.tup xs)->H' b=some (.tup xs)) (frzs:∀ b o u,H b=some (.frz o u)->H' b=some (.frz o u)) (tbls:∀ b ps,H b=some (.tbl ps)->∃ more,H' b=some (.tbl (ps++more)))
  (ns:∀ m,s.heap.Ns X.env.locals m->h'.Ns X.env.locals m) (hok:HOk X.prog X.w H' h') (hg:AllBare g') :
  Inv X pins σ H' { s with heap:=h',gens:=g',drawn:=d',toks:=t' }:=by
 have neL:∀ b o,X.s₀.heap.get? b=some o->b≠X.env.locals:=λb o e=>Nat.ne_of_lt (Nat.lt_of_lt_of_le (Heap.lt_size e) I.ok.above)
 have neC:∀ b o,X.s₀.heap.get? b=some o->b∉X.ex->b∉ch:=λb o e hx hb=>by
  rcases (hch b hb).1 with z | z
  ·exact hx z
  ·exact absurd (Nat.lt_of_lt_of_le (Heap.lt_size e) z) (Nat.lt_irrefl _)
 have cellK:∀ x c,X.env.cells.lookup x=some c->∀ v,s.heap.IsCell c v->h'.IsCell c v:=λx c e v ⟨o,ho,hd⟩=>by
  have nch:c∉ch:=λz=>(hch c z).2.2.1 x c e rfl
  by_cases hc:c∈X.fs
  ·obtain⟨sl,q⟩:=slot c o (I.cne x c e) hc nch ho (I.freeC x c e)
   exact⟨_,q,hd⟩
  ·exact⟨o,keep c o (I.cne x c e) hc nch ho (I.freeC x c e),hd⟩
 refine⟨I.ok,I.os,hg,⟨λb o e n hb hx=>?_,λb o e n hb hx=>?_,λb o e n hx=>?_,λb o e hx=>?_,λb xs e=>tups b xs (I.base.tups b xs e),λb o xs e=>frzs b o xs (I.base.frzs b o xs e),λb ps e=>?_⟩,?_,λx c e=>?_,?_,λx c e=>?_,λp hp=>?_,hok,I.len⟩
 ·exact keep b o (neL b o e) hb (neC b o e hx) (I.base.keep b o e n hb hx) (I.base.free b o e n hx)
 ·obtain⟨sl,e1⟩:=I.base.slot b o e n hb hx
  obtain⟨sl',e2⟩:=slot b _ (neL b o e) hb (neC b o e hx) e1 (I.base.free b o e n hx)
  exact⟨sl',e2⟩
 ·obtain⟨o',e1⟩:=I.base.there b o e hx
  exact free b o' (neC b o e hx) e1 (I.base.free b o e n hx)
 ·obtain⟨o',e1⟩:=I.base.there b o e hx
  exact there b o' (neC b o e hx) e1
 ·obtain⟨m1,e1⟩:=I.base.tbls b ps e
  obtain⟨m2,e2⟩:=tbls b _ e1
  exact⟨m1++m2,by rw[e2,Array.append_assoc]⟩
 ·obtain⟨m,hn,hl⟩:=I.loc
  refine⟨m,ns m hn,λi x v e1 e2 e3=>?_⟩
  obtain⟨u,r,l⟩:=hl i x v e1 e2 e3
  refine⟨u,r,?_⟩
  rcases l with l | ⟨k,c,e,z⟩
  ·exact .inl l
  ·exact .inr ⟨k,c,e,cellK x c e _ z⟩
 ·obtain⟨v,z⟩:=I.cell x c e
  exact⟨v,cellK x c e v z⟩
 ·obtain⟨m,⟨o,_,_,ho,_⟩,_⟩:=I.loc
  exact free _ o (λz=>(hch _ z).2.1 rfl) ho I.free
 ·obtain⟨v,o,ho,hd⟩:=I.cell x c e
  exact free c o (λz=>(hch c z).2.2.1 x c e rfl) ho (I.freeC x c e)
 ·obtain⟨e,n,ne,nf,d⟩:=I.pin p hp
  have nch:p.1∉ch:=λz=>(hch p.1 z).2.2.2 p hp rfl
  exact⟨keep p.1 p.2 ne nf nch e n,free p.1 p.2 nch e n,ne,nf,d⟩
theorem Inv.un {t':Nat}(I:Inv X pins σ H s)(u:Un X.fs [] H H' s.heap h')(hok:HOk X.prog X.w H' h'):Inv X pins σ H' { s with heap:=h',toks:=t' }:=by
 obtain⟨m,⟨o,es,ep,ho,r⟩,_⟩:=id I.loc
 obtain⟨sl,hL⟩:=u.any ho I.free (by simp)
 exact I.step (g':=s.gens) (d':=s.drawn) (ch:=[]) (λ_ z=>nomatch z) (λb o _ hb _ e n=>u.keep b o e n hb (by simp)) (λb o _ hb _ e n=>u.slot b o e n hb (by simp)) (λb o _ e n=>u.free b o e n (by simp)) (λb o _ e=>u.there b o e (by simp)) u.tups u.frzs u.tbls (λm' hm=>by
  obtain⟨o',es',ep',ho',r'⟩:=hm
  rw[ho] at ho';cases ho'
  exact⟨_,es',ep',hL,r'⟩) hok I.bare
theorem Inv.call {g':Array GenState}{t':Nat}{d':Drawn}{ch:List Addr}(I:Inv X pins σ H s)(u:Un (frs X.stack) ch H H' s.heap h')(hok:HOk X.prog X.w H' h')(hg:AllBare g')
  (hch:∀ b∈ch,(b∈X.ex\/X.s₀.heap.objs.size<=b)/\b≠X.env.locals/\(∀ x c,X.env.cells.lookup x=some c->c≠b)/\∀ p∈X.pn++pins,p.1≠b) :
  Inv X pins σ H' { s with heap:=h',gens:=g',drawn:=d',toks:=t' }:=by
 obtain⟨m,⟨o,es,ep,ho,r⟩,_⟩:=id I.loc
 obtain⟨sl,hL⟩:=u.any ho I.free λz=>(hch _ z).2.1 rfl
 exact I.step (ch:=ch) hch (λb o hL hb hc e n=>u.keep b o e n (λz=>(List.mem_cons.mp (I.stkSub b z)).elim hL hb) hc) (λb o _ _ hc e n=>u.any e n hc) (λb o hc e n=>u.free b o e n hc) (λb o hc e=>u.there b o e hc) u.tups u.frzs u.tbls (λm' hm=>by
  obtain⟨o',es',ep',ho',r'⟩:=hm
  rw[ho] at ho';cases ho'
  exact⟨_,es',ep',hL,r'⟩) hok hg
theorem Inv.turned {t':Nat}{it:Addr}(I:Inv X pins σ H s)(k:∀ b o,b≠it->s.heap.get? b=some o->h'.get? b=some o)(hn:H it=none)(hL:it≠X.env.locals)
  (h1:it∈X.ex\/X.s₀.heap.objs.size<=it) (h2:∀ x c,X.env.cells.lookup x=some c->c≠it) (h3:∀ p∈X.pn++pins,p.1≠it):Inv X pins σ H { s with heap:=h',toks:=t' }:=by
 have nit:∀ b u,H b=some u->b≠it:=λb u e z=>by rw[z,hn] at e;cases e
 refine I.step (g':=s.gens) (d':=s.drawn) (ch:=[it]) (λb hb=>?_) (λb o _ _ hc e _=>k b o (λz=>hc (by simp[z])) e) (λb o _ _ hc e _=>⟨o.slots,k b o (λz=>hc (by simp[z])) e⟩) (λ_ _ _ _ n=>n)
  (λb o hc e=>⟨o,k b o (λz=>hc (by simp[z])) e⟩) (λ_ _ e=>e) (λ_ _ _ e=>e) (λb ps e=>⟨#[],by rw[e];simp⟩) (λm hm=>?_) (λb u e=>?_) I.bare
 ·have e:b=it:=by simpa using hb
  subst e
  exact⟨h1,hL,h2,h3⟩
 ·obtain⟨o,es,ep,ho,r⟩:=hm
  exact⟨o,es,ep,k _ o (Ne.symm hL) ho,r⟩
 ·refine(I.hok b u e).stay (λc v hc q=>k c v ?_ q) (λ_ q=>q) λ_ _ q=>q
  rcases hc with z | z
  ·rw[z];exact nit b u e
  ·exact nit c _ z
theorem Inv.tok (I:Inv X pins σ H s)(t:Nat):Inv X pins σ H { s with toks:=t }:=I.un (h':=s.heap) (t':=t) Un.refl I.hok
theorem Inv.kept {t':Nat}(I:Inv X pins σ H s)(k:∀ b u,s.heap.get? b=some u->h'.get? b=some u):Inv X pins σ H { s with heap:=h',toks:=t' }:=I.un (Un.kept k) (I.hok.kept k)
theorem Inv.laid {a:Addr}{o:HO}{t':Nat}(I:Inv X pins σ H s)(k:∀ b u,s.heap.get? b=some u->h'.get? b=some u)(hp:s.heap.objs.size<=a)(new:ObjOk X.prog X.w (upd H a o) h' a o) :
  Inv X pins σ (upd H a o) { s with heap:=h',toks:=t' }:=I.un (Un.laid k hp (I.hok.fresh hp)) (I.hok.laid k hp new)
theorem Inv.write {x e:Addr}{o:HO}{t':Nat}(I:Inv X pins σ H s)(mu:Mut (H x))(he:e=x\/H e=some (.own x))(k:∀ b u,b≠e->s.heap.get? b=some u->h'.get? b=some u)(heo:∃ u,h'.get? e=some u)
  (new:ObjOk X.prog X.w (upd H x o) h' x o):Inv X pins σ (upd H x o) { s with heap:=h',toks:=t' }:=I.un (Un.write mu he k heo) (I.hok.write mu he k heo new)
theorem Inv.pins_of {pins':List (Addr×Obj)}(I:Inv X pins σ H s)(h:∀ p∈pins',s.heap.get? p.1=some p.2/\H p.1=none/\p.1≠X.env.locals/\p.1∉X.fs/\∀ v,p.2.data≠.cell v):Inv X pins' σ H s :=
 ⟨I.ok,I.os,I.bare,I.base,I.loc,I.cell,I.free,I.freeC,λp hp=>(List.mem_append.mp hp).elim (λz=>I.pin p (List.mem_append_left _ z)) (h p),I.hok,I.len⟩
theorem nodup_ix {N:List Str}(hN:N.Nodup){i j:Nat}{x:Str}(a:N[i]?=some x)(b:N[j]?=some x):i=j:=by
 obtain⟨h1,e1⟩:=List.getElem?_eq_some_iff.mp a
 obtain⟨h2,e2⟩:=List.getElem?_eq_some_iff.mp b
 exact(List.getElem_inj hN).mp (e1.trans e2.symm)
theorem store_ok2 {M:Model}{A:Around}{E:Value->Shared->Prop}{i:Nat}{x:Str}{v:V}{u:Value}{Q:Unit->Shared->Prop}(I:Inv X pins σ H s)(hN:X.N.Nodup)(hi:X.N[i]?=some x)(hx:Loc X.env.scope x)(r:RelV v u)
  (h:∀ s',Inv X pins (σ.set i (some v)) H s'->(∃ a,Heap.SameBut a s.heap s'.heap/\(a=X.env.locals\/X.env.cells.lookup x=some a))->Q () s') (hf:X.fn x=true\/X.env.scope.names.lookup x=some .local:=by first | exact .inl rfl | exact .inr rfl | assumption):wpAny M A (storeName X.env x u) Q E s:=by
 obtain⟨m,hn,hl⟩:=id I.loc
 have hcls:(X.env.scope.kind == .class || (X.env.scope.kind == .module&&X.env.locals != X.env.globals))=false:=by rw[I.ok.kind];rfl
 have hiσ:i<σ.length:=by rw[I.len];exact(List.getElem?_eq_some_iff.mp hi).1
 have cne:=I.cne
 have tracked:∀ {a:Addr} {h':Heap},(∃ o,s.heap.get? a=some o/\H a=none)->Heap.SameBut a s.heap h'->HOk X.prog X.w H h':=λ{a h'} ha hs b ob e=>by
  obtain⟨_,_,hfree⟩:=ha
  refine(I.hok b ob e).stay (λc w' hc q=>(hs.2 c ?_).trans q) (λ_ q=>q) λ_ _ q=>q
  rintro rfl
  rcases hc with rfl | hc
  ·rw[hfree] at e;cases e
  ·rw[hfree] at hc;cases hc
 rcases hx with hk | hk
 ·refine wpAny_storeName_local hk hn (λh' hn' hs=>?_) hcls
  obtain⟨oL,_,_,hoL,_⟩:=id hn
  refine h _ ⟨I.ok,I.os,I.bare,⟨λb o e n hb hx=>?_,λb o e n hb hx=>?_,I.base.free,λb o e hx=>?_,I.base.tups,I.base.frzs,I.base.tbls⟩,⟨_,hn',λj y v' e1 e2 e3=>?_⟩,λy c e=>?_,I.free,I.freeC,λp hp=>?_,tracked ⟨oL,hoL,I.free⟩ hs,by simpa using I.len⟩ ⟨_,hs,.inl rfl⟩
  ·exact(hs.2 b (Nat.ne_of_lt (Nat.lt_of_lt_of_le (Heap.lt_size e) I.ok.above))).trans (I.base.keep b o e n hb hx)
  ·obtain⟨sl,e1⟩:=I.base.slot b o e n hb hx
   exact⟨sl,(hs.2 b (Nat.ne_of_lt (Nat.lt_of_lt_of_le (Heap.lt_size e) I.ok.above))).trans e1⟩
  ·obtain⟨o',e1⟩:=I.base.there b o e hx
   exact⟨o',(hs.2 b (Nat.ne_of_lt (Nat.lt_of_lt_of_le (Heap.lt_size e) I.ok.above))).trans e1⟩
  ·by_cases hj:j=i
   ·subst hj
    rw[hi] at e1;cases e1
    rw[List.getElem?_set_self hiσ] at e2
    cases e2
    exact⟨u,r,.inl ⟨hk,by simp⟩⟩
   ·rw[List.getElem?_set_ne (Ne.symm hj)] at e2
    obtain⟨u',r',q⟩:=hl j y v' e1 e2 e3
    refine⟨u',r',?_⟩
    rcases q with ⟨k,e⟩ | ⟨k,c,e,z⟩
    ·refine .inl ⟨k,?_⟩
     have:y≠x:=λe=>hj (nodup_ix hN e1 (e▸hi))
     simp[this,e]
    ·exact .inr ⟨k,c,e,z.sameBut hs (cne y c e)⟩
  ·obtain⟨w',z⟩:=I.cell y c e
   exact⟨w',z.sameBut hs (cne y c e)⟩
  ·obtain⟨e,n,ne,nf,d⟩:=I.pin p hp
   exact⟨(hs.2 p.1 ne).trans e,n,ne,nf,d⟩
 ·have hfn:X.fn x=true:=by
   rcases hf with z | z
   ·exact z
   ·rw[z] at hk;cases hk
  obtain⟨c,hc⟩:=I.ok.has x (.inl hk)
  obtain⟨w',z⟩:=I.cell x c hc
  refine wpAny_storeName_cell I.ok.kind hk hc z (λh' hc' hs=>?_)
  obtain⟨oc,hoc,hocd⟩:=id z
  refine h { s with heap:=h' } ⟨I.ok,I.os,I.bare,⟨λb o e n hb hx=>?_,λb o e n hb hx=>?_,I.base.free,λb o e hx=>?_,I.base.tups,I.base.frzs,I.base.tbls⟩,⟨m,hn.sameBut hs (Ne.symm (cne x c hc)),λj y v' e1 e2 e3=>?_⟩,λy c' e=>?_,I.free,I.freeC,λp hp=>?_,tracked ⟨oc,hoc,I.freeC x c hc⟩ hs,by simpa using I.len⟩ ⟨c,hs,.inr hc⟩
  ·exact(hs.2 b (Nat.ne_of_lt (Nat.lt_of_lt_of_le (Heap.lt_size e) (I.ok.cab x c hfn hc)))).trans (I.base.keep b o e n hb hx)
  ·obtain⟨sl,e1⟩:=I.base.slot b o e n hb hx
   exact⟨sl,(hs.2 b (Nat.ne_of_lt (Nat.lt_of_lt_of_le (Heap.lt_size e) (I.ok.cab x c hfn hc)))).trans e1⟩
  ·obtain⟨o',e1⟩:=I.base.there b o e hx
   exact⟨o',(hs.2 b (Nat.ne_of_lt (Nat.lt_of_lt_of_le (Heap.lt_size e) (I.ok.cab x c hfn hc)))).trans e1⟩
  ·by_cases hj:j=i
   ·subst hj
    rw[hi] at e1;cases e1
    rw[List.getElem?_set_self hiσ] at e2
    cases e2
    exact⟨u,r,.inr ⟨.inl hk,c,hc,hc'⟩⟩
   ·rw[List.getElem?_set_ne (Ne.symm hj)] at e2
    obtain⟨u',r',q⟩:=hl j y v' e1 e2 e3
    refine⟨u',r',?_⟩
    rcases q with q | ⟨k,c',e,z'⟩
    ·exact .inl q
    ·refine .inr ⟨k,c',e,z'.sameBut hs ?_⟩
     rintro rfl
     exact hj (nodup_ix hN e1 (I.ok.inj _ _ _ e hc▸hi))
  ·by_cases hcc:c'=c
   ·subst hcc;exact⟨_,hc'⟩
   ·obtain⟨w2,z2⟩:=I.cell y c' e
    exact⟨w2,z2.sameBut hs hcc⟩
  ·obtain⟨e,n,ne,nf,d⟩:=I.pin p hp
   refine⟨(hs.2 p.1 ?_).trans e,n,ne,nf,d⟩
   intro q
   rw[q,hoc] at e
   have q':oc=p.2:=Option.some.inj e
   exact d w' (by rw[<- q'];exact hocd)
theorem store_ok {M:Model}{A:Around}{E:Value->Shared->Prop}{i:Nat}{x:Str}{v:V}{u:Value}{Q:Unit->Shared->Prop}(I:Inv X pins σ H s)(hN:X.N.Nodup)(hi:X.N[i]?=some x)(hx:Loc X.env.scope x)(r:RelV v u)
  (h:∀ s',Inv X pins (σ.set i (some v)) H s'->Q () s') (hf:X.fn x=true\/X.env.scope.names.lookup x=some .local:=by first | exact .inl rfl | exact .inr rfl | assumption):wpAny M A (storeName X.env x u) Q E s :=
 store_ok2 I hN hi hx r (λs' I' _=>h s' I') hf
theorem Inv.call' {s':Shared}{ch:List Addr}(I:Inv X pins σ H s)(ho:s'.os=s.os)(u:Un (frs X.stack) ch H H' s.heap s'.heap)(hok:HOk X.prog X.w H' s'.heap)(hg:AllBare s'.gens)
  (hch:∀ b∈ch,(b∈X.ex\/X.s₀.heap.objs.size<=b)/\b≠X.env.locals/\(∀ x c,X.env.cells.lookup x=some c->c≠b)/\∀ p∈X.pn++pins,p.1≠b):Inv X pins σ H' s':=by
 obtain⟨h',g',d',t',o'⟩:=s'
 have e:o'=s.os:=ho
 subst e
 exact I.call (g':=g') (t':=t') (d':=d') u hok hg hch
end
abbrev XK:=Value->Option Addr->Hp->Prop
abbrev St:=List (Option V)
abbrev VK:=V->Hp->Prop
abbrev TE:=St->Hp->VK->Prop
abbrev TT:=St->Hp->(Bool->Hp->Prop)->Prop
abbrev TA:=St->Hp->(List V->Hp->Prop)->Prop
structure Ends where
 nx:St->Hp->Prop
 rt:VK
 bk:St->Hp->Prop:=λ_ _=>False
 ct:St->Hp->Prop:=λ_ _=>False
abbrev TS:=Ends->St->Hp->Prop
def EP (X:Cx)(pins:List (Addr×Obj))(σ:St)(Q:VK)(u:Value)(s':Shared):Prop:=∃ v H',Inv X pins σ H' s'/\RelV v u/\Q v H'
def TP (X:Cx)(pins:List (Addr×Obj))(σ:St)(Q:Bool->Hp->Prop)(b:Bool)(s':Shared):Prop:=∃ H',Inv X pins σ H' s'/\Q b H'
def AP (X:Cx)(pins:List (Addr×Obj))(σ:St)(Q:List V->Hp->Prop)(us:List Value)(s':Shared):Prop:=∃ vs H',Inv X pins σ H' s'/\Vals vs us/\Q vs H'
def SP (X:Cx)(pins:List (Addr×Obj))(D:Ends)(f:Flow)(s':Shared):Prop :=
 match f with
 | .next=>∃ σ' H',Inv X pins σ' H' s'/\D.nx σ' H'
 | .brk=>∃ σ' H',Inv X pins σ' H' s'/\D.bk σ' H'
 | .cont=>∃ σ' H',Inv X pins σ' H' s'/\D.ct σ' H'
 | .ret u=>∃ v σ' H',Inv X pins σ' H' s'/\RelV v u/\D.rt v H'
def PE (X:Cx)(e:Expr)(t:TE):Prop :=
 ∀ (pins:List (Addr×Obj)) (s:Shared) (σ:St) (H:Hp) (Q:VK),Inv X pins σ H s->t σ H Q->wpAny (model X.prog X.w) X.A (eval e X.env) (EP X pins σ Q) X.xe s
def PT (X:Cx)(e:Expr)(t:TT):Prop :=
 ∀ (pins:List (Addr×Obj)) (s:Shared) (σ:St) (H:Hp) (Q:Bool->Hp->Prop),Inv X pins σ H s->t σ H Q->wpAny (model X.prog X.w) X.A (isTrue e X.env (eval e X.env)) (TP X pins σ Q) X.xe s
def PW (X:Cx)(e:Expr)(t:TT):Prop :=
 ∀ (whole:Sem Value) (pins:List (Addr×Obj)) (s:Shared) (σ:St) (H:Hp) (Q:Bool->Hp->Prop),Inv X pins σ H s->t σ H Q->wpAny (model X.prog X.w) X.A (isTrue e X.env whole) (TP X pins σ Q) X.xe s
theorem PW.pt {X:Cx}{e:Expr}{t:TT}(h:PW X e t):PT X e t:=h _
def PA (X:Cx)(es:List Expr)(t:TA):Prop :=
 ∀ (pos:Pos) (pins:List (Addr×Obj)) (s:Shared) (σ:St) (H:Hp) (Q:List V->Hp->Prop),Inv X pins σ H s->t σ H Q->wpAny (model X.prog X.w) X.A (spliced (backTo pos (starEach es X.env))) (AP X pins σ Q) X.xe s
def PS (X:Cx)(st:Stmt)(t:TS):Prop :=
 ∀ (pins:List (Addr×Obj)) (s:Shared) (σ:St) (H:Hp) (D:Ends),Inv X pins σ H s->t D σ H->wpAny (model X.prog X.w) X.A (exec st X.env) (SP X pins D) X.xe s
def PSs (X:Cx)(st:List Stmt)(t:TS):Prop :=
 ∀ (pins:List (Addr×Obj)) (s:Shared) (σ:St) (H:Hp) (D:Ends),Inv X pins σ H s->t D σ H->wpAny (model X.prog X.w) X.A (execs st X.env) (SP X pins D) X.xe s
theorem thn {α:Type}{t:Sem α}{Q Q':α->Shared->Prop}{M:Model}{A:Around}{E:Value->Shared->Prop}{s:Shared}(h:wpAny M A t Q E s)(hQ:∀ a s,Q a s->Q' a s):wpAny M A t Q' E s:=wpAny_mono h hQ λ_ _ x=>x
end L2
namespace L2
open PySem PySem.Spec PyProof.Rows
section
variable {X:Cx}
theorem bin {a b:Expr}{ta tb:TE}(ha:PE X a ta)(hb:PE X b tb){pins:List (Addr×Obj)}{s:Shared}{σ:St}{H:Hp}{R:V->V->Hp->Prop}(I:Inv X pins σ H s)(h:ta σ H λx H1=>tb σ H1 λy H2=>R x y H2)
  {α:Type} {Q:α->Shared->Prop} {f:Value->Value->Sem α}
  (hf:∀ v u s2 x y H2,Inv X pins σ H2 s2->RelV x v->RelV y u->R x y H2->wpAny (model X.prog X.w) X.A (f v u) Q X.xe s2) :
  wpAny (model X.prog X.w) X.A (eval a X.env) (λv s₁=>wpAny (model X.prog X.w) X.A (eval b X.env) (λu s₂=>wpAny (model X.prog X.w) X.A (f v u) Q X.xe s₂) X.xe s₁) X.xe s:=by
 refine thn (ha pins s σ H _ I h) λv s1 ⟨x,H1,I1,r1,q1⟩=>?_
 refine thn (hb pins s1 σ H1 _ I1 q1) λu s2 ⟨y,H2,I2,r2,q2⟩=>?_
 exact hf v u s2 x y H2 I2 r1 r2 q2
def tVar (i:Nat):TE:=λσ H Q=>∃ v,σ[i]?=some (some v)/\Q v H
def tC (v:V):TE:=λ_ H Q=>Q v H
theorem pe_var {i:Nat}{x:Str}{pos:Pos}(hN:X.N[i]?=some x)(hv:Vis X.env.scope x)(hd:(x == ("__debug__":Str))=false:=by decide)(hcd:(x == ("__classdict__":Str))=false:=by decide):PE X (.Name x pos) (tVar i):=by
 intro pins s σ H Q I h
 obtain⟨v,e,h⟩:=h
 obtain⟨m,hn,hl⟩:=I.loc
 obtain⟨u,r,l⟩:=hl i x v hN e hv
 have fin:EP X pins σ Q u s:=⟨v,H,I,r,h⟩
 rcases l with ⟨hk,hm⟩ | ⟨hk,c,hc,hcell⟩
 ·exact wpAny_Name (wpAny_loadName_local I.ok.kind hk hn hm fin) hd
 ·rcases hk with hk | hk
  ·exact wpAny_Name (wpAny_loadName_cell I.ok.kind hk hc hcell fin) hd
  ·exact wpAny_Name (wpAny_loadName_free I.ok.kind hk hc hcell fin hcd) hd
theorem pe_int {i j pos}:PE X (.Constant (.int i) j pos) (tC (.int i)):=λ_ _ _ H _ I h=>wpAny_Constant_int ⟨.int i,H,I.tok _,⟨_,rfl⟩,h⟩
theorem pe_bl {b j pos}:PE X (.Constant (.bool b) j pos) (tC (.bl b)):=λ_ _ _ H _ I h=>Constant_bool ⟨.bl b,H,I,rfl,h⟩
theorem pe_non {j pos}:PE X (.Constant .none j pos) (tC .non):=λ_ _ _ H _ I h=>Constant_none ⟨.non,H,I,rfl,h⟩
def Gl (X:Cx)(x:Str):Prop:=X.env.kindOf x=some .globalImplicit
theorem ld_glob {E:Value->Shared->Prop}{pins:List (Addr×Obj)}{s:Shared}{σ:St}{H:Hp}{x:Str}{u:Value}{pos:Pos}{Q:Value->Shared->Prop}(I:Inv X pins σ H s)(hg:Gl X x)(hm:X.mg x=some u)(h:Q u s)
  (hd:(x == ("__debug__":Str))=false:=by decide):wpAny (model X.prog X.w) X.A (eval (.Name x pos) X.env) Q E s :=
 Calls.Name_function_global I.ok.kind hg (Calls.loadGlobal_global (by rw[I.ok.glob];exact I.mod.glob.keeps I.bk) hm h) hd
theorem ld_blt {E:Value->Shared->Prop}{pins:List (Addr×Obj)}{s:Shared}{σ:St}{H:Hp}{x:Str}{u:Value}{pos:Pos}{Q:Value->Shared->Prop}(I:Inv X pins σ H s)(hg:Gl X x)(hm:X.mg x=none)(hv:bootBuiltins x=some u)(h:Q u s)
  (hn:x≠"__name__":=by decide) (hd:(x == ("__debug__":Str))=false:=by decide):wpAny (model X.prog X.w) X.A (eval (.Name x pos) X.env) Q E s:=by
 obtain⟨mb,h1,h2⟩:=I.mod.blt
 exact Calls.Name_function_global I.ok.kind hg (Calls.loadGlobal_builtin (by rw[I.ok.glob];exact I.mod.glob.keeps I.bk) hm (by rw[I.ok.blt];exact h1.keeps I.bk) ((h2 x hn).trans hv) h) hd
theorem pe_bltn {x:Str}{v:V}{u:Value}{pos:Pos}(hg:Gl X x)(hm:X.mg x=none)(hv:bootBuiltins x=some u)(r:RelV v u)(hn:x≠"__name__":=by decide)(hd:(x == ("__debug__":Str))=false:=by decide):PE X (.Name x pos) (tC v) :=
 λ_ _ _ H _ I h=>ld_blt I hg hm hv ⟨v,H,I,r,h⟩ hn hd
def t2I (ta tb:TE)(k:Int->Int->Hp->Prop):St->Hp->Prop:=λσ H=>ta σ H λx H1=>tb σ H1 λy H2=>∃ i j,x=.int i/\y=.int j/\k i j H2
variable {a b:Expr}{ta tb:TE}{pos:Pos}
def tCmp (p:Int->Int->Bool)(ta tb:TE):TE:=λσ H Q=>t2I ta tb (λi j H2=>Q (.bl (p i j)) H2) σ H
abbrev tLt:TE->TE->TE:=tCmp λi j=>decide (i<j)
abbrev tLe:TE->TE->TE:=tCmp λi j=>decide (i<=j)
abbrev tGt:TE->TE->TE:=tCmp λi j=>decide (j<i)
abbrev tGe:TE->TE->TE:=tCmp λi j=>decide (j<=i)
abbrev tEqI:TE->TE->TE:=tCmp λi j=>decide (i=j)
abbrev tNeI:TE->TE->TE:=tCmp λi j=>!decide (i=j)
variable {tA tB':TT}{rest:List Expr}
def tNot (t:TT):TT:=λσ H Q=>t σ H λc H1=>Q (!c) H1
theorem pw_and1 (ha:PT X a tA):PW X (.BoolOp .And [a] pos) tA:=by
 intro wh pins s σ H Q I h
 refine isTrue_and (thn (ha pins s σ H Q I h) λc s1 e=>?_)
 cases c with
 | true=>exact isTrue_and_nil e
 | false=>exact e
theorem pw_or1 (ha:PT X a tA):PW X (.BoolOp .Or [a] pos) tA:=by
 intro wh pins s σ H Q I h
 refine isTrue_or (thn (ha pins s σ H Q I h) λc s1 e=>?_)
 cases c with
 | false=>exact isTrue_or_nil e
 | true=>exact e
theorem pt_not (ha:PT X a tA):PT X (.UnaryOp .Not a pos) (tNot tA):=by
 intro pins s σ H Q I h
 exact isTrue_not (ha pins s σ H (λc H1=>Q (!c) H1) I h)
theorem pe_one {op}{t:TE}(h:PE X a t):PE X (.BoolOp op [a] pos) t:=λpins s σ H Q I hw=>BoolOp_one (h pins s σ H Q I hw)
end
end L2
namespace L2
open PySem PySem.Spec PyProof.Rows
def SqL (K:W.Frag)(H:Hp)(a:Addr)(xs:List V):Prop :=
 Rd H a (.lst xs) \/
  ∃ (o:Obj) (its:Array Value) (n:Nat),K.lookup a=some o/\o.cls=.type "list"/\o.dict=none/\o.data=.seq its n/\its.size<=sizeLine/\Vals xs its.toList
def SqT (K:W.Frag)(H:Hp)(a:Addr)(xs:List V):Prop :=
 Rd H a (.tup xs) \/
  ∃ (o:Obj) (its:Array Value) (n:Nat),K.lookup a=some o/\o.cls=.type "tuple"/\o.data=.seq its n/\its.size<=sizeLine/\Vals xs its.toList
def absV:Value->Option V
 | .none=>some .non
 | .bool b=>some (.bl b)
 | .int i _=>some (.int i)
 | .str x _=>some (.str x)
 | .bytes b _=>some (.byt b)
 | .float b _=>some (.flt b)
 | .ref a=>some (.ref a)
 | .type n=>some (.ty n)
 | _=>none
theorem RelV.abs {x:V}{u:Value}(r:RelV x u):absV u=some x:=by
 cases x with
 | non=>cases r;rfl
 | bl _=>cases r;rfl
 | int _=>obtain⟨t,rfl⟩:=r;rfl
 | str _=>obtain⟨t,rfl⟩:=r;rfl
 | byt _=>obtain⟨t,rfl⟩:=r;rfl
 | flt _=>obtain⟨t,rfl⟩:=r;rfl
 | ref _=>cases r;rfl
 | ty _=>cases r;rfl
theorem RelV.inj {x y:V}{u:Value}(r:RelV x u)(q:RelV y u):x=y:=Option.some.inj (r.abs.symm.trans q.abs)
theorem Vals.inj:∀ {xs ys:List V} {us:List Value},Vals xs us->Vals ys us->xs=ys
 | _,_,_,.nil,.nil=>rfl
 | _,_,_,.cons r t,.cons r' t'=>by rw[r.inj r',Vals.inj t t']
section
variable {X:Cx}{pins:List (Addr×Obj)}{σ:St}{H:Hp}{s:Shared}{a:Addr}{xs ys:List V}
theorem SqL.of {K:W.Frag}(h:H a=some (.lst xs)):SqL K H a xs:=.inl (.inl h)
theorem SqT.of {K:W.Frag}(h:H a=some (.tup xs)):SqT K H a xs:=.inl (.inl h)
theorem Inv.list (I:Inv X pins σ H s)(h:SqL X.K H a xs):∃ its:List Value,Vals xs its/\PlainL s.heap a its.toArray/\xs.length<=sizeLine:=by
 rcases h with h | ⟨o,its,n,hk,hc,hd,hs,hz,r⟩
 ·obtain⟨z,its,n,r,e⟩:=h.ok I.hok
  exact⟨its,r,⟨_,n,e,rfl,rfl,rfl⟩,z⟩
 ·refine⟨its.toList,r,⟨o,n,I.kIn a o hk,hc,hd,by simpa using hs⟩,?_⟩
  have e:=r.length
  simp only[Array.length_toList] at e
  omega
theorem Inv.tuple (I:Inv X pins σ H s)(h:SqT X.K H a xs):∃ its:List Value,Vals xs its/\IsTup s.heap a its.toArray/\xs.length<=sizeLine:=by
 rcases h with h | ⟨o,its,n,hk,hc,hs,hz,r⟩
 ·obtain⟨z,its,r,p⟩:=h.ok I.hok
  exact⟨its,r,p,z⟩
 ·refine⟨its.toList,r,⟨o,I.kIn a o hk,hc,n,by simpa using hs⟩,?_⟩
  have e:=r.length
  simp only[Array.length_toList] at e
  omega
theorem Inv.list_inj (I:Inv X pins σ H s)(h:SqL X.K H a xs)(h':SqL X.K H a ys):xs=ys:=by
 obtain⟨its,r,⟨o,n,e,_,_,d⟩,_⟩:=I.list h
 obtain⟨its',r',⟨o',n',e',_,_,d'⟩,_⟩:=I.list h'
 rw[e] at e';cases e'
 rw[d] at d'
 injection d' with d1 _
 have:its=its':=by simpa using congrArg Array.toList d1
 subst this
 exact r.inj r'
end
abbrev Cx.wish (X:Cx)(E:Value->Shared->Prop):Cx:={ X with xe:=E }
abbrev Cx.nox (X:Cx):Cx:=X.wish λ_ _=>False
theorem Cx.Ok.wish {X:Cx}(ok:X.Ok)(E:Value->Shared->Prop):(X.wish E).Ok :=
 ⟨ok.mod,ok.kind,ok.glob,ok.blt,ok.above,ok.inj,ok.has,ok.cab,ok.hd,ok.frames,ok.stk,ok.exf,ok.bs,ok.bsz,ok.noex,ok.exfs,ok.funs,ok.frf⟩
theorem Cx.Ok.unwish {X:Cx}{E:Value->Shared->Prop}(ok:(X.wish E).Ok):X.Ok :=
 ⟨ok.mod,ok.kind,ok.glob,ok.blt,ok.above,ok.inj,ok.has,ok.cab,ok.hd,ok.frames,ok.stk,ok.exf,ok.bs,ok.bsz,ok.noex,ok.exfs,ok.funs,ok.frf⟩
section
variable {X:Cx}{pins:List (Addr×Obj)}{σ:St}{H:Hp}{s:Shared}{E:Value->Shared->Prop}
theorem Inv.wish (I:Inv X pins σ H s)(E:Value->Shared->Prop):Inv (X.wish E) pins σ H s:=⟨I.ok.wish E,I.os,I.bare,I.base,I.loc,I.cell,I.free,I.freeC,I.pin,I.hok,I.len⟩
theorem Inv.unwish (I:Inv (X.wish E) pins σ H s):Inv X pins σ H s:=⟨I.ok.unwish,I.os,I.bare,I.base,I.loc,I.cell,I.free,I.freeC,I.pin,I.hok,I.len⟩
theorem SP.unwish {D:Ends}{f:Flow}{s':Shared}(h:SP (X.wish E) pins D f s'):SP X pins D f s':=by
 cases f with
 | next=>obtain⟨σ',H',I,q⟩:=h;exact⟨σ',H',I.unwish,q⟩
 | brk=>obtain⟨σ',H',I,q⟩:=h;exact⟨σ',H',I.unwish,q⟩
 | cont=>obtain⟨σ',H',I,q⟩:=h;exact⟨σ',H',I.unwish,q⟩
 | ret u=>obtain⟨v,σ',H',I,r,q⟩:=h;exact⟨v,σ',H',I.unwish,r,q⟩
theorem PSs.nox {st:List Stmt}{t:TS}(h:PSs X.nox st t):PSs X st t:=λpins s σ H D I hw =>
 wpAny_mono (h pins s σ H D (I.wish _) hw) (λ_ _ q=>q.unwish) λ_ _ z=>False.elim z
end
section
variable {X:Cx}{st:Stmt}{rest:List Stmt}{t u:TS}{e:Expr}{te:TE}{pos:Pos}
def tNext:TS:=λD σ H=>D.nx σ H
def tSeq (t u:TS):TS:=λD σ H=>t { D with nx:=u D } σ H
theorem pss_nil:PSs X [] tNext:=λ_ _ σ H _ I h=>wpAny_execs_nil ⟨σ,H,I,h⟩
theorem pss_cons (h1:PS X st t)(h2:PSs X rest u):PSs X (st::rest) (tSeq t u):=by
 intro pins s σ H D I h
 refine wpAny_execs_cons (thn (h1 pins s σ H { D with nx:=u D } I h) λf s1 q=>?_)
 cases f with
 | next =>
  obtain⟨σ',H',I',q⟩:=q
  exact h2 pins s1 σ' H' D I' q
 | ret v=>exact q
 | brk=>exact q
 | cont=>exact q
theorem pss_one (h1:PS X st t):PSs X [st] t:=by
 intro pins s σ H D I h
 refine wpAny_execs_cons (thn (h1 pins s σ H D I h) λf s1 q=>?_)
 cases f with
 | next=>exact wpAny_execs_nil q
 | ret v=>exact q
 | brk=>exact q
 | cont=>exact q
theorem Inv.quiet {pins:List (Addr×Obj)}{σ:St}{H:Hp}{s:Shared}(I:Inv X pins σ H s):interactive X.env=false:=by simp[interactive,I.ok.kind]
def tDrop (te:TE):TS:=λD σ H=>te σ H λ_ H1=>D.nx σ H1
theorem ps_expr (he:PE X e te)(hs:swapsWith e none pos.line X.env=pure false:=by rfl):PS X (.Expr e pos) (tDrop te):=by
 intro pins s σ H D I h
 exact wpAny_Expr_any (thn (he pins s σ H _ I h) λv s1 ⟨x,H1,I1,r1,q1⟩=>⟨σ,H1,I1,q1⟩) I.quiet hs
def tRet (te:TE):TS:=λD σ H=>te σ H D.rt
theorem ps_ret (he:PE X e te):PS X (.Return (some e) pos) (tRet te):=by
 intro pins s σ H D I h
 exact wpAny_Return_some (thn (he pins s σ H _ I h) λv s1 ⟨x,H1,I1,r1,q1⟩=>⟨x,σ,H1,I1,r1,q1⟩)
def tNever:TS:=λ_ _ _=>False
theorem ps_never:PS X st tNever:=λ_ _ _ _ _ _ h=>h.elim
end
abbrev TG:=V->St->Hp->(St->Hp->Prop)->Prop
abbrev TGs:=List V->St->Hp->(St->Hp->Prop)->Prop
def PG (X:Cx)(target:Expr)(t:TG):Prop :=
 ∀ (pins:List (Addr×Obj)) (s:Shared) (σ:St) (H:Hp) (v:V) (u:Value) (Q:St->Hp->Prop),Inv X pins σ H s->RelV v u->t v σ H Q ->
  wpAny (model X.prog X.w) X.A (assign target X.env u) (λ_ s'=>∃ σ' H',Inv X pins σ' H' s'/\Q σ' H') X.xe s
def PGs (X:Cx)(ts:List Expr)(t:TGs):Prop :=
 ∀ (pins:List (Addr×Obj)) (s:Shared) (σ:St) (H:Hp) (vs:List V) (us:List Value) (Q:St->Hp->Prop),Inv X pins σ H s->Vals vs us->t vs σ H Q ->
  wpAny (model X.prog X.w) X.A (assignInOrder ((assignEach ts X.env).map (·.2)) us) (λ_ s'=>∃ σ' H',Inv X pins σ' H' s'/\Q σ' H') X.xe s
abbrev TSet:=V->V->V->Hp->(Hp->Prop)->Prop
def PSet (X:Cx)(t:TSet):Prop :=
 ∀ (pins:List (Addr×Obj)) (s:Shared) (σ:St) (H:Hp) (o i v:V) (ov iv u:Value) (Q:Hp->Prop),Inv X pins σ H s->RelV o ov->RelV i iv->RelV v u->t o i v H Q ->
  wpAny (model X.prog X.w) X.A (setItem ov iv u) (λ_ s'=>∃ H',Inv X pins σ H' s'/\Q H') X.xe s
abbrev TIp:=V->V->Hp->VK->Prop
def PIp (X:Cx)(op:Operator)(t:TIp):Prop :=
 ∀ (pins:List (Addr×Obj)) (s:Shared) (σ:St) (H:Hp) (x y:V) (v u:Value) (Q:VK),Inv X pins σ H s->RelV x v->RelV y u->t x y H Q ->
  wpAny (model X.prog X.w) X.A (inplaceOp op v u) (EP X pins σ Q) X.xe s
section
variable {X:Cx}{pos:Pos}
def gName (i:Nat):TG:=λv σ H Q=>Q (σ.set i (some v)) H
theorem pg_name {i:Nat}{x:Str}(hN:X.N.Nodup)(hi:X.N[i]?=some x)(hx:Loc X.env.scope x)(hf:X.fn x=true\/X.env.scope.names.lookup x=some .local:=by first | exact .inl rfl | exact .inr rfl | assumption):PG X (.Name x pos) (gName i):=by
 intro pins s σ H v u Q I r h
 exact wpAny_assign_Name (store_ok I hN hi hx r (λs' I'=>⟨_,H,I',h⟩) hf)
def gNil:TGs:=λvs σ H Q=>vs=[]/\Q σ H
def gCons (t:TG)(u:TGs):TGs:=λvs σ H Q=>∃ v r,vs=v::r/\t v σ H λσ' H'=>u r σ' H' Q
theorem pgs_nil:PGs X [] gNil:=by
 intro pins s σ H vs us Q I r h
 obtain⟨e,h⟩:=h
 subst e
 cases r
 exact assignInOrder_nil ⟨σ,H,I,h⟩
theorem pgs_cons {e:Expr}{es:List Expr}{t:TG}{u:TGs}(h1:PG X e t)(h2:PGs X es u)
  (hs:(assignEach (e::es) X.env).map (·.2)=assign e X.env::(assignEach es X.env).map (·.2):=by rfl):PGs X (e::es) (gCons t u):=by
 intro pins s σ H vs us Q I r h
 obtain⟨v,vr,e1,h⟩:=h
 subst e1
 cases r with
 | cons r rr =>
  rw[hs]
  refine assignInOrder_cons (thn (h1 pins s σ H _ _ _ I r h) λ_ s1 ⟨σ1,H1,I1,q1⟩=>?_)
  exact h2 pins s1 σ1 H1 _ _ Q I1 rr q1
def gTup (K:W.Frag)(n:Nat)(t:TGs):TG:=λv σ H Q=>∃ a xs,v=.ref a/\SqT K H a xs/\xs.length=n/\t xs σ H Q
theorem pg_tup {es:List Expr}{k:Nat}{t:TGs}{n:Nat}(hc:X.calm=true)(h:PGs X es t)
  (hn:(assignEach es X.env).length=n:=by rfl) (hst:(assignEach es X.env).findIdx? (·.1)=none:=by rfl):PG X (.Tuple es k pos) (gTup X.K n t):=by
 intro pins s σ H v u Q I r hw
 obtain⟨a,xs,e1,hq,hl,hw⟩:=hw
 subst e1
 cases r
 obtain⟨its,rv,ht,hz⟩:=I.tuple hq
 refine assign_Tuple_tuple (I.ok.hd hc) ht (by simp[hn,<- hl,rv.length]) hst λh' hx=>?_
 have I1:Inv X pins σ H { s with heap:=h' }:=I.kept (t':=s.toks) λb o e=>hx b o (Nat.ne_of_lt (Heap.lt_size e)) e
 exact h pins _ σ H xs _ Q I1 (by simpa using rv) hw
def gSub (to ti:TE)(t:TSet):TG:=λv σ H Q=>to σ H λo H1=>ti σ H1 λi H2=>t o i v H2 λH3=>Q σ H3
theorem pg_sub {o i:Expr}{to ti:TE}{t:TSet}(ho:PE X o to)(hi:PE X i ti)(hs:PSet X t)
  (ha:∀ v,assign (.Subscript o i pos) X.env v=(do
   let ov <- holding [v] (eval o X.env)
   let iv <- holding [v,ov] (eval i X.env)
   standAt pos
   holding [v,ov,iv] (setItem ov iv v)
   release [v,ov,iv] []):=by intro _;rfl):PG X (.Subscript o i pos) (gSub to ti t):=by
 intro pins s σ H v u Q I r h
 rw[ha]
 refine wpAny_bind (wpAny_holding (thn (ho pins s σ H _ I h) λov s1 ⟨x,H1,I1,r1,q1⟩=>?_))
 refine wpAny_bind (wpAny_holding (thn (hi pins s1 σ H1 _ I1 q1) λiv s2 ⟨y,H2,I2,r2,q2⟩=>?_))
 refine wpAny_bind (wpAny_standAt (wpAny_bind (wpAny_holding (thn (hs pins s2 σ H2 x y v ov iv u _ I2 r1 r2 r q2) λ_ s3 ⟨H3,I3,q3⟩=>?_))))
 exact wpAny_release ⟨σ,H3,I3,q3⟩
def tAsg (te:TE)(g:TG):TS:=λD σ H=>te σ H λx H1=>g x σ H1 D.nx
theorem ps_asg {tg e:Expr}{te:TE}{g:TG}(he:PE X e te)(hg:PG X tg g)(hs:swapsWithSole [tg] e pos.line X.env=pure false:=by rfl)(hw:swappedStores [tg] e X.env=pure none:=by rfl)
  (h1:(assignEach [tg] X.env).map (·.2)=[assign tg X.env]:=by rfl):PS X (.Assign [tg] e pos) (tAsg te g):=by
 intro pins s σ H D I h
 refine wpAny_Assign_stores (thn (he pins s σ H _ I h) λv s1 ⟨x,H1,I1,r1,q1⟩=>?_) hs hw
 rw[h1]
 exact thn (hg pins s1 σ H1 x v _ I1 r1 q1) λ_ s2 q=>q
theorem ps_set {i:Nat}{x:Str}{e:Expr}{te:TE}{pos':Pos}(hN:X.N.Nodup)(hi:X.N[i]?=some x)(hx:Loc X.env.scope x)(he:PE X e te)(hs:swapsWith e (some (.Name x pos')) pos.line X.env=pure false:=by rfl)(hf:X.fn x=true\/X.env.scope.names.lookup x=some .local:=by first | exact .inl rfl | exact .inr rfl | assumption) :
  PS X (.Assign [.Name x pos'] e pos) (tAsg te (gName i)):=by
 intro pins s σ H D I h
 refine wpAny_Assign_Name (thn (he pins s σ H _ I h) λv s1 ⟨y,H1,I1,r1,q1⟩=>?_) hs
 exact store_ok I1 hN hi hx r1 (λs2 I2=>⟨_,H1,I2,q1⟩) hf
def tAug (i:Nat)(te:TE)(ti:TIp):TS:=λD σ H=>∃ x,σ[i]?=some (some x)/\te σ H λy H1=>ti x y H1 λz H2=>D.nx (σ.set i (some z)) H2
theorem ps_aug {i:Nat}{x:Str}{e:Expr}{te:TE}{op:Operator}{ti:TIp}{pos':Pos}(hN:X.N.Nodup)(hi:X.N[i]?=some x)(hx:Loc X.env.scope x)(he:PE X e te)(ho:PIp X op ti)(hf:X.fn x=true\/X.env.scope.names.lookup x=some .local:=by first | exact .inl rfl | exact .inr rfl | assumption) :
  PS X (.AugAssign (.Name x pos') op e pos) (tAug i te ti):=by
 intro pins s σ H D I h
 obtain⟨v,e1,h⟩:=h
 obtain⟨m,hn,hl⟩:=I.loc
 have vis:Vis X.env.scope x:=by rcases hx with k | k;exact .inl k;exact .inr (.inl k)
 obtain⟨u,r,l⟩:=hl i x v hi e1 vis
 refine wpAny_AugAssign_Name ?_
 have go:wpAny (model X.prog X.w) X.A (eval e X.env) (λw s₂=>wpAny (model X.prog X.w) X.A (inplaceOp op u w) (λr s₃=>wpAny (model X.prog X.w) X.A (storeName X.env x r) (λ_=>SP X pins D .next) X.xe s₃) X.xe s₂) X.xe s:=by
  refine thn (he pins s σ H _ I h) λw s1 ⟨y,H1,I1,r1,q1⟩=>?_
  refine thn (ho pins s1 σ H1 v y u w _ I1 r r1 q1) λz s2 ⟨zv,H2,I2,r2,q2⟩=>?_
  exact store_ok I2 hN hi hx r2 (λs3 I3=>⟨_,H2,I3,q2⟩) hf
 rcases l with ⟨hk,hm⟩ | ⟨hk,c,hc,hcell⟩
 ·exact wpAny_loadName_local I.ok.kind hk hn hm go
 ·rcases hk with hk | hk
  ·exact wpAny_loadName_cell I.ok.kind hk hc hcell go
  ·rcases hx with k | k
   ·have:X.env.scope.names.lookup x=some .free:=hk
    rw[k] at this;cases this
   ·have:X.env.scope.names.lookup x=some .free:=hk
    rw[k] at this;cases this
def ipI (f:Int->Int->Int):TIp:=λx y H Q=>∃ i j,x=.int i/\y=.int j/\Q (.int (f i j)) H
theorem ip_add:PIp X .Add (ipI λi j=>i+j):=by
 intro pins s σ H x y v u Q I r1 r2 h
 obtain⟨i,j,e1,e2,q⟩:=h
 subst e1;subst e2
 obtain⟨t,rfl⟩:=r1
 obtain⟨t',rfl⟩:=r2
 exact iadd_int ⟨.int _,H,I.tok _,⟨_,rfl⟩,q⟩
theorem ip_sub:PIp X .Sub (ipI λi j=>i-j):=by
 intro pins s σ H x y v u Q I r1 r2 h
 obtain⟨i,j,e1,e2,q⟩:=h
 subst e1;subst e2
 obtain⟨t,rfl⟩:=r1
 obtain⟨t',rfl⟩:=r2
 exact isub_int ⟨.int _,H,I.tok _,⟨_,rfl⟩,q⟩
end
section
variable {X:Cx}{pos:Pos}
end
structure It where
 go:Nat->Hp->Prop
 yld:Nat->Hp->V->Hp->Prop
 stop:Nat->Hp->Prop
def FpOk (X:Cx)(pins:List (Addr×Obj))(H:Hp)(b:Addr):Prop :=
 H b=none/\b≠X.env.locals/\b∉X.fs/\(b∈X.ex\/X.s₀.heap.objs.size<=b)/\(∀ x c,X.env.cells.lookup x=some c->c≠b)/\∀ p∈X.pn++pins,p.1≠b
theorem Inv.fpOk {X:Cx}{pins:List (Addr×Obj)}{σ:St}{H H':Hp}{s:Shared}{b:Addr}(I:Inv X pins σ H s)(hb:s.heap.objs.size<=b)(hn:H' b=none):FpOk X pins H' b:=by
 refine⟨hn,Nat.ne_of_gt (Nat.lt_of_lt_of_le I.lt hb),I.nofs hb,.inr (Nat.le_trans I.sz hb),λx c e z=>?_,λp hp z=>?_⟩
 ·obtain⟨v,q⟩:=I.cell x c e
  exact absurd (Nat.lt_of_lt_of_le q.lt (by rw[z];exact hb)) (Nat.lt_irrefl _)
 ·exact absurd (Nat.lt_of_lt_of_le (Heap.lt_size (I.pin p hp).1) (by rw[z];exact hb)) (Nat.lt_irrefl _)
structure Turn (P:Program)(w:World)(K:W.Frag)(tg:Expr)(J:It)(fp:List Addr)(it:Addr)(tn:Nat->Heap->Prop):Prop where
 mem:it∈fp
 obj:∀ i h,tn i h->∀ b∈fp,∃ o,h.get? b=some o/\∀ v,o.data≠.cell v
 keep:∀ i h h',tn i h->(∀ b∈fp,∀ o,h.get? b=some o->h'.get? b=some o)->tn i h'
 item:∀ (X:Cx),X.prog=P->X.w=w->X.K=K->X.calm=true->∀ (i:Nat) (pins:List (Addr×Obj)) (s:Shared) (σ:St) (H:Hp) (E:Value->Shared->Prop),Inv X pins σ H s->(∀ b∈fp,FpOk X pins H b)->tn i s.heap->J.go i H ->
  wpAny (model P w) X.A (pyNext (.ref it)) (λr s1=>∃ u,r=some u /\
   wpAny (model P w) X.A (letOwnedTupleGo tg (.ref it) u) (λ_ s2=>∃ x H',Inv X pins σ H' s2/\RelV x u/\J.yld i H x H'/\tn (i+1) s2.heap/\∀ b∈fp,H' b=none) E s1) E s
 done:∀ (X:Cx),X.prog=P->X.w=w->X.K=K->X.calm=true->∀ (i:Nat) (pins:List (Addr×Obj)) (s:Shared) (σ:St) (H:Hp) (E:Value->Shared->Prop),Inv X pins σ H s->(∀ b∈fp,FpOk X pins H b)->tn i s.heap->J.stop i H ->
  wpAny (model P w) X.A (pyNext (.ref it)) (λr s1=>r=none/\Inv X pins σ H s1) E s
 self:∀ (A:Around) (i:Nat) (s:Shared) (Q:Value->Shared->Prop) (E:Value->Shared->Prop),tn i s.heap->Q (.ref it) s->wpAny (model P w) A (pyIter (.ref it)) Q E s
abbrev TI:=St->Hp->(It->Hp->Prop)->Prop
def PIE (X:Cx)(pins:List (Addr×Obj))(σ:St)(tg:Expr)(R:It->Hp->Prop)(itv:Value)(s2:Shared):Prop :=
 ∃ (it:Addr) (fp:List Addr) (tn:Nat->Heap->Prop) (J:It) (H':Hp),itv=.ref it/\Inv X pins σ H' s2/\Turn X.prog X.w X.K tg J fp it tn/\tn 0 s2.heap/\(∀ b∈fp,FpOk X pins H' b)/\R J H'
def PI (X:Cx)(tg iter:Expr)(wi:TI):Prop :=
 ∀ (pins:List (Addr×Obj)) (s:Shared) (σ:St) (H:Hp) (R:It->Hp->Prop),Inv X pins σ H s->wi σ H R ->
  wpAny (model X.prog X.w) X.A (eval iter X.env) (λv s1=>wpAny (model X.prog X.w) X.A (pyIter v) (PIE X pins σ tg R) X.xe s1) X.xe s
theorem go_of {M : Model} {A : Around} {E : Value → Shared → Prop} {s : Shared} {tg : Expr} {it : Addr} {u : Value} {o : Obj} {n : String} {vs : Array Value} {Q : Unit → Shared → Prop} (ho : s.heap.get? it = some o) (hc : o.cls = .type n) (hd : o.data = .fields vs)
    (hn : ["enumerate", "zip", "dict_itemiterator", "dict_reverseitemiterator", "odict_iterator", "itertools.zip_longest", "itertools.pairwise"].contains n = false) (hQ : Q () s) : wpAny M A (letOwnedTupleGo tg (.ref it) u) Q E s := by
  unfold letOwnedTupleGo
  cases tg <;> first
    | exact wpAny_pure hQ
    | (cases u <;> first
        | exact wpAny_pure hQ
        | (refine wpAny_bind (wpAny_load ho ?_)
           rw [hc, hd]
           show wpAny M A (if (["enumerate", "zip", "dict_itemiterator", "dict_reverseitemiterator", "odict_iterator", "itertools.zip_longest", "itertools.pairwise"].contains n && vs[0]? == some (rawInt _)) = true then _ else _) Q E s
           rw [if_neg (by intro h; rw [hn, Bool.false_and] at h; cases h)]
           exact wpAny_pure hQ))
def Itl (K:W.Frag)(a:Addr):It :=
 ⟨λi H=>∃ xs x,SqL K H a xs/\xs[i]?=some x,λi H x H'=>H'=H/\∀ xs,SqL K H a xs->xs[i]?=some x,λi H=>∃ xs,SqL K H a xs/\xs.length<=i⟩
def Itr (lo:Int)(n:Nat):It:=⟨λi _=>i<n,λi H x H'=>H'=H/\x=.int (lo+i),λi _=>n<=i⟩
theorem turn_list {P:Program}{w:World}{K:W.Frag}{tg:Expr}(a it:Addr):Turn P w K tg (Itl K a) [it] it (λi h=>h.IsListIter it a i) where
 mem:=by simp
 obj:=λi h st b hb=>by
  have e:b=it:=by simpa using hb
  subst e
  obtain⟨o,e,c,d⟩:=st
  exact⟨o,e,λv z=>by rw[d] at z;cases z⟩
 keep:=λi h h' st k=>st.at λo e=>k it (by simp) o e
 item:=by
  intro X hP hw hK hc i pins s σ H E I hf st hg
  subst hP hw hK
  obtain⟨xs,x,hq,hx⟩:=hg
  obtain⟨its,rv,p,hz⟩:=I.list hq
  obtain⟨u,hu,ru⟩:=rv.get hx
  obtain⟨f0,f1,f2,f3,f4,f5⟩:=hf it (by simp)
  refine wpAny_pyNext_list_item st p.isList (x:=u) (by simpa using hu) λh' st' sb=>?_
  have I1:Inv X pins σ H { s with heap:=h' }:=I.turned (t':=s.toks) (λb o hb e=>(sb.2 b hb).trans e) f0 f1 f3 f4 f5
  obtain⟨o,e,c,d⟩:=id st'
  exact⟨u,rfl,go_of (s:={ s with heap:=h' }) e c d (by decide) ⟨x,H,I1,ru,⟨rfl,λys hy=>by rw[I.list_inj hy hq];exact hx⟩,st',λb hb=>(hf b hb).1⟩⟩
 done:=by
  intro X hP hw hK hc i pins s σ H E I hf st hg
  subst hP hw hK
  obtain⟨xs,hq,hx⟩:=hg
  obtain⟨its,rv,p,hz⟩:=I.list hq
  obtain⟨f0,f1,f2,f3,f4,f5⟩:=hf it (by simp)
  have hl:=rv.length
  exact wpAny_pyNext_list_end (I.ok.hd hc) st p.isList (by simp;omega) λh' eb=>⟨rfl,I.turned (t':=s.toks) (λb o hb e=>eb b o hb e) f0 f1 f3 f4 f5⟩
 self:=λ_ _ _ _ _ st h=>wpAny_pyIter_listiter st h
theorem turn_range {P:Program}{w:World}{K:PySem.W.Frag}{tg:Expr}(it:Addr)(lo:Int)(n:Nat):Turn P w K tg (Itr lo n) [it] it (λi h=>IsRangeIter h it (lo+(i:Nat)*1) ((n:Int)-(i:Nat)) 1) where
 mem:=by simp
 obj:=λi h st b hb=>by
  have e:b=it:=by simpa using hb
  subst e
  exact⟨_,st,λv z=>by
   have z':Data.fields _=Data.cell v:=z
   cases z'⟩
 keep:=λi h h' st k=>k it (by simp) _ st
 item:=by
  intro X hP hw hK hc i pins s σ H E I hf st hg
  subst hP hw hK
  obtain⟨f0,f1,f2,f3,f4,f5⟩:=hf it (by simp)
  have W:=Walks.range (prog:=X.prog) (w:=X.w) (I.ok.hd hc) it lo 1 n
  refine W.item i s _ _ hg st λv h' tk hv st' kk=>?_
  obtain⟨t,rfl⟩:=hv
  have I1:Inv X pins σ H { s with heap:=h',toks:=tk }:=I.turned (λb o hb e=>kk b o (by simpa using hb) e) f0 f1 f3 f4 f5
  refine⟨_,rfl,go_of (s:={ s with heap:=h',toks:=tk }) (n:="range_iterator") st' rfl rfl (by decide) ⟨.int (lo+i),H,I1,⟨t,?_⟩,⟨rfl,rfl⟩,st',λb hb=>(hf b hb).1⟩⟩
  rw[Int.mul_one]
 done:=by
  intro X hP hw hK hc i pins s σ H E I hf st hg
  subst hP hw hK
  obtain⟨f0,f1,f2,f3,f4,f5⟩:=hf it (by simp)
  exact wpAny_pyNext_range_end (I.ok.hd hc) st (by have:n<=i:=hg;omega) λh' eb=>⟨rfl,I.turned (t':=s.toks) (λb o hb e=>eb b o hb e) f0 f1 f3 f4 f5⟩
 self:=λ_ _ _ _ _ st h=>wpAny_pyIter_rangeiter st h
end L2
namespace L2
open PySem PySem.Spec PyProof.Rows
section
variable {X:Cx}{tg:Expr}
theorem range_it {pins:List (Addr×Obj)}{σ:St}{H:Hp}{s:Shared}{R:It->Hp->Prop}{E:Value->Shared->Prop}{lo hi:Int}{t u v:Tok}{tk:Nat}(I:Inv X pins σ H s)(h1:-(2 ^ 62)<=lo)(h2:lo<2 ^ 62)(h3:-(2 ^ 62)<=hi)(h4:hi<2 ^ 62)
  (q:R (Itr lo (hi-lo).toNat) H):wpAny (model X.prog X.w) X.A (pyIter (.ref s.heap.objs.size)) (PIE X pins σ tg R) E { s with heap:=s.heap.push { cls:=.type "range",data:=.fields #[.int lo t,.int hi u,.int 1 v] },toks:=tk }:=by
 refine wpAny_pyIter_range (IsRange.new ..) (small_one h1 h2 h3 h4) ?_
 have I1:Inv X pins σ H { s with heap:=s.heap.push { cls:=.type "range",data:=.fields #[.int lo t,.int hi u,.int 1 v] },toks:=tk }:=I.kept λb o e=>Heap.get?_push_of_some _ e
 refine⟨(s.heap.push { cls:=.type "range",data:=.fields #[.int lo t,.int hi u,.int 1 v] }).objs.size,[(s.heap.push { cls:=.type "range",data:=.fields #[.int lo t,.int hi u,.int 1 v] }).objs.size],_,_,H,rfl,
  I1.kept (t':=tk) λb o e=>Heap.get?_push_of_some _ e,turn_range _ lo (hi-lo).toNat,?_,λb hb=>?_,q⟩
 ·have e1:lo+((0:Nat):Int)*1=lo:=by simp
  have e2:(((hi-lo).toNat:Nat):Int)-((0:Nat):Int)=Builtin.Range.rangeSize lo hi 1:=by rw[rangeSize_one];split<;>omega
  show IsRangeIter _ _ (lo+((0:Nat):Int)*1) ((((hi-lo).toNat:Nat):Int)-((0:Nat):Int)) 1
  rw[e1,e2]
  exact Heap.get?_push_size _ rfl
 ·have e:b=(s.heap.push { cls:=.type "range",data:=.fields #[.int lo t,.int hi u,.int 1 v] }).objs.size:=by simpa using hb
  subst e
  exact I1.fpOk (Nat.le_refl _) (I1.hok.fresh (Nat.le_refl _))
def iRng1 (ta:TA):TI:=λσ H R=>ta σ H λvs H1=>∃ j:Int,vs=[.int j]/\-(2 ^ 62)<=j/\j<2 ^ 62/\R (Itr 0 j.toNat) H1
def iRng2 (ta:TA):TI:=λσ H R=>ta σ H λvs H1=>∃ i j:Int,vs=[.int i,.int j]/\(-(2 ^ 62)<=i/\i<2 ^ 62/\-(2 ^ 62)<=j/\j<2 ^ 62)/\R (Itr i (j-i).toNat) H1
theorem pi_range1 {a:Expr}{ta:TA}{p pos:Pos}(hg:Gl X "range")(hm:X.mg "range"=none)(ha:PA X [a] ta)(hs:starEach [a] X.env=[(false,eval a X.env)]:=by rfl):PI X tg (.Call (.Name "range" p) [a] [] pos) (iRng1 ta):=by
 intro pins s σ H R I h
 refine Call_ (ld_blt I hg hm boot_range (PyProof.Rows.callWith_type1 (thn (ha pos pins s σ H _ I h) λus s1 ⟨vs,H1,I1,r1,q1⟩=>?_) hs rfl))
 obtain⟨j,e,q1,q2,q⟩:=q1
 subst e
 cases r1 with
 | cons r rr =>
  cases rr
  obtain⟨t,rfl⟩:=r
  exact call_range_1 (range_it I1 (by omega) (by omega) q1 q2 (by simpa using q))
theorem pi_range2 {a b:Expr}{ta:TA}{p pos:Pos}(hg:Gl X "range")(hm:X.mg "range"=none)(ha:PA X [a,b] ta)(hs:starEach [a,b] X.env=[(false,eval a X.env),(false,eval b X.env)]:=by rfl)(hs2:starEach [b] X.env=[(false,eval b X.env)]:=by rfl) :
  PI X tg (.Call (.Name "range" p) [a,b] [] pos) (iRng2 ta):=by
 intro pins s σ H R I h
 refine Call_ (ld_blt I hg hm boot_range (PyProof.Rows.callWith_type1 (thn (ha pos pins s σ H _ I h) λus s1 ⟨vs,H1,I1,r1,q1⟩=>?_) (by rw[hs,hs2]) (by rw[hs2];rfl)))
 obtain⟨i,j,e,⟨q1,q2,q3,q4⟩,q⟩:=q1
 subst e
 cases r1 with
 | cons r rr =>
  cases rr with
  | cons r' rr =>
   cases rr
   obtain⟨t,rfl⟩:=r
   obtain⟨t',rfl⟩:=r'
   exact call_range_2 (range_it I1 q1 q2 q3 q4 q)
def tFor (wi:TI)(g:TG)(tb:TS):TS:=λD σ H=>wi σ H λJ H1=>∃ W:Nat->Nat->St->Hp->Prop,(∃ m,W 0 m σ H1)/\∀ i m σ H,W i m σ H ->
 (J.stop i H/\D.nx σ H)\/(J.go i H/\∃ N:St->Hp->Prop,(∀ σ' H',N σ' H'->∃ m',m'<m/\W (i+1) m' σ' H')/\∀ x H',J.yld i H x H'->g x σ H' λσ2 H2=>tb { D with nx:=N,ct:=N,bk:=D.nx } σ2 H2)
def pinsAt (fp:List Addr)(h:Heap):List (Addr×Obj):=fp.filterMap λb=>(h.get? b).map λo=>(b,o)
theorem mem_pinsAt {fp:List Addr}{h:Heap}{b:Addr}{o:Obj}(hb:b∈fp)(e:h.get? b=some o):(b,o)∈pinsAt fp h:=List.mem_filterMap.mpr ⟨b,hb,by rw[e];rfl⟩
theorem of_pinsAt {fp:List Addr}{h:Heap}{p:Addr×Obj}(hp:p∈pinsAt fp h):p.1∈fp/\h.get? p.1=some p.2:=by
 obtain⟨b,hb,e⟩:=List.mem_filterMap.mp hp
 cases q:h.get? b with
 | none=>rw[q] at e;cases e
 | some o =>
  rw[q] at e
  have e':(b,o)=p:=Option.some.inj e
  subst e'
  exact⟨hb,q⟩
theorem Inv.pinned {pins:List (Addr×Obj)}{σ:St}{H:Hp}{s:Shared}{fp:List Addr}(I:Inv X pins σ H s)(hf:∀ b∈fp,FpOk X pins H b)(ho:∀ b∈fp,∃ o,s.heap.get? b=some o/\∀ v,o.data≠.cell v):Inv X (pins++pinsAt fp s.heap) σ H s :=
 I.pins_of λp hp=>(List.mem_append.mp hp).elim (λz=>I.pin p (List.mem_append_right _ z)) λz=>by
  obtain⟨hb,e⟩:=of_pinsAt z
  obtain⟨f0,f1,f2,_⟩:=hf p.1 hb
  obtain⟨o,e',d⟩:=ho p.1 hb
  rw[e] at e';cases e'
  exact⟨e,f0,f1,f2,d⟩
theorem Inv.unpinned {pins pl:List (Addr×Obj)}{σ:St}{H:Hp}{s:Shared}(I:Inv X (pins++pl) σ H s):Inv X pins σ H s:=I.pins_of λp hp=>I.pin p (List.mem_append_right _ (List.mem_append_left _ hp))
theorem ps_for {iter:Expr}{body:List Stmt}{wi:TI}{g:TG}{tb:TS}{pos:Pos}(hp:PassesOwn (model X.prog X.w) X.A X.env X.xe)(hc:X.calm=true)(hi:PI X tg iter wi)(hg:PG X tg g)(hb:PSs X body tb)
  (hs:∀ x,foldedSetIterable iter X.env x=pure x:=by intro _;rfl):PS X (.For tg iter body [] pos) (tFor wi g tb):=by
 intro pins s σ H D I h
 refine wpAny_For (thn (hi pins s σ H _ I h) λv s1 h1=>thn h1 λitv s2 h2=>?_) hs
 obtain⟨it,fp,tn,J,H2,e,I2,T,st2,f2,W,⟨m0,w0⟩,turn⟩:=h2
 subst e
 have stat:∀ {H':Hp},(∀ b∈fp,H' b=none)->∀ b∈fp,FpOk X pins H' b:=λhn b hb=>⟨hn b hb,(f2 b hb).2⟩
 refine codeAny_forLoop_any (λn s'=>∃ i σ' H',Inv X pins σ' H' s'/\tn i s'.heap/\(∀ b∈fp,H' b=none)/\W i n σ' H') ?_ m0 ⟨0,σ,H2,I2,st2,λb hb=>(f2 b hb).1,w0⟩
 rintro n s3 ⟨i,σ3,H3,I3,st3,fr3,w3⟩
 rcases turn i n σ3 H3 w3 with ⟨stop,qn⟩ | ⟨go,N,hN,step⟩
 ·refine wpAny_passesOwn hp (thn (T.done X rfl rfl rfl hc i pins s3 σ3 H3 X.xe I3 (stat fr3) st3 stop) λr s4 ⟨hr,I4⟩=>?_)
  subst hr
  exact wpAny_execs_nil ⟨σ3,H3,I4,qn⟩
 ·refine wpAny_passesOwn hp (thn (T.item X rfl rfl rfl hc i pins s3 σ3 H3 X.xe I3 (stat fr3) st3 go) λr s4 ⟨u,hr,h4⟩=>?_)
  subst hr
  refine wpAny_passesOwn hp (thn h4 λ_ s5 ⟨x,H5,I5,r5,y5,st5,fr5⟩=>?_)
  have I5':=I5.pinned (stat fr5) (T.obj _ _ st5)
  refine wpAny_passesOwn hp (thn (hg _ s5 σ3 H5 x u _ I5' r5 (step x H5 y5)) λ_ s6 ⟨σ6,H6,I6,q6⟩=>?_)
  refine wpAny_passesOwn hp (thn (hb _ s6 σ6 H6 _ I6 q6) λf s7 q7=>?_)
  have again:∀ {σ7:St} {H7:Hp},Inv X (pins++pinsAt fp s5.heap) σ7 H7 s7->N σ7 H7->∃ m,m<n/\∃ i σ' H',Inv X pins σ' H' s7/\tn i s7.heap/\(∀ b∈fp,H' b=none)/\W i m σ' H':=λ{σ7 H7} I7 n7=>by
   obtain⟨m',hm,w7⟩:=hN σ7 H7 n7
   refine⟨m',hm,i+1,σ7,H7,I7.unpinned,T.keep _ _ _ st5 λb hb o e=>(I7.pin (b,o) (List.mem_append_right _ (List.mem_append_right _ (mem_pinsAt hb e)))).1,λb hb=>?_,w7⟩
   obtain⟨o,e,d⟩:=T.obj _ _ st5 b hb
   exact(I7.pin (b,o) (List.mem_append_right _ (List.mem_append_right _ (mem_pinsAt hb e)))).2.1
  cases f with
  | next=>obtain⟨σ7,H7,I7,n7⟩:=q7;exact again I7 n7
  | cont=>obtain⟨σ7,H7,I7,n7⟩:=q7;exact again I7 n7
  | brk=>obtain⟨σ7,H7,I7,q7⟩:=q7;exact⟨σ7,H7,I7.unpinned,q7⟩
  | ret v=>obtain⟨x7,σ7,H7,I7,r7,q7⟩:=q7;exact⟨x7,σ7,H7,I7.unpinned,r7,q7⟩
end
theorem for_list {K:PySem.W.Frag}{a:Addr}{xs:List V}{g:TG}{tb:TS}{D:Ends}{σ:St}{H:Hp}(Pv:Nat->St->Hp->Prop)(h0:Pv 0 σ H)(hl:∀ i σ H,i<=xs.length->Pv i σ H->SqL K H a xs)
  (hs:∀ i x σ H,xs[i]?=some x->Pv i σ H->g x σ H λσ2 H2=>tb { D with nx:=Pv (i+1),ct:=Pv (i+1),bk:=D.nx } σ2 H2) (hd:∀ σ H,Pv xs.length σ H->D.nx σ H) :
  ∃ W:Nat->Nat->St->Hp->Prop,(∃ m,W 0 m σ H)/\∀ i m σ H,W i m σ H ->
   ((Itl K a).stop i H/\D.nx σ H)\/((Itl K a).go i H/\∃ N:St->Hp->Prop,(∀ σ' H',N σ' H'->∃ m',m'<m/\W (i+1) m' σ' H')/\∀ x H',(Itl K a).yld i H x H'->g x σ H' λσ2 H2=>tb { D with nx:=N,ct:=N,bk:=D.nx } σ2 H2):=by
 refine⟨λi m σ H=>m=xs.length-i/\i<=xs.length/\Pv i σ H,⟨xs.length,by simp,Nat.zero_le _,h0⟩,?_⟩
 rintro i m σ H ⟨rfl,hi,p⟩
 have q:=hl i σ H hi p
 by_cases hlt:i<xs.length
 ·refine .inr ⟨⟨xs,xs[i],q,by simp[hlt]⟩,Pv (i+1),λσ' H' p'=>⟨xs.length-(i+1),by omega,rfl,hlt,p'⟩,λx H' y=>?_⟩
  obtain⟨e,y⟩:=y
  subst e
  exact hs i x σ _ (y xs q) p
 ·have e:i=xs.length:=by omega
  subst e
  exact .inl ⟨⟨xs,q,Nat.le_refl _⟩,hd σ H p⟩
theorem for_range {lo:Int}{n:Nat}{g:TG}{tb:TS}{D:Ends}{σ:St}{H:Hp}(Pv:Nat->St->Hp->Prop)(h0:Pv 0 σ H)
  (hs:∀ i σ H,i<n->Pv i σ H->g (.int (lo+i)) σ H λσ2 H2=>tb { D with nx:=Pv (i+1),ct:=Pv (i+1),bk:=D.nx } σ2 H2) (hd:∀ σ H,Pv n σ H->D.nx σ H) :
  ∃ W:Nat->Nat->St->Hp->Prop,(∃ m,W 0 m σ H)/\∀ i m σ H,W i m σ H ->
   ((Itr lo n).stop i H/\D.nx σ H)\/((Itr lo n).go i H/\∃ N:St->Hp->Prop,(∀ σ' H',N σ' H'->∃ m',m'<m/\W (i+1) m' σ' H')/\∀ x H',(Itr lo n).yld i H x H'->g x σ H' λσ2 H2=>tb { D with nx:=N,ct:=N,bk:=D.nx } σ2 H2):=by
 refine⟨λi m σ H=>m=n-i/\i<=n/\Pv i σ H,⟨n,by simp,Nat.zero_le _,h0⟩,?_⟩
 rintro i m σ H ⟨rfl,hi,p⟩
 by_cases hlt:i<n
 ·refine .inr ⟨hlt,Pv (i+1),λσ' H' p'=>⟨n-(i+1),by omega,rfl,hlt,p'⟩,λx H' y=>?_⟩
  obtain⟨e,y⟩:=y
  subst e y
  exact hs i σ _ hlt p
 ·have e:i=n:=by omega
  subst e
  exact .inl ⟨Nat.le_refl _,hd σ H p⟩
end L2
namespace L2
open PySem PySem.Spec PyProof.Rows
abbrev R2:=V->V->Hp->VK->Prop
def OpR (X:Cx)(f:Value->Value->Sem Value)(r:R2):Prop :=
 ∀ (pins:List (Addr×Obj)) (s:Shared) (σ:St) (H:Hp) (x y:V) (v u:Value) (Q:VK),Inv X pins σ H s->RelV x v->RelV y u->r x y H Q ->
  wpAny (model X.prog X.w) X.A (f v u) (EP X pins σ Q) X.xe s
def UnR (X:Cx)(f:Value->Sem Value)(r:V->Hp->VK->Prop):Prop :=
 ∀ (pins:List (Addr×Obj)) (s:Shared) (σ:St) (H:Hp) (x:V) (v:Value) (Q:VK),Inv X pins σ H s->RelV x v->r x H Q ->
  wpAny (model X.prog X.w) X.A (f v) (EP X pins σ Q) X.xe s
def CallR (X:Cx)(f:Value)(r:List V->Hp->VK->Prop):Prop :=
 ∀ (pins:List (Addr×Obj)) (s:Shared) (σ:St) (H:Hp) (xs:List V) (us:List Value) (Q:VK),Inv X pins σ H s->Vals xs us->r xs H Q ->
  wpAny (model X.prog X.w) X.A (call f us) (EP X pins σ Q) X.xe s
def TruR (X:Cx)(r:V->Hp->(Bool->Hp->Prop)->Prop):Prop :=
 ∀ (pins:List (Addr×Obj)) (s:Shared) (σ:St) (H:Hp) (x:V) (v:Value) (Q:Bool->Hp->Prop),Inv X pins σ H s->RelV x v->r x H Q ->
  wpAny (model X.prog X.w) X.A (truthy v) (TP X pins σ Q) X.xe s
def tOp (r:R2)(ta tb:TE):TE:=λσ H Q=>ta σ H λx H1=>tb σ H1 λy H2=>r x y H2 Q
def tUn (r:V->Hp->VK->Prop)(ta:TE):TE:=λσ H Q=>ta σ H λx H1=>r x H1 Q
def rI (C:Int->Int->Prop)(g:Int->Int->V):R2:=λx y H Q=>∃ i j,x=.int i/\y=.int j/\C i j/\Q (g i j) H
def rI0 (g:Int->Int->V):R2:=λx y H Q=>∃ i j,x=.int i/\y=.int j/\Q (g i j) H
def rU (g:Int->V):V->Hp->VK->Prop:=λx H Q=>∃ i,x=.int i/\Q (g i) H
section
variable {X:Cx}{a b c:Expr}{ta tb tc:TE}{pos:Pos}
theorem binT (ha:PE X a ta)(hb:PE X b tb){pins:List (Addr×Obj)}{s:Shared}{σ:St}{H:Hp}{R:V->V->Hp->Prop}(I:Inv X pins σ H s)
  (h:ta σ H λx H1=>tb σ H1 λy H2=>R x y H2) {Q:Value->Shared->Prop} {f:Value->Value->Sem Value}
  (hf:∀ v u s2 x y H2,Inv X pins σ H2 s2->RelV x v->RelV y u->R x y H2->wpAny (model X.prog X.w) X.A (f v u) Q X.xe s2) :
  wpAny (model X.prog X.w) X.A (eval a X.env) (λv s₁=>wpAny (model X.prog X.w) X.A (eval b X.env) (λu s₂=>wpAny (model X.prog X.w) X.A (f v u) Q X.xe s₂) X.xe s₁) X.xe s:=by
 refine thn (ha pins s σ H _ I h) λv s1 ⟨x,H1,I1,r1,q1⟩=>?_
 refine thn (hb pins s1 σ H1 _ I1 q1) λu s2 ⟨y,H2,I2,r2,q2⟩=>?_
 exact hf v u s2 x y H2 I2 r1 r2 q2
theorem pe_op {op:Operator}{r:R2}(ho:OpR X (binaryOp op) r)(ha:PE X a ta)(hb:PE X b tb):PE X (.BinOp a op b pos) (tOp r ta tb):=by
 intro pins s σ H Q I h
 exact wpAny_BinOp (binT ha hb I h λv u s2 x y H2 I2 rx ry q=>ho pins s2 σ H2 x y v u Q I2 rx ry q)
theorem pe_un {op:UnaryOp}{r:V->Hp->VK->Prop}(ho:UnR X (unaryOp op) r)(ha:PE X a ta):PE X (.UnaryOp op a pos) (tUn r ta):=by
 intro pins s σ H Q I h
 exact UnaryOp_ (thn (ha pins s σ H _ I h) λv s1 ⟨x,H1,I1,r1,q1⟩=>ho pins s1 σ H1 x v Q I1 r1 q1)
theorem opI {f:Value->Value->Sem Value}{C:Int->Int->Prop}{g:Int->Int->Int}
  (rule:∀ (i j:Int) (t u:Tok) (s:Shared) (Q:Value->Shared->Prop) (E:Value->Shared->Prop),C i j->Q (.int (g i j) s.toks) { s with toks:=s.toks+1 }->wpAny (model X.prog X.w) X.A (f (.int i t) (.int j u)) Q E s) :
  OpR X f (rI C λi j=>.int (g i j)):=by
 intro pins s σ H x y v u Q I rx ry h
 obtain⟨i,j,rfl,rfl,hc,q⟩:=h
 obtain⟨t,rfl⟩:=rx
 obtain⟨t',rfl⟩:=ry
 exact rule i j t t' s _ _ hc ⟨.int (g i j),H,I.tok _,⟨_,rfl⟩,q⟩
theorem opI0 {f:Value->Value->Sem Value}{g:Int->Int->Int}
  (rule:∀ (i j:Int) (t u:Tok) (s:Shared) (Q:Value->Shared->Prop) (E:Value->Shared->Prop),Q (.int (g i j) s.toks) { s with toks:=s.toks+1 }->wpAny (model X.prog X.w) X.A (f (.int i t) (.int j u)) Q E s) :
  OpR X f (rI0 λi j=>.int (g i j)):=by
 intro pins s σ H x y v u Q I rx ry h
 obtain⟨i,j,rfl,rfl,q⟩:=h
 obtain⟨t,rfl⟩:=rx
 obtain⟨t',rfl⟩:=ry
 exact rule i j t t' s _ _ ⟨.int (g i j),H,I.tok _,⟨_,rfl⟩,q⟩
theorem opB0 {f:Value->Value->Sem Value}{g:Int->Int->Bool}
  (rule:∀ (i j:Int) (t u:Tok) (s:Shared) (Q:Value->Shared->Prop) (E:Value->Shared->Prop),Q (.bool (g i j)) s->wpAny (model X.prog X.w) X.A (f (.int i t) (.int j u)) Q E s) :
  OpR X f (rI0 λi j=>.bl (g i j)):=by
 intro pins s σ H x y v u Q I rx ry h
 obtain⟨i,j,rfl,rfl,q⟩:=h
 obtain⟨t,rfl⟩:=rx
 obtain⟨t',rfl⟩:=ry
 exact rule i j t t' s _ _ ⟨.bl (g i j),H,I,rfl,q⟩
def CPow (i j:Int):Prop:=0<=j/\j<=1000000/\i.natAbs<2 ^ 64
def CMul (i j:Int):Prop:=(-(2 ^ 64)<i/\i<2 ^ 64)\/(-(2 ^ 64)<j/\j<2 ^ 64)
theorem CMul.ok {i j:Int}(h:CMul i j):IntMulOk i j:=by
 rcases h with ⟨h1,h2⟩ | ⟨h1,h2⟩
 ·exact .of_left (intBits_le_64 h1 h2)
 ·exact .of_right (intBits_le_64 h1 h2)
theorem op_add:OpR X (binaryOp .Add) (rI0 λi j=>.int (i+j)):=opI0 λ_ _ _ _ _ _ _ q=>add_int q
theorem op_sub:OpR X (binaryOp .Sub) (rI0 λi j=>.int (i-j)):=opI0 λ_ _ _ _ _ _ _ q=>sub_int q
theorem op_mul:OpR X (binaryOp .Mult) (rI CMul λi j=>.int (i*j)):=opI λ_ _ _ _ _ _ _ hc q=>mul_int q hc.ok
theorem op_mod:OpR X (binaryOp .Mod) (rI (λ_ j=>0<j) λi j=>.int (i % j)):=opI λi j _ _ _ _ _ hc q=>by
 have h1:(0:Int)<j:=hc
 exact mod_int' (by omega) (by rw[Int.fmod_eq_emod_of_nonneg i (by omega)];exact q)
theorem op_pow:OpR X (binaryOp .Pow) (rI CPow λi j=>.int (i ^ j.toNat)):=opI λ_ _ _ _ _ _ _ hc q=>pow_int_small hc.1 hc.2.1 hc.2.2 q
theorem unI {f:Value->Sem Value}{g:Int->Int}
  (rule:∀ (i:Int) (t:Tok) (s:Shared) (Q:Value->Shared->Prop) (E:Value->Shared->Prop),Q (.int (g i) s.toks) { s with toks:=s.toks+1 }->wpAny (model X.prog X.w) X.A (f (.int i t)) Q E s) :
  UnR X f (rU λi=>.int (g i)):=by
 intro pins s σ H x v Q I rx h
 obtain⟨i,rfl,q⟩:=h
 obtain⟨t,rfl⟩:=rx
 exact rule i t s _ _ ⟨.int (g i),H,I.tok _,⟨_,rfl⟩,q⟩
theorem un_neg:UnR X (unaryOp .USub) (rU λi=>.int (-i)):=unI λ_ _ _ _ _ q=>neg_int q
end
def scal:V->V->Bool
 | .non,.non=>true | .non,.int _=>true | .int _,.non=>true | .non,.bl _=>true | .bl _,.non=>true | .non,.str _=>true | .str _,.non=>true
 | .int _,.int _=>true | .bl _,.bl _=>true | .str _,.str _=>true | .byt _,.byt _=>true
 | .int _,.str _=>true | .str _,.int _=>true | .bl _,.str _=>true | .str _,.bl _=>true
 | _,_=>false
def rEq:R2:=λx y H Q=>scal x y=true/\Q (.bl (decide (x=y))) H
def rNe:R2:=λx y H Q=>scal x y=true/\Q (.bl (!decide (x=y))) H
theorem dec_int {i j:Int}:decide (V.int i=V.int j)=(i == j):=by
 rw[Bool.eq_iff_iff]
 simp
theorem dec_bl {i j:Bool}:decide (V.bl i=V.bl j)=(i == j):=by
 rw[Bool.eq_iff_iff]
 simp
theorem dec_str {i j:Str}:decide (V.str i=V.str j)=(i == j):=by
 rw[Bool.eq_iff_iff]
 simp
theorem dec_byt {i j:Array UInt8}:decide (V.byt i=V.byt j)=(i.toList == j.toList):=by
 rw[Bool.eq_iff_iff]
 cases i
 cases j
 simp
section
variable {X:Cx}{a b c:Expr}{ta tb tc:TE}{pos:Pos}
theorem fin_bl {pins:List (Addr×Obj)}{σ:St}{H:Hp}{s:Shared}{Q:VK}{k k':Bool}(I:Inv X pins σ H s)(q:Q (.bl k) H)(e:k=k'):EP X pins σ Q (.bool k') s:=by
 subst e
 exact⟨.bl k,H,I,rfl,q⟩
theorem op_eq:OpR X (compareOp .Eq) rEq:=by
 intro pins s σ H x y v u Q I rx ry h
 obtain⟨hs,q⟩:=h
 cases x with
 | non =>
  cases rx
  cases y with
  | non=>cases ry;exact PySem.EqNone.eq_none_none (fin_bl I q (by simp))
  | bl j=>cases ry;exact PySem.EqNone.eq_none_bool (fin_bl I q (by simp))
  | int j=>obtain⟨t',rfl⟩:=ry;exact PySem.EqNone.eq_none_int (fin_bl I q (by simp))
  | str j=>obtain⟨t',rfl⟩:=ry;exact PySem.EqNone.eq_none_str (fin_bl I q (by simp))
  | _=>exact absurd (show false=true from hs) Bool.false_ne_true
 | bl i =>
  cases rx
  cases y with
  | non=>cases ry;exact PySem.EqNone.eq_bool_none (fin_bl I q (by simp))
  | bl j=>cases ry;exact eq_bool (fin_bl I q dec_bl)
  | str j=>obtain⟨t',rfl⟩:=ry;exact PySem.EqMixed.eq_bool_str (fin_bl I q (by simp))
  | _=>exact absurd (show false=true from hs) Bool.false_ne_true
 | int i =>
  obtain⟨t,rfl⟩:=rx
  cases y with
  | non=>cases ry;exact PySem.EqNone.eq_int_none (fin_bl I q (by simp))
  | int j=>obtain⟨t',rfl⟩:=ry;exact eq_int (fin_bl I q dec_int)
  | str j=>obtain⟨t',rfl⟩:=ry;exact PySem.EqMixed.eq_int_str (fin_bl I q (by simp))
  | _=>exact absurd (show false=true from hs) Bool.false_ne_true
 | str i =>
  obtain⟨t,rfl⟩:=rx
  cases y with
  | non=>cases ry;exact PySem.EqNone.eq_str_none (fin_bl I q (by simp))
  | bl j=>cases ry;exact PySem.EqMixed.eq_str_bool (fin_bl I q (by simp))
  | int j=>obtain⟨t',rfl⟩:=ry;exact PySem.EqMixed.eq_str_int (fin_bl I q (by simp))
  | str j=>obtain⟨t',rfl⟩:=ry;exact eq_str (fin_bl I q dec_str)
  | _=>exact absurd (show false=true from hs) Bool.false_ne_true
 | byt i =>
  obtain⟨t,rfl⟩:=rx
  cases y with
  | byt j=>obtain⟨t',rfl⟩:=ry;exact W.eq_bytes (fin_bl I q dec_byt)
  | _=>exact absurd (show false=true from hs) Bool.false_ne_true
 | _=>cases y<;>exact absurd (show false=true from hs) Bool.false_ne_true
theorem op_ne:OpR X (compareOp .NotEq) rNe:=by
 intro pins s σ H x y v u Q I rx ry h
 obtain⟨hs,q⟩:=h
 cases x with
 | non =>
  cases rx
  cases y with
  | non=>cases ry;exact PySem.EqNone.ne_none_none (fin_bl I q (by simp))
  | bl j=>cases ry;exact PySem.EqNone.ne_none_bool (fin_bl I q (by simp))
  | int j=>obtain⟨t',rfl⟩:=ry;exact PySem.EqNone.ne_none_int (fin_bl I q (by simp))
  | str j=>obtain⟨t',rfl⟩:=ry;exact PySem.EqNone.ne_none_str (fin_bl I q (by simp))
  | _=>exact absurd (show false=true from hs) Bool.false_ne_true
 | bl i =>
  cases rx
  cases y with
  | non=>cases ry;exact PySem.EqNone.ne_bool_none (fin_bl I q (by simp))
  | bl j=>cases ry;exact ne_bool (fin_bl I q (congrArg not dec_bl))
  | str j=>obtain⟨t',rfl⟩:=ry;exact PySem.EqMixed.ne_bool_str (fin_bl I q (by simp))
  | _=>exact absurd (show false=true from hs) Bool.false_ne_true
 | int i =>
  obtain⟨t,rfl⟩:=rx
  cases y with
  | non=>cases ry;exact PySem.EqNone.ne_int_none (fin_bl I q (by simp))
  | int j=>obtain⟨t',rfl⟩:=ry;exact ne_int (fin_bl I q (congrArg not dec_int))
  | str j=>obtain⟨t',rfl⟩:=ry;exact PySem.EqMixed.ne_int_str (fin_bl I q (by simp))
  | _=>exact absurd (show false=true from hs) Bool.false_ne_true
 | str i =>
  obtain⟨t,rfl⟩:=rx
  cases y with
  | non=>cases ry;exact PySem.EqNone.ne_str_none (fin_bl I q (by simp))
  | bl j=>cases ry;exact PySem.EqMixed.ne_str_bool (fin_bl I q (by simp))
  | int j=>obtain⟨t',rfl⟩:=ry;exact PySem.EqMixed.ne_str_int (fin_bl I q (by simp))
  | str j=>obtain⟨t',rfl⟩:=ry;exact ne_str (fin_bl I q (congrArg not dec_str))
  | _=>exact absurd (show false=true from hs) Bool.false_ne_true
 | byt i =>
  obtain⟨t,rfl⟩:=rx
  cases y with
  | byt j=>obtain⟨t',rfl⟩:=ry;exact W.ne_bytes (fin_bl I q (congrArg not dec_byt))
  | _=>exact absurd (show false=true from hs) Bool.false_ne_true
 | _=>cases y<;>exact absurd (show false=true from hs) Bool.false_ne_true
theorem op_lt:OpR X (compareOp .Lt) (rI0 λi j=>.bl (decide (i<j))):=opB0 λ_ _ _ _ _ _ _ q=>lt_int q
theorem op_le:OpR X (compareOp .LtE) (rI0 λi j=>.bl (decide (i<=j))):=opB0 λ_ _ _ _ _ _ _ q=>le_int q
theorem op_gt:OpR X (compareOp .Gt) (rI0 λi j=>.bl (decide (j<i))):=opB0 λ_ _ _ _ _ _ _ q=>gt_int q
theorem op_ge:OpR X (compareOp .GtE) (rI0 λi j=>.bl (decide (j<=i))):=opB0 λ_ _ _ _ _ _ _ q=>ge_int q
theorem op_isN:OpR X (compareOp .Is) (λx y H Q=>y=.non/\Q (.bl (decide (x=.non))) H):=by
 intro pins s σ H x y v u Q I rx ry h
 obtain⟨rfl,q⟩:=h
 cases ry
 refine is_none_gen (fin_bl I q ?_)
 cases x<;>first
  | (cases rx;rfl)
  | (obtain⟨t,rfl⟩:=rx;rfl)
theorem nomark (b:Expr){op:CmpOp}(h:op≠.In:=by decide)(h2:op≠.NotIn:=by decide):behindInMarks op b=false:=by
 have e1:(op == CmpOp.In)=false:=by cases op<;>first | rfl | exact absurd rfl h
 have e2:(op == CmpOp.NotIn)=false:=by cases op<;>first | rfl | exact absurd rfl h2
 cases b<;>simp[behindInMarks,e1,e2]
theorem pe_cmpR {op:CmpOp}{r:R2}(ho:OpR X (compareOp op) r)(ha:PE X a ta)(hb:PE X b tb)(hm:behindInMarks op b=false):PE X (.Compare a [op] [b] pos) (tOp r ta tb):=by
 intro pins s σ H Q I h
 exact wpAny_Compare1 (binT ha hb I h λv u s2 x y H2 I2 rx ry q=>ho pins s2 σ H2 x y v u Q I2 rx ry q) hm
def TruV (K:W.Frag)(x:V)(H:Hp)(k:Bool):Prop :=
 match x with
 | .non=>k=false
 | .bl b=>k=b
 | .int i=>k=(i != 0)
 | .str y=>y.length<=sizeLine/\k=((y.length:Int) != 0)
 | .byt y=>y.size<=sizeLine/\k=((y.size:Int) != 0)
 | .ref p=>(∃ xs,SqL K H p xs/\k=!xs.isEmpty)\/(∃ xs,SqT K H p xs/\k=!xs.isEmpty)\/∃ kvs,H p=some (.dK kvs)/\k=!kvs.isEmpty
 | _=>False
theorem isEmpty_kv {κ:Type}{kvs:List (κ×V)}{vs:List (κ×Value)}(r:KV kvs vs):(!vs.isEmpty)=!kvs.isEmpty:=by
 cases r<;>rfl
theorem isEmpty_of {xs:List V}{its:List Value}(r:Vals xs its):(!its.toArray.isEmpty)=!xs.isEmpty:=by
 cases r<;>simp
theorem line63:(sizeLine:Nat)<2 ^ 63:=by rw[sizeLine_eq];decide
theorem tru_ok:TruR X (λx H Q=>∃ k,TruV X.K x H k/\Q k H):=by
 intro pins s σ H x v Q I rx h
 obtain⟨k,e,q⟩:=h
 have hl:=line63
 have hs:sizeLine=16777216:=sizeLine_eq
 cases x with
 | non =>
  cases rx
  have e':k=false:=e
  subst e'
  exact truthy_none ⟨H,I,q⟩
 | bl b =>
  cases rx
  have e':k=b:=e
  subst e'
  exact wpAny_truthy_bool ⟨H,I,q⟩
 | int i =>
  obtain⟨t,rfl⟩:=rx
  have e':k=(i != 0):=e
  subst e'
  exact PySem.P.truthy_int ⟨H,I,q⟩
 | str y =>
  obtain⟨t,rfl⟩:=rx
  obtain⟨hy,e'⟩:y.length<=sizeLine/\k=((y.length:Int) != 0):=e
  subst e'
  exact PySem.P.truthy_str (by omega) ⟨H,I.tok _,q⟩
 | byt y =>
  obtain⟨t,rfl⟩:=rx
  obtain⟨hy,e'⟩:y.size<=sizeLine/\k=((y.size:Int) != 0):=e
  subst e'
  exact W.truthy_bytes (by omega) ⟨H,I.tok _,q⟩
 | ref p =>
  cases rx
  have e':(∃ xs,SqL X.K H p xs/\k=!xs.isEmpty)\/(∃ xs,SqT X.K H p xs/\k=!xs.isEmpty)\/∃ kvs,H p=some (.dK kvs)/\k=!kvs.isEmpty:=e
  rcases e' with ⟨xs,hx,e'⟩ | ⟨xs,hx,e'⟩ | ⟨kvs,hx,e'⟩
  ·subst e'
   obtain⟨its,r,pl,hz⟩:=I.list hx
   have hlen:=r.length
   exact wpAny_truthy_list pl.isList (by simp only[List.size_toArray];omega) ⟨H,I.tok _,by rw[isEmpty_of r];exact q⟩
  ·subst e'
   obtain⟨its,r,pl,hz⟩:=I.tuple hx
   have hlen:=r.length
   exact truthy_tuple pl (by simp only[List.size_toArray];omega) ⟨H,I.tok _,by rw[isEmpty_of r];exact q⟩
  ·subst e'
   obtain⟨hz,hS,vs,r,m⟩:kvs.length<=sizeLine/\(p == sysModules)=false/\∃ vs,KV kvs vs/\s.heap.DictOf (mixKind X.prog X.w) p vs:=I.hok p _ hx
   have hlen:kvs.length=vs.length:=Paired.length r
   exact wpAny_truthy_dict hS m (by omega) ⟨H,I.tok _,by rw[isEmpty_kv r];exact q⟩
 | _=>exact(show False from e).elim
theorem op_add_str:OpR X (binaryOp .Add) (λx y H Q=>∃ i j,x=.str i/\y=.str j/\i.length+j.length<=sizeLine/\Q (.str (i++j)) H):=by
 intro pins s σ H x y v u Q I rx ry h
 obtain⟨i,j,rfl,rfl,hz,q⟩:=h
 obtain⟨t,rfl⟩:=rx
 obtain⟨t',rfl⟩:=ry
 exact add_str (λt' tk=>⟨.str (i++j),H,I.tok _,⟨_,rfl⟩,q⟩) hz
theorem vals1 {x:V}{us:List Value}(r:Vals [x] us):∃ u,us=[u]/\RelV x u:=by
 cases r with
 | cons r1 r2=>cases r2;exact⟨_,rfl,r1⟩
theorem vals2 {x y:V}{us:List Value}(r:Vals [x,y] us):∃ u w',us=[u,w']/\RelV x u/\RelV y w':=by
 cases r with
 | cons r1 r2 =>
  cases r2 with
  | cons r3 r4=>cases r4;exact⟨_,_,rfl,r1,r3⟩
theorem call_max2 (hc:X.calm=true):CallR X (.builtin "max") (λxs H Q=>∃ i j,xs=[.int i,.int j]/\Q (.int (if j > i then j else i)) H):=by
 intro pins s σ H xs us Q I r h
 obtain⟨i,j,rfl,q⟩:=h
 obtain⟨u,w',rfl,⟨t,rfl⟩,⟨t',rfl⟩⟩:=vals2 r
 refine max_two_ints (I.ok.hd hc) λh' tk k=>⟨_,H,I.kept k,?_,q⟩
 by_cases hj:j > i
 ·rw[if_pos hj,if_pos hj];exact⟨_,rfl⟩
 ·rw[if_neg hj,if_neg hj];exact⟨_,rfl⟩
theorem call_min2 (hc:X.calm=true):CallR X (.builtin "min") (λxs H Q=>∃ i j,xs=[.int i,.int j]/\Q (.int (if j<i then j else i)) H):=by
 intro pins s σ H xs us Q I r h
 obtain⟨i,j,rfl,q⟩:=h
 obtain⟨u,w',rfl,⟨t,rfl⟩,⟨t',rfl⟩⟩:=vals2 r
 refine min_two_ints (I.ok.hd hc) λh' tk k=>⟨_,H,I.kept k,?_,q⟩
 by_cases hj:j<i
 ·rw[if_pos hj,if_pos hj];exact⟨_,rfl⟩
 ·rw[if_neg hj,if_neg hj];exact⟨_,rfl⟩
theorem call_int1:CallR X (.type "int") (λxs H Q=>(∃ i,xs=[.int i]/\Q (.int i) H)\/∃ k,xs=[.bl k]/\Q (.int (if k then 1 else 0)) H):=by
 intro pins s σ H xs us Q I r h
 rcases h with ⟨i,rfl,q⟩ | ⟨k,rfl,q⟩
 ·obtain⟨u,rfl,t,rfl⟩:=vals1 r
  exact call_int_int ⟨.int i,H,I,⟨_,rfl⟩,q⟩
 ·obtain⟨u,rfl,r1⟩:=vals1 r
  cases r1
  exact call_int_bool ⟨.int (if k then 1 else 0),H,I.tok _,⟨_,rfl⟩,q⟩
end
end L2
namespace L2
open PySem PySem.Spec PyProof.Rows
structure ObjM (h:Heap)(x dx C:Addr)(mA:Str->Option Value):Prop where
 obj:h.get? x=some (W.instObj C dx)
 ns:h.Ns1 dx mA
 ne:dx≠x
theorem lookIn_ns {h:Heap}{dx:Addr}{mA:Str->Option Value}(n:h.Ns1 dx mA):∃ od,h.get? dx=some od/\∀ name,W.lookIn name od=some (mA name):=by
 obtain⟨o,es,ep,ho,hd,hk,_,hm⟩:=n
 refine⟨o,ho,λname=>?_⟩
 have e:=hm name
 unfold nsFind findBy at e
 rw[<- Array.find?_toList] at e
 unfold W.lookIn
 rw[hd]
 dsimp only
 split
 ·rename_i y q
  rw[q] at e
  exact congrArg some e
 ·rename_i q
  rw[q] at e
  have a:es.toList.any (·.refKey)=false:=by
   rw[List.any_eq_false]
   intro y hy
   obtain⟨z,t,hkey⟩:=hk y (Array.mem_toList_iff.mp hy)
   simp[DictEntry.refKey,hkey]
  have a':¬ es.toList.any (·.refKey)=true:=by rw[a];exact Bool.false_ne_true
  rw[if_neg a']
  exact congrArg some e
theorem ObjM.look {h:Heap}{x dx C:Addr}{mA:Str->Option Value}(I:ObjM h x dx C mA):∃ od,W.InstAt h x (W.instObj C dx) C (some od)/\∀ name,W.lookIn name od=some (mA name) :=
 let ⟨od,ho,hl⟩:=lookIn_ns I.ns
 ⟨od,⟨I.obj,rfl,rfl,ho⟩,hl⟩
section
variable {prog:Program}{w:World}{A:Around}{E:Value->Shared->Prop}{s:Shared}{K:W.Frag}{x dx C f:Addr}{mA:Str->Option Value}{name:Str}{v:Value}
end
section
variable {P:Program}{w:World}{H H':Hp}{h h':Heap}{a C dx:Addr}{fs fs':List (Str×V)}
theorem ins_get (hok:HOk P w H h)(e:H a=some (.ins C dx fs)):∃ mA,ObjM h a dx C mA/\(∀ f,RelO (fs.lookup f) (mA f))/\PySem.Within mA (fs.map (·.1))/\fs.length<=1000/\H dx=some (.own a):=by
 obtain⟨d,z,ne,ob,mA,n,r,q⟩:=(show ObjOk P w H h a (.ins C dx fs) from hok a _ e)
 exact⟨mA,⟨ob,n,ne⟩,r,q,z,d⟩
end
structure Cls (K:W.Frag)(C:Addr):Prop where
 pg:W.plainGet K C Str.empty=true
 hd:W.hasDictIn K C=true
 po:W.plainOver K C=true
 sa:W.findIn K (.ref C) "__setattr__"=some (some (.builtin "object.__setattr__"))
theorem Cls.get {K:W.Frag}{C:Addr}(c:Cls K C)(f:Str):W.plainGet K C f=true:=c.pg
structure Con (K:W.Frag)(C:Addr)(f:Str)(v:V)(u:Value):Prop where
 at_:W.findIn K (.ref C) f=some (some u)
 rel:RelV v u
 get:W.specialIn K u "__get__"=some none
 cp:W.copiedNames.contains f=false
structure Meth (K:W.Frag)(C:Addr)(m:Str)(f:Addr):Prop where
 at_:W.findIn K (.ref C) m=some (some (.ref f))
 fn:W.isFn K (.ref f)=true
 kp:W.keepIn K (.ref f)=true
section
variable {X:Cx}{pins:List (Addr×Obj)}{σ:St}{H:Hp}{s:Shared}{a C dx:Addr}{fs:List (Str×V)}{f:Str}{v:V}{A:Around}{E:Value->Shared->Prop}
end
section
variable {X:Cx}{o e value:Expr}{f:Str}{pos pos' tpos:Pos}{ta tv:TE}
end
section
variable {X:Cx}{pins:List (Addr×Obj)}{σ:St}{H:Hp}{s:Shared}{A:Around}{E:Value->Shared->Prop}{Q:Value->Shared->Prop}{c:Value}{b:Bool}
inductive TyOf (K:W.Frag)(H:Hp):V->Value->Prop where
 | non:TyOf K H .non (.type "NoneType")
 | bl (x:Bool):TyOf K H (.bl x) (.type "bool")
 | int (i:Int):TyOf K H (.int i) (.type "int")
 | str (x:Str):TyOf K H (.str x) (.type "str")
 | flt (x:UInt64):TyOf K H (.flt x) (.type "float")
 | lst {a:Addr} {xs:List V} (e:H a=some (.lst xs)):TyOf K H (.ref a) (.type "list")
 | frz {a:Addr} {o:Obj} {xs:List V} (e:H a=some (.frz o (.lst xs))):TyOf K H (.ref a) (.type "list")
 | tup {a:Addr} {xs:List V} (e:H a=some (.tup xs)):TyOf K H (.ref a) (.type "tuple")
 | dK {a:Addr} {kvs:List (Key×V)} (e:H a=some (.dK kvs)):TyOf K H (.ref a) (.type "dict")
 | dT {a:Addr} {kvs:List (List Key×V)} (e:H a=some (.dT kvs)):TyOf K H (.ref a) (.type "dict")
 | ins {a C dx:Addr} {fs:List (Str×V)} (e:H a=some (.ins C dx fs)) (cl:Cls K C) (ha:W.findIn K (.ref C) "__class__"=some (some (.builtin "object.__class__")))
   (hn:W.specialIn K (.builtin "object.__class__") "__get__"=some (some (.builtin "getset_descriptor.__get__"))) (htk:W.takesIn K (.builtin "object.__class__")=some true)
   (hm:W.mroIn K C (.type "object")=some true):TyOf K H (.ref a) (.ref C)
theorem isinst_ok {x:V}{u t:Value}(I:Inv X pins σ H s)(rx:RelV x u)(ty:TyOf X.K H x t)(e:W.kitOne X.K t c=some b)(h:∀ tk,Q (.bool b) { s with toks:=tk }) :
  wpAny (model X.prog X.w) A (call (.builtin "isinstance") [u,c]) Q E s:=by
 cases ty with
 | non=>cases (show u=Value.none from rx);exact W.kia_one W.kitx_none I.kIn True.intro e (λz=>nomatch z) h
 | bl y=>cases (show u=Value.bool y from rx);exact W.kia_one W.kitx_bool I.kIn True.intro e (λz=>nomatch z) h
 | int i=>obtain⟨t,q⟩:=(show ∃ t,u=Value.int i t from rx);cases q;exact W.kia_one W.kitx_int I.kIn True.intro e (λz=>nomatch z) h
 | str y=>obtain⟨t,q⟩:=(show ∃ t,u=Value.str y t from rx);cases q;exact W.kia_one W.kitx_str I.kIn True.intro e (λz=>nomatch z) h
 | flt y=>obtain⟨t,q⟩:=(show ∃ t,u=Value.float y t from rx);cases q;exact W.kia_one W.kitx_float I.kIn True.intro e (λz=>nomatch z) h
 | @lst a xs ea =>
  cases (show u=Value.ref a from rx)
  obtain⟨_,_,n,_,h1⟩:=(show ObjOk X.prog X.w H s.heap a (.lst xs) from I.hok a _ ea)
  exact W.kia_one W.kitx_list I.kIn ⟨_,h1,rfl⟩ e (λz=>nomatch z) h
 | @frz a ob xs ea =>
  cases (show u=Value.ref a from rx)
  obtain⟨_,_,_,n,_,h1⟩:=(show ObjOk X.prog X.w H s.heap a (.frz ob (.lst xs)) from I.hok a _ ea)
  exact W.kia_one W.kitx_list I.kIn ⟨_,h1,rfl⟩ e (λz=>nomatch z) h
 | @tup a xs ea =>
  cases (show u=Value.ref a from rx)
  obtain⟨_,_,_,p⟩:=(show ObjOk X.prog X.w H s.heap a (.tup xs) from I.hok a _ ea)
  obtain⟨o,h1,h2,_⟩:=p
  exact W.kia_one W.kitx_tuple I.kIn ⟨o,h1,h2⟩ e (λz=>nomatch z) h
 | @dK a kvs ea =>
  cases (show u=Value.ref a from rx)
  obtain⟨_,_,vs,_,p⟩:=(show ObjOk X.prog X.w H s.heap a (.dK kvs) from I.hok a _ ea)
  obtain⟨o,es,ep,h1,h2,_⟩:=p
  exact W.kia_one W.kitx_dict I.kIn ⟨o,h1,h2.1⟩ e (λz=>nomatch z) h
 | @dT a kvs ea =>
  cases (show u=Value.ref a from rx)
  obtain⟨_,_,xs,_,o,es,ep,h1,h2,_⟩:=(show ObjOk X.prog X.w H s.heap a (.dT kvs) from I.hok a _ ea)
  exact W.kia_one W.kitx_dict I.kIn ⟨o,h1,h2.1⟩ e (λz=>nomatch z) h
 | @ins a C dx fs ea cl ha hn htk hm =>
  cases (show u=Value.ref a from rx)
  obtain⟨mA,O,_⟩:=ins_get I.hok ea
  obtain⟨od,J,_⟩:=O.look
  exact W.kia_one (W.kitx_own (cl.get _) cl.hd ha hn htk hm) I.kIn J e (λz=>nomatch z) h
end
end L2
namespace L2
open PySem PySem.Spec PyProof.Rows
structure Room (k:Nat)(A:Around):Prop where
 hd:A.handled=none
 dp:A.depth+3*k+5<recursionLimit
 un:A.units+16*k+200<cLine
 gd:A.guards=some []
theorem Room.mono {j k:Nat}{A:Around}(r:Room k A)(h:j<=k):Room j A:=⟨r.hd,by have:=r.dp;omega,by have:=r.un;omega,r.gd⟩
theorem Room.deeper {k:Nat}{A:Around}(r:Room (k+1) A)(env:Env):Room k (A.deeper env) :=
 ⟨r.hd,by have:=r.dp;show A.depth+1+3*k+5<_;omega,by have:=r.un;show A.units+3+16*k+200<_;omega,r.gd⟩
theorem Room.depth {k:Nat}{A:Around}(r:Room k A):A.depth<recursionLimit:=by have:=r.dp;omega
theorem Room.units {k:Nat}{A:Around}(r:Room k A):A.units+64<cLine:=by have:=r.un;omega
theorem Room.units0 {k:Nat}{A:Around}(r:Room k A):A.units<cLine:=by have:=r.un;omega
def tNil:TA:=λ_ H Q=>Q [] H
def tCons (ta:TE)(tr:TA):TA:=λσ H Q=>ta σ H λx H1=>tr σ H1 λxs H2=>Q (x::xs) H2
section
variable {X:Cx}{e:Expr}{es:List Expr}{te:TE}{t:TA}{pos:Pos}
theorem pa_nil:PA X [] tNil:=λ_ _ _ _ H Q I h=>Calls.spliced_nil ⟨[],H,I,.nil,h⟩
theorem pa_cons (ha:PE X e te)(hr:PA X es t)(hs:starEach (e::es) X.env=(false,eval e X.env)::starEach es X.env:=by rfl):PA X (e::es) (tCons te t):=by
 intro pos pins s σ H Q I h
 rw[hs]
 show wpAny _ _ (spliced ((false,eval e X.env)::backTo pos (starEach es X.env))) _ _ s
 refine Calls.spliced_cons (thn (ha pins s σ H _ I h) λu s1 ⟨x,H1,I1,r1,q1⟩=>?_)
 exact thn (hr pos pins s1 σ H1 _ I1 q1) λus s2 ⟨xs,H2,I2,r2,q2⟩=>⟨x::xs,H2,I2,.cons r1 r2,q2⟩
def tTup (t:TA):TE:=λσ H Q=>t σ H λxs H1=>xs.length<=sizeLine/\∀ p,H1 p=none->Q (.ref p) (upd H1 p (.tup xs))
def tLst (t:TA):TE:=λσ H Q=>t σ H λxs H1=>xs.length<=sizeLine/\∀ p,H1 p=none->Q (.ref p) (upd H1 p (.lst xs))
theorem pe_tup {x1}(h:PA X es t):PE X (.Tuple es x1 pos) (tTup t):=by
 intro pins s σ H Q I hq
 refine wpAny_Tuple_spliced (thn (h pos pins s σ H _ I hq) λus s1 ⟨xs,H1,I1,r,z,q⟩=>⟨by rw[<- r.length];exact z,?_⟩)
 have hf:H1 s1.heap.objs.size=none:=I1.hok.fresh (Nat.le_refl _)
 refine⟨.ref s1.heap.objs.size,upd H1 s1.heap.objs.size (.tup xs),I1.laid (t':=s1.toks) (λb u e=>Heap.get?_push_of_some _ e) (Nat.le_refl _) ?_,rfl,q _ hf⟩
 exact⟨z,us,r,⟨_,Heap.get?_push_size _ rfl,rfl,_,rfl⟩⟩
theorem pe_lst (h:PA X es t):PE X (.List es pos) (tLst t):=by
 intro pins s σ H Q I hq
 refine wpAny_List_spliced (thn (h pos pins s σ H _ I hq) λus s1 ⟨xs,H1,I1,r,z,q⟩=>⟨by rw[<- r.length];exact z,?_⟩)
 have hf:H1 s1.heap.objs.size=none:=I1.hok.fresh (Nat.le_refl _)
 refine⟨.ref s1.heap.objs.size,upd H1 s1.heap.objs.size (.lst xs),I1.laid (t':=s1.toks) (λb u e=>Heap.get?_push_of_some _ e) (Nat.le_refl _) ?_,rfl,q _ hf⟩
 exact⟨z,us,0,r,Heap.get?_push_size _ rfl⟩
end
abbrev Sp:=List V->Hp->VK->XK->Prop
abbrev CXT:=List Env->Hp->Shared->XK->Value->Shared->Prop
structure Env0 (P:Program)(w:World)(K:W.Frag)(mg:Str->Option Value)(base:Heap)(A:Around)(outer:List Env)(s:Shared)(H:Hp):Prop where
 frames:A.frames=some outer
 mod:Mod K mg base
 bs:∀ b o,base.get? b=some o->s.heap.get? b=some o/\H b=none
 bsz:base.objs.size<=s.heap.objs.size
 funs:s.heap.FunFrames base outer
 frf:∀ b∈frs outer,H b=none
 hok:HOk P w H s.heap
 bare:AllBare s.gens
def CE (outer:List Env)(P:Program)(w:World)(H:Hp)(s:Shared)(Q:VK)(u:Value)(s':Shared):Prop :=
 ∃ v H',s'.os=s.os/\AllBare s'.gens/\Un (frs outer) [] H H' s.heap s'.heap/\HOk P w H' s'.heap/\RelV v u/\Q v H'
def CR (CX:CXT)(outer:List Env)(P:Program)(w:World)(H:Hp)(s:Shared)(Q:VK)(E:XK)(r:Result)(s':Shared):Prop :=
 match r with
 | .ok (.ret u)=>CE outer P w H s Q u s'
 | .ok _=>False
 | .error e=>CX outer H s E e s'
structure FnOk (P:Program)(w:World)(K:W.Frag)(mg:Str->Option Value)(base:Heap)(CX:CXT)(k:Nat)(f:Addr)(fd:FuncData)(ps:List Str)(sp:Sp):Prop where
 len:∀ vs H Q E,sp vs H Q E->vs.length=ps.length
 run:∀ (A:Around) (outer:List Env) (s:Shared) (H:Hp) (args:Args) (us:List Value) (vs:List V) (Q:VK) (E:XK),Room k A->Env0 P w K mg base A outer s H->BindsTo s fd args (ps.zip us)->Vals vs us->sp vs H Q E ->
  codeAny (model P w) A (.call (.ref f) args) (CR CX outer P w H s Q E) s
section
variable {X:Cx}{pins:List (Addr×Obj)}{σ:St}{H:Hp}{s s':Shared}
theorem Inv.env0 (I:Inv X pins σ H s):Env0 X.prog X.w X.K X.mg X.base X.A X.stack s H :=
 ⟨I.ok.frames,I.ok.mod,I.bs,Nat.le_trans I.ok.bsz I.sz,I.stack,I.stkFree,I.hok,I.bare⟩
theorem Inv.after {Q:VK}{u:Value}(I:Inv X pins σ H s)(h:CE X.stack X.prog X.w H s Q u s'):EP X pins σ Q u s':=by
 obtain⟨v,H',os,bare,un,hok,r,q⟩:=h
 obtain⟨hh,g,d,t,os'⟩:=s'
 obtain rfl:os'=s.os:=os
 exact⟨v,H',I.call (h':=hh) (g':=g) (d':=d) (t':=t) (ch:=[]) un hok bare (λb z=>absurd z (by simp)),r,q⟩
end
def tCall (sp:Sp)(dvs:List V)(E:XK)(t:TA):TE:=λσ H Q=>t σ H λvs H1=>sp (vs++dvs) H1 Q E
def Binds (K:W.Frag)(fd:FuncData)(ps:List Str)(ds:List Value):Prop :=
 ∀ (s:Shared) (us:List Value),K.In s.heap->(us++ds).length=ps.length->BindsTo s fd ⟨us,[]⟩ (ps.zip (us++ds))
theorem Binds.all {K:W.Frag}{fd:FuncData}{ps:List Str}(h:∀ us:List Value,us.length=ps.length->bindArgs fd ⟨us,[]⟩=pure (ps.zip us)):Binds K fd ps []:=λs us _ hl=>by
 rw[List.append_nil] at hl ⊢
 exact .of_eq (h us hl)
def Passes (CX:CXT)(X:Cx)(E:XK):Prop:=∀ (pins:List (Addr×Obj)) (σ:St) (H:Hp) (s:Shared) (e:Value) (s':Shared),Inv X pins σ H s->CX X.stack H s E e s'->X.xe e s'
section
variable {X:Cx}{CX:CXT}{k:Nat}{f C:Addr}{fd:FuncData}{ps:List Str}{sp:Sp}{dvs:List V}{ds:List Value}{E:XK}{x m:Str}{p pos apos:Pos}{e o:Expr}{es:List Expr}{ta:TE}{t:TA}
theorem run_fn {pins:List (Addr×Obj)}{σ:St}{H:Hp}{s:Shared}{Q:VK}{us:List Value}{vs:List V}(F:FnOk X.prog X.w X.K X.mg X.base CX k f fd ps sp)(hr:Room k X.A)(hb:Binds X.K fd ps ds)(hd:Vals dvs ds)(hx:Passes CX X E)
  (I:Inv X pins σ H s) (r:Vals vs us) (h:sp (vs++dvs) H Q E):wpAny (model X.prog X.w) X.A (call (.ref f) us) (EP X pins σ Q) X.xe s:=by
 have r2:Vals (vs++dvs) (us++ds):=r.append hd
 have hl:(us++ds).length=ps.length:=by rw[<- r2.length];exact F.len _ _ _ _ h
 refine wpAny_call (codeAny_mono (F.run X.A X.stack s H ⟨us,[]⟩ (us++ds) (vs++dvs) Q E hr I.env0 (hb s us I.kIn hl) r2 h) λr s' hq=>?_)
 cases r with
 | error e=>exact hx pins σ H s e s' I hq
 | ok fl =>
  cases fl with
  | ret u=>exact I.after hq
  | next=>exact False.elim hq
  | brk=>exact False.elim hq
  | cont=>exact False.elim hq
theorem pe_call (F:FnOk X.prog X.w X.K X.mg X.base CX k f fd ps sp)(hr:Room k X.A)(hg:Gl X x)(hm:X.mg x=some (.ref f))(hk:W.keepIn X.K (.ref f)=true)(hb:Binds X.K fd ps ds)(hd:Vals dvs ds)(hx:Passes CX X E)
  (ha:PA X (e::es) t) (hdb:(x == ("__debug__":Str))=false:=by decide) (he:starEach (e::es) X.env=(false,eval e X.env)::starEach es X.env:=by rfl) (hpl:(backTo pos (starEach es X.env)).any (·.1)=false:=by rfl) :
  PE X (.Call (.Name x p) (e::es) [] pos) (tCall sp dvs E t):=by
 intro pins s σ H Q I h
 refine wpAny_Call_Name_kw (ld_glob I hg hm ?_ hdb)
 refine W.callWith_K (h₀:=X.base) I.ok.mod.kin hk (thn (ha pos pins s σ H _ I h) λus s1 ⟨vs,H1,I1,r,q⟩=>⟨I1.kIn,?_⟩) he hpl
 exact run_fn F hr hb hd hx I1 r q
structure Mk (K:W.Frag)(C f:Addr):Prop where
 makes:W.makesIn K C=true
 init:W.findIn K (.ref C) "__init__"=some (some (.ref f))
 fn:W.isFn K (.ref f)=true
 kp:W.keepIn K (.ref C)=true
end
def PK (X:Cx)(kws:List Keyword)(t:TA):Prop :=
 ∀ (pos:Pos) (pins:List (Addr×Obj)) (s:Shared) (σ:St) (H:Hp) (Q:List V->Hp->Prop),Inv X pins σ H s->t σ H Q->wpAny (model X.prog X.w) X.A (evalAll ((backToKw pos (keywordEach kws X.env)).map (·.2))) (AP X pins σ Q) X.xe s
section
variable {X:Cx}{CX:CXT}{k:Nat}{f C:Addr}{fd:FuncData}{ps ks:List Str}{sp:Sp}{E:XK}{x m:Str}{p pos apos kpos:Pos}{e o:Expr}{es:List Expr}{kws:List Keyword}{te ta:TE}{t tk:TA}{nm:Option Str}
theorem pk_nil:PK X [] tNil:=λ_ _ _ _ H Q I h=>wpAny_evalAll_nil ⟨[],H,I,.nil,h⟩
theorem pk_cons (ha:PE X e te)(hr:PK X kws t):PK X (⟨nm,e,kpos⟩::kws) (tCons te t):=by
 intro pos pins s σ H Q I h
 show wpAny _ _ (evalAll ((do let v <- eval e X.env;standAt pos;pure v)::(backToKw pos (keywordEach kws X.env)).map (·.2))) _ _ s
 refine wpAny_evalAll_cons (wpAny_bind (thn (ha pins s σ H _ I h) λu s1 ⟨x,H1,I1,r1,q1⟩=>wpAny_bind (wpAny_standAt (wpAny_pure ?_))))
 exact thn (hr pos pins s1 σ H1 _ I1 q1) λus s2 ⟨xs,H2,I2,r2,q2⟩=>⟨x::xs,H2,I2,.cons r1 r2,q2⟩
structure KBinds (K:W.Frag)(fd:FuncData)(ps ks:List Str)(g:List Value->List Value->List Value)(gV:List V->List V->List V):Prop where
 to:∀ (s:Shared) (us ws:List Value),K.In s.heap->(g us ws).length=ps.length->BindsTo s fd ⟨us,ks.zip ws⟩ (ps.zip (g us ws))
 rel:∀ {vs:List V} {us:List Value} {zs:List V} {ws:List Value},Vals vs us->Vals zs ws->Vals (gV vs zs) (g us ws)
variable {g:List Value->List Value->List Value}{gV:List V->List V->List V}
end
structure FnScope (N P:List Str)(sc:Scope):Prop where
 kind:sc.kind=.function
 co:sc.isCoroutine=false
 gen:sc.isGenerator=false
 nd:N.Nodup
 pre:N.take P.length=P
 par:∀ x∈P,sc.names.lookup x=some .local\/sc.names.lookup x=some .cell
 nofree:∀ y∈sc.names,y.2≠.free
theorem bindL_out {kindOf:Str->Option NameKind}{x:Str}:∀ {binds:List (Str×Value)} {m:Str->Option Value},(∀ v,(x,v)∉binds)->bindL kindOf binds m x=m x
 | [],_,_=>rfl
 | (n,v)::r,m,h=>by
  unfold bindL
  rw[bindL_out λw hw=>h w (List.mem_cons_of_mem _ hw)]
  split
  ·have:x≠n:=by rintro rfl;exact h v List.mem_cons_self
   simp[this]
  ·rfl
theorem bindC_out {kindOf:Str->Option NameKind}{x:Str}:∀ {binds:List (Str×Value)} {m:Str->Option Value},(∀ v,(x,v)∉binds)->bindC kindOf binds m x=m x
 | [],_,_=>rfl
 | (n,v)::r,m,h=>by
  unfold bindC
  rw[bindC_out λw hw=>h w (List.mem_cons_of_mem _ hw)]
  split
  ·rfl
  ·have:x≠n:=by rintro rfl;exact h v List.mem_cons_self
   simp[this]
theorem bindL_get {kindOf:Str->Option NameKind}{x:Str}{v:Value}:∀ {P:List Str} {vs:List Value} {i:Nat} {m:Str->Option Value},P.Nodup->P[i]?=some x->vs[i]?=some v->kindOf x=some .local ->
  bindL kindOf (P.zip vs) m x=some v
 | [],_,_,_,_,h,_,_=>by simp at h
 | _::_,[],_,_,_,_,h,_=>by simp at h
 | p::P,w::vs,0,m,nd,h1,h2,hk=>by
  simp at h1 h2;subst h1;subst h2
  show bindL kindOf ((p,w)::P.zip vs) m p=_
  unfold bindL
  rw[bindL_out λv hv=>(List.nodup_cons.mp nd).1 (List.of_mem_zip hv).1,if_pos hk]
  simp
 | p::P,w::vs,i+1,m,nd,h1,h2,hk=>by
  show bindL kindOf ((p,w)::P.zip vs) m x=_
  unfold bindL
  exact bindL_get (i:=i) (List.nodup_cons.mp nd).2 (by simpa using h1) (by simpa using h2) hk
theorem bindC_get {kindOf:Str->Option NameKind}{x:Str}{v:Value}:∀ {P:List Str} {vs:List Value} {i:Nat} {m:Str->Option Value},P.Nodup->P[i]?=some x->vs[i]?=some v->kindOf x≠some .local ->
  bindC kindOf (P.zip vs) m x=some v
 | [],_,_,_,_,h,_,_=>by simp at h
 | _::_,[],_,_,_,_,h,_=>by simp at h
 | p::P,w::vs,0,m,nd,h1,h2,hk=>by
  simp at h1 h2;subst h1;subst h2
  show bindC kindOf ((p,w)::P.zip vs) m p=_
  unfold bindC
  rw[bindC_out λv hv=>(List.nodup_cons.mp nd).1 (List.of_mem_zip hv).1,if_neg hk]
  simp
 | p::P,w::vs,i+1,m,nd,h1,h2,hk=>by
  show bindC kindOf ((p,w)::P.zip vs) m x=_
  unfold bindC
  exact bindC_get (i:=i) (List.nodup_cons.mp nd).2 (by simpa using h1) (by simpa using h2) hk
def start (N:List Str)(vs:List V):St:=vs.map some++List.replicate (N.length-vs.length) none
def cxOf (CX:CXT)(P:Program)(w:World)(K:W.Frag)(mg:Str->Option Value)(base:Heap)(N:List Str)(qual:Str)(scope:Scope)(f:Addr)(cd:Value)(A:Around)(outer:List Env)(s:Shared)(H:Hp)(E:XK):Cx where
 prog:=P
 w:=w
 K:=K
 mg:=mg
 base:=base
 A:=A.deeper (envOfC qual scope s.heap.objs.size f cd)
 N:=N
 s₀:=s
 H₀:=H
 env:=envOfC qual scope s.heap.objs.size f cd
 outer:=outer
 stack:=envOfC qual scope s.heap.objs.size f cd::outer
 ex:=[]
 calm:=true
 fn:=λ_=>true
 pn:=[]
 xe:=λe s'=>wpAny (model P w) (A.deeper (envOfC qual scope s.heap.objs.size f cd)) (leaving (envOfC qual scope s.heap.objs.size f cd) e) (λ_ s''=>CX outer H s E e s'') (λe' s''=>CX outer H s E e' s'') s'
theorem cell_has {sc:Scope}{n:Nat}{x:Str}(h:sc.names.lookup x=some .cell):∃ c,(cellsFrom n sc.names []).lookup x=some c:=by
 have q:=W.cellsFrom_some sc.names n [] (.inl h)
 exact Option.isSome_iff_exists.mp q
theorem inv_start {CX:CXT}{P:Program}{w:World}{K:W.Frag}{mg:Str->Option Value}{base:Heap}{N ps:List Str}{qual:Str}{scope:Scope}{f:Addr}{cd:Value}{A:Around}{outer:List Env}{s s1:Shared}{H:Hp}{E:XK}{us:List Value}{vs:List V}
  (S:FnScope N ps scope) (hd:A.handled=none) (e0:Env0 P w K mg base A outer s H) (hl:vs.length=ps.length) (r:Vals vs us)
  (x:InCallC s s.heap.objs.size (bindL (envOfC qual scope s.heap.objs.size f cd).kindOf (ps.zip us) λ_=>none) (cellsFrom (s.heap.objs.size+1) scope.names []) (bindC (envOfC qual scope s.heap.objs.size f cd).kindOf (ps.zip us) λ_=>none) s1) :
  Inv (cxOf CX P w K mg base N qual scope f cd A outer s H E) [] (start N vs) H s1:=by
 have hpl:ps.length<=N.length:=by have:=congrArg List.length S.pre;rw[List.length_take] at this;omega
 obtain⟨h1,tk,rfl,hk⟩:=x.done
 have noA:∀ b:Addr,b∉(cxOf CX P w K mg base N qual scope f cd A outer s H E).ex:=λb z=>absurd (show b∈([]:List Addr) from z) (by simp)
 refine⟨⟨e0.mod,S.kind,rfl,rfl,Nat.le_refl _,λy z c h1 h2=>?_,λy hy=>?_,λy c _ h=>?_,λ_=>hd,Around.frames_deeper e0.frames,.inr ⟨rfl,rfl⟩,λb z=>absurd z (noA b),e0.bs,e0.bsz,λb _ _=>noA b,λb z=>absurd z (noA b),e0.funs,e0.frf⟩,
  rfl,e0.bare,Un.kept hk,⟨_,x.toInCall.ns,λi y v h1 h2 h3=>?_⟩,λy c h=>⟨_,x.cell y c h⟩,e0.hok.fresh (Nat.le_refl _),λy c h=>?_,λp hp=>absurd (show p∈([]:List (Addr×Obj)) from hp) (by simp),e0.hok.kept hk,?_⟩
 ·exact name_of_addr x.apart (PySem.mem_of_lookup h1) (PySem.mem_of_lookup h2)
 ·have hy:scope.names.lookup y=some .cell\/scope.names.lookup y=some .free:=hy
  rcases hy with hy | hy
  ·exact cell_has hy
  ·exact absurd rfl (S.nofree _ (PySem.mem_of_lookup hy))
 ·exact Nat.le_of_lt (x.above y c (PySem.mem_of_lookup h))
 ·have hi:i<vs.length:=by
   unfold start at h2
   by_cases hi:i<vs.length
   ·exact hi
   ·rw[List.getElem?_append_right (by simpa using hi)] at h2
    rw[List.getElem?_replicate] at h2
    split at h2<;>cases h2
  have ha:vs[i]?=some v:=by
   unfold start at h2
   rw[List.getElem?_append_left (by simpa using hi),List.getElem?_map] at h2
   cases e:vs[i]? with
   | none=>rw[e] at h2;cases h2
   | some a=>rw[e] at h2;cases h2;rfl
  obtain⟨u,hu,rv⟩:=r.get ha
  have hp:ps[i]?=some y:=by
   rw[<- S.pre,List.getElem?_take_of_lt (by omega)];exact h1
  have ndP:ps.Nodup:=by rw[<- S.pre];exact S.nd.sublist (List.take_sublist _ _)
  refine⟨u,rv,?_⟩
  rcases S.par y (List.mem_of_getElem? hp) with k | k
  ·exact .inl ⟨k,bindL_get ndP hp hu k⟩
  ·obtain⟨c,e⟩:=cell_has (n:=s.heap.objs.size+1) k
   refine .inr ⟨.inl k,c,e,?_⟩
   have q:=x.cell y c e
   rw[bindC_get ndP hp hu (by show scope.names.lookup y≠_;rw[k];decide)] at q
   exact q
 ·exact e0.hok.fresh (Nat.le_of_lt (x.above y c (PySem.mem_of_lookup h)))
 ·unfold start
  show _=N.length
  rw[List.length_append,List.length_map,List.length_replicate]
  omega
theorem fn_of {CX:CXT}{P:Program}{w:World}{K:W.Frag}{mg:Str->Option Value}{base:Heap}{k:Nat}{f:Addr}{name qual:Str}{params:Arguments}{body:List Stmt}{scope:Scope}{dV kV doc pm cdv ct oc:Value}{an od:Option Addr}
  {osl:Array (Option Value)} {N ps:List Str} {sp:Sp} (lk:K.lookup f=some ⟨oc,od,.func (W.fnOf name qual params body scope dV kV doc pm an cdv ct),osl⟩) (hcd:W.codeIn K cdv qual=true) (S:FnScope N ps scope)
  (len:∀ vs H Q E,sp vs H Q E->vs.length=ps.length)
  (hbody:∀ (A:Around) (outer:List Env) (s:Shared) (H:Hp) (vs:List V) (Q:VK) (E:XK),Room k (A.deeper (envOfC qual scope s.heap.objs.size f cdv))->sp vs H Q E ->
   ∃ t,PSs (cxOf CX P w K mg base N qual scope f cdv A outer s H E) body t/\t { nx:=λ_ H'=>Q .non H',rt:=Q } (start N vs) H) :
  FnOk P w K mg base CX (k+1) f (W.fnOf name qual params body scope dV kV doc pm an cdv ct) ps sp:=by
 refine⟨len,λA outer s H args us vs Q E hr e0 hb r hsp=>?_⟩
 have hl:=len _ _ _ _ hsp
 have KX:K.In s.heap:=e0.mod.kin.keeps λb o e=>(e0.bs b o e).1
 have lim:s.heap.NoLimit:=e0.mod.nolimit.keeps λb o e=>(e0.bs b o e).1
 have hkind:∀ y∈ps.zip us,scope.names.lookup y.1=some .local\/(scope.names.lookup y.1=some .cell/\((cellsFrom (s.heap.objs.size+1) scope.names []).lookup y.1).isSome=true):=λ⟨n,v⟩ hy=>by
  rcases S.par n (List.of_mem_zip hy).1 with q | q
  ·exact .inl q
  ·exact .inr ⟨q,W.cellsFrom_some _ _ _ (.inl q)⟩
 refine codeAny_call_function hr.depth (KX _ _ lk) rfl S.co S.gen rfl (W.codeRec_of KX hcd) (hb _ _ _ _ ?_)
 refine wpAny_newFunctionEnv_cells S.kind hkind λenv he s1 x=>?_
 subst he
 refine⟨lim.keeps x.toInCall.keep,codeAny_func ?_⟩
 obtain⟨t,ht,hq⟩:=hbody A outer s H vs Q E (hr.deeper _) hsp
 have I:Inv (cxOf CX P w K mg base N qual scope f cdv A outer s H E) [] (start N vs) H s1:=inv_start S hr.hd e0 hl r x
 refine wpAny_mono (ht [] s1 (start N vs) H _ I hq) (λfl s' hs=>?_) λe s' hs=>hs
 have fin:∀ {σ':St} {H':Hp} {v:V} {u:Value},Inv (cxOf CX P w K mg base N qual scope f cdv A outer s H E) [] σ' H' s'->RelV v u->Q v H'->CE outer P w H s Q u s' :=
  λ{σ' H' v u} J rv q=>⟨v,H',J.os,J.bare,J.base,J.hok,rv,q⟩
 cases fl with
 | ret u =>
  obtain⟨v,σ',H',J,rv,q⟩:=hs
  exact fin J rv q
 | next =>
  obtain⟨σ',H',J,q⟩:=hs
  exact fin (v:=V.non) (u:=Value.none) J rfl q
 | brk =>
  obtain⟨_,_,_,q⟩:=hs
  exact False.elim q
 | cont =>
  obtain⟨_,_,_,q⟩:=hs
  exact False.elim q
end L2
namespace L2
open PySem PySem.Spec PyProof.Rows
section
variable {X:Cx}{x:Str}{p pos:Pos}{e:Expr}{es:List Expr}{t:TA}{id T:String}{r:List V->Hp->VK->Prop}
def tCB (r:List V->Hp->VK->Prop)(t:TA):TE:=λσ H Q=>t σ H λvs H1=>r vs H1 Q
theorem pe_callB (hc:CallR X (.builtin id) r)(hg:Gl X x)(hm:X.mg x=none)(hv:bootBuiltins x=some (.builtin id))(ha:PA X (e::es) t)(hn:x≠"__name__":=by decide)(hdb:(x == ("__debug__":Str))=false:=by decide)
  (he:starEach (e::es) X.env=(false,eval e X.env)::starEach es X.env:=by rfl) (hpl:(backTo pos (starEach es X.env)).any (·.1)=false:=by rfl):PE X (.Call (.Name x p) (e::es) [] pos) (tCB r t):=by
 intro pins s σ H Q I h
 refine wpAny_Call_Name_kw (ld_blt I hg hm hv ?_ hn hdb)
 exact PyProof.Rows.callWith_builtin1 (thn (ha pos pins s σ H _ I h) λus s1 ⟨vs,H1,I1,r1,q1⟩=>hc pins s1 σ H1 vs us Q I1 r1 q1) he hpl
theorem pe_callTy (hc:CallR X (.type T) r)(hg:Gl X x)(hm:X.mg x=none)(hv:bootBuiltins x=some (.type T))(ha:PA X (e::es) t)(hn:x≠"__name__":=by decide)(hdb:(x == ("__debug__":Str))=false:=by decide)
  (he:starEach (e::es) X.env=(false,eval e X.env)::starEach es X.env:=by rfl) (hpl:(backTo pos (starEach es X.env)).any (·.1)=false:=by rfl):PE X (.Call (.Name x p) (e::es) [] pos) (tCB r t):=by
 intro pins s σ H Q I h
 refine wpAny_Call_Name_kw (ld_blt I hg hm hv ?_ hn hdb)
 exact PyProof.Rows.callWith_type1 (thn (ha pos pins s σ H _ I h) λus s1 ⟨vs,H1,I1,r1,q1⟩=>hc pins s1 σ H1 vs us Q I1 r1 q1) he hpl
end
end L2
namespace HT
open PySem PyProof.Rows
section
open PySem.SeqAt
open PySem.AutoSeq1 (wpAny_loadPart')
open PySem.MeetsSeq PySem.MeetsSeq2 PySem.MeetsSeq3
end
section
variable {prog:Program}{w:World}{A:Around}{E:Value->Shared->Prop}{s:Shared}
def sIx (n d:Nat):Option Int->Nat
 | none=>d
 | some v=>if v<0 then (v+(n:Int)).toNat else min v.toNat n
theorem sIx_nat (n d k:Nat):sIx n d (some (k:Int))=min k n:=by
 show (if (k:Int)<0 then ((k:Int)+(n:Int)).toNat else min (k:Int).toNat n)=min k n
 rw[if_neg (by omega),Int.toNat_natCast]
end
end HT
namespace L2
open PySem PySem.Spec PyProof.Rows
abbrev TO:=St->Hp->(Option Int->Hp->Prop)->Prop
def PO (X:Cx)(e:Option Expr)(t:TO):Prop :=
 ∀ (pins:List (Addr×Obj)) (s:Shared) (σ:St) (H:Hp) (Q:Option Int->Hp->Prop),Inv X pins σ H s->t σ H Q ->
  wpAny (model X.prog X.w) X.A (evalPart e X.env) (λu s'=>∃ o H',Inv X pins σ H' s'/\IsPart u o/\Q o H') X.xe s
def tNoPart:TO:=λ_ H Q=>Q none H
theorem intsAre_of {ns:List Int}:∀ {us:List Value},Vals (ns.map V.int) us->IntsAre us ns:=by
 induction ns with
 | nil=>intro us r;rw[List.map_nil] at r;cases r;exact .nil
 | cons n ns ih =>
  intro us r
  rw[List.map_cons] at r
  cases r with
  | cons r1 r2 =>
   obtain⟨t,e⟩:=r1
   subst e
   exact .cons n t (ih r2)
section
variable {X:Cx}{e:Expr}{te:TE}{lo hi:Option Expr}{tl th:TO}{pos p2:Pos}
theorem po_none:PO X none tNoPart:=by
 intro pins s σ H Q I h
 rw[evalPart_none]
 exact wpAny_pure ⟨none,H,I,.none,h⟩
def SlR (X:Cx)(r:V->Option Int->Option Int->Hp->VK->Prop):Prop :=
 ∀ (pins:List (Addr×Obj)) (s:Shared) (σ:St) (H:Hp) (x:V) (v vl vu:Value) (lo hi:Option Int) (sl:Addr) (Q:VK),Inv X pins σ H s->RelV x v->s.heap.IsSliceOf sl vl vu .none->IsPart vl lo->IsPart vu hi->r x lo hi H Q ->
  ∃ T id,typeLookup (.type T) "__getitem__"=pure (some (.builtin id))/\s.TypeIs v T/\wpAny (model X.prog X.w) X.A (getItem v (.ref sl)) (EP X pins σ Q) X.xe s
def tSl (r:V->Option Int->Option Int->Hp->VK->Prop)(te:TE)(tl th:TO):TE:=λσ H Q=>te σ H λx H1=>tl σ H1 λl H2=>th σ H2 λu H3=>r x l u H3 Q
theorem pe_slice {r:V->Option Int->Option Int->Hp->VK->Prop}(hr:SlR X r)(he:PE X e te)(hl:PO X lo tl)(hu:PO X hi th):PE X (.Subscript e (.Slice lo hi none p2) pos) (tSl r te tl th):=by
 intro pins s σ H Q I h
 refine Subscript_ (thn (he pins s σ H _ I h) λv s1 ⟨x,H1,I1,r1,q1⟩=>?_)
 refine wpAny_Slice (thn (hl pins s1 σ H1 _ I1 q1) λvl s2 ⟨l,H2,I2,pl,q2⟩=>thn (hu pins s2 σ H2 _ I2 q2) λvu s3 ⟨u,H3,I3,pu,q3⟩=>?_)
 rw[evalPart_none]
 refine wpAny_pure ?_
 have I4:Inv X pins σ H3 { s3 with heap:=s3.heap.push { cls:=.type "slice",data:=.fields #[vl,vu,.none] } }:=I3.kept (t':=s3.toks) λb ob q=>Heap.get?_push_of_some _ q
 obtain⟨T,id,hT,ht,hg⟩:=hr pins { s3 with heap:=s3.heap.push { cls:=.type "slice",data:=.fields #[vl,vu,.none] } } σ H3 x v vl vu l u s3.heap.objs.size Q I4 r1 (Heap.IsSliceOf.new ..) pl pu q3
 show wpAny (model X.prog X.w) X.A (subscriptTail e (.Slice lo hi none p2) v (.ref s3.heap.objs.size)) (EP X pins σ Q) X.xe { s3 with heap:=s3.heap.push { cls:=.type "slice",data:=.fields #[vl,vu,.none] } }
 exact tail_any (ops:=[.ref s3.heap.objs.size,v]) ht hT hg (by with_unfolding_all rfl)
def cutV (xs:List V)(lo hi:Option Int):List V:=(xs.drop (HT.sIx xs.length 0 lo)).take (HT.sIx xs.length xs.length hi-HT.sIx xs.length 0 lo)
theorem cutV_length (xs:List V)(lo hi:Option Int):(cutV xs lo hi).length<=xs.length:=by
 unfold cutV
 rw[List.length_take,List.length_drop]
 omega
end
end L2
namespace L2
open PySem PySem.Spec PyProof.Rows
def ixN (n:Nat)(i:Int):Option Nat:=if 0<=i then (if i<n then some i.toNat else none) else if -(n:Int)<=i then some (i+n).toNat else none
def atI {α:Type}(xs:List α)(i:Int):Option α:=(ixN xs.length i).bind λj=>xs[j]?
theorem ixN_seq {n:Nat}{i:Int}{j:Nat}(h:ixN n i=some j):seqIndex? i n=some j/\j<n/\-(n:Int)<=i/\i<n:=by
 unfold ixN at h
 by_cases h0:0<=i
 ·rw[if_pos h0] at h
  by_cases h1:i<n
  ·rw[if_pos h1] at h
   have e:i.toNat=j:=Option.some.inj h
   exact⟨by rw[seqIndex_of h0 h1,e],by omega,by omega,h1⟩
  ·rw[if_neg h1] at h;cases h
 ·rw[if_neg h0] at h
  by_cases h1:-(n:Int)<=i
  ·rw[if_pos h1] at h
   have e:(i+n).toNat=j:=Option.some.inj h
   exact⟨by rw[seqIndex_neg (by omega) h1,e],by omega,h1,by omega⟩
  ·rw[if_neg h1] at h;cases h
theorem atI_get {α:Type}{xs:List α}{i:Int}{v:α}(h:atI xs i=some v):∃ j,seqIndex? i xs.length=some j/\xs[j]?=some v/\j<xs.length/\-(xs.length:Int)<=i/\i<xs.length:=by
 unfold atI at h
 cases e:ixN xs.length i with
 | none=>rw[e] at h;cases h
 | some j =>
  rw[e] at h
  obtain⟨h1,h2,h3,h4⟩:=ixN_seq e
  exact⟨j,h1,h,h2,h3,h4⟩
theorem atI_nat {α:Type}{xs:List α}{j:Nat}{v:α}(h:xs[j]?=some v):atI xs (j:Int)=some v:=by
 have hj:j<xs.length:=(List.getElem?_eq_some_iff.mp h).1
 have e:ixN xs.length (j:Int)=some j:=by
  unfold ixN
  rw[if_pos (by omega),if_pos (by omega)];simp
 unfold atI;rw[e];exact h
theorem atI_last {α:Type}(xs:List α)(v:α):atI (xs++[v]) (-1)=some v:=by
 have hl:(xs++[v]).length=xs.length+1:=by simp
 have e:ixN (xs++[v]).length (-1)=some xs.length:=by
  unfold ixN
  rw[hl,if_neg (by decide),if_pos (by omega)]
  congr 1
  omega
 unfold atI
 rw[e]
 show (xs++[v])[xs.length]?=some v
 simp
def PlainIx (b:Expr):Prop:=∀ o i,subscripted b false o i=operate [o,i] (getItem o i)
def IxR (X:Cx)(r:R2):Prop :=
 ∀ (value slice:Expr) (pins:List (Addr×Obj)) (s:Shared) (σ:St) (H:Hp) (x y:V) (v u:Value) (Q:VK),Inv X pins σ H s->RelV x v->RelV y u->r x y H Q ->
  subscripted slice false v u=operate [v,u] (getItem v u)->wpAny (model X.prog X.w) X.A (subscriptTail value slice v u) (EP X pins σ Q) X.xe s
def MtR (X:Cx)(id:String)(r:V->List V->Hp->VK->Prop):Prop :=
 ∀ (pins:List (Addr×Obj)) (s:Shared) (σ:St) (H:Hp) (x:V) (xs:List V) (v:Value) (us:List Value) (Q:VK),Inv X pins σ H s->RelV x v->Vals xs us->r x xs H Q ->
  wpAny (model X.prog X.w) X.A (call (.builtin id) (v::us)) (EP X pins σ Q) X.xe s
section
variable {X:Cx}{a b:Expr}{ta tb:TE}{pos:Pos}
theorem pe_ix {r:R2}(hr:IxR X r)(ha:PE X a ta)(hb:PE X b tb)(hs:PlainIx b):PE X (.Subscript a b pos) (tOp r ta tb):=by
 intro pins s σ H Q I h
 exact Subscript_ (binT ha hb I h λv u s2 x y H2 I2 rx ry q=>hr a b pins s2 σ H2 x y v u Q I2 rx ry q (hs _ _))
def rIxL (K:W.Frag):R2:=λx y H Q=>∃ p xs i v,x=.ref p/\y=.int i/\SqL K H p xs/\atI xs i=some v/\Q v H
def rIxT (K:W.Frag):R2:=λx y H Q=>∃ p xs i v,x=.ref p/\y=.int i/\SqT K H p xs/\atI xs i=some v/\Q v H
theorem ix_list:IxR X (rIxL X.K):=by
 intro value slice pins s σ H x y v u Q I rx ry h hs
 obtain⟨p,xs,i,z,rfl,rfl,hq,he,q⟩:=h
 cases rx
 obtain⟨t,rfl⟩:=ry
 obtain⟨its,r,pl,hz⟩:=I.list hq
 obtain⟨j,h1,h2,h3,h4,h5⟩:=atI_get he
 obtain⟨w,ew,rw'⟩:=r.get h2
 have hl:=r.length
 have hn:=line63
 have fin:EP X pins σ Q w s:=⟨z,H,I,rw',q⟩
 by_cases h0:0<=i
 ·have hj:i.toNat=j:=by
   rw[seqIndex_of h0 h5] at h1
   exact Option.some.inj h1
  exact item_listR pl.isList h0 (by omega) (by rw[hj];simpa using ew) fin hs
 ·have hj:(i+(its.toArray.size:Int)).toNat=j:=by
   rw[seqIndex_neg (by omega) h4] at h1
   rw[List.size_toArray,<- hl]
   exact Option.some.inj h1
  exact subscriptTail_builtinR (x:=w) pl.isList.typeIs slot_list_getitem.lookup
   (wpAny_getItem_list_neg (Q:=λr s'=>r=w/\EP X pins σ Q r s') pl.isList (by omega) (by rw[List.size_toArray]<;>omega) (by omega) (by rw[hj];simpa using ew) ⟨rfl,fin⟩) hs
theorem ix_tup:IxR X (rIxT X.K):=by
 intro value slice pins s σ H x y v u Q I rx ry h hs
 obtain⟨p,xs,i,z,rfl,rfl,hq,he,q⟩:=h
 cases rx
 obtain⟨t,rfl⟩:=ry
 obtain⟨its,r,pl,hz⟩:=I.tuple hq
 obtain⟨j,h1,h2,h3,h4,h5⟩:=atI_get he
 obtain⟨w,ew,rw'⟩:=r.get h2
 have hl:=r.length
 have hn:=line63
 have fin:EP X pins σ Q w s:=⟨z,H,I,rw',q⟩
 exact subscriptTail_builtinR (x:=w) pl.typeIs slot_tuple_getitem.lookup
  (getItem_tuple (j:=j) (Q:=λr s'=>r=w/\EP X pins σ Q r s') pl (by omega) (by omega) (by rw[List.size_toArray,<- hl];exact h1) (by simpa using ew) ⟨rfl,fin⟩) hs
theorem mapSeq_set (its:List Value)(n j:Nat)(u:Value):Obj.mapSeq (·.setIfInBounds j u) { cls:=.type "list",data:=.seq its.toArray n }={ cls:=.type "list",data:=.seq (its.set j u).toArray n }:=by
 simp[Obj.mapSeq]
theorem Inv.lst {pins:List (Addr×Obj)}{σ:St}{H:Hp}{s:Shared}{p:Addr}{xs:List V}(I:Inv X pins σ H s)(h:H p=some (.lst xs)) :
  ∃ (its:List Value) (n:Nat),Vals xs its/\s.heap.get? p=some { cls:=.type "list",data:=.seq its.toArray n }/\xs.length<=sizeLine:=by
 obtain⟨z,its,n,r,e⟩:=I.hok p _ h
 exact⟨its,n,r,e,z⟩
theorem Inv.lstUpd {pins:List (Addr×Obj)}{σ:St}{H:Hp}{s:Shared}{p:Addr}{xs ys:List V}{its its':List Value}{n n':Nat}{f:Obj->Obj}(I:Inv X pins σ H s)(h:H p=some (.lst xs))
  (ho:s.heap.get? p=some { cls:=.type "list",data:=.seq its.toArray n }) (hf:f { cls:=.type "list",data:=.seq its.toArray n }={ cls:=.type "list",data:=.seq its'.toArray n' }) (r:Vals ys its') (hz:ys.length<=sizeLine) (t:Nat) :
  Inv X pins σ (upd H p (.lst ys)) { s with heap:=s.heap.update p f,toks:=t }:=by
 have e:(s.heap.update p f).get? p=some { cls:=.type "list",data:=.seq its'.toArray n' }:=by
  rw[Heap.get?_update_self f ho (by rw[hf]<;>rfl),hf]
 refine I.write (x:=p) (e:=p) (by rw[h];trivial) (.inl rfl) (λb u hb q=>(Heap.get?_update_other _ _ (Ne.symm hb)).trans q) ⟨_,e⟩ ?_
 exact⟨hz,its',n',r,e⟩
def rSetL:V->V->V->Hp->(Hp->Prop)->Prop:=λo i v H Q=>∃ p xs k j,o=.ref p/\i=.int k/\H p=some (.lst xs)/\ixN xs.length k=some j/\Q (upd H p (.lst (xs.set j v)))
theorem set_list:PSet X rSetL:=by
 intro pins s σ H o i v ov iv u Q I ro ri rv h
 obtain⟨p,xs,k,j,rfl,rfl,hp,hj,q⟩:=h
 cases ro
 obtain⟨t,rfl⟩:=ri
 obtain⟨its,n,r,ho,hz⟩:=I.lst hp
 obtain⟨h1,h2,h3,h4⟩:=ixN_seq hj
 have hl:=r.length
 have hn:=line63
 have I':Inv X pins σ (upd H p (.lst (xs.set j v))) { s with heap:=s.heap.update p (Obj.mapSeq (·.setIfInBounds j u)) } :=
  I.lstUpd hp ho (mapSeq_set its n j u) (r.set rv j) (by rw[List.length_set];exact hz) s.toks
 by_cases h0:0<=k
 ·have hk:k.toNat=j:=by
   rw[seqIndex_of h0 h4] at h1
   exact Option.some.inj h1
  exact W.ki_setAt ho h0 (by omega) (by rw[List.size_toArray,<- hl];exact h4) (by rw[hk];exact⟨_,I',q⟩)
 ·have hk:(k+(its.toArray.size:Int)).toNat=j:=by
   rw[seqIndex_neg (by omega) h3] at h1
   rw[List.size_toArray,<- hl]
   exact Option.some.inj h1
  exact W.ki_setBack ho (by omega) (by rw[List.size_toArray,<- hl];exact h3) (by omega) (by rw[hk];exact⟨_,I',q⟩)
theorem slice_bounds (lo hi:Option Int)(n:Nat):(sliceBounds lo hi none n).1=((HT.sIx n 0 lo:Nat):Int)/\(sliceBounds lo hi none n).2.1=((HT.sIx n n hi:Nat):Int)/\(sliceBounds lo hi none n).2.2=1:=by
 refine⟨?_,?_,rfl⟩
 ·cases lo with
  | none=>simp[sliceBounds,HT.sIx]
  | some i =>
   simp only[sliceBounds,HT.sIx,Option.getD_none,show (1:Int) > 0 by decide,if_true]
   by_cases h:i<0
   ·simp only[h,if_true]<;>omega
   ·simp only[h,if_false]<;>omega
 ·cases hi with
  | none=>simp[sliceBounds,HT.sIx]
  | some i =>
   simp only[sliceBounds,HT.sIx,Option.getD_none,show (1:Int) > 0 by decide,if_true]
   by_cases h:i<0
   ·simp only[h,if_true]<;>omega
   ·simp only[h,if_false]<;>omega
theorem slicePick_cut (its:List Value)(lo hi:Option Int):slicePick its.toArray lo hi none=((its.drop (HT.sIx its.length 0 lo)).take (HT.sIx its.length its.length hi-HT.sIx its.length 0 lo)).toArray:=by
 obtain⟨h1,h2,h3⟩:=slice_bounds lo hi its.toArray.size
 unfold slicePick
 rw[h1,h2,h3]
 simp only[sliceRange_one,pick_run,List.size_toArray]<;>rfl
def rSlL (K:W.Frag):V->Option Int->Option Int->Hp->VK->Prop:=λx lo hi H Q=>∃ a xs,x=.ref a/\SqL K H a xs/\∀ p,H p=none->Q (.ref p) (upd H p (.lst (cutV xs lo hi)))
theorem sl_list:SlR X (rSlL X.K):=by
 intro pins s σ H x v vl vu lo hi sl Q I rx hs pl pu h
 obtain⟨a,xs,rfl,hx,q⟩:=h
 cases rx
 obtain⟨its,r,ht,hz⟩:=I.list hx
 have hlen:=r.length
 refine⟨"list",_,slot_list_getitem.lookup,ht.isList.typeIs,?_⟩
 refine wpAny_getItem_list_slice ht.isList hs pl pu .none (by simp) ?_ (by rw[List.size_toArray]<;>omega)
 rw[slicePick_cut,<- hlen]
 refine⟨.ref s.heap.objs.size,_,I.laid (t':=s.toks) (o:=.lst (cutV xs lo hi)) (λb ob q=>Heap.get?_push_of_some _ q) (Nat.le_refl _) ?_,rfl,q _ (I.hok.fresh (Nat.le_refl _))⟩
 exact⟨Nat.le_trans (cutV_length xs lo hi) hz,_,0,(r.drop (HT.sIx xs.length 0 lo)).take (HT.sIx xs.length xs.length hi-HT.sIx xs.length 0 lo),Heap.get?_push_size _ rfl⟩
theorem call_len_seq:CallR X (.builtin "len") (λxs H Q=>∃ p ys,xs=[.ref p]/\(SqL X.K H p ys\/SqT X.K H p ys)/\Q (.int ys.length) H):=by
 intro pins s σ H xs us Q I r h
 obtain⟨p,ys,rfl,hq,q⟩:=h
 obtain⟨u,rfl,rx⟩:=vals1 r
 cases rx
 have hn:=line63
 rcases hq with hq | hq
 ·obtain⟨its,r',pl,hz⟩:=I.list hq
  have hlen:=r'.length
  exact Calls.call_len_list pl.isList (by simp only[List.size_toArray]<;>omega) ⟨.int ys.length,H,I.tok _,⟨s.toks+1,by rw[List.size_toArray,hlen]⟩,q⟩
 ·obtain⟨its,r',pl,hz⟩:=I.tuple hq
  have hlen:=r'.length
  exact len_tuple pl (by simp only[List.size_toArray]<;>omega) ⟨.int ys.length,H,I.tok _,⟨s.toks+1,by rw[List.size_toArray,hlen]⟩,q⟩
theorem CallR.or {f:Value}{r r':List V->Hp->VK->Prop}(h:CallR X f r)(h':CallR X f r'):CallR X f (λxs H Q=>r xs H Q\/r' xs H Q):=by
 intro pins s σ H xs us Q I rs q
 rcases q with q | q
 ·exact h pins s σ H xs us Q I rs q
 ·exact h' pins s σ H xs us Q I rs q
def tyV (K:W.Frag)(T:String)(x:V)(H:Hp):Prop:=match x with
 | .str _=>T="str"
 | .int _=>T="int"
 | .ref p=>(T="list"/\∃ xs,SqL K H p xs)\/(T="tuple"/\∃ o,K.lookup p=some o/\o.cls=.type "tuple"/\o.dict=none) \/
   (T="dict"/\((∃ kvs,H p=some (.dK kvs))\/∃ kvs,H p=some (.dT kvs)))\/(T="set"/\∃ S n,H p=some (.set S n))
 | _=>False
theorem tyV_is {pins:List (Addr×Obj)}{σ:St}{H:Hp}{s:Shared}{T:String}{x:V}{v:Value}(I:Inv X pins σ H s)(r:RelV x v)(ty:tyV X.K T x H) :
  s.TypeIs v T/\∀ a,v=.ref a->∃ ob,s.heap.get? a=some ob/\ob.dict=none:=by
 cases x with
 | str z =>
  obtain⟨t,rfl⟩:=r
  cases (show T="str" from ty)
  exact⟨typeIs_str s z t,λ_ e=>nomatch e⟩
 | int i =>
  obtain⟨t,rfl⟩:=r
  cases (show T="int" from ty)
  exact⟨typeIs_int s i t,λ_ e=>nomatch e⟩
 | ref p =>
  cases r
  rcases ty with ⟨rfl,xs,hq⟩ | ⟨rfl,o,hk,hc,hd⟩ | ⟨rfl,hk⟩ | ⟨rfl,S,n,hk⟩
  ·obtain⟨its,_,pl,_⟩:=I.list hq
   refine⟨pl.isList.typeIs,λa e=>?_⟩
   cases e
   obtain⟨o,n,e,c,hd,_⟩:=pl
   exact⟨o,e,hd⟩
  ·refine⟨⟨o,I.kIn p o hk,hc⟩,λa e=>?_⟩
   cases e
   exact⟨o,I.kIn _ o hk,hd⟩
  ·have z:∃ o,s.heap.get? p=some o/\o.ExactDict:=by
    rcases hk with ⟨kvs,hk⟩ | ⟨kvs,hk⟩
    ·obtain⟨_,_,_,_,o,_,_,e,ex,_⟩:=I.hok p _ hk
     exact⟨o,e,ex⟩
    ·obtain⟨_,_,_,_,o,_,_,e,ex,_⟩:=I.hok p _ hk
     exact⟨o,e,ex⟩
   obtain⟨o,e,ex⟩:=z
   refine⟨⟨o,e,ex.1⟩,λa e2=>?_⟩
   cases e2
   exact⟨o,e,ex.2.1⟩
  ·obtain⟨o,_,_,_,e,ex,_⟩:=I.hok p _ hk
   refine⟨⟨o,e,ex.1⟩,λa e2=>?_⟩
   cases e2
   exact⟨o,e,ex.2.1⟩
 | _=>exact False.elim ty
def tBM (K:W.Frag)(T:String)(r:V->List V->Hp->VK->Prop)(to:TE)(t:TA):TE:=λσ H Q=>to σ H λx H1=>tyV K T x H1/\t σ H1 λxs H2=>r x xs H2 Q
variable {o e:Expr}{es:List Expr}{to:TE}{t:TA}{name:Str}{apos cpos:Pos}{T id:String}{r:V->List V->Hp->VK->Prop}
theorem pe_bm (pa:PlainAttrs T)(slot:Slot T name id)(hty:typeOf (.builtin id)=pure (.type "method_descriptor"))(hm:MtR X id r)(ho:PE X o to)(ha:PA X (e::es) t)
  (hbase:attributeBase o name X.env (eval o X.env)=eval o X.env:=by rfl)
  (hfew:((backTo cpos (starEach (e::es) X.env)).all (λx=>!x.1)&&(backToKw cpos (keywordEach [] X.env)).all (λx=>x.1.isSome)
   && decide ((e::es).length+([]:List Keyword).length+(if ([]:List Keyword).isEmpty then 0 else 1)<30))=true:=by rfl)
  (hline:(apos.endLine == cpos.line)=true:=by rfl) (hs:starEach (e::es) X.env=(false,eval e X.env)::starEach es X.env:=by rfl) (hplain:(backTo cpos (starEach es X.env)).any (·.1)=false:=by rfl) :
  PE X (.Call (.Attribute o name apos) (e::es) [] cpos) (tBM X.K T r to t):=by
 intro pins s σ H Q I h
 refine wpAny_Call_method_late hbase hfew hline rfl (thn (ho pins s σ H _ I h) λv s1 ⟨x,H1,I1,r1,ty,q1⟩=>?_)
 obtain⟨h1,h2⟩:=tyV_is I1 r1 ty
 refine⟨T,id,pa,slot,hty,h1,h2,?_⟩
 have hA:=ha cpos pins s1 σ H1 _ I1 q1
 rw[hs] at hA ⊢
 refine Calls.callWith_builtin (by show (false || (backTo cpos (starEach es X.env)).any (·.1))=false;rw[hplain]<;>rfl) (Calls.evalArgs_plain ?_)
 exact thn hA λus s2 ⟨vs,H2,I2,r2,q2⟩=>hm pins s2 σ H2 x vs v us Q I2 r1 r2 q2
end
end L2
namespace L2
open PySem PySem.Spec PyProof.Rows
def MtM (X:Cx)(id:String)(r:V->List V->Hp->VK->Prop):Prop :=
 ∀ (pins:List (Addr×Obj)) (s:Shared) (σ:St) (H:Hp) (x:V) (xs:List V) (v:Value) (us:List Value) (Q:VK),Inv X pins σ H s->RelV x v->Vals xs us->r x xs H Q ->
  wpAny (model X.prog X.w) X.A (call (.builtin id) (v::us)) (EP X pins σ Q) X.xe s
theorem Vals.one:∀ {x:V} {us:List Value},Vals [x] us->∃ u,us=[u]/\RelV x u
 | _,_,.cons r .nil=>⟨_,rfl,r⟩
theorem Vals.rep {xs:List V}{us:List Value}(h:Vals xs us):∀ k:Nat,Vals (List.replicate k xs).flatten (List.replicate k us).flatten
 | 0=>.nil
 | k+1=>by
  rw[List.replicate_succ,List.replicate_succ,List.flatten_cons,List.flatten_cons]
  exact Vals.append h (Vals.rep h k)
theorem foldl_rep (its:List Value):∀ (k:Nat) (acc:List Value),
  List.foldl (λx1 x2=>x1++x2) acc.toArray (List.replicate k its.toArray)=(acc++(List.replicate k its).flatten).toArray
 | 0,acc=>by simp
 | k+1,acc=>by
  have e:acc.toArray++its.toArray=(acc++its).toArray:=by simp
  have e2:(acc++its)++(List.replicate k its).flatten=acc++(List.replicate (k+1) its).flatten:=by
   rw[List.replicate_succ,List.flatten_cons,List.append_assoc]
  rw[<- e2,<- foldl_rep its k (acc++its),<- e,List.replicate_succ,List.foldl_cons]
section
variable {X:Cx}{pins:List (Addr×Obj)}{σ:St}{H:Hp}{s:Shared}{l b:Addr}{xs ys zs:List V}
theorem Inv.lset {its its':List Value}{n:Nat}{f:Array Value->Array Value}{t':Nat}(I:Inv X pins σ H s)(hH:H l=some (.lst xs))
  (e:s.heap.get? l=some { cls:=.type "list",data:=.seq its.toArray n }) (hf:f its.toArray=its'.toArray) (hv:Vals ys its') (hz:ys.length<=sizeLine) :
  Inv X pins σ (upd H l (.lst ys)) { s with heap:=s.heap.update l (Obj.mapSeq f),toks:=t' }:=by
 have q:=PySem.IsL.update e f
 rw[hf] at q
 refine I.write (x:=l) (e:=l) (by rw[hH];exact trivial) (.inl rfl) (λb' u hb hu=>(Heap.get?_update_other s.heap (Obj.mapSeq f) (Ne.symm hb)).trans hu) ⟨_,q⟩ ?_
 exact⟨hz,its',_,hv,q⟩
theorem Inv.lnew {its:List Value}{t':Nat}(I:Inv X pins σ H s)(hv:Vals ys its)(hz:ys.length<=sizeLine) :
  Inv X pins σ (upd H s.heap.objs.size (.lst ys)) { s with heap:=s.heap.push { cls:=.type "list",data:=.seq its.toArray },toks:=t' } :=
 I.laid (λ_ _ q=>Heap.get?_push_of_some _ q) (Nat.le_refl _) ⟨hz,its,0,hv,Heap.get?_push_size _ rfl⟩
theorem Inv.fresh (I:Inv X pins σ H s):H s.heap.objs.size=none:=I.hok.fresh (Nat.le_refl _)
theorem Inv.lstM (I:Inv X pins σ H s)(hH:H l=some (.lst xs)):xs.length<=sizeLine/\∃ (its:List Value) (n:Nat),Vals xs its/\xs.length=its.length/\s.heap.get? l=some { cls:=.type "list",data:=.seq its.toArray n }:=by
 obtain⟨z,its,n,r,e⟩:=I.hok l _ hH
 exact⟨z,its,n,r,r.length,e⟩
theorem notLongL {n:Nat}(h:n<=sizeLine):Builtin.List.listTooLong n=false:=by
 unfold Builtin.List.listTooLong
 exact decide_eq_false (by omega)
end
section
variable {X:Cx}
def rAppend:V->List V->Hp->VK->Prop:=λx vs H Q=>∃ l xs y,x=.ref l/\vs=[y]/\H l=some (.lst xs)/\xs.length<sizeLine/\Q .non (upd H l (.lst (xs++[y])))
theorem mt_append:MtM X "list.append" rAppend:=by
 intro pins s σ H x vs v us Q I rx rv h
 obtain⟨l,xs,y,rfl,rfl,hH,hz,q⟩:=h
 cases rx
 obtain⟨u,rfl,ru⟩:=rv.one
 obtain⟨z,its,n,r,hl,e⟩:=I.lstM hH
 refine call_meets F.slot_list_append ⟨_,e,rfl⟩ F.entry_list_append (F.args_list_append_2 _ _) (PySem.list_append l its.toArray n u (by rw[List.size_toArray];omega)) ⟨e,?_⟩
 refine⟨.non,_,I.lset (its':=its++[u]) hH e (by simp) (r.append (.cons ru .nil)) ?_,rfl,q⟩
 rw[List.length_append,List.length_singleton]
 omega
def rExtend:V->List V->Hp->VK->Prop:=λx vs H Q=>∃ l b xs zs,x=.ref l/\vs=[.ref b]/\H l=some (.lst xs)/\H b=some (.lst zs)/\xs.length+zs.length<=sizeLine/\Q .non (upd H l (.lst (xs++zs)))
theorem mt_extend:MtM X "list.extend" rExtend:=by
 intro pins s σ H x vs v us Q I rx rv h
 obtain⟨l,b,xs,zs,rfl,rfl,hH,hB,hz,q⟩:=h
 cases rx
 obtain⟨u,rfl,ru⟩:=rv.one
 cases ru
 obtain⟨z,its,n,r,hl,e⟩:=I.lstM hH
 obtain⟨z2,its2,n2,r2,hl2,e2⟩:=I.lstM hB
 have hsz:its.toArray.size+its2.toArray.size<=sizeLine:=by rw[List.size_toArray,List.size_toArray];omega
 have hlong:¬ (!its.toArray.isEmpty&&Builtin.List.listTooLong (its.toArray.size+its2.toArray.size))=true:=by
  rw[notLongL hsz,Bool.and_false]
  exact Bool.false_ne_true
 refine call_meets F.slot_list_extend ⟨_,e,rfl⟩ F.entry_list_extend (F.args_list_extend_2 _ _)
  (AutoSeq1.list_extend_list_list_0 l its.toArray n b its2.toArray n2 hlong (by rw[List.size_toArray];omega) (by omega)) ⟨e,e2,?_⟩
 refine⟨.non,_,I.lset (its':=its++its2) hH e (by simp) (r.append r2) ?_,rfl,q⟩
 rw[List.length_append]
 omega
def rCat:R2:=λx y H Q=>∃ l b xs zs,x=.ref l/\y=.ref b/\H l=some (.lst xs)/\H b=some (.lst zs)/\xs.length+zs.length<=sizeLine/\∀ p,H p=none->Q (.ref p) (upd H p (.lst (xs++zs)))
theorem op_cat:OpR X (binaryOp .Add) rCat:=by
 intro pins s σ H x y v u Q I rx ry h
 obtain⟨l,b,xs,zs,rfl,rfl,hH,hB,hz,q⟩:=h
 cases rx
 cases ry
 obtain⟨z,its,n,r,hl,e⟩:=I.lstM hH
 obtain⟨z2,its2,n2,r2,hl2,e2⟩:=I.lstM hB
 refine PySem.P.add_list e e2 ?_ (by rw[List.size_toArray,List.size_toArray];omega)
 have ea:its.toArray++its2.toArray=(its++its2).toArray:=by simp
 rw[ea]
 exact⟨.ref _,_,I.lnew (t':=s.toks) (r.append r2) (by rw[List.length_append];omega),rfl,q _ I.fresh⟩
def rRep:R2:=λx y H Q=>∃ l k xs,x=.ref l/\y=.int k/\H l=some (.lst xs)/\-(2 ^ 63)<=k/\k<2 ^ 63/\xs.length*k.toNat<=sizeLine /\
 ∀ p,H p=none->Q (.ref p) (upd H p (.lst (List.replicate k.toNat xs).flatten))
theorem len_rep {α:Type}(xs:List α)(k:Nat):(List.replicate k xs).flatten.length=k*xs.length:=by
 induction k with
 | zero=>simp
 | succ k ih=>rw[List.replicate_succ,List.flatten_cons,List.length_append,ih,Nat.succ_mul,Nat.add_comm]
theorem op_rep:OpR X (binaryOp .Mult) rRep:=by
 intro pins s σ H x y v u Q I rx ry h
 obtain⟨l,k,xs,rfl,rfl,hH,h1,h2,hz,q⟩:=h
 cases rx
 obtain⟨t,rfl⟩:=ry
 obtain⟨z,its,n,r,hl,e⟩:=I.lstM hH
 have hlen:its.toArray.size*k.toNat<=sizeLine:=by rw[List.size_toArray,<- hl];exact hz
 have hcap:¬ its.toArray.size*k.toNat > (2 ^ 63-1) / 8:=by
  have:(sizeLine:Nat)<=(2 ^ 63-1) / 8:=by decide
  omega
 have hfit:¬ (!Builtin.List.listFitsIndex k)=true:=by
  rw[fitsIndex_both h1 h2]
  exact Bool.false_ne_true
 have hlong:¬ Builtin.List.listTooLong (its.toArray.size*k.toNat)=true:=by
  rw[notLongL hlen]
  exact Bool.false_ne_true
 have hnew:List.foldl (λx1 x2=>x1++x2) #[] (List.replicate (if its.toArray.isEmpty=true then 0 else k.toNat) its.toArray)=(List.replicate k.toNat its).flatten.toArray:=by
  have f0:∀ m:Nat,List.foldl (λx1 x2=>x1++x2) #[] (List.replicate m its.toArray)=(List.replicate m its).flatten.toArray:=λm=>by
   have:=foldl_rep its m []
   rw[List.nil_append] at this
   exact this
  rw[f0]
  cases its with
  | nil=>simp
  | cons a r'=>rw[if_neg (by simp)]
 refine wpAny_binaryOp_repeat_ref (T:="list") (U:="int") (by decide) ⟨_,e,rfl⟩ (λs'=>typeIs_int s' k t) noFill_list_mul F.fills_int_mul F.slot_int_rmul repeat_list F.slot_int_index.lookup
  (call_meets F.slot_int_rmul (typeIs_int s k t) F.entry_int_rmul (F.args_int_rmul_2 _ _) (int___rmul___int_list k t l its.toArray n)
   ⟨e,rfl,⟨_,e,rfl⟩,call_meets F.slot_list_mul ⟨_,e,rfl⟩ F.entry_list_mul (F.args_list_mul_2 _ _) (AutoListH.list___mul___list_int_3 l its.toArray n k t hfit hcap hlong) ⟨e,?_⟩⟩)
 rw[hnew]
 exact⟨.ref _,_,I.lnew (t':=s.toks) (r.rep k.toNat) (by rw[len_rep,Nat.mul_comm];exact hz),rfl,q _ I.fresh⟩
end
section
variable {prog:Program}{w:World}{A:Around}{E:Value->Shared->Prop}{s:Shared}
end
section
variable {X:Cx}
end
end L2
namespace Att
open PySem PySem.W PySem.Calls PyProof.Rows
theorem ints_of_wellAll {P:Params}{h:Heap}:∀ (ns:List Int) (vs:List Value),WellAll P h vs (ns.map WData.int)->IntsAre vs ns:=by
 intro ns
 induction ns with
 | nil =>
  intro vs w
  rw[List.map_nil] at w
  cases w
  exact .nil
 | cons n ns ih =>
  intro vs w
  rw[List.map_cons] at w
  cases w with
  | cons a b =>
   cases a
   exact .cons _ _ (ih _ b)
theorem script_of {l:OpenLaw}{n:Nat}(hn:l.most=some n){P:Params}{h:Heap}{args:List WData}{vals:List Value}
  (hpre:l.row.toRowW.claim.pre args=true) (hwl:WellAll P h vals args) :
  ∃ a vs ns,vals=[Value.ref a]/\args=[WData.list (ns.map WData.int)]/\h.get? a=some { cls:=.type "list",data:=.seq vs.toArray }/\IntsAre vs ns/\ns.length<=n:=by
 have hsh:WShape.hasAll [] args [.list .int]=true:=(pre_splitW hpre).1
 have hc:l.pre.holds [] { args:=args }=true:=(pre_splitW hpre).2
 obtain⟨d,r,rfl,h1,h2⟩:=hasAllW_cons hsh
 obtain rfl:=hasAllW_nil h2
 obtain⟨xs,rfl,h3⟩:=hasW_list h1
 obtain⟨ns,rfl⟩:=items_int h3
 have hlen:ns.length<=n:=by
  unfold OpenLaw.pre at hc
  have h4:(WTm.not (.lt (.lit (.int (n:Int))) (.len (.arg 0)))).holds [] { args:=[.list (ns.map .int)] }=true:=by
   have h4:=(holds_andW hc).1
   rw[hn] at h4
   exact h4
  have h5:=condW_of h4 (w_not (w_lt w_lit (w_len_list (w_arg rfl))))
  rw[List.length_map] at h5
  refine Nat.le_of_not_lt λq=>?_
  have q':(n:Int)<((ns.length:Nat):Int):=by omega
  first
   | (rw[decide_eq_true q'] at h5;exact absurd h5 (by decide))
   | (simp at h5;omega)
 cases hwl with
 | cons w1 w2 =>
  cases w2
  cases w1 with
  | list ho hall=>exact⟨_,_,ns,rfl,rfl,ho,ints_of_wellAll ns _ hall,hlen⟩
theorem post_true (l:OpenLaw)(args:List WData):l.row.toRowW.claim.post args (.bool true) args=true :=
 postW_of (r:=l.row.toRowW) (X:=(true == true))
  (show WShape.has [] (.bool true) .bool=true by first | rfl | decide | simp[WShape.has,WShape.arms,WShape.armsAll])
  (show (WTm.eq .res (.lit (.bool true))).value [] { args:=args,res:=some (.bool true),after:=args }=some (.bool (true == true)) from w_eq_bool (w_res rfl) w_lit) rfl
theorem attach_call {l:OpenLaw}{n:Nat}{q:Program}{loose:List Str}{XP:(Str->Option Value)->Heap->Prop}{YP:World->Heap->Prop}{d:DefRec}
  (hn:l.most=some n) (hdf:d.params.defaults=[])
  (call:∀ (w:World) (s₀ s₁:Shared) (mg mb:Str->Option Value) (fa:Addr) (o:Obj) (pm cd doc:Value) (a:Addr) (vs:List Value) (ns:List Int),
   Ground q loose [] XP w s₀ mg mb s₁.heap->YP w s₁.heap ->
   s₁.heap.get? fa=some o->o.data=.func (docDef d.name d.params d.body d.scope pm cd doc)->s₁.heap.CodeRec cd d.name->mg d.name=some (.ref fa) ->
   s₁.heap.get? a=some { cls:=.type "list",data:=.seq vs.toArray }->IntsAre vs ns->ns.length<=n->s₁.gens=#[] ->
   codeAny (model l.prog w) callerA (.call (.ref fa) ⟨[.ref a],[]⟩) (λr s'=>r=.ok (.ret (.bool true))/\OldK s₁.heap s'.heap/\s'.os=s₁.os/\AllBare s'.gens) s₁) :
  WalkO q loose XP YP l.row.toRowW d [] (λf vs=>PySem.call f vs):=by
 intro w s₀ s₁ mg mb G Y fa o pm cd doc dV kV ho hd hcd hD hmg hg args vals as hpre hlay hrd hwl hlo
 obtain rfl:dV=.none:=Dflts.none hD hdf
 obtain rfl:kV=.none:=Dflts.noKw hD
 obtain⟨a,vs,ns,rfl,rfl,hobj,hints,hlen⟩:=script_of hn hpre hwl
 refine enter_call (codeAny_mono (call w s₀ s₁ mg mb fa o pm cd doc a vs ns G Y ho (fd_plain hd) hcd hmg hobj hints hlen hg) λr s' hq=>?_)
 obtain⟨rfl,h2,h3,h4⟩:=hq
 exact⟨.inl ⟨.bool true,.bool true,[],rfl,λ_=>rfl,.bool true,post_true l _,λ_=>⟨List.Pairwise.nil,λ_ hm=>(nomatch hm)⟩⟩,h2,h3,h4⟩
section
variable {prog:Program}{w:World}{A:Around}{E:Value->Shared->Prop}{s:Shared}{K:Frag}
end
end Att
namespace L2
open PySem PySem.Spec PyProof.Rows
theorem vals_ints:∀ {vs:List Value} {ns:List Int},IntsAre vs ns->Vals (ns.map V.int) vs
 | _,_,.nil=>.nil
 | _,_,.cons n t h=>.cons ⟨t,rfl⟩ (vals_ints h)
def Only (H:Hp):Prop:=∀ b,H b=none\/∃ o xs,H b=some (.frz o (.lst xs))
theorem law_call {P:Program}{w:World}{K:W.Frag}{mg mb:Str->Option Value}{CX:CXT}{k:Nat}{fa a:Addr}{fd:FuncData}{x:Str}{sp:Sp}{s₁:Shared}{vs:List Value}{ns:List Int}
  (KX:K.In s₁.heap) (hns:s₁.heap.Ns mainGlobals mg) (hb:s₁.heap.Ns builtinsNs mb) (hbb:∀ x:Str,x≠"__name__"->mb x=bootBuiltins x) (hlim:s₁.heap.NoLimit) (hg:s₁.gens=#[])
  (ha:s₁.heap.get? a=some { cls:=.type "list",data:=.seq vs.toArray }) (hi:IntsAre vs ns) (hl:ns.length<=sizeLine) (hr:Room k callerA)
  (F:∀ base:Heap,K.In base->base.Ns mainGlobals mg->FnOk P w K mg base CX k fa fd [x] sp) (hbind:∀ (s:Shared) (u:Value),BindsTo s fd ⟨[u],[]⟩ [(x,u)])
  (hsp:∀ H:Hp,Only H->SqL K H a (ns.map V.int)->sp [.ref a] H (λv _=>v=.bl true) λ_ _ _=>False)
  (hCX:∀ H e s',CX [] H s₁ (λ_ _ _=>False) e s'->False) :
  codeAny (model P w) callerA (.call (.ref fa) ⟨[.ref a],[]⟩) (λr s'=>r=.ok (.ret (.bool true))/\OldK s₁.heap s'.heap/\s'.os=s₁.os/\AllBare s'.gens) s₁:=by
 have rv:=vals_ints hi
 have lenV:=hi.length
 have core:∀ H:Hp,Only H->SqL K H a (ns.map V.int)->HOk P w H s₁.heap->(∀ b,H b≠none->b=a)->(H a≠none->K.lookup a=none) ->
   codeAny (model P w) callerA (.call (.ref fa) ⟨[.ref a],[]⟩) (λr s'=>r=.ok (.ret (.bool true))/\OldK s₁.heap s'.heap/\s'.os=s₁.os/\AllBare s'.gens) s₁:=by
  intro H hO hS hok hA hK
  have base_of:∀ {b:Addr} {o:Obj},s₁.heap.get? b=some o->H b=none->(hidT s₁.heap H).get? b=some o:=λe n=>hidT_get e n
  have noA:∀ {b:Addr} {o:Obj} {es:Array DictEntry} {ep:Nat},s₁.heap.get? b=some o->o.data=.dict es ep->H b=none:=λ{b o es ep} e d=>by
   cases q:H b with
   | none=>rfl
   | some u =>
    have e':b=a:=hA b (by rw[q];simp)
    subst e'
    rw[ha] at e;cases e
    have d':Data.seq vs.toArray _=Data.dict es ep:=d
    cases d'
  have nsK:∀ {b:Addr} {m:Str->Option Value},s₁.heap.Ns b m->(hidT s₁.heap H).Ns b m:=λ{b m} ⟨o,es,ep,e,d,r⟩=>⟨o,es,ep,base_of e (noA e d),d,r⟩
  have hKb:K.In (hidT s₁.heap H):=λb o e=>base_of (KX b o e) (by
   cases q:H b with
   | none=>rfl
   | some u =>
    have e':b=a:=hA b (by rw[q];simp)
    subst e'
    rw[hK (by rw[q];simp)] at e;cases e)
  have hM:Mod K mg (hidT s₁.heap H):=⟨hKb,nsK hns,⟨mb,nsK hb,hbb⟩,let ⟨mc,h1,h2⟩:=hlim;⟨mc,nsK h1,h2⟩⟩
  have e0:Env0 P w K mg (hidT s₁.heap H) callerA [] s₁ H:=⟨rfl,hM,λb o e=>of_hidT e,Nat.le_of_eq (hidT_size _ _),trivial,λb hb=>absurd (show b∈([]:List Addr) from hb) (by simp),hok,.of_eq hg⟩
  refine codeAny_mono ((F _ hKb (nsK hns)).run callerA [] s₁ H ⟨[.ref a],[]⟩ [.ref a] [.ref a] _ _ hr e0 (hbind s₁ (.ref a)) (.cons rfl .nil) (hsp H hO hS)) λr s' h=>?_
  cases r with
  | error e=>exact(hCX H e s' h).elim
  | ok fl =>
   cases fl with
   | next=>exact False.elim h
   | brk=>exact False.elim h
   | cont=>exact False.elim h
   | ret u =>
    obtain⟨v,H',os,bare,un,hok',r',q⟩:=h
    have q':v=.bl true:=q
    subst q'
    obtain rfl:u=Value.bool true:=r'
    refine⟨rfl,OldK.of_keep λb o e=>?_,os,bare⟩
    cases q:H b with
    | none=>exact un.keep b o e q (by intro z;exact absurd (show b∈([]:List Addr) from z) (by simp)) (by simp)
    | some u =>
     rcases hO b with z | ⟨ob,xs,z⟩
     ·rw[q] at z;cases z
     ·have z2:=un.frzs b ob _ z
      obtain⟨e1,_⟩:=hok b _ z
      obtain⟨e2,_⟩:=hok' b _ z2
      rw[e] at e1;cases e1
      exact e2
 cases hk:K.lookup a with
 | some o =>
  have e:=KX a o hk
  rw[ha] at e
  cases e
  refine core (λ_=>none) (λ_=>.inl rfl) (.inr ⟨_,vs.toArray,_,hk,rfl,rfl,rfl,by rw[List.size_toArray,lenV];exact hl,by simpa using rv⟩) (λb u z=>by have z':(none:Option HO)=some u:=z;cases z') (λb z=>absurd rfl z) λz=>absurd rfl z
 | none =>
  refine core (λb=>if b=a then some (.frz { cls:=.type "list",data:=.seq vs.toArray } (.lst (ns.map V.int))) else none) (λb=>?_) (.inl (.inr ⟨{ cls:=.type "list",data:=.seq vs.toArray },if_pos rfl⟩)) (λb u z=>?_) (λb z=>?_) λ_=>hk
  ·by_cases hb:b=a
   ·exact .inr ⟨_,_,if_pos hb⟩
   ·exact .inl (if_neg hb)
  ·by_cases hb:b=a
   ·have z':=(if_pos hb).symm.trans z
    cases z'
    subst hb
    exact⟨ha,by rw[List.length_map];exact hl,vs,_,rv,ha⟩
   ·have z':=(if_neg hb).symm.trans z
    cases z'
  ·by_cases hb:b=a
   ·exact hb
   ·exact absurd (if_neg hb) z
end L2
namespace L2
open PySem PySem.Spec PyProof.Rows
abbrev KOf {K:W.Frag}{h:Heap}(_:K.In h):W.Frag:=K
theorem walk_of {l:W.OpenLaw}{n k:Nat}{q:Program}{loose:List Str}{XP:(Str->Option Value)->Heap->Prop}{YP:World->Heap->Prop}{d:DefRec}{K:Params->W.Frag}{CX:World->CXT}{sp:World->Sp}{x:Str}
  (hn:l.most=some n) (hn2:n<=sizeLine) (hdf:d.params.defaults=[]) (hr:Room k callerA)
  (hY:∀ (w:World) (h:Heap),YP w h->(K w.params).In h)
  (F:∀ (w:World) (mg:Str->Option Value) (fa:Addr) (h:Heap),(K w.params).In h->h.Ns mainGlobals mg->mg d.name=some (.ref fa) ->
   ∃ fd:FuncData,(∀ (s:Shared) (u:Value),BindsTo s fd ⟨[u],[]⟩ [(x,u)]) /\
    ∀ base:Heap,(K w.params).In base->base.Ns mainGlobals mg->FnOk l.prog w (K w.params) mg base (CX w) k fa fd [x] (sp w))
  (hsp:∀ (w:World) (H:Hp) (a:Addr) (ns:List Int),ns.length<=n->Only H->SqL (K w.params) H a (ns.map V.int)->sp w [.ref a] H (λv _=>v=.bl true) λ_ _ _=>False)
  (hCX:∀ (w:World) (H:Hp) (s:Shared) (e:Value) (s':Shared),CX w [] H s (λ_ _ _=>False) e s'->False) :
  W.WalkO q loose XP YP l.row.toRowW d [] (λf vs=>PySem.call f vs):=by
 refine Att.attach_call hn hdf λw s₀ s₁ mg mb fa o pm cd doc a vs ns G Y ho hd hcd hmg hobj hints hlen hg=>?_
 have KX:=hY w _ Y
 obtain⟨fd,hb,hF⟩:=F w mg fa _ KX G.T.g hmg
 exact law_call KX G.T.g G.T.b G.T.builtins G.T.nolimit hg hobj hints (Nat.le_trans hlen hn2) hr hF hb (λH hO hS=>hsp w H a ns hlen hO hS) λH e s'=>hCX w H s₁ e s'
end L2
namespace L2
open PySem PySem.Spec PyProof.Rows
def defArgs (s:Stmt):Arguments:=match s with
 | .FunctionDef _ a _ _ _ _ _ _ _ _=>a
 | _=>{ posonlyargs:=[],args:=[],vararg:=none,kwonlyargs:=[],kw_defaults:=[],kwarg:=none,defaults:=[] }
def defBody (s:Stmt):List Stmt:=match s with
 | .FunctionDef _ _ b _ _ _ _ _ _ _=>b
 | _=>[]
def defScope (s:Stmt):Scope:=match s with
 | .FunctionDef _ _ _ _ _ _ sc _ _ _=>sc
 | _=>{ kind:=.function,names:=[],isGenerator:=false,isCoroutine:=false }
abbrev CX0:CXT:=λ_ _ _ _ _ _=>False
abbrev E0:XK:=λ_ _ _=>False
theorem pass0 {X:Cx}:Passes CX0 X E0:=λ_ _ _ _ _ _ _ h=>h.elim
structure Fun (K:W.Frag)(x qual:Str)(st:Stmt)(f:Addr)(fd:FuncData):Prop where
 ex:∃ (oc:Value) (od:Option Addr) (kV doc pm:Value) (an:Option Addr) (cdv ct:Value) (osl:Array (Option Value)),
  fd=W.fnOf x qual (defArgs st) (defBody st) (defScope st) .none kV doc pm an cdv ct/\K.lookup f=some ⟨oc,od,.func fd,osl⟩/\W.codeIn K cdv qual=true
 kp:W.keepIn K (.ref f)=true
section
variable {P:Program}{w:World}{K:W.Frag}{mg:Str->Option Value}{base:Heap}
theorem Fun.ok {x qual:Str}{st:Stmt}{f:Addr}{fd:FuncData}{N ps:List Str}{k:Nat}{sp:Sp}(F:Fun K x qual st f fd)(S:FnScope N ps (defScope st))(len:∀ vs H Q E,sp vs H Q E->vs.length=ps.length)
  (hbody:∀ (cdv:Value) (A:Around) (outer:List Env) (s:Shared) (H:Hp) (vs:List V) (Q:VK) (E:XK),Room k (A.deeper (envOfC qual (defScope st) s.heap.objs.size f cdv))->sp vs H Q E ->
   ∃ t,PSs (cxOf CX0 P w K mg base N qual (defScope st) f cdv A outer s H E).nox (defBody st) t/\t { nx:=λ_ H'=>Q .non H',rt:=Q } (start N vs) H):FnOk P w K mg base CX0 (k+1) f fd ps sp:=by
 obtain⟨oc,od,kV,doc,pm,an,cdv,ct,osl,rfl,lk,hcd⟩:=F.ex
 refine fn_of lk hcd S len λA outer s H vs Q E hr hsp=>?_
 obtain⟨t,h,q⟩:=hbody cdv A outer s H vs Q E hr hsp
 exact⟨t,h.nox,q⟩
theorem Fun.binds {x qual:Str}{st:Stmt}{f:Addr}{fd:FuncData}{ps:List Str}(F:Fun K x qual st f fd)
  (h:∀ (kV doc pm:Value) (an:Option Addr) (cdv ct:Value) (us:List Value),us.length=ps.length->bindArgs (W.fnOf x qual (defArgs st) (defBody st) (defScope st) .none kV doc pm an cdv ct) ⟨us,[]⟩=pure (ps.zip us)):Binds K fd ps []:=by
 obtain⟨oc,od,kV,doc,pm,an,cdv,ct,osl,rfl,lk,hcd⟩:=F.ex
 exact .all (h kV doc pm an cdv ct)
theorem fun_mk {x qual:Str}{st:Stmt}{f:Addr}{oc:Value}{od an:Option Addr}{osl:Array (Option Value)}{kV doc pm cdv ct:Value}(l:K.lookup f=some ⟨oc,od,.func (W.fnOf x qual (defArgs st) (defBody st) (defScope st) .none kV doc pm an cdv ct),osl⟩)
  (c:W.codeIn K cdv qual=true) (k:W.keepIn K (.ref f)=true):Fun K x qual st f (W.fnOf x qual (defArgs st) (defBody st) (defScope st) .none kV doc pm an cdv ct):=⟨⟨oc,od,kV,doc,pm,an,cdv,ct,osl,rfl,l,c⟩,k⟩
end
section
variable {X:Cx}
end
theorem iteF {A B:Prop}(h:B):if false=true then A else B:=by
 rw[if_neg Bool.false_ne_true]
 exact h
theorem iteT {A B:Prop}(h:A):if true=true then A else B:=by
 rw[if_pos rfl]
 exact h
def Same (H H':Hp):Prop:=∀ b o,H b=some o->H' b=some o
theorem Same.refl (H:Hp):Same H H:=λ_ _ h=>h
theorem Same.trans {H H1 H2:Hp}(a:Same H H1)(b:Same H1 H2):Same H H2:=λc o h=>b c o (a c o h)
theorem Same.free {H H':Hp}(e:Same H H'){l:Addr}(h:H' l=Option.none):H l=Option.none:=by
 cases q:H l with
 | none=>rfl
 | some o =>
  rw[e l o q] at h
  cases h
theorem Same.seq {K:W.Frag}{H H':Hp}{a:Addr}{xs:List V}(e:Same H H')(h:SqL K H a xs):SqL K H' a xs:=by
 rcases h with (h | ⟨o,h⟩) | h
 ·exact .inl (.inl (e _ _ h))
 ·exact .inl (.inr ⟨o,e _ _ h⟩)
 ·exact .inr h
end L2
set_option maxHeartbeats 4000000
namespace SB
open PySem PyProof.Rows
structure SI (a0:Array Keyed)(st:SortSt):Prop where
 perm:(arrOf st).Perm a0
 kind:kindOf st=oneType'
 failed:failedOf st=none
theorem SI.size {a0:Array Keyed}{st:SortSt}(h:SI a0 st):(arrOf st).size=a0.size:=h.perm.size_eq
theorem SI.setArr {a0:Array Keyed}{st:SortSt}(h:SI a0 st){xs:Array Keyed}(hp:xs.Perm (arrOf st)):SI a0 (setArr st xs):=⟨hp.trans h.perm,h.kind,h.failed⟩
theorem SI.keys {a0:Array Keyed}{st:SortSt}(h:SI a0 st)(h0:IntKeys a0):IntKeys (arrOf st):=λp hp=>h0 p ((Array.perm_iff_toList_perm.mp h.perm).mem_iff.mp hp)
theorem ik_at {xs:Array Keyed}(h:IntKeys xs){i:Nat}(hi:i<xs.size):∃ p,xs[i]?=some p/\∃ n t,p.1=Value.int n t :=
 ⟨xs[i],getElem?_pos xs i hi,h _ (by simp)⟩
def gallop':Bool->Keyed->Array Keyed->Nat->Nat->Nat->StateT SortSt Sem (Option Nat):=sortPriv% PySem.Builtin.gallop
def mergeLo':Array Keyed->Array Keyed->StateT SortSt Sem (Array Keyed):=sortPriv% PySem.Builtin.mergeLo
def mergeHi':Array Keyed->Array Keyed->StateT SortSt Sem (Array Keyed):=sortPriv% PySem.Builtin.mergeHi
def setMinGallop':Nat->StateT SortSt Sem Unit:=sortPriv% PySem.Builtin.setMinGallop
section
variable {prog:Program}{w:World}{A:Around}{E:Value->Shared->Prop}{s:Shared}{a0:Array Keyed}
theorem wpS_elem {arr:Array Keyed}{i:Nat}{p:Keyed}{Q:Keyed->SortSt->Prop}{st:SortSt}(hp:arr[i]?=some p)(h:Q p st):wpS (model prog w) A E s (elem' arr i) Q st:=by
 rw[elem'_eq,hp];exact wpS_pure h
def G (a0:Array Keyed)(pe:Array (Nat×Nat×Nat))(st:SortSt):Prop:=SI a0 st/\pendingOf st=pe
theorem setMin'_eq (g:Nat):setMinGallop' g=modify λs=>SortSt.mk' (kindOf s) (arrOf s) (pendingOf s) g (failedOf s):=rfl
def Laid (a b:Array Keyed)(ia ib:Nat)(out:Array Keyed):Prop:=out.toList.Perm (a.toList.take ia++b.toList.take ib)
theorem take_at {xs:Array Keyed}{i:Nat}{p:Keyed}(h:xs[i]?=some p):xs.toList.take (i+1)=xs.toList.take i++[p]:=by
 have h':xs.toList[i]?=some p:=by simpa using h
 rw[List.take_add_one,h'];rfl
theorem Laid.b {a b:Array Keyed}{ia ib:Nat}{out:Array Keyed}(h:Laid a b ia ib out){p:Keyed}(hp:b[ib]?=some p):Laid a b ia (ib+1) (out.push p):=by
 unfold Laid at h ⊢
 rw[take_at hp,Array.toList_push,<- List.append_assoc]
 exact h.append_right _
theorem Laid.a {a b:Array Keyed}{ia ib:Nat}{out:Array Keyed}(h:Laid a b ia ib out){p:Keyed}(hp:a[ia]?=some p):Laid a b (ia+1) ib (out.push p):=by
 unfold Laid at h ⊢
 rw[take_at hp,Array.toList_push,List.append_assoc]
 refine(h.append_right _).trans ?_
 rw[List.append_assoc]
 exact(List.perm_append_comm).append_left _
theorem ext_list (xs:Array Keyed)(i j:Nat):(xs.extract i j).toList=(xs.toList.take j).drop i:=by
 rw[Array.toList_extract,List.extract_eq_take_drop,List.drop_take]
theorem take_ext (xs:Array Keyed)(i k:Nat):xs.toList.take (i+k)=xs.toList.take i++(xs.extract i (i+k)).toList:=by
 rw[ext_list]
 have:=List.take_append_drop i (xs.toList.take (i+k))
 rw[List.take_take,Nat.min_eq_left (by omega)] at this
 exact this.symm
theorem Laid.ak {a b:Array Keyed}{ia ib:Nat}{out:Array Keyed}(h:Laid a b ia ib out)(k:Nat):Laid a b (ia+k) ib (out++a.extract ia (ia+k)):=by
 unfold Laid at h ⊢
 rw[take_ext,Array.toList_append,List.append_assoc]
 refine(h.append_right _).trans ?_
 rw[List.append_assoc]
 exact(List.perm_append_comm).append_left _
theorem Laid.bk {a b:Array Keyed}{ia ib:Nat}{out:Array Keyed}(h:Laid a b ia ib out)(k:Nat):Laid a b ia (ib+k) (out++b.extract ib (ib+k)):=by
 unfold Laid at h ⊢
 rw[take_ext,Array.toList_append,<- List.append_assoc]
 exact h.append_right _
theorem Laid.all {a b:Array Keyed}{ia ib:Nat}{out:Array Keyed}(h:Laid a b ia ib out)(ha:ia<=a.size)(hb:ib<=b.size) :
  (out++a.extract ia a.size++b.extract ib b.size).toList.Perm (a.toList++b.toList):=by
 obtain⟨j,hj⟩:∃ j,a.size=ia+j:=⟨a.size-ia,by omega⟩
 obtain⟨k,hk⟩:∃ k,b.size=ib+k:=⟨b.size-ib,by omega⟩
 have q:=(h.ak j).bk k
 rw[<- hj,<- hk] at q
 unfold Laid at q
 rw[List.take_of_length_le (by simp),List.take_of_length_le (by simp)] at q
 exact q
theorem Laid.all' {a b:Array Keyed}{ia ib:Nat}{out:Array Keyed}(h:Laid a b ia ib out)(ha:ia<=a.size)(hb:ib<=b.size) :
  (out++b.extract ib b.size++a.extract ia a.size).toList.Perm (a.toList++b.toList):=by
 obtain⟨j,hj⟩:∃ j,a.size=ia+j:=⟨a.size-ia,by omega⟩
 obtain⟨k,hk⟩:∃ k,b.size=ib+k:=⟨b.size-ib,by omega⟩
 have q:=(h.bk k).ak j
 rw[<- hj,<- hk] at q
 unfold Laid at q
 rw[List.take_of_length_le (by simp),List.take_of_length_le (by simp)] at q
 exact q
theorem wpS_ite {α:Type}{c:Prop}[Decidable c]{t e:StateT SortSt Sem α}{Q:α->SortSt->Prop}{st:SortSt}{M:Model}(h1:c->wpS M A E s t Q st)(h2:¬ c->wpS M A E s e Q st) :
  wpS M A E s (if c then t else e) Q st:=by
 by_cases h:c
 ·rw[if_pos h];exact h1 h
 ·rw[if_neg h];exact h2 h
theorem wpS_iteB {α:Type}{x y:Nat}{t e:StateT SortSt Sem α}{Q:α->SortSt->Prop}{st:SortSt}{M:Model}(h1:x=y->wpS M A E s t Q st)(h2:x≠y->wpS M A E s e Q st) :
  wpS M A E s (if (x == y)=true then t else e) Q st :=
 wpS_ite (λh=>h1 (by simpa using h)) λh=>h2 (by simpa using h)
theorem wpS_elemB {arr:Array Keyed}{i:Nat}{Q:Keyed->SortSt->Prop}{st:SortSt}(ha:IntKeys arr)(hi:i<arr.size)(h:∀ p,arr[i]?=some p->(∃ n t,p.1=Value.int n t)->Q p st) :
  wpS (model prog w) A E s (elem' arr i) Q st:=by
 obtain⟨p,e,k⟩:=ik_at ha hi
 exact wpS_elem e (h p e k)
def GX (a0:Array Keyed)(pe:Array (Nat×Nat×Nat))(xs:Array Keyed)(st:SortSt):Prop:=G a0 pe st/\arrOf st=xs
theorem wpS_setMin {g:Nat}{pe:Array (Nat×Nat×Nat)}{xs:Array Keyed}{Q:Unit->SortSt->Prop}{st:SortSt}(hB:GX a0 pe xs st)(h:∀ st',GX a0 pe xs st'->Q () st') :
  wpS (model prog w) A E s (setMinGallop' g) Q st:=by
 rw[setMin'_eq]
 exact wpS_modify (h _ ⟨⟨⟨hB.1.1.perm,hB.1.1.kind,hB.1.1.failed⟩,hB.1.2⟩,hB.2⟩)
structure Mid (a b:Array Keyed)(c0 ia ib:Nat)(out:Array Keyed):Prop where
 laid:Laid a b ia ib out
 ha:ia+1<a.size
 hb:ib<b.size
 pr:c0<=ia+ib
def LaidH (a b:Array Keyed)(na nb:Nat)(out:Array Keyed):Prop:=out.toList.Perm (a.toList.drop na++b.toList.drop nb)
theorem drop_at {xs:Array Keyed}{i:Nat}{p:Keyed}(h:xs[i]?=some p):xs.toList.drop i=p::xs.toList.drop (i+1):=by
 have h':xs.toList[i]?=some p:=by simpa using h
 obtain⟨hi,e⟩:=List.getElem?_eq_some_iff.mp h'
 rw[List.drop_eq_getElem_cons hi,e]
theorem LaidH.b {a b:Array Keyed}{na nb:Nat}{out:Array Keyed}(h:LaidH a b na nb out)(h1:1<=nb){p:Keyed}(hp:b[nb-1]?=some p):LaidH a b na (nb-1) (out.push p):=by
 unfold LaidH at h ⊢
 rw[drop_at hp,Array.toList_push,Nat.sub_add_cancel h1]
 refine(h.append_right _).trans ?_
 rw[List.append_assoc]
 exact(List.perm_append_comm).append_left _
theorem LaidH.a {a b:Array Keyed}{na nb:Nat}{out:Array Keyed}(h:LaidH a b na nb out)(h1:1<=na){p:Keyed}(hp:a[na-1]?=some p):LaidH a b (na-1) nb (out.push p):=by
 unfold LaidH at h ⊢
 rw[drop_at hp,Array.toList_push,Nat.sub_add_cancel h1]
 refine(h.append_right _).trans ?_
 exact List.perm_append_singleton _ _
theorem drop_ext (xs:Array Keyed){i j:Nat}(h:i<=j):xs.toList.drop i=(xs.extract i j).toList++xs.toList.drop j:=by
 rw[ext_list]
 obtain⟨k,rfl⟩:∃ k,j=i+k:=⟨j-i,by omega⟩
 rw[List.drop_take,Nat.add_sub_cancel_left,<- List.drop_drop,List.take_append_drop]
theorem LaidH.ak {a b:Array Keyed}{na nb:Nat}{out:Array Keyed}(h:LaidH a b na nb out){k:Nat}(hk:k<=na):LaidH a b k nb (out++(a.extract k na).reverse):=by
 unfold LaidH at h ⊢
 rw[drop_ext a hk,Array.toList_append,Array.toList_reverse]
 refine(h.append_right _).trans ?_
 refine(List.Perm.append_left _ (List.reverse_perm _)).trans ?_
 refine List.perm_append_comm.trans ?_
 rw[List.append_assoc]
theorem LaidH.bk {a b:Array Keyed}{na nb:Nat}{out:Array Keyed}(h:LaidH a b na nb out){k:Nat}(hk:k<=nb):LaidH a b na k (out++(b.extract k nb).reverse):=by
 unfold LaidH at h ⊢
 rw[drop_ext b hk,Array.toList_append,Array.toList_reverse]
 refine(h.append_right _).trans ?_
 refine(List.Perm.append_left _ (List.reverse_perm _)).trans ?_
 rw[List.append_assoc]
 exact(List.perm_append_comm).append_left _
theorem LaidH.all {a b:Array Keyed}{na nb:Nat}{out:Array Keyed}(h:LaidH a b na nb out) :
  (a.extract 0 na++b.extract 0 nb++out.reverse).toList.Perm (a.toList++b.toList):=by
 unfold LaidH at h
 rw[Array.toList_append,Array.toList_append,Array.toList_reverse,ext_list,ext_list,List.drop_zero,List.drop_zero]
 refine(List.Perm.append_left _ ((List.reverse_perm _).trans h)).trans ?_
 rw[List.append_assoc,<- List.append_assoc (b.toList.take nb)]
 refine(List.Perm.append_left _ (List.perm_append_comm.append_right _)).trans ?_
 rw[List.append_assoc,<- List.append_assoc,List.take_append_drop,List.take_append_drop]
theorem LaidH.all' {a b:Array Keyed}{na nb:Nat}{out:Array Keyed}(h:LaidH a b na nb out) :
  (b.extract 0 nb++a.extract 0 na++out.reverse).toList.Perm (a.toList++b.toList):=by
 refine List.Perm.trans ?_ h.all
 rw[Array.toList_append,Array.toList_append,Array.toList_append,Array.toList_append]
 exact List.perm_append_comm.append_right _
structure MidH (a b:Array Keyed)(c0 na nb:Nat)(out:Array Keyed):Prop where
 laid:LaidH a b na nb out
 ha:1<=na
 ha2:na<=a.size
 hb:2<=nb
 hb2:nb<=b.size
 pr:c0+na+nb<=a.size+b.size
theorem wpS_set {st st1:SortSt}{M:Model}{Q:PUnit->SortSt->Prop}(h:Q ⟨⟩ st1):wpS M A E s (set st1:StateT SortSt Sem PUnit) Q st:=by
 unfold wpS;rw[StateT.run_set];exact wpAny_pure ⟨rfl,h⟩
theorem keys_ext {xs:Array Keyed}(h:IntKeys xs)(i j:Nat):IntKeys (xs.extract i j):=λp hp=>by
 rw[ext_list] at hp
 exact h p (List.mem_of_mem_take (List.mem_of_mem_drop hp))
theorem put_at (ys:List Keyed):∀ (j k:Nat) (xs:Array Keyed),k+j+ys.length<=xs.size ->
  ((ys.zipIdx j).foldl (λa (pj:Keyed×Nat)=>a.setIfInBounds (k+pj.2) pj.1) xs).toList=xs.toList.take (k+j)++ys++xs.toList.drop (k+j+ys.length):=by
 induction ys with
 | nil=>intro j k xs _;simp
 | cons y ys ih =>
  intro j k xs h
  simp only[List.length_cons] at h
  rw[List.zipIdx_cons,List.foldl_cons,ih (j+1) k _ (by rw[Array.size_setIfInBounds];omega)]
  rw[Array.toList_setIfInBounds]
  have hl:k+j<xs.toList.length:=by simp;omega
  rw[show k+(j+1)=(k+j)+1 by omega,List.take_add_one,List.getElem?_set_self hl]
  rw[List.take_set_of_le (by omega),List.drop_set_of_lt (by omega)]
  simp only[Option.toList_some,List.append_assoc,List.length_cons,List.cons_append,List.nil_append]
  rw[show k+j+1+ys.length=k+j+(ys.length+1) by omega]
theorem three_perm {l:List Keyed}{i j k:Nat}(hij:i<=j)(hjk:j<=k){m:List Keyed}(h:m.Perm ((l.take j).drop i++(l.take k).drop j)):(l.take i++m++l.drop k).Perm l:=by
 have e:l=l.take i++((l.take j).drop i++(l.take k).drop j)++l.drop k:=by
  have e1:l.take j=l.take i++(l.take j).drop i:=by
   have:=List.take_append_drop i (l.take j)
   rw[List.take_take,Nat.min_eq_left hij] at this;exact this.symm
  have e2:l.take k=l.take j++(l.take k).drop j:=by
   have:=List.take_append_drop j (l.take k)
   rw[List.take_take,Nat.min_eq_left hjk] at this;exact this.symm
  rw[<- List.append_assoc,<- e1,<- e2,List.take_append_drop]
 conv=>rhs;rw[e]
 exact(h.append_left _).append_right _
theorem ite_lt2 {c:Prop}[Decidable c]{x y z:Nat}(h1:x+1<z)(h2:y+1<z):(if c then x else y)+1<z:=by
 by_cases h:c<;>simp[h,h1,h2]
end
end SB
namespace SB
open PySem PyProof.Rows
abbrev ks (p:Keyed):Int:=numOf p.1
def Up (xs:Array Keyed)(i j:Nat):Prop:=∀ k m,i<=k->k<=m->m<j->K xs k<=K xs m
def Dn (xs:Array Keyed)(i j:Nat):Prop:=∀ k m,i<=k->k<=m->m<j->K xs m<=K xs k
theorem K_at {xs:Array Keyed}{i:Nat}{p:Keyed}(h:xs[i]?=some p):K xs i=ks p:=by unfold K;rw[h]
theorem Up.one (xs:Array Keyed)(i:Nat):Up xs i (i+1):=λk m h1 h2 h3=>by
 obtain rfl:k=m:=by omega
 exact Int.le_refl _
theorem Up.snoc {xs:Array Keyed}{i j:Nat}(h:Up xs i j)(hj:K xs (j-1)<=K xs j):Up xs i (j+1):=λk m h1 h2 h3=>by
 by_cases e:m<j
 ·exact h k m h1 h2 e
 obtain rfl:m=j:=by omega
 by_cases e2:k=m
 ·subst e2;exact Int.le_refl _
 exact Int.le_trans (h k (m-1) h1 (by omega) (by omega)) hj
theorem Dn.snoc {xs:Array Keyed}{i j:Nat}(h:Dn xs i j)(hj:K xs j<=K xs (j-1)):Dn xs i (j+1):=λk m h1 h2 h3=>by
 by_cases e:m<j
 ·exact h k m h1 h2 e
 obtain rfl:m=j:=by omega
 by_cases e2:k=m
 ·subst e2;exact Int.le_refl _
 exact Int.le_trans hj (h k (m-1) h1 (by omega) (by omega))
theorem Up.eqK {xs ys:Array Keyed}{i j:Nat}(h:Up xs i j)(e:∀ k,i<=k->k<j->K ys k=K xs k):Up ys i j:=λk m h1 h2 h3=>by
 rw[e k h1 (by omega),e m (by omega) h3];exact h k m h1 h2 h3
theorem Dn.eqK {xs ys:Array Keyed}{i j:Nat}(h:Dn xs i j)(e:∀ k,i<=k->k<j->K ys k=K xs k):Dn ys i j:=λk m h1 h2 h3=>by
 rw[e k h1 (by omega),e m (by omega) h3];exact h k m h1 h2 h3
theorem Dn.mir {xs:Array Keyed}{i j:Nat}(h:Dn xs i j)(hj:j<=xs.size):Up (mirror xs i j ((j-i) / 2)) i j:=λk m h1 h2 h3=>by
 rw[K_mirror hj,K_mirror hj,if_pos (by omega),if_pos (by omega)]
 exact h _ _ (by omega) (by omega) (by omega)
def Low (lo:Nat)(xs ys:Array Keyed):Prop:=∀ k,k<lo->K ys k=K xs k
theorem Low.refl (lo:Nat)(xs:Array Keyed):Low lo xs xs:=λ_ _=>rfl
theorem Low.trans {lo:Nat}{xs ys zs:Array Keyed}(h:Low lo xs ys)(h2:Low lo ys zs):Low lo xs zs:=λk hk=>(h2 k hk).trans (h k hk)
theorem Low.mir {lo:Nat}{xs:Array Keyed}{i j:Nat}(hi:lo<=i)(hj:j<=xs.size):Low lo xs (mirror xs i j ((j-i) / 2)):=λk hk=>by
 rw[K_mirror hj,if_neg (by omega)]
section
variable {prog:Program}{w:World}{A:Around}{E:Value->Shared->Prop}{s:Shared}{a0:Array Keyed}
theorem wpS_ltP {x y:Keyed}{st:SortSt}{Q:Option Bool->SortSt->Prop}(hk:kindOf st=oneType')(hx:∃ n t,x.1=Value.int n t)(hy:∃ n t,y.1=Value.int n t)
  (h:Q (some (decide (ks x<ks y))) st):wpS (model prog w) A E s (lt' x y) Q st:=by
 obtain⟨n,t,ex⟩:=hx
 obtain⟨m,u,ey⟩:=hy
 have e1:ks x=n:=by unfold ks;rw[ex];rfl
 have e2:ks y=m:=by unfold ks;rw[ey];rfl
 rw[e1,e2] at h
 rw[lt'_eq]
 refine wpS_bind (wpS_get ?_)
 rw[hk,keyLt'_oneType,ex,ey]
 exact wpS_bind (wpS_lift (wpAny_attempt (oneLt_int ⟨rfl,wpS_pure h⟩)))
theorem wpS_ltI {i j:Nat}{st:SortSt}{Q:Option Bool->SortSt->Prop}(hB:SI a0 st)(h0:IntKeys a0)(hi:i<a0.size)(hj:j<a0.size)
  (h:∀ b:Bool,(b=true↔K (arrOf st) i<K (arrOf st) j)->Q (some b) st):wpS (model prog w) A E s (ltAt' i j) Q st:=by
 obtain⟨p,e1,k1⟩:=ik_at (hB.keys h0) (i:=i) (by rw[hB.size];exact hi)
 obtain⟨q,e2,k2⟩:=ik_at (hB.keys h0) (i:=j) (by rw[hB.size];exact hj)
 rw[ltAt'_eq]
 refine wpS_bind (wpS_get ?_)
 refine wpS_bind (wpS_elem e1 (wpS_bind (wpS_elem e2 (wpS_ltP hB.kind k1 k2 (h _ ?_)))))
 rw[K_at e1,K_at e2];simp
theorem wpS_revI {st:SortSt}{i j:Nat}{Q:Unit->SortSt->Prop}(hB:SI a0 st)(h:∀ st',SI a0 st'->pendingOf st'=pendingOf st->arrOf st'=mirror (arrOf st) i j ((j-i) / 2)->Q () st') :
  wpS (model prog w) A E s (reverseSlice' i j) Q st:=by
 rw[reverseSlice'_eq];exact wpS_modify (h _ (hB.setArr (mirror_perm _ _ _ _)) rfl rfl)
theorem wpS_downI {st:SortSt}{i j:Nat}{Q:Unit->SortSt->Prop}(hB:SI a0 st)(h:∀ st',SI a0 st'->pendingOf st'=pendingOf st->arrOf st'=bubble (arrOf st) i (i-j)->Q () st') :
  wpS (model prog w) A E s (moveDown' i j) Q st:=by
 rw[moveDown'_eq];exact wpS_modify (h _ (hB.setArr (bubble_perm _ _ _)) rfl rfl)
def GL (a0:Array Keyed)(pe:Array (Nat×Nat×Nat))(lo:Nat)(ys:Array Keyed)(st:SortSt):Prop:=G a0 pe st/\Low lo ys (arrOf st)
structure Fall (xs:Array Keyed)(lo x q:Nat):Prop where
 dn:Dn xs lo (lo+x)
 q1:q+1<=x
 eq:∀ i,lo+x-(q+1)<=i->i<lo+x->K xs i=K xs (lo+x-1)
theorem Fall.zero {xs:Array Keyed}{lo x:Nat}(h:Dn xs lo (lo+x))(h1:1<=x):Fall xs lo x 0:=⟨h,h1,λi h2 h3=>by congr 1;omega⟩
theorem Fall.less {xs:Array Keyed}{lo x q:Nat}(h:Fall xs lo x q)(hl:K xs (lo+x)<K xs (lo+x-1)):Fall xs lo (x+1) 0 :=
 .zero (h.dn.snoc (Int.le_of_lt hl)) (by omega)
theorem Fall.mir {xs:Array Keyed}{lo x q:Nat}(h:Fall xs lo x q)(hz:lo+x<=xs.size)(k:Nat) :
  K (mirror xs (lo+x-(q+1)) (lo+x) ((lo+x-(lo+x-(q+1))) / 2)) k=K xs k:=K_mirror_equal hz h.eq k
theorem Fall.like {xs:Array Keyed}{lo x q:Nat}(h:Fall xs lo x q)(h1:¬ K xs (lo+x)<K xs (lo+x-1))(h2:¬ K xs (lo+x-1)<K xs (lo+x)):Fall xs lo (x+1) (q+1):=by
 have e:K xs (lo+x)=K xs (lo+x-1):=by omega
 have:=h.q1
 refine⟨h.dn.snoc (by omega),by omega,λi h3 h4=>?_⟩
 rw[show lo+(x+1)-1=lo+x by omega]
 by_cases hi:i=lo+x
 ·rw[hi]
 ·rw[e];exact h.eq i (by omega) (by omega)
theorem count_s {lo nrem : Nat} {pe : Array (Nat × Nat × Nat)} {ys : Array Keyed} {st : SortSt} {Q : Option Nat → SortSt → Prop} (h0 : IntKeys a0) (hn : lo + nrem ≤ a0.size) (h1 : 1 ≤ nrem) (hB : GL a0 pe lo ys st)
    (h : ∀ m st', GL a0 pe lo ys st' → 1 ≤ m → m ≤ nrem → Up (arrOf st') lo (lo + m) → Q (some m) st') : wpS (model prog w) A E s (countRun' lo nrem) Q st := by
  rw [countRun'_eq]
  refine wpS_bind (wpS_mono (wpS_forRange (I := fun x c st' => c = (none, x) ∧ GL a0 pe lo ys st' ∧ Up (arrOf st') lo (lo + x)) (Q := fun c st' => ∃ m, c = (none, m) ∧ 1 ≤ m ∧ m ≤ nrem ∧ GL a0 pe lo ys st' ∧ Up (arrOf st') lo (lo + m) ∧ (m = nrem ∨ K (arrOf st') (lo + m) < K (arrOf st') (lo + m - 1))) ?s1 ?f1 ⟨rfl, hB, Up.one _ _⟩) ?p1)
  case f1 => rintro c st' ⟨rfl, g, U⟩; exact ⟨_, rfl, by omega, by omega, g, U, .inl (by omega)⟩
  case s1 =>
    rintro x c st' hx1 hx2 ⟨rfl, g, U⟩
    refine wpS_bind (wpS_ltI g.1.1 h0 (by omega) (by omega) fun b hb => ?_)
    cases b
    · exact wpS_pure ⟨rfl, g, U.snoc (Int.not_lt.mp fun z => by cases hb.mpr z)⟩
    · exact wpS_pure ⟨x, rfl, hx1, by omega, g, U, .inr (hb.mp rfl)⟩
  case p1 =>
    rintro c st' ⟨m, rfl, hm1, hm2, g, U, hor⟩
    dsimp only
    by_cases hnn : m = nrem
    · rw [if_pos (by simpa using hnn)]
      exact wpS_pure (h _ _ g hm1 hm2 U)
    rw [if_neg (by simpa using hnn)]
    have hlt := hor.resolve_left hnn
    by_cases hgt : m > 1
    · rw [if_pos hgt]
      refine wpS_bind (wpS_ltI g.1.1 h0 (by omega) (by omega) fun b hb => ?_)
      cases b
      · have hb : ¬ K (arrOf st') lo < K (arrOf st') (lo + m - 1) := fun z => by cases hb.mpr z
        dsimp only
        rw [if_neg (by decide)]
        have hz : lo + m ≤ (arrOf st').size := by rw [g.1.1.size]; omega
        have al : ∀ k, lo ≤ k → k < lo + m → K (arrOf st') k = K (arrOf st') (lo + m - 1) := fun k h1 h2 => by
          have q1 := U lo k (Nat.le_refl _) h1 h2
          have q2 := U k (lo + m - 1) h1 (by omega) (by omega)
          omega
        refine wpS_bind (wpS_revI g.1.1 fun st1 b1 e1 a1 => ?_)
        have eK : ∀ k, K (arrOf st1) k = K (arrOf st') k := fun k => by rw [a1]; exact K_mirror_equal hz al k
        have F : Fall (arrOf st1) lo (m + 1) 0 := by
          refine .zero (Dn.eqK (xs := arrOf st') ?_ fun k _ _ => eK k) (by omega)
          refine Dn.snoc (i := lo) (j := lo + m) (fun k n h1 h2 h3 => ?_) (Int.le_of_lt hlt)
          rw [al k h1 (by omega), al n (by omega) h3]; exact Int.le_refl _
        have g : GL a0 pe lo ys st1 := ⟨⟨b1, e1.trans g.1.2⟩, fun k hk => (eK k).trans (g.2 k hk)⟩
        refine wpS_bind (wpS_lift (wpAny_rule ⟨rfl, ?_⟩))
        refine wpS_bind (wpS_mono (wpS_forRange (I := fun x c st' => ∃ q, c = (none, x, q) ∧ GL a0 pe lo ys st' ∧ Fall (arrOf st') lo x q) (Q := fun c st' => ∃ m q, c = (none, m, q) ∧ m ≤ nrem ∧ GL a0 pe lo ys st' ∧ Fall (arrOf st') lo m q) ?_ ?_ ⟨0, rfl, g, F⟩) ?_)
        · rintro x c st' hx1 hx2 ⟨q, rfl, g, F⟩
          dsimp only
          have hz : lo + x ≤ (arrOf st').size := by rw [g.1.1.size]; omega
          refine wpS_bind (wpS_ltI g.1.1 h0 (by omega) (by omega) fun b hb => ?_)
          cases b
          · have hb : ¬ K (arrOf st') (lo + x) < K (arrOf st') (lo + x - 1) := fun z => by cases hb.mpr z
            refine wpS_bind (wpS_ltI g.1.1 h0 (by omega) (by omega) fun b hb2 => ?_)
            cases b
            · exact wpS_pure ⟨_, rfl, g, F.like hb fun z => by cases hb2.mpr z⟩
            · exact wpS_pure ⟨x, q, rfl, by omega, g, F⟩
          · have hb := hb.mp rfl
            by_cases hq : q > 0
            · simp only [if_pos hq, if_true]
              refine wpS_bind (wpS_revI g.1.1 fun st2 b2 e2 a2 => wpS_pure ⟨0, rfl, ⟨⟨b2, e2.trans g.1.2⟩, fun k hk => ?_⟩, ?_⟩)
              · rw [a2, F.mir hz]; exact g.2 k hk
              · rw [a2]
                exact .zero ((F.less hb).dn.eqK fun k _ _ => F.mir hz k) (by omega)
            · simp only [if_neg hq, if_true]
              exact wpS_pure ⟨0, rfl, g, F.less hb⟩
        · rintro c st' ⟨q, rfl, g, F⟩; exact ⟨_, _, rfl, by omega, g, F⟩
        · rintro c st' ⟨m, q, rfl, hm2, g, F⟩
          dsimp only
          have hm1 := F.q1
          have hz : lo + m ≤ (arrOf st').size := by rw [g.1.1.size]; omega
          by_cases hq : q > 0
          · rw [if_pos hq]
            refine wpS_bind (wpS_revI g.1.1 fun st2 b2 e2 a2 => wpS_bind (wpS_revI b2 fun st3 b3 e3 a3 => ?_))
            have hz2 : lo + m ≤ (arrOf st2).size := by rw [b2.size]; omega
            have D2 : Dn (arrOf st2) lo (lo + m) := by rw [a2]; exact F.dn.eqK fun k _ _ => F.mir hz k
            have L2 : Low lo ys (arrOf st2) := by rw [a2]; exact fun k hk => (F.mir hz k).trans (g.2 k hk)
            have U : Up (arrOf st3) lo (lo + m) := by rw [a3]; exact D2.mir hz2
            have L3 : Low lo ys (arrOf st3) := by rw [a3]; exact L2.trans (Low.mir (Nat.le_refl _) hz2)
            refine wpS_bind (wpS_mono (wpS_forRange (I := fun x c st' => c = (none, x) ∧ GL a0 pe lo ys st' ∧ Up (arrOf st') lo (lo + x)) (Q := fun c st' => ∃ m, c = (none, m) ∧ 1 ≤ m ∧ m ≤ nrem ∧ GL a0 pe lo ys st' ∧ Up (arrOf st') lo (lo + m)) ?_ ?_ ⟨rfl, ⟨⟨b3, e3.trans (e2.trans g.1.2)⟩, L3⟩, U⟩) ?_)
            · rintro x c st' hx1 hx2 ⟨rfl, g, U⟩
              dsimp only
              refine wpS_bind (wpS_ltI g.1.1 h0 (by omega) (by omega) fun b hb => ?_)
              cases b
              · exact wpS_pure ⟨rfl, g, U.snoc (Int.not_lt.mp fun z => by cases hb.mpr z)⟩
              · exact wpS_pure ⟨x, rfl, by omega, by omega, g, U⟩
            · rintro c st' ⟨rfl, g, U⟩; exact ⟨_, rfl, by omega, by omega, g, U⟩
            · rintro c st' ⟨m, rfl, hm1, hm2, g, U⟩
              exact wpS_pure (h _ _ g hm1 hm2 U)
          · rw [if_neg hq]
            refine wpS_bind (wpS_revI g.1.1 fun st3 b3 e3 a3 => ?_)
            have e2 : pendingOf st' = pendingOf st' := rfl
            have U : Up (arrOf st3) lo (lo + m) := by rw [a3]; exact F.dn.mir hz
            have L3 : Low lo ys (arrOf st3) := by rw [a3]; exact g.2.trans (Low.mir (Nat.le_refl _) hz)
            refine wpS_bind (wpS_mono (wpS_forRange (I := fun x c st' => c = (none, x) ∧ GL a0 pe lo ys st' ∧ Up (arrOf st') lo (lo + x)) (Q := fun c st' => ∃ m, c = (none, m) ∧ 1 ≤ m ∧ m ≤ nrem ∧ GL a0 pe lo ys st' ∧ Up (arrOf st') lo (lo + m)) ?_ ?_ ⟨rfl, ⟨⟨b3, e3.trans (e2.trans g.1.2)⟩, L3⟩, U⟩) ?_)
            · rintro x c st' hx1 hx2 ⟨rfl, g, U⟩
              dsimp only
              refine wpS_bind (wpS_ltI g.1.1 h0 (by omega) (by omega) fun b hb => ?_)
              cases b
              · exact wpS_pure ⟨rfl, g, U.snoc (Int.not_lt.mp fun z => by cases hb.mpr z)⟩
              · exact wpS_pure ⟨x, rfl, by omega, by omega, g, U⟩
            · rintro c st' ⟨rfl, g, U⟩; exact ⟨_, rfl, by omega, by omega, g, U⟩
            · rintro c st' ⟨m, rfl, hm1, hm2, g, U⟩
              exact wpS_pure (h _ _ g hm1 hm2 U)
      · exact wpS_pure (h _ _ g hm1 hm2 U)
    · rw [if_neg hgt]
      obtain rfl : m = 1 := by omega
      have F : Fall (arrOf st') lo (1 + 1) 0 := .zero (Dn.snoc (fun k n h1 h2 h3 => by obtain rfl : k = n := by omega
                                                                                       exact Int.le_refl _) (Int.le_of_lt hlt)) (by omega)
      refine wpS_bind (wpS_lift (wpAny_rule ⟨rfl, ?_⟩))
      refine wpS_bind (wpS_mono (wpS_forRange (I := fun x c st' => ∃ q, c = (none, x, q) ∧ GL a0 pe lo ys st' ∧ Fall (arrOf st') lo x q) (Q := fun c st' => ∃ m q, c = (none, m, q) ∧ m ≤ nrem ∧ GL a0 pe lo ys st' ∧ Fall (arrOf st') lo m q) ?_ ?_ ⟨0, rfl, g, F⟩) ?_)
      · rintro x c st' hx1 hx2 ⟨q, rfl, g, F⟩
        dsimp only
        have hz : lo + x ≤ (arrOf st').size := by rw [g.1.1.size]; omega
        refine wpS_bind (wpS_ltI g.1.1 h0 (by omega) (by omega) fun b hb => ?_)
        cases b
        · have hb : ¬ K (arrOf st') (lo + x) < K (arrOf st') (lo + x - 1) := fun z => by cases hb.mpr z
          refine wpS_bind (wpS_ltI g.1.1 h0 (by omega) (by omega) fun b hb2 => ?_)
          cases b
          · exact wpS_pure ⟨_, rfl, g, F.like hb fun z => by cases hb2.mpr z⟩
          · exact wpS_pure ⟨x, q, rfl, by omega, g, F⟩
        · have hb := hb.mp rfl
          by_cases hq : q > 0
          · simp only [if_pos hq, if_true]
            refine wpS_bind (wpS_revI g.1.1 fun st2 b2 e2 a2 => wpS_pure ⟨0, rfl, ⟨⟨b2, e2.trans g.1.2⟩, fun k hk => ?_⟩, ?_⟩)
            · rw [a2, F.mir hz]; exact g.2 k hk
            · rw [a2]
              exact .zero ((F.less hb).dn.eqK fun k _ _ => F.mir hz k) (by omega)
          · simp only [if_neg hq, if_true]
            exact wpS_pure ⟨0, rfl, g, F.less hb⟩
      · rintro c st' ⟨q, rfl, g, F⟩; exact ⟨_, _, rfl, by omega, g, F⟩
      · rintro c st' ⟨m, q, rfl, hm2, g, F⟩
        dsimp only
        have hm1 := F.q1
        have hz : lo + m ≤ (arrOf st').size := by rw [g.1.1.size]; omega
        by_cases hq : q > 0
        · rw [if_pos hq]
          refine wpS_bind (wpS_revI g.1.1 fun st2 b2 e2 a2 => wpS_bind (wpS_revI b2 fun st3 b3 e3 a3 => ?_))
          have hz2 : lo + m ≤ (arrOf st2).size := by rw [b2.size]; omega
          have D2 : Dn (arrOf st2) lo (lo + m) := by rw [a2]; exact F.dn.eqK fun k _ _ => F.mir hz k
          have L2 : Low lo ys (arrOf st2) := by rw [a2]; exact fun k hk => (F.mir hz k).trans (g.2 k hk)
          have U : Up (arrOf st3) lo (lo + m) := by rw [a3]; exact D2.mir hz2
          have L3 : Low lo ys (arrOf st3) := by rw [a3]; exact L2.trans (Low.mir (Nat.le_refl _) hz2)
          refine wpS_bind (wpS_mono (wpS_forRange (I := fun x c st' => c = (none, x) ∧ GL a0 pe lo ys st' ∧ Up (arrOf st') lo (lo + x)) (Q := fun c st' => ∃ m, c = (none, m) ∧ 1 ≤ m ∧ m ≤ nrem ∧ GL a0 pe lo ys st' ∧ Up (arrOf st') lo (lo + m)) ?_ ?_ ⟨rfl, ⟨⟨b3, e3.trans (e2.trans g.1.2)⟩, L3⟩, U⟩) ?_)
          · rintro x c st' hx1 hx2 ⟨rfl, g, U⟩
            dsimp only
            refine wpS_bind (wpS_ltI g.1.1 h0 (by omega) (by omega) fun b hb => ?_)
            cases b
            · exact wpS_pure ⟨rfl, g, U.snoc (Int.not_lt.mp fun z => by cases hb.mpr z)⟩
            · exact wpS_pure ⟨x, rfl, by omega, by omega, g, U⟩
          · rintro c st' ⟨rfl, g, U⟩; exact ⟨_, rfl, by omega, by omega, g, U⟩
          · rintro c st' ⟨m, rfl, hm1, hm2, g, U⟩
            exact wpS_pure (h _ _ g hm1 hm2 U)
        · rw [if_neg hq]
          refine wpS_bind (wpS_revI g.1.1 fun st3 b3 e3 a3 => ?_)
          have e2 : pendingOf st' = pendingOf st' := rfl
          have U : Up (arrOf st3) lo (lo + m) := by rw [a3]; exact F.dn.mir hz
          have L3 : Low lo ys (arrOf st3) := by rw [a3]; exact g.2.trans (Low.mir (Nat.le_refl _) hz)
          refine wpS_bind (wpS_mono (wpS_forRange (I := fun x c st' => c = (none, x) ∧ GL a0 pe lo ys st' ∧ Up (arrOf st') lo (lo + x)) (Q := fun c st' => ∃ m, c = (none, m) ∧ 1 ≤ m ∧ m ≤ nrem ∧ GL a0 pe lo ys st' ∧ Up (arrOf st') lo (lo + m)) ?_ ?_ ⟨rfl, ⟨⟨b3, e3.trans (e2.trans g.1.2)⟩, L3⟩, U⟩) ?_)
          · rintro x c st' hx1 hx2 ⟨rfl, g, U⟩
            dsimp only
            refine wpS_bind (wpS_ltI g.1.1 h0 (by omega) (by omega) fun b hb => ?_)
            cases b
            · exact wpS_pure ⟨rfl, g, U.snoc (Int.not_lt.mp fun z => by cases hb.mpr z)⟩
            · exact wpS_pure ⟨x, rfl, by omega, by omega, g, U⟩
          · rintro c st' ⟨rfl, g, U⟩; exact ⟨_, rfl, by omega, by omega, g, U⟩
          · rintro c st' ⟨m, rfl, hm1, hm2, g, U⟩
            exact wpS_pure (h _ _ g hm1 hm2 U)
theorem bins_s {lo n ok:Nat}{pe:Array (Nat×Nat×Nat)}{ys:Array Keyed}{st:SortSt}{Q:Bool->SortSt->Prop}(h0:IntKeys a0)(hn:lo+n<=a0.size)(hok:ok<=n)(hB:GL a0 pe lo ys st)(hU:Up (arrOf st) lo (lo+ok))
  (h:∀ st',GL a0 pe lo ys st'->Up (arrOf st') lo (lo+n)->Q true st'):wpS (model prog w) A E s (binarySort' lo n ok) Q st:=by
 rw[binarySort'_eq]
 refine wpS_bind (wpS_mono (wpS_forRange (I:=λk c st'=>c=(none,())/\GL a0 pe lo ys st'/\Up (arrOf st') lo (lo+min k n)) (Q:=λc st'=>c=(none,())/\GL a0 pe lo ys st'/\Up (arrOf st') lo (lo+n)) ?_ ?_ ⟨rfl,hB,?_⟩) ?_)
 ·rintro k c st' hak hkn ⟨rfl,g,U⟩
  rw[Nat.min_eq_left (Nat.le_of_lt hkn)] at U
  refine wpS_bind (wpS_mono (wpS_forRange (I:=λx c st''=>∃ l r,c=(none,l,r)/\st''=st'/\l<=r/\r<=k/\r-l<=k-x/\(∀ i,i<l->K (arrOf st') (lo+i)<=K (arrOf st') (lo+k))/\(∀ i,r<=i->i<k->K (arrOf st') (lo+k)<K (arrOf st') (lo+i)))
   (Q:=λc st''=>∃ l r,c=(none,l,r)/\st''=st'/\l<=k/\(∀ i,i<l->K (arrOf st') (lo+i)<=K (arrOf st') (lo+k))/\(∀ i,l<=i->i<k->K (arrOf st') (lo+k)<K (arrOf st') (lo+i))) ?_ ?_ ⟨0,k,rfl,rfl,by omega,Nat.le_refl _,by omega,λi hi=>by omega,λi h1 h2=>by omega⟩) ?_)
  ·rintro x c st'' _ hxk ⟨l,r,rfl,rfl,hlr,hr,hm,f1,f2⟩
   dsimp only
   by_cases hge:l>=r
   ·rw[if_pos hge]
    obtain rfl:l=r:=by omega
    exact wpS_pure ⟨l,l,rfl,rfl,hr,f1,f2⟩
   ·rw[if_neg hge]
    refine wpS_bind (wpS_ltI g.1.1 h0 (by omega) (by omega) λb hb=>?_)
    cases b
    ·have hb:¬ K (arrOf st'') (lo+k)<K (arrOf st'') (lo+(l+r) / 2):=λz=>by cases hb.mpr z
     refine wpS_pure ⟨_,_,rfl,rfl,by omega,hr,by omega,λi hi=>?_,f2⟩
     exact Int.le_trans (U (lo+i) (lo+(l+r) / 2) (by omega) (by omega) (by omega)) (Int.not_lt.mp hb)
    ·refine wpS_pure ⟨_,_,rfl,rfl,by omega,by omega,by omega,f1,λi h1 h2=>?_⟩
     exact Int.lt_of_lt_of_le (hb.mp rfl) (U _ _ (by omega) (by omega) (by omega))
  ·rintro c st'' ⟨l,r,rfl,rfl,hlr,hr,hm,f1,f2⟩
   obtain rfl:l=r:=by omega
   exact⟨l,l,rfl,rfl,hr,f1,f2⟩
  ·rintro c st'' ⟨l,r,rfl,rfl,hl,f1,f2⟩
   refine wpS_bind (wpS_downI g.1.1 λst2 b2 e2 a2=>wpS_pure ⟨rfl,⟨⟨b2,e2.trans g.1.2⟩,?_⟩,?_⟩)
   ·have hz:lo+k<(arrOf st'').size:=by rw[g.1.1.size];omega
    intro j hj
    rw[a2,K_bubble hz (by omega),if_neg (by omega),if_neg (by omega)]
    exact g.2 j hj
   ·have hz:lo+k<(arrOf st'').size:=by rw[g.1.1.size];omega
    rw[Nat.min_eq_left (show k+1<=n by omega),a2]
    intro i j hi hij hj
    have F1:∀ i,lo<=i->i<lo+l->K (arrOf st'') i<=K (arrOf st'') (lo+k):=λi q1 q2=>by
     have:=f1 (i-lo) (by omega);rwa [show lo+(i-lo)=i by omega] at this
    have F2:∀ i,lo+l<=i->i<lo+k->K (arrOf st'') (lo+k)<K (arrOf st'') i:=λi q1 q2=>by
     have:=f2 (i-lo) (by omega) (by omega);rwa [show lo+(i-lo)=i by omega] at this
    rw[K_bubble hz (by omega),K_bubble hz (by omega),show lo+k-(lo+k-(lo+l))=lo+l by omega]
    repeat' split
    all_goals first
     | (exfalso;omega)
     | exact Int.le_refl _
     | exact F1 _ (by omega) (by omega)
     | exact Int.le_of_lt (F2 _ (by omega) (by omega))
     | exact U _ _ (by omega) (by omega) (by omega)
 ·rintro c st' ⟨rfl,g,U⟩
  rw[show min (max (max ok 1) n) n=n by omega] at U
  exact⟨rfl,g,U⟩
 ·intro i j hi hij hj
  by_cases e:ok=0
  ·obtain rfl:i=j:=by omega
   exact Int.le_refl _
  ·exact hU i j hi hij (by omega)
 ·rintro c st' ⟨rfl,g,U⟩;exact wpS_pure (h _ g U)
end
end SB
namespace SB
open PySem PyProof.Rows
section
variable {prog:Program}{w:World}{A:Around}{E:Value->Shared->Prop}{s:Shared}{a0:Array Keyed}
def Ahead (left:Bool)(key:Keyed)(x:Int):Prop:=if left=true then x<ks key else x<=ks key
theorem ahead_le {left:Bool}{key:Keyed}{x y:Int}(h:Ahead left key y)(hxy:x<=y):Ahead left key x:=by
 unfold Ahead at h ⊢
 cases left
 ·exact Int.le_trans hxy h
 ·exact Int.lt_of_le_of_lt hxy h
theorem gallop_s {left:Bool}{key:Keyed}{arr:Array Keyed}{base n hint:Nat}{st:SortSt}{Q:Option Nat->SortSt->Prop}(hk:kindOf st=oneType')(hkey:∃ i t,key.1=Value.int i t)(ha:IntKeys arr)
  (hb:base+n<=arr.size) (hh:hint<n) (hs:Up arr base (base+n))
  (h:∀ k,k<=n->(∀ i,i<k->Ahead left key (K arr (base+i)))->(∀ i,k<=i->i<n->¬ Ahead left key (K arr (base+i)))->Q (some k) st):wpS (model prog w) A E s (gallop' left key arr base n hint) Q st:=by
 show wpS _ _ _ _ (_ >>= _) _ _
 have bey:∀ (i:Nat) (Q':Option Bool->SortSt->Prop),i<n->(∀ b:Bool,(b=true↔Ahead left key (K arr (base+i)))->Q' (some b) st)->wpS (model prog w) A E s (do
   let x <- elem' arr (base+i)
   if left then lt' x key else return (<- lt' key x).map (!·)) Q' st:=by
  intro i Q' hi q
  obtain⟨p,e1,k1⟩:=ik_at ha (i:=base+i) (by omega)
  rw[K_at e1] at q
  refine wpS_bind (wpS_elem e1 ?_)
  cases left
  ·rw[if_neg (by decide)]
   refine wpS_bind (wpS_ltP hk hkey k1 (wpS_pure (q _ ?_)))
   simp[Ahead]
  ·rw[if_pos rfl]
   refine wpS_ltP hk k1 hkey (q _ ?_)
   simp[Ahead]
 have up:∀ i j,i<=j->j<n->Ahead left key (K arr (base+j))->Ahead left key (K arr (base+i)):=λi j h1 h2 h3=>ahead_le h3 (hs _ _ (by omega) (by omega) (by omega))
 generalize hF:(λi=>Ahead left key (K arr (base+i)))=F at *
 have eF:∀ i,Ahead left key (K arr (base+i))=F i:=λi=>by rw[<- hF]
 simp only[eF] at bey up h
 clear eF
 dsimp only
 refine wpS_bind (bey hint _ hh λb hbh=>?_)
 cases b
 ·have hbh:¬ F hint:=λz=>absurd (hbh.mpr z) (by decide)
  dsimp only
  rw[if_neg (by decide)]
  refine wpS_bind (wpS_mono (wpS_forRange (I:=λx c st'=>∃ l r,c=(none,l,r)/\l<r/\x+1<=r/\l<=hint/\¬ F (hint-l)/\st=st') (Q:=λc st'=>∃ l r,c=(none,l,r)/\l<r/\l<=hint/\¬ F (hint-l)/\(hint+1<=r\/F (hint-r))/\st=st') ?_ ?_ ⟨_,_,rfl,by omega,by omega,by omega,hbh,rfl⟩) ?_)
  ·rintro x c st' _ hx ⟨l,r,rfl,hlr,hxr,hl,f,rfl⟩
   dsimp only
   by_cases hge:r>=hint+1
   ·rw[if_pos hge];exact wpS_pure ⟨l,r,rfl,hlr,hl,f,.inl hge,rfl⟩
   ·rw[if_neg hge]
    refine wpS_bind (bey _ _ (by omega) λb hbb=>?_)
    cases b
    ·exact wpS_pure ⟨_,_,rfl,by omega,by omega,by omega,λz=>absurd (hbb.mpr z) (by decide),rfl⟩
    ·exact wpS_pure ⟨_,_,rfl,hlr,hl,f,.inr (hbb.mp rfl),rfl⟩
  ·rintro c st' ⟨l,r,rfl,hlr,hxr,hl,f,rfl⟩;exact⟨l,r,rfl,hlr,hl,f,.inl (by omega),rfl⟩
  ·rintro c st' ⟨l,r,rfl,hlr,hl,f,hor,rfl⟩
   have f1:∀ i,i<hint+1-min r (hint+1)->F i:=λi hi=>by
    rcases hor with z | z
    ·omega
    ·exact up i (hint-r) (by omega) (by omega) z
   have f2:∀ i,hint-l<=i->i<n->¬ F i:=λi h1 h2 h3=>f (up (hint-l) i h1 h2 h3)
   have hlr:hint+1-min r (hint+1)<=hint-l:=by omega
   have hrn:hint-l<=n:=by omega
   dsimp only
   refine wpS_bind (wpS_mono (wpS_forRange (I:=λx c st'=>∃ l r,c=(none,l,r)/\l<=r/\r<=n/\r-l<=n-x/\(∀ i,i<l->F i)/\(∀ i,r<=i->i<n->¬ F i)/\st=st') (Q:=λc st'=>∃ l,c=(none,l,l)/\l<=n/\(∀ i,i<l->F i)/\(∀ i,l<=i->i<n->¬ F i)/\st=st') ?_ ?_ ⟨_,_,rfl,hlr,hrn,by omega,f1,f2,rfl⟩) ?_)
   ·rintro x c st' _ hx ⟨l,r,rfl,hlr,hr,hm,f1,f2,rfl⟩
    dsimp only
    by_cases hge:l>=r
    ·rw[if_pos hge]
     obtain rfl:l=r:=by omega
     exact wpS_pure ⟨l,rfl,hr,f1,f2,rfl⟩
    ·rw[if_neg hge]
     refine wpS_bind (bey _ _ (by omega) λb hbb=>?_)
     cases b
     ·refine wpS_pure ⟨_,_,rfl,by omega,by omega,by omega,f1,λi h1 h2 h3=>?_,rfl⟩
      have:=up (l+(r-l) / 2) i h1 h2 h3
      exact absurd (hbb.mpr this) (by decide)
     ·exact wpS_pure ⟨_,_,rfl,by omega,hr,by omega,λi h1=>up i _ (by omega) (by omega) (hbb.mp rfl),f2,rfl⟩
   ·rintro c st' ⟨l,r,rfl,hlr,hr,hm,f1,f2,rfl⟩
    obtain rfl:l=r:=by omega
    exact⟨l,rfl,hr,f1,f2,rfl⟩
   ·rintro c st' ⟨l,rfl,hr,f1,f2,rfl⟩
    exact wpS_pure (h _ hr f1 f2)
 ·have hbh:F hint:=hbh.mp rfl
  dsimp only
  rw[if_pos rfl]
  refine wpS_bind (wpS_mono (wpS_forRange (I:=λx c st'=>∃ l r,c=(none,l,r)/\l<r/\x+1<=r/\hint+l<n/\F (hint+l)/\st=st') (Q:=λc st'=>∃ l r,c=(none,l,r)/\l<r/\hint+l<n/\F (hint+l)/\(n-hint<=r\/¬ F (hint+r))/\st=st') ?_ ?_ ⟨_,_,rfl,by omega,by omega,by omega,hbh,rfl⟩) ?_)
  ·rintro x c st' _ hx ⟨l,r,rfl,hlr,hxr,hl,f,rfl⟩
   dsimp only
   by_cases hge:r>=n-hint
   ·rw[if_pos hge];exact wpS_pure ⟨l,r,rfl,hlr,hl,f,.inl hge,rfl⟩
   ·rw[if_neg hge]
    refine wpS_bind (bey _ _ (by omega) λb hbb=>?_)
    cases b
    ·exact wpS_pure ⟨_,_,rfl,hlr,hl,f,.inr (λz=>absurd (hbb.mpr z) (by decide)),rfl⟩
    ·exact wpS_pure ⟨_,_,rfl,by omega,by omega,by omega,hbb.mp rfl,rfl⟩
  ·rintro c st' ⟨l,r,rfl,hlr,hxr,hl,f,rfl⟩;exact⟨l,r,rfl,hlr,hl,f,.inl (by omega),rfl⟩
  ·rintro c st' ⟨l,r,rfl,hlr,hl,f,hor,rfl⟩
   have f1:∀ i,i<hint+l+1->F i:=λi hi=>up i (hint+l) (by omega) hl f
   have f2:∀ i,hint+min r (n-hint)<=i->i<n->¬ F i:=λi h1 h2 h3=>by
    rcases hor with z | z
    ·omega
    ·exact z (up (hint+r) i (by omega) h2 h3)
   have hlr:hint+l+1<=hint+min r (n-hint):=by omega
   have hrn:hint+min r (n-hint)<=n:=by omega
   dsimp only
   refine wpS_bind (wpS_mono (wpS_forRange (I:=λx c st'=>∃ l r,c=(none,l,r)/\l<=r/\r<=n/\r-l<=n-x/\(∀ i,i<l->F i)/\(∀ i,r<=i->i<n->¬ F i)/\st=st') (Q:=λc st'=>∃ l,c=(none,l,l)/\l<=n/\(∀ i,i<l->F i)/\(∀ i,l<=i->i<n->¬ F i)/\st=st') ?_ ?_ ⟨_,_,rfl,hlr,hrn,by omega,f1,f2,rfl⟩) ?_)
   ·rintro x c st' _ hx ⟨l,r,rfl,hlr,hr,hm,f1,f2,rfl⟩
    dsimp only
    by_cases hge:l>=r
    ·rw[if_pos hge]
     obtain rfl:l=r:=by omega
     exact wpS_pure ⟨l,rfl,hr,f1,f2,rfl⟩
    ·rw[if_neg hge]
     refine wpS_bind (bey _ _ (by omega) λb hbb=>?_)
     cases b
     ·refine wpS_pure ⟨_,_,rfl,by omega,by omega,by omega,f1,λi h1 h2 h3=>?_,rfl⟩
      have:=up (l+(r-l) / 2) i h1 h2 h3
      exact absurd (hbb.mpr this) (by decide)
     ·exact wpS_pure ⟨_,_,rfl,by omega,hr,by omega,λi h1=>up i _ (by omega) (by omega) (hbb.mp rfl),f2,rfl⟩
   ·rintro c st' ⟨l,r,rfl,hlr,hr,hm,f1,f2,rfl⟩
    obtain rfl:l=r:=by omega
    exact⟨l,rfl,hr,f1,f2,rfl⟩
   ·rintro c st' ⟨l,rfl,hr,f1,f2,rfl⟩
    exact wpS_pure (h _ hr f1 f2)
abbrev Srt (l:List Keyed):Prop:=l.Pairwise λp q=>ks p<=ks q
theorem ext_mem {xs:Array Keyed}{i j:Nat}{p:Keyed}(h:p∈(xs.extract i j).toList):∃ k,i<=k/\k<j/\k<xs.size/\K xs k=ks p:=by
 rw[ext_list] at h
 obtain⟨k,hk,e⟩:=List.getElem_of_mem h
 have hk':=hk
 rw[List.length_drop,List.length_take,Array.length_toList] at hk'
 refine⟨i+k,by omega,by omega,by omega,?_⟩
 rw[List.getElem_drop,List.getElem_take] at e
 exact K_at (by rw[<- e];simp)
theorem ext_srt {xs:Array Keyed}{i j:Nat}(h:Up xs i j)(hj:j<=xs.size):Srt (xs.extract i j).toList:=by
 rw[ext_list,Srt,List.pairwise_iff_getElem]
 intro k m hk hm hkm
 rw[List.length_drop,List.length_take,Array.length_toList] at hk hm
 rw[List.getElem_drop,List.getElem_take,List.getElem_drop,List.getElem_take]
 have q:=h (i+k) (i+m) (by omega) (by omega) (by omega)
 rw[K_eq (by omega),K_eq (by omega)] at q
 simpa using q
structure Od (a b:Array Keyed)(ia ib:Nat)(out:Array Keyed):Prop where
 laid:Laid a b ia ib out
 srt:Srt out.toList
 la:∀ p,p∈out.toList->∀ j,ia<=j->j<a.size->ks p<=K a j
 lb:∀ p,p∈out.toList->∀ j,ib<=j->j<b.size->ks p<=K b j
structure Fit (a b:Array Keyed):Prop where
 ua:Up a 0 a.size
 ub:Up b 0 b.size
 fb:∀ j,j<a.size->K b 0<=K a j
 la:∀ j,j<b.size->K b j<=K a (a.size-1)
variable {a b:Array Keyed}{ia ib:Nat}{out:Array Keyed}
theorem Od.push {xs:Array Keyed}{p:Keyed}{k:Nat}(hs:Srt out.toList)(hl:∀ p,p∈out.toList->∀ j,k<=j->j<xs.size->ks p<=K xs j)(hp:xs[k]?=some p):Srt (out.push p).toList:=by
 rw[Array.toList_push,Srt,List.pairwise_append]
 refine⟨hs,List.pairwise_singleton _ _,λq hq r hr=>?_⟩
 obtain rfl:=List.mem_singleton.mp hr
 rw[<- K_at hp]
 exact hl q hq k (Nat.le_refl _) (by have:=Array.getElem?_eq_some_iff.mp hp;exact this.1)
theorem lt_of_at {xs:Array Keyed}{p:Keyed}{k:Nat}(hp:xs[k]?=some p):k<xs.size:=(Array.getElem?_eq_some_iff.mp hp).1
theorem Od.pb (F:Fit a b)(h:Od a b ia ib out){p:Keyed}(hp:b[ib]?=some p)(hx:∀ j,ia<=j->j<a.size->ks p<=K a j):Od a b ia (ib+1) (out.push p):=by
 refine⟨h.laid.b hp,Od.push h.srt h.lb hp,λq hq j h1 h2=>?_,λq hq j h1 h2=>?_⟩
 ·rw[Array.toList_push,List.mem_append,List.mem_singleton] at hq
  rcases hq with hq | rfl
  ·exact h.la q hq j h1 h2
  ·exact hx j h1 h2
 ·rw[Array.toList_push,List.mem_append,List.mem_singleton] at hq
  rcases hq with hq | rfl
  ·exact h.lb q hq j (by omega) h2
  ·rw[<- K_at hp];exact F.ub _ _ (by omega) (by omega) h2
theorem Od.pa (F:Fit a b)(h:Od a b ia ib out){p:Keyed}(hp:a[ia]?=some p)(hx:∀ j,ib<=j->j<b.size->ks p<=K b j):Od a b (ia+1) ib (out.push p):=by
 refine⟨h.laid.a hp,Od.push h.srt h.la hp,λq hq j h1 h2=>?_,λq hq j h1 h2=>?_⟩
 ·rw[Array.toList_push,List.mem_append,List.mem_singleton] at hq
  rcases hq with hq | rfl
  ·exact h.la q hq j (by omega) h2
  ·rw[<- K_at hp];exact F.ua _ _ (by omega) (by omega) h2
 ·rw[Array.toList_push,List.mem_append,List.mem_singleton] at hq
  rcases hq with hq | rfl
  ·exact h.lb q hq j h1 h2
  ·exact hx j h1 h2
theorem Od.app {xs:Array Keyed}{k m:Nat}(hs:Srt out.toList)(hl:∀ p,p∈out.toList->∀ j,k<=j->j<xs.size->ks p<=K xs j)(hu:Up xs 0 xs.size)(hm:m<=xs.size):Srt (out++xs.extract k m).toList:=by
 rw[Array.toList_append,Srt,List.pairwise_append]
 refine⟨hs,ext_srt (λi j h1 h2 h3=>hu i j (by omega) h2 (by omega)) hm,λq hq r hr=>?_⟩
 obtain⟨i,h1,h2,h3,e⟩:=ext_mem hr
 rw[<- e]
 exact hl q hq i h1 h3
theorem Od.ak (F:Fit a b)(h:Od a b ia ib out){k:Nat}(hk:ia+k<=a.size)(hx:∀ i,ia<=i->i<ia+k->∀ j,ib<=j->j<b.size->K a i<=K b j):Od a b (ia+k) ib (out++a.extract ia (ia+k)):=by
 refine⟨h.laid.ak k,Od.app h.srt h.la F.ua hk,λq hq j h1 h2=>?_,λq hq j h1 h2=>?_⟩
 ·rw[Array.toList_append,List.mem_append] at hq
  rcases hq with hq | hq
  ·exact h.la q hq j (by omega) h2
  ·obtain⟨i,i1,i2,i3,e⟩:=ext_mem hq
   rw[<- e];exact F.ua _ _ (by omega) (by omega) h2
 ·rw[Array.toList_append,List.mem_append] at hq
  rcases hq with hq | hq
  ·exact h.lb q hq j h1 h2
  ·obtain⟨i,i1,i2,i3,e⟩:=ext_mem hq
   rw[<- e];exact hx i i1 i2 j h1 h2
theorem Od.bk (F:Fit a b)(h:Od a b ia ib out){k:Nat}(hk:ib+k<=b.size)(hx:∀ j,ib<=j->j<ib+k->∀ i,ia<=i->i<a.size->K b j<=K a i):Od a b ia (ib+k) (out++b.extract ib (ib+k)):=by
 refine⟨h.laid.bk k,Od.app h.srt h.lb F.ub hk,λq hq j h1 h2=>?_,λq hq j h1 h2=>?_⟩
 ·rw[Array.toList_append,List.mem_append] at hq
  rcases hq with hq | hq
  ·exact h.la q hq j h1 h2
  ·obtain⟨i,i1,i2,i3,e⟩:=ext_mem hq
   rw[<- e];exact hx i i1 i2 j h1 h2
 ·rw[Array.toList_append,List.mem_append] at hq
  rcases hq with hq | hq
  ·exact h.lb q hq j (by omega) h2
  ·obtain⟨i,i1,i2,i3,e⟩:=ext_mem hq
   rw[<- e];exact F.ub _ _ (by omega) (by omega) h2
def Mg (a b:Array Keyed)(r:Array Keyed):Prop:=r.toList.Perm (a.toList++b.toList)/\Srt r.toList
theorem Od.fab (F:Fit a b)(h:Od a b ia ib out)(ha:ia<=a.size)(hb:ib<=b.size)(hx:∀ i,ia<=i->i<a.size->∀ j,ib<=j->j<b.size->K a i<=K b j):Mg a b (out++a.extract ia a.size++b.extract ib b.size):=by
 refine⟨h.laid.all ha hb,?_⟩
 obtain⟨j,hj⟩:∃ j,a.size=ia+j:=⟨a.size-ia,by omega⟩
 have q:=(h.ak F (k:=j) (by omega) (λi h1 h2=>hx i h1 (by omega)))
 rw[<- hj] at q
 exact Od.app q.srt q.lb F.ub (Nat.le_refl _)
theorem Od.fb (F:Fit a b)(h:Od a b ia ib out)(ha:ia<=a.size)(e:ib=b.size):Mg a b (out++a.extract ia a.size++b.extract ib b.size):=h.fab F ha (by omega) λi _ _ j h1 h2=>by omega
theorem Od.fa (F:Fit a b)(h:Od a b ia ib out)(hb:ib<=b.size)(e:ia=a.size):Mg a b (out++a.extract ia a.size++b.extract ib b.size):=h.fab F (by omega) hb λi h1 h2 j _ _=>by omega
theorem Od.fl (F : Fit a b) (h : Od a b ia ib out) (hb : ib ≤ b.size) (e : ia + 1 = a.size) : Mg a b (out ++ b.extract ib b.size ++ a.extract ia a.size) := by
  refine ⟨h.laid.all' (by omega) hb, ?_⟩
  obtain ⟨j, hj⟩ : ∃ j, b.size = ib + j := ⟨b.size - ib, by omega⟩
  have q := (h.bk F (k := j) (by omega) (fun i h1 h2 k h3 h4 => by obtain rfl : k = a.size - 1 := by omega
                                                                   exact F.la i (by omega)))
  rw [← hj] at q
  exact Od.app q.srt q.la F.ua (Nat.le_refl _)
theorem gA (F:Fit a b){p:Keyed}{k:Nat}(hp:b[ib]?=some p)(g:∀ i,i<k->Ahead false p (K a (ia+i))):∀ i,ia<=i->i<ia+k->∀ j,ib<=j->j<b.size->K a i<=K b j:=λi h1 h2 j h3 h4=>by
 have q:K a (ia+(i-ia))<=ks p:=g (i-ia) (by omega)
 rw[show ia+(i-ia)=i by omega,<- K_at hp] at q
 exact Int.le_trans q (F.ub _ _ (by omega) h3 h4)
theorem gB {p q:Keyed}{k:Nat}(hp:b[ib]?=some p)(hq:b[ib]?=some q)(g:∀ i,k<=i->i<a.size-ia->¬ Ahead false p (K a (ia+i))):∀ j,ia+k<=j->j<a.size->ks q<=K a j:=λj h1 h2=>by
 obtain rfl:p=q:=by rw[hp] at hq;exact Option.some.inj hq
 have z:¬ K a (ia+(j-ia))<=ks p:=g (j-ia) (by omega) (by omega)
 rw[show ia+(j-ia)=j by omega] at z
 omega
theorem gA2 (F:Fit a b){p:Keyed}{k:Nat}(hp:a[ia]?=some p)(g:∀ i,i<k->Ahead true p (K b (ib+i))):∀ j,ib<=j->j<ib+k->∀ i,ia<=i->i<a.size->K b j<=K a i:=λi h1 h2 j h3 h4=>by
 have q:K b (ib+(i-ib))<ks p:=g (i-ib) (by omega)
 rw[show ib+(i-ib)=i by omega,<- K_at hp] at q
 exact Int.le_trans (Int.le_of_lt q) (F.ua _ _ (by omega) h3 h4)
theorem gB2 {p q:Keyed}{k:Nat}(hp:a[ia]?=some p)(hq:a[ia]?=some q)(g:∀ i,k<=i->i<b.size-ib->¬ Ahead true p (K b (ib+i))):∀ j,ib+k<=j->j<b.size->ks q<=K b j:=λj h1 h2=>by
 obtain rfl:p=q:=by rw[hp] at hq;exact Option.some.inj hq
 have z:¬ K b (ib+(j-ib))<ks p:=g (j-ib) (by omega) (by omega)
 rw[show ib+(j-ib)=j by omega] at z
 omega
end
end SB
namespace SB
open PySem PyProof.Rows
section
variable {prog:Program}{w:World}{A:Around}{E:Value->Shared->Prop}{s:Shared}{a0:Array Keyed}
variable {a b:Array Keyed}{ia ib na nb:Nat}{out:Array Keyed}
theorem ltA (F:Fit a b){p1 p2 p3:Keyed}(h1:b[ib]?=some p1)(h2:a[ia]?=some p2)(h3:b[ib]?=some p3)(h:ks p1<ks p2):∀ j,ia<=j->j<a.size->ks p3<=K a j:=λj q1 q2=>by
 obtain rfl:p1=p3:=by rw[h1] at h3;exact Option.some.inj h3
 rw[<- K_at h2] at h
 exact Int.le_trans (Int.le_of_lt h) (F.ua _ _ (by omega) q1 q2)
theorem ltB (F:Fit a b){p1 p2 p3:Keyed}(h1:b[ib]?=some p1)(h2:a[ia]?=some p2)(h3:a[ia]?=some p3)(h:¬ ks p1<ks p2):∀ j,ib<=j->j<b.size->ks p3<=K b j:=λj q1 q2=>by
 obtain rfl:p2=p3:=by rw[h2] at h3;exact Option.some.inj h3
 rw[<- K_at h1] at h
 exact Int.le_trans (Int.not_lt.mp h) (F.ub _ _ (by omega) q1 q2)
theorem Up.sub {xs:Array Keyed}{i n:Nat}(h:Up xs 0 xs.size)(hn:i+n<=xs.size):Up xs i (i+n):=λk m _ h2 h3=>h k m (by omega) h2 (by omega)
structure MidO (a b:Array Keyed)(c0 ia ib:Nat)(out:Array Keyed):Prop where
 laid:Od a b ia ib out
 ha:ia+1<a.size
 hb:ib<b.size
 pr:c0<=ia+ib
def MRetO (a b:Array Keyed)(GG:SortSt->Prop){β:Type}(c:Option (Array Keyed)×β)(st':SortSt):Prop:=∃ r y,c=(some r,y)/\Mg a b r/\GG st'
structure OdH (a b:Array Keyed)(na nb:Nat)(out:Array Keyed):Prop where
 laid:LaidH a b na nb out
 srt:out.toList.Pairwise λp q=>ks q<=ks p
 la:∀ p,p∈out.toList->∀ j,j<na->K a j<=ks p
 lb:∀ p,p∈out.toList->∀ j,j<nb->K b j<=ks p
theorem OdH.pb (F:Fit a b)(h:OdH a b na nb out)(h1:1<=nb){p:Keyed}(hp:b[nb-1]?=some p)(hx:∀ j,j<na->K a j<=ks p):OdH a b na (nb-1) (out.push p):=by
 have hz:=lt_of_at hp
 refine⟨h.laid.b h1 hp,?_,λq hq j h2=>?_,λq hq j h2=>?_⟩
 ·rw[Array.toList_push,List.pairwise_append]
  refine⟨h.srt,List.pairwise_singleton _ _,λq hq r hr=>?_⟩
  obtain rfl:=List.mem_singleton.mp hr
  rw[<- K_at hp];exact h.lb q hq _ (by omega)
 ·rw[Array.toList_push,List.mem_append,List.mem_singleton] at hq
  rcases hq with hq | rfl
  ·exact h.la q hq j h2
  ·exact hx j h2
 ·rw[Array.toList_push,List.mem_append,List.mem_singleton] at hq
  rcases hq with hq | rfl
  ·exact h.lb q hq j (by omega)
  ·rw[<- K_at hp];exact F.ub _ _ (by omega) (by omega) (by omega)
theorem OdH.pa (F:Fit a b)(h:OdH a b na nb out)(h1:1<=na){p:Keyed}(hp:a[na-1]?=some p)(hx:∀ j,j<nb->K b j<=ks p):OdH a b (na-1) nb (out.push p):=by
 have hz:=lt_of_at hp
 refine⟨h.laid.a h1 hp,?_,λq hq j h2=>?_,λq hq j h2=>?_⟩
 ·rw[Array.toList_push,List.pairwise_append]
  refine⟨h.srt,List.pairwise_singleton _ _,λq hq r hr=>?_⟩
  obtain rfl:=List.mem_singleton.mp hr
  rw[<- K_at hp];exact h.la q hq _ (by omega)
 ·rw[Array.toList_push,List.mem_append,List.mem_singleton] at hq
  rcases hq with hq | rfl
  ·exact h.la q hq j (by omega)
  ·rw[<- K_at hp];exact F.ua _ _ (by omega) (by omega) (by omega)
 ·rw[Array.toList_push,List.mem_append,List.mem_singleton] at hq
  rcases hq with hq | rfl
  ·exact h.lb q hq j h2
  ·exact hx j h2
theorem rev_app {xs:Array Keyed}{k m:Nat}(hs:out.toList.Pairwise λp q=>ks q<=ks p)(hl:∀ p,p∈out.toList->∀ j,j<m->K xs j<=ks p)(hu:Up xs 0 xs.size)(hm:m<=xs.size):(out++(xs.extract k m).reverse).toList.Pairwise λp q=>ks q<=ks p:=by
 rw[Array.toList_append,Array.toList_reverse,List.pairwise_append]
 refine⟨hs,List.pairwise_reverse.mpr (ext_srt (λi j h1 h2 h3=>hu i j (by omega) h2 (by omega)) hm),λq hq r hr=>?_⟩
 obtain⟨i,h1,h2,h3,e⟩:=ext_mem (List.mem_reverse.mp hr)
 rw[<- e]
 exact hl q hq i h2
theorem OdH.ak (F:Fit a b)(h:OdH a b na nb out){k:Nat}(hk:k<=na)(hn:na<=a.size)(hx:∀ i,k<=i->i<na->∀ j,j<nb->K b j<=K a i):OdH a b k nb (out++(a.extract k na).reverse):=by
 refine⟨h.laid.ak hk,rev_app h.srt h.la F.ua hn,λq hq j h2=>?_,λq hq j h2=>?_⟩
 ·rw[Array.toList_append,Array.toList_reverse,List.mem_append,List.mem_reverse] at hq
  rcases hq with hq | hq
  ·exact h.la q hq j (by omega)
  ·obtain⟨i,i1,i2,i3,e⟩:=ext_mem hq
   rw[<- e];exact F.ua _ _ (by omega) (by omega) i3
 ·rw[Array.toList_append,Array.toList_reverse,List.mem_append,List.mem_reverse] at hq
  rcases hq with hq | hq
  ·exact h.lb q hq j h2
  ·obtain⟨i,i1,i2,i3,e⟩:=ext_mem hq
   rw[<- e];exact hx i i1 i2 j h2
theorem OdH.bk (F:Fit a b)(h:OdH a b na nb out){k:Nat}(hk:k<=nb)(hn:nb<=b.size)(hx:∀ j,k<=j->j<nb->∀ i,i<na->K a i<=K b j):OdH a b na k (out++(b.extract k nb).reverse):=by
 refine⟨h.laid.bk hk,rev_app h.srt h.lb F.ub hn,λq hq j h2=>?_,λq hq j h2=>?_⟩
 ·rw[Array.toList_append,Array.toList_reverse,List.mem_append,List.mem_reverse] at hq
  rcases hq with hq | hq
  ·exact h.la q hq j h2
  ·obtain⟨i,i1,i2,i3,e⟩:=ext_mem hq
   rw[<- e];exact hx i i1 i2 j h2
 ·rw[Array.toList_append,Array.toList_reverse,List.mem_append,List.mem_reverse] at hq
  rcases hq with hq | hq
  ·exact h.lb q hq j (by omega)
  ·obtain⟨i,i1,i2,i3,e⟩:=ext_mem hq
   rw[<- e];exact F.ub _ _ (by omega) (by omega) i3
theorem srt3 {x y z:List Keyed}(hx:Srt x)(hy:Srt y)(hz:Srt z)(h1:∀ p,p∈x->∀ q,q∈y->ks p<=ks q)(h2:∀ p,p∈x->∀ q,q∈z->ks p<=ks q)(h3:∀ p,p∈y->∀ q,q∈z->ks p<=ks q):Srt (x++y++z):=by
 rw[Srt,List.pairwise_append,List.pairwise_append]
 refine⟨⟨hx,hy,h1⟩,hz,λp hp q hq=>?_⟩
 rcases List.mem_append.mp hp with hp | hp
 ·exact h2 p hp q hq
 ·exact h3 p hp q hq
theorem OdH.fab (F:Fit a b)(h:OdH a b na nb out)(ha:na<=a.size)(hb:nb<=b.size)(hx:∀ i,i<na->∀ j,j<nb->K a i<=K b j):Mg a b (a.extract 0 na++b.extract 0 nb++out.reverse):=by
 refine⟨h.laid.all,?_⟩
 rw[Array.toList_append,Array.toList_append,Array.toList_reverse]
 refine srt3 (ext_srt (λi j h1 h2 h3=>F.ua i j (by omega) h2 (by omega)) ha) (ext_srt (λi j h1 h2 h3=>F.ub i j (by omega) h2 (by omega)) hb) (List.pairwise_reverse.mpr h.srt) (λp hp q hq=>?_) (λp hp q hq=>?_) (λp hp q hq=>?_)
 ·obtain⟨i,_,i2,_,e⟩:=ext_mem hp
  obtain⟨j,_,j2,_,e2⟩:=ext_mem hq
  rw[<- e,<- e2];exact hx i i2 j j2
 ·obtain⟨i,_,i2,_,e⟩:=ext_mem hp
  rw[<- e];exact h.la q (List.mem_reverse.mp hq) i i2
 ·obtain⟨i,_,i2,_,e⟩:=ext_mem hp
  rw[<- e];exact h.lb q (List.mem_reverse.mp hq) i i2
theorem OdH.fz (F:Fit a b)(h:OdH a b na nb out)(hb:nb<=b.size)(e:na=0):Mg a b (a.extract 0 na++b.extract 0 nb++out.reverse):=h.fab F (by omega) hb λi hi=>by omega
theorem OdH.fn (F:Fit a b)(h:OdH a b na nb out)(ha:na<=a.size)(e:nb=0):Mg a b (a.extract 0 na++b.extract 0 nb++out.reverse):=h.fab F ha (by omega) λi _ j hj=>by omega
theorem OdH.fl (F:Fit a b)(h:OdH a b na nb out)(ha:na<=a.size)(hb:nb<=b.size)(e:nb=1):Mg a b (b.extract 0 nb++a.extract 0 na++out.reverse):=by
 refine⟨h.laid.all',?_⟩
 rw[Array.toList_append,Array.toList_append,Array.toList_reverse]
 refine srt3 (ext_srt (λi j h1 h2 h3=>F.ub i j (by omega) h2 (by omega)) hb) (ext_srt (λi j h1 h2 h3=>F.ua i j (by omega) h2 (by omega)) ha) (List.pairwise_reverse.mpr h.srt) (λp hp q hq=>?_) (λp hp q hq=>?_) (λp hp q hq=>?_)
 ·obtain⟨i,_,i2,_,e1⟩:=ext_mem hp
  obtain⟨j,_,j2,_,e2⟩:=ext_mem hq
  obtain rfl:i=0:=by omega
  rw[<- e1,<- e2];exact F.fb j (by omega)
 ·obtain⟨i,_,i2,_,e⟩:=ext_mem hp
  rw[<- e];exact h.lb q (List.mem_reverse.mp hq) i i2
 ·obtain⟨i,_,i2,_,e⟩:=ext_mem hp
  rw[<- e];exact h.la q (List.mem_reverse.mp hq) i i2
theorem hA1 (F:Fit a b){p:Keyed}{k:Nat}(hp:b[nb-1]?=some p)(hb:nb<=b.size)(g:∀ i,k<=i->i<na->¬ Ahead false p (K a (0+i))):∀ i,k<=i->i<na->∀ j,j<nb->K b j<=K a i:=λi h1 h2 j h3=>by
 have z:¬ K a (0+i)<=ks p:=g i h1 h2
 rw[Nat.zero_add,<- K_at hp] at z
 have:=F.ub j (nb-1) (by omega) (by omega) (by omega)
 omega
theorem hB1 {p q:Keyed}{k:Nat}(hp:b[nb-1]?=some p)(hq:b[nb-1]?=some q)(g:∀ i,i<k->Ahead false p (K a (0+i))):∀ j,j<k->K a j<=ks q:=λj h1=>by
 obtain rfl:p=q:=by rw[hp] at hq;exact Option.some.inj hq
 have z:K a (0+j)<=ks p:=g j h1
 rwa [Nat.zero_add] at z
theorem hA2 (F:Fit a b){p:Keyed}{k:Nat}(hp:a[na-1]?=some p)(ha:na<=a.size)(g:∀ i,k<=i->i<nb->¬ Ahead true p (K b (0+i))):∀ j,k<=j->j<nb->∀ i,i<na->K a i<=K b j:=λj h1 h2 i h3=>by
 have z:¬ K b (0+j)<ks p:=g j h1 h2
 rw[Nat.zero_add,<- K_at hp] at z
 have:=F.ua i (na-1) (by omega) (by omega) (by omega)
 omega
theorem hB2 {p q:Keyed}{k:Nat}(hp:a[na-1]?=some p)(hq:a[na-1]?=some q)(g:∀ i,i<k->Ahead true p (K b (0+i))):∀ j,j<k->K b j<=ks q:=λj h1=>by
 obtain rfl:p=q:=by rw[hp] at hq;exact Option.some.inj hq
 have z:K b (0+j)<ks p:=g j h1
 rw[Nat.zero_add] at z
 exact Int.le_of_lt z
theorem ltAH (F:Fit a b){p1 p2 p3:Keyed}(h1:b[nb-1]?=some p1)(h2:a[na-1]?=some p2)(h3:a[na-1]?=some p3)(hn:nb<=b.size)(h:ks p1<ks p2):∀ j,j<nb->K b j<=ks p3:=λj q1=>by
 obtain rfl:p2=p3:=by rw[h2] at h3;exact Option.some.inj h3
 rw[<- K_at h1] at h
 exact Int.le_trans (F.ub _ _ (by omega) (by omega) (by omega)) (Int.le_of_lt h)
theorem ltBH (F:Fit a b){p1 p2 p3:Keyed}(h1:b[nb-1]?=some p1)(h2:a[na-1]?=some p2)(h3:b[nb-1]?=some p3)(hn:na<=a.size)(h:¬ ks p1<ks p2):∀ j,j<na->K a j<=ks p3:=λj q1=>by
 obtain rfl:p1=p3:=by rw[h1] at h3;exact Option.some.inj h3
 rw[<- K_at h2] at h
 exact Int.le_trans (F.ua _ _ (by omega) (by omega) (by omega)) (Int.not_lt.mp h)
structure MidHO (a b:Array Keyed)(c0 na nb:Nat)(out:Array Keyed):Prop where
 laid:OdH a b na nb out
 ha:1<=na
 ha2:na<=a.size
 hb:2<=nb
 hb2:nb<=b.size
 pr:c0+na+nb<=a.size+b.size
theorem mergeLo_s {a b:Array Keyed}{pe:Array (Nat×Nat×Nat)}{xs:Array Keyed}{st:SortSt}{Q:Array Keyed->SortSt->Prop}(hB:GX a0 pe xs st)(ha:IntKeys a)(hb:IntKeys b)(ha1:1<=a.size)(hb1:1<=b.size)
  (F:Fit a b) (h:∀ out st',GX a0 pe xs st'->Mg a b out->Q out st'):wpS (model prog w) A E s (mergeLo' a b) Q st:=by
 show wpS _ _ _ _ (_ >>= _) _ _
 refine wpS_bind (wpS_lift (wpAny_rule ⟨rfl,?_⟩))
 obtain⟨b0,e0,_⟩:=ik_at hb (i:=0) (by omega)
 refine wpS_bind (wpS_elem e0 ?_)
 have L0:Od a b 0 1 #[b0]:=by
  refine⟨?_,List.pairwise_singleton _ _,λp hp j _ hj=>?_,λp hp j _ hj=>?_⟩
  ·unfold Laid
   rw[take_at e0];simp
  ·obtain rfl:=List.mem_singleton.mp hp
   rw[<- K_at e0];exact F.fb j hj
  ·obtain rfl:=List.mem_singleton.mp hp
   rw[<- K_at e0];exact F.ub _ _ (by omega) (by omega) hj
 dsimp only
 refine wpS_iteB (λh1=>wpS_pure (h _ _ hB (L0.fb F (by omega) h1))) λh1=>?_
 refine wpS_iteB (λh2=>wpS_pure (h _ _ hB (L0.fl F (by omega) h2))) λh2=>?_
 refine wpS_bind (wpS_get ?_)
 refine wpS_bind (wpS_mono (wpS_forRange (I:=λx c st'=>∃ out ia ib mg,c=(none,out,ia,ib,mg)/\MidO a b (x+1) ia ib out/\GX a0 pe xs st') (Q:=MRetO a b (GX a0 pe xs)) ?step ?fin ⟨_,_,_,_,rfl,⟨L0,by omega,by omega,by omega⟩,hB⟩) ?post)
 case fin =>
  rintro c st' ⟨out,ia,ib,mg,rfl,m,g⟩
  have:=m.ha;have:=m.hb;have:=m.pr
  exfalso;omega
 case post =>
  rintro c st' ⟨r,y,rfl,p,g⟩
  exact wpS_pure (h _ _ g p)
 case step =>
  rintro x c st1 _ hx ⟨out,ia,ib,mg,rfl,m,g⟩
  dsimp only
  refine wpS_bind (wpS_mono (wpS_forRange (I:=λx2 c st'=>∃ out ia ib ac bc,c=(none,out,ia,ib,ac,bc)/\MidO a b (x+1+min x2 1) ia ib out/\GX a0 pe xs st')
   (Q:=λc st'=>MRetO a b (GX a0 pe xs) c st'\/∃ out ia ib ac bc,c=(none,out,ia,ib,ac,bc)/\MidO a b (x+2) ia ib out/\GX a0 pe xs st') ?_ ?_ ⟨_,_,_,_,_,rfl,m,g⟩) ?_)
  ·rintro x2 c st2 _ hx2 ⟨out,ia,ib,ac,bc,rfl,m,g⟩
   have m1:=m.ha;have m2:=m.hb;have m3:=m.pr
   dsimp only
   refine wpS_bind (wpS_elemB hb (by omega) λp1 hp1 kp1=>?_)
   refine wpS_bind (wpS_elemB ha (by omega) λp2 hp2 kp2=>?_)
   refine wpS_bind (wpS_ltP g.1.1.kind kp1 kp2 ?_)
   dsimp only
   refine wpS_ite (λhbw=>?_) (λhbw=>?_)
   ·refine wpS_bind (wpS_elemB hb (by omega) λp3 hp3 kp3=>?_)
    have X:=ltA F hp1 hp2 hp3 (of_decide_eq_true hbw)
    refine wpS_iteB (λe=>wpS_pure (.inl ⟨_,_,rfl,(m.laid.pb F hp3 X).fb F (by omega) e,g⟩)) λne=>?_
    exact wpS_ite (λ_=>wpS_pure (.inr ⟨_,_,_,_,_,rfl,⟨m.laid.pb F hp3 X,by omega,by omega,by omega⟩,g⟩)) λ_=>wpS_pure ⟨_,_,_,_,_,rfl,⟨m.laid.pb F hp3 X,by omega,by omega,by omega⟩,g⟩
   ·refine wpS_bind (wpS_elemB ha (by omega) λp3 hp3 kp3=>?_)
    have X:=ltB F hp1 hp2 hp3 λz=>hbw (decide_eq_true z)
    refine wpS_iteB (λe=>wpS_pure (.inl ⟨_,_,rfl,(m.laid.pa F hp3 X).fl F (by omega) e,g⟩)) λne=>?_
    exact wpS_ite (λ_=>wpS_pure (.inr ⟨_,_,_,_,_,rfl,⟨m.laid.pa F hp3 X,by omega,by omega,by omega⟩,g⟩)) λ_=>wpS_pure ⟨_,_,_,_,_,rfl,⟨m.laid.pa F hp3 X,by omega,by omega,by omega⟩,g⟩
  ·rintro c st2 ⟨out,ia,ib,ac,bc,rfl,m,g⟩
   exact .inr ⟨_,_,_,_,_,rfl,⟨m.laid,m.ha,m.hb,by have:=m.pr;omega⟩,g⟩
  ·rintro c st2 (⟨r,y,rfl,p,g⟩ | ⟨out,ia,ib,ac,bc,rfl,m,g⟩)
   ·exact wpS_pure ⟨_,_,rfl,p,g⟩
   ·dsimp only
    refine wpS_bind (wpS_lift (wpAny_rule ⟨rfl,?_⟩))
    refine wpS_bind (wpS_mono (wpS_forRange (I:=λ_ c st'=>∃ out ia ib mg ac bc,c=(none,out,ia,ib,mg,ac,bc)/\MidO a b (x+2) ia ib out/\GX a0 pe xs st')
     (Q:=λc st'=>MRetO a b (GX a0 pe xs) c st'\/∃ out ia ib mg ac bc,c=(none,out,ia,ib,mg,ac,bc)/\MidO a b (x+2) ia ib out/\GX a0 pe xs st') ?_ ?_ ⟨_,_,_,_,_,_,rfl,m,g⟩) ?_)
    ·rintro x3 c st3 _ hx3 ⟨out,ia,ib,mg,ac,bc,rfl,m,g⟩
     have m1:=m.ha;have m2:=m.hb;have m3:=m.pr
     have L:=m.laid
     dsimp only
     refine wpS_ite (λhm=>?_) (λhm=>?_)
     ·refine wpS_bind (wpS_setMin g λst1 g1=>?_)
      refine wpS_bind (wpS_elemB hb (by omega) λp hp kp=>?_)
      refine wpS_bind (gallop_s g1.1.1.kind kp ha (by omega) (by omega) (F.ua.sub (by omega)) λk hk gk1 gk2=>?_)
      dsimp only
      refine wpS_ite (λhk0=>?_) (λhk0=>?_)
      ·refine wpS_iteB (λe=>wpS_pure (.inl ⟨_,_,rfl,((L).ak F (k:=k) (by omega) (gA F hp gk1)).fl F (by omega) e,g1⟩)) λne1=>?_
       refine wpS_iteB (λe=>wpS_pure (.inl ⟨_,_,rfl,((L).ak F (k:=k) (by omega) (gA F hp gk1)).fa F (by omega) e,g1⟩)) λne2=>?_
       refine wpS_bind (wpS_elemB hb (by omega) λq1 hq1 kq1=>?_)
       refine wpS_iteB (λe=>wpS_pure (.inl ⟨_,_,rfl,(((L).ak F (k:=k) (by omega) (gA F hp gk1)).pb F hq1 (gB hp hq1 gk2)).fb F (by omega) e,g1⟩)) λne3=>?_
       refine wpS_bind (wpS_elemB ha (by omega) λq2 hq2 kq2=>?_)
       refine wpS_bind (gallop_s g1.1.1.kind kq2 hb (by omega) (by omega) (F.ub.sub (by omega)) λk2 hk2 gk3 gk4=>?_)
       dsimp only
       refine wpS_ite (λh22=>?_) (λh22=>?_)
       ·refine wpS_iteB (λe=>wpS_pure (.inl ⟨_,_,rfl,((((L).ak F (k:=k) (by omega) (gA F hp gk1)).pb F hq1 (gB hp hq1 gk2)).bk F (k:=k2) (by omega) (gA2 F hq2 gk3)).fb F (by omega) e,g1⟩)) λne4=>?_
        refine wpS_bind (wpS_elemB ha (by omega) λq3 hq3 kq3=>?_)
        refine wpS_iteB (λe=>wpS_pure (.inl ⟨_,_,rfl,(((((L).ak F (k:=k) (by omega) (gA F hp gk1)).pb F hq1 (gB hp hq1 gk2)).bk F (k:=k2) (by omega) (gA2 F hq2 gk3)).pa F hq3 (gB2 hq2 hq3 gk4)).fl F (by omega) e,g1⟩)) λne5=>?_
        refine wpS_ite (λ_=>wpS_pure (.inr ⟨_,_,_,_,_,_,rfl,⟨((((L).ak F (k:=k) (by omega) (gA F hp gk1)).pb F hq1 (gB hp hq1 gk2)).bk F (k:=k2) (by omega) (gA2 F hq2 gk3)).pa F hq3 (gB2 hq2 hq3 gk4),by omega,by omega,by omega⟩,g1⟩)) λ_=>wpS_pure ⟨_,_,_,_,_,_,rfl,⟨((((L).ak F (k:=k) (by omega) (gA F hp gk1)).pb F hq1 (gB hp hq1 gk2)).bk F (k:=k2) (by omega) (gA2 F hq2 gk3)).pa F hq3 (gB2 hq2 hq3 gk4),by omega,by omega,by omega⟩,g1⟩
       ·obtain rfl:k2=0:=by omega
        refine wpS_bind (wpS_elemB ha (by omega) λq3 hq3 kq3=>?_)
        refine wpS_iteB (λe=>wpS_pure (.inl ⟨_,_,rfl,((((L).ak F (k:=k) (by omega) (gA F hp gk1)).pb F hq1 (gB hp hq1 gk2)).pa F hq3 (gB2 (ib:=ib+1) (k:=0) hq2 hq3 gk4)).fl F (by omega) e,g1⟩)) λne5=>?_
        refine wpS_ite (λ_=>wpS_pure (.inr ⟨_,_,_,_,_,_,rfl,⟨(((L).ak F (k:=k) (by omega) (gA F hp gk1)).pb F hq1 (gB hp hq1 gk2)).pa F hq3 (gB2 (ib:=ib+1) (k:=0) hq2 hq3 gk4),by omega,by omega,by omega⟩,g1⟩)) λ_=>wpS_pure ⟨_,_,_,_,_,_,rfl,⟨(((L).ak F (k:=k) (by omega) (gA F hp gk1)).pb F hq1 (gB hp hq1 gk2)).pa F hq3 (gB2 (ib:=ib+1) (k:=0) hq2 hq3 gk4),by omega,by omega,by omega⟩,g1⟩
      ·obtain rfl:k=0:=by omega
       refine wpS_bind (wpS_elemB hb (by omega) λq1 hq1 kq1=>?_)
       refine wpS_iteB (λe=>wpS_pure (.inl ⟨_,_,rfl,((L).pb F hq1 (gB hp hq1 gk2)).fb F (by omega) e,g1⟩)) λne3=>?_
       refine wpS_bind (wpS_elemB ha (by omega) λq2 hq2 kq2=>?_)
       refine wpS_bind (gallop_s g1.1.1.kind kq2 hb (by omega) (by omega) (F.ub.sub (by omega)) λk2 hk2 gk3 gk4=>?_)
       dsimp only
       refine wpS_ite (λh22=>?_) (λh22=>?_)
       ·refine wpS_iteB (λe=>wpS_pure (.inl ⟨_,_,rfl,(((L).pb F hq1 (gB hp hq1 gk2)).bk F (k:=k2) (by omega) (gA2 F hq2 gk3)).fb F (by omega) e,g1⟩)) λne4=>?_
        refine wpS_bind (wpS_elemB ha (by omega) λq3 hq3 kq3=>?_)
        refine wpS_iteB (λe=>wpS_pure (.inl ⟨_,_,rfl,((((L).pb F hq1 (gB hp hq1 gk2)).bk F (k:=k2) (by omega) (gA2 F hq2 gk3)).pa F hq3 (gB2 hq2 hq3 gk4)).fl F (by omega) e,g1⟩)) λne5=>?_
        refine wpS_ite (λ_=>wpS_pure (.inr ⟨_,_,_,_,_,_,rfl,⟨(((L).pb F hq1 (gB hp hq1 gk2)).bk F (k:=k2) (by omega) (gA2 F hq2 gk3)).pa F hq3 (gB2 hq2 hq3 gk4),by omega,by omega,by omega⟩,g1⟩)) λ_=>wpS_pure ⟨_,_,_,_,_,_,rfl,⟨(((L).pb F hq1 (gB hp hq1 gk2)).bk F (k:=k2) (by omega) (gA2 F hq2 gk3)).pa F hq3 (gB2 hq2 hq3 gk4),by omega,by omega,by omega⟩,g1⟩
       ·obtain rfl:k2=0:=by omega
        refine wpS_bind (wpS_elemB ha (by omega) λq3 hq3 kq3=>?_)
        refine wpS_iteB (λe=>wpS_pure (.inl ⟨_,_,rfl,(((L).pb F hq1 (gB hp hq1 gk2)).pa F hq3 (gB2 (ib:=ib+1) (k:=0) hq2 hq3 gk4)).fl F (by omega) e,g1⟩)) λne5=>?_
        refine wpS_ite (λ_=>wpS_pure (.inr ⟨_,_,_,_,_,_,rfl,⟨((L).pb F hq1 (gB hp hq1 gk2)).pa F hq3 (gB2 (ib:=ib+1) (k:=0) hq2 hq3 gk4),by omega,by omega,by omega⟩,g1⟩)) λ_=>wpS_pure ⟨_,_,_,_,_,_,rfl,⟨((L).pb F hq1 (gB hp hq1 gk2)).pa F hq3 (gB2 (ib:=ib+1) (k:=0) hq2 hq3 gk4),by omega,by omega,by omega⟩,g1⟩
     ·refine wpS_bind (wpS_setMin g λst1 g1=>?_)
      refine wpS_bind (wpS_elemB hb (by omega) λp hp kp=>?_)
      refine wpS_bind (gallop_s g1.1.1.kind kp ha (by omega) (by omega) (F.ua.sub (by omega)) λk hk gk1 gk2=>?_)
      dsimp only
      refine wpS_ite (λhk0=>?_) (λhk0=>?_)
      ·refine wpS_iteB (λe=>wpS_pure (.inl ⟨_,_,rfl,((L).ak F (k:=k) (by omega) (gA F hp gk1)).fl F (by omega) e,g1⟩)) λne1=>?_
       refine wpS_iteB (λe=>wpS_pure (.inl ⟨_,_,rfl,((L).ak F (k:=k) (by omega) (gA F hp gk1)).fa F (by omega) e,g1⟩)) λne2=>?_
       refine wpS_bind (wpS_elemB hb (by omega) λq1 hq1 kq1=>?_)
       refine wpS_iteB (λe=>wpS_pure (.inl ⟨_,_,rfl,(((L).ak F (k:=k) (by omega) (gA F hp gk1)).pb F hq1 (gB hp hq1 gk2)).fb F (by omega) e,g1⟩)) λne3=>?_
       refine wpS_bind (wpS_elemB ha (by omega) λq2 hq2 kq2=>?_)
       refine wpS_bind (gallop_s g1.1.1.kind kq2 hb (by omega) (by omega) (F.ub.sub (by omega)) λk2 hk2 gk3 gk4=>?_)
       dsimp only
       refine wpS_ite (λh22=>?_) (λh22=>?_)
       ·refine wpS_iteB (λe=>wpS_pure (.inl ⟨_,_,rfl,((((L).ak F (k:=k) (by omega) (gA F hp gk1)).pb F hq1 (gB hp hq1 gk2)).bk F (k:=k2) (by omega) (gA2 F hq2 gk3)).fb F (by omega) e,g1⟩)) λne4=>?_
        refine wpS_bind (wpS_elemB ha (by omega) λq3 hq3 kq3=>?_)
        refine wpS_iteB (λe=>wpS_pure (.inl ⟨_,_,rfl,(((((L).ak F (k:=k) (by omega) (gA F hp gk1)).pb F hq1 (gB hp hq1 gk2)).bk F (k:=k2) (by omega) (gA2 F hq2 gk3)).pa F hq3 (gB2 hq2 hq3 gk4)).fl F (by omega) e,g1⟩)) λne5=>?_
        refine wpS_ite (λ_=>wpS_pure (.inr ⟨_,_,_,_,_,_,rfl,⟨((((L).ak F (k:=k) (by omega) (gA F hp gk1)).pb F hq1 (gB hp hq1 gk2)).bk F (k:=k2) (by omega) (gA2 F hq2 gk3)).pa F hq3 (gB2 hq2 hq3 gk4),by omega,by omega,by omega⟩,g1⟩)) λ_=>wpS_pure ⟨_,_,_,_,_,_,rfl,⟨((((L).ak F (k:=k) (by omega) (gA F hp gk1)).pb F hq1 (gB hp hq1 gk2)).bk F (k:=k2) (by omega) (gA2 F hq2 gk3)).pa F hq3 (gB2 hq2 hq3 gk4),by omega,by omega,by omega⟩,g1⟩
       ·obtain rfl:k2=0:=by omega
        refine wpS_bind (wpS_elemB ha (by omega) λq3 hq3 kq3=>?_)
        refine wpS_iteB (λe=>wpS_pure (.inl ⟨_,_,rfl,((((L).ak F (k:=k) (by omega) (gA F hp gk1)).pb F hq1 (gB hp hq1 gk2)).pa F hq3 (gB2 (ib:=ib+1) (k:=0) hq2 hq3 gk4)).fl F (by omega) e,g1⟩)) λne5=>?_
        refine wpS_ite (λ_=>wpS_pure (.inr ⟨_,_,_,_,_,_,rfl,⟨(((L).ak F (k:=k) (by omega) (gA F hp gk1)).pb F hq1 (gB hp hq1 gk2)).pa F hq3 (gB2 (ib:=ib+1) (k:=0) hq2 hq3 gk4),by omega,by omega,by omega⟩,g1⟩)) λ_=>wpS_pure ⟨_,_,_,_,_,_,rfl,⟨(((L).ak F (k:=k) (by omega) (gA F hp gk1)).pb F hq1 (gB hp hq1 gk2)).pa F hq3 (gB2 (ib:=ib+1) (k:=0) hq2 hq3 gk4),by omega,by omega,by omega⟩,g1⟩
      ·obtain rfl:k=0:=by omega
       refine wpS_bind (wpS_elemB hb (by omega) λq1 hq1 kq1=>?_)
       refine wpS_iteB (λe=>wpS_pure (.inl ⟨_,_,rfl,((L).pb F hq1 (gB hp hq1 gk2)).fb F (by omega) e,g1⟩)) λne3=>?_
       refine wpS_bind (wpS_elemB ha (by omega) λq2 hq2 kq2=>?_)
       refine wpS_bind (gallop_s g1.1.1.kind kq2 hb (by omega) (by omega) (F.ub.sub (by omega)) λk2 hk2 gk3 gk4=>?_)
       dsimp only
       refine wpS_ite (λh22=>?_) (λh22=>?_)
       ·refine wpS_iteB (λe=>wpS_pure (.inl ⟨_,_,rfl,(((L).pb F hq1 (gB hp hq1 gk2)).bk F (k:=k2) (by omega) (gA2 F hq2 gk3)).fb F (by omega) e,g1⟩)) λne4=>?_
        refine wpS_bind (wpS_elemB ha (by omega) λq3 hq3 kq3=>?_)
        refine wpS_iteB (λe=>wpS_pure (.inl ⟨_,_,rfl,((((L).pb F hq1 (gB hp hq1 gk2)).bk F (k:=k2) (by omega) (gA2 F hq2 gk3)).pa F hq3 (gB2 hq2 hq3 gk4)).fl F (by omega) e,g1⟩)) λne5=>?_
        refine wpS_ite (λ_=>wpS_pure (.inr ⟨_,_,_,_,_,_,rfl,⟨(((L).pb F hq1 (gB hp hq1 gk2)).bk F (k:=k2) (by omega) (gA2 F hq2 gk3)).pa F hq3 (gB2 hq2 hq3 gk4),by omega,by omega,by omega⟩,g1⟩)) λ_=>wpS_pure ⟨_,_,_,_,_,_,rfl,⟨(((L).pb F hq1 (gB hp hq1 gk2)).bk F (k:=k2) (by omega) (gA2 F hq2 gk3)).pa F hq3 (gB2 hq2 hq3 gk4),by omega,by omega,by omega⟩,g1⟩
       ·obtain rfl:k2=0:=by omega
        refine wpS_bind (wpS_elemB ha (by omega) λq3 hq3 kq3=>?_)
        refine wpS_iteB (λe=>wpS_pure (.inl ⟨_,_,rfl,(((L).pb F hq1 (gB hp hq1 gk2)).pa F hq3 (gB2 (ib:=ib+1) (k:=0) hq2 hq3 gk4)).fl F (by omega) e,g1⟩)) λne5=>?_
        refine wpS_ite (λ_=>wpS_pure (.inr ⟨_,_,_,_,_,_,rfl,⟨((L).pb F hq1 (gB hp hq1 gk2)).pa F hq3 (gB2 (ib:=ib+1) (k:=0) hq2 hq3 gk4),by omega,by omega,by omega⟩,g1⟩)) λ_=>wpS_pure ⟨_,_,_,_,_,_,rfl,⟨((L).pb F hq1 (gB hp hq1 gk2)).pa F hq3 (gB2 (ib:=ib+1) (k:=0) hq2 hq3 gk4),by omega,by omega,by omega⟩,g1⟩
    ·rintro c st3 z;exact .inr z
    ·rintro c st3 (⟨r,y,rfl,p,g⟩ | ⟨out,ia,ib,mg,ac,bc,rfl,m,g⟩)
     ·exact wpS_pure ⟨_,_,rfl,p,g⟩
     ·exact wpS_bind (wpS_setMin g λst4 g4=>wpS_pure ⟨_,_,_,_,rfl,m,g4⟩)
end
end SB
namespace SB
open PySem PyProof.Rows
section
variable {prog:Program}{w:World}{A:Around}{E:Value->Shared->Prop}{s:Shared}{a0:Array Keyed}
theorem mergeHi_s {a b:Array Keyed}{pe:Array (Nat×Nat×Nat)}{xs:Array Keyed}{st:SortSt}{Q:Array Keyed->SortSt->Prop}(hB:GX a0 pe xs st)(ha:IntKeys a)(hb:IntKeys b)(ha1:1<=a.size)(hb1:1<=b.size)
  (F:Fit a b) (h:∀ out st',GX a0 pe xs st'->Mg a b out->Q out st'):wpS (model prog w) A E s (mergeHi' a b) Q st:=by
 show wpS _ _ _ _ (_ >>= _) _ _
 refine wpS_bind (wpS_lift (wpAny_rule ⟨rfl,?_⟩))
 obtain⟨b0,e0,_⟩:=ik_at ha (i:=a.size-1) (by omega)
 refine wpS_bind (wpS_elem e0 ?_)
 have L0:OdH a b (a.size-1) b.size #[b0]:=by
  refine⟨?_,List.pairwise_singleton _ _,λp hp j hj=>?_,λp hp j hj=>?_⟩
  ·unfold LaidH
   rw[drop_at e0,List.drop_of_length_le (by simp;omega),List.drop_of_length_le (by simp)]
   simp
  ·obtain rfl:=List.mem_singleton.mp hp
   rw[<- K_at e0];exact F.ua _ _ (by omega) (by omega) (by omega)
  ·obtain rfl:=List.mem_singleton.mp hp
   rw[<- K_at e0];exact F.la j hj
 dsimp only
 refine wpS_iteB (λh1=>wpS_pure (h _ _ hB (L0.fz F (by omega) h1))) λh1=>?_
 refine wpS_iteB (λh2=>wpS_pure (h _ _ hB (L0.fl F (by omega) (by omega) h2))) λh2=>?_
 refine wpS_bind (wpS_get ?_)
 refine wpS_bind (wpS_mono (wpS_forRange (a:=0) (I:=λx c st'=>∃ out na nb mg,c=(none,na,nb,out,mg)/\MidHO a b (x+1) na nb out/\GX a0 pe xs st') (Q:=MRetO a b (GX a0 pe xs)) ?step ?fin ⟨#[b0],a.size-1,b.size,gallopOf st,rfl,⟨L0,by omega,by omega,by omega,by omega,by omega⟩,hB⟩) ?post)
 case fin =>
  rintro c st' ⟨out,na,nb,mg,rfl,m,g⟩
  have:=m.ha;have:=m.hb;have:=m.pr
  exfalso;omega
 case post =>
  rintro c st' ⟨r,y,rfl,p,g⟩
  exact wpS_pure (h _ _ g p)
 case step =>
  rintro x c st1 _ hx ⟨out,na,nb,mg,rfl,m,g⟩
  dsimp only
  refine wpS_bind (wpS_mono (wpS_forRange (I:=λx2 c st'=>∃ out na nb ac bc,c=(none,na,nb,out,ac,bc)/\MidHO a b (x+1+min x2 1) na nb out/\GX a0 pe xs st')
   (Q:=λc st'=>MRetO a b (GX a0 pe xs) c st'\/∃ out na nb ac bc,c=(none,na,nb,out,ac,bc)/\MidHO a b (x+2) na nb out/\GX a0 pe xs st') ?_ ?_ ⟨_,_,_,_,_,rfl,m,g⟩) ?_)
  ·rintro x2 c st2 _ hx2 ⟨out,na,nb,ac,bc,rfl,m,g⟩
   have m1:=m.ha;have m2:=m.hb;have m3:=m.pr;have m4:=m.ha2;have m5:=m.hb2
   dsimp only
   refine wpS_bind (wpS_elemB hb (by omega) λp1 hp1 kp1=>?_)
   refine wpS_bind (wpS_elemB ha (by omega) λp2 hp2 kp2=>?_)
   refine wpS_bind (wpS_ltP g.1.1.kind kp1 kp2 ?_)
   dsimp only
   refine wpS_ite (λhbw=>?_) (λhbw=>?_)
   ·refine wpS_bind (wpS_elemB ha (by omega) λp3 hp3 kp3=>?_)
    have X:=ltAH F hp1 hp2 hp3 m5 (of_decide_eq_true hbw)
    refine wpS_iteB (λe=>wpS_pure (.inl ⟨_,_,rfl,(m.laid.pa F (by omega) hp3 X).fz F (by omega) e,g⟩)) λne=>?_
    exact wpS_ite (λ_=>wpS_pure (.inr ⟨_,_,_,_,_,rfl,⟨m.laid.pa F (by omega) hp3 X,by omega,by omega,by omega,by omega,by omega⟩,g⟩)) λ_=>wpS_pure ⟨_,_,_,_,_,rfl,⟨m.laid.pa F (by omega) hp3 X,by omega,by omega,by omega,by omega,by omega⟩,g⟩
   ·refine wpS_bind (wpS_elemB hb (by omega) λp3 hp3 kp3=>?_)
    have X:=ltBH F hp1 hp2 hp3 m4 λz=>hbw (decide_eq_true z)
    refine wpS_iteB (λe=>wpS_pure (.inl ⟨_,_,rfl,(m.laid.pb F (by omega) hp3 X).fl F (by omega) (by omega) e,g⟩)) λne=>?_
    exact wpS_ite (λ_=>wpS_pure (.inr ⟨_,_,_,_,_,rfl,⟨m.laid.pb F (by omega) hp3 X,by omega,by omega,by omega,by omega,by omega⟩,g⟩)) λ_=>wpS_pure ⟨_,_,_,_,_,rfl,⟨m.laid.pb F (by omega) hp3 X,by omega,by omega,by omega,by omega,by omega⟩,g⟩
  ·rintro c st2 ⟨out,na,nb,ac,bc,rfl,m,g⟩
   exact .inr ⟨_,_,_,_,_,rfl,⟨m.laid,m.ha,m.ha2,m.hb,m.hb2,by have:=m.pr;omega⟩,g⟩
  ·rintro c st2 (⟨r,y,rfl,p,g⟩ | ⟨out,na,nb,ac,bc,rfl,m,g⟩)
   ·exact wpS_pure ⟨_,_,rfl,p,g⟩
   ·dsimp only
    refine wpS_bind (wpS_lift (wpAny_rule ⟨rfl,?_⟩))
    refine wpS_bind (wpS_mono (wpS_forRange (I:=λ_ c st'=>∃ out na nb mg ac bc,c=(none,na,nb,out,mg,ac,bc)/\MidHO a b (x+2) na nb out/\GX a0 pe xs st')
     (Q:=λc st'=>MRetO a b (GX a0 pe xs) c st'\/∃ out na nb mg ac bc,c=(none,na,nb,out,mg,ac,bc)/\MidHO a b (x+2) na nb out/\GX a0 pe xs st') ?_ ?_ ⟨_,_,_,_,_,_,rfl,m,g⟩) ?_)
    ·rintro x3 c st3 _ hx3 ⟨out,na,nb,mg,ac,bc,rfl,m,g⟩
     have m1:=m.ha;have m2:=m.hb;have m3:=m.pr;have m4:=m.ha2;have m5:=m.hb2
     have L:=m.laid
     dsimp only
     refine wpS_ite (λhm=>?_) (λhm=>?_)
     ·refine wpS_bind (wpS_setMin g λst1 g1=>?_)
      refine wpS_bind (wpS_elemB hb (by omega) λp hp kp=>?_)
      refine wpS_bind (gallop_s g1.1.1.kind kp ha (by omega) (by omega) (F.ua.sub (by omega)) λk hk gk1 gk2=>?_)
      dsimp only
      refine wpS_ite (λhk0=>?_) (λhk0=>?_)
      ·refine wpS_iteB (λe=>wpS_pure (.inl ⟨_,_,rfl,((L).ak F hk (by omega) (hA1 F hp (by omega) gk2)).fz F (by omega) e,g1⟩)) λne1=>?_
       refine wpS_bind (wpS_elemB hb (by omega) λq1 hq1 kq1=>?_)
       refine wpS_iteB (λe=>wpS_pure (.inl ⟨_,_,rfl,(((L).ak F hk (by omega) (hA1 F hp (by omega) gk2)).pb F (by omega) hq1 (λj hj=>hB1 hp hq1 gk1 j (by omega))).fl F (by omega) (by omega) e,g1⟩)) λne3=>?_
       refine wpS_bind (wpS_elemB ha (by omega) λq2 hq2 kq2=>?_)
       refine wpS_bind (gallop_s g1.1.1.kind kq2 hb (by omega) (by omega) (F.ub.sub (by omega)) λk2 hk2 gk3 gk4=>?_)
       dsimp only
       refine wpS_ite (λh22=>?_) (λh22=>?_)
       ·refine wpS_iteB (λe=>wpS_pure (.inl ⟨_,_,rfl,((((L).ak F hk (by omega) (hA1 F hp (by omega) gk2)).pb F (by omega) hq1 (λj hj=>hB1 hp hq1 gk1 j (by omega))).bk F hk2 (by omega) (hA2 F hq2 (by omega) gk4)).fl F (by omega) (by omega) e,g1⟩)) λne4=>?_
        refine wpS_iteB (λe=>wpS_pure (.inl ⟨_,_,rfl,((((L).ak F hk (by omega) (hA1 F hp (by omega) gk2)).pb F (by omega) hq1 (λj hj=>hB1 hp hq1 gk1 j (by omega))).bk F hk2 (by omega) (hA2 F hq2 (by omega) gk4)).fn F (by omega) e,g1⟩)) λne4b=>?_
        refine wpS_bind (wpS_elemB ha (by omega) λq3 hq3 kq3=>?_)
        refine wpS_iteB (λe=>wpS_pure (.inl ⟨_,_,rfl,(((((L).ak F hk (by omega) (hA1 F hp (by omega) gk2)).pb F (by omega) hq1 (λj hj=>hB1 hp hq1 gk1 j (by omega))).bk F hk2 (by omega) (hA2 F hq2 (by omega) gk4)).pa F (by omega) hq3 (λj hj=>hB2 hq2 hq3 gk3 j (by omega))).fz F (by omega) e,g1⟩)) λne5=>?_
        refine wpS_ite (λ_=>wpS_pure (.inr ⟨_,_,_,_,_,_,rfl,⟨((((L).ak F hk (by omega) (hA1 F hp (by omega) gk2)).pb F (by omega) hq1 (λj hj=>hB1 hp hq1 gk1 j (by omega))).bk F hk2 (by omega) (hA2 F hq2 (by omega) gk4)).pa F (by omega) hq3 (λj hj=>hB2 hq2 hq3 gk3 j (by omega)),by omega,by omega,by omega,by omega,by omega⟩,g1⟩)) λ_=>wpS_pure ⟨_,_,_,_,_,_,rfl,⟨((((L).ak F hk (by omega) (hA1 F hp (by omega) gk2)).pb F (by omega) hq1 (λj hj=>hB1 hp hq1 gk1 j (by omega))).bk F hk2 (by omega) (hA2 F hq2 (by omega) gk4)).pa F (by omega) hq3 (λj hj=>hB2 hq2 hq3 gk3 j (by omega)),by omega,by omega,by omega,by omega,by omega⟩,g1⟩
       ·refine wpS_bind (wpS_elemB ha (by omega) λq3 hq3 kq3=>?_)
        refine wpS_iteB (λe=>wpS_pure (.inl ⟨_,_,rfl,((((L).ak F hk (by omega) (hA1 F hp (by omega) gk2)).pb F (by omega) hq1 (λj hj=>hB1 hp hq1 gk1 j (by omega))).pa F (by omega) hq3 (λj hj=>hB2 hq2 hq3 gk3 j (by omega))).fz F (by omega) e,g1⟩)) λne5=>?_
        refine wpS_ite (λ_=>wpS_pure (.inr ⟨_,_,_,_,_,_,rfl,⟨(((L).ak F hk (by omega) (hA1 F hp (by omega) gk2)).pb F (by omega) hq1 (λj hj=>hB1 hp hq1 gk1 j (by omega))).pa F (by omega) hq3 (λj hj=>hB2 hq2 hq3 gk3 j (by omega)),by omega,by omega,by omega,by omega,by omega⟩,g1⟩)) λ_=>wpS_pure ⟨_,_,_,_,_,_,rfl,⟨(((L).ak F hk (by omega) (hA1 F hp (by omega) gk2)).pb F (by omega) hq1 (λj hj=>hB1 hp hq1 gk1 j (by omega))).pa F (by omega) hq3 (λj hj=>hB2 hq2 hq3 gk3 j (by omega)),by omega,by omega,by omega,by omega,by omega⟩,g1⟩
      ·refine wpS_bind (wpS_elemB hb (by omega) λq1 hq1 kq1=>?_)
       refine wpS_iteB (λe=>wpS_pure (.inl ⟨_,_,rfl,((L).pb F (by omega) hq1 (λj hj=>hB1 hp hq1 gk1 j (by omega))).fl F (by omega) (by omega) e,g1⟩)) λne3=>?_
       refine wpS_bind (wpS_elemB ha (by omega) λq2 hq2 kq2=>?_)
       refine wpS_bind (gallop_s g1.1.1.kind kq2 hb (by omega) (by omega) (F.ub.sub (by omega)) λk2 hk2 gk3 gk4=>?_)
       dsimp only
       refine wpS_ite (λh22=>?_) (λh22=>?_)
       ·refine wpS_iteB (λe=>wpS_pure (.inl ⟨_,_,rfl,(((L).pb F (by omega) hq1 (λj hj=>hB1 hp hq1 gk1 j (by omega))).bk F hk2 (by omega) (hA2 F hq2 (by omega) gk4)).fl F (by omega) (by omega) e,g1⟩)) λne4=>?_
        refine wpS_iteB (λe=>wpS_pure (.inl ⟨_,_,rfl,(((L).pb F (by omega) hq1 (λj hj=>hB1 hp hq1 gk1 j (by omega))).bk F hk2 (by omega) (hA2 F hq2 (by omega) gk4)).fn F (by omega) e,g1⟩)) λne4b=>?_
        refine wpS_bind (wpS_elemB ha (by omega) λq3 hq3 kq3=>?_)
        refine wpS_iteB (λe=>wpS_pure (.inl ⟨_,_,rfl,((((L).pb F (by omega) hq1 (λj hj=>hB1 hp hq1 gk1 j (by omega))).bk F hk2 (by omega) (hA2 F hq2 (by omega) gk4)).pa F (by omega) hq3 (λj hj=>hB2 hq2 hq3 gk3 j (by omega))).fz F (by omega) e,g1⟩)) λne5=>?_
        refine wpS_ite (λ_=>wpS_pure (.inr ⟨_,_,_,_,_,_,rfl,⟨(((L).pb F (by omega) hq1 (λj hj=>hB1 hp hq1 gk1 j (by omega))).bk F hk2 (by omega) (hA2 F hq2 (by omega) gk4)).pa F (by omega) hq3 (λj hj=>hB2 hq2 hq3 gk3 j (by omega)),by omega,by omega,by omega,by omega,by omega⟩,g1⟩)) λ_=>wpS_pure ⟨_,_,_,_,_,_,rfl,⟨(((L).pb F (by omega) hq1 (λj hj=>hB1 hp hq1 gk1 j (by omega))).bk F hk2 (by omega) (hA2 F hq2 (by omega) gk4)).pa F (by omega) hq3 (λj hj=>hB2 hq2 hq3 gk3 j (by omega)),by omega,by omega,by omega,by omega,by omega⟩,g1⟩
       ·refine wpS_bind (wpS_elemB ha (by omega) λq3 hq3 kq3=>?_)
        refine wpS_iteB (λe=>wpS_pure (.inl ⟨_,_,rfl,(((L).pb F (by omega) hq1 (λj hj=>hB1 hp hq1 gk1 j (by omega))).pa F (by omega) hq3 (λj hj=>hB2 hq2 hq3 gk3 j (by omega))).fz F (by omega) e,g1⟩)) λne5=>?_
        refine wpS_ite (λ_=>wpS_pure (.inr ⟨_,_,_,_,_,_,rfl,⟨((L).pb F (by omega) hq1 (λj hj=>hB1 hp hq1 gk1 j (by omega))).pa F (by omega) hq3 (λj hj=>hB2 hq2 hq3 gk3 j (by omega)),by omega,by omega,by omega,by omega,by omega⟩,g1⟩)) λ_=>wpS_pure ⟨_,_,_,_,_,_,rfl,⟨((L).pb F (by omega) hq1 (λj hj=>hB1 hp hq1 gk1 j (by omega))).pa F (by omega) hq3 (λj hj=>hB2 hq2 hq3 gk3 j (by omega)),by omega,by omega,by omega,by omega,by omega⟩,g1⟩
     ·refine wpS_bind (wpS_setMin g λst1 g1=>?_)
      refine wpS_bind (wpS_elemB hb (by omega) λp hp kp=>?_)
      refine wpS_bind (gallop_s g1.1.1.kind kp ha (by omega) (by omega) (F.ua.sub (by omega)) λk hk gk1 gk2=>?_)
      dsimp only
      refine wpS_ite (λhk0=>?_) (λhk0=>?_)
      ·refine wpS_iteB (λe=>wpS_pure (.inl ⟨_,_,rfl,((L).ak F hk (by omega) (hA1 F hp (by omega) gk2)).fz F (by omega) e,g1⟩)) λne1=>?_
       refine wpS_bind (wpS_elemB hb (by omega) λq1 hq1 kq1=>?_)
       refine wpS_iteB (λe=>wpS_pure (.inl ⟨_,_,rfl,(((L).ak F hk (by omega) (hA1 F hp (by omega) gk2)).pb F (by omega) hq1 (λj hj=>hB1 hp hq1 gk1 j (by omega))).fl F (by omega) (by omega) e,g1⟩)) λne3=>?_
       refine wpS_bind (wpS_elemB ha (by omega) λq2 hq2 kq2=>?_)
       refine wpS_bind (gallop_s g1.1.1.kind kq2 hb (by omega) (by omega) (F.ub.sub (by omega)) λk2 hk2 gk3 gk4=>?_)
       dsimp only
       refine wpS_ite (λh22=>?_) (λh22=>?_)
       ·refine wpS_iteB (λe=>wpS_pure (.inl ⟨_,_,rfl,((((L).ak F hk (by omega) (hA1 F hp (by omega) gk2)).pb F (by omega) hq1 (λj hj=>hB1 hp hq1 gk1 j (by omega))).bk F hk2 (by omega) (hA2 F hq2 (by omega) gk4)).fl F (by omega) (by omega) e,g1⟩)) λne4=>?_
        refine wpS_iteB (λe=>wpS_pure (.inl ⟨_,_,rfl,((((L).ak F hk (by omega) (hA1 F hp (by omega) gk2)).pb F (by omega) hq1 (λj hj=>hB1 hp hq1 gk1 j (by omega))).bk F hk2 (by omega) (hA2 F hq2 (by omega) gk4)).fn F (by omega) e,g1⟩)) λne4b=>?_
        refine wpS_bind (wpS_elemB ha (by omega) λq3 hq3 kq3=>?_)
        refine wpS_iteB (λe=>wpS_pure (.inl ⟨_,_,rfl,(((((L).ak F hk (by omega) (hA1 F hp (by omega) gk2)).pb F (by omega) hq1 (λj hj=>hB1 hp hq1 gk1 j (by omega))).bk F hk2 (by omega) (hA2 F hq2 (by omega) gk4)).pa F (by omega) hq3 (λj hj=>hB2 hq2 hq3 gk3 j (by omega))).fz F (by omega) e,g1⟩)) λne5=>?_
        refine wpS_ite (λ_=>wpS_pure (.inr ⟨_,_,_,_,_,_,rfl,⟨((((L).ak F hk (by omega) (hA1 F hp (by omega) gk2)).pb F (by omega) hq1 (λj hj=>hB1 hp hq1 gk1 j (by omega))).bk F hk2 (by omega) (hA2 F hq2 (by omega) gk4)).pa F (by omega) hq3 (λj hj=>hB2 hq2 hq3 gk3 j (by omega)),by omega,by omega,by omega,by omega,by omega⟩,g1⟩)) λ_=>wpS_pure ⟨_,_,_,_,_,_,rfl,⟨((((L).ak F hk (by omega) (hA1 F hp (by omega) gk2)).pb F (by omega) hq1 (λj hj=>hB1 hp hq1 gk1 j (by omega))).bk F hk2 (by omega) (hA2 F hq2 (by omega) gk4)).pa F (by omega) hq3 (λj hj=>hB2 hq2 hq3 gk3 j (by omega)),by omega,by omega,by omega,by omega,by omega⟩,g1⟩
       ·refine wpS_bind (wpS_elemB ha (by omega) λq3 hq3 kq3=>?_)
        refine wpS_iteB (λe=>wpS_pure (.inl ⟨_,_,rfl,((((L).ak F hk (by omega) (hA1 F hp (by omega) gk2)).pb F (by omega) hq1 (λj hj=>hB1 hp hq1 gk1 j (by omega))).pa F (by omega) hq3 (λj hj=>hB2 hq2 hq3 gk3 j (by omega))).fz F (by omega) e,g1⟩)) λne5=>?_
        refine wpS_ite (λ_=>wpS_pure (.inr ⟨_,_,_,_,_,_,rfl,⟨(((L).ak F hk (by omega) (hA1 F hp (by omega) gk2)).pb F (by omega) hq1 (λj hj=>hB1 hp hq1 gk1 j (by omega))).pa F (by omega) hq3 (λj hj=>hB2 hq2 hq3 gk3 j (by omega)),by omega,by omega,by omega,by omega,by omega⟩,g1⟩)) λ_=>wpS_pure ⟨_,_,_,_,_,_,rfl,⟨(((L).ak F hk (by omega) (hA1 F hp (by omega) gk2)).pb F (by omega) hq1 (λj hj=>hB1 hp hq1 gk1 j (by omega))).pa F (by omega) hq3 (λj hj=>hB2 hq2 hq3 gk3 j (by omega)),by omega,by omega,by omega,by omega,by omega⟩,g1⟩
      ·refine wpS_bind (wpS_elemB hb (by omega) λq1 hq1 kq1=>?_)
       refine wpS_iteB (λe=>wpS_pure (.inl ⟨_,_,rfl,((L).pb F (by omega) hq1 (λj hj=>hB1 hp hq1 gk1 j (by omega))).fl F (by omega) (by omega) e,g1⟩)) λne3=>?_
       refine wpS_bind (wpS_elemB ha (by omega) λq2 hq2 kq2=>?_)
       refine wpS_bind (gallop_s g1.1.1.kind kq2 hb (by omega) (by omega) (F.ub.sub (by omega)) λk2 hk2 gk3 gk4=>?_)
       dsimp only
       refine wpS_ite (λh22=>?_) (λh22=>?_)
       ·refine wpS_iteB (λe=>wpS_pure (.inl ⟨_,_,rfl,(((L).pb F (by omega) hq1 (λj hj=>hB1 hp hq1 gk1 j (by omega))).bk F hk2 (by omega) (hA2 F hq2 (by omega) gk4)).fl F (by omega) (by omega) e,g1⟩)) λne4=>?_
        refine wpS_iteB (λe=>wpS_pure (.inl ⟨_,_,rfl,(((L).pb F (by omega) hq1 (λj hj=>hB1 hp hq1 gk1 j (by omega))).bk F hk2 (by omega) (hA2 F hq2 (by omega) gk4)).fn F (by omega) e,g1⟩)) λne4b=>?_
        refine wpS_bind (wpS_elemB ha (by omega) λq3 hq3 kq3=>?_)
        refine wpS_iteB (λe=>wpS_pure (.inl ⟨_,_,rfl,((((L).pb F (by omega) hq1 (λj hj=>hB1 hp hq1 gk1 j (by omega))).bk F hk2 (by omega) (hA2 F hq2 (by omega) gk4)).pa F (by omega) hq3 (λj hj=>hB2 hq2 hq3 gk3 j (by omega))).fz F (by omega) e,g1⟩)) λne5=>?_
        refine wpS_ite (λ_=>wpS_pure (.inr ⟨_,_,_,_,_,_,rfl,⟨(((L).pb F (by omega) hq1 (λj hj=>hB1 hp hq1 gk1 j (by omega))).bk F hk2 (by omega) (hA2 F hq2 (by omega) gk4)).pa F (by omega) hq3 (λj hj=>hB2 hq2 hq3 gk3 j (by omega)),by omega,by omega,by omega,by omega,by omega⟩,g1⟩)) λ_=>wpS_pure ⟨_,_,_,_,_,_,rfl,⟨(((L).pb F (by omega) hq1 (λj hj=>hB1 hp hq1 gk1 j (by omega))).bk F hk2 (by omega) (hA2 F hq2 (by omega) gk4)).pa F (by omega) hq3 (λj hj=>hB2 hq2 hq3 gk3 j (by omega)),by omega,by omega,by omega,by omega,by omega⟩,g1⟩
       ·refine wpS_bind (wpS_elemB ha (by omega) λq3 hq3 kq3=>?_)
        refine wpS_iteB (λe=>wpS_pure (.inl ⟨_,_,rfl,(((L).pb F (by omega) hq1 (λj hj=>hB1 hp hq1 gk1 j (by omega))).pa F (by omega) hq3 (λj hj=>hB2 hq2 hq3 gk3 j (by omega))).fz F (by omega) e,g1⟩)) λne5=>?_
        refine wpS_ite (λ_=>wpS_pure (.inr ⟨_,_,_,_,_,_,rfl,⟨((L).pb F (by omega) hq1 (λj hj=>hB1 hp hq1 gk1 j (by omega))).pa F (by omega) hq3 (λj hj=>hB2 hq2 hq3 gk3 j (by omega)),by omega,by omega,by omega,by omega,by omega⟩,g1⟩)) λ_=>wpS_pure ⟨_,_,_,_,_,_,rfl,⟨((L).pb F (by omega) hq1 (λj hj=>hB1 hp hq1 gk1 j (by omega))).pa F (by omega) hq3 (λj hj=>hB2 hq2 hq3 gk3 j (by omega)),by omega,by omega,by omega,by omega,by omega⟩,g1⟩
    ·rintro c st3 z;exact .inr z
    ·rintro c st3 (⟨r,y,rfl,p,g⟩ | ⟨out,na,nb,mg,ac,bc,rfl,m,g⟩)
     ·exact wpS_pure ⟨_,_,rfl,p,g⟩
     ·exact wpS_bind (wpS_setMin g λst4 g4=>wpS_pure ⟨_,_,_,_,rfl,m,g4⟩)
end
end SB
namespace SB
open PySem PyProof.Rows
section
variable {prog:Program}{w:World}{A:Around}{E:Value->Shared->Prop}{s:Shared}{a0:Array Keyed}
theorem K_ext {xs:Array Keyed}{i j m:Nat}(hm:i+m<j)(hj:j<=xs.size):K (xs.extract i j) m=K xs (i+m):=by
 have h:(xs.extract i j)[m]?=xs[i+m]?:=by
  rw[Array.getElem?_extract,if_pos (by omega)]
 exact K_congr h
theorem K_list (xs:Array Keyed)(i:Nat):K xs i=((xs.toList[i]?).map ks).getD 0:=by
 unfold K
 rw[Array.getElem?_toList]
 cases xs[i]?<;>rfl
theorem put_up {xs ys out:Array Keyed}{sa m1 m2 e:Nat}(hl:ys.toList=xs.toList.take m1++out.toList++xs.toList.drop m2)(h12:m1<=m2)(h2:m2<=xs.size)(ho:out.size=m2-m1)(hs:Srt out.toList)
  (u1:Up xs sa m1) (u2:Up xs m2 e) (c1:∀ i,sa<=i->i<m1->∀ p,p∈out.toList->K xs i<=ks p) (c2:∀ j,m2<=j->j<e->∀ p,p∈out.toList->ks p<=K xs j)
  (c3:∀ i j,sa<=i->i<m1->m2<=j->j<e->K xs i<=K xs j):Up ys sa e/\∀ k,k<m1\/m2<=k->K ys k=K xs k:=by
 have lt:(xs.toList.take m1).length=m1:=by rw[List.length_take,Array.length_toList];omega
 have lo:out.toList.length=m2-m1:=by rw[Array.length_toList];exact ho
 have e1:∀ k,k<m1->K ys k=K xs k:=λk hk=>by
  rw[K_list,K_list,hl,List.append_assoc,List.getElem?_append_left (by omega),List.getElem?_take_of_lt hk]
 have e2:∀ k,m2<=k->K ys k=K xs k:=λk hk=>by
  rw[K_list,K_list,hl,List.getElem?_append_right (by rw[List.length_append];omega),List.getElem?_drop,List.length_append,lt,lo,show m2+(k-(m1+(m2-m1)))=k by omega]
 have e3:∀ k,m1<=k->k<m2->∃ h:k-m1<out.toList.length,K ys k=ks (out.toList[k-m1]):=λk h3 h4=>by
  refine⟨by omega,?_⟩
  rw[K_list,hl,List.append_assoc,List.getElem?_append_right (by omega),lt,List.getElem?_append_left (by omega),List.getElem?_eq_getElem (by omega)]
  rfl
 refine⟨λi j h3 h4 h5=>?_,λk hk=>hk.elim (e1 k) (e2 k)⟩
 by_cases i1:i<m1
 ·rw[e1 i i1]
  by_cases j1:j<m1
  ·rw[e1 j j1];exact u1 i j h3 h4 j1
  by_cases j2:j<m2
  ·obtain⟨q,e⟩:=e3 j (by omega) j2
   rw[e];exact c1 i h3 i1 _ (List.getElem_mem _)
  ·rw[e2 j (by omega)];exact c3 i j h3 i1 (by omega) h5
 by_cases i2:i<m2
 ·obtain⟨q,e⟩:=e3 i (by omega) i2
  rw[e]
  by_cases j2:j<m2
  ·obtain⟨q2,e'⟩:=e3 j (by omega) j2
   rw[e']
   by_cases eq:i=j
   ·subst eq;exact Int.le_refl _
   ·exact List.pairwise_iff_getElem.mp hs _ _ q q2 (by omega)
  ·rw[e2 j (by omega)];exact c2 j (by omega) h5 _ (List.getElem_mem _)
 ·rw[e2 i (by omega),e2 j (by omega)];exact u2 i j (by omega) h4 h5
theorem Up.join {xs:Array Keyed}{i m j:Nat}(h1:Up xs i m)(h2:Up xs m j)(c:i<m->m<j->K xs (m-1)<=K xs m):Up xs i j:=λk n q1 q2 q3=>by
 by_cases n1:n<m
 ·exact h1 k n q1 q2 n1
 by_cases k1:k<m
 ·have z1:=h1 k (m-1) q1 (by omega) (by omega)
  have z2:=h2 m n (Nat.le_refl _) (by omega) q3
  have z3:=c (by omega) (by omega)
  omega
 ·exact h2 k n (by omega) q2 q3
def After (xs:Array Keyed)(sa e:Nat)(st':SortSt):Prop:=Up (arrOf st') sa e/\∀ k,k<sa\/e<=k->K (arrOf st') k=K xs k
theorem merged_s {xs:Array Keyed}{sa k sb nb k2:Nat}{out:Array Keyed}{ys:Array Keyed}{q1 q2:Keyed}(hz:sb+nb<=xs.size)(hk:sa+k<sb)(hk2:k2<=nb)(h1:1<=k2)(U1:Up xs sa sb)(U2:Up xs sb (sb+nb))
  (e1:xs[sb]?=some q1) (e2:xs[sb-1]?=some q2) (g1:∀ i,i<k->Ahead false q1 (K xs (sa+i))) (g4:∀ i,k2<=i->i<nb->¬ Ahead true q2 (K xs (sb+i)))
  (M:Mg (xs.extract (sa+k) sb) (xs.extract sb (sb+k2)) out) (hl:ys.toList=xs.toList.take (sa+k)++out.toList++xs.toList.drop (sb+k2)) :
  Up ys sa (sb+nb)/\∀ i,i<sa\/sb+nb<=i->K ys i=K xs i:=by
 have ho:out.size=sb+k2-(sa+k):=by
  rw[<- Array.length_toList,M.1.length_eq,List.length_append,Array.length_toList,Array.length_toList,Array.size_extract,Array.size_extract];omega
 have mem:∀ p,p∈out.toList->(∃ i,sa+k<=i/\i<sb/\K xs i=ks p)\/∃ i,sb<=i/\i<sb+k2/\K xs i=ks p:=λp hp=>by
  rcases List.mem_append.mp (M.1.mem_iff.mp hp) with z | z
  ·obtain⟨i,i1,i2,_,e⟩:=ext_mem z
   exact .inl ⟨i,i1,i2,e⟩
  ·obtain⟨i,i1,i2,_,e⟩:=ext_mem z
   exact .inr ⟨i,i1,i2,e⟩
 have low:∀ i,sa<=i->i<sa+k->K xs i<=K xs sb:=λi h3 h4=>by
  have z:K xs (sa+(i-sa))<=ks q1:=g1 (i-sa) (by omega)
  rwa [show sa+(i-sa)=i by omega,<- K_at e1] at z
 have hig:∀ j,sb+k2<=j->j<sb+nb->K xs (sb-1)<=K xs j:=λj h3 h4=>by
  have z:¬ K xs (sb+(j-sb))<ks q2:=g4 (j-sb) (by omega) (by omega)
  rw[show sb+(j-sb)=j by omega,<- K_at e2] at z
  omega
 have c1:∀ i,sa<=i->i<sa+k->∀ p,p∈out.toList->K xs i<=ks p:=λi h3 h4 p hp=>by
  rcases mem p hp with ⟨m,m1,m2,e⟩ | ⟨m,m1,m2,e⟩
  ·rw[<- e];exact U1 i m h3 (by omega) m2
  ·rw[<- e];exact Int.le_trans (low i h3 h4) (U2 _ _ (by omega) m1 (by omega))
 have c2:∀ j,sb+k2<=j->j<sb+nb->∀ p,p∈out.toList->ks p<=K xs j:=λj h3 h4 p hp=>by
  rcases mem p hp with ⟨m,m1,m2,e⟩ | ⟨m,m1,m2,e⟩
  ·rw[<- e];exact Int.le_trans (U1 m (sb-1) (by omega) (by omega) (by omega)) (hig j h3 h4)
  ·rw[<- e];exact U2 m j m1 (by omega) h4
 have c3:∀ i j,sa<=i->i<sa+k->sb+k2<=j->j<sb+nb->K xs i<=K xs j:=λi j h3 h4 h5 h6=>Int.le_trans (low i h3 h4) (U2 sb j (by omega) (by omega) h6)
 obtain⟨r1,r2⟩:=put_up (xs:=xs) (ys:=ys) (out:=out) (sa:=sa) (m1:=sa+k) (m2:=sb+k2) (e:=sb+nb) hl (by omega) (by omega) ho M.2 (λi j a b c=>U1 i j a b (by omega)) (λi j a b c=>U2 i j (by omega) b c) c1 c2 c3
 exact⟨r1,λi hi=>r2 i (by omega)⟩
theorem fit_s {xs:Array Keyed}{sa k sb nb k2:Nat}{q1 q2:Keyed}(hz:sb+nb<=xs.size)(hk:sa+k<sb)(hk2:k2<=nb)(h1:1<=k2)(U1:Up xs sa sb)(U2:Up xs sb (sb+nb))
  (e1:xs[sb]?=some q1) (e2:xs[sb-1]?=some q2) (g2:∀ i,k<=i->i<sb-sa->¬ Ahead false q1 (K xs (sa+i))) (g3:∀ i,i<k2->Ahead true q2 (K xs (sb+i))) :
  Fit (xs.extract (sa+k) sb) (xs.extract sb (sb+k2)):=by
 have z1:(xs.extract (sa+k) sb).size=sb-(sa+k):=by rw[Array.size_extract];omega
 have z2:(xs.extract sb (sb+k2)).size=k2:=by rw[Array.size_extract];omega
 refine⟨λi j a b c=>?_,λi j a b c=>?_,λj hj=>?_,λj hj=>?_⟩
 ·rw[z1] at c
  rw[K_ext (by omega) (by omega),K_ext (by omega) (by omega)]
  exact U1 _ _ (by omega) (by omega) (by omega)
 ·rw[z2] at c
  rw[K_ext (by omega) (by omega),K_ext (by omega) (by omega)]
  exact U2 _ _ (by omega) (by omega) (by omega)
 ·rw[z1] at hj
  rw[K_ext (by omega) (by omega),K_ext (by omega) (by omega),Nat.add_zero,K_at e1]
  have z:¬ K xs (sa+(k+j))<=ks q1:=g2 (k+j) (by omega) (by omega)
  rw[show sa+k+j=sa+(k+j) by omega]
  omega
 ·rw[z2] at hj
  rw[z1,K_ext (by omega) (by omega),K_ext (by omega) (by omega),show sa+k+(sb-(sa+k)-1)=sb-1 by omega,K_at e2]
  exact Int.le_of_lt (show K xs (sb+j)<ks q2 from g3 j hj)
theorem mergeAt_s {i:Nat}{pe:Array (Nat×Nat×Nat)}{st:SortSt}{Q:Bool->SortSt->Prop}{sa na pw sb nb pw2:Nat}(h0:IntKeys a0)(hB:G a0 pe st)(h1:pe[i]?=some (sa,na,pw))(h2:pe[i+1]?=some (sb,nb,pw2))
  (hs:sb=sa+na) (hn1:1<=na) (hn2:1<=nb) (hz:sb+nb<=a0.size) (U1:Up (arrOf st) sa (sa+na)) (U2:Up (arrOf st) sb (sb+nb))
  (h:∀ st',G a0 ((pe.setIfInBounds i (sa,na+nb,pw)).eraseIdxIfInBounds (i+1)) st'->After (arrOf st) sa (sb+nb) st'->Q true st'):wpS (model prog w) A E s (mergeAt' i) Q st:=by
 show wpS _ _ _ _ (_ >>= _) _ _
 refine wpS_bind (wpS_get ?_)
 have hpe:pendingOf st=pe:=hB.2
 have hsz:=hB.1.size
 have hk:=hB.1.keys h0
 rw[show (sortPriv% PySem.Builtin.SortState.pending) st=pe from hB.2,h1,h2]
 dsimp only
 have hxs:arrOf st=arrOf st:=rfl
 have hsz2:((sortPriv% PySem.Builtin.SortState.a) st).size=a0.size:=hsz
 have hpa:∀ p,(pe.setIfInBounds i (sa,na+nb,pw)).eraseIdxIfInBounds (i+1)=p->G a0 p (setPending st p):=λp _=>⟨⟨hB.1.perm,hB.1.kind,hB.1.failed⟩,rfl⟩
 generalize hp:(pe.setIfInBounds i (sa,na+nb,pw)).eraseIdxIfInBounds (i+1)=p at *
 have g1:=hpa p rfl
 refine wpS_bind (wpS_set ?_)
 refine wpS_bind (wpS_elemB hk (by omega) λq1 hq1 kq1=>?_)
 refine wpS_bind (gallop_s g1.1.kind kq1 hk (by omega) (by omega) U1 λk hkn gk1 gk2=>?_)
 dsimp only
 have hzz:sb+nb<=(arrOf st).size:=by rw[hsz];exact hz
 refine wpS_iteB (λe=>wpS_pure (h _ g1 ⟨?_,λ_ _=>rfl⟩)) λne1=>?_
 ·refine Up.join (m:=sb) (by rw[hs];exact U1) U2 λ_ _=>?_
  have z:K (arrOf st) (sa+(na-1))<=ks q1:=gk1 (na-1) (by omega)
  rwa [show sa+(na-1)=sb-1 by omega,<- K_at hq1] at z
 refine wpS_bind (wpS_elemB hk (by omega) λq2 hq2 kq2=>?_)
 have hq2':(arrOf st)[sb-1]?=some q2:=by rw[<- hq2];congr 1;omega
 refine wpS_bind (gallop_s g1.1.kind kq2 hk (by omega) (by omega) U2 λk2 hk2 gk3 gk4=>?_)
 dsimp only
 have fin:∀ (out:Array Keyed) (st2:SortSt),k2≠0->GX a0 p (arrOf st) st2->Mg ((arrOf st).extract (sa+k) sb) ((arrOf st).extract sb (sb+k2)) out ->
   Q (failedOf (setArr st2 (out.toList.zipIdx.foldl (λa (x:Keyed×Nat)=>a.setIfInBounds (sa+k+x.2) x.1) (arrOf st2)))).isNone (setArr st2 (out.toList.zipIdx.foldl (λa (x:Keyed×Nat)=>a.setIfInBounds (sa+k+x.2) x.1) (arrOf st2))):=by
  intro out st2 ne2 g2 MM
  have p2:=MM.1
  have hf:failedOf st2=none:=g2.1.1.failed
  have hq:Q (failedOf st2).isNone (setArr st2 (out.toList.zipIdx.foldl (λa (x:Keyed×Nat)=>a.setIfInBounds (sa+k+x.2) x.1) (arrOf st2))):=by
   rw[hf]
   refine h _ ⟨⟨?_,g2.1.1.kind,g2.1.1.failed⟩,g2.1.2⟩ ?_
   case refine_2 =>
    refine merged_s (xs:=arrOf st) (sa:=sa) (k:=k) (sb:=sb) (k2:=k2) (out:=out) hzz (by omega) hk2 (by omega) (by rw[hs];exact U1) U2 hq1 hq2' gk1 gk4 MM ?_
    show (out.toList.zipIdx.foldl (λa (x:Keyed×Nat)=>a.setIfInBounds (sa+k+x.2) x.1) (arrOf st2)).toList=_
    rw[g2.2]
    have hlen:out.toList.length=sb+k2-(sa+k):=by
     rw[p2.length_eq,List.length_append,Array.length_toList,Array.length_toList,Array.size_extract,Array.size_extract];omega
    have e:=put_at out.toList 0 (sa+k) (arrOf st) (by omega)
    rw[e,show sa+k+0+out.toList.length=sb+k2 by omega,Nat.add_zero]
   refine Array.Perm.trans ?_ g2.1.1.perm
   show (out.toList.zipIdx.foldl (λa (x:Keyed×Nat)=>a.setIfInBounds (sa+k+x.2) x.1) (arrOf st2)).Perm (arrOf st2)
   rw[g2.2]
   rw[Array.perm_iff_toList_perm]
   have hlen:out.toList.length=sb+k2-(sa+k):=by
    rw[p2.length_eq,List.length_append,Array.length_toList,Array.length_toList,Array.size_extract,Array.size_extract];omega
   have e:=put_at out.toList 0 (sa+k) (arrOf st) (by omega)
   rw[e]
   rw[ext_list,ext_list] at p2
   have e2:sa+k+0+out.toList.length=sb+k2:=by omega
   rw[e2,Nat.add_zero]
   exact three_perm (by omega) (by omega) p2
  exact hq
 refine wpS_iteB (λe=>wpS_pure (h _ g1 ⟨?_,λ_ _=>rfl⟩)) λne2=>?_
 ·refine Up.join (m:=sb) (by rw[hs];exact U1) U2 λ_ _=>?_
  have z:¬ K (arrOf st) (sb+0)<ks q2:=gk4 0 (by omega) (by omega)
  rw[Nat.add_zero,<- K_at hq2'] at z
  exact Int.not_lt.mp z
 have FF:Fit ((arrOf st).extract (sa+k) sb) ((arrOf st).extract sb (sb+k2)):=fit_s (nb:=nb) hzz (by omega) hk2 (by omega) (by rw[hs];exact U1) U2 hq1 hq2' (λi a b=>gk2 i a (by omega)) gk3
 refine wpS_ite (λ_=>?_) λ_=>?_
 ·refine wpS_bind (mergeLo_s (a0:=a0) (xs:=arrOf st) ⟨g1,hxs⟩ (keys_ext hk _ _) (keys_ext hk _ _) (by rw[Array.size_extract];omega) (by rw[Array.size_extract];omega) FF λout st2 g2 p2=>?_)
  refine wpS_bind (wpS_modify (wpS_bind (wpS_get (wpS_pure ?_))))
  exact fin out st2 ne2 g2 p2
 ·refine wpS_bind (mergeHi_s (a0:=a0) (xs:=arrOf st) ⟨g1,hxs⟩ (keys_ext hk _ _) (keys_ext hk _ _) (by rw[Array.size_extract];omega) (by rw[Array.size_extract];omega) FF λout st2 g2 p2=>?_)
  refine wpS_bind (wpS_modify (wpS_bind (wpS_get (wpS_pure ?_))))
  exact fin out st2 ne2 g2 p2
end
end SB
namespace SB
open PySem PyProof.Rows
section
variable {prog:Program}{w:World}{A:Around}{E:Value->Shared->Prop}{s:Shared}{a0:Array Keyed}
def SU (xs:Array Keyed):Nat->List (Nat×Nat×Nat)->Nat->Prop
 | s,[],e=>s=e
 | s,(a,n,_)::r,e=>a=s/\1<=n/\Up xs s (s+n)/\SU xs (s+n) r e
theorem SU.le {xs:Array Keyed}:∀ {s:Nat} {l:List (Nat×Nat×Nat)} {e:Nat},SU xs s l e->s+l.length<=e
 | _,[],_,h=>Nat.le_of_eq h
 | s,(_,n,_)::r,e,h=>by have:=SU.le h.2.2.2;simp only[List.length_cons];have:=h.2.1;omega
theorem SU.keep {xs ys:Array Keyed}:∀ {s:Nat} {l:List (Nat×Nat×Nat)} {e:Nat},SU xs s l e->(∀ k,s<=k->k<e->K ys k=K xs k)->SU ys s l e
 | _,[],_,h,_=>h
 | s,(_,n,_)::r,e,h,hk=>by
  have q:=SU.le h.2.2.2
  exact⟨h.1,h.2.1,h.2.2.1.eqK λk h1 h2=>hk k h1 (by omega),SU.keep h.2.2.2 λk h1 h2=>hk k (by omega) h2⟩
theorem SU.at {xs:Array Keyed}:∀ {s:Nat} {l:List (Nat×Nat×Nat)} {e i:Nat} {x:Nat×Nat×Nat},SU xs s l e->l[i]?=some x->s<=x.1/\1<=x.2.1/\x.1+x.2.1<=e/\Up xs x.1 (x.1+x.2.1)
 | _,[],_,_,_,_,h1=>by simp at h1
 | s,(a,n,p)::r,e,0,x,h,h1=>by
  simp at h1
  subst h1
  have q:=SU.le h.2.2.2
  obtain⟨rfl,h3,h4,h5⟩:=h
  exact⟨Nat.le_refl _,h3,by show a+n<=e;omega,h4⟩
 | s,(a,n,p)::r,e,i+1,x,h,h1=>by
  obtain⟨q1,q2,q3,q4⟩:=SU.at (i:=i) (x:=x) h.2.2.2 (by simpa using h1)
  exact⟨by omega,q2,q3,q4⟩
theorem SU.two {xs ys:Array Keyed}:∀ {s:Nat} {l:List (Nat×Nat×Nat)} {e i:Nat} {x y:Nat×Nat×Nat},SU xs s l e->l[i]?=some x->l[i+1]?=some y ->
  y.1=x.1+x.2.1/\(Up ys x.1 (y.1+y.2.1)->(∀ k,k<x.1\/y.1+y.2.1<=k->K ys k=K xs k)->SU ys s ((l.set i (x.1,x.2.1+y.2.1,x.2.2)).eraseIdx (i+1)) e)
 | _,[],_,_,_,_,_,h1,_=>by simp at h1
 | _,[_],_,0,_,_,_,_,h2=>by simp at h2
 | s,(a,n,p)::(b,m,q)::r,e,0,x,y,h,h1,h2=>by
  simp at h1 h2
  subst h1 h2
  obtain⟨rfl,h3,h6,rfl,h4,h7,h5⟩:=h
  refine⟨rfl,λu hk=>?_⟩
  show SU ys a ((a,n+m,p)::r) e
  have e1:a+(n+m)=a+n+m:=by omega
  refine⟨rfl,by omega,?_,?_⟩
  ·rw[e1];exact u
  ·rw[e1];exact h5.keep λk h1 h2=>hk k (.inr h1)
 | s,(a,n,p)::r,e,i+1,x,y,h,h1,h2=>by
  obtain⟨rfl,h3,h6,h5⟩:=h
  obtain⟨q1,q5⟩:=SU.two (ys:=ys) (i:=i) (x:=x) (y:=y) h5 (by simpa using h1) (by simpa using h2)
  have q:=SU.at (i:=i) (x:=x) h5 (by simpa using h1)
  exact⟨q1,λu hk=>⟨rfl,h3,h6.eqK λk h1 h2=>hk k (.inl (by omega)),q5 u hk⟩⟩
theorem SU.mod {xs:Array Keyed}(pw:Nat):∀ {s:Nat} {l:List (Nat×Nat×Nat)} {e:Nat} (i:Nat),SU xs s l e->SU xs s (l.modify i λ(st,len,_)=>(st,len,pw)) e
 | _,[],_,i,h=>by cases i<;>exact h
 | _,(_,_,_)::_,_,0,h=>h
 | _,(_,_,_)::_,_,i+1,h=>⟨h.1,h.2.1,h.2.2.1,SU.mod pw i h.2.2.2⟩
theorem SU.snoc {xs:Array Keyed}(n p:Nat)(hn:1<=n):∀ {s:Nat} {l:List (Nat×Nat×Nat)} {e:Nat},SU xs s l e->Up xs e (e+n)->SU xs s (l++[(e,n,p)]) (e+n)
 | s,[],e,h,u=>by
  obtain rfl:s=e:=h
  exact⟨rfl,hn,u,rfl⟩
 | _,(_,_,_)::_,_,h,u=>⟨h.1,h.2.1,h.2.2.1,SU.snoc n p hn h.2.2.2 u⟩
def GS (a0:Array Keyed)(e:Nat)(st:SortSt):Prop:=SI a0 st/\SU (arrOf st) 0 (pendingOf st).toList e
theorem merge_s {i e:Nat}{st:SortSt}{Q:Bool->SortSt->Prop}(h0:IntKeys a0)(hB:GS a0 e st)(he:e<=a0.size)(hi:i+1<(pendingOf st).size)
  (h:∀ st',GS a0 e st'->(pendingOf st').size+1=(pendingOf st).size->(∀ k,e<=k->K (arrOf st') k=K (arrOf st) k)->Q true st'):wpS (model prog w) A E s (mergeAt' i) Q st:=by
 obtain⟨⟨sa,na,pw⟩,hx⟩:∃ x,(pendingOf st)[i]?=some x:=⟨_,getElem?_pos _ i (by omega)⟩
 obtain⟨⟨sb,nb,pw2⟩,hy⟩:∃ x,(pendingOf st)[i+1]?=some x:=⟨_,getElem?_pos _ (i+1) hi⟩
 obtain⟨x1,x2,x3,x4⟩:=hB.2.at (i:=i) (x:=(sa,na,pw)) (by simpa using hx)
 obtain⟨y1,y2,y3,y4⟩:=hB.2.at (i:=i+1) (x:=(sb,nb,pw2)) (by simpa using hy)
 have q1:=(hB.2.two (ys:=arrOf st) (i:=i) (x:=(sa,na,pw)) (y:=(sb,nb,pw2)) (by simpa using hx) (by simpa using hy)).1
 refine mergeAt_s h0 ⟨hB.1,rfl⟩ hx hy q1 x2 y2 (Nat.le_trans y3 he) x4 y4 λst' g af=>h st' ⟨g.1,?_⟩ ?_ λk hk=>af.2 k (.inr (Nat.le_trans y3 hk))
 ·rw[g.2,Array.toList_eraseIdxIfInBounds,Array.toList_setIfInBounds]
  exact(hB.2.two (ys:=arrOf st') (i:=i) (x:=(sa,na,pw)) (y:=(sb,nb,pw2)) (by simpa using hx) (by simpa using hy)).2 af.1 af.2
 ·rw[g.2,<- Array.length_toList,Array.toList_eraseIdxIfInBounds,Array.toList_setIfInBounds,List.length_eraseIdx,if_pos (by rw[List.length_set,Array.length_toList];omega),List.length_set,Array.length_toList]
  omega
theorem runs_s {st:SortSt}{Q:Unit->SortSt->Prop}(h0:IntKeys a0)(hB:SI a0 st)(hp:pendingOf st=#[])(h:∀ st',SI a0 st'->Up (arrOf st') 0 a0.size->Q () st'):wpS (model prog w) A E s sortRuns' Q st:=by
 rw[sortRuns'_eq]
 refine wpS_bind (wpS_get ?_)
 dsimp only
 rw[hB.size]
 generalize minRun' a0.size a0.size 0=mr
 refine wpS_bind (wpS_mono (wpS_forRange (I:=λx c st'=>∃ lo,c=(none,lo)/\lo<=a0.size/\x<=lo/\GS a0 lo st') (Q:=λc st'=>∃ lo,c=(none,lo)/\lo=a0.size/\GS a0 lo st') ?step ?fin ⟨0,rfl,by omega,by omega,hB,by rw[hp];rfl⟩) ?post)
 case fin=>rintro c st' ⟨lo,rfl,h1,h2,g⟩;exact⟨lo,rfl,by omega,g⟩
 case step =>
  rintro x c st1 _ hx ⟨lo,rfl,hlo,hxl,g⟩
  dsimp only
  refine wpS_ite (λhge=>wpS_pure ⟨lo,rfl,by omega,g⟩) λhlt=>?_
  refine wpS_bind (count_s h0 (by omega) (by omega) (pe:=pendingOf st1) (ys:=arrOf st1) ⟨⟨g.1,rfl⟩,Low.refl _ _⟩ λm st2 g2 hm1 hm2 hU=>?_)
  have G2:GS a0 lo st2:=⟨g2.1.1,by rw[g2.1.2];exact g.2.keep λk _ hk=>g2.2 k hk⟩
  dsimp only
  refine wpS_ite (λhmr=>?_) λhmr=>?_
  ·refine wpS_bind (wpS_lift (wpAny_rule ⟨rfl,?_⟩))
   refine wpS_bind (bins_s h0 (by omega) (by omega) g2 hU λst' g3 hU3=>?_)
   have G3:GS a0 lo st':=⟨g3.1.1,by rw[g3.1.2];exact g.2.keep λk _ hk=>g3.2 k hk⟩
   rw[if_neg (by decide)]
   obtain⟨nn,hnn⟩:∃ nn,nn=min (a0.size-lo) mr:=⟨_,rfl⟩
   rw[<- hnn]
   have hn1:1<=nn:=by omega
   have hn2:lo+nn<=a0.size:=by omega
   have hV:Up (arrOf st') lo (lo+nn):=by rw[hnn];exact hU3
   refine wpS_bind (wpS_get ?_)
   have fin:∀ st2:SortSt,GS a0 lo st2->Up (arrOf st2) lo (lo+nn)->GS a0 (lo+nn) (setPending st2 ((pendingOf st2).push (lo,nn,0))):=λst2 g2 u2=>by
    refine⟨⟨g2.1.perm,g2.1.kind,g2.1.failed⟩,?_⟩
    show SU (arrOf st2) 0 ((pendingOf st2).push (lo,nn,0)).toList (lo+nn)
    rw[Array.toList_push]
    exact g2.2.snoc nn 0 hn1 u2
   cases hbk:(pendingOf st').back? with
   | none=>exact wpS_bind (wpS_modify (wpS_pure ⟨_,rfl,hn2,by omega,fin _ G3 hV⟩))
   | some t =>
    obtain⟨s1,n1,p1⟩:=t
    dsimp only
    refine wpS_bind (wpS_mono (wpS_forRange (I:=λ_ c st2=>c=(none,())/\GS a0 lo st2/\Up (arrOf st2) lo (lo+nn)) (Q:=λc st2=>c=(none,())/\GS a0 lo st2/\Up (arrOf st2) lo (lo+nn)) ?_ ?_ ⟨rfl,G3,hV⟩) ?_)
    ·rintro y c st2 _ _ ⟨rfl,g2,u2⟩
     refine wpS_bind (wpS_get ?_)
     by_cases hp1:(pendingOf st2).size > 1
     ·rw[if_pos hp1]
      obtain⟨⟨a1,a2,older⟩,hx⟩:∃ x,(pendingOf st2)[(pendingOf st2).size-2]?=some x:=⟨_,getElem?_pos _ _ (by omega)⟩
      rw[hx]
      dsimp only
      refine wpS_ite (λ_=>wpS_pure ⟨rfl,g2,u2⟩) λ_=>?_
      refine wpS_bind (merge_s h0 g2 hlo (by omega) λst3 g3 _ k3=>?_)
      exact wpS_pure ⟨rfl,g3,u2.eqK λk h1 _=>k3 k h1⟩
     ·rw[if_neg hp1]
      exact wpS_pure ⟨rfl,g2,u2⟩
    ·rintro c st2 z;exact z
    ·rintro c st2 ⟨rfl,g2,u2⟩
     refine wpS_bind (wpS_modify (wpS_bind (wpS_modify (wpS_pure ⟨_,rfl,hn2,by omega,fin _ ⟨⟨g2.1.perm,g2.1.kind,g2.1.failed⟩,?_⟩ u2⟩))))
     show SU (arrOf st2) 0 ((pendingOf st2).modify _ _).toList lo
     rw[Array.toList_modify]
     exact g2.2.mod _ _
  ·obtain⟨nn,hnn⟩:∃ nn,nn=m:=⟨_,rfl⟩
   rw[<- hnn]
   have hn1:1<=nn:=by omega
   have hn2:lo+nn<=a0.size:=by omega
   obtain⟨st',hst'⟩:∃ st',st'=st2:=⟨_,rfl⟩
   rw[<- hst'] at G2 ⊢
   have hV:Up (arrOf st') lo (lo+nn):=by rw[hnn,hst'];exact hU
   refine wpS_bind (wpS_get ?_)
   have fin:∀ st2:SortSt,GS a0 lo st2->Up (arrOf st2) lo (lo+nn)->GS a0 (lo+nn) (setPending st2 ((pendingOf st2).push (lo,nn,0))):=λst2 g2 u2=>by
    refine⟨⟨g2.1.perm,g2.1.kind,g2.1.failed⟩,?_⟩
    show SU (arrOf st2) 0 ((pendingOf st2).push (lo,nn,0)).toList (lo+nn)
    rw[Array.toList_push]
    exact g2.2.snoc nn 0 hn1 u2
   cases hbk:(pendingOf st').back? with
   | none=>exact wpS_bind (wpS_modify (wpS_pure ⟨_,rfl,hn2,by omega,fin _ G2 hV⟩))
   | some t =>
    obtain⟨s1,n1,p1⟩:=t
    dsimp only
    refine wpS_bind (wpS_mono (wpS_forRange (I:=λ_ c st2=>c=(none,())/\GS a0 lo st2/\Up (arrOf st2) lo (lo+nn)) (Q:=λc st2=>c=(none,())/\GS a0 lo st2/\Up (arrOf st2) lo (lo+nn)) ?_ ?_ ⟨rfl,G2,hV⟩) ?_)
    ·rintro y c st2 _ _ ⟨rfl,g2,u2⟩
     refine wpS_bind (wpS_get ?_)
     by_cases hp1:(pendingOf st2).size > 1
     ·rw[if_pos hp1]
      obtain⟨⟨a1,a2,older⟩,hx⟩:∃ x,(pendingOf st2)[(pendingOf st2).size-2]?=some x:=⟨_,getElem?_pos _ _ (by omega)⟩
      rw[hx]
      dsimp only
      refine wpS_ite (λ_=>wpS_pure ⟨rfl,g2,u2⟩) λ_=>?_
      refine wpS_bind (merge_s h0 g2 hlo (by omega) λst3 g3 _ k3=>?_)
      exact wpS_pure ⟨rfl,g3,u2.eqK λk h1 _=>k3 k h1⟩
     ·rw[if_neg hp1]
      exact wpS_pure ⟨rfl,g2,u2⟩
    ·rintro c st2 z;exact z
    ·rintro c st2 ⟨rfl,g2,u2⟩
     refine wpS_bind (wpS_modify (wpS_bind (wpS_modify (wpS_pure ⟨_,rfl,hn2,by omega,fin _ ⟨⟨g2.1.perm,g2.1.kind,g2.1.failed⟩,?_⟩ u2⟩))))
     show SU (arrOf st2) 0 ((pendingOf st2).modify _ _).toList lo
     rw[Array.toList_modify]
     exact g2.2.mod _ _
 case post =>
  rintro c st1 ⟨lo,rfl,hlo,g⟩
  have hlo':=hlo
  have hln:(pendingOf st1).size<=a0.size:=by have:=g.2.le;rw[Array.length_toList] at this;omega
  dsimp only
  refine wpS_bind (wpS_mono (wpS_forRange (I:=λx c st2=>c=(none,())/\GS a0 lo st2/\(pendingOf st2).size+x<=a0.size+1) (Q:=λc st2=>c=(none,())/\GS a0 lo st2/\(pendingOf st2).size<=1) ?_ ?_ ⟨rfl,g,by omega⟩) ?_)
  ·rintro y c st2 _ _ ⟨rfl,g2,n2⟩
   refine wpS_bind (wpS_get ?_)
   refine wpS_ite (λh1=>wpS_pure ⟨rfl,g2,h1⟩) λhsz=>?_
   refine wpS_bind (merge_s h0 g2 (by omega) (ite_lt2 (by omega) (by omega)) λst3 g3 e3 _=>?_)
   exact wpS_pure ⟨rfl,g3,by omega⟩
  ·rintro c st2 ⟨rfl,g2,n2⟩;exact⟨rfl,g2,by omega⟩
  ·rintro c st2 ⟨rfl,g2,n2⟩
   refine wpS_pure (h _ g2.1 ?_)
   have q:=g2.2
   rw[<- Array.length_toList] at n2
   rw[<- hlo]
   match hl:(pendingOf st2).toList with
   | [] =>
    rw[hl] at q
    obtain rfl:0=lo:=q
    exact λk m h1 h2 h3=>by omega
   | [(x,n,p)] =>
    rw[hl] at q
    obtain⟨rfl,h3,h4,h5⟩:=q
    obtain rfl:0+n=lo:=h5
    exact h4
   | _::_::_ =>
    rw[hl] at n2
    simp only[List.length_cons] at n2
    omega
theorem sort_s {a:Addr}{vs:List Value}{ns:List Int}{n:Nat}{P:PySem.Fin->Shared->Prop}(ho:s.heap.get? a=some (seqObj "list" vs.toArray n))
  (hI:IntsAre vs ns) (h64:vs.length<=1000)
  (h:∀ (out:Array Value) (ns':List Int),IntsAre out.toList ns'->ns'.Perm ns->ns'.Pairwise (·<=·)->P (.done (.ret .none)) { s with heap:=sortedHeap s.heap a vs out }) :
  wpAny (model prog w) A (Builtin.«list.sort» ⟨[.ref a],[]⟩) P E s:=by
 rw[list_sort_plain]
 have ha:a<s.heap.objs.size:=Heap.lt_size ho
 refine wpAny_bind (listItems_at ho rfl ?_)
 refine wpAny_bind (listUpdate_at ho rfl ?_ (by rw[sizeLine_eq];simp;omega) (by simp))
 obtain⟨e1,ho1⟩:∃ e1,(s.heap.update a (Obj.mapSeq λ_=>#[])).get? a=some (seqObj "list" #[] e1):=⟨_,get?_update_seq ho (λ_=>#[])⟩
 refine wpAny_bind (seqEpoch_at ho1 rfl ?_)
 refine wpAny_bind (wpAny_newTuple ?_ (by rw[sizeLine_eq];simp;omega))
 refine wpAny_bind (wpAny_newList ?_)
 refine wpAny_holding ?_
 have ho6:(((s.heap.update a (Obj.mapSeq λ_=>#[])).push (seqObj "tuple" vs.toArray 0)).push (seqObj "list" #[] 0)).get? a=some (seqObj "list" #[] e1):=by
  rw[Heap.get?_push_ne _ _ _ (by rw[size_push',Heap.size_update];exact Nat.ne_of_lt (Nat.lt_succ_of_lt ha)),Heap.get?_push_ne _ _ _ (by rw[Heap.size_update];exact Nat.ne_of_lt ha)]
  exact ho1
 show wpAny (model prog w) A _ P E { s with heap:=((s.heap.update a (Obj.mapSeq λ_=>#[])).push (seqObj "tuple" vs.toArray 0)).push (seqObj "list" #[] 0) }
 dsimp only
 have hsz:vs.toArray.size=vs.length:=by simp
 have fin:∀ st':SortSt,(arrOf st').Perm (pairsOf vs)->Up (arrOf st') 0 (pairsOf vs).size->P (.done (.ret .none)) { s with heap:=sortedHeap s.heap a vs ((arrOf st').map (·.2)) }:=by
  intro st' hp hu
  obtain⟨ns',h1,h2,h3⟩:=sorted_out hI hp λi j q1 q2=>hu i j (Nat.zero_le _) q1 q2
  exact h _ ns' h1 h2 h3
 by_cases h2:vs.toArray.size<2
 ·rw[if_pos h2,if_pos h2]
  refine wpAny_bind (wpAny_pure ?_)
  rw[StateT.run_pure]
  refine wpAny_bind (wpAny_pure ?_)
  dsimp only
  refine wpAny_bind (seqEpoch_at ho6 rfl ?_)
  refine wpAny_bind (listUpdate_at ho6 rfl ?_ (hsz2:=by rw[Array.size_map];show (pairsOf vs).size<=_;rw[pairsOf_size,sizeLine_eq];omega))
  simp only[bne_self_eq_false,Bool.false_eq_true,if_false]
  exact wpAny_pure (fin (SortSt.mk' general' (vs.toArray.zip vs.toArray) #[] 7 none) (Array.Perm.refl _) λi j _ q1 q2=>by
   rw[pairsOf_size] at q2
   obtain rfl:i=j:=by omega
   exact Int.le_refl _)
 ·rw[if_neg h2,if_neg h2]
  obtain⟨v₁,v₂,rest,rfl⟩:∃ v₁ v₂ rest,vs=v₁::v₂::rest:=by
   match vs,hsz,h2 with
   | [],_,h2=>simp at h2
   | [_],_,h2=>simp at h2
   | v₁::v₂::rest,_,_=>exact⟨v₁,v₂,rest,rfl⟩
  rw[keyKind_ints hI]
  refine wpAny_bind (wpAny_pure ?_)
  refine wpAny_bind (wpAny_mono (runs_s (a0:=pairsOf (v₁::v₂::rest)) (st:=SortSt.mk' oneType' ((v₁::v₂::rest).toArray.zip (v₁::v₂::rest).toArray) #[] 7 none)
   (Q:=λ_ st'=>SI (pairsOf (v₁::v₂::rest)) st'/\Up (arrOf st') 0 (pairsOf (v₁::v₂::rest)).size)
   hI.intKeys ⟨Array.Perm.refl _,rfl,rfl⟩ rfl λst' a1 a2=>⟨a1,a2⟩) ?_ λ_ _ e=>e)
  rintro⟨⟨⟩,st'⟩ s' ⟨rfl,hS,hS2⟩
  have hp:=hS.perm
  have hf:=hS.failed
  dsimp only
  refine wpAny_bind (seqEpoch_at ho6 rfl ?_)
  refine wpAny_bind (listUpdate_at ho6 rfl ?_ (hsz2:=by refine Nat.le_trans (Nat.le_of_eq ((Array.size_map ..).trans (hp.size_eq.trans (pairsOf_size _)))) ?_;rw[sizeLine_eq];omega))
  rw[hf]
  simp only[bne_self_eq_false,Bool.false_eq_true,if_false]
  exact wpAny_pure (fin st' hp hS2)
end
end SB
namespace L2
open PySem PySem.Spec PyProof.Rows
section
variable {X:Cx}
theorem log2_small {y:Int}(h0:0<y)(h:y<2 ^ 200):y.natAbs.log2<9000:=by
 have h1:y.natAbs≠0:=by omega
 have h2:y.natAbs.log2<200:=(Nat.log2_lt h1).mpr (by omega)
 omega
theorem op_fdivL:OpR X (binaryOp .FloorDiv) (rI (λ_ j=>0<j/\j<2 ^ 200) λi j=>.int (i / j)):=opI λi j _ _ _ _ _ hc q=>by
 refine floordiv_int (by omega) ?_ (.inl (PyProof.noPylong_of_log2 (log2_small hc.1 hc.2)))
 rw[Int.fdiv_eq_ediv_of_nonneg i (by omega)]
 exact q
theorem call_sum (hc:X.calm=true):CallR X (.builtin "sum") (λxs H Q=>∃ (p:Addr) (ns:List Int),xs=[.ref p]/\SqL X.K H p (ns.map V.int)/\Q (.int ns.sum) H):=by
 intro pins s σ H xs us Q I r h
 obtain⟨p,ns,rfl,hq,q⟩:=h
 obtain⟨u,rfl,rx⟩:=vals1 r
 cases rx
 obtain⟨its,r',pl,hz⟩:=I.list hq
 have hi:=intsAre_of r'
 obtain⟨xs,e⟩:=hi.allInts.items
 have hns:ns=xs.toList.map (·.1):=by rw[<- hi.numsOf,<- nums_intItems,<- e]
 have hl:=pl.isList
 rw[e] at hl
 refine sum_intListG (I.ok.hd hc) hl λh' tk t' hk=>⟨.int ns.sum,H,I.kept hk,⟨t',?_⟩,q⟩
 rw[preSum_eq,List.take_of_length_le (by simp),hns]
theorem call_max (hc:X.calm=true):CallR X (.builtin "max") (λxs H Q=>∃ (p:Addr) (ns:List Int),xs=[.ref p]/\SqL X.K H p (ns.map V.int)/\ns≠[]/\∀ M,M∈ns->(∀ a,a∈ns->a<=M)->Q (.int M) H):=by
 intro pins s σ H xs us Q I r h
 obtain⟨p,ns,rfl,hq,hne,q⟩:=h
 obtain⟨u,rfl,rx⟩:=vals1 r
 cases rx
 obtain⟨its,r',pl,hz⟩:=I.list hq
 have hi:=intsAre_of r'
 obtain⟨xs,e⟩:=hi.allInts.items
 have hns:ns=xs.toList.map (·.1):=by rw[<- hi.numsOf,<- nums_intItems,<- e]
 have hl:=pl.isList
 rw[e] at hl
 have hsz:0<xs.size:=by
  have h3:=List.length_pos_iff.mpr hne;rw[hns,List.length_map,Array.length_toList] at h3;exact h3
 refine max_intList (I.ok.hd hc) hl hsz λv h' tk hv hk=>?_
 obtain⟨t,rfl⟩:=intItems_at hv
 obtain⟨h1,h2⟩:=argBest_gt (numAt xs) (xs.size-1)
 refine⟨.int _,H,I.kept hk,⟨t,rfl⟩,q _ ?_ λa ha=>?_⟩
 ·rw[hns,numAt_eq];exact getD_mem (by rw[List.length_map,Array.length_toList];omega)
 ·rw[hns] at ha
  obtain⟨j,hj,rfl⟩:=mem_getD ha
  rw[List.length_map,Array.length_toList] at hj
  rw[<- numAt_eq];exact h2 j (by omega)
theorem call_min (hc:X.calm=true):CallR X (.builtin "min") (λxs H Q=>∃ (p:Addr) (ns:List Int),xs=[.ref p]/\SqL X.K H p (ns.map V.int)/\ns≠[]/\∀ M,M∈ns->(∀ a,a∈ns->M<=a)->Q (.int M) H):=by
 intro pins s σ H xs us Q I r h
 obtain⟨p,ns,rfl,hq,hne,q⟩:=h
 obtain⟨u,rfl,rx⟩:=vals1 r
 cases rx
 obtain⟨its,r',pl,hz⟩:=I.list hq
 have hi:=intsAre_of r'
 obtain⟨xs,e⟩:=hi.allInts.items
 have hns:ns=xs.toList.map (·.1):=by rw[<- hi.numsOf,<- nums_intItems,<- e]
 have hl:=pl.isList
 rw[e] at hl
 have hsz:0<xs.size:=by
  have h3:=List.length_pos_iff.mpr hne;rw[hns,List.length_map,Array.length_toList] at h3;exact h3
 refine min_intList (I.ok.hd hc) hl hsz λv h' tk hv hk=>?_
 obtain⟨t,rfl⟩:=intItems_at hv
 obtain⟨h1,h2⟩:=argBest_lt (numAt xs) (xs.size-1)
 refine⟨.int _,H,I.kept hk,⟨t,rfl⟩,q _ ?_ λa ha=>?_⟩
 ·rw[hns,numAt_eq];exact getD_mem (by rw[List.length_map,Array.length_toList];omega)
 ·rw[hns] at ha
  obtain⟨j,hj,rfl⟩:=mem_getD ha
  rw[List.length_map,Array.length_toList] at hj
  rw[<- numAt_eq];exact h2 j (by omega)
def RV:Nat->Hp->V->PyData->Prop
 | _,_,.non,d=>d=.none
 | _,_,.bl b,d=>d=.bool b
 | _,_,.int i,d=>d=.int i
 | _,_,.str x,d=>d=.str x
 | n+1,H,.ref a,d=>(∃ xs ds,Rd H a (.lst xs)/\d=.list ds/\Paired (RV n H) xs ds)\/∃ xs ds,Rd H a (.tup xs)/\d=.tuple ds/\Paired (RV n H) xs ds
 | _,_,_,_=>False
structure Shw (d:PyData):Prop where
 sh:d.showable=true
 nd:d.hasDict=false
 dp:d.depth<=30
 sz:d.shown.length<=sizeLine
end
end L2
namespace L2
open PySem PySem.Spec PyProof.Rows
abbrev cxComp (X:Cx)(pins:List (Addr×Obj))(N':List Str)(scope:Scope)(cl:List (Str×Addr))(C:Addr)(s0:Shared)(H0:Hp)(fp:List Addr):Cx :=
 { X with N:=N',s₀:=s0,H₀:=H0,env:=compEnvC scope cl C X.env,outer:=X.stack,ex:=fp,fn:=λ_=>false,pn:=X.pn++pins,xe:=λ_ _=>False }
theorem find_names {k:NameKind}:∀ {names:List (Str×NameKind)} {x:Str},names.lookup x=some k->(x,k)∈names
 | (n,j)::r,x,h=>by
  rw[List.lookup_cons] at h
  cases e:x == n with
  | true =>
   rw[e] at h
   cases h
   rw[eq_of_beq e]
   exact List.mem_cons_self
  | false =>
   rw[e] at h
   exact List.mem_cons_of_mem _ (find_names h)
structure Clo (scope:Scope)(env:Env)(cl:List (Str×Addr)):Prop where
 eq:closureFor scope env=pure cl
 sub:∀ x c,cl.lookup x=some c->env.cells.lookup x=some c
 has:∀ x,(x,NameKind.free)∈scope.names->∃ c,cl.lookup x=some c
theorem clo_go {env:Env}:∀ (names:List (Str×NameKind)) (acc:List (Str×Addr)),(∀ x,(x,NameKind.free)∈names->∃ c,env.cells.lookup x=some c)->(∀ x c,acc.lookup x=some c->env.cells.lookup x=some c) ->
  ∃ cl,(forIn names acc λ(y:Str×NameKind) cs=>(if y.2 == NameKind.free then do let c <- cellOf env y.1;pure (ForInStep.yield ((y.1,c)::cs)) else pure (ForInStep.yield cs):Sem (ForInStep (List (Str×Addr)))))=pure cl /\
   (∀ x c,cl.lookup x=some c->env.cells.lookup x=some c)/\(∀ x,(x,NameKind.free)∈names->∃ c,cl.lookup x=some c)/\∀ x,(∃ c,acc.lookup x=some c)->∃ c,cl.lookup x=some c
 | [],acc,_,hs=>⟨acc,rfl,hs,λ_ h=>by simp at h,λ_ h=>h⟩
 | (n,k)::r,acc,hh,hs=>by
  by_cases hk:k=NameKind.free
  ·subst hk
   obtain⟨c,hc⟩:=hh n List.mem_cons_self
   obtain⟨cl,e,h1,h2,h3⟩:=clo_go r ((n,c)::acc) (λx hx=>hh x (List.mem_cons_of_mem _ hx)) (λx c' hx=>by
    rw[List.lookup_cons] at hx
    cases en:x == n with
    | true=>rw[en] at hx;cases hx;rw[eq_of_beq en];exact hc
    | false=>rw[en] at hx;exact hs x c' hx)
   refine⟨cl,?_,h1,λx hx=>?_,λx ⟨c',hx⟩=>?_⟩
   ·rw[List.forIn_cons]
    have ec:cellOf env n=pure c:=by unfold cellOf;rw[hc]
    simp only[beq_self_eq_true,if_true,ec,pure_bind]
    exact e
   ·rcases List.mem_cons.mp hx with hx | hx
    ·cases hx
     exact h3 n ⟨c,by rw[List.lookup_cons];simp⟩
    ·exact h2 x hx
   ·refine h3 x ?_
    cases en:x == n with
    | true=>exact⟨c,by rw[List.lookup_cons,en]⟩
    | false=>exact⟨c',by rw[List.lookup_cons,en];exact hx⟩
  ·obtain⟨cl,e,h1,h2,h3⟩:=clo_go r acc (λx hx=>hh x (List.mem_cons_of_mem _ hx)) hs
   refine⟨cl,?_,h1,λx hx=>?_,h3⟩
   ·rw[List.forIn_cons]
    have hb:(k == NameKind.free)=false:=by simpa using hk
    simp only[hb,Bool.false_eq_true,if_false,pure_bind]
    exact e
   ·rcases List.mem_cons.mp hx with hx | hx
    ·cases hx;exact absurd rfl hk
    ·exact h2 x hx
theorem clo_mk {scope:Scope}{env:Env}(h:∀ x,(x,NameKind.free)∈scope.names->∃ c,env.cells.lookup x=some c):∃ cl,Clo scope env cl:=by
 obtain⟨cl,e,h1,h2,_⟩:=clo_go (env:=env) scope.names [] h (λx c hx=>by simp at hx)
 exact⟨cl,by unfold closureFor;exact(by simpa using e),h1,h2⟩
def capOk (N':List Str)(caps:List (Option Nat))(N:List Str)(names names':List (Str×NameKind)):Bool :=
 (N'.length == caps.length)&&(N'.zip caps).all (λp=>match p.2 with
  | none=>true
  | some j=>N[j]? == some p.1&&names'.lookup p.1 == some .free) &&
 names'.all (λp=>p.2 != NameKind.cell&&(p.2 != NameKind.free || names.lookup p.1 == some .cell || names.lookup p.1 == some .free)&&(p.2 != NameKind.local || names'.lookup p.1 == some .local))
def capSt (caps:List (Option Nat))(σ:St):St:=caps.map λo=>match o with
 | none=>none
 | some j=>(σ[j]?).join
theorem relabel_free {env:Env}:∀ {names:List (Str×NameKind)} {x:Str},names.lookup x=some .free ->
  (names.map λ(n,k)=>if (k == NameKind.free&&env.scope.kind == .function&&env.kindOf n == some .cell) then (n,NameKind.cell) else (n,k)).lookup x=some .cell \/
  (names.map λ(n,k)=>if (k == NameKind.free&&env.scope.kind == .function&&env.kindOf n == some .cell) then (n,NameKind.cell) else (n,k)).lookup x=some .free
 | (n,k)::r,x,h=>by
  have ih:=@relabel_free env r x
  show List.lookup x ((if (k == NameKind.free&&env.scope.kind == .function&&env.kindOf n == some .cell)=true then (n,NameKind.cell) else (n,k))::_)=_ \/
   List.lookup x ((if (k == NameKind.free&&env.scope.kind == .function&&env.kindOf n == some .cell)=true then (n,NameKind.cell) else (n,k))::_)=_
  cases hx:x == n with
  | true =>
   simp only[List.lookup_cons,hx] at h
   cases h
   by_cases hc:(NameKind.free == NameKind.free&&env.scope.kind == .function&&env.kindOf n == some .cell)=true
   ·rw[if_pos hc];simp[List.lookup_cons,hx]
   ·rw[if_neg hc];simp[List.lookup_cons,hx]
  | false =>
   simp only[List.lookup_cons,hx] at h
   by_cases hc:(k == NameKind.free&&env.scope.kind == .function&&env.kindOf n == some .cell)=true
   ·rw[if_pos hc];simp only[List.lookup_cons,hx];exact ih h
   ·rw[if_neg hc];simp only[List.lookup_cons,hx];exact ih h
theorem relabel_back {env : Env} : ∀ {names : List (Str × NameKind)} {x : Str}, (∀ p ∈ names, p.2 ≠ .cell) →
    ((names.map fun (n, k) => if (k == NameKind.free && env.scope.kind == .function && env.kindOf n == some .cell) then (n, NameKind.cell) else (n, k)).lookup x = some .cell ∨
     (names.map fun (n, k) => if (k == NameKind.free && env.scope.kind == .function && env.kindOf n == some .cell) then (n, NameKind.cell) else (n, k)).lookup x = some .free) → (x, NameKind.free) ∈ names
  | [], x, _, h => by simp at h
  | (n, k) :: r, x, hc0, h => by
    have ih := @relabel_back env r x (fun p hp => hc0 p (List.mem_cons_of_mem _ hp))
    have hk0 : k ≠ .cell := hc0 (n, k) List.mem_cons_self
    rw [List.map_cons] at h
    generalize (r.map fun (x : Str × NameKind) => match x with | (n, k) => if (k == NameKind.free && env.scope.kind == ScopeKind.function && env.kindOf n == some NameKind.cell) = true then (n, NameKind.cell) else (n, k)) = R at h ih
    dsimp only at h
    by_cases hc : (k == NameKind.free && env.scope.kind == .function && env.kindOf n == some .cell) = true
    · rw [if_pos hc] at h
      cases hx : x == n with
      | true =>
        have hkf : k = .free := by
          rw [Bool.and_eq_true, Bool.and_eq_true] at hc
          exact eq_of_beq hc.1.1
        rw [eq_of_beq hx, hkf]; exact List.mem_cons_self
      | false =>
        rw [List.lookup_cons, hx] at h
        exact List.mem_cons_of_mem _ (ih h)
    · rw [if_neg hc] at h
      cases hx : x == n with
      | true =>
        rw [List.lookup_cons, hx] at h
        rcases h with h | h
        · exact absurd (Option.some.inj h) hk0
        · rw [eq_of_beq hx, Option.some.inj h]; exact List.mem_cons_self
      | false =>
        rw [List.lookup_cons, hx] at h
        exact List.mem_cons_of_mem _ (ih h)
section
variable {X:Cx}{pins:List (Addr×Obj)}{σ:St}{H:Hp}{s:Shared}
theorem comp_start {N':List Str}{caps:List (Option Nat)}{scope:Scope}{cl:List (Str×Addr)}{fp:List Addr}{h1:Heap}{tk:Nat}(I:Inv X pins σ H s)(hfp:∀ b∈fp,FpOk X pins H b)(hfo:∀ b∈fp,∃ o,s.heap.get? b=some o)
  (hcap:capOk N' caps X.N X.env.scope.names scope.names=true) (hkind:scope.kind=.function) (hC:Clo scope X.env cl)
  (hns:h1.Ns (s.heap.objs.size+1) λ_=>none) (hsb:Heap.SameBut (s.heap.objs.size+1) ((s.heap.push { cls:=.type "list",data:=.seq #[] }).push { cls:=.type "dict",data:=.dict #[] }) h1) :
  Inv (cxComp X pins N' scope cl (s.heap.objs.size+1) { s with heap:=s.heap.push { cls:=.type "list",data:=.seq #[] } } (upd H s.heap.objs.size (.lst [])) fp) [] (capSt caps σ) (upd H s.heap.objs.size (.lst [])) { s with heap:=h1,toks:=tk }:=by
 have hn:H s.heap.objs.size=none:=I.hok.fresh (Nat.le_refl _)
 have hz:(s.heap.push { cls:=.type "list",data:=.seq #[] }).objs.size=s.heap.objs.size+1:=Heap.size_push ..
 have up1:∀ b o,s.heap.get? b=some o->(s.heap.push { cls:=.type "list",data:=.seq #[] }).get? b=some o:=λb o e=>Heap.get?_push_of_some _ e
 have up2:∀ b o,(s.heap.push { cls:=.type "list",data:=.seq #[] }).get? b=some o->h1.get? b=some o:=λb o e=>by
  have hb:b<s.heap.objs.size+1:=by rw[<- hz];exact Heap.lt_size e
  exact hsb.extBut b o (Nat.ne_of_lt hb) (Heap.get?_push_of_some _ e)
 have I1:Inv X pins σ (upd H s.heap.objs.size (.lst [])) { s with heap:=s.heap.push { cls:=.type "list",data:=.seq #[] },toks:=s.toks } :=
  I.laid (t':=s.toks) up1 (Nat.le_refl _) (show ObjOk X.prog X.w _ _ _ (.lst []) from ⟨Nat.zero_le _,[],0,.nil,Heap.get?_push_size _ rfl⟩)
 obtain⟨hcap1,hcap3⟩:=Bool.and_eq_true_iff.mp hcap
 obtain⟨hcap1,hcap2⟩:=Bool.and_eq_true_iff.mp hcap1
 have hlen:N'.length=caps.length:=by simpa using hcap1
 have hcap3':=List.all_eq_true.mp hcap3
 have nocell:∀ p∈scope.names,p.2≠NameKind.cell:=λp hp=>by
  have:=hcap3' p hp
  simp only[Bool.and_eq_true,bne_iff_ne] at this
  exact this.1.1
 have hsub:=I.stkSub
 have ltS:∀ b o,s.heap.get? b=some o->b<s.heap.objs.size:=λb o e=>Heap.lt_size e
 refine⟨⟨I.ok.mod,hkind,I.ok.glob,I.ok.blt,Nat.le_of_eq hz,λx y c e1 e2=>I.ok.inj x y c (hC.sub x c e1) (hC.sub y c e2),λx hx=>?_,λx c hf=>absurd (show false=true from hf) Bool.false_ne_true,I.ok.hd,I.ok.frames,.inl rfl,λb hb=>?_,λb o e=>?_,?_,λb o e hb=>?_,λb hb hf=>?_,?_,λb hb=>?_⟩,
  rfl,I.bare,Un.kept up2,⟨_,hns,λi x v e1 e2 e3=>?_⟩,λx c e=>?_,?_,λx c e=>?_,λp hp=>?_,I1.hok.kept up2,?_⟩
 ·exact hC.has x (relabel_back nocell hx)
 ·obtain⟨o,ho⟩:=hfo b hb
  obtain⟨f0,f1,f2,f3,f4,f5⟩:=hfp b hb
  exact⟨Nat.ne_of_lt (Nat.lt_succ_of_lt (ltS b o ho)),λx c e=>f4 x c (hC.sub x c e)⟩
 ·have q:=I1.bs b o e
  exact q
 ·show X.base.objs.size<=(s.heap.push _).objs.size
  rw[hz]
  exact Nat.le_trans (Nat.le_trans I.ok.bsz I.sz) (Nat.le_succ _)
 ·obtain⟨f0,f1,f2,f3,f4,f5⟩:=hfp b hb
  rcases f3 with f3 | f3
  ·exact I.ok.noex b o e f3
  ·exact absurd (Nat.lt_of_lt_of_le (Heap.lt_size e) (Nat.le_trans I.ok.bsz f3)) (Nat.lt_irrefl _)
 ·obtain⟨f0,f1,f2,f3,f4,f5⟩:=hfp b hb
  rcases List.mem_cons.mp (hsub b hf) with z | z
  ·exact f1 z
  ·exact f2 z
 ·exact I1.stack
 ·exact I1.stkFree b hb
 ·
  have e2':∃ o,caps[i]?=some o/\(match o with | none=>none | some j=>(σ[j]?).join)=some v:=by
   unfold capSt at e2
   rw[List.getElem?_map] at e2
   cases q:caps[i]? with
   | none=>rw[q] at e2;cases e2
   | some o=>rw[q] at e2;exact⟨o,rfl,Option.some.inj e2⟩
  obtain⟨o,ho,hv⟩:=e2'
  cases o with
  | none=>cases hv
  | some j =>
   have hv':(σ[j]?).join=some v:=hv
   have hσ:σ[j]?=some (some v):=by
    cases q:σ[j]? with
    | none=>rw[q] at hv';cases hv'
    | some w=>rw[q] at hv';rw[show w=some v from hv']
   have hzip:(x,some j)∈N'.zip caps:=by
    refine List.mem_iff_getElem?.mpr ⟨i,?_⟩
    rw[List.getElem?_zip_eq_some]
    exact⟨e1,ho⟩
   have q:=List.all_eq_true.mp hcap2 _ hzip
   simp only[Bool.and_eq_true,beq_iff_eq] at q
   obtain⟨q1,q2⟩:=q
   have q3:=hcap3' _ (find_names q2)
   have q4:X.env.scope.names.lookup x=some .cell\/X.env.scope.names.lookup x=some .free:=by
    simp only[bne_self_eq_false,Bool.false_or,Bool.and_eq_true,Bool.or_eq_true,beq_iff_eq] at q3
    exact q3.1.2
   obtain⟨m,_,hl⟩:=I.loc
   obtain⟨u,ru,lk⟩:=hl j x v q1 hσ (.inr q4)
   refine⟨u,ru,.inr ⟨relabel_free q2,?_⟩⟩
   have q5:X.env.kindOf x=some .cell\/X.env.kindOf x=some .free:=q4
   rcases lk with ⟨k,_⟩ | ⟨_,c,ec,hc⟩
   ·rcases q5 with q5 | q5<;>(rw[q5] at k;cases k)
   ·obtain⟨c',ec'⟩:=hC.has x (find_names q2)
    have:=hC.sub x c' ec'
    rw[ec] at this
    cases this
    obtain⟨oc,hoc,hdc⟩:=hc
    exact⟨c,ec',oc,up2 _ _ (up1 _ _ hoc),hdc⟩
 ·obtain⟨v,oc,hoc,hdc⟩:=I.cell x c (hC.sub x c e)
  exact⟨v,oc,up2 _ _ (up1 _ _ hoc),hdc⟩
 ·show upd H _ _ (s.heap.objs.size+1)=none
  rw[upd_ne (Nat.ne_of_gt (Nat.lt_succ_self _))]
  exact I.hok.fresh (Nat.le_succ _)
 ·exact I1.freeC x c (hC.sub x c e)
 ·have hp':p∈X.pn++pins:=by simpa using hp
  obtain⟨a1,a2,a3,a4,a5⟩:=I1.pin p hp'
  obtain⟨b1,_,_,_,_⟩:=I.pin p hp'
  refine⟨up2 _ _ a1,a2,Nat.ne_of_lt (Nat.lt_succ_of_lt (ltS _ _ b1)),λhf=>?_,a5⟩
  rcases List.mem_cons.mp (hsub p.1 hf) with z | z
  ·exact a3 z
  ·exact a4 z
 ·show (capSt caps σ).length=N'.length
  unfold capSt
  rw[List.length_map,hlen]
theorem comp_back {N':List Str}{scope:Scope}{cl:List (Str×Addr)}{fp:List Addr}{C:Addr}{pins':List (Addr×Obj)}{σ':St}{H':Hp}{s':Shared}(I:Inv X pins σ H s)(hfp:∀ b∈fp,FpOk X pins H b)
  (J:Inv (cxComp X pins N' scope cl C { s with heap:=s.heap.push { cls:=.type "list",data:=.seq #[] } } (upd H s.heap.objs.size (.lst [])) fp) pins' σ' H' s'):Inv X pins σ H' s':=by
 have hn:H s.heap.objs.size=none:=I.hok.fresh (Nat.le_refl _)
 refine I.call' (ch:=fp) J.os ?_ J.hok J.bare λb hb=>?_
 ·exact(Un.laid (λb o e=>Heap.get?_push_of_some _ e) (Nat.le_refl _) hn).trans J.base
 ·obtain⟨f0,f1,f2,f3,f4,f5⟩:=hfp b hb
  exact⟨f3,f1,f4,f5⟩
end
end L2
namespace L2
open PySem PySem.Spec PyProof.Rows
def PIfs (X:Cx)(ifs:List Expr)(t:TT):Prop :=
 ∀ (pins:List (Addr×Obj)) (s:Shared) (σ:St) (H:Hp) (Q:Bool->Hp->Prop),Inv X pins σ H s->t σ H Q ->
  wpAny (model X.prog X.w) X.A (forIn ifs true λc r=>if r=true then do let ok <- isTrue c X.env (eval c X.env);pure (ForInStep.yield ok) else pure (ForInStep.yield r)) (TP X pins σ Q) X.xe s
def tYes:TT:=λ_ H Q=>Q true H
theorem pifs_nil {X:Cx}:PIfs X [] tYes:=λ_ _ _ H _ I h=>wpAny_tests_nil ⟨H,I,h⟩
theorem pifs_one {X:Cx}{c:Expr}{t:TT}(h:PT X c t):PIfs X [c] t:=λpins s σ H Q I q=>wpAny_tests_one (h pins s σ H Q I q)
def compRead (J:It)(D:Addr)(g:TG)(tt:TT)(te:TE)(σ0:St)(H0:Hp)(Q:Hp->Prop):Prop :=
 ∃ W:Nat->Nat->St->Hp->Prop,(∃ m,W 0 m σ0 H0)/\∀ i m σ' H',W i m σ' H' ->
  (J.stop i H'/\Q H')\/(J.go i H'/\∃ N:St->Hp->Prop,(∀ σ' H',N σ' H'->∃ m',m'<m/\W (i+1) m' σ' H')/\∀ x H2,J.yld i H' x H2->g x σ' H2 λσ2 H3=>tt σ2 H3 λb H4 =>
   if b=true then te σ2 H4 λv H5=>∃ ys,H5 D=some (.lst ys)/\ys.length<sizeLine/\N σ2 (upd H5 D (.lst (ys++[v]))) else N σ2 H4)
def tComp (caps:List (Option Nat))(wi:TI)(g:TG)(tt:TT)(te:TE):TE:=λσ H Q=>wi σ H λJ H1=>∀ D,H1 D=none->compRead J D g tt te (capSt caps σ) (upd H1 D (.lst [])) λH2=>Q (.ref D) H2
section
variable {X:Cx}{tg elt iter:Expr}{ifs:List Expr}{scope:Scope}{pos:Pos}
theorem comp_loop {X':Cx}{fp:List Addr}{it D:Addr}{tn:Nat->Heap->Prop}{J:It}{g:TG}{tt:TT}{te:TE}{σ0:St}{H0:Hp}{s:Shared}{R:Result->Shared->Prop}{Qe:Hp->Prop}(hc:X'.calm=true)(hxe:X'.xe=λ_ _=>False)
  (T:Turn X'.prog X'.w X'.K tg J fp it tn) (hg:PG X' tg g) (ht:PIfs X' ifs tt) (he:PE X' elt te) (I:Inv X' [] σ0 H0 s) (hf:∀ b∈fp,FpOk X' [] H0 b) (st:tn 0 s.heap) (q:compRead J D g tt te σ0 H0 Qe)
  (hR:∀ s' σ' H',Inv X' [] σ' H' s'->Qe H'->R (.ok .next) s') :
  codeAny (model X'.prog X'.w) X'.A (.compLoop (.ListComp elt [⟨tg,iter,ifs,0⟩] scope pos) 0 (.ref it) (.ref D) X'.env) R s:=by
 obtain⟨W,⟨m0,w0⟩,turn⟩:=q
 have stat:∀ {H':Hp},(∀ b∈fp,H' b=none)->∀ b∈fp,FpOk X' [] H' b:=λhn b hb=>⟨hn b hb,(hf b hb).2⟩
 refine codeAny_loop rfl (λn s'=>∃ i σ' H',Inv X' [] σ' H' s'/\tn i s'.heap/\(∀ b∈fp,H' b=none)/\W i n σ' H') ?_ m0 ⟨0,σ0,H0,I,st,λb hb=>(hf b hb).1,w0⟩
 rintro n s3 ⟨i,σ3,H3,I3,st3,fr3,w3⟩
 show wpAny _ X'.A ((compTurn (.ListComp elt [⟨tg,iter,ifs,0⟩] scope pos) 0 (.ref it) (.ref D) X'.env).onRaise (λx=>do noteFrame x X'.env;theTreesLotGoes x)) _ _ s3
 refine wpAny_noted ?_
 rw[compTurn_list]
 have no:∀ {α:Type} {t:Sem α} {Q:α->Shared->Prop} {s':Shared} {E':Value->Shared->Prop},wpAny (model X'.prog X'.w) X'.A t Q X'.xe s'->wpAny (model X'.prog X'.w) X'.A t Q E' s':=λh=>wpAny_mono h (λ_ _ x=>x) λ_ _ x=>by rw[hxe] at x;exact x.elim
 refine wpAny_bind (wpAny_standAt ?_)
 rcases turn i n σ3 H3 w3 with ⟨stop,qn⟩ | ⟨go,N,hN,step⟩
 ·refine wpAny_bind (thn (T.done X' rfl rfl rfl hc i [] s3 σ3 H3 _ I3 (stat fr3) st3 stop) λr s4 ⟨hr,I4⟩=>?_)
  subst hr
  exact wpAny_pure (hR _ _ _ I4 qn)
 ·refine wpAny_bind (thn (T.item X' rfl rfl rfl hc i [] s3 σ3 H3 _ I3 (stat fr3) st3 go) λr s4 ⟨u,hr,h4⟩=>?_)
  subst hr
  refine wpAny_bind (thn h4 λ_ s5 ⟨x,H5,I5,r5,y5,st5,fr5⟩=>?_)
  have I5':=I5.pinned (stat fr5) (T.obj _ _ st5)
  have again:∀ {σ7:St} {H7:Hp} {s7:Shared},Inv X' ([]++pinsAt fp s5.heap) σ7 H7 s7->N σ7 H7->∃ m,m<n/\∃ i σ' H',Inv X' [] σ' H' s7/\tn i s7.heap/\(∀ b∈fp,H' b=none)/\W i m σ' H':=λ{σ7 H7 s7} I7 n7=>by
   obtain⟨m',hm,w7⟩:=hN σ7 H7 n7
   refine⟨m',hm,i+1,σ7,H7,I7.unpinned,T.keep _ _ _ st5 λb hb o e=>(I7.pin (b,o) (List.mem_append_right _ (List.mem_append_right _ (mem_pinsAt hb e)))).1,λb hb=>?_,w7⟩
   obtain⟨o,e,d⟩:=T.obj _ _ st5 b hb
   exact(I7.pin (b,o) (List.mem_append_right _ (List.mem_append_right _ (mem_pinsAt hb e)))).2.1
  refine wpAny_bind (thn (no (hg _ s5 σ3 H5 x u _ I5' r5 (step x H5 y5))) λ_ s6 ⟨σ6,H6,I6,q6⟩=>?_)
  refine wpAny_bind (thn (no (ht _ s6 σ6 H6 _ I6 q6)) λb s7 ⟨H7,I7,q7⟩=>?_)
  cases b with
  | false=>exact wpAny_pure ⟨rfl,again I7 q7⟩
  | true =>
   refine wpAny_bind (wpAny_bind (thn (no (he _ s7 σ6 H7 _ I7 q7)) λv s8 ⟨y,H8,I8,r8,q8⟩=>?_))
   obtain⟨ys,hD,hsz,q8⟩:=q8
   refine wpAny_bind (thn (no (mt_append (X:=X') _ s8 σ6 H8 (.ref D) [y] (Value.ref D) [v] (λ_ H9=>N σ6 H9) I8 rfl (.cons r8 .nil) ⟨D,ys,y,rfl,rfl,hD,hsz,q8⟩)) λ_ s9 ⟨z,H9,I9,_,q9⟩=>?_)
   exact wpAny_pure (wpAny_pure ⟨rfl,again I9 q9⟩)
theorem vis_free {N':List Str}{caps:List (Option Nat)}{N:List Str}{names names':List (Str×NameKind)}(h:capOk N' caps N names names'=true):(∀ p∈names',p.2≠NameKind.cell)/\(∀ x,(x,NameKind.free)∈names'->names.lookup x=some .cell\/names.lookup x=some .free)/\∀ p∈names',p.2=.local->names'.lookup p.1=some .local:=by
 have h3:=List.all_eq_true.mp (Bool.and_eq_true_iff.mp h).2
 refine⟨λp hp=>?_,λx hx=>?_,λp hp hl=>?_⟩
 ·have:=h3 p hp
  simp only[Bool.and_eq_true,bne_iff_ne] at this
  exact this.1.1
 ·have:=h3 _ hx
  simp only[bne_self_eq_false,Bool.false_or,Bool.and_eq_true,Bool.or_eq_true,beq_iff_eq] at this
  exact this.1.2
 ·have:=h3 p hp
  rw[hl] at this
  simp only[bne_self_eq_false,Bool.false_or,Bool.and_eq_true,beq_iff_eq] at this
  exact this.2
theorem comp_block {N':List Str}{caps:List (Option Nat)}{pins:List (Addr×Obj)}{σ:St}{H:Hp}{s:Shared}{J:It}{fp:List Addr}{it:Addr}{tn:Nat->Heap->Prop}{g:TG}{tt:TT}{te:TE}{cl:List (Str×Addr)}{RR:Value->Addr->Result->Shared->Prop}{Qe:Addr->Hp->Prop}
  (hc:X.calm=true) (hcap:capOk N' caps X.N X.env.scope.names scope.names=true) (hkind:scope.kind=.function) (hC:Clo scope X.env cl)
  (hg:∀ C s0 H0 fp,PG (cxComp X pins N' scope cl C s0 H0 fp) tg g) (ht:∀ C s0 H0 fp,PIfs (cxComp X pins N' scope cl C s0 H0 fp) ifs tt) (he:∀ C s0 H0 fp,PE (cxComp X pins N' scope cl C s0 H0 fp) elt te)
  (I:Inv X pins σ H s) (T:Turn X.prog X.w X.K tg J fp it tn) (st:tn 0 s.heap) (hf:∀ b∈fp,FpOk X pins H b) (q:∀ D,H D=none->compRead J D g tt te (capSt caps σ) (upd H D (.lst [])) (Qe D))
  (hR:∀ (D C:Addr) (s':Shared) (H':Hp),Inv X pins σ H' s'->Qe D H'->D≠C->(∃ o m,s'.heap.get? C=some o/\(∀ v,o.data≠.cell v)/\(∀ h2:Heap,h2.get? C=some o->h2.Ns C m))->H' C=none->s.heap.objs.size<=C->RR (.ref D) C (.ok .next) s') :
  wpAny (model X.prog X.w) X.A (newList []) (λacc s₃=>wpAny (model X.prog X.w) X.A (newFunctionEnv scope X.env.globals cl [] X.env.qual none .none (some X.env)) (λcenv s₄ =>
   codeAny (model X.prog X.w) X.A (.compStart (.ListComp elt [⟨tg,iter,ifs,0⟩] scope pos) 0 (.ref it) acc { cenv with scope:=relabel scope X.env }) (RR acc cenv.locals) s₄) X.xe s₃) X.xe s:=by
 refine wpAny_newObj_type (wpAny_newFunctionEnv (vis_free hcap).1 (by intro y hy;simp at hy) (λh₁ hns₁ hsb₁=>?_) hkind)
 have hz:(s.heap.push { cls:=.type "list",data:=.seq #[] }).objs.size=s.heap.objs.size+1:=Heap.size_push ..
 have hns:h₁.Ns (s.heap.objs.size+1) λ_=>none:=by rw[<- hz];exact hns₁
 have hsb:Heap.SameBut (s.heap.objs.size+1) ((s.heap.push { cls:=.type "list",data:=.seq #[] }).push { cls:=.type "dict",data:=.dict #[] }) h₁:=by rw[<- hz];exact hsb₁
 have hfo:∀ b∈fp,∃ o,s.heap.get? b=some o:=λb hb=>let ⟨o,e,_⟩:=T.obj 0 _ st b hb;⟨o,e⟩
 have I1:=comp_start (tk:=s.toks+([]:List (Str×Value)).length) I hf hfo hcap hkind hC hns hsb
 have hn:H s.heap.objs.size=none:=I.hok.fresh (Nat.le_refl _)
 have up:∀ b o,s.heap.get? b=some o->h₁.get? b=some o:=λb o e =>
  hsb.extBut b o (Nat.ne_of_lt (Nat.lt_succ_of_lt (Heap.lt_size e))) (Heap.get?_push_of_some _ (Heap.get?_push_of_some _ e))
 have st1:tn 0 h₁:=T.keep _ _ _ st λb _ o e=>up b o e
 have f1:∀ b∈fp,FpOk (cxComp X pins N' scope cl (s.heap.objs.size+1) { s with heap:=s.heap.push { cls:=.type "list",data:=.seq #[] } } (upd H s.heap.objs.size (.lst [])) fp) [] (upd H s.heap.objs.size (.lst [])) b:=λb hb=>by
  obtain⟨a0,a1,a2,a3,a4,a5⟩:=hf b hb
  obtain⟨o,ho⟩:=hfo b hb
  have hlt:=Heap.lt_size ho
  refine⟨by rw[upd_ne (Nat.ne_of_lt hlt)];exact a0,Nat.ne_of_lt (Nat.lt_succ_of_lt hlt),λz=>?_,.inl hb,λx c e=>a4 x c (hC.sub x c e),λp hp=>a5 p (by simpa using hp)⟩
  rcases List.mem_cons.mp (I.stkSub b z) with z | z
  ·exact a1 z
  ·exact a2 z
 have loop:codeAny (model X.prog X.w) X.A (.compLoop (.ListComp elt [⟨tg,iter,ifs,0⟩] scope pos) 0 (.ref it) (.ref s.heap.objs.size) (compEnvC scope cl (s.heap.objs.size+1) X.env))
   (RR (.ref s.heap.objs.size) (s.heap.objs.size+1)) { s with heap:=h₁,toks:=s.toks+([]:List (Str×Value)).length }:=by
  refine comp_loop (X':=cxComp X pins N' scope cl (s.heap.objs.size+1) { s with heap:=s.heap.push { cls:=.type "list",data:=.seq #[] } } (upd H s.heap.objs.size (.lst [])) fp) hc rfl T (hg _ _ _ _) (ht _ _ _ _) (he _ _ _ _) I1 f1 st1 (q _ hn) λs' σ' H' J' qe=>?_
  have B:=comp_back I hf J'
  obtain⟨m,hnC,_⟩:=J'.loc
  obtain⟨o,es,ep,ho,hd,r⟩:=id hnC
  exact hR _ _ s' H' B qe (Nat.ne_of_lt (Nat.lt_succ_self _)) ⟨o,m,ho,(λv z=>by rw[hd] at z;cases z),λh2 e2=>⟨o,es,ep,e2,hd,r⟩⟩ J'.free (Nat.le_succ _)
 have fin:=codeAny_compStart_list loop (T.self _ _ _ _ _ st1 loop)
 have hz2:(s.heap.push { cls:=.type "list",dict:=none,data:=.seq ([]:List Value).toArray }).objs.size=s.heap.objs.size+1:=hz
 show codeAny _ _ (.compStart _ 0 _ _ { (newEnv scope (s.heap.push { cls:=.type "list",dict:=none,data:=.seq ([]:List Value).toArray }).objs.size X.env.globals cl X.env.qual none .none (some X.env) _) with scope:=relabel scope X.env }) (RR _ (s.heap.push { cls:=.type "list",dict:=none,data:=.seq ([]:List Value).toArray }).objs.size) _
 rw[hz2]
 exact fin
theorem clo_of {N':List Str}{caps:List (Option Nat)}{pins:List (Addr×Obj)}{σ:St}{H:Hp}{s:Shared}(I:Inv X pins σ H s)(hcap:capOk N' caps X.N X.env.scope.names scope.names=true):∃ cl,Clo scope X.env cl :=
 clo_mk λx hx=>I.ok.has x ((vis_free hcap).2.1 x hx)
theorem pe_comp (N':List Str)(caps:List (Option Nat)){wi:TI}{g:TG}{tt:TT}{te:TE}(hc:X.calm=true)(hi:PI X tg iter wi)
  (hg:∀ pins cl C s0 H0 fp,PG (cxComp X pins N' scope cl C s0 H0 fp) tg g) (ht:∀ pins cl C s0 H0 fp,PIfs (cxComp X pins N' scope cl C s0 H0 fp) ifs tt) (he:∀ pins cl C s0 H0 fp,PE (cxComp X pins N' scope cl C s0 H0 fp) elt te)
  (hcap:capOk N' caps X.N X.env.scope.names scope.names=true:=by rfl) (hkind:scope.kind=.function:=by rfl) (hs:∀ x,foldedSetIterable iter X.env x=pure x:=by intro _;rfl) :
  PE X (.ListComp elt [⟨tg,iter,ifs,0⟩] scope pos) (tComp caps wi g tt te):=by
 intro pins s σ H Q I h
 obtain⟨cl,hC⟩:=clo_of I hcap
 rw[eval_ListComp]
 refine wpAny_comprehension_free (use:=none) rfl hs hC.eq hkind (vis_free hcap).2.2 (thn (hi pins s σ H _ I h) λv s1 h1=>thn h1 λitv s2 h2=>?_)
 obtain⟨it,fp,tn,J,H2,e,I2,T,st2,f2,q2⟩:=h2
 subst e
 refine comp_block (RR:=λacc C=>compPost (model X.prog X.w) X.A X.xe none (EP X pins σ Q) acc C) (Qe:=λD H'=>Q (.ref D) H') hc hcap hkind hC (hg pins cl) (ht pins cl) (he pins cl) I2 T st2 f2 q2 λD C s' H' I' q' hDC hCo hCn hCs=>?_
 obtain⟨o,m,ho,hd,hns⟩:=hCo
 refine⟨m,hns _ ho,λh' hsb=>⟨.ref D,H',?_,rfl,q'⟩⟩
 obtain⟨hp',g',d',t',os'⟩:=s'
 have hC0:X.s₀.heap.objs.size<=C:=Nat.le_trans I2.sz hCs
 exact I'.turned (t':=t') (it:=C) (λb o hb e=>hsb.extBut b o hb e) hCn (λz=>by
  have:=I2.lt;rw[<- z] at this;exact absurd (Nat.lt_of_lt_of_le this hCs) (Nat.lt_irrefl _)) (.inr hC0) (λx c e z=>by
  obtain⟨v,q⟩:=I2.cell x c e
  exact absurd (Nat.lt_of_lt_of_le q.lt (by rw[z];exact hCs)) (Nat.lt_irrefl _)) (λp hp z=>by
  exact absurd (Nat.lt_of_lt_of_le (Heap.lt_size (I2.pin p hp).1) (by rw[z];exact hCs)) (Nat.lt_irrefl _))
theorem ps_comp (N':List Str)(caps:List (Option Nat)){i:Nat}{y:Str}{py spos:Pos}{wi:TI}{g:TG}{tt:TT}{te:TE}(hc:X.calm=true)(hN:X.N.Nodup)(hy:X.N[i]?=some y)(hl:Loc X.env.scope y)(hi:PI X tg iter wi)
  (hg:∀ pins cl C s0 H0 fp,PG (cxComp X pins N' scope cl C s0 H0 fp) tg g) (ht:∀ pins cl C s0 H0 fp,PIfs (cxComp X pins N' scope cl C s0 H0 fp) ifs tt) (he:∀ pins cl C s0 H0 fp,PE (cxComp X pins N' scope cl C s0 H0 fp) elt te)
  (hsw:swapsWith (.ListComp elt [⟨tg,iter,ifs,0⟩] scope pos) (some (.Name y py)) spos.line X.env=pure true:=by rfl)
  (hcap:capOk N' caps X.N X.env.scope.names scope.names=true:=by rfl) (hkind:scope.kind=.function:=by rfl) (hs:∀ x,foldedSetIterable iter X.env x=pure x:=by intro _;rfl)
  (hf:X.fn y=true\/X.env.scope.names.lookup y=some .local:=by first | exact .inl rfl | exact .inr rfl | assumption) :
  PS X (.Assign [.Name y py] (.ListComp elt [⟨tg,iter,ifs,0⟩] scope pos) spos) (tAsg (tComp caps wi g tt te) (gName i)):=by
 intro pins s σ H D0 I h
 obtain⟨cl,hC⟩:=clo_of I hcap
 rw[exec_Assign_Name_used _ _ _ _ hsw]
 refine wpAny_bind (wpAny_standAt (wpAny_bind ?_))
 show wpAny _ X.A (do let _ <- comprehension (.ListComp elt [⟨tg,iter,ifs,0⟩] scope pos) scope X.env _ (newList []) false (eval iter X.env) (some (assign (.Name y py) X.env))) _ _ s
 refine wpAny_bind (wpAny_mono (wpAny_comprehension_free (use:=some (assign (.Name y py) X.env)) (Q:=λ_ s'=>SP X pins D0 .next s') rfl hs hC.eq hkind (vis_free hcap).2.2
  (thn (hi pins s σ H _ I h) λv s1 h1=>thn h1 λitv s2 h2=>?_)) (λ_ s' hq=>wpAny_pure (wpAny_pure hq)) λ_ _ e=>e)
 obtain⟨it,fp,tn,J,H2,e,I2,T,st2,f2,q2⟩:=h2
 subst e
 refine comp_block (RR:=λacc C=>compPost (model X.prog X.w) X.A X.xe (some (assign (.Name y py) X.env)) (λ_ s'=>SP X pins D0 .next s') acc C) (Qe:=λD H'=>gName i (.ref D) σ H' D0.nx) hc hcap hkind hC (hg pins cl) (ht pins cl) (he pins cl) I2 T st2 f2 q2 λD C s' H' I' q' hDC hCo hCn hCs=>?_
 obtain⟨o,m,ho,hd,hns⟩:=hCo
 have hCL:C≠X.env.locals:=λz=>by
  have:=I2.lt;rw[<- z] at this;exact absurd (Nat.lt_of_lt_of_le this hCs) (Nat.lt_irrefl _)
 have hCc:∀ x c,X.env.cells.lookup x=some c->c≠C:=λx c e z=>by
  obtain⟨v,q⟩:=I2.cell x c e
  exact absurd (Nat.lt_of_lt_of_le q.lt (by rw[z];exact hCs)) (Nat.lt_irrefl _)
 have hCp:∀ p∈X.pn++pins,p.1≠C:=λp hp z=>absurd (Nat.lt_of_lt_of_le (Heap.lt_size (I2.pin p hp).1) (by rw[z];exact hCs)) (Nat.lt_irrefl _)
 have hC0:X.s₀.heap.objs.size<=C:=Nat.le_trans I2.sz hCs
 have hCf:C∉X.fs:=I2.nofs hCs
 have I'':Inv X (pins++[(C,o)]) σ H' s':=I'.pins_of λp hp=>(List.mem_append.mp hp).elim (λz=>I'.pin p (List.mem_append_right _ z)) λz=>by
  have e:p=(C,o):=by simpa using z
  subst e
  exact⟨ho,hCn,hCL,hCf,hd⟩
 show wpAny _ X.A (assign (.Name y py) X.env (.ref D)) _ _ _
 refine wpAny_assign_Name (store_ok I'' hN hy hl (v:=.ref D) rfl (λs'' J'=>?_) hf)
 have hCo2:=(J'.pin (C,o) (List.mem_append_right _ (List.mem_append_right _ (by simp))))
 refine⟨m,hns _ hCo2.1,λh' hsb=>?_⟩
 obtain⟨hp',g',d',t',os'⟩:=s''
 exact⟨_,H',J'.unpinned.turned (t':=t') (it:=C) (λb o hb e=>hsb.extBut b o hb e) hCo2.2.1 hCL (.inr hC0) hCc hCp,q'⟩
end
end L2
namespace L2
open PySem PySem.Spec PyProof.Rows
section
variable {X:Cx}
def isTy (t:String)(c:String):Bool:=t == c || (t == "bool"&&c == "int")
theorem kit_ty {K:W.Frag}(t c:String)(ht:t∈["NoneType","bool","int","str","list","tuple","dict"])(hc:c∈["bool","int","str","list","tuple","dict"]):W.kitOne K (.type t) (.type c)=some (isTy t c):=by
 simp only[List.mem_cons,List.not_mem_nil,or_false] at ht hc
 rcases ht with rfl | rfl | rfl | rfl | rfl | rfl | rfl<;>rcases hc with rfl | rfl | rfl | rfl | rfl | rfl<;>rfl
theorem call_isinstance:CallR X (.builtin "isinstance") (λxs H Q=>∃ x t c,xs=[x,.ty c]/\TyOf X.K H x (.type t)/\t∈["NoneType","bool","int","str","list","tuple","dict"]/\c∈["bool","int","str","list","tuple","dict"]/\Q (.bl (isTy t c)) H):=by
 intro pins s σ H xs us Q I r h
 obtain⟨x,t,c,rfl,ty,ht,hc,q⟩:=h
 obtain⟨u,w',rfl,rx,ry⟩:=vals2 r
 cases ry
 exact isinst_ok I rx ty (kit_ty t c ht hc) λtk=>⟨.bl _,H,I.tok tk,rfl,q⟩
theorem pe_tyn {x:Str}{T:String}{pos:Pos}(hg:Gl X x)(hm:X.mg x=none)(hv:bootBuiltins x=some (.type T))(hn:x≠"__name__":=by decide)(hd:(x == ("__debug__":Str))=false:=by decide):PE X (.Name x pos) (tC (.ty T)) :=
 pe_bltn hg hm hv rfl hn hd
end
end L2
namespace L2
open PySem PySem.Spec PyProof.Rows
section
variable {X:Cx}
theorem all_range_eq:∀ (ns ms:List Int),ns.length=ms.length->((List.range ns.length).all λj=>decide (ns.getD j 0=ms.getD j 0))=decide (ns=ms):=by
 intro ns ms hl
 by_cases h:ns=ms
 ·subst h;simp
 ·rw[decide_eq_false h]
  cases hc:((List.range ns.length).all λj=>decide (ns.getD j 0=ms.getD j 0)) with
  | false=>rfl
  | true =>
   exfalso
   apply h
   rw[List.all_eq_true] at hc
   apply List.ext_getElem hl
   intro i h1 h2
   have:=hc i (List.mem_range.mpr h1)
   have e:=of_decide_eq_true this
   rw[List.getD_eq_getElem?_getD,List.getD_eq_getElem?_getD,List.getElem?_eq_getElem h1,List.getElem?_eq_getElem h2] at e
   exact e
theorem ints_at {ns:List Int}:∀ {us:List Value},IntsAre us ns->∀ (j:Nat) (h:j<us.toArray.size),∃ t,us.toArray[j]=.int (ns.getD j 0) t:=by
 induction ns with
 | nil=>intro us h j hj;cases h;simp at hj
 | cons n ns ih =>
  intro us h j hj
  cases h with
  | cons _ t h =>
   cases j with
   | zero=>exact⟨t,by simp⟩
   | succ j =>
    obtain⟨t',e⟩:=ih h j (by simpa using hj)
    exact⟨t',by simpa using e⟩
def rEqI (K:W.Frag)(neg:Bool):R2:=λx y H Q=>∃ (p q:Addr) (ns ms:List Int),x=.ref p/\y=.ref q/\SqL K H p (ns.map V.int)/\SqL K H q (ms.map V.int)/\Q (.bl (if neg then !decide (ns=ms) else decide (ns=ms))) H
theorem op_eqI {k:Nat}(hr:Room k X.A):OpR X (compareOp .Eq) (rEqI X.K false):=by
 intro pins s σ H x y v u Q I rx ry h
 obtain⟨p,q,ns,ms,rfl,rfl,h1,h2,qq⟩:=h
 cases rx;cases ry
 obtain⟨its,r1,p1,_⟩:=I.list h1
 obtain⟨its2,r2,p2,_⟩:=I.list h2
 have i1:=intsAre_of r1
 have i2:=intsAre_of r2
 have l1:=r1.length
 have l2:=r2.length
 rw[List.length_map] at l1 l2
 by_cases hl:ns.length=ms.length
 ·refine SeqAt.eq_listAt (e:=λj=>decide (ns.getD j 0=ms.getD j 0)) p1.isList p2.isList (by simp only[List.size_toArray];omega) hr.units0 (λj a1 a2=>?_) ?_
  ·obtain⟨t1,e1⟩:=ints_at i1 j a1
   obtain⟨t2,e2⟩:=ints_at i2 j a2
   rw[e1,e2]
   have:=SeqAt.EqAt.int_int (A:=X.A.in1) (s:=s) (ns.getD j 0) t1 (ms.getD j 0) t2
   rw[Bool.beq_eq_decide_eq] at this
   exact this
  ·rw[show its.toArray.size=ns.length by simp only[List.size_toArray];omega,all_range_eq ns ms hl]
   exact⟨.bl _,H,I,rfl,qq⟩
 ·refine SeqAt.eq_list_lengthsAt p1.isList p2.isList (by simp only[List.size_toArray,bne_iff_ne];omega) hr.units0 ⟨.bl false,H,I,rfl,?_⟩
  have:decide (ns=ms)=false:=decide_eq_false λe=>hl (by rw[e])
  rw[this] at qq
  exact qq
def Itd (hi:Int)(n:Nat):It:=⟨λi _=>i<n,λi H x H'=>H'=H/\x=.int (hi-i),λi _=>n<=i⟩
theorem turn_down {P:Program}{w:World}{K:PySem.W.Frag}{tg:Expr}(it:Addr)(hi:Int)(n:Nat):Turn P w K tg (Itd hi n) [it] it (λi h=>IsRangeIter h it (hi+(i:Nat)*-1) ((n:Int)-(i:Nat)) (-1)) where
 mem:=by simp
 obj:=λi h st b hb=>by
  have e:b=it:=by simpa using hb
  subst e
  exact⟨_,st,λv z=>by
   have z':Data.fields _=Data.cell v:=z
   cases z'⟩
 keep:=λi h h' st k=>k it (by simp) _ st
 item:=by
  intro X hP hw hK hc i pins s σ H E I hf st hg
  subst hP hw hK
  obtain⟨f0,f1,f2,f3,f4,f5⟩:=hf it (by simp)
  have W:=Walks.range (prog:=X.prog) (w:=X.w) (I.ok.hd hc) it hi (-1) n
  refine W.item i s _ _ hg st λv h' tk hv st' kk=>?_
  obtain⟨t,rfl⟩:=hv
  have I1:Inv X pins σ H { s with heap:=h',toks:=tk }:=I.turned (λb o hb e=>kk b o (by simpa using hb) e) f0 f1 f3 f4 f5
  refine⟨_,rfl,go_of (s:={ s with heap:=h',toks:=tk }) (n:="range_iterator") st' rfl rfl (by decide) ⟨.int (hi-i),H,I1,⟨t,?_⟩,⟨rfl,rfl⟩,st',λb hb=>(hf b hb).1⟩⟩
  congr 1;omega
 done:=by
  intro X hP hw hK hc i pins s σ H E I hf st hg
  subst hP hw hK
  obtain⟨f0,f1,f2,f3,f4,f5⟩:=hf it (by simp)
  exact wpAny_pyNext_range_end (I.ok.hd hc) st (by have:n<=i:=hg;omega) λh' eb=>⟨rfl,I.turned (t':=s.toks) (λb o hb e=>eb b o hb e) f0 f1 f3 f4 f5⟩
 self:=λ_ _ _ _ _ st h=>wpAny_pyIter_rangeiter st h
theorem rangeSize_down (a b:Int):Builtin.Range.rangeSize a b (-1)=if b<a then a-b else 0:=by
 unfold Builtin.Range.rangeSize
 simp only[show ¬ ((-1:Int) > 0) by decide,if_false]
 rw[show (- -1:Int)=1 by decide,Int.ediv_one]
 split<;>omega
theorem small_down {a b:Int}(ha:-(2 ^ 61)<=a)(ha':a<2 ^ 61)(hb:-(2 ^ 61)<=b)(hb':b<2 ^ 61):Builtin.Range.small a b (-1)=true:=by
 unfold Builtin.Range.small
 rw[rangeSize_down]
 simp only[Builtin.Range.rangeFitsLong,Bool.and_eq_true,Bool.or_eq_true,decide_eq_true_eq,beq_iff_eq,show ¬ ((-1:Int) > 0) by decide,if_false]
 split<;>omega
def iRngD (ta:TA):TI:=λσ H R=>ta σ H λvs H1=>∃ i j:Int,vs=[.int i,.int j,.int (-1)]/\(-(2 ^ 61)<=i/\i<2 ^ 61/\-(2 ^ 61)<=j/\j<2 ^ 61)/\R (Itd i (i-j).toNat) H1
theorem pi_down {tg a b c:Expr}{ta:TA}{p pos:Pos}(hg:Gl X "range")(hm:X.mg "range"=none)(ha:PA X [a,b,c] ta)(hs:starEach [a,b,c] X.env=[(false,eval a X.env),(false,eval b X.env),(false,eval c X.env)]:=by rfl)(hs2:starEach [b,c] X.env=[(false,eval b X.env),(false,eval c X.env)]:=by rfl) :
  PI X tg (.Call (.Name "range" p) [a,b,c] [] pos) (iRngD ta):=by
 intro pins s σ H R I h
 refine Call_ (ld_blt I hg hm boot_range (PyProof.Rows.callWith_type1 (thn (ha pos pins s σ H _ I h) λus s1 ⟨vs,H1,I1,r1,q1⟩=>?_) (by rw[hs,hs2]) (by rw[hs2];rfl)))
 obtain⟨i,j,e,⟨q1,q2,q3,q4⟩,q⟩:=q1
 subst e
 cases r1 with
 | cons r rr =>
  cases rr with
  | cons r' rr =>
   cases rr with
   | cons r'' rr =>
    cases rr
    obtain⟨t,rfl⟩:=r
    obtain⟨t',rfl⟩:=r'
    obtain⟨t'',rfl⟩:=r''
    refine call_range_3 (by decide) ?_ (.inl (PyProof.noPylong_small (by decide)))
    refine wpAny_pyIter_range (IsRange.new ..) (small_down q1 q2 q3 q4) ?_
    have I2:Inv X pins σ H1 { s1 with heap:=s1.heap.push { cls:=.type "range",data:=.fields #[.int i t,.int j t',.int (-1) t''] },toks:=s1.toks }:=I1.kept λb o e=>Heap.get?_push_of_some _ e
    refine⟨(s1.heap.push { cls:=.type "range",data:=.fields #[.int i t,.int j t',.int (-1) t''] }).objs.size,[(s1.heap.push { cls:=.type "range",data:=.fields #[.int i t,.int j t',.int (-1) t''] }).objs.size],_,_,H1,rfl,
     I2.kept (t':=s1.toks) λb o e=>Heap.get?_push_of_some _ e,turn_down _ i (i-j).toNat,?_,λb hb=>?_,q⟩
    ·have e1:i+((0:Nat):Int)*-1=i:=by simp
     have e2:(((i-j).toNat:Nat):Int)-((0:Nat):Int)=Builtin.Range.rangeSize i j (-1):=by rw[rangeSize_down];split<;>omega
     show IsRangeIter _ _ (i+((0:Nat):Int)*-1) ((((i-j).toNat:Nat):Int)-((0:Nat):Int)) (-1)
     rw[e1,e2]
     exact Heap.get?_push_size _ rfl
    ·have e:b=(s1.heap.push { cls:=.type "range",data:=.fields #[.int i t,.int j t',.int (-1) t''] }).objs.size:=by simpa using hb
     subst e
     exact I2.fpOk (Nat.le_refl _) (I2.hok.fresh (Nat.le_refl _))
theorem for_down {hi:Int}{n:Nat}{g:TG}{tb:TS}{D:Ends}{σ:St}{H:Hp}(Pv:Nat->St->Hp->Prop)(h0:Pv 0 σ H)
  (hs:∀ i σ H,i<n->Pv i σ H->g (.int (hi-i)) σ H λσ2 H2=>tb { D with nx:=Pv (i+1),ct:=Pv (i+1),bk:=D.nx } σ2 H2) (hd:∀ σ H,Pv n σ H->D.nx σ H) :
  ∃ W:Nat->Nat->St->Hp->Prop,(∃ m,W 0 m σ H)/\∀ i m σ H,W i m σ H ->
   ((Itd hi n).stop i H/\D.nx σ H)\/((Itd hi n).go i H/\∃ N:St->Hp->Prop,(∀ σ' H',N σ' H'->∃ m',m'<m/\W (i+1) m' σ' H')/\∀ x H',(Itd hi n).yld i H x H'->g x σ H' λσ2 H2=>tb { D with nx:=N,ct:=N,bk:=D.nx } σ2 H2):=by
 refine⟨λi m σ H=>m=n-i/\i<=n/\Pv i σ H,⟨n,by simp,Nat.zero_le _,h0⟩,?_⟩
 rintro i m σ H ⟨rfl,hi,p⟩
 by_cases hlt:i<n
 ·refine .inr ⟨hlt,Pv (i+1),λσ' H' p'=>⟨n-(i+1),by omega,rfl,hlt,p'⟩,λx H' y=>?_⟩
  obtain⟨e,y⟩:=y
  subst e y
  exact hs i σ _ hlt p
 ·have e:i=n:=by omega
  subst e
  exact .inl ⟨Nat.le_refl _,hd σ H p⟩
theorem comp_range {lo:Int}{n:Nat}{D:Addr}{g:TG}{tt:TT}{te:TE}{σ0:St}{H0:Hp}{Q:Hp->Prop}(Pv:Nat->St->Hp->Prop)(h0:Pv 0 σ0 H0)
  (hs:∀ i σ H,i<n->Pv i σ H->g (.int (lo+i)) σ H λσ2 H3=>tt σ2 H3 λb H4=>if b=true then te σ2 H4 λv H5=>∃ ys,H5 D=some (.lst ys)/\ys.length<sizeLine/\Pv (i+1) σ2 (upd H5 D (.lst (ys++[v]))) else Pv (i+1) σ2 H4)
  (hd:∀ σ H,Pv n σ H->Q H):compRead (Itr lo n) D g tt te σ0 H0 Q:=by
 refine⟨λi m σ H=>m=n-i/\i<=n/\Pv i σ H,⟨n,by simp,Nat.zero_le _,h0⟩,?_⟩
 rintro i m σ H ⟨rfl,hi,p⟩
 by_cases hlt:i<n
 ·refine .inr ⟨hlt,Pv (i+1),λσ' H' p'=>⟨n-(i+1),by omega,rfl,hlt,p'⟩,λx H' y=>?_⟩
  obtain⟨e,y⟩:=y
  subst e y
  exact hs i σ _ hlt p
 ·have e:i=n:=by omega
  subst e
  exact .inl ⟨Nat.le_refl _,hd σ H p⟩
theorem comp_list {K:W.Frag}{a:Addr}{xs:List V}{D:Addr}{g:TG}{tt:TT}{te:TE}{σ0:St}{H0:Hp}{Q:Hp->Prop}(Pv:Nat->St->Hp->Prop)(h0:Pv 0 σ0 H0)(hl:∀ i σ H,i<=xs.length->Pv i σ H->SqL K H a xs)
  (hs:∀ i x σ H,xs[i]?=some x->Pv i σ H->g x σ H λσ2 H3=>tt σ2 H3 λb H4=>if b=true then te σ2 H4 λv H5=>∃ ys,H5 D=some (.lst ys)/\ys.length<sizeLine/\Pv (i+1) σ2 (upd H5 D (.lst (ys++[v]))) else Pv (i+1) σ2 H4)
  (hd:∀ σ H,Pv xs.length σ H->Q H):compRead (Itl K a) D g tt te σ0 H0 Q:=by
 refine⟨λi m σ H=>m=xs.length-i/\i<=xs.length/\Pv i σ H,⟨xs.length,by simp,Nat.zero_le _,h0⟩,?_⟩
 rintro i m σ H ⟨rfl,hi,p⟩
 have q:=hl i σ H hi p
 by_cases hlt:i<xs.length
 ·refine .inr ⟨⟨xs,xs[i],q,by simp[hlt]⟩,Pv (i+1),λσ' H' p'=>⟨xs.length-(i+1),by omega,rfl,hlt,p'⟩,λx H' y=>?_⟩
  obtain⟨e,y⟩:=y
  subst e
  exact hs i x σ _ (y xs q) p
 ·have e:i=xs.length:=by omega
  subst e
  exact .inl ⟨⟨xs,q,Nat.le_refl _⟩,hd σ H p⟩
end
end L2
namespace L2
open PySem PySem.Spec PyProof.Rows
def Ite (K : PySem.W.Frag) (a : Addr) : It :=
  ⟨fun i H => ∃ xs x, SqL K H a xs ∧ xs[i]? = some x,
   fun i H x H' => ∃ (T : Addr) (v : V), H T = none ∧ x = .ref T ∧ H' = upd H T (.tup [.int i, v]) ∧ ∀ xs, SqL K H a xs → xs[i]? = some v,
   fun i H => ∃ xs, SqL K H a xs ∧ xs.length ≤ i⟩
theorem turn_enum {P:Program}{w:World}{K:W.Frag}{elts:List Expr}{x1:Nat}{pos:Pos}(a e it:Addr)(hne:e≠it) :
  Turn P w K (.Tuple elts x1 pos) (Ite K a) [e,it] e (λi h=>(∃ old,IsEnum h e it i old)/\h.IsListIter it a i) where
 mem:=by simp
 obj:=λi h st b hb=>by
  rcases List.mem_cons.mp hb with rfl | hb
  ·obtain⟨⟨old,q⟩,_⟩:=st
   exact⟨_,q,λv z=>by
    have z':Data.fields _=Data.cell v:=z
    cases z'⟩
  ·have e':b=it:=by simpa using hb
   subst e'
   obtain⟨_,o,q,c,d⟩:=st
   exact⟨o,q,λv z=>by rw[d] at z;cases z⟩
 keep:=λi h h' st k=>by
  obtain⟨⟨old,q⟩,st⟩:=st
  exact⟨⟨old,k e (by simp) _ q⟩,st.at λo e=>k it (by simp) o e⟩
 item:=by
  intro X hP hw hK hc i pins s σ H E I hf st hg
  subst hP hw hK
  obtain⟨⟨old,he⟩,hit⟩:=st
  obtain⟨xs,x,hq,hx⟩:=hg
  obtain⟨its,rv,p,hz⟩:=I.list hq
  obtain⟨u,hu,ru⟩:=rv.get hx
  obtain⟨f0,f1,f2,f3,f4,f5⟩:=hf e (by simp)
  obtain⟨g0,g1,g2,g3,g4,g5⟩:=hf it (by simp)
  refine wpAny_pyNext_enum_item he hit p.isList (x:=u) (by simpa using hu) hne λh₁ heo hit₁ ht₁ hz₁ hk₁=>?_
  refine⟨_,rfl,wpAny_letOwnedTupleGo_enum heo λh₂ he₂ hs₂=>?_⟩
  replace hs₂:Heap.SameBut e h₁ h₂:=hs₂
  have hel:e<s.heap.objs.size:=Heap.lt_size he
  have hT:H s.heap.objs.size=none:=I.hok.fresh (Nat.le_refl _)
  have ht₂:h₂.get? s.heap.objs.size=some { cls:=.type "tuple",data:=.seq #[.int i s.toks,u] }:=(hs₂.2 _ (Nat.ne_of_gt hel)).trans ht₁
  have kk:∀ b o,b≠e->b≠it->s.heap.get? b=some o->h₂.get? b=some o:=λb o h1 h2 q=>(hs₂.2 b h1).trans (hk₁ b o h1 h2 q)
  have nT:∀ b o,s.heap.get? b=some o->b≠s.heap.objs.size:=λb o q=>Nat.ne_of_lt (Heap.lt_size q)
  have nch:∀ b,b∉[e,it]->b≠e/\b≠it:=λb hb=>⟨λz=>hb (by simp[z]),λz=>hb (by simp[z])⟩
  have nE:∀ b o,H b=some o->b≠e/\b≠it:=λb o q=>⟨λz=>(by rw[z,f0] at q;cases q),λz=>(by rw[z,g0] at q;cases q)⟩
  have I1:Inv X pins σ (upd H s.heap.objs.size (.tup [.int i,x])) { s with heap:=h₂,gens:=s.gens,drawn:=s.drawn,toks:=s.toks+1 }:=by
   refine I.step (ch:=[e,it]) (λb hb=>?_) (λb o _ _ hc q _=>kk b o (nch b hc).1 (nch b hc).2 q) (λb o _ _ hc q _=>⟨o.slots,kk b o (nch b hc).1 (nch b hc).2 q⟩) (λb o _ q n=>by rw[upd_ne (nT b o q)];exact n)
    (λb o hc q=>⟨o,kk b o (nch b hc).1 (nch b hc).2 q⟩) (λb ys q=>by rw[upd_ne (ne_of_none q hT)];exact q) (λb o z q=>by rw[upd_ne (ne_of_none q hT)];exact q) (λb ps q=>⟨#[],by rw[upd_ne (ne_of_none q hT),q];simp⟩) (λm hm=>?_) (λb z q=>?_) I.bare
   ·rcases List.mem_cons.mp hb with rfl | hb
    ·exact⟨f3,f1,f4,f5⟩
    ·have e':b=it:=by simpa using hb
     subst e'
     exact⟨g3,g1,g4,g5⟩
   ·obtain⟨o,es,ep,ho,r⟩:=hm
    exact⟨o,es,ep,kk _ o (Ne.symm f1) (Ne.symm g1) ho,r⟩
   ·by_cases hb:b=s.heap.objs.size
    ·subst hb
     rw[upd_same] at q
     cases q
     exact⟨(by show 2<=sizeLine;rw[sizeLine_eq];decide),[.int i s.toks,u],.cons ⟨_,rfl⟩ (.cons ru .nil),_,ht₂,rfl,0,rfl⟩
    ·rw[upd_ne hb] at q
     refine(I.hok b z q).stay (λc v hc q'=>?_) (λc q'=>by rw[upd_ne (ne_of_none q' hT)];exact q') λc ys q'=>by rw[upd_ne (ne_of_none q' hT)];exact q'
     rcases hc with rfl | hc
     ·exact kk c v (nE c z q).1 (nE c z q).2 q'
     ·exact kk c v (nE c _ hc).1 (nE c _ hc).2 q'
  refine⟨.ref s.heap.objs.size,_,I1,rfl,⟨s.heap.objs.size,x,hT,rfl,rfl,λys hy=>by rw[I.list_inj hy hq];exact hx⟩,⟨⟨u,?_⟩,?_⟩,λb hb=>?_⟩
  ·have:((i+1:Nat):Int)=(i:Int)+1:=by push_cast;rfl
   rw[this];exact he₂
  ·exact hit₁.extBut hs₂.extBut (Ne.symm hne)
  ·have hbl:b<s.heap.objs.size:=by
    rcases List.mem_cons.mp hb with rfl | hb
    ·exact hel
    ·have e':b=it:=by simpa using hb
     subst e'
     obtain⟨o,q,_⟩:=hit
     exact Heap.lt_size q
   rw[upd_ne (Nat.ne_of_lt hbl)]
   exact(hf b hb).1
 done:=by
  intro X hP hw hK hc i pins s σ H E I hf st hg
  subst hP hw hK
  obtain⟨⟨old,he⟩,hit⟩:=st
  obtain⟨xs,hq,hx⟩:=hg
  obtain⟨its,rv,p,hz⟩:=I.list hq
  obtain⟨g0,g1,g2,g3,g4,g5⟩:=hf it (by simp)
  have hl:=rv.length
  exact wpAny_pyNext_enum_end (I.ok.hd hc) he hit p.isList (by simp;omega) λh' eb=>⟨rfl,I.turned (t':=s.toks) (λb o hb e=>eb b o hb e) g0 g1 g3 g4 g5⟩
 self:=λA i s Q E st h=>by
  obtain⟨⟨old,he⟩,_⟩:=st
  exact wpAny_pyIter_enum he h
section
variable {X:Cx}
def iEnum (K:W.Frag)(ta:TA):TI:=λσ H R=>ta σ H λvs H1=>∃ a,vs=[.ref a]/\(∃ xs,SqL K H1 a xs)/\R (Ite K a) H1
theorem boot_enum:bootBuiltins "enumerate"=some (.type "enumerate"):=by decide +kernel
theorem pi_enum {elts:List Expr}{x1:Nat}{tpos:Pos}{l:Expr}{ta:TA}{p pos:Pos}(hg:Gl X "enumerate")(hm:X.mg "enumerate"=none)(ha:PA X [l] ta)(hs:starEach [l] X.env=[(false,eval l X.env)]:=by rfl):PI X (.Tuple elts x1 tpos) (.Call (.Name "enumerate" p) [l] [] pos) (iEnum X.K ta):=by
 intro pins s σ H R I h
 refine Call_ (ld_blt I hg hm boot_enum (PyProof.Rows.callWith_type1 (thn (ha pos pins s σ H _ I h) λus s1 ⟨vs,H1,I1,r1,q1⟩=>?_) hs rfl))
 obtain⟨a,e,⟨xs,hxs⟩,q⟩:=q1
 subst e
 obtain⟨u,rfl,ru⟩:=vals1 r1
 cases ru
 obtain⟨its,rv,pl,hz⟩:=I1.list hxs
 refine call_enumerate_list pl.isList λh' he hit hsz hk=>?_
 have I2:Inv X pins σ H1 { s1 with heap:=h' }:=I1.kept (t':=s1.toks) hk
 refine wpAny_pyIter_enum he ⟨s1.heap.objs.size+1,[s1.heap.objs.size+1,s1.heap.objs.size],_,Ite X.K a,H1,rfl,I2,turn_enum a _ _ (Nat.ne_of_gt (Nat.lt_succ_self _)),⟨⟨_,he⟩,hit⟩,λb hb=>?_,q⟩
 rcases List.mem_cons.mp hb with rfl | hb
 ·exact I1.fpOk (Nat.le_succ _) (I1.hok.fresh (Nat.le_succ _))
 ·have e':b=s1.heap.objs.size:=by simpa using hb
  subst e'
  exact I1.fpOk (Nat.le_refl _) (I1.hok.fresh (Nat.le_refl _))
theorem for_enum {K:PySem.W.Frag}{a:Addr}{xs:List V}{g:TG}{tb:TS}{D:Ends}{σ:St}{H:Hp}(Pv:Nat->St->Hp->Prop)(h0:Pv 0 σ H)(hl:∀ i σ H,i<=xs.length->Pv i σ H->SqL K H a xs)
  (hs:∀ i x σ H T,xs[i]?=some x->Pv i σ H->H T=none->g (.ref T) σ (upd H T (.tup [.int i,x])) λσ2 H2=>tb { D with nx:=Pv (i+1),ct:=Pv (i+1),bk:=D.nx } σ2 H2) (hd:∀ σ H,Pv xs.length σ H->D.nx σ H) :
  ∃ W:Nat->Nat->St->Hp->Prop,(∃ m,W 0 m σ H)/\∀ i m σ H,W i m σ H ->
   ((Ite K a).stop i H/\D.nx σ H)\/((Ite K a).go i H/\∃ N:St->Hp->Prop,(∀ σ' H',N σ' H'->∃ m',m'<m/\W (i+1) m' σ' H')/\∀ x H',(Ite K a).yld i H x H'->g x σ H' λσ2 H2=>tb { D with nx:=N,ct:=N,bk:=D.nx } σ2 H2):=by
 refine⟨λi m σ H=>m=xs.length-i/\i<=xs.length/\Pv i σ H,⟨xs.length,by simp,Nat.zero_le _,h0⟩,?_⟩
 rintro i m σ H ⟨rfl,hi,p⟩
 have q:=hl i σ H hi p
 by_cases hlt:i<xs.length
 ·refine .inr ⟨⟨xs,xs[i],q,by simp[hlt]⟩,Pv (i+1),λσ' H' p'=>⟨xs.length-(i+1),by omega,rfl,hlt,p'⟩,λx H' y=>?_⟩
  obtain⟨T,v,hT,rfl,rfl,y⟩:=y
  exact hs i v σ H T (y xs q) p hT
 ·have e:i=xs.length:=by omega
  subst e
  exact .inl ⟨⟨xs,q,Nat.le_refl _⟩,hd σ H p⟩
end
end L2
namespace L2
open PySem PySem.Spec PyProof.Rows
section
variable {prog:Program}{w:World}{A:Around}{E:Value->Shared->Prop}{s:Shared}
def EnX (h:Heap)(e it:Addr)(i:Int)(old:Value)(a:Addr)(f:Bool):Prop :=
 h.get? e=some { cls:=.type "enumerate",dict:=none,data:=.fields #[rawInt a,.bool f,.ref it,rawInt i,.none,old],slots:=#[] }
theorem fld {e:Addr}{vs:Array Value}{n:Nat}{x:Value}{Q:Value->Shared->Prop}(he:s.heap.get? e=some { cls:=.type "enumerate",dict:=none,data:=.fields vs,slots:=#[] })(hx:vs[n]?=some x)(h:Q x s) :
  wpAny (model prog w) A (field (.ref e) n) Q E s:=wpAny_field he rfl hx h
theorem enx_next {e it l a:Addr}{i:Nat}{items:Array Value}{x old:Value}{f:Bool}{oa:Obj}{Q:Option Value->Shared->Prop}(he:EnX s.heap e it i old a f)(ha:s.heap.get? a=some oa)(hae:a≠e)(hai:a≠it)
  (hit:s.heap.IsListIter it l i) (hl:s.heap.IsList l items) (hx:items[i]?=some x) (hne:e≠it)
  (hQ:∀ h',EnX h' e it ((i:Int)+1) old a true->h'.IsListIter it l (i+1)->h'.get? s.heap.objs.size=some { cls:=.type "tuple",data:=.seq #[.int i s.toks,x] }->h'.objs.size=s.heap.objs.size+1 ->
   (∀ b o,b≠e->b≠it->s.heap.get? b=some o->h'.get? b=some o)->Q (some (.ref s.heap.objs.size)) { s with heap:=h',toks:=s.toks+1 }) :
  wpAny (model prog w) A (pyNext (.ref e)) Q E s:=by
 obtain⟨hp,gg,dd,tk,oo⟩:=s
 have ty:Shared.TypeIs ⟨hp,gg,dd,tk,oo⟩ (.ref e) "enumerate":=⟨_,he,rfl⟩
 unfold pyNext
 refine wpAny_bind (wpAny_attempt (wpAny_callSpecial?_slot (name:=Str.ofString "__next__") ty F.slot_enumerate_next (wpAny_call_entry F.slot_enumerate_next ty F.entry_enumerate_next ?_ (F.args_enumerate_next_1 _))))
 show wpAny _ _ (field (.ref e) 2 >>= _) _ _ _
 refine wpAny_bind (fld he (x:=.ref it) rfl (wpAny_bind (wpAny_nextOf_list_item hit hl hx λk1 j1 sb1=>?_)))
 have sb1':Heap.SameBut it hp k1:=sb1
 have e1:EnX k1 e it i old a f:=(sb1'.2 e hne).trans he
 show wpAny _ _ (field (.ref e) 3 >>= _) _ _ ⟨k1,gg,dd,tk,oo⟩
 refine wpAny_bind (fld e1 (x:=rawInt i) rfl (wpAny_bind (fld e1 (x:=.none) rfl ?_)))
 show wpAny _ _ (mkInt i >>= _) _ _ ⟨k1,gg,dd,tk,oo⟩
 refine wpAny_bind (wpAny_mkInt ?_)
 show wpAny _ _ (setField (.ref e) 3 (rawInt ((i:Int)+1)) >>= _) _ _ ⟨k1,gg,dd,tk+1,oo⟩
 refine wpAny_bind (wpAny_setField_rec e1 (by simp) λk2 e2 sb2=>?_)
 have sb2':Heap.SameBut e k1 k2:=sb2
 have e2':EnX k2 e it ((i:Int)+1) old a f:=e2
 show wpAny _ _ (setField (.ref e) 4 .none >>= _) _ _ ⟨k2,gg,dd,tk+1,oo⟩
 refine wpAny_bind (wpAny_setField_rec e2' (by simp) λk3 e3 sb3=>?_)
 have sb3':Heap.SameBut e k2 k3:=sb3
 have e3':EnX k3 e it ((i:Int)+1) old a f:=e3
 show wpAny _ _ (newTuple [.int i tk,x] >>= _) _ _ ⟨k3,gg,dd,tk+1,oo⟩
 refine wpAny_bind (wpAny_newTuple ?_)
 have z3:k3.objs.size=hp.objs.size:=by rw[sb3'.1,sb2'.1,sb1'.1]
 have elt:e<hp.objs.size:=Heap.lt_size he
 have kp:∀ b o,b≠e->b≠it->hp.get? b=some o->k3.get? b=some o:=λb o b1 b2 q=>sb3'.extBut b o b1 (sb2'.extBut b o b1 (sb1'.extBut b o b2 q))
 have fin:∀ k5:Heap,EnX k5 e it ((i:Int)+1) old a true->Heap.SameBut e (k3.push { cls:=.type "tuple",data:=.seq #[.int i tk,x] }) k5->Q (some (.ref hp.objs.size)) ⟨k5,gg,dd,tk+1,oo⟩:=λk5 e5 sb5=>by
  refine hQ k5 e5 ?_ (sb5.extBut _ _ (Nat.ne_of_gt elt) (by rw[<- z3];exact Heap.get?_push_size _ rfl)) (by rw[sb5.1,Heap.size_push,z3]) λb o b1 b2 q=>sb5.extBut b o b1 (Heap.get?_push_of_some _ (kp b o b1 b2 q))
  obtain⟨o,ho,r⟩:=(j1.extBut sb2'.extBut (Ne.symm hne)).extBut sb3'.extBut (Ne.symm hne)
  exact⟨o,sb5.extBut it o (Ne.symm hne) (Heap.get?_push_of_some _ ho),r⟩
 have e4:EnX (k3.push { cls:=.type "tuple",data:=.seq #[.int i tk,x] }) e it ((i:Int)+1) old a f:=Heap.get?_push_of_some _ e3'
 have a4:(k3.push { cls:=.type "tuple",data:=.seq #[.int i tk,x] }).get? a=some oa:=Heap.get?_push_of_some _ (kp a oa hae hai ha)
 show wpAny _ _ (Builtin.SmallTypes.ownedTupleIsFree (.ref e) >>= _) _ _ ⟨k3.push { cls:=.type "tuple",data:=.seq #[.int i tk,x] },gg,dd,tk+1,oo⟩
 rw[z3]
 refine wpAny_bind ?_
 unfold Builtin.SmallTypes.ownedTupleIsFree
 refine wpAny_bind (fld e4 (x:=rawInt a) rfl ?_)
 show wpAny _ _ (loadIfAlive ((a:Int).toNat) >>= _) _ _ _
 rw[Int.toNat_natCast]
 refine wpAny_bind (W.kdx_alive a4 ?_)
 simp only[Option.isNone_some,Bool.false_eq_true,if_false]
 refine wpAny_bind (fld e4 (x:=.bool f) rfl ?_)
 cases f with
 | true=>exact wpAny_pure (wpAny_pure ⟨_,rfl,wpAny_pure (fin _ e4 (Heap.SameBut.refl _ _))⟩)
 | false=>exact wpAny_bind (wpAny_setField_rec e4 (by simp) λk5 e5 sb5=>wpAny_pure (wpAny_pure ⟨_,rfl,wpAny_pure (fin k5 e5 sb5)⟩))
theorem enx_end {e it l a:Addr}{i:Nat}{items:Array Value}{old:Value}{f:Bool}{Q:Option Value->Shared->Prop}(hh:A.handled=none)(he:EnX s.heap e it i old a f)
  (hit:s.heap.IsListIter it l i) (hl:s.heap.IsList l items) (hx:items[i]?=none) (hQ:∀ h',Heap.ExtBut it s.heap h'->Q none { s with heap:=h' }):wpAny (model prog w) A (pyNext (.ref e)) Q E s:=by
 have ty:s.TypeIs (.ref e) "enumerate":=⟨_,he,rfl⟩
 unfold pyNext
 refine wpAny_bind (wpAny_attempt (wpAny_callSpecial?_slot (name:=Str.ofString "__next__") ty F.slot_enumerate_next (wpAny_call_entry F.slot_enumerate_next ty F.entry_enumerate_next ?_ (F.args_enumerate_next_1 _))))
 show wpAny _ _ (field (.ref e) 2 >>= _) _ _ _
 refine wpAny_bind (fld he (x:=.ref it) rfl (wpAny_bind (wpAny_nextOf_list_end hh hit hl hx λh' y q1 q2=>?_)))
 obtain⟨o,ho,hc⟩:=q2
 exact wpAny_bind (wpAny_isInstance (T:="StopIteration") (b:=true) ⟨o,ho,hc⟩ isSubtype_stop (wpAny_pure (hQ _ q1)))
end
end L2
namespace L2
open PySem PySem.Spec PyProof.Rows
def EnSt (h:Heap)(e it l S:Addr)(i:Nat):Prop :=
 ((i=0/\∃ old,IsEnum h e it 0 old)\/∃ old a f oa,EnX h e it i old a f/\h.get? a=some oa/\a≠e/\a≠it/\a≠S)/\h.IsListIter it l i
def EnTs (h:Heap)(items:Array Value)(lo:Nat)(as:List Addr):Prop :=
 as.Pairwise (·<·)/\∀ (j:Nat) (a:Addr),as[j]?=some a->lo<=a/\∃ t x,items[j]?=some x/\h.get? a=some { cls:=.type "tuple",data:=.seq #[.int j t,x] }
section
variable {prog:Program}{w:World}{A:Around}{s:Shared}{R:Result->Shared->Prop}
theorem en_loop {S e it l:Addr}{items:Array Value}{lo:Nat}{h1:Heap}(hh:A.handled=none)(hne:e≠it)(hSe:S≠e)(hSi:S≠it)(hlS:l≠S)(hle:l≠e)(hli:l≠it)(hn:items.size<=sizeLine)(heL:e<lo)(hiL:it<lo)(hSL:S<lo)(res:Value)
  (hR:∀ h' tk c as,(∀ b o,b≠S->b≠e->b≠it->h1.get? b=some o->h'.get? b=some o)->h'.get? S=some { cls:=.type "list",dict:=none,data:=.seq (as.map Value.ref).toArray c,slots:=#[] }->as.length=items.size->EnTs h' items lo as->R (.ok (.ret res)) { s with heap:=h',toks:=tk }) :
  ∀ (k i:Nat) (h:Heap) (tk c:Nat) (as:List Addr),items.size-i=k->i<=items.size->EnSt h e it l S i->h.IsList l items->(∀ b o,b≠S->b≠e->b≠it->h1.get? b=some o->h.get? b=some o) ->
   h.get? S=some { cls:=.type "list",dict:=none,data:=.seq (as.map Value.ref).toArray c,slots:=#[] }->as.length=i->EnTs h items lo as->lo<=h.objs.size ->
   codeAny (model prog w) A (.builtin "list.extend.loop" ⟨[.ref S,.ref e,res],[]⟩) R { s with heap:=h,toks:=tk }:=by
 intro k
 induction k with
 | zero =>
  intro i h tk c as hk hi hst hl kp hS hal hG hlo
  have hx:items[i]?=none:=by simp;omega
  refine codeAny_builtin F.entry_extend_loop ?_
  rw[Around.under_plainId F.plain_extend_loop _]
  show wpAny _ A.in1 (pyNext (.ref e) >>= _) _ _ _
  have fin:∀ h',Heap.ExtBut it h h'->R (.ok (.ret res)) { s with heap:=h',toks:=tk }:=λh' eb =>
   hR h' tk c as (λb o a1 a2 a3 q=>eb b o a3 (kp b o a1 a2 a3 q)) (eb S _ hSi hS) (by omega) ⟨hG.1,λj a q=>by
    obtain⟨z1,t,x,z2,z3⟩:=hG.2 j a q
    exact⟨z1,t,x,z2,eb a _ (Nat.ne_of_gt (Nat.lt_of_lt_of_le hiL z1)) z3⟩⟩
  obtain⟨h0,hit⟩:=hst
  rcases h0 with ⟨rfl,old,he⟩ | ⟨old,a,f,oa,he,_⟩
  ·exact wpAny_bind (wpAny_pyNext_enum_end (s:={ s with heap:=h,toks:=tk }) (A:=A.in1) hh he hit hl hx λh' eb=>wpAny_pure (fin h' eb))
  ·exact wpAny_bind (enx_end (s:={ s with heap:=h,toks:=tk }) (A:=A.in1) hh he hit hl hx λh' eb=>wpAny_pure (fin h' eb))
 | succ k ih =>
  intro i h tk c as hk hi hst hl kp hS hal hG hlo
  have hlt:i<items.size:=by omega
  obtain⟨x,hx⟩:∃ x,items[i]?=some x:=⟨items[i],by simp[hlt]⟩
  refine codeAny_builtin F.entry_extend_loop ?_
  rw[Around.under_plainId F.plain_extend_loop _]
  show wpAny _ A.in1 (pyNext (.ref e) >>= _) _ _ _
  have hSz:S<h.objs.size:=Heap.lt_size hS
  have nxt:∀ h',(∃ old a f oa,EnX h' e it ((i:Int)+1) old a f/\h'.get? a=some oa/\a≠e/\a≠it/\a≠S)->h'.IsListIter it l (i+1)->h'.get? h.objs.size=some { cls:=.type "tuple",data:=.seq #[.int i tk,x] }->h'.objs.size=h.objs.size+1 ->
    (∀ b o,b≠e->b≠it->h.get? b=some o->h'.get? b=some o)->wpAny (model prog w) A.in1 (updateSeq S (·.push (Value.ref h.objs.size)) >>= λ_=>again (.builtin "list.extend.loop" ⟨[.ref S,.ref e,res],[]⟩))
     (λfin s'=>match fin with | .done f=>R (.ok f) s' | .again c'=>c'.quiet=true/\codeAny (model prog w) A c' R s') (λx s'=>R (.error x) s') { s with heap:=h',toks:=tk+1 }:=by
   intro h' hX hit' ht hz hk'
   have hS':=hk' S _ hSe hSi hS
   have up:∀ b o,b≠S->h'.get? b=some o->(h'.update S (Obj.mapSeq (·.push (Value.ref h.objs.size)))).get? b=some o:=λb o hb q=>(Heap.get?_update_other _ _ (Ne.symm hb)).trans q
   have hasz:(as.map Value.ref).toArray.size=i:=by simp[hal]
   refine wpAny_bind (wpAny_updateSeq hS' rfl (wpAny_pure ⟨plainId_quiet F.plain_extend_loop _,?_⟩) (by rw[hasz];omega) (by rw[Array.size_push,hasz];omega))
   have hS2:=Heap.get?_update_self (Obj.mapSeq (·.push (Value.ref h.objs.size))) hS' rfl
   refine ih (i+1) _ (tk+1) _ (as++[h.objs.size]) (by omega) hlt ?_ ?_ ?_ (by rw[hS2];simp[Obj.mapSeq];exact rfl) (by simp[hal]) ?_ ?_
   ·obtain⟨old,a,f,oa,q1,q2,q3,q4,q5⟩:=hX
    refine⟨.inr ⟨old,a,f,oa,?_,up a _ q5 q2,q3,q4,q5⟩,hit'.at λo q=>up it o (Ne.symm hSi) q⟩
    have e':((i+1:Nat):Int)=(i:Int)+1:=by omega
    rw[e']
    exact up e _ (Ne.symm hSe) q1
   ·exact(hl.at λo q=>hk' l o hle hli q).at λo q=>up l o hlS q
   ·exact λb o a1 a2 a3 q=>up b o a1 (hk' b o a2 a3 (kp b o a1 a2 a3 q))
   ·refine⟨List.pairwise_append.mpr ⟨hG.1,List.pairwise_singleton _ _,λa ha b hb=>?_⟩,λj a q=>?_⟩
    ·rw[List.mem_singleton.mp hb]
     obtain⟨j,hj⟩:=List.mem_iff_getElem?.mp ha
     obtain⟨_,_,_,_,z⟩:=hG.2 j a hj
     exact Heap.lt_size z
    ·rcases Nat.lt_trichotomy j as.length with c1 | c1 | c1
     ·rw[List.getElem?_append_left c1] at q
      obtain⟨z1,t,y,z2,z3⟩:=hG.2 j a q
      exact⟨z1,t,y,z2,up a _ (Nat.ne_of_gt (Nat.lt_of_lt_of_le hSL z1)) (hk' a _ (Nat.ne_of_gt (Nat.lt_of_lt_of_le heL z1)) (Nat.ne_of_gt (Nat.lt_of_lt_of_le hiL z1)) z3)⟩
     ·subst c1
      have ea:h.objs.size=a:=by simpa using q
      subst ea
      exact⟨hlo,tk,x,by rw[hal];exact hx,by rw[hal];exact up _ _ (Nat.ne_of_gt hSz) ht⟩
     ·rw[List.getElem?_eq_none (by simp;omega)] at q
      cases q
   ·rw[Heap.size_update,hz];omega
  have elt:e<h.objs.size:=Nat.lt_of_lt_of_le heL hlo
  have ilt:it<h.objs.size:=Nat.lt_of_lt_of_le hiL hlo
  obtain⟨h0,hit⟩:=hst
  rcases h0 with ⟨rfl,old,he⟩ | ⟨old,a,f,oa,he,q2,q3,q4,q5⟩
  ·exact wpAny_bind (wpAny_pyNext_enum_item (s:={ s with heap:=h,toks:=tk }) (A:=A.in1) he hit hl hx hne λh' b1 b2 b3 b4 b5=>nxt h' ⟨x,_,false,_,b1,b3,Nat.ne_of_gt elt,Nat.ne_of_gt ilt,Nat.ne_of_gt hSz⟩ b2 b3 b4 b5)
  ·exact wpAny_bind (enx_next (s:={ s with heap:=h,toks:=tk }) (A:=A.in1) he q2 q3 q4 hit hl hx hne λh' b1 b2 b3 b4 b5=>nxt h' ⟨old,a,true,oa,b1,b5 a oa q3 q4 q2,q3,q4,q5⟩ b2 b3 b4 b5)
end
theorem enum_no_len:typeLookup (.type "enumerate") "__len__"=pure none:=by rw[typeLookup_type,builtinLookup_eq_fast];kernel_rfl
theorem enum_no_hint:typeLookup (.type "enumerate") "__length_hint__"=pure none:=by rw[typeLookup_type,builtinLookup_eq_fast];kernel_rfl
section
variable {prog:Program}{w:World}{A:Around}{E:Value->Shared->Prop}{s:Shared}
theorem call_list_enum {e it l:Addr}{items:Array Value}{Q:Value->Shared->Prop}(hh:A.handled=none)(he:IsEnum s.heap e it 0 .none)(hit:s.heap.IsListIter it l 0)(hl:s.heap.IsList l items)(hne:e≠it)(hle:l≠e)(hli:l≠it)(hn:items.size<=sizeLine)
  (hQ:∀ h' tk c as,(∀ b o,b≠e->b≠it->s.heap.get? b=some o->h'.get? b=some o)->h'.get? s.heap.objs.size=some { cls:=.type "list",dict:=none,data:=.seq (as.map Value.ref).toArray c,slots:=#[] }->as.length=items.size->EnTs h' items (s.heap.objs.size+1) as ->
   Q (.ref s.heap.objs.size) { s with heap:=h',toks:=tk }):wpAny (model prog w) A (call (.type "list") [.ref e]) Q E s:=by
 have elt:e<s.heap.objs.size:=Heap.lt_size he
 have ilt:it<s.heap.objs.size:=by obtain⟨o,q,_⟩:=hit;exact Heap.lt_size q
 have llt:l<s.heap.objs.size:=by obtain⟨o,q,_⟩:=hl;exact Heap.lt_size q
 refine callType_codes (Q₁:=λob s1=>ob=.ref s.heap.objs.size/\s1={ s with heap:=s.heap.push { cls:=.type "list",data:=.seq #[] } }) F.called_list (F.typeCall_list_1 _) F.entry_list_init (code_list_new _ ⟨rfl,rfl⟩) λob s1 q1=>?_
 obtain⟨rfl,rfl⟩:=q1
 have hS:(s.heap.push { cls:=.type "list",data:=.seq #[] }).get? s.heap.objs.size=some { cls:=.type "list",data:=.seq #[] }:=Heap.get?_push_size _ rfl
 refine⟨⟨_,hS,rfl⟩,F.args_list_init_2 _ _,?_⟩
 show wpAny _ A.in1.in1 (do let old <- Builtin.List.listItems (.ref s.heap.objs.size);Builtin.List.listUpdate (.ref s.heap.objs.size) (λ_=>#[]);letGo old.toList.reverse;Builtin.List.listExtendWith (.ref s.heap.objs.size) (.ref e) .none) _ _ _
 refine wpAny_bind (listItems_at hS rfl (wpAny_bind (listUpdate_at hS rfl (wpAny_bind (wpAny_letGo ?_)))))
 have hS2:=Heap.get?_update_self (Obj.mapSeq (λ_=>(#[]:Array Value))) hS rfl
 have oth:∀ b o,b<s.heap.objs.size->s.heap.get? b=some o->((s.heap.push { cls:=.type "list",data:=.seq #[] }).update s.heap.objs.size (Obj.mapSeq (λ_=>(#[]:Array Value)))).get? b=some o :=
  λb o hb q=>(Heap.get?_update_other _ _ (Nat.ne_of_gt hb)).trans (Heap.get?_push_of_some _ q)
 have hz:((s.heap.push { cls:=.type "list",data:=.seq #[] }).update s.heap.objs.size (Obj.mapSeq (λ_=>(#[]:Array Value)))).objs.size=s.heap.objs.size+1:=by rw[Heap.size_update,Heap.size_push]
 generalize hH:(s.heap.push { cls:=.type "list",data:=.seq #[] }).update s.heap.objs.size (Obj.mapSeq (λ_=>(#[]:Array Value)))=h2 at hS2 oth hz ⊢
 have he2:IsEnum h2 e it 0 .none:=oth e _ elt he
 have hT:Shared.TypeIs { s with heap:=h2 } (.ref e) "enumerate":=⟨_,he2,rfl⟩
 unfold Builtin.List.listExtendWith
 refine wpAny_bind (wpAny_typeOf hT ?_)
 have c1:Builtin.List.listSameRef (.ref s.heap.objs.size) (.ref e)=false:=by simp[Builtin.List.listSameRef];exact Nat.ne_of_gt elt
 simp only[c1,show (Value.type "enumerate" == Value.type "list")=false by decide,show (Value.type "enumerate" == Value.type "tuple")=false by decide,Bool.or_false,Bool.false_eq_true,if_false]
 refine wpAny_bind (wpAny_pyIter_enum he2 (wpAny_bind (wpAny_holding ?_)))
 unfold Builtin.List.listLengthHint
 refine wpAny_bind (wpAny_specialOf hT enum_no_len ?_)
 show wpAny _ _ (specialOf (Value.ref e) (Str.ofString "__length_hint__") >>= _) _ _ _
 refine wpAny_bind (wpAny_specialOf hT enum_no_hint (wpAny_pure ?_))
 show wpAny _ _ (rule "list.extend.makes-room" >>= λ_=>Builtin.List.listTouch (.ref s.heap.objs.size) >>= λ_=>again (.builtin "list.extend.loop" ⟨[.ref s.heap.objs.size,.ref e,.none],[]⟩)) _ _ _
 refine wpAny_bind (wpAny_rule (wpAny_bind ?_))
 show wpAny _ _ (updateSeq s.heap.objs.size (·.push .none) >>= λ_=>updateSeq s.heap.objs.size (·.pop)) _ _ _
 refine wpAny_bind (wpAny_updateSeq hS2 rfl ?_ (by simp) (by rw[sizeLine_eq];decide))
 have hS3:=Heap.get?_update_self (Obj.mapSeq (·.push Value.none)) hS2 rfl
 refine wpAny_updateSeq hS3 rfl ?_ (by rw[sizeLine_eq];decide) (by rw[sizeLine_eq];decide)
 have hS4:=Heap.get?_update_self (Obj.mapSeq (·.pop)) hS3 rfl
 have oth2:∀ b o,b<s.heap.objs.size->s.heap.get? b=some o->((h2.update s.heap.objs.size (Obj.mapSeq (·.push Value.none))).update s.heap.objs.size (Obj.mapSeq (·.pop))).get? b=some o :=
  λb o hb q=>(Heap.get?_update_other _ _ (Nat.ne_of_gt hb)).trans ((Heap.get?_update_other _ _ (Nat.ne_of_gt hb)).trans (oth b o hb q))
 refine wpAny_pure ⟨plainId_quiet F.plain_extend_loop _,?_⟩
 refine en_loop (A:=A.in1) (R:=wants (λr s2=>r=.none/\Q (.ref s.heap.objs.size) s2) E) (s:=s) (h1:=s.heap) (lo:=s.heap.objs.size+1) (e:=e) (it:=it) (l:=l) (items:=items) hh hne (Nat.ne_of_gt elt) (Nat.ne_of_gt ilt) (Nat.ne_of_lt llt) hle hli hn (Nat.lt_succ_of_lt elt) (Nat.lt_succ_of_lt ilt) (Nat.lt_succ_self _) .none
  (λh' tk c as k1 k2 k3 k4=>⟨rfl,hQ h' tk c as (λb o b1 b2 q=>k1 b o (Nat.ne_of_lt (Heap.lt_size q)) b1 b2 q) k2 k3 k4⟩) items.size 0 _ _ _ [] (Nat.sub_zero _) (Nat.zero_le _) ⟨.inl ⟨rfl,.none,oth2 e _ elt he⟩,hit.at λo q=>oth2 it o ilt q⟩
  (hl.at λo q=>oth2 l o llt q) (λb o _ _ _ q=>oth2 b o (Heap.lt_size q) q) (by rw[hS4];rfl) rfl ⟨List.Pairwise.nil,λj a q=>by simp at q⟩ (by rw[Heap.size_update,Heap.size_update,hz];exact Nat.le_refl _)
end
end L2
namespace L2
open PySem PySem.Spec PyProof.Rows
section
variable {X:Cx}{pins:List (Addr×Obj)}{σ:St}{H H':Hp}{s:Shared}{h':Heap}
theorem Inv.grow {t':Nat}(I:Inv X pins σ H s)(k:∀ b u,s.heap.get? b=some u->h'.get? b=some u)(e:∀ b,b<s.heap.objs.size->H' b=H b)(new:∀ b o,s.heap.objs.size<=b->H' b=some o->ObjOk X.prog X.w H' h' b o) :
  Inv X pins σ H' { s with heap:=h',toks:=t' }:=by
 have up:∀ b o,H b=some o->H' b=some o:=λb o q=>by rw[e b (I.hok.lt q)];exact q
 refine I.un ⟨λb o q _ _ _=>k b o q,λb o q _ _ _=>⟨o.slots,k b o q⟩,λb o q n _=>by rw[e b (Heap.lt_size q)];exact n,λb o q _=>⟨o,k b o q⟩,λb xs q=>up b _ q,λb o u q=>up b _ q,λb ps q=>⟨#[],by rw[up b _ q];simp⟩⟩ λb o q=>?_
 by_cases hb:b<s.heap.objs.size
 ·rw[e b hb] at q
  exact(I.hok b o q).stay (λc u _ q'=>k c u q') (λc q'=>up c _ q') λc xs q'=>up c _ q'
 ·exact new b o (Nat.le_of_not_lt hb) q
end
section
variable {X:Cx}
def tEnumL (K:W.Frag)(ta:TA):TE:=λσ H Q=>ta σ H λvs H1=>∃ a xs,vs=[.ref a]/\SqL K H1 a xs/\∀ (D:Addr) (as:List Addr) (H2:Hp),Same H1 H2->H1 D=none->H2 D=some (.lst (as.map V.ref))->as.length=xs.length ->
 (∀ (j:Nat) (x:V),xs[j]?=some x->∃ b,as[j]?=some b/\H2 b=some (.tup [.int j,x]))->Q (.ref D) H2
theorem pairs_rise {as:List Addr}(h:as.Pairwise (·<·)){j:Nat}{b:Addr}(hb:as[j]?=some b):as.findIdx? (· == b)=some j:=by
 rw[List.findIdx?_eq_some_iff_getElem]
 obtain⟨hj,e⟩:=List.getElem?_eq_some_iff.mp hb
 refine⟨hj,by simp[e],λi hi=>?_⟩
 have:=List.pairwise_iff_getElem.mp h i j (by omega) hj hi
 rw[e] at this
 simpa using Nat.ne_of_lt this
def enH (H:Hp)(n:Nat)(as:List Addr)(xs:List V):Hp:=λb=>if b<n then H b else if b=n+2 then some (.lst (as.map V.ref)) else match as.findIdx? (· == b) with
 | some j=>(xs[j]?).map λx=>.tup [.int j,x]
 | none=>none
theorem enH_old {H:Hp}{n:Nat}{as:List Addr}{xs:List V}{b:Addr}(h:b<n):enH H n as xs b=H b:=if_pos h
theorem enH_D {H:Hp}{n:Nat}{as:List Addr}{xs:List V}:enH H n as xs (n+2)=some (.lst (as.map V.ref)):=by
 unfold enH
 rw[if_neg (show ¬ n+2<n by omega),if_pos rfl]
theorem enH_T {H:Hp}{n:Nat}{as:List Addr}{xs:List V}(h:as.Pairwise (·<·)){j:Nat}{b:Addr}{x:V}(hb:n+3<=b)(z1:as[j]?=some b)(z2:xs[j]?=some x):enH H n as xs b=some (.tup [.int j,x]):=by
 unfold enH
 rw[if_neg (Nat.not_lt.mpr (Nat.le_trans (Nat.le_add_right n 3) hb)),if_neg (Nat.ne_of_gt (Nat.lt_of_lt_of_le (Nat.lt_succ_self _) hb)),pairs_rise h z1]
 show (xs[j]?).map _=_
 rw[z2];rfl
theorem enH_new {H:Hp}{n:Nat}{as:List Addr}{xs:List V}{b:Addr}{o:HO}(hb:n<=b)(z:enH H n as xs b=some o):(b=n+2/\o=.lst (as.map V.ref))\/∃ (j:Nat) (x:V),as[j]?=some b/\xs[j]?=some x/\o=.tup [.int j,x]:=by
 unfold enH at z
 rw[if_neg (Nat.not_lt.mpr hb)] at z
 by_cases hD:b=n+2
 ·rw[if_pos hD] at z
  exact .inl ⟨hD,(Option.some.inj z).symm⟩
 ·rw[if_neg hD] at z
  cases f:as.findIdx? (· == b) with
  | none=>rw[f] at z;cases z
  | some j =>
   rw[f] at z
   obtain⟨hj,hb2,_⟩:=List.findIdx?_eq_some_iff_getElem.mp f
   have hb3:as[j]?=some b:=by rw[List.getElem?_eq_getElem hj];exact congrArg some (by simpa using hb2)
   cases hx:xs[j]? with
   | none =>
    have z':(xs[j]?).map (λx=>HO.tup [.int j,x])=some o:=z
    rw[hx] at z';cases z'
   | some x =>
    have z':(xs[j]?).map (λx=>HO.tup [.int j,x])=some o:=z
    rw[hx] at z'
    exact .inr ⟨j,x,hb3,hx,(Option.some.inj z').symm⟩
theorem refs_vals:∀ as:List Addr,Vals (as.map V.ref) (as.map Value.ref)
 | []=>.nil
 | _::as=>.cons rfl (refs_vals as)
theorem pe_enumL {l:Expr}{ta:TA}{p p2 pos pos2:Pos}(hc:X.calm=true)(hg:Gl X "list")(hm:X.mg "list"=none)(hg2:Gl X "enumerate")(hm2:X.mg "enumerate"=none)(ha:PA X [l] ta)(hs:starEach [l] X.env=[(false,eval l X.env)]:=by rfl) :
  PE X (.Call (.Name "list" p) [.Call (.Name "enumerate" p2) [l] [] pos2] [] pos) (tEnumL X.K ta):=by
 intro pins s σ H Q I h
 refine wpAny_Call_Name_kw (ld_blt I hg hm (show bootBuiltins "list"=some (.type "list") by decide +kernel) ?_)
 refine PyProof.Rows.callWith_type1 ?_ rfl rfl
 show wpAny _ _ (spliced ((false,eval (.Call (.Name "enumerate" p2) [l] [] pos2) X.env)::[])) _ _ s
 refine Calls.spliced_cons ?_
 refine Call_ (ld_blt I hg2 hm2 boot_enum (PyProof.Rows.callWith_type1 (thn (ha pos2 pins s σ H _ I h) λus s1 ⟨vs,H1,I1,r1,q1⟩=>?_) hs rfl))
 obtain⟨a,xs,e,hxs,q⟩:=q1
 subst e
 obtain⟨u,rfl,ru⟩:=vals1 r1
 cases ru
 obtain⟨its,rv,pl,hz⟩:=I1.list hxs
 have hlen:=rv.length
 have alt:a<s1.heap.objs.size:=by obtain⟨o,z,_⟩:=pl.isList;exact Heap.lt_size z
 refine call_enumerate_list pl.isList λh1 he hit hsz hk=>Calls.spliced_nil ?_
 refine call_list_enum (s:={ s1 with heap:=h1 }) (I1.ok.hd hc) he hit (pl.isList.at λo z=>hk a o z) (Nat.ne_of_gt (Nat.lt_succ_self _)) (Nat.ne_of_lt (Nat.lt_succ_of_lt alt)) (Nat.ne_of_lt alt) (by simp only[List.size_toArray];omega) λh2 tk c as k1 k2 k3 k4=>?_
 rw[hsz] at k2 k4 ⊢
 have k3':as.length=xs.length:=by rw[k3];simp only[List.size_toArray];omega
 have keepAll:∀ b o,s1.heap.get? b=some o->h2.get? b=some o:=λb o z =>
  k1 b o (Nat.ne_of_lt (Nat.lt_succ_of_lt (Heap.lt_size z))) (Nat.ne_of_lt (Heap.lt_size z)) (hk b o z)
 have hgt:∀ (j:Nat) (b:Addr),as[j]?=some b->s1.heap.objs.size+3<=b:=λj b z=>(k4.2 j b z).1
 refine⟨.ref (s1.heap.objs.size+2),enH H1 s1.heap.objs.size as xs,?_,rfl,q _ as _ (λb o z=>by rw[enH_old (I1.hok.lt z)];exact z) (I1.hok.fresh (Nat.le_add_right _ _)) enH_D k3' λj x z=>?_⟩
 ·refine I1.grow (t':=tk) keepAll (λb hb=>enH_old hb) λb o hb z=>?_
  rcases enH_new hb z with ⟨rfl,rfl⟩ | ⟨j,x,hb3,hx,rfl⟩
  ·exact⟨by rw[List.length_map];omega,as.map Value.ref,c,refs_vals as,k2⟩
  ·obtain⟨_,t,y,y1,y2⟩:=k4.2 j b hb3
   obtain⟨u,hu,ru⟩:=rv.get hx
   have:y=u:=by
    have y1':its[j]?=some y:=by simpa using y1
    rw[hu] at y1'
    exact(Option.some.inj y1').symm
   subst this
   exact⟨(by show 2<=sizeLine;rw[sizeLine_eq];decide),[.int j t,y],.cons ⟨_,rfl⟩ (.cons ru .nil),_,y2,rfl,0,rfl⟩
 ·have hj:j<as.length:=by
   have:=(List.getElem?_eq_some_iff.mp z).1
   omega
  exact⟨as[j],List.getElem?_eq_getElem hj,enH_T k4.1 (hgt j _ (List.getElem?_eq_getElem hj)) (List.getElem?_eq_getElem hj) z⟩
def plainE:Expr->Bool
 | .Starred ..=>false
 | _=>true
theorem star_plain {e:Expr}{es:List Expr}{env:Env}(h:plainE e=true):starEach (e::es) env=(false,eval e env)::starEach es env:=by
 cases e<;>first | rfl | cases h
theorem pac {e:Expr}{es:List Expr}{te:TE}{t:TA}(ha:PE X e te)(hr:PA X es t)(hp:plainE e=true:=by rfl):PA X (e::es) (tCons te t):=pa_cons ha hr (star_plain hp)
end
end L2
namespace L2
open PySem PySem.Spec PyProof.Rows
def Kp (S:List Addr)(H H':Hp):Prop:=∀ b o,b∉S->H b=some o->H' b=some o
theorem Kp.refl (S:List Addr)(H:Hp):Kp S H H:=λ_ _ _ q=>q
theorem Kp.trans {S:List Addr}{H H1 H2:Hp}(a:Kp S H H1)(b:Kp S H1 H2):Kp S H H2:=λc o n q=>b c o n (a c o n q)
theorem Same.kp {S:List Addr}{H H':Hp}(a:Same H H'):Kp S H H':=λb o _ q=>a b o q
theorem Kp.one {x b:Addr}{H H':Hp}{o:HO}(a:Kp [x] H H')(n:b≠x)(q:H b=some o):H' b=some o:=a b o (by simp[n]) q
theorem same_upd {H:Hp}{p:Addr}{o:HO}(h:H p=none):Same H (upd H p o):=λc u z=>by rw[upd_ne (ne_of_none z h)];exact z
theorem kp_upd {H:Hp}{p:Addr}{o:HO}:Kp [p] H (upd H p o):=λc u n z=>by rw[upd_ne (by simpa using n)];exact z
section
variable {X:Cx}
theorem PE.imp {e:Expr}{t t':TE}(h:PE X e t)(i:∀ σ H Q,t' σ H Q->t σ H Q):PE X e t':=λpins s σ H Q I w=>h pins s σ H Q I (i σ H Q w)
theorem PI.imp {tg e:Expr}{t t':TI}(h:PI X tg e t)(i:∀ σ H Q,t' σ H Q->t σ H Q):PI X tg e t':=λpins s σ H Q I w=>h pins s σ H Q I (i σ H Q w)
theorem CallR.imp {f:Value}{r r':List V->Hp->VK->Prop}(h:CallR X f r)(i:∀ xs H Q,r' xs H Q->r xs H Q):CallR X f r':=λpins s σ H xs us Q I rx w=>h pins s σ H xs us Q I rx (i xs H Q w)
theorem PS.imp {e:Stmt}{t t':TS}(h:PS X e t)(i:∀ D σ H,t' D σ H->t D σ H):PS X e t':=λpins s σ H D I w=>h pins s σ H D I (i D σ H w)
def gt:St->Nat->Option V
 | [],_=>none
 | o::_,0=>o
 | _::r,n+1=>gt r n
theorem gt_some:∀ {σ:St} {i:Nat} {v:V},gt σ i=some v->σ[i]?=some (some v)
 | [],_,_,h=>by simp[gt] at h
 | o::_,0,_,h=>by simp[gt] at h;simp[h]
 | _::r,n+1,_,h=>by simp[gt] at h;simpa using gt_some h
def mVar (i:Nat):TE:=λσ H Q=>match gt σ i with
 | some v=>Q v H
 | none=>False
theorem mVar_imp {i:Nat}{σ:St}{H:Hp}{Q:VK}(h:mVar i σ H Q):tVar i σ H Q:=by
 unfold mVar at h
 cases e:gt σ i with
 | none=>rw[e] at h;exact h.elim
 | some v=>rw[e] at h;exact⟨v,gt_some e,h⟩
theorem mv (i:Nat){x:Str}{pos:Pos}(hN:X.N[i]?=some x:=by rfl)(hv:Vis X.env.scope x:=by first | exact Or.inl rfl | exact Or.inr (Or.inl rfl) | exact Or.inr (Or.inr rfl))(hd:(x == ("__debug__":Str))=false:=by decide)
  (hcd:(x == ("__classdict__":Str))=false:=by decide):PE X (.Name x pos) (mVar i):=(pe_var hN hv hd hcd).imp λ_ _ _=>mVar_imp
@[irreducible] def hNewL (xs:List V)(H:Hp)(Q:VK):Prop:=xs.length<=sizeLine/\∀ p,H p=none->Q (.ref p) (upd H p (.lst xs))
@[irreducible] def hNewT (xs:List V)(H:Hp)(Q:VK):Prop:=xs.length<=sizeLine/\∀ p,H p=none->Q (.ref p) (upd H p (.tup xs))
@[irreducible] def hCat (a b:Addr)(H:Hp)(Q:VK):Prop:=∃ xs ys,H a=some (.lst xs)/\H b=some (.lst ys)/\xs.length+ys.length<=sizeLine/\∀ p,H p=none->Q (.ref p) (upd H p (.lst (xs++ys)))
@[irreducible] def hRep (a:Addr)(k:Int)(H:Hp)(Q:VK):Prop:=∃ xs,H a=some (.lst xs)/\-(2 ^ 63)<=k/\k<2 ^ 63/\xs.length*k.toNat<=sizeLine/\∀ p,H p=none->Q (.ref p) (upd H p (.lst (List.replicate k.toNat xs).flatten))
@[irreducible] def hIx (K:W.Frag)(a:Addr)(i:Int)(H:Hp)(Q:VK):Prop:=∃ xs v,(SqL K H a xs\/SqT K H a xs)/\atI xs i=some v/\Q v H
@[irreducible] def hSl (K:W.Frag)(a:Addr)(lo hi:Option Int)(H:Hp)(Q:VK):Prop:=∃ xs,SqL K H a xs/\∀ p,H p=none->Q (.ref p) (upd H p (.lst (cutV xs lo hi)))
@[irreducible] def hSet (a:Addr)(k:Int)(v:V)(H:Hp)(Q:Hp->Prop):Prop:=∃ xs j,H a=some (.lst xs)/\ixN xs.length k=some j/\Q (upd H a (.lst (xs.set j v)))
@[irreducible] def hApp (a:Addr)(y:V)(H:Hp)(Q:VK):Prop:=∃ xs,H a=some (.lst xs)/\xs.length<sizeLine/\Q .non (upd H a (.lst (xs++[y])))
@[irreducible] def hClr (a:Addr)(H:Hp)(Q:VK):Prop:=∃ xs,H a=some (.lst xs)/\Q .non (upd H a (.lst []))
@[irreducible] def hEqL (K:W.Frag)(a b:Addr)(H:Hp)(Q:Bool->Hp->Prop):Prop:=∃ ns ms:List Int,SqL K H a (ns.map V.int)/\SqL K H b (ms.map V.int)/\Q (decide (ns=ms)) H
@[irreducible] def hSum (K:W.Frag)(a:Addr)(H:Hp)(Q:VK):Prop:=∃ ns:List Int,SqL K H a (ns.map V.int)/\Q (.int ns.sum) H
@[irreducible] def hMax (K:W.Frag)(a:Addr)(H:Hp)(Q:VK):Prop:=∃ ns:List Int,SqL K H a (ns.map V.int)/\ns≠[]/\∀ M,M∈ns->(∀ a,a∈ns->a<=M)->Q (.int M) H
@[irreducible] def hMin (K:W.Frag)(a:Addr)(H:Hp)(Q:VK):Prop:=∃ ns:List Int,SqL K H a (ns.map V.int)/\ns≠[]/\∀ M,M∈ns->(∀ a,a∈ns->M<=a)->Q (.int M) H
@[irreducible] def hLen (K:W.Frag)(a:Addr)(H:Hp)(Q:VK):Prop:=∃ ys,(SqL K H a ys\/SqT K H a ys)/\Q (.int ys.length) H
@[irreducible] def hIsi (K:W.Frag)(x:V)(c:String)(H:Hp)(Q:VK):Prop:=∃ t,TyOf K H x (.type t)/\t∈["NoneType","bool","int","str","list","tuple","dict"]/\c∈["bool","int","str","list","tuple","dict"]/\Q (.bl (isTy t c)) H
section
variable {H:Hp}{Q:VK}{K:W.Frag}{a b:Addr}
theorem i_newL {xs:List V}(h:xs.length<=sizeLine)(q:∀ p H',H p=none->Same H H'->H' p=some (.lst xs)->Q (.ref p) H'):hNewL xs H Q:=by
 unfold hNewL;exact⟨h,λp hp=>q p _ hp (same_upd hp) upd_same⟩
theorem i_newT {xs:List V}(h:xs.length<=sizeLine)(q:∀ p H',H p=none->Same H H'->H' p=some (.tup xs)->Q (.ref p) H'):hNewT xs H Q:=by
 unfold hNewT;exact⟨h,λp hp=>q p _ hp (same_upd hp) upd_same⟩
theorem i_cat {xs ys:List V}(h1:H a=some (.lst xs))(h2:H b=some (.lst ys))(hl:xs.length+ys.length<=sizeLine)(q:∀ p H',H p=none->Same H H'->H' p=some (.lst (xs++ys))->Q (.ref p) H'):hCat a b H Q:=by
 unfold hCat;exact⟨xs,ys,h1,h2,hl,λp hp=>q p _ hp (same_upd hp) upd_same⟩
theorem rep_int (z:Int)(k:Nat):(List.replicate k [V.int z]).flatten=(List.replicate k z).map V.int:=by
 induction k with
 | zero=>rfl
 | succ k ih=>rw[List.replicate_succ,List.flatten_cons,ih,List.replicate_succ];rfl
theorem i_rep1 {z:Int}{k:Int}(h1:H a=some (.lst [.int z]))(h0:-(2 ^ 63)<=k)(hl:k<=1000)(q:∀ p H',H p=none->Same H H'->H' p=some (.lst ((List.replicate k.toNat z).map V.int))->Q (.ref p) H'):hRep a k H Q:=by
 unfold hRep
 refine⟨_,h1,h0,by omega,?_,λp hp=>q p _ hp (same_upd hp) ?_⟩
 ·rw[sizeLine_eq];simp only[List.length_cons,List.length_nil];omega
 ·rw[rep_int];exact upd_same
theorem i_ix {xs:List V}{i:Int}{v:V}(h:SqL K H a xs\/SqT K H a xs)(e:atI xs i=some v)(q:Q v H):hIx K a i H Q:=by unfold hIx;exact⟨xs,v,h,e,q⟩
theorem i_ixN {xs:List V}{i:Int}{v:V}(k:Nat)(h:H a=some (.lst xs))(hi:i=k)(e:xs[k]?=some v)(q:Q v H):hIx K a i H Q:=by
 subst hi;exact i_ix (.inl (SqL.of h)) (atI_nat e) q
theorem i_ixT {xs:List V}{i:Int}{v:V}(k:Nat)(h:H a=some (.tup xs))(hi:i=k)(e:xs[k]?=some v)(q:Q v H):hIx K a i H Q:=by
 subst hi;exact i_ix (.inr (SqT.of h)) (atI_nat e) q
theorem i_ixI {ns:List Int}{i:Int}(h:H a=some (.lst (ns.map V.int)))(h0:0<=i)(h1:i<ns.length)(q:Q (.int (ns.getD i.toNat 0)) H):hIx K a i H Q:=by
 have e:i=((i.toNat:Nat):Int):=by omega
 refine i_ixN i.toNat h e (v:=.int (ns.getD i.toNat 0)) ?_ q
 have hk:i.toNat<ns.length:=by omega
 rw[List.getElem?_map,List.getElem?_eq_getElem hk,List.getD_eq_getElem?_getD,List.getElem?_eq_getElem hk];rfl
theorem i_len {ys:List V}(h:SqL K H a ys\/SqT K H a ys)(q:Q (.int ys.length) H):hLen K a H Q:=by unfold hLen;exact⟨ys,h,q⟩
theorem i_lenI {ns:List Int}(h:H a=some (.lst (ns.map V.int)))(q:Q (.int ns.length) H):hLen K a H Q:=i_len (.inl (SqL.of h)) (by rw[List.length_map];exact q)
theorem i_lenL {xs:List V}(h:H a=some (.lst xs))(q:Q (.int xs.length) H):hLen K a H Q:=i_len (.inl (SqL.of h)) q
theorem i_sum {ns:List Int}(h:SqL K H a (ns.map V.int))(q:Q (.int ns.sum) H):hSum K a H Q:=by unfold hSum;exact⟨ns,h,q⟩
theorem i_max {ns:List Int}(h:SqL K H a (ns.map V.int))(hn:ns≠[])(q:∀ M,M∈ns->(∀ a,a∈ns->a<=M)->Q (.int M) H):hMax K a H Q:=by unfold hMax;exact⟨ns,h,hn,q⟩
theorem i_min {ns:List Int}(h:SqL K H a (ns.map V.int))(hn:ns≠[])(q:∀ M,M∈ns->(∀ a,a∈ns->M<=a)->Q (.int M) H):hMin K a H Q:=by unfold hMin;exact⟨ns,h,hn,q⟩
theorem i_eqL {Q:Bool->Hp->Prop}{ns ms:List Int}(h1:SqL K H a (ns.map V.int))(h2:SqL K H b (ms.map V.int))(q:Q (decide (ns=ms)) H):hEqL K a b H Q:=by unfold hEqL;exact⟨ns,ms,h1,h2,q⟩
theorem i_app {xs:List V}{y:V}(h:H a=some (.lst xs))(hl:xs.length<sizeLine)(q:∀ H',Kp [a] H H'->H' a=some (.lst (xs++[y]))->Q .non H'):hApp a y H Q:=by
 unfold hApp;exact⟨xs,h,hl,q _ kp_upd upd_same⟩
theorem i_appI {ns:List Int}{z:Int}(h:H a=some (.lst (ns.map V.int)))(hl:ns.length<100000)(q:∀ H',Kp [a] H H'->H' a=some (.lst ((ns++[z]).map V.int))->Q .non H'):hApp a (.int z) H Q :=
 i_app h (by rw[List.length_map,sizeLine_eq];omega) λH' k e=>q H' k (by rw[e,List.map_append];rfl)
theorem i_set {Q:Hp->Prop}{xs:List V}{k:Int}{v:V}(j:Nat)(h:H a=some (.lst xs))(hk:k=j)(hj:j<xs.length)(q:∀ H',Kp [a] H H'->H' a=some (.lst (xs.set j v))->Q H'):hSet a k v H Q:=by
 unfold hSet
 refine⟨xs,j,h,?_,q _ kp_upd upd_same⟩
 subst hk
 unfold ixN
 rw[if_pos (by omega),if_pos (by omega)]
 simp
theorem i_sl {xs:List V}{lo hi:Option Int}(h:SqL K H a xs)(q:∀ p H',H p=none->Same H H'->H' p=some (.lst (cutV xs lo hi))->Q (.ref p) H'):hSl K a lo hi H Q:=by
 unfold hSl;exact⟨xs,h,λp hp=>q p _ hp (same_upd hp) upd_same⟩
end
def vAdd:R2:=λx y H Q=>match x,y with
 | .int i,.int j=>Q (.int (i+j)) H
 | .ref a,.ref b=>hCat a b H Q
 | .str i,.str j=>i.length+j.length<=sizeLine/\Q (.str (i++j)) H
 | _,_=>False
theorem opAdd:OpR X (binaryOp .Add) vAdd:=by
 intro pins s σ H x y v u Q I rx ry h
 cases x<;>cases y<;>first
  | exact(show False from h).elim
  | exact op_add pins s σ H _ _ v u Q I rx ry ⟨_,_,rfl,rfl,h⟩
  | (obtain⟨h1,h2⟩:=(show _/\_ from h);exact op_add_str pins s σ H _ _ v u Q I rx ry ⟨_,_,rfl,rfl,h1,h2⟩)
  | (have h:=(show hCat _ _ H Q from h);unfold hCat at h;obtain⟨xs,ys,h1,h2,h3,h4⟩:=h;exact op_cat pins s σ H _ _ v u Q I rx ry ⟨_,_,xs,ys,rfl,rfl,h1,h2,h3,h4⟩)
def vSub:R2:=λx y H Q=>match x,y with
 | .int i,.int j=>Q (.int (i-j)) H
 | _,_=>False
theorem opSub:OpR X (binaryOp .Sub) vSub:=by
 intro pins s σ H x y v u Q I rx ry h
 cases x<;>cases y<;>first
  | exact(show False from h).elim
  | exact op_sub pins s σ H _ _ v u Q I rx ry ⟨_,_,rfl,rfl,h⟩
def vMul:R2:=λx y H Q=>match x,y with
 | .int i,.int j=>CMul i j/\Q (.int (i*j)) H
 | .ref a,.int k=>hRep a k H Q
 | _,_=>False
theorem opMul:OpR X (binaryOp .Mult) vMul:=by
 intro pins s σ H x y v u Q I rx ry h
 cases x<;>cases y<;>first
  | exact(show False from h).elim
  | (obtain⟨h1,h2⟩:=(show CMul _ _/\_ from h);exact op_mul pins s σ H _ _ v u Q I rx ry ⟨_,_,rfl,rfl,h1,h2⟩)
  | (have h:=(show hRep _ _ H Q from h);unfold hRep at h;obtain⟨xs,h1,h2,h3,h4,h5⟩:=h;exact op_rep pins s σ H _ _ v u Q I rx ry ⟨_,_,xs,rfl,rfl,h1,h2,h3,h4,h5⟩)
def vMod:R2:=λx y H Q=>match x,y with
 | .int i,.int j=>0<j/\Q (.int (i % j)) H
 | _,_=>False
theorem opMod:OpR X (binaryOp .Mod) vMod:=by
 intro pins s σ H x y v u Q I rx ry h
 cases x<;>cases y<;>first
  | exact(show False from h).elim
  | (obtain⟨h1,h2⟩:=(show (0:Int)<_/\_ from h);exact op_mod pins s σ H _ _ v u Q I rx ry ⟨_,_,rfl,rfl,h1,h2⟩)
def vFdiv:R2:=λx y H Q=>match x,y with
 | .int i,.int j=>(0<j/\j<2 ^ 200)/\Q (.int (i / j)) H
 | _,_=>False
theorem opFdiv:OpR X (binaryOp .FloorDiv) vFdiv:=by
 intro pins s σ H x y v u Q I rx ry h
 cases x<;>cases y<;>first
  | exact(show False from h).elim
  | (obtain⟨h1,h2⟩:=(show ((0:Int)<_/\_)/\_ from h);exact op_fdivL pins s σ H _ _ v u Q I rx ry ⟨_,_,rfl,rfl,h1,h2⟩)
def vPow:R2:=λx y H Q=>match x,y with
 | .int i,.int j=>CPow i j/\Q (.int (i ^ j.toNat)) H
 | _,_=>False
theorem opPow:OpR X (binaryOp .Pow) vPow:=by
 intro pins s σ H x y v u Q I rx ry h
 cases x<;>cases y<;>first
  | exact(show False from h).elim
  | (obtain⟨h1,h2⟩:=(show CPow _ _/\_ from h);exact op_pow pins s σ H _ _ v u Q I rx ry ⟨_,_,rfl,rfl,h1,h2⟩)
def vLt (p:Int->Int->Bool):R2:=λx y H Q=>match x,y with
 | .int i,.int j=>Q (.bl (p i j)) H
 | _,_=>False
theorem opCmp {op:CmpOp}{p:Int->Int->Bool}(h0:OpR X (compareOp op) (rI0 λi j=>.bl (p i j))):OpR X (compareOp op) (vLt p):=by
 intro pins s σ H x y v u Q I rx ry h
 cases x<;>cases y<;>first
  | exact(show False from h).elim
  | exact h0 pins s σ H _ _ v u Q I rx ry ⟨_,_,rfl,rfl,h⟩
theorem opLt:OpR X (compareOp .Lt) (vLt λi j=>decide (i<j)):=opCmp op_lt
theorem opLe:OpR X (compareOp .LtE) (vLt λi j=>decide (i<=j)):=opCmp op_le
theorem opGt:OpR X (compareOp .Gt) (vLt λi j=>decide (j<i)):=opCmp op_gt
theorem opGe:OpR X (compareOp .GtE) (vLt λi j=>decide (j<=i)):=opCmp op_ge
theorem dI {i j:Int}:decide (V.int i=V.int j)=decide (i=j):=by simp
theorem dS {i j:Str}:decide (V.str i=V.str j)=decide (i=j):=by simp
theorem dB {i j:Bool}:decide (V.bl i=V.bl j)=decide (i=j):=by simp
def vIsN (n:Bool->Bool):R2:=λx y H Q=>match y with
 | .non=>match x with
  | .non=>Q (.bl (n true)) H
  | .int _=>Q (.bl (n false)) H
  | .ref _=>Q (.bl (n false)) H
  | .bl _=>Q (.bl (n false)) H
  | .str _=>Q (.bl (n false)) H
  | _=>False
 | _=>False
theorem opIs:OpR X (compareOp .Is) (vIsN id):=by
 intro pins s σ H x y v u Q I rx ry h
 cases y<;>first
  | exact(show False from h).elim
  | (cases x<;>first
   | exact(show False from h).elim
   | exact op_isN pins s σ H _ _ v u Q I rx ry ⟨rfl,h⟩)
def vNeg:V->Hp->VK->Prop:=λx H Q=>match x with
 | .int i=>Q (.int (-i)) H
 | _=>False
theorem unNeg:UnR X (unaryOp .USub) vNeg:=by
 intro pins s σ H x v Q I rx h
 cases x<;>first
  | exact(show False from h).elim
  | exact un_neg pins s σ H _ v Q I rx ⟨_,rfl,h⟩
def vIx (K:W.Frag):R2:=λx y H Q=>match x,y with
 | .ref a,.int i=>hIx K a i H Q
 | _,_=>False
theorem ixM : IxR X (vIx X.K) := by
  intro value slice pins s σ H x y v u Q I rx ry h
  cases x <;> cases y <;> first
    | exact (show False from h).elim
    | (have h := (show hIx _ _ _ H Q from h)
       unfold hIx at h
       obtain ⟨xs, w, h1 | h1, h2, h3⟩ := h
       · exact ix_list value slice pins s σ H _ _ v u Q I rx ry ⟨_, xs, _, w, rfl, rfl, h1, h2, h3⟩
       · exact ix_tup value slice pins s σ H _ _ v u Q I rx ry ⟨_, xs, _, w, rfl, rfl, h1, h2, h3⟩)
def vSl (K:W.Frag):V->Option Int->Option Int->Hp->VK->Prop:=λx lo hi H Q=>match x with
 | .ref a=>hSl K a lo hi H Q
 | _=>False
theorem slM : SlR X (vSl X.K) := by
  intro pins s σ H x v vl vu lo hi sl Q I rx hs pl pu h
  cases x <;> first
    | exact (show False from h).elim
    | (have h := (show hSl _ _ _ _ H Q from h)
       unfold hSl at h
       obtain ⟨xs, h1, h2⟩ := h
       exact sl_list pins s σ H _ v vl vu lo hi sl Q I rx hs pl pu ⟨_, xs, rfl, h1, h2⟩)
def mPart (t:TE):TO:=λσ H Q=>t σ H λx H1=>match x with
 | .int i=>Q (some i) H1
 | _=>False
theorem po_m {e:Expr}{te:TE}(h:PE X e te):PO X (some e) (mPart te):=by
 intro pins s σ H Q I hw
 rw[evalPart_some]
 refine thn (h pins s σ H _ I hw) λu s1 ⟨x,H1,I1,r1,q1⟩=>?_
 cases x<;>first
  | exact(show False from q1).elim
  | (obtain⟨t,rfl⟩:=r1;exact⟨some _,H1,I1,.int _ t,q1⟩)
@[irreducible] def hTru (K:W.Frag)(a:Addr)(H:Hp)(Q:Bool->Hp->Prop):Prop:=∃ xs,(SqL K H a xs\/SqT K H a xs)/\Q (!xs.isEmpty) H
def vTru (K:W.Frag)(x:V)(H:Hp)(Q:Bool->Hp->Prop):Prop:=match x with
 | .bl b=>Q b H
 | .int i=>Q (i != 0) H
 | .non=>Q false H
 | .ref a=>hTru K a H Q
 | _=>False
theorem vTru_imp {K : PySem.W.Frag} {x : V} {H : Hp} {Q : Bool → Hp → Prop} (h : vTru K x H Q) : ∃ k, TruV K x H k ∧ Q k H := by
  cases x <;> first
    | exact (show False from h).elim
    | exact ⟨_, rfl, h⟩
    | (have h := (show hTru _ _ H Q from h)
       unfold hTru at h
       obtain ⟨xs, h1 | h1, h2⟩ := h
       · exact ⟨_, .inl ⟨xs, h1, rfl⟩, h2⟩
       · exact ⟨_, .inr (.inl ⟨xs, h1, rfl⟩), h2⟩)
theorem tru_m {pins:List (Addr×Obj)}{s:Shared}{σ:St}{H:Hp}{x:V}{v:Value}{Q:Bool->Hp->Prop}(I:Inv X pins σ H s)(r:RelV x v)(h:vTru X.K x H Q):wpAny (model X.prog X.w) X.A (truthy v) (TP X pins σ Q) X.xe s :=
 tru_ok pins s σ H x v Q I r (vTru_imp h)
def mT (K:W.Frag)(t:TE):TT:=λσ H Q=>t σ H λx H'=>vTru K x H' Q
theorem pt_m {a:Expr}{ta:TE}(ha:PE X a ta)(he:∀ whole,isTrue a X.env whole=(do let v <- whole;standAt a.pos;holding [v] (truthy v)):=by intro _;rfl):PT X a (mT X.K ta):=by
 intro pins s σ H Q I h
 exact isTrue_plain (thn (ha pins s σ H _ I h) λv s1 ⟨x,H1,I1,r1,q1⟩=>tru_m I1 r1 q1) (he _)
def mB (t:TE):TT:=λσ H Q=>t σ H λx H'=>match x with
 | .bl k=>Q k H'
 | _=>False
section
variable {a b c:Expr}{ta tb tc:TE}{pos:Pos}{tA tB':TT}{rest:List Expr}
theorem pt_cm {op:CmpOp}{r:R2}(ho:OpR X (compareOp op) r)(ha:PE X a ta)(hb:PE X b tb)(hm:behindInMarks op b=false):PT X (.Compare a [op] [b] pos) (mB (tOp r ta tb)):=by
 intro pins s σ H Q I h
 refine wpAny_isTrue_Compare1 (thn (ha pins s σ H _ I h) λv s1 ⟨x,H1,I1,r1,q1⟩=>thn (hb pins s1 σ H1 _ I1 q1) λu s2 ⟨y,H2,I2,r2,q2⟩ =>
  thn (ho pins s2 σ H2 x y v u _ I2 r1 r2 q2) λc s3 ⟨z,H3,I3,r3,q3⟩=>?_) hm
 cases z<;>first
  | exact(show False from q3).elim
  | (cases r3;exact wpAny_truthy_bool ⟨H3,I3,q3⟩)
def mChain (r r':R2)(ta tb tc:TE):TE:=λσ H Q=>ta σ H λx H1=>tb σ H1 λy H2=>r x y H2 λz H3=>match z with
 | .bl k=>(k=true->tc σ H3 λw' H4=>r' y w' H4 Q)/\(k=false->Q (.bl false) H3)
 | _=>False
theorem pe_chm {op op':CmpOp}{r r':R2}(ho:OpR X (compareOp op) r)(ho':OpR X (compareOp op') r')(ha:PE X a ta)(hb:PE X b tb)(hc:PE X c tc)
  (hm:lastMarks [op,op'] [b,c]=false:=by with_unfolding_all rfl):PE X (.Compare a [op,op'] [b,c] pos) (mChain r r' ta tb tc):=by
 intro pins s σ H Q I h
 refine Compare_chain (thn (ha pins s σ H _ I h) λv s1 ⟨x,H1,I1,r1,q1⟩=>chain_link (thn (hb pins s1 σ H1 _ I1 q1) λu s2 ⟨y,H2,I2,r2,q2⟩ =>
  thn (ho pins s2 σ H2 x y v u _ I2 r1 r2 q2) λd s3 ⟨z,H3,I3,r3,q3⟩=>?_)) hm
 cases z<;>first
  | exact(show False from q3).elim
  | skip
 rename_i k
 cases r3
 refine wpAny_truthy_bool ?_
 cases k with
 | false=>exact ite_ff ⟨.bl false,H3,I3,rfl,q3.2 rfl⟩
 | true=>exact ite_tt (chain_last (thn (hc pins s3 σ H3 _ I3 (q3.1 rfl)) λw' s4 ⟨z',H4,I4,r4,q4⟩=>ho' pins s4 σ H4 y z' u w' Q I4 r2 r4 q4))
def mAnd (t u:TT):TT:=λσ H Q=>t σ H λc H1=>(c=true->u σ H1 Q)/\(c=false->Q false H1)
def mOr (t u:TT):TT:=λσ H Q=>t σ H λc H1=>(c=true->Q true H1)/\(c=false->u σ H1 Q)
theorem pw_am (ha:PT X a tA)(hb:PW X (.BoolOp .And (b::rest) pos) tB'):PW X (.BoolOp .And (a::b::rest) pos) (mAnd tA tB'):=by
 intro wh pins s σ H Q I h
 refine isTrue_and (thn (ha pins s σ H _ I h) λc s1 ⟨H1,I1,q1⟩=>?_)
 cases c with
 | true=>exact hb wh pins s1 σ H1 Q I1 (q1.1 rfl)
 | false=>exact⟨H1,I1,q1.2 rfl⟩
theorem pw_om (ha:PT X a tA)(hb:PW X (.BoolOp .Or (b::rest) pos) tB'):PW X (.BoolOp .Or (a::b::rest) pos) (mOr tA tB'):=by
 intro wh pins s σ H Q I h
 refine isTrue_or (thn (ha pins s σ H _ I h) λc s1 ⟨H1,I1,q1⟩=>?_)
 cases c with
 | true=>exact⟨H1,I1,q1.1 rfl⟩
 | false=>exact hb wh pins s1 σ H1 Q I1 (q1.2 rfl)
def mAndV (K:W.Frag)(ta tb:TE):TE:=λσ H Q=>ta σ H λx H1=>vTru K x H1 λc H2=>(c=true->tb σ H2 Q)/\(c=false->Q x H2)
def mNotV (K:W.Frag)(ta:TE):TE:=λσ H Q=>ta σ H λx H1=>vTru K x H1 λc H2=>Q (.bl (!c)) H2
theorem pe_am (ha:PE X a ta)(hb:PE X (.BoolOp .And (b::rest) pos) tb):PE X (.BoolOp .And (a::b::rest) pos) (mAndV X.K ta tb):=by
 intro pins s σ H Q I h
 refine BoolOp_and (thn (ha pins s σ H _ I h) λv s1 ⟨x,H1,I1,r1,q1⟩=>?_)
 refine thn (tru_m I1 r1 q1) λc s2 ⟨H2,I2,q2⟩=>?_
 cases c with
 | true=>exact hb pins s2 σ H2 Q I2 (q2.1 rfl)
 | false=>exact⟨x,H2,I2,r1,q2.2 rfl⟩
theorem pe_nm (ha:PE X a ta):PE X (.UnaryOp .Not a pos) (mNotV X.K ta):=by
 intro pins s σ H Q I h
 refine UnaryOp_ (thn (ha pins s σ H _ I h) λv s1 ⟨x,H1,I1,r1,q1⟩=>?_)
 exact not_of (thn (tru_m I1 r1 q1) λc s2 ⟨H2,I2,q2⟩=>⟨.bl (!c),H2,I2,rfl,q2⟩)
end
section
variable {st:Stmt}{rest:List Stmt}{t u:TS}{e:Expr}{te:TE}{pos:Pos}
def mIfS (c:TT)(t u:TS):TS:=λD σ H=>c σ H λb H1=>(b=true->t D σ H1)/\(b=false->u D σ H1)
theorem ps_ifm {c:Expr}{a b:List Stmt}{tc:TT}(hc:PT X c tc)(ha:PSs X a t)(hb:PSs X b u):PS X (.If c a b pos) (mIfS tc t u):=by
 intro pins s σ H D I h
 refine wpAny_If (thn (hc pins s σ H _ I h) λd s1 ⟨H1,I1,q1⟩=>?_)
 cases d with
 | true=>exact ha pins s1 σ H1 D I1 (q1.1 rfl)
 | false=>exact hb pins s1 σ H1 D I1 (q1.2 rfl)
def mMid (t u:TS):TS:=λD σ H=>∃ M:St->Hp->Prop,t { D with nx:=M } σ H/\∀ σ' H',M σ' H'->u D σ' H'
theorem pss_mid (h1:PS X st t)(h2:PSs X rest u):PSs X (st::rest) (mMid t u):=by
 intro pins s σ H D I h
 obtain⟨M,h,hM⟩:=h
 refine wpAny_execs_cons (thn (h1 pins s σ H { D with nx:=M } I h) λf s1 q=>?_)
 cases f with
 | next =>
  obtain⟨σ',H',I',q⟩:=q
  exact h2 pins s1 σ' H' D I' (hM _ _ q)
 | ret v=>exact q
 | brk=>exact q
 | cont=>exact q
def mWhile (c:TT)(tb:TS):TS:=λD σ H=>∃ W:Nat->St->Hp->Prop,(∃ m,W m σ H)/\∀ m σ H,W m σ H ->
 c σ H λb H1=>(b=true->tb { D with nx:=λσ' H'=>∃ m',m'<m/\W m' σ' H',ct:=λσ' H'=>∃ m',m'<m/\W m' σ' H',bk:=D.nx } σ H1)/\(b=false->D.nx σ H1)
theorem ps_whm {c:Expr}{body:List Stmt}{tc:TT}{tb:TS}(hp:PassesOwn (model X.prog X.w) X.A X.env X.xe)(hc:PT X c tc)(hb:PSs X body tb):PS X (.While c body [] pos) (mWhile tc tb):=by
 intro pins s σ H D I h
 obtain⟨W,⟨m0,w0⟩,turn⟩:=h
 refine wpAny_While (codeAny_whileLoop (λn s'=>∃ σ' H',Inv X pins σ' H' s'/\W n σ' H') ?_ m0 ⟨σ,H,I,w0⟩)
 rintro n s1 ⟨σ1,H1,I1,w1⟩
 refine wpAny_passesOwn hp (thn (hc pins s1 σ1 H1 _ I1 (turn n σ1 H1 w1)) λb s2 ⟨H2,I2,q2⟩=>?_)
 cases b with
 | true =>
  rw[if_pos rfl]
  refine wpAny_passesOwn hp (thn (hb pins s2 σ1 H2 _ I2 (q2.1 rfl)) λf s3 q3=>?_)
  cases f with
  | next =>
   obtain⟨σ3,H3,I3,m',hm,w3⟩:=q3
   exact⟨m',hm,σ3,H3,I3,w3⟩
  | cont =>
   obtain⟨σ3,H3,I3,m',hm,w3⟩:=q3
   exact⟨m',hm,σ3,H3,I3,w3⟩
  | brk=>exact q3
  | ret v=>exact q3
 | false =>
  rw[if_neg Bool.false_ne_true]
  exact wpAny_execs_nil ⟨σ1,H2,I2,q2.2 rfl⟩
theorem while_m {c:TT}{tb:TS}{D:Ends}{σ:St}{H:Hp}(W:Nat->St->Hp->Prop)(m:Nat)(h0:W m σ H)
  (hs:∀ m σ H,W m σ H->c σ H λb H1=>(b=true->tb { D with nx:=λσ' H'=>∃ m',m'<m/\W m' σ' H',ct:=λσ' H'=>∃ m',m'<m/\W m' σ' H',bk:=D.nx } σ H1)/\(b=false->D.nx σ H1)):mWhile c tb D σ H:=⟨W,⟨m,h0⟩,hs⟩
def mAug (i:Nat)(te:TE)(ti:TIp):TS:=λD σ H=>match gt σ i with
 | some x=>te σ H λy H1=>ti x y H1 λz H2=>D.nx (σ.set i (some z)) H2
 | none=>False
theorem ps_augm {i:Nat}{x:Str}{e:Expr}{te:TE}{op:Operator}{ti:TIp}{pos':Pos}(hN:X.N.Nodup)(hi:X.N[i]?=some x)(hx:Loc X.env.scope x)(he:PE X e te)(ho:PIp X op ti)(hf:X.fn x=true\/X.env.scope.names.lookup x=some .local:=by first | exact .inl rfl | exact .inr rfl | assumption) :
  PS X (.AugAssign (.Name x pos') op e pos) (mAug i te ti):=(ps_aug hN hi hx he ho hf).imp λD σ H h=>by
 unfold mAug at h
 cases e:gt σ i with
 | none=>rw[e] at h;exact h.elim
 | some v=>rw[e] at h;exact⟨v,gt_some e,h⟩
def vIpI (f:Int->Int->Int):TIp:=λx y H Q=>match x,y with
 | .int i,.int j=>Q (.int (f i j)) H
 | _,_=>False
theorem ipAdd:PIp X .Add (vIpI λi j=>i+j):=by
 intro pins s σ H x y v u Q I r1 r2 h
 cases x<;>cases y<;>first
  | exact(show False from h).elim
  | exact ip_add pins s σ H _ _ v u Q I r1 r2 ⟨_,_,rfl,rfl,h⟩
theorem ipSub:PIp X .Sub (vIpI λi j=>i-j):=by
 intro pins s σ H x y v u Q I r1 r2 h
 cases x<;>cases y<;>first
  | exact(show False from h).elim
  | exact ip_sub pins s σ H _ _ v u Q I r1 r2 ⟨_,_,rfl,rfl,h⟩
def vSet:TSet:=λo i v H Q=>match o,i with
 | .ref a,.int k=>hSet a k v H Q
 | _,_=>False
theorem setM:PSet X vSet:=by
 intro pins s σ H o i v ov iv u Q I ro ri rv h
 cases o<;>cases i<;>first
  | exact(show False from h).elim
  | (have h:=(show hSet _ _ _ H Q from h);unfold hSet at h;obtain⟨xs,j,h1,h2,h3⟩:=h;exact set_list pins s σ H _ _ v ov iv u Q I ro ri rv ⟨_,xs,_,j,rfl,rfl,h1,h2,h3⟩)
end
def mLst (t:TA):TE:=λσ H Q=>t σ H λxs H1=>hNewL xs H1 Q
def mTup (t:TA):TE:=λσ H Q=>t σ H λxs H1=>hNewT xs H1 Q
theorem pe_lm {es:List Expr}{t:TA}{pos:Pos}(h:PA X es t):PE X (.List es pos) (mLst t):=by
 intro pins s σ H Q I w
 refine pe_lst (t:=λσ H Q=>t σ H Q) h pins s σ H Q I ?_
 have w':t σ H λxs H1=>hNewL xs H1 Q:=w
 unfold hNewL at w'
 exact w'
theorem pe_tm {x1:Nat}{es:List Expr}{t:TA}{pos:Pos}(h:PA X es t):PE X (.Tuple es x1 pos) (mTup t):=by
 intro pins s σ H Q I w
 refine pe_tup (t:=λσ H Q=>t σ H Q) h pins s σ H Q I ?_
 have w':t σ H λxs H1=>hNewT xs H1 Q:=w
 unfold hNewT at w'
 exact w'
def vApp:V->List V->Hp->VK->Prop:=λx vs H Q=>match x,vs with
 | .ref a,[y]=>hApp a y H Q
 | _,_=>False
theorem mtApp:MtM X "list.append" vApp:=by
 intro pins s σ H x vs v us Q I rx rv h
 unfold vApp at h
 split at h
 ·unfold hApp at h;obtain⟨xs,h1,h2,h3⟩:=h;exact mt_append pins s σ H _ _ v us Q I rx rv ⟨_,xs,_,rfl,rfl,h1,h2,h3⟩
 ·exact h.elim
theorem i_tyL {K:W.Frag}{H:Hp}{a:Addr}{xs:List V}(h:H a=some (.lst xs)):tyV K "list" (.ref a) H:=.inl ⟨rfl,_,SqL.of h⟩
def vSum (K:W.Frag):List V->Hp->VK->Prop:=λxs H Q=>match xs with
 | [.ref a]=>hSum K a H Q
 | _=>False
theorem callSum (hc:X.calm=true):CallR X (.builtin "sum") (vSum X.K):=(call_sum hc).imp λxs H Q h=>by
 unfold vSum at h;split at h
 ·unfold hSum at h;obtain⟨ns,h1,h2⟩:=h;exact⟨_,ns,rfl,h1,h2⟩
 ·exact h.elim
def vMax (K:W.Frag):List V->Hp->VK->Prop:=λxs H Q=>match xs with
 | [.ref a]=>hMax K a H Q
 | [.int i,.int j]=>Q (.int (max i j)) H
 | _=>False
theorem callMax (hc:X.calm=true):CallR X (.builtin "max") (vMax X.K):=((call_max hc).or (call_max2 hc)).imp λxs H Q h=>by
 unfold vMax at h;split at h
 ·unfold hMax at h;obtain⟨ns,h1,h2⟩:=h;exact .inl ⟨_,ns,rfl,h1,h2⟩
 ·refine .inr ⟨_,_,rfl,?_⟩
  rename_i i j
  have e:(if j > i then j else i)=max i j:=by split<;>omega
  rw[e];exact h
 ·exact h.elim
def vMin (K:W.Frag):List V->Hp->VK->Prop:=λxs H Q=>match xs with
 | [.ref a]=>hMin K a H Q
 | [.int i,.int j]=>Q (.int (min i j)) H
 | _=>False
theorem callMin (hc:X.calm=true):CallR X (.builtin "min") (vMin X.K):=((call_min hc).or (call_min2 hc)).imp λxs H Q h=>by
 unfold vMin at h;split at h
 ·unfold hMin at h;obtain⟨ns,h1,h2⟩:=h;exact .inl ⟨_,ns,rfl,h1,h2⟩
 ·refine .inr ⟨_,_,rfl,?_⟩
  rename_i i j
  have e:(if j<i then j else i)=min i j:=by split<;>omega
  rw[e];exact h
 ·exact h.elim
def vLen (K:W.Frag):List V->Hp->VK->Prop:=λxs H Q=>match xs with
 | [.ref a]=>hLen K a H Q
 | _=>False
theorem callLen:CallR X (.builtin "len") (vLen X.K):=call_len_seq.imp λxs H Q h=>by
 unfold vLen at h;split at h
 ·unfold hLen at h;obtain⟨ys,h1,h2⟩:=h;exact⟨_,ys,rfl,h1,h2⟩
 ·exact h.elim
def vInt:List V->Hp->VK->Prop:=λxs H Q=>match xs with
 | [.int i]=>Q (.int i) H
 | [.bl k]=>Q (.int (if k then 1 else 0)) H
 | _=>False
theorem callInt:CallR X (.type "int") vInt:=call_int1.imp λxs H Q h=>by
 unfold vInt at h;split at h
 ·exact .inl ⟨_,rfl,h⟩
 ·exact .inr ⟨_,rfl,h⟩
 ·exact h.elim
def vIsi (K:W.Frag):List V->Hp->VK->Prop:=λxs H Q=>match xs with
 | [x,.ty c]=>hIsi K x c H Q
 | _=>False
theorem callIsi:CallR X (.builtin "isinstance") (vIsi X.K):=call_isinstance.imp λxs H Q h=>by
 unfold vIsi at h;split at h
 ·unfold hIsi at h;obtain⟨t,h1,h2⟩:=h;exact⟨_,t,_,rfl,h1,h2⟩
 ·exact h.elim
end
section
variable {X:Cx}{tg:Expr}
def mItL (K:W.Frag)(tl:TE):TI:=λσ H R=>tl σ H λx H1=>match x with
 | .ref a=>(∃ xs,SqL K H1 a xs)/\R (Itl K a) H1
 | _=>False
theorem pi_lm {l:Expr}{tl:TE}(hl:PE X l tl):PI X tg l (mItL X.K tl):=by
 intro pins s σ H R I h
 refine thn (hl pins s σ H _ I h) λv s1 ⟨x,H1,I1,r1,q1⟩=>?_
 cases x<;>first
  | exact(show False from q1).elim
  | skip
 rename_i a
 obtain⟨⟨xs,hq⟩,q⟩:=(show (∃ xs,SqL X.K H1 a xs)/\R (Itl X.K a) H1 from q1)
 cases r1
 obtain⟨its,rv,p,hz⟩:=I1.list hq
 refine wpAny_pyIter_list p.isList ?_
 refine⟨s1.heap.objs.size,[s1.heap.objs.size],_,_,H1,rfl,I1.kept (t':=s1.toks) λb o e=>Heap.get?_push_of_some _ e,turn_list a _,⟨_,Heap.get?_push_size _ rfl,rfl,rfl⟩,λb hb=>?_,q⟩
 have e:b=s1.heap.objs.size:=by simpa using hb
 subst e
 exact I1.fpOk (Nat.le_refl _) (I1.hok.fresh (Nat.le_refl _))
def upA (t:TA):TA:=λσ H Q=>∃ P:List V->Hp->Prop,t σ H P/\∀ vs H1,P vs H1->Q vs H1
theorem PA.up {es:List Expr}{t:TA}(h:PA X es t):PA X es (upA t):=by
 intro pos pins s σ H Q I w
 obtain⟨P,w,hP⟩:=w
 exact thn (h pos pins s σ H P I w) λus s1 ⟨vs,H1,I1,r1,q1⟩=>⟨vs,H1,I1,r1,hP _ _ q1⟩
def mRng1 (ta:TA):TI:=λσ H R=>ta σ H λvs H1=>match vs with
 | [.int j]=>(-(2 ^ 62)<=j/\j<2 ^ 62)/\R (Itr 0 j.toNat) H1
 | _=>False
def mRng2 (ta:TA):TI:=λσ H R=>ta σ H λvs H1=>match vs with
 | [.int i,.int j]=>(-(2 ^ 62)<=i/\i<2 ^ 62/\-(2 ^ 62)<=j/\j<2 ^ 62)/\R (Itr i (j-i).toNat) H1
 | _=>False
def mRngD (ta:TA):TI:=λσ H R=>ta σ H λvs H1=>match vs with
 | [.int i,.int j,.int k]=>k=-1/\(-(2 ^ 61)<=i/\i<2 ^ 61/\-(2 ^ 61)<=j/\j<2 ^ 61)/\R (Itd i (i-j).toNat) H1
 | _=>False
def mEnum (K:W.Frag)(ta:TA):TI:=λσ H R=>ta σ H λvs H1=>match vs with
 | [.ref a]=>(∃ xs,SqL K H1 a xs)/\R (Ite K a) H1
 | _=>False
theorem pi_r1 {a:Expr}{ta:TA}{p pos:Pos}(hg:Gl X "range")(hm:X.mg "range"=none)(ha:PA X [a] ta)(hs:starEach [a] X.env=[(false,eval a X.env)]:=by rfl):PI X tg (.Call (.Name "range" p) [a] [] pos) (mRng1 ta) :=
 (pi_range1 hg hm ha.up hs).imp λσ H R h=>⟨_,h,λvs H1 q=>by
  split at q
  ·exact⟨_,rfl,q.1.1,q.1.2,q.2⟩
  ·exact q.elim⟩
theorem pi_r2 {a b:Expr}{ta:TA}{p pos:Pos}(hg:Gl X "range")(hm:X.mg "range"=none)(ha:PA X [a,b] ta)(hs:starEach [a,b] X.env=[(false,eval a X.env),(false,eval b X.env)]:=by rfl)(hs2:starEach [b] X.env=[(false,eval b X.env)]:=by rfl) :
  PI X tg (.Call (.Name "range" p) [a,b] [] pos) (mRng2 ta):=(pi_range2 hg hm ha.up hs hs2).imp λσ H R h=>⟨_,h,λvs H1 q=>by
  split at q
  ·exact⟨_,_,rfl,q.1,q.2⟩
  ·exact q.elim⟩
theorem pi_rd {a b c:Expr}{ta:TA}{p pos:Pos}(hg:Gl X "range")(hm:X.mg "range"=none)(ha:PA X [a,b,c] ta)(hs:starEach [a,b,c] X.env=[(false,eval a X.env),(false,eval b X.env),(false,eval c X.env)]:=by rfl)(hs2:starEach [b,c] X.env=[(false,eval b X.env),(false,eval c X.env)]:=by rfl) :
  PI X tg (.Call (.Name "range" p) [a,b,c] [] pos) (mRngD ta):=(pi_down hg hm ha.up hs hs2).imp λσ H R h=>⟨_,h,λvs H1 q=>by
  split at q
  ·obtain⟨rfl,q1,q2⟩:=q;exact⟨_,_,rfl,q1,q2⟩
  ·exact q.elim⟩
theorem pi_en {elts:List Expr}{x1:Nat}{tpos:Pos}{l:Expr}{ta:TA}{p pos:Pos}(hg:Gl X "enumerate")(hm:X.mg "enumerate"=none)(ha:PA X [l] ta)(hs:starEach [l] X.env=[(false,eval l X.env)]:=by rfl):PI X (.Tuple elts x1 tpos) (.Call (.Name "enumerate" p) [l] [] pos) (mEnum X.K ta) :=
 (pi_enum hg hm ha.up hs).imp λσ H R h=>⟨_,h,λvs H1 q=>by
  split at q
  ·exact⟨_,rfl,q.1,q.2⟩
  ·exact q.elim⟩
@[irreducible] def hUnp (K:W.Frag)(a:Addr)(n:Nat)(H:Hp)(Q:List V->Prop):Prop:=∃ xs,SqT K H a xs/\xs.length=n/\Q xs
theorem i_unp {K:W.Frag}{a:Addr}{n:Nat}{H:Hp}{Q:List V->Prop}{xs:List V}(h:H a=some (.tup xs))(hl:xs.length=n)(q:Q xs):hUnp K a n H Q:=by unfold hUnp;exact⟨xs,SqT.of h,hl,q⟩
def gTm (K:W.Frag)(n:Nat)(t:TGs):TG:=λv σ H Q=>match v with
 | .ref a=>hUnp K a n H λxs=>t xs σ H Q
 | _=>False
theorem pg_tm {es:List Expr}{k:Nat}{t:TGs}{n:Nat}{pos:Pos}(hc:X.calm=true)(h:PGs X es t)
  (hn:(assignEach es X.env).length=n:=by rfl) (hst:(assignEach es X.env).findIdx? (·.1)=none:=by rfl):PG X (.Tuple es k pos) (gTm X.K n t):=by
 intro pins s σ H v u Q I r hw
 cases v<;>first
  | exact(show False from hw).elim
  | skip
 rename_i a
 have hw:=(show hUnp X.K a n H _ from hw)
 unfold hUnp at hw
 obtain⟨xs,h1,h2,h3⟩:=hw
 exact pg_tup hc h hn hst pins s σ H _ u Q I r ⟨a,xs,rfl,h1,h2,h3⟩
def gNm:TGs:=λvs σ H Q=>match vs with
 | []=>Q σ H
 | _=>False
def gCm (t:TG)(u:TGs):TGs:=λvs σ H Q=>match vs with
 | v::r=>t v σ H λσ' H'=>u r σ' H' Q
 | []=>False
theorem pgs_nm:PGs X [] gNm:=by
 intro pins s σ H vs us Q I r h
 cases vs with
 | nil=>exact pgs_nil pins s σ H _ us Q I r ⟨rfl,h⟩
 | cons v vs=>exact(show False from h).elim
theorem pgs_cm {e:Expr}{es:List Expr}{t:TG}{u:TGs}(h1:PG X e t)(h2:PGs X es u)
  (hs:(assignEach (e::es) X.env).map (·.2)=assign e X.env::(assignEach es X.env).map (·.2):=by rfl):PGs X (e::es) (gCm t u):=by
 intro pins s σ H vs us Q I r h
 cases vs with
 | nil=>exact(show False from h).elim
 | cons v vs=>exact pgs_cons h1 h2 hs pins s σ H _ us Q I r ⟨v,vs,rfl,h⟩
end
theorem dec2 {p A B:Prop}[Decidable p](h1:p->A)(h2:¬ p->B):(decide p=true->A)/\(decide p=false->B):=⟨λh=>h1 (of_decide_eq_true h),λh=>h2 (of_decide_eq_false h)⟩
theorem bT {A B:Prop}(h:A):(true=true->A)/\(true=false->B):=⟨λ_=>h,λz=>nomatch z⟩
theorem bF {A B:Prop}(h:B):(false=true->A)/\(false=false->B):=⟨λz=>(nomatch z),λ_=>h⟩
theorem bIs {b:Bool}{A B:Prop}(hb:b=true)(h:A):(b=true->A)/\(b=false->B):=⟨λ_=>h,λz=>by rw[hb] at z;cases z⟩
theorem bNo {b:Bool}{A B:Prop}(hb:b=false)(h:B):(b=true->A)/\(b=false->B):=⟨λz=>(by rw[hb] at z;cases z),λ_=>h⟩
end L2
namespace L2
open PySem PySem.Spec PyProof.Rows
section
variable {X:Cx}
theorem any_plain {pos:Pos}{env:Env}:∀ {es:List Expr},es.all plainE=true->(backTo pos (starEach es env)).any (·.1)=false
 | [],_=>rfl
 | e::es,h=>by
  rw[List.all_cons,Bool.and_eq_true] at h
  rw[star_plain h.1]
  have:=any_plain (pos:=pos) (env:=env) h.2
  simp only[backTo,List.map_cons,List.any_cons] at this ⊢
  rw[this];rfl
theorem star_plains {env:Env}:∀ {es:List Expr},es.all plainE=true->starEach es env=es.map λe=>(false,eval e env)
 | [],_=>rfl
 | e::es,h=>by
  rw[List.all_cons,Bool.and_eq_true] at h
  rw[star_plain h.1,star_plains h.2];rfl
def noComp:Expr->Bool
 | .ListComp ..=>false
 | .SetComp ..=>false
 | .DictComp ..=>false
 | _=>true
theorem swaps_plain {e:Expr}{t:Option Expr}{n:Nat}{env:Env}(h:noComp e=true):swapsWith e t n env=pure false:=by
 cases e<;>first | rfl | cases h
theorem ps_st {i:Nat}{x:Str}{e:Expr}{te:TE}{pos pos':Pos}(hN:X.N.Nodup)(hi:X.N[i]?=some x)(hx:Loc X.env.scope x)(he:PE X e te)(hs:noComp e=true:=by rfl)(hf:X.fn x=true\/X.env.scope.names.lookup x=some .local:=by first | exact .inl rfl | exact .inr rfl | assumption) :
  PS X (.Assign [.Name x pos'] e pos) (tAsg te (gName i)):=ps_set hN hi hx he (swaps_plain hs) hf
theorem ps_ex {e:Expr}{te:TE}{pos:Pos}(he:PE X e te)(hs:noComp e=true:=by rfl):PS X (.Expr e pos) (tDrop te):=ps_expr he (swaps_plain hs)
structure Def (P:Program)(w:World)(K:W.Frag)(mg:Str->Option Value)(base:Heap)(k:Nat)(x:Str)(ps:List Str)(sp:Sp):Prop where
 ex:∃ f fd,FnOk P w K mg base CX0 k f fd ps sp/\Binds K fd ps []/\W.keepIn K (.ref f)=true/\mg x=some (.ref f)
theorem pe_def {k j:Nat}{x:Str}{ps:List Str}{sp:Sp}{e:Expr}{es:List Expr}{t:TA}{p pos:Pos}(D:Def X.prog X.w X.K X.mg X.base k x ps sp)(hr:Room j X.A)(hj:k<=j)(hg:Gl X x)(ha:PA X (e::es) t)(hp:(e::es).all plainE=true:=by rfl)(hdb:(x == ("__debug__":Str))=false:=by decide) :
  PE X (.Call (.Name x p) (e::es) [] pos) (tCall sp [] E0 t):=by
 obtain⟨f,fd,F,b,kp,m⟩:=D.ex
 rw[List.all_cons,Bool.and_eq_true] at hp
 exact pe_call F (hr.mono hj) hg m kp b .nil pass0 ha (hdb:=hdb) (he:=star_plain hp.1) (hpl:=any_plain hp.2)
theorem pe_cB {x:Str}{id:String}{r:List V->Hp->VK->Prop}{e:Expr}{es:List Expr}{t:TA}{p pos:Pos}(hc:CallR X (.builtin id) r)(hg:Gl X x)(hm:X.mg x=none)(hv:bootBuiltins x=some (.builtin id))(ha:PA X (e::es) t)(hp:(e::es).all plainE=true:=by rfl)(hn:x≠"__name__":=by decide)(hdb:(x == ("__debug__":Str))=false:=by decide) :
  PE X (.Call (.Name x p) (e::es) [] pos) (tCB r t):=by
 rw[List.all_cons,Bool.and_eq_true] at hp
 exact pe_callB hc hg hm hv ha hn hdb (star_plain hp.1) (any_plain hp.2)
theorem pe_cT {x:Str}{T:String}{r:List V->Hp->VK->Prop}{e:Expr}{es:List Expr}{t:TA}{p pos:Pos}(hc:CallR X (.type T) r)(hg:Gl X x)(hm:X.mg x=none)(hv:bootBuiltins x=some (.type T))(ha:PA X (e::es) t)(hp:(e::es).all plainE=true:=by rfl)(hn:x≠"__name__":=by decide)(hdb:(x == ("__debug__":Str))=false:=by decide) :
  PE X (.Call (.Name x p) (e::es) [] pos) (tCB r t):=by
 rw[List.all_cons,Bool.and_eq_true] at hp
 exact pe_callTy hc hg hm hv ha hn hdb (star_plain hp.1) (any_plain hp.2)
theorem few_plain {cpos : Pos} {e : Expr} {env : Env} (hp : plainE e = true) : ((backTo cpos (starEach [e] env)).all (fun x => !x.1) && (backToKw cpos (keywordEach [] env)).all (fun x => x.1.isSome)
      && decide (([e]:List Expr).length+([]:List Keyword).length+(if ([]:List Keyword).isEmpty then 0 else 1)<30))=true:=by
  rw[star_plain hp];rfl
theorem pe_m1 {o e:Expr}{to te:TE}{name:Str}{apos cpos:Pos}{T id:String}{r:V->List V->Hp->VK->Prop}(pa:PlainAttrs T)(slot:Slot T name id)(hty:typeOf (.builtin id)=pure (.type "method_descriptor"))(hm:MtR X id r)(ho:PE X o to)(ha:PE X e te)
  (hp:plainE e=true:=by rfl) (hbase:attributeBase o name X.env (eval o X.env)=eval o X.env:=by rfl) (hline:(apos.endLine == cpos.line)=true:=by rfl) :
  PE X (.Call (.Attribute o name apos) [e] [] cpos) (tBM X.K T r to (tCons te tNil)) :=
 pe_bm pa slot hty hm ho (pac ha pa_nil hp) hbase (few_plain hp) hline (star_plain hp) rfl
theorem pi_k1 {tg a:Expr}{ta:TA}{p pos:Pos}(hg:Gl X "range")(hm:X.mg "range"=none)(ha:PA X [a] ta)(hp:plainE a=true:=by rfl):PI X tg (.Call (.Name "range" p) [a] [] pos) (mRng1 ta):=pi_r1 hg hm ha (star_plain hp)
theorem pi_k2 {tg a b:Expr}{ta:TA}{p pos:Pos}(hg:Gl X "range")(hm:X.mg "range"=none)(ha:PA X [a,b] ta)(hp:[a,b].all plainE=true:=by rfl):PI X tg (.Call (.Name "range" p) [a,b] [] pos) (mRng2 ta):=by
 have h2:[b].all plainE=true:=by simp only[List.all_cons,List.all_nil,Bool.and_true,Bool.and_eq_true] at hp ⊢;exact hp.2
 exact pi_r2 hg hm ha (star_plains hp) (star_plains h2)
theorem pi_k3 {tg a b c:Expr}{ta:TA}{p pos:Pos}(hg:Gl X "range")(hm:X.mg "range"=none)(ha:PA X [a,b,c] ta)(hp:[a,b,c].all plainE=true:=by rfl):PI X tg (.Call (.Name "range" p) [a,b,c] [] pos) (mRngD ta):=by
 have h2:[b,c].all plainE=true:=by simp only[List.all_cons,List.all_nil,Bool.and_true,Bool.and_eq_true] at hp ⊢;exact hp.2
 exact pi_rd hg hm ha (star_plains hp) (star_plains h2)
theorem pi_ke {elts:List Expr}{x1:Nat}{tpos:Pos}{l:Expr}{ta:TA}{p pos:Pos}(hg:Gl X "enumerate")(hm:X.mg "enumerate"=none)(ha:PA X [l] ta)(hp:plainE l=true:=by rfl):PI X (.Tuple elts x1 tpos) (.Call (.Name "enumerate" p) [l] [] pos) (mEnum X.K ta):=pi_en hg hm ha (star_plain hp)
def noSet:Expr->Bool
 | .Set ..=>false
 | _=>true
theorem fold_plain {e:Expr}{env:Env}(h:noSet e=true):∀ x,foldedSetIterable e env x=pure x:=by
 intro x;cases e<;>first | rfl | cases h
theorem ps_fr {tg iter:Expr}{body:List Stmt}{wi:TI}{g:TG}{tb:TS}{pos:Pos}(hp:PassesOwn (model X.prog X.w) X.A X.env X.xe)(hc:X.calm=true)(hi:PI X tg iter wi)(hg:PG X tg g)(hb:PSs X body tb)
  (hs:noSet iter=true:=by rfl):PS X (.For tg iter body [] pos) (tFor wi g tb):=ps_for hp hc hi hg hb (fold_plain hs)
def plainG:Expr->Bool
 | .Starred ..=>false
 | _=>true
theorem assign_plain {e:Expr}{es:List Expr}{env:Env}(h:plainG e=true):assignEach (e::es) env=(false,assign e env)::assignEach es env:=by
 cases e<;>first | rfl | cases h
theorem pgs_c {e:Expr}{es:List Expr}{t:TG}{u:TGs}(h1:PG X e t)(h2:PGs X es u)(hp:plainG e=true:=by rfl):PGs X (e::es) (gCm t u):=pgs_cm h1 h2 (by rw[assign_plain hp];rfl)
theorem assign_plains {env:Env}:∀ {es:List Expr},es.all plainG=true->(assignEach es env).length=es.length/\(assignEach es env).findIdx? (·.1)=none
 | [],_=>⟨rfl,rfl⟩
 | e::es,h=>by
  rw[List.all_cons,Bool.and_eq_true] at h
  obtain⟨h1,h2⟩:=assign_plains (env:=env) h.2
  rw[assign_plain h.1]
  refine⟨by rw[List.length_cons,h1,List.length_cons],?_⟩
  rw[List.findIdx?_cons,h2];rfl
theorem pg_t {es:List Expr}{k:Nat}{t:TGs}{pos:Pos}(hc:X.calm=true)(h:PGs X es t)(hp:es.all plainG=true:=by rfl):PG X (.Tuple es k pos) (gTm X.K es.length t):=pg_tm hc h (assign_plains hp).1 (assign_plains hp).2
end
end L2
namespace L2
open PySem PySem.Spec PyProof.Rows
structure QE (X:Cx)(e:Expr)(t:TE):Prop where
 h:PE X e t
structure QT (X:Cx)(e:Expr)(t:TT):Prop where
 h:PT X e t
structure QW (X:Cx)(e:Expr)(t:TT):Prop where
 h:PW X e t
structure QA (X:Cx)(es:List Expr)(t:TA):Prop where
 h:PA X es t
 p:es.all plainE=true
structure QS (X:Cx)(st:Stmt)(t:TS):Prop where
 h:PS X st t
structure QB (X:Cx)(st:List Stmt)(t:TS):Prop where
 h:PSs X st t
structure QG (X:Cx)(e:Expr)(t:TG):Prop where
 h:PG X e t
structure QGs (X:Cx)(es:List Expr)(t:TGs):Prop where
 h:PGs X es t
 p:es.all plainG=true
structure QI (X:Cx)(tg e:Expr)(t:TI):Prop where
 h:PI X tg e t
structure QIf (X:Cx)(es:List Expr)(t:TT):Prop where
 h:PIfs X es t
structure QO (X:Cx)(e:Option Expr)(t:TO):Prop where
 h:PO X e t
section
variable {X:Cx}{e a b c o tg:Expr}{es rest:List Expr}{te ta tb tc to:TE}{t:TA}{pos p p2:Pos}{st:Stmt}{sts:List Stmt}{x:Str}
theorem qb_nil:QB X [] tNext:=⟨pss_nil⟩
theorem qb_one {u:TS}(h:QS X st u):QB X [st] u:=⟨pss_one h.h⟩
theorem qb_cons {u v:TS}(h1:QS X st u)(h2:QB X sts v):QB X (st::sts) (tSeq u v):=⟨pss_cons h1.h h2.h⟩
theorem qb_mid {u v:TS}(h1:QS X st u)(h2:QB X sts v):QB X (st::sts) (mMid u v):=⟨pss_mid h1.h h2.h⟩
theorem qs_never:QS X st tNever:=⟨ps_never⟩
theorem qs_ret (h:QE X e te):QS X (.Return (some e) pos) (tRet te):=⟨ps_ret h.h⟩
theorem qs_ex (h:QE X e te)(hs:noComp e=true:=by rfl):QS X (.Expr e pos) (tDrop te):=⟨ps_ex h.h hs⟩
theorem qs_set {i:Nat}(hN:X.N.Nodup)(hi:X.N[i]?=some x)(hx:Loc X.env.scope x)(hf:X.fn x=true\/X.env.scope.names.lookup x=some .local)(he:QE X e te)(hs:noComp e=true:=by rfl) :
  QS X (.Assign [.Name x p] e pos) (tAsg te (gName i)):=⟨ps_st hN hi hx he.h hs hf⟩
theorem qs_asg {g:TG}(he:QE X e te)(hg:QG X tg g)(hs:noComp e=true:=by rfl)(hw:swappedStores [tg] e X.env=pure none:=by rfl)(hp:plainG tg=true:=by rfl):QS X (.Assign [tg] e pos) (tAsg te g) :=
 ⟨ps_asg he.h hg.h (swaps_plain hs) hw (by rw[assign_plain hp];rfl)⟩
theorem qs_aug {i:Nat}{op:Operator}{ti:TIp}(hN:X.N.Nodup)(hi:X.N[i]?=some x)(hx:Loc X.env.scope x)(hf:X.fn x=true\/X.env.scope.names.lookup x=some .local)(he:QE X e te)(ho:PIp X op ti):QS X (.AugAssign (.Name x p) op e pos) (mAug i te ti) :=
 ⟨ps_augm hN hi hx he.h ho hf⟩
theorem qs_if {s1 s2:List Stmt}{tc:TT}{u v:TS}(hc:QT X c tc)(ha:QB X s1 u)(hb:QB X s2 v):QS X (.If c s1 s2 pos) (mIfS tc u v):=⟨ps_ifm hc.h ha.h hb.h⟩
theorem qs_while {tc:TT}{u:TS}(hp:PassesOwn (model X.prog X.w) X.A X.env X.xe)(hc:QT X c tc)(hb:QB X sts u):QS X (.While c sts [] pos) (mWhile tc u):=⟨ps_whm hp hc.h hb.h⟩
theorem qs_for {wi:TI}{g:TG}{u:TS}(hp:PassesOwn (model X.prog X.w) X.A X.env X.xe)(hc:X.calm=true)(hi:QI X tg e wi)(hg:QG X tg g)(hb:QB X sts u)(hs:noSet e=true:=by rfl):QS X (.For tg e sts [] pos) (tFor wi g u):=⟨ps_fr hp hc hi.h hg.h hb.h hs⟩
theorem qg_name {i:Nat}(hN:X.N.Nodup)(hi:X.N[i]?=some x)(hx:Loc X.env.scope x)(hf:X.fn x=true\/X.env.scope.names.lookup x=some .local):QG X (.Name x pos) (gName i):=⟨pg_name hN hi hx hf⟩
theorem qgs_nil:QGs X [] gNm:=⟨pgs_nm,rfl⟩
theorem qgs_cons {g:TG}{u:TGs}(h1:QG X e g)(h2:QGs X es u)(hp:plainG e=true:=by rfl):QGs X (e::es) (gCm g u):=⟨pgs_c h1.h h2.h hp,by rw[List.all_cons,hp,h2.p];rfl⟩
theorem qg_tup {k:Nat}{u:TGs}(hc:X.calm=true)(h:QGs X es u):QG X (.Tuple es k pos) (gTm X.K es.length u):=⟨pg_t hc h.h h.p⟩
theorem qg_sub (ho : QE X o to) (hi : QE X e te) (hs : PSet X vSet) (ha : ∀ v, assign (.Subscript o e pos) X.env v = (do
      let ov <- holding [v] (eval o X.env)
      let iv <- holding [v,ov] (eval e X.env)
      standAt pos
      holding [v,ov,iv] (setItem ov iv v)
      release [v,ov,iv] []):=by intro _;rfl):QG X (.Subscript o e pos) (gSub to te vSet):=⟨pg_sub ho.h hi.h hs ha⟩
theorem qi_list (h:QE X e te):QI X tg e (mItL X.K te):=⟨pi_lm h.h⟩
theorem qi_r1 (hg:Gl X "range")(hm:X.mg "range"=none)(h:QA X [a] t):QI X tg (.Call (.Name "range" p) [a] [] pos) (mRng1 t):=⟨pi_k1 hg hm h.h (by have:=h.p;simpa using this)⟩
theorem qi_r2 (hg:Gl X "range")(hm:X.mg "range"=none)(h:QA X [a,b] t):QI X tg (.Call (.Name "range" p) [a,b] [] pos) (mRng2 t):=⟨pi_k2 hg hm h.h h.p⟩
theorem qi_r3 (hg:Gl X "range")(hm:X.mg "range"=none)(h:QA X [a,b,c] t):QI X tg (.Call (.Name "range" p) [a,b,c] [] pos) (mRngD t):=⟨pi_k3 hg hm h.h h.p⟩
theorem qi_enum {k:Nat}(hg:Gl X "enumerate")(hm:X.mg "enumerate"=none)(h:QA X [a] t):QI X (.Tuple es k p2) (.Call (.Name "enumerate" p) [a] [] pos) (mEnum X.K t):=⟨pi_ke hg hm h.h (by have:=h.p;simpa using this)⟩
theorem qa_nil:QA X [] tNil:=⟨pa_nil,rfl⟩
theorem qa_cons (h1:QE X e te)(h2:QA X es t)(hp:plainE e=true:=by rfl):QA X (e::es) (tCons te t):=⟨pac h1.h h2.h hp,by rw[List.all_cons,hp,h2.p];rfl⟩
theorem qv (i:Nat)(hN:X.N[i]?=some x)(hv:Vis X.env.scope x)(hd:(x == ("__debug__":Str))=false:=by decide)(hcd:(x == ("__classdict__":Str))=false:=by decide):QE X (.Name x pos) (mVar i):=⟨mv i hN hv hd hcd⟩
theorem qe_int {i:Int}{j:Nat}:QE X (.Constant (.int i) j pos) (tC (.int i)):=⟨pe_int⟩
theorem qe_bl {i:Bool}{j:Nat}:QE X (.Constant (.bool i) j pos) (tC (.bl i)):=⟨pe_bl⟩
theorem qe_non {j:Nat}:QE X (.Constant .none j pos) (tC .non):=⟨pe_non⟩
theorem qe_ty {T:String}(hg:Gl X x)(hm:X.mg x=none)(hv:bootBuiltins x=some (.type T))(hn:x≠"__name__":=by decide)(hd:(x == ("__debug__":Str))=false:=by decide):QE X (.Name x pos) (tC (.ty T)):=⟨pe_tyn hg hm hv hn hd⟩
theorem qe_op {op:Operator}{r:R2}(ho:OpR X (binaryOp op) r)(ha:QE X a ta)(hb:QE X b tb):QE X (.BinOp a op b pos) (tOp r ta tb):=⟨pe_op ho ha.h hb.h⟩
theorem qe_un {op:UnaryOp}{r:V->Hp->VK->Prop}(ho:UnR X (unaryOp op) r)(ha:QE X a ta):QE X (.UnaryOp op a pos) (tUn r ta):=⟨pe_un ho ha.h⟩
theorem qe_not (ha:QE X a ta):QE X (.UnaryOp .Not a pos) (mNotV X.K ta):=⟨pe_nm ha.h⟩
theorem qe_cmp {op:CmpOp}{r:R2}(ho:OpR X (compareOp op) r)(ha:QE X a ta)(hb:QE X b tb)(h1:op≠.In:=by decide)(h2:op≠.NotIn:=by decide):QE X (.Compare a [op] [b] pos) (tOp r ta tb):=⟨pe_cmpR ho ha.h hb.h (nomark b h1 h2)⟩
theorem qe_chain {op op':CmpOp}{r r':R2}(ho:OpR X (compareOp op) r)(ho':OpR X (compareOp op') r')(ha:QE X a ta)(hb:QE X b tb)(hc:QE X c tc)(hm:lastMarks [op,op'] [b,c]=false:=by with_unfolding_all rfl):QE X (.Compare a [op,op'] [b,c] pos) (mChain r r' ta tb tc):=⟨pe_chm ho ho' ha.h hb.h hc.h hm⟩
theorem qe_one {op:BoolOp}(h:QE X a ta):QE X (.BoolOp op [a] pos) ta:=⟨pe_one h.h⟩
theorem qe_and (ha:QE X a ta)(hb:QE X (.BoolOp .And (b::rest) pos) tb):QE X (.BoolOp .And (a::b::rest) pos) (mAndV X.K ta tb):=⟨pe_am ha.h hb.h⟩
theorem qe_lst (h:QA X es t):QE X (.List es pos) (mLst t):=⟨pe_lm h.h⟩
theorem qe_tup {k:Nat}(h:QA X es t):QE X (.Tuple es k pos) (mTup t):=⟨pe_tm h.h⟩
theorem qo_none:QO X none tNoPart:=⟨po_none⟩
theorem qo_some (h:QE X e te):QO X (some e) (mPart te):=⟨po_m h.h⟩
theorem qe_slice {lo hi:Option Expr}{tl th:TO}(he:QE X e te)(hl:QO X lo tl)(hu:QO X hi th):QE X (.Subscript e (.Slice lo hi none p2) pos) (tSl (vSl X.K) te tl th):=⟨pe_slice slM he.h hl.h hu.h⟩
theorem qe_ix (ha:QE X a ta)(hb:QE X b tb)(hs:PlainIx b):QE X (.Subscript a b pos) (tOp (vIx X.K) ta tb):=⟨pe_ix ixM ha.h hb.h hs⟩
theorem qe_def {k j:Nat}{ps:List Str}{sp:Sp}(D:Def X.prog X.w X.K X.mg X.base k x ps sp)(hr:Room j X.A)(hj:k<=j)(hg:Gl X x)(ha:QA X (e::es) t)(hdb:(x == ("__debug__":Str))=false:=by decide):QE X (.Call (.Name x p) (e::es) [] pos) (tCall sp [] E0 t):=⟨pe_def D hr hj hg ha.h ha.p hdb⟩
theorem qe_cB {id:String}{r:List V->Hp->VK->Prop}(hc:CallR X (.builtin id) r)(hg:Gl X x)(hm:X.mg x=none)(hv:bootBuiltins x=some (.builtin id))(ha:QA X (e::es) t)(hn:x≠"__name__":=by decide)(hdb:(x == ("__debug__":Str))=false:=by decide):QE X (.Call (.Name x p) (e::es) [] pos) (tCB r t):=⟨pe_cB hc hg hm hv ha.h ha.p hn hdb⟩
theorem qe_cT {T:String}{r:List V->Hp->VK->Prop}(hc:CallR X (.type T) r)(hg:Gl X x)(hm:X.mg x=none)(hv:bootBuiltins x=some (.type T))(ha:QA X (e::es) t)(hn:x≠"__name__":=by decide)(hdb:(x == ("__debug__":Str))=false:=by decide):QE X (.Call (.Name x p) (e::es) [] pos) (tCB r t):=⟨pe_cT hc hg hm hv ha.h ha.p hn hdb⟩
theorem qe_enumL {pos2:Pos}(hc:X.calm=true)(hg:Gl X "list")(hm:X.mg "list"=none)(hg2:Gl X "enumerate")(hm2:X.mg "enumerate"=none)(ha:QA X [a] t):QE X (.Call (.Name "list" p) [.Call (.Name "enumerate" p2) [a] [] pos2] [] pos) (tEnumL X.K t) :=
 ⟨pe_enumL hc hg hm hg2 hm2 ha.h (star_plains ha.p)⟩
theorem qe_m1 {name:Str}{T id:String}{r:V->List V->Hp->VK->Prop}(pa:PlainAttrs T)(slot:Slot T name id)(hty:typeOf (.builtin id)=pure (.type "method_descriptor"))(hm:MtR X id r)(ho:QE X o to)(ha:QE X e te)
  (hp:plainE e=true:=by rfl) (hbase:attributeBase o name X.env (eval o X.env)=eval o X.env:=by rfl) (hline:(p.endLine == pos.line)=true:=by rfl):QE X (.Call (.Attribute o name p) [e] [] pos) (tBM X.K T r to (tCons te tNil)):=⟨pe_m1 pa slot hty hm ho.h ha.h hp hbase hline⟩
theorem qt_cmp {op:CmpOp}{r:R2}(ho:OpR X (compareOp op) r)(ha:QE X a ta)(hb:QE X b tb)(h1:op≠.In:=by decide)(h2:op≠.NotIn:=by decide):QT X (.Compare a [op] [b] pos) (mB (tOp r ta tb)):=⟨pt_cm ho ha.h hb.h (nomark b h1 h2)⟩
theorem qw_and1 {tA:TT}(ha:QT X a tA):QW X (.BoolOp .And [a] pos) tA:=⟨pw_and1 ha.h⟩
theorem qw_or1 {tA:TT}(ha:QT X a tA):QW X (.BoolOp .Or [a] pos) tA:=⟨pw_or1 ha.h⟩
theorem qw_and {tA tB':TT}(ha:QT X a tA)(hb:QW X (.BoolOp .And (b::rest) pos) tB'):QW X (.BoolOp .And (a::b::rest) pos) (mAnd tA tB'):=⟨pw_am ha.h hb.h⟩
theorem qw_or {tA tB':TT}(ha:QT X a tA)(hb:QW X (.BoolOp .Or (b::rest) pos) tB'):QW X (.BoolOp .Or (a::b::rest) pos) (mOr tA tB'):=⟨pw_om ha.h hb.h⟩
theorem QW.pt {tA:TT}(h:QW X a tA):QT X a tA:=⟨h.h.pt⟩
theorem qt_not {tA:TT}(ha:QT X a tA):QT X (.UnaryOp .Not a pos) (tNot tA):=⟨pt_not ha.h⟩
theorem qt_val (ha:QE X a ta)(he:∀ whole,isTrue a X.env whole=(do let v <- whole;standAt a.pos;holding [v] (truthy v)):=by intro _;rfl):QT X a (mT X.K ta):=⟨pt_m ha.h he⟩
theorem qif_nil:QIf X [] tYes:=⟨pifs_nil⟩
theorem qif_one {tA:TT}(h:QT X c tA):QIf X [c] tA:=⟨pifs_one h.h⟩
theorem qe_comp (N':List Str)(caps:List (Option Nat)){elt iter:Expr}{ifs:List Expr}{scope:Scope}{wi:TI}{g:TG}{tt:TT}(hc:X.calm=true)(hi:QI X tg iter wi)
  (hg:∀ pins cl C s0 H0 fp,QG (cxComp X pins N' scope cl C s0 H0 fp) tg g) (ht:∀ pins cl C s0 H0 fp,QIf (cxComp X pins N' scope cl C s0 H0 fp) ifs tt) (he:∀ pins cl C s0 H0 fp,QE (cxComp X pins N' scope cl C s0 H0 fp) elt te)
  (hcap:capOk N' caps X.N X.env.scope.names scope.names=true:=by kernel_rfl) (hkind:scope.kind=.function:=by rfl) (hs:noSet iter=true:=by rfl) :
  QE X (.ListComp elt [⟨tg,iter,ifs,0⟩] scope pos) (tComp caps wi g tt te) :=
 ⟨pe_comp N' caps hc hi.h (λa b c d e f=>(hg a b c d e f).h) (λa b c d e f=>(ht a b c d e f).h) (λa b c d e f=>(he a b c d e f).h) hcap hkind (fold_plain hs)⟩
theorem qs_comp (N':List Str)(caps:List (Option Nat)){i:Nat}{elt iter:Expr}{ifs:List Expr}{scope:Scope}{wi:TI}{g:TG}{tt:TT}(hc:X.calm=true)(hN:X.N.Nodup)(hy:X.N[i]?=some x)(hl:Loc X.env.scope x)(hf:X.fn x=true\/X.env.scope.names.lookup x=some .local)(hi:QI X tg iter wi)
  (hg:∀ pins cl C s0 H0 fp,QG (cxComp X pins N' scope cl C s0 H0 fp) tg g) (ht:∀ pins cl C s0 H0 fp,QIf (cxComp X pins N' scope cl C s0 H0 fp) ifs tt) (he:∀ pins cl C s0 H0 fp,QE (cxComp X pins N' scope cl C s0 H0 fp) elt te)
  (hsw:swapsWith (.ListComp elt [⟨tg,iter,ifs,0⟩] scope pos) (some (.Name x p)) p2.line X.env=pure true:=by rfl)
  (hcap:capOk N' caps X.N X.env.scope.names scope.names=true:=by kernel_rfl) (hkind:scope.kind=.function:=by rfl) (hs:noSet iter=true:=by rfl) :
  QS X (.Assign [.Name x p] (.ListComp elt [⟨tg,iter,ifs,0⟩] scope pos) p2) (tAsg (tComp caps wi g tt te) (gName i)) :=
 ⟨ps_comp N' caps hc hN hy hl hi.h (λa b c d e f=>(hg a b c d e f).h) (λa b c d e f=>(ht a b c d e f).h) (λa b c d e f=>(he a b c d e f).h) hsw hcap hkind (fold_plain hs) hf⟩
end
theorem Fun.okq {P:Program}{w:World}{K:W.Frag}{mg:Str->Option Value}{base:Heap}{x qual:Str}{st:Stmt}{f:Addr}{fd:FuncData}{N ps:List Str}{k:Nat}{sp:Sp}(F:Fun K x qual st f fd)(S:FnScope N ps (defScope st))(len:∀ vs H Q E,sp vs H Q E->vs.length=ps.length)
  (hbody:∀ (cdv:Value) (A:Around) (outer:List Env) (s:Shared) (H:Hp) (vs:List V) (Q:VK) (E:XK),Room k (A.deeper (envOfC qual (defScope st) s.heap.objs.size f cdv))->sp vs H Q E ->
   ∃ T:{ t:TS // QB (cxOf CX0 P w K mg base N qual (defScope st) f cdv A outer s H E).nox (defBody st) t },T.1 { nx:=λ_ H'=>Q .non H',rt:=Q } (start N vs) H):FnOk P w K mg base CX0 (k+1) f fd ps sp :=
 F.ok S len λcdv A outer s H vs Q E hr h=>let ⟨T,q⟩:=hbody cdv A outer s H vs Q E hr h;⟨T.1,T.2.h,q⟩
end L2
namespace L2
open PySem PySem.Spec PyProof.Rows
def upE (t:TE):TE:=λσ H Q=>∃ P:VK,t σ H P/\∀ v H1,P v H1->Q v H1
def upT (t:TT):TT:=λσ H Q=>∃ P:Bool->Hp->Prop,t σ H P/\∀ v H1,P v H1->Q v H1
def upG (t:TG):TG:=λv σ H Q=>∃ P:St->Hp->Prop,t v σ H P/\∀ σ1 H1,P σ1 H1->Q σ1 H1
section
variable {X:Cx}{e a b c tg:Expr}{te:TE}{pos p p2:Pos}{x:Str}
theorem QE.up (h:QE X e te):QE X e (upE te):=⟨by
 intro pins s σ H Q I w
 obtain⟨P,w,hP⟩:=w
 exact thn (h.h pins s σ H P I w) λu s1 ⟨v,H1,I1,r1,q1⟩=>⟨v,H1,I1,r1,hP _ _ q1⟩⟩
theorem QIf.up {es:List Expr}{tt:TT}(h:QIf X es tt):QIf X es (upT tt):=⟨by
 intro pins s σ H Q I w
 obtain⟨P,w,hP⟩:=w
 exact thn (h.h pins s σ H P I w) λu s1 ⟨H1,I1,q1⟩=>⟨H1,I1,hP _ _ q1⟩⟩
theorem QG.up {g:TG}(h:QG X e g):QG X e (upG g):=⟨by
 intro pins s σ H v u Q I r w
 obtain⟨P,w,hP⟩:=w
 exact thn (h.h pins s σ H v u P I r w) λu s1 ⟨σ1,H1,I1,q1⟩=>⟨σ1,H1,I1,hP _ _ q1⟩⟩
theorem qe_cp (N':List Str)(caps:List (Option Nat)){elt iter:Expr}{ifs:List Expr}{scope:Scope}{wi:TI}{g:TG}{tt:TT}(hc:X.calm=true)(hi:QI X tg iter wi)
  (hg:∀ pins cl C s0 H0 fp,QG (cxComp X pins N' scope cl C s0 H0 fp) tg g) (ht:∀ pins cl C s0 H0 fp,QIf (cxComp X pins N' scope cl C s0 H0 fp) ifs tt) (he:∀ pins cl C s0 H0 fp,QE (cxComp X pins N' scope cl C s0 H0 fp) elt te)
  (hcap:capOk N' caps X.N X.env.scope.names scope.names=true:=by kernel_rfl) (hkind:scope.kind=.function:=by rfl) (hs:noSet iter=true:=by rfl) :
  QE X (.ListComp elt [⟨tg,iter,ifs,0⟩] scope pos) (tComp caps wi (upG g) (upT tt) (upE te)) :=
 qe_comp N' caps hc hi (λa b c d e f=>(hg a b c d e f).up) (λa b c d e f=>(ht a b c d e f).up) (λa b c d e f=>(he a b c d e f).up) hcap hkind hs
theorem qs_cp (N':List Str)(caps:List (Option Nat)){i:Nat}{elt iter:Expr}{ifs:List Expr}{scope:Scope}{wi:TI}{g:TG}{tt:TT}(hc:X.calm=true)(hN:X.N.Nodup)(hy:X.N[i]?=some x)(hl:Loc X.env.scope x)(hf:X.fn x=true\/X.env.scope.names.lookup x=some .local)(hi:QI X tg iter wi)
  (hg:∀ pins cl C s0 H0 fp,QG (cxComp X pins N' scope cl C s0 H0 fp) tg g) (ht:∀ pins cl C s0 H0 fp,QIf (cxComp X pins N' scope cl C s0 H0 fp) ifs tt) (he:∀ pins cl C s0 H0 fp,QE (cxComp X pins N' scope cl C s0 H0 fp) elt te)
  (hsw:swapsWith (.ListComp elt [⟨tg,iter,ifs,0⟩] scope pos) (some (.Name x p)) p2.line X.env=pure true:=by rfl)
  (hcap:capOk N' caps X.N X.env.scope.names scope.names=true:=by kernel_rfl) (hkind:scope.kind=.function:=by rfl) (hs:noSet iter=true:=by rfl) :
  QS X (.Assign [.Name x p] (.ListComp elt [⟨tg,iter,ifs,0⟩] scope pos) p2) (tAsg (tComp caps wi (upG g) (upT tt) (upE te)) (gName i)) :=
 qs_comp N' caps hc hN hy hl hf hi (λa b c d e f=>(hg a b c d e f).up) (λa b c d e f=>(ht a b c d e f).up) (λa b c d e f=>(he a b c d e f).up) hsw hcap hkind hs
end
def Turn1 (g:TG)(tt:TT)(te:TE)(D:Addr)(ys:List V)(x:V)(σ:St)(H:Hp)(N:St->Hp->List V->Prop):Prop :=
 g x σ H λσ2 H3=>tt σ2 H3 λb H4=>(b=true->te σ2 H4 λv H5=>H5 D=some (.lst ys)/\ys.length<sizeLine/\∀ H6,Kp [D] H5 H6->H6 D=some (.lst (ys++[v]))->N σ2 H6 (ys++[v]))/\(b=false->H4 D=some (.lst ys)/\N σ2 H4 ys)
theorem turn1_ok {g:TG}{tt:TT}{te:TE}{D:Addr}{ys:List V}{x:V}{σ:St}{H:Hp}{N:St->Hp->List V->Prop}{M:St->Hp->Prop}(h:Turn1 g tt te D ys x σ H N)(hM:∀ σ H ys,H D=some (.lst ys)->N σ H ys->M σ H) :
  upG g x σ H λσ2 H3=>upT tt σ2 H3 λb H4=>if b=true then upE te σ2 H4 λv H5=>∃ ys,H5 D=some (.lst ys)/\ys.length<sizeLine/\M σ2 (upd H5 D (.lst (ys++[v]))) else M σ2 H4:=by
 refine⟨_,h,λσ2 H3 h=>⟨_,h,λb H4 h=>?_⟩⟩
 cases b with
 | true=>exact iteT ⟨_,h.1 rfl,λv H5 q=>⟨ys,q.1,q.2.1,hM _ _ _ upd_same (q.2.2 _ kp_upd upd_same)⟩⟩
 | false=>exact iteF (hM _ _ _ (h.2 rfl).1 (h.2 rfl).2)
section
variable {g:TG}{tt:TT}{te:TE}{σ0:St}{H1:Hp}{Q:Addr->Hp->Prop}{K:W.Frag}
theorem comp_rng {lo:Int}{n:Nat}(R:Nat->Addr->St->Hp->List V->Prop)
  (h0:∀ D H',H1 D=none->Same H1 H'->H' D=some (.lst [])->R 0 D σ0 H' [])
  (hs:∀ i D σ H ys,i<n->H1 D=none->R i D σ H ys->H D=some (.lst ys)->Turn1 g tt te D ys (.int (lo+i)) σ H (R (i+1) D))
  (hd:∀ D σ H ys,H1 D=none->R n D σ H ys->H D=some (.lst ys)->Q D H):∀ D,H1 D=none->compRead (Itr lo n) D (upG g) (upT tt) (upE te) σ0 (upd H1 D (.lst [])) λH2=>Q D H2:=by
 intro D hD
 refine comp_range (λi σ H=>∃ ys,H D=some (.lst ys)/\R i D σ H ys) ⟨[],upd_same,h0 D _ hD (same_upd hD) upd_same⟩ ?_ ?_
 ·rintro i σ H hi ⟨ys,e,r⟩
  exact turn1_ok (hs i D σ H ys hi hD r e) λσ H ys e r=>⟨ys,e,r⟩
 ·rintro σ H ⟨ys,e,r⟩
  exact hd D σ H ys hD r e
theorem comp_lst {a:Addr}(xs:List V)(R:Nat->Addr->St->Hp->List V->Prop)
  (h0:∀ D H',H1 D=none->Same H1 H'->H' D=some (.lst [])->R 0 D σ0 H' [])
  (hl:∀ i D σ H ys,H1 D=none->R i D σ H ys->SqL K H a xs)
  (hs:∀ i x D σ H ys,xs[i]?=some x->H1 D=none->R i D σ H ys->H D=some (.lst ys)->Turn1 g tt te D ys x σ H (R (i+1) D))
  (hd:∀ D σ H ys,H1 D=none->R xs.length D σ H ys->H D=some (.lst ys)->Q D H):∀ D,H1 D=none->compRead (Itl K a) D (upG g) (upT tt) (upE te) σ0 (upd H1 D (.lst [])) λH2=>Q D H2:=by
 intro D hD
 refine comp_list (xs:=xs) (λi σ H=>∃ ys,H D=some (.lst ys)/\R i D σ H ys) ⟨[],upd_same,h0 D _ hD (same_upd hD) upd_same⟩ ?_ ?_ ?_
 ·rintro i σ H _ ⟨ys,e,r⟩
  exact hl i D σ H ys hD r
 ·rintro i x σ H hi ⟨ys,e,r⟩
  exact turn1_ok (hs i x D σ H ys hi hD r e) λσ H ys e r=>⟨ys,e,r⟩
 ·rintro σ H ⟨ys,e,r⟩
  exact hd D σ H ys hD r e
end
end L2
namespace L2
open PySem
theorem Same.new {H H5 H6:Hp}{D:Addr}(k:Same H H5)(k6:Kp [D] H5 H6)(hD:H D=none):Same H H6:=λb o q=>k6.one (ne_of_none q hD) (k b o q)
theorem sz_of {n:Nat}(h:n<=100000):n<=sizeLine:=by rw[sizeLine_eq];omega
theorem sz_lt {n:Nat}(h:n<=100000):n<sizeLine:=by rw[sizeLine_eq];omega
theorem map_snoc (zs:List Int)(z:Int):zs.map V.int++[V.int z]=(zs++[z]).map V.int:=by rw[List.map_append];rfl
theorem vints_at {zs:List Int}{i:Nat}{x:V}(h:(zs.map V.int)[i]?=some x):∃ z,x=.int z/\zs[i]?=some z/\z∈zs:=by
 rw[List.getElem?_map] at h
 cases e:zs[i]? with
 | none=>rw[e] at h;cases h
 | some z =>
  rw[e] at h
  exact⟨z,(Option.some.inj h).symm,rfl,List.mem_of_getElem? e⟩
end L2
namespace L2
open PySem PySem.Spec PyProof.Rows
def intsD (ns:List Int):PyData:=.list (ns.map PyData.int)
theorem paired_ints {H:Hp}(n:Nat):∀ ns:List Int,Paired (RV n H) (ns.map V.int) (ns.map PyData.int)
 | []=>.nil
 | k::ns=>.cons (by cases n<;>rfl) (paired_ints n ns)
theorem rv_ints {H:Hp}{a:Addr}{ns:List Int}(h:H a=some (.lst (ns.map V.int))):RV 1 H (.ref a) (intsD ns):=.inl ⟨_,_,.inl h,rfl,paired_ints 0 ns⟩
section
variable {g:TG}{tb:TS}{D:Ends}{σ:St}{H:Hp}{K:W.Frag}
theorem for_en {a:Addr}(xs:List V)(Pv:Nat->St->Hp->Prop)(h0:Pv 0 σ H)(hl:∀ i σ H,i<=xs.length->Pv i σ H->SqL K H a xs)
  (hs:∀ i x σ H T H',xs[i]?=some x->Pv i σ H->H T=none->Same H H'->H' T=some (.tup [.int i,x])->g (.ref T) σ H' λσ2 H2=>tb { D with nx:=Pv (i+1),ct:=Pv (i+1),bk:=D.nx } σ2 H2) (hd:∀ σ H,Pv xs.length σ H->D.nx σ H) :
  ∃ W:Nat->Nat->St->Hp->Prop,(∃ m,W 0 m σ H)/\∀ i m σ H,W i m σ H ->
   ((Ite K a).stop i H/\D.nx σ H)\/((Ite K a).go i H/\∃ N:St->Hp->Prop,(∀ σ' H',N σ' H'->∃ m',m'<m/\W (i+1) m' σ' H')/\∀ x H',(Ite K a).yld i H x H'->g x σ H' λσ2 H2=>tb { D with nx:=N,ct:=N,bk:=D.nx } σ2 H2) :=
 for_enum (xs:=xs) Pv h0 hl (λi x σ H T hx p hT=>hs i x σ H T _ hx p hT (same_upd hT) upd_same) hd
end
theorem take_snoc {α:Type}{l:List α}{i:Nat}{x:α}(h:l[i]?=some x):l.take (i+1)=l.take i++[x]:=by rw[List.take_add_one,h];rfl
theorem i_isi {K:W.Frag}{H:Hp}{Q:VK}{x:V}{t c:String}(ty:TyOf K H x (.type t))(ht:t∈["NoneType","bool","int","str","list","tuple","dict"])(hc:c∈["bool","int","str","list","tuple","dict"])(q:Q (.bl (isTy t c)) H):hIsi K x c H Q:=by
 unfold hIsi;exact⟨t,ty,ht,hc,q⟩
end L2
namespace L2
open PySem PySem.Spec PyProof.Rows
section
variable {X:Cx}
end
section
variable {g:TG}{tt:TT}{te:TE}{σ0:St}{H1:Hp}{Q:Addr->Hp->Prop}{K:W.Frag}
end
end L2
namespace L2
open PySem PySem.Spec PyProof.Rows
section
variable {X:Cx}{K:W.Frag}{e a b c o tg:Expr}{es rest:List Expr}{te ta tb tc to:TE}{t:TA}{pos p p2:Pos}{x:Str}
theorem kg_tup {k:Nat}{u:TGs}(hK:X.K=K)(hc:X.calm=true)(h:QGs X es u):QG X (.Tuple es k pos) (gTm K es.length u):=hK▸qg_tup hc h
theorem ki_list (hK:X.K=K)(h:QE X e te):QI X tg e (mItL K te):=hK▸qi_list h
theorem ki_enum {k:Nat}(hK:X.K=K)(hg:Gl X "enumerate")(hm:X.mg "enumerate"=none)(h:QA X [a] t):QI X (.Tuple es k p2) (.Call (.Name "enumerate" p) [a] [] pos) (mEnum K t):=hK▸qi_enum hg hm h
theorem ke_not (hK:X.K=K)(ha:QE X a ta):QE X (.UnaryOp .Not a pos) (mNotV K ta):=hK▸qe_not ha
theorem ke_and (hK:X.K=K)(ha:QE X a ta)(hb:QE X (.BoolOp .And (b::rest) pos) tb):QE X (.BoolOp .And (a::b::rest) pos) (mAndV K ta tb):=hK▸qe_and ha hb
theorem ke_slice {lo hi:Option Expr}{tl th:TO}(hK:X.K=K)(he:QE X e te)(hl:QO X lo tl)(hu:QO X hi th):QE X (.Subscript e (.Slice lo hi none p2) pos) (tSl (vSl K) te tl th):=hK▸qe_slice he hl hu
theorem ke_ix (hK:X.K=K)(ha:QE X a ta)(hb:QE X b tb)(hs:PlainIx b):QE X (.Subscript a b pos) (tOp (vIx K) ta tb):=hK▸qe_ix ha hb hs
theorem ke_enumL {pos2:Pos}(hK:X.K=K)(hc:X.calm=true)(hg:Gl X "list")(hm:X.mg "list"=none)(hg2:Gl X "enumerate")(hm2:X.mg "enumerate"=none)(ha:QA X [a] t):QE X (.Call (.Name "list" p) [.Call (.Name "enumerate" p2) [a] [] pos2] [] pos) (tEnumL K t):=hK▸qe_enumL hc hg hm hg2 hm2 ha
theorem ke_m1 {name:Str}{T id:String}{r:V->List V->Hp->VK->Prop}(hK:X.K=K)(pa:PlainAttrs T)(slot:Slot T name id)(hty:typeOf (.builtin id)=pure (.type "method_descriptor"))(hm:MtR X id r)(ho:QE X o to)(ha:QE X e te)
  (hp:plainE e=true:=by rfl) (hbase:attributeBase o name X.env (eval o X.env)=eval o X.env:=by rfl) (hline:(p.endLine == pos.line)=true:=by rfl):QE X (.Call (.Attribute o name p) [e] [] pos) (tBM K T r to (tCons te tNil)):=hK▸qe_m1 pa slot hty hm ho ha hp hbase hline
theorem kt_val (hK:X.K=K)(ha:QE X a ta)(he:∀ whole,isTrue a X.env whole=(do let v <- whole;standAt a.pos;holding [v] (truthy v)):=by intro _;rfl):QT X a (mT K ta):=hK▸qt_val ha he
theorem kSum (hK:X.K=K)(hc:X.calm=true):CallR X (.builtin "sum") (vSum K):=hK▸callSum hc
theorem kMax (hK:X.K=K)(hc:X.calm=true):CallR X (.builtin "max") (vMax K):=hK▸callMax hc
theorem kMin (hK:X.K=K)(hc:X.calm=true):CallR X (.builtin "min") (vMin K):=hK▸callMin hc
theorem kLen (hK:X.K=K):CallR X (.builtin "len") (vLen K):=hK▸callLen
theorem kIsi (hK:X.K=K):CallR X (.builtin "isinstance") (vIsi K):=hK▸callIsi
def vClr:V->List V->Hp->VK->Prop:=λx vs H Q=>match x,vs with
 | .ref a,[]=>hClr a H Q
 | _,_=>False
end
section
variable {X:Cx}
theorem paired_at {α β:Type}{R:α->β->Prop}:∀ {xs:List α} {ys:List β},Paired R xs ys->∀ (j:Nat) {x:α} {y:β},xs[j]?=some x->ys[j]?=some y->R x y
 | _,_,.nil,j,_,_,h,_=>by simp at h
 | _,_,.cons r t,0,_,_,h1,h2=>by simp at h1 h2;subst h1;subst h2;exact r
 | _,_,.cons r t,j+1,_,_,h1,h2=>paired_at t j (by simpa using h1) (by simpa using h2)
theorem all_true (n:Nat):((List.range n).all λ_=>true)=true:=by simp
theorem seq_same {pins:List (Addr×Obj)}{σ:St}{H:Hp}{s:Shared}{n:Nat}{A:Around}{xs ys:List V}{us vs:List Value}{ds:List PyData}
  (ih:∀ (x y:V) (u v:Value) (d:PyData),RV n H x d->RV n H y d->RelV x u->RelV y v->SeqAt.EqAt A s u v true) (p1:Paired (RV n H) xs ds) (p2:Paired (RV n H) ys ds) (r1:Vals xs us) (r2:Vals ys vs) :
  us.toArray.size=vs.toArray.size/\∀ j (h1:j<us.toArray.size) (h2:j<vs.toArray.size),SeqAt.EqAt A s us.toArray[j] vs.toArray[j] ((λ_=>true) j):=by
 have l1:=Paired.length p1
 have l2:=Paired.length p2
 have l3:=Paired.length r1
 have l4:=Paired.length r2
 refine⟨by simp only[List.size_toArray];omega,λj h1 h2=>?_⟩
 have h1':j<us.length:=by simpa using h1
 have h2':j<vs.length:=by simpa using h2
 have hx:j<xs.length:=by omega
 have hy:j<ys.length:=by omega
 have hd:j<ds.length:=by omega
 exact ih xs[j] ys[j] _ _ ds[j] (paired_at p1 j (List.getElem?_eq_getElem hx) (List.getElem?_eq_getElem hd)) (paired_at p2 j (List.getElem?_eq_getElem hy) (List.getElem?_eq_getElem hd))
  (paired_at r1 j (List.getElem?_eq_getElem hx) (by simp[h1'])) (paired_at r2 j (List.getElem?_eq_getElem hy) (by simp[h2']))
inductive RdP (n:Nat)(H:Hp)(h:Heap)(a:Addr):PyData->Prop where
 | lst {xs:List V} {us:List Value} {ds:List PyData} (p:Paired (RV n H) xs ds) (r:Vals xs us) (l:h.IsList a us.toArray):RdP n H h a (.list ds)
 | tup {xs:List V} {us:List Value} {ds:List PyData} (p:Paired (RV n H) xs ds) (r:Vals xs us) (l:h.IsTuple a us.toArray):RdP n H h a (.tuple ds)
theorem rdP_of {pins:List (Addr×Obj)}{σ:St}{H:Hp}{s:Shared}(I:Inv X pins σ H s){n:Nat}{a:Addr}{d:PyData}(h:RV (n+1) H (.ref a) d):RdP n H s.heap a d:=by
 rcases (show (∃ xs ds,Rd H a (.lst xs)/\d=.list ds/\Paired (RV n H) xs ds)\/∃ xs ds,Rd H a (.tup xs)/\d=.tuple ds/\Paired (RV n H) xs ds from h) with ⟨xs,ds,h1,rfl,h3⟩ | ⟨xs,ds,h1,rfl,h3⟩
 ·obtain⟨us,r,p,_⟩:=I.list (.inl h1)
  exact .lst h3 r p.isList
 ·obtain⟨us,r,p,_⟩:=I.tuple (.inl h1)
  exact .tup h3 r p
def flatD:V->Option PyData
 | .non=>some .none
 | .bl b=>some (.bool b)
 | .int i=>some (.int i)
 | .str x=>some (.str x)
 | _=>none
theorem rv_scal {n : Nat} {H : Hp} {x : V} {d : PyData} (h : RV n H x d) (hx : ∀ a, x ≠ .ref a) : flatD x = some d := by
  cases x with
  | non => have e : d = .none := by cases n <;> exact h
           rw [e]; rfl
  | bl b => have e : d = .bool b := by cases n <;> exact h
            rw [e]; rfl
  | int i => have e : d = .int i := by cases n <;> exact h
             rw [e]; rfl
  | str i => have e : d = .str i := by cases n <;> exact h
             rw [e]; rfl
  | ref a => exact absurd rfl (hx a)
  | byt b => cases n <;> exact (show False from h).elim
  | flt b => cases n <;> exact (show False from h).elim
  | ty b => cases n <;> exact (show False from h).elim
theorem rv_ref {n:Nat}{H:Hp}{a:Addr}{d:PyData}(h:RV n H (.ref a) d):(∃ ds,d=.list ds)\/∃ ds,d=.tuple ds:=by
 cases n with
 | zero=>exact(show False from h).elim
 | succ n =>
  rcases (show (∃ xs ds,Rd H a (.lst xs)/\d=.list ds/\Paired (RV n H) xs ds)\/∃ xs ds,Rd H a (.tup xs)/\d=.tuple ds/\Paired (RV n H) xs ds from h) with ⟨xs,ds,_,e,_⟩ | ⟨xs,ds,_,e,_⟩
  ·exact .inl ⟨ds,e⟩
  ·exact .inr ⟨ds,e⟩
theorem flat_no {x:V}{d:PyData}(h:flatD x=some d):(∀ ds,d≠.list ds)/\∀ ds,d≠.tuple ds:=by
 cases x<;>simp[flatD] at h<;>subst h<;>exact⟨λds e=>(by cases e),λds e=>(by cases e)⟩
theorem flat_inj {x y:V}{d:PyData}(h1:flatD x=some d)(h2:flatD y=some d):x=y:=by
 cases x<;>simp[flatD] at h1<;>subst h1<;>cases y<;>simp[flatD] at h2<;>first | rfl | (subst h2;rfl)
theorem both_flat {n:Nat}{H:Hp}{x y:V}{d:PyData}(h1:RV n H x d)(h2:RV n H y d)(hx:∀ a,x≠.ref a):x=y:=by
 have f1:=rv_scal h1 hx
 refine flat_inj f1 (rv_scal h2 λb e=>?_)
 subst e
 rcases rv_ref h2 with ⟨ds,e⟩ | ⟨ds,e⟩
 ·exact(flat_no f1).1 ds e
 ·exact(flat_no f1).2 ds e
theorem rel_same {x:V}{u v:Value}{d:PyData}{A:Around}{s:Shared}(hf:flatD x=some d)(r1:RelV x u)(r2:RelV x v):SeqAt.EqAt A s u v true:=by
 cases x with
 | non=>cases r1;cases r2;exact SeqAt.EqAt.same _
 | bl b=>cases r1;cases r2;exact SeqAt.EqAt.same _
 | int i =>
  obtain⟨t,rfl⟩:=r1
  obtain⟨t',rfl⟩:=r2
  have:=SeqAt.EqAt.int_int (A:=A) (s:=s) i t i t'
  rw[beq_self_eq_true] at this
  exact this
 | str i =>
  obtain⟨t,rfl⟩:=r1
  obtain⟨t',rfl⟩:=r2
  have:=SeqAt.EqAt.str_str (A:=A) (s:=s) i t i t'
  rw[beq_self_eq_true] at this
  exact this
 | _=>cases hf
theorem rv_flat {n:Nat}{H:Hp}{x y:V}{u v:Value}{d:PyData}{A:Around}{s:Shared}(h1:RV n H x d)(h2:RV n H y d)(r1:RelV x u)(r2:RelV y v)(hx:∀ a,x≠.ref a):SeqAt.EqAt A s u v true:=by
 have e:=both_flat h1 h2 hx
 subst e
 exact rel_same (rv_scal h1 hx) r1 r2
theorem eqAt_rv {pins:List (Addr×Obj)}{σ:St}{H:Hp}{s:Shared}(I:Inv X pins σ H s):∀ (n:Nat) (A:Around),A.units+n<cLine->∀ (x y:V) (u v:Value) (d:PyData),RV n H x d->RV n H y d->RelV x u->RelV y v->SeqAt.EqAt A s u v true:=by
 intro n
 induction n with
 | zero =>
  intro A hA x y u v d h1 h2 r1 r2
  refine rv_flat h1 h2 r1 r2 λa e=>?_
  subst e
  exact(show False from h1)
 | succ n ih =>
  intro A hA x y u v d h1 h2 r1 r2
  by_cases hx:∃ a,x=.ref a
  ·obtain⟨a,rfl⟩:=hx
   by_cases hy:∃ b,y=.ref b
   ·obtain⟨b,rfl⟩:=hy
    cases r1
    cases r2
    by_cases hab:a=b
    ·subst hab;exact SeqAt.EqAt.same _
    have ih':=ih A.in1 (by show A.units+1+n<cLine;omega)
    have hu:A.units<cLine:=by omega
    cases rdP_of I h1 with
    | lst p1 q1 l1 =>
     cases rdP_of I h2 with
     | lst p2 q2 l2 =>
      obtain⟨z1,z2⟩:=seq_same (pins:=pins) (σ:=σ) ih' p1 p2 q1 q2
      have:=SeqAt.RcAt.lists (A:=A) l1 l2 z1 hu z2
      rw[all_true] at this
      exact SeqAt.EqAt.of_refs hab this
    | tup p1 q1 l1 =>
     cases rdP_of I h2 with
     | tup p2 q2 l2 =>
      obtain⟨z1,z2⟩:=seq_same (pins:=pins) (σ:=σ) ih' p1 p2 q1 q2
      have:=SeqAt.RcAt.tuples (A:=A) l1 l2 hu z2
      rw[all_true,z1,beq_self_eq_true] at this
      exact SeqAt.EqAt.of_refs hab this
   ·exact absurd ⟨a,(both_flat h2 h1 λb e=>hy ⟨b,e⟩)⟩ hy
  ·exact rv_flat h1 h2 r1 r2 λa e=>hx ⟨a,e⟩
@[irreducible] def hEqR (K:W.Frag)(a b:Addr)(H:Hp)(Q:Bool->Hp->Prop):Prop:=hEqL K a b H Q\/∃ n d,n<=20/\RV (n+1) H (.ref a) d/\RV (n+1) H (.ref b) d/\Q true H
theorem i_eqD {K:W.Frag}{a b:Addr}{H:Hp}{Q:Bool->Hp->Prop}{d:PyData}(n:Nat)(hn:n<=20)(h1:RV (n+1) H (.ref a) d)(h2:RV (n+1) H (.ref b) d)(q:Q true H):hEqR K a b H Q:=by unfold hEqR;exact .inr ⟨n,d,hn,h1,h2,q⟩
theorem i_eqI {K:W.Frag}{a b:Addr}{H:Hp}{Q:Bool->Hp->Prop}{ns ms:List Int}(h1:SqL K H a (ns.map V.int))(h2:SqL K H b (ms.map V.int))(q:Q (decide (ns=ms)) H):hEqR K a b H Q:=by unfold hEqR;exact .inl (i_eqL h1 h2 q)
def vEqG (K:W.Frag)(n:Bool->Bool):R2:=λx y H Q=>match x,y with
 | .int i,.int j=>Q (.bl (n (decide (i=j)))) H
 | .str i,.str j=>Q (.bl (n (decide (i=j)))) H
 | .bl i,.bl j=>Q (.bl (n (decide (i=j)))) H
 | .non,.non=>Q (.bl (n true)) H
 | .non,.int _=>Q (.bl (n false)) H
 | .int _,.non=>Q (.bl (n false)) H
 | .non,.bl _=>Q (.bl (n false)) H
 | .bl _,.non=>Q (.bl (n false)) H
 | .ref a,.ref b=>hEqR K a b H λr H'=>Q (.bl (n r)) H'
 | _,_=>False
theorem kEqG {K:W.Frag}{k:Nat}(hK:X.K=K)(hr:Room k X.A):OpR X (compareOp .Eq) (vEqG K id):=by
 subst hK
 intro pins s σ H x y v u Q I rx ry h
 cases x<;>cases y<;>first
  | exact(show False from h).elim
  | exact op_eq pins s σ H _ _ v u Q I rx ry ⟨rfl,by rw[dI];exact h⟩
  | exact op_eq pins s σ H _ _ v u Q I rx ry ⟨rfl,by rw[dS];exact h⟩
  | exact op_eq pins s σ H _ _ v u Q I rx ry ⟨rfl,by rw[dB];exact h⟩
  | exact op_eq pins s σ H _ _ v u Q I rx ry ⟨rfl,h⟩
  | skip
 rename_i a b
 have h:=(show hEqR X.K a b H _ from h)
 unfold hEqR at h
 rcases h with h | ⟨n,d,hn,h1,h2,q⟩
 ·unfold hEqL at h;obtain⟨xs,ys,h1,h2,h3⟩:=h;exact op_eqI hr pins s σ H _ _ v u Q I rx ry ⟨_,_,xs,ys,rfl,rfl,h1,h2,h3⟩
 ·cases rx
  cases ry
  have hu:=hr.units
  have ih:=eqAt_rv I n X.A.in1 (by show X.A.units+1+n<cLine;omega)
  cases rdP_of I h1 with
  | lst p1 q1 l1 =>
   cases rdP_of I h2 with
   | lst p2 q2 l2 =>
    obtain⟨z1,z2⟩:=seq_same (pins:=pins) (σ:=σ) ih p1 p2 q1 q2
    exact SeqAt.eq_listAt l1 l2 z1 (by omega) z2 (by rw[all_true];exact⟨.bl true,H,I,rfl,q⟩)
  | tup p1 q1 l1 =>
   cases rdP_of I h2 with
   | tup p2 q2 l2 =>
    obtain⟨z1,z2⟩:=seq_same (pins:=pins) (σ:=σ) ih p1 p2 q1 q2
    exact SeqAt.eq_tupleAt l1 l2 (by omega) z2 (by rw[all_true,z1,beq_self_eq_true];exact⟨.bl true,H,I,rfl,q⟩)
theorem kNeG {K:W.Frag}{k:Nat}(hK:X.K=K)(hr:Room k X.A):OpR X (compareOp .NotEq) (vEqG K not):=by
 subst hK
 intro pins s σ H x y v u Q I rx ry h
 cases x<;>cases y<;>first
  | exact(show False from h).elim
  | exact op_ne pins s σ H _ _ v u Q I rx ry ⟨rfl,by rw[dI];exact h⟩
  | exact op_ne pins s σ H _ _ v u Q I rx ry ⟨rfl,by rw[dS];exact h⟩
  | exact op_ne pins s σ H _ _ v u Q I rx ry ⟨rfl,by rw[dB];exact h⟩
  | exact op_ne pins s σ H _ _ v u Q I rx ry ⟨rfl,h⟩
  | skip
 rename_i a b
 have h:=(show hEqR X.K a b H _ from h)
 unfold hEqR at h
 have hu:=hr.units
 rcases h with h | ⟨n,d,hn,h1,h2,q⟩
 ·unfold hEqL at h
  obtain⟨ns,ms,h1,h2,qq⟩:=h
  cases rx;cases ry
  obtain⟨its,r1,p1,_⟩:=I.list h1
  obtain⟨its2,r2,p2,_⟩:=I.list h2
  have i1:=intsAre_of r1
  have i2:=intsAre_of r2
  have l1:=r1.length
  have l2:=r2.length
  rw[List.length_map] at l1 l2
  by_cases hl:ns.length=ms.length
  ·refine SeqAt.RcNeAt.lists (e:=λj=>decide (ns.getD j 0=ms.getD j 0)) p1.isList p2.isList (by simp only[List.size_toArray];omega) hr.units0 (λj a1 a2=>?_) _ _ _ _ ?_
   ·obtain⟨t1,e1⟩:=ints_at i1 j a1
    obtain⟨t2,e2⟩:=ints_at i2 j a2
    rw[e1,e2]
    have:=SeqAt.EqAt.int_int (A:=X.A.in1) (s:=s) (ns.getD j 0) t1 (ms.getD j 0) t2
    rw[Bool.beq_eq_decide_eq] at this
    exact this
   ·rw[show its.toArray.size=ns.length by simp only[List.size_toArray];omega,all_range_eq ns ms hl]
    exact⟨.bl _,H,I,rfl,qq⟩
  ·refine SeqAt.RcNeAt.lists_lengths p1.isList p2.isList (by simp only[List.size_toArray,bne_iff_ne];omega) hr.units0 _ _ _ _ ⟨.bl true,H,I,rfl,?_⟩
   have:decide (ns=ms)=false:=decide_eq_false λe=>hl (by rw[e])
   rw[this] at qq
   exact qq
 ·cases rx
  cases ry
  have ih:=eqAt_rv I n X.A.in1 (by show X.A.units+1+n<cLine;omega)
  cases rdP_of I h1 with
  | lst p1 q1 l1 =>
   cases rdP_of I h2 with
   | lst p2 q2 l2 =>
    obtain⟨z1,z2⟩:=seq_same (pins:=pins) (σ:=σ) ih p1 p2 q1 q2
    exact SeqAt.RcNeAt.lists l1 l2 z1 (by omega) z2 _ _ _ _ (by rw[all_true];exact⟨.bl false,H,I,rfl,q⟩)
  | tup p1 q1 l1 =>
   cases rdP_of I h2 with
   | tup p2 q2 l2 =>
    obtain⟨z1,z2⟩:=seq_same (pins:=pins) (σ:=σ) ih p1 p2 q1 q2
    exact SeqAt.RcNeAt.tuples l1 l2 (by omega) z2 _ _ _ _ (by rw[all_true,z1,beq_self_eq_true];exact⟨.bl false,H,I,rfl,q⟩)
end
end L2
namespace L2
open PySem PySem.Spec PyProof.Rows
section
variable {X:Cx}
@[irreducible] def hRng (i j:Int)(H:Hp)(Q:VK):Prop:=∀ p,H p=none->Q (.ref p) (upd H p (.rng i j))
def mRngV (ta:TA):TE:=λσ H Q=>ta σ H λvs H1=>match vs with
 | [.int i,.int j]=>hRng i j H1 Q
 | _=>False
theorem qe_range2 {a b:Expr}{t:TA}{p pos:Pos}(hg:Gl X "range")(hm:X.mg "range"=none)(ha:QA X [a,b] t):QE X (.Call (.Name "range" p) [a,b] [] pos) (mRngV t):=⟨by
 intro pins s σ H Q I h
 have hp:=ha.p
 have h2:[b].all plainE=true:=by simp only[List.all_cons,List.all_nil,Bool.and_true,Bool.and_eq_true] at hp ⊢;exact hp.2
 have h1:plainE a=true:=by simp only[List.all_cons,List.all_nil,Bool.and_true,Bool.and_eq_true] at hp;exact hp.1
 refine Call_ (ld_blt I hg hm boot_range (PyProof.Rows.callWith_type1 (thn (ha.h pos pins s σ H _ I h) λus s1 ⟨vs,H1,I1,r1,q1⟩=>?_) (star_plain h1) (any_plain h2)))
 dsimp only at q1
 split at q1
 ·rename_i i j
  cases r1 with
  | cons ra rr =>
   cases rr with
   | cons rb rr =>
    cases rr
    obtain⟨ta,rfl⟩:=ra
    obtain⟨tb,rfl⟩:=rb
    unfold hRng at q1
    have hn:H1 s1.heap.objs.size=none:=I1.hok.fresh (Nat.le_refl _)
    refine call_range_2 ⟨.ref s1.heap.objs.size,upd H1 s1.heap.objs.size (.rng i j),?_,rfl,q1 _ hn⟩
    exact I1.laid (t':=s1.toks+1) (λb o e=>Heap.get?_push_of_some _ e) (Nat.le_refl _) ⟨_,_,_,Heap.get?_push_size _ rfl⟩
 ·exact q1.elim⟩
@[irreducible] def hListR (a:Addr)(H:Hp)(Q:VK):Prop:=∃ lo hi:Int,H a=some (.rng lo hi)/\(-(2 ^ 62)<=lo/\lo<2 ^ 62/\-(2 ^ 62)<=hi/\hi<2 ^ 62)/\(hi-lo).toNat<=100000 /\
 ∀ l,H l=none->Q (.ref l) (upd H l (.lst ((List.range (hi-lo).toNat).map λ(k:Nat)=>V.int (lo+(k:Int)))))
def vListR:List V->Hp->VK->Prop:=λxs H Q=>match xs with
 | [.ref a]=>hListR a H Q
 | _=>False
theorem vals_items {lo:Int}:∀ {n:Nat} {us:List Value},us.length=n->(∀ (j:Nat) (v:Value),us[j]?=some v->∃ t,v=Value.int (lo+(j:Int)*1) t)->Vals ((List.range n).map λ(k:Nat)=>V.int (lo+(k:Int))) us:=by
 intro n
 induction n generalizing lo with
 | zero=>intro us hl _;have:us=[]:=List.length_eq_zero_iff.mp hl;subst this;exact .nil
 | succ n ih =>
  intro us hl h
  cases us with
  | nil=>cases hl
  | cons u us =>
   rw[List.range_succ_eq_map,List.map_cons,List.map_map]
   refine .cons ?_ ?_
   ·obtain⟨t,e⟩:=h 0 u rfl
    refine⟨t,?_⟩
    rw[e];simp
   ·have:=ih (lo:=lo+1) (us:=us) (by simpa using hl) λj v hv=>by
     obtain⟨t,e⟩:=h (j+1) v (by simpa using hv)
     refine⟨t,?_⟩
     rw[e];congr 1;push_cast;omega
    have e:(λ(k:Nat)=>V.int (lo+((k:Nat):Int))) ∘ Nat.succ=λ(k:Nat)=>V.int (lo+1+(k:Int)):=by
     funext k;simp only[Function.comp_apply];congr 1;push_cast;omega
    rw[e];exact this
theorem kListR (hc:X.calm=true):CallR X (.type "list") vListR:=by
 intro pins s σ H xs us Q I r h
 unfold vListR at h
 split at h
 ·rename_i a
  unfold hListR at h
  obtain⟨lo,hi,ha,⟨h1,h2,h3,h4⟩,hl,q⟩:=h
  obtain⟨u,rfl,ru⟩:=vals1 r
  cases ru
  obtain⟨t,u,v,e⟩:=(show ObjOk X.prog X.w H s.heap a (.rng lo hi) from I.hok a _ ha)
  have hn:Builtin.Range.rangeSize lo hi 1=((hi-lo).toNat:Nat):=by rw[rangeSize_one];split<;>omega
  refine call_list_range (I.ok.hd hc) (show IsRange s.heap a lo hi 1 t u v from e) (small_one h1 h2 h3 h4) hn (by omega) λh' tk acc c' hk hS hacc=>?_
  have hf:H s.heap.objs.size=none:=I.hok.fresh (Nat.le_refl _)
  refine⟨.ref s.heap.objs.size,_,?_,rfl,q _ hf⟩
  refine I.laid hk (Nat.le_refl _) (show ObjOk X.prog X.w _ _ _ (.lst _) from ⟨?_,acc.toList,c',vals_items (by rw[Array.length_toList];exact hacc.1) λj v hv=>hacc.2 j v (by simpa using hv),by simpa using hS⟩)
  rw[List.length_map,List.length_range];exact sz_of hl
 ·exact h.elim
theorem i_rngV {i j:Int}{H:Hp}{Q:VK}(q:∀ p H',H p=none->Same H H'->H' p=some (.rng i j)->Q (.ref p) H'):hRng i j H Q:=by unfold hRng;exact λp hp=>q p _ hp (same_upd hp) upd_same
theorem i_listR {a:Addr}{lo hi:Int}{H:Hp}{Q:VK}(h:H a=some (.rng lo hi))(hb:-(2 ^ 62)<=lo/\lo<2 ^ 62/\-(2 ^ 62)<=hi/\hi<2 ^ 62)(hl:(hi-lo).toNat<=100000)
  (q:∀ p H',H p=none->Same H H'->H' p=some (.lst (((List.range (hi-lo).toNat).map λ(k:Nat)=>lo+(k:Int)).map V.int))->Q (.ref p) H'):hListR a H Q:=by
 unfold hListR;exact⟨lo,hi,h,hb,hl,λl hl'=>q l _ hl' (same_upd hl') (by rw[upd_same,List.map_map];rfl)⟩
end
end L2
namespace L2
open PySem PySem.Spec PyProof.Rows
section
variable {X:Cx}{e st:Expr}{te:TE}{ts:TO}{p2 pos:Pos}{K:W.Frag}
@[irreducible] def hRev (K:W.Frag)(a:Addr)(H:Hp)(Q:VK):Prop:=∃ xs,SqL K H a xs/\∀ p,H p=none->Q (.ref p) (upd H p (.lst xs.reverse))
theorem i_rev {a:Addr}{H:Hp}{Q:VK}{xs:List V}(h:SqL K H a xs)(q:∀ p H',H p=none->Same H H'->H' p=some (.lst xs.reverse)->Q (.ref p) H'):hRev K a H Q:=by
 unfold hRev;exact⟨xs,h,λp hp=>q p _ hp (same_upd hp) upd_same⟩
def mRev (K:W.Frag)(te:TE)(ts:TO):TE:=λσ H Q=>te σ H λx H1=>ts σ H1 λs H2=>match x,s with
 | .ref a,some k=>k=-1/\hRev K a H2 Q
 | _,_=>False
theorem Vals.rev:∀ {xs:List V} {us:List Value},Vals xs us->Vals xs.reverse us.reverse
 | _,_,.nil=>.nil
 | _,_,.cons r t=>by rw[List.reverse_cons,List.reverse_cons];exact(Vals.rev t).append (.cons r .nil)
theorem qe_rev (hK:X.K=K)(he:QE X e te)(hs:QO X (some st) ts)(hsub:∀ v sl,subscripted (.Slice none none (some st) p2) false v sl=operate [v,sl] (getItem v sl):=by intro _ _;rfl):QE X (.Subscript e (.Slice none none (some st) p2) pos) (mRev K te ts):=⟨by
 subst hK
 intro pins s σ H Q I h
 refine Subscript_ (thn (he.h pins s σ H _ I h) λv s1 ⟨x,H1,I1,r1,q1⟩=>?_)
 refine wpAny_Slice ?_
 rw[evalPart_none]
 refine wpAny_pure ?_
 refine wpAny_pure ?_
 refine thn (hs.h pins s1 σ H1 _ I1 q1) λvk s2 ⟨k,H2,I2,pk,q2⟩=>?_
 have I3:Inv X pins σ H2 { s2 with heap:=s2.heap.push { cls:=.type "slice",data:=.fields #[.none,.none,vk] } }:=I2.kept (t':=s2.toks) λb ob q=>Heap.get?_push_of_some _ q
 cases x with
 | ref a =>
  cases k with
  | none=>exact(show False from q2).elim
  | some k =>
   obtain⟨rfl,q⟩:=(show k=-1/\hRev X.K a H2 Q from q2)
   unfold hRev at q
   obtain⟨xs,hx,q⟩:=q
   cases r1
   obtain⟨its,r,ht,hz⟩:=I3.list hx
   have hlen:=r.length
   have hg:wpAny (model X.prog X.w) X.A (getItem (.ref a) (.ref s2.heap.objs.size)) (EP X pins σ Q) X.xe { s2 with heap:=s2.heap.push { cls:=.type "slice",data:=.fields #[.none,.none,vk] } }:=by
    refine wpAny_getItem_list_slice ht.isList (Heap.IsSliceOf.new ..) .none .none pk (by decide) ?_ (by rw[List.size_toArray];omega)
    rw[W.krv_pick]
    refine⟨.ref _,_,I3.laid (t':=s2.toks) (o:=.lst xs.reverse) (λb ob q=>Heap.get?_push_of_some _ q) (Nat.le_refl _) ?_,rfl,q _ (I3.hok.fresh (Nat.le_refl _))⟩
    exact⟨by rw[List.length_reverse];exact hz,_,0,Vals.rev r,Heap.get?_push_size _ rfl⟩
   exact tail_any (ops:=[.ref a,.ref s2.heap.objs.size]) (ht.isList.typeIs) slot_list_getitem.lookup hg (hsub _ _)
 | _=>exact(show False from q2).elim⟩
end
end L2
namespace L2
open PySem PySem.Spec PyProof.Rows
abbrev cxCompN (X:Cx)(pins:List (Addr×Obj))(N':List Str)(scope:Scope)(cl:List (Str×Addr))(C:Addr)(s0:Shared)(H0:Hp)(fp:List Addr):Cx :=
 { cxComp X pins N' scope cl C s0 H0 fp with fn:=λx=>scope.names.lookup x == some .cell }
def capOkN (N':List Str)(caps:List (Option Nat))(N:List Str)(names names':List (Str×NameKind)):Bool :=
 (N'.length == caps.length)&&(N'.zip caps).all (λp=>match p.2 with
  | none=>true
  | some j=>N[j]? == some p.1&&names'.lookup p.1 == some .free) &&
 names'.all (λp=>(p.2 != NameKind.free || ((names.lookup p.1 == some .cell || names.lookup p.1 == some .free)&&names'.lookup p.1 == some .free))&&(p.2 != NameKind.local || names'.lookup p.1 == some .local)&&(p.2 != NameKind.cell || names'.lookup p.1 == some .cell))
theorem namesN {N':List Str}{caps:List (Option Nat)}{N:List Str}{names names':List (Str×NameKind)}(h:capOkN N' caps N names names'=true) :
  (∀ x,(x,NameKind.free)∈names'->(names.lookup x=some .cell\/names.lookup x=some .free)/\names'.lookup x=some .free)/\(∀ p∈names',p.2=.local->names'.lookup p.1=some .local)/\∀ p∈names',p.2=.cell->names'.lookup p.1=some .cell:=by
 have h3:=List.all_eq_true.mp (Bool.and_eq_true_iff.mp h).2
 refine⟨λx hx=>?_,λp hp hl=>?_,λp hp hl=>?_⟩
 ·have:=h3 _ hx
  simp only[bne_self_eq_false,Bool.false_or,Bool.and_eq_true,Bool.or_eq_true,beq_iff_eq] at this
  exact this.1.1
 ·have:=h3 p hp
  rw[hl] at this
  simp only[bne_self_eq_false,Bool.false_or,Bool.and_eq_true,beq_iff_eq] at this
  exact this.1.2
 ·have:=h3 p hp
  rw[hl] at this
  simp only[bne_self_eq_false,Bool.false_or,Bool.and_eq_true,beq_iff_eq] at this
  exact this.2
theorem cells_app:∀ {names:List (Str×NameKind)} {n:Nat} {acc:List (Str×Addr)},cellsFrom n names acc=cellsFrom n names []++acc
 | [],n,acc=>rfl
 | (x,k)::r,n,acc=>by
  unfold cellsFrom
  split
  ·rw[cells_app (names:=r) (acc:=(x,n)::acc),cells_app (names:=r) (acc:=[(x,n)])];simp
  ·exact cells_app
theorem cells_mem {x:Str}{c:Addr}:∀ {names:List (Str×NameKind)} {n:Nat} {acc:List (Str×Addr)},(x,c)∈cellsFrom n names acc->(x,c)∈acc\/(x,NameKind.cell)∈names
 | [],n,acc,h=>.inl h
 | (y,k)::r,n,acc,h=>by
  unfold cellsFrom at h
  split at h
  ·rename_i hk
   rcases cells_mem h with h | h
   ·rcases List.mem_cons.mp h with h | h
    ·cases h
     have:k=.cell:=by simpa using hk
     subst this;exact .inr List.mem_cons_self
    ·exact .inl h
   ·exact .inr (List.mem_cons_of_mem _ h)
  ·rcases cells_mem h with h | h
   ·exact .inl h
   ·exact .inr (List.mem_cons_of_mem _ h)
theorem relabel_backN {env : Env} : ∀ {names : List (Str × NameKind)} {x : Str},
    ((names.map fun (n, k) => if (k == NameKind.free && env.scope.kind == .function && env.kindOf n == some .cell) then (n, NameKind.cell) else (n, k)).lookup x = some .cell ∨
     (names.map fun (n, k) => if (k == NameKind.free && env.scope.kind == .function && env.kindOf n == some .cell) then (n, NameKind.cell) else (n, k)).lookup x = some .free) → (x, NameKind.free) ∈ names ∨ (x, NameKind.cell) ∈ names
  | [], x, h => by simp at h
  | (n, k) :: r, x, h => by
    have ih := @relabel_backN env r x
    rw [List.map_cons] at h
    generalize (r.map fun (x : Str × NameKind) => match x with | (n, k) => if (k == NameKind.free && env.scope.kind == ScopeKind.function && env.kindOf n == some NameKind.cell) = true then (n, NameKind.cell) else (n, k)) = R at h ih
    dsimp only at h
    have more : (x, NameKind.free) ∈ r ∨ (x, NameKind.cell) ∈ r → (x, NameKind.free) ∈ (n, k) :: r ∨ (x, NameKind.cell) ∈ (n, k) :: r := Or.imp (List.mem_cons_of_mem _) (List.mem_cons_of_mem _)
    by_cases hc : (k == NameKind.free && env.scope.kind == .function && env.kindOf n == some .cell) = true
    · rw [if_pos hc] at h
      cases hx : x == n with
      | true =>
        have hkf : k = .free := by
          rw [Bool.and_eq_true, Bool.and_eq_true] at hc
          exact eq_of_beq hc.1.1
        rw [eq_of_beq hx, hkf]; exact .inl List.mem_cons_self
      | false =>
        rw [List.lookup_cons, hx] at h
        exact more (ih h)
    · rw [if_neg hc] at h
      cases hx : x == n with
      | true =>
        rw [List.lookup_cons, hx] at h
        rcases h with h | h
        · rw [eq_of_beq hx, Option.some.inj h]; exact .inr List.mem_cons_self
        · rw [eq_of_beq hx, Option.some.inj h]; exact .inl List.mem_cons_self
      | false =>
        rw [List.lookup_cons, hx] at h
        exact more (ih h)
theorem newEnv_cells {M:Model}{A:Around}{E:Value->Shared->Prop}{s:Shared}{scope:Scope}{globals:Addr}{closure:List (Str×Addr)}{qual:Str}{env0:Env}{Q:Env->Shared->Prop}
  (hQ:Q (newEnv scope s.heap.objs.size globals (cellsFrom (s.heap.objs.size+1) scope.names closure) qual none .none (some env0) builtinsNs) { s with heap:=pushCells (s.heap.push { cls:=.type "dict",data:=.dict #[] }) scope.names }) :
  wpAny M A (newFunctionEnv scope globals closure [] qual none .none (some env0)) Q E s:=by
 simp only[newFunctionEnv,Option.isSome_some,if_true]
 refine wpAny_bind (wpAny_alloc ?_)
 refine wpAny_bind (wpAny_layCells _ (λname kind cells=>by cases hkc:kind == NameKind.cell<;>simp[hkc]) _ _ _ _ ?_)
 rw[show ({ s with heap:=s.heap.push { cls:=.type "dict",data:=.dict #[] } }:Shared).heap.objs.size=s.heap.objs.size+1 from Heap.size_push ..]
 refine wpAny_bind ?_
 rw[List.forIn_nil]
 exact wpAny_pure (wpAny_pure hQ)
section
variable {X:Cx}{pins:List (Addr×Obj)}{σ:St}{H:Hp}{s:Shared}
theorem comp_startN {N':List Str}{caps:List (Option Nat)}{scope:Scope}{cl:List (Str×Addr)}{fp:List Addr}{h1:Heap}{tk:Nat}(I:Inv X pins σ H s)(hfp:∀ b∈fp,FpOk X pins H b)(hfo:∀ b∈fp,∃ o,s.heap.get? b=some o)
  (hcap:capOkN N' caps X.N X.env.scope.names scope.names=true) (hkind:scope.kind=.function) (hC:Clo scope X.env cl)
  (hns:h1.Ns (s.heap.objs.size+1) λ_=>none) (hk1:∀ b o,((s.heap.push { cls:=.type "list",data:=.seq #[] }).push { cls:=.type "dict",data:=.dict #[] }).get? b=some o->h1.get? b=some o) (hcs:CellsOk h1 (s.heap.objs.size+2) (cellsFrom (s.heap.objs.size+2) scope.names [])) :
  Inv (cxCompN X pins N' scope (cellsFrom (s.heap.objs.size+2) scope.names cl) (s.heap.objs.size+1) { s with heap:=s.heap.push { cls:=.type "list",data:=.seq #[] } } (upd H s.heap.objs.size (.lst [])) fp) [] (capSt caps σ) (upd H s.heap.objs.size (.lst [])) { s with heap:=h1,toks:=tk }:=by
 have hn:H s.heap.objs.size=none:=I.hok.fresh (Nat.le_refl _)
 have hz:(s.heap.push { cls:=.type "list",data:=.seq #[] }).objs.size=s.heap.objs.size+1:=Heap.size_push ..
 have up1:∀ b o,s.heap.get? b=some o->(s.heap.push { cls:=.type "list",data:=.seq #[] }).get? b=some o:=λb o e=>Heap.get?_push_of_some _ e
 have up2:∀ b o,(s.heap.push { cls:=.type "list",data:=.seq #[] }).get? b=some o->h1.get? b=some o:=λb o e=>by
  exact hk1 b o (Heap.get?_push_of_some _ e)
 have I1:Inv X pins σ (upd H s.heap.objs.size (.lst [])) { s with heap:=s.heap.push { cls:=.type "list",data:=.seq #[] },toks:=s.toks } :=
  I.laid (t':=s.toks) up1 (Nat.le_refl _) (show ObjOk X.prog X.w _ _ _ (.lst []) from ⟨Nat.zero_le _,[],0,.nil,Heap.get?_push_size _ rfl⟩)
 obtain⟨hcap1,hcap3⟩:=Bool.and_eq_true_iff.mp hcap
 obtain⟨hcap1,hcap2⟩:=Bool.and_eq_true_iff.mp hcap1
 have hlen:N'.length=caps.length:=by simpa using hcap1
 have hcap3':=List.all_eq_true.mp hcap3
 have capC:∀ x,(x,NameKind.cell)∈scope.names->scope.names.lookup x=some .cell:=λx hx=>(namesN hcap).2.2 _ hx rfl
 have capF:∀ x,(x,NameKind.free)∈scope.names->scope.names.lookup x=some .free:=λx hx=>((namesN hcap).1 x hx).2
 have two:∀ x c,(cellsFrom (s.heap.objs.size+2) scope.names cl).lookup x=some c->((x,NameKind.cell)∈scope.names/\(x,c)∈cellsFrom (s.heap.objs.size+2) scope.names [])\/cl.lookup x=some c:=λx c e=>by
  rw[cells_app,List.lookup_append] at e
  cases q:(cellsFrom (s.heap.objs.size+2) scope.names []).lookup x with
  | none=>rw[q] at e;exact .inr e
  | some c' =>
   rw[q] at e;cases e
   have hm:=PySem.mem_of_lookup q
   exact .inl ⟨(cells_mem hm).resolve_left (by simp),hm⟩
 have oldLt:∀ x c,cl.lookup x=some c->c<s.heap.objs.size:=λx c e=>by
  obtain⟨v,z⟩:=I.cell x c (hC.sub x c e);exact z.lt
 have newGe:∀ x c,(x,c)∈cellsFrom (s.heap.objs.size+2) scope.names []->s.heap.objs.size+2<=c:=λx c e=>(hcs.empty x c e).2
 have hsub:=I.stkSub
 have ltS:∀ b o,s.heap.get? b=some o->b<s.heap.objs.size:=λb o e=>Heap.lt_size e
 refine⟨⟨I.ok.mod,hkind,I.ok.glob,I.ok.blt,Nat.le_of_eq hz,λx y c e1 e2=>?_,λx hx=>?_,λx c hf e=>?_,I.ok.hd,I.ok.frames,.inl rfl,λb hb=>?_,λb o e=>?_,?_,λb o e hb=>?_,λb hb hf=>?_,?_,λb hb=>?_⟩,
  rfl,I.bare,Un.kept up2,⟨_,hns,λi x v e1 e2 e3=>?_⟩,λx c e=>?_,?_,λx c e=>?_,λp hp=>?_,I1.hok.kept up2,?_⟩
 ·rcases two x c e1 with ⟨_,h1⟩ | h1<;>rcases two y c e2 with ⟨_,h2⟩ | h2
  ·exact name_of_addr hcs.apart h1 h2
  ·exact absurd (Nat.lt_of_lt_of_le (oldLt _ _ h2) (Nat.le_trans (Nat.le_add_right _ 2) (newGe _ _ h1))) (Nat.lt_irrefl _)
  ·exact absurd (Nat.lt_of_lt_of_le (oldLt _ _ h1) (Nat.le_trans (Nat.le_add_right _ 2) (newGe _ _ h2))) (Nat.lt_irrefl _)
  ·exact I.ok.inj x y c (hC.sub x c h1) (hC.sub y c h2)
 ·have some_:∀ c0,((cellsFrom (s.heap.objs.size+2) scope.names []).lookup x=some c0\/cl.lookup x=some c0)->∃ c,(cellsFrom (s.heap.objs.size+2) scope.names cl).lookup x=some c:=λc0 h=>by
   rw[cells_app,List.lookup_append]
   cases q:(cellsFrom (s.heap.objs.size+2) scope.names []).lookup x with
   | some c'=>exact⟨c',rfl⟩
   | none =>
    rcases h with h | h
    ·rw[q] at h;cases h
    ·exact⟨c0,h⟩
  rcases relabel_backN hx with h | h
  ·obtain⟨c0,e0⟩:=hC.has x h;exact some_ c0 (.inr e0)
  ·obtain⟨c0,e0⟩:=cell_has (n:=s.heap.objs.size+2) (capC x h);exact some_ c0 (.inl e0)
 ·have hf':scope.names.lookup x=some .cell:=by simpa using (show (scope.names.lookup x == some NameKind.cell)=true from hf)
  obtain⟨c0,e0⟩:=cell_has (n:=s.heap.objs.size+2) hf'
  have e':(cellsFrom (s.heap.objs.size+2) scope.names cl).lookup x=some c:=e
  rw[cells_app,List.lookup_append,e0] at e'
  cases e'
  have:=newGe _ _ (PySem.mem_of_lookup e0)
  show (s.heap.push _).objs.size<=_
  rw[hz];omega
 ·obtain⟨o,ho⟩:=hfo b hb
  obtain⟨f0,f1,f2,f3,f4,f5⟩:=hfp b hb
  refine⟨Nat.ne_of_lt (Nat.lt_succ_of_lt (ltS b o ho)),λx c e=>?_⟩
  rcases two x c e with ⟨_,h⟩ | h
  ·exact Nat.ne_of_gt (Nat.lt_of_lt_of_le (ltS b o ho) (Nat.le_trans (Nat.le_add_right _ 2) (newGe _ _ h)))
  ·exact f4 x c (hC.sub x c h)
 ·have q:=I1.bs b o e
  exact q
 ·show X.base.objs.size<=(s.heap.push _).objs.size
  rw[hz]
  exact Nat.le_trans (Nat.le_trans I.ok.bsz I.sz) (Nat.le_succ _)
 ·obtain⟨f0,f1,f2,f3,f4,f5⟩:=hfp b hb
  rcases f3 with f3 | f3
  ·exact I.ok.noex b o e f3
  ·exact absurd (Nat.lt_of_lt_of_le (Heap.lt_size e) (Nat.le_trans I.ok.bsz f3)) (Nat.lt_irrefl _)
 ·obtain⟨f0,f1,f2,f3,f4,f5⟩:=hfp b hb
  rcases List.mem_cons.mp (hsub b hf) with z | z
  ·exact f1 z
  ·exact f2 z
 ·exact I1.stack
 ·exact I1.stkFree b hb
 ·
  have e2':∃ o,caps[i]?=some o/\(match o with | none=>none | some j=>(σ[j]?).join)=some v:=by
   unfold capSt at e2
   rw[List.getElem?_map] at e2
   cases q:caps[i]? with
   | none=>rw[q] at e2;cases e2
   | some o=>rw[q] at e2;exact⟨o,rfl,Option.some.inj e2⟩
  obtain⟨o,ho,hv⟩:=e2'
  cases o with
  | none=>cases hv
  | some j =>
   have hv':(σ[j]?).join=some v:=hv
   have hσ:σ[j]?=some (some v):=by
    cases q:σ[j]? with
    | none=>rw[q] at hv';cases hv'
    | some w=>rw[q] at hv';rw[show w=some v from hv']
   have hzip:(x,some j)∈N'.zip caps:=by
    refine List.mem_iff_getElem?.mpr ⟨i,?_⟩
    rw[List.getElem?_zip_eq_some]
    exact⟨e1,ho⟩
   have q:=List.all_eq_true.mp hcap2 _ hzip
   simp only[Bool.and_eq_true,beq_iff_eq] at q
   obtain⟨q1,q2⟩:=q
   have q3:=hcap3' _ (find_names q2)
   have q4:X.env.scope.names.lookup x=some .cell\/X.env.scope.names.lookup x=some .free:=by
    exact((namesN hcap).1 x (find_names q2)).1
   obtain⟨m,_,hl⟩:=I.loc
   obtain⟨u,ru,lk⟩:=hl j x v q1 hσ (.inr q4)
   refine⟨u,ru,.inr ⟨relabel_free q2,?_⟩⟩
   have q5:X.env.kindOf x=some .cell\/X.env.kindOf x=some .free:=q4
   rcases lk with ⟨k,_⟩ | ⟨_,c,ec,hc⟩
   ·rcases q5 with q5 | q5<;>(rw[q5] at k;cases k)
   ·obtain⟨c',ec'⟩:=hC.has x (find_names q2)
    have:=hC.sub x c' ec'
    rw[ec] at this
    cases this
    obtain⟨oc,hoc,hdc⟩:=hc
    refine⟨c,?_,oc,up2 _ _ (up1 _ _ hoc),hdc⟩
    show (cellsFrom (s.heap.objs.size+2) scope.names cl).lookup x=some c
    rw[cells_app,List.lookup_append]
    cases q:(cellsFrom (s.heap.objs.size+2) scope.names []).lookup x with
    | none=>exact ec'
    | some c'' =>
     have:=capC x ((cells_mem (PySem.mem_of_lookup q)).resolve_left (by simp))
     rw[q2] at this;cases this
 ·rcases two x c e with ⟨_,h⟩ | h
  ·exact⟨none,(hcs.empty x c h).1⟩
  ·obtain⟨v,oc,hoc,hdc⟩:=I.cell x c (hC.sub x c h)
   exact⟨v,oc,up2 _ _ (up1 _ _ hoc),hdc⟩
 ·show upd H _ _ (s.heap.objs.size+1)=none
  rw[upd_ne (Nat.ne_of_gt (Nat.lt_succ_self _))]
  exact I.hok.fresh (Nat.le_succ _)
 ·rcases two x c e with ⟨_,h⟩ | h
  ·have:=newGe _ _ h
   rw[upd_ne (Nat.ne_of_gt (Nat.lt_of_lt_of_le (Nat.lt_add_of_pos_right (by decide)) this))]
   exact I.hok.fresh (Nat.le_trans (Nat.le_add_right _ 2) this)
  ·exact I1.freeC x c (hC.sub x c h)
 ·have hp':p∈X.pn++pins:=by simpa using hp
  obtain⟨a1,a2,a3,a4,a5⟩:=I1.pin p hp'
  obtain⟨b1,_,_,_,_⟩:=I.pin p hp'
  refine⟨up2 _ _ a1,a2,Nat.ne_of_lt (Nat.lt_succ_of_lt (ltS _ _ b1)),λhf=>?_,a5⟩
  rcases List.mem_cons.mp (hsub p.1 hf) with z | z
  ·exact a3 z
  ·exact a4 z
 ·show (capSt caps σ).length=N'.length
  unfold capSt
  rw[List.length_map,hlen]
theorem comp_backN {N':List Str}{scope:Scope}{cl:List (Str×Addr)}{fp:List Addr}{C:Addr}{pins':List (Addr×Obj)}{σ':St}{H':Hp}{s':Shared}(I:Inv X pins σ H s)(hfp:∀ b∈fp,FpOk X pins H b)
  (J:Inv (cxCompN X pins N' scope cl C { s with heap:=s.heap.push { cls:=.type "list",data:=.seq #[] } } (upd H s.heap.objs.size (.lst [])) fp) pins' σ' H' s'):Inv X pins σ H' s':=by
 have hn:H s.heap.objs.size=none:=I.hok.fresh (Nat.le_refl _)
 refine I.call' (ch:=fp) J.os ?_ J.hok J.bare λb hb=>?_
 ·exact(Un.laid (λb o e=>Heap.get?_push_of_some _ e) (Nat.le_refl _) hn).trans J.base
 ·obtain⟨f0,f1,f2,f3,f4,f5⟩:=hfp b hb
  exact⟨f3,f1,f4,f5⟩
end
section
variable {X:Cx}{tg elt iter:Expr}{ifs:List Expr}{scope:Scope}{pos:Pos}
theorem comp_blockN {N':List Str}{caps:List (Option Nat)}{pins:List (Addr×Obj)}{σ:St}{H:Hp}{s:Shared}{J:It}{fp:List Addr}{it:Addr}{tn:Nat->Heap->Prop}{g:TG}{tt:TT}{te:TE}{cl:List (Str×Addr)}{RR:Value->Addr->Result->Shared->Prop}{Qe:Addr->Hp->Prop}
  (hc:X.calm=true) (hcap:capOkN N' caps X.N X.env.scope.names scope.names=true) (hkind:scope.kind=.function) (hC:Clo scope X.env cl)
  (hg:∀ cl C s0 H0 fp,PG (cxCompN X pins N' scope cl C s0 H0 fp) tg g) (ht:∀ cl C s0 H0 fp,PIfs (cxCompN X pins N' scope cl C s0 H0 fp) ifs tt) (he:∀ cl C s0 H0 fp,PE (cxCompN X pins N' scope cl C s0 H0 fp) elt te)
  (I:Inv X pins σ H s) (T:Turn X.prog X.w X.K tg J fp it tn) (st:tn 0 s.heap) (hf:∀ b∈fp,FpOk X pins H b) (q:∀ D,H D=none->compRead J D g tt te (capSt caps σ) (upd H D (.lst [])) (Qe D))
  (hR:∀ (D C:Addr) (s':Shared) (H':Hp),Inv X pins σ H' s'->Qe D H'->D≠C->(∃ o m,s'.heap.get? C=some o/\(∀ v,o.data≠.cell v)/\(∀ h2:Heap,h2.get? C=some o->h2.Ns C m))->H' C=none->s.heap.objs.size<=C->RR (.ref D) C (.ok .next) s') :
  wpAny (model X.prog X.w) X.A (newList []) (λacc s₃=>wpAny (model X.prog X.w) X.A (newFunctionEnv scope X.env.globals cl [] X.env.qual none .none (some X.env)) (λcenv s₄ =>
   codeAny (model X.prog X.w) X.A (.compStart (.ListComp elt [⟨tg,iter,ifs,0⟩] scope pos) 0 (.ref it) acc { cenv with scope:=relabel scope X.env }) (RR acc cenv.locals) s₄) X.xe s₃) X.xe s:=by
 refine wpAny_newObj_type (newEnv_cells ?_)
 have hz:(s.heap.push { cls:=.type "list",data:=.seq #[] }).objs.size=s.heap.objs.size+1:=Heap.size_push ..
 obtain⟨h₁,hh1⟩:∃ h₁,pushCells ((s.heap.push { cls:=.type "list",data:=.seq #[] }).push { cls:=.type "dict",data:=.dict #[] }) scope.names=h₁:=⟨_,rfl⟩
 have hk1:∀ b o,((s.heap.push { cls:=.type "list",data:=.seq #[] }).push { cls:=.type "dict",data:=.dict #[] }).get? b=some o->h₁.get? b=some o:=λb o e=>by rw[<- hh1];exact pushCells_keeps _ _ b o e
 have hns:h₁.Ns (s.heap.objs.size+1) λ_=>none:=by
  have:=(Heap.Ns.new (s.heap.push { cls:=.type "list",data:=.seq #[] }) (.type "dict")).keeps hk1
  rw[hz] at this;exact this
 have hz2':((s.heap.push { cls:=.type "list",data:=.seq #[] }).push { cls:=.type "dict",data:=.dict #[] }).objs.size=s.heap.objs.size+2:=by rw[Heap.size_push,hz]
 have hcs:CellsOk h₁ (s.heap.objs.size+2) (cellsFrom (s.heap.objs.size+2) scope.names []):=by
  have:=cellsFrom_ok scope.names ((s.heap.push { cls:=.type "list",data:=.seq #[] }).push { cls:=.type "dict",data:=.dict #[] }) (s.heap.objs.size+2) [] ⟨λ_ _ hm=>(nomatch hm),List.Pairwise.nil⟩ (by rw[hz2'];exact Nat.le_refl _)
  rw[hz2',hh1] at this;exact this
 have hfo:∀ b∈fp,∃ o,s.heap.get? b=some o:=λb hb=>let ⟨o,e,_⟩:=T.obj 0 _ st b hb;⟨o,e⟩
 have I1:=comp_startN (tk:=s.toks) I hf hfo hcap hkind hC hns hk1 hcs
 have hn:H s.heap.objs.size=none:=I.hok.fresh (Nat.le_refl _)
 have up:∀ b o,s.heap.get? b=some o->h₁.get? b=some o:=λb o e=>hk1 b o (Heap.get?_push_of_some _ (Heap.get?_push_of_some _ e))
 have st1:tn 0 h₁:=T.keep _ _ _ st λb _ o e=>up b o e
 have f1:∀ b∈fp,FpOk (cxCompN X pins N' scope (cellsFrom (s.heap.objs.size+2) scope.names cl) (s.heap.objs.size+1) { s with heap:=s.heap.push { cls:=.type "list",data:=.seq #[] } } (upd H s.heap.objs.size (.lst [])) fp) [] (upd H s.heap.objs.size (.lst [])) b:=λb hb=>by
  obtain⟨a0,a1,a2,a3,a4,a5⟩:=hf b hb
  obtain⟨o,ho⟩:=hfo b hb
  have hlt:=Heap.lt_size ho
  refine⟨by rw[upd_ne (Nat.ne_of_lt hlt)];exact a0,Nat.ne_of_lt (Nat.lt_succ_of_lt hlt),λz=>?_,.inl hb,λx c e=>(I1.ok.exf b hb).2 x c e,λp hp=>a5 p (by simpa using hp)⟩
  rcases List.mem_cons.mp (I.stkSub b z) with z | z
  ·exact a1 z
  ·exact a2 z
 have loop:codeAny (model X.prog X.w) X.A (.compLoop (.ListComp elt [⟨tg,iter,ifs,0⟩] scope pos) 0 (.ref it) (.ref s.heap.objs.size) (compEnvC scope (cellsFrom (s.heap.objs.size+2) scope.names cl) (s.heap.objs.size+1) X.env))
   (RR (.ref s.heap.objs.size) (s.heap.objs.size+1)) { s with heap:=h₁ }:=by
  refine comp_loop (X':=cxCompN X pins N' scope (cellsFrom (s.heap.objs.size+2) scope.names cl) (s.heap.objs.size+1) { s with heap:=s.heap.push { cls:=.type "list",data:=.seq #[] } } (upd H s.heap.objs.size (.lst [])) fp) hc rfl T (hg _ _ _ _ _) (ht _ _ _ _ _) (he _ _ _ _ _) I1 f1 st1 (q _ hn) λs' σ' H' J' qe=>?_
  have B:=comp_backN I hf J'
  obtain⟨m,hnC,_⟩:=J'.loc
  obtain⟨o,es,ep,ho,hd,r⟩:=id hnC
  exact hR _ _ s' H' B qe (Nat.ne_of_lt (Nat.lt_succ_self _)) ⟨o,m,ho,(λv z=>by rw[hd] at z;cases z),λh2 e2=>⟨o,es,ep,e2,hd,r⟩⟩ J'.free (Nat.le_succ _)
 have fin:=codeAny_compStart_list loop (T.self _ _ _ _ _ st1 loop)
 show codeAny _ _ (.compStart _ 0 _ _ { (newEnv scope (s.heap.push { cls:=.type "list",dict:=none,data:=.seq ([]:List Value).toArray }).objs.size X.env.globals (cellsFrom ((s.heap.push { cls:=.type "list",dict:=none,data:=.seq ([]:List Value).toArray }).objs.size+1) scope.names cl) X.env.qual none .none (some X.env) _) with scope:=relabel scope X.env }) (RR _ (s.heap.push { cls:=.type "list",dict:=none,data:=.seq ([]:List Value).toArray }).objs.size) { s with heap:=pushCells _ _ }
 have hz2:(s.heap.push { cls:=.type "list",dict:=none,data:=.seq ([]:List Value).toArray }).objs.size=s.heap.objs.size+1:=hz
 rw[hz2]
 have hh1':pushCells ((s.heap.push { cls:=.type "list",dict:=none,data:=.seq ([]:List Value).toArray }).push { cls:=.type "dict",data:=.dict #[] }) scope.names=h₁:=hh1
 rw[hh1']
 exact fin
theorem clo_ofN {N':List Str}{caps:List (Option Nat)}{pins:List (Addr×Obj)}{σ:St}{H:Hp}{s:Shared}(I:Inv X pins σ H s)(hcap:capOkN N' caps X.N X.env.scope.names scope.names=true):∃ cl,Clo scope X.env cl :=
 clo_mk λx hx=>I.ok.has x ((namesN hcap).1 x hx).1
theorem pe_compN (N':List Str)(caps:List (Option Nat)){wi:TI}{g:TG}{tt:TT}{te:TE}(hc:X.calm=true)(hi:PI X tg iter wi)
  (hg:∀ pins cl C s0 H0 fp,PG (cxCompN X pins N' scope cl C s0 H0 fp) tg g) (ht:∀ pins cl C s0 H0 fp,PIfs (cxCompN X pins N' scope cl C s0 H0 fp) ifs tt) (he:∀ pins cl C s0 H0 fp,PE (cxCompN X pins N' scope cl C s0 H0 fp) elt te)
  (hcap:capOkN N' caps X.N X.env.scope.names scope.names=true:=by rfl) (hkind:scope.kind=.function:=by rfl) (hs:∀ x,foldedSetIterable iter X.env x=pure x:=by intro _;rfl) :
  PE X (.ListComp elt [⟨tg,iter,ifs,0⟩] scope pos) (tComp caps wi g tt te):=by
 intro pins s σ H Q I h
 obtain⟨cl,hC⟩:=clo_ofN I hcap
 rw[eval_ListComp]
 refine wpAny_comprehension_free (use:=none) rfl hs hC.eq hkind (namesN hcap).2.1 (thn (hi pins s σ H _ I h) λv s1 h1=>thn h1 λitv s2 h2=>?_)
 obtain⟨it,fp,tn,J,H2,e,I2,T,st2,f2,q2⟩:=h2
 subst e
 refine comp_blockN (RR:=λacc C=>compPost (model X.prog X.w) X.A X.xe none (EP X pins σ Q) acc C) (Qe:=λD H'=>Q (.ref D) H') hc hcap hkind hC (hg pins) (ht pins) (he pins) I2 T st2 f2 q2 λD C s' H' I' q' hDC hCo hCn hCs=>?_
 obtain⟨o,m,ho,hd,hns⟩:=hCo
 refine⟨m,hns _ ho,λh' hsb=>⟨.ref D,H',?_,rfl,q'⟩⟩
 obtain⟨hp',g',d',t',os'⟩:=s'
 have hC0:X.s₀.heap.objs.size<=C:=Nat.le_trans I2.sz hCs
 exact I'.turned (t':=t') (it:=C) (λb o hb e=>hsb.extBut b o hb e) hCn (λz=>by
  have:=I2.lt;rw[<- z] at this;exact absurd (Nat.lt_of_lt_of_le this hCs) (Nat.lt_irrefl _)) (.inr hC0) (λx c e z=>by
  obtain⟨v,q⟩:=I2.cell x c e
  exact absurd (Nat.lt_of_lt_of_le q.lt (by rw[z];exact hCs)) (Nat.lt_irrefl _)) (λp hp z=>by
  exact absurd (Nat.lt_of_lt_of_le (Heap.lt_size (I2.pin p hp).1) (by rw[z];exact hCs)) (Nat.lt_irrefl _))
end
section
variable {X:Cx}{e a b c tg:Expr}{te:TE}{pos p p2:Pos}{x:Str}
theorem qe_cpN (N':List Str)(caps:List (Option Nat)){elt iter:Expr}{ifs:List Expr}{scope:Scope}{wi:TI}{g:TG}{tt:TT}(hc:X.calm=true)(hi:QI X tg iter wi)
  (hg:∀ pins cl C s0 H0 fp,QG (cxCompN X pins N' scope cl C s0 H0 fp) tg g) (ht:∀ pins cl C s0 H0 fp,QIf (cxCompN X pins N' scope cl C s0 H0 fp) ifs tt) (he:∀ pins cl C s0 H0 fp,QE (cxCompN X pins N' scope cl C s0 H0 fp) elt te)
  (hcap:capOkN N' caps X.N X.env.scope.names scope.names=true:=by kernel_rfl) (hkind:scope.kind=.function:=by rfl) (hs:noSet iter=true:=by rfl) :
  QE X (.ListComp elt [⟨tg,iter,ifs,0⟩] scope pos) (tComp caps wi (upG g) (upT tt) (upE te)) :=
 ⟨pe_compN N' caps hc hi.h (λa b c d e f=>(hg a b c d e f).up.h) (λa b c d e f=>(ht a b c d e f).up.h) (λa b c d e f=>(he a b c d e f).up.h) hcap hkind (fold_plain hs)⟩
end
end L2
namespace L2
open PySem
section
variable {X:Cx}{K:W.Frag}
end
end L2
namespace L2
open PySem PySem.Spec PyProof.Rows
section
variable {X:Cx}{K:W.Frag}{e t1 t2:Expr}{es:List Expr}{te:TE}{pos p p2:Pos}
def mTwo (te:TE)(g1 g2:TG):TS:=λD σ H=>te σ H λx H1=>g1 x σ H1 λσ1 H2=>g2 x σ1 H2 D.nx
theorem qs_two {g1 g2:TG}(he:QE X e te)(h1:QG X t1 g1)(h2:QG X t2 g2)(hw:swappedStores [t1,t2] e X.env=pure none:=by rfl)(hp1:plainG t1=true:=by rfl)(hp2:plainG t2=true:=by rfl):QS X (.Assign [t1,t2] e pos) (mTwo te g1 g2):=⟨by
 intro pins s σ H D I h
 refine wpAny_Assign_two (thn (he.h pins s σ H _ I h) λv s1 ⟨x,H1,I1,r1,q1⟩=>?_) (by rw[assign_plain hp1,assign_plain hp2];rfl) hw
 refine thn (h1.h pins s1 σ H1 x v _ I1 r1 q1) λ_ s2 ⟨σ2,H2,I2,q2⟩=>?_
 exact thn (h2.h pins s2 σ2 H2 x v _ I2 r1 q2) λ_ s3 q=>q⟩
end
end L2
namespace L2
open PySem PySem.Spec PyProof.Rows
section
variable {X:Cx}
end
end L2
namespace L2
open PySem PySem.Spec PyProof.Rows
section
variable {g:TG}{tt:TT}{te:TE}{σ0:St}{H1:Hp}{Q:Addr->Hp->Prop}{K:W.Frag}
end
end L2
namespace L2
open PySem PySem.Spec PyProof.Rows
section
variable {X:Cx}
@[irreducible] def hIndex (a:Addr)(z:Int)(H:Hp)(Q:VK):Prop:=∃ (ns:List Int) (j:Nat),H a=some (.lst (ns.map V.int))/\ns[j]?=some z/\(∀ i,i<j->ns[i]?≠some z)/\Q (.int j) H
def vIndex:V->List V->Hp->VK->Prop:=λx vs H Q=>match x,vs with
 | .ref a,[.int z]=>hIndex a z H Q
 | _,_=>False
def isInt (z:Int):Value->Bool
 | .int a _=>a == z
 | _=>false
theorem mtIndex:MtM X "list.index" vIndex:=by
 intro pins s σ H x vs v us Q I rx rv h
 unfold vIndex at h
 split at h
 ·rename_i a z
  unfold hIndex at h
  obtain⟨ns,j,hH,hj,hno,q⟩:=h
  cases rx
  obtain⟨u,rfl,ru⟩:=rv.one
  obtain⟨t,rfl⟩:=ru
  obtain⟨zl,its,n,r,hl,e⟩:=I.lstM hH
  rw[List.length_map] at hl zl
  have it:∀ (i:Nat) (w:Value),its[i]?=some w->∃ (y:Int) (tk:Tok),ns[i]?=some y/\w=.int y tk:=λi w hw=>by
   have hi:i<its.length:=(List.getElem?_eq_some_iff.mp hw).1
   have hi2:i<ns.length:=by omega
   have hx:(ns.map V.int)[i]?=some (.int ns[i]):=by rw[List.getElem?_map,List.getElem?_eq_getElem hi2];rfl
   obtain⟨w',hw',rw'⟩:=r.get hx
   rw[hw] at hw'
   cases hw'
   obtain⟨tk,rfl⟩:=rw'
   exact⟨ns[i],tk,List.getElem?_eq_getElem hi2,rfl⟩
  have hj2:j<its.length:=by have:=(List.getElem?_eq_some_iff.mp hj).1;omega
  have sl:sizeLine<2 ^ 62:=by rw[sizeLine_eq];decide
  refine call_meets F.slot_list_index ⟨_,e,rfl⟩ F.entry_list_index (F.args_list_index_2 _ _)
   (MeetsSeq.list_index a its.toArray n (.int z t) (isInt z) (λy hy=>?_) j (by simpa using hj2) (by omega) ?_ (λm hm hmj=>?_)) ⟨e,?_⟩
  ·have hy':y∈its:=by simpa using hy
   obtain⟨i,hi⟩:=List.mem_iff_getElem?.mp hy'
   obtain⟨w,tk,_,rfl⟩:=it i y hi
   exact MeetsSeq.EqGives.int w z tk t
  ·obtain⟨w,tk,h1,h2⟩:=it j its[j] (List.getElem?_eq_getElem hj2)
   rw[hj] at h1
   cases h1
   show isInt z its[j]=true
   rw[h2];simp[isInt]
  ·have hm':m<its.length:=by simpa using hm
   obtain⟨w,tk,h1,h2⟩:=it m its[m] (List.getElem?_eq_getElem hm')
   show isInt z its[m]=false
   rw[h2]
   have:w≠z:=λq=>hno m hmj (q▸h1)
   simpa [isInt] using this
  ·exact⟨.int j,H,I.tok _,⟨_,rfl⟩,q⟩
 ·exact h.elim
end
end L2
namespace L2
open PySem PySem.Spec PyProof.Rows
section
variable {X:Cx}{K:W.Frag}{e o value:Expr}{es:List Expr}{te ta tv to:TE}{t:TA}{pos p p2 pos' apos:Pos}{f m x:Str}{C:Addr}
structure Mth (P:Program)(w:World)(K:W.Frag)(mg:Str->Option Value)(base:Heap)(k:Nat)(C:Addr)(m:Str)(ps:List Str)(sp:Sp):Prop where
 cl:Cls K C
 ex:∃ f fd,FnOk P w K mg base CX0 k f fd ps sp/\Binds K fd ps []/\Meth K C m f
structure Mkd (P:Program)(w:World)(K:W.Frag)(mg:Str->Option Value)(base:Heap)(k:Nat)(C:Addr)(x:Str)(ps:List Str)(sp:Sp):Prop where
 ex:∃ f fd,FnOk P w K mg base CX0 k f fd ps sp/\Binds K fd ps []/\Mk K C f/\mg x=some (.ref C)
structure KNum (mg:Str->Option Value)(x:Str)(n:Int):Prop where
 ex:∃ t,mg x=some (.int n t)
end
end L2
namespace L2
open PySem PySem.Spec PyProof.Rows
section
variable {g:TG}{tt:TT}{te:TE}{σ0:St}{H1:Hp}{Q:Addr->Hp->Prop}{K:W.Frag}
end
end L2
namespace L2
open PySem PySem.Spec PyProof.Rows
def Ite1 (K : PySem.W.Frag) (a : Addr) : It :=
  ⟨fun i H => ∃ xs x, SqL K H a xs ∧ xs[i]? = some x,
   fun i H x H' => ∃ (T : Addr) (v : V), H T = none ∧ x = .ref T ∧ H' = upd H T (.tup [.int ((i + 1 : Nat) : Int), v]) ∧ ∀ xs, SqL K H a xs → xs[i]? = some v,
   fun i H => ∃ xs, SqL K H a xs ∧ xs.length ≤ i⟩
theorem draws1 {prog:Program}{w:World}{A:Around}(hh:A.handled=none)(it l:Addr)(hne:l≠it)(items:Array Value) :
  Draws prog w A it [it,l] (items.size+1) (λj v=>1<=j/\items[j-1]?=some v) (λj h=>1<=j/\h.IsListIter it l (j-1)/\h.IsList l items) where
 live:=λj h st=>(Draws.list (prog:=prog) (w:=w) hh it l hne items).live _ h st.2
 frame:=λj h h' st hk=>⟨st.1,(Draws.list (prog:=prog) (w:=w) hh it l hne items).frame _ h h' st.2 hk⟩
 item:=λj s Q E hj st hQ=>(Draws.list hh it l hne items).item (j-1) s Q E (by have:=st.1;omega) st.2 λx h' tk hP hst hs=>hQ x h' tk ⟨st.1,hP⟩ ⟨by omega,by
  rw[show j+1-1=j-1+1 by have:=st.1;omega];exact hst⟩ hs
 done:=λs Q E st hE=>(Draws.list hh it l hne items).done s Q E st.2 hE
theorem drawsE {prog:Program}{w:World}{A:Around}(hh:A.handled=none)(it l:Addr)(i:Nat)(items:Array Value)(hi:items[i]?=none) :
  Draws prog w A it [it,l] 0 (λ_ _=>False) (λ_ h=>h.IsListIter it l i/\h.IsList l items) where
 live:=λ_ _ st=>let ⟨o,ho,_⟩:=st.1;⟨o,ho⟩
 frame:=λ_ _ _ st hk=>⟨st.1.at λo e=>hk it (by simp) o e,st.2.at λo e=>hk l (by simp) o e⟩
 item:=λj s Q E hj _ _=>by omega
 done:=λs Q E st hE=>wpAny_nextOf_list_end hh st.1 st.2 hi hE
theorem turn_enum1 {P:Program}{w:World}{K:W.Frag}{elts:List Expr}{x1:Nat}{pos:Pos}(a e it:Addr)(hne:e≠it) :
  Turn P w K (.Tuple elts x1 pos) (Ite1 K a) [e,it] e (λi h=>(∃ old,IsEnum h e it ((i+1:Nat):Int) old)/\h.IsListIter it a i) where
 mem:=by simp
 obj:=λi h st b hb=>by
  rcases List.mem_cons.mp hb with rfl | hb
  ·obtain⟨⟨old,q⟩,_⟩:=st
   exact⟨_,q,λv z=>by
    have z':Data.fields _=Data.cell v:=z
    cases z'⟩
  ·have e':b=it:=by simpa using hb
   subst e'
   obtain⟨_,o,q,c,d⟩:=st
   exact⟨o,q,λv z=>by rw[d] at z;cases z⟩
 keep:=λi h h' st k=>by
  obtain⟨⟨old,q⟩,st⟩:=st
  exact⟨⟨old,k e (by simp) _ q⟩,st.at λo e=>k it (by simp) o e⟩
 item:=by
  intro X hP hw hK hc i pins s σ H E I hf st hg
  subst hP hw hK
  obtain⟨⟨old,he⟩,hit⟩:=st
  obtain⟨xs,x,hq,hx⟩:=hg
  obtain⟨its,rv,p,hz⟩:=I.list hq
  obtain⟨u,hu,ru⟩:=rv.get hx
  obtain⟨f0,f1,f2,f3,f4,f5⟩:=hf e (by simp)
  obtain⟨g0,g1,g2,g3,g4,g5⟩:=hf it (by simp)
  have nea:e≠a:=λz=>by
   obtain⟨o,ho,hc'⟩:=p.isList
   rw[<- z,show s.heap.get? e=_ from he] at ho
   cases ho
   exact absurd (show Value.type "enumerate"=Value.type "list" from hc'.1) (by decide)
  have il:=p.isList
  have hui:i<its.toArray.size:=by
   have:=(List.getElem?_eq_some_iff.mp hu).1
   simpa using this
  have nla:a≠it:=λz=>by
   obtain⟨o,ho,hc'⟩:=p.isList
   obtain⟨o2,q2,c2,d2⟩:=id hit
   rw[z,q2] at ho
   cases ho
   rw[c2] at hc'
   exact absurd hc'.1 (by decide)
  refine wpAny_pyNext_enum_itemD (i:=i+1) (n:=its.toArray.size+1) (fp:=[it,a]) (P:=λj v=>1<=j/\its.toArray[j-1]?=some v) (St:=λj h=>1<=j/\h.IsListIter it a (j-1)/\h.IsList a its.toArray) (draws1 (A:=X.A.in1) (show X.A.in1.handled=none from I.ok.hd hc) it a nla its.toArray) he ⟨by omega,hit,il⟩ (by omega) hne (by simp[hne,nea]) λx' h₁ tk hP heo hst₁ ht₁ hz₁ hk₁=>?_
  have hx':x'=u:=by
   have:=hP.2
   simp at this
   rw[this] at hu
   exact Option.some.inj hu
  subst hx'
  have hit₁:=hst₁.2.1
  refine⟨_,rfl,wpAny_letOwnedTupleGo_enum heo λh₂ he₂ hs₂=>?_⟩
  replace hs₂:Heap.SameBut e h₁ h₂:=hs₂
  have hel:e<s.heap.objs.size:=Heap.lt_size he
  have hT:H s.heap.objs.size=none:=I.hok.fresh (Nat.le_refl _)
  have ht₂:h₂.get? s.heap.objs.size=some { cls:=.type "tuple",data:=.seq #[.int ((i+1:Nat):Int) tk,x'] }:=(hs₂.2 _ (Nat.ne_of_gt hel)).trans ht₁
  have kk:∀ b o,b≠e->b≠it->s.heap.get? b=some o->h₂.get? b=some o:=λb o h1 h2 q=>(hs₂.2 b h1).trans (hk₁ b o h1 h2 q)
  have nT:∀ b o,s.heap.get? b=some o->b≠s.heap.objs.size:=λb o q=>Nat.ne_of_lt (Heap.lt_size q)
  have nch:∀ b,b∉[e,it]->b≠e/\b≠it:=λb hb=>⟨λz=>hb (by simp[z]),λz=>hb (by simp[z])⟩
  have nE:∀ b o,H b=some o->b≠e/\b≠it:=λb o q=>⟨λz=>(by rw[z,f0] at q;cases q),λz=>(by rw[z,g0] at q;cases q)⟩
  have I1:Inv X pins σ (upd H s.heap.objs.size (.tup [.int ((i+1:Nat):Int),x])) { s with heap:=h₂,gens:=s.gens,drawn:=s.drawn,toks:=tk+1 }:=by
   refine I.step (ch:=[e,it]) (λb hb=>?_) (λb o _ _ hc q _=>kk b o (nch b hc).1 (nch b hc).2 q) (λb o _ _ hc q _=>⟨o.slots,kk b o (nch b hc).1 (nch b hc).2 q⟩) (λb o _ q n=>by rw[upd_ne (nT b o q)];exact n)
    (λb o hc q=>⟨o,kk b o (nch b hc).1 (nch b hc).2 q⟩) (λb ys q=>by rw[upd_ne (ne_of_none q hT)];exact q) (λb o z q=>by rw[upd_ne (ne_of_none q hT)];exact q) (λb ps q=>⟨#[],by rw[upd_ne (ne_of_none q hT),q];simp⟩) (λm hm=>?_) (λb z q=>?_) I.bare
   ·rcases List.mem_cons.mp hb with rfl | hb
    ·exact⟨f3,f1,f4,f5⟩
    ·have e':b=it:=by simpa using hb
     subst e'
     exact⟨g3,g1,g4,g5⟩
   ·obtain⟨o,es,ep,ho,r⟩:=hm
    exact⟨o,es,ep,kk _ o (Ne.symm f1) (Ne.symm g1) ho,r⟩
   ·by_cases hb:b=s.heap.objs.size
    ·subst hb
     rw[upd_same] at q
     cases q
     exact⟨(by show 2<=sizeLine;rw[sizeLine_eq];decide),[.int ((i+1:Nat):Int) tk,x'],.cons ⟨_,rfl⟩ (.cons ru .nil),_,ht₂,rfl,0,rfl⟩
    ·rw[upd_ne hb] at q
     refine(I.hok b z q).stay (λc v hc q'=>?_) (λc q'=>by rw[upd_ne (ne_of_none q' hT)];exact q') λc ys q'=>by rw[upd_ne (ne_of_none q' hT)];exact q'
     rcases hc with rfl | hc
     ·exact kk c v (nE c z q).1 (nE c z q).2 q'
     ·exact kk c v (nE c _ hc).1 (nE c _ hc).2 q'
  refine⟨.ref s.heap.objs.size,_,I1,rfl,⟨s.heap.objs.size,x,hT,rfl,rfl,λys hy=>by rw[I.list_inj hy hq];exact hx⟩,⟨⟨x',?_⟩,?_⟩,λb hb=>?_⟩
  ·have:((i+1+1:Nat):Int)=((i+1:Nat):Int)+1:=by push_cast;rfl
   rw[this];exact he₂
  ·exact hit₁.extBut hs₂.extBut (Ne.symm hne)
  ·have hbl:b<s.heap.objs.size:=by
    rcases List.mem_cons.mp hb with rfl | hb
    ·exact hel
    ·have e':b=it:=by simpa using hb
     subst e'
     obtain⟨o,q,_⟩:=hit
     exact Heap.lt_size q
   rw[upd_ne (Nat.ne_of_lt hbl)]
   exact(hf b hb).1
 done:=by
  intro X hP hw hK hc i pins s σ H E I hf st hg
  subst hP hw hK
  obtain⟨⟨old,he⟩,hit⟩:=st
  obtain⟨xs,hq,hx⟩:=hg
  obtain⟨its,rv,p,hz⟩:=I.list hq
  obtain⟨g0,g1,g2,g3,g4,g5⟩:=hf it (by simp)
  have hl:=rv.length
  exact wpAny_pyNext_enum_endD (drawsE (A:=X.A.in1) (show X.A.in1.handled=none from I.ok.hd hc) it a i its.toArray (by simp;omega)) he ⟨hit,p.isList⟩ λh' eb=>⟨rfl,I.turned (t':=s.toks) (λb o hb e=>eb b o hb e) g0 g1 g3 g4 g5⟩
 self:=λA i s Q E st h=>by
  obtain⟨⟨old,he⟩,_⟩:=st
  exact wpAny_pyIter_enum he h
end L2
namespace L2
open PySem PySem.Spec PyProof.Rows
open AutoSeq1 (wpAny_loadPart')
theorem meets_enum1 (a:Addr)(its:Array Value)(k:Nat)(dc:Option Addr)(ss:Array (Option Value))(t:Tok) :
  Meets (Builtin.«enumerate.__new__» ⟨[.type "enumerate",.ref a],[("start",.int 1 t)]⟩) (λ_ R u=>u.heap.get? a=some ⟨.type "list",dc,.seq its k,ss⟩ /\
   ∀ h' tk,IsEnum h' (u.heap.objs.size+1) u.heap.objs.size 1 .none->h'.IsListIter u.heap.objs.size a 0->h'.objs.size=u.heap.objs.size+2->(∀ b o,u.heap.get? b=some o->h'.get? b=some o) ->
    R (.ok (.ret (.ref (u.heap.objs.size+1)))) { u with heap:=h',toks:=tk }) :=
 .of_wp λprog w A R u q=>by
  obtain⟨hp,gg,dd,tk,os⟩:=u
  obtain⟨ha,q⟩:=q
  have sub:=sub_enumerate
  have hL:Heap.IsList (Shared.heap ⟨hp,gg,dd,tk,os⟩) a its:=⟨_,ha,rfl,k,rfl⟩
  wp_walk using wpAny_loadPart' ha
  obtain⟨io,hio⟩:∃ o:Obj,o=⟨.type "list_iterator",none,.fields #[.ref a,.int 0 0],#[]⟩:=⟨_,rfl⟩
  obtain⟨eo,heo⟩:∃ o:Obj,o=⟨.type "enumerate",none,.fields #[.none,.bool false,.ref hp.objs.size,rawInt 1,.none,.none],#[]⟩:=⟨_,rfl⟩
  have z:(hp.push io).objs.size=hp.objs.size+1:=size_push' ..
  have fin:=q ((hp.push io).push eo) tk (by
   show _=_
   rw[show (Shared.heap ⟨hp,gg,dd,tk,os⟩).objs.size+1=(hp.push io).objs.size from z.symm,Heap.get?_push_size _ (by rw[heo];rfl),heo]) ⟨io,(Heap.get?_push_ne _ _ _ (by rw[z];exact Nat.ne_of_lt (Nat.lt_succ_self _))).trans (Heap.get?_push_size _ (by rw[hio];rfl)),by rw[hio],by rw[hio];rfl⟩ (by rw[size_push',z]) λb o e=>Heap.get?_push_of_some _ (Heap.get?_push_of_some _ e)
  have fin':R (.ok (.ret (.ref (hp.push io).objs.size))) ⟨(hp.push io).push eo,gg,dd,tk,os⟩:=by rw[z];exact fin
  subst hio heo
  refine wpAny_stack_any λst=>?_
  refine wpAny_pure ?_
  split
  ·rename_i cc _ _ _ _ _
   cases (cc == Value.type "enumerate")
   ·wp_walk using wpAny_pyIter_list hL,wpAny_loadPart' ha
    exact⟨_,rfl,fin'⟩
   ·wp_walk using wpAny_pyIter_list hL,wpAny_loadPart' ha
    exact⟨_,rfl,fin'⟩
  ·wp_walk using wpAny_pyIter_list hL,wpAny_loadPart' ha
   exact⟨_,rfl,fin'⟩
end L2
namespace L2
open PySem PySem.Spec PyProof.Rows
theorem typeCall_en1 (a b:Value):checkTypeCall "enumerate" ⟨[a],[("start",b)]⟩=pure ():=by kernel_rfl
theorem newCall_en1 (a b:Value):checkBuiltinCall "enumerate.__new__" ⟨[.type "enumerate",a],[("start",b)]⟩=pure ():=by kernel_rfl
theorem initOk_en1 (o a b:Value):argsOk "object.__init__" ⟨[o,a],[("start",b)]⟩:=by unfold argsOk;kernel_rfl
section
variable {prog:Program}{w:World}{A:Around}{E:Value->Shared->Prop}{s:Shared}
theorem init_en1 {self a b:Value}:Meets (Builtin.«object.__init__» ⟨[self,a],[("start",b)]⟩) (λ_ R u=>u.TypeIs self "enumerate"/\R (.ok (.ret .none)) u):=by
 have hl:=F.called_enumerate.init.lookup
 have hm:=F.called_enumerate.made
 refine Meets.of_wp λprog w A R u hu=>?_
 obtain⟨hT,hq⟩:=hu
 repeat (any_goals (first | assumption | wp_step))
 exact⟨Value.none,rfl,hq⟩
theorem call_enum1 {l:Addr}{its:Array Value}{t:Tok}{Q:Value->Shared->Prop}(hL:s.heap.IsList l its)
  (h:∀ h' tk,IsEnum h' (s.heap.objs.size+1) s.heap.objs.size 1 .none->h'.IsListIter s.heap.objs.size l 0->h'.objs.size=s.heap.objs.size+2->(∀ b o,s.heap.get? b=some o->h'.get? b=some o)->Q (.ref (s.heap.objs.size+1)) { s with heap:=h',toks:=tk }) :
  wpAny (model prog w) A (call (.type "enumerate") [.ref l] [("start",.int 1 t)]) Q E s:=by
 obtain⟨⟨c,dct,dt,sl⟩,hl,hc,n,hd⟩:=hL
 obtain rfl:c=.type "list":=hc
 obtain rfl:dt=.seq its n:=hd
 have ft:=F.called_enumerate
 obtain⟨c,tl,hmro⟩:=ft.mro
 have hmade:=ft.made
 have hsub:=ft.sub
 refine wpAny_call (codeAny_of_tree ?_);show wpAny _ _ (callAny (.type "enumerate") _) _ _ _
 refine wpAny_pure ⟨Code.quiet_builtin _ (by decide +kernel),codeAny_builtin F.entry_type_call ?_⟩;rw[Around.under_plain (weight_type_call_type "enumerate" _ _) (units_type_call_type "enumerate" _ _)]
 have h1:=ft.notType
 have h2:=ft.canCreate
 have hct:=typeCall_en1 (.ref l) (.int 1 t)
 repeat (any_goals (first | assumption | wp_step))
 have g:=meets_enum1 l its n dct sl t prog w A.in1 (wants (λobj s₁=>s₁.TypeIs obj "enumerate"/\Q obj s₁) E) s ⟨hl,λh' tk he hit hz hk=>⟨⟨_,he,rfl⟩,h h' tk he hit hz hk⟩⟩
 refine codeAny_mono (codeAny_call_builtin ft.plain F.entry_enumerate_new (wpAny_of_eq (newCall_en1 _ _) g)) λr s₁ hr=>?_
 match r,hr with
 | .error e,hr=>exact hr
 | .ok (.ret obj),hr =>
  obtain⟨hT,hq⟩:=hr
  have hli:=ft.init.lookup
  have hbi:=ft.init.bind obj
  repeat (any_goals (first | assumption | wp_step))
  refine codeAny_mono (codeAny_call_builtin ft.init.plain F.entry_object_init (ft.init.check _ _ _ _ _ _ _ _ hT (initOk_en1 obj (.ref l) (.int 1 t)) (init_en1 prog w A.in1 (wants (λr s₂=>r=.none/\Q obj s₂) E) s₁ ⟨hT,rfl,hq⟩))) λr₂ s₂ hr₂=>?_
  match r₂,hr₂ with
  | .error e,hr₂=>exact hr₂
  | .ok (.ret v),hr₂ =>
   obtain⟨rfl,hq⟩:=hr₂
   repeat (any_goals (first | assumption | wp_step))
end
end L2
namespace L2
open PySem PySem.Spec PyProof.Rows PySem.W
section
variable {X:Cx}
def iEnum1 (K:W.Frag)(ta tk:TA):TI:=λσ H R=>ta σ H λvs H1=>tk σ H1 λws H2=>∃ a,vs=[.ref a]/\ws=[.int 1]/\(∃ xs,SqL K H2 a xs)/\R (Ite1 K a) H2
theorem pi_enum1 {elts:List Expr}{x1:Nat}{tpos:Pos}{l e:Expr}{ta tk:TA}{p pos kpos:Pos}(hg:Gl X "enumerate")(hm:X.mg "enumerate"=none)(ha:PA X [l] ta)(hkw:PK X [⟨some "start",e,kpos⟩] tk)(hs:starEach [l] X.env=(false,eval l X.env)::starEach [] X.env:=by rfl) :
  PI X (.Tuple elts x1 tpos) (.Call (.Name "enumerate" p) [l] [⟨some "start",e,kpos⟩] pos) (iEnum1 X.K ta tk):=by
 intro pins s σ H R I h
 refine wpAny_Call_Name_kw (ld_blt I hg hm boot_enum ?_)
 refine W.callWith_of (P:=λ_=>True) (by rw[hs];rfl) (λhh _=>⟨Keeper.machine,.inr (.inl rfl),Looks.of_pure rfl⟩) (evalArgs_kw2 rfl (thn (ha pos pins s σ H _ I h) λus s1 ⟨vs,H1,I1,r1,q1⟩=>?_) hs)
 refine thn (hkw pos pins s1 σ H1 _ I1 q1) λws s2 ⟨zs,H2,I2,rz,q2⟩=>⟨trivial,?_⟩
 obtain⟨a,rfl,rfl,⟨xs,hxs⟩,q⟩:=q2
 obtain⟨u,rfl,ru⟩:=vals1 r1
 cases ru
 obtain⟨u,rfl,ru⟩:=vals1 rz
 obtain⟨t,rfl⟩:=ru
 obtain⟨its,rv,pl,hz⟩:=I2.list hxs
 refine call_enum1 (t:=t) pl.isList λh' tk' he hit hsz hk=>?_
 have I3:Inv X pins σ H2 { s2 with heap:=h',toks:=tk' }:=I2.kept (t':=tk') hk
 refine wpAny_pyIter_enum he ⟨s2.heap.objs.size+1,[s2.heap.objs.size+1,s2.heap.objs.size],_,Ite1 X.K a,H2,rfl,I3,turn_enum1 a _ _ (Nat.ne_of_gt (Nat.lt_succ_self _)),⟨⟨_,he⟩,hit⟩,λb hb=>?_,q⟩
 rcases List.mem_cons.mp hb with rfl | hb
 ·exact I2.fpOk (Nat.le_succ _) (I2.hok.fresh (Nat.le_succ _))
 ·have e':b=s2.heap.objs.size:=by simpa using hb
  subst e'
  exact I2.fpOk (Nat.le_refl _) (I2.hok.fresh (Nat.le_refl _))
end
section
variable {g:TG}{tt:TT}{te:TE}{σ0:St}{H1:Hp}{Q:Addr->Hp->Prop}{K:W.Frag}
theorem comp_en1 {a:Addr}(xs:List V)(R:Nat->Addr->St->Hp->List V->Prop)
  (h0:∀ D H',H1 D=none->Same H1 H'->H' D=some (.lst [])->R 0 D σ0 H' [])
  (hl:∀ i D σ H zs,H1 D=none->R i D σ H zs->SqL K H a xs)
  (hs:∀ i x T D σ H H' zs,xs[i]?=some x->H1 D=none->R i D σ H zs->H D=some (.lst zs)->H T=none->Same H H'->H' T=some (.tup [.int ((i+1:Nat):Int),x])->Turn1 g tt te D zs (.ref T) σ H' (R (i+1) D))
  (hd:∀ D σ H zs,H1 D=none->R xs.length D σ H zs->H D=some (.lst zs)->Q D H):∀ D,H1 D=none->compRead (Ite1 K a) D (upG g) (upT tt) (upE te) σ0 (upd H1 D (.lst [])) λH2=>Q D H2:=by
 intro D hD
 refine⟨λi m σ H=>m=xs.length-i/\i<=xs.length/\∃ zs,H D=some (.lst zs)/\R i D σ H zs,⟨xs.length,by simp,Nat.zero_le _,[],upd_same,h0 D _ hD (same_upd hD) upd_same⟩,?_⟩
 rintro i m σ H ⟨rfl,hi,zs,e,r⟩
 have q1:=hl i D σ H zs hD r
 by_cases hlt:i<xs.length
 ·refine .inr ⟨⟨xs,xs[i],q1,by simp[hlt]⟩,λσ H=>∃ zs,H D=some (.lst zs)/\R (i+1) D σ H zs,λσ' H' p'=>⟨xs.length-(i+1),by omega,rfl,hlt,p'⟩,λx H' y=>?_⟩
  obtain⟨T,v,hT,rfl,rfl,y1⟩:=y
  exact turn1_ok (hs i v T D σ H _ zs (y1 xs q1) hD r e hT (same_upd hT) upd_same) λσ H zs e r=>⟨zs,e,r⟩
 ·have ei:i=xs.length:=by omega
  subst ei
  exact .inl ⟨⟨xs,q1,Nat.le_refl _⟩,hd D σ H zs hD r e⟩
end
def mEnum1 (K:W.Frag)(ta:TA):TI:=λσ H R=>ta σ H λvs H1=>match vs with
 | [.ref a]=>(∃ xs,SqL K H1 a xs)/\R (Ite1 K a) H1
 | _=>False
section
variable {X:Cx}{K:W.Frag}{a e:Expr}{t:TA}{es:List Expr}{p p2 p4 pos:Pos}
theorem pi_kw1 {k:Nat}(hg:Gl X "enumerate")(hm:X.mg "enumerate"=none)(ha:PA X [a] t)(he:PE X e (tC (.int 1)))(hp:plainE a=true) :
  PI X (.Tuple es k p2) (.Call (.Name "enumerate" p) [a] [⟨some "start",e,p4⟩] pos) (mEnum1 X.K t) :=
 (pi_enum1 (elts:=es) (x1:=k) (tpos:=p2) (p:=p) (pos:=pos) (kpos:=p4) hg hm ha.up (pk_cons he pk_nil) (star_plain hp)).imp λσ H R h=>⟨_,h,λvs H1 q=>by
  split at q
  ·exact⟨_,rfl,rfl,q.1,q.2⟩
  ·exact q.elim⟩
theorem ki_enum1 {k:Nat}(hK:X.K=K)(hg:Gl X "enumerate")(hm:X.mg "enumerate"=none)(h:QA X [a] t)(he:QE X e (tC (.int 1))):QI X (.Tuple es k p2) (.Call (.Name "enumerate" p) [a] [⟨some "start",e,p4⟩] pos) (mEnum1 K t) :=
 hK▸⟨pi_kw1 hg hm h.h he.h (by have:=h.p;simpa using this)⟩
end
end L2
namespace L2
open PySem PySem.Spec PyProof.Rows PySem.SeqAt PySem.MeetsSeq3
open PySem.AutoSeq1 (wpAny_loadPart')
def LessAt (A:Around)(s:Shared)(x y:Value)(r:Bool):Prop :=
 ∀ (p:Program) (w:World) (E Q:Value->Shared->Prop),Q (.bool r) s->wpAny (model p w) A (richCompare .Lt x y) Q E s
inductive Lesser (A:Around)(s:Shared):List Value->List Value->Bool->Prop where
 | both:Lesser A s [] [] false
 | short {y:Value} {ys:List Value}:Lesser A s [] (y::ys) true
 | long {x:Value} {xs:List Value}:Lesser A s (x::xs) [] false
 | on {x y:Value} {xs ys:List Value} {r:Bool} (h:EqAt A s x y true) (t:Lesser A s xs ys r):Lesser A s (x::xs) (y::ys) r
 | off {x y:Value} {xs ys:List Value} {r:Bool} (h:EqAt A s x y false) (t:LessAt A s x y r):Lesser A s (x::xs) (y::ys) r
def SObj (h:Heap)(c:String)(a:Addr)(d:Option Addr)(vs:Array Value)(n:Nat)(sl:Array (Option Value)):Prop:=h.get? a=some { cls:=.type c,dict:=d,data:=.seq vs n,slots:=sl }
theorem less_loop {a b:Addr}{vs us:Array Value}{n m:Nat}{da db:Option Addr}{sa sb:Array (Option Value)}{r:Bool}:∀ (k i:Nat),vs.size-i=k ->
  Meets (Builtin.«list.__eq__.loop» ⟨[.ref a,.ref b,rawInt i,rawInt 0],[]⟩) λA R s=>SObj s.heap "list" a da vs n sa/\SObj s.heap "list" b db us m sb /\
   Lesser A.in1 s (vs.toList.drop i) (us.toList.drop i) r/\i<=vs.size/\i<=us.size/\R (.ok (.ret (.bool r))) s
 | 0,i,hk=>by
  intro prog w A R s ⟨ha,hb,hl,hi1,hi2,q⟩
  obtain⟨hp,gl,dr,tk,os⟩:=s
  unfold SObj at ha hb
  have d1:vs.toList.drop i=[]:=List.drop_eq_nil_of_le (by simp;omega)
  rw[d1] at hl
  wp_walk using wpAny_loadPart' ha,wpAny_loadPart' hb
  have v1:vs[((i:Nat):Int).toNat]?=none:=by simp;omega
  rw[v1]
  wp_walk using wpAny_loadPart' ha,wpAny_loadPart' hb
  show R (.ok (.ret (.bool (decide (vs.size<us.size))))) _
  have z:decide (vs.size<us.size)=r:=by
   generalize hd:us.toList.drop i=us' at hl
   cases hl with
   | both =>
    have:=congrArg List.length hd
    simp at this
    exact decide_eq_false (by omega)
   | short =>
    have:=congrArg List.length hd
    simp at this
    exact decide_eq_true (by omega)
  rw[z];exact q
 | k+1,i,hk=>by
  intro prog w A R s ⟨ha,hb,hl,hi1,hi2,q⟩
  obtain⟨hp,gl,dr,tk,os⟩:=s
  unfold SObj at ha hb
  have i1:i<vs.size:=by omega
  have d1:vs.toList.drop i=vs[i]::vs.toList.drop (i+1):=by rw[List.drop_eq_getElem_cons (by simpa using i1)];simp
  rw[d1] at hl
  wp_walk using wpAny_loadPart' ha,wpAny_loadPart' hb
  have v1:vs[((i:Nat):Int).toNat]?=some vs[i]:=by rw[Int.toNat_natCast];exact Array.getElem?_eq_getElem i1
  rw[v1]
  by_cases i2:i<us.size
  ·have d2:us.toList.drop i=us[i]::us.toList.drop (i+1):=by rw[List.drop_eq_getElem_cons (by simpa using i2)];simp
   rw[d2] at hl
   have v2:us[((i:Nat):Int).toNat]?=some us[i]:=by rw[Int.toNat_natCast];exact Array.getElem?_eq_getElem i2
   rw[v2]
   cases hl with
   | on he ht =>
    refine wpAny_bind (he prog w _ _ ?_)
    wp_walk
    rw[show ((i:Int)+1)=((i+1:Nat):Int) by omega]
    refine⟨plainId_quiet plain_eq_loop _,codeAny_builtin entry_eq_loop ?_⟩
    rw[Around.under_plainId plain_eq_loop _]
    exact less_loop k (i+1) (by omega) prog w A R _ ⟨ha,hb,ht,by omega,by omega,q⟩
   | off he ht =>
    refine wpAny_bind (he prog w _ _ ?_)
    wp_walk using wpAny_loadPart' ha,wpAny_loadPart' hb
    rw[v1,v2]
    refine wpAny_bind (ht prog w _ _ ?_)
    wp_walk
    exact q
  ·have d2:us.toList.drop i=[]:=List.drop_eq_nil_of_le (by simp;omega)
   rw[d2] at hl
   cases hl with
   | long =>
    have v2:us[((i:Nat):Int).toNat]?=none:=by simp;omega
    rw[v2]
    wp_walk using wpAny_loadPart' ha,wpAny_loadPart' hb
    have z:decide (vs.size<us.size)=false:=decide_eq_false (by omega)
    show R (.ok (.ret (.bool (decide (vs.size<us.size))))) _
    rw[z];exact q
theorem list_less {a b:Addr}{vs us:Array Value}{n m:Nat}{da db:Option Addr}{sa sb:Array (Option Value)}{r:Bool} :
  Meets (Builtin.«list.__lt__» ⟨[.ref a,.ref b],[]⟩) λA R s=>SObj s.heap "list" a da vs n sa/\SObj s.heap "list" b db us m sb/\Lesser A.in1 s vs.toList us.toList r/\R (.ok (.ret (.bool r))) s:=by
 intro prog w A R s ⟨ha,hb,hl,q⟩
 obtain⟨hp,gl,dr,tk,os⟩:=s
 unfold SObj at ha hb
 have sub:=AutoSeq1.sub_list_list
 wp_walk using wpAny_loadPart' ha,wpAny_loadPart' hb
 refine⟨plainId_quiet plain_eq_loop _,codeAny_builtin entry_eq_loop ?_⟩
 rw[Around.under_plainId plain_eq_loop _]
 exact less_loop vs.size 0 rfl prog w A R _ ⟨ha,hb,by simpa using hl,by omega,by omega,q⟩
theorem less_lists {A:Around}{s:Shared}{a b:Addr}{vs us:Array Value}{r:Bool}(ha:s.heap.IsList a vs)(hb:s.heap.IsList b us)(hu:A.units<cLine)(h:Lesser A.in1 s vs.toList us.toList r):LessAt A s (.ref a) (.ref b) r:=λp w E Q q=>by
 obtain⟨⟨c1,d1,x1,l1⟩,o1,hc1,n1,hd1⟩:=id ha
 obtain⟨⟨c2,d2,x2,l2⟩,o2,hc2,n2,hd2⟩:=id hb
 cases hc1;cases hd1;cases hc2;cases hd2
 exact richCompare_meets_room (op:=.Lt) ⟨_,o1,rfl⟩ ⟨_,o2,rfl⟩ F.slot_list_lt F.entry_list_lt (F.args_list_lt_2 _ _) list_less ⟨o1,o2,h,show Value.bool _≠Value.notImplemented/\Q _ s from ⟨(λx=>nomatch x),q⟩⟩ hu
end L2
namespace L2
open PySem PySem.Spec PyProof.Rows PySem.SeqAt
section
variable {p:Program}{w:World}{A:Around}{s0:Shared}
def KeptBy (h h':Heap):Prop:=∀ b o,h.get? b=some o->h'.get? b=some o
def LessBy (A:Around)(s:Shared)(us:List Value)(lt:Nat->Nat->Bool):Prop :=
 ∀ i j (x y:Value),i≠j->us[i]?=some x->us[j]?=some y->∀ (h:Heap) (t:Nat),KeptBy s.heap h->LessAt A { s with heap:=h,toks:=t } x y (lt i j)
def firstLow (lt:Nat->Nat->Bool):Nat->Nat
 | 0=>0
 | k+1=>if lt (k+1) (firstLow lt k) then k+1 else firstLow lt k
theorem firstLow_le (lt:Nat->Nat->Bool):∀ k,firstLow lt k<=k
 | 0=>Nat.le_refl _
 | k+1=>by unfold firstLow;have:=firstLow_le lt k;split<;>omega
def PairObj (x:Value)(c:Nat):Obj:={ cls:=.type "list",dict:=none,data:=.seq #[x,x] c,slots:=#[] }
theorem low_loop {I S l:Addr}{us:List Value}{lt:Nat->Nat->Bool}{R:Result->Shared->Prop}(hh:A.handled=none)(hl:s0.heap.IsList l us.toArray)(hI:s0.heap.get? I=none)(hS:s0.heap.get? S=none)(hSI:S≠I)(hlt:LessBy A.in1 s0 us lt)
  (hR:∀ v h t,us[firstLow lt (us.length-1)]?=some v->KeptBy s0.heap h->R (.ok (.ret v)) { s0 with heap:=h,toks:=t }) :
  ∀ (k j:Nat) (h:Heap) (t:Nat) (x:Value) (c:Nat),us.length-(j+1)=k->j+1<=us.length->KeptBy s0.heap h->h.IsListIter I l (j+1)->h.get? S=some (PairObj x c)->us[firstLow lt j]?=some x ->
   codeAny (model p w) A (.builtin "min.loop" ⟨[.ref I,.none,.ref S],[]⟩) R { s0 with heap:=h,toks:=t }:=by
 have nm:(toString "min"++toString ".loop":String)="min.loop":=by decide
 have nlI:l≠I:=λe=>by obtain⟨o,q,_⟩:=hl;rw[e,hI] at q;cases q
 have W:=Walks.list (prog:=p) (w:=w) (A:=A.in1) hh I l nlI us.toArray
 have z:us.toArray.size=us.length:=List.size_toArray ..
 have old:∀ {h h':Heap},KeptBy s0.heap h->(∀ b o,b∉[I]->h.get? b=some o->h'.get? b=some o)->KeptBy s0.heap h':=λk1 k2 b o e=>k2 b o (λhm=>by
  have:b=I:=by simpa using hm
  rw[this,hI] at e;cases e) (k1 b o e)
 have oldS:∀ {h:Heap} {f:Obj->Obj},KeptBy s0.heap h->KeptBy s0.heap (h.update S f):=λk1 b o e=>(Heap.get?_update_other _ _ (λq=>by rw[<- q,hS] at e;cases e)).trans (k1 b o e)
 have isl:∀ {h:Heap},KeptBy s0.heap h->h.IsList l us.toArray:=λk1=>hl.at λo e=>k1 l o e
 intro k
 induction k with
 | zero =>
  intro j h t x c hk hj kb it eS ex
  have jn:j+1=us.length:=by omega
  refine codeAny_builtin PySem.F.entry_min_loop ?_
  rw[Around.under_plainId PySem.F.plain_min_loop _]
  refine wpAny_bind (wpAny_seqItems eS rfl ?_)
  refine wpAny_bind (wpAny_tryCatch (W.done _ _ _ ⟨by rw[z,<- jn];exact it,isl kb⟩ λh' tk hk'=>?_))
  have eS':=hk' S _ (by simpa using hSI) eS
  refine wpAny_bind ?_
  refine wpAny_updateSeq eS' rfl (wpAny_bind (wpAny_letGo (wpAny_pure ?_)))
  exact hR x _ tk (by rw[<- jn];exact ex) (oldS (old kb hk'))
 | succ k ih =>
  intro j h t x c hk hj kb it eS ex
  have jn:j+1<us.length:=by omega
  refine codeAny_builtin PySem.F.entry_min_loop ?_
  rw[Around.under_plainId PySem.F.plain_min_loop _]
  refine wpAny_bind (wpAny_seqItems eS rfl ?_)
  refine wpAny_bind (wpAny_tryCatch (W.item (j+1) _ _ _ (by rw[z];exact jn) ⟨it,isl kb⟩ λv h' tk ev st hk'=>?_))
  have eS':=hk' S _ (by simpa using hSI) eS
  have kb':=old kb hk'
  have ev':us[j+1]?=some v:=by simpa using ev
  have fl:=firstLow_le lt j
  show wpAny (model p w) A.in1 (tryCatch (holding [v,v] (richCompare .Lt v x >>= _)) _ >>= _) _ _ _
  refine wpAny_bind (wpAny_tryCatch (wpAny_holding (wpAny_bind (hlt (j+1) (firstLow lt j) v x (by omega) ev' ex h' tk kb' p w _ _ ?_))))
  refine wpAny_bind (wpAny_holding (wpAny_truthy_bool ?_))
  refine wpAny_bind (wpAny_letGo (wpAny_pure ?_))
  cases hb:lt (j+1) (firstLow lt j) with
  | true =>
   simp only[if_true]
   refine wpAny_bind ?_
   refine wpAny_updateSeq eS' rfl (wpAny_bind (wpAny_letGo ?_))
   rw[nm]
   refine wpAny_pure ⟨plainId_quiet PySem.F.plain_min_loop _,ih (j+1) _ tk v _ (by omega) (by omega) (oldS kb') (st.1.at λo e=>(Heap.get?_update_other _ _ hSI).trans e) (Heap.get?_update_self _ eS' rfl) (by simp only[firstLow,hb,if_true];exact ev')⟩
  | false =>
   simp only[Bool.false_eq_true,if_false]
   refine wpAny_bind (wpAny_letGo ?_)
   rw[nm]
   exact wpAny_pure ⟨plainId_quiet PySem.F.plain_min_loop _,ih (j+1) _ tk x c (by omega) (by omega) kb' st.1 eS' (by simp only[firstLow,hb,Bool.false_eq_true,if_false];exact ex)⟩
theorem low_call {l:Addr}{us:List Value}{lt:Nat->Nat->Bool}{Q E:Value->Shared->Prop}(hh:A.handled=none)(hl:s0.heap.IsList l us.toArray)(hne:0<us.length)(hlt:LessBy A.in1 s0 us lt)
  (hQ:∀ v h t,us[firstLow lt (us.length-1)]?=some v->KeptBy s0.heap h->Q v { s0 with heap:=h,toks:=t }):wpAny (model p w) A (call (.builtin "min") [.ref l]) Q E s0:=by
 have nm:(toString "min"++toString ".loop":String)="min.loop":=by decide
 refine call_function_tree PySem.F.kind_min PySem.F.plain_min PySem.F.entry_min (PySem.F.args_min1 _) ?_
 refine wpAny_bind (wpAny_of_eq (show Builtin.Builtins.bindParams "min" ["key","default"] 0 ⟨[],[]⟩=pure [none,none] from rfl) ?_)
 refine wpAny_bind (wpAny_pure ?_)
 refine wpAny_bind (wpAny_pyIter_list hl ?_)
 refine wpAny_bind (wpAny_newObj_type ?_)
 rw[nm]
 refine wpAny_pure ⟨plainId_quiet PySem.F.plain_min_loop _,?_⟩
 have hlt0:l<s0.heap.objs.size:=by obtain⟨_,e,_⟩:=hl;exact Heap.lt_size e
 generalize hob:({ cls:=.type "list_iterator",data:=.fields #[.ref l,.int 0 0] }:Obj)=ob
 have fI:(s0.heap.push ob).get? s0.heap.objs.size=some ob:=by subst hob;exact Heap.get?_push_size _ rfl
 have nI:s0.heap.get? s0.heap.objs.size=none:=by
  cases e:s0.heap.get? s0.heap.objs.size with
  | none=>rfl
  | some o=>exact absurd (Heap.lt_size e) (Nat.lt_irrefl _)
 generalize hob2:({ cls:=.type "list",data:=.seq #[] }:Obj)=ob2
 have zI:(s0.heap.push ob).objs.size=s0.heap.objs.size+1:=Heap.size_push ..
 have nSI:(s0.heap.push ob).objs.size≠s0.heap.objs.size:=by rw[zI];omega
 have nS:¬ (s0.heap.push ob).objs.size<s0.heap.objs.size:=by rw[zI];omega
 generalize hS:(s0.heap.push ob).objs.size=S at *
 have e2:((s0.heap.push ob).push ob2).get? S=some ob2:=by subst hS;subst hob2;exact Heap.get?_push_size _ rfl
 have fS:s0.heap.get? S=none:=by
  cases e:s0.heap.get? S with
  | none=>rfl
  | some o=>exact absurd (Heap.lt_size e) nS
 have kb2:KeptBy s0.heap ((s0.heap.push ob).push ob2):=λb o e=>Heap.get?_push_of_some _ (Heap.get?_push_of_some _ e)
 have nlI:l≠s0.heap.objs.size:=Nat.ne_of_lt hlt0
 have W:=Walks.list (prog:=p) (w:=w) (A:=A.in1) hh s0.heap.objs.size l nlI us.toArray
 have z:us.toArray.size=us.length:=List.size_toArray ..
 have it0:((s0.heap.push ob).push ob2).IsListIter s0.heap.objs.size l 0:=⟨ob,Heap.get?_push_of_some _ fI,by rw[<- hob],by rw[<- hob];rfl⟩
 refine codeAny_builtin PySem.F.entry_min_loop ?_
 rw[Around.under_plainId PySem.F.plain_min_loop _]
 subst hob2
 refine wpAny_bind (wpAny_seqItems e2 rfl ?_)
 refine wpAny_bind (wpAny_tryCatch (W.item 0 _ _ _ (by rw[z];exact hne) ⟨it0,hl.at λo e=>kb2 l o e⟩ λv h' tk ev st hk'=>?_))
 have eS':=hk' S _ (by simpa using nSI) e2
 have kb':KeptBy s0.heap h':=λb o e=>hk' b o (λhm=>by
  have:b=s0.heap.objs.size:=by simpa using hm
  rw[this,nI] at e;cases e) (kb2 b o e)
 show wpAny (model p w) A.in1 (updateSeq S (λ_=>#[v,v]) >>= _) _ _ _
 refine wpAny_bind ?_
 refine wpAny_updateSeq eS' rfl ?_
 rw[nm]
 have oldS:∀ {f:Obj->Obj},KeptBy s0.heap (h'.update S f):=λb o e=>(Heap.get?_update_other _ _ (λq=>by rw[<- q,fS] at e;cases e)).trans (kb' b o e)
 refine wpAny_pure ⟨plainId_quiet PySem.F.plain_min_loop _,?_⟩
 exact low_loop (s0:=s0) hh hl nI fS nSI hlt hQ _ 0 _ tk v _ rfl hne oldS (st.1.at λo e=>(Heap.get?_update_other _ _ nSI).trans e) (Heap.get?_update_self _ eS' rfl) (by simpa [firstLow] using ev)
end
end L2
namespace L2
open PySem PySem.Spec PyProof.Rows PySem.SeqAt
structure Ord {α:Type}(lt:α->α->Bool):Prop where
 irr:∀ x,lt x x=false
 tr:∀ x y z,lt x y=true->lt y z=true->lt x z=true
 tot:∀ x y,x≠y->lt x y=true\/lt y x=true
def lexB {α:Type}[DecidableEq α](lt:α->α->Bool):List α->List α->Bool
 | [],[]=>false
 | [],_::_=>true
 | _::_,[]=>false
 | x::xs,y::ys=>if x=y then lexB lt xs ys else lt x y
section
variable {α:Type}[DecidableEq α]{lt:α->α->Bool}
theorem lexB_irr:∀ xs:List α,lexB lt xs xs=false
 | []=>rfl
 | x::xs=>by simp only[lexB,if_true];exact lexB_irr xs
theorem lexB_tr (o:Ord lt):∀ xs ys zs:List α,lexB lt xs ys=true->lexB lt ys zs=true->lexB lt xs zs=true
 | [],[],_,h,_=>nomatch h
 | [],_::_,[],_,h=>nomatch h
 | [],_::_,_::_,_,_=>rfl
 | _::_,[],_,h,_=>nomatch h
 | _::_,_::_,[],_,h=>nomatch h
 | x::xs,y::ys,z::zs,h1,h2=>by
  simp only[lexB] at h1 h2 ⊢
  by_cases e1:x=y
  ·subst e1
   rw[if_pos rfl] at h1
   by_cases e2:x=z
   ·subst e2
    rw[if_pos rfl] at h2 ⊢
    exact lexB_tr o xs ys zs h1 h2
   ·rw[if_neg e2] at h2 ⊢;exact h2
  ·rw[if_neg e1] at h1
   by_cases e2:y=z
   ·subst e2
    rw[if_neg e1];exact h1
   ·rw[if_neg e2] at h2
    have h3:=o.tr x y z h1 h2
    by_cases e3:x=z
    ·subst e3
     rw[o.irr] at h3;cases h3
    ·rw[if_neg e3];exact h3
theorem lexB_tot (o:Ord lt):∀ xs ys:List α,xs≠ys->lexB lt xs ys=true\/lexB lt ys xs=true
 | [],[],h=>absurd rfl h
 | [],_::_,_=>.inl rfl
 | _::_,[],_=>.inr rfl
 | x::xs,y::ys,h=>by
  simp only[lexB]
  by_cases e:x=y
  ·subst e
   rw[if_pos rfl,if_pos rfl]
   exact lexB_tot o xs ys λq=>h (by rw[q])
  ·rw[if_neg e,if_neg λq=>e q.symm]
   exact o.tot x y e
theorem lexB_ord (o:Ord lt):Ord (lexB lt):=⟨lexB_irr,lexB_tr o,lexB_tot o⟩
end
theorem int_ord:Ord (λa b:Int=>decide (a<b)):=⟨λx=>by simp,λx y z h1 h2=>by simp at *;omega,λx y h=>by simp;omega⟩
def ltI:List Int->List Int->Bool:=lexB λa b:Int=>decide (a<b)
theorem ltI_ord:Ord ltI:=lexB_ord int_ord
inductive CV where
 | n (i:Int)
 | s (l:List Int)
deriving DecidableEq
section
variable {X:Cx}{pins:List (Addr×Obj)}{σ:St}{H:Hp}{s:Shared}
theorem less_ints {A:Around}:∀ {us vs:List Value} {l m:List Int},IntsAre us l->IntsAre vs m->Lesser A s us vs (ltI l m)
 | _,_,_,_,.nil,.nil=>.both
 | _,_,_,_,.nil,.cons _ _ _=>.short
 | _,_,_,_,.cons _ _ _,.nil=>.long
 | _,_,_,_,.cons a t h1,.cons b t' h2=>by
  have e:=EqAt.int_int (A:=A) (s:=s) a t b t'
  unfold ltI
  simp only[lexB]
  by_cases z:a=b
  ·rw[if_pos z]
   rw[beq_iff_eq.mpr z] at e
   exact .on e (less_ints h1 h2)
  ·rw[if_neg z]
   rw[beq_eq_false_iff_ne.mpr z] at e
   exact .off e λp w E Q q=>lt_int q
end
end L2
namespace L2
open PySem PySem.Spec PyProof.Rows PySem.SeqAt
theorem lowI_min {cs:Nat->List Int}:∀ (n i:Nat),i<=n->ltI (cs i) (cs (firstLow (λi j=>ltI (cs i) (cs j)) n))=false
 | 0,i,h=>by
  have:i=0:=by omega
  subst this
  exact ltI_ord.irr _
 | n+1,i,h=>by
  have ih:=lowI_min (cs:=cs) n
  simp only[firstLow]
  by_cases hb:ltI (cs (n+1)) (cs (firstLow (λi j=>ltI (cs i) (cs j)) n))=true
  case neg =>
   rw[if_neg hb]
   have hb:=(Bool.not_eq_true _).mp hb
   by_cases e:i=n+1
   ·subst e;exact hb
   ·exact ih i (by omega)
  case pos =>
   rw[if_pos hb]
   by_cases e:i=n+1
   ·subst e;exact ltI_ord.irr _
   ·have h1:=ih i (by omega)
    cases h2:ltI (cs i) (cs (n+1)) with
    | false=>rfl
    | true=>rw[ltI_ord.tr _ _ _ h2 hb] at h1;cases h1
section
variable {X:Cx}
@[irreducible] def hMinL (a:Addr)(H:Hp)(Q:VK):Prop:=∃ (as:List Addr) (cs:Nat->List Int),H a=some (.lst (as.map V.ref))/\as≠[]/\(∀ (i:Nat) b,as[i]?=some b->H b=some (.lst ((cs i).map V.int))) /\
 ∀ (k:Nat) b,as[k]?=some b->(∀ i,i<as.length->ltI (cs i) (cs k)=false)->Q (.ref b) H
def vMinL:List V->Hp->VK->Prop:=λxs H Q=>match xs with
 | [.ref a]=>hMinL a H Q
 | _=>False
theorem kMinL {n:Nat}(hr:Room n X.A)(hc:X.calm=true):CallR X (.builtin "min") vMinL:=by
 intro pins s σ H xs us Q I r h
 unfold vMinL at h
 split at h
 ·rename_i a
  unfold hMinL at h
  obtain⟨as,cs,ha,hne,hit,q⟩:=h
  obtain⟨u,rfl,rx⟩:=vals1 r
  cases rx
  obtain⟨its,r',pl,_⟩:=I.list (SqL.of ha)
  have hl:=r'.length
  rw[List.length_map] at hl
  have hpos:0<as.length:=List.length_pos_iff.mpr hne
  have its_at:∀ (i:Nat) (v:Value),its[i]?=some v->∃ b,as[i]?=some b/\v=.ref b:=λi v hv=>by
   have hi:i<as.length:=by have:=(List.getElem?_eq_some_iff.mp hv).1;omega
   have e:(as.map V.ref)[i]?=some (.ref as[i]):=by rw[List.getElem?_map,List.getElem?_eq_getElem hi];rfl
   exact⟨as[i],List.getElem?_eq_getElem hi,paired_at r' i e hv⟩
  have hu:=hr.units
  refine low_call (lt:=λi j=>ltI (cs i) (cs j)) (I.ok.hd hc) pl.isList (by omega) (λi j x y nij hx hy h' t kb=>?_) λv h' t hv kb=>?_
  ·obtain⟨b1,g1,rfl⟩:=its_at i x hx
   obtain⟨b2,g2,rfl⟩:=its_at j y hy
   have I':Inv X pins σ H { s with heap:=h',toks:=t }:=I.kept (t':=t) kb
   obtain⟨us1,v1,t1,_⟩:=I'.list (SqL.of (hit i b1 g1))
   obtain⟨us2,v2,t2,_⟩:=I'.list (SqL.of (hit j b2 g2))
   exact less_lists t1.isList t2.isList (by show X.A.units+1<cLine;omega) (less_ints (by simpa using intsAre_of v1) (by simpa using intsAre_of v2))
  ·obtain⟨b,hb,rfl⟩:=its_at _ v hv
   refine⟨.ref b,H,I.kept kb,rfl,q _ b hb λi hi=>?_⟩
   exact lowI_min (cs:=cs) (its.length-1) i (by omega)
 ·exact h.elim
theorem i_minL {a:Addr}{H:Hp}{Q:VK}{as:List Addr}(cs:Nat->List Int)(ha:H a=some (.lst (as.map V.ref)))(hne:as≠[])(hit:∀ (i:Nat) b,as[i]?=some b->H b=some (.lst ((cs i).map V.int)))
  (q:∀ (k:Nat) b,as[k]?=some b->(∀ i,i<as.length->ltI (cs i) (cs k)=false)->Q (.ref b) H):hMinL a H Q:=by unfold hMinL;exact⟨as,cs,ha,hne,hit,q⟩
end
end L2
namespace SW
open PySem
def Rise (xs:Array Nat):Prop:=xs.toList.Pairwise (·<·)
theorem rise_at {xs:Array Nat}(h:Rise xs){i j:Nat}(hij:i<j)(hj:j<xs.size):xs[i]'(by omega)<xs[j]:=by
 have:=(List.pairwise_iff_getElem.mp h) i j (by simpa using (by omega:i<xs.size)) (by simpa using hj) hij
 simpa using this
theorem bel_go {xs:Array Nat}{j:Nat}(R:Rise xs):∀ (fuel lo hi:Nat),hi-lo<=fuel->lo<=hi->hi<=xs.size->(∀ i (h:i<xs.size),i<lo->xs[i]<j)->(∀ i (h:i<xs.size),hi<=i->j<=xs[i]) ->
  SetTable.below.go xs j fuel lo hi<=xs.size/\(∀ i (h:i<xs.size),i<SetTable.below.go xs j fuel lo hi->xs[i]<j)/\(∀ i (h:i<xs.size),SetTable.below.go xs j fuel lo hi<=i->j<=xs[i]):=by
 intro fuel
 induction fuel with
 | zero =>
  intro lo hi h1 h2 h3 h4 h5
  have:lo=hi:=by omega
  subst this
  unfold SetTable.below.go
  exact⟨h3,h4,h5⟩
 | succ n ih =>
  intro lo hi h1 h2 h3 h4 h5
  unfold SetTable.below.go
  split
  ·rename_i hlt
   have hm:(lo+hi) / 2<xs.size:=by omega
   have e:xs.getD ((lo+hi) / 2) j=xs[(lo+hi) / 2]:=by simp[Array.getD,hm]
   dsimp only
   rw[e]
   split
   ·rename_i hj
    refine ih _ _ (by omega) (by omega) h3 (λi hi' hl=>?_) h5
    rcases Nat.lt_or_ge i ((lo+hi) / 2) with c | c
    ·exact Nat.lt_trans (rise_at R c hm) hj
    ·have:i=(lo+hi) / 2:=by omega
     subst this;exact hj
   ·rename_i hj
    refine ih _ _ (by omega) (by omega) (by omega) h4 λi hi' hl=>?_
    rcases Nat.lt_or_ge ((lo+hi) / 2) i with c | c
    ·exact Nat.le_of_lt (Nat.lt_of_le_of_lt (Nat.le_of_not_lt hj) (rise_at R c hi'))
    ·have:i=(lo+hi) / 2:=by omega
     subst this;exact Nat.le_of_not_lt hj
  ·have:lo=hi:=by omega
   subst this
   exact⟨h3,h4,h5⟩
theorem bel {xs:Array Nat}(j:Nat)(R:Rise xs):SetTable.below xs j<=xs.size/\(∀ i (h:i<xs.size),i<SetTable.below xs j->xs[i]<j)/\(∀ i (h:i<xs.size),SetTable.below xs j<=i->j<=xs[i]) :=
 bel_go R _ _ _ (by omega) (Nat.zero_le _) (Nat.le_refl _) (λi h hl=>absurd hl (Nat.not_lt_zero _)) λi h hl=>absurd h (by omega)
theorem bel_mem {xs:Array Nat}{j:Nat}(R:Rise xs)(h:j∈xs.toList):xs[SetTable.below xs j]?=some j:=by
 obtain⟨i,hi,e⟩:=List.mem_iff_getElem.mp h
 obtain⟨b1,b2,b3⟩:=bel j R
 have hi':i<xs.size:=by simpa using hi
 have e':xs[i]=j:=by simpa using e
 have c1:SetTable.below xs j<=i:=by
  rcases Nat.lt_or_ge i (SetTable.below xs j) with c | c
  ·exact absurd (b2 i hi' c) (by omega)
  ·exact c
 have c2:SetTable.below xs j=i:=by
  rcases Nat.lt_or_ge (SetTable.below xs j) i with c | c
  ·have:=rise_at R c hi'
   have:=b3 _ (by omega:SetTable.below xs j<xs.size) (Nat.le_refl _)
   omega
  ·omega
 rw[c2,Array.getElem?_eq_getElem hi',e']
theorem ins_list {α:Type}(xs:Array α)(p:Nat)(x:α):(SetTable.insertAt xs p x).toList=xs.toList.take p++x::xs.toList.drop p:=by
 unfold SetTable.insertAt
 simp[List.take_of_length_le]
theorem rise_ins {xs:Array Nat}{j:Nat}(R:Rise xs)(h:j∉xs.toList):Rise (SetTable.insertAt xs (SetTable.below xs j) j):=by
 obtain⟨b1,b2,b3⟩:=bel j R
 unfold Rise
 rw[ins_list]
 have hA:∀ a∈xs.toList.take (SetTable.below xs j),a<j:=λa ha=>by
  obtain⟨i,hi,e⟩:=List.mem_iff_getElem.mp ha
  rw[List.length_take] at hi
  have:=b2 i (by simpa using (by omega:i<xs.toList.length)) (by omega)
  rw[List.getElem_take] at e
  rw[<- e];simpa using this
 have hB:∀ a∈xs.toList.drop (SetTable.below xs j),j<a:=λa ha=>by
  obtain⟨i,hi,e⟩:=List.mem_iff_getElem.mp ha
  rw[List.length_drop] at hi
  have:=b3 (SetTable.below xs j+i) (by simpa using (by omega:SetTable.below xs j+i<xs.toList.length)) (by omega)
  rw[List.getElem_drop] at e
  have ne:a≠j:=λq=>h (q▸List.mem_of_mem_drop ha)
  have e2:xs[SetTable.below xs j+i]'(by simpa using (by omega:SetTable.below xs j+i<xs.toList.length))=a:=by simpa using e
  omega
 refine List.pairwise_append.mpr ⟨List.Pairwise.sublist (List.take_sublist _ _) R,List.pairwise_cons.mpr ⟨hB,List.Pairwise.sublist (List.drop_sublist _ _) R⟩,λa ha b hb=>?_⟩
 rcases List.mem_cons.mp hb with rfl | hb
 ·exact hA a ha
 ·exact Nat.lt_trans (hA a ha) (hB b hb)
structure Ok (t:SetTable):Prop where
 r:Rise t.place
 d:t.dummies=#[]
theorem no_dummy {t:SetTable}(h:Ok t)(j:Nat):t.slot j≠.dummy:=by
 unfold SetTable.slot
 dsimp only
 split
 ·exact λh=>nomatch h
 ·have:SetTable.has t.dummies j=false:=by rw[h.d];rfl
  rw[this]
  exact λh=>nomatch h
theorem slot_free {t:SetTable}(h:Ok t){j:Nat}(e:t.slot j=.empty):j∉t.place.toList:=by
 intro hm
 unfold SetTable.slot at e
 dsimp only at e
 rw[bel_mem h.r hm] at e
 simp at e
theorem adv_dummy (t:SetTable)(p:SetTable.Probe):(t.advance p).dummy=p.dummy:=by
 unfold SetTable.advance
 split
 ·rfl
 ·rfl
theorem probe_free {t:SetTable}(h:Ok t){f:Nat->Int}{x:Int}{j:Nat}{d:Option Nat}:∀ (fuel:Nat) (p:SetTable.Probe),p.dummy=none->SetTable.probe.go t f x fuel p=some (.empty j d)->t.slot j=.empty/\d=none:=by
 intro fuel
 induction fuel with
 | zero=>intro p _ e;unfold SetTable.probe.go at e;cases e
 | succ n ih =>
  intro p hp e
  unfold SetTable.probe.go at e
  split at e
  ·rename_i hs
   injection e with e
   injection e with e1 e2
   subst e1
   exact⟨hs,by rw[<- e2];exact hp⟩
  ·rename_i hs
   exact absurd hs (no_dummy h _)
  ·split at e
   ·cases e
   ·exact ih _ ((adv_dummy _ _).trans hp) e
theorem free_ok {t:SetTable}(h:Ok t){x:Int}{j:Nat}{b:Bool}(e:t.freeSlot x=some (j,b)):t.slot j=.empty:=by
 unfold SetTable.freeSlot at e
 split at e
 ·rename_i j' d hq
  obtain⟨q1,q2⟩:=probe_free h _ _ rfl hq
  subst q2
  injection e with e
  injection e with e1 e2
  have:j'=j:=e1
  rw[<- this];exact q1
 ·cases e
theorem stand_ok (t:SetTable)(n:Nat):Ok (t.standIn n):=⟨by
 unfold SetTable.standIn Rise
 simp[List.pairwise_lt_range],rfl⟩
theorem put_ok {t:SetTable}(h:Ok t){j:Nat}(e:t.slot j=.empty):Ok (t.put j).1:=by
 have hh:SetTable.has t.dummies j=false:=by rw[h.d];rfl
 unfold SetTable.put
 dsimp only
 refine⟨rise_ins h.r (slot_free h e),?_⟩
 show (if SetTable.has t.dummies j=true then _ else t.dummies)=#[]
 rw[hh,if_neg (by simp)]
 exact h.d
theorem lay_ok {t:SetTable}(h:Ok t)(es:Array (Int×Value))(x:Int)(v:Value):Ok (layNew t es x v).2.1/\(layNew t es x v).2.1.led=t.led:=by
 unfold layNew
 split
 ·rename_i j b hq
  have:=put_ok h (free_ok h hq)
  dsimp only
  unfold SetTable.orStandIn
  split
  ·exact⟨this,rfl⟩
  ·exact⟨stand_ok _ _,rfl⟩
 ·exact⟨stand_ok _ _,rfl⟩
theorem fst_sub {f:Nat->Option Nat}:∀ l:List Nat,List.Sublist ((l.filterMap λj=>(f j).map λb=>(j,b)).map (·.1)) l
 | []=>List.Sublist.refl _
 | a::l=>by
  rw[List.filterMap_cons]
  cases hf:f a with
  | none=>simpa [hf] using (fst_sub l).cons a
  | some b=>simpa [hf] using fst_sub l
theorem laid_ok {m fi mo:Nat}{le pl:Bool}{hs:Array Int}{t:SetTable}{o:Array Nat}(e:SetTable.laid m fi mo le pl hs=some (t,o)):Ok t/\t.led=le:=by
 unfold SetTable.laid at e
 cases hc:SetTable.layClean m hs with
 | none=>rw[hc] at e;cases e
 | some ow =>
  rw[hc] at e
  injection e with e
  injection e with e1 e2
  subst e1
  refine⟨⟨?_,rfl⟩,rfl⟩
  unfold Rise
  dsimp only
  exact List.Pairwise.sublist (fst_sub (f:=λj=>ow.getD j none) _) List.pairwise_lt_range
theorem relay_ok (t:SetTable)(es:Array (Int×Value))(n:Nat):Ok (relayAll t es n).2.1/\(relayAll t es n).2.1.led=t.led:=by
 unfold relayAll
 split
 ·rename_i t' o hq
  unfold SetTable.relaid at hq
  dsimp only
  split
  ·exact laid_ok hq
  ·exact⟨stand_ok _ _,rfl⟩
 ·exact⟨stand_ok _ _,rfl⟩
end SW
namespace SW
open PySem PySem.Spec PyProof.Rows
def byT (w:World):Bool:=w.params.followText "set-order"
def vN:Value->Int
 | .int n _=>n
 | _=>0
def SetIs (w:World)(o:Obj)(ns:List Int):Prop :=
 o.ExactSet/\ns.Nodup/\∃ es ep t,o.data=.set es ep t/\(∀ e∈es.toList,∃ n tk,e=(hashInt n,Value.int n tk))/\(es.toList.map λe=>vN e.2).Perm ns/\t.fits es.size=true/\Ok t/\t.led=!byT w
theorem fresh_is (w:World):SetIs w { cls:=.type "set",dict:=none,data:=.set #[] 0 (.fresh 0 0 (!byT w)) } [] :=
 ⟨⟨rfl,rfl,rfl⟩,List.nodup_nil,#[],0,_,rfl,λe he=>by simp at he,List.Perm.refl _,by rfl,⟨List.Pairwise.nil,rfl⟩,rfl⟩
section
variable {prog:Program}{w:World}{A:Around}{E:Value->Shared->Prop}{s:Shared}
theorem elems {es:List (Int×Value)}(h:∀ e∈es,∃ n tk,e=(hashInt n,Value.int n tk)):ElemsOf (intKind prog w) es:=λe he=>by
 obtain⟨n,tk,rfl⟩:=h e he
 exact⟨⟨n,intKind_is _ _ _ _,rfl⟩,rfl⟩
theorem new_is {Q:Value->Shared->Prop}(h:Q (.ref s.heap.objs.size) { s with heap:=s.heap.push { cls:=.type "set",dict:=none,data:=.set #[] 0 (.fresh 0 0 (!byT w)) } }) :
  wpAny (model prog w) A (newSet (.type "set")) Q E s:=by
 unfold newSet setsByText
 refine wpAny_bind (wpAny_bind (wpAny_askSetting (wpAny_pure ?_)))
 dsimp only
 simp only[newObj]
 exact wpAny_bind (wpAny_alloc (wpAny_pure h))
theorem put_get {h:Heap}{a:Addr}{o:Obj}{es es':Array (Int×Value)}{ep:Nat}{t t':SetTable}(ho:h.get? a=some o)(hd:o.data=.set es ep t) :
  (h.update a (Obj.putSet es' t')).get? a=some { o with data:=.set es' (ep+1) t' }:=by
 have:=Heap.get?_update_self (Obj.putSet es' t') ho (by rw[putSet_of es' t' hd];rfl)
 rwa [putSet_of es' t' hd] at this
theorem tail_is {g:Bool->Sem Unit}(hg:∀ (b:Bool) (s1:Shared) (Q':Unit->Shared->Prop),Q' () s1->wpAny (model prog w) A (g b) Q' E s1)
  {a:Addr} {o:Obj} {es es1:Array (Int×Value)} {ep:Nat} {t t2:SetTable} {ns:List Int} (ho:s.heap.get? a=some o) (hex:o.ExactSet) (hd:o.data=.set es ep t) (hnd:ns.Nodup)
  (hel:∀ e∈es1.toList,∃ n tk,e=(hashInt n,Value.int n tk)) (hp:(es1.toList.map λe=>vN e.2).Perm ns) (hb:es1.size<scanBound) (hf:t2.fits es1.size=true) (hok:Ok t2) (hl:t2.led=!byT w) {wd:Bool} {R:Option Bool->Shared->Prop}
  (h:∀ h' o',Heap.SameBut a s.heap h'->h'.get? a=some o'->SetIs w o' ns->R (some true) { s with heap:=h' }) :
  wpAny (model prog w) A (do
    storeSet a es1 t2
    if (!wd&&t2.tooFull)=true then do
      g (relayAll t2 es1 (SetTable.grown es1.size)).2.2
      storeSet a (relayAll t2 es1 (SetTable.grown es1.size)).1 (relayAll t2 es1 (SetTable.grown es1.size)).2.1
      pure (some true)
     else pure (some true)) R E s:=by
 refine wpAny_bind (wpAny_storeSet_of ho hd ?_ (fits_of_scanBound hb))
 have ho1:=put_get (es':=es1) (t':=t2) ho hd
 have sb1:=Heap.SameBut.update s.heap a (Obj.putSet es1 t2)
 split
 ·have q1:=relayAll_perm t2 es1 (SetTable.grown es1.size)
  have q2:=relayAll_fits t2 es1 (SetTable.grown es1.size)
  obtain⟨q3,q4⟩:=relay_ok t2 es1 (SetTable.grown es1.size)
  generalize relayAll t2 es1 (SetTable.grown es1.size)=Rl at q1 q2 q3 q4 ⊢
  obtain⟨es2,t3,gave⟩:=Rl
  dsimp only at q1 q2 q3 q4 ⊢
  have hz:es2.size<scanBound:=by rw[<- Array.length_toList,q1.length_eq,Array.length_toList];exact hb
  refine wpAny_bind (hg _ _ _ (wpAny_bind (wpAny_storeSet_of ho1 rfl ?_ (fits_of_scanBound hz))))
  have ho2:=put_get (es':=es2) (t':=t3) ho1 rfl
  exact wpAny_pure (h _ _ (sb1.trans (Heap.SameBut.update _ a _)) ho2 ⟨hex,hnd,es2,_,t3,rfl,λe he=>hel e (q1.mem_iff.mp he),(q1.map _).trans hp,q2,q3,q4.trans hl⟩)
 ·exact wpAny_pure (h _ _ sb1 ho1 ⟨hex,hnd,es1,_,t2,rfl,hel,hp,hf,hok,hl⟩)
theorem zqfk {t:SetTable}(h:Ok t):Ok ({ t with plain:=false }:SetTable):=⟨h.r,h.d⟩
theorem add_is {a:Addr}{o:Obj}{ns:List Int}{k:Int}{u:Tok}{Q:Bool->Shared->Prop}(ho:s.heap.get? a=some o)(hs:SetIs w o ns)(hb:ns.length+1<scanBound)
  (h:∀ h' o' ns' b,Heap.SameBut a s.heap h'->h'.get? a=some o'->SetIs w o' ns'->(∀ j,j∈ns'↔j∈ns\/j=k)->ns'.length<=ns.length+1->Q b { s with heap:=h' }) :
  wpAny (model prog w) A (setAddHashed a (.int k u) (hashInt k)) Q E s:=by
 obtain⟨hex,hnd,es,ep,t,hd,hel,hp,hf,hok,hl⟩:=id hs
 have hz:es.size=ns.length:=by have:=hp.length_eq;simpa using this
 unfold setAddHashed setAddHashedIn
 refine wpAny_holding (wpAny_bind (wpAny_setState_of ho hd hf ?_))
 dsimp only
 rw[byScan_of (knd:=intKind prog w) (x:=.int k u) rfl (by omega) (elems hel)]
 simp only[↓reduceIte]
 unfold setAddByScan
 refine wpAny_bind (wpAny_bind (wpAny_rule (wpAny_bind (wpAny_setScan_of (knd:=intKind prog w) (k:=k) (intKind_is _ _ _ _) ho hd hf (elems hel) ?_))))
 cases hr:List.findIdx? (λe=>(intKind prog w).is k e.2) es.toList with
 | some j =>
  dsimp only
  obtain⟨hj,hpj,_⟩:=List.findIdx?_eq_some_iff_getElem.mp hr
  have hm:k∈ns:=by
   obtain⟨n,tk,e⟩:=hel _ (List.getElem_mem hj)
   have e2:n=k:=by
    rw[e] at hpj
    exact((intKind prog w).inj _ _ _ hpj (intKind_is _ _ _ _)).symm
   refine hp.mem_iff.mp (List.mem_map.mpr ⟨_,List.getElem_mem hj,?_⟩)
   rw[e];exact e2
  have:=h s.heap o ns false (Heap.SameBut.refl a s.heap) ho hs (λj=>⟨.inl,λq=>q.elim id λe=>e▸hm⟩) (by omega)
  exact wpAny_pure (wpAny_pure this)
 | none =>
  dsimp only
  have hm:k∉ns:=λq=>by
   obtain⟨e,he,q1⟩:=List.mem_map.mp (hp.mem_iff.mpr q)
   obtain⟨n,tk,rfl⟩:=hel e he
   have:=List.findIdx?_eq_none_iff.mp hr _ he
   have e2:n=k:=q1
   subst e2
   rw[intKind_is] at this
   cases this
  have hgw:∀ (b:Bool) {s1:Shared} {Q':Unit->Shared->Prop},Q' () s1->wpAny (model prog w) A (match b with | true=>rule "set.scan.the-table-gave-way" | false=>pure ()) Q' E s1 :=
   λb s1 Q' hq=>by cases b<;>first | exact wpAny_pure hq | exact wpAny_rule hq
  have q1:=layNew_perm t es (hashInt k) (.int k u)
  have q2:=layNew_fits t es (hashInt k) (.int k u)
  obtain⟨q3,q4⟩:=lay_ok hok es (hashInt k) (.int k u)
  show wpAny _ _ (match layNew t es (hashInt k) (.int k u) with | (es,t,wd,gave)=>_) _ _ _
  generalize layNew t es (hashInt k) (.int k u)=L at q1 q2 q3 q4 ⊢
  obtain⟨es1,t1,wd,gave⟩:=L
  dsimp only at q1 q2 q3 q4 ⊢
  rw[Array.toList_push] at q1
  have hel1:∀ e∈es1.toList,∃ n tk,e=(hashInt n,Value.int n tk):=λe he=>by
   rcases List.mem_append.mp (q1.mem_iff.mp he) with c | c
   ·exact hel e c
   ·exact⟨k,u,List.mem_singleton.mp c⟩
  have hp1:(es1.toList.map λe=>vN e.2).Perm (ns++[k]):=by
   refine(q1.map _).trans ?_
   rw[List.map_append]
   exact hp.append_right _
  have hz1:es1.size=ns.length+1:=by have:=hp1.length_eq;simpa using this
  have hnd1:(ns++[k]).Nodup:=List.nodup_append.mpr ⟨hnd,by simp,λa ha b hb e=>hm (by rw[<- List.mem_singleton.mp hb,<- e];exact ha)⟩
  refine wpAny_bind (hgw _ ?_)
  have fin:∀ h' o',Heap.SameBut a s.heap h'->h'.get? a=some o'->SetIs w o' (ns++[k])->Q true { s with heap:=h' }:=λh' o' sb e1 e2 =>
   h h' o' _ true sb e1 e2 (λj=>by simp) (by simp)
  split
  ·refine wpAny_bind ?_
   rw[hashByValue_scannable 8 rfl]
   refine wpAny_pure ?_
   refine tail_is ?_ ho hex hd hnd1 hel1 hp1 (by omega) (by split<;>first | exact q2 | exact SetTable.fits_plain_off q2) (by split<;>first | exact q3 | exact zqfk q3) (by split<;>exact q4.trans hl) ?_
   ·intro b s1 Q' hq;cases b<;>first | exact wpAny_pure hq | exact wpAny_rule hq
   ·intro h' o' sb e1 e2;dsimp only;exact wpAny_pure (fin h' o' sb e1 e2)
  ·refine wpAny_bind (wpAny_pure ?_)
   simp only[↓reduceIte]
   refine tail_is ?_ ho hex hd hnd1 hel1 hp1 (by omega) q2 q3 (q4.trans hl) ?_
   ·intro b s1 Q' hq;cases b<;>first | exact wpAny_pure hq | exact wpAny_rule hq
   ·intro h' o' sb e1 e2;dsimp only;exact wpAny_pure (fin h' o' sb e1 e2)
theorem addv_is {a:Addr}{o:Obj}{ns:List Int}{k:Int}{u:Tok}{Q:Bool->Shared->Prop}(ho:s.heap.get? a=some o)(hs:SetIs w o ns)(hb:ns.length+1<scanBound)
  (h:∀ h' o' ns' b,Heap.SameBut a s.heap h'->h'.get? a=some o'->SetIs w o' ns'->(∀ j,j∈ns'↔j∈ns\/j=k)->ns'.length<=ns.length+1->Q b { s with heap:=h',toks:=s.toks+1 }) :
  wpAny (model prog w) A (setAdd a (.int k u)) Q E s:=by
 unfold setAdd
 refine wpAny_holding (wpAny_bind ((intKind prog w).pyHash (k:=k) (intKind_is _ _ _ _) ?_))
 exact add_is (s:={ s with toks:=s.toks+1 }) ho hs hb h
end
section
variable {prog:Program}{w:World}{A:Around}{R:Result->Shared->Prop}{I:Addr}{fp wr:List Addr}{n:Nat}{P:Nat->Value->Prop}{St:Nat->Heap->Prop}
end
section
variable {prog:Program}{w:World}{A:Around}{E:Value->Shared->Prop}{s:Shared}
end
end SW
namespace SW
open PySem PySem.Spec PyProof.Rows
section
variable {prog:Program}{w:World}{A:Around}{E:Value->Shared->Prop}{s:Shared}
end
end SW
namespace SW
open PySem PySem.Spec PyProof.Rows
theorem slot_next:Slot "set_iterator" "__next__" "set_iterator.__next__" :=
 .of (owner:="set_iterator") (n:="__next__") (by rw[typeLookup_type,builtinLookup_eq_fast];kernel_rfl) (by decide +kernel) (by decide +kernel) (by decide +kernel) (by first | exact .inl (by decide +kernel) | exact .inr (by decide +kernel)) (by rw[isSubtype_type];kernel_rfl)
theorem entry_next:entryFor table "set_iterator.__next__"=some Builtin.«set_iterator.__next__»:=entryFor_of_tree (by kernel_rfl)
theorem owner_si:Manifest.owners.lookup (String.ofList ['r','o','t','a','r','e','t','i','_','t','e','s'].reverse)=some Manifest.sig_set_iterator:=by kernel_rfl
theorem args_next (a:Value):argsOk "set_iterator.__next__" ⟨[a],[]⟩:=by
 unfold argsOk;rw[signature?_of (id:="set_iterator.__next__") (n:=['_','_','t','x','e','n','_','_']) (o:=['r','o','t','a','r','e','t','i','_','t','e','s']) (by kernel_rfl) owner_si];kernel_rfl
theorem slot_iter:Slot "set_iterator" "__iter__" "set_iterator.__iter__" :=
 .of (owner:="set_iterator") (n:="__iter__") (by rw[typeLookup_type,builtinLookup_eq_fast];kernel_rfl) (by decide +kernel) (by decide +kernel) (by decide +kernel) (by first | exact .inl (by decide +kernel) | exact .inr (by decide +kernel)) (by rw[isSubtype_type];kernel_rfl)
theorem entry_iter:entryFor table "set_iterator.__iter__"=some Builtin.«dict_keyiterator.__iter__»:=entryFor_alias (id':="dict_keyiterator.__iter__") (by kernel_rfl) rfl (by decide +kernel) (by kernel_rfl)
theorem args_iter (a:Value):argsOk "set_iterator.__iter__" ⟨[a],[]⟩:=by
 unfold argsOk;rw[signature?_of (id:="set_iterator.__iter__") (n:=['_','_','r','e','t','i','_','_']) (o:=['r','o','t','a','r','e','t','i','_','t','e','s']) (by kernel_rfl) owner_si];kernel_rfl
theorem entry_siter:entryFor table "set.__iter__"=some Builtin.«frozenset.__iter__»:=entryFor_alias (id':="frozenset.__iter__") (by kernel_rfl) rfl (by decide +kernel) (by kernel_rfl)
def SIt (h:Heap)(I:Addr)(f:Value)(i:Nat)(D:Addr)(n ep:Nat):Prop:=∃ o,h.get? I=some o/\o.cls=.type "set_iterator"/\o.data=.fields #[f,rawInt i,.ref D,rawInt n,rawInt ep]
theorem SIt.at {h h':Heap}{I D:Addr}{f:Value}{i n ep:Nat}(x:SIt h I f i D n ep)(e:∀ o,h.get? I=some o->h'.get? I=some o):SIt h' I f i D n ep:=let ⟨o,ho,r⟩:=x;⟨o,e _ ho,r⟩
theorem SIt.ty {s:Shared}{I D:Addr}{f:Value}{i n ep:Nat}(x:SIt s.heap I f i D n ep):s.TypeIs (.ref I) "set_iterator":=let ⟨o,ho,hc,_⟩:=x;⟨o,ho,hc⟩
section
variable {prog:Program}{w:World}{A:Around}{E:Value->Shared->Prop}{s:Shared}
theorem ch_ok {M:Model}{src:Source}{n:Nat}{Q:Nat->Shared->Prop}(hn:n≠0)(h:∀ i d,i<n->Q i { s with drawn:=d }):wpAny M A (choose src n) Q E s:=λΓ p hΓ=>by
 show n≠0/\_
 exact⟨hn,h _ _ (Nat.mod_lt _ (Nat.pos_of_ne_zero hn))⟩
theorem pick_perm {α:Type}{xs:List α}{i:Nat}(h:i<xs.length):(xs[i]::xs.eraseIdx i).Perm xs:=by
 rw[List.eraseIdx_eq_take_drop_succ]
 refine List.perm_middle.symm.trans ?_
 rw[<- List.drop_eq_getElem_cons h,List.take_append_drop]
theorem draw_ok {M:Model}{α:Type}:∀ (n:Nat) (xs:List α) (s:Shared) (Q:List α->Shared->Prop),xs.length=n->(∀ ys d,ys.Perm xs->Q ys { s with drawn:=d })->wpAny M A (drawOrder n xs) Q E s:=by
 intro n
 induction n with
 | zero =>
  intro xs s Q hl h
  have:xs=[]:=List.length_eq_zero_iff.mp hl
  subst this
  unfold drawOrder
  exact wpAny_pure (h [] s.drawn (List.Perm.refl _))
 | succ n ih =>
  intro xs s Q hl h
  obtain⟨x,xs,rfl⟩:∃ x r,xs=x::r:=by
   cases xs with
   | nil=>cases hl
   | cons x r=>exact⟨x,r,rfl⟩
  unfold drawOrder
  refine wpAny_bind (ch_ok (by simp) λi d hi=>?_)
  rw[List.getElem?_eq_getElem hi]
  dsimp only
  refine wpAny_bind (ih _ _ _ (by rw[List.length_eraseIdx_of_lt hi];simpa using hl) λys d' hy=>wpAny_pure (h _ d' ?_))
  exact(hy.cons _).trans (pick_perm hi)
theorem stop_raise {Q:Fin->Shared->Prop}{E:Value->Shared->Prop}(hh:A.handled=none)(h:∀ h' e,(∀ b o,s.heap.get? b=some o->h'.get? b=some o)->(∃ o,h'.get? e=some o/\o.cls=.type "StopIteration")->E (.ref e) { s with heap:=h' }) :
  wpAny (model prog w) A (newExc (.type "StopIteration") [] >>= λe=>raiseNew e) Q E s:=by
 refine wpAny_bind ?_
 simp only[newExc,newTuple]
 refine wpAny_bind (wpAny_newObj_type ?_ (by size_fits))
 refine wpAny_bind (m:=firstArgMember _ _) (wpAny_of_eq (a:=Value.none) (by first | rfl | (simp only[firstArgMember];rfl)) ?_)
 refine wpAny_newObj_type ?_ (by size_fits)
 simp only[raiseNew]
 refine wpAny_bind (wpAny_handled ?_)
 rw[show A.handled=none from hh]
 refine wpAny_bind (wpAny_pure (wpAny_throw ?_))
 exact h _ _ (λb o q=>Heap.get?_push_of_some _ (Heap.get?_push_of_some _ q)) ⟨_,Heap.get?_push_size _ rfl,rfl⟩
theorem next_of {I:Addr}{f:Value}{i n ep:Nat}{D:Addr}{Q:Option Value->Shared->Prop}(hit:SIt s.heap I f i D n ep)
  (h:wpAny (model prog w) A.in1 (Builtin.«set_iterator.__next__» ⟨[.ref I],[]⟩) (λfin s'=>∃ r,fin=.done (.ret r)/\Q (some r) s') (λe s'=>∃ a o,e=.ref a/\s'.heap.get? a=some o/\o.cls=.type "StopIteration"/\Q none s') s) :
  wpAny (model prog w) A (pyNext (.ref I)) Q E s:=by
 unfold pyNext
 refine wpAny_bind (wpAny_attempt (wpAny_callSpecial?_slot (name:=Str.ofString "__next__") hit.ty slot_next (wpAny_call_entry slot_next hit.ty entry_next ?_ (args_next _))))
 refine wpAny_mono h (λfin s' ⟨r,e,q⟩=>⟨r,e,wpAny_pure q⟩) λe s' ⟨a,o,e1,e2,e3,q⟩=>?_
 subst e1
 exact wpAny_bind (wpAny_isInstance (T:="StopIteration") (b:=true) ⟨o,e2,e3⟩ isSubtype_stop (wpAny_pure q))
theorem same2 {h:Heap}{I D:Addr}{f:Value}{i n ep:Nat}{o:Obj}(ho:h.get? I=some o)(hd:o.data=.fields #[f,rawInt i,.ref D,rawInt n,rawInt ep])(k:Nat)(x:Value) :
  (h.update I (Obj.mapFields (·.setIfInBounds k x))).get? I=some (Obj.mapFields (·.setIfInBounds k x) o):=Heap.get?_update_self _ ho (Obj.isFreed_of_fields (Obj.data_mapFields hd _))
theorem int_item {I D:Addr}{sl i n ep nx:Nat}{o:Obj}{es:Array (Int×Value)}{t:SetTable}{x:Value}{Q:Option Value->Shared->Prop}(hit:SIt s.heap I (rawInt sl) i D n ep)(hD:s.heap.get? D=some o)(hd:o.data=.set es ep t)(hf:t.fits es.size=true)(hn:es.size=n)
  (hx:∀ (E':Value->Shared->Prop) (Q':Option (Value×Nat)->Shared->Prop),Q' (some (x,nx)) s->wpAny (model prog w) A.in1 (setNext D sl i ep) Q' E' s)
  (hQ:∀ h',SIt h' I (rawInt nx) (i+1) D n ep->Heap.SameBut I s.heap h'->Q (some x) { s with heap:=h' }):wpAny (model prog w) A (pyNext (.ref I)) Q E s:=by
 obtain⟨oi,hoi,hci,hdi⟩:=id hit
 refine next_of hit ?_
 unfold Builtin.«set_iterator.__next__»
 refine wpAny_bind (wpAny_pure (wpAny_bind (wpAny_fieldsOf hoi hdi ?_)))
 show wpAny _ _ (setEntries D >>= _) _ _ s
 refine wpAny_bind (wpAny_setEntries_of hD hd hf ?_)
 rw[if_neg (by rw[hn];simp)]
 show wpAny _ _ (setNext D (Int.toNat (sl:Int)) (Int.toNat (i:Int)) (Int.toNat (ep:Int)) >>= _) _ _ s
 simp only[Int.toNat_natCast]
 refine wpAny_bind (hx _ _ ?_)
 show wpAny _ _ (setField (.ref I) 0 (rawInt nx) >>= _) _ _ s
 refine wpAny_bind (wpAny_setField hoi hdi (by simp) ?_)
 have e1:=same2 hoi hdi 0 (rawInt nx)
 have d1:(Obj.mapFields (·.setIfInBounds 0 (rawInt nx)) oi).data=.fields #[rawInt nx,rawInt i,.ref D,rawInt n,rawInt ep]:=by rw[Obj.data_mapFields hdi];rfl
 show wpAny _ _ (setField (.ref I) 1 (rawInt ((i:Int)+1)) >>= _) _ _ _
 refine wpAny_bind (wpAny_setField e1 d1 (by simp) ?_)
 refine wpAny_pure ⟨_,rfl,hQ _ ⟨_,same2 e1 d1 1 _,?_,?_⟩ ((Heap.SameBut.update ..).trans (Heap.SameBut.update ..))⟩
 ·exact(Obj.cls_mapFields ..).trans ((Obj.cls_mapFields ..).trans hci)
 ·rw[Obj.data_mapFields d1];rfl
theorem int_end {I D:Addr}{sl i n ep:Nat}{o:Obj}{es:Array (Int×Value)}{t:SetTable}{Q:Option Value->Shared->Prop}(hh:A.handled=none)(hit:SIt s.heap I (rawInt sl) i D n ep)(hD:s.heap.get? D=some o)(hd:o.data=.set es ep t)(hf:t.fits es.size=true)(hn:es.size=n)
  (hx:∀ (E':Value->Shared->Prop) (Q':Option (Value×Nat)->Shared->Prop),Q' none s->wpAny (model prog w) A.in1 (setNext D sl i ep) Q' E' s)
  (hQ:∀ h',(∀ b o,b≠I->s.heap.get? b=some o->h'.get? b=some o)->Q none { s with heap:=h' }):wpAny (model prog w) A (pyNext (.ref I)) Q E s:=by
 obtain⟨oi,hoi,hci,hdi⟩:=id hit
 refine next_of hit ?_
 unfold Builtin.«set_iterator.__next__»
 refine wpAny_bind (wpAny_pure (wpAny_bind (wpAny_fieldsOf hoi hdi ?_)))
 show wpAny _ _ (setEntries D >>= _) _ _ s
 refine wpAny_bind (wpAny_setEntries_of hD hd hf ?_)
 rw[if_neg (by rw[hn];simp)]
 show wpAny _ _ (setNext D (Int.toNat (sl:Int)) (Int.toNat (i:Int)) (Int.toNat (ep:Int)) >>= _) _ _ s
 simp only[Int.toNat_natCast]
 refine wpAny_bind (hx _ _ ?_)
 show wpAny _ _ (setField (.ref I) 2 .none >>= _) _ _ s
 refine wpAny_bind (wpAny_setField hoi hdi (by simp) ?_)
 refine stop_raise hh λh' e k ⟨o2,q1,q2⟩=>⟨e,o2,rfl,q1,q2,hQ h' λb o hb q=>k b o ((Heap.get?_update_other _ _ (Ne.symm hb)).trans q)⟩
theorem tup_item {I D T:Addr}{i n ep p:Nat}{o ot:Obj}{c:Nat}{ps:Array Value}{es:Array (Int×Value)}{t:SetTable}{x:Int×Value}{u:Tok}{Q:Option Value->Shared->Prop}(hit:SIt s.heap I (.ref T) i D n ep)(hD:s.heap.get? D=some o)(hd:o.data=.set es ep t)(hf:t.fits es.size=true)(hn:es.size=n)
  (hT:s.heap.get? T=some ot) (hTd:ot.data=.seq ps c) (hp:ps[i]?=some (.int p u)) (hx:es[p]?=some x)
  (hQ:∀ h',SIt h' I (.ref T) (i+1) D n ep->Heap.SameBut I s.heap h'->Q (some x.2) { s with heap:=h' }):wpAny (model prog w) A (pyNext (.ref I)) Q E s:=by
 obtain⟨oi,hoi,hci,hdi⟩:=id hit
 refine next_of hit ?_
 unfold Builtin.«set_iterator.__next__»
 refine wpAny_bind (wpAny_pure (wpAny_bind (wpAny_fieldsOf hoi hdi ?_)))
 show wpAny _ _ (setEntries D >>= _) _ _ s
 refine wpAny_bind (wpAny_setEntries_of hD hd hf ?_)
 rw[if_neg (by rw[hn];simp)]
 show wpAny _ _ (seqItems? (.ref T) >>= _) _ _ s
 refine wpAny_bind (wpAny_seqItems hT hTd ?_)
 show wpAny _ _ (match ps[Int.toNat (i:Int)]? with | some (.int place _)=>_ | some _=>_ | none=>_) _ _ s
 rw[Int.toNat_natCast,hp]
 show wpAny _ _ (setNextDrawn D (Int.toNat (p:Int)) (Int.toNat (ep:Int)) >>= _) _ _ s
 simp only[Int.toNat_natCast]
 unfold setNextDrawn
 refine wpAny_bind (wpAny_bind (wpAny_setState_of hD hd hf ?_))
 dsimp only
 rw[if_neg (by simp)]
 rw[hx]
 refine wpAny_pure ?_
 show wpAny _ _ (setField (.ref I) 1 (rawInt ((i:Int)+1)) >>= _) _ _ _
 refine wpAny_bind (wpAny_setField hoi hdi (by simp) ?_)
 refine wpAny_pure ⟨_,rfl,hQ _ ⟨_,same2 hoi hdi 1 _,?_,?_⟩ (Heap.SameBut.update ..)⟩
 ·exact(Obj.cls_mapFields ..).trans hci
 ·rw[Obj.data_mapFields hdi];rfl
theorem tup_end {I D T:Addr}{i n ep:Nat}{o ot:Obj}{c:Nat}{ps:Array Value}{es:Array (Int×Value)}{t:SetTable}{Q:Option Value->Shared->Prop}(hh:A.handled=none)(hit:SIt s.heap I (.ref T) i D n ep)(hD:s.heap.get? D=some o)(hd:o.data=.set es ep t)(hf:t.fits es.size=true)(hn:es.size=n)
  (hT:s.heap.get? T=some ot) (hTd:ot.data=.seq ps c) (hp:ps[i]?=none)
  (hQ:∀ h',(∀ b o,b≠I->s.heap.get? b=some o->h'.get? b=some o)->Q none { s with heap:=h' }):wpAny (model prog w) A (pyNext (.ref I)) Q E s:=by
 obtain⟨oi,hoi,hci,hdi⟩:=id hit
 refine next_of hit ?_
 unfold Builtin.«set_iterator.__next__»
 refine wpAny_bind (wpAny_pure (wpAny_bind (wpAny_fieldsOf hoi hdi ?_)))
 show wpAny _ _ (setEntries D >>= _) _ _ s
 refine wpAny_bind (wpAny_setEntries_of hD hd hf ?_)
 rw[if_neg (by rw[hn];simp)]
 show wpAny _ _ (seqItems? (.ref T) >>= _) _ _ s
 refine wpAny_bind (wpAny_seqItems hT hTd ?_)
 show wpAny _ _ (match ps[Int.toNat (i:Int)]? with | some (.int place _)=>_ | some _=>_ | none=>_) _ _ s
 rw[Int.toNat_natCast,hp]
 show wpAny _ _ (setField (.ref I) 0 (rawInt 0) >>= _) _ _ s
 refine wpAny_bind (wpAny_setField hoi hdi (by simp) ?_)
 have e1:=same2 hoi hdi 0 (rawInt 0)
 have d1:(Obj.mapFields (·.setIfInBounds 0 (rawInt 0)) oi).data=.fields #[rawInt 0,rawInt i,.ref D,rawInt n,rawInt ep]:=by rw[Obj.data_mapFields hdi];rfl
 show wpAny _ _ (setField (.ref I) 2 .none >>= _) _ _ _
 refine wpAny_bind (wpAny_setField e1 d1 (by simp) ?_)
 refine stop_raise hh λh' e k ⟨o2,q1,q2⟩=>⟨e,o2,rfl,q1,q2,hQ h' λb o hb q=>k b o ((Heap.get?_update_other _ _ (Ne.symm hb)).trans ((Heap.get?_update_other _ _ (Ne.symm hb)).trans q))⟩
end
end SW
namespace SW
open PySem PySem.Spec PyProof.Rows
theorem pick_go {α:Type}(f:Nat->Nat):∀ (n k:Nat) (l:List α) (out:Array α),l.length=n->(pickOrder.go f n k l out).toList.Perm (out.toList++l):=by
 intro n
 induction n with
 | zero =>
  intro k l out hl
  have:l=[]:=List.length_eq_zero_iff.mp hl
  subst this
  unfold pickOrder.go
  simp
 | succ n ih =>
  intro k l out hl
  unfold pickOrder.go
  have hi:f k % l.length<l.length:=Nat.mod_lt _ (by omega)
  rw[List.getElem?_eq_getElem hi]
  dsimp only
  refine(ih _ _ _ (by rw[List.length_eraseIdx_of_lt hi];omega)).trans ?_
  rw[Array.toList_push,List.append_assoc]
  exact(pick_perm hi).append_left _
theorem pick_ok {α:Type}(f:Nat->Nat)(xs:Array α):(pickOrder f xs).toList.Perm xs.toList:=by
 unfold pickOrder
 simpa using pick_go f xs.size 0 xs.toList #[] (by simp)
theorem ints_vals {es:List (Int×Value)}(h:∀ e∈es,∃ n tk,e=(hashInt n,Value.int n tk)):IntsAre (es.map (·.2)) (es.map λe=>vN e.2):=by
 induction es with
 | nil=>exact .nil
 | cons e es ih =>
  obtain⟨n,tk,rfl⟩:=h e (.head _)
  exact .cons n tk (ih λx hx=>h x (.tail _ hx))
section
variable {prog:Program}{w:World}{A:Around}{E:Value->Shared->Prop}{s:Shared}
theorem self_is {I D:Addr}{f:Value}{i n ep:Nat}{Q:Value->Shared->Prop}(hit:SIt s.heap I f i D n ep)(h:Q (.ref I) s):wpAny (model prog w) A (pyIter (.ref I)) Q E s:=by
 refine wpAny_pyIter_slot hit.ty slot_iter (wpAny_call_entry slot_iter hit.ty entry_iter (?_:wpAny _ _ (ret (.ref I)) _ _ s) (args_iter _))
 exact wpAny_pure ⟨_,rfl,"set_iterator",_,hit.ty,slot_next.lookup,h⟩
theorem by_ok {Q:Bool->Shared->Prop}(h:Q (byT w) s):wpAny (model prog w) A setsByText Q E s:=by
 unfold setsByText
 exact wpAny_bind (wpAny_askSetting (wpAny_pure h))
theorem walk_text {D:Addr}{o:Obj}{es:Array (Int×Value)}{ep:Nat}{t:SetTable}(hd:o.data=.set es ep t)(hf:t.fits es.size=true)(hb:byT w=true)(hh:A.handled=none)(I:Addr)(hne:D≠I) :
  Walks prog w A I [I,D] [I] es.size (λi v=>((pickOrder (w.params.setOrder D ep) es).toList.map (·.2))[i]?=some v) (λi h=>SIt h I (rawInt 0) i D es.size ep/\h.get? D=some o) where
 sub:=λb hb=>by simp at hb;simp[hb]
 frame:=λ_ _ _ st hk=>⟨st.1.at λo e=>hk I (by simp) o e,hk D (by simp) _ st.2⟩
 item:=λi s Q E hi st hQ=>by
  have hz:(pickOrder (w.params.setOrder D ep) es).size=es.size:=by have:=(pick_ok (w.params.setOrder D ep) es).length_eq;simpa using this
  have hx:(pickOrder (w.params.setOrder D ep) es)[i]?=some ((pickOrder (w.params.setOrder D ep) es)[i]'(by omega)):=by simp[hz,hi]
  refine int_item (nx:=0) (x:=((pickOrder (w.params.setOrder D ep) es)[i]'(by omega)).2) st.1 st.2 hd hf rfl (λE' Q' q=>?_) λh' hit' sb=>hQ _ h' s.toks (by simp[hz,hi]) ⟨hit',sb.extBut _ _ hne st.2⟩ λb o hb e=>sb.extBut b o (λh=>hb (by simp[h])) e
  unfold setNext
  refine wpAny_bind (wpAny_setState_of st.2 hd hf ?_)
  dsimp only
  refine wpAny_bind (by_ok ?_)
  rw[if_pos hb,if_neg (by simp)]
  unfold setWalk
  refine wpAny_bind (wpAny_bind (wpAny_setState_of st.2 hd hf ?_))
  dsimp only
  refine wpAny_bind (by_ok ?_)
  rw[if_pos hb]
  refine wpAny_bind (wpAny_askSetting (wpAny_pure (wpAny_pure ?_)))
  show Q' (Option.map _ (pickOrder (w.params.setOrder D ep) es)[i]?) _
  rw[hx];exact q
 done:=λs Q E st hQ=>by
  have hz:(pickOrder (w.params.setOrder D ep) es).size=es.size:=by have:=(pick_ok (w.params.setOrder D ep) es).length_eq;simpa using this
  refine int_end hh st.1 st.2 hd hf rfl (λE' Q' q=>?_) λh' k=>hQ h' s.toks λb o hb e=>k b o (λh=>hb (by simp[h])) e
  unfold setNext
  refine wpAny_bind (wpAny_setState_of st.2 hd hf ?_)
  dsimp only
  refine wpAny_bind (by_ok ?_)
  rw[if_pos hb,if_neg (by simp)]
  unfold setWalk
  refine wpAny_bind (wpAny_bind (wpAny_setState_of st.2 hd hf ?_))
  dsimp only
  refine wpAny_bind (by_ok ?_)
  rw[if_pos hb]
  refine wpAny_bind (wpAny_askSetting (wpAny_pure (wpAny_pure ?_)))
  show Q' (Option.map _ (pickOrder (w.params.setOrder D ep) es)[es.size]?) _
  rw[Array.getElem?_eq_none (by omega)];exact q
 self:=λ_ _ _ _ st hQ=>self_is st.1 hQ
theorem slot_lem {t:SetTable}{n i sl:Nat}(hok:Ok t)(hz:t.place.size=n)(hi:i<n)(hs:SetTable.below t.place sl=i):∃ j,t.place[i]?=some j/\SetTable.below t.place (j+1)=i+1:=by
 subst hz
 refine⟨t.place[i],by simp[hi],?_⟩
 obtain⟨b1,b2,b3⟩:=bel (t.place[i]+1) hok.r
 rcases Nat.lt_trichotomy (SetTable.below t.place (t.place[i]+1)) (i+1) with c | c | c
 ·have:=b3 i hi (by omega);omega
 ·exact c
 ·have h1:=b2 (i+1) (by omega) c
  have:=rise_at hok.r (by omega:i<i+1) (by omega:i+1<t.place.size)
  omega
theorem walk_slots {D:Addr}{o:Obj}{es:Array (Int×Value)}{ep:Nat}{t:SetTable}(hd:o.data=.set es ep t)(hf:t.fits es.size=true)(hok:Ok t)(hb:byT w=false)(hl:t.led=true)(hp:(!t.plain&&decide (es.size > 1))=false)(hh:A.handled=none)(I:Addr)(hne:D≠I) :
  Walks prog w A I [I,D] [I] es.size (λi v=>(es.toList.map (·.2))[i]?=some v) (λi h=>(∃ sl:Nat,SIt h I (rawInt sl) i D es.size ep/\SetTable.below t.place sl=i)/\h.get? D=some o) where
 sub:=λb hb=>by simp at hb;simp[hb]
 frame:=λ_ _ _ ⟨⟨sl,st,e1⟩,e2⟩ hk=>⟨⟨sl,st.at λo e=>hk I (by simp) o e,e1⟩,hk D (by simp) _ e2⟩
 item:=λi s Q E hi ⟨⟨sl,st,e1⟩,e2⟩ hQ=>by
  have hz:t.place.size=es.size:=by
   unfold SetTable.fits at hf
   simp only[Bool.and_eq_true,beq_iff_eq] at hf
   exact hf.1
  obtain⟨j,z1,z2⟩:=slot_lem hok hz hi e1
  refine int_item (nx:=j+1) (x:=(es[i]).2) st e2 hd hf rfl (λE' Q' q=>?_) λh' hit' sb=>hQ _ h' s.toks (by simp[hi]) ⟨⟨_,hit',z2⟩,sb.extBut _ _ hne e2⟩ λb o hb e=>sb.extBut b o (λh=>hb (by simp[h])) e
  unfold setNext
  refine wpAny_bind (wpAny_setState_of e2 hd hf ?_)
  dsimp only
  refine wpAny_bind (by_ok ?_)
  rw[if_neg (by rw[hb];simp)]
  split
  ·rename_i hc
   exact absurd (show (!t.plain&&decide (es.size > 1))=true from hc) (by rw[hp];simp)
  ·show wpAny _ _ ((if (!t.led&&!es.isEmpty)=true then _ else _) >>= _) _ _ _
   rw[if_neg (by rw[hl];simp)]
   refine wpAny_bind (wpAny_pure (wpAny_pure ?_))
   rw[e1,z1,Array.getElem?_eq_getElem hi]
   exact q
 done:=λs Q E ⟨⟨sl,st,e1⟩,e2⟩ hQ=>by
  refine int_end hh st e2 hd hf rfl (λE' Q' q=>?_) λh' k=>hQ h' s.toks λb o hb e=>k b o (λh=>hb (by simp[h])) e
  unfold setNext
  refine wpAny_bind (wpAny_setState_of e2 hd hf ?_)
  dsimp only
  refine wpAny_bind (by_ok ?_)
  rw[if_neg (by rw[hb];simp)]
  split
  ·rename_i hc
   exact absurd (show (!t.plain&&decide (es.size > 1))=true from hc) (by rw[hp];simp)
  ·show wpAny _ _ ((if (!t.led&&!es.isEmpty)=true then _ else _) >>= _) _ _ _
   rw[if_neg (by rw[hl];simp)]
   refine wpAny_bind (wpAny_pure (wpAny_pure ?_))
   rw[e1,Array.getElem?_eq_none (Nat.le_refl _)]
   exact q
 self:=λ_ _ _ _ ⟨⟨sl,st,e1⟩,e2⟩ hQ=>self_is st hQ
theorem walk_drawn {D T:Addr}{o ot:Obj}{es:Array (Int×Value)}{ep c:Nat}{t:SetTable}{ys:List Nat}(hd:o.data=.set es ep t)(hf:t.fits es.size=true)(hTd:ot.data=.seq (ys.map λ(i:Nat)=>rawInt i).toArray c)(hy:ys.Perm (List.range es.size))(hh:A.handled=none)(I:Addr)(hne:D≠I)(hnT:T≠I) :
  Walks prog w A I [I,D,T] [I] es.size (λi v=>(ys.map λp=>(es.toList.map (·.2)).getD p .none)[i]?=some v) (λi h=>SIt h I (.ref T) i D es.size ep/\h.get? D=some o/\h.get? T=some ot) where
 sub:=λb hb=>by simp at hb;simp[hb]
 frame:=λ_ _ _ st hk=>⟨st.1.at λo e=>hk I (by simp) o e,hk D (by simp) _ st.2.1,hk T (by simp) _ st.2.2⟩
 item:=λi s Q E hi st hQ=>by
  have hz:ys.length=es.size:=by simpa using hy.length_eq
  have hp:ys[i]'(by omega)<es.size:=by
   have:=hy.mem_iff.mp (List.getElem_mem (by omega:i<ys.length))
   simpa using this
  refine tup_item (p:=ys[i]'(by omega)) (x:=es[ys[i]'(by omega)]'hp) (u:=0) st.1 st.2.1 hd hf rfl st.2.2 hTd (by simp[hz,hi,rawInt]) (by simp[hp]) λh' hit' sb=>hQ _ h' s.toks ?_ ⟨hit',sb.extBut _ _ hne st.2.1,sb.extBut _ _ hnT st.2.2⟩ λb o hb e=>sb.extBut b o (λh=>hb (by simp[h])) e
  simp[hz,hi,hp]
 done:=λs Q E st hQ=>by
  have hz:ys.length=es.size:=by simpa using hy.length_eq
  exact tup_end hh st.1 st.2.1 hd hf rfl st.2.2 hTd (by simp[hz]) λh' k=>hQ h' s.toks λb o hb e=>k b o (λh=>hb (by simp[h])) e
 self:=λ_ _ _ _ st hQ=>self_is st.1 hQ
end
theorem ints_getD {us:List Value}{ns:List Int}(h:IntsAre us ns):∀ (ys:List Nat),(∀ y∈ys,y<us.length)->IntsAre (ys.map λp=>us.getD p .none) (ys.map λp=>ns.getD p 0)
 | [],_=>.nil
 | y::ys,hy=>by
  have hlt:=hy y (.head _)
  obtain⟨t,ht⟩:=PyProof.Rows.IntsAre.int_at h y (us[y]) (by simp[hlt])
  have e:us.getD y .none=.int (ns.getD y 0) t:=by rw[List.getD_eq_getElem?_getD,List.getElem?_eq_getElem hlt];exact ht
  rw[List.map_cons,List.map_cons,e]
  exact .cons _ t (ints_getD h ys λz hz=>hy z (.tail _ hz))
theorem range_getD (ns:List Int):(List.range ns.length).map (λp=>ns.getD p 0)=ns:=by
 apply List.ext_getElem
 ·simp
 ·intro i h1 h2
  simp at h1
  simp[h1]
section
variable {prog:Program}{w:World}{A:Around}{E:Value->Shared->Prop}{s:Shared}
theorem iter_is {D:Addr}{o:Obj}{ns:List Int}{Q:Value->Shared->Prop}(ho:s.heap.get? D=some o)(hs:SetIs w o ns)(hz:ns.length<scanBound)
  (h:∀ (I:Addr) (s1:Shared) (fp:List Addr) (ord:List Value) (St:Nat->Heap->Prop) (ms:List Int) (n:Nat),n=ns.length->(∀ b o,s.heap.get? b=some o->s1.heap.get? b=some o)->s1.os=s.os->s1.gens=s.gens->(∀ b∈fp,b=D\/s.heap.objs.size<=b)->(∀ b∈fp,b<s1.heap.objs.size) ->
   (∀ A':Around,A'.handled=none->Walks prog w A' I fp [I] n (λi v=>ord[i]?=some v) St)->St 0 s1.heap->IntsAre ord ms->ms.Perm ns->s.heap.objs.size<=I->Q (.ref I) s1) :
  wpAny (model prog w) A (pyIter (.ref D)) Q E s:=by
 obtain⟨hex,hnd,es,ep,t,hd,hel,hp,hf,hok,hl⟩:=id hs
 have hT:s.TypeIs (.ref D) "set":=⟨o,ho,hex.1⟩
 have hn:es.size=ns.length:=by simpa using hp.length_eq
 have hDlt:=Heap.lt_size ho
 refine wpAny_pyIter_slot hT F.slot_set_iter (wpAny_call_entry F.slot_set_iter hT entry_siter ?_ (F.args_set_iter_1 _))
 unfold Builtin.«frozenset.__iter__» Builtin.Frozenset.slot0 Builtin.Frozenset.sizeOf
 refine wpAny_bind (wpAny_bind (wpAny_pure ?_))
 refine wpAny_pure (wpAny_bind (wpAny_bind (wpAny_setEntries_of ho hd hf (wpAny_pure ?_))))
 unfold setDrawn
 refine wpAny_bind (wpAny_bind (wpAny_setState_of ho hd hf ?_))
 dsimp only
 refine wpAny_bind (by_ok (wpAny_pure ?_))
 split
 ·rename_i hc
  have hc':(!byT w&&(!t.plain&&decide (es.size > 1)))=true:=hc
  refine wpAny_bind (draw_ok es.size (List.range es.size) s _ (by simp) λys d hy=>?_)
  have hyz:ys.length=es.size:=by simpa using hy.length_eq
  have hb:byT w=false:=by cases hq:byT w<;>simp[hq] at hc' ⊢
  refine wpAny_bind (wpAny_newTuple ?_ (by rw[List.length_map,hyz,hn];exact fits_of_scanBound hz))
  refine wpAny_bind (wpAny_setEpoch_of (Heap.get?_push_of_some _ ho) hd hf (wpAny_bind (wpAny_newObj_type (wpAny_pure ⟨_,rfl,"set_iterator",_,⟨_,Heap.get?_push_size _ rfl,rfl⟩,slot_next.lookup,?_⟩))))
  refine h _ _ [(s.heap.push _).objs.size,D,s.heap.objs.size] (ys.map λp=>(es.toList.map (·.2)).getD p .none) _ (ys.map λp=>(es.toList.map λe=>vN e.2).getD p 0) _ hn (λb o q=>Heap.get?_push_of_some _ (Heap.get?_push_of_some _ q)) rfl rfl ?_ ?_ (λA' hh=>walk_drawn hd hf (T:=s.heap.objs.size) rfl hy hh _ (by rw[Heap.size_push];exact Nat.ne_of_lt (Nat.lt_succ_of_lt hDlt)) (by rw[Heap.size_push];exact Nat.ne_of_lt (Nat.lt_succ_self _))) ⟨⟨_,Heap.get?_push_size _ rfl,rfl,rfl⟩,Heap.get?_push_of_some _ (Heap.get?_push_of_some _ ho),Heap.get?_push_of_some _ (Heap.get?_push_size _ rfl)⟩ (ints_getD (ints_vals hel) ys λy hy'=>?_) ?_ (by rw[Heap.size_push];exact Nat.le_succ _)
  ·intro b hb
   rcases List.mem_cons.mp hb with rfl | hb
   ·exact .inr (by rw[Heap.size_push];exact Nat.le_succ _)
   ·rcases List.mem_cons.mp hb with rfl | hb
    ·exact .inl rfl
    ·exact .inr (Nat.le_of_eq (List.mem_singleton.mp hb).symm)
  ·intro b hb
   show b<((s.heap.push _).push _).objs.size
   rw[Heap.size_push,Heap.size_push]
   rcases List.mem_cons.mp hb with rfl | hb
   ·rw[Heap.size_push];exact Nat.lt_succ_self _
   ·rcases List.mem_cons.mp hb with rfl | hb
    ·exact Nat.lt_succ_of_lt (Nat.lt_succ_of_lt hDlt)
    ·rw[List.mem_singleton.mp hb];exact Nat.lt_succ_of_lt (Nat.lt_succ_self _)
  ·have:=hy.mem_iff.mp hy'
   simpa using this
  ·have e:=range_getD (es.toList.map λe=>vN e.2)
   have e2:(es.toList.map λe=>vN e.2).length=es.size:=by simp
   rw[e2] at e
   exact((hy.map _).trans (List.Perm.of_eq e)).trans hp
 ·rename_i hc
  have hc':¬ (!byT w&&(!t.plain&&decide (es.size > 1)))=true:=hc
  refine wpAny_bind (wpAny_pure (wpAny_bind (wpAny_setEpoch_of ho hd hf (wpAny_bind (wpAny_newObj_type (wpAny_pure ⟨_,rfl,"set_iterator",_,⟨_,Heap.get?_push_size _ rfl,rfl⟩,slot_next.lookup,?_⟩))))))
  have hit:SIt (s.heap.push { cls:=.type "set_iterator",data:=.fields #[rawInt 0,rawInt 0,.ref D,rawInt es.size,rawInt ep] }) s.heap.objs.size (rawInt 0) 0 D es.size ep:=⟨_,Heap.get?_push_size _ rfl,rfl,rfl⟩
  have hne:D≠s.heap.objs.size:=Nat.ne_of_lt hDlt
  cases hb:byT w with
  | true =>
   refine h _ _ [s.heap.objs.size,D] _ _ ((pickOrder (w.params.setOrder D ep) es).toList.map λe=>vN e.2) _ hn (λb o q=>Heap.get?_push_of_some _ q) rfl rfl ?_ ?_ (λA' hh=>walk_text hd hf hb hh _ hne) ⟨hit,Heap.get?_push_of_some _ ho⟩ (ints_vals λe he=>hel e ((pick_ok _ es).mem_iff.mp he)) (((pick_ok _ es).map _).trans hp) (Nat.le_refl _)
   ·intro b hb
    rcases List.mem_cons.mp hb with rfl | hb
    ·exact .inr (Nat.le_refl _)
    ·exact .inl (List.mem_singleton.mp hb)
   ·intro b hb
    show b<(s.heap.push _).objs.size
    rw[Heap.size_push]
    rcases List.mem_cons.mp hb with rfl | hb
    ·exact Nat.lt_succ_self _
    ·rw[List.mem_singleton.mp hb];exact Nat.lt_succ_of_lt hDlt
  | false =>
   have hpl:(!t.plain&&decide (es.size > 1))=false:=by
    rw[hb] at hc';simpa using hc'
   refine h _ _ [s.heap.objs.size,D] _ _ (es.toList.map λe=>vN e.2) _ hn (λb o q=>Heap.get?_push_of_some _ q) rfl rfl ?_ ?_ (λA' hh=>walk_slots hd hf hok hb (by rw[hl,hb];rfl) hpl hh _ hne) ⟨⟨0,hit,?_⟩,Heap.get?_push_of_some _ ho⟩ (ints_vals hel) hp (Nat.le_refl _)
   ·intro b hb
    rcases List.mem_cons.mp hb with rfl | hb
    ·exact .inr (Nat.le_refl _)
    ·exact .inl (List.mem_singleton.mp hb)
   ·intro b hb
    show b<(s.heap.push _).objs.size
    rw[Heap.size_push]
    rcases List.mem_cons.mp hb with rfl | hb
    ·exact Nat.lt_succ_self _
    ·rw[List.mem_singleton.mp hb];exact Nat.lt_succ_of_lt hDlt
   ·obtain⟨b1,b2,b3⟩:=bel 0 hok.r
    rcases Nat.eq_zero_or_pos (SetTable.below t.place 0) with c | c
    ·exact c
    ·exact absurd (b2 0 (by omega) c) (Nat.not_lt_zero _)
theorem set_hint {D:Addr}{Q:Bool->Shared->Prop}(hT:s.TypeIs (.ref D) "set")(h:Q false s):wpAny (model prog w) A (Builtin.List.listLengthHint (.ref D)) Q E s:=by
 unfold Builtin.List.listLengthHint
 refine wpAny_bind (wpAny_specialOf hT PySem.F.slot_set_len.lookup ?_)
 generalize hid:("set.__len__":String)=id0
 wp_delta
 rw[show splitId id0=some ("set","__len__") from by subst hid;decide +kernel]
 subst hid
 refine wpAny_bind (wpAny_isInstance (T:="set") (b:=true) hT (by rw[isSubtype_type];kernel_rfl) ?_)
 refine wpAny_ite_split (λhab=>absurd hab (by decide)) (λ_=>?_)
 refine wpAny_ite_split (λ_=>wpAny_bind (wpAny_typeOf hT (wpAny_pure h))) (λhab=>absurd (by decide +kernel) hab)
theorem collect_is {D:Addr}{o:Obj}{ns:List Int}{Q:List Value->Shared->Prop}(hh:A.handled=none)(ho:s.heap.get? D=some o)(hs:SetIs w o ns)(hz:ns.length<scanBound)
  (h:∀ (s1:Shared) (vs:List Value) (ms:List Int),(∀ b o,s.heap.get? b=some o->s1.heap.get? b=some o)->s1.os=s.os->s1.gens=s.gens->s.heap.objs.size<=s1.heap.objs.size->IntsAre vs ms->ms.Perm ns->Q vs s1) :
  wpAny (model prog w) A (collect (.ref D)) Q E s:=by
 have hDlt:=Heap.lt_size ho
 have hT:s.TypeIs (.ref D) "set":=⟨o,ho,hs.1.1⟩
 unfold collect
 refine wpAny_bind (wpAny_runValue (codeAny_builtin F.entry_proto_collect ?_))
 rw[Around.under_plainId F.plain_proto_collect _]
 refine(?_:wpAny _ A.in1 (newList [] >>= λl=>again (.builtin "list.__iadd__" ⟨[l,.ref D],[]⟩)) _ _ s)
 refine wpAny_bind (wpAny_newObj_type (wpAny_pure ⟨plainId_quiet F.plain_list_iadd _,codeAny_builtin F.entry_list_iadd ?_⟩))
 rw[Around.under_plainId F.plain_list_iadd _]
 have hS:(s.heap.push { cls:=.type "list",data:=.seq ([]:List Value).toArray }).get? s.heap.objs.size=some { cls:=.type "list",data:=.seq ([]:List Value).toArray }:=Heap.get?_push_size _ rfl
 generalize hH:s.heap.push { cls:=.type "list",data:=.seq ([]:List Value).toArray }=H at hS ⊢
 have kH:∀ b o,s.heap.get? b=some o->H.get? b=some o:=λb o q=>by rw[<- hH];exact Heap.get?_push_of_some _ q
 have zH:H.objs.size=s.heap.objs.size+1:=by rw[<- hH,Heap.size_push]
 have ne:s.heap.objs.size≠D:=Nat.ne_of_gt hDlt
 have h1:Builtin.List.listSameRef (.ref s.heap.objs.size) (.ref D)=false:=by simp[Builtin.List.listSameRef,ne]
 refine(?_:wpAny _ A.in1 (Builtin.List.listExtendWith (.ref s.heap.objs.size) (.ref D) (.ref s.heap.objs.size)) _ _ _)
 unfold Builtin.List.listExtendWith
 refine wpAny_bind (wpAny_typeOf (T:="set") ⟨o,kH _ _ ho,hs.1.1⟩ ?_)
 rw[if_neg (by rw[h1];decide)]
 refine wpAny_bind (iter_is (s:={ s with heap:=H }) (kH _ _ ho) hs hz λI s1 fp ord St ms n hn k1 k2 k3 k4 k5 W st hi hp hI=>?_)
 refine wpAny_bind (wpAny_holding (set_hint ⟨o,k1 _ _ (kH _ _ ho),hs.1.1⟩ ?_))
 have hSf:s.heap.objs.size∉fp:=λq=>by
  rcases k4 _ q with e | e
  ·exact ne e
  ·rw[show ({ s with heap:=H }:Shared).heap.objs.size=s.heap.objs.size+1 from zH] at e
   exact absurd e (Nat.not_succ_le_self _)
 have fin:∀ s2:Shared,St 0 s2.heap->(∀ b o,b≠s.heap.objs.size->s1.heap.get? b=some o->s2.heap.get? b=some o)->s2.os=s1.os->s2.gens=s1.gens->(∃ c,s2.heap.get? s.heap.objs.size=some { cls:=.type "list",dict:=none,data:=.seq #[] c,slots:=#[] }) ->
   codeAny (model prog w) A (.builtin "list.extend.loop" ⟨[.ref s.heap.objs.size,.ref I,.ref s.heap.objs.size],[]⟩) (λr s'=>∃ v,r=.ok (.ret v)/\wpAny (model prog w) A (match v with | .ref a=>(do match (<- load a).data with | .seq xs _=>pure xs.toList | _=>unsupported "internal:collect") | _=>unsupported "internal:collect") Q E s') s2:=by
  intro s2 st2 kk ko kg ⟨c,hc⟩
  refine codeAny_extend_loopS (W A.in1 hh).toS (by rw[hn];exact fits_of_scanBound hz) _ hSf _ n 0 s2 #[] c rfl (Nat.zero_le _) st2 hc (ItemsOf.nil _) λs3 acc c' hm hS3 hacc=>⟨_,rfl,?_⟩
  refine wpAny_bind (wpAny_load hS3 (wpAny_pure ?_))
  have e:acc.toList=ord:=by
   have hl:ord.length=n:=by rw[hn];exact(IntsAre.length hi).trans hp.length_eq
   apply List.ext_getElem
   ·rw[Array.length_toList,hacc.1,hl]
   ·intro i z1 z2
    have this:ord[i]?=some acc[i]:=hacc.2 i acc[i] (by simp)
    rw[List.getElem?_eq_getElem z2] at this
    injection this with this
    rw[Array.getElem_toList];exact this.symm
  rw[e]
  refine h s3 ord ms (λb o q=>?_) (by rw[hm.os,ko,k2]) (by rw[hm.gens,kg,k3]) ?_ hi hp
  ·have hb:=Heap.lt_size q
   refine hm.heap b o (λz=>?_) (kk b o (Nat.ne_of_lt hb) (k1 b o (kH b o q)))
   rcases List.mem_cons.mp z with e | z
   ·exact Nat.ne_of_lt hb e
   ·rw[List.mem_singleton.mp z] at hb
    exact absurd (Nat.lt_of_lt_of_le hb (Nat.le_trans (by rw[show ({ s with heap:=H }:Shared).heap.objs.size=s.heap.objs.size+1 from zH];exact Nat.le_succ _) hI)) (Nat.lt_irrefl _)
  ·exact Nat.le_of_lt (Heap.lt_size hS3)
 have hS1:s1.heap.get? s.heap.objs.size=some { cls:=.type "list",data:=.seq ([]:List Value).toArray }:=k1 _ _ hS
 refine wpAny_ite_split (λ_=>?_) (λ_=>wpAny_pure ⟨plainId_quiet PySem.F.plain_extend_loop _,?_⟩)
 ·refine wpAny_bind (wpAny_rule (wpAny_bind (?_:wpAny _ _ (updateSeq s.heap.objs.size (·.push .none) >>= λ_=>updateSeq s.heap.objs.size (·.pop)) _ _ _)))
  refine wpAny_bind (wpAny_updateSeq hS1 rfl ?_)
  have hS2:=Heap.get?_update_self (Obj.mapSeq (·.push Value.none)) hS1 rfl
  refine wpAny_updateSeq (hz:=by seq_fits) hS2 rfl ?_
  have hS3:=Heap.get?_update_self (Obj.mapSeq (·.pop)) hS2 rfl
  have oth:∀ b o,b≠s.heap.objs.size->s1.heap.get? b=some o->((s1.heap.update s.heap.objs.size (Obj.mapSeq (·.push Value.none))).update s.heap.objs.size (Obj.mapSeq (·.pop))).get? b=some o :=
   λb o hb e=>(Heap.get?_update_other _ _ (Ne.symm hb)).trans ((Heap.get?_update_other _ _ (Ne.symm hb)).trans e)
  refine wpAny_pure ⟨plainId_quiet PySem.F.plain_extend_loop _,codeAny_mono (fin _ ((W A hh).frame 0 _ _ st λb hb o e=>oth b o (λz=>hSf (z▸hb)) e) oth rfl rfl ⟨_,hS3⟩) λr s' hr=>?_⟩
  obtain⟨v,rfl,hv⟩:=hr
  exact hv
 ·refine codeAny_mono (fin s1 st (λb o _ q=>q) rfl rfl ⟨_,hS1⟩) λr s' hr=>?_
  obtain⟨v,rfl,hv⟩:=hr
  exact hv
theorem sorted_is {D:Addr}{o:Obj}{ns:List Int}{Q:Value->Shared->Prop}(hh:A.handled=none)(ho:s.heap.get? D=some o)(hs:SetIs w o ns)(hz:ns.length<=1000)
  (h:∀ (s1:Shared) (l:Addr) (out:List Value) (c:Nat) (ms:List Int),(∀ b o,s.heap.get? b=some o->s1.heap.get? b=some o)->s1.os=s.os->s1.gens=s.gens->s.heap.objs.size<=l->s1.heap.get? l=some (seqObj "list" out.toArray c)->IntsAre out ms->ms.Perm ns->ms.Pairwise (·<=·)->Q (.ref l) s1) :
  wpAny (model prog w) A (call (.builtin "sorted") [.ref D]) Q E s:=by
 refine Calls.call_function_entry kind_sorted plain_sorted entry_sorted (args_sorted1 _) ?_
 unfold Builtin.«sorted»
 refine wpAny_bind (m:=checkCount "sorted" 1 1 _) (wpAny_pure ?_)
 refine wpAny_bind (collect_is (by exact hh) ho hs (by show _<4096;omega) λs1 vs ms k1 k2 k3 k4 hi hp=>?_)
 have hl:vs.length<=1000:=by rw[IntsAre.length hi,hp.length_eq];exact hz
 refine wpAny_bind (wpAny_newList ?_ (by rw[sizeLine_eq];omega))
 have hoL:(s1.heap.push (seqObj "list" vs.toArray 0)).get? s1.heap.objs.size=some (seqObj "list" vs.toArray 0):=Heap.get?_push_size _ rfl
 refine wpAny_bind (wpAny_holding (wpAny_call_entry (s:={ s1 with heap:=s1.heap.push (seqObj "list" vs.toArray 0) }) slot_list_sort ⟨_,hoL,rfl⟩ entry_list_sort (SB.sort_s hoL hi hl λout ns' a1 a2 a3=>⟨_,rfl,?_⟩) (args_list_sort _)))
 refine wpAny_pure ⟨_,rfl,?_⟩
 have g1:=Heap.get?_update_self (Obj.mapSeq λ_=>(#[]:Array Value)) hoL rfl
 have g2:=Heap.get?_push_of_some (seqObj "list" #[] 0) (Heap.get?_push_of_some (seqObj "tuple" vs.toArray 0) g1)
 have g3:=Heap.get?_update_self (Obj.mapSeq λ_=>out) g2 rfl
 refine h _ s1.heap.objs.size out.toList _ ns' (λb o q=>?_) k2 k3 k4 (g3.trans (by rw[Array.toArray_toList];rfl)) a1 (a2.trans hp) a3
 have hb:=k1 b o q
 have ne:s1.heap.objs.size≠b:=Nat.ne_of_gt (Heap.lt_size hb)
 exact(Heap.get?_update_other _ _ ne).trans (Heap.get?_push_of_some _ (Heap.get?_push_of_some _ ((Heap.get?_update_other _ _ ne).trans (Heap.get?_push_of_some _ hb))))
end
end SW
namespace L2
open PySem PySem.Spec PyProof.Rows
section
variable {X:Cx}
theorem Inv.drew {pins:List (Addr×Obj)}{σ:St}{H:Hp}{s s1:Shared}(I:Inv X pins σ H s)(h1:s1.heap=s.heap)(h2:s1.os=s.os)(h3:s1.gens=s.gens):Inv X pins σ H s1:=by
 obtain⟨a,b,c,d,e,f,g,i,j,k,l⟩:=I
 refine⟨a,h2.trans b,h3▸c,h1▸d,h1▸e,h1▸f,g,i,h1▸j,h1▸k,l⟩
theorem boot_srt:bootBuiltins "sorted"=some (.builtin "sorted"):=by decide +kernel
end
end L2
namespace L2
open PySem PySem.Spec PyProof.Rows
section
variable {X:Cx}{pins:List (Addr×Obj)}{σ:St}{H:Hp}{s:Shared}
theorem comp_startO {O:Obj}{o0:HO}(hO:ObjOk X.prog X.w (upd H s.heap.objs.size o0) (s.heap.push O) s.heap.objs.size o0){N':List Str}{caps:List (Option Nat)}{scope:Scope}{cl:List (Str×Addr)}{fp:List Addr}{h1:Heap}{tk:Nat}(I:Inv X pins σ H s)(hfp:∀ b∈fp,FpOk X pins H b)(hfo:∀ b∈fp,∃ o,s.heap.get? b=some o)
  (hcap:capOk N' caps X.N X.env.scope.names scope.names=true) (hkind:scope.kind=.function) (hC:Clo scope X.env cl)
  (hns:h1.Ns (s.heap.objs.size+1) λ_=>none) (hsb:Heap.SameBut (s.heap.objs.size+1) ((s.heap.push O).push { cls:=.type "dict",data:=.dict #[] }) h1) :
  Inv (cxComp X pins N' scope cl (s.heap.objs.size+1) { s with heap:=s.heap.push O } (upd H s.heap.objs.size o0) fp) [] (capSt caps σ) (upd H s.heap.objs.size o0) { s with heap:=h1,toks:=tk }:=by
 have hn:H s.heap.objs.size=none:=I.hok.fresh (Nat.le_refl _)
 have hz:(s.heap.push O).objs.size=s.heap.objs.size+1:=Heap.size_push ..
 have up1:∀ b o,s.heap.get? b=some o->(s.heap.push O).get? b=some o:=λb o e=>Heap.get?_push_of_some _ e
 have up2:∀ b o,(s.heap.push O).get? b=some o->h1.get? b=some o:=λb o e=>by
  have hb:b<s.heap.objs.size+1:=by rw[<- hz];exact Heap.lt_size e
  exact hsb.extBut b o (Nat.ne_of_lt hb) (Heap.get?_push_of_some _ e)
 have I1:Inv X pins σ (upd H s.heap.objs.size o0) { s with heap:=s.heap.push O,toks:=s.toks } :=
  I.laid (t':=s.toks) up1 (Nat.le_refl _) hO
 obtain⟨hcap1,hcap3⟩:=Bool.and_eq_true_iff.mp hcap
 obtain⟨hcap1,hcap2⟩:=Bool.and_eq_true_iff.mp hcap1
 have hlen:N'.length=caps.length:=by simpa using hcap1
 have hcap3':=List.all_eq_true.mp hcap3
 have nocell:∀ p∈scope.names,p.2≠NameKind.cell:=λp hp=>by
  have:=hcap3' p hp
  simp only[Bool.and_eq_true,bne_iff_ne] at this
  exact this.1.1
 have hsub:=I.stkSub
 have ltS:∀ b o,s.heap.get? b=some o->b<s.heap.objs.size:=λb o e=>Heap.lt_size e
 refine⟨⟨I.ok.mod,hkind,I.ok.glob,I.ok.blt,Nat.le_of_eq hz,λx y c e1 e2=>I.ok.inj x y c (hC.sub x c e1) (hC.sub y c e2),λx hx=>?_,λx c hf=>absurd (show false=true from hf) Bool.false_ne_true,I.ok.hd,I.ok.frames,.inl rfl,λb hb=>?_,λb o e=>?_,?_,λb o e hb=>?_,λb hb hf=>?_,?_,λb hb=>?_⟩,
  rfl,I.bare,Un.kept up2,⟨_,hns,λi x v e1 e2 e3=>?_⟩,λx c e=>?_,?_,λx c e=>?_,λp hp=>?_,I1.hok.kept up2,?_⟩
 ·exact hC.has x (relabel_back nocell hx)
 ·obtain⟨o,ho⟩:=hfo b hb
  obtain⟨f0,f1,f2,f3,f4,f5⟩:=hfp b hb
  exact⟨Nat.ne_of_lt (Nat.lt_succ_of_lt (ltS b o ho)),λx c e=>f4 x c (hC.sub x c e)⟩
 ·have q:=I1.bs b o e
  exact q
 ·show X.base.objs.size<=(s.heap.push _).objs.size
  rw[hz]
  exact Nat.le_trans (Nat.le_trans I.ok.bsz I.sz) (Nat.le_succ _)
 ·obtain⟨f0,f1,f2,f3,f4,f5⟩:=hfp b hb
  rcases f3 with f3 | f3
  ·exact I.ok.noex b o e f3
  ·exact absurd (Nat.lt_of_lt_of_le (Heap.lt_size e) (Nat.le_trans I.ok.bsz f3)) (Nat.lt_irrefl _)
 ·obtain⟨f0,f1,f2,f3,f4,f5⟩:=hfp b hb
  rcases List.mem_cons.mp (hsub b hf) with z | z
  ·exact f1 z
  ·exact f2 z
 ·exact I1.stack
 ·exact I1.stkFree b hb
 ·
  have e2':∃ o,caps[i]?=some o/\(match o with | none=>none | some j=>(σ[j]?).join)=some v:=by
   unfold capSt at e2
   rw[List.getElem?_map] at e2
   cases q:caps[i]? with
   | none=>rw[q] at e2;cases e2
   | some o=>rw[q] at e2;exact⟨o,rfl,Option.some.inj e2⟩
  obtain⟨o,ho,hv⟩:=e2'
  cases o with
  | none=>cases hv
  | some j =>
   have hv':(σ[j]?).join=some v:=hv
   have hσ:σ[j]?=some (some v):=by
    cases q:σ[j]? with
    | none=>rw[q] at hv';cases hv'
    | some w=>rw[q] at hv';rw[show w=some v from hv']
   have hzip:(x,some j)∈N'.zip caps:=by
    refine List.mem_iff_getElem?.mpr ⟨i,?_⟩
    rw[List.getElem?_zip_eq_some]
    exact⟨e1,ho⟩
   have q:=List.all_eq_true.mp hcap2 _ hzip
   simp only[Bool.and_eq_true,beq_iff_eq] at q
   obtain⟨q1,q2⟩:=q
   have q3:=hcap3' _ (find_names q2)
   have q4:X.env.scope.names.lookup x=some .cell\/X.env.scope.names.lookup x=some .free:=by
    simp only[bne_self_eq_false,Bool.false_or,Bool.and_eq_true,Bool.or_eq_true,beq_iff_eq] at q3
    exact q3.1.2
   obtain⟨m,_,hl⟩:=I.loc
   obtain⟨u,ru,lk⟩:=hl j x v q1 hσ (.inr q4)
   refine⟨u,ru,.inr ⟨relabel_free q2,?_⟩⟩
   have q5:X.env.kindOf x=some .cell\/X.env.kindOf x=some .free:=q4
   rcases lk with ⟨k,_⟩ | ⟨_,c,ec,hc⟩
   ·rcases q5 with q5 | q5<;>(rw[q5] at k;cases k)
   ·obtain⟨c',ec'⟩:=hC.has x (find_names q2)
    have:=hC.sub x c' ec'
    rw[ec] at this
    cases this
    obtain⟨oc,hoc,hdc⟩:=hc
    exact⟨c,ec',oc,up2 _ _ (up1 _ _ hoc),hdc⟩
 ·obtain⟨v,oc,hoc,hdc⟩:=I.cell x c (hC.sub x c e)
  exact⟨v,oc,up2 _ _ (up1 _ _ hoc),hdc⟩
 ·show upd H _ _ (s.heap.objs.size+1)=none
  rw[upd_ne (Nat.ne_of_gt (Nat.lt_succ_self _))]
  exact I.hok.fresh (Nat.le_succ _)
 ·exact I1.freeC x c (hC.sub x c e)
 ·have hp':p∈X.pn++pins:=by simpa using hp
  obtain⟨a1,a2,a3,a4,a5⟩:=I1.pin p hp'
  obtain⟨b1,_,_,_,_⟩:=I.pin p hp'
  refine⟨up2 _ _ a1,a2,Nat.ne_of_lt (Nat.lt_succ_of_lt (ltS _ _ b1)),λhf=>?_,a5⟩
  rcases List.mem_cons.mp (hsub p.1 hf) with z | z
  ·exact a3 z
  ·exact a4 z
 ·show (capSt caps σ).length=N'.length
  unfold capSt
  rw[List.length_map,hlen]
theorem comp_backO {O:Obj}{o0:HO}{N':List Str}{scope:Scope}{cl:List (Str×Addr)}{fp:List Addr}{C:Addr}{pins':List (Addr×Obj)}{σ':St}{H':Hp}{s':Shared}(I:Inv X pins σ H s)(hfp:∀ b∈fp,FpOk X pins H b)
  (J:Inv (cxComp X pins N' scope cl C { s with heap:=s.heap.push O } (upd H s.heap.objs.size o0) fp) pins' σ' H' s'):Inv X pins σ H' s':=by
 have hn:H s.heap.objs.size=none:=I.hok.fresh (Nat.le_refl _)
 refine I.call' (ch:=fp) J.os ?_ J.hok J.bare λb hb=>?_
 ·exact(Un.laid (λb o e=>Heap.get?_push_of_some _ e) (Nat.le_refl _) hn).trans J.base
 ·obtain⟨f0,f1,f2,f3,f4,f5⟩:=hfp b hb
  exact⟨f3,f1,f4,f5⟩
end
def exs (w:World)(D:Addr)(ns:List Int):HO:=.ext λh=>∃ o,h.get? D=some o/\SW.SetIs w o ns
theorem exs_ok {P:Program}{w:World}{H:Hp}{h:Heap}{D:Addr}{ns:List Int}(e:∃ o,h.get? D=some o/\SW.SetIs w o ns):ObjOk P w H h D (exs w D ns) :=
 ⟨e,let ⟨o,q,_⟩:=e;⟨o,q⟩,λh1 h2 ⟨o,q,z⟩ k=>⟨o,k _ q,z⟩⟩
section
variable {X:Cx}{pins:List (Addr×Obj)}{σ:St}{H:Hp}{s:Shared}{A:Around}{E:Value->Shared->Prop}
theorem set_of (I:Inv X pins σ H s){D:Addr}{ns:List Int}(h:H D=some (exs X.w D ns)):∃ o,s.heap.get? D=some o/\SW.SetIs X.w o ns :=
 (show ObjOk X.prog X.w H s.heap D (exs X.w D ns) from I.hok D _ h).1
theorem add_exs {D:Addr}{ns:List Int}{k:Int}{u:Tok}{Q:Value->Shared->Prop}(I:Inv X pins σ H s)(hD:H D=some (exs X.w D ns))(hl:ns.length<4000)
  (q:∀ ns' s',(∀ j,j∈ns'↔j∈ns\/j=k)->ns'.length<=ns.length+1->Inv X pins σ (upd H D (exs X.w D ns')) s'->Q .none s') :
  wpAny (model X.prog X.w) A (call (.builtin "set.add") [.ref D,.int k u]) Q E s:=by
 obtain⟨o,ho,hs⟩:=set_of I hD
 refine wpAny_call_entry F.slot_set_add ⟨o,ho,hs.1.1⟩ F.entry_set_add ?_ (F.args_set_add_2 _ _)
 unfold Builtin.«set.add» Builtin.Frozenset.oneOther
 simp only[List.isEmpty_nil,bind_assoc]
 unfold Builtin.Frozenset.addrOf
 refine wpAny_bind (wpAny_pure ?_)
 try dsimp only
 refine wpAny_bind (wpAny_pure ?_)
 try dsimp only
 refine wpAny_bind (SW.addv_is ho hs (by show _<4096;omega) λh' o' ns' b sb e1 e2 e3 e4=>?_)
 refine wpAny_pure ⟨_,rfl,q ns' _ e3 e4 (I.write (x:=D) (e:=D) (by rw[hD];trivial) (.inl rfl) (λb u hb z=>sb.extBut b u hb z) ⟨o',e1⟩ (exs_ok ⟨o',e1,e2⟩))⟩
end
section
variable {tg tg2 elt iter iter2:Expr}{scope:Scope}{pos:Pos}
theorem turn_set0 (it acc:Value)(env:Env):compTurn (.SetComp elt [⟨tg,iter,[],0⟩,⟨tg2,iter2,[],0⟩] scope pos) 0 it acc env=(standAt iter.pos >>= λ_=>pyNext it >>= λr=>match r with
  | none=>pure (.done .next)
  | some v=>letOwnedTupleGo tg it v >>= λ_=>assign tg env v >>= λ_=>eval iter2 env >>= λx=>standAt iter2.pos >>= λ_=>foldedSetIterable iter2 env x >>= λx=>holding [x] (pyIter x) >>= λit2 =>
    runOwn (.compStart (.SetComp elt [⟨tg,iter,[],0⟩,⟨tg2,iter2,[],0⟩] scope pos) 1 it2 acc env) env >>= λ_ =>
    again (.compLoop (.SetComp elt [⟨tg,iter,[],0⟩,⟨tg2,iter2,[],0⟩] scope pos) 0 it acc env)):=by rfl
theorem turn_set1 (it acc:Value)(env:Env):compTurn (.SetComp elt [⟨tg,iter,[],0⟩,⟨tg2,iter2,[],0⟩] scope pos) 1 it acc env=(standAt iter2.pos >>= λ_=>pyNext it >>= λr=>match r with
  | none=>pure (.done .next)
  | some v=>letOwnedTupleGo tg2 it v >>= λ_=>assign tg2 env v >>= λ_=>(eval elt env >>= λv=>standAt elt.pos >>= λ_=>call (.builtin "set.add") [acc,v] >>= λ_=>pure ()) >>= λ_ =>
    again (.compLoop (.SetComp elt [⟨tg,iter,[],0⟩,⟨tg2,iter2,[],0⟩] scope pos) 1 it acc env)):=by rfl
variable {prog:Program}{w:World}{A:Around}{R:Result->Shared->Prop}{s:Shared}
theorem start_set {d:Nat}{it acc:Value}{env:Env}(hd:d=0\/d=1)(h0:codeAny (model prog w) A (.compLoop (.SetComp elt [⟨tg,iter,[],0⟩,⟨tg2,iter2,[],0⟩] scope pos) d it acc env) R s)
  (h:wpAny (model prog w) A (pyIter it) (λit' s'=>codeAny (model prog w) A (.compLoop (.SetComp elt [⟨tg,iter,[],0⟩,⟨tg2,iter2,[],0⟩] scope pos) d it' acc env) R s') (notedBy (model prog w) A env λx s'=>R (.error x) s') s) :
  codeAny (model prog w) A (.compStart (.SetComp elt [⟨tg,iter,[],0⟩,⟨tg2,iter2,[],0⟩] scope pos) d it acc env) R s:=by
 refine codeAny_of_tree ?_
 show wpAny _ _ ((compStart (.SetComp elt [⟨tg,iter,[],0⟩,⟨tg2,iter2,[],0⟩] scope pos) d it acc env).onRaise (λx=>do noteFrame x env;standAt theWindowsPlace)) _ _ s
 refine wpAny_notedAt ?_
 unfold compStart
 rcases hd with rfl | rfl
 all_goals
  show wpAny _ _ (ask >>= _) _ _ s
  refine wpAny_bind (wpAny_askSetting (wpAny_ite ?_))
  split
  ·first
    | exact wpAny_bind (wpAny_pure (wpAny_pure (And.intro rfl h0)))
    | exact wpAny_pure (And.intro rfl h0)
  ·first
    | exact wpAny_bind (wpAny_rule (wpAny_bind (wpAny_standAt (wpAny_bind (wpAny_mono h (λit' s' h'=>wpAny_pure (And.intro rfl h')) λ_ _ x=>x)))))
    | (refine wpAny_bind (wpAny_rule ?_);show wpAny _ _ (standAt _ >>= _) _ _ s;exact wpAny_bind (wpAny_standAt (wpAny_bind (wpAny_mono h (λit' s' h'=>wpAny_pure (And.intro rfl h')) λ_ _ x=>x))))
end
section
variable {tg tg2 elt iter iter2:Expr}{scope:Scope}{pos:Pos}
theorem in_loop {X':Cx}{P:List (Addr×Obj)}{fp:List Addr}{it D:Addr}{tn:Nat->Heap->Prop}{b:Nat}{te:TE}{rest:St}{v1:V}{H0:Hp}{s:Shared}{R:Result->Shared->Prop}{f:Nat->Int}{ns0:List Int}{o2:Option V}(hc:X'.calm=true)(hxe:X'.xe=λ_ _=>False)
  (T:Turn X'.prog X'.w X'.K tg2 (Itr 0 b) fp it tn) (hg:PG X' tg2 (gName 1)) (he:PE X' elt te) (I:Inv X' P (some v1::o2::rest) H0 s) (hf:∀ c∈fp,FpOk X' P H0 c) (st:tn 0 s.heap) (hD:H0 D=some (exs X'.w D ns0)) (hle:ns0.length+b<4000)
  (hte:∀ (j:Nat) H,j<b->(∀ a,a≠D->H a=H0 a)->te (some v1::some (.int (0+(j:Int)))::rest) H λv H'=>v=.int (f j)/\H'=H)
  (hR:∀ s' o2' H' ns',Inv X' P (some v1::o2'::rest) H' s'->(∀ a,a≠D->H' a=H0 a)->H' D=some (exs X'.w D ns')->(∀ k,k∈ns'↔k∈ns0\/∃ j,j<b/\k=f j)->ns'.length<=ns0.length+b->R (.ok .next) s') :
  codeAny (model X'.prog X'.w) X'.A (.compLoop (.SetComp elt [⟨tg,iter,[],0⟩,⟨tg2,iter2,[],0⟩] scope pos) 1 (.ref it) (.ref D) X'.env) R s:=by
 have stat:∀ {H':Hp},(∀ b∈fp,H' b=none)->∀ b∈fp,FpOk X' P H' b:=λhn b hb=>⟨hn b hb,(hf b hb).2⟩
 refine codeAny_loop rfl (λn s'=>∃ j o2' H' ns',n=b-j/\j<=b/\Inv X' P (some v1::o2'::rest) H' s'/\tn j s'.heap/\(∀ c∈fp,H' c=none)/\(∀ a,a≠D->H' a=H0 a)/\H' D=some (exs X'.w D ns')/\(∀ k,k∈ns'↔k∈ns0\/∃ i,i<j/\k=f i)/\ns'.length<=ns0.length+j) ?_ (b-0) ⟨0,o2,H0,ns0,rfl,Nat.zero_le _,I,st,λc hc=>(hf c hc).1,λ_ _=>rfl,hD,λk=>⟨.inl,λz=>z.elim id λ⟨_,q,_⟩=>absurd q (Nat.not_lt_zero _)⟩,Nat.le_refl _⟩
 rintro n s3 ⟨j,o2',H3,ns',rfl,hjb,I3,st3,fr3,eq3,hD3,mem3,len3⟩
 show wpAny _ X'.A ((compTurn (.SetComp elt [⟨tg,iter,[],0⟩,⟨tg2,iter2,[],0⟩] scope pos) 1 (.ref it) (.ref D) X'.env).onRaise (λx=>do noteFrame x X'.env;theTreesLotGoes x)) _ _ s3
 refine wpAny_noted ?_
 rw[turn_set1]
 have no:∀ {α:Type} {t:Sem α} {Q:α->Shared->Prop} {s':Shared} {E':Value->Shared->Prop},wpAny (model X'.prog X'.w) X'.A t Q X'.xe s'->wpAny (model X'.prog X'.w) X'.A t Q E' s':=λh=>wpAny_mono h (λ_ _ x=>x) λ_ _ x=>by rw[hxe] at x;exact x.elim
 refine wpAny_bind (wpAny_standAt ?_)
 by_cases hj:j<b
 ·refine wpAny_bind (thn (T.item X' rfl rfl rfl hc j P s3 _ H3 _ I3 (stat fr3) st3 hj) λr s4 ⟨u,hr,h4⟩=>?_)
  subst hr
  refine wpAny_bind (thn h4 λ_ s5 ⟨x,H5,I5,r5,y5,st5,fr5⟩=>?_)
  obtain⟨rfl,rfl⟩:=y5
  have I5':=I5.pinned (stat fr5) (T.obj _ _ st5)
  refine wpAny_bind (thn (no (hg _ s5 _ H5 _ u (λσ6 H6=>σ6=some v1::some (.int (0+(j:Int)))::rest/\H6=H5) I5' r5 ⟨rfl,rfl⟩)) λ_ s6 ⟨σ6,H6,I6,e6,e6'⟩=>?_)
  subst e6 e6'
  refine wpAny_bind (wpAny_bind (thn (no (he _ s6 _ H6 _ I6 (hte j H6 hj eq3))) λv s8 ⟨y,H8,I8,r8,q8⟩=>?_))
  obtain⟨rfl,rfl⟩:=q8
  obtain⟨t,rfl⟩:=r8
  refine wpAny_bind (wpAny_standAt ?_)
  refine wpAny_bind (add_exs I8 hD3 (by omega) λns2 s9 m1 m2 I9=>wpAny_pure (wpAny_pure ⟨rfl,?_⟩))
  refine⟨b-(j+1),by omega,j+1,_,_,ns2,rfl,hj,I9.unpinned,T.keep _ _ _ st5 λc hc o e=>(I9.pin (c,o) (List.mem_append_right _ (List.mem_append_right _ (mem_pinsAt hc e)))).1,λc hc=>?_,λa ha=>by rw[upd_ne ha];exact eq3 a ha,upd_same,λk=>?_,by omega⟩
  ·rw[upd_ne (λz=>by have:=fr5 c hc;rw[z,hD3] at this;cases this)];exact fr5 c hc
  ·rw[m1 k,mem3 k]
   constructor
   ·rintro((h | ⟨i,h1,h2⟩) | h)
    ·exact .inl h
    ·exact .inr ⟨i,by omega,h2⟩
    ·exact .inr ⟨j,by omega,h⟩
   ·rintro(h | ⟨i,h1,h2⟩)
    ·exact .inl (.inl h)
    ·by_cases e:i=j
     ·subst e;exact .inr h2
     ·exact .inl (.inr ⟨i,by omega,h2⟩)
 ·have ej:j=b:=by omega
  subst ej
  refine wpAny_bind (thn (T.done X' rfl rfl rfl hc j P s3 _ H3 _ I3 (stat fr3) st3 (Nat.le_refl _)) λr s4 ⟨hr,I4⟩=>?_)
  subst hr
  exact wpAny_pure (hR _ _ _ ns' I4 eq3 hD3 mem3 len3)
theorem out_loop {X':Cx}{fp:List Addr}{it D:Addr}{tn:Nat->Heap->Prop}{lo:Int}{n B:Nat}{wi2:TI}{te:TE}{rest:St}{H0:Hp}{s:Shared}{R:Result->Shared->Prop}{b:Nat->Nat}{f:Nat->Nat->Int}{o1 o2:Option V}(hc:X'.calm=true)(hxe:X'.xe=λ_ _=>False)
  (T:Turn X'.prog X'.w X'.K tg (Itr lo n) fp it tn) (hg:PG X' tg (gName 0)) (hi:PI X' tg2 iter2 wi2) (hs:∀ x,foldedSetIterable iter2 X'.env x=pure x) (hg2:PG X' tg2 (gName 1)) (he:PE X' elt te) (I:Inv X' [] (o1::o2::rest) H0 s) (hf:∀ c∈fp,FpOk X' [] H0 c) (st:tn 0 s.heap) (hD:H0 D=some (exs X'.w D [])) (hb:∀ i,i<n->b i<=B) (hle:n*B<4000)
  (hwi:∀ (i:Nat) o H,i<n->(∀ a,a≠D->H a=H0 a)->wi2 (some (.int (lo+(i:Int)))::o::rest) H λJ H'=>J=Itr 0 (b i)/\H'=H)
  (hte:∀ (i j:Nat) H,i<n->j<b i->(∀ a,a≠D->H a=H0 a)->te (some (.int (lo+(i:Int)))::some (.int (0+(j:Int)))::rest) H λv H'=>v=.int (f i j)/\H'=H)
  (hR:∀ s' o1' o2' H' ns',Inv X' [] (o1'::o2'::rest) H' s'->(∀ a,a≠D->H' a=H0 a)->H' D=some (exs X'.w D ns')->(∀ k,k∈ns'↔∃ i j,i<n/\j<b i/\k=f i j)->ns'.length<=n*B->R (.ok .next) s') :
  codeAny (model X'.prog X'.w) X'.A (.compLoop (.SetComp elt [⟨tg,iter,[],0⟩,⟨tg2,iter2,[],0⟩] scope pos) 0 (.ref it) (.ref D) X'.env) R s:=by
 have stat:∀ {H':Hp},(∀ b∈fp,H' b=none)->∀ b∈fp,FpOk X' [] H' b:=λhn b hb=>⟨hn b hb,(hf b hb).2⟩
 refine codeAny_loop rfl (λm s'=>∃ i o1' o2' H' ns',m=n-i/\i<=n/\Inv X' [] (o1'::o2'::rest) H' s'/\tn i s'.heap/\(∀ c∈fp,H' c=none)/\(∀ a,a≠D->H' a=H0 a)/\H' D=some (exs X'.w D ns')/\(∀ k,k∈ns'↔∃ x y,x<i/\y<b x/\k=f x y)/\ns'.length<=i*B) ?_ (n-0) ⟨0,o1,o2,H0,[],rfl,Nat.zero_le _,I,st,λc hc=>(hf c hc).1,λ_ _=>rfl,hD,λk=>⟨λz=>(nomatch z),λ⟨_,_,q,_⟩=>absurd q (Nat.not_lt_zero _)⟩,Nat.zero_le _⟩
 rintro m s3 ⟨i,o1',o2',H3,ns',rfl,hin,I3,st3,fr3,eq3,hD3,mem3,len3⟩
 show wpAny _ X'.A ((compTurn (.SetComp elt [⟨tg,iter,[],0⟩,⟨tg2,iter2,[],0⟩] scope pos) 0 (.ref it) (.ref D) X'.env).onRaise (λx=>do noteFrame x X'.env;theTreesLotGoes x)) _ _ s3
 refine wpAny_noted ?_
 rw[turn_set0]
 have no:∀ {α:Type} {t:Sem α} {Q:α->Shared->Prop} {s':Shared} {E':Value->Shared->Prop},wpAny (model X'.prog X'.w) X'.A t Q X'.xe s'->wpAny (model X'.prog X'.w) X'.A t Q E' s':=λh=>wpAny_mono h (λ_ _ x=>x) λ_ _ x=>by rw[hxe] at x;exact x.elim
 refine wpAny_bind (wpAny_standAt ?_)
 by_cases hi':i<n
 ·have hbi:=hb i hi'
  have hlt:ns'.length+b i<4000:=by
   have h1:(i+1)*B<=n*B:=Nat.mul_le_mul_right _ hi'
   rw[Nat.succ_mul] at h1
   omega
  refine wpAny_bind (thn (T.item X' rfl rfl rfl hc i [] s3 _ H3 _ I3 (stat fr3) st3 hi') λr s4 ⟨u,hr,h4⟩=>?_)
  subst hr
  refine wpAny_bind (thn h4 λ_ s5 ⟨x,H5,I5,r5,y5,st5,fr5⟩=>?_)
  obtain⟨rfl,rfl⟩:=y5
  have I5':=I5.pinned (stat fr5) (T.obj _ _ st5)
  refine wpAny_bind (thn (no (hg _ s5 _ H5 _ u (λσ6 H6=>σ6=some (.int (lo+(i:Int)))::o2'::rest/\H6=H5) I5' r5 ⟨rfl,rfl⟩)) λ_ s6 ⟨σ6,H6,I6,e6,e6'⟩=>?_)
  subst e6 e6'
  refine wpAny_bind (thn (no (hi _ s6 _ H6 _ I6 (hwi i o2' H6 hi' eq3))) λv s7 h7=>?_)
  refine wpAny_bind (wpAny_standAt (wpAny_bind (wpAny_of_eq (hs v) (wpAny_bind (wpAny_holding (thn (no h7) λitv s8 h8=>?_))))))
  obtain⟨it2,fp2,tn2,J,H8,e,I8,T2,st2,f2,q2,q2'⟩:=h8
  subst e q2 q2'
  have lp:codeAny (model X'.prog X'.w) X'.A (.compLoop (.SetComp elt [⟨tg,iter,[],0⟩,⟨tg2,iter2,[],0⟩] scope pos) 1 (.ref it2) (.ref D) X'.env) (λr s'=>r=.ok .next/\∃ o2'' H' ns2,Inv X' ([]++pinsAt fp s5.heap) (some (.int (lo+(i:Int)))::o2''::rest) H' s'/\(∀ a,a≠D->H' a=H0 a)/\H' D=some (exs X'.w D ns2)/\(∀ k,k∈ns2↔k∈ns'\/∃ j,j<b i/\k=f i j)/\ns2.length<=ns'.length+b i) s8 :=
   in_loop (f:=f i) hc hxe T2 hg2 he I8 f2 st2 hD3 hlt (λj H hj eH=>hte i j H hi' hj λa ha=>(eH a ha).trans (eq3 a ha)) λs' o2'' H' ns2 I' e1 e2 e3 e4=>⟨rfl,o2'',H',ns2,I',λa ha=>(e1 a ha).trans (eq3 a ha),e2,e3,e4⟩
  refine wpAny_bind (wpAny_runOwn (show codeAny (model X'.prog X'.w) X'.A _ _ s8 from codeAny_mono (start_set (.inr rfl) lp (T2.self _ _ _ _ _ st2 lp)) λr s9 hr=>?_))
  obtain⟨rfl,o2'',H9,ns2,I9,e1,e2,e3,e4⟩:=hr
  refine wpAny_pure ⟨rfl,n-(i+1),by omega,i+1,_,_,H9,ns2,rfl,hi',I9.unpinned,T.keep _ _ _ st5 λc hc o e=>(I9.pin (c,o) (List.mem_append_right _ (List.mem_append_right _ (mem_pinsAt hc e)))).1,λc hc=>?_,e1,e2,λk=>?_,?_⟩
  ·obtain⟨o,e,d⟩:=T.obj _ _ st5 c hc
   exact(I9.pin (c,o) (List.mem_append_right _ (List.mem_append_right _ (mem_pinsAt hc e)))).2.1
  ·rw[e3 k,mem3 k]
   constructor
   ·rintro(⟨x,y,h1,h2,h3⟩ | ⟨j,h1,h2⟩)
    ·exact⟨x,y,by omega,h2,h3⟩
    ·exact⟨i,j,by omega,h1,h2⟩
   ·rintro⟨x,y,h1,h2,h3⟩
    by_cases e:x=i
    ·subst e;exact .inr ⟨y,h2,h3⟩
    ·exact .inl ⟨x,y,by omega,h2,h3⟩
  ·rw[Nat.succ_mul];omega
 ·have ei:i=n:=by omega
  subst ei
  refine wpAny_bind (thn (T.done X' rfl rfl rfl hc i [] s3 _ H3 _ I3 (stat fr3) st3 (Nat.le_refl _)) λr s4 ⟨hr,I4⟩=>?_)
  subst hr
  exact wpAny_pure (hR _ _ _ _ ns' I4 eq3 hD3 mem3 len3)
variable {X:Cx}
abbrev frs0 (w:World):Obj:={ cls:=.type "set",dict:=none,data:=.set #[] 0 (.fresh 0 0 (!SW.byT w)) }
theorem set_block {N':List Str}{cs:List (Option Nat)}{pins:List (Addr×Obj)}{σ:St}{H:Hp}{s:Shared}{lo:Int}{n B:Nat}{b:Nat->Nat}{f:Nat->Nat->Int}{fp:List Addr}{it:Addr}{tn:Nat->Heap->Prop}{wi2:TI}{te:TE}{cl:List (Str×Addr)}{RR:Value->Addr->Result->Shared->Prop}
  (hc:X.calm=true) (hcap:capOk N' (none::none::cs) X.N X.env.scope.names scope.names=true) (hkind:scope.kind=.function) (hC:Clo scope X.env cl)
  (hg:∀ C s0 H0 fp,PG (cxComp X pins N' scope cl C s0 H0 fp) tg (gName 0)) (hi:∀ C s0 H0 fp,PI (cxComp X pins N' scope cl C s0 H0 fp) tg2 iter2 wi2) (hs:∀ env x,foldedSetIterable iter2 env x=pure x) (hg2:∀ C s0 H0 fp,PG (cxComp X pins N' scope cl C s0 H0 fp) tg2 (gName 1)) (he:∀ C s0 H0 fp,PE (cxComp X pins N' scope cl C s0 H0 fp) elt te)
  (I:Inv X pins σ H s) (T:Turn X.prog X.w X.K tg (Itr lo n) fp it tn) (st:tn 0 s.heap) (hf:∀ b∈fp,FpOk X pins H b) (hb:∀ i,i<n->b i<=B) (hle:n*B<=1000)
  (hwi:∀ (i:Nat) o H2,i<n->Same H H2->wi2 (some (.int (lo+(i:Int)))::o::capSt cs σ) H2 λJ H'=>J=Itr 0 (b i)/\H'=H2)
  (hte:∀ (i j:Nat) H2,i<n->j<b i->Same H H2->te (some (.int (lo+(i:Int)))::some (.int (0+(j:Int)))::capSt cs σ) H2 λv H'=>v=.int (f i j)/\H'=H2)
  (hR:∀ (D C:Addr) (s':Shared) (H':Hp) ns,Inv X pins σ H' s'->Same H H'->H D=none->H' D=some (exs X.w D ns)->(∀ k,k∈ns↔∃ i j,i<n/\j<b i/\k=f i j)->ns.length<=1000->(∃ o m,s'.heap.get? C=some o/\(∀ v,o.data≠.cell v)/\(∀ h2:Heap,h2.get? C=some o->h2.Ns C m))->H' C=none->s.heap.objs.size<=C->RR (.ref D) C (.ok .next) s') :
  wpAny (model X.prog X.w) X.A (newSet (.type "set")) (λacc s₃=>wpAny (model X.prog X.w) X.A (newFunctionEnv scope X.env.globals cl [] X.env.qual none .none (some X.env)) (λcenv s₄ =>
   codeAny (model X.prog X.w) X.A (.compStart (.SetComp elt [⟨tg,iter,[],0⟩,⟨tg2,iter2,[],0⟩] scope pos) 0 (.ref it) acc { cenv with scope:=relabel scope X.env }) (RR acc cenv.locals) s₄) X.xe s₃) X.xe s:=by
 refine SW.new_is (wpAny_newFunctionEnv (vis_free hcap).1 (by intro y hy;simp at hy) (λh₁ hns₁ hsb₁=>?_) hkind)
 have hz:(s.heap.push (frs0 X.w)).objs.size=s.heap.objs.size+1:=Heap.size_push ..
 have hns:h₁.Ns (s.heap.objs.size+1) λ_=>none:=by rw[<- hz];exact hns₁
 have hsb:Heap.SameBut (s.heap.objs.size+1) ((s.heap.push (frs0 X.w)).push { cls:=.type "dict",data:=.dict #[] }) h₁:=by rw[<- hz];exact hsb₁
 have hfo:∀ b∈fp,∃ o,s.heap.get? b=some o:=λb hb=>let ⟨o,e,_⟩:=T.obj 0 _ st b hb;⟨o,e⟩
 have hO:ObjOk X.prog X.w (upd H s.heap.objs.size (exs X.w s.heap.objs.size [])) (s.heap.push (frs0 X.w)) s.heap.objs.size (exs X.w s.heap.objs.size []):=exs_ok ⟨_,Heap.get?_push_size _ rfl,SW.fresh_is X.w⟩
 have I1:=comp_startO (tk:=s.toks+([]:List (Str×Value)).length) (O:=frs0 X.w) hO I hf hfo hcap hkind hC hns hsb
 have hn:H s.heap.objs.size=none:=I.hok.fresh (Nat.le_refl _)
 have up:∀ b o,s.heap.get? b=some o->h₁.get? b=some o:=λb o e =>
  hsb.extBut b o (Nat.ne_of_lt (Nat.lt_succ_of_lt (Heap.lt_size e))) (Heap.get?_push_of_some _ (Heap.get?_push_of_some _ e))
 have st1:tn 0 h₁:=T.keep _ _ _ st λb _ o e=>up b o e
 have f1:∀ b∈fp,FpOk (cxComp X pins N' scope cl (s.heap.objs.size+1) { s with heap:=s.heap.push (frs0 X.w) } (upd H s.heap.objs.size (exs X.w s.heap.objs.size [])) fp) [] (upd H s.heap.objs.size (exs X.w s.heap.objs.size [])) b:=λb hb=>by
  obtain⟨a0,a1,a2,a3,a4,a5⟩:=hf b hb
  obtain⟨o,ho⟩:=hfo b hb
  have hlt:=Heap.lt_size ho
  refine⟨by rw[upd_ne (Nat.ne_of_lt hlt)];exact a0,Nat.ne_of_lt (Nat.lt_succ_of_lt hlt),λz=>?_,.inl hb,λx c e=>a4 x c (hC.sub x c e),λp hp=>a5 p (by simpa using hp)⟩
  rcases List.mem_cons.mp (I.stkSub b z) with z | z
  ·exact a1 z
  ·exact a2 z
 have sm:∀ H2:Hp,(∀ a,a≠s.heap.objs.size->H2 a=upd H s.heap.objs.size (exs X.w s.heap.objs.size []) a)->Same H H2:=λH2 e a o q=>by
  have ne:a≠s.heap.objs.size:=λz=>by rw[z,hn] at q;cases q
  rw[e a ne,upd_ne ne];exact q
 have loop:codeAny (model X.prog X.w) X.A (.compLoop (.SetComp elt [⟨tg,iter,[],0⟩,⟨tg2,iter2,[],0⟩] scope pos) 0 (.ref it) (.ref s.heap.objs.size) (compEnvC scope cl (s.heap.objs.size+1) X.env))
   (RR (.ref s.heap.objs.size) (s.heap.objs.size+1)) { s with heap:=h₁,toks:=s.toks+([]:List (Str×Value)).length }:=by
  refine out_loop (X':=cxComp X pins N' scope cl (s.heap.objs.size+1) { s with heap:=s.heap.push (frs0 X.w) } (upd H s.heap.objs.size (exs X.w s.heap.objs.size [])) fp) (b:=b) (f:=f) hc rfl T (hg _ _ _ _) (hi _ _ _ _) (hs _) (hg2 _ _ _ _) (he _ _ _ _) (rest:=capSt cs σ) I1 f1 st1 upd_same hb (by omega) (λi o H2 h1 h2=>hwi i o H2 h1 (sm H2 h2)) (λi j H2 h1 h2 h3=>hte i j H2 h1 h2 (sm H2 h3)) λs' o1' o2' H' ns J' e1 e2 e3 e4=>?_
  have B':=comp_backO I hf J'
  obtain⟨m,hnC,_⟩:=J'.loc
  obtain⟨o,es,ep,ho,hd,r⟩:=id hnC
  exact hR _ _ s' H' ns B' (sm H' e1) hn e2 e3 (by omega) ⟨o,m,ho,(λv z=>by rw[hd] at z;cases z),λh2 e2=>⟨o,es,ep,e2,hd,r⟩⟩ J'.free (Nat.le_succ _)
 have fin:=start_set (.inl rfl) loop (T.self _ _ _ _ _ st1 loop)
 have hz2:(s.heap.push (frs0 X.w)).objs.size=s.heap.objs.size+1:=hz
 show codeAny _ _ (.compStart _ 0 _ _ { (newEnv scope (s.heap.push (frs0 X.w)).objs.size X.env.globals cl X.env.qual none .none (some X.env) _) with scope:=relabel scope X.env }) (RR _ (s.heap.push (frs0 X.w)).objs.size) _
 rw[hz2]
 exact fin
def tSC (cs:List (Option Nat))(wi wi2:TI)(te:TE):TE:=λσ H Q=>wi σ H λJ H1=>∃ (lo:Int) (n B:Nat) (b:Nat->Nat) (f:Nat->Nat->Int),J=Itr lo n/\(∀ i,i<n->b i<=B)/\n*B<=1000 /\
 (∀ (i:Nat) o H2,i<n->Same H1 H2->wi2 (some (.int (lo+(i:Int)))::o::capSt cs σ) H2 λJ H'=>J=Itr 0 (b i)/\H'=H2) /\
 (∀ (i j:Nat) H2,i<n->j<b i->Same H1 H2->te (some (.int (lo+(i:Int)))::some (.int (0+(j:Int)))::capSt cs σ) H2 λv H'=>v=.int (f i j)/\H'=H2) /\
 ∀ (p:Addr) (H':Hp) (ms:List Int),ms.Nodup->(∀ k,k∈ms↔∃ i j,i<n/\j<b i/\k=f i j)->ms.Pairwise (·<=·)->ms.length<=1000->H1 p=none->Same H1 H'->H' p=some (.lst (ms.map V.int))->Q (.ref p) H'
theorem qe_sc (N':List Str)(cs:List (Option Nat)){wi wi2:TI}{te:TE}{p pos2:Pos}(hc:X.calm=true)(hgl:Gl X "sorted")(hm:X.mg "sorted"=none)(hi:QI X tg iter wi)
  (hg:∀ pins cl C s0 H0 fp,QG (cxComp X pins N' scope cl C s0 H0 fp) tg (gName 0)) (hi2:∀ pins cl C s0 H0 fp,QI (cxComp X pins N' scope cl C s0 H0 fp) tg2 iter2 wi2) (hg2:∀ pins cl C s0 H0 fp,QG (cxComp X pins N' scope cl C s0 H0 fp) tg2 (gName 1)) (he:∀ pins cl C s0 H0 fp,QE (cxComp X pins N' scope cl C s0 H0 fp) elt te)
  (hcap:capOk N' (none::none::cs) X.N X.env.scope.names scope.names=true:=by kernel_rfl) (hkind:scope.kind=.function:=by rfl) (hs:∀ x,foldedSetIterable iter X.env x=pure x:=by intro _;rfl) (hs2:∀ env x,foldedSetIterable iter2 env x=pure x:=by intro _ _;rfl) :
  QE X (.Call (.Name "sorted" p) [.SetComp elt [⟨tg,iter,[],0⟩,⟨tg2,iter2,[],0⟩] scope pos] [] pos2) (tSC cs wi wi2 te):=⟨by
 intro pins s σ H Q I h
 obtain⟨cl,hC⟩:=clo_of I hcap
 refine wpAny_Call_Name_kw (ld_blt I hgl hm boot_srt ?_)
 refine PyProof.Rows.callWith_builtin1 ?_ rfl rfl
 show wpAny _ _ (spliced ((false,eval (.SetComp elt [⟨tg,iter,[],0⟩,⟨tg2,iter2,[],0⟩] scope pos) X.env)::[])) _ _ s
 refine Calls.spliced_cons ?_
 show wpAny _ _ (comprehension (.SetComp elt [⟨tg,iter,[],0⟩,⟨tg2,iter2,[],0⟩] scope pos) scope X.env _ (newSet (.type "set")) false (eval iter X.env)) _ _ s
 refine wpAny_comprehension_free (use:=none) rfl hs hC.eq hkind (vis_free hcap).2.2 (thn (hi.h pins s σ H _ I h) λv s1 h1=>thn h1 λitv s2 h2=>?_)
 obtain⟨it,fp,tn,J,H2,e,I2,T,st2,f2,lo,n,B,b,f,eJ,hb,hle,hwi,hte,q⟩:=h2
 subst e eJ
 refine set_block (b:=b) (f:=f) hc hcap hkind hC (λa b c d=>(hg pins cl a b c d).h) (λa b c d=>(hi2 pins cl a b c d).h) hs2 (λa b c d=>(hg2 pins cl a b c d).h) (λa b c d=>(he pins cl a b c d).h) I2 T st2 f2 hb hle hwi hte λD C s' H' ns I' sm hDn hD hmem hlen hCo hCn hCs=>?_
 obtain⟨o,m,ho,hd,hns⟩:=hCo
 refine⟨m,hns _ ho,λh' hsb=>Calls.spliced_nil ?_⟩
 obtain⟨hp',g',d',t',os'⟩:=s'
 have hC0:X.s₀.heap.objs.size<=C:=Nat.le_trans I2.sz hCs
 have I3:=I'.turned (t':=t') (it:=C) (λb o hb e=>hsb.extBut b o hb e) hCn (λz=>by
  have:=I2.lt;rw[<- z] at this;exact absurd (Nat.lt_of_lt_of_le this hCs) (Nat.lt_irrefl _)) (.inr hC0) (λx c e z=>by
  obtain⟨v,q⟩:=I2.cell x c e
  exact absurd (Nat.lt_of_lt_of_le q.lt (by rw[z];exact hCs)) (Nat.lt_irrefl _)) (λp hp z=>by
  exact absurd (Nat.lt_of_lt_of_le (Heap.lt_size (I2.pin p hp).1) (by rw[z];exact hCs)) (Nat.lt_irrefl _))
 obtain⟨od,hod,hset⟩:=set_of I3 hD
 refine SW.sorted_is (I3.ok.hd hc) hod hset hlen λs2' l out c ms z1 z2 z3 z4 z5 z6 z7 z8=>?_
 have hfl:H' l=none:=I3.hok.fresh z4
 refine⟨.ref l,_,?_,rfl,q l (upd H' l (.lst (ms.map V.int))) ms (z7.nodup_iff.mpr hset.2.1) (λk=>z7.mem_iff.trans (hmem k)) z8 (by rw[z7.length_eq];exact hlen) (sm.free hfl) (sm.trans (same_upd hfl)) upd_same⟩
 refine(I3.laid (t':=t') (h':=s2'.heap) z1 z4 (show ObjOk X.prog X.w _ _ _ (.lst _) from ⟨?_,out,c,vals_ints z6,z5⟩)).drew rfl z2 z3
 rw[List.length_map,z7.length_eq,sizeLine_eq];omega⟩
end
end L2
namespace M3
def pcs (ns:List Int):Nat->List Nat->List (List Int)
 | b,[]=>[ns.drop b]
 | b,c::cs=>(ns.drop b).take (c-b)::pcs ns c cs
theorem pcs_len (ns:List Int):∀ (cs:List Nat) (b:Nat),(pcs ns b cs).length=cs.length+1
 | [],_=>rfl
 | c::cs,b=>by simp only[pcs,List.length_cons,pcs_len ns cs c]
structure CutN (cs:List Nat)(n:Nat):Prop where
 up:cs.Pairwise (·<·)
 lo:∀ c∈cs,1<=c
 hi:∀ c∈cs,c<n
end M3
namespace M3
end M3
namespace M5
def lcut (b:Int):Nat->Int->List Int->List Int
 | _,_,[]=>[]
 | i,tot,n::r=>if tot+n > b then (i:Int)::lcut b (i+1) n r else lcut b (i+1) (tot+n) r
def ltot (b:Int):Int->List Int->Int
 | tot,[]=>tot
 | tot,n::r=>if tot+n > b then ltot b n r else ltot b (tot+n) r
theorem lcut_app (b:Int):∀ (xs ys:List Int) (i:Nat) (tot:Int),lcut b i tot (xs++ys)=lcut b i tot xs++lcut b (i+xs.length) (ltot b tot xs) ys
 | [],ys,i,tot=>by simp[lcut,ltot]
 | x::xs,ys,i,tot=>by
  by_cases h:tot+x > b
  ·simp only[List.cons_append,lcut,ltot,h,if_true,lcut_app b xs ys (i+1) x,List.length_cons]
   rw[show i+1+xs.length=i+(xs.length+1) by omega]
  ·simp only[List.cons_append,lcut,ltot,h,if_false,lcut_app b xs ys (i+1) (tot+x),List.length_cons]
   rw[show i+1+xs.length=i+(xs.length+1) by omega]
theorem ltot_app (b:Int):∀ (xs ys:List Int) (tot:Int),ltot b tot (xs++ys)=ltot b (ltot b tot xs) ys
 | [],ys,tot=>rfl
 | x::xs,ys,tot=>by
  by_cases h:tot+x > b
  ·simp only[List.cons_append,ltot,h,if_true];exact ltot_app b xs ys x
  ·simp only[List.cons_append,ltot,h,if_false];exact ltot_app b xs ys (tot+x)
theorem sum_nn:∀ (ys:List Int),(∀ y∈ys,0<=y)->0<=ys.sum
 | [],_=>by simp
 | y::ys,h=>by
  rw[List.sum_cons]
  have:=sum_nn ys λz hz=>h z (List.mem_cons_of_mem _ hz)
  have:=h y List.mem_cons_self
  omega
theorem lcut_nil {b:Int}:∀ (ys:List Int) (i:Nat) (tot:Int),(∀ y∈ys,0<=y)->tot+ys.sum<=b->lcut b i tot ys=[]
 | [],_,_,_,_=>rfl
 | y::ys,i,tot,h,hs=>by
  rw[List.sum_cons] at hs
  have hp:0<=ys.sum:=sum_nn ys λz hz=>h z (List.mem_cons_of_mem _ hz)
  have:¬ tot+y > b:=by omega
  simp only[lcut,this,if_false]
  exact lcut_nil ys (i+1) (tot+y) (λz hz=>h z (List.mem_cons_of_mem _ hz)) (by omega)
theorem mem_le_sum:∀ {ys:List Int},(∀ y∈ys,0<=y)->∀ y∈ys,y<=ys.sum
 | x::ys,h,y,hy=>by
  rw[List.sum_cons]
  have h0:=sum_nn ys λz hz=>h z (List.mem_cons_of_mem _ hz)
  have hx:=h x List.mem_cons_self
  rcases List.mem_cons.mp hy with rfl | hy
  ·omega
  ·have:=mem_le_sum (λz hz=>h z (List.mem_cons_of_mem _ hz)) y hy
   omega
theorem lcut_one {b:Int}:∀ (ys:List Int) (i:Nat) (tot:Int),(∀ y∈ys,0<=y)->ys.sum<=b->(lcut b i tot ys).length<=1
 | [],_,_,_,_=>Nat.zero_le _
 | y::ys,i,tot,h,hs=>by
  rw[List.sum_cons] at hs
  have hy:=h y List.mem_cons_self
  have ht:∀ z∈ys,0<=z:=λz hz=>h z (List.mem_cons_of_mem _ hz)
  by_cases hc:tot+y > b
  ·simp only[lcut,hc,if_true,lcut_nil ys (i+1) y ht hs,List.length_cons,List.length_nil];omega
  ·simp only[lcut,hc,if_false]
   exact lcut_one ys (i+1) (tot+y) ht (by omega)
def gp (b:Int)(ns:List Int):Nat:=if ns=[] then 0 else (lcut b 0 0 ns).length+1
theorem gp_add {b:Int}{xs ys:List Int}(h:∀ y∈ys,0<=y)(hs:ys.sum<=b):gp b (xs++ys)<=gp b xs+1:=by
 unfold gp
 by_cases hx:xs=[]
 ·subst hx
  rw[List.nil_append,lcut_nil ys 0 0 h (by omega)]
  split<;>simp
 ·rw[if_neg hx,if_neg (by simp[hx]),lcut_app,List.length_append]
  have:=lcut_one ys (0+xs.length) (ltot b 0 xs) h hs
  omega
theorem gp_last {b:Int}:∀ (m:Nat) (xs:List Int),xs.length=m->xs≠[]->(∀ x∈xs,0<=x)->(∀ x∈xs,x<=b)->∃ pre seg,xs=pre++seg/\seg≠[]/\seg.sum=ltot b 0 xs/\ltot b 0 xs<=b/\gp b xs=gp b pre+1
 | 0,xs,hl,hne,_,_=>absurd (List.length_eq_zero_iff.mp hl) hne
 | m+1,xs,hl,hne,h0,h1=>by
  obtain⟨ys,n,rfl⟩:∃ ys n,xs=ys++[n]:=⟨xs.dropLast,xs.getLast hne,(List.dropLast_concat_getLast hne).symm⟩
  have hn:n<=b:=h1 n (by simp)
  by_cases hy:ys=[]
  ·subst hy
   have e:¬ (0:Int)+n > b:=by omega
   refine⟨[],[n],rfl,by simp,?_,?_,?_⟩
   ·simp[ltot,e]
   ·simp only[List.nil_append,ltot,e,if_false];omega
   ·simp[gp,lcut,hn]
  ·rw[ltot_app]
   by_cases hc:ltot b 0 ys+n > b
   ·refine⟨ys,[n],rfl,by simp,?_,?_,?_⟩
    ·simp[ltot,hc]
    ·simp only[ltot,hc,if_true];exact hn
    ·unfold gp
     rw[if_neg hy,if_neg (by simp),lcut_app]
     simp[lcut,hc]
   ·obtain⟨pre,seg,e1,e2,e3,e4,e5⟩:=gp_last m ys (by simp at hl;exact hl) hy (λx hx=>h0 x (by simp[hx])) (λx hx=>h1 x (by simp[hx]))
    refine⟨pre,seg++[n],by rw[e1];simp,by simp,?_,?_,?_⟩
    ·simp only[List.sum_append,List.sum_cons,List.sum_nil,ltot,hc,if_false];omega
    ·simp only[ltot,hc,if_false];omega
    ·rw[<- e5]
     unfold gp
     rw[if_neg hy,if_neg (by simp),lcut_app]
     simp[lcut,hc]
end M5
namespace M5
theorem lcut_len (b:Int):∀ (xs:List Int) (i:Nat) (tot:Int),(lcut b i tot xs).length<=xs.length
 | [],_,_=>Nat.le_refl _
 | x::xs,i,tot=>by
  simp only[lcut]
  split
  ·have:=lcut_len b xs (i+1) x;simp only[List.length_cons];omega
  ·have:=lcut_len b xs (i+1) (tot+x);simp only[List.length_cons];omega
end M5
namespace M5
def fv (b:Int)(ns:List Int)(i:Nat):Option Int:=if (ns.take i).all (λn=>decide (n<=b))=true then some ((gp b (ns.take i):Nat):Int) else none
def seg (ns:List Int)(k e:Nat):Int:=((ns.take e).drop k).sum
theorem seg_self (ns:List Int)(e:Nat):seg ns e e=0:=by
 unfold seg;rw[List.drop_eq_nil_of_le (by rw[List.length_take];omega)];rfl
theorem seg_step {ns:List Int}{k e:Nat}(hk:k<e)(he:e<=ns.length):seg ns k e=ns.getD k 0+seg ns (k+1) e:=by
 unfold seg
 have h:k<(ns.take e).length:=by rw[List.length_take];omega
 rw[List.drop_eq_getElem_cons h,List.sum_cons,List.getElem_take,List.getD_eq_getElem?_getD,List.getElem?_eq_getElem (by omega)];rfl
structure Best (b:Int)(ns:List Int)(e lo:Nat)(best:Option Int):Prop where
 ub:∀ k,lo<=k->k<e->seg ns k e<=b->∀ v,fv b ns k=some v->∃ w,best=some w/\w<=v+1
 ex:∀ w,best=some w->∃ k,lo<=k/\k<e/\seg ns k e<=b/\fv b ns k=some (w-1)
end M5
namespace M5
theorem take_split {ns:List Int}{i e:Nat}(h:i<=e):ns.take e=ns.take i++(ns.take e).drop i:=by
 conv=>lhs;rw[<- List.take_append_drop i (ns.take e)]
 rw[List.take_take,Nat.min_eq_left h]
end M5
namespace M10
open M5
def sends (b:Int):Nat->Int->List Int->List Int
 | _,_,[]=>[]
 | i,tot,n::r=>if tot+n>=b then ((i+1:Nat):Int)::sends b (i+1) 0 r else sends b (i+1) (tot+n) r
def stot (b:Int):Int->List Int->Int
 | tot,[]=>tot
 | tot,n::r=>if tot+n>=b then stot b 0 r else stot b (tot+n) r
theorem sends_app (b:Int):∀ (xs ys:List Int) (i:Nat) (tot:Int),sends b i tot (xs++ys)=sends b i tot xs++sends b (i+xs.length) (stot b tot xs) ys
 | [],ys,i,tot=>by simp[sends,stot]
 | x::xs,ys,i,tot=>by
  by_cases h:tot+x>=b
  ·simp only[List.cons_append,sends,stot,h,if_true,sends_app b xs ys (i+1) 0,List.length_cons]
   rw[show i+1+xs.length=i+(xs.length+1) by omega]
  ·simp only[List.cons_append,sends,stot,h,if_false,sends_app b xs ys (i+1) (tot+x),List.length_cons]
   rw[show i+1+xs.length=i+(xs.length+1) by omega]
theorem stot_app (b:Int):∀ (xs ys:List Int) (tot:Int),stot b tot (xs++ys)=stot b (stot b tot xs) ys
 | [],ys,tot=>rfl
 | x::xs,ys,tot=>by
  by_cases h:tot+x>=b
  ·simp only[List.cons_append,stot,h,if_true];exact stot_app b xs ys 0
  ·simp only[List.cons_append,stot,h,if_false];exact stot_app b xs ys (tot+x)
theorem sends_len (b:Int):∀ (xs:List Int) (i:Nat) (tot:Int),(sends b i tot xs).length<=xs.length
 | [],_,_=>Nat.le_refl _
 | x::xs,i,tot=>by
  simp only[sends]
  split
  ·have:=sends_len b xs (i+1) 0;simp only[List.length_cons];omega
  ·have:=sends_len b xs (i+1) (tot+x);simp only[List.length_cons];omega
theorem sends_cases (b:Int):∀ (xs:List Int) (i:Nat) (tot:Int),
  (sends b i tot xs=[]/\∀ j,1<=j->j<=xs.length->tot+(xs.take j).sum<b) \/
  ∃ j,1<=j/\j<=xs.length/\tot+(xs.take j).sum>=b/\(∀ k,1<=k->k<j->tot+(xs.take k).sum<b)/\sends b i tot xs=((i+j:Nat):Int)::sends b (i+j) 0 (xs.drop j)
 | [],i,tot=>.inl ⟨rfl,λj h1 h2=>by simp at h2;omega⟩
 | x::xs,i,tot=>by
  by_cases h:tot+x>=b
  ·refine .inr ⟨1,Nat.le_refl _,by simp,by simpa using h,λk h1 h2=>by omega,?_⟩
   simp only[sends,h,if_true,List.drop_succ_cons,List.drop_zero]
  ·rcases sends_cases b xs (i+1) (tot+x) with ⟨e,hl⟩ | ⟨j,h1,h2,h3,h4,h5⟩
   ·refine .inl ⟨by simp only[sends,h,if_false,e],λj h1 h2=>?_⟩
    cases j with
    | zero=>omega
    | succ j =>
     rw[List.take_succ_cons,List.sum_cons]
     cases j with
     | zero=>simp;omega
     | succ j=>have:=hl (j+1) (by omega) (by simp at h2;omega);omega
   ·refine .inr ⟨j+1,by omega,by simp;omega,?_,λk hk1 hk2=>?_,?_⟩
    ·rw[List.take_succ_cons,List.sum_cons];omega
    ·cases k with
     | zero=>omega
     | succ k =>
      rw[List.take_succ_cons,List.sum_cons]
      cases k with
      | zero=>simp;omega
      | succ k=>have:=h4 (k+1) (by omega) (by omega);omega
    ·simp only[sends,h,if_false,h5,List.drop_succ_cons]
     rw[show i+1+j=i+(j+1) by omega]
def cnt (b:Int)(tot:Int)(xs:List Int):Nat:=(sends b 0 tot xs).length
theorem len_any (b:Int):∀ (xs:List Int) (i j:Nat) (tot:Int),(sends b i tot xs).length=(sends b j tot xs).length
 | [],_,_,_=>rfl
 | x::xs,i,j,tot=>by
  simp only[sends]
  split
  ·simp only[List.length_cons];rw[len_any b xs (i+1) (j+1) 0]
  ·exact len_any b xs (i+1) (j+1) (tot+x)
theorem cnt_cons (b tot x:Int)(xs:List Int):cnt b tot (x::xs)=if tot+x>=b then cnt b 0 xs+1 else cnt b (tot+x) xs:=by
 unfold cnt
 simp only[sends]
 split
 ·rw[List.length_cons,len_any b xs 1 0]
 ·rw[len_any b xs 1 0]
theorem cnt_both (b:Int):∀ (xs:List Int),(∀ x∈xs,0<=x)->(∀ t u,0<=t->t<=u->cnt b t xs<=cnt b u xs)/\∀ t,0<=t->cnt b t xs<=cnt b 0 xs+1
 | [],_=>⟨λt u _ _=>by simp[cnt,sends],λt _=>by simp[cnt,sends]⟩
 | x::xs,h=>by
  obtain⟨h1,h2⟩:=cnt_both b xs λy hy=>h y (List.mem_cons_of_mem _ hy)
  have hx:=h x List.mem_cons_self
  have h3:∀ t,0<=t->cnt b 0 xs<=cnt b t (x::xs):=λt ht=>by
   rw[cnt_cons];split
   ·omega
   ·exact h1 0 (t+x) (Int.le_refl 0) (by omega)
  refine⟨λt u ht htu=>?_,λt ht=>?_⟩
  ·rw[cnt_cons,cnt_cons]
   by_cases c1:t+x>=b
   ·rw[if_pos c1,if_pos (by omega)];exact Nat.le_refl _
   ·rw[if_neg c1]
    split
    ·exact h2 (t+x) (by omega)
    ·exact h1 _ _ (by omega) (by omega)
  ·have h4:=h3 0 (Int.le_refl 0)
   rw[cnt_cons b t]
   split
   ·omega
   ·have:=h2 (t+x) (by omega);omega
theorem cnt_tail {b:Int}{x:Int}{xs:List Int}(h:∀ y∈x::xs,0<=y):cnt b 0 xs<=cnt b 0 (x::xs):=by
 obtain⟨h1,h2⟩:=cnt_both b xs λy hy=>h y (List.mem_cons_of_mem _ hy)
 have hx:=h x List.mem_cons_self
 rw[cnt_cons];split
 ·omega
 ·exact h1 0 (0+x) (Int.le_refl 0) (by omega)
def G (b:Int)(ns:List Int)(k:Nat):Nat:=cnt b 0 (ns.drop k)
theorem G_mono {b:Int}{ns:List Int}(h:∀ n∈ns,0<=n):∀ (d k:Nat),G b ns (k+d)<=G b ns k
 | 0,k=>Nat.le_refl _
 | d+1,k=>by
  refine Nat.le_trans ?_ (G_mono h d k)
  unfold G
  by_cases hl:k+d<ns.length
  ·rw[List.drop_eq_getElem_cons hl]
   exact cnt_tail λy hy=>h y (by
    have:y∈ns.drop (k+d):=by rw[List.drop_eq_getElem_cons hl];exact hy
    exact List.mem_of_mem_drop this)
  ·rw[List.drop_eq_nil_of_le (by omega)];simp[cnt,sends]
theorem seg_take {ns:List Int}{k j:Nat}:((ns.drop k).take j).sum=seg ns k (k+j):=by
 unfold seg;rw[List.drop_take];congr 2;omega
theorem G_cases (b:Int)(ns:List Int)(k:Nat)(hk:k<=ns.length) :
  (G b ns k=0/\sends b k 0 (ns.drop k)=[]/\∀ e,k<e->e<=ns.length->seg ns k e<b) \/
  ∃ e,k<e/\e<=ns.length/\seg ns k e>=b/\(∀ j,k<j->j<e->seg ns k j<b)/\G b ns k=G b ns e+1/\sends b k 0 (ns.drop k)=(e:Int)::sends b e 0 (ns.drop e):=by
 have hlen:(ns.drop k).length=ns.length-k:=List.length_drop
 rcases sends_cases b (ns.drop k) k 0 with ⟨e,h⟩ | ⟨j,h1,h2,h3,h4,h5⟩
 ·refine .inl ⟨?_,e,λe' h1 h2=>?_⟩
  ·unfold G cnt;rw[len_any b _ 0 k,e];rfl
  ·have:=h (e'-k) (by omega) (by omega)
   rw[seg_take,show k+(e'-k)=e' by omega] at this;omega
 ·rw[seg_take] at h3
  refine .inr ⟨k+j,by omega,by omega,by omega,λi h6 h7=>?_,?_,?_⟩
  ·have:=h4 (i-k) (by omega) (by omega)
   rw[seg_take,show k+(i-k)=i by omega] at this;omega
  ·unfold G cnt;rw[len_any b _ 0 k,h5,List.length_cons,List.drop_drop,len_any b _ (k+j) 0]
  ·rw[h5,List.drop_drop]
def M (b:Int)(ns:List Int)(k:Nat):Option Int:=if k=ns.length then some 0 else if G b ns k=0 then none else some ((G b ns k:Nat):Int)
structure Top (b:Int)(ns:List Int)(k hi:Nat)(best:Option Int):Prop where
 ub:∀ e,k<e->e<=hi->seg ns k e>=b->∀ v,M b ns e=some v->∃ w,best=some w/\v+1<=w
 ex:∀ w,best=some w->∃ e,k<e/\e<=hi/\seg ns k e>=b/\M b ns e=some (w-1)
end M10
namespace M11
open M5 M10
def pick (w:Nat)(x y:Int):Int:=if w=0 then min x y else max x y
def both (w:Nat)(x y:Int):Int:=if w=0 then max x y else min x y
def Le (w:Nat)(x y:Int):Prop:=if w=0 then x<=y else y<=x
theorem Le.refl (w:Nat)(x:Int):Le w x x:=by unfold Le;split<;>omega
theorem Le.trans {w:Nat}{x y z:Int}(a:Le w x y)(b:Le w y z):Le w x z:=by unfold Le at *;split at a<;>simp_all<;>omega
theorem pick_or (w:Nat)(x y:Int):pick w x y=x\/pick w x y=y:=by unfold pick;split<;>omega
theorem pick_l (w:Nat)(x y:Int):Le w (pick w x y) x:=by unfold pick Le;split<;>omega
theorem pick_r (w:Nat)(x y:Int):Le w (pick w x y) y:=by unfold pick Le;split<;>omega
structure IsBest (w:Nat)(l:List Int)(v:Int):Prop where
 mem:v∈l
 le:∀ a∈l,Le w v a
def lbest (w:Nat):List Int->Option Int
 | []=>none
 | a::l=>some (l.foldl (pick w) a)
theorem fold_best (w:Nat):∀ (l:List Int) (a:Int),IsBest w (a::l) (l.foldl (pick w) a)
 | [],a=>⟨by simp,λx hx=>by simp at hx;subst hx;exact Le.refl w _⟩
 | b::l,a=>by
  have ih:=fold_best w l (pick w a b)
  rw[List.foldl_cons]
  refine⟨?_,λx hx=>?_⟩
  ·rcases List.mem_cons.mp ih.mem with h | h
   ·rw[h];rcases pick_or w a b with e | e<;>rw[e]<;>simp
   ·exact List.mem_cons_of_mem _ (List.mem_cons_of_mem _ h)
  ·have h0:=ih.le _ List.mem_cons_self
   rcases List.mem_cons.mp hx with rfl | hx
   ·exact h0.trans (pick_l w _ _)
   ·rcases List.mem_cons.mp hx with rfl | hx
    ·exact h0.trans (pick_r w _ _)
    ·exact ih.le x (List.mem_cons_of_mem _ hx)
theorem lbest_is {w:Nat}{l:List Int}{v:Int}(h:lbest w l=some v):IsBest w l v:=by
 cases l with
 | nil=>cases h
 | cons a l=>have:=fold_best w l a;simp only[lbest,Option.some.injEq] at h;rw[<- h];exact this
def T (w:Nat)(ns:List Int):Nat->Nat->Option Int
 | 0,i=>if i<ns.length then some (seg ns i ns.length) else none
 | k+1,i=>lbest w ((List.range (ns.length-(k+1)-i)).map λj=>both w (seg ns i (i+1+j)) ((T w ns k (i+1+j)).getD 0))
theorem T_some {w:Nat}{ns:List Int}:∀ {k i:Nat},i+k<ns.length->∃ v,T w ns k i=some v
 | 0,i,h=>⟨_,by simp only[T];rw[if_pos (by omega)]⟩
 | k+1,i,h=>by
  simp only[T]
  obtain⟨n,hn⟩:∃ n,ns.length-(k+1)-i=n+1:=⟨ns.length-(k+1)-i-1,by omega⟩
  rw[hn,List.range_succ_eq_map,List.map_cons]
  exact⟨_,rfl⟩
theorem T_none {w:Nat}{ns:List Int}:∀ {k i:Nat},ns.length<=i+k->T w ns k i=none
 | 0,i,h=>by simp only[T];rw[if_neg (by omega)]
 | k+1,i,h=>by
  simp only[T]
  rw[show ns.length-(k+1)-i=0 by omega];rfl
theorem T_mem {w:Nat}{ns:List Int}{k i:Nat}{t:Int}(h:T w ns (k+1) i=some t):(∃ e v,i<e/\e+k<ns.length/\T w ns k e=some v/\t=both w (seg ns i e) v)/\∀ e v,i<e->e+k<ns.length->T w ns k e=some v->Le w t (both w (seg ns i e) v):=by
 have hb:=lbest_is h
 refine⟨?_,λe v h1 h2 hv=>?_⟩
 ·obtain⟨j,hj,e⟩:=List.mem_map.mp hb.mem
  have hj':=List.mem_range.mp hj
  obtain⟨v,hv⟩:=T_some (w:=w) (ns:=ns) (k:=k) (i:=i+1+j) (by omega)
  refine⟨i+1+j,v,by omega,by omega,hv,?_⟩
  rw[<- e,hv];rfl
 ·refine hb.le _ (List.mem_map.mpr ⟨e-(i+1),List.mem_range.mpr (by omega),?_⟩)
  rw[show i+1+(e-(i+1))=e by omega,hv];rfl
theorem G_le {b:Int}{ns:List Int}{i:Nat}:G b ns i<=ns.length-i:=by
 have:=sends_len b (ns.drop i) 0 0
 rw[List.length_drop] at this;exact this
theorem seg_split {ns:List Int}{i e n:Nat}(h1:i<=e)(h2:e<=n)(h3:n<=ns.length):seg ns i n=seg ns i e+seg ns e n:=by
 unfold seg
 have:(ns.take n).drop i=(ns.take e).drop i++(ns.take n).drop e:=by
  have h:ns.take n=ns.take e++(ns.take n).drop e:=take_split h2
  conv=>lhs;rw[h]
  rw[List.drop_append_of_le_length (by rw[List.length_take];omega)]
 rw[this,List.sum_append]
theorem seg_nn {ns:List Int}(hnn:∀ n∈ns,0<=n)(i e:Nat):0<=seg ns i e:=sum_nn _ λy hy=>hnn y (List.mem_of_mem_take (List.mem_of_mem_drop hy))
theorem T_iff {ns:List Int}(hnn:∀ n∈ns,0<=n)(b:Int):∀ {k i:Nat} {t:Int},i+k<ns.length->T 1 ns k i=some t->(b<=t↔k+1<=G b ns i)
 | 0,i,t,h,ht=>by
  simp only[T] at ht
  rw[if_pos (by omega)] at ht
  have ht:=Option.some.inj ht
  rcases G_cases b ns i (by omega) with ⟨g0,_,hall⟩ | ⟨e,h1,h2,h3,h4,h5,_⟩
  ·have:=hall ns.length (by omega) (Nat.le_refl _)
   constructor<;>intro z<;>omega
  ·have h6:=seg_split (ns:=ns) (Nat.le_of_lt h1) h2 (Nat.le_refl _)
   have h7:=seg_nn hnn e ns.length
   constructor<;>intro z<;>omega
 | k+1,i,t,h,ht=>by
  obtain⟨⟨e,v,he1,he2,hv,htv⟩,hle⟩:=T_mem ht
  constructor
  ·intro hb
   have hs:b<=seg ns i e/\b<=v:=by
    rw[htv] at hb;unfold both at hb;rw[if_neg (by decide)] at hb;omega
   have hG:=(T_iff hnn b he2 hv).mp hs.2
   rcases G_cases b ns i (by omega) with ⟨g0,_,hall⟩ | ⟨e0,h1,h2,h3,h4,h5,_⟩
   ·have:=hall e he1 (by omega);omega
   ·have hee:e0<=e:=by
     refine Classical.byContradiction λz=>?_
     have:=h4 e he1 (by omega);omega
    have hm:=G_mono (b:=b) hnn (e-e0) e0
    rw[show e0+(e-e0)=e by omega] at hm
    omega
  ·intro hG
   rcases G_cases b ns i (by omega) with ⟨g0,_,hall⟩ | ⟨e0,h1,h2,h3,h4,h5,_⟩
   ·omega
   ·have hl:=G_le (b:=b) (ns:=ns) (i:=e0)
    have he0:e0+k<ns.length:=by omega
    obtain⟨v0,hv0⟩:=T_some (w:=1) he0
    have h6:=(T_iff hnn b he0 hv0).mpr (by omega)
    have h7:=hle e0 v0 h1 he0 hv0
    unfold Le both at h7
    rw[if_neg (by decide),if_neg (by decide)] at h7
    omega
theorem G_sum {ns:List Int}(hnn:∀ n∈ns,0<=n){b:Int}(hb:0<=b):∀ (d i:Nat),ns.length-i=d->i<=ns.length->b*(G b ns i:Int)<=seg ns i ns.length:=by
 intro d
 induction d using Nat.strongRecOn with
 | ind d ih =>
  intro i hd hi
  rcases G_cases b ns i hi with ⟨g0,_,_⟩ | ⟨e,h1,h2,h3,h4,h5,_⟩
  ·rw[g0];have:=seg_nn hnn i ns.length;simp;omega
  ·have:=ih (ns.length-e) (by omega) e rfl h2
   rw[h5,seg_split (ns:=ns) (Nat.le_of_lt h1) h2 (Nat.le_refl _)]
   push_cast
   rw[Int.mul_add,Int.mul_one]
   omega
theorem cnt_zero:∀ (xs:List Int) (t:Int),(∀ x∈xs,0<=x)->0<=t->cnt 0 t xs=xs.length
 | [],t,_,_=>rfl
 | x::xs,t,h,ht=>by
  have hx:=h x List.mem_cons_self
  rw[cnt_cons,if_pos (by omega),cnt_zero xs 0 (λy hy=>h y (List.mem_cons_of_mem _ hy)) (Int.le_refl 0),List.length_cons]
theorem G_zero {ns:List Int}(hnn:∀ n∈ns,0<=n):G 0 ns 0=ns.length:=by
 unfold G;rw[List.drop_zero];exact cnt_zero ns 0 hnn (Int.le_refl 0)
end M11
namespace M7
open M5 M10 M11
theorem gp_le {b:Int}:∀ (n:Nat) (ps:List (List Int)),ps.length=n->(∀ p∈ps,∀ x∈p,0<=x)->(∀ p∈ps,p.sum<=b)->gp b ps.flatten<=ps.length
 | 0,ps,h,_,_=>by
  have:ps=[]:=List.length_eq_zero_iff.mp h
  subst this;simp[gp]
 | n+1,ps,h,h0,h1=>by
  have hne:ps≠[]:=λz=>by rw[z] at h;cases h
  have e:ps=ps.dropLast++[ps.getLast hne]:=(List.dropLast_concat_getLast hne).symm
  have hl:ps.dropLast.length=n:=by rw[List.length_dropLast,h];rfl
  have hm:∀ p∈ps.dropLast,p∈ps:=λp hp=>by rw[e];exact List.mem_append_left _ hp
  have ih:=gp_le n ps.dropLast hl (λp hp=>h0 p (hm p hp)) λp hp=>h1 p (hm p hp)
  have hlast:=List.getLast_mem hne
  have:=gp_add (b:=b) (xs:=ps.dropLast.flatten) (h0 _ hlast) (h1 _ hlast)
  rw[e,List.flatten_append,List.flatten_singleton,List.length_append]
  simp only[List.length_cons,List.length_nil]
  omega
theorem decomp {b:Int}:∀ (n:Nat) (xs:List Int),xs.length=n->(∀ x∈xs,0<=x)->(∀ x∈xs,x<=b)->∃ ps:List (List Int),ps.flatten=xs/\(∀ p∈ps,p≠[]/\p.sum<=b)/\ps.length=gp b xs:=by
 intro n
 induction n using Nat.strongRecOn with
 | ind n ih =>
  intro xs hl h0 h1
  by_cases hx:xs=[]
  ·subst hx;exact⟨[],rfl,by simp,by simp[gp]⟩
  ·obtain⟨pre,sg,e1,e2,e3,e4,e5⟩:=gp_last xs.length xs rfl hx h0 h1
   have hs:0<sg.length:=List.length_pos_iff.mpr e2
   have hpl:pre.length<n:=by rw[<- hl,e1,List.length_append];omega
   obtain⟨ps,p1,p2,p3⟩:=ih pre.length hpl pre rfl (λx hx=>h0 x (by rw[e1];exact List.mem_append_left _ hx)) λx hx=>h1 x (by rw[e1];exact List.mem_append_left _ hx)
   refine⟨ps++[sg],by rw[List.flatten_append,p1,List.flatten_singleton,<- e1],λp hp=>?_,by rw[List.length_append,p3,e5];rfl⟩
   rcases List.mem_append.mp hp with hp | hp
   ·exact p2 p hp
   ·have:p=sg:=by simpa using hp
    subst this;exact⟨e2,by omega⟩
theorem gp_len {b:Int}{xs:List Int}(h:∀ x∈xs,x<=b):gp b xs<=xs.length:=by
 unfold gp
 split
 ·omega
 ·rename_i hne
  cases xs with
  | nil=>exact absurd rfl hne
  | cons x xs =>
   have hx:=h x List.mem_cons_self
   have c:¬ (0+x > b):=by omega
   have:=lcut_len b xs (0+1) (0+x)
   simp only[lcut,c,if_false,List.length_cons]
   omega
theorem nil_sum {b:Int}:∀ (xs:List Int) (i:Nat) (tot:Int),tot<=b->lcut b i tot xs=[]->tot+xs.sum<=b
 | [],_,tot,h,_=>by simpa using h
 | x::xs,i,tot,h,hl=>by
  simp only[lcut] at hl
  split at hl
  ·cases hl
  ·rename_i c
   have:=nil_sum xs (i+1) (tot+x) (by omega) hl
   rw[List.sum_cons];omega
theorem drop_seg {ns:List Int}{i e:Nat}(h:i<=e):ns.drop i=(ns.take e).drop i++ns.drop e:=by
 by_cases he:e<=ns.length
 ·conv=>lhs;rw[<- List.take_append_drop e ns]
  rw[List.drop_append_of_le_length (by rw[List.length_take];omega)]
 ·rw[List.take_of_length_le (by omega),List.drop_eq_nil_of_le (as:=ns) (i:=e) (by omega),List.append_nil]
theorem seg_all {ns:List Int}{i:Nat}:seg ns i ns.length=(ns.drop i).sum:=by unfold seg;rw[List.take_length]
theorem T_iff0 {ns:List Int}(hnn:∀ n∈ns,0<=n)(b:Int):∀ {k i:Nat} {t:Int},i+k<ns.length->T 0 ns k i=some t->(t<=b↔(∀ x∈ns.drop i,x<=b)/\gp b (ns.drop i)<=k+1)
 | 0,i,t,h,ht=>by
  simp only[T] at ht
  rw[if_pos (by omega)] at ht
  have ht:=Option.some.inj ht
  rw[seg_all] at ht
  have hd:∀ x∈ns.drop i,0<=x:=λx hx=>hnn x (List.mem_of_mem_drop hx)
  have hne:ns.drop i≠[]:=λz=>by have:=congrArg List.length z;rw[List.length_drop,List.length_nil] at this;omega
  constructor
  ·intro hb
   refine⟨λx hx=>Int.le_trans (mem_le_sum hd x hx) (by omega),?_⟩
   unfold gp
   rw[if_neg hne,lcut_nil _ 0 0 hd (by omega)];simp
  ·rintro⟨ha,hg⟩
   unfold gp at hg
   rw[if_neg hne] at hg
   have hl:lcut b 0 0 (ns.drop i)=[]:=List.length_eq_zero_iff.mp (by omega)
   have h0:(0:Int)<=b:=by
    cases hx:ns.drop i with
    | nil=>exact absurd hx hne
    | cons x xs=>have h1:=ha x (by rw[hx];simp);have h2:=hd x (by rw[hx];simp);omega
   have:=nil_sum _ 0 0 h0 hl
   omega
 | k+1,i,t,h,ht=>by
  obtain⟨⟨e,v,he1,he2,hv,htv⟩,hle⟩:=T_mem ht
  have hd:∀ x∈ns.drop i,0<=x:=λx hx=>hnn x (List.mem_of_mem_drop hx)
  constructor
  ·intro hb
   have hs:seg ns i e<=b/\v<=b:=by
    rw[htv] at hb;unfold both at hb;rw[if_pos rfl] at hb;omega
   obtain⟨ha,hg⟩:=(T_iff0 hnn b he2 hv).mp hs.2
   have hsplit:=drop_seg (ns:=ns) (Nat.le_of_lt he1)
   have hsn:∀ x∈(ns.take e).drop i,0<=x:=λx hx=>hnn x (List.mem_of_mem_take (List.mem_of_mem_drop hx))
   have hall:∀ x∈ns.drop i,x<=b:=λx hx=>by
    rw[hsplit] at hx
    rcases List.mem_append.mp hx with hx | hx
    ·exact Int.le_trans (mem_le_sum hsn x hx) hs.1
    ·exact ha x hx
   refine⟨hall,?_⟩
   obtain⟨ps,p1,p2,p3⟩:=decomp (b:=b) _ (ns.drop e) rfl (λx hx=>hnn x (List.mem_of_mem_drop hx)) ha
   have:=gp_le (b:=b) _ ((ns.take e).drop i::ps) rfl (λp hp x hx=>by
    rcases List.mem_cons.mp hp with rfl | hp
    ·exact hsn x hx
    ·refine hnn x (List.mem_of_mem_drop (i:=e) ?_)
     rw[<- p1];exact List.mem_flatten.mpr ⟨p,hp,hx⟩) λp hp=>by
    rcases List.mem_cons.mp hp with rfl | hp
    ·exact hs.1
    ·exact(p2 p hp).2
   rw[List.flatten_cons,p1,<- hsplit,List.length_cons,p3] at this
   omega
  ·rintro⟨ha,hg⟩
   obtain⟨ps,p1,p2,p3⟩:=decomp (b:=b) _ (ns.drop i) rfl hd ha
   cases ps with
   | nil =>
    have:=congrArg List.length p1
    rw[List.flatten_nil,List.length_nil,List.length_drop] at this;omega
   | cons p ps =>
    rw[List.flatten_cons] at p1
    rw[List.length_cons] at p3
    obtain⟨hpne,hpb⟩:=p2 p List.mem_cons_self
    have hp1:0<p.length:=List.length_pos_iff.mpr hpne
    have hlen:p.length+ps.flatten.length=ns.length-i:=by
     have:=congrArg List.length p1
     rw[List.length_append,List.length_drop] at this;exact this
    let e0:=min (i+p.length) (ns.length-k-1)
    have he0:e0<=i+p.length/\e0<=ns.length-k-1/\i<e0:=by simp only[e0];omega
    have hseg0:seg ns i (i+p.length)=p.sum:=by
     unfold seg
     rw[List.drop_take,show i+p.length-i=p.length by omega,<- p1,List.take_left' rfl]
    have hsegle:seg ns i e0<=b:=by
     have h1:=seg_split (ns:=ns) (i:=i) (e:=e0) (n:=i+p.length) (by omega) he0.1 (by omega)
     have h2:=seg_nn hnn e0 (i+p.length)
     omega
    obtain⟨v0,hv0⟩:=T_some (w:=0) (ns:=ns) (k:=k) (i:=e0) (by omega)
    have hall0:∀ x∈ns.drop e0,x<=b:=λx hx=>ha x (by rw[drop_seg (ns:=ns) (Nat.le_of_lt he0.2.2)];exact List.mem_append_right _ hx)
    have hg0:gp b (ns.drop e0)<=k+1:=by
     by_cases c:i+p.length<=ns.length-k-1
     ·have ee:e0=i+p.length:=by simp only[e0];omega
      have ed:ns.drop e0=ps.flatten:=by
       rw[ee,<- List.drop_drop,<- p1,List.drop_left' rfl]
      rw[ed]
      have:=gp_le (b:=b) _ ps rfl (λq hq x hx=>hd x (by rw[<- p1];exact List.mem_append_right _ (List.mem_flatten.mpr ⟨q,hq,hx⟩))) λq hq=>(p2 q (List.mem_cons_of_mem _ hq)).2
      omega
     ·have ee:e0=ns.length-k-1:=by simp only[e0];omega
      have hgl:=gp_len hall0
      rw[List.length_drop] at hgl
      omega
    have h6:=(T_iff0 hnn b (by omega) hv0).mpr ⟨hall0,hg0⟩
    have h7:=hle e0 v0 he0.2.2 (by omega) hv0
    unfold Le both at h7
    rw[if_pos rfl,if_pos rfl] at h7
    omega
structure Back (ns:List Int)(t:Int)(m l x:Nat):Prop where
 le:x+l<=ns.length
 ge:1<=l->m-l<=x
 at0:l=0->x=ns.length
 fit:∀ j,l=j+1->∃ v,T 0 ns j x=some v/\v<=t
 no:∀ j,l=j+1->∀ i,m-l<=i->i<x->∀ v,T 0 ns j i=some v->t<v
theorem Back.start (ns:List Int)(t:Int)(m:Nat):Back ns t m 0 ns.length:=⟨by omega,λh=>by omega,λ_=>rfl,λj h=>by omega,λj h=>by omega⟩
theorem seg_mono {ns:List Int}(hnn:∀ n∈ns,0<=n){i j e:Nat}(h1:i<=j)(h2:j<=e)(h3:e<=ns.length):seg ns j e<=seg ns i e:=by
 have:=seg_split (ns:=ns) h1 h2 h3
 have:=seg_nn hnn i j
 omega
theorem seg_mono' {ns:List Int}(hnn:∀ n∈ns,0<=n){i e f:Nat}(h1:i<=e)(h2:e<=f)(h3:f<=ns.length):seg ns i e<=seg ns i f:=by
 have:=seg_split (ns:=ns) h1 h2 h3
 have:=seg_nn hnn e f
 omega
theorem Back.step {ns:List Int}(hnn:∀ n∈ns,0<=n){t:Int}{m l x y:Nat}(h:Back ns t m l x)(hl:l+1<m)(hm:m<=ns.length)(h1:m-l-1<=y)(h2:y<x)(h3:seg ns y x<=t)(h4:y=m-l-1\/(1<=y/\t<seg ns (y-1) x)):Back ns t m (l+1) y:=by
 have hx:=h.le
 refine⟨by omega,λ_=>by omega,λz=>by omega,λj hj=>?_,λj hj i hi1 hi2 v hv=>?_⟩
 ·have:j=l:=by omega
  subst this
  cases j with
  | zero =>
   have:=h.at0 rfl
   subst this
   exact⟨seg ns y ns.length,by simp only[T];rw[if_pos h2],h3⟩
  | succ j =>
   obtain⟨v,hv,hvt⟩:=h.fit j rfl
   obtain⟨u,hu⟩:=T_some (w:=0) (ns:=ns) (k:=j+1) (i:=y) (by omega)
   have:=(T_mem hu).2 x v h2 (by omega) hv
   unfold Le both at this
   rw[if_pos rfl,if_pos rfl] at this
   exact⟨u,hu,by omega⟩
 ·have:j=l:=by omega
  subst this
  have hy:1<=y/\t<seg ns (y-1) x:=by
   rcases h4 with z | z
   ·omega
   ·exact z
  have hge:seg ns (y-1) x<=seg ns i x:=seg_mono hnn (by omega) (by omega) (by omega)
  cases j with
  | zero =>
   have:=h.at0 rfl
   subst this
   simp only[T] at hv
   rw[if_pos (by omega)] at hv
   have:=Option.some.inj hv
   omega
  | succ j =>
   refine Classical.byContradiction λhn=>?_
   obtain⟨⟨e,u,he1,he2,hu,hvu⟩,_⟩:=T_mem hv
   unfold both at hvu
   rw[if_pos rfl] at hvu
   have hxe:x<=e:=by
    refine Classical.byContradiction λz=>?_
    have:=h.no j rfl e (by omega) (by omega) u hu
    omega
   have:=seg_mono' hnn (i:=i) (e:=x) (f:=e) (by omega) hxe (by omega)
   omega
theorem Back.top {ns:List Int}(hnn:∀ n∈ns,0<=n){t:Int}{m x:Nat}(h:Back ns t m (m-1) x)(hm:2<=m)(hmn:m<=ns.length)(hT:T 0 ns (m-1) 0=some t):0<x/\seg ns 0 x<=t:=by
 obtain⟨j,hj⟩:∃ j,m-1=j+1:=⟨m-2,by omega⟩
 have hg:=h.ge (by omega)
 rw[hj] at hT
 obtain⟨⟨e,u,he1,he2,hu,hvu⟩,_⟩:=T_mem hT
 unfold both at hvu
 rw[if_pos rfl] at hvu
 have hxe:x<=e:=by
  refine Classical.byContradiction λz=>?_
  have:=h.no j hj e (by omega) (by omega) u hu
  omega
 have:=seg_mono' hnn (i:=0) (e:=x) (f:=e) (by omega) hxe (by omega)
 exact⟨by omega,by omega⟩
end M7
namespace M25
def S (ns:List Int)(i:Nat):Int:=(ns.take i).sum
theorem S_zero (ns:List Int):S ns 0=0:=by simp[S]
theorem S_succ {ns:List Int}{i:Nat}{x:Int}(h:ns[i]?=some x):S ns (i+1)=S ns i+x:=by
 unfold S
 rw[List.take_add_one,h,List.sum_append];simp
theorem S_bd {ns:List Int}(h0:∀ n∈ns,0<=n)(h1:∀ n∈ns,n<=1000000000000):∀ i,0<=S ns i/\S ns i<=1000000000000*i
 | 0=>by rw[S_zero];omega
 | i+1=>by
  have ih:=S_bd h0 h1 i
  cases e:ns[i]? with
  | some x =>
   rw[S_succ e]
   have:=h0 x (List.mem_of_getElem? e);have:=h1 x (List.mem_of_getElem? e)
   omega
  | none =>
   have hl:ns.length<=i:=List.getElem?_eq_none_iff.mp e
   have:S ns (i+1)=S ns i:=by unfold S;rw[List.take_of_length_le (by omega),List.take_of_length_le hl]
   rw[this];omega
def pre (ns:List Int)(k:Nat):List Int:=(List.range k).map (S ns)
theorem pre_succ (ns:List Int)(k:Nat):pre ns (k+1)=pre ns k++[S ns k]:=by unfold pre;rw[List.range_succ,List.map_append];rfl
theorem pre_len (ns:List Int)(k:Nat):(pre ns k).length=k:=by simp[pre]
theorem pre_at {ns:List Int}{k i:Nat}(h:i<k):(pre ns k)[i]?=some (S ns i):=by
 unfold pre;rw[List.getElem?_map,List.getElem?_range h];rfl
theorem pre_getD {ns:List Int}{k i:Nat}(h:i<k):(pre ns k).getD i 0=S ns i:=by
 rw[List.getD_eq_getElem?_getD,pre_at h];rfl
def Path (w:Nat->Nat->Int):Nat->Nat->Nat->Int->Prop
 | 0,b,e,c=>b=e/\c=0
 | k+1,b,e,c=>∃ m c',b<m/\Path w k m e c'/\c=w b m+c'
section
variable {w:Nat->Nat->Int}
theorem path_le:∀ {k b e c},Path w k b e c->b+k<=e
 | 0,b,e,c,h=>by have:=h.1;omega
 | k+1,b,e,c,⟨m,c',h1,h2,h3⟩=>by have:=path_le h2;omega
def Least (w:Nat->Nat->Int)(k b e:Nat)(v:Int):Prop:=Path w k b e v/\∀ c,Path w k b e c->v<=c
theorem Least.uniq {k b e:Nat}{u v:Int}(h1:Least w k b e u)(h2:Least w k b e v):u=v:=Int.le_antisymm (h1.2 v h2.1) (h2.2 u h1.1)
theorem path_one {b e:Nat}{c:Int}:Path w 1 b e c↔b<e/\c=w b e:=by
 constructor
 ·rintro⟨m,c',h1,⟨h2,h3⟩,h4⟩
  subst h2;subst h3;exact⟨h1,by omega⟩
 ·rintro⟨h1,h2⟩
  exact⟨e,0,h1,⟨rfl,rfl⟩,by omega⟩
theorem least_one {b e:Nat}(h:b<e):Least w 1 b e (w b e):=⟨path_one.mpr ⟨h,rfl⟩,λc hc=>by rw[(path_one.mp hc).2];exact Int.le_refl _⟩
theorem least_back {k b e:Nat}{M:Int}(f:Nat->Int)(hf:∀ m,b<m->m+k<=e->Least w k m e (f m))(hm:∃ m,b<m/\m+k<=e/\M=w b m+f m)(hmin:∀ m,b<m->m+k<=e->M<=w b m+f m):Least w (k+1) b e M:=by
 obtain⟨m,h1,h2,rfl⟩:=hm
 refine⟨⟨m,f m,h1,(hf m h1 h2).1,rfl⟩,?_⟩
 rintro c ⟨m',c',g1,g2,rfl⟩
 have hl:=path_le g2
 have:=hmin m' g1 hl
 have:=(hf m' g1 hl).2 c' g2
 omega
end
def sq (ns:List Int)(b e:Nat):Int:=(S ns e-S ns b) ^ 2
def RowOk (ns:List Int)(k:Nat)(r:List Int):Prop:=r.length+k=ns.length+1/\∀ b v,r[b]?=some v->Least (sq ns) k b ns.length v
def Evens (ns:List Int)(zs:List Int):Prop:=zs.length=ns.length/\∀ i v,zs[i]?=some v->Least (sq ns) (i+1) 0 ns.length v
theorem Evens.uniq {ns zs ys:List Int}(h1:Evens ns zs)(h2:Evens ns ys):zs=ys:=by
 apply List.ext_getElem (by rw[h1.1,h2.1])
 intro i g1 g2
 exact(h1.2 i _ (List.getElem?_eq_getElem g1)).uniq (h2.2 i _ (List.getElem?_eq_getElem g2))
theorem row_one {ns:List Int}:RowOk ns 1 ((List.range ns.length).map λb=>sq ns b ns.length):=by
 refine⟨by simp,λb v h=>?_⟩
 rw[List.getElem?_map] at h
 by_cases hb:b<ns.length
 ·rw[List.getElem?_range hb] at h;cases h;exact least_one hb
 ·rw[List.getElem?_eq_none (by simpa using hb)] at h;cases h
theorem getD_some {r:List Int}{t:Nat}(h:t<r.length):r[t]?=some (r.getD t 0):=by rw[List.getD_eq_getElem?_getD,List.getElem?_eq_getElem h];rfl
structure Some_ (ns l:List Int)(i t upto:Nat)(vs:List Int):Prop where
 a:∀ v∈vs,∃ m,i<=m/\m<upto/\0<=l.getD m 0/\v=l.getD m 0+sq ns m t
 b:∀ m,i<=m->m<upto->0<=l.getD m 0->l.getD m 0+sq ns m t∈vs
end M25
namespace M25
section
variable {w:Nat->Nat->Int}
def Hit (w:Nat->Nat->Int)(n k b e:Nat):Prop:=∃ v u,Least w (k-1) e n v/\Least w k b n u/\w b e+v=u
def Step (w:Nat->Nat->Int)(n k b e:Nat):Prop:=b<e/\Hit w n k b e/\∀ e',b<e'->e'<e->¬ Hit w n k b e'
theorem Step.uniq {n k b e e':Nat}(h:Step w n k b e)(h':Step w n k b e'):e=e':=by
 rcases Nat.lt_trichotomy e e' with z | z | z
 ·exact absurd h.2.1 (h'.2.2 e h.1 z)
 ·exact z
 ·exact absurd h'.2.1 (h.2.2 e' h'.1 z)
inductive Chain (w:Nat->Nat->Int)(n m:Nat):Nat->List Nat->Nat->Prop where
 | nil:Chain w n m 0 [] 0
 | snoc {i b e:Nat} {cs:List Nat} (h:Chain w n m i cs b) (s:Step w n (m-i) b e):Chain w n m (i+1) (cs++[e]) e
theorem Chain.len {n m:Nat}:∀ {i b:Nat} {cs:List Nat},Chain w n m i cs b->cs.length=i
 | 0,_,_,.nil=>rfl
 | i+1,_,_,.snoc h s=>by rw[List.length_append,h.len];rfl
theorem Hit.le {n k b e:Nat}(h:Hit w n k b e):e+(k-1)<=n:=by obtain⟨v,u,h1,_⟩:=h;exact path_le h1.1
theorem hit_ex {n k b:Nat}{u:Int}(hk:2<=k)(h:Least w k b n u):∃ e,b<e/\Hit w n k b e:=by
 obtain⟨k,rfl⟩:∃ j,k=j+1:=⟨k-1,by omega⟩
 obtain⟨m,c,h1,h2,h3⟩:=h.1
 refine⟨m,h1,c,u,⟨h2,λc' h'=>?_⟩,h,h3.symm⟩
 have:=h.2 (w b m+c') ⟨m,c',h1,h',rfl⟩
 omega
theorem hit_iff {n k b e:Nat}{u v:Int}(hv:Least w (k-1) e n v)(hu:Least w k b n u):Hit w n k b e↔w b e+v=u:=by
 constructor
 ·rintro⟨v',u',h1,h2,h3⟩
  rw[h1.uniq hv,h2.uniq hu] at h3;exact h3
 ·intro h;exact⟨v,u,hv,hu,h⟩
theorem no_less {n k b e:Nat}{u v:Int}(hk:1<=k)(hb:b<e)(hv:Least w (k-1) e n v)(hu:Least w k b n u):u<=w b e+v:=by
 obtain⟨k,rfl⟩:∃ j,k=j+1:=⟨k-1,by omega⟩
 exact hu.2 _ ⟨e,v,hb,hv.1,rfl⟩
theorem hit_before {n k b e t:Nat}(h:∀ e',b<e'->e'<t->¬ Hit w n k b e')(hh:Hit w n k b e)(hb:b<e):t<=e:=by
 rcases Nat.lt_or_ge e t with z | z
 ·exact absurd hh (h e hb z)
 ·exact z
end
end M25
namespace M25
section
variable {w:Nat->Nat->Int}
end
end M25
namespace M30
open M25
end M30
namespace M31
open M25 M30
variable {f:Nat->Int}{n:Nat}
section
variable {ns zs:List Int}
structure CostAt (zs:List Int)(price cost:Int)(m:Nat):Prop where
 m1:1<=m
 mn:m<=zs.length
 at_:cost=zs.getD (m-1) 0+price*(m:Int)
 le:∀ i,i<zs.length->cost<=zs.getD i 0+price*((i+1:Nat):Int)
 ne:∀ i,i+1<m->zs.getD i 0+price*((i+1:Nat):Int)≠cost
def costs (zs:List Int)(price:Int):List Int:=(List.range zs.length).map λi=>zs.getD i 0+price*((i+1:Nat):Int)
theorem costs_len (zs:List Int)(price:Int):(costs zs price).length=zs.length:=by simp[costs]
theorem costs_at {zs:List Int}{price:Int}{i:Nat}(h:i<zs.length):(costs zs price)[i]?=some (zs.getD i 0+price*((i+1:Nat):Int)):=by
 unfold costs;rw[List.getElem?_map,List.getElem?_range h];rfl
theorem costs_in {zs:List Int}{price:Int}{i:Nat}(h:i<zs.length):zs.getD i 0+price*((i+1:Nat):Int)∈costs zs price:=List.mem_of_getElem? (costs_at h)
theorem cost_of {zs:List Int}{price M:Int}{j:Nat}(h2:∀ a,a∈costs zs price->M<=a)(hj:(costs zs price)[j]?=some M)(hf:∀ i,i<j->(costs zs price)[i]?≠some M):CostAt zs price M (j+1):=by
 have hl:j<zs.length:=by have:=(List.getElem?_eq_some_iff.mp hj).1;rwa [costs_len] at this
 rw[costs_at hl] at hj
 cases hj
 exact⟨by omega,by omega,rfl,λi hi=>h2 _ (costs_in hi),λi hi z=>hf i (by omega) (by rw[costs_at (by omega),z])⟩
end
end M31
namespace M32
open M25
section
variable {w:Nat->Nat->Int}
def ChF (w:Nat->Nat->Int)(n:Nat):Nat->Nat->List Nat->Prop
 | 0,_,_=>False
 | 1,_,cs=>cs=[]
 | k+2,b,cs=>∃ e cs',cs=e::cs'/\Step w n (k+2) b e/\ChF w n (k+1) e cs'
theorem chF_of {n m:Nat}:∀ {i b:Nat} {cs ds:List Nat},Chain w n m i cs b->i+1<=m->ChF w n (m-i) b ds->ChF w n m 0 (cs++ds)
 | 0,_,_,_,.nil,_,h=>h
 | i+1,_,_,ds,.snoc (b:=b) (e:=e) (cs:=cs) h s,hm,hd=>by
  rw[List.append_assoc]
  refine chF_of h (by omega) ?_
  obtain⟨k,hk⟩:∃ k,m-i=k+2:=⟨m-i-2,by omega⟩
  rw[hk] at s ⊢
  rw[show m-(i+1)=k+1 by omega] at hd
  exact⟨e,ds,rfl,s,hd⟩
theorem chF_chain {n m:Nat}{cs:List Nat}{b:Nat}(m1:1<=m)(h:Chain w n m (m-1) cs b):ChF w n m 0 cs:=by
 have:=chF_of (ds:=[]) h (by omega) (by rw[show m-(m-1)=1 by omega];rfl)
 rwa [List.append_nil] at this
def Ahead:List Nat->List Nat->Prop
 | x::xs,y::ys=>x<y\/x=y/\Ahead xs ys
 | _,_=>False
end
end M32
namespace M14
open M25
def rsum:Nat->(Nat->Int)->Int
 | 0,_=>0
 | n+1,f=>rsum n f+f n
theorem rsum_congr {f g:Nat->Int}:∀ {n:Nat},(∀ i,i<n->f i=g i)->rsum n f=rsum n g
 | 0,_=>rfl
 | n+1,h=>by unfold rsum;(try dsimp only);rw[rsum_congr (λi hi=>h i (by omega)),h n (by omega)]
theorem rsum_zero {f:Nat->Int}:∀ {n:Nat},(∀ i,i<n->f i=0)->rsum n f=0
 | 0,_=>rfl
 | n+1,h=>by unfold rsum;(try dsimp only);rw[rsum_zero (λi hi=>h i (by omega)),h n (by omega)];rfl
theorem rsum_delta (f:Nat->Int)(e:Nat):∀ {n:Nat},e<n->rsum n (λi=>f i*(if i=e then 1 else 0))=f e
 | n+1,h=>by
  unfold rsum
  try dsimp only
  by_cases z:n=e
  ·subst z
   rw[if_pos rfl,rsum_zero (λi hi=>by rw[if_neg (by omega)];simp)];omega
  ·rw[if_neg z,rsum_delta f e (by omega)];omega
def P (A:Nat->Nat->Int)(N:Nat):Nat->Nat->Nat->Int
 | 0,b,e=>if b=e then 1 else 0
 | k+1,b,e=>rsum N λm=>A b m*P A N k m e
def ok (ns:List Int)(lo hi:Int)(b e:Nat):Int:=if b<e/\lo<=S ns e-S ns b/\S ns e-S ns b<=hi then 1 else 0
def cnt (ns:List Int)(lo hi:Int)(k b:Nat):Int:=P (ok ns lo hi) (ns.length+1) k b ns.length
theorem S_mono {ns:List Int}(h0:∀ n∈ns,0<=n):∀ {i j:Nat},i<=j->S ns i<=S ns j:=by
 intro i j hij
 induction hij with
 | refl=>exact Int.le_refl _
 | step _ ih =>
  rename_i j _
  cases e:ns[j]? with
  | some x=>rw[S_succ e];have:=h0 x (List.mem_of_getElem? e);omega
  | none =>
   have hl:ns.length<=j:=List.getElem?_eq_none_iff.mp e
   have:S ns (j+1)=S ns j:=by unfold S;rw[List.take_of_length_le (by omega),List.take_of_length_le hl]
   rw[this];exact ih
structure Rng (ns:List Int)(lo hi:Int)(b f h:Nat):Prop where
 f1:b+1<=f
 fh:f<=h
 hn:h<=ns.length+1
 iff:∀ e,b<e->e<=ns.length->((f<=e/\e<h)↔(lo<=S ns e-S ns b/\S ns e-S ns b<=hi))
theorem sum_drop_take (g:Nat->Int):∀ (N f h:Nat),f<=h->h<=N->((((List.range N).map g).drop f).take (h-f)).sum=rsum N λm=>(if f<=m/\m<h then 1 else 0)*g m
 | 0,f,h,h1,h2=>by
  have:h=0:=by omega
  have:f=0:=by omega
  subst this;subst this;rfl
 | N+1,f,h,h1,h2=>by
  unfold rsum
  try dsimp only
  by_cases hh:h<=N
  ·have ih:=sum_drop_take g N f h h1 hh
   rw[<- ih,List.range_succ,List.map_append,List.drop_append_of_le_length (by simp;omega),List.take_append_of_le_length (by simp;omega),if_neg (by omega)]
   omega
  ·have eh:h=N+1:=by omega
   subst eh
   by_cases hf:f<=N
   ·have ih:=sum_drop_take g N f N hf (Nat.le_refl _)
    rw[if_pos (by omega),List.range_succ,List.map_append,List.drop_append_of_le_length (by simp;omega)]
    rw[List.take_of_length_le (by simp;omega),List.sum_append]
    rw[List.take_of_length_le (by simp)] at ih
    rw[ih]
    rw[rsum_congr (f:=λm=>(if f<=m/\m<N+1 then 1 else 0)*g m) (g:=λm=>(if f<=m/\m<N then 1 else 0)*g m) (λi hi=>by
     by_cases z:f<=i
     ·rw[if_pos ⟨z,by omega⟩,if_pos ⟨z,hi⟩]
     ·rw[if_neg (λq=>z q.1),if_neg (λq=>z q.1)])]
    simp
   ·have ef:f=N+1:=by omega
    subst ef
    rw[if_neg (by omega),rsum_zero (λi hi=>by rw[if_neg (by omega)];simp)]
    simp
theorem cnt_step {ns:List Int}{lo hi:Int}{k b f h:Nat}(hb:b<ns.length)(r:Rng ns lo hi b f h) :
  ((((List.range (ns.length+1)).map (cnt ns lo hi k)).drop f).take (h-f)).sum=cnt ns lo hi (k+1) b:=by
 rw[sum_drop_take _ _ _ _ r.fh r.hn]
 show _=rsum (ns.length+1) λm=>ok ns lo hi b m*P (ok ns lo hi) (ns.length+1) k m ns.length
 refine rsum_congr λm hm=>?_
 show (if f<=m/\m<h then 1 else 0)*_=_
 congr 1
 unfold ok
 by_cases hbm:b<m
 ·have:=r.iff m hbm (by omega)
  by_cases z:f<=m/\m<h
  ·rw[if_pos z,if_pos ⟨hbm,this.mp z⟩]
  ·rw[if_neg z,if_neg (λq=>z (this.mpr q.2))]
 ·have:=r.f1
  rw[if_neg (by omega),if_neg (λq=>hbm q.1)]
theorem cnt_end {ns:List Int}{lo hi:Int}{k:Nat}:cnt ns lo hi (k+1) ns.length=0:=by
 show rsum (ns.length+1) (λm=>ok ns lo hi ns.length m*P (ok ns lo hi) (ns.length+1) k m ns.length)=0
 refine rsum_zero λm hm=>?_
 unfold ok
 rw[if_neg (by omega)];simp
theorem cnt_zero {ns:List Int}{lo hi:Int}:(List.range (ns.length+1)).map (cnt ns lo hi 0)=List.replicate ns.length 0++[1]:=by
 rw[List.range_succ,List.map_append]
 congr 1
 ·apply List.ext_getElem (by simp)
  intro i h1 h2
  simp only[List.getElem_map,List.getElem_range,List.getElem_replicate]
  have:i<ns.length:=by simpa using h1
  show (if i=ns.length then (1:Int) else 0)=0
  rw[if_neg (by omega)]
 ·simp[cnt,P]
def row (g:Nat->Int)(N:Nat):List Int:=(List.range N).map g
theorem row_len (g:Nat->Int)(N:Nat):(row g N).length=N:=by simp[row]
theorem row_getD {g:Nat->Int}{N i:Nat}(h:i<N):(row g N).getD i 0=g i:=by
 rw[List.getD_eq_getElem?_getD];unfold row;rw[List.getElem?_map,List.getElem?_range h];rfl
end M14
namespace M18
open M25 M14 M5 M11
theorem rsum_nn {f:Nat->Int}:∀ {n:Nat},(∀ i,i<n->0<=f i)->0<=rsum n f
 | 0,_=>Int.le_refl _
 | n+1,h=>by
  have h1:=rsum_nn (f:=f) (n:=n) λi hi=>h i (by omega)
  have h2:=h n (by omega)
  show 0<=rsum n f+f n
  omega
theorem rsum_pos {f:Nat->Int}:∀ {n:Nat},(∀ i,i<n->0<=f i)->(0<rsum n f↔∃ i,i<n/\0<f i)
 | 0,_=>⟨λh=>absurd h (by show ¬ (0:Int)<0;omega),λ⟨i,h,_⟩=>by omega⟩
 | n+1,h=>by
  have h1:=rsum_nn (f:=f) (n:=n) λi hi=>h i (by omega)
  have h2:=h n (by omega)
  have ih:=rsum_pos (f:=f) (n:=n) λi hi=>h i (by omega)
  constructor
  ·intro hp
   have hp':0<rsum n f+f n:=hp
   by_cases z:0<f n
   ·exact⟨n,by omega,z⟩
   ·obtain⟨i,hi,hf⟩:=ih.mp (by omega)
    exact⟨i,by omega,hf⟩
  ·rintro⟨i,hi,hf⟩
   show 0<rsum n f+f n
   by_cases z:i=n
   ·subst z;omega
   ·have:=ih.mpr ⟨i,by omega,hf⟩;omega
section
variable {ns:List Int}{lo hi:Int}
theorem zq95 (b e:Nat):ok ns lo hi b e=0\/ok ns lo hi b e=1:=by unfold ok;split<;>simp
theorem zq3m {b e:Nat}:ok ns lo hi b e=1↔b<e/\lo<=S ns e-S ns b/\S ns e-S ns b<=hi:=by
 unfold ok;split
 ·simp_all
 ·simp_all
theorem P_nn (N:Nat):∀ (k b e:Nat),0<=P (ok ns lo hi) N k b e
 | 0,b,e=>by show 0<=(if b=e then (1:Int) else 0);split<;>decide
 | k+1,b,e=>by
  show 0<=rsum N λm=>ok ns lo hi b m*P (ok ns lo hi) N k m e
  refine rsum_nn λm _=>?_
  have:=P_nn N k m e
  rcases zq95 (ns:=ns) (lo:=lo) (hi:=hi) b m with z | z<;>rw[z]<;>omega
theorem cnt_nn (k b:Nat):0<=M14.cnt ns lo hi k b:=P_nn _ k b _
theorem term_nn (k b m:Nat):0<=ok ns lo hi b m*M14.cnt ns lo hi k m:=by
 have:=cnt_nn (ns:=ns) (lo:=lo) (hi:=hi) k m
 rcases zq95 (ns:=ns) (lo:=lo) (hi:=hi) b m with z | z<;>rw[z]<;>omega
def acc (ns:List Int)(lo hi:Int)(k i e:Nat):Int:=rsum e λj=>ok ns lo hi i j*M14.cnt ns lo hi k j
theorem acc_succ (k i e:Nat):acc ns lo hi k i (e+1)=acc ns lo hi k i e+ok ns lo hi i e*M14.cnt ns lo hi k e:=rfl
theorem cnt_acc (k i:Nat):M14.cnt ns lo hi (k+1) i=acc ns lo hi k i (ns.length+1):=rfl
theorem acc_nn (k i e:Nat):0<=acc ns lo hi k i e:=rsum_nn λm _=>term_nn k i m
theorem acc_mono (k i:Nat){e e':Nat}(h:e<=e'):acc ns lo hi k i e<=acc ns lo hi k i e':=by
 induction h with
 | refl=>exact Int.le_refl _
 | step _ ih=>rename_i m _;rw[acc_succ];have:=term_nn (ns:=ns) (lo:=lo) (hi:=hi) k i m;omega
theorem zqfe {i f h x:Nat}(r:Rng ns lo hi i f h)(hx:x<=ns.length)(hn:¬ (f<=x/\x<h)):ok ns lo hi i x=0:=by
 rcases zq95 (ns:=ns) (lo:=lo) (hi:=hi) i x with z | z
 ·exact z
 ·obtain⟨h1,h2⟩:=zq3m.mp z
  exact absurd ((r.iff x h1 hx).mpr h2) hn
theorem zqfm {i f h x:Nat}(r:Rng ns lo hi i f h)(hx:x<=ns.length)(h1:f<=x)(h2:x<h):ok ns lo hi i x=1:=by
 have:=r.f1
 exact zq3m.mpr ⟨by omega,(r.iff x (by omega) hx).mp ⟨h1,h2⟩⟩
theorem acc_zero {i f h:Nat}(r:Rng ns lo hi i f h)(k:Nat):acc ns lo hi k i f=0:=by
 have:=r.fh
 have:=r.hn
 exact rsum_zero λj hj=>by rw[zqfe r (by omega) (by omega)];simp
theorem acc_full {i f h:Nat}(r:Rng ns lo hi i f h)(k:Nat):∀ {x:Nat},h<=x->x<=ns.length+1->acc ns lo hi k i x=acc ns lo hi k i (ns.length+1):=by
 intro x h1 h2
 have:∀ d x,x+d=ns.length+1->h<=x->acc ns lo hi k i x=acc ns lo hi k i (ns.length+1):=by
  intro d
  induction d with
  | zero=>intro x e _;rw[show x=ns.length+1 by omega]
  | succ d ih =>
   intro x e hx
   rw[<- ih (x+1) (by omega) (by omega),acc_succ,zqfe r (by omega) (by omega)];simp
 exact this (ns.length+1-x) x (by omega) h1
theorem acc_in {i f h x k:Nat}{p:Int}(r:Rng ns lo hi i f h)(h1:f<=x)(h2:x<=ns.length+1)(h3:acc ns lo hi (k+1) i x<=p)(h4:p<M14.cnt ns lo hi (k+2) i):x<ns.length/\ok ns lo hi i x=1:=by
 rw[cnt_acc] at h4
 have hxh:x<h:=Classical.byContradiction λz=>by
  rw[acc_full r (k+1) (by omega) h2] at h3;omega
 have:=r.hn
 have hx:x≠ns.length:=λz=>by
  have e:acc ns lo hi (k+1) i (x+1)=acc ns lo hi (k+1) i x:=by
   rw[acc_succ,z,cnt_end];simp
  rw[z] at e h3;omega
 exact⟨by omega,zqfm r (by omega) h1 hxh⟩
inductive At (ns:List Int)(lo hi:Int):Nat->Nat->Int->List Int->Prop where
 | nil {i:Nat} {p:Int}:At ns lo hi 0 i p []
 | step {l i e:Nat} {p:Int} {c:List Int} (h1:i<e) (h2:e<ns.length) (h3:acc ns lo hi (l+1) i e<=p) (h4:p<acc ns lo hi (l+1) i (e+1)) (h6:At ns lo hi l e (p-acc ns lo hi (l+1) i e) c):At ns lo hi (l+1) i p ((e:Int)::c)
theorem seg_S {b e:Nat}(h:b<=e)(he:e<=ns.length):S ns e-S ns b=seg ns b e:=by
 have h0:∀ i,seg ns 0 i=S ns i:=λi=>by unfold seg S;rw[List.drop_zero]
 have h1:=seg_split (ns:=ns) (i:=0) (e:=b) (n:=e) (by omega) h he
 rw[h0,h0] at h1;omega
theorem Le_both {w:Nat}{x y t:Int}:Le w (both w x y) t↔Le w x t/\Le w y t:=by
 unfold Le both;split<;>omega
def Asks (ns:List Int)(lo hi:Int)(w:Nat)(t:Int):Prop:=∀ b e,b<e->e<=ns.length->((lo<=S ns e-S ns b/\S ns e-S ns b<=hi)↔Le w (seg ns b e) t)
theorem zqd8 {w:Nat}{t:Int}(ha:Asks ns lo hi w t){b e:Nat}(he:e<=ns.length):ok ns lo hi b e=1↔b<e/\Le w (seg ns b e) t:=by
 rw[zq3m]
 exact⟨λ⟨h1,h2⟩=>⟨h1,(ha b e h1 he).mp h2⟩,λ⟨h1,h2⟩=>⟨h1,(ha b e h1 he).mpr h2⟩⟩
theorem cnt_pos {w:Nat}{t:Int}(ha:Asks ns lo hi w t):∀ (k b:Nat),0<M14.cnt ns lo hi (k+1) b↔∃ v,T w ns k b=some v/\Le w v t
 | 0,b=>by
  have e:M14.cnt ns lo hi 1 b=ok ns lo hi b ns.length:=by
   show rsum (ns.length+1) (λm=>ok ns lo hi b m*(if m=ns.length then 1 else 0))=_
   exact rsum_delta (λm=>ok ns lo hi b m) ns.length (by omega)
  rw[e]
  have hk:=zqd8 ha (b:=b) (e:=ns.length) (Nat.le_refl _)
  simp only[T]
  constructor
  ·intro h
   have h1:ok ns lo hi b ns.length=1:=by
    rcases zq95 (ns:=ns) (lo:=lo) (hi:=hi) b ns.length with z | z
    ·omega
    ·exact z
   obtain⟨h2,h3⟩:=hk.mp h1
   exact⟨_,by rw[if_pos h2],h3⟩
  ·rintro⟨v,hv,hl⟩
   by_cases z:b<ns.length
   ·rw[if_pos z] at hv
    cases hv
    rw[hk.mpr ⟨z,hl⟩];decide
   ·rw[if_neg z] at hv;cases hv
 | k+1,b=>by
  rw[cnt_acc]
  unfold acc
  rw[rsum_pos (λm _=>term_nn (k+1) b m)]
  constructor
  ·rintro⟨m,hm,hp⟩
   have h1:ok ns lo hi b m=1:=by
    rcases zq95 (ns:=ns) (lo:=lo) (hi:=hi) b m with z | z
    ·rw[z] at hp;omega
    ·exact z
   rw[h1,Int.one_mul] at hp
   obtain⟨v,hv,hl⟩:=(cnt_pos ha k m).mp hp
   obtain⟨h2,h3⟩:=(zqd8 ha (by omega)).mp h1
   have hmk:m+k<ns.length:=Classical.byContradiction λz=>by rw[T_none (by omega)] at hv;cases hv
   obtain⟨u,hu⟩:=T_some (w:=w) (ns:=ns) (k:=k+1) (i:=b) (by omega)
   exact⟨u,hu,((T_mem hu).2 m v h2 hmk hv).trans (Le_both.mpr ⟨h3,hl⟩)⟩
  ·rintro⟨u,hu,hl⟩
   obtain⟨⟨e,v,h1,h2,hv,rfl⟩,_⟩:=T_mem hu
   obtain⟨h3,h4⟩:=Le_both.mp hl
   refine⟨e,by omega,?_⟩
   rw[(zqd8 ha (by omega)).mpr ⟨h1,h3⟩,Int.one_mul]
   exact(cnt_pos ha k e).mpr ⟨v,hv,h4⟩
theorem asks_le {t:Int}(hnn:∀ n∈ns,0<=n):Asks ns 0 t 0 t:=λb e h1 h2=>by
 rw[seg_S (by omega) h2]
 have:=seg_nn hnn b e
 unfold Le
 rw[if_pos rfl];omega
theorem asks_ge {t:Int}(hnn:∀ n∈ns,0<=n):Asks ns t ns.sum 1 t:=λb e h1 h2=>by
 have h3:S ns e<=S ns ns.length:=S_mono hnn h2
 have h4:S ns 0<=S ns b:=S_mono hnn (Nat.zero_le _)
 rw[S_zero] at h4
 have h5:S ns ns.length=ns.sum:=by unfold S;rw[List.take_length]
 have h6:S ns e-S ns b<=ns.sum:=by omega
 have h7:=seg_S (ns:=ns) (by omega:b<=e) h2
 unfold Le
 rw[if_neg (by decide),h7]
 omega
end
end M18
namespace M49
open M3 M25 M14 M18 M32
variable {ns:List Int}{lo hi:Int}
def Ins (ns:List Int)(lo hi:Int):Nat->List Nat->Prop
 | b,[]=>ok ns lo hi b ns.length=1
 | b,d::ds=>ok ns lo hi b d=1/\Ins ns lo hi d ds
theorem ins_lt:∀ {ds:List Nat} {b:Nat},Ins ns lo hi b ds->b<ns.length
 | [],b,h=>(zq3m.mp h).1
 | d::ds,b,h=>Nat.lt_trans (zq3m.mp h.1).1 (ins_lt h.2)
theorem cnt0 (b:Nat):0<M14.cnt ns lo hi 0 b↔b=ns.length:=by
 unfold M14.cnt M14.P
 split
 ·rename_i h;simp[h]
 ·rename_i h;simp[h]
theorem cnt_next (k b:Nat):0<M14.cnt ns lo hi (k+1) b↔∃ e,e<ns.length+1/\ok ns lo hi b e=1/\0<M14.cnt ns lo hi k e:=by
 rw[cnt_acc]
 unfold acc
 rw[rsum_pos λi _=>term_nn k b i]
 constructor
 ·rintro⟨e,h1,h2⟩
  refine⟨e,h1,?_⟩
  rcases zq95 (ns:=ns) (lo:=lo) (hi:=hi) b e with z | z
  ·rw[z] at h2;simp at h2
  ·rw[z,Int.one_mul] at h2
   exact⟨z,h2⟩
 ·rintro⟨e,h1,h2,h3⟩
  exact⟨e,h1,by rw[h2,Int.one_mul];exact h3⟩
theorem cnt_ex:∀ (l b:Nat),0<M14.cnt ns lo hi (l+1) b↔∃ ds:List Nat,ds.length=l/\Ins ns lo hi b ds
 | 0,b=>by
  rw[cnt_next]
  constructor
  ·rintro⟨e,_,h2,h3⟩
   rw[cnt0] at h3
   subst h3
   exact⟨[],rfl,h2⟩
  ·rintro⟨ds,h1,h2⟩
   have:ds=[]:=List.length_eq_zero_iff.mp h1
   subst this
   exact⟨ns.length,by omega,h2,(cnt0 _).mpr rfl⟩
 | l+1,b=>by
  rw[cnt_next]
  constructor
  ·rintro⟨e,h1,h2,h3⟩
   obtain⟨ds,h4,h5⟩:=(cnt_ex l e).mp h3
   exact⟨e::ds,by simp[h4],h2,h5⟩
  ·rintro⟨ds,h1,h2⟩
   cases ds with
   | nil=>simp at h1
   | cons d ds=>exact⟨d,by have:=ins_lt h2.2;omega,h2.1,(cnt_ex l d).mpr ⟨ds,by simpa using h1,h2.2⟩⟩
theorem at_zero {l i:Nat}{p:Int}{c:List Int}(h:At ns lo hi l i p c)(hp:p=0)(hc:0<M14.cnt ns lo hi (l+1) i) :
  ∃ cs:List Nat,c=cs.map (λ(n:Nat)=>(n:Int))/\cs.length=l/\Ins ns lo hi i cs/\∀ ds:List Nat,ds.length=l->Ins ns lo hi i ds->¬ Ahead ds cs:=by
 induction h with
 | nil =>
  rename_i i p
  obtain⟨ds,h1,h2⟩:=(cnt_ex 0 i).mp hc
  have:ds=[]:=List.length_eq_zero_iff.mp h1
  subst this
  refine⟨[],rfl,rfl,h2,λes h3 _ ha=>?_⟩
  have:es=[]:=List.length_eq_zero_iff.mp h3
  subst this
  exact ha
 | step h1 h2 h3 h4 h6 ih =>
  rename_i l i e p c
  subst hp
  have n0:=acc_nn (ns:=ns) (lo:=lo) (hi:=hi) (l+1) i e
  have e0:acc ns lo hi (l+1) i e=0:=by omega
  rw[acc_succ,e0,Int.zero_add] at h4
  have o1:ok ns lo hi i e=1:=by
   rcases zq95 (ns:=ns) (lo:=lo) (hi:=hi) i e with z | z
   ·rw[z] at h4;simp at h4
   ·exact z
  rw[o1,Int.one_mul] at h4
  obtain⟨cs,g1,g2,g3,g4⟩:=ih (by omega) h4
  refine⟨e::cs,by rw[g1];rfl,by simp[g2],⟨o1,g3⟩,λds h7 h8 ha=>?_⟩
  cases ds with
  | nil=>exact ha
  | cons d ds =>
   rcases ha with ha | ⟨rfl,ha⟩
   ·have m1:=acc_mono (ns:=ns) (lo:=lo) (hi:=hi) (l+1) i (show d+1<=e by omega)
    rw[acc_succ,h8.1,Int.one_mul] at m1
    have m2:=acc_nn (ns:=ns) (lo:=lo) (hi:=hi) (l+1) i d
    have m3:=(cnt_ex (ns:=ns) (lo:=lo) (hi:=hi) l d).mpr ⟨ds,by simpa using h7,h8.2⟩
    omega
   ·exact g4 ds (by simpa using h7) h8.2 ha
theorem slice_S {b c:Nat}(h:b<=c):((ns.drop b).take (c-b)).sum=S ns c-S ns b:=by
 unfold S
 have:=congrArg List.sum (List.take_append_drop b (ns.take c))
 rw[List.sum_append,List.take_take,Nat.min_eq_left h,List.drop_take] at this
 omega
theorem drop_S {b:Nat}(h:b<=ns.length):(ns.drop b).sum=S ns ns.length-S ns b:=by
 have:=slice_S (ns:=ns) h
 rwa [List.take_of_length_le (by simp)] at this
theorem ins_iff:∀ {cs:List Nat} {b:Nat},Ins ns lo hi b cs↔(b::cs).Pairwise (·<·)/\(∀ c∈b::cs,c<ns.length)/\∀ p∈pcs ns b cs,lo<=p.sum/\p.sum<=hi
 | [],b=>by
  simp only[Ins,zq3m,pcs,List.mem_singleton,forall_eq,List.pairwise_cons,List.not_mem_nil,false_implies,implies_true,List.Pairwise.nil,and_self,true_and]
  constructor
  ·rintro⟨h1,h2,h3⟩
   rw[drop_S (by omega)]
   exact⟨h1,h2,h3⟩
  ·rintro⟨h1,h2⟩
   rw[drop_S (by omega)] at h2
   exact⟨h1,h2⟩
 | c::cs,b=>by
  simp only[Ins,zq3m,pcs]
  rw[ins_iff (cs:=cs) (b:=c)]
  constructor
  ·rintro⟨⟨h1,h2,h3⟩,h4,h5,h6⟩
   refine⟨List.pairwise_cons.mpr ⟨λx hx=>?_,h4⟩,λx hx=>?_,λp hp=>?_⟩
   ·rcases List.mem_cons.mp hx with rfl | hx
    ·exact h1
    ·exact Nat.lt_trans h1 ((List.pairwise_cons.mp h4).1 x hx)
   ·rcases List.mem_cons.mp hx with rfl | hx
    ·exact Nat.lt_trans h1 (h5 c (by simp))
    ·exact h5 x hx
   ·rcases List.mem_cons.mp hp with rfl | hp
    ·rw[slice_S (by omega)];exact⟨h2,h3⟩
    ·exact h6 p hp
  ·rintro⟨h1,h2,h3⟩
   obtain⟨p1,p2⟩:=List.pairwise_cons.mp h1
   have hb:=p1 c (by simp)
   have:=h3 _ (List.mem_cons_self)
   rw[slice_S (by omega)] at this
   exact⟨⟨hb,this⟩,p2,λx hx=>h2 x (List.mem_cons_of_mem _ hx),λp hp=>h3 p (List.mem_cons_of_mem _ hp)⟩
def Within (ns:List Int)(lo hi:Int)(cs:List Nat):Prop:=∀ x∈(pcs ns 0 cs).map List.sum,lo<=x/\x<=hi
theorem ins_cut {cs:List Nat}(hn:1<=ns.length):Ins ns lo hi 0 cs↔CutN cs ns.length/\Within ns lo hi cs:=by
 rw[ins_iff]
 constructor
 ·rintro⟨h1,h2,h3⟩
  obtain⟨p1,p2⟩:=List.pairwise_cons.mp h1
  refine⟨⟨p2,λc hc=>p1 c hc,λc hc=>h2 c (List.mem_cons_of_mem _ hc)⟩,λx hx=>?_⟩
  obtain⟨p,hp,rfl⟩:=List.mem_map.mp hx
  exact h3 p hp
 ·rintro⟨h1,h2⟩
  refine⟨List.pairwise_cons.mpr ⟨λc hc=>h1.lo c hc,h1.up⟩,λc hc=>?_,λp hp=>h2 _ (List.mem_map.mpr ⟨p,hp,rfl⟩)⟩
  rcases List.mem_cons.mp hc with rfl | hc
  ·omega
  ·exact h1.hi c hc
theorem cnt_cut {m:Nat}(hn:1<=ns.length)(m1:1<=m):0<M14.cnt ns lo hi m 0↔∃ cs,CutN cs ns.length/\cs.length+1=m/\Within ns lo hi cs:=by
 obtain⟨l,rfl⟩:∃ l,m=l+1:=⟨m-1,by omega⟩
 rw[cnt_ex]
 constructor
 ·rintro⟨ds,h1,h2⟩
  obtain⟨h3,h4⟩:=(ins_cut hn).mp h2
  exact⟨ds,h3,by omega,h4⟩
 ·rintro⟨ds,h1,h2,h3⟩
  exact⟨ds,by omega,(ins_cut hn).mpr ⟨h1,h3⟩⟩
theorem at_cut {m:Nat}{c:List Int}(hn:1<=ns.length)(m1:1<=m)(h:At ns lo hi (m-1) 0 0 c)(hc:0<M14.cnt ns lo hi m 0) :
  ∃ cs:List Nat,c=cs.map (λ(n:Nat)=>(n:Int))/\CutN cs ns.length/\cs.length+1=m/\Within ns lo hi cs/\∀ ds,CutN ds ns.length->ds.length+1=m->Within ns lo hi ds->¬ Ahead ds cs:=by
 obtain⟨l,rfl⟩:∃ l,m=l+1:=⟨m-1,by omega⟩
 obtain⟨cs,g1,g2,g3,g4⟩:=at_zero h rfl hc
 obtain⟨h3,h4⟩:=(ins_cut hn).mp g3
 exact⟨cs,g1,h3,by omega,h4,λds h5 h6 h7=>g4 ds (by omega) ((ins_cut hn).mpr ⟨h5,h7⟩)⟩
def Spr (ns:List Int)(cs:List Nat)(d:Int):Prop:=∃ a b,a∈(pcs ns 0 cs).map List.sum/\b∈(pcs ns 0 cs).map List.sum/\Within ns a b cs/\d=b-a
theorem spr_ex (ns:List Int)(cs:List Nat):∃ a b,a∈(pcs ns 0 cs).map List.sum/\b∈(pcs ns 0 cs).map List.sum/\Within ns a b cs:=by
 have key:∀ l:List Int,l≠[]->∃ a b,a∈l/\b∈l/\∀ x∈l,a<=x/\x<=b:=by
  intro l
  induction l with
  | nil=>intro h;exact absurd rfl h
  | cons x l ih =>
   intro _
   by_cases hl:l=[]
   ·subst hl
    exact⟨x,x,by simp,by simp,λy hy=>by simp at hy;omega⟩
   ·obtain⟨a,b,h1,h2,h3⟩:=ih hl
    refine⟨min x a,max x b,?_,?_,λy hy=>?_⟩
    ·rcases Int.le_total x a with z | z
     ·rw[Int.min_eq_left z];simp
     ·rw[Int.min_eq_right z];exact List.mem_cons_of_mem _ h1
    ·rcases Int.le_total x b with z | z
     ·rw[Int.max_eq_right z];exact List.mem_cons_of_mem _ h2
     ·rw[Int.max_eq_left z];simp
    ·rcases List.mem_cons.mp hy with rfl | hy
     ·omega
     ·have:=h3 y hy;omega
 obtain⟨a,b,h1,h2,h3⟩:=key ((pcs ns 0 cs).map List.sum) (λz=>by have:=congrArg List.length z;simp[pcs_len] at this)
 exact⟨a,b,h1,h2,h3⟩
theorem spr_le {cs:List Nat}{d:Int}(h:Spr ns cs d)(hw:Within ns lo hi cs):d<=hi-lo:=by
 obtain⟨a,b,h1,h2,h3,rfl⟩:=h
 have:=hw a h1
 have:=hw b h2
 omega
structure SpB (ns:List Int)(m:Nat)(d:Int)(cs:List Nat):Prop where
 cut:CutN cs ns.length
 len:cs.length+1=m
 has:Spr ns cs d
 least:∀ ds e,CutN ds ns.length->ds.length+1=m->Spr ns ds e->d<=e
 first:∀ ds,CutN ds ns.length->ds.length+1=m->Spr ns ds d->¬ Ahead ds cs
theorem ahead_tot:∀ {a b:List Nat},a.length=b.length->Ahead a b\/a=b\/Ahead b a
 | [],[],_=>.inr (.inl rfl)
 | x::a,y::b,h=>by
  rcases Nat.lt_trichotomy x y with z | rfl | z
  ·exact .inl (.inl z)
  ·rcases ahead_tot (a:=a) (b:=b) (by simpa using h) with z | rfl | z
   ·exact .inl (.inr ⟨rfl,z⟩)
   ·exact .inr (.inl rfl)
   ·exact .inr (.inr (.inr ⟨rfl,z⟩))
  ·exact .inr (.inr (.inl z))
theorem ahead_tr:∀ {a b c:List Nat},Ahead a b->Ahead b c->Ahead a c
 | x::a,y::b,z::c,h,g=>by
  rcases h with h | ⟨rfl,h⟩
  ·rcases g with g | ⟨rfl,_⟩
   ·exact .inl (Nat.lt_trans h g)
   ·exact .inl h
  ·rcases g with g | ⟨rfl,g⟩
   ·exact .inl g
   ·exact .inr ⟨rfl,ahead_tr h g⟩
theorem SpB.uniq {m:Nat}{d d':Int}{cs cs':List Nat}(h:SpB ns m d cs)(h':SpB ns m d' cs'):d=d'/\cs=cs':=by
 have e:d=d':=Int.le_antisymm (h.least cs' d' h'.cut h'.len h'.has) (h'.least cs d h.cut h.len h.has)
 subst e
 refine⟨rfl,?_⟩
 rcases ahead_tot (a:=cs) (b:=cs') (by have:=h.len;have:=h'.len;omega) with z | z | z
 ·exact absurd z (h'.first cs h.cut h.len h.has)
 ·exact z
 ·exact absurd z (h.first cs' h'.cut h'.len h'.has)
structure Nb (ns:List Int)(m:Nat)(bs:List (Int×Int)):Prop where
 has:∀ x∈bs,0<M14.cnt ns x.1 x.2 m 0
 all:∀ cs a b,CutN cs ns.length->cs.length+1=m->a∈(pcs ns 0 cs).map List.sum->b∈(pcs ns 0 cs).map List.sum->Within ns a b cs->∃ h,(a,h)∈bs/\h<=b
theorem near_sp {m:Nat}{bs:List (Int×Int)}{d:Int}{cs:List Nat}(hn:1<=ns.length)(m1:1<=m)(N:Nb ns m bs)(hd:∃ x∈bs,x.2-x.1=d)(hmin:∀ x∈bs,d<=x.2-x.1)
  (hc:∃ x∈bs,x.2-x.1=d/\CutN cs ns.length/\cs.length+1=m/\Within ns x.1 x.2 cs)
  (hfirst:∀ x∈bs,x.2-x.1=d->∃ es,CutN es ns.length/\es.length+1=m/\Within ns x.1 x.2 es/\(∀ ds,CutN ds ns.length->ds.length+1=m->Within ns x.1 x.2 ds->¬ Ahead ds es)/\¬ Ahead es cs):SpB ns m d cs:=by
 have least:∀ ds e,CutN ds ns.length->ds.length+1=m->Spr ns ds e->d<=e:=λds e h1 h2 ⟨a,b,h3,h4,h5,h6⟩=>by
  obtain⟨h,h7,h8⟩:=N.all ds a b h1 h2 h3 h4 h5
  have:=hmin _ h7
  simp only at this
  omega
 obtain⟨x,hx,e,c1,c2,c3⟩:=hc
 obtain⟨a,b,s1,s2,s3⟩:=spr_ex ns cs
 have hs:Spr ns cs (b-a):=⟨a,b,s1,s2,s3,rfl⟩
 have e2:b-a=d:=Int.le_antisymm (by have:=spr_le hs c3;omega) (least cs _ c1 c2 hs)
 refine⟨c1,c2,e2▸hs,least,λds h1 h2 h3 ha=>?_⟩
 obtain⟨a',b',g1,g2,g3,g4⟩:=h3
 obtain⟨h,h7,h8⟩:=N.all ds a' b' h1 h2 g1 g2 g3
 have h9:=hmin _ h7
 simp only at h9
 have e3:h=b':=by omega
 subst e3
 obtain⟨es,k1,k2,k3,k4,k5⟩:=hfirst _ h7 (by simp only;omega)
 have k6:=k4 ds h1 h2 g3
 rcases ahead_tot (a:=es) (b:=cs) (by omega) with z | z | z
 ·exact k5 z
 ·subst z;exact k6 ha
 ·exact k6 (ahead_tr ha z)
theorem within_mono {lo' hi':Int}{cs:List Nat}(h:Within ns lo hi cs)(h1:lo'<=lo)(h2:hi<=hi'):Within ns lo' hi' cs:=λx hx=>by have:=h x hx;omega
theorem slice_nn (h0:∀ n∈ns,0<=n){b c:Nat}(h:b<=c):S ns b<=S ns c:=M14.S_mono h0 h
theorem pcs_str:∀ {cs:List Nat} {b:Nat},(b::cs).Pairwise (·<·)->(∀ c∈b::cs,c<ns.length)->∀ x∈(pcs ns b cs).map List.sum,∃ i e,i<e/\e<=ns.length/\x=S ns e-S ns i
 | [],b,_,h,x,hx=>by
  have hb:=h b (by simp)
  simp only[pcs,List.map_cons,List.map_nil,List.mem_singleton] at hx
  rw[drop_S (by omega)] at hx
  exact⟨b,ns.length,hb,Nat.le_refl _,hx⟩
 | c::cs,b,hp,h,x,hx=>by
  obtain⟨p1,p2⟩:=List.pairwise_cons.mp hp
  have hc:=h c (by simp)
  simp only[pcs,List.map_cons] at hx
  rcases List.mem_cons.mp hx with rfl | hx
  ·rw[slice_S (by have:=p1 c (by simp);omega)]
   exact⟨b,c,p1 c (by simp),by omega,rfl⟩
  ·exact pcs_str p2 (λy hy=>h y (List.mem_cons_of_mem _ hy)) x hx
theorem cut_str {cs:List Nat}(hn:1<=ns.length)(h:CutN cs ns.length){x:Int}(hx:x∈(pcs ns 0 cs).map List.sum):∃ i e,i<e/\e<=ns.length/\x=S ns e-S ns i :=
 pcs_str (List.pairwise_cons.mpr ⟨λc hc=>h.lo c hc,h.up⟩) (λc hc=>by
  rcases List.mem_cons.mp hc with rfl | hc
  ·omega
  ·exact h.hi c hc) x hx
theorem str_bd (h0:∀ n∈ns,0<=n){x:Int}{i e:Nat}(h:i<e)(he:e<=ns.length)(hx:x=S ns e-S ns i):0<=x/\x<=ns.sum:=by
 have h1:=slice_nn h0 (Nat.le_of_lt h)
 have h2:=slice_nn h0 he
 have h3:=slice_nn h0 (Nat.zero_le i)
 rw[S_zero] at h3
 have h4:S ns ns.length=ns.sum:=by unfold S;rw[List.take_length]
 omega
theorem low_high {m:Nat}{t g:Int}(h0:∀ n∈ns,0<=n)(hn:1<=ns.length)(m1:1<=m)(hT0:M11.T 0 ns (m-1) 0=some t)(hT1:M11.T 1 ns (m-1) 0=some g){cs:List Nat}(h1:CutN cs ns.length)(h2:cs.length+1=m){a b:Int}(hw:Within ns a b cs)
  (ha:a∈(pcs ns 0 cs).map List.sum) (hb:b∈(pcs ns 0 cs).map List.sum):a<=g/\t<=b:=by
 obtain⟨l,rfl⟩:∃ l,m=l+1:=⟨m-1,by omega⟩
 obtain⟨i,e,q1,q2,q3⟩:=cut_str hn h1 ha
 have qa:=str_bd h0 q1 q2 q3
 obtain⟨i',e',q1',q2',q3'⟩:=cut_str hn h1 hb
 have qb:=str_bd h0 q1' q2' q3'
 constructor
 ·obtain⟨v,hv,hl⟩:=(cnt_pos (asks_ge (t:=a) h0) l 0).mp ((cnt_cut hn m1).mpr ⟨cs,h1,h2,within_mono hw (Int.le_refl _) qb.2⟩)
  have hT1':M11.T 1 ns l 0=some g:=hT1
  rw[hT1'] at hv
  cases hv
  simpa [M11.Le] using hl
 ·obtain⟨v,hv,hl⟩:=(cnt_pos (asks_le (t:=b) h0) l 0).mp ((cnt_cut hn m1).mpr ⟨cs,h1,h2,within_mono hw qa.1 (Int.le_refl _)⟩)
  have hT0':M11.T 0 ns l 0=some t:=hT0
  rw[hT0'] at hv
  cases hv
  simpa [M11.Le] using hl
theorem feas {m:Nat}{g low:Int}(h0:∀ n∈ns,0<=n)(hn:1<=ns.length)(m1:1<=m)(hT1:M11.T 1 ns (m-1) 0=some g)(hl:low<=g):∃ cs a b,CutN cs ns.length/\cs.length+1=m/\a∈(pcs ns 0 cs).map List.sum/\b∈(pcs ns 0 cs).map List.sum/\Within ns a b cs/\low<=a:=by
 obtain⟨l,rfl⟩:∃ l,m=l+1:=⟨m-1,by omega⟩
 have hT1':M11.T 1 ns l 0=some g:=hT1
 have:=(cnt_pos (asks_ge (t:=g) h0) l 0).mpr ⟨g,hT1',by simp[M11.Le]⟩
 obtain⟨cs,h1,h2,h3⟩:=(cnt_cut hn m1).mp this
 obtain⟨a,b,s1,s2,s3⟩:=spr_ex ns cs
 exact⟨cs,a,b,h1,h2,s1,s2,s3,by have:=(h3 a s1).1;omega⟩
theorem near_nb {m:Nat}{t g:Int}{ms:List Int}{bs:List (Int×Int)}(h0:∀ n∈ns,0<=n)(hn:1<=ns.length)(m1:1<=m)(hT0:M11.T 0 ns (m-1) 0=some t)(hT1:M11.T 1 ns (m-1) 0=some g)
  (hms:∀ k,k∈ms↔∃ i e,i<e/\e<=ns.length/\k=S ns e-S ns i) (hf:bs.map (·.1)=ms.filter λx=>decide (x<=g)) (hb:∀ x∈bs,0<M14.cnt ns x.1 x.2 m 0/\∀ y∈ms.filter (λx=>decide (t<=x)),y<x.2->¬ 0<M14.cnt ns x.1 y m 0):Nb ns m bs:=by
 refine⟨λx hx=>(hb x hx).1,λcs a b h1 h2 h3 h4 h5=>?_⟩
 obtain⟨q1,q2⟩:=low_high h0 hn m1 hT0 hT1 h1 h2 h5 h3 h4
 have ha:a∈bs.map (·.1):=by
  rw[hf,List.mem_filter]
  exact⟨(hms a).mpr (cut_str hn h1 h3),decide_eq_true q1⟩
 obtain⟨⟨a',h⟩,hx,rfl⟩:=List.mem_map.mp ha
 refine⟨h,hx,?_⟩
 rcases Int.lt_or_le b h with z | z
 ·refine absurd ((cnt_cut hn m1).mpr ⟨cs,h1,h2,h5⟩) ((hb _ hx).2 b ?_ z)
  rw[List.mem_filter]
  exact⟨(hms b).mpr (cut_str hn h1 h4),decide_eq_true q2⟩
 ·exact z
end M49
namespace M52
open M3 M25 M14 M18 M32 M49 M31
theorem dv {L k:Nat}(hk:1<=k):(k:Int)*((L / k:Nat):Int)<=L/\(L:Int)<k*((L / k:Nat):Int)+k:=by
 have h1:=Nat.div_add_mod L k
 have h2:=Nat.mod_lt L (show k > 0 by omega)
 have h3:((k*(L / k)+L % k:Nat):Int)=(L:Int):=by rw[h1]
 rw[Int.natCast_add,Int.natCast_mul] at h3
 generalize ((L / k:Nat):Int)=p at *
 generalize (k:Int)*p=z at *
 omega
def G (L k:Nat):Int:=(2*((L / k:Nat):Int)+1)*L-k*(((L / k:Nat):Int)*(((L / k:Nat):Int)+1))
theorem G_ge {L k:Nat}(hk:1<=k)(q:Int):(2*q+1)*(L:Int)-k*(q*(q+1))<=G L k:=by
 obtain⟨h1,h2⟩:=dv (L:=L) hk
 unfold G
 generalize ((L / k:Nat):Int)=p at *
 have e:(2*p+1)*(L:Int)-k*(p*(p+1))-((2*q+1)*L-k*(q*(q+1)))=(p-q)*(2*(L-k*p)+k*(p-q-1)):=by grind
 have:0<=(p-q)*(2*((L:Int)-k*p)+k*(p-q-1)):=by
  rcases Int.lt_trichotomy p q with c | c | c
  ·have h3:(k:Int)*(p-q-1)<=k*(-2):=Int.mul_le_mul_of_nonneg_left (by omega) (by omega)
   exact Int.mul_nonneg_of_nonpos_of_nonpos (by omega) (by omega)
  ·subst c;simp
  ·have h3:0<=(k:Int)*(p-q-1):=Int.mul_nonneg (by omega) (by omega)
   exact Int.mul_nonneg (by omega) (by omega)
 omega
theorem G_eq {L k:Nat}{q:Int}(hk:1<=k)(h1:(k:Int)*q<=L)(h2:(L:Int)<=k*q+k):G L k=(2*q+1)*(L:Int)-k*(q*(q+1)):=by
 obtain⟨g1,g2⟩:=dv (L:=L) hk
 unfold G
 generalize ((L / k:Nat):Int)=p at *
 have c1:p<=q+1:=Int.not_lt.mp λz=>by
  have:=Int.mul_le_mul_of_nonneg_left (show q+2<=p by omega) (show (0:Int)<=k by omega)
  rw[Int.mul_add] at this
  omega
 have c2:q<=p:=Int.not_lt.mp λz=>by
  have:=Int.mul_le_mul_of_nonneg_left (show p+1<=q by omega) (show (0:Int)<=k by omega)
  rw[Int.mul_add] at this
  omega
 rcases (show p=q\/p=q+1 by omega) with c | c
 ·rw[c]
 ·rw[c] at g1 ⊢
  rw[Int.mul_add] at g1
  have e:(L:Int)=k*q+k:=by omega
  rw[e]
  grind
theorem tang (y:Int):0<=y*(y-1):=by
 by_cases c:0<y
 ·exact Int.mul_nonneg (by omega) (by omega)
 ·exact Int.mul_nonneg_of_nonpos_of_nonpos (by omega) (by omega)
theorem G_step {L x k:Nat}(hk:1<=k)(hx:x<=L):G L (k+1)<=(x:Int)*x+G (L-x) k:=by
 have h:=G_ge (L:=L-x) hk ((L / (k+1):Nat):Int)
 show (2*((L / (k+1):Nat):Int)+1)*L-((k+1:Nat):Int)*(((L / (k+1):Nat):Int)*(((L / (k+1):Nat):Int)+1))<=_
 generalize ((L / (k+1):Nat):Int)=p at *
 have t:=tang ((x:Int)-p)
 rw[show ((L-x:Nat):Int)=(L:Int)-x by omega] at h
 rw[show ((k+1:Nat):Int)=(k:Int)+1 by omega]
 have e:(x:Int)*x=(2*p+1)*x-p*(p+1)+(x-p)*(x-p-1):=by grind
 have e2:(2*p+1)*((L:Int)-x)=(2*p+1)*L-(2*p+1)*x:=by grind
 have e3:((k:Int)+1)*(p*(p+1))=k*(p*(p+1))+p*(p+1):=by grind
 omega
theorem G_hit {L k:Nat}(hk:1<=k):((L / (k+1):Nat):Int)*((L / (k+1):Nat):Int)+G (L-L / (k+1)) k=G L (k+1):=by
 obtain⟨g1,g2⟩:=dv (L:=L) (k:=k+1) (by omega)
 have hx:L / (k+1)<=L:=Nat.div_le_self _ _
 rw[G_eq (L:=L-L / (k+1)) (q:=((L / (k+1):Nat):Int)) hk ?_ ?_]
 ·show _=(2*((L / (k+1):Nat):Int)+1)*L-((k+1:Nat):Int)*(((L / (k+1):Nat):Int)*(((L / (k+1):Nat):Int)+1))
  rw[show ((L-L / (k+1):Nat):Int)=(L:Int)-((L / (k+1):Nat):Int) by omega,show ((k+1:Nat):Int)=(k:Int)+1 by omega]
  generalize ((L / (k+1):Nat):Int)=p
  grind
 all_goals
  rw[show ((L-L / (k+1):Nat):Int)=(L:Int)-((L / (k+1):Nat):Int) by omega]
  rw[show ((k+1:Nat):Int)=(k:Int)+1 by omega] at g1 g2
  generalize ((L / (k+1):Nat):Int)=p at *
  rw[Int.add_mul,Int.one_mul] at g1 g2
  omega
theorem G_miss {L x k:Nat}(hk:1<=k)(hx:x<L / (k+1)):G L (k+1)<(x:Int)*x+G (L-x) k:=by
 have hL:L / (k+1)<=L:=Nat.div_le_self _ _
 have h:=G_ge (L:=L-x) hk ((L / (k+1):Nat):Int)
 show (2*((L / (k+1):Nat):Int)+1)*L-((k+1:Nat):Int)*(((L / (k+1):Nat):Int)*(((L / (k+1):Nat):Int)+1))<_
 rw[show ((L-x:Nat):Int)=(L:Int)-x by omega] at h
 have hx':(x:Int)<((L / (k+1):Nat):Int):=by omega
 generalize ((L / (k+1):Nat):Int)=p at *
 have t:0<((x:Int)-p)*(x-p-1):=Int.mul_pos_of_neg_of_neg (by omega) (by omega)
 rw[show ((k+1:Nat):Int)=(k:Int)+1 by omega]
 have e:(x:Int)*x=(2*p+1)*x-p*(p+1)+(x-p)*(x-p-1):=by grind
 have e2:(2*p+1)*((L:Int)-x)=(2*p+1)*L-(2*p+1)*x:=by grind
 have e3:((k:Int)+1)*(p*(p+1))=k*(p*(p+1))+p*(p+1):=by grind
 omega
theorem S_rp (n:Nat)(c:Int){i:Nat}(h:i<=n):S (List.replicate n c) i=c*i:=by
 induction i with
 | zero=>rw[S_zero];simp
 | succ i ih =>
  rw[S_succ (x:=c) (by rw[List.getElem?_replicate,if_pos (by omega)]),ih (by omega)]
  rw[show ((i+1:Nat):Int)=(i:Int)+1 by omega,Int.mul_add,Int.mul_one]
theorem sq_rp {n:Nat}{c:Int}{b e:Nat}(h:b<=e)(he:e<=n):sq (List.replicate n c) b e=c*c*(((e-b:Nat):Int)*((e-b:Nat):Int)):=by
 unfold sq
 rw[S_rp n c he,S_rp n c (by omega),show ((e-b:Nat):Int)=(e:Int)-b by omega]
 grind
theorem sq0 (c:Int):0<=c*c:=by
 rcases Int.le_total 0 c with h | h
 ·exact Int.mul_nonneg h h
 ·exact Int.mul_nonneg_of_nonpos_of_nonpos h h
theorem div_room {L k:Nat}(hk:k+1<=L):1<=L / (k+1)/\L / (k+1)+k<=L:=by
 have h1:1<=L / (k+1):=(Nat.le_div_iff_mul_le (by omega)).mpr (by omega)
 have h2:=Nat.div_mul_le_self L (k+1)
 rw[Nat.mul_add,Nat.mul_one] at h2
 have h3:1*k<=L / (k+1)*k:=Nat.mul_le_mul_right k h1
 omega
theorem least_rp {n:Nat}(c:Int):∀ (k b:Nat),1<=k->b+k<=n->Least (sq (List.replicate n c)) k b n (c*c*G (n-b) k)
 | 1,b,_,h=>by
  have:=least_one (w:=sq (List.replicate n c)) (b:=b) (e:=n) (by omega)
  rw[sq_rp (by omega) (Nat.le_refl _)] at this
  have e:G (n-b) 1=((n-b:Nat):Int)*((n-b:Nat):Int):=by
   unfold G
   rw[Nat.div_one]
   generalize ((n-b:Nat):Int)=z
   grind
  rw[e];exact this
 | k+2,b,_,h=>by
  obtain⟨r1,r2⟩:=div_room (L:=n-b) (k:=k+1) (by omega)
  rw[show k+1+1=k+2 from rfl] at r1 r2
  refine least_back (λm=>c*c*G (n-m) (k+1)) (λm h1 h2=>least_rp c (k+1) m (by omega) h2) ⟨b+(n-b) / (k+2),by omega,by omega,?_⟩ λm h1 h2=>?_
  ·rw[sq_rp (by omega) (by omega),<- Int.mul_add,show b+(n-b) / (k+2)-b=(n-b) / (k+2) by omega,show n-(b+(n-b) / (k+2))=(n-b)-(n-b) / (k+2) by omega]
   rw[G_hit (L:=n-b) (k:=k+1) (by omega)]
  ·rw[sq_rp (by omega) (by omega),<- Int.mul_add]
   refine Int.mul_le_mul_of_nonneg_left ?_ (sq0 c)
   have:=G_step (L:=n-b) (x:=m-b) (k:=k+1) (by omega) (by omega)
   rw[show n-m=n-b-(m-b) by omega]
   exact this
def en (n:Nat):Nat->Nat->List Nat
 | k+2,b=>(b+(n-b) / (k+2))::en n (k+1) (b+(n-b) / (k+2))
 | _,_=>[]
theorem chF_rp {n:Nat}{c:Int}(hc:0<c):∀ (k b:Nat),1<=k->b+k<=n->ChF (sq (List.replicate n c)) n k b (en n k b)
 | 1,b,_,h=>rfl
 | k+2,b,_,h=>by
  obtain⟨r1,r2⟩:=div_room (L:=n-b) (k:=k+1) (by omega)
  rw[show k+1+1=k+2 from rfl] at r1 r2
  refine⟨_,_,rfl,⟨by omega,?_,λe' h1 h2=>?_⟩,chF_rp hc (k+1) _ (by omega) (by omega)⟩
  ·refine(hit_iff (least_rp c (k+1) _ (by omega) (by omega)) (least_rp c (k+2) b (by omega) h)).mpr ?_
   rw[sq_rp (by omega) (by omega),<- Int.mul_add,show b+(n-b) / (k+2)-b=(n-b) / (k+2) by omega,show n-(b+(n-b) / (k+2))=(n-b)-(n-b) / (k+2) by omega]
   rw[G_hit (L:=n-b) (k:=k+1) (by omega)]
  ·rw[hit_iff (least_rp c (k+1) e' (by omega) (by omega)) (least_rp c (k+2) b (by omega) h)]
   rw[sq_rp (by omega) (by omega),<- Int.mul_add]
   have:=G_miss (L:=n-b) (x:=e'-b) (k:=k+1) (by omega) (by show _<(n-b) / (k+2);omega)
   rw[show k+1+1=k+2 from rfl] at this
   rw[show n-e'=n-b-(e'-b) by omega]
   have:=Int.mul_lt_mul_of_pos_left this (Int.mul_pos hc hc)
   omega
theorem ChF.uniq {w:Nat->Nat->Int}{n:Nat}:∀ (k b:Nat) {cs cs':List Nat},ChF w n k b cs->ChF w n k b cs'->cs=cs'
 | 0,_,_,_,h,_=>h.elim
 | 1,_,_,_,h,h'=>(show _=[] from h).trans (show _=[] from h').symm
 | k+2,b,_,_,⟨e,cs,h1,h2,h3⟩,⟨e',cs',h1',h2',h3'⟩=>by
  have:=h2.uniq h2'
  subst this
  rw[h1,h1',ChF.uniq (k+1) e h3 h3']
def pl (n k i:Nat):Nat:=i*(n / k)+(i-(k-n % k))
theorem pl_next {n k i:Nat}(hk:1<=k)(hi:i<k):pl n k (i+1)=pl n k i+(n-pl n k i) / (k-i)/\pl n k i<=n:=by
 have h1:=Nat.div_add_mod n k
 have h2:=Nat.mod_lt n (show k > 0 by omega)
 unfold pl
 generalize n / k=q at *
 generalize n % k=r at *
 have e:k*q=(k-i)*q+i*q:=by rw[<- Nat.add_mul,show k-i+i=k by omega]
 rw[Nat.add_mul,Nat.one_mul]
 generalize hj:k-i=j at *
 generalize i*q=z at *
 have hjp:0<j:=by omega
 by_cases c:i<k-r
 ·have e2:n-(z+(i-(k-r)))=j*q+r:=by omega
  rw[e2]
  have e3:(j*q+r) / j=q:=by
   rw[Nat.mul_add_div hjp,Nat.div_eq_of_lt (by omega),Nat.add_zero]
  rw[e3];omega
 ·have e2:n-(z+(i-(k-r)))=j*(q+1):=by rw[Nat.mul_add,Nat.mul_one];omega
  rw[e2,Nat.mul_div_cancel_left _ hjp]
  have:r<=k:=by omega
  omega
theorem en_pl {n k:Nat}(hk:1<=k):∀ (j i:Nat),i+j+1=k->en n (j+1) (pl n k i)=(List.range j).map λt=>pl n k (i+t+1)
 | 0,i,h=>rfl
 | j+1,i,h=>by
  have hp:=(pl_next (n:=n) hk (show i<k by omega)).1
  rw[show k-i=j+2 by omega] at hp
  show (pl n k i+(n-pl n k i) / (j+2))::en n (j+1) (pl n k i+(n-pl n k i) / (j+2))=_
  rw[<- hp,en_pl hk j (i+1) (by omega),List.range_succ_eq_map,List.map_cons,List.map_map]
  congr 1
  refine List.map_congr_left λt _=>?_
  show pl n k (i+1+t+1)=pl n k (i+(t+1)+1)
  congr 1;omega
theorem en_at {n k:Nat}(hk:1<=k):en n k 0=(List.range (k-1)).map λt=>pl n k (t+1):=by
 have:=en_pl (n:=n) hk (k-1) 0 (by omega)
 rw[show k-1+1=k by omega,show pl n k 0=0 by unfold pl;simp] at this
 rw[this]
 refine List.map_congr_left λt _=>?_
 rw[Nat.zero_add]
theorem ins_sum {ns:List Int}{lo hi:Int}:∀ {ds:List Nat} {b:Nat},Ins ns lo hi b ds->((ds.length:Int)+1)*lo<=S ns ns.length-S ns b/\S ns ns.length-S ns b<=((ds.length:Int)+1)*hi
 | [],b,h=>by
  obtain⟨_,h2,h3⟩:=zq3m.mp h
  simp;omega
 | d::ds,b,h=>by
  obtain⟨_,h2,h3⟩:=zq3m.mp h.1
  obtain⟨g1,g2⟩:=ins_sum h.2
  rw[List.length_cons,show ((ds.length+1:Nat):Int)=(ds.length:Int)+1 by omega]
  generalize (ds.length:Int)+1=z at *
  rw[Int.add_mul,Int.add_mul,Int.one_mul,Int.one_mul]
  omega
theorem ins_rp {n:Nat}{c:Int}(hc:0<c){q dl:Nat}(hq:1<=q):∀ (k b:Nat),1<=k->b<=n->k*q<=n-b->n-b<=k*(q+dl)->dl<=1->Ins (List.replicate n c) (c*q) (c*((q+dl:Nat):Int)) b (en n k b)
 | 1,b,_,hb,h1,h2,_=>by
  have key:ok (List.replicate n c) (c*q) (c*((q+dl:Nat):Int)) b (List.replicate n c).length=1:=by
   rw[List.length_replicate,zq3m,S_rp n c (Nat.le_refl _),S_rp n c hb]
   rw[<- Int.mul_sub]
   exact⟨by omega,Int.mul_le_mul_of_nonneg_left (by omega) (by omega),Int.mul_le_mul_of_nonneg_left (by omega) (by omega)⟩
  exact key
 | k+2,b,_,hb,h1,h2,h3=>by
  have d1:=Nat.div_add_mod (n-b) (k+2)
  have d2:=Nat.mod_lt (n-b) (show k+2 > 0 by omega)
  generalize hv:(n-b) / (k+2)=v at *
  have v1:q<=v:=by rw[<- hv];exact(Nat.le_div_iff_mul_le (by omega)).mpr (by rw[Nat.mul_comm];exact h1)
  have v2:v<=q+dl:=by rw[<- hv];exact Nat.div_le_of_le_mul h2
  have m1:(k+2)*v=(k+1)*v+v:=by rw[show k+2=k+1+1 from rfl,Nat.add_mul,Nat.one_mul]
  have m2:(k+1)*q<=(k+1)*v:=Nat.mul_le_mul_left _ v1
  have m3:(k+1)*(v+1)=(k+1)*v+(k+1):=by rw[Nat.mul_add,Nat.mul_one]
  have m4:(k+2)*(q+dl)=(k+1)*(q+dl)+(q+dl):=by rw[show k+2=k+1+1 from rfl,Nat.add_mul,Nat.one_mul]
  have hvn:b+v<=n:=by omega
  refine(show Ins (List.replicate n c) (c*q) (c*((q+dl:Nat):Int)) b ((b+(n-b) / (k+2))::en n (k+1) (b+(n-b) / (k+2))) from ?_)
  rw[hv]
  refine⟨?_,ins_rp hc hq (k+1) (b+v) (by omega) hvn (by omega) ?_ h3⟩
  ·rw[zq3m,S_rp n c hvn,S_rp n c hb,<- Int.mul_sub]
   exact⟨by omega,Int.mul_le_mul_of_nonneg_left (by omega) (by omega),Int.mul_le_mul_of_nonneg_left (by omega) (by omega)⟩
  ·by_cases e:v=q+dl
   ·subst e;omega
   ·have:v+1<=q+dl:=by omega
    have:(k+1)*(v+1)<=(k+1)*(q+dl):=Nat.mul_le_mul_left _ this
    omega
theorem ahead_rp {n:Nat}{c a u:Int}(hc:0<c)(hu:u<=a+c):∀ (k b:Nat) (ds:List Nat),b<=n->Ins (List.replicate n c) a u b ds->ds.length+1=k->¬ Ahead ds (en n k b)
 | 0,_,_,_,_,h,_=>by omega
 | 1,_,ds,_,_,_,h=>by
  cases ds<;>exact h.elim
 | k+2,b,[],_,_,h,_=>by simp at h
 | k+2,b,x::xs,hb,hi,hl,ha=>by
  rcases ha with ha | ⟨he,ha⟩
  ·obtain⟨o1,o2,o3⟩:=zq3m.mp hi.1
   have s:=(ins_sum hi.2).2
   have hxn:=ins_lt hi.2
   rw[List.length_replicate] at s hxn
   rw[S_rp n c (Nat.le_refl _),S_rp n c (by omega)] at s
   rw[S_rp n c (by omega),S_rp n c hb] at o2 o3
   have hxl:(xs.length:Int)+1=((k+1:Nat):Int):=by simp at hl;omega
   rw[hxl] at s
   have d1:=Nat.div_mul_le_self (n-b) (k+2)
   generalize (n-b) / (k+2)=v at *
   have d2:(v:Int)*((k+1:Nat):Int)+v<=(n:Int)-b:=by
    have:((v*(k+2):Nat):Int)<=((n-b:Nat):Int):=by omega
    rw[show k+2=k+1+1 from rfl,Nat.mul_add,Nat.mul_one,Int.natCast_add,Int.natCast_mul] at this
    omega
   generalize ((k+1:Nat):Int)=z at *
   have hz:0<=z:=by
    have:0<=(xs.length:Int):=by omega
    omega
   have hxv:(x:Int)-b<=v-1:=by omega
   have a1:a<=c*(v-1):=by
    have:c*((x:Int)-b)<=c*(v-1):=Int.mul_le_mul_of_nonneg_left hxv (by omega)
    rw[Int.mul_sub] at this
    omega
   have u1:u<=c*v:=by rw[Int.mul_sub,Int.mul_one] at a1;omega
   have u2:z*u<=z*(c*v):=Int.mul_le_mul_of_nonneg_left u1 hz
   have u3:c*((v:Int)*z+1)<=c*((n:Int)-x):=Int.mul_le_mul_of_nonneg_left (by omega) (by omega)
   have e1:c*((v:Int)*z+1)=z*(c*v)+c:=by grind
   rw[Int.mul_sub] at u3
   omega
  ·have h3:x<=n:=by have:=ins_lt hi.2;rw[List.length_replicate] at this;omega
   rw[<- he] at ha
   exact ahead_rp hc hu (k+1) x xs h3 hi.2 (by simpa using hl) ha
theorem zqfn {n k:Nat}{c:Int}(hc:0<c)(k1:1<=k)(kn:k<=n):SpB (List.replicate n c) k (c*(if n % k=0 then 0 else 1:Nat)) (en n k 0):=by
 have hn:1<=(List.replicate n c).length:=by rw[List.length_replicate];omega
 have hl:(List.replicate n c).length=n:=List.length_replicate
 have d1:=Nat.div_add_mod n k
 have d2:=Nat.mod_lt n (show k > 0 by omega)
 have hq:1<=n / k:=(Nat.le_div_iff_mul_le (by omega)).mpr (by omega)
 have hlen:(en n k 0).length+1=k:=by rw[en_at k1];simp;omega
 generalize hdl:(if n % k=0 then 0 else 1:Nat)=dl
 have hd1:dl<=1:=by rw[<- hdl];split<;>omega
 have hI:Ins (List.replicate n c) (c*((n / k:Nat):Int)) (c*((n / k+dl:Nat):Int)) 0 (en n k 0):=by
  refine ins_rp hc hq k 0 k1 (by omega) (by omega) ?_ hd1
  rw[Nat.mul_add]
  by_cases e:n % k=0
  ·omega
  ·rw[if_neg e] at hdl
   subst hdl
   omega
 obtain⟨c1,c2⟩:=(ins_cut hn).mp hI
 have least:∀ ds e,CutN ds (List.replicate n c).length->ds.length+1=k->Spr (List.replicate n c) ds e->c*(dl:Int)<=e:=by
  rintro ds e hd hk ⟨a,b,h1,h2,h3,rfl⟩
  obtain⟨i1,j1,g1,g2,g3⟩:=cut_str hn hd h1
  obtain⟨i2,j2,g4,g5,g6⟩:=cut_str hn hd h2
  rw[hl] at g2 g5
  rw[S_rp n c g2,S_rp n c (by omega),<- Int.mul_sub] at g3
  rw[S_rp n c g5,S_rp n c (by omega),<- Int.mul_sub] at g6
  have hab:=(h3 a h1).2
  have key:dl=0\/a≠b:=by
   by_cases e:n % k=0
   ·rw[if_pos e] at hdl;exact .inl hdl.symm
   ·refine .inr λz=>e ?_
    subst z
    have s:=ins_sum ((ins_cut hn).mpr ⟨hd,h3⟩)
    rw[hl,S_rp n c (Nat.le_refl _),S_zero,show (ds.length:Int)+1=(k:Int) by omega] at s
    have e1:(k:Int)*a=c*n:=by omega
    rw[g3] at e1
    have e2:c*((k:Int)*((j1:Int)-i1))=c*n:=by rw[<- e1];grind
    have e3:=Int.eq_of_mul_eq_mul_left (by omega) e2
    have e4:n=k*(j1-i1):=by
     have:((k*(j1-i1):Nat):Int)=(n:Int):=by rw[Int.natCast_mul,show ((j1-i1:Nat):Int)=(j1:Int)-i1 by omega];exact e3
     omega
    rw[e4,Nat.mul_mod_right]
  rcases key with h | h
  ·subst h;simp;omega
  ·have hlt:a<b:=by omega
   rw[g3,g6] at hlt
   have hlt':(j1:Int)-i1<(j2:Int)-i2:=Int.lt_of_mul_lt_mul_left hlt (by omega)
   rw[g3,g6,<- Int.mul_sub]
   exact Int.mul_le_mul_of_nonneg_left (by omega) (by omega)
 refine⟨c1,hlen,?_,least,λds hd hk hs ha=>?_⟩
 ·obtain⟨a,b,h1,h2,h3⟩:=spr_ex (List.replicate n c) (en n k 0)
  have hs:Spr (List.replicate n c) (en n k 0) (b-a):=⟨a,b,h1,h2,h3,rfl⟩
  have l1:=least _ _ c1 hlen hs
  have l2:=spr_le hs c2
  rw[Int.natCast_add,Int.mul_add] at l2
  have:b-a=c*(dl:Int):=by omega
  rw[<- this];exact hs
 ·obtain⟨a,b,h1,h2,h3,h4⟩:=hs
  have hb:b<=a+c:=by
   have:c*(dl:Int)<=c*1:=Int.mul_le_mul_of_nonneg_left (by omega) (by omega)
   omega
  exact ahead_rp hc hb k 0 ds (by omega) ((ins_cut hn).mpr ⟨hd,h3⟩) hk ha
theorem evens_rp {n:Nat}(c:Int):Evens (List.replicate n c) ((List.range n).map λi=>c*c*G n (i+1)):=by
 refine⟨by simp,λi v h=>?_⟩
 rw[List.getElem?_map] at h
 by_cases hi:i<n
 ·rw[List.getElem?_range hi] at h
  cases h
  have:=least_rp (n:=n) c (i+1) 0 (by omega) (by omega)
  rw[Nat.sub_zero] at this
  rw[List.length_replicate];exact this
 ·rw[List.getElem?_eq_none (by simpa using hi)] at h;cases h
theorem G_sizes {n k:Nat}(k1:1<=k):G n k=((k-n % k:Nat):Int)*(((n / k:Nat):Int)*((n / k:Nat):Int))+((n % k:Nat):Int)*((((n / k:Nat):Int)+1)*(((n / k:Nat):Int)+1)):=by
 have d1:=Nat.div_add_mod n k
 have d2:=Nat.mod_lt n (show k > 0 by omega)
 unfold G
 rw[show ((k-n % k:Nat):Int)=(k:Int)-((n % k:Nat):Int) by omega]
 have e:(n:Int)=(k:Int)*((n / k:Nat):Int)+((n % k:Nat):Int):=by
  have:((k*(n / k)+n % k:Nat):Int)=(n:Int):=by rw[d1]
  rw[Int.natCast_add,Int.natCast_mul] at this
  exact this.symm
 generalize ((n / k:Nat):Int)=q at *
 generalize ((n % k:Nat):Int)=r at *
 rw[e]
 grind
theorem S_one {n at_:Nat}{c:Int}(h:at_<n):∀ {i:Nat},i<=n->S ((List.replicate n 0).set at_ c) i=if at_<i then c else 0
 | 0,_=>by rw[S_zero];simp
 | i+1,hi=>by
  have e:((List.replicate n (0:Int)).set at_ c)[i]?=some (if at_=i then c else 0):=by
   rw[List.getElem?_set]
   by_cases z:at_=i
   ·rw[if_pos z,if_pos z,if_pos (by rw[List.length_replicate];omega)]
   ·rw[if_neg z,if_neg z,List.getElem?_replicate,if_pos (by omega)]
  rw[S_succ e,S_one h (by omega)]
  by_cases z:at_=i
  ·rw[if_pos z,if_neg (by omega),if_pos (by omega)];omega
  ·rw[if_neg z]
   by_cases y:at_<i
   ·rw[if_pos y,if_pos (by omega)];omega
   ·rw[if_neg y,if_neg (by omega)];omega
theorem sq_one {n at_:Nat}{c:Int}(h:at_<n){b e:Nat}(hb:b<=e)(he:e<=n):sq ((List.replicate n 0).set at_ c) b e=if b<=at_/\at_<e then c*c else 0:=by
 unfold sq
 rw[S_one h he,S_one h (by omega)]
 by_cases z:b<=at_
 ·by_cases y:at_<e
  ·rw[if_pos y,if_neg (by omega),if_pos ⟨z,y⟩];grind
  ·rw[if_neg y,if_neg (by omega),if_neg (by omega)];rfl
 ·rw[if_pos (by omega),if_pos (by omega),if_neg (by omega),Int.sub_self];rfl
theorem least_mid {n at_:Nat}{c:Int}(h:at_<n):∀ (k b:Nat),1<=k->b+k<=n->Least (sq ((List.replicate n 0).set at_ c)) k b n (if b<=at_ then c*c else 0)
 | 1,b,_,hb=>by
  have:=least_one (w:=sq ((List.replicate n 0).set at_ c)) (b:=b) (e:=n) (by omega)
  rw[sq_one h (by omega) (Nat.le_refl _)] at this
  by_cases z:b<=at_
  ·rw[if_pos z];rw[if_pos ⟨z,h⟩] at this;exact this
  ·rw[if_neg z];rw[if_neg (λy=>z y.1)] at this;exact this
 | k+2,b,_,hb=>by
  have s0:=sq0 c
  refine least_back (λm=>if m<=at_ then c*c else 0) (λm h1 h2=>least_mid h (k+1) m (by omega) h2) ⟨b+1,by omega,by omega,?_⟩ λm h1 h2=>?_
  ·rw[sq_one h (by omega) (by omega)]
   split<;>split<;>split<;>omega
  ·rw[sq_one h (by omega) (by omega)]
   split<;>split<;>split<;>omega
theorem chF_mid {n at_:Nat}{c:Int}(h:at_<n):∀ (k b:Nat),1<=k->b+k<=n->ChF (sq ((List.replicate n 0).set at_ c)) n k b ((List.range (k-1)).map λt=>b+t+1)
 | 1,b,_,_=>rfl
 | k+2,b,_,hb=>by
  refine⟨b+1,(List.range (k+1-1)).map (λt=>b+1+t+1),?_,⟨by omega,?_,λe' h1 h2=>by omega⟩,chF_mid h (k+1) (b+1) (by omega) (by omega)⟩
  ·show (List.range (k+1)).map _=_
   rw[List.range_succ_eq_map,List.map_cons,List.map_map]
   congr 1
   refine List.map_congr_left λt _=>?_
   show b+(t+1)+1=b+1+t+1
   omega
  ·refine(hit_iff (least_mid h (k+1) (b+1) (by omega) (by omega)) (least_mid h (k+2) b (by omega) hb)).mpr ?_
   rw[sq_one h (by omega) (by omega)]
   split<;>split<;>split<;>omega
theorem evens_mid {n at_:Nat}{c:Int}(h:at_<n):Evens ((List.replicate n 0).set at_ c) (List.replicate n (c*c)):=by
 refine⟨by simp,λi v hv=>?_⟩
 rw[List.getElem?_replicate] at hv
 split at hv
 ·cases hv
  have:=least_mid (c:=c) h (i+1) 0 (by omega) (by omega)
  rw[if_pos (by omega)] at this
  rw[List.length_set,List.length_replicate]
  exact this
 ·cases hv
theorem cost_mid {n:Nat}{z cost:Int}{m:Nat}(h:CostAt (List.replicate n z) 0 cost m):cost=z/\m=1:=by
 have h1:=h.m1
 have h2:=h.mn
 rw[List.length_replicate] at h2
 have g:∀ i,i<n->(List.replicate n z).getD i 0=z:=λi hi=>by rw[List.getD_eq_getElem?_getD,List.getElem?_replicate,if_pos hi];rfl
 have e:=h.at_
 rw[g (m-1) (by omega),Int.zero_mul,Int.add_zero] at e
 refine⟨e,Nat.le_antisymm (Nat.le_of_not_lt λc=>?_) h1⟩
 refine h.ne 0 (by omega) ?_
 rw[g 0 (by omega),Int.zero_mul,Int.add_zero,e]
theorem chain_rp {n k:Nat}{c:Int}(hc:0<c)(k1:1<=k)(kn:k<=n){cs:List Nat}{b:Nat}(h:Chain (sq (List.replicate n c)) n k (k-1) cs b):cs=(List.range (k-1)).map λt=>pl n k (t+1):=by
 rw[<- en_at k1]
 exact ChF.uniq k 0 (chF_chain k1 h) (chF_rp hc k 0 k1 (by omega))
theorem chain_mid {n at_ k:Nat}{c:Int}(ha:at_<n)(k1:1<=k)(kn:k<=n){cs:List Nat}{b:Nat}(h:Chain (sq ((List.replicate n 0).set at_ c)) n k (k-1) cs b):cs=(List.range (k-1)).map λt=>t+1:=by
 have:=ChF.uniq k 0 (chF_chain k1 h) (chF_mid ha k 0 k1 (by omega))
 rw[this]
 refine List.map_congr_left λt _=>?_
 omega
def szs (n k:Nat):List Int:=List.replicate (k-n % k) ((n / k:Nat):Int)++List.replicate (n % k) (((n / k:Nat):Int)+1)
theorem szs_len {n k:Nat}(k1:1<=k):(szs n k).length=k:=by
 have d2:=Nat.mod_lt n (show k > 0 by omega)
 unfold szs
 rw[List.length_append,List.length_replicate,List.length_replicate];omega
theorem szs_S {n k:Nat}(k1:1<=k):∀ {i:Nat},i<=k->S (szs n k) i=((pl n k i:Nat):Int)
 | 0,_=>by rw[S_zero];unfold pl;simp
 | i+1,hi=>by
  have d2:=Nat.mod_lt n (show k > 0 by omega)
  have e:(szs n k)[i]?=some (if i<k-n % k then ((n / k:Nat):Int) else ((n / k:Nat):Int)+1):=by
   unfold szs
   by_cases z:i<k-n % k
   ·rw[if_pos z,List.getElem?_append_left (by rw[List.length_replicate];exact z),List.getElem?_replicate,if_pos z]
   ·rw[if_neg z,List.getElem?_append_right (by rw[List.length_replicate];omega),List.length_replicate,List.getElem?_replicate,if_pos (by omega)]
  rw[S_succ e,szs_S k1 (by omega)]
  unfold pl
  rw[Nat.add_mul,Nat.one_mul]
  generalize n / k=q
  generalize i*q=y
  split<;>omega
theorem sum_rep (m:Nat)(z:Int):((List.replicate m z).map λx=>x*x).sum=(m:Int)*(z*z):=by
 induction m with
 | zero=>simp
 | succ m ih =>
  rw[List.replicate_succ,List.map_cons,List.sum_cons,ih,show ((m+1:Nat):Int)=(m:Int)+1 by omega,Int.add_mul,Int.one_mul];omega
theorem szs_sq {n k:Nat}(k1:1<=k):((szs n k).map λx=>x*x).sum=G n k:=by
 rw[G_sizes k1]
 unfold szs
 rw[List.map_append,List.sum_append,sum_rep,sum_rep]
theorem szs_bd {n k:Nat}:∀ x∈szs n k,0<=x/\x<=(n:Int)+1:=λx hx=>by
 have hq:=Nat.div_le_self n k
 unfold szs at hx
 generalize n / k=q at *
 rcases List.mem_append.mp hx with h | h
 ·have:=(List.mem_replicate.mp h).2;omega
 ·have:=(List.mem_replicate.mp h).2;omega
theorem G_bd {n k:Nat}(kn:k<=n)(h:n<=120):-1000000000<G n k/\G n k<1000000000:=by
 have hq:=Nat.div_le_self n k
 unfold G
 generalize n / k=q at *
 have a1:(2*q+1)*n<=241*120:=Nat.mul_le_mul (by omega) h
 have a2:q*(q+1)<=120*121:=Nat.mul_le_mul (by omega) (by omega)
 have a3:k*(q*(q+1))<=120*(120*121):=Nat.mul_le_mul (by omega) a2
 have b1:(2*(q:Int)+1)*n=(((2*q+1)*n:Nat):Int):=by simp
 have b2:(k:Int)*((q:Int)*((q:Int)+1))=((k*(q*(q+1)):Nat):Int):=by simp
 rw[b1,b2]
 omega
end M52
namespace L2
open PySem PySem.Spec PyProof.Rows
structure Bl (mg:Str->Option Value):Prop where
 list:mg "list"=none
 enumerate:mg "enumerate"=none
 int:mg "int"=none
 sum:mg "sum"=none
 range:mg "range"=none
 sorted:mg "sorted"=none
 max:mg "max"=none
 min:mg "min"=none
 len:mg "len"=none
 repr:mg "repr"=none
 isinstance:mg "isinstance"=none
 zip:mg "zip"=none
 bool:mg "bool"=none
 tuple:mg "tuple"=none
 str:mg "str"=none
 dict:mg "dict"=none
 abs:mg "abs"=none
theorem boot_int:bootBuiltins "int"=some (.type "int"):=by decide +kernel
theorem boot_list:bootBuiltins "list"=some (.type "list"):=by decide +kernel
theorem boot_bool:bootBuiltins "bool"=some (.type "bool"):=by decide +kernel
theorem boot_sum':bootBuiltins "sum"=some (.builtin "sum"):=by decide +kernel
theorem boot_max':bootBuiltins "max"=some (.builtin "max"):=by decide +kernel
theorem boot_min':bootBuiltins "min"=some (.builtin "min"):=by decide +kernel
theorem boot_len':bootBuiltins "len"=some (.builtin "len"):=by decide +kernel
theorem boot_isinstance':bootBuiltins "isinstance"=some (.builtin "isinstance"):=by decide +kernel
structure Hand (d m:Int):Prop where
 d0:0<=d
 m0:0<=m
 m1:m<2147483587
def HandAt (H:Hp)(h:Addr):Prop:=∃ d m,H h=some (.lst [.int d,.int m])/\Hand d m
theorem HandAt.same {H H':Hp}{h:Addr}(s:Same H H')(x:HandAt H h):HandAt H' h:=let ⟨d,m,q,z⟩:=x;⟨d,m,s _ _ q,z⟩
theorem HandAt.ne {H:Hp}{h p:Addr}(x:HandAt H h)(hp:H p=none):h≠p:=let ⟨_,_,q,_⟩:=x;ne_of_none q hp
def zq5u:Sp:=λvs H Q _=>∃ cell k:Int,vs=[.int cell,.int k]/\0<=k/\k<=100/\∀ p H',H p=none->Same H H'->HandAt H' p->Q (.ref p) H'
def zq5v:Sp:=λvs H Q _=>∃ (h:Addr) (lim:Int),vs=[.ref h,.int lim]/\HandAt H h/\0<lim/\lim<2 ^ 200/\∀ g H',0<=g->g<lim->HandAt H' h->Kp [h] H H'->Q (.int g) H'
def zq52 (K:W.Frag):Sp:=λvs H Q _=>∃ (a:Addr) (ns:List Int) (many:Int),vs=[.ref a,.int many]/\SqL K H a (ns.map V.int)/\ns.length<=63/\1<=many/\∀ (D:Addr) (as:List Addr) (H2:Hp),Same H H2->H D=none->H2 D=some (.lst (as.map V.ref))->as.length<=64->1<=as.length ->
 (∀ (j:Nat) (b:Addr),as[j]?=some b->∃ c:Int,H2 b=some (.tup [.int j,.int c]))->Q (.ref D) H2
structure RowN (ns:List Int):Prop where
 ne:1<=ns.length
 le:ns.length<=120
 nn:∀ n∈ns,0<=n
 ub:∀ n∈ns,n<=1000000000000
end L2
namespace K
open PySem L2
def top (i:Nat):Stmt:=PySem.Challenge.pw_piecebounds_k27_squares_and_spreads_plan.main.body.getD i (.Pass ⟨0,0,0,0⟩)
end K
namespace K
open PySem L2
section
variable {C:Addr}{P:Program}{w:World}{K:W.Frag}{mg:Str->Option Value}{base:Heap}{f:Addr}{fd:FuncData}
abbrev zq1f:Stmt:=top 39
theorem zq80:FnScope ["cell","k","digits"] ["cell","k"] (defScope zq1f):=⟨rfl,rfl,rfl,by decide +kernel,rfl,by decide +kernel,by decide +kernel⟩
theorem zq6p:Loc (defScope zq1f) "digits":=Or.inl (by kernel_rfl)
theorem zq53:Vis (defScope zq1f) "cell":=Or.inl (by kernel_rfl)
theorem zqbb:Vis (defScope zq1f) "digits":=Or.inl (by kernel_rfl)
theorem zqea:Vis (defScope zq1f) "k":=Or.inl (by kernel_rfl)
def zqf4 {cdv:Value}{A:Around}{outer:List Env}{s:Shared}{H:Hp}{E:XK}(B:Bl mg)(hr:Room 0 (A.deeper (PyProof.Rows.envOfC "_law_hand" (defScope zq1f) s.heap.objs.size f cdv))) :
  { t:TS // QB (cxOf CX0 P w K mg base ["cell","k","digits"] "_law_hand" (defScope zq1f) f cdv A outer s H E).nox (defBody zq1f) t } :=
 ⟨_,(qb_cons (qs_set (i:=2) zq80.nd rfl zq6p (.inl rfl) qe_int)
  (qb_mid (qs_if (qt_cmp opGe (qv 0 rfl zq53) (qe_op opPow qe_int qe_int)) (qb_one (qs_set (i:=2) zq80.nd rfl zq6p (.inl rfl) (qv 0 rfl zq53))) qb_nil)
  (qb_one (qs_ret (qe_lst (qa_cons (qv 2 rfl zqbb) (qa_cons (qe_op opMod (qe_op opMul (qe_op opAdd (qe_op opAdd (qe_op opMod (qv 0 rfl zq53) qe_int) (qe_op opMul qe_int (qv 1 rfl zqea))) qe_int) qe_int) qe_int) qa_nil)))))))⟩
abbrev zq1g:Stmt:=top 40
theorem zqc1:FnScope ["hand","limit","got"] ["hand","limit"] (defScope zq1g):=⟨rfl,rfl,rfl,by decide +kernel,rfl,by decide +kernel,by decide +kernel⟩
theorem zqd9:Loc (defScope zq1g) "got":=Or.inl (by kernel_rfl)
theorem zqda:Vis (defScope zq1g) "got":=Or.inl (by kernel_rfl)
theorem zq1a:Vis (defScope zq1g) "hand":=Or.inl (by kernel_rfl)
theorem zq4p:Vis (defScope zq1g) "limit":=Or.inl (by kernel_rfl)
def zqf5 {cdv:Value}{A:Around}{outer:List Env}{s:Shared}{H:Hp}{E:XK}(B:Bl mg)(hr:Room 0 (A.deeper (PyProof.Rows.envOfC "_law_draw" (defScope zq1g) s.heap.objs.size f cdv))) :
  { t:TS // QB (cxOf CX0 P w K mg base ["hand","limit","got"] "_law_draw" (defScope zq1g) f cdv A outer s H E).nox (defBody zq1g) t } :=
 ⟨_,(qb_cons (qs_if (qt_cmp opGt (ke_ix (K:=K) rfl (qv 0 rfl zq1a) qe_int (λ_ _=>rfl)) qe_int) (qb_cons (qs_set (i:=2) zqc1.nd rfl zqd9 (.inl rfl) (qe_op opMod (ke_ix (K:=K) rfl (qv 0 rfl zq1a) qe_int (λ_ _=>rfl)) (qv 1 rfl zq4p)))
  (qb_cons (qs_asg (qe_op opFdiv (ke_ix (K:=K) rfl (qv 0 rfl zq1a) qe_int (λ_ _=>rfl)) (qv 1 rfl zq4p)) (qg_sub (qv 0 rfl zq1a) qe_int setM))
  (qb_one (qs_ret (qv 2 rfl zqda))))) qb_nil)
  (qb_cons (qs_asg (qe_op opMod (qe_op opAdd (qe_op opAdd (qe_op opMul (ke_ix (K:=K) rfl (qv 0 rfl zq1a) qe_int (λ_ _=>rfl)) (ke_ix (K:=K) rfl (qv 0 rfl zq1a) qe_int (λ_ _=>rfl))) (qe_op opMul qe_int (ke_ix (K:=K) rfl (qv 0 rfl zq1a) qe_int (λ_ _=>rfl)))) qe_int) qe_int) (qg_sub (qv 0 rfl zq1a) qe_int setM))
  (qb_one (qs_ret (qe_op opMod (qe_op opFdiv (ke_ix (K:=K) rfl (qv 0 rfl zq1a) qe_int (λ_ _=>rfl)) qe_int) (qv 1 rfl zq4p))))))⟩
theorem pm:(0:Int)<2147483563:=by decide
theorem lt_hand {a:Int}:a % 2147483563<2147483587:=Int.lt_trans (Int.emod_lt_of_pos _ pm) (by decide)
theorem zqes (B:Bl mg)(F:Fun K "_law_hand" "_law_hand" zq1f f fd):FnOk P w K mg base CX0 1 f fd ["cell","k"] zq5u:=by
 refine F.okq zq80 (λvs H Q E h=>?_) (λcdv A outer s H vs Q E hr h=>?_)
 ·obtain⟨c,k,rfl,_⟩:=h;rfl
 obtain⟨c,k,rfl,h0,h1,q⟩:=h
 refine⟨zqf4 B hr,?_⟩
 refine⟨λσ H'=>H'=H/\∃ d,0<=d/\σ=[some (.int c),some (.int k),some (.int d)],?_,?_⟩
 ·refine⟨⟨by decide,by decide,by decide⟩,dec2 (λhc=>?_) (λhc=>?_)⟩
  ·exact⟨rfl,c,Int.le_trans (by decide) hc,rfl⟩
  ·exact⟨rfl,0,Int.le_refl 0,rfl⟩
 ·rintro σ H' ⟨rfl,d,hd,rfl⟩
  refine⟨pm,.inl ⟨by decide,by decide⟩,.inr ⟨by decide,by decide⟩,pm,?_⟩
  refine i_newL (by show 2<=sizeLine;decide) λp H1 hp s1 e1=>q p H1 hp s1 ⟨_,_,e1,hd,Int.emod_nonneg _ (by decide),lt_hand⟩
theorem zqet (B:Bl mg)(F:Fun K "_law_draw" "_law_draw" zq1g f fd):FnOk P w K mg base CX0 1 f fd ["hand","limit"] zq5v:=by
 refine F.okq zqc1 (λvs H Q E h=>?_) (λcdv A outer s H vs Q E hr h=>?_)
 ·obtain⟨a,lim,rfl,_⟩:=h;rfl
 obtain⟨a,lim,rfl,⟨d,m,hH,hh⟩,l0,l1,q⟩:=h
 refine⟨zqf5 B hr,?_⟩
 refine i_ixN 0 hH rfl rfl (dec2 (λc=>?_) (λc=>?_))
 ·refine i_ixN 0 hH rfl rfl ⟨l0,?_⟩
  refine i_ixN 0 hH rfl rfl ⟨⟨l0,l1⟩,?_⟩
  refine i_set 0 hH rfl (by simp) λH1 k1 e1=>?_
  exact q _ _ (Int.emod_nonneg _ (by omega)) (Int.emod_lt_of_pos _ l0) ⟨_,_,e1,Int.ediv_nonneg hh.d0 (by omega),hh.m0,hh.m1⟩ k1
 ·refine i_ixN 1 hH rfl rfl (i_ixN 1 hH rfl rfl ⟨.inl ⟨by have:=hh.m0;omega,by have:=hh.m1;omega⟩,?_⟩)
  refine i_ixN 1 hH rfl rfl ⟨.inl ⟨by decide,by decide⟩,pm,?_⟩
  refine i_set 1 hH rfl (by simp) λH1 k1 e1=>?_
  refine i_ixN 1 e1 rfl rfl ⟨⟨by decide,by decide⟩,l0,?_⟩
  exact q _ _ (Int.emod_nonneg _ (by omega)) (Int.emod_lt_of_pos _ l0) ⟨_,_,e1,hh.d0,Int.emod_nonneg _ (by decide),lt_hand⟩ k1
abbrev zq11:Stmt:=top 41
theorem zqeb:FnScope ["script","many"] ["script","many"] (defScope zq11):=⟨rfl,rfl,rfl,by decide +kernel,rfl,by decide +kernel,by decide +kernel⟩
theorem zqc3:Vis (defScope zq11) "many":=Or.inl (by kernel_rfl)
theorem zq60:Vis (defScope zq11) "script":=Or.inl (by kernel_rfl)
theorem zq8k:(defScope zq11).names.lookup ("enumerate":Str)=some NameKind.globalImplicit:=by kernel_rfl
theorem zqct:(defScope zq11).names.lookup ("int":Str)=some NameKind.globalImplicit:=by kernel_rfl
theorem zqc4:(defScope zq11).names.lookup ("list":Str)=some NameKind.globalImplicit:=by kernel_rfl
def zqeu {cdv:Value}{A:Around}{outer:List Env}{s:Shared}{H:Hp}{E:XK}(B:Bl mg)(hr:Room 0 (A.deeper (PyProof.Rows.envOfC "_law_cells" (defScope zq11) s.heap.objs.size f cdv))) :
  { t:TS // QB (cxOf CX0 P w K mg base ["script","many"] "_law_cells" (defScope zq11) f cdv A outer s H E).nox (defBody zq11) t } :=
 ⟨_,(qb_one (qs_ret (ke_enumL (K:=K) rfl rfl zqc4 B.list zq8k B.enumerate (qa_cons (qe_op opAdd (ke_slice (K:=K) rfl (qv 0 rfl zq60) qo_none (qo_some (qv 1 rfl zqc3))) (qe_op opMul (qe_lst (qa_cons qe_int qa_nil)) (qe_cT callInt zqct B.int boot_int (qa_cons (qe_cmp (kEqG (K:=K) rfl hr) (qv 0 rfl zq60) (qe_lst qa_nil)) qa_nil)))) qa_nil))))⟩
theorem cutV_ints (ns:List Int)(lo hi:Option Int):cutV (ns.map V.int) lo hi=((ns.drop (HT.sIx ns.length 0 lo)).take (HT.sIx ns.length ns.length hi-HT.sIx ns.length 0 lo)).map V.int:=by
 unfold cutV
 rw[List.length_map,List.map_take,List.map_drop]
theorem zqec (B:Bl mg)(F:Fun K "_law_cells" "_law_cells" zq11 f fd):FnOk P w K mg base CX0 1 f fd ["script","many"] (zq52 K):=by
 refine F.okq zqeb (λvs H Q E h=>?_) (λcdv A outer s H vs Q E hr h=>?_)
 ·obtain⟨a,ns,many,rfl,_⟩:=h;rfl
 obtain⟨a,ns,many,rfl,hS,h63,hm1,q⟩:=h
 refine⟨zqeu B hr,?_⟩
 refine i_sl hS λp1 H1 hp1 s1 e1=>?_
 refine i_newL (by show 1<=sizeLine;decide) λp2 H2 hp2 s2 e2=>?_
 refine i_newL (by show 0<=sizeLine;decide) λp3 H3 hp3 s3 e3=>?_
 refine i_eqI (ns:=ns) (ms:=[]) (s3.seq (s2.seq (s1.seq hS))) (SqL.of e3) ?_
 rw[cutV_ints] at e1
 have hml:((ns.drop (HT.sIx ns.length 0 none)).take (HT.sIx ns.length ns.length (some many)-HT.sIx ns.length 0 none)).length<=63:=by
  rw[List.length_take,List.length_drop];omega
 have hmn:ns≠[]->1<=((ns.drop (HT.sIx ns.length 0 none)).take (HT.sIx ns.length ns.length (some many)-HT.sIx ns.length 0 none)).length:=λhne=>by
  have h1:1<=ns.length:=List.length_pos_iff.mpr hne
  have e0:HT.sIx ns.length 0 none=0:=rfl
  have e1:1<=HT.sIx ns.length ns.length (some many):=by unfold HT.sIx;simp only[];split<;>omega
  rw[List.length_take,List.length_drop,e0];omega
 generalize (ns.drop (HT.sIx ns.length 0 none)).take (HT.sIx ns.length ns.length (some many)-HT.sIx ns.length 0 none)=ms at e1 hml hmn
 refine i_rep1 (s3 _ _ e2) (by split<;>omega) (by split<;>omega) λp4 H4 hp4 s4 e4=>?_
 have hk:(List.replicate (if id (decide (ns=[]))=true then (1:Int) else 0).toNat (0:Int)).length<=1:=by
  rw[List.length_replicate];split<;>decide
 have hkn:ns=[]->1<=(List.replicate (if id (decide (ns=[]))=true then (1:Int) else 0).toNat (0:Int)).length:=λhe=>by
  rw[List.length_replicate];simp[he]
 generalize List.replicate (if id (decide (ns=[]))=true then (1:Int) else 0).toNat (0:Int)=zs at e4 hk hkn
 refine i_cat (s4 _ _ (s3 _ _ (s2 _ _ e1))) e4 (sz_of (by simp only[List.length_map];omega)) λp5 H5 hp5 s5 e5=>?_
 rw[<- List.map_append] at e5
 have hl:(ms++zs).length<=64:=by rw[List.length_append];omega
 have hl1:1<=(ms++zs).length:=by
  rw[List.length_append]
  by_cases he:ns=[]
  ·have:=hkn he;omega
  ·have:=hmn he;omega
 generalize ms++zs=ts at e5 hl hl1
 refine⟨p5,_,rfl,SqL.of e5,λD as H9 s9 hD0 hD hlen hpair=>?_⟩
 rw[List.length_map] at hlen
 refine q D as H9 (s1.trans (s2.trans (s3.trans (s4.trans (s5.trans s9))))) ((s1.trans (s2.trans (s3.trans (s4.trans s5)))).free hD0) hD (by omega) (by omega) λj b hb=>?_
 have hj:j<ts.length:=by rw[<- hlen];exact(List.getElem?_eq_some_iff.mp hb).1
 obtain⟨b',hb',z⟩:=hpair j (.int ts[j]) (by rw[List.getElem?_map,List.getElem?_eq_getElem hj];rfl)
 rw[hb] at hb'
 cases hb'
 exact⟨_,z⟩
abbrev zq1h:Stmt:=top 5
theorem zqev:FnScope ["thing"] ["thing"] (defScope zq1h):=⟨rfl,rfl,rfl,by decide +kernel,rfl,by decide +kernel,by decide +kernel⟩
theorem zq7a:Vis (defScope zq1h) "thing":=Or.inl (by kernel_rfl)
theorem zqcu:(defScope zq1h).names.lookup ("bool":Str)=some NameKind.globalImplicit:=by kernel_rfl
theorem zqdb:(defScope zq1h).names.lookup ("int":Str)=some NameKind.globalImplicit:=by kernel_rfl
theorem zq4s:(defScope zq1h).names.lookup ("isinstance":Str)=some NameKind.globalImplicit:=by kernel_rfl
def zqf6 {cdv:Value}{A:Around}{outer:List Env}{s:Shared}{H:Hp}{E:XK}(B:Bl mg)(hr:Room 0 (A.deeper (PyProof.Rows.envOfC "is_whole" (defScope zq1h) s.heap.objs.size f cdv))) :
  { t:TS // QB (cxOf CX0 P w K mg base ["thing"] "is_whole" (defScope zq1h) f cdv A outer s H E).nox (defBody zq1h) t } :=
 ⟨_,(qb_one (qs_ret (ke_and (K:=K) rfl (qe_cB (kIsi (K:=K) rfl) zq4s B.isinstance boot_isinstance' (qa_cons (qv 0 rfl zq7a) (qa_cons (qe_ty zqdb B.int boot_int) qa_nil))) (qe_one (ke_not (K:=K) rfl (qe_cB (kIsi (K:=K) rfl) zq4s B.isinstance boot_isinstance' (qa_cons (qv 0 rfl zq7a) (qa_cons (qe_ty zqcu B.bool boot_bool) qa_nil))))))))⟩
def zq5w:Sp:=λvs H Q _=>∃ i:Int,vs=[.int i]/\Q (.bl true) H
theorem zqew (B:Bl mg)(F:Fun K "is_whole" "is_whole" zq1h f fd):FnOk P w K mg base CX0 1 f fd ["thing"] zq5w:=by
 refine F.okq zqev (λvs H Q E h=>?_) (λcdv A outer s H vs Q E hr h=>?_)
 ·obtain⟨i,rfl,_⟩:=h;rfl
 obtain⟨i,rfl,q⟩:=h
 refine⟨zqf6 B hr,?_⟩
 refine i_isi (.int i) (by simp) (by simp) (bIs (by decide +kernel) ?_)
 refine i_isi (.int i) (by simp) (by simp) ?_
 have e:isTy "int" "bool"=false:=by decide +kernel
 rw[e];exact q
abbrev zq15:Stmt:=top 6
theorem zqed:FnScope ["thing","low","high"] ["thing","low","high"] (defScope zq15):=⟨rfl,rfl,rfl,by decide +kernel,rfl,by decide +kernel,by decide +kernel⟩
theorem zqc5:Vis (defScope zq15) "high":=Or.inl (by kernel_rfl)
theorem zqcv:Vis (defScope zq15) "low":=Or.inl (by kernel_rfl)
theorem zq6q:Vis (defScope zq15) "thing":=Or.inl (by kernel_rfl)
theorem zq96:(defScope zq15).names.lookup ("is_whole":Str)=some NameKind.globalImplicit:=by kernel_rfl
def zqex {cdv:Value}{A:Around}{outer:List Env}{s:Shared}{H:Hp}{E:XK}(B:Bl mg)(zq54:Def P w K mg base 1 "is_whole" ["thing"] zq5w)(hr:Room 1 (A.deeper (PyProof.Rows.envOfC "is_within" (defScope zq15) s.heap.objs.size f cdv))) :
  { t:TS // QB (cxOf CX0 P w K mg base ["thing","low","high"] "is_within" (defScope zq15) f cdv A outer s H E).nox (defBody zq15) t } :=
 ⟨_,(qb_one (qs_ret (ke_and (K:=K) rfl (qe_def zq54 hr (by decide) zq96 (qa_cons (qv 0 rfl zq6q) qa_nil)) (qe_one (qe_chain opLe opLe (qv 1 rfl zqcv) (qv 0 rfl zq6q) (qv 2 rfl zqc5))))))⟩
def zq36:Sp:=λvs H Q _=>∃ i l u:Int,vs=[.int i,.int l,.int u]/\Q (.bl (decide (l<=i/\i<=u))) H
theorem zqee (B:Bl mg)(zq54:Def P w K mg base 1 "is_whole" ["thing"] zq5w)(F:Fun K "is_within" "is_within" zq15 f fd):FnOk P w K mg base CX0 2 f fd ["thing","low","high"] zq36:=by
 refine F.okq zqed (λvs H Q E h=>?_) (λcdv A outer s H vs Q E hr h=>?_)
 ·obtain⟨i,l,u,rfl,_⟩:=h;rfl
 obtain⟨i,l,u,rfl,q⟩:=h
 refine⟨zqex B zq54 hr,?_⟩
 refine⟨i,rfl,bT (dec2 (λc=>?_) (λc=>?_))⟩
 ·have e:decide (l<=i/\i<=u)=decide (i<=u):=by simp[c]
  rw[e] at q;exact q
 ·have e:decide (l<=i/\i<=u)=false:=by simp[c]
  rw[e] at q;exact q
abbrev zqx:Stmt:=top 7
theorem zqdu:FnScope ["row","many"] ["row","many"] (defScope zqx):=⟨rfl,rfl,rfl,by decide +kernel,rfl,by decide +kernel,by decide +kernel⟩
theorem zqbc:Vis (defScope zqx) "many":=Or.inl (by kernel_rfl)
theorem zqc6:Vis (defScope zqx) "row":=Or.inl (by kernel_rfl)
theorem zq81:(defScope zqx).names.lookup ("is_within":Str)=some NameKind.globalImplicit:=by kernel_rfl
theorem zqc7:(defScope zqx).names.lookup ("len":Str)=some NameKind.globalImplicit:=by kernel_rfl
def zqef {cdv:Value}{A:Around}{outer:List Env}{s:Shared}{H:Hp}{E:XK}(B:Bl mg)(zq1s:Def P w K mg base 2 "is_within" ["thing","low","high"] zq36)(hr:Room 2 (A.deeper (PyProof.Rows.envOfC "check_many" (defScope zqx) s.heap.objs.size f cdv))) :
  { t:TS // QB (cxOf CX0 P w K mg base ["row","many"] "check_many" (defScope zqx) f cdv A outer s H E).nox (defBody zqx) t } :=
 ⟨_,(qb_one (qs_if (qt_not (kt_val (K:=K) rfl (qe_def zq1s hr (by decide) zq81 (qa_cons (qv 1 rfl zqbc) (qa_cons qe_int (qa_cons (qe_cB (kLen (K:=K) rfl) zqc7 B.len boot_len' (qa_cons (qv 0 rfl zqc6) qa_nil)) qa_nil)))))) (qb_one qs_never) qb_nil))⟩
def zqn:Sp:=λvs H Q _=>∃ (r:Addr) (m:Int) (xs:List V),vs=[.ref r,.int m]/\H r=some (.lst xs)/\1<=m/\m<=xs.length/\Q .non H
theorem zqdv (B:Bl mg)(zq1s:Def P w K mg base 2 "is_within" ["thing","low","high"] zq36)(F:Fun K "check_many" "check_many" zqx f fd):FnOk P w K mg base CX0 3 f fd ["row","many"] zqn:=by
 refine F.okq zqdu (λvs H Q E h=>?_) (λcdv A outer s H vs Q E hr h=>?_)
 ·obtain⟨r,m,xs,rfl,_⟩:=h;rfl
 obtain⟨r,m,xs,rfl,hr0,h1,h2,q⟩:=h
 refine⟨zqef B zq1s hr,?_⟩
 refine i_lenL hr0 ⟨m,1,_,rfl,?_⟩
 have e:decide ((1:Int)<=m/\m<=(xs.length:Int))=true:=decide_eq_true ⟨h1,h2⟩
 rw[e]
 exact bF q
structure LL (H:Hp)(p:Addr)(ps:List Addr)(pss:List (List Int)):Prop where
 at_:H p=some (.lst (ps.map V.ref))
 nd:ps.Nodup
 np:p∉ps
 it:Paired (λa ns=>H a=some (.lst (List.map V.int ns))) ps pss
theorem pair_imp {α β:Type}{F G:α->β->Prop}:∀ {l:List α} {m:List β},Paired F l m->(∀ a∈l,∀ b,F a b->G a b)->Paired G l m
 | _,_,.nil,_=>.nil
 | _,_,.cons r t,f=>.cons (f _ List.mem_cons_self _ r) (pair_imp t λa ha=>f a (List.mem_cons_of_mem _ ha))
theorem pair_snoc {α β:Type}{F:α->β->Prop}{a:α}{b:β}(h:F a b):∀ {l:List α} {m:List β},Paired F l m->Paired F (l++[a]) (m++[b])
 | _,_,.nil=>.cons h .nil
 | _,_,.cons r t=>.cons r (pair_snoc h t)
theorem pair_some {α β:Type}{F:α->β->Prop}:∀ {l:List α} {m:List β},Paired F l m->∀ {a:α},a∈l->∃ b,F a b
 | _,_,.cons r t,a,h=>by
  rcases List.mem_cons.mp h with rfl | h
  ·exact⟨_,r⟩
  ·exact pair_some t h
section
variable {H H':Hp}{p:Addr}{ps S:List Addr}{pss:List (List Int)}
theorem LL.same (s:Same H H')(h:LL H p ps pss):LL H' p ps pss:=⟨s _ _ h.at_,h.nd,h.np,pair_imp h.it λa ha b e=>s _ _ e⟩
theorem LL.len (h:LL H p ps pss):ps.length=pss.length:=Paired.length h.it
end
abbrev zs (cs:List Nat):List Int:=cs.map λ(n:Nat)=>(n:Int)
theorem ref_at {as:List Addr}{i:Nat}{x:V}(h:(as.map V.ref)[i]?=some x):∃ b,as[i]?=some b/\x=.ref b:=by
 rw[List.getElem?_map] at h
 cases e:as[i]? with
 | none=>rw[e] at h;cases h
 | some b=>rw[e] at h;cases h;exact⟨b,rfl,rfl⟩
theorem pair_get {α β:Type}{F:α->β->Prop}{l:List α}{m:List β}(h:Paired F l m){i:Nat}{a:α}(ha:l[i]?=some a):∃ b,m[i]?=some b/\F a b:=by
 have hl:=Paired.length h
 have hi:=(List.getElem?_eq_some_iff.mp ha).1
 have hi2:i<m.length:=by omega
 exact⟨m[i],List.getElem?_eq_getElem hi2,paired_at h i ha (List.getElem?_eq_getElem hi2)⟩
theorem map_ref_at {ps:List Addr}{i:Nat}{a:Addr}(h:ps[i]?=some a):(ps.map V.ref)[i]?=some (.ref a):=by rw[List.getElem?_map,h];rfl
abbrev zqu:Stmt:=top 12
theorem zq6h:FnScope ["row","sums","number"] ["row"] (defScope zqu):=⟨rfl,rfl,rfl,by decide +kernel,rfl,by decide +kernel,by decide +kernel⟩
theorem zq9v:Loc (defScope zqu) "number":=Or.inl (by kernel_rfl)
theorem zqbd:Loc (defScope zqu) "sums":=Or.inl (by kernel_rfl)
theorem zq9w:Vis (defScope zqu) "number":=Or.inl (by kernel_rfl)
theorem zqc8:Vis (defScope zqu) "row":=Or.inl (by kernel_rfl)
theorem zq47:Vis (defScope zqu) "sums":=Or.inl (by kernel_rfl)
def zqeg {cdv:Value}{A:Around}{outer:List Env}{s:Shared}{H:Hp}{E:XK}(B:Bl mg)(hr:Room 0 (A.deeper (PyProof.Rows.envOfC "sums_ahead" (defScope zqu) s.heap.objs.size f cdv))) :
  { t:TS // QB (cxOf CX0 P w K mg base ["row","sums","number"] "sums_ahead" (defScope zqu) f cdv A outer s H E).nox (defBody zqu) t } :=
 ⟨_,(qb_cons (qs_set (i:=1) zq6h.nd rfl zqbd (.inl rfl) (qe_lst (qa_cons qe_int qa_nil)))
  (qb_mid (qs_for PassesOwn.never rfl (ki_list (K:=K) rfl (qv 0 rfl zqc8)) (qg_name (i:=2) zq6h.nd rfl zq9v (.inl rfl)) (qb_one (qs_ex (ke_m1 (K:=K) rfl PySem.F.plainAttrs_list PySem.F.slot_list_append PySem.F.type_list_append mtApp (qv 1 rfl zq47) (qe_op opAdd (ke_ix (K:=K) rfl (qv 1 rfl zq47) (qe_un unNeg qe_int) (λ_ _=>rfl)) (qv 2 rfl zq9w))))))
  (qb_one (qs_ret (qv 1 rfl zq47)))))⟩
open M25 in
def zq1b:Sp:=λvs H Q _=>∃ (r:Addr) (ns:List Int),vs=[.ref r]/\H r=some (.lst (ns.map V.int))/\ns.length<=1000/\∀ (p:Addr) (H':Hp),H p=none->Same H H'->H' p=some (.lst ((pre ns (ns.length+1)).map V.int))->Q (.ref p) H'
open M25 in
theorem pre_map (ns:List Int)(k:Nat):(pre ns (k+1)).map V.int=(pre ns k).map V.int++[V.int (S ns k)]:=by rw[pre_succ,List.map_append];rfl
open M25 in
theorem i_pre {K:W.Frag}{H:Hp}{a:Addr}{ns:List Int}{N:Nat}{i:Int}{Q:VK}(k:Nat)(h:H a=some (.lst ((pre ns N).map V.int)))(hi:i=k)(hk:k<N)(q:Q (.int (S ns k)) H):hIx K a i H Q :=
 i_ixN k h hi (by rw[List.getElem?_map,pre_at hk];rfl) q
open M25 in
theorem zqdw (B:Bl mg)(F:Fun K "sums_ahead" "sums_ahead" zqu f fd):FnOk P w K mg base CX0 1 f fd ["row"] zq1b:=by
 refine F.okq zq6h (λvs H Q E h=>?_) (λcdv A outer s H vs Q E hr h=>?_)
 ·obtain⟨r,ns,rfl,_⟩:=h;rfl
 obtain⟨r,ns,rfl,hr0,hle,q⟩:=h
 refine⟨zqeg B  hr,?_⟩
 refine i_newL (by show 1<=sizeLine;decide) λp H1 hp s1 e1=>?_
 refine⟨λσ H'=>Same H H'/\H' p=some (.lst ((pre ns (ns.length+1)).map V.int))/\∃ o,σ=[some (.ref r),some (.ref p),o],?_,?_⟩
 ·refine⟨⟨_,SqL.of (s1 _ _ hr0)⟩,for_list (xs:=ns.map V.int) (λi σ H'=>Same H H'/\H' p=some (.lst ((pre ns (i+1)).map V.int))/\∃ o,σ=[some (.ref r),some (.ref p),o]) ?_ ?_ ?_ ?_⟩
  ·refine⟨s1,?_,_,rfl⟩
   rw[e1,pre_map,S_zero];rfl
  ·rintro i σ H' _ ⟨s',_⟩
   exact SqL.of (s' _ _ hr0)
  ·rintro i x σ H2 hx ⟨s2,e2,o,rfl⟩
   obtain⟨z,rfl,hz,_⟩:=vints_at hx
   have hi:i<ns.length:=(List.getElem?_eq_some_iff.mp hz).1
   have e2':=e2
   rw[pre_map] at e2'
   refine⟨i_tyL e2,i_ix (.inl (SqL.of e2')) (atI_last _ _) ?_⟩
   refine i_appI e2 (by rw[pre_len];omega) λH3 k3 e3=>?_
   refine⟨s2.new k3 hp,?_,_,rfl⟩
   rw[e3,pre_succ ns (i+1),S_succ hz]
  ·rintro σ H' ⟨s',e',o⟩
   rw[List.length_map] at e'
   exact⟨s',e',o⟩
 ·rintro σ H' ⟨s',e',o,rfl⟩
  exact q p H' hp s' e'
abbrev zq7:Stmt:=top 11
theorem zq1c:FnScope ["row","low","high","ahead","ranges","first","behind","begin"] ["row","low","high"] (defScope zq7):=⟨rfl,rfl,rfl,by decide +kernel,rfl,by decide +kernel,by decide +kernel⟩
theorem zqah:Loc (defScope zq7) "ahead":=Or.inl (by kernel_rfl)
theorem zqai:Loc (defScope zq7) "begin":=Or.inl (by kernel_rfl)
theorem zq3q:Loc (defScope zq7) "behind":=Or.inl (by kernel_rfl)
theorem zq3x:Loc (defScope zq7) "first":=Or.inl (by kernel_rfl)
theorem zq9x:Loc (defScope zq7) "ranges":=Or.inl (by kernel_rfl)
theorem zq2r:Vis (defScope zq7) "ahead":=Or.inl (by kernel_rfl)
theorem zq3y:Vis (defScope zq7) "begin":=Or.inl (by kernel_rfl)
theorem zq2k:Vis (defScope zq7) "behind":=Or.inl (by kernel_rfl)
theorem zq1z:Vis (defScope zq7) "first":=Or.inl (by kernel_rfl)
theorem zqbe:Vis (defScope zq7) "high":=Or.inl (by kernel_rfl)
theorem zqc9:Vis (defScope zq7) "low":=Or.inl (by kernel_rfl)
theorem zq5k:Vis (defScope zq7) "ranges":=Or.inl (by kernel_rfl)
theorem zq3d:Vis (defScope zq7) "row":=Or.inl (by kernel_rfl)
theorem zq4q:(defScope zq7).names.lookup ("len":Str)=some NameKind.globalImplicit:=by kernel_rfl
theorem zq7b:(defScope zq7).names.lookup ("max":Str)=some NameKind.globalImplicit:=by kernel_rfl
theorem zqaj:(defScope zq7).names.lookup ("range":Str)=some NameKind.globalImplicit:=by kernel_rfl
theorem zq7r:(defScope zq7).names.lookup ("sums_ahead":Str)=some NameKind.globalImplicit:=by kernel_rfl
def zqeh {cdv:Value}{A:Around}{outer:List Env}{s:Shared}{H:Hp}{E:XK}(B:Bl mg)(zqg:Def P w K mg base 1 "sums_ahead" ["row"] zq1b)(hr:Room 1 (A.deeper (PyProof.Rows.envOfC "end_ranges" (defScope zq7) s.heap.objs.size f cdv))) :
  { t:TS // QB (cxOf CX0 P w K mg base ["row","low","high","ahead","ranges","first","behind","begin"] "end_ranges" (defScope zq7) f cdv A outer s H E).nox (defBody zq7) t } :=
 ⟨_,(qb_cons (qs_set (i:=3) zq1c.nd rfl zqah (.inl rfl) (qe_def zqg hr (by decide) zq7r (qa_cons (qv 0 rfl zq3d) qa_nil)))
  (qb_cons (qs_set (i:=4) zq1c.nd rfl zq9x (.inl rfl) (qe_lst qa_nil))
  (qb_cons (qs_two qe_int (qg_name (i:=5) zq1c.nd rfl zq3x (.inl rfl)) (qg_name (i:=6) zq1c.nd rfl zq3q (.inl rfl)))
  (qb_mid (qs_for PassesOwn.never rfl (qi_r1 zqaj B.range (qa_cons (qe_cB (kLen (K:=K) rfl) zq4q B.len boot_len' (qa_cons (qv 0 rfl zq3d) qa_nil)) qa_nil)) (qg_name (i:=7) zq1c.nd rfl zqai (.inl rfl)) (qb_cons (qs_set (i:=5) zq1c.nd rfl zq3x (.inl rfl) (qe_cB (kMax (K:=K) rfl rfl) zq7b B.max boot_max' (qa_cons (qv 5 rfl zq1z) (qa_cons (qe_op opAdd (qv 7 rfl zq3y) qe_int) qa_nil))))
  (qb_mid (qs_while PassesOwn.never (QW.pt (qw_and (qt_cmp opLe (qv 5 rfl zq1z) (qe_cB (kLen (K:=K) rfl) zq4q B.len boot_len' (qa_cons (qv 0 rfl zq3d) qa_nil))) (qw_and1 (qt_cmp opLt (qe_op opSub (ke_ix (K:=K) rfl (qv 3 rfl zq2r) (qv 5 rfl zq1z) (λ_ _=>rfl)) (ke_ix (K:=K) rfl (qv 3 rfl zq2r) (qv 7 rfl zq3y) (λ_ _=>rfl))) (qv 1 rfl zqc9))))) (qb_one (qs_aug (i:=5) zq1c.nd rfl zq3x (.inl rfl) qe_int ipAdd)))
  (qb_cons (qs_set (i:=6) zq1c.nd rfl zq3q (.inl rfl) (qe_cB (kMax (K:=K) rfl rfl) zq7b B.max boot_max' (qa_cons (qv 6 rfl zq2k) (qa_cons (qv 5 rfl zq1z) qa_nil))))
  (qb_mid (qs_while PassesOwn.never (QW.pt (qw_and (qt_cmp opLe (qv 6 rfl zq2k) (qe_cB (kLen (K:=K) rfl) zq4q B.len boot_len' (qa_cons (qv 0 rfl zq3d) qa_nil))) (qw_and1 (qt_cmp opLe (qe_op opSub (ke_ix (K:=K) rfl (qv 3 rfl zq2r) (qv 6 rfl zq2k) (λ_ _=>rfl)) (ke_ix (K:=K) rfl (qv 3 rfl zq2r) (qv 7 rfl zq3y) (λ_ _=>rfl))) (qv 2 rfl zqbe))))) (qb_one (qs_aug (i:=6) zq1c.nd rfl zq3q (.inl rfl) qe_int ipAdd)))
  (qb_one (qs_ex (ke_m1 (K:=K) rfl PySem.F.plainAttrs_list PySem.F.slot_list_append PySem.F.type_list_append mtApp (qv 4 rfl zq5k) (qe_tup (qa_cons (qv 5 rfl zq1z) (qa_cons (qv 6 rfl zq2k) qa_nil)))))))))))
  (qb_one (qs_ret (qv 4 rfl zq5k)))))))⟩
structure PL (H:Hp)(p:Addr)(ps:List Addr)(rs:List (Nat×Nat)):Prop where
 at_:H p=some (.lst (ps.map V.ref))
 it:Paired (λa (r:Nat×Nat)=>H a=some (.tup [.int r.1,.int r.2])) ps rs
theorem PL.same {H H':Hp}{p:Addr}{ps:List Addr}{rs:List (Nat×Nat)}(h:PL H p ps rs)(s:Same H H'):PL H' p ps rs:=⟨s _ _ h.at_,pair_imp h.it λa ha b e=>s _ _ e⟩
theorem PL.add {H H3 H4:Hp}{p q:Addr}{ps:List Addr}{rs:List (Nat×Nat)}{f g:Nat}(h:PL H p ps rs)(s:Same H H3)(e3:H3 q=some (.tup [.int f,.int g]))(k:Kp [p] H3 H4)(e4:H4 p=some (.lst (ps.map V.ref++[.ref q]))):PL H4 p (ps++[q]) (rs++[(f,g)]):=by
 have hp3:=s _ _ h.at_
 have ne:∀ a xs,H3 a=some (.tup xs)->a≠p:=λa xs e z=>by rw[z,hp3] at e;cases e
 refine⟨by rw[e4,List.map_append];rfl,?_⟩
 exact pair_snoc (F:=λa (r:Nat×Nat)=>H4 a=some (.tup [.int r.1,.int r.2])) (b:=(f,g)) (k.one (ne _ _ e3) e3) (pair_imp h.it λa ha b e=>k.one (ne _ _ (s _ _ e)) (s _ _ e))
open M25 M14 in
def zq2n:Sp:=λvs H Q _=>∃ (r:Addr) (ns:List Int) (lo hi:Int),vs=[.ref r,.int lo,.int hi]/\H r=some (.lst (ns.map V.int))/\ns.length<=1000/\(∀ n∈ns,0<=n) /\
 ∀ (p:Addr) (ps:List Addr) (rs:List (Nat×Nat)) (H':Hp),H p=none->Same H H'->PL H' p ps rs->rs.length=ns.length->(∀ j f h,rs[j]?=some (f,h)->Rng ns lo hi j f h)->Q (.ref p) H'
open M25 M14 in
theorem zqdx (B:Bl mg)(zqg:Def P w K mg base 1 "sums_ahead" ["row"] zq1b)(F:Fun K "end_ranges" "end_ranges" zq7 f fd):FnOk P w K mg base CX0 2 f fd ["row","low","high"] zq2n:=by
 refine F.okq zq1c (λvs H Q E h=>?_) (λcdv A outer s H vs Q E hr h=>?_)
 ·obtain⟨r,ns,lo,hi,rfl,_⟩:=h;rfl
 obtain⟨r,ns,lo,hi,rfl,hr0,hle,hnn,q⟩:=h
 refine⟨zqeh B zqg hr,?_⟩
 refine⟨r,ns,rfl,hr0,hle,λah H1 hah s1 e1=>?_⟩
 refine i_newL (by show 0<=sizeLine;decide) λp H2 hp s2 e2=>?_
 have s02:=s1.trans s2
 have hp0:H p=none:=s1.free hp
 have nap:ah≠p:=ne_of_none e1 hp
 have mono:∀ {i j:Nat},i<=j->S ns i<=S ns j:=λh=>S_mono hnn h
 refine⟨λσ H'=>Same H H'/\(∃ ps rs,PL H' p ps rs/\rs.length=ns.length/\∀ j f h,rs[j]?=some (f,h)->Rng ns lo hi j f h)/\∃ o5 o6 o7,σ=[some (.ref r),some (.int lo),some (.int hi),some (.ref ah),some (.ref p),o5,o6,o7],?_,?_⟩
 ·refine i_lenI (s02 _ _ hr0) ⟨⟨by omega,by omega⟩,for_range (λi σ H'=>Same H H'/\H' ah=some (.lst ((pre ns (ns.length+1)).map V.int))/\(∃ ps rs,PL H' p ps rs/\rs.length=i/\∀ j f h,rs[j]?=some (f,h)->Rng ns lo hi j f h)/\∃ (fi be:Nat) (o7:Option V),fi<=ns.length+1/\be<=ns.length+1/\(∀ e,i<e->e<fi->S ns e-S ns i<lo)/\(∀ e,i<e->fi<=e->e<be->S ns e-S ns i<=hi)/\σ=[some (.ref r),some (.int lo),some (.int hi),some (.ref ah),some (.ref p),some (.int fi),some (.int be),o7]) ?_ ?_ ?_⟩
  ·exact⟨s02,s2 _ _ e1,⟨[],[],⟨e2,.nil⟩,rfl,by simp⟩,1,1,_,by omega,by omega,λe h1 h2=>by omega,λe h1 h2 h3=>by omega,rfl⟩
  ·rintro i σ H3 hi' ⟨s3,eah,⟨ps,rs,pl,hrl,hrs⟩,fi,be,o7,fi1,be1,cf,cb,rfl⟩
   have hi'':i<ns.length:=by omega
   have er3:=s3 _ _ hr0
   refine⟨λσ H'=>H'=H3/\∃ f:Nat,fi<=f/\i+1<=f/\f<=ns.length+1/\(∀ e,i<e->e<f->S ns e-S ns i<lo)/\(f<=ns.length->lo<=S ns f-S ns i)/\σ=[some (.ref r),some (.int lo),some (.int hi),some (.ref ah),some (.ref p),some (.int f),some (.int be),some (.int (0+(i:Int)))],?_,?_⟩
   ·have e0:max (fi:Int) (0+(i:Int)+1)=((max fi (i+1):Nat):Int):=by omega
    refine while_m (λmm σ H'=>H'=H3/\∃ f:Nat,mm=ns.length+1-f/\fi<=f/\i+1<=f/\f<=ns.length+1/\(∀ e,i<e->e<f->S ns e-S ns i<lo)/\σ=[some (.ref r),some (.int lo),some (.int hi),some (.ref ah),some (.ref p),some (.int f),some (.int be),some (.int (0+(i:Int)))]) (ns.length+1-max fi (i+1)) ⟨rfl,max fi (i+1),rfl,by omega,by omega,by omega,λe h1 h2=>cf e h1 (by omega),by rw[e0];rfl⟩ ?_
    rintro mm σ H' ⟨rfl,f,hmm,h1,h2,h3,h4,rfl⟩
    refine i_lenI er3 (dec2 (λc=>?_) (λc=>bF ?_))
    ·refine i_pre f eah rfl (by omega) (i_pre i eah (by omega) (by omega) (dec2 (λc2=>?_) (λc2=>?_)))
     ·refine⟨ns.length+1-(f+1),by omega,rfl,f+1,rfl,by omega,by omega,by omega,λe g1 g2=>?_,rfl⟩
      by_cases z:e=f
      ·subst z;exact c2
      ·exact h4 e g1 (by omega)
     ·exact⟨rfl,f,h1,h2,h3,h4,λ_=>by omega,rfl⟩
    ·exact⟨rfl,f,h1,h2,h3,h4,λz=>by omega,rfl⟩
   rintro σ H' ⟨rfl,f,f0,f1,f2,cf',fge,rfl⟩
   have e1':max (be:Int) (f:Int)=((max be f:Nat):Int):=by omega
   refine⟨λσ H4=>H4=H'/\∃ g:Nat,f<=g/\g<=ns.length+1/\(∀ e,i<e->f<=e->e<g->S ns e-S ns i<=hi)/\(g<=ns.length->hi<S ns g-S ns i)/\σ=[some (.ref r),some (.int lo),some (.int hi),some (.ref ah),some (.ref p),some (.int f),some (.int g),some (.int (0+(i:Int)))],?_,?_⟩
   ·refine while_m (λmm σ H4=>H4=H'/\∃ g:Nat,mm=ns.length+1-g/\f<=g/\g<=ns.length+1/\(∀ e,i<e->f<=e->e<g->S ns e-S ns i<=hi)/\σ=[some (.ref r),some (.int lo),some (.int hi),some (.ref ah),some (.ref p),some (.int f),some (.int g),some (.int (0+(i:Int)))]) (ns.length+1-max be f) ⟨rfl,max be f,rfl,by omega,by omega,λe h1 h2 h3=>cb e h1 (by omega) (by omega),by rw[e1'];rfl⟩ ?_
    rintro mm σ H4 ⟨rfl,g,hmm,h1,h2,h3,rfl⟩
    refine i_lenI er3 (dec2 (λc=>?_) (λc=>bF ?_))
    ·refine i_pre g eah rfl (by omega) (i_pre i eah (by omega) (by omega) (dec2 (λc2=>?_) (λc2=>?_)))
     ·refine⟨ns.length+1-(g+1),by omega,rfl,g+1,rfl,by omega,by omega,λe g1 g2 g3=>?_,rfl⟩
      by_cases z:e=g
      ·subst z;exact c2
      ·exact h3 e g1 g2 (by omega)
     ·exact⟨rfl,g,h1,h2,h3,λ_=>by omega,rfl⟩
    ·exact⟨rfl,g,h1,h2,h3,λz=>by omega,rfl⟩
   rintro σ H4 ⟨rfl,g,g0,g1,cb',ggt,rfl⟩
   have hpl:=Paired.length pl.it
   refine⟨i_tyL pl.at_,i_newT (by show 2<=sizeLine;decide) λtu H5 htu s5 e5=>i_app (s5 _ _ pl.at_) (sz_lt (by rw[List.length_map];omega)) λH6 k6 e6=>?_⟩
   refine⟨(s3.trans s5).new k6 hp0,k6.one nap (s5 _ _ eah),⟨_,_,pl.add s5 e5 k6 e6,by simp[hrl],λj f' h' hj=>?_⟩,f,g,_,f2,g1,λe h1 h2=>?_,λe h1 h2 h3=>?_,rfl⟩
   ·by_cases hjr:j<rs.length
    ·rw[List.getElem?_append_left hjr] at hj;exact hrs j f' h' hj
    ·rw[List.getElem?_append_right (by omega)] at hj
     have hj0:j-rs.length=0:=by
      by_cases h0:j-rs.length=0
      ·exact h0
      ·rw[List.getElem?_eq_none (by simp;omega)] at hj;cases hj
     rw[hj0] at hj
     simp only[List.getElem?_cons_zero,Option.some.injEq,Prod.mk.injEq] at hj
     obtain⟨rfl,rfl⟩:=hj
     have ej:j=i:=by omega
     subst ej
     refine⟨f1,g0,g1,λe h1 h2=>⟨λ⟨a1,a2⟩=>⟨?_,cb' e h1 a1 a2⟩,λ⟨a1,a2⟩=>⟨?_,?_⟩⟩⟩
     ·have:=fge (by omega);have:=mono a1;omega
     ·rcases Nat.lt_or_ge e f with z | z
      ·have:=cf' e h1 z;omega
      ·exact z
     ·rcases Nat.lt_or_ge e g with z | z
      ·exact z
      ·have:=ggt (by omega);have:=mono z;omega
   ·have:=cf' e (by omega) h2;have:=mono (show i<=i+1 by omega);omega
   ·have:=cb' e (by omega) h2 h3;have:=mono (show i<=i+1 by omega);omega
  ·rintro σ H' ⟨h1,_,⟨ps,rs,h2,h3,h4⟩,fi,be,o7,_,_,_,_,rfl⟩
   exact⟨h1,⟨ps,rs,h2,by omega,h4⟩,_,_,_,rfl⟩
 ·rintro σ H' ⟨h1,⟨ps,rs,h2,h3,h4⟩,o5,o6,o7,rfl⟩
  exact q p ps rs H' hp0 h1 h2 h3 h4
end
end K
namespace K
open PySem L2
section
variable {C:Addr}{P:Program}{w:World}{K:W.Frag}{mg:Str->Option Value}{base:Heap}{f:Addr}{fd:FuncData}
theorem LL.add {H H3 H4:Hp}{p q:Addr}{ps:List Addr}{pss:List (List Int)}{l:List Int}(h:LL H p ps pss)(hq:H q=none)(s:Same H H3)(e3:H3 q=some (.lst (l.map V.int)))(k:Kp [p] H3 H4)(e4:H4 p=some (.lst (ps.map V.ref++[.ref q]))):LL H4 p (ps++[q]) (pss++[l]):=by
 have hqp:q≠p:=(ne_of_none h.at_ hq).symm
 have hqn:q∉ps:=λhm=>by
  obtain⟨b,e⟩:=pair_some h.it hm
  rw[hq] at e;cases e
 refine⟨by rw[e4,List.map_append];rfl,?_,?_,?_⟩
 ·exact List.nodup_append.mpr ⟨h.nd,by simp,λa ha b hb=>by
   have:b=q:=by simpa using hb
   subst this;exact λz=>hqn (z▸ha)⟩
 ·intro hm
  rcases List.mem_append.mp hm with hm | hm
  ·exact h.np hm
  ·exact hqp (by simpa using hm:p=q).symm
 ·exact pair_snoc (F:=λa ns=>H4 a=some (.lst (List.map V.int ns))) (b:=l) (k.one hqp e3) (pair_imp h.it λa ha b e=>k.one (λz=>h.np (z▸ha)) (s _ _ e))
abbrev zqm:Stmt:=top 13
theorem zq4n:FnScope ["ranges","many","ways","left","fewer"] ["ranges","many"] (defScope zqm):=⟨rfl,rfl,rfl,by decide +kernel,rfl,by decide +kernel,by decide +kernel⟩
theorem zqak:Loc (defScope zqm) "fewer":=Or.inr (by kernel_rfl)
theorem zqbf:Loc (defScope zqm) "left":=Or.inl (by kernel_rfl)
theorem zqbg:Loc (defScope zqm) "ways":=Or.inl (by kernel_rfl)
theorem zqbh:Vis (defScope zqm) "left":=Or.inl (by kernel_rfl)
theorem zqbi:Vis (defScope zqm) "many":=Or.inl (by kernel_rfl)
theorem zq5l:Vis (defScope zqm) "ranges":=Or.inl (by kernel_rfl)
theorem zq48:Vis (defScope zqm) "ways":=Or.inl (by kernel_rfl)
theorem zqca:(defScope zqm).names.lookup ("len":Str)=some NameKind.globalImplicit:=by kernel_rfl
theorem zqal:(defScope zqm).names.lookup ("range":Str)=some NameKind.globalImplicit:=by kernel_rfl
def zqei {cdv:Value}{A:Around}{outer:List Env}{s:Shared}{H:Hp}{E:XK}(B:Bl mg)(hr:Room 0 (A.deeper (PyProof.Rows.envOfC "count_ways" (defScope zqm) s.heap.objs.size f cdv))) :
  { t:TS // QB (cxOf CX0 P w K mg base ["ranges","many","ways","left","fewer"] "count_ways" (defScope zqm) f cdv A outer s H E).nox (defBody zqm) t } :=
 ⟨_,(qb_cons (qs_set (i:=2) zq4n.nd rfl zqbg (.inl rfl) (qe_lst (qa_cons (qe_op opAdd (qe_op opMul (qe_lst (qa_cons qe_int qa_nil)) (qe_cB (kLen (K:=K) rfl) zqca B.len boot_len' (qa_cons (qv 0 rfl zq5l) qa_nil))) (qe_lst (qa_cons qe_int qa_nil))) qa_nil)))
  (qb_mid (qs_for PassesOwn.never rfl (qi_r1 zqal B.range (qa_cons (qv 1 rfl zqbi) qa_nil)) (qg_name (i:=3) zq4n.nd rfl zqbf (.inl rfl)) (qb_cons (qs_set (i:=4) zq4n.nd rfl zqak (.inl rfl) (ke_ix (K:=K) rfl (qv 2 rfl zq48) (qv 3 rfl zqbh) (λ_ _=>rfl)))
  (qb_one (qs_ex (ke_m1 (K:=K) rfl PySem.F.plainAttrs_list PySem.F.slot_list_append PySem.F.type_list_append mtApp (qv 2 rfl zq48) (qe_op opAdd (qe_cp ["first","behind","fewer"] [none,none,some 4] rfl (ki_list (K:=K) rfl (qv 0 rfl zq5l)) (λ_ _ _ _ _ _=>(kg_tup (K:=K) rfl rfl (qgs_cons (qg_name (i:=0) (show (["first","behind","fewer"]:List Str).Nodup by decide +kernel) rfl (by first | exact Or.inl rfl | exact Or.inr rfl) (by first | exact .inl rfl | exact .inr rfl)) (qgs_cons (qg_name (i:=1) (show (["first","behind","fewer"]:List Str).Nodup by decide +kernel) rfl (by first | exact Or.inl rfl | exact Or.inr rfl) (by first | exact .inl rfl | exact .inr rfl)) qgs_nil)))) (λ_ _ _ _ _ _=>qif_nil) (λ_ _ _ _ _ _=>(qe_cB (kSum (K:=K) rfl rfl) rfl B.sum boot_sum' (qa_cons (ke_slice (K:=K) rfl (qv 2 rfl (by first | exact Or.inl rfl | exact Or.inr (Or.inl rfl) | exact Or.inr (Or.inr rfl))) (qo_some (qv 0 rfl (by first | exact Or.inl rfl | exact Or.inr (Or.inl rfl) | exact Or.inr (Or.inr rfl)))) (qo_some (qv 1 rfl (by first | exact Or.inl rfl | exact Or.inr (Or.inl rfl) | exact Or.inr (Or.inr rfl))))) qa_nil)))) (qe_lst (qa_cons qe_int qa_nil))))))))
  (qb_one (qs_ret (qv 2 rfl zq48)))))⟩
open M25 M14 in
def zq2o:Sp:=λvs H Q _=>∃ (g:Addr) (ps:List Addr) (rs:List (Nat×Nat)) (ns:List Int) (lo hi:Int) (m:Nat),vs=[.ref g,.int m]/\PL H g ps rs/\rs.length=ns.length/\(∀ j f h,rs[j]?=some (f,h)->Rng ns lo hi j f h)/\ns.length<=900/\m<=1000 /\
 ∀ (p:Addr) (qs:List Addr) (pss:List (List Int)) (H':Hp),H p=none->Same H H'->LL H' p qs pss->pss.length=m+1->(∀ k l,pss[k]?=some l->l=row (cnt ns lo hi k) (ns.length+1))->Q (.ref p) H'
open M25 M14 in
theorem zqdy (B:Bl mg)(F:Fun K "count_ways" "count_ways" zqm f fd):FnOk P w K mg base CX0 1 f fd ["ranges","many"] zq2o:=by
 refine F.okq zq4n (λvs H Q E h=>?_) (λcdv A outer s H vs Q E hr h=>?_)
 ·obtain⟨g,ps,rs,ns,lo,hi,m,rfl,_⟩:=h;rfl
 obtain⟨g,ps,rs,ns,lo,hi,m,rfl,pl,hrl,hrs,hle,hm,q⟩:=h
 refine⟨zqei B  hr,?_⟩
 have hpl:=Paired.length pl.it
 refine i_newL (by show 1<=sizeLine;decide) λp1 H1 hp1 s1 e1=>?_
 refine i_lenL (s1 _ _ pl.at_) (i_rep1 (z:=0) e1 (by omega) (by rw[List.length_map];omega) λp2 H2 hp2 s2 e2=>?_)
 refine i_newL (by show 1<=sizeLine;decide) λp3 H3 hp3 s3 e3=>?_
 refine i_cat (s3 _ _ e2) e3 (sz_of (by simp;omega)) λp4 H4 hp4 s4 e4=>?_
 have e4':H4 p4=some (.lst ((row (cnt ns lo hi 0) (ns.length+1)).map V.int)):=by
  have:row (cnt ns lo hi 0) (ns.length+1)=List.replicate ns.length 0++[1]:=cnt_zero
  rw[e4,this,List.map_append,List.length_map,hpl,hrl];rfl
 refine i_newL (by show 1<=sizeLine;decide) λwy H5 hwy s5 e5=>?_
 have s04:=s1.trans (s2.trans (s3.trans s4))
 have s05:=s04.trans s5
 have hwy0:H wy=none:=s04.free hwy
 have ll0:LL H5 wy [p4] [row (cnt ns lo hi 0) (ns.length+1)]:=by
  refine⟨e5,by simp,?_,.cons (s5 _ _ e4') .nil⟩
  have:=ne_of_none e4 hwy
  simpa using this.symm
 refine⟨λσ H'=>(∃ qs pss,Same H H'/\LL H' wy qs pss/\pss.length=m+1/\∀ k l,pss[k]?=some l->l=row (cnt ns lo hi k) (ns.length+1))/\∃ o3 o4,σ=[some (.ref g),some (.int m),some (.ref wy),o3,o4],?_,?_⟩
 ·refine⟨⟨by omega,by omega⟩,for_range (λi σ H'=>(∃ qs pss,Same H H'/\LL H' wy qs pss/\pss.length=i+1/\∀ k l,pss[k]?=some l->l=row (cnt ns lo hi k) (ns.length+1))/\∃ o3 o4,σ=[some (.ref g),some (.int m),some (.ref wy),o3,o4]) ?_ ?_ ?_⟩
  ·refine⟨⟨_,_,s05,ll0,rfl,λk l e=>?_⟩,_,_,rfl⟩
   match k,e with
   | 0,e=>simp at e;exact e.symm
   | k+1,e=>simp at e
  ·rintro i σ H6 hi' ⟨⟨qs,pss,s6,ll,hpp,hok⟩,o3,o4,rfl⟩
   have hi'':i<m:=by omega
   have hql:=ll.len
   have hx:qs[i]?=some (qs[i]'(by omega)):=List.getElem?_eq_getElem (by omega)
   obtain⟨fw,hfw,efw⟩:=pair_get ll.it hx
   generalize qs[i]'(by omega)=fa at hx efw
   have hfe:=hok i fw hfw
   subst hfe
   refine i_ixN i ll.at_ (by omega) (map_ref_at hx) ?_
   have pl6:=pl.same s6
   refine⟨i_tyL ll.at_,⟨_,SqL.of pl6.at_⟩,comp_lst (ps.map V.ref) (λb D σ H' ys=>ys=(row (cnt ns lo hi (i+1)) b).map V.int/\Same H6 H'/\∃ o1 o2,σ=[o1,o2,some (.ref fa)]) ?_ ?_ ?_ ?_⟩
   ·intro D H' hD s' e'
    exact⟨rfl,s',_,_,rfl⟩
   ·rintro b D σ H' ys hD ⟨_,s',_⟩
    exact SqL.of (s' _ _ pl6.at_)
   ·rintro b x D σ H' ys hx' hD ⟨rfl,s',o1,o2,rfl⟩ eD
    obtain⟨a,ha,rfl⟩:=ref_at hx'
    obtain⟨⟨f,h⟩,hfh,ea⟩:=pair_get pl6.it ha
    have rg:=hrs b f h hfh
    have hb:b<ns.length:=by have:=(List.getElem?_eq_some_iff.mp hfh).1;omega
    have r1:=rg.fh
    have r2:=rg.hn
    refine i_unp (s' _ _ ea) rfl (bT (i_sl (SqL.of (s' _ _ efw)) λsl H8 hsl s8 e8=>?_))
    have e8':H8 sl=some (.lst ((((row (cnt ns lo hi i) (ns.length+1)).drop f).take (h-f)).map V.int)):=by
     rw[e8,cutV_ints,HT.sIx_nat,HT.sIx_nat,row_len,Nat.min_eq_left (by omega),Nat.min_eq_left (by omega)]
    refine i_sum (SqL.of e8') ?_
    have es:(((row (cnt ns lo hi i) (ns.length+1)).drop f).take (h-f)).sum=cnt ns lo hi (i+1) b:=cnt_step hb rg
    rw[es]
    refine⟨s8 _ _ eD,sz_lt (by rw[List.length_map,row_len];omega),λH9 k9 e9=>⟨?_,(s'.trans s8).new k9 hD,_,_,rfl⟩⟩
    unfold row
    rw[List.range_succ,List.map_append,List.map_append];rfl
   ·rintro D σ H7 ys hD ⟨rfl,s7,_⟩ eD
    rw[List.length_map,hpl,hrl] at eD
    refine i_newL (by show 1<=sizeLine;decide) λz1 H8 hz1 s8 e8=>?_
    refine i_cat (s8 _ _ eD) e8 (sz_of (by rw[List.length_map,row_len];simp;omega)) λnw H9 hnw s9 e9=>?_
    have s69:=s7.trans (s8.trans s9)
    have e9':H9 nw=some (.lst ((row (cnt ns lo hi (i+1)) (ns.length+1)).map V.int)):=by
     rw[e9];unfold row;rw[List.range_succ,List.map_append,List.map_append,List.map_singleton,List.map_singleton,cnt_end]
    refine i_app (s69 _ _ ll.at_) (sz_lt (by rw[List.length_map];omega)) λH10 k10 e10=>?_
    refine⟨⟨_,_,(s6.trans s69).new k10 hwy0,ll.add (s7.free (s8.free hnw)) s69 e9' k10 e10,by simp[hpp],λk l e=>?_⟩,_,_,rfl⟩
    by_cases hk:k<i+1
    ·rw[List.getElem?_append_left (by omega)] at e;exact hok k l e
    ·rw[List.getElem?_append_right (by omega)] at e
     by_cases hk2:k=i+1
     ·subst hk2
      rw[hpp,Nat.sub_self] at e;simp at e;exact e.symm
     ·rw[List.getElem?_eq_none (by simp;omega)] at e;cases e
  ·rintro σ H' ⟨⟨qs,pss,h1,h2,h3,h4⟩,o⟩
   exact⟨⟨qs,pss,h1,h2,by omega,h4⟩,o⟩
 ·rintro σ H' ⟨⟨qs,pss,h1,h2,h3,h4⟩,o3,o4,rfl⟩
  exact q wy qs pss H' hwy0 h1 h2 h3 h4
abbrev zqk:Stmt:=top 9
theorem zqcw:FnScope ["row","many","low","high"] ["row","many","low","high"] (defScope zqk):=⟨rfl,rfl,rfl,by decide +kernel,rfl,by decide +kernel,by decide +kernel⟩
theorem zq9y:Vis (defScope zqk) "high":=Or.inl (by kernel_rfl)
theorem zqam:Vis (defScope zqk) "low":=Or.inl (by kernel_rfl)
theorem zq3r:Vis (defScope zqk) "many":=Or.inl (by kernel_rfl)
theorem zq61:Vis (defScope zqk) "row":=Or.inl (by kernel_rfl)
theorem zq70:(defScope zqk).names.lookup ("check_many":Str)=some NameKind.globalImplicit:=by kernel_rfl
theorem zq71:(defScope zqk).names.lookup ("count_ways":Str)=some NameKind.globalImplicit:=by kernel_rfl
theorem zq72:(defScope zqk).names.lookup ("end_ranges":Str)=some NameKind.globalImplicit:=by kernel_rfl
def zqdc {cdv:Value}{A:Around}{outer:List Env}{s:Shared}{H:Hp}{E:XK}(B:Bl mg)(zq1:Def P w K mg base 3 "check_many" ["row","many"] zqn)(zq1m:Def P w K mg base 1 "count_ways" ["ranges","many"] zq2o)(zq1n:Def P w K mg base 2 "end_ranges" ["row","low","high"] zq2n)(hr:Room 3 (A.deeper (PyProof.Rows.envOfC "cuts_between" (defScope zqk) s.heap.objs.size f cdv))) :
  { t:TS // QB (cxOf CX0 P w K mg base ["row","many","low","high"] "cuts_between" (defScope zqk) f cdv A outer s H E).nox (defBody zqk) t } :=
 ⟨_,(qb_cons (qs_ex (qe_def zq1 hr (by decide) zq70 (qa_cons (qv 0 rfl zq61) (qa_cons (qv 1 rfl zq3r) qa_nil))))
  (qb_one (qs_ret (ke_ix (K:=K) rfl (ke_ix (K:=K) rfl (qe_def zq1m hr (by decide) zq71 (qa_cons (qe_def zq1n hr (by decide) zq72 (qa_cons (qv 0 rfl zq61) (qa_cons (qv 2 rfl zqam) (qa_cons (qv 3 rfl zq9y) qa_nil)))) (qa_cons (qv 1 rfl zq3r) qa_nil))) (qv 1 rfl zq3r) (λ_ _=>rfl)) qe_int (λ_ _=>rfl)))))⟩
open M25 M14 in
def zq3s:Sp:=λvs H Q _=>∃ (r:Addr) (ns:List Int) (m:Nat) (lo hi:Int),vs=[.ref r,.int m,.int lo,.int hi]/\H r=some (.lst (ns.map V.int))/\ns.length<=900/\(∀ n∈ns,0<=n)/\1<=m/\m<=ns.length/\∀ H',Same H H'->Q (.int (cnt ns lo hi m 0)) H'
open M25 M14 in
theorem zqcx (B:Bl mg)(zq1:Def P w K mg base 3 "check_many" ["row","many"] zqn)(zq1m:Def P w K mg base 1 "count_ways" ["ranges","many"] zq2o)(zq1n:Def P w K mg base 2 "end_ranges" ["row","low","high"] zq2n)(F:Fun K "cuts_between" "cuts_between" zqk f fd):FnOk P w K mg base CX0 4 f fd ["row","many","low","high"] zq3s:=by
 refine F.okq zqcw (λvs H Q E h=>?_) (λcdv A outer s H vs Q E hr h=>?_)
 ·obtain⟨r,ns,m,lo,hi,rfl,_⟩:=h;rfl
 obtain⟨r,ns,m,lo,hi,rfl,hr0,hle,hnn,m1,m2,q⟩:=h
 refine⟨zqdc B zq1 zq1m zq1n hr,?_⟩
 refine⟨r,m,_,rfl,hr0,by omega,by rw[List.length_map];omega,?_⟩
 refine⟨r,ns,lo,hi,rfl,hr0,by omega,hnn,λp ps rs H1 hp s1 pl hrl hrs=>?_⟩
 refine⟨p,ps,rs,ns,lo,hi,m,rfl,pl,hrl,hrs,hle,by omega,λw qs pss H2 hw s2 ll hpl hok=>?_⟩
 have hql:=ll.len
 have hx:qs[m]?=some (qs[m]'(by omega)):=List.getElem?_eq_getElem (by omega)
 obtain⟨l,hl,el⟩:=pair_get ll.it hx
 have hle':=hok m l hl
 subst hle'
 refine i_ixN m ll.at_ rfl (map_ref_at hx) (i_ixI el (by decide) (by rw[row_len];omega) ?_)
 rw[show (0:Int).toNat=0 from rfl,row_getD (by omega)]
 exact q H2 (s1.trans s2)
abbrev zqf:Stmt:=top 10
theorem zq2a:FnScope ["row","many","low","high","place","ranges","ways","cut","end","skipped","left"] ["row","many","low","high","place"] (defScope zqf):=⟨rfl,rfl,rfl,by decide +kernel,rfl,by decide +kernel,by decide +kernel⟩
theorem zqej:Loc (defScope zqf) "cut":=Or.inl (by kernel_rfl)
theorem zq7c:Loc (defScope zqf) "end":=Or.inl (by kernel_rfl)
theorem zqdz:Loc (defScope zqf) "left":=Or.inl (by kernel_rfl)
theorem zqcy:Loc (defScope zqf) "ranges":=Or.inl (by kernel_rfl)
theorem zq7d:Loc (defScope zqf) "skipped":=Or.inl (by kernel_rfl)
theorem zqe0:Loc (defScope zqf) "ways":=Or.inl (by kernel_rfl)
theorem zqan:Vis (defScope zqf) "cut":=Or.inl (by kernel_rfl)
theorem zq55:Vis (defScope zqf) "end":=Or.inl (by kernel_rfl)
theorem zqe1:Vis (defScope zqf) "high":=Or.inl (by kernel_rfl)
theorem zq9s:Vis (defScope zqf) "left":=Or.inl (by kernel_rfl)
theorem zqek:Vis (defScope zqf) "low":=Or.inl (by kernel_rfl)
theorem zq4o:Vis (defScope zqf) "many":=Or.inl (by kernel_rfl)
theorem zq8l:Vis (defScope zqf) "place":=Or.inl (by kernel_rfl)
theorem zq7v:Vis (defScope zqf) "ranges":=Or.inl (by kernel_rfl)
theorem zqao:Vis (defScope zqf) "row":=Or.inl (by kernel_rfl)
theorem zqcb:Vis (defScope zqf) "skipped":=Or.inl (by kernel_rfl)
theorem zq6i:Vis (defScope zqf) "ways":=Or.inl (by kernel_rfl)
theorem zq9z:(defScope zqf).names.lookup ("check_many":Str)=some NameKind.globalImplicit:=by kernel_rfl
theorem zqa0:(defScope zqf).names.lookup ("count_ways":Str)=some NameKind.globalImplicit:=by kernel_rfl
theorem zqa1:(defScope zqf).names.lookup ("end_ranges":Str)=some NameKind.globalImplicit:=by kernel_rfl
theorem zqap:(defScope zqf).names.lookup ("is_within":Str)=some NameKind.globalImplicit:=by kernel_rfl
theorem zqdd:(defScope zqf).names.lookup ("range":Str)=some NameKind.globalImplicit:=by kernel_rfl
def zqfi {cdv:Value}{A:Around}{outer:List Env}{s:Shared}{H:Hp}{E:XK}(B:Bl mg)(zq1:Def P w K mg base 3 "check_many" ["row","many"] zqn)(zq1n:Def P w K mg base 2 "end_ranges" ["row","low","high"] zq2n)(zq1m:Def P w K mg base 1 "count_ways" ["ranges","many"] zq2o)(zq1s:Def P w K mg base 2 "is_within" ["thing","low","high"] zq36)(hr:Room 3 (A.deeper (PyProof.Rows.envOfC "cut_at" (defScope zqf) s.heap.objs.size f cdv))) :
  { t:TS // QB (cxOf CX0 P w K mg base ["row","many","low","high","place","ranges","ways","cut","end","skipped","left"] "cut_at" (defScope zqf) f cdv A outer s H E).nox (defBody zqf) t } :=
 ⟨_,(qb_cons (qs_ex (qe_def zq1 hr (by decide) zq9z (qa_cons (qv 0 rfl zqao) (qa_cons (qv 1 rfl zq4o) qa_nil))))
  (qb_cons (qs_set (i:=5) zq2a.nd rfl zqcy (.inl rfl) (qe_def zq1n hr (by decide) zqa1 (qa_cons (qv 0 rfl zqao) (qa_cons (qv 2 rfl zqek) (qa_cons (qv 3 rfl zqe1) qa_nil)))))
  (qb_cons (qs_set (i:=6) zq2a.nd rfl zqe0 (.inl rfl) (qe_def zq1m hr (by decide) zqa0 (qa_cons (qv 5 rfl zq7v) (qa_cons (qv 1 rfl zq4o) qa_nil))))
  (qb_cons (qs_if (qt_not (kt_val (K:=K) rfl (qe_def zq1s hr (by decide) zqap (qa_cons (qv 4 rfl zq8l) (qa_cons qe_int (qa_cons (qe_op opSub (ke_ix (K:=K) rfl (ke_ix (K:=K) rfl (qv 6 rfl zq6i) (qv 1 rfl zq4o) (λ_ _=>rfl)) qe_int (λ_ _=>rfl)) qe_int) qa_nil)))))) (qb_one qs_never) qb_nil)
  (qb_cons (qs_set (i:=7) zq2a.nd rfl zqej (.inl rfl) (qe_lst qa_nil))
  (qb_cons (qs_set (i:=8) zq2a.nd rfl zq7c (.inl rfl) qe_int)
  (qb_cons (qs_set (i:=9) zq2a.nd rfl zq7d (.inl rfl) qe_int)
  (qb_mid (qs_for PassesOwn.never rfl (qi_r3 zqdd B.range (qa_cons (qe_op opSub (qv 1 rfl zq4o) qe_int) (qa_cons qe_int (qa_cons (qe_un unNeg qe_int) qa_nil)))) (qg_name (i:=10) zq2a.nd rfl zqdz (.inl rfl)) (qb_cons (qs_set (i:=8) zq2a.nd rfl zq7c (.inl rfl) (ke_ix (K:=K) rfl (ke_ix (K:=K) rfl (qv 5 rfl zq7v) (qv 8 rfl zq55) (λ_ _=>rfl)) qe_int (λ_ _=>rfl)))
  (qb_mid (qs_while PassesOwn.never (qt_cmp opLe (qe_op opAdd (qv 9 rfl zqcb) (ke_ix (K:=K) rfl (ke_ix (K:=K) rfl (qv 6 rfl zq6i) (qv 10 rfl zq9s) (λ_ _=>rfl)) (qv 8 rfl zq55) (λ_ _=>rfl))) (qv 4 rfl zq8l)) (qb_cons (qs_aug (i:=9) zq2a.nd rfl zq7d (.inl rfl) (ke_ix (K:=K) rfl (ke_ix (K:=K) rfl (qv 6 rfl zq6i) (qv 10 rfl zq9s) (λ_ _=>rfl)) (qv 8 rfl zq55) (λ_ _=>rfl)) ipAdd)
  (qb_one (qs_aug (i:=8) zq2a.nd rfl zq7c (.inl rfl) qe_int ipAdd))))
  (qb_one (qs_ex (ke_m1 (K:=K) rfl PySem.F.plainAttrs_list PySem.F.slot_list_append PySem.F.type_list_append mtApp (qv 7 rfl zqan) (qv 8 rfl zq55)))))))
  (qb_one (qs_ret (qv 7 rfl zqan)))))))))))⟩
open M25 M14 M18 in
def zq7w:Sp:=λvs H Q _=>∃ (r:Addr) (ns:List Int) (m:Nat) (lo hi pl:Int),vs=[.ref r,.int m,.int lo,.int hi,.int pl]/\H r=some (.lst (ns.map V.int))/\ns.length<=900/\(∀ n∈ns,0<=n)/\1<=m/\m<=ns.length/\0<=pl/\pl<M14.cnt ns lo hi m 0 /\
 ∀ (p:Addr) (c:List Int) (H':Hp),At ns lo hi (m-1) 0 pl c->H p=none->Same H H'->H' p=some (.lst (c.map V.int))->Q (.ref p) H'
open M25 M14 M18 in
theorem zqff (B:Bl mg)(zq1:Def P w K mg base 3 "check_many" ["row","many"] zqn)(zq1n:Def P w K mg base 2 "end_ranges" ["row","low","high"] zq2n)(zq1m:Def P w K mg base 1 "count_ways" ["ranges","many"] zq2o)(zq1s:Def P w K mg base 2 "is_within" ["thing","low","high"] zq36)(F:Fun K "cut_at" "cut_at" zqf f fd):FnOk P w K mg base CX0 4 f fd ["row","many","low","high","place"] zq7w:=by
 refine F.okq zq2a (λvs H Q E h=>?_) (λcdv A outer s H vs Q E hr h=>?_)
 ·obtain⟨r,ns,m,lo,hi,pl,rfl,_⟩:=h;rfl
 obtain⟨r,ns,m,lo,hi,pl,rfl,hr0,hle,hnn,m1,m2,p0,p1,q⟩:=h
 refine⟨zqfi B zq1 zq1n zq1m zq1s hr,?_⟩
 refine⟨r,m,_,rfl,hr0,by omega,by rw[List.length_map];omega,?_⟩
 refine⟨r,ns,lo,hi,rfl,hr0,by omega,hnn,λrg ps rs H1 hrg s1 plr hrl hrs=>?_⟩
 refine⟨rg,ps,rs,ns,lo,hi,m,rfl,plr,hrl,hrs,hle,by omega,λw qs pss H2 hw s2 ll hpl hok=>?_⟩
 have hql:=ll.len
 have plr2:=plr.same s2
 have hpsl:=Paired.length plr.it
 have way:∀ l,l<=m->∃ a,(qs.map V.ref)[l]?=some (.ref a)/\H2 a=some (.lst ((row (M14.cnt ns lo hi l) (ns.length+1)).map V.int)):=λl hl=>by
  have hx':qs[l]?=some (qs[l]'(by omega)):=List.getElem?_eq_getElem (by omega)
  obtain⟨lr,hlr,el⟩:=pair_get ll.it hx'
  have hle':=hok l lr hlr
  subst hle'
  exact⟨_,map_ref_at hx',el⟩
 obtain⟨a0,ha0,ea0⟩:=way m (Nat.le_refl _)
 refine i_ixN m (v:=.ref a0) ll.at_ rfl ha0 (i_ixI ea0 (by decide) (by rw[row_len];omega) ?_)
 rw[show (0:Int).toNat=0 from rfl,row_getD (by omega)]
 refine⟨pl,0,M14.cnt ns lo hi m 0-1,rfl,bNo (by simp;omega) ?_⟩
 refine i_newL (by show 0<=sizeLine;decide) λct H3 hct s3 e3=>?_
 have s02:=s1.trans s2
 have hct0:H ct=none:=s02.free hct
 refine⟨λσ H'=>Same H2 H'/\(∃ c:List Int,At ns lo hi (m-1) 0 pl c/\H' ct=some (.lst (c.map V.int)))/\∃ o8 o9 o10,σ=[some (.ref r),some (.int m),some (.int lo),some (.int hi),some (.int pl),some (.ref rg),some (.ref w),some (.ref ct),o8,o9,o10],?_,?_⟩
 ·refine⟨rfl,⟨by omega,by omega,by omega,by omega⟩,for_down (λj σ H'=>Same H2 H'/\∃ (i:Nat) (sk p':Int) (c1:List Int) (o10:Option V),i<=ns.length/\sk+p'=pl/\0<=p'/\p'<M14.cnt ns lo hi (m-j) i/\c1.length=j/\(∀ c2,At ns lo hi (m-1-j) i p' c2->At ns lo hi (m-1) 0 pl (c1++c2))/\H' ct=some (.lst (c1.map V.int))/\σ=[some (.ref r),some (.int m),some (.int lo),some (.int hi),some (.int pl),some (.ref rg),some (.ref w),some (.ref ct),some (.int i),some (.int sk),o10]) ?_ ?_ ?_⟩
  ·exact⟨s3,0,0,pl,[],_,by omega,by omega,p0,p1,rfl,λc2 h=>h,e3,rfl⟩
  ·rintro j σ H4 hj ⟨s4,i,sk,p',c1,o10,hi',hsk,hp0,hp1,hc1,hAt,e4,rfl⟩
   obtain⟨k,hk⟩:∃ k,m-1-j=k+1:=⟨m-2-j,by omega⟩
   have hk2:m-j=k+2:=by omega
   rw[hk] at hAt
   rw[hk2] at hp1
   have hin:i<ns.length:=Classical.byContradiction λz=>by
    rw[show i=ns.length by omega,cnt_end] at hp1;omega
   have hxp:ps[i]?=some (ps[i]'(by omega)):=List.getElem?_eq_getElem (by omega)
   obtain⟨⟨f,h⟩,hfh,ea⟩:=pair_get plr2.it hxp
   have rng:=hrs i f h hfh
   refine i_ixN i (s4 _ _ plr2.at_) rfl (map_ref_at hxp) (i_ixT 0 (v:=.int f) (s4 _ _ ea) rfl rfl ?_)
   have f1:=rng.f1
   have f2:=rng.fh
   have f3:=rng.hn
   have eL:((m:Int)-1-j)=((k+1:Nat):Int):=by omega
   rw[eL]
   obtain⟨ak,hak,eak⟩:=way (k+1) (by omega)
   have az:=acc_zero rng (k+1)
   refine⟨λσ H'=>H'=H4/\∃ x:Nat,i<x/\x<ns.length/\acc ns lo hi (k+1) i x<=p'/\p'<acc ns lo hi (k+1) i (x+1)/\ok ns lo hi i x=1/\σ=[some (.ref r),some (.int m),some (.int lo),some (.int hi),some (.int pl),some (.ref rg),some (.ref w),some (.ref ct),some (.int x),some (.int (sk+acc ns lo hi (k+1) i x)),some (.int ((k+1:Nat):Int))],?_,?_⟩
   ·refine while_m (λmm σ H'=>H'=H4/\∃ x:Nat,mm=ns.length+1-x/\f<=x/\x<=ns.length+1/\acc ns lo hi (k+1) i x<=p'/\σ=[some (.ref r),some (.int m),some (.int lo),some (.int hi),some (.int pl),some (.ref rg),some (.ref w),some (.ref ct),some (.int x),some (.int (sk+acc ns lo hi (k+1) i x)),some (.int ((k+1:Nat):Int))]) (ns.length+1-f) ⟨rfl,f,rfl,Nat.le_refl _,by omega,by omega,by rw[az,Int.add_zero];rfl⟩ ?_
    rintro mm σ H' ⟨rfl,x,rfl,hx1,hx2,hx3,rfl⟩
    obtain⟨hxn,hxo⟩:=acc_in rng hx1 hx2 hx3 hp1
    have as:=acc_succ (ns:=ns) (lo:=lo) (hi:=hi) (k+1) i x
    rw[hxo,Int.one_mul] at as
    refine i_ixN (k+1) (v:=.ref ak) (s4 _ _ ll.at_) rfl hak (i_ixI (s4 _ _ eak) (by omega) (by rw[row_len];omega) ?_)
    rw[Int.toNat_natCast,row_getD (by omega)]
    refine dec2 (λc=>?_) (λc=>?_)
    ·refine i_ixN (k+1) (v:=.ref ak) (s4 _ _ ll.at_) rfl hak (i_ixI (s4 _ _ eak) (by omega) (by rw[row_len];omega) ?_)
     rw[Int.toNat_natCast,row_getD (by omega)]
     refine⟨ns.length+1-(x+1),by omega,rfl,x+1,rfl,by omega,by omega,by omega,?_⟩
     rw[as,<- Int.add_assoc];rfl
    ·exact⟨rfl,x,by omega,hxn,hx3,by omega,hxo,rfl⟩
   rintro σ H' ⟨rfl,x,x1,x2,x3,x4,xo,rfl⟩
   have as:=acc_succ (ns:=ns) (lo:=lo) (hi:=hi) (k+1) i x
   rw[xo,Int.one_mul] at as
   refine⟨i_tyL e4,i_appI e4 (by omega) λH6 k6 e6=>?_⟩
   refine⟨s4.new k6 hct,x,sk+acc ns lo hi (k+1) i x,p'-acc ns lo hi (k+1) i x,c1++[(x:Int)],_,by omega,by omega,by omega,?_,by simp[hc1],λc2 h2=>?_,e6,rfl⟩
   ·rw[show m-(j+1)=k+1 by omega];omega
   ·rw[show m-1-(j+1)=k by omega] at h2
    rw[List.append_assoc]
    exact hAt _ (At.step x1 x2 x3 x4 h2)
  ·rintro σ H4 ⟨s4,i,sk,p',c1,o10,_,_,_,_,hc1,hAt,e4,rfl⟩
   have e0:m-1-((m:Int)-1-0).toNat=0:=by omega
   rw[e0] at hAt
   have:=hAt [] At.nil
   rw[List.append_nil] at this
   exact⟨s4,⟨c1,this,e4⟩,_,_,_,rfl⟩
 ·rintro σ H4 ⟨s4,⟨c,hc,e4⟩,o8,o9,o10,rfl⟩
  exact q ct c H4 hc hct0 (s02.trans s4) e4
abbrev zqo:Stmt:=top 21
theorem zq2x:FnScope ["row","bound","cut","total","place","number"] ["row","bound"] (defScope zqo):=⟨rfl,rfl,rfl,by decide +kernel,rfl,by decide +kernel,by decide +kernel⟩
theorem zqde:Loc (defScope zqo) "cut":=Or.inl (by kernel_rfl)
theorem zqbj:Loc (defScope zqo) "number":=Or.inl (by kernel_rfl)
theorem zqcc:Loc (defScope zqo) "place":=Or.inl (by kernel_rfl)
theorem zq4r:Loc (defScope zqo) "total":=Or.inl (by kernel_rfl)
theorem zq7e:Vis (defScope zqo) "bound":=Or.inl (by kernel_rfl)
theorem zq8m:Vis (defScope zqo) "cut":=Or.inl (by kernel_rfl)
theorem zq6r:Vis (defScope zqo) "number":=Or.inl (by kernel_rfl)
theorem zqcd:Vis (defScope zqo) "place":=Or.inl (by kernel_rfl)
theorem zq8n:Vis (defScope zqo) "row":=Or.inl (by kernel_rfl)
theorem zqce:Vis (defScope zqo) "total":=Or.inl (by kernel_rfl)
theorem zq97:(defScope zqo).names.lookup ("enumerate":Str)=some NameKind.globalImplicit:=by kernel_rfl
theorem zqdf:(defScope zqo).names.lookup ("max":Str)=some NameKind.globalImplicit:=by kernel_rfl
def zqf7 {cdv:Value}{A:Around}{outer:List Env}{s:Shared}{H:Hp}{E:XK}(B:Bl mg)(hr:Room 0 (A.deeper (PyProof.Rows.envOfC "long_cut" (defScope zqo) s.heap.objs.size f cdv))) :
  { t:TS // QB (cxOf CX0 P w K mg base ["row","bound","cut","total","place","number"] "long_cut" (defScope zqo) f cdv A outer s H E).nox (defBody zqo) t } :=
 ⟨_,(qb_cons (qs_if (qt_cmp opGt (qe_cB (kMax (K:=K) rfl rfl) zqdf B.max boot_max' (qa_cons (qv 0 rfl zq8n) qa_nil)) (qv 1 rfl zq7e)) (qb_one (qs_ret qe_non)) qb_nil)
  (qb_cons (qs_set (i:=2) zq2x.nd rfl zqde (.inl rfl) (qe_lst qa_nil))
  (qb_cons (qs_set (i:=3) zq2x.nd rfl zq4r (.inl rfl) qe_int)
  (qb_mid (qs_for PassesOwn.never rfl (ki_enum (K:=K) rfl zq97 B.enumerate (qa_cons (qv 0 rfl zq8n) qa_nil)) (kg_tup (K:=K) rfl rfl (qgs_cons (qg_name (i:=4) zq2x.nd rfl zqcc (.inl rfl)) (qgs_cons (qg_name (i:=5) zq2x.nd rfl zqbj (.inl rfl)) qgs_nil))) (qb_mid (qs_if (qt_cmp opGt (qe_op opAdd (qv 3 rfl zqce) (qv 5 rfl zq6r)) (qv 1 rfl zq7e)) (qb_cons (qs_ex (ke_m1 (K:=K) rfl PySem.F.plainAttrs_list PySem.F.slot_list_append PySem.F.type_list_append mtApp (qv 2 rfl zq8m) (qv 4 rfl zqcd)))
  (qb_one (qs_set (i:=3) zq2x.nd rfl zq4r (.inl rfl) qe_int))) qb_nil)
  (qb_one (qs_aug (i:=3) zq2x.nd rfl zq4r (.inl rfl) (qv 5 rfl zq6r) ipAdd))))
  (qb_one (qs_ret (qv 2 rfl zq8m)))))))⟩
open M5 in
def zq5x:Sp:=λvs H Q _=>∃ (r:Addr) (b:Int) (ns:List Int),vs=[.ref r,.int b]/\H r=some (.lst (ns.map V.int))/\ns≠[]/\ns.length<=1000/\((∃ n∈ns,b<n)->Q .non H) /\
 ((∀ n∈ns,n<=b)->∀ p H',H p=none->Same H H'->H' p=some (.lst ((lcut b 0 0 ns).map V.int))->Q (.ref p) H')
open M5 in
theorem zqey (B:Bl mg)(F:Fun K "long_cut" "long_cut" zqo f fd):FnOk P w K mg base CX0 1 f fd ["row","bound"] zq5x:=by
 refine F.okq zq2x (λvs H Q E h=>?_) (λcdv A outer s H vs Q E hr h=>?_)
 ·obtain⟨r,b,ns,rfl,_⟩:=h;rfl
 obtain⟨r,b,ns,rfl,hr0,hne,hle,q1,q2⟩:=h
 refine⟨zqf7 B hr,?_⟩
 refine i_max (SqL.of hr0) hne λM hM hmax=>dec2 (λc=>q1 ⟨M,hM,c⟩) (λc=>?_)
 have hb:∀ n∈ns,n<=b:=λn hn=>by have:=hmax n hn;omega
 refine i_newL (by show 0<=sizeLine;decide) λp H1 hp s1 e1=>?_
 refine⟨λσ H'=>Same H H'/\H' p=some (.lst ((lcut b 0 0 ns).map V.int))/\gt σ 2=some (.ref p),?_,?_⟩
 ·refine⟨⟨_,SqL.of (s1 _ _ hr0)⟩,for_en (ns.map V.int) (λi σ H'=>∃ o1 o2,σ=[some (.ref r),some (.int b),some (.ref p),some (.int (ltot b 0 (ns.take i))),o1,o2]/\Same H H'/\H' p=some (.lst ((lcut b 0 0 (ns.take i)).map V.int))) ?_ ?_ ?_ ?_⟩
  ·exact⟨none,none,rfl,s1,e1⟩
  ·rintro i σ H' _ ⟨o1,o2,rfl,s',e'⟩
   exact SqL.of (s' _ _ hr0)
  ·rintro i x σ H' T H2 hx ⟨o1,o2,rfl,s',e'⟩ hT s2 e2
   obtain⟨z,rfl,hz,_⟩:=vints_at hx
   have hi:i<ns.length:=(List.getElem?_eq_some_iff.mp hz).1
   have hlen:(ns.take i).length=i:=by rw[List.length_take];omega
   have et:=take_snoc hz
   have e3:=s2 _ _ e'
   refine i_unp e2 rfl ?_
   refine⟨λσ H'=>σ=[some (.ref r),some (.int b),some (.ref p),some (.int (if ltot b 0 (ns.take i)+z > b then 0 else ltot b 0 (ns.take i))),some (.int i),some (.int z)]/\Same H H'/\H' p=some (.lst ((lcut b 0 0 (ns.take (i+1))).map V.int)),?_,?_⟩
   ·have el:lcut b 0 0 (ns.take (i+1))=lcut b 0 0 (ns.take i)++(if ltot b 0 (ns.take i)+z > b then [(i:Int)] else []):=by
     rw[et,lcut_app,hlen,Nat.zero_add]
     simp only[lcut]
    have ll:(lcut b 0 0 (ns.take i)).length<=1000:=by
     have:=lcut_len b (ns.take i) 0 0;omega
    refine dec2 (λc=>?_) (λc=>?_)
    ·refine⟨i_tyL e3,i_appI e3 (by omega) λH4 k4 e4=>?_⟩
     have c':ltot b 0 (ns.take i)+z > b:=c
     refine⟨by rw[if_pos c'];rfl,(s'.trans s2).new k4 hp,by rw[e4,el,if_pos c']⟩
    ·have c':¬ ltot b 0 (ns.take i)+z > b:=c
     refine⟨by rw[if_neg c'];rfl,s'.trans s2,by rw[e3,el,if_neg c',List.append_nil]⟩
   ·rintro σ H4 ⟨rfl,s4,e4⟩
    refine⟨some (.int i),some (.int z),?_,s4,e4⟩
    rw[et,ltot_app]
    simp only[ltot]
    by_cases c:ltot b 0 (ns.take i)+z > b
    ·simp[c]
    ·simp[c]
  ·rintro σ H' ⟨o1,o2,rfl,s',e'⟩
   rw[List.length_map,List.take_length] at e'
   exact⟨s',e',rfl⟩
 ·rintro σ H' ⟨s',e',hg⟩
  show mVar 2 σ H' Q
  unfold mVar
  rw[hg]
  exact q2 hb p H' hp s' e'
abbrev zqj:Stmt:=top 22
theorem zq7f:FnScope ["row","bound","cut"] ["row","bound"] (defScope zqj):=⟨rfl,rfl,rfl,by decide +kernel,rfl,by decide +kernel,by decide +kernel⟩
theorem zqa2:Loc (defScope zqj) "cut":=Or.inl (by kernel_rfl)
theorem zq8o:Vis (defScope zqj) "bound":=Or.inl (by kernel_rfl)
theorem zq5m:Vis (defScope zqj) "cut":=Or.inl (by kernel_rfl)
theorem zqa3:Vis (defScope zqj) "row":=Or.inl (by kernel_rfl)
theorem zqa4:(defScope zqj).names.lookup ("len":Str)=some NameKind.globalImplicit:=by kernel_rfl
theorem zq7g:(defScope zqj).names.lookup ("long_cut":Str)=some NameKind.globalImplicit:=by kernel_rfl
def zqcz {cdv:Value}{A:Around}{outer:List Env}{s:Shared}{H:Hp}{E:XK}(B:Bl mg)(zq56:Def P w K mg base 1 "long_cut" ["row","bound"] zq5x)(hr:Room 1 (A.deeper (PyProof.Rows.envOfC "fewest_pieces" (defScope zqj) s.heap.objs.size f cdv))) :
  { t:TS // QB (cxOf CX0 P w K mg base ["row","bound","cut"] "fewest_pieces" (defScope zqj) f cdv A outer s H E).nox (defBody zqj) t } :=
 ⟨_,(qb_cons (qs_set (i:=2) zq7f.nd rfl zqa2 (.inl rfl) (qe_def zq56 hr (by decide) zq7g (qa_cons (qv 0 rfl zqa3) (qa_cons (qv 1 rfl zq8o) qa_nil))))
  (qb_cons (qs_if (qt_cmp opIs (qv 2 rfl zq5m) qe_non) (qb_one (qs_ret qe_non)) qb_nil)
  (qb_one (qs_ret (qe_op opAdd (qe_cB (kLen (K:=K) rfl) zqa4 B.len boot_len' (qa_cons (qv 2 rfl zq5m) qa_nil)) qe_int)))))⟩
open M5 in
def fewV (b:Int)(ns:List Int):V:=if ns.all (λn=>decide (n<=b))=true then .int ((lcut b 0 0 ns).length+1) else .non
theorem fewV_ok {b:Int}{ns:List Int}(h:∀ n∈ns,n<=b):fewV b ns=.int ((M5.lcut b 0 0 ns).length+1):=by
 unfold fewV;rw[if_pos];rw[List.all_eq_true];intro n hn;exact decide_eq_true (h n hn)
theorem fewV_no {b:Int}{ns:List Int}(h:∃ n∈ns,b<n):fewV b ns=.non:=by
 obtain⟨n,hn,hb⟩:=h
 unfold fewV;rw[if_neg];rw[List.all_eq_true];intro h;have:=of_decide_eq_true (h n hn);omega
def zq3e:Sp:=λvs H Q _=>∃ (r:Addr) (b:Int) (ns:List Int),vs=[.ref r,.int b]/\H r=some (.lst (ns.map V.int))/\ns≠[]/\ns.length<=1000/\∀ H',Same H H'->Q (fewV b ns) H'
theorem zqcf (B:Bl mg)(zq56:Def P w K mg base 1 "long_cut" ["row","bound"] zq5x)(F:Fun K "fewest_pieces" "fewest_pieces" zqj f fd):FnOk P w K mg base CX0 2 f fd ["row","bound"] zq3e:=by
 refine F.okq zq7f (λvs H Q E h=>?_) (λcdv A outer s H vs Q E hr h=>?_)
 ·obtain⟨r,b,ns,rfl,_⟩:=h;rfl
 obtain⟨r,b,ns,rfl,hr0,hne,hle,q⟩:=h
 refine⟨zqcz B zq56 hr,?_⟩
 refine⟨r,b,ns,rfl,hr0,hne,hle,λh=>?_,λh p H1 hp s1 e1=>?_⟩
 ·refine bT ?_
  have:=q H (Same.refl H)
  rw[fewV_no h] at this;exact this
 ·refine bF (i_lenI e1 ?_)
  have:=q H1 s1
  rw[fewV_ok h] at this;exact this
abbrev zqc:Stmt:=top 24
theorem zq2c:FnScope ["row","many","low","high","middle"] ["row","many"] (defScope zqc):=⟨rfl,rfl,rfl,by decide +kernel,rfl,by decide +kernel,by decide +kernel⟩
theorem zq62:Loc (defScope zqc) "high":=Or.inl (by kernel_rfl)
theorem zq6s:Loc (defScope zqc) "low":=Or.inl (by kernel_rfl)
theorem zq98:Loc (defScope zqc) "middle":=Or.inl (by kernel_rfl)
theorem zq63:Vis (defScope zqc) "high":=Or.inl (by kernel_rfl)
theorem zq49:Vis (defScope zqc) "low":=Or.inl (by kernel_rfl)
theorem zqaq:Vis (defScope zqc) "many":=Or.inl (by kernel_rfl)
theorem zq3f:Vis (defScope zqc) "middle":=Or.inl (by kernel_rfl)
theorem zq4a:Vis (defScope zqc) "row":=Or.inl (by kernel_rfl)
theorem zq64:(defScope zqc).names.lookup ("fewest_pieces":Str)=some NameKind.globalImplicit:=by kernel_rfl
theorem zqbk:(defScope zqc).names.lookup ("max":Str)=some NameKind.globalImplicit:=by kernel_rfl
theorem zqbl:(defScope zqc).names.lookup ("sum":Str)=some NameKind.globalImplicit:=by kernel_rfl
def zqe2 {cdv:Value}{A:Around}{outer:List Env}{s:Shared}{H:Hp}{E:XK}(B:Bl mg)(zq2s:Def P w K mg base 2 "fewest_pieces" ["row","bound"] zq3e)(hr:Room 2 (A.deeper (PyProof.Rows.envOfC "least_bound" (defScope zqc) s.heap.objs.size f cdv))) :
  { t:TS // QB (cxOf CX0 P w K mg base ["row","many","low","high","middle"] "least_bound" (defScope zqc) f cdv A outer s H E).nox (defBody zqc) t } :=
 ⟨_,(qb_cons (qs_set (i:=2) zq2c.nd rfl zq6s (.inl rfl) (qe_cB (kMax (K:=K) rfl rfl) zqbk B.max boot_max' (qa_cons (qv 0 rfl zq4a) qa_nil)))
  (qb_cons (qs_set (i:=3) zq2c.nd rfl zq62 (.inl rfl) (qe_cB (kSum (K:=K) rfl rfl) zqbl B.sum boot_sum' (qa_cons (qv 0 rfl zq4a) qa_nil)))
  (qb_mid (qs_while PassesOwn.never (qt_cmp opLt (qv 2 rfl zq49) (qv 3 rfl zq63)) (qb_cons (qs_set (i:=4) zq2c.nd rfl zq98 (.inl rfl) (qe_op opFdiv (qe_op opAdd (qv 2 rfl zq49) (qv 3 rfl zq63)) qe_int))
  (qb_one (qs_if (qt_cmp opLe (qe_def zq2s hr (by decide) zq64 (qa_cons (qv 0 rfl zq4a) (qa_cons (qv 4 rfl zq3f) qa_nil))) (qv 1 rfl zqaq)) (qb_one (qs_set (i:=3) zq2c.nd rfl zq62 (.inl rfl) (qv 4 rfl zq3f))) (qb_one (qs_set (i:=2) zq2c.nd rfl zq6s (.inl rfl) (qe_op opAdd (qv 4 rfl zq3f) qe_int)))))))
  (qb_one (qs_ret (qv 2 rfl zq49))))))⟩
open M5 M10 M11 M7
theorem row_sum' {ns:List Int}(h:RowN ns):0<=ns.sum/\ns.sum<=120000000000000:=by
 have key:∀ l:List Int,(∀ n∈l,0<=n)->(∀ n∈l,n<=1000000000000)->0<=l.sum/\l.sum<=1000000000000*l.length:=by
  intro l
  induction l with
  | nil=>intro _ _;simp
  | cons x l ih =>
   intro h0 h1
   obtain⟨a,b⟩:=ih (λn hn=>h0 n (List.mem_cons_of_mem _ hn)) λn hn=>h1 n (List.mem_cons_of_mem _ hn)
   have:=h0 x List.mem_cons_self
   have:=h1 x List.mem_cons_self
   rw[List.sum_cons,List.length_cons]
   omega
 have:=key ns h.nn h.ub
 have:=h.le
 omega
def zq42:Sp:=λvs H Q _=>∃ (r:Addr) (m:Nat) (ns:List Int) (t:Int),vs=[.ref r,.int m]/\H r=some (.lst (ns.map V.int))/\RowN ns/\1<=m/\m<=ns.length/\T 0 ns (m-1) 0=some t/\∀ H',Same H H'->0<=t->t<=120000000000000->(∀ n∈ns,n<=t)->Q (.int t) H'
theorem zqdg (B:Bl mg)(zq2s:Def P w K mg base 2 "fewest_pieces" ["row","bound"] zq3e)(F:Fun K "least_bound" "least_bound" zqc f fd):FnOk P w K mg base CX0 3 f fd ["row","many"] zq42:=by
 refine F.okq zq2c (λvs H Q E h=>?_) (λcdv A outer s H vs Q E hr h=>?_)
 ·obtain⟨r,m,ns,t,rfl,_⟩:=h;rfl
 obtain⟨r,m,ns,t,rfl,hr0,rn,hm1,hmn,hT,q⟩:=h
 refine⟨zqe2 B zq2s hr,?_⟩
 have hnn:=rn.nn
 have hle:ns.length<=1000:=by have:=rn.le;omega
 have hne:ns≠[]:=λz=>by have:=rn.ne;rw[z] at this;simp at this
 have hiff:∀ b,t<=b↔(∀ x∈ns,x<=b)/\gp b ns<=m:=λb=>by
  have:=T_iff0 hnn b (k:=m-1) (i:=0) (by omega) hT
  rw[show m-1+1=m by omega,List.drop_zero] at this;exact this
 have hall:=((hiff t).mp (Int.le_refl t)).1
 have hsum:=row_sum' rn
 have hts:t<=ns.sum:=by
  refine(hiff _).mpr ⟨λx hx=>mem_le_sum hnn x hx,?_⟩
  unfold gp
  rw[if_neg hne,lcut_nil _ 0 0 hnn (by omega)]
  simp;omega
 refine i_max (SqL.of hr0) hne λM hM hmax=>i_sum (SqL.of hr0) ?_
 have hMt:M<=t:=hall M hM
 have hM0:=hnn M hM
 refine⟨λσ H'=>Same H H'/\∃ o3 o4,σ=[some (.ref r),some (.int m),some (.int t),o3,o4],?_,?_⟩
 ·refine while_m (λmm σ H'=>∃ lo hi:Int,∃ o4,M<=lo/\lo<=t/\t<=hi/\hi<=ns.sum/\mm=(hi-lo).toNat/\Same H H'/\σ=[some (.ref r),some (.int m),some (.int lo),some (.int hi),o4]) _ ⟨M,ns.sum,_,Int.le_refl M,hMt,hts,Int.le_refl _,rfl,Same.refl H,rfl⟩ ?_
  rintro mm σ H1 ⟨lo,hi,o4,h1,h2,h3,h4,rfl,s1,rfl⟩
  refine dec2 (λc=>?_) (λc=>?_)
  ·refine⟨⟨by decide,by decide⟩,r,(lo+hi) / 2,ns,rfl,s1 _ _ hr0,hne,hle,λH2 s2=>?_⟩
   have hmid:∀ n∈ns,n<=(lo+hi) / 2:=λn hn=>by have:=hmax n hn;omega
   have hi2:=hiff ((lo+hi) / 2)
   have hgp:gp ((lo+hi) / 2) ns=(lcut ((lo+hi) / 2) 0 0 ns).length+1:=by unfold gp;rw[if_neg hne]
   rw[fewV_ok hmid]
   refine dec2 (λc2=>?_) (λc2=>?_)
   ·have:=hi2.mpr ⟨hmid,by omega⟩
    exact⟨((lo+hi) / 2-lo).toNat,by omega,lo,(lo+hi) / 2,_,h1,h2,this,by omega,rfl,s1.trans s2,rfl⟩
   ·have:¬ t<=(lo+hi) / 2:=λz=>c2 (by have:=(hi2.mp z).2;omega)
    exact⟨(hi-((lo+hi) / 2+1)).toNat,by omega,(lo+hi) / 2+1,hi,_,by omega,by omega,h3,h4,rfl,s1.trans s2,rfl⟩
  ·have:lo=t:=by omega
   subst this
   exact⟨s1,_,_,rfl⟩
 ·rintro σ H1 ⟨s1,o3,o4,rfl⟩
  exact q H1 s1 (by omega) (by omega) hall
abbrev zqa:Stmt:=top 26
theorem zq26:FnScope ["row","ahead","end","bound","begin","total"] ["row","ahead","end","bound"] (defScope zqa):=⟨rfl,rfl,rfl,by decide +kernel,rfl,by decide +kernel,by decide +kernel⟩
theorem zq4d:Loc (defScope zqa) "begin":=Or.inl (by kernel_rfl)
theorem zq4e:Loc (defScope zqa) "total":=Or.inl (by kernel_rfl)
theorem zq82:Vis (defScope zqa) "ahead":=Or.inl (by kernel_rfl)
theorem zq1o:Vis (defScope zqa) "begin":=Or.inl (by kernel_rfl)
theorem zq83:Vis (defScope zqa) "bound":=Or.inl (by kernel_rfl)
theorem zq99:Vis (defScope zqa) "end":=Or.inl (by kernel_rfl)
theorem zq3g:Vis (defScope zqa) "row":=Or.inl (by kernel_rfl)
theorem zq84:Vis (defScope zqa) "total":=Or.inl (by kernel_rfl)
def zqcg {cdv:Value}{A:Around}{outer:List Env}{s:Shared}{H:Hp}{E:XK}(B:Bl mg)(hr:Room 0 (A.deeper (PyProof.Rows.envOfC "earliest_begin" (defScope zqa) s.heap.objs.size f cdv))) :
  { t:TS // QB (cxOf CX0 P w K mg base ["row","ahead","end","bound","begin","total"] "earliest_begin" (defScope zqa) f cdv A outer s H E).nox (defBody zqa) t } :=
 ⟨_,(qb_cons (qs_set (i:=4) zq26.nd rfl zq4d (.inl rfl) (qe_op opSub (qv 2 rfl zq99) qe_int))
  (qb_cons (qs_set (i:=5) zq26.nd rfl zq4e (.inl rfl) (ke_ix (K:=K) rfl (qv 0 rfl zq3g) (qv 4 rfl zq1o) (λ_ _=>rfl)))
  (qb_mid (qs_while PassesOwn.never (QW.pt (qw_and (qt_cmp opGt (qv 4 rfl zq1o) (qv 1 rfl zq82)) (qw_and1 (qt_cmp opLe (qe_op opAdd (qv 5 rfl zq84) (ke_ix (K:=K) rfl (qv 0 rfl zq3g) (qe_op opSub (qv 4 rfl zq1o) qe_int) (λ_ _=>rfl))) (qv 3 rfl zq83))))) (qb_cons (qs_aug (i:=4) zq26.nd rfl zq4d (.inl rfl) qe_int ipSub)
  (qb_one (qs_aug (i:=5) zq26.nd rfl zq4e (.inl rfl) (ke_ix (K:=K) rfl (qv 0 rfl zq3g) (qv 4 rfl zq1o) (λ_ _=>rfl)) ipAdd))))
  (qb_one (qs_ret (qv 4 rfl zq1o))))))⟩
def zq30:Sp:=λvs H Q _=>∃ (r:Addr) (a e:Nat) (b:Int) (ns:List Int),vs=[.ref r,.int a,.int e,.int b]/\H r=some (.lst (ns.map V.int))/\a<e/\e<=ns.length/\(∀ n∈ns,n<=b) /\
 ∀ y:Nat,a<=y->y<e->seg ns y e<=b->(y=a\/(1<=y/\b<seg ns (y-1) e))->Q (.int y) H
theorem zqbm (B:Bl mg)(F:Fun K "earliest_begin" "earliest_begin" zqa f fd):FnOk P w K mg base CX0 1 f fd ["row","ahead","end","bound"] zq30:=by
 refine F.okq zq26 (λvs H Q E h=>?_) (λcdv A outer s H vs Q E hr h=>?_)
 ·obtain⟨r,a,e,b,ns,rfl,_⟩:=h;rfl
 obtain⟨r,a,e,b,ns,rfl,hr0,hae,hen,hall,q⟩:=h
 refine⟨zqcg B hr,?_⟩
 have e1:(((e:Int)-1)).toNat=e-1:=by omega
 refine i_ixI hr0 (by omega) (by omega) ?_
 rw[e1]
 have hs1:seg ns (e-1) e=ns.getD (e-1) 0:=by
  rw[seg_step (show e-1<e by omega) hen,show e-1+1=e by omega,seg_self];omega
 have hin:ns.getD (e-1) 0<=b:=by
  refine hall _ ?_
  rw[List.getD_eq_getElem?_getD,List.getElem?_eq_getElem (show e-1<ns.length by omega)]
  exact List.getElem_mem _
 refine⟨λσ H'=>H'=H/\∃ y:Nat,a<=y/\y<e/\seg ns y e<=b/\(y=a\/(1<=y/\b<seg ns (y-1) e))/\∃ o5,σ=[some (.ref r),some (.int a),some (.int e),some (.int b),some (.int y),o5],?_,?_⟩
 ·refine while_m (λmm σ H'=>H'=H/\∃ y:Nat,a<=y/\y<e/\mm=y/\seg ns y e<=b/\σ=[some (.ref r),some (.int a),some (.int e),some (.int b),some (.int y),some (.int (seg ns y e))]) (e-1) ⟨rfl,e-1,by omega,by omega,rfl,by omega,by rw[hs1,show ((e-1:Nat):Int)=(e:Int)-1 by omega];rfl⟩ ?_
  rintro mm σ H' ⟨rfl,y,h1,h2,hmm,h3,rfl⟩
  refine dec2 (λc=>?_) (λc=>?_)
  ·have hst:=seg_step (ns:=ns) (k:=y-1) (e:=e) (by omega) hen
   rw[show y-1+1=y by omega] at hst
   have ey:((y:Int)-1).toNat=y-1:=by omega
   refine i_ixI hr0 (by omega) (by omega) ?_
   rw[ey]
   refine dec2 (λc2=>?_) (λc2=>?_)
   ·refine i_ixI (i:=(y:Int)-1) hr0 (by omega) (by omega) ?_
    rw[ey]
    have e2:((y-1:Nat):Int)=(y:Int)-1:=by omega
    have hfin:seg ns (y-1) e=seg ns y e+ns.getD (y-1) 0:=by omega
    refine⟨y-1,by omega,rfl,y-1,by omega,by omega,rfl,?_,?_⟩
    ·have c2':seg ns y e+ns.getD (y-1) 0<=b:=c2
     omega
    ·rw[e2,hfin];rfl
   ·have c2':¬ seg ns y e+ns.getD (y-1) 0<=b:=c2
    exact⟨rfl,y,h1,h2,h3,.inr ⟨by omega,by omega⟩,_,rfl⟩
  ·exact bF ⟨rfl,y,h1,h2,h3,.inl (by omega),_,rfl⟩
 ·rintro σ H' ⟨rfl,y,h1,h2,h3,h4,o5,rfl⟩
  exact q y h1 h2 h3 h4
def worse (w:Nat)(o:Option Int)(b:Int):Bool:=match o with
 | none=>true
 | some t=>if w=0 then decide (b<t) else decide (t<b)
open M5 M10 M11
inductive FirstCut (w:Nat)(ns:List Int)(t:Int):Nat->Nat->List Int->Prop where
 | nil (i:Nat):FirstCut w ns t 0 i []
 | step {l i e:Nat} {c:List Int} (h1:i<e) (h2:e<ns.length) (h3:worse w (some (seg ns i e)) t=false) (h4:worse w (T w ns l e) t=false)
   (h5:∀ j,i<j->j<e->worse w (some (seg ns i j)) t=true\/worse w (T w ns l j) t=true) (h6:FirstCut w ns t l e c):FirstCut w ns t (l+1) i ((e:Int)::c)
abbrev zq8:Stmt:=top 25
theorem zq2t:FnScope ["row","many","bound","places","end","ahead"] ["row","many","bound"] (defScope zq8):=⟨rfl,rfl,rfl,by decide +kernel,rfl,by decide +kernel,by decide +kernel⟩
theorem zq9a:Loc (defScope zq8) "ahead":=Or.inl (by kernel_rfl)
theorem zq65:Loc (defScope zq8) "end":=Or.inl (by kernel_rfl)
theorem zq8p:Loc (defScope zq8) "places":=Or.inl (by kernel_rfl)
theorem zq9b:Vis (defScope zq8) "ahead":=Or.inl (by kernel_rfl)
theorem zq9c:Vis (defScope zq8) "bound":=Or.inl (by kernel_rfl)
theorem zq66:Vis (defScope zq8) "end":=Or.inl (by kernel_rfl)
theorem zqa5:Vis (defScope zq8) "many":=Or.inl (by kernel_rfl)
theorem zq4t:Vis (defScope zq8) "places":=Or.inl (by kernel_rfl)
theorem zq67:Vis (defScope zq8) "row":=Or.inl (by kernel_rfl)
theorem zq5g:(defScope zq8).names.lookup ("earliest_begin":Str)=some NameKind.globalImplicit:=by kernel_rfl
theorem zqar:(defScope zq8).names.lookup ("len":Str)=some NameKind.globalImplicit:=by kernel_rfl
theorem zq9d:(defScope zq8).names.lookup ("range":Str)=some NameKind.globalImplicit:=by kernel_rfl
def zqdh {cdv:Value}{A:Around}{outer:List Env}{s:Shared}{H:Hp}{E:XK}(B:Bl mg)(zq2f:Def P w K mg base 1 "earliest_begin" ["row","ahead","end","bound"] zq30)(hr:Room 1 (A.deeper (PyProof.Rows.envOfC "earliest_cut" (defScope zq8) s.heap.objs.size f cdv))) :
  { t:TS // QB (cxOf CX0 P w K mg base ["row","many","bound","places","end","ahead"] "earliest_cut" (defScope zq8) f cdv A outer s H E).nox (defBody zq8) t } :=
 ⟨_,(qb_cons (qs_set (i:=3) zq2t.nd rfl zq8p (.inl rfl) (qe_lst qa_nil))
  (qb_cons (qs_set (i:=4) zq2t.nd rfl zq65 (.inl rfl) (qe_cB (kLen (K:=K) rfl) zqar B.len boot_len' (qa_cons (qv 0 rfl zq67) qa_nil)))
  (qb_mid (qs_for PassesOwn.never rfl (qi_r3 zq9d B.range (qa_cons (qe_op opSub (qv 1 rfl zqa5) qe_int) (qa_cons qe_int (qa_cons (qe_un unNeg qe_int) qa_nil)))) (qg_name (i:=5) zq2t.nd rfl zq9a (.inl rfl)) (qb_cons (qs_set (i:=4) zq2t.nd rfl zq65 (.inl rfl) (qe_def zq2f hr (by decide) zq5g (qa_cons (qv 0 rfl zq67) (qa_cons (qv 5 rfl zq9b) (qa_cons (qv 4 rfl zq66) (qa_cons (qv 2 rfl zq9c) qa_nil))))))
  (qb_one (qs_ex (ke_m1 (K:=K) rfl PySem.F.plainAttrs_list PySem.F.slot_list_append PySem.F.type_list_append mtApp (qv 3 rfl zq4t) (qv 4 rfl zq66))))))
  (qb_one (qs_ret (qe_rev (K:=K) rfl (qv 3 rfl zq4t) (qo_some (qe_un unNeg qe_int))))))))⟩
open M5 M10 M11 M7
def zq3t:Sp:=λvs H Q _=>∃ (r:Addr) (m:Nat) (ns:List Int) (t:Int),vs=[.ref r,.int m,.int t]/\H r=some (.lst (ns.map V.int))/\(∀ n∈ns,0<=n)/\ns.length<=1000/\(∀ n∈ns,n<=t)/\1<=m/\m<=ns.length/\T 0 ns (m-1) 0=some t /\
 ∀ p c H',FirstCut 0 ns t (m-1) 0 c->(∀ n∈c,0<=n/\n<=1000)->H p=none->Same H H'->H' p=some (.lst (c.map V.int))->Q (.ref p) H'
theorem zqd0 (B:Bl mg)(zq2f:Def P w K mg base 1 "earliest_begin" ["row","ahead","end","bound"] zq30)(F:Fun K "earliest_cut" "earliest_cut" zq8 f fd):FnOk P w K mg base CX0 2 f fd ["row","many","bound"] zq3t:=by
 refine F.okq zq2t (λvs H Q E h=>?_) (λcdv A outer s H vs Q E hr h=>?_)
 ·obtain⟨r,m,ns,t,rfl,_⟩:=h;rfl
 obtain⟨r,m,ns,t,rfl,hr0,hnn,hle,hall,hm1,hmn,hT,q⟩:=h
 refine⟨zqdh B zq2f hr,?_⟩
 refine i_newL (by show 0<=sizeLine;decide) λp H1 hp s1 e1=>?_
 refine i_lenI (s1 _ _ hr0) ?_
 refine⟨λσ H'=>Same H H'/\∃ (c:List Int),FirstCut 0 ns t (m-1) 0 c.reverse/\(∀ n∈c,0<=n/\n<=1000)/\H' p=some (.lst (c.map V.int))/\∃ o4 o5,σ=[some (.ref r),some (.int m),some (.int t),some (.ref p),o4,o5],?_,?_⟩
 ·refine⟨rfl,⟨by omega,by omega,by omega,by omega⟩,for_down (λl σ H'=>Same H H'/\l<=m-1/\∃ (x:Nat) (c:List Int),Back ns t m l x/\c.length=l/\(∀ n∈c,0<=n/\n<=1000)/\(∀ i,(l=0\/(m-l-1<=i/\i<x/\seg ns i x<=t))->FirstCut 0 ns t l i c.reverse)/\H' p=some (.lst (c.map V.int))/\∃ o5,σ=[some (.ref r),some (.int m),some (.int t),some (.ref p),some (.int x),o5]) ?_ ?_ ?_⟩
  ·exact⟨s1,Nat.zero_le _,ns.length,[],Back.start ns t m,rfl,by simp,λi _=>FirstCut.nil i,e1,_,rfl⟩
  ·rintro l σ H2 hl ⟨s2,_,x,c,hb,hcl,hc1,hF,e2,o5,rfl⟩
   have hl':l+1<m:=by omega
   have hxl:=hb.le
   have hxge:m-l-1<x:=by
    by_cases z:l=0
    ·have:=hb.at0 z;omega
    ·have:=hb.ge (by omega);omega
   have ea:((m:Int)-1-l)=((m-l-1:Nat):Int):=by omega
   rw[ea]
   refine⟨r,m-l-1,x,t,ns,rfl,s2 _ _ hr0,hxge,by omega,hall,λy h1 h2 h3 h4=>?_⟩
   have hb':=hb.step hnn hl' hmn h1 h2 h3 h4
   refine⟨i_tyL e2,i_appI e2 (by omega) λH3 k3 e3=>?_⟩
   refine⟨s2.new k3 hp,by omega,y,c++[(y:Int)],hb',by simp[hcl],λn hn=>?_,λi hi=>?_,e3,_,rfl⟩
   ·rcases List.mem_append.mp hn with hn | hn
    ·exact hc1 n hn
    ·have:n=(y:Int):=by simpa using hn
     omega
   ·rcases hi with z | ⟨i1,i2,i3⟩
    ·omega
    rw[List.reverse_append,List.reverse_singleton,List.singleton_append]
    obtain⟨v,hv,hvt⟩:=hb'.fit l rfl
    refine FirstCut.step i2 (by omega) ?_ ?_ (λj hj1 hj2=>.inr ?_) (hF y ?_)
    ·simp only[worse];rw[if_pos trivial];exact decide_eq_false (by omega)
    ·rw[hv];simp only[worse];rw[if_pos trivial];exact decide_eq_false (by omega)
    ·cases hTj:T 0 ns l j with
     | none=>rfl
     | some u =>
      have:=hb'.no l rfl j (by omega) hj2 u hTj
      simp only[worse];rw[if_pos trivial];exact decide_eq_true this
    ·by_cases z:l=0
     ·exact .inl z
     ·exact .inr ⟨h1,h2,h3⟩
  ·rintro σ H2 ⟨s2,_,x,c,hb,hcl,hc1,hF,e2,o5,rfl⟩
   have en:((m:Int)-1-0).toNat=m-1:=by omega
   rw[en] at hb hF hcl
   refine⟨s2,c,hF 0 ?_,hc1,e2,_,_,rfl⟩
   by_cases z:m=1
   ·exact .inl (by omega)
   ·obtain⟨h1,h2⟩:=hb.top hnn (by omega) hmn hT
    exact .inr ⟨by omega,h1,h2⟩
 ·rintro σ H2 ⟨s2,c,hF,hc1,e2,o4,o5,rfl⟩
  refine⟨rfl,i_rev (SqL.of e2) λp3 H3 hp3 s3 e3=>q p3 c.reverse H3 hF (λn hn=>hc1 n (by simpa using hn)) (s2.free hp3) (s2.trans s3) ?_⟩
  rw[e3,List.map_reverse]
abbrev zqd:Stmt:=top 23
theorem zq6t:FnScope ["row","many","bound"] ["row","many"] (defScope zqd):=⟨rfl,rfl,rfl,by decide +kernel,rfl,by decide +kernel,by decide +kernel⟩
theorem zq85:Loc (defScope zqd) "bound":=Or.inl (by kernel_rfl)
theorem zq4f:Vis (defScope zqd) "bound":=Or.inl (by kernel_rfl)
theorem zq37:Vis (defScope zqd) "many":=Or.inl (by kernel_rfl)
theorem zq3h:Vis (defScope zqd) "row":=Or.inl (by kernel_rfl)
theorem zq68:(defScope zqd).names.lookup ("check_many":Str)=some NameKind.globalImplicit:=by kernel_rfl
theorem zq5h:(defScope zqd).names.lookup ("earliest_cut":Str)=some NameKind.globalImplicit:=by kernel_rfl
theorem zq5p:(defScope zqd).names.lookup ("least_bound":Str)=some NameKind.globalImplicit:=by kernel_rfl
def zqch {cdv:Value}{A:Around}{outer:List Env}{s:Shared}{H:Hp}{E:XK}(B:Bl mg)(zq1:Def P w K mg base 3 "check_many" ["row","many"] zqn)(zq3n:Def P w K mg base 3 "least_bound" ["row","many"] zq42)(zq38:Def P w K mg base 2 "earliest_cut" ["row","many","bound"] zq3t)(hr:Room 3 (A.deeper (PyProof.Rows.envOfC "least_greatest" (defScope zqd) s.heap.objs.size f cdv))) :
  { t:TS // QB (cxOf CX0 P w K mg base ["row","many","bound"] "least_greatest" (defScope zqd) f cdv A outer s H E).nox (defBody zqd) t } :=
 ⟨_,(qb_cons (qs_ex (qe_def zq1 hr (by decide) zq68 (qa_cons (qv 0 rfl zq3h) (qa_cons (qv 1 rfl zq37) qa_nil))))
  (qb_cons (qs_set (i:=2) zq6t.nd rfl zq85 (.inl rfl) (qe_def zq3n hr (by decide) zq5p (qa_cons (qv 0 rfl zq3h) (qa_cons (qv 1 rfl zq37) qa_nil))))
  (qb_one (qs_ret (qe_tup (qa_cons (qv 2 rfl zq4f) (qa_cons (qe_def zq38 hr (by decide) zq5h (qa_cons (qv 0 rfl zq3h) (qa_cons (qv 1 rfl zq37) (qa_cons (qv 2 rfl zq4f) qa_nil)))) qa_nil)))))))⟩
open M5 M10 M11 M7
def zq31:Sp:=λvs H Q _=>∃ (r:Addr) (m:Nat) (ns:List Int) (t:Int),vs=[.ref r,.int m]/\H r=some (.lst (ns.map V.int))/\RowN ns/\1<=m/\m<=ns.length/\T 0 ns (m-1) 0=some t /\
 ∀ p pc c H',0<=t->t<=120000000000000->FirstCut 0 ns t (m-1) 0 c->(∀ n∈c,0<=n/\n<=1000)->H p=none->H pc=none->Same H H'->H' p=some (.tup [.int t,.ref pc])->H' pc=some (.lst (c.map V.int))->Q (.ref p) H'
theorem zqbn (B:Bl mg)(zq1:Def P w K mg base 3 "check_many" ["row","many"] zqn)(zq3n:Def P w K mg base 3 "least_bound" ["row","many"] zq42)(zq38:Def P w K mg base 2 "earliest_cut" ["row","many","bound"] zq3t)
  (F:Fun K "least_greatest" "least_greatest" zqd f fd):FnOk P w K mg base CX0 4 f fd ["row","many"] zq31:=by
 refine F.okq zq6t (λvs H Q E h=>?_) (λcdv A outer s H vs Q E hr h=>?_)
 ·obtain⟨r,m,ns,t,rfl,_⟩:=h;rfl
 obtain⟨r,m,ns,t,rfl,hr0,rn,hm1,hmn,hT,q⟩:=h
 refine⟨zqch B zq1 zq3n zq38 hr,?_⟩
 have hle:ns.length<=1000:=by have:=rn.le;omega
 refine⟨r,m,_,rfl,hr0,by omega,by rw[List.length_map];omega,?_⟩
 refine⟨r,m,ns,t,rfl,hr0,rn,hm1,hmn,hT,λH1 s1 ht0 htb hall=>?_⟩
 refine⟨r,m,ns,t,rfl,s1 _ _ hr0,rn.nn,hle,hall,hm1,hmn,hT,λpc c H2 hF hc hpc s2 e2=>?_⟩
 refine i_newT (by show 2<=sizeLine;decide) λp H3 hp s3 e3=>?_
 exact q p pc c H3 ht0 htb hF hc ((s1.trans s2).free hp) (s1.free hpc) (s1.trans (s2.trans s3)) e3 (s3 _ _ e2)
abbrev zqh:Stmt:=top 28
theorem zq24:FnScope ["row","bound","ends","total","place","number"] ["row","bound"] (defScope zqh):=⟨rfl,rfl,rfl,by decide +kernel,rfl,by decide +kernel,by decide +kernel⟩
theorem zqbo:Loc (defScope zqh) "ends":=Or.inl (by kernel_rfl)
theorem zqa6:Loc (defScope zqh) "number":=Or.inl (by kernel_rfl)
theorem zqas:Loc (defScope zqh) "place":=Or.inl (by kernel_rfl)
theorem zq3z:Loc (defScope zqh) "total":=Or.inl (by kernel_rfl)
theorem zqat:Vis (defScope zqh) "bound":=Or.inl (by kernel_rfl)
theorem zq6u:Vis (defScope zqh) "ends":=Or.inl (by kernel_rfl)
theorem zqa7:Vis (defScope zqh) "number":=Or.inl (by kernel_rfl)
theorem zqau:Vis (defScope zqh) "place":=Or.inl (by kernel_rfl)
theorem zqci:Vis (defScope zqh) "row":=Or.inl (by kernel_rfl)
theorem zqav:Vis (defScope zqh) "total":=Or.inl (by kernel_rfl)
theorem zq86:(defScope zqh).names.lookup ("enumerate":Str)=some NameKind.globalImplicit:=by kernel_rfl
def zqel {cdv:Value}{A:Around}{outer:List Env}{s:Shared}{H:Hp}{E:XK}(B:Bl mg)(hr:Room 0 (A.deeper (PyProof.Rows.envOfC "short_ends" (defScope zqh) s.heap.objs.size f cdv))) :
  { t:TS // QB (cxOf CX0 P w K mg base ["row","bound","ends","total","place","number"] "short_ends" (defScope zqh) f cdv A outer s H E).nox (defBody zqh) t } :=
 ⟨_,(qb_cons (qs_set (i:=2) zq24.nd rfl zqbo (.inl rfl) (qe_lst qa_nil))
  (qb_cons (qs_set (i:=3) zq24.nd rfl zq3z (.inl rfl) qe_int)
  (qb_mid (qs_for PassesOwn.never rfl (ki_enum (K:=K) rfl zq86 B.enumerate (qa_cons (qv 0 rfl zqci) qa_nil)) (kg_tup (K:=K) rfl rfl (qgs_cons (qg_name (i:=4) zq24.nd rfl zqas (.inl rfl)) (qgs_cons (qg_name (i:=5) zq24.nd rfl zqa6 (.inl rfl)) qgs_nil))) (qb_cons (qs_aug (i:=3) zq24.nd rfl zq3z (.inl rfl) (qv 5 rfl zqa7) ipAdd)
  (qb_one (qs_if (qt_cmp opGe (qv 3 rfl zqav) (qv 1 rfl zqat)) (qb_cons (qs_ex (ke_m1 (K:=K) rfl PySem.F.plainAttrs_list PySem.F.slot_list_append PySem.F.type_list_append mtApp (qv 2 rfl zq6u) (qe_op opAdd (qv 4 rfl zqau) qe_int)))
  (qb_one (qs_set (i:=3) zq24.nd rfl zq3z (.inl rfl) qe_int))) qb_nil))))
  (qb_one (qs_ret (qv 2 rfl zq6u))))))⟩
open M10 in
def zq2p:Sp:=λvs H Q _=>∃ (r:Addr) (b:Int) (ns:List Int),vs=[.ref r,.int b]/\H r=some (.lst (ns.map V.int))/\ns.length<=1000 /\
 ∀ p H',H p=none->Same H H'->H' p=some (.lst ((sends b 0 0 ns).map V.int))->Q (.ref p) H'
open M10 in
theorem zqe3 (B:Bl mg)(F:Fun K "short_ends" "short_ends" zqh f fd):FnOk P w K mg base CX0 1 f fd ["row","bound"] zq2p:=by
 refine F.okq zq24 (λvs H Q E h=>?_) (λcdv A outer s H vs Q E hr h=>?_)
 ·obtain⟨r,b,ns,rfl,_⟩:=h;rfl
 obtain⟨r,b,ns,rfl,hr0,hle,q⟩:=h
 refine⟨zqel B hr,?_⟩
 refine i_newL (by show 0<=sizeLine;decide) λp H1 hp s1 e1=>?_
 refine⟨λσ H'=>Same H H'/\H' p=some (.lst ((sends b 0 0 ns).map V.int))/\∃ o3 o4 o5,σ=[some (.ref r),some (.int b),some (.ref p),o3,o4,o5],?_,?_⟩
 ·refine⟨⟨_,SqL.of (s1 _ _ hr0)⟩,for_en (ns.map V.int) (λi σ H'=>∃ o1 o2,σ=[some (.ref r),some (.int b),some (.ref p),some (.int (stot b 0 (ns.take i))),o1,o2]/\Same H H'/\H' p=some (.lst ((sends b 0 0 (ns.take i)).map V.int))) ?_ ?_ ?_ ?_⟩
  ·exact⟨none,none,rfl,s1,e1⟩
  ·rintro i σ H' _ ⟨o1,o2,rfl,s',e'⟩
   exact SqL.of (s' _ _ hr0)
  ·rintro i x σ H' T H2 hx ⟨o1,o2,rfl,s',e'⟩ hT s2 e2
   obtain⟨z,rfl,hz,_⟩:=vints_at hx
   have hi:i<ns.length:=(List.getElem?_eq_some_iff.mp hz).1
   have hlen:(ns.take i).length=i:=by rw[List.length_take];omega
   have et:=take_snoc hz
   have e3:=s2 _ _ e'
   have ll:(sends b 0 0 (ns.take i)).length<=1000:=by have:=sends_len b (ns.take i) 0 0;omega
   have el:sends b 0 0 (ns.take (i+1))=sends b 0 0 (ns.take i)++(if stot b 0 (ns.take i)+z>=b then [((i+1:Nat):Int)] else []):=by
    rw[et,sends_app,hlen,Nat.zero_add]
    simp only[sends]
   have es:stot b 0 (ns.take (i+1))=if stot b 0 (ns.take i)+z>=b then 0 else stot b 0 (ns.take i)+z:=by
    rw[et,stot_app]
    simp only[stot]
   refine i_unp e2 rfl ?_
   refine dec2 (λc=>?_) (λc=>?_)
   ·have c':stot b 0 (ns.take i)+z>=b:=c
    refine⟨i_tyL e3,i_appI e3 (by omega) λH4 k4 e4=>?_⟩
    refine⟨some (.int i),some (.int z),by rw[es,if_pos c'];rfl,(s'.trans s2).new k4 hp,?_⟩
    rw[e4,el,if_pos c'];rfl
   ·have c':¬ stot b 0 (ns.take i)+z>=b:=c
    refine⟨some (.int i),some (.int z),by rw[es,if_neg c'];rfl,s'.trans s2,?_⟩
    rw[e3,el,if_neg c',List.append_nil]
  ·rintro σ H' ⟨o1,o2,rfl,s',e'⟩
   rw[List.length_map,List.take_length] at e'
   exact⟨s',e',_,_,_,rfl⟩
 ·rintro σ H' ⟨s',e',o3,o4,o5,rfl⟩
  exact q p H' hp s' e'
theorem cut_init (xs:List V)(x:V):cutV (xs++[x]) none (some (-1))=xs:=by
 unfold cutV
 have e1:HT.sIx (xs++[x]).length 0 none=0:=rfl
 have e2:HT.sIx (xs++[x]).length (xs++[x]).length (some (-1))=xs.length:=by
  unfold HT.sIx
  simp only[List.length_append,List.length_cons,List.length_nil]
  rw[if_pos (by decide)]
  omega
 rw[e1,e2,List.drop_zero,Nat.sub_zero,List.take_left' rfl]
abbrev zq6:Stmt:=top 30
theorem zq1t:FnScope ["row","many","low","high","middle"] ["row","many"] (defScope zq6):=⟨rfl,rfl,rfl,by decide +kernel,rfl,by decide +kernel,by decide +kernel⟩
theorem zq4u:Loc (defScope zq6) "high":=Or.inl (by kernel_rfl)
theorem zq57:Loc (defScope zq6) "low":=Or.inl (by kernel_rfl)
theorem zq7s:Loc (defScope zq6) "middle":=Or.inl (by kernel_rfl)
theorem zq4v:Vis (defScope zq6) "high":=Or.inl (by kernel_rfl)
theorem zq3i:Vis (defScope zq6) "low":=Or.inl (by kernel_rfl)
theorem zq4w:Vis (defScope zq6) "many":=Or.inl (by kernel_rfl)
theorem zq2m:Vis (defScope zq6) "middle":=Or.inl (by kernel_rfl)
theorem zq58:Vis (defScope zq6) "row":=Or.inl (by kernel_rfl)
theorem zq9e:(defScope zq6).names.lookup ("len":Str)=some NameKind.globalImplicit:=by kernel_rfl
theorem zq69:(defScope zq6).names.lookup ("short_ends":Str)=some NameKind.globalImplicit:=by kernel_rfl
theorem zq9f:(defScope zq6).names.lookup ("sum":Str)=some NameKind.globalImplicit:=by kernel_rfl
def zqcj {cdv:Value}{A:Around}{outer:List Env}{s:Shared}{H:Hp}{E:XK}(B:Bl mg)(zq1p:Def P w K mg base 1 "short_ends" ["row","bound"] zq2p)(hr:Room 1 (A.deeper (PyProof.Rows.envOfC "greatest_bound" (defScope zq6) s.heap.objs.size f cdv))) :
  { t:TS // QB (cxOf CX0 P w K mg base ["row","many","low","high","middle"] "greatest_bound" (defScope zq6) f cdv A outer s H E).nox (defBody zq6) t } :=
 ⟨_,(qb_cons (qs_set (i:=2) zq1t.nd rfl zq57 (.inl rfl) qe_int)
  (qb_cons (qs_set (i:=3) zq1t.nd rfl zq4u (.inl rfl) (qe_op opFdiv (qe_cB (kSum (K:=K) rfl rfl) zq9f B.sum boot_sum' (qa_cons (qv 0 rfl zq58) qa_nil)) (qv 1 rfl zq4w)))
  (qb_mid (qs_while PassesOwn.never (qt_cmp opLt (qv 2 rfl zq3i) (qv 3 rfl zq4v)) (qb_cons (qs_set (i:=4) zq1t.nd rfl zq7s (.inl rfl) (qe_op opFdiv (qe_op opAdd (qe_op opAdd (qv 2 rfl zq3i) (qv 3 rfl zq4v)) qe_int) qe_int))
  (qb_one (qs_if (qt_cmp opGe (qe_cB (kLen (K:=K) rfl) zq9e B.len boot_len' (qa_cons (qe_def zq1p hr (by decide) zq69 (qa_cons (qv 0 rfl zq58) (qa_cons (qv 4 rfl zq2m) qa_nil))) qa_nil)) (qv 1 rfl zq4w)) (qb_one (qs_set (i:=2) zq1t.nd rfl zq57 (.inl rfl) (qv 4 rfl zq2m))) (qb_one (qs_set (i:=3) zq1t.nd rfl zq4u (.inl rfl) (qe_op opSub (qv 4 rfl zq2m) qe_int)))))))
  (qb_one (qs_ret (qv 2 rfl zq3i))))))⟩
open M5 M10 M11
theorem sum_seg0 (ns:List Int):ns.sum=seg ns 0 ns.length:=by unfold seg;rw[List.take_length,List.drop_zero]
theorem G_len0 (b:Int)(ns:List Int):(sends b 0 0 ns).length=G b ns 0:=by unfold G cnt;rw[List.drop_zero]
def zq32:Sp:=λvs H Q _=>∃ (r:Addr) (m:Nat) (ns:List Int) (t:Int),vs=[.ref r,.int m]/\H r=some (.lst (ns.map V.int))/\RowN ns/\1<=m/\m<=ns.length/\T 1 ns (m-1) 0=some t/\∀ H',Same H H'->0<=t->t<=120000000000000->Q (.int t) H'
theorem zqbp (B:Bl mg)(zq1p:Def P w K mg base 1 "short_ends" ["row","bound"] zq2p)(F:Fun K "greatest_bound" "greatest_bound" zq6 f fd):FnOk P w K mg base CX0 2 f fd ["row","many"] zq32:=by
 refine F.okq zq1t (λvs H Q E h=>?_) (λcdv A outer s H vs Q E hr h=>?_)
 ·obtain⟨r,m,ns,t,rfl,_⟩:=h;rfl
 obtain⟨r,m,ns,t,rfl,hr0,rn,hm1,hmn,hT,q⟩:=h
 refine⟨zqcj B zq1p hr,?_⟩
 have hnn:=rn.nn
 have hle:ns.length<=1000:=by have:=rn.le;omega
 have hiff:∀ b,b<=t↔m<=G b ns 0:=λb=>by
  have:=T_iff hnn b (k:=m-1) (i:=0) (by omega) hT
  rw[show m-1+1=m by omega] at this;exact this
 have ht0:0<=t:=(hiff 0).mpr (by rw[G_zero hnn];exact hmn)
 have hsum:=row_sum' rn
 have htm:t<=ns.sum / m:=by
  rw[Int.le_ediv_iff_mul_le (by omega)]
  have h1:=G_sum hnn ht0 ns.length 0 (by omega) (by omega)
  have h2:=(hiff t).mp (Int.le_refl t)
  rw[<- sum_seg0] at h1
  have h3:t*(m:Int)<=t*(G t ns 0:Int):=Int.mul_le_mul_of_nonneg_left (by omega) ht0
  omega
 have htb:t<=120000000000000:=by
  have h1:=G_sum hnn ht0 ns.length 0 (by omega) (by omega)
  have h2:=(hiff t).mp (Int.le_refl t)
  rw[<- sum_seg0] at h1
  have h3:t*1<=t*(G t ns 0:Int):=Int.mul_le_mul_of_nonneg_left (by omega) ht0
  omega
 have hmI:(0:Int)<m:=by omega
 refine i_sum (SqL.of hr0) ⟨⟨by omega,by omega⟩,?_⟩
 have hhi:ns.sum / (m:Int)<=120000000000000:=by
  have:=Int.ediv_le_self (a:=ns.sum) (m:Int) hsum.1
  omega
 refine⟨λσ H'=>Same H H'/\∃ o3 o4,σ=[some (.ref r),some (.int m),some (.int t),o3,o4],?_,?_⟩
 ·refine while_m (λmm σ H'=>∃ lo hi:Int,∃ o4,0<=lo/\lo<=t/\t<=hi/\hi<=120000000000000/\mm=(hi-lo).toNat/\Same H H'/\σ=[some (.ref r),some (.int m),some (.int lo),some (.int hi),o4]) _ ⟨0,ns.sum / m,_,Int.le_refl 0,ht0,htm,hhi,rfl,Same.refl H,rfl⟩ ?_
  rintro mm σ H1 ⟨lo,hi,o4,h1,h2,h3,h4,rfl,s1,rfl⟩
  refine dec2 (λc=>?_) (λc=>?_)
  ·refine⟨⟨by decide,by decide⟩,r,(lo+hi+1) / 2,ns,rfl,s1 _ _ hr0,hle,λp H2 hp s2 e2=>?_⟩
   refine i_lenI e2 ?_
   rw[G_len0]
   have hi2:=hiff ((lo+hi+1) / 2)
   refine dec2 (λc2=>?_) (λc2=>?_)
   ·have:=hi2.mpr (by omega)
    exact⟨(hi-(lo+hi+1) / 2).toNat,by omega,(lo+hi+1) / 2,hi,_,by omega,this,h3,h4,rfl,s1.trans s2,rfl⟩
   ·have:¬ (lo+hi+1) / 2<=t:=λz=>c2 (by have:=hi2.mp z;omega)
    exact⟨((lo+hi+1) / 2-1-lo).toNat,by omega,lo,(lo+hi+1) / 2-1,_,h1,h2,by omega,by omega,rfl,s1.trans s2,rfl⟩
  ·have:lo=t:=by omega
   subst this
   exact⟨s1,_,_,rfl⟩
 ·rintro σ H1 ⟨s1,o3,o4,rfl⟩
  exact q H1 s1 ht0 htb
abbrev zqe:Stmt:=top 29
theorem zq6v:FnScope ["row","many","bound"] ["row","many"] (defScope zqe):=⟨rfl,rfl,rfl,by decide +kernel,rfl,by decide +kernel,by decide +kernel⟩
theorem zq87:Loc (defScope zqe) "bound":=Or.inl (by kernel_rfl)
theorem zq4g:Vis (defScope zqe) "bound":=Or.inl (by kernel_rfl)
theorem zq39:Vis (defScope zqe) "many":=Or.inl (by kernel_rfl)
theorem zq3j:Vis (defScope zqe) "row":=Or.inl (by kernel_rfl)
theorem zq6a:(defScope zqe).names.lookup ("check_many":Str)=some NameKind.globalImplicit:=by kernel_rfl
theorem zq51:(defScope zqe).names.lookup ("greatest_bound":Str)=some NameKind.globalImplicit:=by kernel_rfl
theorem zq6b:(defScope zqe).names.lookup ("short_ends":Str)=some NameKind.globalImplicit:=by kernel_rfl
def zqck {cdv:Value}{A:Around}{outer:List Env}{s:Shared}{H:Hp}{E:XK}(B:Bl mg)(zq1:Def P w K mg base 3 "check_many" ["row","many"] zqn)(zq2g:Def P w K mg base 2 "greatest_bound" ["row","many"] zq32)(zq1p:Def P w K mg base 1 "short_ends" ["row","bound"] zq2p)(hr:Room 3 (A.deeper (PyProof.Rows.envOfC "greatest_least" (defScope zqe) s.heap.objs.size f cdv))) :
  { t:TS // QB (cxOf CX0 P w K mg base ["row","many","bound"] "greatest_least" (defScope zqe) f cdv A outer s H E).nox (defBody zqe) t } :=
 ⟨_,(qb_cons (qs_ex (qe_def zq1 hr (by decide) zq6a (qa_cons (qv 0 rfl zq3j) (qa_cons (qv 1 rfl zq39) qa_nil))))
  (qb_cons (qs_set (i:=2) zq6v.nd rfl zq87 (.inl rfl) (qe_def zq2g hr (by decide) zq51 (qa_cons (qv 0 rfl zq3j) (qa_cons (qv 1 rfl zq39) qa_nil))))
  (qb_one (qs_ret (qe_tup (qa_cons (qv 2 rfl zq4g) (qa_cons (ke_slice (K:=K) rfl (qe_def zq1p hr (by decide) zq6b (qa_cons (qv 0 rfl zq3j) (qa_cons (qv 2 rfl zq4g) qa_nil))) qo_none (qo_some (qe_op opSub (qv 1 rfl zq39) qe_int))) qa_nil)))))))⟩
open M5 M10 M11
def zq33:Sp:=λvs H Q _=>∃ (r:Addr) (m:Nat) (ns:List Int) (t:Int),vs=[.ref r,.int m]/\H r=some (.lst (ns.map V.int))/\RowN ns/\1<=m/\m<=ns.length/\T 1 ns (m-1) 0=some t /\
 ∀ p pc H',0<=t->t<=120000000000000->H p=none->H pc=none->Same H H'->H' p=some (.tup [.int t,.ref pc])->H' pc=some (.lst (((sends t 0 0 ns).take (m-1)).map V.int))->Q (.ref p) H'
theorem zqbq (B:Bl mg)(zq1:Def P w K mg base 3 "check_many" ["row","many"] zqn)(zq2g:Def P w K mg base 2 "greatest_bound" ["row","many"] zq32)(zq1p:Def P w K mg base 1 "short_ends" ["row","bound"] zq2p)
  (F:Fun K "greatest_least" "greatest_least" zqe f fd):FnOk P w K mg base CX0 4 f fd ["row","many"] zq33:=by
 refine F.okq zq6v (λvs H Q E h=>?_) (λcdv A outer s H vs Q E hr h=>?_)
 ·obtain⟨r,m,ns,t,rfl,_⟩:=h;rfl
 obtain⟨r,m,ns,t,rfl,hr0,rn,hm1,hmn,hT,q⟩:=h
 refine⟨zqck B zq1 zq2g zq1p hr,?_⟩
 have hle:ns.length<=1000:=by have:=rn.le;omega
 refine⟨r,m,_,rfl,hr0,by omega,by rw[List.length_map];omega,?_⟩
 refine⟨r,m,ns,t,rfl,hr0,rn,hm1,hmn,hT,λH1 s1 ht0 htb=>?_⟩
 refine⟨r,t,ns,rfl,s1 _ _ hr0,hle,λp2 H2 hp2 s2 e2=>?_⟩
 refine i_sl (SqL.of e2) λpc H3 hpc s3 e3=>?_
 refine i_newT (by show 2<=sizeLine;decide) λp H4 hp s4 e4=>?_
 refine q p pc H4 ht0 htb ((s1.trans (s2.trans s3)).free hp) ((s1.trans s2).free hpc) (s1.trans (s2.trans (s3.trans s4))) e4 ?_
 rw[s4 _ _ e3,cutV_ints]
 have e1:HT.sIx (sends t 0 0 ns).length 0 none=0:=rfl
 have e2':((m:Int)-1)=((m-1:Nat):Int):=by omega
 rw[e1,e2',HT.sIx_nat,List.drop_zero,Nat.sub_zero]
 congr 3
 by_cases c:m-1<=(sends t 0 0 ns).length
 ·rw[Nat.min_eq_left c]
 ·rw[Nat.min_eq_right (by omega),List.take_of_length_le (Nat.le_refl _),List.take_of_length_le (by omega)]
abbrev zql:Stmt:=top 34
theorem zq7x:FnScope ["row","ahead"] ["row"] (defScope zql):=⟨rfl,rfl,rfl,by decide +kernel,rfl,by decide +kernel,by decide +kernel⟩
theorem zq9g:Loc (defScope zql) "ahead":=Or.inr (by kernel_rfl)
theorem zq9h:Vis (defScope zql) "ahead":=Or.inr (Or.inl (by kernel_rfl))
theorem zqaw:Vis (defScope zql) "row":=Or.inl (by kernel_rfl)
theorem zqax:(defScope zql).names.lookup ("len":Str)=some NameKind.globalImplicit:=by kernel_rfl
theorem zq9i:(defScope zql).names.lookup ("range":Str)=some NameKind.globalImplicit:=by kernel_rfl
theorem zq8q:(defScope zql).names.lookup ("sorted":Str)=some NameKind.globalImplicit:=by kernel_rfl
theorem zq73:(defScope zql).names.lookup ("sums_ahead":Str)=some NameKind.globalImplicit:=by kernel_rfl
def zqdi {cdv:Value}{A:Around}{outer:List Env}{s:Shared}{H:Hp}{E:XK}(B:Bl mg)(zqg:Def P w K mg base 1 "sums_ahead" ["row"] zq1b)(hr:Room 1 (A.deeper (PyProof.Rows.envOfC "stretch_sums" (defScope zql) s.heap.objs.size f cdv))) :
  { t:TS // QB (cxOf CX0 P w K mg base ["row","ahead"] "stretch_sums" (defScope zql) f cdv A outer s H E).nox (defBody zql) t } :=
 ⟨_,(qb_cons (qs_set (i:=1) zq7x.nd rfl zq9g (.inl rfl) (qe_def zqg hr (by decide) zq73 (qa_cons (qv 0 rfl zqaw) qa_nil)))
  (qb_one (qs_ret (qe_sc ["end","begin","ahead"] [some 1] rfl zq8q B.sorted (qi_r2 zq9i B.range (qa_cons qe_int (qa_cons (qe_cB (kLen (K:=K) rfl) zqax B.len boot_len' (qa_cons (qv 1 rfl zq9h) qa_nil)) qa_nil))) (λ_ _ _ _ _ _=>(qg_name (i:=0) (show (["end","begin","ahead"]:List Str).Nodup by decide +kernel) rfl (by first | exact Or.inl rfl | exact Or.inr rfl) (by first | exact .inl rfl | exact .inr rfl))) (λ_ _ _ _ _ _=>(qi_r1 rfl B.range (qa_cons (qv 0 rfl (by first | exact Or.inl rfl | exact Or.inr (Or.inl rfl) | exact Or.inr (Or.inr rfl))) qa_nil))) (λ_ _ _ _ _ _=>(qg_name (i:=1) (show (["end","begin","ahead"]:List Str).Nodup by decide +kernel) rfl (by first | exact Or.inl rfl | exact Or.inr rfl) (by first | exact .inl rfl | exact .inr rfl))) (λ_ _ _ _ _ _=>(qe_op opSub (ke_ix (K:=K) rfl (qv 2 rfl (by first | exact Or.inl rfl | exact Or.inr (Or.inl rfl) | exact Or.inr (Or.inr rfl))) (qv 0 rfl (by first | exact Or.inl rfl | exact Or.inr (Or.inl rfl) | exact Or.inr (Or.inr rfl))) (λ_ _=>rfl)) (ke_ix (K:=K) rfl (qv 2 rfl (by first | exact Or.inl rfl | exact Or.inr (Or.inl rfl) | exact Or.inr (Or.inr rfl))) (qv 1 rfl (by first | exact Or.inl rfl | exact Or.inr (Or.inl rfl) | exact Or.inr (Or.inr rfl))) (λ_ _=>rfl))))))))⟩
open M25
def Strs (ns ms:List Int):Prop:=ms.Nodup/\(∀ k,k∈ms↔∃ i e,i<e/\e<=ns.length/\k=S ns e-S ns i)/\ms.Pairwise (·<=·)
def zq3u:Sp:=λvs H Q _=>∃ (r:Addr) (ns:List Int),vs=[.ref r]/\H r=some (.lst (ns.map V.int))/\1<=ns.length/\ns.length<=30 /\
 ∀ (p:Addr) (ms:List Int) (H':Hp),Strs ns ms->ms.length<=1000->H p=none->Same H H'->H' p=some (.lst (ms.map V.int))->Q (.ref p) H'
theorem zqd1 (B:Bl mg)(zqg:Def P w K mg base 1 "sums_ahead" ["row"] zq1b)(F:Fun K "stretch_sums" "stretch_sums" zql f fd):FnOk P w K mg base CX0 2 f fd ["row"] zq3u:=by
 refine F.okq zq7x (λvs H Q E h=>?_) (λcdv A outer s H vs Q E hr h=>?_)
 ·obtain⟨r,ns,rfl,_⟩:=h;rfl
 obtain⟨r,ns,rfl,hr0,n1,n2,q⟩:=h
 refine⟨zqdi B zqg hr,?_⟩
 refine⟨r,ns,rfl,hr0,by omega,λp1 H1 hp1 s1 e1=>?_⟩
 have hpl:(pre ns (ns.length+1)).length=ns.length+1:=by simp[pre]
 refine i_lenI e1 ⟨⟨by decide,by decide,by omega,by omega⟩,1,ns.length,ns.length,λi=>i+1,λi j=>S ns (i+1)-S ns j,?_,λi hi=>hi,?_,λi o H2 hi s2=>?_,λi j H2 hi hj s2=>?_,λp H' ms h1 h2 h3 hml hp s' e'=>?_⟩
 ·rw[hpl];congr 1;omega
 ·exact Nat.le_trans (Nat.mul_le_mul n2 n2) (by decide)
 ·refine⟨⟨by omega,by omega⟩,?_,rfl⟩
  show Itr 0 _=Itr 0 (i+1)
  congr 1;omega
 ·have hj:j<i+1:=hj
  have e2:=s2 _ _ e1
  have b1:(1+(i:Int))<(pre ns (ns.length+1)).length:=by omega
  refine i_ixI e2 (by omega) b1 (i_ixI e2 (by omega) (by omega) ⟨?_,rfl⟩)
  rw[show (1+(i:Int)).toNat=i+1 by omega,show (0+(j:Int)).toNat=j by omega,pre_getD (by omega),pre_getD (by omega)]
 ·refine q p ms H' ⟨h1,λk=>(h2 k).trans ?_,h3⟩ hml (s1.free hp) (s1.trans s') e'
  constructor
  ·rintro⟨i,j,h4,h5,h6⟩
   have h5:j<i+1:=h5
   exact⟨j,i+1,by omega,by omega,h6⟩
  ·rintro⟨i,e,h4,h5,h6⟩
   exact⟨e-1,i,by omega,(by omega:i<e-1+1),by show k=S ns (e-1+1)-S ns i;rw[show e-1+1=e by omega];exact h6⟩
abbrev zq3:Stmt:=top 33
theorem zq16:FnScope ["row","many","sums","greatest_low","least_high","lows","highs","bounds","at","low"] ["row","many"] (defScope zq3):=⟨rfl,rfl,rfl,by decide +kernel,rfl,by decide +kernel,by decide +kernel⟩
theorem zq7h:Loc (defScope zq3) "at":=Or.inl (by kernel_rfl)
theorem zq9j:Loc (defScope zq3) "bounds":=Or.inl (by kernel_rfl)
theorem zq6j:Loc (defScope zq3) "greatest_low":=Or.inr (by kernel_rfl)
theorem zqa8:Loc (defScope zq3) "highs":=Or.inl (by kernel_rfl)
theorem zq7i:Loc (defScope zq3) "least_high":=Or.inr (by kernel_rfl)
theorem zqbr:Loc (defScope zq3) "low":=Or.inl (by kernel_rfl)
theorem zqay:Loc (defScope zq3) "lows":=Or.inl (by kernel_rfl)
theorem zqaz:Loc (defScope zq3) "sums":=Or.inl (by kernel_rfl)
theorem zq7j:Vis (defScope zq3) "at":=Or.inl (by kernel_rfl)
theorem zq59:Vis (defScope zq3) "bounds":=Or.inl (by kernel_rfl)
theorem zq5n:Vis (defScope zq3) "highs":=Or.inl (by kernel_rfl)
theorem zq6w:Vis (defScope zq3) "low":=Or.inl (by kernel_rfl)
theorem zqb0:Vis (defScope zq3) "lows":=Or.inl (by kernel_rfl)
theorem zq40:Vis (defScope zq3) "many":=Or.inl (by kernel_rfl)
theorem zq34:Vis (defScope zq3) "row":=Or.inl (by kernel_rfl)
theorem zq6c:Vis (defScope zq3) "sums":=Or.inl (by kernel_rfl)
theorem zq6k:(defScope zq3).names.lookup ("cuts_between":Str)=some NameKind.globalImplicit:=by kernel_rfl
theorem zq5q:(defScope zq3).names.lookup ("greatest_least":Str)=some NameKind.globalImplicit:=by kernel_rfl
theorem zq5r:(defScope zq3).names.lookup ("least_greatest":Str)=some NameKind.globalImplicit:=by kernel_rfl
theorem zq6l:(defScope zq3).names.lookup ("stretch_sums":Str)=some NameKind.globalImplicit:=by kernel_rfl
def zqe4 {cdv:Value}{A:Around}{outer:List Env}{s:Shared}{H:Hp}{E:XK}(B:Bl mg)(zq3a:Def P w K mg base 2 "stretch_sums" ["row"] zq3u)(zq2h:Def P w K mg base 4 "greatest_least" ["row","many"] zq33)(zq2i:Def P w K mg base 4 "least_greatest" ["row","many"] zq31)(zq3b:Def P w K mg base 4 "cuts_between" ["row","many","low","high"] zq3s)(hr:Room 4 (A.deeper (PyProof.Rows.envOfC "near_bounds" (defScope zq3) s.heap.objs.size f cdv))) :
  { t:TS // QB (cxOf CX0 P w K mg base ["row","many","sums","greatest_low","least_high","lows","highs","bounds","at","low"] "near_bounds" (defScope zq3) f cdv A outer s H E).nox (defBody zq3) t } :=
 ⟨_,(qb_cons (qs_set (i:=2) zq16.nd rfl zqaz (.inl rfl) (qe_def zq3a hr (by decide) zq6l (qa_cons (qv 0 rfl zq34) qa_nil)))
  (qb_cons (qs_set (i:=3) zq16.nd rfl zq6j (.inl rfl) (ke_ix (K:=K) rfl (qe_def zq2h hr (by decide) zq5q (qa_cons (qv 0 rfl zq34) (qa_cons (qv 1 rfl zq40) qa_nil))) qe_int (λ_ _=>rfl)))
  (qb_cons (qs_set (i:=4) zq16.nd rfl zq7i (.inl rfl) (ke_ix (K:=K) rfl (qe_def zq2i hr (by decide) zq5r (qa_cons (qv 0 rfl zq34) (qa_cons (qv 1 rfl zq40) qa_nil))) qe_int (λ_ _=>rfl)))
  (qb_cons (qs_cp ["low","greatest_low"] [none,some 3] (i:=5) rfl zq16.nd rfl zqay (.inl rfl) (ki_list (K:=K) rfl (qv 2 rfl zq6c)) (λ_ _ _ _ _ _=>(qg_name (i:=0) (show (["low","greatest_low"]:List Str).Nodup by decide +kernel) rfl (by first | exact Or.inl rfl | exact Or.inr rfl) (by first | exact .inl rfl | exact .inr rfl))) (λ_ _ _ _ _ _=>qif_one (qt_cmp opLe (qv 0 rfl (by first | exact Or.inl rfl | exact Or.inr (Or.inl rfl) | exact Or.inr (Or.inr rfl))) (qv 1 rfl (by first | exact Or.inl rfl | exact Or.inr (Or.inl rfl) | exact Or.inr (Or.inr rfl))))) (λ_ _ _ _ _ _=>(qv 0 rfl (by first | exact Or.inl rfl | exact Or.inr (Or.inl rfl) | exact Or.inr (Or.inr rfl)))))
  (qb_cons (qs_cp ["high","least_high"] [none,some 4] (i:=6) rfl zq16.nd rfl zqa8 (.inl rfl) (ki_list (K:=K) rfl (qv 2 rfl zq6c)) (λ_ _ _ _ _ _=>(qg_name (i:=0) (show (["high","least_high"]:List Str).Nodup by decide +kernel) rfl (by first | exact Or.inl rfl | exact Or.inr rfl) (by first | exact .inl rfl | exact .inr rfl))) (λ_ _ _ _ _ _=>qif_one (qt_cmp opGe (qv 0 rfl (by first | exact Or.inl rfl | exact Or.inr (Or.inl rfl) | exact Or.inr (Or.inr rfl))) (qv 1 rfl (by first | exact Or.inl rfl | exact Or.inr (Or.inl rfl) | exact Or.inr (Or.inr rfl))))) (λ_ _ _ _ _ _=>(qv 0 rfl (by first | exact Or.inl rfl | exact Or.inr (Or.inl rfl) | exact Or.inr (Or.inr rfl)))))
  (qb_cons (qs_set (i:=7) zq16.nd rfl zq9j (.inl rfl) (qe_lst qa_nil))
  (qb_cons (qs_set (i:=8) zq16.nd rfl zq7h (.inl rfl) qe_int)
  (qb_mid (qs_for PassesOwn.never rfl (ki_list (K:=K) rfl (qv 5 rfl zqb0)) (qg_name (i:=9) zq16.nd rfl zqbr (.inl rfl)) (qb_mid (qs_while PassesOwn.never (qt_cmp (kEqG (K:=K) rfl hr) (qe_def zq3b hr (by decide) zq6k (qa_cons (qv 0 rfl zq34) (qa_cons (qv 1 rfl zq40) (qa_cons (qv 9 rfl zq6w) (qa_cons (ke_ix (K:=K) rfl (qv 6 rfl zq5n) (qv 8 rfl zq7j) (λ_ _=>rfl)) qa_nil))))) qe_int) (qb_one (qs_aug (i:=8) zq16.nd rfl zq7h (.inl rfl) qe_int ipAdd)))
  (qb_one (qs_ex (ke_m1 (K:=K) rfl PySem.F.plainAttrs_list PySem.F.slot_list_append PySem.F.type_list_append mtApp (qv 7 rfl zq59) (qe_tup (qa_cons (qv 9 rfl zq6w) (qa_cons (ke_ix (K:=K) rfl (qv 6 rfl zq5n) (qv 8 rfl zq7j) (λ_ _=>rfl)) qa_nil))))))))
  (qb_one (qs_ret (qv 7 rfl zq59)))))))))))⟩
open M25 M14 M49
structure PZ (H:Hp)(p:Addr)(ps:List Addr)(rs:List (Int×Int)):Prop where
 at_:H p=some (.lst (ps.map V.ref))
 it:Paired (λa (r:Int×Int)=>H a=some (.tup [.int r.1,.int r.2])) ps rs
theorem PZ.same {H H':Hp}{p:Addr}{ps:List Addr}{rs:List (Int×Int)}(h:PZ H p ps rs)(s:Same H H'):PZ H' p ps rs:=⟨s _ _ h.at_,pair_imp h.it λa ha b e=>s _ _ e⟩
theorem PZ.add {H H3 H4:Hp}{p q:Addr}{ps:List Addr}{rs:List (Int×Int)}{f g:Int}(h:PZ H p ps rs)(s:Same H H3)(e3:H3 q=some (.tup [.int f,.int g]))(k:Kp [p] H3 H4)(e4:H4 p=some (.lst (ps.map V.ref++[.ref q]))):PZ H4 p (ps++[q]) (rs++[(f,g)]):=by
 have hp3:=s _ _ h.at_
 have ne:∀ a xs,H3 a=some (.tup xs)->a≠p:=λa xs e z=>by rw[z,hp3] at e;cases e
 refine⟨by rw[e4,List.map_append];rfl,?_⟩
 exact pair_snoc (F:=λa (r:Int×Int)=>H4 a=some (.tup [.int r.1,.int r.2])) (b:=(f,g)) (k.one (ne _ _ e3) e3) (pair_imp h.it λa ha b e=>k.one (ne _ _ (s _ _ e)) (s _ _ e))
theorem str_lt {ms:List Int}(h1:ms.Nodup)(h2:ms.Pairwise (·<=·))(f:Int->Bool):(ms.filter f).Pairwise (·<·):=by
 refine List.Pairwise.filter f ((h2.and h1).imp λh=>?_)
 have:=h.1;have:=h.2
 omega
def zq43:Sp:=λvs H Q _=>∃ (r:Addr) (m:Nat) (ns:List Int),vs=[.ref r,.int m]/\H r=some (.lst (ns.map V.int))/\RowN ns/\ns.length<=30/\1<=m/\m<=ns.length /\
 ∀ (p:Addr) (ps:List Addr) (bs:List (Int×Int)) (H':Hp),PZ H' p ps bs->Nb ns m bs->bs≠[]->bs.length<=1000->H p=none->Same H H'->Q (.ref p) H'
theorem zqdj (B:Bl mg)(zq3a:Def P w K mg base 2 "stretch_sums" ["row"] zq3u)(zq2h:Def P w K mg base 4 "greatest_least" ["row","many"] zq33)(zq2i:Def P w K mg base 4 "least_greatest" ["row","many"] zq31)(zq3b:Def P w K mg base 4 "cuts_between" ["row","many","low","high"] zq3s)(F:Fun K "near_bounds" "near_bounds" zq3 f fd):FnOk P w K mg base CX0 5 f fd ["row","many"] zq43:=by
 refine F.okq zq16 (λvs H Q E h=>?_) (λcdv A outer s H vs Q E hr h=>?_)
 ·obtain⟨r,m,ns,rfl,_⟩:=h;rfl
 obtain⟨r,m,ns,rfl,hr0,rn,n30,m1,mn,q⟩:=h
 refine⟨zqe4 B zq3a zq2h zq2i zq3b hr,?_⟩
 have hle:=rn.le
 have hn1:=rn.ne
 obtain⟨t,hT0⟩:=M11.T_some (w:=0) (ns:=ns) (k:=m-1) (i:=0) (by omega)
 obtain⟨g,hT1⟩:=M11.T_some (w:=1) (ns:=ns) (k:=m-1) (i:=0) (by omega)
 refine⟨r,ns,rfl,hr0,hn1,n30,λp1 ms H1 ⟨hnd,hmem,hsr⟩ hml hp1 s1 e1=>?_⟩
 have hr1:=s1 _ _ hr0
 refine⟨r,m,ns,g,rfl,hr1,rn,m1,mn,hT1,λp2 pc2 H2 _ _ hp2 hpc2 s2 e2 ec2=>?_⟩
 refine i_ixT 0 e2 rfl rfl ?_
 have hr2:=s2 _ _ hr1
 refine⟨r,m,ns,t,rfl,hr2,rn,m1,mn,hT0,λp3 pc3 c3 H3 _ _ _ _ hp3 hpc3 s3 e3 ec3=>?_⟩
 refine i_ixT 0 e3 rfl rfl ?_
 have hr3:=s3 _ _ hr2
 have e13:=s3 _ _ (s2 _ _ e1)
 have s13:=s1.trans (s2.trans s3)
 refine⟨⟨_,SqL.of e13⟩,comp_lst (ms.map V.int) (λk D σ H' ys=>ys=((ms.take k).filter λx=>decide (x<=g)).map V.int/\Same H3 H'/\∃ o,σ=[o,some (.int g)]) ?_ ?_ ?_ ?_⟩
 ·intro D H' hD s' e'
  exact⟨rfl,s',_,rfl⟩
 ·rintro k D σ H' ys hD ⟨_,s',_⟩
  exact SqL.of (s' _ _ e13)
 ·rintro k x D σ H' ys hx hD ⟨rfl,s',o,rfl⟩ eD
  obtain⟨z,rfl,hz,_⟩:=vints_at hx
  have hkl:k<ms.length:=(List.getElem?_eq_some_iff.mp hz).1
  have etk:ms.take (k+1)=ms.take k++[z]:=by rw[List.take_add_one,hz];rfl
  refine dec2 (λc=>⟨eD,sz_lt ?_,λH6 k6 e6=>⟨?_,s'.new k6 hD,_,rfl⟩⟩) (λc=>⟨eD,?_,s',_,rfl⟩)
  ·rw[List.length_map]
   exact Nat.le_trans (List.length_filter_le _ _) (by rw[List.length_take];omega)
  ·rw[etk,List.filter_append,List.map_append,List.filter_cons_of_pos (by simpa using c)];rfl
  ·rw[etk,List.filter_append,List.filter_cons_of_neg (by simpa using c)];simp
 rintro p4 σ H4 ys hp4 ⟨rfl,s4,_⟩ e4
 rw[List.take_of_length_le (by simp)] at e4
 have e14:=s4 _ _ e13
 have hr4:=s4 _ _ hr3
 refine⟨⟨_,SqL.of e14⟩,comp_lst (ms.map V.int) (λk D σ H' ys=>ys=((ms.take k).filter λx=>decide (t<=x)).map V.int/\Same H4 H'/\∃ o,σ=[o,some (.int t)]) ?_ ?_ ?_ ?_⟩
 ·intro D H' hD s' e'
  exact⟨rfl,s',_,rfl⟩
 ·rintro k D σ H' ys hD ⟨_,s',_⟩
  exact SqL.of (s' _ _ e14)
 ·rintro k x D σ H' ys hx hD ⟨rfl,s',o,rfl⟩ eD
  obtain⟨z,rfl,hz,_⟩:=vints_at hx
  have hkl:k<ms.length:=(List.getElem?_eq_some_iff.mp hz).1
  have etk:ms.take (k+1)=ms.take k++[z]:=by rw[List.take_add_one,hz];rfl
  refine dec2 (λc=>⟨eD,sz_lt ?_,λH6 k6 e6=>⟨?_,s'.new k6 hD,_,rfl⟩⟩) (λc=>⟨eD,?_,s',_,rfl⟩)
  ·rw[List.length_map]
   exact Nat.le_trans (List.length_filter_le _ _) (by rw[List.length_take];omega)
  ·rw[etk,List.filter_append,List.map_append,List.filter_cons_of_pos (by simpa using c)];rfl
  ·rw[etk,List.filter_append,List.filter_cons_of_neg (by simpa using c)];simp
 rintro p5 σ H5 ys hp5 ⟨rfl,s5,_⟩ e5
 rw[List.take_of_length_le (by simp)] at e5
 have e45:=s5 _ _ e4
 have hr5:=s5 _ _ hr4
 have hlt:=str_lt hnd hsr λx=>decide (t<=x)
 have hlo:=str_lt hnd hsr λx=>decide (x<=g)
 have hlm:(ms.filter λx=>decide (x<=g)).length<=1000:=Nat.le_trans (List.length_filter_le _ _) hml
 have hhm:(ms.filter λx=>decide (t<=x)).length<=1000:=Nat.le_trans (List.length_filter_le _ _) hml
 generalize hL:(ms.filter λx=>decide (x<=g))=L at e45 hlo hlm
 generalize hG:(ms.filter λx=>decide (t<=x))=G at e5 hlt hhm
 have cntle:∀ {l l' h:Int},l<=l'->0<cnt ns l' h m 0->0<cnt ns l h m 0:=λ{l l' h} hll hc=>by
  obtain⟨cs,c1,c2,c3⟩:=(cnt_cut hn1 m1).mp hc
  exact(cnt_cut hn1 m1).mpr ⟨cs,c1,c2,within_mono c3 hll (Int.le_refl _)⟩
 have hfeas:∀ l∈L,∃ j x,G[j]?=some x/\0<cnt ns l x m 0:=λl hl=>by
  rw[<- hL,List.mem_filter] at hl
  obtain⟨cs,a,b,c1,c2,c3,c4,c5,c6⟩:=feas rn.nn hn1 m1 hT1 (of_decide_eq_true hl.2)
  have hb:b∈G:=by
   rw[<- hG,List.mem_filter]
   exact⟨(hmem b).mpr (cut_str hn1 c1 c4),decide_eq_true (low_high rn.nn hn1 m1 hT0 hT1 c1 c2 c5 c3 c4).2⟩
  obtain⟨j,hj⟩:=List.mem_iff_getElem?.mp hb
  exact⟨j,b,hj,(cnt_cut hn1 m1).mpr ⟨cs,c1,c2,within_mono c5 c6 (Int.le_refl _)⟩⟩
 have hLne:L≠[]:=λz=>by
  obtain⟨cs,a,b,c1,c2,c3,c4,c5,c6⟩:=feas rn.nn hn1 m1 hT1 (Int.le_refl g)
  have:a∈L:=by
   rw[<- hL,List.mem_filter]
   exact⟨(hmem a).mpr (cut_str hn1 c1 c3),decide_eq_true (low_high rn.nn hn1 m1 hT0 hT1 c1 c2 c5 c3 c4).1⟩
  rw[z] at this;cases this
 refine i_newL (by show 0<=sizeLine;decide) λp6 H6 hp6 s6 e6=>?_
 have e46:=s6 _ _ e45
 have e56:=s6 _ _ e5
 have hr6:=s6 _ _ hr5
 have s06:=s13.trans (s4.trans (s5.trans s6))
 have hp60:H p6=none:=(s13.trans (s4.trans s5)).free hp6
 refine⟨λσ H'=>∃ ps bs o8 o9,PZ H' p6 ps bs/\bs.map (·.1)=L/\(∀ x∈bs,0<cnt ns x.1 x.2 m 0/\∀ y∈G,y<x.2->¬ 0<cnt ns x.1 y m 0)/\Kp [p6] H6 H'/\σ=[some (.ref r),some (.int m),some (.ref p1),some (.int g),some (.int t),some (.ref p4),some (.ref p5),some (.ref p6),o8,o9],?_,?_⟩
 ·have n46:p4≠p6:=ne_of_none e45 hp6
  have n56:p5≠p6:=ne_of_none e5 hp6
  have nr6:r≠p6:=ne_of_none hr5 hp6
  refine⟨⟨_,SqL.of e46⟩,for_list (xs:=L.map V.int) (λi σ H'=>∃ ps bs,∃ a:Nat,∃ o9,PZ H' p6 ps bs/\bs.map (·.1)=L.take i/\(∀ x∈bs,0<cnt ns x.1 x.2 m 0/\∀ y∈G,y<x.2->¬ 0<cnt ns x.1 y m 0)/\(∀ (j:Nat) y l,j<a->G[j]?=some y->l∈L.drop i->¬ 0<cnt ns l y m 0)/\Kp [p6] H6 H'/\σ=[some (.ref r),some (.int m),some (.ref p1),some (.int g),some (.int t),some (.ref p4),some (.ref p5),some (.ref p6),some (.int a),o9]) ?_ ?_ ?_ ?_⟩
  ·exact⟨[],[],0,none,⟨e6,.nil⟩,rfl,λx hx=>(nomatch hx),λj y l hj=>absurd hj (Nat.not_lt_zero _),Kp.refl _ _,rfl⟩
  ·rintro i σ H' _ ⟨_,_,_,_,_,_,_,_,k',_⟩
   exact SqL.of (k'.one n46 e46)
  ·rintro i x σ H7 hx ⟨ps,bs,a,o9,pz,hbm,hbf,hat,k7,rfl⟩
   obtain⟨l,rfl,hl,_⟩:=vints_at hx
   have hlL:l∈L:=List.mem_of_getElem? hl
   have hil:=(List.getElem?_eq_some_iff.mp hl).1
   have hdrop:L.drop i=l::L.drop (i+1):=by rw[List.drop_eq_getElem_cons hil,(List.getElem?_eq_some_iff.mp hl).2]
   have hr7:=k7.one nr6 hr6
   have e57:=k7.one n56 e56
   refine⟨λσ H'=>∃ (a':Nat) (y:Int),G[a']?=some y/\0<cnt ns l y m 0/\(∀ (j:Nat) z,j<a'->G[j]?=some z->¬ 0<cnt ns l z m 0)/\Same H7 H'/\σ=[some (.ref r),some (.int m),some (.ref p1),some (.int g),some (.int t),some (.ref p4),some (.ref p5),some (.ref p6),some (.int a'),some (.int l)],?_,?_⟩
   ·refine while_m (λmm σ H'=>∃ a':Nat,mm=G.length-a'/\(∀ (j:Nat) z,j<a'->G[j]?=some z->¬ 0<cnt ns l z m 0)/\Same H7 H'/\σ=[some (.ref r),some (.int m),some (.ref p1),some (.int g),some (.int t),some (.ref p4),some (.ref p5),some (.ref p6),some (.int a'),some (.int l)]) (G.length-a) ⟨a,rfl,λj z hj hz=>hat j z l hj hz (by rw[hdrop];simp),Same.refl _,rfl⟩ ?_
    rintro mm σ H8 ⟨a',hmm,ha',s8,rfl⟩
    obtain⟨j,y0,hj,hpos⟩:=hfeas l hlL
    have haj:a'<=j:=Nat.le_of_not_lt λz=>ha' j y0 z hj hpos
    have hjl:=(List.getElem?_eq_some_iff.mp hj).1
    have hy:G[a']?=some (G[a']'(by omega)):=List.getElem?_eq_getElem _
    refine i_ixN (v:=.int (G[a']'(by omega))) a' (s8 _ _ e57) rfl (by rw[List.getElem?_map,hy];rfl) ?_
    refine⟨r,ns,m,l,_,rfl,s8 _ _ hr7,by omega,rn.nn,m1,mn,λH9 s9=>?_⟩
    refine dec2 (λc=>?_) (λc=>?_)
    ·refine⟨G.length-(a'+1),by omega,a'+1,rfl,λj z hj' hz=>?_,s8.trans s9,by rw[show ((a'+1:Nat):Int)=(a':Int)+1 by omega];rfl⟩
     by_cases e:j=a'
     ·subst e
      rw[hy] at hz
      injection hz with hz
      rw[<- hz,c];decide
     ·exact ha' j z (by omega) hz
    ·refine⟨a',_,hy,?_,ha',s8.trans s9,rfl⟩
     have:=M18.cnt_nn (ns:=ns) (lo:=l) (hi:=G[a']'(by omega)) m 0
     omega
   ·rintro σ H8 ⟨a',y,hy,hpos,ha',s8,rfl⟩
    have pz8:=pz.same s8
    have hpl:=Paired.length pz8.it
    have hbl:bs.length<=1000:=by
     have:=congrArg List.length hbm
     rw[List.length_map,List.length_take] at this
     omega
    refine⟨i_tyL pz8.at_,i_ixN (v:=.int y) a' (s8 _ _ e57) rfl (by rw[List.getElem?_map,hy];rfl) (i_newT (by show 2<=sizeLine;decide) λp9 H9 hp9 s9 e9=>?_)⟩
    refine i_app (s9 _ _ pz8.at_) (sz_lt (by rw[List.length_map];omega)) λH10 k10 e10=>?_
    refine⟨ps++[p9],bs++[(l,y)],a',_,pz8.add s9 e9 k10 e10,?_,λx hx=>?_,λj z l' hj hz hl' hc=>?_,(((k7.trans s8.kp).trans s9.kp).trans k10),rfl⟩
    ·rw[List.map_append,hbm,List.take_add_one,hl];rfl
    ·rcases List.mem_append.mp hx with hx | hx
     ·exact hbf x hx
     ·have:x=(l,y):=by simpa using hx
      subst this
      refine⟨hpos,λz hz hzy=>?_⟩
      obtain⟨j,hj⟩:=List.mem_iff_getElem?.mp hz
      refine ha' j z ?_ hj
      rcases Nat.lt_or_ge j a' with c | c
      ·exact c
      ·have ej:=(List.getElem?_eq_some_iff.mp hj)
       have ea:=(List.getElem?_eq_some_iff.mp hy)
       rcases Nat.lt_or_ge a' j with c2 | c2
       ·have:=(List.pairwise_iff_getElem.mp hlt) a' j ea.1 ej.1 c2
        rw[ea.2,ej.2] at this
        have hzy:z<y:=hzy
        omega
       ·have:j=a':=by omega
        subst this
        rw[hy] at hj
        injection hj with hj
        have hzy:z<y:=hzy
        omega
    ·have hll:l<=l':=by
      have:=(List.pairwise_cons.mp (hdrop▸(hlo.sublist (List.drop_sublist i L)))).1 l' hl'
      omega
     exact ha' j z hj hz (cntle hll hc)
  ·rintro σ H' ⟨ps,bs,a,o9,h1,h2,h3,_,h5,rfl⟩
   refine⟨ps,bs,_,_,h1,?_,h3,h5,rfl⟩
   rw[h2,List.length_map,List.take_length]
 ·rintro σ H7 ⟨ps,bs,o8,o9,pz,hbm,hbf,k7,rfl⟩
  have nb:Nb ns m bs:=near_nb (t:=t) (g:=g) (ms:=ms) rn.nn hn1 m1 hT0 hT1 hmem (by rw[hbm,hL]) (by rw[hG];exact hbf)
  refine q p6 ps bs H7 pz nb (λz=>hLne (by rw[<- hbm,z];rfl)) ?_ hp60 ?_
  ·have:=congrArg List.length hbm
   rw[List.length_map] at this
   omega
  ·exact λa o e=>k7 a o (λz=>by have h:a=p6:=(by simpa using z);rw[h,hp60] at e;cases e) (s06 _ _ e)
abbrev zq9:Stmt:=top 32
theorem zq3v:FnScope ["row","many","bounds","spread","cuts"] ["row","many"] (defScope zq9):=⟨rfl,rfl,rfl,by decide +kernel,rfl,by decide +kernel,by decide +kernel⟩
theorem zq8r:Loc (defScope zq9) "bounds":=Or.inl (by kernel_rfl)
theorem zqa9:Loc (defScope zq9) "cuts":=Or.inl (by kernel_rfl)
theorem zq8s:Loc (defScope zq9) "spread":=Or.inr (by kernel_rfl)
theorem zq4x:Vis (defScope zq9) "bounds":=Or.inl (by kernel_rfl)
theorem zqaa:Vis (defScope zq9) "cuts":=Or.inl (by kernel_rfl)
theorem zq5o:Vis (defScope zq9) "many":=Or.inr (Or.inl (by kernel_rfl))
theorem zq6d:Vis (defScope zq9) "row":=Or.inr (Or.inl (by kernel_rfl))
theorem zq8t:Vis (defScope zq9) "spread":=Or.inr (Or.inl (by kernel_rfl))
theorem zq74:(defScope zq9).names.lookup ("check_many":Str)=some NameKind.globalImplicit:=by kernel_rfl
theorem zq6e:(defScope zq9).names.lookup ("min":Str)=some NameKind.globalImplicit:=by kernel_rfl
theorem zq6m:(defScope zq9).names.lookup ("near_bounds":Str)=some NameKind.globalImplicit:=by kernel_rfl
def zqdk {cdv:Value}{A:Around}{outer:List Env}{s:Shared}{H:Hp}{E:XK}(B:Bl mg)(zq1:Def P w K mg base 3 "check_many" ["row","many"] zqn)(zq3o:Def P w K mg base 5 "near_bounds" ["row","many"] zq43)(zq7k:Def P w K mg base 4 "cut_at" ["row","many","low","high","place"] zq7w)(hr:Room 5 (A.deeper (PyProof.Rows.envOfC "least_spread" (defScope zq9) s.heap.objs.size f cdv))) :
  { t:TS // QB (cxOf CX0 P w K mg base ["row","many","bounds","spread","cuts"] "least_spread" (defScope zq9) f cdv A outer s H E).nox (defBody zq9) t } :=
 ⟨_,(qb_cons (qs_ex (qe_def zq1 hr (by decide) zq74 (qa_cons (qv 0 rfl zq6d) (qa_cons (qv 1 rfl zq5o) qa_nil))))
  (qb_cons (qs_set (i:=2) zq3v.nd rfl zq8r (.inl rfl) (qe_def zq3o hr (by decide) zq6m (qa_cons (qv 0 rfl zq6d) (qa_cons (qv 1 rfl zq5o) qa_nil))))
  (qb_cons (qs_set (i:=3) zq3v.nd rfl zq8s (.inl rfl) (qe_cB (kMin (K:=K) rfl rfl) zq6e B.min boot_min' (qa_cons (qe_cp ["low","high"] [none,none] rfl (ki_list (K:=K) rfl (qv 2 rfl zq4x)) (λ_ _ _ _ _ _=>(kg_tup (K:=K) rfl rfl (qgs_cons (qg_name (i:=0) (show (["low","high"]:List Str).Nodup by decide +kernel) rfl (by first | exact Or.inl rfl | exact Or.inr rfl) (by first | exact .inl rfl | exact .inr rfl)) (qgs_cons (qg_name (i:=1) (show (["low","high"]:List Str).Nodup by decide +kernel) rfl (by first | exact Or.inl rfl | exact Or.inr rfl) (by first | exact .inl rfl | exact .inr rfl)) qgs_nil)))) (λ_ _ _ _ _ _=>qif_nil) (λ_ _ _ _ _ _=>(qe_op opSub (qv 1 rfl (by first | exact Or.inl rfl | exact Or.inr (Or.inl rfl) | exact Or.inr (Or.inr rfl))) (qv 0 rfl (by first | exact Or.inl rfl | exact Or.inr (Or.inl rfl) | exact Or.inr (Or.inr rfl)))))) qa_nil)))
  (qb_cons (qs_cp ["low","high","row","many","spread"] [none,none,some 0,some 1,some 3] (i:=4) rfl zq3v.nd rfl zqa9 (.inl rfl) (ki_list (K:=K) rfl (qv 2 rfl zq4x)) (λ_ _ _ _ _ _=>(kg_tup (K:=K) rfl rfl (qgs_cons (qg_name (i:=0) (show (["low","high","row","many","spread"]:List Str).Nodup by decide +kernel) rfl (by first | exact Or.inl rfl | exact Or.inr rfl) (by first | exact .inl rfl | exact .inr rfl)) (qgs_cons (qg_name (i:=1) (show (["low","high","row","many","spread"]:List Str).Nodup by decide +kernel) rfl (by first | exact Or.inl rfl | exact Or.inr rfl) (by first | exact .inl rfl | exact .inr rfl)) qgs_nil)))) (λ_ _ _ _ _ _=>qif_one (qt_cmp (kEqG (K:=K) rfl hr) (qe_op opSub (qv 1 rfl (by first | exact Or.inl rfl | exact Or.inr (Or.inl rfl) | exact Or.inr (Or.inr rfl))) (qv 0 rfl (by first | exact Or.inl rfl | exact Or.inr (Or.inl rfl) | exact Or.inr (Or.inr rfl)))) (qv 4 rfl (by first | exact Or.inl rfl | exact Or.inr (Or.inl rfl) | exact Or.inr (Or.inr rfl))))) (λ_ _ _ _ _ _=>(qe_def zq7k hr (by decide) rfl (qa_cons (qv 2 rfl (by first | exact Or.inl rfl | exact Or.inr (Or.inl rfl) | exact Or.inr (Or.inr rfl))) (qa_cons (qv 3 rfl (by first | exact Or.inl rfl | exact Or.inr (Or.inl rfl) | exact Or.inr (Or.inr rfl))) (qa_cons (qv 0 rfl (by first | exact Or.inl rfl | exact Or.inr (Or.inl rfl) | exact Or.inr (Or.inr rfl))) (qa_cons (qv 1 rfl (by first | exact Or.inl rfl | exact Or.inr (Or.inl rfl) | exact Or.inr (Or.inr rfl))) (qa_cons qe_int qa_nil))))))))
  (qb_one (qs_ret (qe_tup (qa_cons (qv 3 rfl zq8t) (qa_cons (qe_cB (kMinL hr rfl) zq6e B.min boot_min' (qa_cons (qv 4 rfl zqaa) qa_nil)) qa_nil)))))))))⟩
open M25 M14 M49 M3
theorem ahead_lt:∀ {xs ys:List Nat},xs.length=ys.length->M32.Ahead xs ys->ltI (zs xs) (zs ys)=true
 | x::xs,y::ys,hl,h=>by
  unfold ltI
  simp only[zs,List.map_cons,lexB]
  rcases h with h | ⟨rfl,h⟩
  ·rw[if_neg (by omega)]
   simpa using h
  ·rw[if_pos rfl]
   exact ahead_lt (by simpa using hl) h
def zq3w:Sp:=λvs H Q _=>∃ (r:Addr) (m:Nat) (ns:List Int),vs=[.ref r,.int m]/\H r=some (.lst (ns.map V.int))/\RowN ns/\ns.length<=30/\1<=m/\m<=ns.length /\
 ∀ (p pc:Addr) (d:Int) (cs:List Nat) (H':Hp),SpB ns m d cs->H p=none->H pc=none->p≠pc->Same H H'->H' p=some (.tup [.int d,.ref pc])->H' pc=some (.lst ((zs cs).map V.int))->Q (.ref p) H'
theorem zqd2 (B:Bl mg)(zq1:Def P w K mg base 3 "check_many" ["row","many"] zqn)(zq3o:Def P w K mg base 5 "near_bounds" ["row","many"] zq43)(zq7k:Def P w K mg base 4 "cut_at" ["row","many","low","high","place"] zq7w)(F:Fun K "least_spread" "least_spread" zq9 f fd):FnOk P w K mg base CX0 6 f fd ["row","many"] zq3w:=by
 refine F.okq zq3v (λvs H Q E h=>?_) (λcdv A outer s H vs Q E hr h=>?_)
 ·obtain⟨r,m,ns,rfl,_⟩:=h;rfl
 obtain⟨r,m,ns,rfl,hr0,rn,n30,m1,mn,q⟩:=h
 refine⟨zqdk B zq1 zq3o zq7k hr,?_⟩
 have hle:=rn.le
 have hn1:=rn.ne
 refine⟨r,m,_,rfl,hr0,by omega,by rw[List.length_map];omega,?_⟩
 refine⟨r,m,ns,rfl,hr0,rn,n30,m1,mn,λp1 ps bs H1 pz nb hbn hbl hp1 s1=>?_⟩
 have hr1:=s1 _ _ hr0
 have hpl:=Paired.length pz.it
 refine⟨⟨_,SqL.of pz.at_⟩,comp_lst (ps.map V.ref) (λk D σ H' ys=>ys=((bs.map λx=>x.2-x.1).take k).map V.int/\Same H1 H'/\∃ o1 o2,σ=[o1,o2]) ?_ ?_ ?_ ?_⟩
 ·intro D H' hD s' e'
  exact⟨rfl,s',_,_,rfl⟩
 ·rintro k D σ H' ys hD ⟨_,s',_⟩
  exact SqL.of (s' _ _ pz.at_)
 ·rintro k x D σ H' ys hx hD ⟨rfl,s',o1,o2,rfl⟩ eD
  obtain⟨a,ha,rfl⟩:=ref_at hx
  obtain⟨⟨l,h⟩,hlh,ea⟩:=pair_get pz.it ha
  refine i_unp (s' _ _ ea) rfl (bT ⟨eD,sz_lt (by rw[List.length_map,List.length_take,List.length_map];omega),λH6 k6 e6=>⟨?_,s'.new k6 hD,_,_,rfl⟩⟩)
  rw[take_snoc (x:=h-l) (by rw[List.getElem?_map,hlh];rfl),List.map_append];rfl
 rintro p2 σ H2 ys hp2 ⟨rfl,s2,_⟩ e2
 rw[List.take_of_length_le (by simp;omega)] at e2
 refine i_min (SqL.of e2) (λz=>hbn (by simpa using z)) λd hd hmin=>?_
 have hd':∃ x∈bs,x.2-x.1=d:=by
  obtain⟨x,hx,e⟩:=List.mem_map.mp hd
  exact⟨x,hx,e⟩
 have hmin':∀ x∈bs,d<=x.2-x.1:=λx hx=>hmin _ (List.mem_map.mpr ⟨x,hx,rfl⟩)
 have pz2:=pz.same s2
 have hr2:=s2 _ _ hr1
 refine⟨⟨_,SqL.of pz2.at_⟩,comp_lst (ps.map V.ref) (λk D σ H' ys=>(∃ (as:List Addr) (css:List (List Int)),ys=as.map V.ref/\D∉as/\(∀ a∈as,H2 a=none)/\Paired (λa c=>H' a=some (.lst (c.map V.int))) as css/\Paired (λc (x:Int×Int)=>M18.At ns x.1 x.2 (m-1) 0 0 c) css ((bs.take k).filter λx=>decide (x.2-x.1=d)))/\Same H2 H'/\∃ o1 o2,σ=[o1,o2,some (.ref r),some (.int m),some (.int d)]) ?_ ?_ ?_ ?_⟩
 ·intro D H' hD s' e'
  exact⟨⟨[],[],rfl,by simp,by simp,.nil,.nil⟩,s',_,_,rfl⟩
 ·rintro k D σ H' ys hD ⟨_,s',_⟩
  exact SqL.of (s' _ _ pz2.at_)
 ·rintro k x D σ H' ys hx hD ⟨⟨as,css,rfl,hDa,hfr,hp1,hp2⟩,s',o1,o2,rfl⟩ eD
  obtain⟨a,ha,rfl⟩:=ref_at hx
  obtain⟨⟨l,h⟩,hlh,ea⟩:=pair_get pz2.it ha
  have etk:bs.take (k+1)=bs.take k++[(l,h)]:=by rw[List.take_add_one,hlh];rfl
  have hal:as.length<=1000:=by
   have h1:=Paired.length hp1
   have h2:=Paired.length hp2
   have:=List.length_filter_le (λx:Int×Int=>decide (x.2-x.1=d)) (bs.take k)
   rw[List.length_take] at this
   omega
  refine i_unp (s' _ _ ea) rfl (dec2 (λc=>?_) (λc=>⟨eD,⟨as,css,rfl,hDa,hfr,hp1,?_⟩,s',_,_,rfl⟩))
  ·have hpos:=nb.has _ (List.mem_of_getElem? hlh)
   refine⟨r,ns,m,l,h,0,rfl,s' _ _ hr2,by omega,rn.nn,m1,mn,by decide,hpos,λpc cL H5 hat hpc s5 e5=>?_⟩
   have npD:pc≠D:=(ne_of_none eD hpc).symm
   refine⟨s5 _ _ eD,sz_lt (by rw[List.length_map];omega),λH6 k6 e6=>⟨⟨as++[pc],css++[cL],by rw[List.map_append];rfl,by simp[hDa,npD.symm],λb hb=>?_,?_,?_⟩,(s'.trans s5).new k6 hD,_,_,rfl⟩⟩
   ·rcases List.mem_append.mp hb with hb | hb
    ·exact hfr b hb
    ·have:b=pc:=by simpa using hb
     subst this;exact s'.free hpc
   ·exact pair_snoc (F:=λa c=>H6 a=some (.lst (c.map V.int))) (k6.one npD e5) (pair_imp hp1 λa ha b e=>k6.one (λz=>hDa (z▸ha)) (s5 _ _ e))
   ·rw[etk,List.filter_append,List.filter_cons_of_pos (by simpa using c)]
    exact pair_snoc (F:=λc (x:Int×Int)=>M18.At ns x.1 x.2 (m-1) 0 0 c) (b:=(l,h)) hat hp2
  ·rw[etk,List.filter_append,List.filter_cons_of_neg (by simpa using c)]
   simpa using hp2
 rintro p3 σ H3 ys hp3 ⟨⟨as,css,rfl,hDa,hfr,hp1',hp2'⟩,s3,_⟩ e3
 rw[List.take_of_length_le (by simp;omega)] at hp2'
 have hl1:=Paired.length hp1'
 have hl2:=Paired.length hp2'
 have hmemf:∀ x∈bs,x.2-x.1=d->∃ (i:Nat) (c:List Int),css[i]?=some c/\i<as.length/\M18.At ns x.1 x.2 (m-1) 0 0 c:=λx hx e=>by
  have hx':x∈bs.filter λx=>decide (x.2-x.1=d):=List.mem_filter.mpr ⟨hx,decide_eq_true e⟩
  obtain⟨i,hi⟩:=List.mem_iff_getElem?.mp hx'
  have hil:=(List.getElem?_eq_some_iff.mp hi).1
  have hc:css[i]?=some (css[i]'(by omega)):=List.getElem?_eq_getElem _
  obtain⟨x',hx2,hat⟩:=pair_get hp2' hc
  rw[hi] at hx2
  cases hx2
  exact⟨i,_,hc,by omega,hat⟩
 have hane:as≠[]:=λz=>by
  obtain⟨x,hx,e⟩:=hd'
  obtain⟨i,c,_,hi,_⟩:=hmemf x hx e
  rw[z] at hi;simp at hi
 refine i_minL (λi=>css.getD i []) e3 hane (λi b hb=>?_) λk b hb hlow=>?_
 ·obtain⟨c,hc,e⟩:=pair_get hp1' hb
  rw[List.getD_eq_getElem?_getD,hc];exact e
 obtain⟨c,hc,eb⟩:=pair_get hp1' hb
 obtain⟨x,hx,hat⟩:=pair_get hp2' hc
 obtain⟨hxb,hxd⟩:=List.mem_filter.mp (List.mem_of_getElem? hx)
 have hxd':x.2-x.1=d:=of_decide_eq_true hxd
 obtain⟨cs,rfl,c1,c2,c3,c4⟩:=at_cut hn1 m1 hat (nb.has x hxb)
 have sp:SpB ns m d cs:=near_sp hn1 m1 nb hd' hmin' ⟨x,hxb,hxd',c1,c2,c3⟩ λy hy e=>by
  obtain⟨i,c',hc',hi,hat'⟩:=hmemf y hy e
  obtain⟨es,rfl,g1,g2,g3,g4⟩:=at_cut hn1 m1 hat' (nb.has y hy)
  refine⟨es,g1,g2,g3,g4,λha=>?_⟩
  have h1:=hlow i hi
  simp only[List.getD_eq_getElem?_getD,hc',hc,Option.getD_some] at h1
  have h2:=ahead_lt (by omega) ha
  rw[show zs es=List.map (λ(n:Nat)=>(n:Int)) es from rfl,show zs cs=List.map (λ(n:Nat)=>(n:Int)) cs from rfl,h1] at h2
  cases h2
 have hb0:H b=none:=(s1.trans s2).free (hfr b (List.mem_of_getElem? hb))
 refine i_newT (by show 2<=sizeLine;decide) λp4 H4 hp4 s4 e4=>?_
 have npb:p4≠b:=(ne_of_none eb hp4).symm
 exact q p4 b d cs H4 sp ((s1.trans (s2.trans s3)).free hp4) hb0 npb (s1.trans (s2.trans (s3.trans s4))) e4 (s4 _ _ eb)
abbrev zqb:Stmt:=top 18
theorem zq3p:FnScope ["row","most","ahead","table","left","fewer"] ["row","most"] (defScope zqb):=⟨rfl,rfl,rfl,by decide +kernel,rfl,by decide +kernel,by decide +kernel⟩
theorem zqb1:Loc (defScope zqb) "ahead":=Or.inr (by kernel_rfl)
theorem zqb2:Loc (defScope zqb) "fewer":=Or.inr (by kernel_rfl)
theorem zqbs:Loc (defScope zqb) "left":=Or.inl (by kernel_rfl)
theorem zqb3:Loc (defScope zqb) "table":=Or.inl (by kernel_rfl)
theorem zqb4:Vis (defScope zqb) "ahead":=Or.inr (Or.inl (by kernel_rfl))
theorem zqb5:Vis (defScope zqb) "fewer":=Or.inr (Or.inl (by kernel_rfl))
theorem zqbt:Vis (defScope zqb) "left":=Or.inl (by kernel_rfl)
theorem zqbu:Vis (defScope zqb) "most":=Or.inl (by kernel_rfl)
theorem zqcl:Vis (defScope zqb) "row":=Or.inl (by kernel_rfl)
theorem zq41:Vis (defScope zqb) "table":=Or.inl (by kernel_rfl)
theorem zqcm:(defScope zqb).names.lookup ("len":Str)=some NameKind.globalImplicit:=by kernel_rfl
theorem zq6f:(defScope zqb).names.lookup ("range":Str)=some NameKind.globalImplicit:=by kernel_rfl
theorem zq7t:(defScope zqb).names.lookup ("sums_ahead":Str)=some NameKind.globalImplicit:=by kernel_rfl
def zqem {cdv:Value}{A:Around}{outer:List Env}{s:Shared}{H:Hp}{E:XK}(B:Bl mg)(zqg:Def P w K mg base 1 "sums_ahead" ["row"] zq1b)(hr:Room 1 (A.deeper (PyProof.Rows.envOfC "even_table" (defScope zqb) s.heap.objs.size f cdv))) :
  { t:TS // QB (cxOf CX0 P w K mg base ["row","most","ahead","table","left","fewer"] "even_table" (defScope zqb) f cdv A outer s H E).nox (defBody zqb) t } :=
 ⟨_,(qb_cons (qs_set (i:=2) zq3p.nd rfl zqb1 (.inl rfl) (qe_def zqg hr (by decide) zq7t (qa_cons (qv 0 rfl zqcl) qa_nil)))
  (qb_cons (qs_set (i:=3) zq3p.nd rfl zqb3 (.inl rfl) (qe_lst (qa_cons (qe_lst qa_nil) (qa_cons (qe_cp ["before","ahead"] [none,some 2] rfl (ki_list (K:=K) rfl (ke_slice (K:=K) rfl (qv 2 rfl zqb4) qo_none (qo_some (qe_un unNeg qe_int)))) (λ_ _ _ _ _ _=>(qg_name (i:=0) (show (["before","ahead"]:List Str).Nodup by decide +kernel) rfl (by first | exact Or.inl rfl | exact Or.inr rfl) (by first | exact .inl rfl | exact .inr rfl))) (λ_ _ _ _ _ _=>qif_nil) (λ_ _ _ _ _ _=>(qe_op opPow (qe_op opSub (ke_ix (K:=K) rfl (qv 1 rfl (by first | exact Or.inl rfl | exact Or.inr (Or.inl rfl) | exact Or.inr (Or.inr rfl))) (qe_un unNeg qe_int) (λ_ _=>rfl)) (qv 0 rfl (by first | exact Or.inl rfl | exact Or.inr (Or.inl rfl) | exact Or.inr (Or.inr rfl)))) qe_int))) qa_nil))))
  (qb_mid (qs_for PassesOwn.never rfl (qi_r2 zq6f B.range (qa_cons qe_int (qa_cons (qe_op opAdd (qv 1 rfl zqbu) qe_int) qa_nil))) (qg_name (i:=4) zq3p.nd rfl zqbs (.inl rfl)) (qb_cons (qs_set (i:=5) zq3p.nd rfl zqb2 (.inl rfl) (ke_ix (K:=K) rfl (qv 3 rfl zq41) (qe_op opSub (qv 4 rfl zqbt) qe_int) (λ_ _=>rfl)))
  (qb_one (qs_ex (ke_m1 (K:=K) rfl PySem.F.plainAttrs_list PySem.F.slot_list_append PySem.F.type_list_append mtApp (qv 3 rfl zq41) (qe_cpN ["begin","fewer","ahead"] [none,some 5,some 2] rfl (qi_r1 zq6f B.range (qa_cons (qe_op opSub (qe_cB (kLen (K:=K) rfl) zqcm B.len boot_len' (qa_cons (qv 5 rfl zqb5) qa_nil)) qe_int) qa_nil)) (λ_ _ _ _ _ _=>(qg_name (i:=0) (show (["begin","fewer","ahead"]:List Str).Nodup by decide +kernel) rfl (by first | exact Or.inl rfl | exact Or.inr rfl) (by first | exact .inl rfl | exact .inr rfl))) (λ_ _ _ _ _ _=>qif_nil) (λ_ _ _ _ _ _=>(qe_cB (kMin (K:=K) rfl rfl) rfl B.min boot_min' (qa_cons (qe_cp ["end","ahead","begin","fewer"] [none,some 2,some 0,some 1] rfl (qi_r2 rfl B.range (qa_cons (qe_op opAdd (qv 0 rfl (by first | exact Or.inl rfl | exact Or.inr (Or.inl rfl) | exact Or.inr (Or.inr rfl))) qe_int) (qa_cons (qe_cB (kLen (K:=K) rfl) rfl B.len boot_len' (qa_cons (qv 1 rfl (by first | exact Or.inl rfl | exact Or.inr (Or.inl rfl) | exact Or.inr (Or.inr rfl))) qa_nil)) qa_nil))) (λ_ _ _ _ _ _=>(qg_name (i:=0) (show (["end","ahead","begin","fewer"]:List Str).Nodup by decide +kernel) rfl (by first | exact Or.inl rfl | exact Or.inr rfl) (by first | exact .inl rfl | exact .inr rfl))) (λ_ _ _ _ _ _=>qif_nil) (λ_ _ _ _ _ _=>(qe_op opAdd (qe_op opPow (qe_op opSub (ke_ix (K:=K) rfl (qv 1 rfl (by first | exact Or.inl rfl | exact Or.inr (Or.inl rfl) | exact Or.inr (Or.inr rfl))) (qv 0 rfl (by first | exact Or.inl rfl | exact Or.inr (Or.inl rfl) | exact Or.inr (Or.inr rfl))) (λ_ _=>rfl)) (ke_ix (K:=K) rfl (qv 1 rfl (by first | exact Or.inl rfl | exact Or.inr (Or.inl rfl) | exact Or.inr (Or.inr rfl))) (qv 2 rfl (by first | exact Or.inl rfl | exact Or.inr (Or.inl rfl) | exact Or.inr (Or.inr rfl))) (λ_ _=>rfl))) qe_int) (ke_ix (K:=K) rfl (qv 3 rfl (by first | exact Or.inl rfl | exact Or.inr (Or.inl rfl) | exact Or.inr (Or.inr rfl))) (qv 0 rfl (by first | exact Or.inl rfl | exact Or.inr (Or.inl rfl) | exact Or.inr (Or.inr rfl))) (λ_ _=>rfl))))) qa_nil)))))))))
  (qb_one (qs_ret (qv 3 rfl zq41))))))⟩
open M25 in
structure TabOk (ns:List Int)(m:Nat)(pss:List (List Int)):Prop where
 len:pss.length=m+1
 z:pss[0]?=some []
 ok:∀ k r,1<=k->pss[k]?=some r->RowOk ns k r
open M25 in
theorem TabOk.add {ns:List Int}{m:Nat}{pss:List (List Int)}{r:List Int}(h:TabOk ns m pss)(hr:RowOk ns (m+1) r):TabOk ns (m+1) (pss++[r]):=by
 refine⟨by rw[List.length_append,h.len];rfl,?_,λk r' hk e=>?_⟩
 ·rw[List.getElem?_append_left (by rw[h.len];omega)];exact h.z
 ·by_cases hk2:k<m+1
  ·rw[List.getElem?_append_left (by rw[h.len];exact hk2)] at e;exact h.ok k r' hk e
  ·rw[List.getElem?_append_right (by rw[h.len];omega),h.len] at e
   by_cases hk3:k=m+1
   ·subst hk3;simp at e;subst e;exact hr
   ·rw[List.getElem?_eq_none (by simp;omega)] at e;cases e
open M25 in
theorem sq_small {ns:List Int}(hle:ns.length<=1000)(hz:∀ n∈ns,0<=n/\n<=1000000000000){b e:Nat}(hb:b<=ns.length)(he:e<=ns.length):(S ns e-S ns b).natAbs<2 ^ 64:=by
 have h1:=S_bd (λn hn=>(hz n hn).1) (λn hn=>(hz n hn).2) b
 have h2:=S_bd (λn hn=>(hz n hn).1) (λn hn=>(hz n hn).2) e
 show (S ns e-S ns b).natAbs<18446744073709551616
 omega
open M25 in
def zq1v:Sp:=λvs H Q _=>∃ (r:Addr) (ns:List Int) (m:Nat),vs=[.ref r,.int m]/\H r=some (.lst (ns.map V.int))/\ns.length<=1000/\(∀ n∈ns,0<=n/\n<=1000000000000)/\1<=m/\m<=ns.length /\
 ∀ (p:Addr) (ps:List Addr) (pss:List (List Int)) (H':Hp),(∀ a∈p::ps,H a=none)->Same H H'->LL H' p ps pss->TabOk ns m pss->Q (.ref p) H'
open M25 in
theorem zqe5 (B:Bl mg)(zqg:Def P w K mg base 1 "sums_ahead" ["row"] zq1b)(F:Fun K "even_table" "even_table" zqb f fd):FnOk P w K mg base CX0 2 f fd ["row","most"] zq1v:=by
 refine F.okq zq3p (λvs H Q E h=>?_) (λcdv A outer s H vs Q E hr h=>?_)
 ·obtain⟨r,ns,m,rfl,_⟩:=h;rfl
 obtain⟨r,ns,m,rfl,hr0,hle,hz,m1,m2,q⟩:=h
 refine⟨zqem B zqg hr,?_⟩
 refine⟨r,ns,rfl,hr0,hle,λah H1 hah s1 e1=>?_⟩
 refine i_newL (by show 0<=sizeLine;decide) λp0 H2 hp0 s2 e2=>?_
 have e1':H1 ah=some (.lst ((pre ns ns.length).map V.int++[V.int (S ns ns.length)])):=by rw[e1,pre_map]
 refine i_sl (SqL.of (s2 _ _ e1')) λsl H3 hsl s3 e3=>?_
 rw[cut_init] at e3
 have s03:Same H H3:=s1.trans (s2.trans s3)
 refine⟨⟨_,SqL.of e3⟩,comp_lst ((pre ns ns.length).map V.int) (λi D σ H' ys=>ys=(((List.range i).map λb=>sq ns b ns.length)).map V.int/\Same H3 H'/\∃ o,σ=[o,some (.ref ah)]) ?_ ?_ ?_ ?_⟩
 ·intro D H' hD s' e'
  exact⟨rfl,s',_,rfl⟩
 ·rintro i D σ H' ys hD ⟨_,s',_⟩
  exact SqL.of (s' _ _ e3)
 ·rintro i x D σ H' ys hx hD ⟨rfl,s',o,rfl⟩ eD
  obtain⟨t,rfl,ht,_⟩:=vints_at hx
  have hi:i<ns.length:=by have:=(List.getElem?_eq_some_iff.mp ht).1;rwa [pre_len] at this
  rw[pre_at hi] at ht
  cases ht
  have eah:=s' _ _ (s3 _ _ (s2 _ _ e1'))
  refine bT (i_ix (.inl (SqL.of eah)) (atI_last _ _) ⟨⟨by decide,by decide,sq_small hle hz (Nat.le_of_lt hi) (Nat.le_refl _)⟩,?_⟩)
  refine⟨eD,sz_lt (by simp;omega),λH6 k6 e6=>⟨?_,s'.new k6 hD,_,rfl⟩⟩
  rw[List.range_succ,List.map_append,List.map_append];rfl
 rintro p1 σ H4 ys hp1 ⟨rfl,s4,_⟩ e4
 rw[List.length_map,pre_len] at e4
 have e0:=s4 _ _ (s3 _ _ e2)
 refine i_newL (by show 2<=sizeLine;decide) λtb H5 htb s5 e5=>?_
 have s05:Same H H5:=s03.trans (s4.trans s5)
 have n01:p0≠p1:=ne_of_none (s3 _ _ e2) hp1
 have ll0:LL H5 tb [p0,p1] [[],(List.range ns.length).map λb=>sq ns b ns.length]:=by
  refine⟨e5,by simpa using n01,?_,.cons (s5 _ _ e0) (.cons (s5 _ _ e4) .nil)⟩
  have a1:=(ne_of_none e0 htb)
  have a2:=(ne_of_none e4 htb)
  simp only[List.mem_cons,List.not_mem_nil,or_false,not_or]
  exact⟨λz=>a1 z.symm,λz=>a2 z.symm⟩
 have f0:∀ a∈tb::[p0,p1],H a=none:=by
  intro a ha
  simp only[List.mem_cons,List.not_mem_nil,or_false] at ha
  rcases ha with rfl | rfl | rfl
  ·exact(s03.trans s4).free htb
  ·exact s1.free hp0
  ·exact s03.free hp1
 have tab0:TabOk ns 1 [[],(List.range ns.length).map λb=>sq ns b ns.length]:=by
  refine⟨rfl,rfl,λk r' hk e=>?_⟩
  match k,hk,e with
  | 1,_,e=>simp at e;subst e;exact row_one
  | k+2,_,e=>simp at e
 have nta:ah≠tb:=ne_of_none (s4 _ _ (s3 _ _ (s2 _ _ e1))) htb
 have eah5:H5 ah=some (.lst ((pre ns (ns.length+1)).map V.int)):=s5 _ _ (s4 _ _ (s3 _ _ (s2 _ _ e1)))
 refine⟨λσ H'=>(∃ ps pss,(∀ a∈tb::ps,H a=none)/\Same H H'/\LL H' tb ps pss/\TabOk ns m pss)/\∃ o4 o5,σ=[some (.ref r),some (.int m),some (.ref ah),some (.ref tb),o4,o5],?_,?_⟩
 ·refine⟨⟨by omega,by omega,by omega,by omega⟩,for_range (λi σ H'=>(∃ ps pss,(∀ a∈tb::ps,H a=none)/\Same H H'/\LL H' tb ps pss/\TabOk ns (1+i) pss)/\H' ah=some (.lst ((pre ns (ns.length+1)).map V.int))/\∃ o4 o5,σ=[some (.ref r),some (.int m),some (.ref ah),some (.ref tb),o4,o5]) ?_ ?_ ?_⟩
  ·exact⟨⟨[p0,p1],_,f0,s05,ll0,tab0⟩,eah5,_,_,rfl⟩
  ·rintro i σ H6 hi ⟨⟨ps,pss,hfr,s6,ll,tab⟩,eah,o4,o5,rfl⟩
   have hi':2+i<=m:=by omega
   have hlp:ps.length=2+i:=by rw[ll.len,tab.len];omega
   have hx:ps[1+i]?=some ps[1+i]:=List.getElem?_eq_getElem (by omega)
   obtain⟨fw,hfw,efw⟩:=pair_get ll.it hx
   have okf:=tab.ok _ _ (by omega) hfw
   generalize ps[1+i]=fa at hx efw
   have hfl:fw.length=ns.length-i:=by have:=okf.1;omega
   refine i_ixN (1+i) ll.at_ (by omega) (map_ref_at hx) ?_
   refine⟨i_tyL ll.at_,i_lenI efw ⟨⟨by omega,by omega⟩,comp_rng (λb D σ H' ys=>∃ zs:List Int,ys=zs.map V.int/\zs.length=b/\(∀ j v,zs[j]?=some v->Least (sq ns) (2+i) j ns.length v)/\Same H6 H'/\∃ o,σ=[o,some (.ref fa),some (.ref ah)]) ?_ ?_ ?_⟩⟩
   ·intro D H' hD s' e'
    exact⟨[],rfl,rfl,by simp,s',_,rfl⟩
   ·rintro b D σ H7 ys hb hD ⟨zs,rfl,hzl,hzz,s7,o,rfl⟩ eD
    have hb':b+1<fw.length:=by omega
    refine bT (i_lenI (s7 _ _ efw) ⟨⟨by omega,by omega,by omega,by omega⟩,comp_rng (λj D2 σ H' ys=>ys=((List.range j).map λt=>sq ns b (b+1+t)+fw.getD (b+1+t) 0).map V.int/\Same H7 H'/\∃ o,σ=[o,some (.ref ah),some (.int (0+(b:Int))),some (.ref fa)]) ?_ ?_ ?_⟩)
    ·intro D2 H' hD2 s' e'
     exact⟨rfl,s',_,rfl⟩
    ·rintro j D2 σ H8 ys hj hD2 ⟨rfl,s8,o',rfl⟩ eD2
     have hj':b+1+j<fw.length:=by omega
     have eah8:=s8 _ _ (s7 _ _ eah)
     have efw8:=s8 _ _ (s7 _ _ efw)
     refine bT (i_ixN (b+1+j) eah8 (by omega) (by rw[List.getElem?_map,pre_at (by omega)];rfl) (i_ixN b eah8 (by omega) (by rw[List.getElem?_map,pre_at (by omega)];rfl) ?_))
     refine⟨⟨by decide,by decide,sq_small hle hz (by omega) (by omega)⟩,i_ixI efw8 (by omega) (by omega) ?_⟩
     have et:(0+(b:Int)+1+(j:Int)).toNat=b+1+j:=by omega
     rw[et]
     refine⟨eD2,sz_lt (by simp;omega),λH9 k9 e9=>⟨?_,s8.new k9 hD2,_,rfl⟩⟩
     rw[List.range_succ,List.map_append,List.map_append];rfl
    ·rintro D2 σ H8 ys hD2 ⟨rfl,s8,_⟩ eD2
     have hlen:(((fw.length:Int))-(0+(b:Int)+1)).toNat=fw.length-(b+1):=by omega
     rw[hlen] at eD2
     refine i_min (SqL.of eD2) (λz=>?_) λM hM hmin=>?_
     ·have:=congrArg List.length z
      simp at this;omega
     ·refine⟨s8 _ _ eD,sz_lt (by rw[List.length_map];omega),λH9 k9 e9=>⟨zs++[M],map_snoc zs M,by simp[hzl],λj v hj=>?_,(s7.trans s8).new k9 hD,_,rfl⟩⟩
      by_cases hjz:j<zs.length
      ·rw[List.getElem?_append_left hjz] at hj;exact hzz j v hj
      ·rw[List.getElem?_append_right (by omega)] at hj
       have hj0:j-zs.length=0:=by
        by_cases h0:j-zs.length=0
        ·exact h0
        ·rw[List.getElem?_eq_none (by simp;omega)] at hj;cases hj
       rw[hj0] at hj
       simp at hj
       subst hj
       have ej:j=b:=by omega
       subst ej
       have e2i:2+i=(1+i)+1:=by omega
       rw[e2i]
       refine least_back (λt=>fw.getD t 0) (λt h1 h2=>?_) ?_ ?_
       ·have ht:t<fw.length:=by omega
        have:fw[t]?=some (fw.getD t 0):=by rw[List.getD_eq_getElem?_getD,List.getElem?_eq_getElem ht];rfl
        exact okf.2 t _ this
       ·obtain⟨t,ht,rfl⟩:=List.mem_map.mp hM
        have ht':=List.mem_range.mp ht
        exact⟨j+1+t,by omega,by omega,rfl⟩
       ·intro t h1 h2
        refine hmin _ (List.mem_map.mpr ⟨t-(j+1),List.mem_range.mpr (by omega),?_⟩)
        have:j+1+(t-(j+1))=t:=by omega
        rw[this]
   ·rintro D σ H7 ys hD ⟨zs,rfl,hzl,hzz,s7,_⟩ eD
    have hlen:((fw.length:Int)-1).toNat=fw.length-1:=by omega
    rw[hlen] at hzl
    refine i_app (s7 _ _ ll.at_) (sz_lt (by rw[List.length_map];omega)) λH8 k8 e8=>?_
    have rok:RowOk ns (1+i+1) zs:=⟨by omega,λj v hj=>by have:=hzz j v hj;rwa [show 2+i=1+i+1 by omega] at this⟩
    refine⟨⟨ps++[D],pss++[zs],λa ha=>?_,(s6.trans s7).new k8 (hfr tb (by simp)),ll.add hD s7 eD k8 e8,tab.add rok⟩,k8.one nta (s7 _ _ eah),_,_,rfl⟩
    rw[List.mem_cons,List.mem_append] at ha
    rcases ha with rfl | ha | ha
    ·exact hfr _ (by simp)
    ·exact hfr a (List.mem_cons_of_mem _ ha)
    ·have:a=D:=by simpa using ha
     subst this;exact s6.free hD
  ·rintro σ H' ⟨⟨ps,pss,h1,h2,h3,h4⟩,_,o⟩
   have:1+((m:Int)+1-2).toNat=m:=by omega
   rw[this] at h4
   exact⟨⟨ps,pss,h1,h2,h3,h4⟩,o⟩
 ·rintro σ H' ⟨⟨ps,pss,h1,h2,h3,h4⟩,o4,o5,rfl⟩
  exact q tb ps pss H' h1 h2 h3 h4
abbrev zq1d:Stmt:=top 17
theorem zqdl:FnScope ["table"] ["table"] (defScope zq1d):=⟨rfl,rfl,rfl,by decide +kernel,rfl,by decide +kernel,by decide +kernel⟩
theorem zqab:Vis (defScope zq1d) "table":=Or.inl (by kernel_rfl)
def zqe6 {cdv:Value}{A:Around}{outer:List Env}{s:Shared}{H:Hp}{E:XK}(B:Bl mg)(hr:Room 0 (A.deeper (PyProof.Rows.envOfC "least_evens" (defScope zq1d) s.heap.objs.size f cdv))) :
  { t:TS // QB (cxOf CX0 P w K mg base ["table"] "least_evens" (defScope zq1d) f cdv A outer s H E).nox (defBody zq1d) t } :=
 ⟨_,(qb_one (qs_ret (qe_cp ["evens"] [none] rfl (ki_list (K:=K) rfl (ke_slice (K:=K) rfl (qv 0 rfl zqab) (qo_some qe_int) qo_none)) (λ_ _ _ _ _ _=>(qg_name (i:=0) (show (["evens"]:List Str).Nodup by decide +kernel) rfl (by first | exact Or.inl rfl | exact Or.inr rfl) (by first | exact .inl rfl | exact .inr rfl))) (λ_ _ _ _ _ _=>qif_nil) (λ_ _ _ _ _ _=>(ke_ix (K:=K) rfl (qv 0 rfl (by first | exact Or.inl rfl | exact Or.inr (Or.inl rfl) | exact Or.inr (Or.inr rfl))) qe_int (λ_ _=>rfl))))))⟩
theorem cut_tail (x:V)(xs:List V):cutV (x::xs) (some 1) none=xs:=by
 unfold cutV
 have e1:HT.sIx (x::xs).length 0 (some 1)=1:=by
  have:=HT.sIx_nat (x::xs).length 0 1
  simp only[List.length_cons] at this ⊢
  rw[show ((1:Nat):Int)=1 from rfl] at this
  rw[this];omega
 have e2:HT.sIx (x::xs).length (x::xs).length none=(x::xs).length:=rfl
 rw[e1,e2]
 simp
open M25 in
def zq2d:Sp:=λvs H Q _=>∃ (p:Addr) (ps:List Addr) (pss:List (List Int)) (ns:List Int),vs=[.ref p]/\LL H p ps pss/\TabOk ns ns.length pss/\1<=ns.length/\ns.length<=1000 /\
 ∀ (z:Addr) (zs:List Int) (H':Hp),H z=none->Same H H'->H' z=some (.lst (zs.map V.int))->Evens ns zs->Q (.ref z) H'
open M25 in
theorem zqdm (B:Bl mg)(F:Fun K "least_evens" "least_evens" zq1d f fd):FnOk P w K mg base CX0 1 f fd ["table"] zq2d:=by
 refine F.okq zqdl (λvs H Q E h=>?_) (λcdv A outer s H vs Q E hr h=>?_)
 ·obtain⟨p,ps,pss,ns,rfl,_⟩:=h;rfl
 obtain⟨p,ps,pss,ns,rfl,ll,tab,n1,n2,q⟩:=h
 refine⟨zqe6 B  hr,?_⟩
 have hlp:=ll.len
 have htl:=tab.len
 cases ps with
 | nil=>simp at hlp;omega
 | cons p0 ps =>
 refine i_sl (SqL.of ll.at_) λsl H1 hsl s1 e1=>?_
 rw[List.map_cons,cut_tail] at e1
 refine⟨⟨_,SqL.of e1⟩,comp_lst (ps.map V.ref) (λi D σ H' ys=>∃ zs:List Int,ys=zs.map V.int/\zs.length=i/\(∀ j v,zs[j]?=some v->Least (sq ns) (j+1) 0 ns.length v)/\Same H1 H'/\∃ o,σ=[o]) ?_ ?_ ?_ ?_⟩
 ·intro D H' hD s' e'
  exact⟨[],rfl,rfl,by simp,s',_,rfl⟩
 ·rintro i D σ H' ys hD ⟨_,_,_,_,s',_⟩
  exact SqL.of (s' _ _ e1)
 ·rintro i x D σ H' ys hx hD ⟨zs,rfl,hzl,hz,s',o,rfl⟩ eD
  obtain⟨a,ha,rfl⟩:=ref_at hx
  have hi:i<ps.length:=(List.getElem?_eq_some_iff.mp ha).1
  obtain⟨rw_,hrw,erw⟩:=pair_get ll.it (i:=i+1) (a:=a) (by simpa using ha)
  have ok:=tab.ok _ _ (by omega) hrw
  have hl:=ok.1
  have hps:ps.length=ns.length:=by simp at hlp;omega
  refine bT (i_ixI (s' _ _ (s1 _ _ erw)) (by decide) (by omega) ?_)
  have hv:=ok.2 0 (rw_.getD (0:Int).toNat 0) (getD_some (by omega))
  refine⟨eD,sz_lt (by rw[List.length_map];omega),λH6 k6 e6=>⟨zs++[rw_.getD (0:Int).toNat 0],map_snoc zs _,by simp[hzl],λj v hj=>?_,s'.new k6 hD,_,rfl⟩⟩
  by_cases hjz:j<zs.length
  ·rw[List.getElem?_append_left hjz] at hj;exact hz j v hj
  ·rw[List.getElem?_append_right (by omega)] at hj
   have hj0:j-zs.length=0:=by
    by_cases h0:j-zs.length=0
    ·exact h0
    ·rw[List.getElem?_eq_none (by simp;omega)] at hj;cases hj
   rw[hj0] at hj
   simp only[List.getElem?_cons_zero,Option.some.injEq] at hj
   subst hj
   have ej:j=i:=by omega
   subst ej;exact hv
 ·rintro D σ H' ys hD ⟨zs,rfl,hzl,hz,s',_⟩ eD
  rw[List.length_map] at hzl
  have hps:ps.length=ns.length:=by simp at hlp;omega
  exact q D zs H' (s1.free hD) (s1.trans s') eD ⟨by omega,hz⟩
abbrev zq1i:Stmt:=top 16
theorem zqez:FnScope ["row"] ["row"] (defScope zq1i):=⟨rfl,rfl,rfl,by decide +kernel,rfl,by decide +kernel,by decide +kernel⟩
theorem zq8u:Vis (defScope zq1i) "row":=Or.inl (by kernel_rfl)
theorem zq8v:(defScope zq1i).names.lookup ("even_table":Str)=some NameKind.globalImplicit:=by kernel_rfl
theorem zq88:(defScope zq1i).names.lookup ("least_evens":Str)=some NameKind.globalImplicit:=by kernel_rfl
theorem zqdn:(defScope zq1i).names.lookup ("len":Str)=some NameKind.globalImplicit:=by kernel_rfl
def zqf8 {cdv:Value}{A:Around}{outer:List Env}{s:Shared}{H:Hp}{E:XK}(B:Bl mg)(zq1e:Def P w K mg base 1 "least_evens" ["table"] zq2d)(zqr:Def P w K mg base 2 "even_table" ["row","most"] zq1v)(hr:Room 2 (A.deeper (PyProof.Rows.envOfC "all_even" (defScope zq1i) s.heap.objs.size f cdv))) :
  { t:TS // QB (cxOf CX0 P w K mg base ["row"] "all_even" (defScope zq1i) f cdv A outer s H E).nox (defBody zq1i) t } :=
 ⟨_,(qb_one (qs_ret (qe_def zq1e hr (by decide) zq88 (qa_cons (qe_def zqr hr (by decide) zq8v (qa_cons (qv 0 rfl zq8u) (qa_cons (qe_cB (kLen (K:=K) rfl) zqdn B.len boot_len' (qa_cons (qv 0 rfl zq8u) qa_nil)) qa_nil))) qa_nil))))⟩
open M25 in
def zq2b:Sp:=λvs H Q _=>∃ (r:Addr) (ns:List Int),vs=[.ref r]/\H r=some (.lst (ns.map V.int))/\1<=ns.length/\ns.length<=1000/\(∀ n∈ns,0<=n/\n<=1000000000000) /\
 ∀ (z:Addr) (zs:List Int) (H':Hp),H z=none->Same H H'->H' z=some (.lst (zs.map V.int))->Evens ns zs->Q (.ref z) H'
open M25 in
theorem zqf0 (B:Bl mg)(zq1e:Def P w K mg base 1 "least_evens" ["table"] zq2d)(zqr:Def P w K mg base 2 "even_table" ["row","most"] zq1v)(F:Fun K "all_even" "all_even" zq1i f fd):FnOk P w K mg base CX0 3 f fd ["row"] zq2b:=by
 refine F.okq zqez (λvs H Q E h=>?_) (λcdv A outer s H vs Q E hr h=>?_)
 ·obtain⟨r,ns,rfl,_⟩:=h;rfl
 obtain⟨r,ns,rfl,hr0,n1,n2,hz,q⟩:=h
 refine⟨zqf8 B zq1e zqr hr,?_⟩
 refine i_lenI hr0 ⟨r,ns,ns.length,rfl,hr0,n2,hz,n1,Nat.le_refl _,λp ps pss H1 hf s1 ll tab=>?_⟩
 exact⟨p,ps,pss,ns,rfl,ll,tab,n1,n2,λz zs H2 hz2 s2 e2 ev=>q z zs H2 (s1.free hz2) (s1.trans s2) e2 ev⟩
abbrev zq2:Stmt:=top 19
theorem zq18:FnScope ["row","many","table","ahead","cut","begin","left","end"] ["row","many","table"] (defScope zq2):=⟨rfl,rfl,rfl,by decide +kernel,rfl,by decide +kernel,by decide +kernel⟩
theorem zq89:Loc (defScope zq2) "ahead":=Or.inl (by kernel_rfl)
theorem zq4h:Loc (defScope zq2) "begin":=Or.inl (by kernel_rfl)
theorem zq9k:Loc (defScope zq2) "cut":=Or.inl (by kernel_rfl)
theorem zq5a:Loc (defScope zq2) "end":=Or.inl (by kernel_rfl)
theorem zq8w:Loc (defScope zq2) "left":=Or.inl (by kernel_rfl)
theorem zq4i:Vis (defScope zq2) "ahead":=Or.inl (by kernel_rfl)
theorem zq2y:Vis (defScope zq2) "begin":=Or.inl (by kernel_rfl)
theorem zq5b:Vis (defScope zq2) "cut":=Or.inl (by kernel_rfl)
theorem zq28:Vis (defScope zq2) "end":=Or.inl (by kernel_rfl)
theorem zq4y:Vis (defScope zq2) "left":=Or.inl (by kernel_rfl)
theorem zq8x:Vis (defScope zq2) "many":=Or.inl (by kernel_rfl)
theorem zq9l:Vis (defScope zq2) "row":=Or.inl (by kernel_rfl)
theorem zq4j:Vis (defScope zq2) "table":=Or.inl (by kernel_rfl)
theorem zq8a:(defScope zq2).names.lookup ("range":Str)=some NameKind.globalImplicit:=by kernel_rfl
theorem zq6g:(defScope zq2).names.lookup ("sums_ahead":Str)=some NameKind.globalImplicit:=by kernel_rfl
def zqcn {cdv:Value}{A:Around}{outer:List Env}{s:Shared}{H:Hp}{E:XK}(B:Bl mg)(zqg:Def P w K mg base 1 "sums_ahead" ["row"] zq1b)(hr:Room 1 (A.deeper (PyProof.Rows.envOfC "first_even_cut" (defScope zq2) s.heap.objs.size f cdv))) :
  { t:TS // QB (cxOf CX0 P w K mg base ["row","many","table","ahead","cut","begin","left","end"] "first_even_cut" (defScope zq2) f cdv A outer s H E).nox (defBody zq2) t } :=
 ⟨_,(qb_cons (qs_set (i:=3) zq18.nd rfl zq89 (.inl rfl) (qe_def zqg hr (by decide) zq6g (qa_cons (qv 0 rfl zq9l) qa_nil)))
  (qb_cons (qs_set (i:=4) zq18.nd rfl zq9k (.inl rfl) (qe_lst qa_nil))
  (qb_cons (qs_set (i:=5) zq18.nd rfl zq4h (.inl rfl) qe_int)
  (qb_mid (qs_for PassesOwn.never rfl (qi_r3 zq8a B.range (qa_cons (qe_op opSub (qv 1 rfl zq8x) qe_int) (qa_cons qe_int (qa_cons (qe_un unNeg qe_int) qa_nil)))) (qg_name (i:=6) zq18.nd rfl zq8w (.inl rfl)) (qb_cons (qs_set (i:=7) zq18.nd rfl zq5a (.inl rfl) (qe_op opAdd (qv 5 rfl zq2y) qe_int))
  (qb_mid (qs_while PassesOwn.never (qt_cmp opGt (qe_op opAdd (qe_op opPow (qe_op opSub (ke_ix (K:=K) rfl (qv 3 rfl zq4i) (qv 7 rfl zq28) (λ_ _=>rfl)) (ke_ix (K:=K) rfl (qv 3 rfl zq4i) (qv 5 rfl zq2y) (λ_ _=>rfl))) qe_int) (ke_ix (K:=K) rfl (ke_ix (K:=K) rfl (qv 2 rfl zq4j) (qv 6 rfl zq4y) (λ_ _=>rfl)) (qv 7 rfl zq28) (λ_ _=>rfl))) (ke_ix (K:=K) rfl (ke_ix (K:=K) rfl (qv 2 rfl zq4j) (qe_op opAdd (qv 6 rfl zq4y) qe_int) (λ_ _=>rfl)) (qv 5 rfl zq2y) (λ_ _=>rfl))) (qb_one (qs_aug (i:=7) zq18.nd rfl zq5a (.inl rfl) qe_int ipAdd)))
  (qb_cons (qs_ex (ke_m1 (K:=K) rfl PySem.F.plainAttrs_list PySem.F.slot_list_append PySem.F.type_list_append mtApp (qv 4 rfl zq5b) (qv 7 rfl zq28)))
  (qb_one (qs_set (i:=5) zq18.nd rfl zq4h (.inl rfl) (qv 7 rfl zq28)))))))
  (qb_one (qs_ret (qv 4 rfl zq5b)))))))⟩
open M25 in
theorem tab_get {H:Hp}{tb:Addr}{ps:List Addr}{pss:List (List Int)}{ns:List Int}{M k:Nat}(ll:LL H tb ps pss)(tab:TabOk ns M pss)(k1:1<=k)(k2:k<=M):∃ a row,ps[k]?=some a/\H a=some (.lst (List.map V.int row))/\RowOk ns k row:=by
 have hl:=ll.len
 have htl:=tab.len
 have hx:ps[k]?=some (ps[k]'(by omega)):=List.getElem?_eq_getElem (by omega)
 obtain⟨row,h1,h2⟩:=pair_get ll.it hx
 exact⟨_,row,hx,h2,tab.ok k row k1 h1⟩
open M25 in
theorem row_at {ns row:List Int}{k b:Nat}(h:RowOk ns k row)(hb:b+k<=ns.length):b<row.length/\Least (sq ns) k b ns.length (row.getD b 0):=by
 have:=h.1
 have hb':b<row.length:=by omega
 exact⟨hb',h.2 b _ (getD_some hb')⟩
open M25 in
def zq1u:Sp:=λvs H Q _=>∃ (r tb:Addr) (ps:List Addr) (pss:List (List Int)) (ns:List Int) (m M:Nat),vs=[.ref r,.int m,.ref tb]/\H r=some (.lst (ns.map V.int))/\ns.length<=1000/\(∀ n∈ns,0<=n/\n<=1000000000000)/\LL H tb ps pss/\TabOk ns M pss/\1<=m/\m<=M/\M<=ns.length /\
 ∀ (p:Addr) (cs:List Nat) (b:Nat) (H':Hp),H p=none->Same H H'->H' p=some (.lst ((zs cs).map V.int))->Chain (sq ns) ns.length m (m-1) cs b->Q (.ref p) H'
open M25 in
theorem zqbv (B:Bl mg)(zqg:Def P w K mg base 1 "sums_ahead" ["row"] zq1b)(F:Fun K "first_even_cut" "first_even_cut" zq2 f fd):FnOk P w K mg base CX0 2 f fd ["row","many","table"] zq1u:=by
 refine F.okq zq18 (λvs H Q E h=>?_) (λcdv A outer s H vs Q E hr h=>?_)
 ·obtain⟨r,tb,ps,pss,ns,m,M,rfl,_⟩:=h;rfl
 obtain⟨r,tb,ps,pss,ns,m,M,rfl,hr0,hle,hz,ll,tab,m1,m2,m3,q⟩:=h
 refine⟨zqcn B zqg hr,?_⟩
 refine⟨r,ns,rfl,hr0,hle,λah H1 hah s1 e1=>?_⟩
 refine i_newL (by show 0<=sizeLine;decide) λcu H2 hcu s2 e2=>?_
 have hcu0:H cu=none:=s1.free hcu
 refine⟨λσ H'=>∃ cs b,Same H H'/\H' cu=some (.lst ((zs cs).map V.int))/\Chain (sq ns) ns.length m (m-1) cs b/\∃ o5 o6 o7,σ=[some (.ref r),some (.int m),some (.ref tb),some (.ref ah),some (.ref cu),o5,o6,o7],?_,?_⟩
 ·refine⟨rfl,⟨by omega,by omega,by omega,by omega⟩,for_down (λi σ H'=>∃ cs b,Same H H'/\H' ah=some (.lst ((pre ns (ns.length+1)).map V.int))/\H' cu=some (.lst ((zs cs).map V.int))/\Chain (sq ns) ns.length m i cs b/\b+(m-i)<=ns.length/\∃ o6 o7,σ=[some (.ref r),some (.int m),some (.ref tb),some (.ref ah),some (.ref cu),some (.int b),o6,o7]) ?_ ?_ ?_⟩
  ·exact⟨[],0,s1.trans s2,s2 _ _ e1,e2,.nil,by omega,_,_,rfl⟩
  ·rintro i σ H3 hi ⟨cs,b,s3,eah,e3,ch,hb,o6,o7,rfl⟩
   have hi':i+1<m:=by omega
   have hcl:=ch.len
   obtain⟨ra,rowA,hra,era,okA⟩:=tab_get (k:=m-1-i) (ll.same s3) tab (by omega) (by omega)
   obtain⟨rb,rowB,hrb,erb,okB⟩:=tab_get (k:=m-i) (ll.same s3) tab (by omega) (by omega)
   obtain⟨hbl,hu⟩:=row_at okB hb
   obtain⟨e0,he0,hit⟩:=hit_ex (by omega) hu
   have hle0:=hit.le
   have nac:ah≠cu:=ne_of_none e1 hcu
   have el:((m:Int)-1-(i:Int))=((m-1-i:Nat):Int):=by omega
   refine⟨λσ H'=>H'=H3/\∃ t:Nat,Step (sq ns) ns.length (m-i) b t/\σ=[some (.ref r),some (.int m),some (.ref tb),some (.ref ah),some (.ref cu),some (.int b),some (.int ((m:Int)-1-(i:Int))),some (.int t)],?_,?_⟩
   ·refine while_m (λmm σ H'=>H'=H3/\∃ t:Nat,mm=ns.length-t/\b<t/\(∀ e',b<e'->e'<t->¬ Hit (sq ns) ns.length (m-i) b e')/\σ=[some (.ref r),some (.int m),some (.ref tb),some (.ref ah),some (.ref cu),some (.int b),some (.int ((m:Int)-1-(i:Int))),some (.int t)]) (ns.length-(b+1)) ⟨rfl,b+1,rfl,by omega,λe' h1 h2=>by omega,rfl⟩ ?_
    rintro mm σ H' ⟨rfl,t,hmm,hbt,hno,rfl⟩
    have hte:=hit_before hno hit he0
    have em:m-i-1=m-1-i:=by omega
    obtain⟨htl,hv⟩:=row_at (b:=t) okA (by omega)
    refine i_ixN t eah rfl (by rw[List.getElem?_map,pre_at (by omega)];rfl) (i_ixN b eah rfl (by rw[List.getElem?_map,pre_at (by omega)];rfl) ?_)
    refine⟨⟨by decide,by decide,sq_small hle hz (by omega) (by omega)⟩,?_⟩
    refine i_ixN (m-1-i) (ll.same s3).at_ el (map_ref_at hra) (i_ixI era (by omega) (by omega) ?_)
    refine i_ixN (m-i) (ll.same s3).at_ (by omega) (map_ref_at hrb) (i_ixI erb (by omega) (by omega) ?_)
    rw[show ((t:Int)).toNat=t by omega,show ((b:Int)).toNat=b by omega]
    have hv':Least (sq ns) (m-i-1) t ns.length (rowA.getD t 0):=by rw[em];exact hv
    have hge:=no_less (w:=sq ns) (by omega) hbt hv' hu
    have hiff:=hit_iff hv' hu
    refine dec2 (λc=>?_) (λc=>?_)
    ·have c':rowB.getD b 0<sq ns b t+rowA.getD t 0:=c
     have hnt:¬ Hit (sq ns) ns.length (m-i) b t:=λz=>by have:=hiff.mp z;omega
     have htn:t<e0:=by
      rcases Nat.lt_or_ge t e0 with z | z
      ·exact z
      ·have:t=e0:=by omega
       exact absurd (this▸hit) hnt
     refine⟨ns.length-(t+1),by omega,rfl,t+1,rfl,by omega,λe' h1 h2=>?_,rfl⟩
     by_cases z:e'=t
     ·subst z;exact hnt
     ·exact hno e' h1 (by omega)
    ·have c':¬ rowB.getD b 0<sq ns b t+rowA.getD t 0:=c
     exact⟨rfl,t,⟨hbt,hiff.mpr (by omega),hno⟩,rfl⟩
   ·rintro σ H' ⟨rfl,t,st,rfl⟩
    have htl:=st.2.1.le
    refine⟨i_tyL e3,i_appI e3 (by rw[List.length_map];omega) λH4 k4 e4=>?_⟩
    refine⟨cs++[t],t,s3.new k4 hcu0,k4.one nac eah,?_,.snoc ch st,by omega,_,_,rfl⟩
    rw[e4];simp
  ·rintro σ H' ⟨cs,b,h1,_,h2,h3,_,o6,o7,rfl⟩
   have:((m:Int)-1-0).toNat=m-1:=by omega
   rw[this] at h3
   exact⟨cs,b,h1,h2,h3,_,_,_,rfl⟩
 ·rintro σ H' ⟨cs,b,h1,h2,h3,o5,o6,o7,rfl⟩
  exact q cu cs b H' hcu0 h1 h2 h3
def pairD (t:Int)(c:List Int):PyData:=.tuple [.int t,intsD c]
theorem rv_pair {H:Hp}{p pc:Addr}{t:Int}{c:List Int}(h1:H p=some (.tup [.int t,.ref pc]))(h2:H pc=some (.lst (c.map V.int))):RV 2 H (.ref p) (pairD t c) :=
 .inr ⟨_,_,.inl h1,rfl,.cons rfl (.cons (rv_ints h2) .nil)⟩
abbrev zqt:Stmt:=top 15
theorem zqb6:FnScope ["row","many","table"] ["row","many"] (defScope zqt):=⟨rfl,rfl,rfl,by decide +kernel,rfl,by decide +kernel,by decide +kernel⟩
theorem zqbw:Loc (defScope zqt) "table":=Or.inl (by kernel_rfl)
theorem zq3k:Vis (defScope zqt) "many":=Or.inl (by kernel_rfl)
theorem zq5c:Vis (defScope zqt) "row":=Or.inl (by kernel_rfl)
theorem zq6x:Vis (defScope zqt) "table":=Or.inl (by kernel_rfl)
theorem zq8b:(defScope zqt).names.lookup ("check_many":Str)=some NameKind.globalImplicit:=by kernel_rfl
theorem zq8c:(defScope zqt).names.lookup ("even_table":Str)=some NameKind.globalImplicit:=by kernel_rfl
theorem zq6n:(defScope zqt).names.lookup ("first_even_cut":Str)=some NameKind.globalImplicit:=by kernel_rfl
def zqf1 {cdv:Value}{A:Around}{outer:List Env}{s:Shared}{H:Hp}{E:XK}(B:Bl mg)(zq1:Def P w K mg base 3 "check_many" ["row","many"] zqn)(zqr:Def P w K mg base 2 "even_table" ["row","most"] zq1v)(zqv:Def P w K mg base 2 "first_even_cut" ["row","many","table"] zq1u)(hr:Room 3 (A.deeper (PyProof.Rows.envOfC "most_even" (defScope zqt) s.heap.objs.size f cdv))) :
  { t:TS // QB (cxOf CX0 P w K mg base ["row","many","table"] "most_even" (defScope zqt) f cdv A outer s H E).nox (defBody zqt) t } :=
 ⟨_,(qb_cons (qs_ex (qe_def zq1 hr (by decide) zq8b (qa_cons (qv 0 rfl zq5c) (qa_cons (qv 1 rfl zq3k) qa_nil))))
  (qb_cons (qs_set (i:=2) zqb6.nd rfl zqbw (.inl rfl) (qe_def zqr hr (by decide) zq8c (qa_cons (qv 0 rfl zq5c) (qa_cons (qv 1 rfl zq3k) qa_nil))))
  (qb_one (qs_ret (qe_tup (qa_cons (ke_ix (K:=K) rfl (ke_ix (K:=K) rfl (qv 2 rfl zq6x) (qv 1 rfl zq3k) (λ_ _=>rfl)) qe_int (λ_ _=>rfl)) (qa_cons (qe_def zqv hr (by decide) zq6n (qa_cons (qv 0 rfl zq5c) (qa_cons (qv 1 rfl zq3k) (qa_cons (qv 2 rfl zq6x) qa_nil)))) qa_nil)))))))⟩
open M25 in
def zq20:Sp:=λvs H Q _=>∃ (r:Addr) (ns:List Int) (m:Nat),vs=[.ref r,.int m]/\H r=some (.lst (ns.map V.int))/\ns.length<=1000/\(∀ n∈ns,0<=n/\n<=1000000000000)/\1<=m/\m<=ns.length /\
 ∀ (p pc:Addr) (v:Int) (cs:List Nat) (b:Nat) (H':Hp),Least (sq ns) m 0 ns.length v->Chain (sq ns) ns.length m (m-1) cs b->H p=none->H pc=none->p≠pc->Same H H'->H' p=some (.tup [.int v,.ref pc])->H' pc=some (.lst ((zs cs).map V.int))->Q (.ref p) H'
open M25 in
theorem zqen (B:Bl mg)(zq1:Def P w K mg base 3 "check_many" ["row","many"] zqn)(zqr:Def P w K mg base 2 "even_table" ["row","most"] zq1v)(zqv:Def P w K mg base 2 "first_even_cut" ["row","many","table"] zq1u)(F:Fun K "most_even" "most_even" zqt f fd):FnOk P w K mg base CX0 4 f fd ["row","many"] zq20:=by
 refine F.okq zqb6 (λvs H Q E h=>?_) (λcdv A outer s H vs Q E hr h=>?_)
 ·obtain⟨r,ns,m,rfl,_⟩:=h;rfl
 obtain⟨r,ns,m,rfl,hr0,hle,hz,m1,m2,q⟩:=h
 refine⟨zqf1 B zq1 zqr zqv hr,?_⟩
 refine⟨r,m,_,rfl,hr0,by omega,by rw[List.length_map];omega,?_⟩
 refine⟨r,ns,m,rfl,hr0,hle,hz,m1,m2,λtb ps pss H1 hf s1 ll tab=>?_⟩
 obtain⟨a,row,ha,ea,ok⟩:=tab_get (k:=m) ll tab m1 (Nat.le_refl _)
 obtain⟨h0,hv⟩:=row_at (b:=0) ok (by omega)
 refine i_ixN m ll.at_ rfl (map_ref_at ha) (i_ixI ea (by decide) (by omega) ?_)
 refine⟨r,tb,ps,pss,ns,m,m,rfl,s1 _ _ hr0,hle,hz,ll,tab,m1,Nat.le_refl _,m2,λpc cs b H2 hpc s2 e2 ch=>?_⟩
 refine i_newT (by show 2<=sizeLine;decide) λp H3 hp s3 e3=>?_
 exact q p pc _ cs b H3 hv ch ((s1.trans s2).free hp) (s1.free hpc) (ne_of_none e2 hp).symm (s1.trans (s2.trans s3)) e3 (s3 _ _ e2)
abbrev zqy:Stmt:=top 37
theorem zq4z:FnScope ["row","many","evens","low","high"] ["row","many"] (defScope zqy):=⟨rfl,rfl,rfl,by decide +kernel,rfl,by decide +kernel,by decide +kernel⟩
theorem zqdo:Loc (defScope zqy) "evens":=Or.inl (by kernel_rfl)
theorem zq9t:Loc (defScope zqy) "high":=Or.inl (by kernel_rfl)
theorem zqb7:Loc (defScope zqy) "low":=Or.inl (by kernel_rfl)
theorem zq44:Vis (defScope zqy) "evens":=Or.inl (by kernel_rfl)
theorem zqe7:Vis (defScope zqy) "high":=Or.inl (by kernel_rfl)
theorem zqeo:Vis (defScope zqy) "low":=Or.inl (by kernel_rfl)
theorem zq25:Vis (defScope zqy) "many":=Or.inl (by kernel_rfl)
theorem zq7l:Vis (defScope zqy) "row":=Or.inl (by kernel_rfl)
theorem zqbx:(defScope zqy).names.lookup ("all_even":Str)=some NameKind.globalImplicit:=by kernel_rfl
theorem zqac:(defScope zqy).names.lookup ("check_many":Str)=some NameKind.globalImplicit:=by kernel_rfl
theorem zqep:(defScope zqy).names.lookup ("len":Str)=some NameKind.globalImplicit:=by kernel_rfl
def zqfj {cdv:Value}{A:Around}{outer:List Env}{s:Shared}{H:Hp}{E:XK}(B:Bl mg)(zq1:Def P w K mg base 3 "check_many" ["row","many"] zqn)(zq12:Def P w K mg base 3 "all_even" ["row"] zq2b)(hr:Room 3 (A.deeper (PyProof.Rows.envOfC "prices" (defScope zqy) s.heap.objs.size f cdv))) :
  { t:TS // QB (cxOf CX0 P w K mg base ["row","many","evens","low","high"] "prices" (defScope zqy) f cdv A outer s H E).nox (defBody zqy) t } :=
 ⟨_,(qb_cons (qs_ex (qe_def zq1 hr (by decide) zqac (qa_cons (qv 0 rfl zq7l) (qa_cons (qv 1 rfl zq25) qa_nil))))
  (qb_cons (qs_set (i:=2) zq4z.nd rfl zqdo (.inl rfl) (qe_def zq12 hr (by decide) zqbx (qa_cons (qv 0 rfl zq7l) qa_nil)))
  (qb_cons (qs_set (i:=3) zq4z.nd rfl zqb7 (.inl rfl) qe_int)
  (qb_cons (qs_set (i:=4) zq4z.nd rfl zq9t (.inl rfl) qe_non)
  (qb_mid (qs_if (qt_cmp opLt (qv 1 rfl zq25) (qe_cB (kLen (K:=K) rfl) zqep B.len boot_len' (qa_cons (qv 0 rfl zq7l) qa_nil))) (qb_one (qs_set (i:=3) zq4z.nd rfl zqb7 (.inl rfl) (qe_op opSub (ke_ix (K:=K) rfl (qv 2 rfl zq44) (qe_op opSub (qv 1 rfl zq25) qe_int) (λ_ _=>rfl)) (ke_ix (K:=K) rfl (qv 2 rfl zq44) (qv 1 rfl zq25) (λ_ _=>rfl))))) qb_nil)
  (qb_mid (qs_if (qt_cmp opGt (qv 1 rfl zq25) qe_int) (qb_one (qs_set (i:=4) zq4z.nd rfl zq9t (.inl rfl) (qe_op opSub (ke_ix (K:=K) rfl (qv 2 rfl zq44) (qe_op opSub (qv 1 rfl zq25) qe_int) (λ_ _=>rfl)) (ke_ix (K:=K) rfl (qv 2 rfl zq44) (qe_op opSub (qv 1 rfl zq25) qe_int) (λ_ _=>rfl))))) qb_nil)
  (qb_one (qs_ret (qe_tup (qa_cons (qv 3 rfl zqeo) (qa_cons (qv 4 rfl zqe7) qa_nil)))))))))))⟩
def optV:Option Int->V
 | some i=>.int i
 | none=>.non
def optD:Option Int->PyData
 | some i=>.int i
 | none=>.none
def prLow (zs:List Int)(m:Nat):Int:=if m<zs.length then zs.getD (m-1) 0-zs.getD m 0 else 0
def prHigh (zs:List Int)(m:Nat):Option Int:=if 1<m then some (zs.getD (m-2) 0-zs.getD (m-1) 0) else none
theorem rv_opt {H:Hp}{n:Nat}(o:Option Int):RV n H (optV o) (optD o):=by cases o<;>cases n<;>rfl
theorem rv_pr {H:Hp}{p:Addr}{l:Int}{h:Option Int}(e:H p=some (.tup [.int l,optV h])):RV 1 H (.ref p) (.tuple [.int l,optD h]):=.inr ⟨_,_,.inl e,rfl,.cons rfl (.cons (rv_opt h) .nil)⟩
open M25 in
def zq50:Sp:=λvs H Q _=>∃ (r:Addr) (ns:List Int) (m:Nat),vs=[.ref r,.int m]/\H r=some (.lst (ns.map V.int))/\ns.length<=900/\(∀ n∈ns,0<=n/\n<=1000000000000)/\1<=m/\m<=ns.length /\
 ∀ (p:Addr) (zs:List Int) (H':Hp),Evens ns zs->H p=none->Same H H'->H' p=some (.tup [.int (prLow zs m),optV (prHigh zs m)])->Q (.ref p) H'
open M25 in
theorem zqfg (B:Bl mg)(zq1:Def P w K mg base 3 "check_many" ["row","many"] zqn)(zq12:Def P w K mg base 3 "all_even" ["row"] zq2b)(F:Fun K "prices" "prices" zqy f fd):FnOk P w K mg base CX0 4 f fd ["row","many"] zq50:=by
 refine F.okq zq4z (λvs H Q E h=>?_) (λcdv A outer s H vs Q E hr h=>?_)
 ·obtain⟨r,ns,m,rfl,_⟩:=h;rfl
 obtain⟨r,ns,m,rfl,hr0,hle,hz,m1,m2,q⟩:=h
 refine⟨zqfj B zq1 zq12 hr,?_⟩
 refine⟨r,m,_,rfl,hr0,by omega,by rw[List.length_map];omega,?_⟩
 refine⟨r,ns,rfl,hr0,by omega,by omega,hz,λev zs H1 hev s1 e1 hE=>?_⟩
 have hzl:=hE.1
 refine⟨λσ H'=>H'=H1/\σ=[some (.ref r),some (.int m),some (.ref ev),some (.int (prLow zs m)),some .non],?_,?_⟩
 ·refine i_lenI (s1 _ _ hr0) (dec2 (λc=>?_) (λc=>?_))
  ·refine i_ixI e1 (by omega) (by omega) (i_ixI e1 (by omega) (by omega) ?_)
   refine⟨rfl,?_⟩
   unfold prLow
   rw[if_pos (by omega),show ((m:Int)-1).toNat=m-1 by omega,show ((m:Int)).toNat=m by omega];rfl
  ·refine⟨rfl,?_⟩
   unfold prLow
   rw[if_neg (by omega)];rfl
 rintro σ H2 ⟨rfl,rfl⟩
 refine⟨λσ H'=>H'=H2/\σ=[some (.ref r),some (.int m),some (.ref ev),some (.int (prLow zs m)),some (optV (prHigh zs m))],?_,?_⟩
 ·refine dec2 (λc=>?_) (λc=>?_)
  ·refine i_ixI e1 (by omega) (by omega) (i_ixI e1 (by omega) (by omega) ?_)
   refine⟨rfl,?_⟩
   unfold prHigh
   rw[if_pos (by omega),show ((m:Int)-1).toNat=m-1 by omega,show ((m:Int)-2).toNat=m-2 by omega];rfl
  ·refine⟨rfl,?_⟩
   unfold prHigh
   rw[if_neg (by omega)];rfl
 rintro σ H2 ⟨rfl,rfl⟩
 exact i_newT (by show 2<=sizeLine;decide) λp H3 hp s3 e3=>q p zs H3 hE (s1.free hp) (s1.trans s3) e3
abbrev zqi:Stmt:=top 36
theorem zq4k:FnScope ["row","price","table","costs","cost","many"] ["row","price"] (defScope zqi):=⟨rfl,rfl,rfl,by decide +kernel,rfl,by decide +kernel,by decide +kernel⟩
theorem zqd3:Loc (defScope zqi) "cost":=Or.inl (by kernel_rfl)
theorem zqco:Loc (defScope zqi) "costs":=Or.inl (by kernel_rfl)
theorem zqd4:Loc (defScope zqi) "many":=Or.inl (by kernel_rfl)
theorem zqcp:Loc (defScope zqi) "table":=Or.inl (by kernel_rfl)
theorem zq7y:Vis (defScope zqi) "cost":=Or.inl (by kernel_rfl)
theorem zq7m:Vis (defScope zqi) "costs":=Or.inl (by kernel_rfl)
theorem zq7z:Vis (defScope zqi) "many":=Or.inl (by kernel_rfl)
theorem zq5s:Vis (defScope zqi) "row":=Or.inl (by kernel_rfl)
theorem zq7n:Vis (defScope zqi) "table":=Or.inl (by kernel_rfl)
theorem zq9m:(defScope zqi).names.lookup ("enumerate":Str)=some NameKind.globalImplicit:=by kernel_rfl
theorem zq8y:(defScope zqi).names.lookup ("even_table":Str)=some NameKind.globalImplicit:=by kernel_rfl
theorem zq75:(defScope zqi).names.lookup ("first_even_cut":Str)=some NameKind.globalImplicit:=by kernel_rfl
theorem zq8d:(defScope zqi).names.lookup ("least_evens":Str)=some NameKind.globalImplicit:=by kernel_rfl
theorem zqdp:(defScope zqi).names.lookup ("len":Str)=some NameKind.globalImplicit:=by kernel_rfl
theorem zqdq:(defScope zqi).names.lookup ("min":Str)=some NameKind.globalImplicit:=by kernel_rfl
def zqf9 {cdv:Value}{A:Around}{outer:List Env}{s:Shared}{H:Hp}{E:XK}(B:Bl mg)(zqr:Def P w K mg base 2 "even_table" ["row","most"] zq1v)(zq1e:Def P w K mg base 1 "least_evens" ["table"] zq2d)(zqv:Def P w K mg base 2 "first_even_cut" ["row","many","table"] zq1u)(hr:Room 2 (A.deeper (PyProof.Rows.envOfC "at_price" (defScope zqi) s.heap.objs.size f cdv))) :
  { t:TS // QB (cxOf CX0 P w K mg base ["row","price","table","costs","cost","many"] "at_price" (defScope zqi) f cdv A outer s H E).nox (defBody zqi) t } :=
 ⟨_,(qb_cons (qs_set (i:=2) zq4k.nd rfl zqcp (.inl rfl) (qe_def zqr hr (by decide) zq8y (qa_cons (qv 0 rfl zq5s) (qa_cons (qe_cB (kLen (K:=K) rfl) zqdp B.len boot_len' (qa_cons (qv 0 rfl zq5s) qa_nil)) qa_nil))))
  (qb_cons (qs_cp ["many","even","price"] [none,none,some 1] (i:=3) rfl zq4k.nd rfl zqco (.inl rfl) (ki_enum1 (K:=K) rfl zq9m B.enumerate (qa_cons (qe_def zq1e hr (by decide) zq8d (qa_cons (qv 2 rfl zq7n) qa_nil)) qa_nil) qe_int) (λ_ _ _ _ _ _=>(kg_tup (K:=K) rfl rfl (qgs_cons (qg_name (i:=0) (show (["many","even","price"]:List Str).Nodup by decide +kernel) rfl (by first | exact Or.inl rfl | exact Or.inr rfl) (by first | exact .inl rfl | exact .inr rfl)) (qgs_cons (qg_name (i:=1) (show (["many","even","price"]:List Str).Nodup by decide +kernel) rfl (by first | exact Or.inl rfl | exact Or.inr rfl) (by first | exact .inl rfl | exact .inr rfl)) qgs_nil)))) (λ_ _ _ _ _ _=>qif_nil) (λ_ _ _ _ _ _=>(qe_op opAdd (qv 1 rfl (by first | exact Or.inl rfl | exact Or.inr (Or.inl rfl) | exact Or.inr (Or.inr rfl))) (qe_op opMul (qv 2 rfl (by first | exact Or.inl rfl | exact Or.inr (Or.inl rfl) | exact Or.inr (Or.inr rfl))) (qv 0 rfl (by first | exact Or.inl rfl | exact Or.inr (Or.inl rfl) | exact Or.inr (Or.inr rfl)))))))
  (qb_cons (qs_set (i:=4) zq4k.nd rfl zqd3 (.inl rfl) (qe_cB (kMin (K:=K) rfl rfl) zqdq B.min boot_min' (qa_cons (qv 3 rfl zq7m) qa_nil)))
  (qb_cons (qs_set (i:=5) zq4k.nd rfl zqd4 (.inl rfl) (qe_op opAdd (ke_m1 (K:=K) rfl PySem.F.plainAttrs_list PySem.F.slot_list_index PySem.F.type_list_index mtIndex (qv 3 rfl zq7m) (qv 4 rfl zq7y)) qe_int))
  (qb_one (qs_ret (qe_tup (qa_cons (qv 4 rfl zq7y) (qa_cons (qv 5 rfl zq7z) (qa_cons (qe_def zqv hr (by decide) zq75 (qa_cons (qv 0 rfl zq5s) (qa_cons (qv 5 rfl zq7z) (qa_cons (qv 2 rfl zq7n) qa_nil)))) qa_nil))))))))))⟩
theorem i_indexF {a:Addr}{z:Int}{H:Hp}{Q:VK}{ns:List Int}(h:H a=some (.lst (ns.map V.int)))(hz:z∈ns)(q:∀ j:Nat,ns[j]?=some z->(∀ i:Nat,i<j->ns[i]?≠some z)->Q (.int j) H):hIndex a z H Q:=by
 unfold hIndex
 have ex:∃ j:Nat,ns[j]?=some z:=List.mem_iff_getElem?.mp hz
 have key:∀ n:Nat,(∃ j:Nat,j<n/\ns[j]?=some z)->∃ j:Nat,ns[j]?=some z/\∀ i:Nat,i<j->ns[i]?≠some z:=by
  intro n
  induction n with
  | zero=>rintro⟨j,h,_⟩;omega
  | succ n ih =>
   rintro⟨j,h1,h2⟩
   by_cases c:∃ j:Nat,j<n/\ns[j]?=some z
   ·exact ih c
   ·exact⟨j,h2,λi hi hz=>c ⟨i,by omega,hz⟩⟩
 obtain⟨j,hj⟩:=ex
 obtain⟨j,h1,h2⟩:=key (j+1) ⟨j,by omega,hj⟩
 exact⟨ns,j,h,h1,h2,q j h1 h2⟩
open M25 M31 in
def zq5y:Sp:=λvs H Q _=>∃ (r:Addr) (ns:List Int) (price:Int),vs=[.ref r,.int price]/\H r=some (.lst (ns.map V.int))/\1<=ns.length/\ns.length<=900/\(∀ n∈ns,0<=n/\n<=1000000000000)/\0<=price/\price<=10000000000000000000000000000000 /\
 ∀ (p pc:Addr) (cost:Int) (m:Nat) (cs:List Nat) (b:Nat) (ev:List Int) (H':Hp),Evens ns ev->CostAt ev price cost m->Chain (sq ns) ns.length m (m-1) cs b->H p=none->H pc=none->p≠pc->Same H H'->H' p=some (.tup [.int cost,.int m,.ref pc])->H' pc=some (.lst ((zs cs).map V.int))->Q (.ref p) H'
open M25 M31 in
theorem zqf2 (B:Bl mg)(zqr:Def P w K mg base 2 "even_table" ["row","most"] zq1v)(zq1e:Def P w K mg base 1 "least_evens" ["table"] zq2d)(zqv:Def P w K mg base 2 "first_even_cut" ["row","many","table"] zq1u)(F:Fun K "at_price" "at_price" zqi f fd):FnOk P w K mg base CX0 3 f fd ["row","price"] zq5y:=by
 refine F.okq zq4k (λvs H Q E h=>?_) (λcdv A outer s H vs Q E hr h=>?_)
 ·obtain⟨r,ns,price,rfl,_⟩:=h;rfl
 obtain⟨r,ns,price,rfl,hr0,n1,n2,hz,p0,p1,q⟩:=h
 refine⟨zqf9 B zqr zq1e zqv hr,?_⟩
 refine i_lenI hr0 ⟨r,ns,ns.length,rfl,hr0,by omega,hz,n1,Nat.le_refl _,λtb ps pss H1 hf s1 ll tab=>?_⟩
 refine⟨tb,ps,pss,ns,rfl,ll,tab,n1,by omega,λz ev H2 hz2 s2 e2 hE=>?_⟩
 have hel:=hE.1
 refine⟨⟨_,SqL.of e2⟩,comp_en1 (ev.map V.int) (λi D σ H' ys=>ys=((costs ev price).take i).map V.int/\Same H2 H'/\∃ o1 o2,σ=[o1,o2,some (.int price)]) ?_ ?_ ?_ ?_⟩
 ·intro D H' hD s' e'
  exact⟨rfl,s',_,_,rfl⟩
 ·rintro i D σ H' ys hD ⟨_,s',_⟩
  exact SqL.of (s' _ _ e2)
 ·rintro i x T D σ H' H'' ys hx hD ⟨rfl,s',o1,o2,rfl⟩ eD hT sT eT
  obtain⟨z,rfl,hz1,_⟩:=vints_at hx
  have hi:=(List.getElem?_eq_some_iff.mp hz1).1
  refine i_unp eT rfl (bT ⟨.inr ⟨by omega,by omega⟩,sT _ _ eD,sz_lt (by rw[List.length_map,List.length_take,costs_len];omega),λH6 k6 e6=>⟨?_,(s'.trans sT).new k6 hD,_,_,rfl⟩⟩)
  rw[take_snoc (costs_at hi),List.map_append,List.getD_eq_getElem?_getD,hz1];rfl
 ·rintro D σ H3 ys hD ⟨rfl,s3,_⟩ e3
  rw[List.take_of_length_le (by rw[costs_len,List.length_map];exact Nat.le_refl _)] at e3
  have hcl:=costs_len ev price
  refine i_min (SqL.of e3) (λz=>by rw[z] at hcl;simp at hcl;omega) λM hM hmin=>?_
  refine⟨i_tyL e3,i_indexF e3 hM λj hj hf=>?_⟩
  have hc:=cost_of hmin hj hf
  have hm2:=hc.mn
  have s13:=s1.trans (s2.trans s3)
  refine⟨r,tb,ps,pss,ns,j+1,ns.length,rfl,s13 _ _ hr0,by omega,hz,ll.same (s2.trans s3),tab,by omega,by omega,Nat.le_refl _,λpc cs b H4 hpc s4 e4 ch=>?_⟩
  refine i_newT (by show 3<=sizeLine;decide) λp H5 hp s5 e5=>?_
  exact q p pc M (j+1) cs b ev H5 hE hc ch ((s13.trans s4).free hp) (s13.free hpc) (ne_of_none e4 hp).symm (s13.trans (s4.trans s5)) e5 (s5 _ _ e4)
abbrev zqz:Stmt:=top 42
theorem zq9u:FnScope ["many","parts","less"] ["many","parts"] (defScope zqz):=⟨rfl,rfl,rfl,by decide +kernel,rfl,by decide +kernel,by decide +kernel⟩
theorem zqby:Loc (defScope zqz) "less":=Or.inl (by kernel_rfl)
theorem zq6y:Vis (defScope zqz) "less":=Or.inl (by kernel_rfl)
theorem zq4b:Vis (defScope zqz) "many":=Or.inl (by kernel_rfl)
theorem zq2u:Vis (defScope zqz) "parts":=Or.inl (by kernel_rfl)
def zqeq {cdv:Value}{A:Around}{outer:List Env}{s:Shared}{H:Hp}{E:XK}(B:Bl mg)(hr:Room 0 (A.deeper (PyProof.Rows.envOfC "_law_shared" (defScope zqz) s.heap.objs.size f cdv))) :
  { t:TS // QB (cxOf CX0 P w K mg base ["many","parts","less"] "_law_shared" (defScope zqz) f cdv A outer s H E).nox (defBody zqz) t } :=
 ⟨_,(qb_cons (qs_set (i:=2) zq9u.nd rfl zqby (.inl rfl) (qe_op opFdiv (qv 0 rfl zq4b) (qv 1 rfl zq2u)))
  (qb_one (qs_ret (qe_op opAdd (qe_op opMul (qe_lst (qa_cons (qv 2 rfl zq6y) qa_nil)) (qe_op opSub (qv 1 rfl zq2u) (qe_op opMod (qv 0 rfl zq4b) (qv 1 rfl zq2u)))) (qe_op opMul (qe_lst (qa_cons (qe_op opAdd (qv 2 rfl zq6y) qe_int) qa_nil)) (qe_op opMod (qv 0 rfl zq4b) (qv 1 rfl zq2u)))))))⟩
abbrev zqp:Stmt:=top 43
theorem zqdr:FnScope ["many","parts","one"] ["many","parts","one"] (defScope zqp):=⟨rfl,rfl,rfl,by decide +kernel,rfl,by decide +kernel,by decide +kernel⟩
theorem zqb8:Vis (defScope zqp) "many":=Or.inl (by kernel_rfl)
theorem zq6z:Vis (defScope zqp) "one":=Or.inl (by kernel_rfl)
theorem zqad:Vis (defScope zqp) "parts":=Or.inl (by kernel_rfl)
theorem zq76:(defScope zqp).names.lookup ("_law_shared":Str)=some NameKind.globalImplicit:=by kernel_rfl
theorem zqbz:(defScope zqp).names.lookup ("sum":Str)=some NameKind.globalImplicit:=by kernel_rfl
def zqe8 {cdv:Value}{A:Around}{outer:List Env}{s:Shared}{H:Hp}{E:XK}(B:Bl mg)(zq1q:Def P w K mg base 1 "_law_shared" ["many","parts"] zq2q)(hr:Room 1 (A.deeper (PyProof.Rows.envOfC "_law_even_of" (defScope zqp) s.heap.objs.size f cdv))) :
  { t:TS // QB (cxOf CX0 P w K mg base ["many","parts","one"] "_law_even_of" (defScope zqp) f cdv A outer s H E).nox (defBody zqp) t } :=
 ⟨_,(qb_one (qs_ret (qe_op opMul (qe_op opMul (qv 2 rfl zq6z) (qv 2 rfl zq6z)) (qe_cB (kSum (K:=K) rfl rfl) zqbz B.sum boot_sum' (qa_cons (qe_cp ["size"] [none] rfl (ki_list (K:=K) rfl (qe_def zq1q hr (by decide) zq76 (qa_cons (qv 0 rfl zqb8) (qa_cons (qv 1 rfl zqad) qa_nil)))) (λ_ _ _ _ _ _=>(qg_name (i:=0) (show (["size"]:List Str).Nodup by decide +kernel) rfl (by first | exact Or.inl rfl | exact Or.inr rfl) (by first | exact .inl rfl | exact .inr rfl))) (λ_ _ _ _ _ _=>qif_nil) (λ_ _ _ _ _ _=>(qe_op opMul (qv 0 rfl (by first | exact Or.inl rfl | exact Or.inr (Or.inl rfl) | exact Or.inr (Or.inr rfl))) (qv 0 rfl (by first | exact Or.inl rfl | exact Or.inr (Or.inl rfl) | exact Or.inr (Or.inr rfl)))))) qa_nil)))))⟩
open M52
def zq2q:Sp:=λvs H Q _=>∃ n k:Nat,vs=[.int n,.int k]/\1<=k/\k<=n/\n<=120/\∀ p H',H p=none->Same H H'->H' p=some (.lst ((szs n k).map V.int))->Q (.ref p) H'
theorem zqe9 (B:Bl mg)(F:Fun K "_law_shared" "_law_shared" zqz f fd):FnOk P w K mg base CX0 1 f fd ["many","parts"] zq2q:=by
 refine F.okq zq9u (λvs H Q E h=>?_) (λcdv A outer s H vs Q E hr h=>?_)
 ·obtain⟨n,k,rfl,_⟩:=h;rfl
 obtain⟨n,k,rfl,k1,kn,n120,q⟩:=h
 refine⟨zqeq B  hr,?_⟩
 have hr':=Nat.mod_lt n (show k > 0 by omega)
 have k200:(k:Int)<2 ^ 200:=Int.lt_of_le_of_lt (show (k:Int)<=120 by omega) (by decide)
 refine⟨⟨by omega,k200⟩,?_⟩
 have e1:((n:Int) / k)=((n / k:Nat):Int):=(Int.natCast_ediv n k).symm
 have e2:((n:Int) % k)=((n % k:Nat):Int):=(Int.natCast_emod n k).symm
 refine i_newL (by show 1<=sizeLine;decide) λp1 H1 hp1 s1 f1=>?_
 refine⟨by omega,?_⟩
 refine i_rep1 f1 (by rw[e2];omega) (by rw[e2];omega) λp2 H2 hp2 s2 f2=>?_
 refine i_newL (by show 1<=sizeLine;decide) λp3 H3 hp3 s3 f3=>?_
 refine⟨by omega,?_⟩
 refine i_rep1 f3 (by rw[e2];omega) (by rw[e2];omega) λp4 H4 hp4 s4 f4=>?_
 refine i_cat (s4 _ _ (s3 _ _ f2)) f4 (sz_of (by simp only[List.length_map,List.length_replicate];rw[e2];omega)) λp5 H5 hp5 s5 f5=>?_
 refine q p5 H5 ((s1.trans (s2.trans (s3.trans s4))).free hp5) (s1.trans (s2.trans (s3.trans (s4.trans s5)))) ?_
 rw[f5,e1,e2,<- List.map_append]
 unfold szs
 rw[show ((k:Int)-((n % k:Nat):Int)).toNat=k-n % k by omega,Int.toNat_natCast]
def zq2e:Sp:=λvs H Q _=>∃ (n k:Nat) (c:Int),vs=[.int n,.int k,.int c]/\1<=k/\k<=n/\n<=120/\0<=c/\c<=1000000000000/\∀ H',Same H H'->Q (.int (c*c*M52.G n k)) H'
theorem zqds (B:Bl mg)(zq1q:Def P w K mg base 1 "_law_shared" ["many","parts"] zq2q)(F:Fun K "_law_even_of" "_law_even_of" zqp f fd):FnOk P w K mg base CX0 2 f fd ["many","parts","one"] zq2e:=by
 refine F.okq zqdr (λvs H Q E h=>?_) (λcdv A outer s H vs Q E hr h=>?_)
 ·obtain⟨n,k,c,rfl,_⟩:=h;rfl
 obtain⟨n,k,c,rfl,k1,kn,n120,c0,c1,q⟩:=h
 refine⟨zqe8 B zq1q hr,?_⟩
 refine⟨.inl ⟨by omega,by omega⟩,?_⟩
 refine⟨n,k,rfl,k1,kn,n120,λp H1 hp s1 e1=>?_⟩
 have hl:=szs_len (n:=n) k1
 refine⟨⟨_,SqL.of e1⟩,comp_lst ((szs n k).map V.int) (λi D σ H' ys=>ys=(((szs n k).map λx=>x*x).take i).map V.int/\Same H1 H'/\∃ o,σ=[o]) ?_ ?_ ?_ ?_⟩
 ·intro D H' hD s' e'
  exact⟨rfl,s',_,rfl⟩
 ·rintro i D σ H' ys hD ⟨_,s',_⟩
  exact SqL.of (s' _ _ e1)
 ·rintro i x D σ H' ys hx hD ⟨rfl,s',o,rfl⟩ eD
  obtain⟨z,rfl,hz,_⟩:=vints_at hx
  have hi:=(List.getElem?_eq_some_iff.mp hz).1
  have hzb:=szs_bd z (List.mem_of_getElem? hz)
  refine bT ⟨.inl ⟨by omega,by omega⟩,eD,sz_lt (by rw[List.length_map,List.length_take,List.length_map];omega),λH6 k6 e6=>⟨?_,s'.new k6 hD,_,rfl⟩⟩
  rw[take_snoc (x:=z*z) (by rw[List.getElem?_map,hz];rfl),List.map_append];rfl
 rintro p2 σ H2 ys hp2 ⟨rfl,s2,_⟩ e2
 rw[List.take_of_length_le (by simp)] at e2
 refine i_sum (SqL.of e2) ?_
 rw[szs_sq k1]
 have hg:=G_bd kn n120
 exact⟨.inr ⟨by omega,by omega⟩,q H2 (s1.trans s2)⟩
abbrev zq4:Stmt:=top 45
theorem zq1w:FnScope ["row","many","parts","one","low","high"] ["row","many","parts","one"] (defScope zq4):=⟨rfl,rfl,rfl,by decide +kernel,rfl,by decide +kernel,by decide +kernel⟩
theorem zq46:Loc (defScope zq4) "high":=Or.inl (by kernel_rfl)
theorem zq4l:Loc (defScope zq4) "low":=Or.inl (by kernel_rfl)
theorem zq7u:Vis (defScope zq4) "high":=Or.inl (by kernel_rfl)
theorem zq8e:Vis (defScope zq4) "low":=Or.inl (by kernel_rfl)
theorem zq1k:Vis (defScope zq4) "many":=Or.inl (by kernel_rfl)
theorem zq1y:Vis (defScope zq4) "one":=Or.inl (by kernel_rfl)
theorem zqs:Vis (defScope zq4) "parts":=Or.inl (by kernel_rfl)
theorem zq8f:Vis (defScope zq4) "row":=Or.inl (by kernel_rfl)
theorem zq13:(defScope zq4).names.lookup ("_law_even_of":Str)=some NameKind.globalImplicit:=by kernel_rfl
theorem zq77:(defScope zq4).names.lookup ("prices":Str)=some NameKind.globalImplicit:=by kernel_rfl
def zqb9 {cdv:Value}{A:Around}{outer:List Env}{s:Shared}{H:Hp}{E:XK}(B:Bl mg)(zqq:Def P w K mg base 2 "_law_even_of" ["many","parts","one"] zq2e)(zq2z:Def P w K mg base 4 "prices" ["row","many"] zq50)(hr:Room 4 (A.deeper (PyProof.Rows.envOfC "_law_prices_right" (defScope zq4) s.heap.objs.size f cdv))) :
  { t:TS // QB (cxOf CX0 P w K mg base ["row","many","parts","one","low","high"] "_law_prices_right" (defScope zq4) f cdv A outer s H E).nox (defBody zq4) t } :=
 ⟨_,(qb_cons (qs_set (i:=4) zq1w.nd rfl zq4l (.inl rfl) qe_int)
  (qb_cons (qs_set (i:=5) zq1w.nd rfl zq46 (.inl rfl) qe_non)
  (qb_mid (qs_if (qt_cmp opLt (qv 2 rfl zqs) (qv 1 rfl zq1k)) (qb_one (qs_set (i:=4) zq1w.nd rfl zq4l (.inl rfl) (qe_op opSub (qe_def zqq hr (by decide) zq13 (qa_cons (qv 1 rfl zq1k) (qa_cons (qv 2 rfl zqs) (qa_cons (qv 3 rfl zq1y) qa_nil)))) (qe_def zqq hr (by decide) zq13 (qa_cons (qv 1 rfl zq1k) (qa_cons (qe_op opAdd (qv 2 rfl zqs) qe_int) (qa_cons (qv 3 rfl zq1y) qa_nil))))))) qb_nil)
  (qb_mid (qs_if (qt_cmp opGt (qv 2 rfl zqs) qe_int) (qb_one (qs_set (i:=5) zq1w.nd rfl zq46 (.inl rfl) (qe_op opSub (qe_def zqq hr (by decide) zq13 (qa_cons (qv 1 rfl zq1k) (qa_cons (qe_op opSub (qv 2 rfl zqs) qe_int) (qa_cons (qv 3 rfl zq1y) qa_nil)))) (qe_def zqq hr (by decide) zq13 (qa_cons (qv 1 rfl zq1k) (qa_cons (qv 2 rfl zqs) (qa_cons (qv 3 rfl zq1y) qa_nil))))))) qb_nil)
  (qb_one (qs_ret (qe_cmp (kEqG (K:=K) rfl hr) (qe_def zq2z hr (by decide) zq77 (qa_cons (qv 0 rfl zq8f) (qa_cons (qv 2 rfl zqs) qa_nil))) (qe_tup (qa_cons (qv 4 rfl zq8e) (qa_cons (qv 5 rfl zq7u) qa_nil))))))))))⟩
open M25 M52
def evR (n:Nat)(c:Int):List Int:=(List.range n).map λi=>c*c*M52.G n (i+1)
theorem evR_at {n:Nat}{c:Int}{i:Nat}(h:i<n):(evR n c).getD i 0=c*c*M52.G n (i+1):=by
 unfold evR
 rw[List.getD_eq_getElem?_getD,List.getElem?_map,List.getElem?_range h];rfl
theorem evR_len (n:Nat)(c:Int):(evR n c).length=n:=by simp[evR]
theorem row_rp {n:Nat}{c:Int}(c0:0<=c)(c1:c<=1000000000000):∀ x∈List.replicate n c,0<=x/\x<=1000000000000:=λx hx=>by
 have:=(List.mem_replicate.mp hx).2
 omega
def zq2l:Sp:=λvs H Q _=>∃ (r:Addr) (n k:Nat) (c:Int),vs=[.ref r,.int n,.int k,.int c]/\H r=some (.lst ((List.replicate n c).map V.int))/\1<=k/\k<=n/\n<=120/\0<=c/\c<=1000000000000/\∀ H',Same H H'->Q (.bl true) H'
theorem zqae (B:Bl mg)(zqq:Def P w K mg base 2 "_law_even_of" ["many","parts","one"] zq2e)(zq2z:Def P w K mg base 4 "prices" ["row","many"] zq50)(F:Fun K "_law_prices_right" "_law_prices_right" zq4 f fd):FnOk P w K mg base CX0 5 f fd ["row","many","parts","one"] zq2l:=by
 refine F.okq zq1w (λvs H Q E h=>?_) (λcdv A outer s H vs Q E hr h=>?_)
 ·obtain⟨r,n,k,c,rfl,_⟩:=h;rfl
 obtain⟨r,n,k,c,rfl,hr0,k1,kn,n120,c0,c1,q⟩:=h
 refine⟨zqb9 B zqq zq2z hr,?_⟩
 have hl:=evR_len n c
 refine⟨λσ H'=>Same H H'/\σ=[some (.ref r),some (.int n),some (.int k),some (.int c),some (.int (prLow (evR n c) k)),some .non],?_,?_⟩
 ·refine dec2 (λz=>?_) (λz=>?_)
  ·refine⟨n,k,c,rfl,k1,kn,n120,c0,c1,λH1 s1=>?_⟩
   refine⟨n,k+1,c,rfl,by omega,by omega,n120,c0,c1,λH2 s2=>?_⟩
   refine⟨s1.trans s2,?_⟩
   unfold prLow
   rw[if_pos (by omega),evR_at (by omega),evR_at (by omega),show k-1+1=k by omega];rfl
  ·refine⟨Same.refl _,?_⟩
   unfold prLow
   rw[if_neg (by omega)];rfl
 rintro σ H1 ⟨s1,rfl⟩
 refine⟨λσ H'=>Same H H'/\σ=[some (.ref r),some (.int n),some (.int k),some (.int c),some (.int (prLow (evR n c) k)),some (optV (prHigh (evR n c) k))],?_,?_⟩
 ·refine dec2 (λz=>?_) (λz=>?_)
  ·refine⟨n,k-1,c,(by show [V.int (n:Int),V.int ((k:Int)-1),V.int c]=_;rw[show (k:Int)-1=((k-1:Nat):Int) by omega]),by omega,by omega,n120,c0,c1,λH2 s2=>?_⟩
   refine⟨n,k,c,rfl,k1,kn,n120,c0,c1,λH3 s3=>?_⟩
   refine⟨s1.trans (s2.trans s3),?_⟩
   unfold prHigh
   rw[if_pos (by omega),evR_at (by omega),evR_at (by omega),show k-2+1=k-1 by omega,show k-1+1=k by omega];rfl
  ·refine⟨s1,?_⟩
   unfold prHigh
   rw[if_neg (by omega)];rfl
 rintro σ H2 ⟨s2,rfl⟩
 refine⟨r,List.replicate n c,k,rfl,s2 _ _ hr0,by rw[List.length_replicate];omega,row_rp c0 c1,k1,by rw[List.length_replicate];exact kn,λp zs H3 hE hp s3 e3=>?_⟩
 have ez:zs=evR n c:=hE.uniq (evens_rp c)
 subst ez
 refine i_newT (by show 2<=sizeLine;decide) λp4 H4 hp4 s4 e4=>?_
 refine i_eqD (d:=.tuple [.int (prLow (evR n c) k),optD (prHigh (evR n c) k)]) 0 (by decide) (rv_pr (s4 _ _ e3)) (rv_pr e4) ?_
 exact q H4 (s2.trans (s3.trans s4))
abbrev zq0:Stmt:=top 44
theorem zq27:FnScope ["many","parts","one","row","sizes","ends","size"] ["many","parts","one"] (defScope zq0):=⟨rfl,rfl,rfl,by decide +kernel,rfl,by decide +kernel,by decide +kernel⟩
theorem zq8z:Loc (defScope zq0) "ends":=Or.inl (by kernel_rfl)
theorem zq9n:Loc (defScope zq0) "row":=Or.inl (by kernel_rfl)
theorem zq90:Loc (defScope zq0) "size":=Or.inl (by kernel_rfl)
theorem zq8g:Loc (defScope zq0) "sizes":=Or.inl (by kernel_rfl)
theorem zq22:Vis (defScope zq0) "ends":=Or.inl (by kernel_rfl)
theorem zq10:Vis (defScope zq0) "many":=Or.inr (Or.inl (by kernel_rfl))
theorem zq1j:Vis (defScope zq0) "one":=Or.inr (Or.inl (by kernel_rfl))
theorem zq17:Vis (defScope zq0) "parts":=Or.inl (by kernel_rfl)
theorem zq29:Vis (defScope zq0) "row":=Or.inl (by kernel_rfl)
theorem zq91:Vis (defScope zq0) "size":=Or.inl (by kernel_rfl)
theorem zq8h:Vis (defScope zq0) "sizes":=Or.inl (by kernel_rfl)
theorem zq5i:(defScope zq0).names.lookup ("_law_even_of":Str)=some NameKind.globalImplicit:=by kernel_rfl
theorem zq4c:(defScope zq0).names.lookup ("_law_prices_right":Str)=some NameKind.globalImplicit:=by kernel_rfl
theorem zq5t:(defScope zq0).names.lookup ("_law_shared":Str)=some NameKind.globalImplicit:=by kernel_rfl
theorem zq78:(defScope zq0).names.lookup ("all_even":Str)=some NameKind.globalImplicit:=by kernel_rfl
theorem zq9o:(defScope zq0).names.lookup ("int":Str)=some NameKind.globalImplicit:=by kernel_rfl
theorem zq5j:(defScope zq0).names.lookup ("least_spread":Str)=some NameKind.globalImplicit:=by kernel_rfl
theorem zq6o:(defScope zq0).names.lookup ("most_even":Str)=some NameKind.globalImplicit:=by kernel_rfl
theorem zq8i:(defScope zq0).names.lookup ("range":Str)=some NameKind.globalImplicit:=by kernel_rfl
theorem zq9p:(defScope zq0).names.lookup ("sum":Str)=some NameKind.globalImplicit:=by kernel_rfl
def zqcq {cdv:Value}{A:Around}{outer:List Env}{s:Shared}{H:Hp}{E:XK}(B:Bl mg)(zq1q:Def P w K mg base 1 "_law_shared" ["many","parts"] zq2q)(zqw:Def P w K mg base 4 "most_even" ["row","many"] zq20)(zqq:Def P w K mg base 2 "_law_even_of" ["many","parts","one"] zq2e)(zq12:Def P w K mg base 3 "all_even" ["row"] zq2b)(zq3c:Def P w K mg base 6 "least_spread" ["row","many"] zq3w)(zq21:Def P w K mg base 5 "_law_prices_right" ["row","many","parts","one"] zq2l)(hr:Room 6 (A.deeper (PyProof.Rows.envOfC "_law_like_right" (defScope zq0) s.heap.objs.size f cdv))) :
  { t:TS // QB (cxOf CX0 P w K mg base ["many","parts","one","row","sizes","ends","size"] "_law_like_right" (defScope zq0) f cdv A outer s H E).nox (defBody zq0) t } :=
 ⟨_,(qb_cons (qs_set (i:=3) zq27.nd rfl zq9n (.inl rfl) (qe_op opMul (qe_lst (qa_cons (qv 2 rfl zq1j) qa_nil)) (qv 0 rfl zq10)))
  (qb_cons (qs_set (i:=4) zq27.nd rfl zq8g (.inl rfl) (qe_def zq1q hr (by decide) zq5t (qa_cons (qv 0 rfl zq10) (qa_cons (qv 1 rfl zq17) qa_nil))))
  (qb_cons (qs_set (i:=5) zq27.nd rfl zq8z (.inl rfl) (qe_lst qa_nil))
  (qb_mid (qs_for PassesOwn.never rfl (ki_list (K:=K) rfl (qv 4 rfl zq8h)) (qg_name (i:=6) zq27.nd rfl zq90 (.inl rfl)) (qb_one (qs_ex (ke_m1 (K:=K) rfl PySem.F.plainAttrs_list PySem.F.slot_list_append PySem.F.type_list_append mtApp (qv 5 rfl zq22) (qe_op opAdd (qe_cB (kSum (K:=K) rfl rfl) zq9p B.sum boot_sum' (qa_cons (ke_slice (K:=K) rfl (qv 5 rfl zq22) (qo_some (qe_un unNeg qe_int)) qo_none) qa_nil)) (qv 6 rfl zq91))))))
  (qb_cons (qs_if (QW.pt (qw_and (qt_cmp opGt (qv 2 rfl zq1j) qe_int) (qw_and1 (qt_cmp (kNeG (K:=K) rfl hr) (qe_def zqw hr (by decide) zq6o (qa_cons (qv 3 rfl zq29) (qa_cons (qv 1 rfl zq17) qa_nil))) (qe_tup (qa_cons (qe_def zqq hr (by decide) zq5i (qa_cons (qv 0 rfl zq10) (qa_cons (qv 1 rfl zq17) (qa_cons (qv 2 rfl zq1j) qa_nil)))) (qa_cons (ke_slice (K:=K) rfl (qv 5 rfl zq22) qo_none (qo_some (qe_un unNeg qe_int))) qa_nil))))))) (qb_one (qs_ret qe_bl)) qb_nil)
  (qb_cons (qs_if (qt_cmp (kNeG (K:=K) rfl hr) (qe_def zq12 hr (by decide) zq78 (qa_cons (qv 3 rfl zq29) qa_nil)) (qe_cp ["count","many","one"] [none,some 0,some 2] rfl (qi_r2 zq8i B.range (qa_cons qe_int (qa_cons (qe_op opAdd (qv 0 rfl zq10) qe_int) qa_nil))) (λ_ _ _ _ _ _=>(qg_name (i:=0) (show (["count","many","one"]:List Str).Nodup by decide +kernel) rfl (by first | exact Or.inl rfl | exact Or.inr rfl) (by first | exact .inl rfl | exact .inr rfl))) (λ_ _ _ _ _ _=>qif_nil) (λ_ _ _ _ _ _=>(qe_def zqq hr (by decide) rfl (qa_cons (qv 1 rfl (by first | exact Or.inl rfl | exact Or.inr (Or.inl rfl) | exact Or.inr (Or.inr rfl))) (qa_cons (qv 0 rfl (by first | exact Or.inl rfl | exact Or.inr (Or.inl rfl) | exact Or.inr (Or.inr rfl))) (qa_cons (qv 2 rfl (by first | exact Or.inl rfl | exact Or.inr (Or.inl rfl) | exact Or.inr (Or.inr rfl))) qa_nil))))))) (qb_one (qs_ret qe_bl)) qb_nil)
  (qb_cons (qs_if (QW.pt (qw_and (qt_cmp opGt (qv 2 rfl zq1j) qe_int) (qw_and (qt_cmp opLt (qv 0 rfl zq10) qe_int) (qw_and1 (qt_cmp (kNeG (K:=K) rfl hr) (qe_def zq3c hr (by decide) zq5j (qa_cons (qv 3 rfl zq29) (qa_cons (qv 1 rfl zq17) qa_nil))) (qe_tup (qa_cons (qe_op opMul (qv 2 rfl zq1j) (qe_cT callInt zq9o B.int boot_int (qa_cons (qe_cmp opGt (qe_op opMod (qv 0 rfl zq10) (qv 1 rfl zq17)) qe_int) qa_nil))) (qa_cons (ke_slice (K:=K) rfl (qv 5 rfl zq22) qo_none (qo_some (qe_un unNeg qe_int))) qa_nil)))))))) (qb_one (qs_ret qe_bl)) qb_nil)
  (qb_one (qs_ret (qe_def zq21 hr (by decide) zq4c (qa_cons (qv 3 rfl zq29) (qa_cons (qv 0 rfl zq10) (qa_cons (qv 1 rfl zq17) (qa_cons (qv 2 rfl zq1j) qa_nil))))))))))))))⟩
open M25 M52
theorem sum_last (zs:List Int):(zs.drop (zs.length-1)).sum=zs.getD (zs.length-1) 0:=by
 rcases List.eq_nil_or_concat zs with h | ⟨l,b,h⟩
 ·rw[h];rfl
 ·rw[h,List.concat_eq_append,List.length_append];simp
theorem cutV_l1 (ns:List Int):cutV (ns.map V.int) (some (-1)) none=(ns.drop (ns.length-1)).map V.int:=by
 have e1:HT.sIx ns.length 0 (some (-1))=ns.length-1:=by unfold HT.sIx;simp only[];split<;>omega
 have e2:HT.sIx ns.length ns.length none=ns.length:=rfl
 rw[cutV_ints,e1,e2,List.take_of_length_le (by simp)]
theorem cutV_b1 (ns:List Int):cutV (ns.map V.int) none (some (-1))=(ns.take (ns.length-1)).map V.int:=by
 have e1:HT.sIx ns.length ns.length (some (-1))=ns.length-1:=by unfold HT.sIx;simp only[];split<;>omega
 have e2:HT.sIx ns.length 0 none=0:=rfl
 rw[cutV_ints,e1,e2,List.drop_zero,Nat.sub_zero]
theorem mIf_mid {c:TT}{ta tb:TS}{D:Ends}{σ:St}{H:Hp}(P:Hp->Prop)(h:∀ N:St->Hp->Prop,(∀ H',P H'->N σ H')->mIfS c ta tb { D with nx:=N } σ H)(hn:∀ H',P H'->D.nx σ H'):mIfS c ta tb D σ H:=h D.nx hn
def endsR (n k i:Nat):List Int:=(List.range i).map λt=>((pl n k (t+1):Nat):Int)
theorem endsR_sum (n k i:Nat):((endsR n k i).drop ((endsR n k i).length-1)).sum=((pl n k i:Nat):Int):=by
 rw[sum_last]
 unfold endsR
 rw[List.length_map,List.length_range,List.getD_eq_getElem?_getD,List.getElem?_map]
 cases i with
 | zero=>simp[pl]
 | succ i=>rw[List.getElem?_range (by omega)];rfl
theorem endsR_next {n k i:Nat}{z:Int}(k1:1<=k)(hi:i<k)(hz:(szs n k)[i]?=some z):((pl n k (i+1):Nat):Int)=((pl n k i:Nat):Int)+z:=by
 rw[<- szs_S k1 (show i+1<=k by omega),<- szs_S k1 (show i<=k by omega),S_succ hz]
theorem endsR_cut {n k:Nat}:(endsR n k k).take ((endsR n k k).length-1)=zs ((List.range (k-1)).map λt=>pl n k (t+1)):=by
 unfold endsR zs
 rw[List.length_map,List.length_range,<- List.map_take,List.take_range,Nat.min_eq_left (by omega),List.map_map];rfl
def zq35:Sp:=λvs H Q _=>∃ (n k:Nat) (c:Int),vs=[.int n,.int k,.int c]/\1<=k/\k<=n/\n<=120/\0<=c/\c<=1000000000000/\∀ H',Same H H'->Q (.bl true) H'
theorem zqc0 (B:Bl mg)(zq1q:Def P w K mg base 1 "_law_shared" ["many","parts"] zq2q)(zqw:Def P w K mg base 4 "most_even" ["row","many"] zq20)(zqq:Def P w K mg base 2 "_law_even_of" ["many","parts","one"] zq2e)(zq12:Def P w K mg base 3 "all_even" ["row"] zq2b)(zq3c:Def P w K mg base 6 "least_spread" ["row","many"] zq3w)(zq21:Def P w K mg base 5 "_law_prices_right" ["row","many","parts","one"] zq2l)(F:Fun K "_law_like_right" "_law_like_right" zq0 f fd):FnOk P w K mg base CX0 7 f fd ["many","parts","one"] zq35:=by
 refine F.okq zq27 (λvs H Q E h=>?_) (λcdv A outer s H vs Q E hr h=>?_)
 ·obtain⟨n,k,c,rfl,_⟩:=h;rfl
 obtain⟨n,k,c,rfl,k1,kn,n120,c0,c1,q⟩:=h
 refine⟨zqcq B zq1q zqw zqq zq12 zq3c zq21 hr,?_⟩
 refine i_newL (by show 1<=sizeLine;decide) λp0 H0 hp0 s0 e0=>i_rep1 (z:=c) e0 (by omega) (by omega) λr H1 hr1 s1 e1=>?_
 rw[Int.toNat_natCast] at e1
 refine⟨n,k,rfl,k1,kn,n120,λsz H2 hsz s2 e2=>?_⟩
 refine i_newL (by show 0<=sizeLine;decide) λen H3 hen s3 e3=>?_
 have s03:Same H H3:=s0.trans (s1.trans (s2.trans s3))
 have er3:=s3 _ _ (s2 _ _ e1)
 have hl:=szs_len (n:=n) k1
 have nse:sz≠en:=ne_of_none e2 hen
 refine⟨λσ H'=>H' en=some (.lst ((endsR n k k).map V.int))/\Same H2 H'/\∃ o,σ=[some (.int n),some (.int k),some (.int c),some (.ref r),some (.ref sz),some (.ref en),o],?_,?_⟩
 ·refine⟨⟨_,SqL.of (s3 _ _ e2)⟩,for_list (xs:=(szs n k).map V.int) (λi σ H'=>H' en=some (.lst ((endsR n k i).map V.int))/\Kp [en] H3 H'/\∃ o,σ=[some (.int n),some (.int k),some (.int c),some (.ref r),some (.ref sz),some (.ref en),o]) ?_ ?_ ?_ ?_⟩
  ·exact⟨e3,Kp.refl _ _,_,rfl⟩
  ·rintro i σ H' _ ⟨_,k',_⟩
   exact SqL.of (k'.one nse (s3 _ _ e2))
  ·rintro i x σ H4 hx ⟨e4,k4,o,rfl⟩
   obtain⟨z,rfl,hz,_⟩:=vints_at hx
   have hi:=(List.getElem?_eq_some_iff.mp hz).1
   refine⟨i_tyL e4,?_⟩
   refine i_sl (SqL.of e4) λp5 H5 hp5 s5 e5=>?_
   rw[show (-(1:Int))=-1 from rfl,cutV_l1] at e5
   refine i_sum (SqL.of e5) ?_
   rw[endsR_sum]
   have hil:(endsR n k i).length=i:=by simp[endsR]
   refine i_app (s5 _ _ e4) (sz_lt (by rw[List.length_map,hil];omega)) λH6 k6 e6=>?_
   refine⟨?_,(k4.trans s5.kp).trans k6,_,rfl⟩
   rw[e6]
   unfold endsR
   rw[List.range_succ,List.map_append,List.map_append,List.map_cons,List.map_nil,endsR_next k1 (by omega) hz];rfl
  ·rintro σ H' ⟨h1,h2,h3⟩
   rw[List.length_map,hl] at h1
   exact⟨h1,λb o e=>h2.one (λz=>by subst z;rw[hen] at e;cases e) (s3 _ _ e),h3⟩
 ·rintro σ H4 ⟨e4,s4,o,rfl⟩
  have er4:=s4 _ _ (s2 _ _ e1)
  have hrow:=row_rp (n:=n) c0 c1
  have hrl:(List.replicate n c).length=n:=List.length_replicate
  have cutE:∀ {p:Addr} {X:Hp},X p=some (.lst (cutV ((endsR n k k).map V.int) none (some (-1))))->X p=some (.lst ((zs ((List.range (k-1)).map λt=>pl n k (t+1))).map V.int)):=λh=>by rw[cutV_b1,endsR_cut] at h;exact h
  dsimp only[tSeq]
  refine mIf_mid (λH'=>Same H4 H') (λN hN=>?_) (λH5 s5=>?_)
  ·refine dec2 (λcp=>?_) (λcp=>?_)
   ·refine⟨r,List.replicate n c,k,rfl,er4,by omega,hrow,k1,by omega,λp pc v cs b H5 hL hC hp hpc hn s5 e5 ec5=>?_⟩
    rw[hrl] at hL hC
    have hv:=hL.uniq (least_rp c k 0 k1 (by omega))
    rw[Nat.sub_zero] at hv
    have hcs:=chain_rp (by omega) k1 kn hC
    subst hv hcs
    refine⟨n,k,c,rfl,k1,kn,n120,c0,c1,λH6 s6=>?_⟩
    refine i_sl (SqL.of (s6 _ _ (s5 _ _ e4))) λp7 H7 hp7 s7 e7=>?_
    have e7':=cutE e7
    refine i_newT (by show 2<=sizeLine;decide) λp8 H8 hp8 s8 e8=>?_
    refine i_eqD (d:=pairD _ _) 1 (by decide) (rv_pair (s8 _ _ (s7 _ _ (s6 _ _ e5))) (s8 _ _ (s7 _ _ (s6 _ _ ec5)))) (rv_pair e8 (s8 _ _ e7')) (bF ?_)
    exact hN _ (s5.trans (s6.trans (s7.trans s8)))
   ·exact bF (hN _ (Same.refl _))
  dsimp only[tSeq]
  refine mIf_mid (λH'=>Same H4 H') (λN hN=>?_) (λH6 s6=>?_)
  ·refine⟨r,List.replicate n c,rfl,s5 _ _ er4,by omega,by omega,hrow,λpz zs6 H6 hpz s6 e6 hE=>?_⟩
   have ez:zs6=evR n c:=hE.uniq (evens_rp c)
   subst ez
   refine⟨⟨by decide,by decide,by omega,by omega⟩,comp_rng (λi D σ H' ys=>ys=((evR n c).take i).map V.int/\Same H6 H'/\∃ o,σ=[o,some (.int n),some (.int c)]) ?_ ?_ ?_⟩
   ·intro D H' hD s' e'
    exact⟨rfl,s',_,rfl⟩
   ·rintro i D σ H' ys hi hD ⟨rfl,s',o,rfl⟩ eD
    have hi':i<n:=by omega
    refine bT ⟨n,i+1,c,(by show [V.int (n:Int),V.int (1+(i:Int)),V.int c]=_;rw[show 1+(i:Int)=((i+1:Nat):Int) by omega]),by omega,by omega,n120,c0,c1,λH7 s7=>?_⟩
    refine⟨s7 _ _ eD,sz_lt (by rw[List.length_map,List.length_take,evR_len];omega),λH8 k8 e8=>⟨?_,(s'.trans s7).new k8 hD,_,rfl⟩⟩
    have hat:(evR n c)[i]?=some (c*c*M52.G n (i+1)):=by unfold evR;rw[List.getElem?_map,List.getElem?_range hi'];rfl
    rw[take_snoc hat,List.map_append];rfl
   rintro p7 σ H7 ys hp7 ⟨rfl,s7,_⟩ e7
   rw[List.take_of_length_le (by rw[evR_len];omega)] at e7
   refine i_eqD (d:=.list ((evR n c).map PyData.int)) 0 (by decide) (.inl ⟨_,_,.inl (s7 _ _ e6),rfl,paired_ints 0 _⟩) (.inl ⟨_,_,.inl e7,rfl,paired_ints 0 _⟩) (bF ?_)
   exact hN _ (s5.trans (s6.trans s7))
  dsimp only[tSeq]
  refine mIf_mid (λH'=>Same H4 H') (λN hN=>?_) (λH7 s7=>?_)
  ·refine dec2 (λcp=>?_) (λcp=>bF (hN _ s6))
   refine dec2 (λcn=>?_) (λcn=>bF (hN _ s6))
   have rn:RowN (List.replicate n c):=⟨by omega,by omega,λx hx=>(hrow x hx).1,λx hx=>(hrow x hx).2⟩
   refine⟨r,k,List.replicate n c,rfl,s6 _ _ er4,rn,by omega,k1,by omega,λp pc d cs H7 hS hp hpc hn s7 e7 ec7=>?_⟩
   obtain⟨hd,hcs⟩:=hS.uniq (zqfn (by omega) k1 kn)
   rw[en_at k1] at hcs
   subst hd hcs
   have hmod:((n:Int) % k)=((n % k:Nat):Int):=(Int.natCast_emod n k).symm
   refine⟨by omega,?_⟩
   refine⟨.inl ⟨by omega,by omega⟩,?_⟩
   refine i_sl (SqL.of (s7 _ _ (s6 _ _ e4))) λp8 H8 hp8 s8 e8=>?_
   have e8':=cutE e8
   refine i_newT (by show 2<=sizeLine;decide) λp9 H9 hp9 s9 e9=>?_
   have ev:c*(if decide ((0:Int)<(n:Int) % k) then (1:Int) else 0)=c*((if n % k=0 then 0 else 1:Nat):Int):=by
    congr 1
    rw[hmod]
    by_cases z:n % k=0
    ·rw[if_pos z,if_neg (by simp;omega)];rfl
    ·rw[if_neg z,if_pos (by simp;omega)];rfl
   refine i_eqD (d:=pairD _ _) 1 (by decide) (rv_pair (s9 _ _ (s8 _ _ e7)) (s9 _ _ (s8 _ _ ec7))) (rv_pair (ev▸e9) (s9 _ _ e8')) (bF ?_)
   exact hN _ (s6.trans (s7.trans (s8.trans s9)))
  exact⟨r,n,k,c,rfl,s7 _ _ er4,k1,kn,n120,c0,c1,λH8 s8=>q H8 ((s0.trans (s1.trans s2)).trans (s4.trans (s7.trans s8)))⟩
abbrev zq5:Stmt:=top 46
theorem zq7o:FnScope ["many","parts","one","at","row"] ["many","parts","one","at"] (defScope zq5):=⟨rfl,rfl,rfl,by decide +kernel,rfl,by decide +kernel,by decide +kernel⟩
theorem zqaf:Loc (defScope zq5) "row":=Or.inl (by kernel_rfl)
theorem zqba:Vis (defScope zq5) "at":=Or.inl (by kernel_rfl)
theorem zq5d:Vis (defScope zq5) "many":=Or.inl (by kernel_rfl)
theorem zq19:Vis (defScope zq5) "one":=Or.inl (by kernel_rfl)
theorem zq23:Vis (defScope zq5) "parts":=Or.inl (by kernel_rfl)
theorem zq1x:Vis (defScope zq5) "row":=Or.inl (by kernel_rfl)
theorem zq7p:(defScope zq5).names.lookup ("all_even":Str)=some NameKind.globalImplicit:=by kernel_rfl
theorem zq7q:(defScope zq5).names.lookup ("at_price":Str)=some NameKind.globalImplicit:=by kernel_rfl
theorem zqag:(defScope zq5).names.lookup ("int":Str)=some NameKind.globalImplicit:=by kernel_rfl
theorem zq9q:(defScope zq5).names.lookup ("list":Str)=some NameKind.globalImplicit:=by kernel_rfl
theorem zq79:(defScope zq5).names.lookup ("most_even":Str)=some NameKind.globalImplicit:=by kernel_rfl
theorem zq8j:(defScope zq5).names.lookup ("prices":Str)=some NameKind.globalImplicit:=by kernel_rfl
theorem zq92:(defScope zq5).names.lookup ("range":Str)=some NameKind.globalImplicit:=by kernel_rfl
def zqd5 {cdv:Value}{A:Around}{outer:List Env}{s:Shared}{H:Hp}{E:XK}(B:Bl mg)(zqw:Def P w K mg base 4 "most_even" ["row","many"] zq20)(zq5e:Def P w K mg base 3 "at_price" ["row","price"] zq5y)(zq12:Def P w K mg base 3 "all_even" ["row"] zq2b)(zq2z:Def P w K mg base 4 "prices" ["row","many"] zq50)(hr:Room 4 (A.deeper (PyProof.Rows.envOfC "_law_one_right" (defScope zq5) s.heap.objs.size f cdv))) :
  { t:TS // QB (cxOf CX0 P w K mg base ["many","parts","one","at","row"] "_law_one_right" (defScope zq5) f cdv A outer s H E).nox (defBody zq5) t } :=
 ⟨_,(qb_cons (qs_set (i:=4) zq7o.nd rfl zqaf (.inl rfl) (qe_op opMul (qe_lst (qa_cons qe_int qa_nil)) (qv 0 rfl zq5d)))
  (qb_cons (qs_asg (qv 2 rfl zq19) (qg_sub (qv 4 rfl zq1x) (qv 3 rfl zqba) setM))
  (qb_cons (qs_if (qt_cmp (kNeG (K:=K) rfl hr) (qe_def zqw hr (by decide) zq79 (qa_cons (qv 4 rfl zq1x) (qa_cons (qv 1 rfl zq23) qa_nil))) (qe_tup (qa_cons (qe_op opMul (qv 2 rfl zq19) (qv 2 rfl zq19)) (qa_cons (qe_cT (kListR rfl) zq9q B.list boot_list (qa_cons (qe_range2 zq92 B.range (qa_cons qe_int (qa_cons (qv 1 rfl zq23) qa_nil))) qa_nil)) qa_nil)))) (qb_one (qs_ret qe_bl)) qb_nil)
  (qb_cons (qs_if (QW.pt (qw_or (qt_cmp (kNeG (K:=K) rfl hr) (qe_def zq12 hr (by decide) zq7p (qa_cons (qv 4 rfl zq1x) qa_nil)) (qe_op opMul (qe_lst (qa_cons (qe_op opMul (qv 2 rfl zq19) (qv 2 rfl zq19)) qa_nil)) (qv 0 rfl zq5d))) (qw_or1 (qt_cmp (kNeG (K:=K) rfl hr) (qe_def zq5e hr (by decide) zq7q (qa_cons (qv 4 rfl zq1x) (qa_cons qe_int qa_nil))) (qe_tup (qa_cons (qe_op opMul (qv 2 rfl zq19) (qv 2 rfl zq19)) (qa_cons qe_int (qa_cons (qe_lst qa_nil) qa_nil)))))))) (qb_one (qs_ret qe_bl)) qb_nil)
  (qb_one (qs_ret (qe_cmp (kEqG (K:=K) rfl hr) (qe_def zq2z hr (by decide) zq8j (qa_cons (qv 4 rfl zq1x) (qa_cons (qv 1 rfl zq23) qa_nil))) (qe_tup (qa_cons qe_int (qa_cons (ke_ix (K:=K) rfl (qe_lst (qa_cons qe_int (qa_cons qe_non qa_nil))) (qe_cT callInt zqag B.int boot_int (qa_cons (qe_cmp (kEqG (K:=K) rfl hr) (qv 1 rfl zq23) qe_int) qa_nil)) (λ_ _=>rfl)) qa_nil))))))))))⟩
open M25 M52
theorem rng_places {k:Nat}{H:Hp}{p:Addr}(h:H p=some (.lst (((List.range ((k:Int)-1).toNat).map λ(i:Nat)=>(1:Int)+(i:Int)).map V.int))):H p=some (.lst ((zs ((List.range (k-1)).map λt=>t+1)).map V.int)):=by
 rw[h,show ((k:Int)-1).toNat=k-1 by omega]
 simp only[zs,List.map_map]
 congr 2
 refine List.map_congr_left λx _=>?_
 simp only[Function.comp_apply]
 congr 1;omega
theorem rv_cost {H:Hp}{p pc:Addr}{a b:Int}{ns:List Int}(h1:H p=some (.tup [.int a,.int b,.ref pc]))(h2:H pc=some (.lst (ns.map V.int))):RV 2 H (.ref p) (.tuple [.int a,.int b,.list (ns.map PyData.int)]):=.inr ⟨_,_,.inl h1,rfl,.cons rfl (.cons rfl (.cons (.inl ⟨_,_,.inl h2,rfl,paired_ints 0 _⟩) .nil))⟩
theorem rep_at {n:Nat}{z:Int}{i:Nat}(h:i<n):(List.replicate n z).getD i 0=z:=by rw[List.getD_eq_getElem?_getD,List.getElem?_replicate,if_pos h];rfl
def zq3l:Sp:=λvs H Q _=>∃ (n k a:Nat) (c:Int),vs=[.int n,.int k,.int c,.int a]/\1<=k/\k<=n/\n<=120/\0<=c/\c<=1000000000000/\a<n/\∀ H',Same H H'->Q (.bl true) H'
theorem zqcr (B:Bl mg)(zqw:Def P w K mg base 4 "most_even" ["row","many"] zq20)(zq5e:Def P w K mg base 3 "at_price" ["row","price"] zq5y)(zq12:Def P w K mg base 3 "all_even" ["row"] zq2b)(zq2z:Def P w K mg base 4 "prices" ["row","many"] zq50)(F:Fun K "_law_one_right" "_law_one_right" zq5 f fd):FnOk P w K mg base CX0 5 f fd ["many","parts","one","at"] zq3l:=by
 refine F.okq zq7o (λvs H Q E h=>?_) (λcdv A outer s H vs Q E hr h=>?_)
 ·obtain⟨n,k,a,c,rfl,_⟩:=h;rfl
 obtain⟨n,k,a,c,rfl,k1,kn,n120,c0,c1,an,q⟩:=h
 refine⟨zqd5 B zqw zq5e zq12 zq2z hr,?_⟩
 refine i_newL (by show 1<=sizeLine;decide) λp0 H0 hp0 s0 e0=>i_rep1 (z:=0) e0 (by omega) (by omega) λr H1 hr1 s1 e1=>?_
 rw[Int.toNat_natCast] at e1
 refine i_set a e1 (by omega) (by rw[List.length_map,List.length_replicate];omega) λH2 k2 e2=>?_
 rw[<- List.map_set] at e2
 have s02:Same H H2:=λb o e=>k2.one (λz=>by subst z;rw[s0.free hr1] at e;cases e) (s1 _ _ (s0 _ _ e))
 have hrl:((List.replicate n (0:Int)).set a c).length=n:=by simp
 have hrow:∀ x∈(List.replicate n (0:Int)).set a c,0<=x/\x<=1000000000000:=λx hx=>by
  rcases List.mem_or_eq_of_mem_set hx with h | h
  ·have:=(List.mem_replicate.mp h).2;omega
  ·omega
 dsimp only[tSeq]
 refine mIf_mid (λH'=>Same H2 H') (λN hN=>?_) (λH3 s3=>?_)
 ·refine⟨r,_,k,rfl,e2,by omega,hrow,k1,by omega,λp pc v cs b H3 hL hC hp hpc hn s3 e3 ec3=>?_⟩
  rw[hrl] at hL hC
  have hv:=hL.uniq (least_mid an k 0 k1 (by omega))
  rw[if_pos (Nat.zero_le _)] at hv
  have hcs:=chain_mid an k1 kn hC
  subst hv hcs
  refine⟨.inl ⟨by omega,by omega⟩,?_⟩
  refine i_rngV λp6 H6 hp6 s6 e6=>i_listR e6 ⟨by decide,by decide,by omega,by omega⟩ (by omega) λp7 H7 hp7 s7 e7=>?_
  have e7':=rng_places e7
  refine i_newT (by show 2<=sizeLine;decide) λp8 H8 hp8 s8 e8=>?_
  refine i_eqD (d:=pairD _ _) 1 (by decide) (rv_pair (s8 _ _ (s7 _ _ (s6 _ _ e3))) (s8 _ _ (s7 _ _ (s6 _ _ ec3)))) (rv_pair e8 (s8 _ _ e7')) (bF ?_)
  exact hN _ (s3.trans (s6.trans (s7.trans s8)))
 dsimp only[tSeq]
 refine mIf_mid (λH'=>Same H2 H') (λN hN=>?_) (λH4 s4=>?_)
 ·refine⟨r,_,rfl,s3 _ _ e2,by omega,by omega,hrow,λpz zs6 H6 hpz s6 e6 hE=>?_⟩
  have ez:=hE.uniq (evens_mid an)
  subst ez
  refine⟨.inl ⟨by omega,by omega⟩,i_newL (by show 1<=sizeLine;decide) λp7 H7 hp7 s7 e7=>i_rep1 (z:=c*c) e7 (by omega) (by omega) λp8 H8 hp8 s8 e8=>?_⟩
  rw[Int.toNat_natCast] at e8
  refine i_eqD (d:=.list ((List.replicate n (c*c)).map PyData.int)) 0 (by decide) (.inl ⟨_,_,.inl (s8 _ _ (s7 _ _ e6)),rfl,paired_ints 0 _⟩) (.inl ⟨_,_,.inl e8,rfl,paired_ints 0 _⟩) (bF ?_)
  have s38:=s3.trans (s6.trans (s7.trans s8))
  refine⟨r,_,0,rfl,s38 _ _ e2,by omega,by omega,hrow,by decide,by decide,λp pc cost m cs b ev H9 hE9 hC9 hCh hp hpc hn s9 e9 ec9=>?_⟩
  have ez:=hE9.uniq (evens_mid an)
  subst ez
  obtain⟨rfl,rfl⟩:=cost_mid hC9
  cases hCh
  refine⟨.inl ⟨by omega,by omega⟩,i_newL (by show 0<=sizeLine;decide) λpA HA hpA sA eA=>i_newT (by show 3<=sizeLine;decide) λpB HB hpB sB eB=>?_⟩
  refine i_eqD (d:=.tuple [.int (c*c),.int 1,.list (([]:List Int).map PyData.int)]) 1 (by decide) (rv_cost (sB _ _ (sA _ _ e9)) (sB _ _ (sA _ _ ec9))) (rv_cost eB (ns:=[]) (sB _ _ eA)) (bF ?_)
  exact hN _ (s38.trans (s9.trans (sA.trans sB)))
 refine⟨r,_,k,rfl,s4 _ _ e2,by omega,hrow,k1,by omega,λp ev H5 hE hp s5 e5=>?_⟩
 have ez:=hE.uniq (evens_mid an)
 subst ez
 have el:prLow (List.replicate n (c*c)) k=0:=by
  unfold prLow
  split
  ·rename_i h
   rw[List.length_replicate] at h
   rw[rep_at (by omega),rep_at (by omega),Int.sub_self]
  ·rfl
 rw[el] at e5
 refine i_newL (by show 2<=sizeLine;decide) λp6 H6 hp6 s6 e6=>?_
 by_cases hk:k=1
 ·have eh:prHigh (List.replicate n (c*c)) k=none:=by unfold prHigh;rw[if_neg (by omega)]
  rw[eh] at e5
  refine i_ixN (v:=.non) 1 e6 (by show (if decide ((k:Int)=1) then (1:Int) else 0)=_;rw[if_pos (by simp;omega)];rfl) rfl ?_
  refine i_newT (by show 2<=sizeLine;decide) λp8 H8 hp8 s8 e8=>?_
  refine i_eqD (d:=.tuple [.int 0,optD none]) 0 (by decide) (rv_pr (h:=none) (s8 _ _ (s6 _ _ e5))) (rv_pr (h:=none) e8) ?_
  exact q _ (s02.trans (s4.trans (s5.trans (s6.trans s8))))
 ·have eh:prHigh (List.replicate n (c*c)) k=some 0:=by unfold prHigh;rw[if_pos (by omega),rep_at (by omega),rep_at (by omega),Int.sub_self]
  rw[eh] at e5
  refine i_ixN (v:=.int 0) 0 e6 (by show (if decide ((k:Int)=1) then (1:Int) else 0)=_;rw[if_neg (by simp;omega)];rfl) rfl ?_
  refine i_newT (by show 2<=sizeLine;decide) λp8 H8 hp8 s8 e8=>?_
  refine i_eqD (d:=.tuple [.int 0,optD (some 0)]) 0 (by decide) (rv_pr (h:=some 0) (s8 _ _ (s6 _ _ e5))) (rv_pr (h:=some 0) e8) ?_
  exact q _ (s02.trans (s4.trans (s5.trans (s6.trans s8))))
abbrev zq14:Stmt:=top 47
theorem zq93:FnScope ["script","hand","turn","many","parts","one"] ["script"] (defScope zq14):=⟨rfl,rfl,rfl,by decide +kernel,rfl,by decide +kernel,by decide +kernel⟩
theorem zqfa:Loc (defScope zq14) "hand":=Or.inl (by kernel_rfl)
theorem zqfb:Loc (defScope zq14) "many":=Or.inl (by kernel_rfl)
theorem zqfh:Loc (defScope zq14) "one":=Or.inl (by kernel_rfl)
theorem zqf3:Loc (defScope zq14) "parts":=Or.inl (by kernel_rfl)
theorem zqfc:Loc (defScope zq14) "turn":=Or.inl (by kernel_rfl)
theorem zq2v:Vis (defScope zq14) "hand":=Or.inl (by kernel_rfl)
theorem zq45:Vis (defScope zq14) "many":=Or.inl (by kernel_rfl)
theorem zqdt:Vis (defScope zq14) "one":=Or.inl (by kernel_rfl)
theorem zq5z:Vis (defScope zq14) "parts":=Or.inl (by kernel_rfl)
theorem zqer:Vis (defScope zq14) "script":=Or.inl (by kernel_rfl)
theorem zqcs:(defScope zq14).names.lookup ("_law_cells":Str)=some NameKind.globalImplicit:=by kernel_rfl
theorem zq1l:(defScope zq14).names.lookup ("_law_draw":Str)=some NameKind.globalImplicit:=by kernel_rfl
theorem zqd6:(defScope zq14).names.lookup ("_law_hand":Str)=some NameKind.globalImplicit:=by kernel_rfl
theorem zq94:(defScope zq14).names.lookup ("_law_like_right":Str)=some NameKind.globalImplicit:=by kernel_rfl
theorem zq9r:(defScope zq14).names.lookup ("_law_one_right":Str)=some NameKind.globalImplicit:=by kernel_rfl
theorem zqfd:(defScope zq14).names.lookup ("list":Str)=some NameKind.globalImplicit:=by kernel_rfl
theorem zqd7:(defScope zq14).names.lookup ("most_even":Str)=some NameKind.globalImplicit:=by kernel_rfl
theorem zqc2:(defScope zq14).names.lookup ("range":Str)=some NameKind.globalImplicit:=by kernel_rfl
def zqfo {cdv:Value}{A:Around}{outer:List Env}{s:Shared}{H:Hp}{E:XK}(B:Bl mg)(zq5f:Def P w K mg base 1 "_law_hand" ["cell","k"] zq5u)(zq4m:Def P w K mg base 1 "_law_cells" ["script","many"] (zq52 K))(zq1r:Def P w K mg base 1 "_law_draw" ["hand","limit"] zq5v)(zq2w:Def P w K mg base 5 "_law_one_right" ["many","parts","one","at"] zq3l)(zq2j:Def P w K mg base 7 "_law_like_right" ["many","parts","one"] zq35)(zqw:Def P w K mg base 4 "most_even" ["row","many"] zq20)(hr:Room 7 (A.deeper (PyProof.Rows.envOfC "law" (defScope zq14) s.heap.objs.size f cdv))) :
  { t:TS // QB (cxOf CX0 P w K mg base ["script","hand","turn","many","parts","one"] "law" (defScope zq14) f cdv A outer s H E).nox (defBody zq14) t } :=
 ⟨_,(qb_cons (qs_set (i:=1) zq93.nd rfl zqfa (.inl rfl) (qe_def zq5f hr (by decide) zqd6 (qa_cons (ke_ix (K:=K) rfl (ke_ix (K:=K) rfl (qe_def zq4m hr (by decide) zqcs (qa_cons (qv 0 rfl zqer) (qa_cons qe_int qa_nil))) qe_int (λ_ _=>rfl)) qe_int (λ_ _=>rfl)) (qa_cons qe_int qa_nil))))
  (qb_mid (qs_for PassesOwn.never rfl (qi_r1 zqc2 B.range (qa_cons qe_int qa_nil)) (qg_name (i:=2) zq93.nd rfl zqfc (.inl rfl)) (qb_cons (qs_set (i:=3) zq93.nd rfl zqfb (.inl rfl) (ke_ix (K:=K) rfl (qe_lst (qa_cons (qe_op opAdd qe_int (qe_def zq1r hr (by decide) zq1l (qa_cons (qv 1 rfl zq2v) (qa_cons qe_int qa_nil)))) (qa_cons qe_int (qa_cons (qe_op opAdd qe_int (qe_def zq1r hr (by decide) zq1l (qa_cons (qv 1 rfl zq2v) (qa_cons qe_int qa_nil)))) qa_nil)))) (qe_def zq1r hr (by decide) zq1l (qa_cons (qv 1 rfl zq2v) (qa_cons qe_int qa_nil))) (λ_ _=>rfl)))
  (qb_cons (qs_set (i:=4) zq93.nd rfl zqf3 (.inl rfl) (ke_ix (K:=K) rfl (qe_lst (qa_cons (qe_op opAdd qe_int (qe_def zq1r hr (by decide) zq1l (qa_cons (qv 1 rfl zq2v) (qa_cons (qv 3 rfl zq45) qa_nil)))) (qa_cons (qv 3 rfl zq45) (qa_cons qe_int qa_nil)))) (qe_def zq1r hr (by decide) zq1l (qa_cons (qv 1 rfl zq2v) (qa_cons qe_int qa_nil))) (λ_ _=>rfl)))
  (qb_cons (qs_set (i:=5) zq93.nd rfl zqfh (.inl rfl) (ke_ix (K:=K) rfl (qe_lst (qa_cons (qe_op opPow qe_int qe_int) (qa_cons qe_int (qa_cons qe_int (qa_cons (qe_op opAdd qe_int (qe_def zq1r hr (by decide) zq1l (qa_cons (qv 1 rfl zq2v) (qa_cons (qe_op opPow qe_int qe_int) qa_nil)))) qa_nil))))) (qe_def zq1r hr (by decide) zq1l (qa_cons (qv 1 rfl zq2v) (qa_cons qe_int qa_nil))) (λ_ _=>rfl)))
  (qb_cons (qs_if (QW.pt (qw_or (qt_not (kt_val (K:=K) rfl (qe_def zq2j hr (by decide) zq94 (qa_cons (qv 3 rfl zq45) (qa_cons (qv 4 rfl zq5z) (qa_cons (qv 5 rfl zqdt) qa_nil)))))) (qw_or1 (qt_not (kt_val (K:=K) rfl (qe_def zq2w hr (by decide) zq9r (qa_cons (qv 3 rfl zq45) (qa_cons (qv 4 rfl zq5z) (qa_cons (qv 5 rfl zqdt) (qa_cons (qe_def zq1r hr (by decide) zq1l (qa_cons (qv 1 rfl zq2v) (qa_cons (qv 3 rfl zq45) qa_nil))) qa_nil)))))))))) (qb_one (qs_ret qe_bl)) qb_nil)
  (qb_one (qs_if (qt_cmp (kNeG (K:=K) rfl hr) (qe_def zqw hr (by decide) zqd7 (qa_cons (qe_op opMul (qe_lst (qa_cons qe_int qa_nil)) (qv 3 rfl zq45)) (qa_cons (qv 4 rfl zq5z) qa_nil))) (qe_tup (qa_cons qe_int (qa_cons (qe_cT (kListR rfl) zqfd B.list boot_list (qa_cons (qe_range2 zqc2 B.range (qa_cons qe_int (qa_cons (qv 4 rfl zq5z) qa_nil))) qa_nil)) qa_nil)))) (qb_one (qs_ret qe_bl)) qb_nil)))))))
  (qb_one (qs_ret qe_bl))))⟩
def sp_law (K:W.Frag):Sp:=λvs H Q _=>∃ (a:Addr) (ns:List Int),vs=[.ref a]/\SqL K H a (ns.map V.int)/\ns.length<=63/\∀ H',Q (.bl true) H'
open M52 M25
theorem zqfl (B:Bl mg)(zq5f:Def P w K mg base 1 "_law_hand" ["cell","k"] zq5u)(zq4m:Def P w K mg base 1 "_law_cells" ["script","many"] (zq52 K))(zq1r:Def P w K mg base 1 "_law_draw" ["hand","limit"] zq5v)(zq2w:Def P w K mg base 5 "_law_one_right" ["many","parts","one","at"] zq3l)(zq2j:Def P w K mg base 7 "_law_like_right" ["many","parts","one"] zq35)(zqw:Def P w K mg base 4 "most_even" ["row","many"] zq20)(F:Fun K "law" "law" zq14 f fd):FnOk P w K mg base CX0 8 f fd ["script"] (sp_law K):=by
 refine F.okq zq93 (λvs H Q E h=>?_) (λcdv A outer s H vs Q E hr h=>?_)
 ·obtain⟨a,ns,rfl,_⟩:=h;rfl
 obtain⟨a,sc,rfl,hS,h63,q⟩:=h
 refine⟨zqfo B zq5f zq4m zq1r zq2w zq2j zqw hr,?_⟩
 refine⟨a,sc,1,rfl,hS,h63,by decide,λD as H0 s0 hDn hD hlen hlen1 hpair=>?_⟩
 have hb:as[0]?=some (as[0]'(by omega)):=List.getElem?_eq_getElem _
 obtain⟨c,hc⟩:=hpair 0 _ hb
 refine i_ixN (v:=.ref (as[0]'(by omega))) 0 hD rfl (by rw[List.getElem?_map,hb];rfl) (i_ixT 1 (v:=.int c) hc rfl rfl ?_)
 refine⟨c,0,rfl,by omega,by omega,λh H1 hh0 s1 hh1=>?_⟩
 refine⟨λσ H'=>True,?_,λσ H' _=>q H'⟩
 refine⟨⟨by decide,by decide⟩,for_range (λi σ H'=>HandAt H' h/\∃ o2 o3 o4 o5,σ=[some (.ref a),some (.ref h),o2,o3,o4,o5]) ?_ ?_ ?_⟩
 ·exact⟨hh1,_,_,_,_,rfl⟩
 ·rintro i σ H2 hi ⟨hh2,o2,o3,o4,o5,rfl⟩
  refine⟨h,120,rfl,hh2,by decide,by decide,λg1 H3 a1 b1 hh3 k3=>?_⟩
  refine⟨h,24,rfl,hh3,by decide,by decide,λg2 H4 a2 b2 hh4 k4=>?_⟩
  refine i_newL (by show 3<=sizeLine;decide) λp5 H5 hp5 s5 e5=>?_
  refine⟨h,3,rfl,hh4.same s5,by decide,by decide,λg3 H6 a3 b3 hh6 k6=>?_⟩
  have e6:=k6.one (hh4.ne hp5).symm e5
  obtain⟨n,n1,n120,hn⟩:∃ n:Nat,1<=n/\n<=120/\[V.int (1+g1),V.int 120,V.int (1+g2)][g3.toNat]?=some (V.int (n:Int)):=by
   rcases (show g3=0\/g3=1\/g3=2 by omega) with rfl | rfl | rfl
   ·exact⟨(1+g1).toNat,by omega,by omega,by rw[show (((1+g1).toNat:Nat):Int)=1+g1 by omega];rfl⟩
   ·exact⟨120,by omega,by omega,rfl⟩
   ·exact⟨(1+g2).toNat,by omega,by omega,by rw[show (((1+g2).toNat:Nat):Int)=1+g2 by omega];rfl⟩
  refine i_ixN (v:=.int n) g3.toNat e6 (by omega) hn ?_
  refine⟨h,n,rfl,hh6,by omega,Int.lt_of_le_of_lt (show (n:Int)<=120 by omega) (by decide),λg4 H7 a4 b4 hh7 k7=>?_⟩
  refine i_newL (by show 3<=sizeLine;decide) λp8 H8 hp8 s8 e8=>?_
  refine⟨h,3,rfl,hh7.same s8,by decide,by decide,λg5 H9 a5 b5 hh9 k9=>?_⟩
  have e9:=k9.one (hh7.ne hp8).symm e8
  obtain⟨k,k1,kn,hk⟩:∃ k:Nat,1<=k/\k<=n/\[V.int (1+g4),V.int n,V.int 1][g5.toNat]?=some (V.int (k:Int)):=by
   rcases (show g5=0\/g5=1\/g5=2 by omega) with rfl | rfl | rfl
   ·exact⟨(1+g4).toNat,by omega,by omega,by rw[show (((1+g4).toNat:Nat):Int)=1+g4 by omega];rfl⟩
   ·exact⟨n,by omega,by omega,rfl⟩
   ·exact⟨1,by omega,by omega,rfl⟩
  refine i_ixN (v:=.int k) g5.toNat e9 (by omega) hk ?_
  refine⟨⟨by decide,by decide,by decide⟩,⟨by decide,by decide,by decide⟩,?_⟩
  refine⟨h,_,rfl,hh9,by decide,by decide,λg6 HA a6 b6 hhA kA=>?_⟩
  refine i_newL (by show 4<=sizeLine;decide) λpB HB hpB sB eB=>?_
  refine⟨h,4,rfl,hhA.same sB,by decide,by decide,λg7 HC a7 b7 hhC kC=>?_⟩
  have eC:=kC.one (hhA.ne hpB).symm eB
  have t6:(10:Int) ^ Int.toNat 6=1000000:=by decide
  have t12:(10:Int) ^ Int.toNat 12=1000000000000:=by decide
  obtain⟨cc,cc0,cc1,hcc⟩:∃ cc:Int,0<=cc/\cc<=1000000000000/\[V.int (10 ^ Int.toNat 12),V.int 1,V.int 0,V.int (1+g6)][g7.toNat]?=some (V.int cc):=by
   rcases (show g7=0\/g7=1\/g7=2\/g7=3 by omega) with rfl | rfl | rfl | rfl
   ·exact⟨10 ^ Int.toNat 12,by omega,by omega,rfl⟩
   ·exact⟨1,by omega,by omega,rfl⟩
   ·exact⟨0,by omega,by omega,rfl⟩
   ·exact⟨1+g6,by omega,by omega,rfl⟩
  refine i_ixN (v:=.int cc) g7.toNat eC (by omega) hcc ?_
  refine⟨n,k,cc,rfl,k1,kn,n120,cc0,cc1,λHD sD=>bF ?_⟩
  refine⟨h,n,rfl,hhC.same sD,by omega,Int.lt_of_le_of_lt (show (n:Int)<=120 by omega) (by decide),λg8 HE a8 b8 hhE kE=>?_⟩
  refine⟨n,k,g8.toNat,cc,(by show [V.int (n:Int),V.int (k:Int),V.int cc,V.int g8]=_;rw[show ((g8.toNat:Nat):Int)=g8 by omega]),k1,kn,n120,cc0,cc1,by omega,λHF sF=>bF ?_⟩
  have hhF:=hhE.same sF
  refine i_newL (by show 1<=sizeLine;decide) λpG HG hpG sG eG=>i_rep1 (z:=0) eG (by omega) (by omega) λr HI hrI sI eI=>?_
  rw[Int.toNat_natCast] at eI
  have ez:List.replicate n (0:Int)=(List.replicate n 0).set 0 0:=by
   apply List.ext_getElem?
   intro j
   rw[List.getElem?_set]
   split
   ·rename_i hj
    subst hj
    rw[List.length_replicate,if_pos (by omega),List.getElem?_replicate,if_pos (by omega)]
   ·rfl
  refine⟨r,List.replicate n 0,k,rfl,eI,by rw[List.length_replicate];omega,row_rp (by decide) (by decide),k1,by rw[List.length_replicate];exact kn,λp pc v cs b HJ hL hC hp hpc hnp sJ eJ ecJ=>?_⟩
  rw[List.length_replicate] at hL hC
  rw[ez] at hL hC
  have hv:=hL.uniq (least_mid (show 0<n by omega) k 0 k1 (by omega))
  rw[if_pos (Nat.zero_le _),Int.zero_mul] at hv
  have hcs:=chain_mid (show 0<n by omega) k1 kn hC
  subst hv hcs
  refine i_rngV λp6 HK hp6 sK e6=>i_listR e6 ⟨by decide,by decide,by omega,by omega⟩ (by omega) λp7 HL hp7 sL e7=>?_
  have e7':=rng_places e7
  refine i_newT (by show 2<=sizeLine;decide) λp8' HM hp8' sM e8'=>?_
  refine i_eqD (d:=pairD _ _) 1 (by decide) (rv_pair (sM _ _ (sL _ _ (sK _ _ eJ))) (sM _ _ (sL _ _ (sK _ _ ecJ)))) (rv_pair e8' (sM _ _ e7')) (bF ?_)
  exact⟨hhF.same (sG.trans (sI.trans (sJ.trans (sK.trans (sL.trans sM))))),_,_,_,_,rfl⟩
 ·intro σ H' _
  trivial
end
end K
namespace K
open PySem PySem.Spec PyProof.Rows L2
theorem all_mk {l:W.OpenLaw}{w:World}{K:W.Frag}{h:Heap}{mg:Str->Option Value}{fa f0 f1 f2 f3 f4 f5 f6 f7 f8 f9 f10 f11 f12 f13 f14 f15 f16 f17 f18 f19 f20 f21 f22 f23 f24 f25 f26 f27 f28 f29 f30 f31 f32 f33 f34 f35:Addr}(X:K.In h)(G:h.Ns mainGlobals mg)(hfa:mg "law"=some (.ref fa))
  {od0 an0 od1 an1 od2 an2 od3 an3 od4 an4 od5 an5 od6 an6 od7 an7 od8 an8 od9 an9 od10 an10 od11 an11 od12 an12 od13 an13 od14 an14 od15 an15 od16 an16 od17 an17 od18 an18 od19 an19 od20 an20 od21 an21 od22 an22 od23 an23 od24 an24 od25 an25 od26 an26 od27 an27 od28 an28 od29 an29 od30 an30 od31 an31 od32 an32 od33 an33 od34 an34 od35 an35:Option Addr} {sl0 sl1 sl2 sl3 sl4 sl5 sl6 sl7 sl8 sl9 sl10 sl11 sl12 sl13 sl14 sl15 sl16 sl17 sl18 sl19 sl20 sl21 sl22 sl23 sl24 sl25 sl26 sl27 sl28 sl29 sl30 sl31 sl32 sl33 sl34 sl35:Array (Option Value)} {oc0 kV0 dc0 pm0 cd0 ct0 oc1 kV1 dc1 pm1 cd1 ct1 oc2 kV2 dc2 pm2 cd2 ct2 oc3 kV3 dc3 pm3 cd3 ct3 oc4 kV4 dc4 pm4 cd4 ct4 oc5 kV5 dc5 pm5 cd5 ct5 oc6 kV6 dc6 pm6 cd6 ct6 oc7 kV7 dc7 pm7 cd7 ct7 oc8 kV8 dc8 pm8 cd8 ct8 oc9 kV9 dc9 pm9 cd9 ct9 oc10 kV10 dc10 pm10 cd10 ct10 oc11 kV11 dc11 pm11 cd11 ct11 oc12 kV12 dc12 pm12 cd12 ct12 oc13 kV13 dc13 pm13 cd13 ct13 oc14 kV14 dc14 pm14 cd14 ct14 oc15 kV15 dc15 pm15 cd15 ct15 oc16 kV16 dc16 pm16 cd16 ct16 oc17 kV17 dc17 pm17 cd17 ct17 oc18 kV18 dc18 pm18 cd18 ct18 oc19 kV19 dc19 pm19 cd19 ct19 oc20 kV20 dc20 pm20 cd20 ct20 oc21 kV21 dc21 pm21 cd21 ct21 oc22 kV22 dc22 pm22 cd22 ct22 oc23 kV23 dc23 pm23 cd23 ct23 oc24 kV24 dc24 pm24 cd24 ct24 oc25 kV25 dc25 pm25 cd25 ct25 oc26 kV26 dc26 pm26 cd26 ct26 oc27 kV27 dc27 pm27 cd27 ct27 oc28 kV28 dc28 pm28 cd28 ct28 oc29 kV29 dc29 pm29 cd29 ct29 oc30 kV30 dc30 pm30 cd30 ct30 oc31 kV31 dc31 pm31 cd31 ct31 oc32 kV32 dc32 pm32 cd32 ct32 oc33 kV33 dc33 pm33 cd33 ct33 oc34 kV34 dc34 pm34 cd34 ct34 oc35 kV35 dc35 pm35 cd35 ct35:Value}
  (a0:W.nsIn K mainGlobals "_law_hand"=some (some (.ref f0))) (l0:K.lookup f0=some ⟨oc0,od0,.func (W.fnOf "_law_hand" "_law_hand" (defArgs zq1f) (defBody zq1f) (defScope zq1f) .none kV0 dc0 pm0 an0 cd0 ct0),sl0⟩) (c0:W.codeIn K cd0 "_law_hand"=true) (k0:W.keepIn K (.ref f0)=true)
  (a1:W.nsIn K mainGlobals "_law_cells"=some (some (.ref f1))) (l1:K.lookup f1=some ⟨oc1,od1,.func (W.fnOf "_law_cells" "_law_cells" (defArgs zq11) (defBody zq11) (defScope zq11) .none kV1 dc1 pm1 an1 cd1 ct1),sl1⟩) (c1:W.codeIn K cd1 "_law_cells"=true) (k1:W.keepIn K (.ref f1)=true)
  (a2:W.nsIn K mainGlobals "_law_draw"=some (some (.ref f2))) (l2:K.lookup f2=some ⟨oc2,od2,.func (W.fnOf "_law_draw" "_law_draw" (defArgs zq1g) (defBody zq1g) (defScope zq1g) .none kV2 dc2 pm2 an2 cd2 ct2),sl2⟩) (c2:W.codeIn K cd2 "_law_draw"=true) (k2:W.keepIn K (.ref f2)=true)
  (a3:W.nsIn K mainGlobals "is_whole"=some (some (.ref f3))) (l3:K.lookup f3=some ⟨oc3,od3,.func (W.fnOf "is_whole" "is_whole" (defArgs zq1h) (defBody zq1h) (defScope zq1h) .none kV3 dc3 pm3 an3 cd3 ct3),sl3⟩) (c3:W.codeIn K cd3 "is_whole"=true) (k3:W.keepIn K (.ref f3)=true)
  (a4:W.nsIn K mainGlobals "is_within"=some (some (.ref f4))) (l4:K.lookup f4=some ⟨oc4,od4,.func (W.fnOf "is_within" "is_within" (defArgs zq15) (defBody zq15) (defScope zq15) .none kV4 dc4 pm4 an4 cd4 ct4),sl4⟩) (c4:W.codeIn K cd4 "is_within"=true) (k4:W.keepIn K (.ref f4)=true)
  (a5:W.nsIn K mainGlobals "check_many"=some (some (.ref f5))) (l5:K.lookup f5=some ⟨oc5,od5,.func (W.fnOf "check_many" "check_many" (defArgs zqx) (defBody zqx) (defScope zqx) .none kV5 dc5 pm5 an5 cd5 ct5),sl5⟩) (c5:W.codeIn K cd5 "check_many"=true) (k5:W.keepIn K (.ref f5)=true)
  (a6:W.nsIn K mainGlobals "sums_ahead"=some (some (.ref f6))) (l6:K.lookup f6=some ⟨oc6,od6,.func (W.fnOf "sums_ahead" "sums_ahead" (defArgs zqu) (defBody zqu) (defScope zqu) .none kV6 dc6 pm6 an6 cd6 ct6),sl6⟩) (c6:W.codeIn K cd6 "sums_ahead"=true) (k6:W.keepIn K (.ref f6)=true)
  (a7:W.nsIn K mainGlobals "even_table"=some (some (.ref f7))) (l7:K.lookup f7=some ⟨oc7,od7,.func (W.fnOf "even_table" "even_table" (defArgs zqb) (defBody zqb) (defScope zqb) .none kV7 dc7 pm7 an7 cd7 ct7),sl7⟩) (c7:W.codeIn K cd7 "even_table"=true) (k7:W.keepIn K (.ref f7)=true)
  (a8:W.nsIn K mainGlobals "first_even_cut"=some (some (.ref f8))) (l8:K.lookup f8=some ⟨oc8,od8,.func (W.fnOf "first_even_cut" "first_even_cut" (defArgs zq2) (defBody zq2) (defScope zq2) .none kV8 dc8 pm8 an8 cd8 ct8),sl8⟩) (c8:W.codeIn K cd8 "first_even_cut"=true) (k8:W.keepIn K (.ref f8)=true)
  (a9:W.nsIn K mainGlobals "most_even"=some (some (.ref f9))) (l9:K.lookup f9=some ⟨oc9,od9,.func (W.fnOf "most_even" "most_even" (defArgs zqt) (defBody zqt) (defScope zqt) .none kV9 dc9 pm9 an9 cd9 ct9),sl9⟩) (c9:W.codeIn K cd9 "most_even"=true) (k9:W.keepIn K (.ref f9)=true)
  (a10:W.nsIn K mainGlobals "least_evens"=some (some (.ref f10))) (l10:K.lookup f10=some ⟨oc10,od10,.func (W.fnOf "least_evens" "least_evens" (defArgs zq1d) (defBody zq1d) (defScope zq1d) .none kV10 dc10 pm10 an10 cd10 ct10),sl10⟩) (c10:W.codeIn K cd10 "least_evens"=true) (k10:W.keepIn K (.ref f10)=true)
  (a11:W.nsIn K mainGlobals "at_price"=some (some (.ref f11))) (l11:K.lookup f11=some ⟨oc11,od11,.func (W.fnOf "at_price" "at_price" (defArgs zqi) (defBody zqi) (defScope zqi) .none kV11 dc11 pm11 an11 cd11 ct11),sl11⟩) (c11:W.codeIn K cd11 "at_price"=true) (k11:W.keepIn K (.ref f11)=true)
  (a12:W.nsIn K mainGlobals "all_even"=some (some (.ref f12))) (l12:K.lookup f12=some ⟨oc12,od12,.func (W.fnOf "all_even" "all_even" (defArgs zq1i) (defBody zq1i) (defScope zq1i) .none kV12 dc12 pm12 an12 cd12 ct12),sl12⟩) (c12:W.codeIn K cd12 "all_even"=true) (k12:W.keepIn K (.ref f12)=true)
  (a13:W.nsIn K mainGlobals "prices"=some (some (.ref f13))) (l13:K.lookup f13=some ⟨oc13,od13,.func (W.fnOf "prices" "prices" (defArgs zqy) (defBody zqy) (defScope zqy) .none kV13 dc13 pm13 an13 cd13 ct13),sl13⟩) (c13:W.codeIn K cd13 "prices"=true) (k13:W.keepIn K (.ref f13)=true)
  (a14:W.nsIn K mainGlobals "_law_one_right"=some (some (.ref f14))) (l14:K.lookup f14=some ⟨oc14,od14,.func (W.fnOf "_law_one_right" "_law_one_right" (defArgs zq5) (defBody zq5) (defScope zq5) .none kV14 dc14 pm14 an14 cd14 ct14),sl14⟩) (c14:W.codeIn K cd14 "_law_one_right"=true) (k14:W.keepIn K (.ref f14)=true)
  (a15:W.nsIn K mainGlobals "_law_shared"=some (some (.ref f15))) (l15:K.lookup f15=some ⟨oc15,od15,.func (W.fnOf "_law_shared" "_law_shared" (defArgs zqz) (defBody zqz) (defScope zqz) .none kV15 dc15 pm15 an15 cd15 ct15),sl15⟩) (c15:W.codeIn K cd15 "_law_shared"=true) (k15:W.keepIn K (.ref f15)=true)
  (a16:W.nsIn K mainGlobals "_law_even_of"=some (some (.ref f16))) (l16:K.lookup f16=some ⟨oc16,od16,.func (W.fnOf "_law_even_of" "_law_even_of" (defArgs zqp) (defBody zqp) (defScope zqp) .none kV16 dc16 pm16 an16 cd16 ct16),sl16⟩) (c16:W.codeIn K cd16 "_law_even_of"=true) (k16:W.keepIn K (.ref f16)=true)
  (a17:W.nsIn K mainGlobals "stretch_sums"=some (some (.ref f17))) (l17:K.lookup f17=some ⟨oc17,od17,.func (W.fnOf "stretch_sums" "stretch_sums" (defArgs zql) (defBody zql) (defScope zql) .none kV17 dc17 pm17 an17 cd17 ct17),sl17⟩) (c17:W.codeIn K cd17 "stretch_sums"=true) (k17:W.keepIn K (.ref f17)=true)
  (a18:W.nsIn K mainGlobals "short_ends"=some (some (.ref f18))) (l18:K.lookup f18=some ⟨oc18,od18,.func (W.fnOf "short_ends" "short_ends" (defArgs zqh) (defBody zqh) (defScope zqh) .none kV18 dc18 pm18 an18 cd18 ct18),sl18⟩) (c18:W.codeIn K cd18 "short_ends"=true) (k18:W.keepIn K (.ref f18)=true)
  (a19:W.nsIn K mainGlobals "greatest_bound"=some (some (.ref f19))) (l19:K.lookup f19=some ⟨oc19,od19,.func (W.fnOf "greatest_bound" "greatest_bound" (defArgs zq6) (defBody zq6) (defScope zq6) .none kV19 dc19 pm19 an19 cd19 ct19),sl19⟩) (c19:W.codeIn K cd19 "greatest_bound"=true) (k19:W.keepIn K (.ref f19)=true)
  (a20:W.nsIn K mainGlobals "greatest_least"=some (some (.ref f20))) (l20:K.lookup f20=some ⟨oc20,od20,.func (W.fnOf "greatest_least" "greatest_least" (defArgs zqe) (defBody zqe) (defScope zqe) .none kV20 dc20 pm20 an20 cd20 ct20),sl20⟩) (c20:W.codeIn K cd20 "greatest_least"=true) (k20:W.keepIn K (.ref f20)=true)
  (a21:W.nsIn K mainGlobals "long_cut"=some (some (.ref f21))) (l21:K.lookup f21=some ⟨oc21,od21,.func (W.fnOf "long_cut" "long_cut" (defArgs zqo) (defBody zqo) (defScope zqo) .none kV21 dc21 pm21 an21 cd21 ct21),sl21⟩) (c21:W.codeIn K cd21 "long_cut"=true) (k21:W.keepIn K (.ref f21)=true)
  (a22:W.nsIn K mainGlobals "fewest_pieces"=some (some (.ref f22))) (l22:K.lookup f22=some ⟨oc22,od22,.func (W.fnOf "fewest_pieces" "fewest_pieces" (defArgs zqj) (defBody zqj) (defScope zqj) .none kV22 dc22 pm22 an22 cd22 ct22),sl22⟩) (c22:W.codeIn K cd22 "fewest_pieces"=true) (k22:W.keepIn K (.ref f22)=true)
  (a23:W.nsIn K mainGlobals "least_bound"=some (some (.ref f23))) (l23:K.lookup f23=some ⟨oc23,od23,.func (W.fnOf "least_bound" "least_bound" (defArgs zqc) (defBody zqc) (defScope zqc) .none kV23 dc23 pm23 an23 cd23 ct23),sl23⟩) (c23:W.codeIn K cd23 "least_bound"=true) (k23:W.keepIn K (.ref f23)=true)
  (a24:W.nsIn K mainGlobals "earliest_begin"=some (some (.ref f24))) (l24:K.lookup f24=some ⟨oc24,od24,.func (W.fnOf "earliest_begin" "earliest_begin" (defArgs zqa) (defBody zqa) (defScope zqa) .none kV24 dc24 pm24 an24 cd24 ct24),sl24⟩) (c24:W.codeIn K cd24 "earliest_begin"=true) (k24:W.keepIn K (.ref f24)=true)
  (a25:W.nsIn K mainGlobals "earliest_cut"=some (some (.ref f25))) (l25:K.lookup f25=some ⟨oc25,od25,.func (W.fnOf "earliest_cut" "earliest_cut" (defArgs zq8) (defBody zq8) (defScope zq8) .none kV25 dc25 pm25 an25 cd25 ct25),sl25⟩) (c25:W.codeIn K cd25 "earliest_cut"=true) (k25:W.keepIn K (.ref f25)=true)
  (a26:W.nsIn K mainGlobals "least_greatest"=some (some (.ref f26))) (l26:K.lookup f26=some ⟨oc26,od26,.func (W.fnOf "least_greatest" "least_greatest" (defArgs zqd) (defBody zqd) (defScope zqd) .none kV26 dc26 pm26 an26 cd26 ct26),sl26⟩) (c26:W.codeIn K cd26 "least_greatest"=true) (k26:W.keepIn K (.ref f26)=true)
  (a27:W.nsIn K mainGlobals "count_ways"=some (some (.ref f27))) (l27:K.lookup f27=some ⟨oc27,od27,.func (W.fnOf "count_ways" "count_ways" (defArgs zqm) (defBody zqm) (defScope zqm) .none kV27 dc27 pm27 an27 cd27 ct27),sl27⟩) (c27:W.codeIn K cd27 "count_ways"=true) (k27:W.keepIn K (.ref f27)=true)
  (a28:W.nsIn K mainGlobals "end_ranges"=some (some (.ref f28))) (l28:K.lookup f28=some ⟨oc28,od28,.func (W.fnOf "end_ranges" "end_ranges" (defArgs zq7) (defBody zq7) (defScope zq7) .none kV28 dc28 pm28 an28 cd28 ct28),sl28⟩) (c28:W.codeIn K cd28 "end_ranges"=true) (k28:W.keepIn K (.ref f28)=true)
  (a29:W.nsIn K mainGlobals "cuts_between"=some (some (.ref f29))) (l29:K.lookup f29=some ⟨oc29,od29,.func (W.fnOf "cuts_between" "cuts_between" (defArgs zqk) (defBody zqk) (defScope zqk) .none kV29 dc29 pm29 an29 cd29 ct29),sl29⟩) (c29:W.codeIn K cd29 "cuts_between"=true) (k29:W.keepIn K (.ref f29)=true)
  (a30:W.nsIn K mainGlobals "near_bounds"=some (some (.ref f30))) (l30:K.lookup f30=some ⟨oc30,od30,.func (W.fnOf "near_bounds" "near_bounds" (defArgs zq3) (defBody zq3) (defScope zq3) .none kV30 dc30 pm30 an30 cd30 ct30),sl30⟩) (c30:W.codeIn K cd30 "near_bounds"=true) (k30:W.keepIn K (.ref f30)=true)
  (a31:W.nsIn K mainGlobals "cut_at"=some (some (.ref f31))) (l31:K.lookup f31=some ⟨oc31,od31,.func (W.fnOf "cut_at" "cut_at" (defArgs zqf) (defBody zqf) (defScope zqf) .none kV31 dc31 pm31 an31 cd31 ct31),sl31⟩) (c31:W.codeIn K cd31 "cut_at"=true) (k31:W.keepIn K (.ref f31)=true)
  (a32:W.nsIn K mainGlobals "least_spread"=some (some (.ref f32))) (l32:K.lookup f32=some ⟨oc32,od32,.func (W.fnOf "least_spread" "least_spread" (defArgs zq9) (defBody zq9) (defScope zq9) .none kV32 dc32 pm32 an32 cd32 ct32),sl32⟩) (c32:W.codeIn K cd32 "least_spread"=true) (k32:W.keepIn K (.ref f32)=true)
  (a33:W.nsIn K mainGlobals "_law_prices_right"=some (some (.ref f33))) (l33:K.lookup f33=some ⟨oc33,od33,.func (W.fnOf "_law_prices_right" "_law_prices_right" (defArgs zq4) (defBody zq4) (defScope zq4) .none kV33 dc33 pm33 an33 cd33 ct33),sl33⟩) (c33:W.codeIn K cd33 "_law_prices_right"=true) (k33:W.keepIn K (.ref f33)=true)
  (a34:W.nsIn K mainGlobals "_law_like_right"=some (some (.ref f34))) (l34:K.lookup f34=some ⟨oc34,od34,.func (W.fnOf "_law_like_right" "_law_like_right" (defArgs zq0) (defBody zq0) (defScope zq0) .none kV34 dc34 pm34 an34 cd34 ct34),sl34⟩) (c34:W.codeIn K cd34 "_law_like_right"=true) (k34:W.keepIn K (.ref f34)=true)
  (a35:W.nsIn K mainGlobals "law"=some (some (.ref f35))) (l35:K.lookup f35=some ⟨oc35,od35,.func (W.fnOf "law" "law" (defArgs zq14) (defBody zq14) (defScope zq14) .none kV35 dc35 pm35 an35 cd35 ct35),sl35⟩) (c35:W.codeIn K cd35 "law"=true) (k35:W.keepIn K (.ref f35)=true)
  (z0:W.nsIn K mainGlobals "list"=some none) (z1:W.nsIn K mainGlobals "enumerate"=some none) (z2:W.nsIn K mainGlobals "int"=some none) (z3:W.nsIn K mainGlobals "sum"=some none) (z4:W.nsIn K mainGlobals "range"=some none) (z5:W.nsIn K mainGlobals "sorted"=some none) (z6:W.nsIn K mainGlobals "max"=some none) (z7:W.nsIn K mainGlobals "min"=some none) (z8:W.nsIn K mainGlobals "len"=some none) (z9:W.nsIn K mainGlobals "repr"=some none) (z10:W.nsIn K mainGlobals "isinstance"=some none) (z11:W.nsIn K mainGlobals "zip"=some none) (z12:W.nsIn K mainGlobals "bool"=some none) (z13:W.nsIn K mainGlobals "tuple"=some none) (z14:W.nsIn K mainGlobals "str"=some none) (z15:W.nsIn K mainGlobals "dict"=some none) (z16:W.nsIn K mainGlobals "abs"=some none) :
  ∃ fd:FuncData,(∀ (s:Shared) (v:Value),BindsTo s fd ⟨[v],[]⟩ [("script",v)])/\∀ base:Heap,K.In base->base.Ns mainGlobals mg->FnOk l.prog w K mg base CX0 8 fa fd ["script"] (sp_law K):=by
 have e:=hfa.symm.trans (W.mg_of X G a35)
 cases e
 have F0:=fun_mk (st:=zq1f) l0 c0 k0
 have b0:=F0.binds (ps:=["cell","k"]) λ_ _ _ _ _ _ us hl=>match us,hl with | [_,_],_=>rfl
 have F1:=fun_mk (st:=zq11) l1 c1 k1
 have b1:=F1.binds (ps:=["script","many"]) λ_ _ _ _ _ _ us hl=>match us,hl with | [_,_],_=>rfl
 have F2:=fun_mk (st:=zq1g) l2 c2 k2
 have b2:=F2.binds (ps:=["hand","limit"]) λ_ _ _ _ _ _ us hl=>match us,hl with | [_,_],_=>rfl
 have F3:=fun_mk (st:=zq1h) l3 c3 k3
 have b3:=F3.binds (ps:=["thing"]) λ_ _ _ _ _ _ us hl=>match us,hl with | [_],_=>rfl
 have F4:=fun_mk (st:=zq15) l4 c4 k4
 have b4:=F4.binds (ps:=["thing","low","high"]) λ_ _ _ _ _ _ us hl=>match us,hl with | [_,_,_],_=>rfl
 have F5:=fun_mk (st:=zqx) l5 c5 k5
 have b5:=F5.binds (ps:=["row","many"]) λ_ _ _ _ _ _ us hl=>match us,hl with | [_,_],_=>rfl
 have F6:=fun_mk (st:=zqu) l6 c6 k6
 have b6:=F6.binds (ps:=["row"]) λ_ _ _ _ _ _ us hl=>match us,hl with | [_],_=>rfl
 have F7:=fun_mk (st:=zqb) l7 c7 k7
 have b7:=F7.binds (ps:=["row","most"]) λ_ _ _ _ _ _ us hl=>match us,hl with | [_,_],_=>rfl
 have F8:=fun_mk (st:=zq2) l8 c8 k8
 have b8:=F8.binds (ps:=["row","many","table"]) λ_ _ _ _ _ _ us hl=>match us,hl with | [_,_,_],_=>rfl
 have F9:=fun_mk (st:=zqt) l9 c9 k9
 have b9:=F9.binds (ps:=["row","many"]) λ_ _ _ _ _ _ us hl=>match us,hl with | [_,_],_=>rfl
 have F10:=fun_mk (st:=zq1d) l10 c10 k10
 have b10:=F10.binds (ps:=["table"]) λ_ _ _ _ _ _ us hl=>match us,hl with | [_],_=>rfl
 have F11:=fun_mk (st:=zqi) l11 c11 k11
 have b11:=F11.binds (ps:=["row","price"]) λ_ _ _ _ _ _ us hl=>match us,hl with | [_,_],_=>rfl
 have F12:=fun_mk (st:=zq1i) l12 c12 k12
 have b12:=F12.binds (ps:=["row"]) λ_ _ _ _ _ _ us hl=>match us,hl with | [_],_=>rfl
 have F13:=fun_mk (st:=zqy) l13 c13 k13
 have b13:=F13.binds (ps:=["row","many"]) λ_ _ _ _ _ _ us hl=>match us,hl with | [_,_],_=>rfl
 have F14:=fun_mk (st:=zq5) l14 c14 k14
 have b14:=F14.binds (ps:=["many","parts","one","at"]) λ_ _ _ _ _ _ us hl=>match us,hl with | [_,_,_,_],_=>rfl
 have F15:=fun_mk (st:=zqz) l15 c15 k15
 have b15:=F15.binds (ps:=["many","parts"]) λ_ _ _ _ _ _ us hl=>match us,hl with | [_,_],_=>rfl
 have F16:=fun_mk (st:=zqp) l16 c16 k16
 have b16:=F16.binds (ps:=["many","parts","one"]) λ_ _ _ _ _ _ us hl=>match us,hl with | [_,_,_],_=>rfl
 have F17:=fun_mk (st:=zql) l17 c17 k17
 have b17:=F17.binds (ps:=["row"]) λ_ _ _ _ _ _ us hl=>match us,hl with | [_],_=>rfl
 have F18:=fun_mk (st:=zqh) l18 c18 k18
 have b18:=F18.binds (ps:=["row","bound"]) λ_ _ _ _ _ _ us hl=>match us,hl with | [_,_],_=>rfl
 have F19:=fun_mk (st:=zq6) l19 c19 k19
 have b19:=F19.binds (ps:=["row","many"]) λ_ _ _ _ _ _ us hl=>match us,hl with | [_,_],_=>rfl
 have F20:=fun_mk (st:=zqe) l20 c20 k20
 have b20:=F20.binds (ps:=["row","many"]) λ_ _ _ _ _ _ us hl=>match us,hl with | [_,_],_=>rfl
 have F21:=fun_mk (st:=zqo) l21 c21 k21
 have b21:=F21.binds (ps:=["row","bound"]) λ_ _ _ _ _ _ us hl=>match us,hl with | [_,_],_=>rfl
 have F22:=fun_mk (st:=zqj) l22 c22 k22
 have b22:=F22.binds (ps:=["row","bound"]) λ_ _ _ _ _ _ us hl=>match us,hl with | [_,_],_=>rfl
 have F23:=fun_mk (st:=zqc) l23 c23 k23
 have b23:=F23.binds (ps:=["row","many"]) λ_ _ _ _ _ _ us hl=>match us,hl with | [_,_],_=>rfl
 have F24:=fun_mk (st:=zqa) l24 c24 k24
 have b24:=F24.binds (ps:=["row","ahead","end","bound"]) λ_ _ _ _ _ _ us hl=>match us,hl with | [_,_,_,_],_=>rfl
 have F25:=fun_mk (st:=zq8) l25 c25 k25
 have b25:=F25.binds (ps:=["row","many","bound"]) λ_ _ _ _ _ _ us hl=>match us,hl with | [_,_,_],_=>rfl
 have F26:=fun_mk (st:=zqd) l26 c26 k26
 have b26:=F26.binds (ps:=["row","many"]) λ_ _ _ _ _ _ us hl=>match us,hl with | [_,_],_=>rfl
 have F27:=fun_mk (st:=zqm) l27 c27 k27
 have b27:=F27.binds (ps:=["ranges","many"]) λ_ _ _ _ _ _ us hl=>match us,hl with | [_,_],_=>rfl
 have F28:=fun_mk (st:=zq7) l28 c28 k28
 have b28:=F28.binds (ps:=["row","low","high"]) λ_ _ _ _ _ _ us hl=>match us,hl with | [_,_,_],_=>rfl
 have F29:=fun_mk (st:=zqk) l29 c29 k29
 have b29:=F29.binds (ps:=["row","many","low","high"]) λ_ _ _ _ _ _ us hl=>match us,hl with | [_,_,_,_],_=>rfl
 have F30:=fun_mk (st:=zq3) l30 c30 k30
 have b30:=F30.binds (ps:=["row","many"]) λ_ _ _ _ _ _ us hl=>match us,hl with | [_,_],_=>rfl
 have F31:=fun_mk (st:=zqf) l31 c31 k31
 have b31:=F31.binds (ps:=["row","many","low","high","place"]) λ_ _ _ _ _ _ us hl=>match us,hl with | [_,_,_,_,_],_=>rfl
 have F32:=fun_mk (st:=zq9) l32 c32 k32
 have b32:=F32.binds (ps:=["row","many"]) λ_ _ _ _ _ _ us hl=>match us,hl with | [_,_],_=>rfl
 have F33:=fun_mk (st:=zq4) l33 c33 k33
 have b33:=F33.binds (ps:=["row","many","parts","one"]) λ_ _ _ _ _ _ us hl=>match us,hl with | [_,_,_,_],_=>rfl
 have F34:=fun_mk (st:=zq0) l34 c34 k34
 have b34:=F34.binds (ps:=["many","parts","one"]) λ_ _ _ _ _ _ us hl=>match us,hl with | [_,_,_],_=>rfl
 have F35:=fun_mk (st:=zq14) l35 c35 k35
 have b35:=F35.binds (ps:=["script"]) λ_ _ _ _ _ _ us hl=>match us,hl with | [_],_=>rfl
 have B:Bl mg:=⟨W.mg_none_of X G z0,W.mg_none_of X G z1,W.mg_none_of X G z2,W.mg_none_of X G z3,W.mg_none_of X G z4,W.mg_none_of X G z5,W.mg_none_of X G z6,W.mg_none_of X G z7,W.mg_none_of X G z8,W.mg_none_of X G z9,W.mg_none_of X G z10,W.mg_none_of X G z11,W.mg_none_of X G z12,W.mg_none_of X G z13,W.mg_none_of X G z14,W.mg_none_of X G z15,W.mg_none_of X G z16⟩
 refine⟨W.fnOf "law" "law" (defArgs zq14) (defBody zq14) (defScope zq14) .none kV35 dc35 pm35 an35 cd35 ct35,λs v=>.of_eq rfl,λbase _ _=>?_⟩
 have zq5f:Def l.prog w K mg base 1 "_law_hand" ["cell","k"] zq5u:=⟨f0,_,zqes (P:=l.prog) (w:=w) (base:=base) B  F0,b0,k0,W.mg_of X G a0⟩
 have zq4m:Def l.prog w K mg base 1 "_law_cells" ["script","many"] (zq52 K):=⟨f1,_,zqec (P:=l.prog) (w:=w) (base:=base) B  F1,b1,k1,W.mg_of X G a1⟩
 have zq1r:Def l.prog w K mg base 1 "_law_draw" ["hand","limit"] zq5v:=⟨f2,_,zqet (P:=l.prog) (w:=w) (base:=base) B  F2,b2,k2,W.mg_of X G a2⟩
 have zq54:Def l.prog w K mg base 1 "is_whole" ["thing"] zq5w:=⟨f3,_,zqew (P:=l.prog) (w:=w) (base:=base) B  F3,b3,k3,W.mg_of X G a3⟩
 have zq1s:Def l.prog w K mg base 2 "is_within" ["thing","low","high"] zq36:=⟨f4,_,zqee (P:=l.prog) (w:=w) (base:=base) B zq54 F4,b4,k4,W.mg_of X G a4⟩
 have zq1:Def l.prog w K mg base 3 "check_many" ["row","many"] zqn:=⟨f5,_,zqdv (P:=l.prog) (w:=w) (base:=base) B zq1s F5,b5,k5,W.mg_of X G a5⟩
 have zqg:Def l.prog w K mg base 1 "sums_ahead" ["row"] zq1b:=⟨f6,_,zqdw (P:=l.prog) (w:=w) (base:=base) B  F6,b6,k6,W.mg_of X G a6⟩
 have zqr:Def l.prog w K mg base 2 "even_table" ["row","most"] zq1v:=⟨f7,_,zqe5 (P:=l.prog) (w:=w) (base:=base) B zqg F7,b7,k7,W.mg_of X G a7⟩
 have zqv:Def l.prog w K mg base 2 "first_even_cut" ["row","many","table"] zq1u:=⟨f8,_,zqbv (P:=l.prog) (w:=w) (base:=base) B zqg F8,b8,k8,W.mg_of X G a8⟩
 have zqw:Def l.prog w K mg base 4 "most_even" ["row","many"] zq20:=⟨f9,_,zqen (P:=l.prog) (w:=w) (base:=base) B zq1 zqr zqv F9,b9,k9,W.mg_of X G a9⟩
 have zq1e:Def l.prog w K mg base 1 "least_evens" ["table"] zq2d:=⟨f10,_,zqdm (P:=l.prog) (w:=w) (base:=base) B  F10,b10,k10,W.mg_of X G a10⟩
 have zq5e:Def l.prog w K mg base 3 "at_price" ["row","price"] zq5y:=⟨f11,_,zqf2 (P:=l.prog) (w:=w) (base:=base) B zqr zq1e zqv F11,b11,k11,W.mg_of X G a11⟩
 have zq12:Def l.prog w K mg base 3 "all_even" ["row"] zq2b:=⟨f12,_,zqf0 (P:=l.prog) (w:=w) (base:=base) B zq1e zqr F12,b12,k12,W.mg_of X G a12⟩
 have zq2z:Def l.prog w K mg base 4 "prices" ["row","many"] zq50:=⟨f13,_,zqfg (P:=l.prog) (w:=w) (base:=base) B zq1 zq12 F13,b13,k13,W.mg_of X G a13⟩
 have zq2w:Def l.prog w K mg base 5 "_law_one_right" ["many","parts","one","at"] zq3l:=⟨f14,_,zqcr (P:=l.prog) (w:=w) (base:=base) B zqw zq5e zq12 zq2z F14,b14,k14,W.mg_of X G a14⟩
 have zq1q:Def l.prog w K mg base 1 "_law_shared" ["many","parts"] zq2q:=⟨f15,_,zqe9 (P:=l.prog) (w:=w) (base:=base) B  F15,b15,k15,W.mg_of X G a15⟩
 have zqq:Def l.prog w K mg base 2 "_law_even_of" ["many","parts","one"] zq2e:=⟨f16,_,zqds (P:=l.prog) (w:=w) (base:=base) B zq1q F16,b16,k16,W.mg_of X G a16⟩
 have zq3a:Def l.prog w K mg base 2 "stretch_sums" ["row"] zq3u:=⟨f17,_,zqd1 (P:=l.prog) (w:=w) (base:=base) B zqg F17,b17,k17,W.mg_of X G a17⟩
 have zq1p:Def l.prog w K mg base 1 "short_ends" ["row","bound"] zq2p:=⟨f18,_,zqe3 (P:=l.prog) (w:=w) (base:=base) B  F18,b18,k18,W.mg_of X G a18⟩
 have zq2g:Def l.prog w K mg base 2 "greatest_bound" ["row","many"] zq32:=⟨f19,_,zqbp (P:=l.prog) (w:=w) (base:=base) B zq1p F19,b19,k19,W.mg_of X G a19⟩
 have zq2h:Def l.prog w K mg base 4 "greatest_least" ["row","many"] zq33:=⟨f20,_,zqbq (P:=l.prog) (w:=w) (base:=base) B zq1 zq2g zq1p F20,b20,k20,W.mg_of X G a20⟩
 have zq56:Def l.prog w K mg base 1 "long_cut" ["row","bound"] zq5x:=⟨f21,_,zqey (P:=l.prog) (w:=w) (base:=base) B  F21,b21,k21,W.mg_of X G a21⟩
 have zq2s:Def l.prog w K mg base 2 "fewest_pieces" ["row","bound"] zq3e:=⟨f22,_,zqcf (P:=l.prog) (w:=w) (base:=base) B zq56 F22,b22,k22,W.mg_of X G a22⟩
 have zq3n:Def l.prog w K mg base 3 "least_bound" ["row","many"] zq42:=⟨f23,_,zqdg (P:=l.prog) (w:=w) (base:=base) B zq2s F23,b23,k23,W.mg_of X G a23⟩
 have zq2f:Def l.prog w K mg base 1 "earliest_begin" ["row","ahead","end","bound"] zq30:=⟨f24,_,zqbm (P:=l.prog) (w:=w) (base:=base) B  F24,b24,k24,W.mg_of X G a24⟩
 have zq38:Def l.prog w K mg base 2 "earliest_cut" ["row","many","bound"] zq3t:=⟨f25,_,zqd0 (P:=l.prog) (w:=w) (base:=base) B zq2f F25,b25,k25,W.mg_of X G a25⟩
 have zq2i:Def l.prog w K mg base 4 "least_greatest" ["row","many"] zq31:=⟨f26,_,zqbn (P:=l.prog) (w:=w) (base:=base) B zq1 zq3n zq38 F26,b26,k26,W.mg_of X G a26⟩
 have zq1m:Def l.prog w K mg base 1 "count_ways" ["ranges","many"] zq2o:=⟨f27,_,zqdy (P:=l.prog) (w:=w) (base:=base) B  F27,b27,k27,W.mg_of X G a27⟩
 have zq1n:Def l.prog w K mg base 2 "end_ranges" ["row","low","high"] zq2n:=⟨f28,_,zqdx (P:=l.prog) (w:=w) (base:=base) B zqg F28,b28,k28,W.mg_of X G a28⟩
 have zq3b:Def l.prog w K mg base 4 "cuts_between" ["row","many","low","high"] zq3s:=⟨f29,_,zqcx (P:=l.prog) (w:=w) (base:=base) B zq1 zq1m zq1n F29,b29,k29,W.mg_of X G a29⟩
 have zq3o:Def l.prog w K mg base 5 "near_bounds" ["row","many"] zq43:=⟨f30,_,zqdj (P:=l.prog) (w:=w) (base:=base) B zq3a zq2h zq2i zq3b F30,b30,k30,W.mg_of X G a30⟩
 have zq7k:Def l.prog w K mg base 4 "cut_at" ["row","many","low","high","place"] zq7w:=⟨f31,_,zqff (P:=l.prog) (w:=w) (base:=base) B zq1 zq1n zq1m zq1s F31,b31,k31,W.mg_of X G a31⟩
 have zq3c:Def l.prog w K mg base 6 "least_spread" ["row","many"] zq3w:=⟨f32,_,zqd2 (P:=l.prog) (w:=w) (base:=base) B zq1 zq3o zq7k F32,b32,k32,W.mg_of X G a32⟩
 have zq21:Def l.prog w K mg base 5 "_law_prices_right" ["row","many","parts","one"] zq2l:=⟨f33,_,zqae (P:=l.prog) (w:=w) (base:=base) B zqq zq2z F33,b33,k33,W.mg_of X G a33⟩
 have zq2j:Def l.prog w K mg base 7 "_law_like_right" ["many","parts","one"] zq35:=⟨f34,_,zqc0 (P:=l.prog) (w:=w) (base:=base) B zq1q zqw zqq zq12 zq3c zq21 F34,b34,k34,W.mg_of X G a34⟩
 exact zqfl (P:=l.prog) (w:=w) (base:=base) B zq5f zq4m zq1r zq2w zq2j zqw F35
theorem walk {l:W.OpenLaw}{q:Program}{loose:List Str}{XP:(Str->Option Value)->Heap->Prop}{YP:World->Heap->Prop}{d:DefRec}{K:Params->W.Frag}(hn:l.most=some 63)(hdf:d.params.defaults=[])
  (hY:∀ (w:World) (h:Heap),YP w h->(K w.params).In h)
  (F:∀ (w:World) (mg:Str->Option Value) (fa:Addr) (h:Heap),(K w.params).In h->h.Ns mainGlobals mg->mg d.name=some (.ref fa) ->
   ∃ fd:FuncData,(∀ (s:Shared) (u:Value),BindsTo s fd ⟨[u],[]⟩ [("script",u)])/\∀ base:Heap,(K w.params).In base->base.Ns mainGlobals mg->FnOk l.prog w (K w.params) mg base CX0 8 fa fd ["script"] (sp_law (K w.params))) :
  W.WalkO q loose XP YP l.row.toRowW d [] (λf vs=>PySem.call f vs) :=
 L2.walk_of (n:=63) (k:=8) (x:="script") (CX:=λ_=>CX0) (sp:=λw=>sp_law (K w.params)) hn (by decide) hdf ⟨rfl,by decide,by decide,rfl⟩ hY F (λ_ _ a ns hl _ hS=>⟨a,ns,rfl,hS,hl,λ_=>rfl⟩) λ_ _ _ _ _ z=>z
end K
namespace PySem.W.Fast
def tw10062794337368617396:=0
def tw10117941755205461295:=0
def tw1011923160290814595:=0
def tw10141134428172289216:=0
def tw1015600630365957970:=0
def tw10511873931498169733:=0
def tw10550413990001047913:=0
def tw10563004242334468381:=0
def tw1060900827477977196:=0
def tw10632987352078609013:=0
def tw10658381543356003740:=0
def tw10736757014339326391:=0
def tw10794542312703231901:=0
def tw10907156250252215902:=0
def tw11035928182217092300:=0
def tw11086813759329827892:=0
def tw11096433858621711314:=0
def tw112455237391979297:=0
def tw11301540730537850858:=0
def tw11409469414665016208:=0
def tw1150305816501895465:=0
def tw11531997060111462821:=0
def tw11559141135800331697:=0
def tw11561140555779366226:=0
def tw11606005029338872710:=0
def tw11705306420817749109:=0
def tw11798456187984774789:=0
def tw11903873015742623736:=0
def tw11951477543964213842:=0
def tw11980039709928777739:=0
def tw11995510868030735305:=0
def tw11997345423130798390:=0
def tw120549718626642348:=0
def tw12204135904252454705:=0
def tw1224656874176913141:=0
def tw1226626539888350050:=0
def tw12286091186411191471:=0
def tw12301819409650714145:=0
def tw12408684187386248419:=0
def tw12416508006731129348:=0
def tw12442204023583146604:=0
def tw1247401731365807841:=0
def tw12599070984648333976:=0
def tw12738924321537547932:=0
def tw12790564217076357501:=0
def tw12824045791292704207:=0
def tw12834359832713680921:=0
def tw12874718570948470289:=0
def tw12902976389306314772:=0
def tw1295281515272948246:=0
def tw12964763154283144474:=0
def tw13042527500596044869:=0
def tw13252309952570977649:=0
def tw1326683362578555334:=0
def tw13300764093131557589:=0
def tw13314665581397904941:=0
def tw13344089839183132727:=0
def tw134897368690964548:=0
def tw1349915580882308781:=0
def tw13518172041809642724:=0
def tw13541417849739512561:=0
def tw1366033969379163988:=0
def tw13681376111338284418:=0
def tw13797521674276337217:=0
def tw13892306463875910928:=0
def tw13979872406898445484:=0
def tw14172330830427234168:=0
def tw14241993009860002263:=0
def tw14336617935513350513:=0
def tw14473305669555487429:=0
def tw14495579721723293452:=0
def tw14550338953855989734:=0
def tw14621467427719656296:=0
def tw14623568249409205107:=0
def tw14643406183676514393:=0
def tw14655341655020810429:=0
def tw14772058133654108020:=0
def tw14806725737369512252:=0
def tw14893444597655317158:=0
def tw14948148381765138284:=0
def tw14967024319387440271:=0
def tw15025966519788587251:=0
def tw15073964859456994456:=0
def tw15110051369212790397:=0
def tw15173625205612128642:=0
def tw1522898371779072654:=0
def tw15357630847627976269:=0
def tw15423700579318419352:=0
def tw15474774912814571206:=0
def tw1553081414152563291:=0
def tw15534950732700270509:=0
def tw15685175598174621010:=0
def tw15810828853819863672:=0
def tw1582341360145027200:=0
def tw15853313707875583986:=0
def tw15908529968755780864:=0
def tw15920677309852276364:=0
def tw15925264934150956810:=0
def tw15967629131556759388:=0
def tw16019624563843495795:=0
def tw16066117793325414814:=0
def tw16154856266587098593:=0
def tw16216121692602581071:=0
def tw16250257718131450641:=0
def tw16253405540867214223:=0
def tw16263012234474651455:=0
def tw16271178991869723230:=0
def tw16377820199676147128:=0
def tw16385237123849531922:=0
def tw16431127446934679245:=0
def tw16500248741565893981:=0
def tw1657022459318991628:=0
def tw16827355107595467753:=0
def tw1690597319312132266:=0
def tw16936872691633002135:=0
def tw17045657672861489188:=0
def tw17057277509647808153:=0
def tw17112632268985635925:=0
def tw1735928923970164816:=0
def tw17383825488117528063:=0
def tw17594342715753999745:=0
def tw17608872732507383422:=0
def tw17616803267249038479:=0
def tw1772153509516056105:=0
def tw1787787558511911868:=0
def tw17988935985594747915:=0
def tw18059422602767443268:=0
def tw18161224704716202299:=0
def tw181761652244299749:=0
def tw18178916052870700538:=0
def tw18259520871595790117:=0
def tw18298343312557044781:=0
def tw18363127558110350658:=0
def tw1843932228207761957:=0
def tw1888478710298634484:=0
def tw1938077626345647771:=0
def tw1997997528458827846:=0
def tw2118994572243939698:=0
def tw2121822229672483604:=0
def tw2166613577225058715:=0
def tw2186055089253597292:=0
def tw2242846188064500346:=0
def tw22633882511245994:=0
def tw2265581027199771157:=0
def tw2559094707978939912:=0
def tw2568415795279159247:=0
def tw2677164231314494699:=0
def tw2796426503772960449:=0
def tw2921536951804497464:=0
def tw2928784236479464715:=0
def tw3109164257399258039:=0
def tw316423476207289749:=0
def tw3212104128481810043:=0
def tw3246201198476048749:=0
def tw3458623465926449670:=0
def tw3474734970440651218:=0
def tw3557121358203618483:=0
def tw3589554481480853255:=0
def tw3593939431421058809:=0
def tw3945154000117356193:=0
def tw4112764633001906285:=0
def tw4144162698111447753:=0
def tw4144946251914405414:=0
def tw4199779015579916836:=0
def tw4267625770251207397:=0
def tw4400908834118785174:=0
def tw4450187673187346852:=0
def tw4452676113222059707:=0
def tw4462196105982799867:=0
def tw4518340626678381678:=0
def tw4540300343756711073:=0
def tw4639607550206779180:=0
def tw4663115648879257578:=0
def tw4674196874445269174:=0
def tw470984073072049463:=0
def tw4787030648530315271:=0
def tw4788632431698055735:=0
def tw4892569221944464422:=0
def tw4962544034516213143:=0
def tw4984775456003392958:=0
def tw5047550074341008759:=0
def tw515093648351759372:=0
def tw5165442720013899048:=0
def tw5267655084537082749:=0
def tw5297729270318831978:=0
def tw5350631342162671010:=0
def tw5389487282339881819:=0
def tw547134025938844985:=0
def tw5494719943388347348:=0
def tw5537655691904632109:=0
def tw5581825920088153704:=0
def tw5594284155539134446:=0
def tw5697474604071565195:=0
def tw5705093786207706606:=0
def tw5749350035548867582:=0
def tw5808786494549436643:=0
def tw6189589381456830806:=0
def tw6289183577129801816:=0
def tw6297199779293681305:=0
def tw6367557289266093015:=0
def tw6427306229614236864:=0
def tw6513215881923399473:=0
def tw6573779505008050194:=0
def tw6624854429522587002:=0
def tw6761661848037202359:=0
def tw6814112632036118646:=0
def tw6844540574769385080:=0
def tw6928115936375139445:=0
def tw6950277050286745615:=0
def tw7025740458819679246:=0
def tw7059340779193255990:=0
def tw715096853418000753:=0
def tw7246573519117892606:=0
def tw7328644870556591985:=0
def tw7400357241223620852:=0
def tw7448481357147435807:=0
def tw7518168708279418106:=0
def tw7570756476374058613:=0
def tw7621888354660977514:=0
def tw7654142885561756170:=0
def tw7686086784691067752:=0
def tw7697413968170343139:=0
def tw7714738457938146789:=0
def tw7750249004240518030:=0
def tw7761299962931372683:=0
def tw7787521400128037251:=0
def tw7848084914182711761:=0
def tw7848923259975527501:=0
def tw7861680861799912981:=0
def tw7885439866157657885:=0
def tw7912123046088819177:=0
def tw7969899524257867506:=0
def tw8004876907927153655:=0
def tw808642537358518924:=0
def tw8088123513646311865:=0
def tw8143233722740265188:=0
def tw8157277385595054490:=0
def tw8232178575574411111:=0
def tw8405948947518295854:=0
def tw8411653556577540516:=0
def tw8497453026159295928:=0
def tw8639899403725528850:=0
def tw8657937817087185415:=0
def tw8713034871815216751:=0
def tw8759527700726150798:=0
def tw8950298163661383427:=0
def tw8952068172214276066:=0
def tw8967983871314052417:=0
def tw903100596713781869:=0
def tw9291446213944998901:=0
def tw9313632894260496555:=0
def tw9427194399648442700:=0
def tw9577702766771491210:=0
def tw9606978402656720363:=0
def tw9620386587406842711:=0
def tw9663774252658314540:=0
def tw9663846232270174999:=0
def tw9675489244698688871:=0
def tw969448163103188563:=0
def tw9741616016507421048:=0
def tw9915393261135792556:=0
def tw9929764307855601130:=0
def tw9966355299117989690:=0
end PySem.W.Fast
open PySem PySem.W PyProof.Rows
set_option maxRecDepth 100000 in
set_option maxHeartbeats 0 in
theorem PySem.Challenge.cw_piecebounds_k27_squares_and_spreads_plan_holds : PySem.Challenge.rw_piecebounds_k27_squares_and_spreads_plan.Holds := by
  w_on; o_law; k_head; (case hw => w_witness2)
  k_fill
  refine K.walk (l := PySem.Challenge.rw_piecebounds_k27_squares_and_spreads_plan) rfl rfl (fun w h Y => PySem.W.kIn_of Y) ?F
  case F =>
    intro w mg fa h KX G hmg
    refine' K.all_mk KX G hmg ?a0 ?l0 ?c0 ?k0 ?a1 ?l1 ?c1 ?k1 ?a2 ?l2 ?c2 ?k2 ?a3 ?l3 ?c3 ?k3 ?a4 ?l4 ?c4 ?k4 ?a5 ?l5 ?c5 ?k5 ?a6 ?l6 ?c6 ?k6 ?a7 ?l7 ?c7 ?k7 ?a8 ?l8 ?c8 ?k8 ?a9 ?l9 ?c9 ?k9 ?a10 ?l10 ?c10 ?k10 ?a11 ?l11 ?c11 ?k11 ?a12 ?l12 ?c12 ?k12 ?a13 ?l13 ?c13 ?k13 ?a14 ?l14 ?c14 ?k14 ?a15 ?l15 ?c15 ?k15 ?a16 ?l16 ?c16 ?k16 ?a17 ?l17 ?c17 ?k17 ?a18 ?l18 ?c18 ?k18 ?a19 ?l19 ?c19 ?k19 ?a20 ?l20 ?c20 ?k20 ?a21 ?l21 ?c21 ?k21 ?a22 ?l22 ?c22 ?k22 ?a23 ?l23 ?c23 ?k23 ?a24 ?l24 ?c24 ?k24 ?a25 ?l25 ?c25 ?k25 ?a26 ?l26 ?c26 ?k26 ?a27 ?l27 ?c27 ?k27 ?a28 ?l28 ?c28 ?k28 ?a29 ?l29 ?c29 ?k29 ?a30 ?l30 ?c30 ?k30 ?a31 ?l31 ?c31 ?k31 ?a32 ?l32 ?c32 ?k32 ?a33 ?l33 ?c33 ?k33 ?a34 ?l34 ?c34 ?k34 ?a35 ?l35 ?c35 ?k35 ?z0 ?z1 ?z2 ?z3 ?z4 ?z5 ?z6 ?z7 ?z8 ?z9 ?z10 ?z11 ?z12 ?z13 ?z14 ?z15 ?z16
    (case a0 | l0 | c0 | k0 | a1 | l1 | c1 | k1 | a2 | l2 | c2 | k2 | a3 | l3 | c3 | k3 | a4 | l4 | c4 | k4 | a5 | l5 | c5 | k5 | a6 | l6 | c6 | k6 | a7 | l7 | c7 | k7 | a8 | l8 | c8 | k8 | a9 | l9 | c9 | k9 | a10 | l10 | c10 | k10 | a11 | l11 | c11 | k11 | a12 | l12 | c12 | k12 | a13 | l13 | c13 | k13 | a14 | l14 | c14 | k14 | a15 | l15 | c15 | k15 | a16 | l16 | c16 | k16 | a17 | l17 | c17 | k17 | a18 | l18 | c18 | k18 | a19 | l19 | c19 | k19 | a20 | l20 | c20 | k20 | a21 | l21 | c21 | k21 | a22 | l22 | c22 | k22 | a23 | l23 | c23 | k23 | a24 | l24 | c24 | k24 | a25 | l25 | c25 | k25 | a26 | l26 | c26 | k26 | a27 | l27 | c27 | k27 | a28 | l28 | c28 | k28 | a29 | l29 | c29 | k29 | a30 | l30 | c30 | k30 | a31 | l31 | c31 | k31 | a32 | l32 | c32 | k32 | a33 | l33 | c33 | k33 | a34 | l34 | c34 | k34 | a35 | l35 | c35 | k35 | z0 | z1 | z2 | z3 | z4 | z5 | z6 | z7 | z8 | z9 | z10 | z11 | z12 | z13 | z14 | z15 | z16 => k_is)
