import PyProof.Rows.All
import Wide.All
import OpenK.AllK
import Wide.FinOn
import Lean
import PyProof.EqAt
import PyProof.EqKinds
import PyProof.TupleCall
import PySem.Challenge.RW_piecebounds_k20_least_spreads_of_longer
set_option Elab.async false
set_option linter.all false
set_option maxRecDepth 100000
namespace L2
open PySem PySem.Spec PyProof.Rows
abbrev Key:=Sum Int Str
def keyIs:Key->Value->Bool
 | .inl k,v=>Value.isInt k v
 | .inr x,v=>Value.isStrOf x v
def keyH (w:World):Key->Int
 | .inl k=>hashInt k
 | .inr x=>hashStr w x
theorem keyIs_shape:∀ {k:Key} {v:Value},keyIs k v=true->(∃ i t,k=Sum.inl i/\v=Value.int i t)\/(∃ x t,k=Sum.inr x/\v=Value.str x t)
 | .inl i,v,h=>by
  obtain⟨t,e⟩:=Value.isInt_shape (k:=i) (v:=v) h
  exact .inl ⟨i,t,rfl,e⟩
 | .inr x,v,h=>by
  obtain⟨t,e⟩:=Value.isStrOf_shape (x:=x) (v:=v) h
  exact .inr ⟨x,t,rfl,e⟩
theorem zFa (i:Int)(t:Tok):keyIs (.inl i) (.int i t)=true:=by simp[keyIs,Value.isInt]
theorem zFb (x:Str)(t:Tok):keyIs (.inr x) (.str x t)=true:=by simp[keyIs,Value.isStrOf]
theorem zKT (a b:Int):decide ((Sum.inl a:Key)=Sum.inl b)=(a == b):=by
 by_cases e:a=b
 ·subst e;simp
 ·have h:¬ (Sum.inl a:Key)=Sum.inl b:=λq=>e (Sum.inl.inj q)
  rw[decide_eq_false h]
  exact(beq_eq_false_iff_ne.mpr e).symm
theorem zKU (a b:Str):decide ((Sum.inr a:Key)=Sum.inr b)=decide (a=b):=by
 by_cases e:a=b
 ·subst e;simp
 ·have h:¬ (Sum.inr a:Key)=Sum.inr b:=λq=>e (Sum.inr.inj q)
  rw[decide_eq_false h,decide_eq_false e]
theorem zKV (a:Int)(b:Str):decide ((Sum.inl a:Key)=Sum.inr b)=false:=decide_eq_false (λq=>nomatch q)
theorem zKW (a:Str)(b:Int):decide ((Sum.inr a:Key)=Sum.inl b)=false:=decide_eq_false (λq=>nomatch q)
def mixKind (prog:Program)(w:World):PySem.KeyKind prog w Key where
 is:=keyIs
 hash:=keyH w
 inj:=λv a b ha hb=>by
  rcases keyIs_shape ha with ⟨i,t,rfl,rfl⟩ | ⟨x,t,rfl,rfl⟩
  ·rcases keyIs_shape hb with ⟨j,u,rfl,e⟩ | ⟨y,u,rfl,e⟩
   ·injection e with e1 _;rw[e1]
   ·exact nomatch e
  ·rcases keyIs_shape hb with ⟨j,u,rfl,e⟩ | ⟨y,u,rfl,e⟩
   ·exact nomatch e
   ·injection e with e1 _;rw[e1]
 byValue:=λk v h=>by
  rcases keyIs_shape h with ⟨i,t,rfl,rfl⟩ | ⟨x,t,rfl,rfl⟩<;>rfl
 pyHash:=λhv h=>by
  rcases keyIs_shape hv with ⟨i,t,rfl,rfl⟩ | ⟨x,t,rfl,rfl⟩
  ·exact wpAny_pyHash_int h
  ·exact wpAny_pyHash_str h
 eqBool:=λhu hv h=>by
  rcases keyIs_shape hu with ⟨i,t,rfl,rfl⟩ | ⟨x,t,rfl,rfl⟩
  ·rcases keyIs_shape hv with ⟨j,u,rfl,rfl⟩ | ⟨y,u,rfl,rfl⟩
   ·rw[zKT] at h;exact wpAny_eqBool_int h
   ·rw[zKV] at h;exact SeqAt.EqAt.int_str i t y u _ _ _ _ h
  ·rcases keyIs_shape hv with ⟨j,u,rfl,rfl⟩ | ⟨y,u,rfl,rfl⟩
   ·rw[zKW] at h;exact SeqAt.EqAt.str_int x t j u _ _ _ _ h
   ·rw[zKU] at h;exact wpAny_eqBool_str h
 «strs»:=λk x t v h=>by
  rcases keyIs_shape h with ⟨i,u,rfl,e⟩ | ⟨y,u,rfl,e⟩
  ·exact nomatch e
  ·injection e with e1 _
   subst e1
   cases v<;>rfl
theorem zD0 (prog:Program)(w:World)(i:Int)(t:Tok):(mixKind prog w).is (.inl i) (.int i t)=true:=zFa i t
theorem zD1 (prog:Program)(w:World)(x:Str)(t:Tok):(mixKind prog w).is (.inr x) (.str x t)=true:=zFb x t
end L2
namespace L2
open PySem PySem.Spec PyProof.Rows
inductive V where
 | non | bl (b:Bool) | int (i:Int) | str (x:Str) | byt (b:Array UInt8) | flt (b:UInt64) | ref (a:Addr) | ty (n:String)
 deriving DecidableEq
def RelV:V->Value->Prop
 | .non,u=>u=Value.none
 | .bl b,u=>u=Value.bool b
 | .int i,u=>∃ t,u=Value.int i t
 | .str x,u=>∃ t,u=Value.str x t
 | .byt b,u=>∃ t,u=Value.bytes b t
 | .flt b,u=>∃ t,u=Value.float b t
 | .ref a,u=>u=Value.ref a
 | .ty n,u=>u=Value.type n
abbrev Vals:List V->List Value->Prop:=Paired RelV
theorem Vals.length {xs:List V}{us:List Value}(r:Vals xs us):xs.length=us.length:=Paired.length r
theorem Vals.get:∀ {xs:List V} {us:List Value} {i:Nat} {x:V},Vals xs us->xs[i]?=some x->∃ u,us[i]?=some u/\RelV x u
 | _,_,_,_,.nil,e=>by simp at e
 | _,_,0,_,.cons r _,e=>by simp at e;subst e;exact⟨_,rfl,r⟩
 | _,_,i+1,x,.cons _ t,e=>by
  obtain⟨u,h1,h2⟩:=Vals.get (i:=i) (x:=x) t (by simpa using e)
  exact⟨u,by simpa using h1,h2⟩
theorem Vals.set {x:V}{u:Value}(r:RelV x u):∀ {xs:List V} {us:List Value} (i:Nat),Vals xs us->Vals (xs.set i x) (us.set i u)
 | _,_,_,.nil=>.nil
 | _,_,0,.cons _ t=>.cons r t
 | _,_,i+1,.cons q t=>.cons q (Vals.set r i t)
theorem Vals.append:∀ {xs ys:List V} {us ws:List Value},Vals xs us->Vals ys ws->Vals (xs++ys) (us++ws)
 | _,_,_,_,.nil,s=>s
 | _,_,_,_,.cons r t,s=>.cons r (Vals.append t s)
theorem Vals.take:∀ {xs:List V} {us:List Value} (n:Nat),Vals xs us->Vals (xs.take n) (us.take n)
 | _,_,0,_=>.nil
 | _,_,_+1,.nil=>.nil
 | _,_,n+1,.cons r t=>.cons r (Vals.take n t)
theorem Vals.drop:∀ {xs:List V} {us:List Value} (n:Nat),Vals xs us->Vals (xs.drop n) (us.drop n)
 | _,_,0,r=>r
 | _,_,_+1,.nil=>.nil
 | _,_,n+1,.cons _ t=>Vals.drop n t
def RelO:Option V->Option Value->Prop
 | some v,some u=>RelV v u
 | none,none=>True
 | _,_=>False
def KV {κ:Type}:List (κ×V)->List (κ×Value)->Prop:=Paired λ(p:κ×V) (q:κ×Value)=>p.1=q.1/\RelV p.2 q.2
def kV:Key->V
 | .inl i=>.int i
 | .inr x=>.str x
inductive HO where
  | lst (xs:List V)
  | tup (xs:List V)
  | dK (kvs:List (Key×V)) | dT (kvs:List (List Key×V))
  | set (S:Int->Bool) (n:Nat)
  | ins (C dx:Addr) (fs:List (Str×V))
  | own (x:Addr)
  | xd (fs:List (Str×V))
  | met (f x:Addr)
  | rng (lo hi:Int)
  | frz (o:Obj) (u:HO)
  | tbl (ps:Array Value)
  | ext (φ:Heap->Prop)
abbrev Hp:=Addr->Option HO
def upd (H:Hp)(a:Addr)(o:HO):Hp:=λb=>if b=a then some o else H b
theorem zAP {H:Hp}{a:Addr}{o:HO}:upd H a o a=some o:=by unfold upd;rw[if_pos rfl]
theorem zAS {H:Hp}{a b:Addr}{o:HO}(h:b≠a):upd H a o b=H b:=by unfold upd;rw[if_neg h]
theorem zMA {H:Hp}{a b:Addr}{o u:HO}(h:H a=some o)(h':H b=some u)(d:o≠u):a≠b:=by
 intro e;subst e;rw[h] at h';exact d (Option.some.inj h')
theorem zAK {H:Hp}{a b:Addr}{o:HO}(h:H a=some o)(h':H b=none):a≠b:=by
 intro e;subst e;rw[h] at h';cases h'
section
variable (P:Program)(w:World)
def ObjOk (H:Hp)(h:Heap)(a:Addr):HO->Prop
 | .lst xs=>xs.length<=sizeLine/\∃ (its:List Value) (n:Nat),Vals xs its/\h.get? a=some { cls:=.type "list",data:=.seq its.toArray n }
 | .tup xs=>xs.length<=sizeLine/\∃ its:List Value,Vals xs its/\IsTup h a its.toArray
 | .dK kvs=>kvs.length<=sizeLine/\(a == sysModules)=false/\∃ vs,KV kvs vs/\h.DictOf (mixKind P w) a vs
 | .dT kvs=>kvs.length<=sizeLine/\(a == sysModules)=false/\∃ xs:List (List Key×Addr×Value),
   Paired (λ(p:List Key×V) (q:List Key×Addr×Value)=>p.1=q.1/\H q.2.1=some (.tup (p.1.map kV))/\RelV p.2 q.2.2) kvs xs /\
   ∃ o es ep,h.get? a=some o/\o.ExactDict/\o.data=.dict es ep/\es.toList=xs.map (entryOfKey (tupleKind (mixKind P w)))/\(xs.map (·.1)).Nodup
 | .set S n=>h.SetOf (intKind P w) a S n
 | .ins C dx fs=>H dx=some (.own a)/\fs.length<=1000/\dx≠a/\h.get? a=some (W.instObj C dx) /\
   ∃ mA,h.Ns1 dx mA/\(∀ f,RelO (fs.lookup f) (mA f))/\PySem.Within mA (fs.map (·.1))
 | .own _=>∃ o,h.get? a=some o
 | .xd fs=>∃ mA,h.Ns1 a mA/\∀ f,RelO (fs.lookup f) (mA f)
 | .rng lo hi=>∃ t u v,h.get? a=some { cls:=.type "range",data:=.fields #[.int lo t,.int hi u,.int 1 v] }
 | .frz o u=>h.get? a=some o/\ObjOk H h a u
 | .tbl ps=>h.get? a=some { cls:=.none,data:=.fields ps }
 | .met f x=>h.get? a=some (W.methodObj (.ref f) (.ref x))
 | .ext φ=>φ h/\(∃ o,h.get? a=some o)/\∀ h1 h2:Heap,φ h1->(∀ o,h1.get? a=some o->h2.get? a=some o)->φ h2
def HOk (H:Hp)(h:Heap):Prop:=∀ a o,H a=some o->ObjOk P w H h a o
end
section
variable {P:Program}{w:World}{H H':Hp}{h h':Heap}{a:Addr}{o:HO}
theorem ObjOk.lt (x:ObjOk P w H h a o):a<h.objs.size:=by
 cases o with
 | lst xs=>obtain⟨_,_,_,_,e⟩:=x;exact Heap.lt_size e
 | tup xs=>obtain⟨_,_,_,p⟩:=x;exact p.lt
 | dK kvs=>obtain⟨_,_,_,_,o,_,_,e,_⟩:=x;exact Heap.lt_size e
 | dT kvs=>obtain⟨_,_,_,_,o,_,_,e,_⟩:=x;exact Heap.lt_size e
 | set S n=>obtain⟨o,_,_,_,e,_⟩:=x;exact Heap.lt_size e
 | ins C dx fs=>obtain⟨_,_,_,e,_⟩:=x;exact Heap.lt_size e
 | own y=>obtain⟨_,e⟩:=x;exact Heap.lt_size e
 | xd fs=>obtain⟨_,⟨_,_,_,e,_⟩,_⟩:=x;exact Heap.lt_size e
 | rng lo hi=>obtain⟨_,_,_,e⟩:=x;exact Heap.lt_size e
 | frz ob u=>obtain⟨e,_⟩:=x;exact Heap.lt_size e
 | tbl ps=>exact Heap.lt_size (show h.get? a=some _ from x)
 | met f y=>exact Heap.lt_size (show h.get? a=some _ from x)
 | ext φ=>obtain⟨_,⟨_,e⟩,_⟩:=x;exact Heap.lt_size e
theorem Paired.mapP {α β:Type}{F G:α->β->Prop}:∀ {l₁:List α} {l₂:List β},Paired F l₁ l₂->(∀ a b,F a b->G a b)->Paired G l₁ l₂
 | _,_,.nil,_=>.nil
 | _,_,.cons r t,f=>.cons (f _ _ r) (Paired.mapP t f)
theorem ObjOk.stay (x:ObjOk P w H h a o)(k:∀ b u,(b=a\/H b=some (.own a))->h.get? b=some u->h'.get? b=some u)
  (ho:∀ b,H b=some (.own a)->H' b=some (.own a)) (ht:∀ b xs,H b=some (.tup xs)->H' b=some (.tup xs)):ObjOk P w H' h' a o:=by
 induction o with
 | lst xs=>obtain⟨z,its,n,r,e⟩:=x;exact⟨z,its,n,r,k _ _ (.inl rfl) e⟩
 | tup xs=>obtain⟨z,its,r,ob,e,c⟩:=x;exact⟨z,its,r,ob,k _ _ (.inl rfl) e,c⟩
 | dK kvs=>obtain⟨z,y,vs,r,ob,es,ep,e,c⟩:=x;exact⟨z,y,vs,r,ob,es,ep,k _ _ (.inl rfl) e,c⟩
 | dT kvs =>
  obtain⟨z,y,xs,r,ob,es,ep,e,c⟩:=x
  exact⟨z,y,xs,Paired.mapP r λp q z=>⟨z.1,ht _ _ z.2.1,z.2.2⟩,ob,es,ep,k _ _ (.inl rfl) e,c⟩
 | set S n=>obtain⟨ob,es,ep,t,e,c⟩:=x;exact⟨ob,es,ep,t,k _ _ (.inl rfl) e,c⟩
 | ins C dx fs =>
  obtain⟨d,z,ne,e,mA,⟨od,es,ep,e2,c⟩,r⟩:=x
  exact⟨ho _ d,z,ne,k _ _ (.inl rfl) e,mA,⟨od,es,ep,k _ _ (.inr d) e2,c⟩,r⟩
 | own y=>obtain⟨ob,e⟩:=x;exact⟨ob,k _ _ (.inl rfl) e⟩
 | xd fs=>obtain⟨mA,⟨od,es,ep,e,c⟩,r⟩:=x;exact⟨mA,⟨od,es,ep,k _ _ (.inl rfl) e,c⟩,r⟩
 | rng lo hi=>obtain⟨t,u,v,e⟩:=x;exact⟨t,u,v,k _ _ (.inl rfl) e⟩
 | frz ob u ih=>obtain⟨e,q⟩:=x;exact⟨k _ _ (.inl rfl) e,ih q⟩
 | tbl ps =>
  have e:h.get? a=some { cls:=.none,data:=.fields ps }:=x
  show h'.get? a=some { cls:=.none,data:=.fields ps }
  exact k a _ (.inl rfl) e
 | met f y =>
  have e:h.get? a=some (W.methodObj (.ref f) (.ref y)):=x
  show h'.get? a=some (W.methodObj (.ref f) (.ref y))
  exact k a _ (.inl rfl) e
 | ext φ=>obtain⟨p,⟨o,e⟩,st⟩:=x;exact⟨st _ _ p λo q=>k _ _ (.inl rfl) q,⟨o,k _ _ (.inl rfl) e⟩,st⟩
theorem HOk.lt (x:HOk P w H h)(e:H a=some o):a<h.objs.size:=(x a o e).lt
theorem HOk.fresh (x:HOk P w H h)(e:h.objs.size<=a):H a=none:=by
 cases q:H a with
 | none=>rfl
 | some u=>exact absurd (Nat.lt_of_lt_of_le (x.lt q) e) (Nat.lt_irrefl _)
theorem HOk.kept (x:HOk P w H h)(k:∀ b u,h.get? b=some u->h'.get? b=some u):HOk P w H h':=λa o e =>
 (x a o e).stay (λb u _ q=>k b u q) (λ_ q=>q) λ_ _ q=>q
theorem HOk.laid (x:HOk P w H h)(k:∀ b u,h.get? b=some u->h'.get? b=some u)(hp:h.objs.size<=a)(new:ObjOk P w (upd H a o) h' a o):HOk P w (upd H a o) h':=λb u e=>by
 have hn:=x.fresh hp
 by_cases hb:b=a
 ·subst hb;rw[zAP] at e;cases e;exact new
 ·rw[zAS hb] at e
  exact(x b u e).stay (λc v _ q=>k c v q) (λc q=>by rw[zAS (zAK q hn)];exact q) λc xs q=>by rw[zAS (zAK q hn)];exact q
end
def Rd (H:Hp)(a:Addr)(u:HO):Prop:=H a=some u\/∃ o,H a=some (.frz o u)
theorem Rd.ok {P:Program}{w:World}{H:Hp}{h:Heap}{a:Addr}{u:HO}(r:Rd H a u)(x:HOk P w H h):ObjOk P w H h a u:=by
 rcases r with r | ⟨o,r⟩
 ·exact x a u r
 ·obtain⟨_,q⟩:=x a _ r
  exact q
def Mut:Option HO->Prop
 | some (.lst _)=>True
 | some (.dK _)=>True
 | some (.dT _)=>True
 | some (.set _ _)=>True
 | some (.ins _ _ _)=>True
 | some (.ext _)=>True
 | _=>False
section
variable {P:Program}{w:World}{H:Hp}{h h':Heap}{x e:Addr}{o':HO}
theorem HOk.write (ok:HOk P w H h)(mu:Mut (H x))(he:e=x\/H e=some (.own x))(k:∀ b u,b≠e->h.get? b=some u->h'.get? b=some u)(heo:∃ u,h'.get? e=some u)
  (new:ObjOk P w (upd H x o') h' x o'):HOk P w (upd H x o') h':=λb u q=>by
 have nown:∀ c y,H c=some (.own y)->c≠x:=λc y r z=>by subst z;rw[r] at mu;exact mu
 have ntup:∀ c xs,H c=some (.tup xs)->c≠x:=λc xs r z=>by subst z;rw[r] at mu;exact mu
 by_cases hb:b=x
 ·subst hb;rw[zAP] at q;cases q;exact new
 ·rw[zAS hb] at q
  by_cases hbe:b=e
  ·have q':H b=some (.own x):=by
    rcases he with z | z
    ·exact absurd (hbe.trans z) hb
    ·rw[hbe];exact z
   rw[q] at q';cases q'
   obtain⟨v,hv⟩:=heo
   exact⟨v,by rw[hbe];exact hv⟩
  ·refine(ok b u q).stay (λc v hc r=>k c v ?_ r) (λc r=>by rw[zAS (nown c b r)];exact r) λc xs r=>by rw[zAS (ntup c xs r)];exact r
   rcases hc with rfl | hc
   ·exact hbe
   ·rintro rfl
    rcases he with z | z
    ·exact nown c b hc z
    ·rw[hc] at z;cases z;exact hb rfl
end
structure Un (fs ex:List Addr)(H H':Hp)(h h':Heap):Prop where
 keep:∀ b o,h.get? b=some o->H b=none->b∉fs->b∉ex->h'.get? b=some o
 slot:∀ b o,h.get? b=some o->H b=none->b∈fs->b∉ex->∃ sl,h'.get? b=some { o with slots:=sl }
 free:∀ b o,h.get? b=some o->H b=none->b∉ex->H' b=none
 there:∀ b o,h.get? b=some o->b∉ex->∃ o',h'.get? b=some o'
 tups:∀ b xs,H b=some (.tup xs)->H' b=some (.tup xs)
 frzs:∀ b o u,H b=some (.frz o u)->H' b=some (.frz o u)
 tbls:∀ b ps,H b=some (.tbl ps)->∃ more,H' b=some (.tbl (ps++more))
section
variable {fs fs' ex ex':List Addr}{H H1 H2:Hp}{h h1 h2 h':Heap}{a x e:Addr}{o:HO}
theorem Un.any (u:Un fs ex H H1 h h1){b:Addr}{ob:Obj}(q:h.get? b=some ob)(n:H b=none)(hx:b∉ex):∃ sl,h1.get? b=some { ob with slots:=sl }:=by
 by_cases hb:b∈fs
 ·exact u.slot b ob q n hb hx
 ·exact⟨ob.slots,u.keep b ob q n hb hx⟩
theorem Un.trans (a:Un fs ex H H1 h h1)(b:Un fs ex H1 H2 h1 h2):Un fs ex H H2 h h2 where
 keep:=λc ob q n hc hx=>b.keep c ob (a.keep c ob q n hc hx) (a.free c ob q n hx) hc hx
 slot:=λc ob q n hc hx=>by
  obtain⟨sl,e1⟩:=a.slot c ob q n hc hx
  obtain⟨sl',e2⟩:=b.slot c _ e1 (a.free c ob q n hx) hc hx
  exact⟨sl',e2⟩
 free:=λc ob q n hx=>by
  obtain⟨o',e1⟩:=a.there c ob q hx
  exact b.free c o' e1 (a.free c ob q n hx) hx
 there:=λc ob q hx=>by
  obtain⟨o',e1⟩:=a.there c ob q hx
  exact b.there c o' e1 hx
 tups:=λc xs q=>b.tups c xs (a.tups c xs q)
 frzs:=λc ob xs q=>b.frzs c ob xs (a.frzs c ob xs q)
 tbls:=λc ps q=>by
  obtain⟨m1,e1⟩:=a.tbls c ps q
  obtain⟨m2,e2⟩:=b.tbls c _ e1
  exact⟨m1++m2,by rw[e2,Array.append_assoc]⟩
theorem Un.kept (k:∀ b u,h.get? b=some u->h'.get? b=some u):Un fs ex H H h h' :=
 ⟨λb ob q _ _ _=>k b ob q,λb ob q _ _ _=>⟨ob.slots,k b ob q⟩,λ_ _ _ n _=>n,λb ob q _=>⟨ob,k b ob q⟩,λ_ _ q=>q,λ_ _ _ q=>q,λ_ ps q=>⟨#[],by rw[q];simp⟩⟩
theorem Un.refl:Un fs ex H H h h:=Un.kept λ_ _ q=>q
theorem Un.laid (k:∀ b u,h.get? b=some u->h'.get? b=some u)(hp:h.objs.size<=a)(hn:H a=none):Un fs ex H (upd H a o) h h' where
 keep:=λb u q _ _ _=>k b u q
 slot:=λb u q _ _ _=>⟨u.slots,k b u q⟩
 free:=λb u q n _=>by rw[zAS (Nat.ne_of_lt (Nat.lt_of_lt_of_le (Heap.lt_size q) hp))];exact n
 there:=λb u q _=>⟨u,k b u q⟩
 tups:=λb xs q=>by rw[zAS (zAK q hn)];exact q
 frzs:=λb u xs q=>by rw[zAS (zAK q hn)];exact q
 tbls:=λb ps q=>⟨#[],by rw[zAS (zAK q hn),q];simp⟩
theorem Un.write (mu:Mut (H x))(he:e=x\/H e=some (.own x))(k:∀ b u,b≠e->h.get? b=some u->h'.get? b=some u)(heo:∃ u,h'.get? e=some u):Un fs ex H (upd H x o) h h':=by
 have hx:∀ b,H b=none->b≠x:=λb n z=>by subst z;rw[n] at mu;exact mu
 have hb:∀ b,H b=none->b≠e:=λb n z=>by
  subst z
  rcases he with r | r
  ·exact hx b n r
  ·rw[n] at r;cases r
 have hm:∀ b u,H b=some u->¬ Mut (some u)->b≠x:=λb u q nm z=>by subst z;rw[q] at mu;exact nm mu
 refine⟨λb u q n _ _=>k b u (hb b n) q,λb u q n _ _=>⟨u.slots,k b u (hb b n) q⟩,λb u q n _=>by rw[zAS (hx b n)];exact n,λb u q _=>?_,
  λb xs q=>by rw[zAS (hm b _ q λz=>z)];exact q,λb u xs q=>by rw[zAS (hm b _ q λz=>z)];exact q,λb ps q=>⟨#[],by rw[zAS (hm b _ q λz=>z),q];simp⟩⟩
 by_cases hbe:b=e
 ·subst hbe;exact heo
 ·exact⟨u,k b u hbe q⟩
end
def trk (h:Heap)(H:Hp):List Addr:=(List.range h.objs.size).filter λa=>(H a).isSome
def hidT (h:Heap)(H:Hp):Heap:=W.hideAll h (trk h H)
theorem zFc (h:Heap)(H:Hp):(hidT h H).objs.size=h.objs.size:=W.hideAll_size _ _
theorem zG6 {h:Heap}{H:Hp}{b:Addr}{o:Obj}(e:h.get? b=some o)(n:H b=none):(hidT h H).get? b=some o :=
 W.hideAll_get _ e λhm=>by
  have q:(H b).isSome=true:=(List.mem_filter.mp hm).2
  rw[n] at q;simp at q
theorem zIu {h:Heap}{H:Hp}{b:Addr}{o:Obj}(e:(hidT h H).get? b=some o):h.get? b=some o/\H b=none:=by
 have e':h.get? b=some o:=W.of_hideAll (trk h H) e
 refine⟨e',?_⟩
 cases q:H b with
 | none=>rfl
 | some x =>
  have hm:b∈trk h H:=List.mem_filter.mpr ⟨List.mem_range.mpr (Heap.lt_size e'),by simp[q]⟩
  have z:(hidT h H).get? b=none:=W.hideAll_none (trk h H) hm
  rw[z] at e;cases e
end L2
namespace L2
open PySem PySem.Spec PyProof.Rows
structure Mod (K:W.Frag)(mg:Str->Option Value)(base:Heap):Prop where
 kin:K.In base
 glob:base.Ns mainGlobals mg
 blt:∃ mb,base.Ns builtinsNs mb/\∀ x:Str,x≠"__name__"->mb x=bootBuiltins x
 nolimit:base.NoLimit
structure Cx where
 prog:Program
 w:World
 K:W.Frag
 mg:Str->Option Value
 base:Heap
 A:Around
 N:List Str
 s₀:Shared
 H₀:Hp
 env:Env
 outer:List Env
 stack:List Env
 ex:List Addr
 fn:Str->Bool
 calm:Bool
 pn:List (Addr×Obj)
 xe:Value->Shared->Prop
def frs (l:List Env):List Addr:=l.filterMap (·.frame)
abbrev Cx.fs (X:Cx):List Addr:=frs X.outer
def Vis (sc:Scope)(x:Str):Prop:=sc.names.lookup x=some .local\/sc.names.lookup x=some .cell\/sc.names.lookup x=some .free
def Loc (sc:Scope)(x:Str):Prop:=sc.names.lookup x=some .local\/sc.names.lookup x=some .cell
def Look (env:Env)(h:Heap)(m:Str->Option Value)(x:Str)(u:Value):Prop :=
 (env.kindOf x=some .local/\m x=some u)\/((env.kindOf x=some .cell\/env.kindOf x=some .free)/\∃ c,env.cells.lookup x=some c/\h.IsCell c (some u))
structure Cx.Ok (X:Cx):Prop where
 mod:Mod X.K X.mg X.base
 kind:X.env.scope.kind=.function
 glob:X.env.globals=mainGlobals
 blt:X.env.builtins=builtinsNs
 above:X.s₀.heap.objs.size<=X.env.locals
 inj:∀ x y c,X.env.cells.lookup x=some c->X.env.cells.lookup y=some c->x=y
 has:∀ x,(X.env.kindOf x=some .cell\/X.env.kindOf x=some .free)->∃ c,X.env.cells.lookup x=some c
 cab:∀ x c,X.fn x=true->X.env.cells.lookup x=some c->X.s₀.heap.objs.size<=c
 hd:X.calm=true->X.A.handled=none
 frames:X.A.frames=some X.stack
 stk:X.stack=X.outer\/(X.stack=X.env::X.outer/\X.env.frame=some X.env.locals)
 exf:∀ b∈X.ex,b≠X.env.locals/\∀ x c,X.env.cells.lookup x=some c->c≠b
 bs:∀ b o,X.base.get? b=some o->X.s₀.heap.get? b=some o/\X.H₀ b=none
 bsz:X.base.objs.size<=X.s₀.heap.objs.size
 noex:∀ b o,X.base.get? b=some o->b∉X.ex
 exfs:∀ b∈X.ex,b∉X.fs
 funs:X.s₀.heap.FunFrames X.base X.outer
 frf:∀ b∈X.fs,X.H₀ b=none
structure Inv (X:Cx)(pins:List (Addr×Obj))(σ:List (Option V))(H:Hp)(s:Shared):Prop where
 ok:X.Ok
 os:s.os=X.s₀.os
 bare:AllBare s.gens
 base:Un X.fs X.ex X.H₀ H X.s₀.heap s.heap
 loc:∃ m,s.heap.Ns X.env.locals m/\∀ (i:Nat) (x:Str) (v:V),X.N[i]?=some x->σ[i]?=some (some v)->Vis X.env.scope x->∃ u,RelV v u/\Look X.env s.heap m x u
 cell:∀ x c,X.env.cells.lookup x=some c->∃ v,s.heap.IsCell c v
 free:H X.env.locals=none
 freeC:∀ x c,X.env.cells.lookup x=some c->H c=none
 pin:∀ p∈X.pn++pins,s.heap.get? p.1=some p.2/\H p.1=none/\p.1≠X.env.locals/\p.1∉X.fs/\∀ v,p.2.data≠.cell v
 hok:HOk X.prog X.w H s.heap
 len:σ.length=X.N.length
section
variable {X:Cx}{pins:List (Addr×Obj)}{σ:List (Option V)}{H H':Hp}{s:Shared}{h':Heap}
theorem Cx.Ok.nofr (ok:X.Ok){b:Addr}{o:Obj}(e:X.base.get? b=some o):b∉X.fs:=λhb=>by
 have:=(ok.funs.mem hb).1
 rw[e] at this;cases this
theorem Inv.bs (I:Inv X pins σ H s):∀ b o,X.base.get? b=some o->s.heap.get? b=some o/\H b=none:=λb o e =>
 ⟨I.base.keep b o (I.ok.bs b o e).1 (I.ok.bs b o e).2 (I.ok.nofr e) (I.ok.noex b o e),I.base.free b o (I.ok.bs b o e).1 (I.ok.bs b o e).2 (I.ok.noex b o e)⟩
theorem Inv.bk (I:Inv X pins σ H s):∀ b o,X.base.get? b=some o->s.heap.get? b=some o:=λb o e=>(I.bs b o e).1
theorem Inv.mod (I:Inv X pins σ H s):Mod X.K X.mg X.base:=I.ok.mod
theorem Inv.kIn (I:Inv X pins σ H s):X.K.In s.heap:=I.ok.mod.kin.keeps I.bk
theorem Inv.lt (I:Inv X pins σ H s):X.env.locals<s.heap.objs.size:=let ⟨_,hn,_⟩:=I.loc;hn.lt
theorem Inv.sz (I:Inv X pins σ H s):X.s₀.heap.objs.size<=s.heap.objs.size:=Nat.le_trans I.ok.above (Nat.le_of_lt I.lt)
theorem Inv.nofs (I:Inv X pins σ H s){a:Addr}(h:s.heap.objs.size<=a):a∉X.fs:=λhb=>by
 obtain⟨_,o,ho,_⟩:=I.ok.funs.mem hb
 exact absurd (Nat.lt_of_lt_of_le (Heap.lt_size ho) (Nat.le_trans I.sz h)) (Nat.lt_irrefl _)
theorem Inv.cne (I:Inv X pins σ H s):∀ x c,X.env.cells.lookup x=some c->c≠X.env.locals:=λx c e z=>by
 obtain⟨v,o,ho,hd⟩:=I.cell x c e
 obtain⟨m,⟨o',es,ep,ho',hd',_⟩,_⟩:=I.loc
 rw[z,ho'] at ho;cases ho;rw[hd'] at hd;cases hd
theorem Inv.funs (I:Inv X pins σ H s):s.heap.FunFrames X.base X.outer:=by
 have all:∀ (l:List Env),(∀ b∈frs l,b∈X.fs)->X.s₀.heap.FunFrames X.base l->s.heap.FunFrames X.base l:=by
  intro l
  induction l with
  | nil=>intro _ _;trivial
  | cons env r ih =>
   intro hs hl
   obtain⟨hk,⟨L,o,hf,hn,ho,hd⟩,hr⟩:=hl
   have hL:L∈X.fs:=hs L (by unfold frs;rw[List.filterMap_cons,hf];exact List.mem_cons_self)
   obtain⟨sl,e⟩:=I.base.slot L o ho (I.ok.frf L hL) hL λz=>I.ok.exfs L z hL
   exact⟨hk,⟨L,_,hf,hn,e,hd⟩,ih (λb hb=>hs b (by unfold frs;rw[List.filterMap_cons,hf];exact List.mem_cons_of_mem _ hb)) hr⟩
 exact all X.outer (λ_ hb=>hb) I.ok.funs
theorem Inv.stack (I:Inv X pins σ H s):s.heap.FunFrames X.base X.stack:=by
 rcases I.ok.stk with e | ⟨e,hf⟩
 ·rw[e];exact I.funs
 ·rw[e]
  obtain⟨m,hn,_⟩:=I.loc
  refine .cons (by rw[I.ok.kind];decide) hf hn ?_ I.funs
  exact Heap.get?_none_of_le (Nat.le_trans I.ok.bsz I.ok.above)
theorem Inv.stkSub (I:Inv X pins σ H s):∀ b∈frs X.stack,b∈X.env.locals::X.fs:=λb hb=>by
 rcases I.ok.stk with e | ⟨e,hf⟩
 ·rw[e] at hb;exact List.mem_cons_of_mem _ hb
 ·rw[e] at hb
  unfold frs at hb
  rw[List.filterMap_cons,hf] at hb
  exact hb
theorem Inv.stkFree (I:Inv X pins σ H s):∀ b∈frs X.stack,H b=none:=λb hb=>by
 rcases List.mem_cons.mp (I.stkSub b hb) with e | hb
 ·rw[e];exact I.free
 ·obtain⟨_,o,ho,_⟩:=I.ok.funs.mem hb
  exact I.base.free b o ho (I.ok.frf b hb) λz=>I.ok.exfs b z hb
theorem Inv.step {g':Array GenState}{t':Nat}{d':Drawn}{ch:List Addr}(I:Inv X pins σ H s)
  (hch:∀ b∈ch,(b∈X.ex\/X.s₀.heap.objs.size<=b)/\b≠X.env.locals/\(∀ x c,X.env.cells.lookup x=some c->c≠b)/\∀ p∈X.pn++pins,p.1≠b)
  (keep:∀ b o,b≠X.env.locals->b∉X.fs->b∉ch->s.heap.get? b=some o->H b=none->h'.get? b=some o)
  (slot:∀ b o,b≠X.env.locals->b∈X.fs->b∉ch->s.heap.get? b=some o->H b=none->∃ sl,h'.get? b=some { o with slots:=sl }) (free:∀ b o,b∉ch->s.heap.get? b=some o->H b=none->H' b=none)
  (there:∀ b o,b∉ch->s.heap.get? b=some o->∃ o',h'.get? b=some o')
  (tups:∀ b xs,H b=some (.tup xs)->H' b=some (.tup xs)) (frzs:∀ b o u,H b=some (.frz o u)->H' b=some (.frz o u)) (tbls:∀ b ps,H b=some (.tbl ps)->∃ more,H' b=some (.tbl (ps++more)))
  (ns:∀ m,s.heap.Ns X.env.locals m->h'.Ns X.env.locals m) (hok:HOk X.prog X.w H' h') (hg:AllBare g') :
  Inv X pins σ H' { s with heap:=h',gens:=g',drawn:=d',toks:=t' }:=by
 have neL:∀ b o,X.s₀.heap.get? b=some o->b≠X.env.locals:=λb o e=>Nat.ne_of_lt (Nat.lt_of_lt_of_le (Heap.lt_size e) I.ok.above)
 have neC:∀ b o,X.s₀.heap.get? b=some o->b∉X.ex->b∉ch:=λb o e hx hb=>by
  rcases (hch b hb).1 with z | z
  ·exact hx z
  ·exact absurd (Nat.lt_of_lt_of_le (Heap.lt_size e) z) (Nat.lt_irrefl _)
 have cellK:∀ x c,X.env.cells.lookup x=some c->∀ v,s.heap.IsCell c v->h'.IsCell c v:=λx c e v ⟨o,ho,hd⟩=>by
  have nch:c∉ch:=λz=>(hch c z).2.2.1 x c e rfl
  by_cases hc:c∈X.fs
  ·obtain⟨sl,q⟩:=slot c o (I.cne x c e) hc nch ho (I.freeC x c e)
   exact⟨_,q,hd⟩
  ·exact⟨o,keep c o (I.cne x c e) hc nch ho (I.freeC x c e),hd⟩
 refine⟨I.ok,I.os,hg,⟨λb o e n hb hx=>?_,λb o e n hb hx=>?_,λb o e n hx=>?_,λb o e hx=>?_,λb xs e=>tups b xs (I.base.tups b xs e),λb o xs e=>frzs b o xs (I.base.frzs b o xs e),λb ps e=>?_⟩,?_,λx c e=>?_,?_,λx c e=>?_,λp hp=>?_,hok,I.len⟩
 ·exact keep b o (neL b o e) hb (neC b o e hx) (I.base.keep b o e n hb hx) (I.base.free b o e n hx)
 ·obtain⟨sl,e1⟩:=I.base.slot b o e n hb hx
  obtain⟨sl',e2⟩:=slot b _ (neL b o e) hb (neC b o e hx) e1 (I.base.free b o e n hx)
  exact⟨sl',e2⟩
 ·obtain⟨o',e1⟩:=I.base.there b o e hx
  exact free b o' (neC b o e hx) e1 (I.base.free b o e n hx)
 ·obtain⟨o',e1⟩:=I.base.there b o e hx
  exact there b o' (neC b o e hx) e1
 ·obtain⟨m1,e1⟩:=I.base.tbls b ps e
  obtain⟨m2,e2⟩:=tbls b _ e1
  exact⟨m1++m2,by rw[e2,Array.append_assoc]⟩
 ·obtain⟨m,hn,hl⟩:=I.loc
  refine⟨m,ns m hn,λi x v e1 e2 e3=>?_⟩
  obtain⟨u,r,l⟩:=hl i x v e1 e2 e3
  refine⟨u,r,?_⟩
  rcases l with l | ⟨k,c,e,z⟩
  ·exact .inl l
  ·exact .inr ⟨k,c,e,cellK x c e _ z⟩
 ·obtain⟨v,z⟩:=I.cell x c e
  exact⟨v,cellK x c e v z⟩
 ·obtain⟨m,⟨o,_,_,ho,_⟩,_⟩:=I.loc
  exact free _ o (λz=>(hch _ z).2.1 rfl) ho I.free
 ·obtain⟨v,o,ho,hd⟩:=I.cell x c e
  exact free c o (λz=>(hch c z).2.2.1 x c e rfl) ho (I.freeC x c e)
 ·obtain⟨e,n,ne,nf,d⟩:=I.pin p hp
  have nch:p.1∉ch:=λz=>(hch p.1 z).2.2.2 p hp rfl
  exact⟨keep p.1 p.2 ne nf nch e n,free p.1 p.2 nch e n,ne,nf,d⟩
theorem Inv.un {t':Nat}(I:Inv X pins σ H s)(u:Un X.fs [] H H' s.heap h')(hok:HOk X.prog X.w H' h'):Inv X pins σ H' { s with heap:=h',toks:=t' }:=by
 obtain⟨m,⟨o,es,ep,ho,r⟩,_⟩:=id I.loc
 obtain⟨sl,hL⟩:=u.any ho I.free (by simp)
 exact I.step (g':=s.gens) (d':=s.drawn) (ch:=[]) (λ_ z=>nomatch z) (λb o _ hb _ e n=>u.keep b o e n hb (by simp)) (λb o _ hb _ e n=>u.slot b o e n hb (by simp)) (λb o _ e n=>u.free b o e n (by simp)) (λb o _ e=>u.there b o e (by simp)) u.tups u.frzs u.tbls (λm' hm=>by
  obtain⟨o',es',ep',ho',r'⟩:=hm
  rw[ho] at ho';cases ho'
  exact⟨_,es',ep',hL,r'⟩) hok I.bare
theorem Inv.call {g':Array GenState}{t':Nat}{d':Drawn}{ch:List Addr}(I:Inv X pins σ H s)(u:Un (frs X.stack) ch H H' s.heap h')(hok:HOk X.prog X.w H' h')(hg:AllBare g')
  (hch:∀ b∈ch,(b∈X.ex\/X.s₀.heap.objs.size<=b)/\b≠X.env.locals/\(∀ x c,X.env.cells.lookup x=some c->c≠b)/\∀ p∈X.pn++pins,p.1≠b) :
  Inv X pins σ H' { s with heap:=h',gens:=g',drawn:=d',toks:=t' }:=by
 obtain⟨m,⟨o,es,ep,ho,r⟩,_⟩:=id I.loc
 obtain⟨sl,hL⟩:=u.any ho I.free λz=>(hch _ z).2.1 rfl
 exact I.step (ch:=ch) hch (λb o hL hb hc e n=>u.keep b o e n (λz=>(List.mem_cons.mp (I.stkSub b z)).elim hL hb) hc) (λb o _ _ hc e n=>u.any e n hc) (λb o hc e n=>u.free b o e n hc) (λb o hc e=>u.there b o e hc) u.tups u.frzs u.tbls (λm' hm=>by
  obtain⟨o',es',ep',ho',r'⟩:=hm
  rw[ho] at ho';cases ho'
  exact⟨_,es',ep',hL,r'⟩) hok hg
theorem Inv.turned {t':Nat}{it:Addr}(I:Inv X pins σ H s)(k:∀ b o,b≠it->s.heap.get? b=some o->h'.get? b=some o)(hn:H it=none)(hL:it≠X.env.locals)
  (h1:it∈X.ex\/X.s₀.heap.objs.size<=it) (h2:∀ x c,X.env.cells.lookup x=some c->c≠it) (h3:∀ p∈X.pn++pins,p.1≠it):Inv X pins σ H { s with heap:=h',toks:=t' }:=by
 have nit:∀ b u,H b=some u->b≠it:=λb u e z=>by rw[z,hn] at e;cases e
 refine I.step (g':=s.gens) (d':=s.drawn) (ch:=[it]) (λb hb=>?_) (λb o _ _ hc e _=>k b o (λz=>hc (by simp[z])) e) (λb o _ _ hc e _=>⟨o.slots,k b o (λz=>hc (by simp[z])) e⟩) (λ_ _ _ _ n=>n)
  (λb o hc e=>⟨o,k b o (λz=>hc (by simp[z])) e⟩) (λ_ _ e=>e) (λ_ _ _ e=>e) (λb ps e=>⟨#[],by rw[e];simp⟩) (λm hm=>?_) (λb u e=>?_) I.bare
 ·have e:b=it:=by simpa using hb
  subst e
  exact⟨h1,hL,h2,h3⟩
 ·obtain⟨o,es,ep,ho,r⟩:=hm
  exact⟨o,es,ep,k _ o (Ne.symm hL) ho,r⟩
 ·refine(I.hok b u e).stay (λc v hc q=>k c v ?_ q) (λ_ q=>q) λ_ _ q=>q
  rcases hc with z | z
  ·rw[z];exact nit b u e
  ·exact nit c _ z
theorem Inv.tok (I:Inv X pins σ H s)(t:Nat):Inv X pins σ H { s with toks:=t }:=I.un (h':=s.heap) (t':=t) Un.refl I.hok
theorem Inv.kept {t':Nat}(I:Inv X pins σ H s)(k:∀ b u,s.heap.get? b=some u->h'.get? b=some u):Inv X pins σ H { s with heap:=h',toks:=t' }:=I.un (Un.kept k) (I.hok.kept k)
theorem Inv.laid {a:Addr}{o:HO}{t':Nat}(I:Inv X pins σ H s)(k:∀ b u,s.heap.get? b=some u->h'.get? b=some u)(hp:s.heap.objs.size<=a)(new:ObjOk X.prog X.w (upd H a o) h' a o) :
  Inv X pins σ (upd H a o) { s with heap:=h',toks:=t' }:=I.un (Un.laid k hp (I.hok.fresh hp)) (I.hok.laid k hp new)
theorem Inv.write {x e:Addr}{o:HO}{t':Nat}(I:Inv X pins σ H s)(mu:Mut (H x))(he:e=x\/H e=some (.own x))(k:∀ b u,b≠e->s.heap.get? b=some u->h'.get? b=some u)(heo:∃ u,h'.get? e=some u)
  (new:ObjOk X.prog X.w (upd H x o) h' x o):Inv X pins σ (upd H x o) { s with heap:=h',toks:=t' }:=I.un (Un.write mu he k heo) (I.hok.write mu he k heo new)
theorem Inv.pins_of {pins':List (Addr×Obj)}(I:Inv X pins σ H s)(h:∀ p∈pins',s.heap.get? p.1=some p.2/\H p.1=none/\p.1≠X.env.locals/\p.1∉X.fs/\∀ v,p.2.data≠.cell v):Inv X pins' σ H s :=
 ⟨I.ok,I.os,I.bare,I.base,I.loc,I.cell,I.free,I.freeC,λp hp=>(List.mem_append.mp hp).elim (λz=>I.pin p (List.mem_append_left _ z)) (h p),I.hok,I.len⟩
theorem zEQ {N:List Str}(hN:N.Nodup){i j:Nat}{x:Str}(a:N[i]?=some x)(b:N[j]?=some x):i=j:=by
 obtain⟨h1,e1⟩:=List.getElem?_eq_some_iff.mp a
 obtain⟨h2,e2⟩:=List.getElem?_eq_some_iff.mp b
 exact(List.getElem_inj hN).mp (e1.trans e2.symm)
theorem zFd {M:Model}{A:Around}{E:Value->Shared->Prop}{i:Nat}{x:Str}{v:V}{u:Value}{Q:Unit->Shared->Prop}(I:Inv X pins σ H s)(hN:X.N.Nodup)(hi:X.N[i]?=some x)(hx:Loc X.env.scope x)(r:RelV v u)
  (h:∀ s',Inv X pins (σ.set i (some v)) H s'->(∃ a,Heap.SameBut a s.heap s'.heap/\(a=X.env.locals\/X.env.cells.lookup x=some a))->Q () s') (hf:X.fn x=true\/X.env.scope.names.lookup x=some .local:=by first | exact .inl rfl | exact .inr rfl | assumption):wpAny M A (storeName X.env x u) Q E s:=by
 obtain⟨m,hn,hl⟩:=id I.loc
 have hcls:(X.env.scope.kind == .class || (X.env.scope.kind == .module&&X.env.locals != X.env.globals))=false:=by rw[I.ok.kind];rfl
 have hiσ:i<σ.length:=by rw[I.len];exact(List.getElem?_eq_some_iff.mp hi).1
 have cne:=I.cne
 have tracked:∀ {a:Addr} {h':Heap},(∃ o,s.heap.get? a=some o/\H a=none)->Heap.SameBut a s.heap h'->HOk X.prog X.w H h':=λ{a h'} ha hs b ob e=>by
  obtain⟨_,_,hfree⟩:=ha
  refine(I.hok b ob e).stay (λc w' hc q=>(hs.2 c ?_).trans q) (λ_ q=>q) λ_ _ q=>q
  rintro rfl
  rcases hc with rfl | hc
  ·rw[hfree] at e;cases e
  ·rw[hfree] at hc;cases hc
 rcases hx with hk | hk
 ·refine wpAny_storeName_local hk hn (λh' hn' hs=>?_) hcls
  obtain⟨oL,_,_,hoL,_⟩:=id hn
  refine h _ ⟨I.ok,I.os,I.bare,⟨λb o e n hb hx=>?_,λb o e n hb hx=>?_,I.base.free,λb o e hx=>?_,I.base.tups,I.base.frzs,I.base.tbls⟩,⟨_,hn',λj y v' e1 e2 e3=>?_⟩,λy c e=>?_,I.free,I.freeC,λp hp=>?_,tracked ⟨oL,hoL,I.free⟩ hs,by simpa using I.len⟩ ⟨_,hs,.inl rfl⟩
  ·exact(hs.2 b (Nat.ne_of_lt (Nat.lt_of_lt_of_le (Heap.lt_size e) I.ok.above))).trans (I.base.keep b o e n hb hx)
  ·obtain⟨sl,e1⟩:=I.base.slot b o e n hb hx
   exact⟨sl,(hs.2 b (Nat.ne_of_lt (Nat.lt_of_lt_of_le (Heap.lt_size e) I.ok.above))).trans e1⟩
  ·obtain⟨o',e1⟩:=I.base.there b o e hx
   exact⟨o',(hs.2 b (Nat.ne_of_lt (Nat.lt_of_lt_of_le (Heap.lt_size e) I.ok.above))).trans e1⟩
  ·by_cases hj:j=i
   ·subst hj
    rw[hi] at e1;cases e1
    rw[List.getElem?_set_self hiσ] at e2
    cases e2
    exact⟨u,r,.inl ⟨hk,by simp⟩⟩
   ·rw[List.getElem?_set_ne (Ne.symm hj)] at e2
    obtain⟨u',r',q⟩:=hl j y v' e1 e2 e3
    refine⟨u',r',?_⟩
    rcases q with ⟨k,e⟩ | ⟨k,c,e,z⟩
    ·refine .inl ⟨k,?_⟩
     have:y≠x:=λe=>hj (zEQ hN e1 (e▸hi))
     simp[this,e]
    ·exact .inr ⟨k,c,e,z.sameBut hs (cne y c e)⟩
  ·obtain⟨w',z⟩:=I.cell y c e
   exact⟨w',z.sameBut hs (cne y c e)⟩
  ·obtain⟨e,n,ne,nf,d⟩:=I.pin p hp
   exact⟨(hs.2 p.1 ne).trans e,n,ne,nf,d⟩
 ·have hfn:X.fn x=true:=by
   rcases hf with z | z
   ·exact z
   ·rw[z] at hk;cases hk
  obtain⟨c,hc⟩:=I.ok.has x (.inl hk)
  obtain⟨w',z⟩:=I.cell x c hc
  refine wpAny_storeName_cell I.ok.kind hk hc z (λh' hc' hs=>?_)
  obtain⟨oc,hoc,hocd⟩:=id z
  refine h { s with heap:=h' } ⟨I.ok,I.os,I.bare,⟨λb o e n hb hx=>?_,λb o e n hb hx=>?_,I.base.free,λb o e hx=>?_,I.base.tups,I.base.frzs,I.base.tbls⟩,⟨m,hn.sameBut hs (Ne.symm (cne x c hc)),λj y v' e1 e2 e3=>?_⟩,λy c' e=>?_,I.free,I.freeC,λp hp=>?_,tracked ⟨oc,hoc,I.freeC x c hc⟩ hs,by simpa using I.len⟩ ⟨c,hs,.inr hc⟩
  ·exact(hs.2 b (Nat.ne_of_lt (Nat.lt_of_lt_of_le (Heap.lt_size e) (I.ok.cab x c hfn hc)))).trans (I.base.keep b o e n hb hx)
  ·obtain⟨sl,e1⟩:=I.base.slot b o e n hb hx
   exact⟨sl,(hs.2 b (Nat.ne_of_lt (Nat.lt_of_lt_of_le (Heap.lt_size e) (I.ok.cab x c hfn hc)))).trans e1⟩
  ·obtain⟨o',e1⟩:=I.base.there b o e hx
   exact⟨o',(hs.2 b (Nat.ne_of_lt (Nat.lt_of_lt_of_le (Heap.lt_size e) (I.ok.cab x c hfn hc)))).trans e1⟩
  ·by_cases hj:j=i
   ·subst hj
    rw[hi] at e1;cases e1
    rw[List.getElem?_set_self hiσ] at e2
    cases e2
    exact⟨u,r,.inr ⟨.inl hk,c,hc,hc'⟩⟩
   ·rw[List.getElem?_set_ne (Ne.symm hj)] at e2
    obtain⟨u',r',q⟩:=hl j y v' e1 e2 e3
    refine⟨u',r',?_⟩
    rcases q with q | ⟨k,c',e,z'⟩
    ·exact .inl q
    ·refine .inr ⟨k,c',e,z'.sameBut hs ?_⟩
     rintro rfl
     exact hj (zEQ hN e1 (I.ok.inj _ _ _ e hc▸hi))
  ·by_cases hcc:c'=c
   ·subst hcc;exact⟨_,hc'⟩
   ·obtain⟨w2,z2⟩:=I.cell y c' e
    exact⟨w2,z2.sameBut hs hcc⟩
  ·obtain⟨e,n,ne,nf,d⟩:=I.pin p hp
   refine⟨(hs.2 p.1 ?_).trans e,n,ne,nf,d⟩
   intro q
   rw[q,hoc] at e
   have q':oc=p.2:=Option.some.inj e
   exact d w' (by rw[<- q'];exact hocd)
theorem zCH {M:Model}{A:Around}{E:Value->Shared->Prop}{i:Nat}{x:Str}{v:V}{u:Value}{Q:Unit->Shared->Prop}(I:Inv X pins σ H s)(hN:X.N.Nodup)(hi:X.N[i]?=some x)(hx:Loc X.env.scope x)(r:RelV v u)
  (h:∀ s',Inv X pins (σ.set i (some v)) H s'->Q () s') (hf:X.fn x=true\/X.env.scope.names.lookup x=some .local:=by first | exact .inl rfl | exact .inr rfl | assumption):wpAny M A (storeName X.env x u) Q E s :=
 zFd I hN hi hx r (λs' I' _=>h s' I') hf
theorem Inv.call' {s':Shared}{ch:List Addr}(I:Inv X pins σ H s)(ho:s'.os=s.os)(u:Un (frs X.stack) ch H H' s.heap s'.heap)(hok:HOk X.prog X.w H' s'.heap)(hg:AllBare s'.gens)
  (hch:∀ b∈ch,(b∈X.ex\/X.s₀.heap.objs.size<=b)/\b≠X.env.locals/\(∀ x c,X.env.cells.lookup x=some c->c≠b)/\∀ p∈X.pn++pins,p.1≠b):Inv X pins σ H' s':=by
 obtain⟨h',g',d',t',o'⟩:=s'
 have e:o'=s.os:=ho
 subst e
 exact I.call (g':=g') (t':=t') (d':=d') u hok hg hch
end
abbrev XK:=Value->Option Addr->Hp->Prop
abbrev St:=List (Option V)
abbrev VK:=V->Hp->Prop
abbrev TE:=St->Hp->VK->Prop
abbrev TT:=St->Hp->(Bool->Hp->Prop)->Prop
abbrev TA:=St->Hp->(List V->Hp->Prop)->Prop
structure Ends where
 nx:St->Hp->Prop
 rt:VK
 bk:St->Hp->Prop:=λ_ _=>False
 ct:St->Hp->Prop:=λ_ _=>False
abbrev TS:=Ends->St->Hp->Prop
def EP (X:Cx)(pins:List (Addr×Obj))(σ:St)(Q:VK)(u:Value)(s':Shared):Prop:=∃ v H',Inv X pins σ H' s'/\RelV v u/\Q v H'
def TP (X:Cx)(pins:List (Addr×Obj))(σ:St)(Q:Bool->Hp->Prop)(b:Bool)(s':Shared):Prop:=∃ H',Inv X pins σ H' s'/\Q b H'
def AP (X:Cx)(pins:List (Addr×Obj))(σ:St)(Q:List V->Hp->Prop)(us:List Value)(s':Shared):Prop:=∃ vs H',Inv X pins σ H' s'/\Vals vs us/\Q vs H'
def SP (X:Cx)(pins:List (Addr×Obj))(D:Ends)(f:Flow)(s':Shared):Prop :=
 match f with
 | .next=>∃ σ' H',Inv X pins σ' H' s'/\D.nx σ' H'
 | .brk=>∃ σ' H',Inv X pins σ' H' s'/\D.bk σ' H'
 | .cont=>∃ σ' H',Inv X pins σ' H' s'/\D.ct σ' H'
 | .ret u=>∃ v σ' H',Inv X pins σ' H' s'/\RelV v u/\D.rt v H'
def PE (X:Cx)(e:Expr)(t:TE):Prop :=
 ∀ (pins:List (Addr×Obj)) (s:Shared) (σ:St) (H:Hp) (Q:VK),Inv X pins σ H s->t σ H Q->wpAny (model X.prog X.w) X.A (eval e X.env) (EP X pins σ Q) X.xe s
def PT (X:Cx)(e:Expr)(t:TT):Prop :=
 ∀ (pins:List (Addr×Obj)) (s:Shared) (σ:St) (H:Hp) (Q:Bool->Hp->Prop),Inv X pins σ H s->t σ H Q->wpAny (model X.prog X.w) X.A (isTrue e X.env (eval e X.env)) (TP X pins σ Q) X.xe s
def PW (X:Cx)(e:Expr)(t:TT):Prop :=
 ∀ (whole:Sem Value) (pins:List (Addr×Obj)) (s:Shared) (σ:St) (H:Hp) (Q:Bool->Hp->Prop),Inv X pins σ H s->t σ H Q->wpAny (model X.prog X.w) X.A (isTrue e X.env whole) (TP X pins σ Q) X.xe s
theorem PW.pt {X:Cx}{e:Expr}{t:TT}(h:PW X e t):PT X e t:=h _
def PA (X:Cx)(es:List Expr)(t:TA):Prop :=
 ∀ (pos:Pos) (pins:List (Addr×Obj)) (s:Shared) (σ:St) (H:Hp) (Q:List V->Hp->Prop),Inv X pins σ H s->t σ H Q->wpAny (model X.prog X.w) X.A (spliced (backTo pos (starEach es X.env))) (AP X pins σ Q) X.xe s
def PS (X:Cx)(st:Stmt)(t:TS):Prop :=
 ∀ (pins:List (Addr×Obj)) (s:Shared) (σ:St) (H:Hp) (D:Ends),Inv X pins σ H s->t D σ H->wpAny (model X.prog X.w) X.A (exec st X.env) (SP X pins D) X.xe s
def PSs (X:Cx)(st:List Stmt)(t:TS):Prop :=
 ∀ (pins:List (Addr×Obj)) (s:Shared) (σ:St) (H:Hp) (D:Ends),Inv X pins σ H s->t D σ H->wpAny (model X.prog X.w) X.A (execs st X.env) (SP X pins D) X.xe s
theorem thn {α:Type}{t:Sem α}{Q Q':α->Shared->Prop}{M:Model}{A:Around}{E:Value->Shared->Prop}{s:Shared}(h:wpAny M A t Q E s)(hQ:∀ a s,Q a s->Q' a s):wpAny M A t Q' E s:=wpAny_mono h hQ λ_ _ x=>x
end L2
namespace L2
open PySem PySem.Spec PyProof.Rows
section
variable {X:Cx}
theorem bin {a b:Expr}{ta tb:TE}(ha:PE X a ta)(hb:PE X b tb){pins:List (Addr×Obj)}{s:Shared}{σ:St}{H:Hp}{R:V->V->Hp->Prop}(I:Inv X pins σ H s)(h:ta σ H λx H1=>tb σ H1 λy H2=>R x y H2)
  {α:Type} {Q:α->Shared->Prop} {f:Value->Value->Sem α}
  (hf:∀ v u s2 x y H2,Inv X pins σ H2 s2->RelV x v->RelV y u->R x y H2->wpAny (model X.prog X.w) X.A (f v u) Q X.xe s2) :
  wpAny (model X.prog X.w) X.A (eval a X.env) (λv s₁=>wpAny (model X.prog X.w) X.A (eval b X.env) (λu s₂=>wpAny (model X.prog X.w) X.A (f v u) Q X.xe s₂) X.xe s₁) X.xe s:=by
 refine thn (ha pins s σ H _ I h) λv s1 ⟨x,H1,I1,r1,q1⟩=>?_
 refine thn (hb pins s1 σ H1 _ I1 q1) λu s2 ⟨y,H2,I2,r2,q2⟩=>?_
 exact hf v u s2 x y H2 I2 r1 r2 q2
def tVar (i:Nat):TE:=λσ H Q=>∃ v,σ[i]?=some (some v)/\Q v H
def tC (v:V):TE:=λ_ H Q=>Q v H
theorem zKX {i:Nat}{x:Str}{pos:Pos}(hN:X.N[i]?=some x)(hv:Vis X.env.scope x)(hd:(x == ("__debug__":Str))=false:=by decide)(hcd:(x == ("__classdict__":Str))=false:=by decide):PE X (.Name x pos) (tVar i):=by
 intro pins s σ H Q I h
 obtain⟨v,e,h⟩:=h
 obtain⟨m,hn,hl⟩:=I.loc
 obtain⟨u,r,l⟩:=hl i x v hN e hv
 have fin:EP X pins σ Q u s:=⟨v,H,I,r,h⟩
 rcases l with ⟨hk,hm⟩ | ⟨hk,c,hc,hcell⟩
 ·exact wpAny_Name (wpAny_loadName_local I.ok.kind hk hn hm fin) hd
 ·rcases hk with hk | hk
  ·exact wpAny_Name (wpAny_loadName_cell I.ok.kind hk hc hcell fin) hd
  ·exact wpAny_Name (wpAny_loadName_free I.ok.kind hk hc hcell fin hcd) hd
theorem zKY {i j pos}:PE X (.Constant (.int i) j pos) (tC (.int i)):=λ_ _ _ H _ I h=>wpAny_Constant_int ⟨.int i,H,I.tok _,⟨_,rfl⟩,h⟩
theorem zMB {b j pos}:PE X (.Constant (.bool b) j pos) (tC (.bl b)):=λ_ _ _ H _ I h=>Constant_bool ⟨.bl b,H,I,rfl,h⟩
theorem zKZ {j pos}:PE X (.Constant .none j pos) (tC .non):=λ_ _ _ H _ I h=>Constant_none ⟨.non,H,I,rfl,h⟩
def Gl (X:Cx)(x:Str):Prop:=X.env.kindOf x=some .globalImplicit
theorem zIv {E:Value->Shared->Prop}{pins:List (Addr×Obj)}{s:Shared}{σ:St}{H:Hp}{x:Str}{u:Value}{pos:Pos}{Q:Value->Shared->Prop}(I:Inv X pins σ H s)(hg:Gl X x)(hm:X.mg x=some u)(h:Q u s)
  (hd:(x == ("__debug__":Str))=false:=by decide):wpAny (model X.prog X.w) X.A (eval (.Name x pos) X.env) Q E s :=
 Calls.Name_function_global I.ok.kind hg (Calls.loadGlobal_global (by rw[I.ok.glob];exact I.mod.glob.keeps I.bk) hm h) hd
theorem zBh {E:Value->Shared->Prop}{pins:List (Addr×Obj)}{s:Shared}{σ:St}{H:Hp}{x:Str}{u:Value}{pos:Pos}{Q:Value->Shared->Prop}(I:Inv X pins σ H s)(hg:Gl X x)(hm:X.mg x=none)(hv:bootBuiltins x=some u)(h:Q u s)
  (hn:x≠"__name__":=by decide) (hd:(x == ("__debug__":Str))=false:=by decide):wpAny (model X.prog X.w) X.A (eval (.Name x pos) X.env) Q E s:=by
 obtain⟨mb,h1,h2⟩:=I.mod.blt
 exact Calls.Name_function_global I.ok.kind hg (Calls.loadGlobal_builtin (by rw[I.ok.glob];exact I.mod.glob.keeps I.bk) hm (by rw[I.ok.blt];exact h1.keeps I.bk) ((h2 x hn).trans hv) h) hd
theorem zIw {x:Str}{v:V}{u:Value}{pos:Pos}(hg:Gl X x)(hm:X.mg x=none)(hv:bootBuiltins x=some u)(r:RelV v u)(hn:x≠"__name__":=by decide)(hd:(x == ("__debug__":Str))=false:=by decide):PE X (.Name x pos) (tC v) :=
 λ_ _ _ H _ I h=>zBh I hg hm hv ⟨v,H,I,r,h⟩ hn hd
def t2I (ta tb:TE)(k:Int->Int->Hp->Prop):St->Hp->Prop:=λσ H=>ta σ H λx H1=>tb σ H1 λy H2=>∃ i j,x=.int i/\y=.int j/\k i j H2
variable {a b:Expr}{ta tb:TE}{pos:Pos}
def tCmp (p:Int->Int->Bool)(ta tb:TE):TE:=λσ H Q=>t2I ta tb (λi j H2=>Q (.bl (p i j)) H2) σ H
abbrev tLt:TE->TE->TE:=tCmp λi j=>decide (i<j)
abbrev tLe:TE->TE->TE:=tCmp λi j=>decide (i<=j)
abbrev tGt:TE->TE->TE:=tCmp λi j=>decide (j<i)
abbrev tGe:TE->TE->TE:=tCmp λi j=>decide (j<=i)
abbrev tEqI:TE->TE->TE:=tCmp λi j=>decide (i=j)
abbrev tNeI:TE->TE->TE:=tCmp λi j=>!decide (i=j)
variable {tA tB':TT}{rest:List Expr}
def tNot (t:TT):TT:=λσ H Q=>t σ H λc H1=>Q (!c) H1
theorem zIx (ha:PT X a tA):PW X (.BoolOp .And [a] pos) tA:=by
 intro wh pins s σ H Q I h
 refine isTrue_and (thn (ha pins s σ H Q I h) λc s1 e=>?_)
 cases c with
 | true=>exact isTrue_and_nil e
 | false=>exact e
theorem zKa (ha:PT X a tA):PW X (.BoolOp .Or [a] pos) tA:=by
 intro wh pins s σ H Q I h
 refine isTrue_or (thn (ha pins s σ H Q I h) λc s1 e=>?_)
 cases c with
 | false=>exact isTrue_or_nil e
 | true=>exact e
theorem zKb (ha:PT X a tA):PT X (.UnaryOp .Not a pos) (tNot tA):=by
 intro pins s σ H Q I h
 exact isTrue_not (ha pins s σ H (λc H1=>Q (!c) H1) I h)
theorem zKc {op}{t:TE}(h:PE X a t):PE X (.BoolOp op [a] pos) t:=λpins s σ H Q I hw=>BoolOp_one (h pins s σ H Q I hw)
end
end L2
namespace L2
open PySem PySem.Spec PyProof.Rows
def SqL (K:W.Frag)(H:Hp)(a:Addr)(xs:List V):Prop :=
 Rd H a (.lst xs) \/
  ∃ (o:Obj) (its:Array Value) (n:Nat),K.lookup a=some o/\o.cls=.type "list"/\o.dict=none/\o.data=.seq its n/\its.size<=sizeLine/\Vals xs its.toList
def SqT (K:W.Frag)(H:Hp)(a:Addr)(xs:List V):Prop :=
 Rd H a (.tup xs) \/
  ∃ (o:Obj) (its:Array Value) (n:Nat),K.lookup a=some o/\o.cls=.type "tuple"/\o.data=.seq its n/\its.size<=sizeLine/\Vals xs its.toList
def absV:Value->Option V
 | .none=>some .non
 | .bool b=>some (.bl b)
 | .int i _=>some (.int i)
 | .str x _=>some (.str x)
 | .bytes b _=>some (.byt b)
 | .float b _=>some (.flt b)
 | .ref a=>some (.ref a)
 | .type n=>some (.ty n)
 | _=>none
theorem RelV.abs {x:V}{u:Value}(r:RelV x u):absV u=some x:=by
 cases x with
 | non=>cases r;rfl
 | bl _=>cases r;rfl
 | int _=>obtain⟨t,rfl⟩:=r;rfl
 | str _=>obtain⟨t,rfl⟩:=r;rfl
 | byt _=>obtain⟨t,rfl⟩:=r;rfl
 | flt _=>obtain⟨t,rfl⟩:=r;rfl
 | ref _=>cases r;rfl
 | ty _=>cases r;rfl
theorem RelV.inj {x y:V}{u:Value}(r:RelV x u)(q:RelV y u):x=y:=Option.some.inj (r.abs.symm.trans q.abs)
theorem Vals.inj:∀ {xs ys:List V} {us:List Value},Vals xs us->Vals ys us->xs=ys
 | _,_,_,.nil,.nil=>rfl
 | _,_,_,.cons r t,.cons r' t'=>by rw[r.inj r',Vals.inj t t']
section
variable {X:Cx}{pins:List (Addr×Obj)}{σ:St}{H:Hp}{s:Shared}{a:Addr}{xs ys:List V}
theorem SqL.of {K:W.Frag}(h:H a=some (.lst xs)):SqL K H a xs:=.inl (.inl h)
theorem SqT.of {K:W.Frag}(h:H a=some (.tup xs)):SqT K H a xs:=.inl (.inl h)
theorem Inv.list (I:Inv X pins σ H s)(h:SqL X.K H a xs):∃ its:List Value,Vals xs its/\PlainL s.heap a its.toArray/\xs.length<=sizeLine:=by
 rcases h with h | ⟨o,its,n,hk,hc,hd,hs,hz,r⟩
 ·obtain⟨z,its,n,r,e⟩:=h.ok I.hok
  exact⟨its,r,⟨_,n,e,rfl,rfl,rfl⟩,z⟩
 ·refine⟨its.toList,r,⟨o,n,I.kIn a o hk,hc,hd,by simpa using hs⟩,?_⟩
  have e:=r.length
  simp only[Array.length_toList] at e
  omega
theorem Inv.tuple (I:Inv X pins σ H s)(h:SqT X.K H a xs):∃ its:List Value,Vals xs its/\IsTup s.heap a its.toArray/\xs.length<=sizeLine:=by
 rcases h with h | ⟨o,its,n,hk,hc,hs,hz,r⟩
 ·obtain⟨z,its,r,p⟩:=h.ok I.hok
  exact⟨its,r,p,z⟩
 ·refine⟨its.toList,r,⟨o,I.kIn a o hk,hc,n,by simpa using hs⟩,?_⟩
  have e:=r.length
  simp only[Array.length_toList] at e
  omega
theorem Inv.list_inj (I:Inv X pins σ H s)(h:SqL X.K H a xs)(h':SqL X.K H a ys):xs=ys:=by
 obtain⟨its,r,⟨o,n,e,_,_,d⟩,_⟩:=I.list h
 obtain⟨its',r',⟨o',n',e',_,_,d'⟩,_⟩:=I.list h'
 rw[e] at e';cases e'
 rw[d] at d'
 injection d' with d1 _
 have:its=its':=by simpa using congrArg Array.toList d1
 subst this
 exact r.inj r'
end
abbrev Cx.wish (X:Cx)(E:Value->Shared->Prop):Cx:={ X with xe:=E }
abbrev Cx.nox (X:Cx):Cx:=X.wish λ_ _=>False
theorem Cx.Ok.wish {X:Cx}(ok:X.Ok)(E:Value->Shared->Prop):(X.wish E).Ok :=
 ⟨ok.mod,ok.kind,ok.glob,ok.blt,ok.above,ok.inj,ok.has,ok.cab,ok.hd,ok.frames,ok.stk,ok.exf,ok.bs,ok.bsz,ok.noex,ok.exfs,ok.funs,ok.frf⟩
theorem Cx.Ok.unwish {X:Cx}{E:Value->Shared->Prop}(ok:(X.wish E).Ok):X.Ok :=
 ⟨ok.mod,ok.kind,ok.glob,ok.blt,ok.above,ok.inj,ok.has,ok.cab,ok.hd,ok.frames,ok.stk,ok.exf,ok.bs,ok.bsz,ok.noex,ok.exfs,ok.funs,ok.frf⟩
section
variable {X:Cx}{pins:List (Addr×Obj)}{σ:St}{H:Hp}{s:Shared}{E:Value->Shared->Prop}
theorem Inv.wish (I:Inv X pins σ H s)(E:Value->Shared->Prop):Inv (X.wish E) pins σ H s:=⟨I.ok.wish E,I.os,I.bare,I.base,I.loc,I.cell,I.free,I.freeC,I.pin,I.hok,I.len⟩
theorem Inv.unwish (I:Inv (X.wish E) pins σ H s):Inv X pins σ H s:=⟨I.ok.unwish,I.os,I.bare,I.base,I.loc,I.cell,I.free,I.freeC,I.pin,I.hok,I.len⟩
theorem SP.unwish {D:Ends}{f:Flow}{s':Shared}(h:SP (X.wish E) pins D f s'):SP X pins D f s':=by
 cases f with
 | next=>obtain⟨σ',H',I,q⟩:=h;exact⟨σ',H',I.unwish,q⟩
 | brk=>obtain⟨σ',H',I,q⟩:=h;exact⟨σ',H',I.unwish,q⟩
 | cont=>obtain⟨σ',H',I,q⟩:=h;exact⟨σ',H',I.unwish,q⟩
 | ret u=>obtain⟨v,σ',H',I,r,q⟩:=h;exact⟨v,σ',H',I.unwish,r,q⟩
theorem PSs.nox {st:List Stmt}{t:TS}(h:PSs X.nox st t):PSs X st t:=λpins s σ H D I hw =>
 wpAny_mono (h pins s σ H D (I.wish _) hw) (λ_ _ q=>q.unwish) λ_ _ z=>False.elim z
end
section
variable {X:Cx}{st:Stmt}{rest:List Stmt}{t u:TS}{e:Expr}{te:TE}{pos:Pos}
def zKd:TS:=λD σ H=>D.nx σ H
def tSeq (t u:TS):TS:=λD σ H=>t { D with nx:=u D } σ H
theorem zIy:PSs X [] zKd:=λ_ _ σ H _ I h=>wpAny_execs_nil ⟨σ,H,I,h⟩
theorem zG7 (h1:PS X st t)(h2:PSs X rest u):PSs X (st::rest) (tSeq t u):=by
 intro pins s σ H D I h
 refine wpAny_execs_cons (thn (h1 pins s σ H { D with nx:=u D } I h) λf s1 q=>?_)
 cases f with
 | next =>
  obtain⟨σ',H',I',q⟩:=q
  exact h2 pins s1 σ' H' D I' q
 | ret v=>exact q
 | brk=>exact q
 | cont=>exact q
theorem zIz (h1:PS X st t):PSs X [st] t:=by
 intro pins s σ H D I h
 refine wpAny_execs_cons (thn (h1 pins s σ H D I h) λf s1 q=>?_)
 cases f with
 | next=>exact wpAny_execs_nil q
 | ret v=>exact q
 | brk=>exact q
 | cont=>exact q
theorem Inv.quiet {pins:List (Addr×Obj)}{σ:St}{H:Hp}{s:Shared}(I:Inv X pins σ H s):interactive X.env=false:=by simp[interactive,I.ok.kind]
def zI0 (te:TE):TS:=λD σ H=>te σ H λ_ H1=>D.nx σ H1
theorem zI1 (he:PE X e te)(hs:swapsWith e none pos.line X.env=pure false:=by rfl):PS X (.Expr e pos) (zI0 te):=by
 intro pins s σ H D I h
 exact wpAny_Expr_any (thn (he pins s σ H _ I h) λv s1 ⟨x,H1,I1,r1,q1⟩=>⟨σ,H1,I1,q1⟩) I.quiet hs
def tRet (te:TE):TS:=λD σ H=>te σ H D.rt
theorem zKe (he:PE X e te):PS X (.Return (some e) pos) (tRet te):=by
 intro pins s σ H D I h
 exact wpAny_Return_some (thn (he pins s σ H _ I h) λv s1 ⟨x,H1,I1,r1,q1⟩=>⟨x,σ,H1,I1,r1,q1⟩)
def zIR:TS:=λ_ _ _=>False
theorem zG8:PS X st zIR:=λ_ _ _ _ _ _ h=>h.elim
end
abbrev TG:=V->St->Hp->(St->Hp->Prop)->Prop
abbrev TGs:=List V->St->Hp->(St->Hp->Prop)->Prop
def PG (X:Cx)(target:Expr)(t:TG):Prop :=
 ∀ (pins:List (Addr×Obj)) (s:Shared) (σ:St) (H:Hp) (v:V) (u:Value) (Q:St->Hp->Prop),Inv X pins σ H s->RelV v u->t v σ H Q ->
  wpAny (model X.prog X.w) X.A (assign target X.env u) (λ_ s'=>∃ σ' H',Inv X pins σ' H' s'/\Q σ' H') X.xe s
def PGs (X:Cx)(ts:List Expr)(t:TGs):Prop :=
 ∀ (pins:List (Addr×Obj)) (s:Shared) (σ:St) (H:Hp) (vs:List V) (us:List Value) (Q:St->Hp->Prop),Inv X pins σ H s->Vals vs us->t vs σ H Q ->
  wpAny (model X.prog X.w) X.A (assignInOrder ((assignEach ts X.env).map (·.2)) us) (λ_ s'=>∃ σ' H',Inv X pins σ' H' s'/\Q σ' H') X.xe s
abbrev TSet:=V->V->V->Hp->(Hp->Prop)->Prop
def PSet (X:Cx)(t:TSet):Prop :=
 ∀ (pins:List (Addr×Obj)) (s:Shared) (σ:St) (H:Hp) (o i v:V) (ov iv u:Value) (Q:Hp->Prop),Inv X pins σ H s->RelV o ov->RelV i iv->RelV v u->t o i v H Q ->
  wpAny (model X.prog X.w) X.A (setItem ov iv u) (λ_ s'=>∃ H',Inv X pins σ H' s'/\Q H') X.xe s
abbrev TIp:=V->V->Hp->VK->Prop
def PIp (X:Cx)(op:Operator)(t:TIp):Prop :=
 ∀ (pins:List (Addr×Obj)) (s:Shared) (σ:St) (H:Hp) (x y:V) (v u:Value) (Q:VK),Inv X pins σ H s->RelV x v->RelV y u->t x y H Q ->
  wpAny (model X.prog X.w) X.A (inplaceOp op v u) (EP X pins σ Q) X.xe s
section
variable {X:Cx}{pos:Pos}
def zBg (i:Nat):TG:=λv σ H Q=>Q (σ.set i (some v)) H
theorem zI2 {i:Nat}{x:Str}(hN:X.N.Nodup)(hi:X.N[i]?=some x)(hx:Loc X.env.scope x)(hf:X.fn x=true\/X.env.scope.names.lookup x=some .local:=by first | exact .inl rfl | exact .inr rfl | assumption):PG X (.Name x pos) (zBg i):=by
 intro pins s σ H v u Q I r h
 exact wpAny_assign_Name (zCH I hN hi hx r (λs' I'=>⟨_,H,I',h⟩) hf)
def gNil:TGs:=λvs σ H Q=>vs=[]/\Q σ H
def zMC (t:TG)(u:TGs):TGs:=λvs σ H Q=>∃ v r,vs=v::r/\t v σ H λσ' H'=>u r σ' H' Q
theorem zI3:PGs X [] gNil:=by
 intro pins s σ H vs us Q I r h
 obtain⟨e,h⟩:=h
 subst e
 cases r
 exact assignInOrder_nil ⟨σ,H,I,h⟩
theorem zG9 {e:Expr}{es:List Expr}{t:TG}{u:TGs}(h1:PG X e t)(h2:PGs X es u)
  (hs:(assignEach (e::es) X.env).map (·.2)=assign e X.env::(assignEach es X.env).map (·.2):=by rfl):PGs X (e::es) (zMC t u):=by
 intro pins s σ H vs us Q I r h
 obtain⟨v,vr,e1,h⟩:=h
 subst e1
 cases r with
 | cons r rr =>
  rw[hs]
  refine assignInOrder_cons (thn (h1 pins s σ H _ _ _ I r h) λ_ s1 ⟨σ1,H1,I1,q1⟩=>?_)
  exact h2 pins s1 σ1 H1 _ _ Q I1 rr q1
def gTup (K:W.Frag)(n:Nat)(t:TGs):TG:=λv σ H Q=>∃ a xs,v=.ref a/\SqT K H a xs/\xs.length=n/\t xs σ H Q
theorem zKf {es:List Expr}{k:Nat}{t:TGs}{n:Nat}(hc:X.calm=true)(h:PGs X es t)
  (hn:(assignEach es X.env).length=n:=by rfl) (hst:(assignEach es X.env).findIdx? (·.1)=none:=by rfl):PG X (.Tuple es k pos) (gTup X.K n t):=by
 intro pins s σ H v u Q I r hw
 obtain⟨a,xs,e1,hq,hl,hw⟩:=hw
 subst e1
 cases r
 obtain⟨its,rv,ht,hz⟩:=I.tuple hq
 refine assign_Tuple_tuple (I.ok.hd hc) ht (by simp[hn,<- hl,rv.length]) hst λh' hx=>?_
 have I1:Inv X pins σ H { s with heap:=h' }:=I.kept (t':=s.toks) λb o e=>hx b o (Nat.ne_of_lt (Heap.lt_size e)) e
 exact h pins _ σ H xs _ Q I1 (by simpa using rv) hw
def gSub (to ti:TE)(t:TSet):TG:=λv σ H Q=>to σ H λo H1=>ti σ H1 λi H2=>t o i v H2 λH3=>Q σ H3
theorem zKg {o i:Expr}{to ti:TE}{t:TSet}(ho:PE X o to)(hi:PE X i ti)(hs:PSet X t)
  (ha:∀ v,assign (.Subscript o i pos) X.env v=(do
   let ov <- holding [v] (eval o X.env)
   let iv <- holding [v,ov] (eval i X.env)
   standAt pos
   holding [v,ov,iv] (setItem ov iv v)
   release [v,ov,iv] []):=by intro _;rfl):PG X (.Subscript o i pos) (gSub to ti t):=by
 intro pins s σ H v u Q I r h
 rw[ha]
 refine wpAny_bind (wpAny_holding (thn (ho pins s σ H _ I h) λov s1 ⟨x,H1,I1,r1,q1⟩=>?_))
 refine wpAny_bind (wpAny_holding (thn (hi pins s1 σ H1 _ I1 q1) λiv s2 ⟨y,H2,I2,r2,q2⟩=>?_))
 refine wpAny_bind (wpAny_standAt (wpAny_bind (wpAny_holding (thn (hs pins s2 σ H2 x y v ov iv u _ I2 r1 r2 r q2) λ_ s3 ⟨H3,I3,q3⟩=>?_))))
 exact wpAny_release ⟨σ,H3,I3,q3⟩
def tAsg (te:TE)(g:TG):TS:=λD σ H=>te σ H λx H1=>g x σ H1 D.nx
theorem zKh {tg e:Expr}{te:TE}{g:TG}(he:PE X e te)(hg:PG X tg g)(hs:swapsWithSole [tg] e pos.line X.env=pure false:=by rfl)(hw:swappedStores [tg] e X.env=pure none:=by rfl)
  (h1:(assignEach [tg] X.env).map (·.2)=[assign tg X.env]:=by rfl):PS X (.Assign [tg] e pos) (tAsg te g):=by
 intro pins s σ H D I h
 refine wpAny_Assign_stores (thn (he pins s σ H _ I h) λv s1 ⟨x,H1,I1,r1,q1⟩=>?_) hs hw
 rw[h1]
 exact thn (hg pins s1 σ H1 x v _ I1 r1 q1) λ_ s2 q=>q
theorem zKi {i:Nat}{x:Str}{e:Expr}{te:TE}{pos':Pos}(hN:X.N.Nodup)(hi:X.N[i]?=some x)(hx:Loc X.env.scope x)(he:PE X e te)(hs:swapsWith e (some (.Name x pos')) pos.line X.env=pure false:=by rfl)(hf:X.fn x=true\/X.env.scope.names.lookup x=some .local:=by first | exact .inl rfl | exact .inr rfl | assumption) :
  PS X (.Assign [.Name x pos'] e pos) (tAsg te (zBg i)):=by
 intro pins s σ H D I h
 refine wpAny_Assign_Name (thn (he pins s σ H _ I h) λv s1 ⟨y,H1,I1,r1,q1⟩=>?_) hs
 exact zCH I1 hN hi hx r1 (λs2 I2=>⟨_,H1,I2,q1⟩) hf
def tAug (i:Nat)(te:TE)(ti:TIp):TS:=λD σ H=>∃ x,σ[i]?=some (some x)/\te σ H λy H1=>ti x y H1 λz H2=>D.nx (σ.set i (some z)) H2
theorem zKj {i:Nat}{x:Str}{e:Expr}{te:TE}{op:Operator}{ti:TIp}{pos':Pos}(hN:X.N.Nodup)(hi:X.N[i]?=some x)(hx:Loc X.env.scope x)(he:PE X e te)(ho:PIp X op ti)(hf:X.fn x=true\/X.env.scope.names.lookup x=some .local:=by first | exact .inl rfl | exact .inr rfl | assumption) :
  PS X (.AugAssign (.Name x pos') op e pos) (tAug i te ti):=by
 intro pins s σ H D I h
 obtain⟨v,e1,h⟩:=h
 obtain⟨m,hn,hl⟩:=I.loc
 have vis:Vis X.env.scope x:=by rcases hx with k | k;exact .inl k;exact .inr (.inl k)
 obtain⟨u,r,l⟩:=hl i x v hi e1 vis
 refine wpAny_AugAssign_Name ?_
 have go:wpAny (model X.prog X.w) X.A (eval e X.env) (λw s₂=>wpAny (model X.prog X.w) X.A (inplaceOp op u w) (λr s₃=>wpAny (model X.prog X.w) X.A (storeName X.env x r) (λ_=>SP X pins D .next) X.xe s₃) X.xe s₂) X.xe s:=by
  refine thn (he pins s σ H _ I h) λw s1 ⟨y,H1,I1,r1,q1⟩=>?_
  refine thn (ho pins s1 σ H1 v y u w _ I1 r r1 q1) λz s2 ⟨zv,H2,I2,r2,q2⟩=>?_
  exact zCH I2 hN hi hx r2 (λs3 I3=>⟨_,H2,I3,q2⟩) hf
 rcases l with ⟨hk,hm⟩ | ⟨hk,c,hc,hcell⟩
 ·exact wpAny_loadName_local I.ok.kind hk hn hm go
 ·rcases hk with hk | hk
  ·exact wpAny_loadName_cell I.ok.kind hk hc hcell go
  ·rcases hx with k | k
   ·have:X.env.scope.names.lookup x=some .free:=hk
    rw[k] at this;cases this
   ·have:X.env.scope.names.lookup x=some .free:=hk
    rw[k] at this;cases this
def ipI (f:Int->Int->Int):TIp:=λx y H Q=>∃ i j,x=.int i/\y=.int j/\Q (.int (f i j)) H
theorem zKk:PIp X .Add (ipI λi j=>i+j):=by
 intro pins s σ H x y v u Q I r1 r2 h
 obtain⟨i,j,e1,e2,q⟩:=h
 subst e1;subst e2
 obtain⟨t,rfl⟩:=r1
 obtain⟨t',rfl⟩:=r2
 exact iadd_int ⟨.int _,H,I.tok _,⟨_,rfl⟩,q⟩
theorem zKl:PIp X .Sub (ipI λi j=>i-j):=by
 intro pins s σ H x y v u Q I r1 r2 h
 obtain⟨i,j,e1,e2,q⟩:=h
 subst e1;subst e2
 obtain⟨t,rfl⟩:=r1
 obtain⟨t',rfl⟩:=r2
 exact isub_int ⟨.int _,H,I.tok _,⟨_,rfl⟩,q⟩
end
section
variable {X:Cx}{pos:Pos}
end
structure It where
 go:Nat->Hp->Prop
 yld:Nat->Hp->V->Hp->Prop
 stop:Nat->Hp->Prop
def FpOk (X:Cx)(pins:List (Addr×Obj))(H:Hp)(b:Addr):Prop :=
 H b=none/\b≠X.env.locals/\b∉X.fs/\(b∈X.ex\/X.s₀.heap.objs.size<=b)/\(∀ x c,X.env.cells.lookup x=some c->c≠b)/\∀ p∈X.pn++pins,p.1≠b
theorem Inv.fpOk {X:Cx}{pins:List (Addr×Obj)}{σ:St}{H H':Hp}{s:Shared}{b:Addr}(I:Inv X pins σ H s)(hb:s.heap.objs.size<=b)(hn:H' b=none):FpOk X pins H' b:=by
 refine⟨hn,Nat.ne_of_gt (Nat.lt_of_lt_of_le I.lt hb),I.nofs hb,.inr (Nat.le_trans I.sz hb),λx c e z=>?_,λp hp z=>?_⟩
 ·obtain⟨v,q⟩:=I.cell x c e
  exact absurd (Nat.lt_of_lt_of_le q.lt (by rw[z];exact hb)) (Nat.lt_irrefl _)
 ·exact absurd (Nat.lt_of_lt_of_le (Heap.lt_size (I.pin p hp).1) (by rw[z];exact hb)) (Nat.lt_irrefl _)
structure Turn (P:Program)(w:World)(K:W.Frag)(tg:Expr)(J:It)(fp:List Addr)(it:Addr)(tn:Nat->Heap->Prop):Prop where
 mem:it∈fp
 obj:∀ i h,tn i h->∀ b∈fp,∃ o,h.get? b=some o/\∀ v,o.data≠.cell v
 keep:∀ i h h',tn i h->(∀ b∈fp,∀ o,h.get? b=some o->h'.get? b=some o)->tn i h'
 item:∀ (X:Cx),X.prog=P->X.w=w->X.K=K->X.calm=true->∀ (i:Nat) (pins:List (Addr×Obj)) (s:Shared) (σ:St) (H:Hp) (E:Value->Shared->Prop),Inv X pins σ H s->(∀ b∈fp,FpOk X pins H b)->tn i s.heap->J.go i H ->
  wpAny (model P w) X.A (pyNext (.ref it)) (λr s1=>∃ u,r=some u /\
   wpAny (model P w) X.A (letOwnedTupleGo tg (.ref it) u) (λ_ s2=>∃ x H',Inv X pins σ H' s2/\RelV x u/\J.yld i H x H'/\tn (i+1) s2.heap/\∀ b∈fp,H' b=none) E s1) E s
 done:∀ (X:Cx),X.prog=P->X.w=w->X.K=K->X.calm=true->∀ (i:Nat) (pins:List (Addr×Obj)) (s:Shared) (σ:St) (H:Hp) (E:Value->Shared->Prop),Inv X pins σ H s->(∀ b∈fp,FpOk X pins H b)->tn i s.heap->J.stop i H ->
  wpAny (model P w) X.A (pyNext (.ref it)) (λr s1=>r=none/\Inv X pins σ H s1) E s
 self:∀ (A:Around) (i:Nat) (s:Shared) (Q:Value->Shared->Prop) (E:Value->Shared->Prop),tn i s.heap->Q (.ref it) s->wpAny (model P w) A (pyIter (.ref it)) Q E s
abbrev TI:=St->Hp->(It->Hp->Prop)->Prop
def PIE (X:Cx)(pins:List (Addr×Obj))(σ:St)(tg:Expr)(R:It->Hp->Prop)(itv:Value)(s2:Shared):Prop :=
 ∃ (it:Addr) (fp:List Addr) (tn:Nat->Heap->Prop) (J:It) (H':Hp),itv=.ref it/\Inv X pins σ H' s2/\Turn X.prog X.w X.K tg J fp it tn/\tn 0 s2.heap/\(∀ b∈fp,FpOk X pins H' b)/\R J H'
def PI (X:Cx)(tg iter:Expr)(wi:TI):Prop :=
 ∀ (pins:List (Addr×Obj)) (s:Shared) (σ:St) (H:Hp) (R:It->Hp->Prop),Inv X pins σ H s->wi σ H R ->
  wpAny (model X.prog X.w) X.A (eval iter X.env) (λv s1=>wpAny (model X.prog X.w) X.A (pyIter v) (PIE X pins σ tg R) X.xe s1) X.xe s
theorem zHA {M : Model} {A : Around} {E : Value → Shared → Prop} {s : Shared} {tg : Expr} {it : Addr} {u : Value} {o : Obj} {n : String} {vs : Array Value} {Q : Unit → Shared → Prop} (ho : s.heap.get? it = some o) (hc : o.cls = .type n) (hd : o.data = .fields vs)
    (hn : ["enumerate", "zip", "dict_itemiterator", "dict_reverseitemiterator", "odict_iterator", "itertools.zip_longest", "itertools.pairwise"].contains n = false) (hQ : Q () s) : wpAny M A (letOwnedTupleGo tg (.ref it) u) Q E s := by
  unfold letOwnedTupleGo
  cases tg <;> first
    | exact wpAny_pure hQ
    | (cases u <;> first
        | exact wpAny_pure hQ
        | (refine wpAny_bind (wpAny_load ho ?_)
           rw [hc, hd]
           show wpAny M A (if (["enumerate", "zip", "dict_itemiterator", "dict_reverseitemiterator", "odict_iterator", "itertools.zip_longest", "itertools.pairwise"].contains n && vs[0]? == some (rawInt _)) = true then _ else _) Q E s
           rw [if_neg (by intro h; rw [hn, Bool.false_and] at h; cases h)]
           exact wpAny_pure hQ))
def Itl (K:W.Frag)(a:Addr):It :=
 ⟨λi H=>∃ xs x,SqL K H a xs/\xs[i]?=some x,λi H x H'=>H'=H/\∀ xs,SqL K H a xs->xs[i]?=some x,λi H=>∃ xs,SqL K H a xs/\xs.length<=i⟩
def Itr (lo:Int)(n:Nat):It:=⟨λi _=>i<n,λi H x H'=>H'=H/\x=.int (lo+i),λi _=>n<=i⟩
theorem zFe {P:Program}{w:World}{K:W.Frag}{tg:Expr}(a it:Addr):Turn P w K tg (Itl K a) [it] it (λi h=>h.IsListIter it a i) where
 mem:=by simp
 obj:=λi h st b hb=>by
  have e:b=it:=by simpa using hb
  subst e
  obtain⟨o,e,c,d⟩:=st
  exact⟨o,e,λv z=>by rw[d] at z;cases z⟩
 keep:=λi h h' st k=>st.at λo e=>k it (by simp) o e
 item:=by
  intro X hP hw hK hc i pins s σ H E I hf st hg
  subst hP hw hK
  obtain⟨xs,x,hq,hx⟩:=hg
  obtain⟨its,rv,p,hz⟩:=I.list hq
  obtain⟨u,hu,ru⟩:=rv.get hx
  obtain⟨f0,f1,f2,f3,f4,f5⟩:=hf it (by simp)
  refine wpAny_pyNext_list_item st p.isList (x:=u) (by simpa using hu) λh' st' sb=>?_
  have I1:Inv X pins σ H { s with heap:=h' }:=I.turned (t':=s.toks) (λb o hb e=>(sb.2 b hb).trans e) f0 f1 f3 f4 f5
  obtain⟨o,e,c,d⟩:=id st'
  exact⟨u,rfl,zHA (s:={ s with heap:=h' }) e c d (by decide) ⟨x,H,I1,ru,⟨rfl,λys hy=>by rw[I.list_inj hy hq];exact hx⟩,st',λb hb=>(hf b hb).1⟩⟩
 done:=by
  intro X hP hw hK hc i pins s σ H E I hf st hg
  subst hP hw hK
  obtain⟨xs,hq,hx⟩:=hg
  obtain⟨its,rv,p,hz⟩:=I.list hq
  obtain⟨f0,f1,f2,f3,f4,f5⟩:=hf it (by simp)
  have hl:=rv.length
  exact wpAny_pyNext_list_end (I.ok.hd hc) st p.isList (by simp;omega) λh' eb=>⟨rfl,I.turned (t':=s.toks) (λb o hb e=>eb b o hb e) f0 f1 f3 f4 f5⟩
 self:=λ_ _ _ _ _ st h=>wpAny_pyIter_listiter st h
theorem zE1 {P:Program}{w:World}{K:PySem.W.Frag}{tg:Expr}(it:Addr)(lo:Int)(n:Nat):Turn P w K tg (Itr lo n) [it] it (λi h=>IsRangeIter h it (lo+(i:Nat)*1) ((n:Int)-(i:Nat)) 1) where
 mem:=by simp
 obj:=λi h st b hb=>by
  have e:b=it:=by simpa using hb
  subst e
  exact⟨_,st,λv z=>by
   have z':Data.fields _=Data.cell v:=z
   cases z'⟩
 keep:=λi h h' st k=>k it (by simp) _ st
 item:=by
  intro X hP hw hK hc i pins s σ H E I hf st hg
  subst hP hw hK
  obtain⟨f0,f1,f2,f3,f4,f5⟩:=hf it (by simp)
  have W:=Walks.range (prog:=X.prog) (w:=X.w) (I.ok.hd hc) it lo 1 n
  refine W.item i s _ _ hg st λv h' tk hv st' kk=>?_
  obtain⟨t,rfl⟩:=hv
  have I1:Inv X pins σ H { s with heap:=h',toks:=tk }:=I.turned (λb o hb e=>kk b o (by simpa using hb) e) f0 f1 f3 f4 f5
  refine⟨_,rfl,zHA (s:={ s with heap:=h',toks:=tk }) (n:="range_iterator") st' rfl rfl (by decide) ⟨.int (lo+i),H,I1,⟨t,?_⟩,⟨rfl,rfl⟩,st',λb hb=>(hf b hb).1⟩⟩
  rw[Int.mul_one]
 done:=by
  intro X hP hw hK hc i pins s σ H E I hf st hg
  subst hP hw hK
  obtain⟨f0,f1,f2,f3,f4,f5⟩:=hf it (by simp)
  exact wpAny_pyNext_range_end (I.ok.hd hc) st (by have:n<=i:=hg;omega) λh' eb=>⟨rfl,I.turned (t':=s.toks) (λb o hb e=>eb b o hb e) f0 f1 f3 f4 f5⟩
 self:=λ_ _ _ _ _ st h=>wpAny_pyIter_rangeiter st h
end L2
namespace L2
open PySem PySem.Spec PyProof.Rows
section
variable {X:Cx}{tg:Expr}
theorem range_it {pins:List (Addr×Obj)}{σ:St}{H:Hp}{s:Shared}{R:It->Hp->Prop}{E:Value->Shared->Prop}{lo hi:Int}{t u v:Tok}{tk:Nat}(I:Inv X pins σ H s)(h1:-(2 ^ 62)<=lo)(h2:lo<2 ^ 62)(h3:-(2 ^ 62)<=hi)(h4:hi<2 ^ 62)
  (q:R (Itr lo (hi-lo).toNat) H):wpAny (model X.prog X.w) X.A (pyIter (.ref s.heap.objs.size)) (PIE X pins σ tg R) E { s with heap:=s.heap.push { cls:=.type "range",data:=.fields #[.int lo t,.int hi u,.int 1 v] },toks:=tk }:=by
 refine wpAny_pyIter_range (IsRange.new ..) (small_one h1 h2 h3 h4) ?_
 have I1:Inv X pins σ H { s with heap:=s.heap.push { cls:=.type "range",data:=.fields #[.int lo t,.int hi u,.int 1 v] },toks:=tk }:=I.kept λb o e=>Heap.get?_push_of_some _ e
 refine⟨(s.heap.push { cls:=.type "range",data:=.fields #[.int lo t,.int hi u,.int 1 v] }).objs.size,[(s.heap.push { cls:=.type "range",data:=.fields #[.int lo t,.int hi u,.int 1 v] }).objs.size],_,_,H,rfl,
  I1.kept (t':=tk) λb o e=>Heap.get?_push_of_some _ e,zE1 _ lo (hi-lo).toNat,?_,λb hb=>?_,q⟩
 ·have e1:lo+((0:Nat):Int)*1=lo:=by simp
  have e2:(((hi-lo).toNat:Nat):Int)-((0:Nat):Int)=Builtin.Range.rangeSize lo hi 1:=by rw[rangeSize_one];split<;>omega
  show IsRangeIter _ _ (lo+((0:Nat):Int)*1) ((((hi-lo).toNat:Nat):Int)-((0:Nat):Int)) 1
  rw[e1,e2]
  exact Heap.get?_push_size _ rfl
 ·have e:b=(s.heap.push { cls:=.type "range",data:=.fields #[.int lo t,.int hi u,.int 1 v] }).objs.size:=by simpa using hb
  subst e
  exact I1.fpOk (Nat.le_refl _) (I1.hok.fresh (Nat.le_refl _))
def zMD (ta:TA):TI:=λσ H R=>ta σ H λvs H1=>∃ j:Int,vs=[.int j]/\-(2 ^ 62)<=j/\j<2 ^ 62/\R (Itr 0 j.toNat) H1
def zME (ta:TA):TI:=λσ H R=>ta σ H λvs H1=>∃ i j:Int,vs=[.int i,.int j]/\(-(2 ^ 62)<=i/\i<2 ^ 62/\-(2 ^ 62)<=j/\j<2 ^ 62)/\R (Itr i (j-i).toNat) H1
theorem zFf {a:Expr}{ta:TA}{p pos:Pos}(hg:Gl X "range")(hm:X.mg "range"=none)(ha:PA X [a] ta)(hs:starEach [a] X.env=[(false,eval a X.env)]:=by rfl):PI X tg (.Call (.Name "range" p) [a] [] pos) (zMD ta):=by
 intro pins s σ H R I h
 refine Call_ (zBh I hg hm boot_range (PyProof.Rows.callWith_type1 (thn (ha pos pins s σ H _ I h) λus s1 ⟨vs,H1,I1,r1,q1⟩=>?_) hs rfl))
 obtain⟨j,e,q1,q2,q⟩:=q1
 subst e
 cases r1 with
 | cons r rr =>
  cases rr
  obtain⟨t,rfl⟩:=r
  exact call_range_1 (range_it I1 (by omega) (by omega) q1 q2 (by simpa using q))
theorem zFg {a b:Expr}{ta:TA}{p pos:Pos}(hg:Gl X "range")(hm:X.mg "range"=none)(ha:PA X [a,b] ta)(hs:starEach [a,b] X.env=[(false,eval a X.env),(false,eval b X.env)]:=by rfl)(hs2:starEach [b] X.env=[(false,eval b X.env)]:=by rfl) :
  PI X tg (.Call (.Name "range" p) [a,b] [] pos) (zME ta):=by
 intro pins s σ H R I h
 refine Call_ (zBh I hg hm boot_range (PyProof.Rows.callWith_type1 (thn (ha pos pins s σ H _ I h) λus s1 ⟨vs,H1,I1,r1,q1⟩=>?_) (by rw[hs,hs2]) (by rw[hs2];rfl)))
 obtain⟨i,j,e,⟨q1,q2,q3,q4⟩,q⟩:=q1
 subst e
 cases r1 with
 | cons r rr =>
  cases rr with
  | cons r' rr =>
   cases rr
   obtain⟨t,rfl⟩:=r
   obtain⟨t',rfl⟩:=r'
   exact call_range_2 (range_it I1 q1 q2 q3 q4 q)
def tFor (wi:TI)(g:TG)(tb:TS):TS:=λD σ H=>wi σ H λJ H1=>∃ W:Nat->Nat->St->Hp->Prop,(∃ m,W 0 m σ H1)/\∀ i m σ H,W i m σ H ->
 (J.stop i H/\D.nx σ H)\/(J.go i H/\∃ N:St->Hp->Prop,(∀ σ' H',N σ' H'->∃ m',m'<m/\W (i+1) m' σ' H')/\∀ x H',J.yld i H x H'->g x σ H' λσ2 H2=>tb { D with nx:=N,ct:=N,bk:=D.nx } σ2 H2)
def zCi (fp:List Addr)(h:Heap):List (Addr×Obj):=fp.filterMap λb=>(h.get? b).map λo=>(b,o)
theorem zAx {fp:List Addr}{h:Heap}{b:Addr}{o:Obj}(hb:b∈fp)(e:h.get? b=some o):(b,o)∈zCi fp h:=List.mem_filterMap.mpr ⟨b,hb,by rw[e];rfl⟩
theorem zFh {fp:List Addr}{h:Heap}{p:Addr×Obj}(hp:p∈zCi fp h):p.1∈fp/\h.get? p.1=some p.2:=by
 obtain⟨b,hb,e⟩:=List.mem_filterMap.mp hp
 cases q:h.get? b with
 | none=>rw[q] at e;cases e
 | some o =>
  rw[q] at e
  have e':(b,o)=p:=Option.some.inj e
  subst e'
  exact⟨hb,q⟩
theorem Inv.pinned {pins:List (Addr×Obj)}{σ:St}{H:Hp}{s:Shared}{fp:List Addr}(I:Inv X pins σ H s)(hf:∀ b∈fp,FpOk X pins H b)(ho:∀ b∈fp,∃ o,s.heap.get? b=some o/\∀ v,o.data≠.cell v):Inv X (pins++zCi fp s.heap) σ H s :=
 I.pins_of λp hp=>(List.mem_append.mp hp).elim (λz=>I.pin p (List.mem_append_right _ z)) λz=>by
  obtain⟨hb,e⟩:=zFh z
  obtain⟨f0,f1,f2,_⟩:=hf p.1 hb
  obtain⟨o,e',d⟩:=ho p.1 hb
  rw[e] at e';cases e'
  exact⟨e,f0,f1,f2,d⟩
theorem Inv.unpinned {pins pl:List (Addr×Obj)}{σ:St}{H:Hp}{s:Shared}(I:Inv X (pins++pl) σ H s):Inv X pins σ H s:=I.pins_of λp hp=>I.pin p (List.mem_append_right _ (List.mem_append_left _ hp))
theorem zKm {iter:Expr}{body:List Stmt}{wi:TI}{g:TG}{tb:TS}{pos:Pos}(hp:PassesOwn (model X.prog X.w) X.A X.env X.xe)(hc:X.calm=true)(hi:PI X tg iter wi)(hg:PG X tg g)(hb:PSs X body tb)
  (hs:∀ x,foldedSetIterable iter X.env x=pure x:=by intro _;rfl):PS X (.For tg iter body [] pos) (tFor wi g tb):=by
 intro pins s σ H D I h
 refine wpAny_For (thn (hi pins s σ H _ I h) λv s1 h1=>thn h1 λitv s2 h2=>?_) hs
 obtain⟨it,fp,tn,J,H2,e,I2,T,st2,f2,W,⟨m0,w0⟩,turn⟩:=h2
 subst e
 have stat:∀ {H':Hp},(∀ b∈fp,H' b=none)->∀ b∈fp,FpOk X pins H' b:=λhn b hb=>⟨hn b hb,(f2 b hb).2⟩
 refine codeAny_forLoop_any (λn s'=>∃ i σ' H',Inv X pins σ' H' s'/\tn i s'.heap/\(∀ b∈fp,H' b=none)/\W i n σ' H') ?_ m0 ⟨0,σ,H2,I2,st2,λb hb=>(f2 b hb).1,w0⟩
 rintro n s3 ⟨i,σ3,H3,I3,st3,fr3,w3⟩
 rcases turn i n σ3 H3 w3 with ⟨stop,qn⟩ | ⟨go,N,hN,step⟩
 ·refine wpAny_passesOwn hp (thn (T.done X rfl rfl rfl hc i pins s3 σ3 H3 X.xe I3 (stat fr3) st3 stop) λr s4 ⟨hr,I4⟩=>?_)
  subst hr
  exact wpAny_execs_nil ⟨σ3,H3,I4,qn⟩
 ·refine wpAny_passesOwn hp (thn (T.item X rfl rfl rfl hc i pins s3 σ3 H3 X.xe I3 (stat fr3) st3 go) λr s4 ⟨u,hr,h4⟩=>?_)
  subst hr
  refine wpAny_passesOwn hp (thn h4 λ_ s5 ⟨x,H5,I5,r5,y5,st5,fr5⟩=>?_)
  have I5':=I5.pinned (stat fr5) (T.obj _ _ st5)
  refine wpAny_passesOwn hp (thn (hg _ s5 σ3 H5 x u _ I5' r5 (step x H5 y5)) λ_ s6 ⟨σ6,H6,I6,q6⟩=>?_)
  refine wpAny_passesOwn hp (thn (hb _ s6 σ6 H6 _ I6 q6) λf s7 q7=>?_)
  have again:∀ {σ7:St} {H7:Hp},Inv X (pins++zCi fp s5.heap) σ7 H7 s7->N σ7 H7->∃ m,m<n/\∃ i σ' H',Inv X pins σ' H' s7/\tn i s7.heap/\(∀ b∈fp,H' b=none)/\W i m σ' H':=λ{σ7 H7} I7 n7=>by
   obtain⟨m',hm,w7⟩:=hN σ7 H7 n7
   refine⟨m',hm,i+1,σ7,H7,I7.unpinned,T.keep _ _ _ st5 λb hb o e=>(I7.pin (b,o) (List.mem_append_right _ (List.mem_append_right _ (zAx hb e)))).1,λb hb=>?_,w7⟩
   obtain⟨o,e,d⟩:=T.obj _ _ st5 b hb
   exact(I7.pin (b,o) (List.mem_append_right _ (List.mem_append_right _ (zAx hb e)))).2.1
  cases f with
  | next=>obtain⟨σ7,H7,I7,n7⟩:=q7;exact again I7 n7
  | cont=>obtain⟨σ7,H7,I7,n7⟩:=q7;exact again I7 n7
  | brk=>obtain⟨σ7,H7,I7,q7⟩:=q7;exact⟨σ7,H7,I7.unpinned,q7⟩
  | ret v=>obtain⟨x7,σ7,H7,I7,r7,q7⟩:=q7;exact⟨x7,σ7,H7,I7.unpinned,r7,q7⟩
end
theorem zBr {K:PySem.W.Frag}{a:Addr}{xs:List V}{g:TG}{tb:TS}{D:Ends}{σ:St}{H:Hp}(Pv:Nat->St->Hp->Prop)(h0:Pv 0 σ H)(hl:∀ i σ H,i<=xs.length->Pv i σ H->SqL K H a xs)
  (hs:∀ i x σ H,xs[i]?=some x->Pv i σ H->g x σ H λσ2 H2=>tb { D with nx:=Pv (i+1),ct:=Pv (i+1),bk:=D.nx } σ2 H2) (hd:∀ σ H,Pv xs.length σ H->D.nx σ H) :
  ∃ W:Nat->Nat->St->Hp->Prop,(∃ m,W 0 m σ H)/\∀ i m σ H,W i m σ H ->
   ((Itl K a).stop i H/\D.nx σ H)\/((Itl K a).go i H/\∃ N:St->Hp->Prop,(∀ σ' H',N σ' H'->∃ m',m'<m/\W (i+1) m' σ' H')/\∀ x H',(Itl K a).yld i H x H'->g x σ H' λσ2 H2=>tb { D with nx:=N,ct:=N,bk:=D.nx } σ2 H2):=by
 refine⟨λi m σ H=>m=xs.length-i/\i<=xs.length/\Pv i σ H,⟨xs.length,by simp,Nat.zero_le _,h0⟩,?_⟩
 rintro i m σ H ⟨rfl,hi,p⟩
 have q:=hl i σ H hi p
 by_cases hlt:i<xs.length
 ·refine .inr ⟨⟨xs,xs[i],q,by simp[hlt]⟩,Pv (i+1),λσ' H' p'=>⟨xs.length-(i+1),by omega,rfl,hlt,p'⟩,λx H' y=>?_⟩
  obtain⟨e,y⟩:=y
  subst e
  exact hs i x σ _ (y xs q) p
 ·have e:i=xs.length:=by omega
  subst e
  exact .inl ⟨⟨xs,q,Nat.le_refl _⟩,hd σ H p⟩
theorem zAl {lo:Int}{n:Nat}{g:TG}{tb:TS}{D:Ends}{σ:St}{H:Hp}(Pv:Nat->St->Hp->Prop)(h0:Pv 0 σ H)
  (hs:∀ i σ H,i<n->Pv i σ H->g (.int (lo+i)) σ H λσ2 H2=>tb { D with nx:=Pv (i+1),ct:=Pv (i+1),bk:=D.nx } σ2 H2) (hd:∀ σ H,Pv n σ H->D.nx σ H) :
  ∃ W:Nat->Nat->St->Hp->Prop,(∃ m,W 0 m σ H)/\∀ i m σ H,W i m σ H ->
   ((Itr lo n).stop i H/\D.nx σ H)\/((Itr lo n).go i H/\∃ N:St->Hp->Prop,(∀ σ' H',N σ' H'->∃ m',m'<m/\W (i+1) m' σ' H')/\∀ x H',(Itr lo n).yld i H x H'->g x σ H' λσ2 H2=>tb { D with nx:=N,ct:=N,bk:=D.nx } σ2 H2):=by
 refine⟨λi m σ H=>m=n-i/\i<=n/\Pv i σ H,⟨n,by simp,Nat.zero_le _,h0⟩,?_⟩
 rintro i m σ H ⟨rfl,hi,p⟩
 by_cases hlt:i<n
 ·refine .inr ⟨hlt,Pv (i+1),λσ' H' p'=>⟨n-(i+1),by omega,rfl,hlt,p'⟩,λx H' y=>?_⟩
  obtain⟨e,y⟩:=y
  subst e y
  exact hs i σ _ hlt p
 ·have e:i=n:=by omega
  subst e
  exact .inl ⟨Nat.le_refl _,hd σ H p⟩
end L2
namespace L2
open PySem PySem.Spec PyProof.Rows
abbrev R2:=V->V->Hp->VK->Prop
def OpR (X:Cx)(f:Value->Value->Sem Value)(r:R2):Prop :=
 ∀ (pins:List (Addr×Obj)) (s:Shared) (σ:St) (H:Hp) (x y:V) (v u:Value) (Q:VK),Inv X pins σ H s->RelV x v->RelV y u->r x y H Q ->
  wpAny (model X.prog X.w) X.A (f v u) (EP X pins σ Q) X.xe s
def UnR (X:Cx)(f:Value->Sem Value)(r:V->Hp->VK->Prop):Prop :=
 ∀ (pins:List (Addr×Obj)) (s:Shared) (σ:St) (H:Hp) (x:V) (v:Value) (Q:VK),Inv X pins σ H s->RelV x v->r x H Q ->
  wpAny (model X.prog X.w) X.A (f v) (EP X pins σ Q) X.xe s
def CallR (X:Cx)(f:Value)(r:List V->Hp->VK->Prop):Prop :=
 ∀ (pins:List (Addr×Obj)) (s:Shared) (σ:St) (H:Hp) (xs:List V) (us:List Value) (Q:VK),Inv X pins σ H s->Vals xs us->r xs H Q ->
  wpAny (model X.prog X.w) X.A (call f us) (EP X pins σ Q) X.xe s
def TruR (X:Cx)(r:V->Hp->(Bool->Hp->Prop)->Prop):Prop :=
 ∀ (pins:List (Addr×Obj)) (s:Shared) (σ:St) (H:Hp) (x:V) (v:Value) (Q:Bool->Hp->Prop),Inv X pins σ H s->RelV x v->r x H Q ->
  wpAny (model X.prog X.w) X.A (truthy v) (TP X pins σ Q) X.xe s
def tOp (r:R2)(ta tb:TE):TE:=λσ H Q=>ta σ H λx H1=>tb σ H1 λy H2=>r x y H2 Q
def tUn (r:V->Hp->VK->Prop)(ta:TE):TE:=λσ H Q=>ta σ H λx H1=>r x H1 Q
def rI (C:Int->Int->Prop)(g:Int->Int->V):R2:=λx y H Q=>∃ i j,x=.int i/\y=.int j/\C i j/\Q (g i j) H
def rI0 (g:Int->Int->V):R2:=λx y H Q=>∃ i j,x=.int i/\y=.int j/\Q (g i j) H
def rU (g:Int->V):V->Hp->VK->Prop:=λx H Q=>∃ i,x=.int i/\Q (g i) H
section
variable {X:Cx}{a b c:Expr}{ta tb tc:TE}{pos:Pos}
theorem binT (ha:PE X a ta)(hb:PE X b tb){pins:List (Addr×Obj)}{s:Shared}{σ:St}{H:Hp}{R:V->V->Hp->Prop}(I:Inv X pins σ H s)
  (h:ta σ H λx H1=>tb σ H1 λy H2=>R x y H2) {Q:Value->Shared->Prop} {f:Value->Value->Sem Value}
  (hf:∀ v u s2 x y H2,Inv X pins σ H2 s2->RelV x v->RelV y u->R x y H2->wpAny (model X.prog X.w) X.A (f v u) Q X.xe s2) :
  wpAny (model X.prog X.w) X.A (eval a X.env) (λv s₁=>wpAny (model X.prog X.w) X.A (eval b X.env) (λu s₂=>wpAny (model X.prog X.w) X.A (f v u) Q X.xe s₂) X.xe s₁) X.xe s:=by
 refine thn (ha pins s σ H _ I h) λv s1 ⟨x,H1,I1,r1,q1⟩=>?_
 refine thn (hb pins s1 σ H1 _ I1 q1) λu s2 ⟨y,H2,I2,r2,q2⟩=>?_
 exact hf v u s2 x y H2 I2 r1 r2 q2
theorem zMF {op:Operator}{r:R2}(ho:OpR X (binaryOp op) r)(ha:PE X a ta)(hb:PE X b tb):PE X (.BinOp a op b pos) (tOp r ta tb):=by
 intro pins s σ H Q I h
 exact wpAny_BinOp (binT ha hb I h λv u s2 x y H2 I2 rx ry q=>ho pins s2 σ H2 x y v u Q I2 rx ry q)
theorem zMG {op:UnaryOp}{r:V->Hp->VK->Prop}(ho:UnR X (unaryOp op) r)(ha:PE X a ta):PE X (.UnaryOp op a pos) (tUn r ta):=by
 intro pins s σ H Q I h
 exact UnaryOp_ (thn (ha pins s σ H _ I h) λv s1 ⟨x,H1,I1,r1,q1⟩=>ho pins s1 σ H1 x v Q I1 r1 q1)
theorem opI {f:Value->Value->Sem Value}{C:Int->Int->Prop}{g:Int->Int->Int}
  (rule:∀ (i j:Int) (t u:Tok) (s:Shared) (Q:Value->Shared->Prop) (E:Value->Shared->Prop),C i j->Q (.int (g i j) s.toks) { s with toks:=s.toks+1 }->wpAny (model X.prog X.w) X.A (f (.int i t) (.int j u)) Q E s) :
  OpR X f (rI C λi j=>.int (g i j)):=by
 intro pins s σ H x y v u Q I rx ry h
 obtain⟨i,j,rfl,rfl,hc,q⟩:=h
 obtain⟨t,rfl⟩:=rx
 obtain⟨t',rfl⟩:=ry
 exact rule i j t t' s _ _ hc ⟨.int (g i j),H,I.tok _,⟨_,rfl⟩,q⟩
theorem opI0 {f:Value->Value->Sem Value}{g:Int->Int->Int}
  (rule:∀ (i j:Int) (t u:Tok) (s:Shared) (Q:Value->Shared->Prop) (E:Value->Shared->Prop),Q (.int (g i j) s.toks) { s with toks:=s.toks+1 }->wpAny (model X.prog X.w) X.A (f (.int i t) (.int j u)) Q E s) :
  OpR X f (rI0 λi j=>.int (g i j)):=by
 intro pins s σ H x y v u Q I rx ry h
 obtain⟨i,j,rfl,rfl,q⟩:=h
 obtain⟨t,rfl⟩:=rx
 obtain⟨t',rfl⟩:=ry
 exact rule i j t t' s _ _ ⟨.int (g i j),H,I.tok _,⟨_,rfl⟩,q⟩
theorem opB0 {f:Value->Value->Sem Value}{g:Int->Int->Bool}
  (rule:∀ (i j:Int) (t u:Tok) (s:Shared) (Q:Value->Shared->Prop) (E:Value->Shared->Prop),Q (.bool (g i j)) s->wpAny (model X.prog X.w) X.A (f (.int i t) (.int j u)) Q E s) :
  OpR X f (rI0 λi j=>.bl (g i j)):=by
 intro pins s σ H x y v u Q I rx ry h
 obtain⟨i,j,rfl,rfl,q⟩:=h
 obtain⟨t,rfl⟩:=rx
 obtain⟨t',rfl⟩:=ry
 exact rule i j t t' s _ _ ⟨.bl (g i j),H,I,rfl,q⟩
def CPow (i j:Int):Prop:=0<=j/\j<=1000000/\i.natAbs<2 ^ 64
def CMul (i j:Int):Prop:=(-(2 ^ 64)<i/\i<2 ^ 64)\/(-(2 ^ 64)<j/\j<2 ^ 64)
theorem CMul.ok {i j:Int}(h:CMul i j):IntMulOk i j:=by
 rcases h with ⟨h1,h2⟩ | ⟨h1,h2⟩
 ·exact .of_left (intBits_le_64 h1 h2)
 ·exact .of_right (intBits_le_64 h1 h2)
theorem zKn:OpR X (binaryOp .Add) (rI0 λi j=>.int (i+j)):=opI0 λ_ _ _ _ _ _ _ q=>add_int q
theorem zKo:OpR X (binaryOp .Sub) (rI0 λi j=>.int (i-j)):=opI0 λ_ _ _ _ _ _ _ q=>sub_int q
theorem zKp:OpR X (binaryOp .Mult) (rI CMul λi j=>.int (i*j)):=opI λ_ _ _ _ _ _ _ hc q=>mul_int q hc.ok
theorem zKq:OpR X (binaryOp .Mod) (rI (λ_ j=>0<j) λi j=>.int (i % j)):=opI λi j _ _ _ _ _ hc q=>by
 have h1:(0:Int)<j:=hc
 exact mod_int' (by omega) (by rw[Int.fmod_eq_emod_of_nonneg i (by omega)];exact q)
theorem zKr:OpR X (binaryOp .Pow) (rI CPow λi j=>.int (i ^ j.toNat)):=opI λ_ _ _ _ _ _ _ hc q=>pow_int_small hc.1 hc.2.1 hc.2.2 q
theorem unI {f:Value->Sem Value}{g:Int->Int}
  (rule:∀ (i:Int) (t:Tok) (s:Shared) (Q:Value->Shared->Prop) (E:Value->Shared->Prop),Q (.int (g i) s.toks) { s with toks:=s.toks+1 }->wpAny (model X.prog X.w) X.A (f (.int i t)) Q E s) :
  UnR X f (rU λi=>.int (g i)):=by
 intro pins s σ H x v Q I rx h
 obtain⟨i,rfl,q⟩:=h
 obtain⟨t,rfl⟩:=rx
 exact rule i t s _ _ ⟨.int (g i),H,I.tok _,⟨_,rfl⟩,q⟩
theorem zKs:UnR X (unaryOp .USub) (rU λi=>.int (-i)):=unI λ_ _ _ _ _ q=>neg_int q
end
def scal:V->V->Bool
 | .non,.non=>true | .non,.int _=>true | .int _,.non=>true | .non,.bl _=>true | .bl _,.non=>true | .non,.str _=>true | .str _,.non=>true
 | .int _,.int _=>true | .bl _,.bl _=>true | .str _,.str _=>true | .byt _,.byt _=>true
 | .int _,.str _=>true | .str _,.int _=>true | .bl _,.str _=>true | .str _,.bl _=>true
 | _,_=>false
def rEq:R2:=λx y H Q=>scal x y=true/\Q (.bl (decide (x=y))) H
def rNe:R2:=λx y H Q=>scal x y=true/\Q (.bl (!decide (x=y))) H
theorem zFi {i j:Int}:decide (V.int i=V.int j)=(i == j):=by
 rw[Bool.eq_iff_iff]
 simp
theorem zIS {i j:Bool}:decide (V.bl i=V.bl j)=(i == j):=by
 rw[Bool.eq_iff_iff]
 simp
theorem zFj {i j:Str}:decide (V.str i=V.str j)=(i == j):=by
 rw[Bool.eq_iff_iff]
 simp
theorem zFk {i j:Array UInt8}:decide (V.byt i=V.byt j)=(i.toList == j.toList):=by
 rw[Bool.eq_iff_iff]
 cases i
 cases j
 simp
section
variable {X:Cx}{a b c:Expr}{ta tb tc:TE}{pos:Pos}
theorem zAZ {pins:List (Addr×Obj)}{σ:St}{H:Hp}{s:Shared}{Q:VK}{k k':Bool}(I:Inv X pins σ H s)(q:Q (.bl k) H)(e:k=k'):EP X pins σ Q (.bool k') s:=by
 subst e
 exact⟨.bl k,H,I,rfl,q⟩
theorem zHB:OpR X (compareOp .Eq) rEq:=by
 intro pins s σ H x y v u Q I rx ry h
 obtain⟨hs,q⟩:=h
 cases x with
 | non =>
  cases rx
  cases y with
  | non=>cases ry;exact PySem.EqNone.eq_none_none (zAZ I q (by simp))
  | bl j=>cases ry;exact PySem.EqNone.eq_none_bool (zAZ I q (by simp))
  | int j=>obtain⟨t',rfl⟩:=ry;exact PySem.EqNone.eq_none_int (zAZ I q (by simp))
  | str j=>obtain⟨t',rfl⟩:=ry;exact PySem.EqNone.eq_none_str (zAZ I q (by simp))
  | _=>exact absurd (show false=true from hs) Bool.false_ne_true
 | bl i =>
  cases rx
  cases y with
  | non=>cases ry;exact PySem.EqNone.eq_bool_none (zAZ I q (by simp))
  | bl j=>cases ry;exact eq_bool (zAZ I q zIS)
  | str j=>obtain⟨t',rfl⟩:=ry;exact PySem.EqMixed.eq_bool_str (zAZ I q (by simp))
  | _=>exact absurd (show false=true from hs) Bool.false_ne_true
 | int i =>
  obtain⟨t,rfl⟩:=rx
  cases y with
  | non=>cases ry;exact PySem.EqNone.eq_int_none (zAZ I q (by simp))
  | int j=>obtain⟨t',rfl⟩:=ry;exact eq_int (zAZ I q zFi)
  | str j=>obtain⟨t',rfl⟩:=ry;exact PySem.EqMixed.eq_int_str (zAZ I q (by simp))
  | _=>exact absurd (show false=true from hs) Bool.false_ne_true
 | str i =>
  obtain⟨t,rfl⟩:=rx
  cases y with
  | non=>cases ry;exact PySem.EqNone.eq_str_none (zAZ I q (by simp))
  | bl j=>cases ry;exact PySem.EqMixed.eq_str_bool (zAZ I q (by simp))
  | int j=>obtain⟨t',rfl⟩:=ry;exact PySem.EqMixed.eq_str_int (zAZ I q (by simp))
  | str j=>obtain⟨t',rfl⟩:=ry;exact eq_str (zAZ I q zFj)
  | _=>exact absurd (show false=true from hs) Bool.false_ne_true
 | byt i =>
  obtain⟨t,rfl⟩:=rx
  cases y with
  | byt j=>obtain⟨t',rfl⟩:=ry;exact W.eq_bytes (zAZ I q zFk)
  | _=>exact absurd (show false=true from hs) Bool.false_ne_true
 | _=>cases y<;>exact absurd (show false=true from hs) Bool.false_ne_true
theorem zHC:OpR X (compareOp .NotEq) rNe:=by
 intro pins s σ H x y v u Q I rx ry h
 obtain⟨hs,q⟩:=h
 cases x with
 | non =>
  cases rx
  cases y with
  | non=>cases ry;exact PySem.EqNone.ne_none_none (zAZ I q (by simp))
  | bl j=>cases ry;exact PySem.EqNone.ne_none_bool (zAZ I q (by simp))
  | int j=>obtain⟨t',rfl⟩:=ry;exact PySem.EqNone.ne_none_int (zAZ I q (by simp))
  | str j=>obtain⟨t',rfl⟩:=ry;exact PySem.EqNone.ne_none_str (zAZ I q (by simp))
  | _=>exact absurd (show false=true from hs) Bool.false_ne_true
 | bl i =>
  cases rx
  cases y with
  | non=>cases ry;exact PySem.EqNone.ne_bool_none (zAZ I q (by simp))
  | bl j=>cases ry;exact ne_bool (zAZ I q (congrArg not zIS))
  | str j=>obtain⟨t',rfl⟩:=ry;exact PySem.EqMixed.ne_bool_str (zAZ I q (by simp))
  | _=>exact absurd (show false=true from hs) Bool.false_ne_true
 | int i =>
  obtain⟨t,rfl⟩:=rx
  cases y with
  | non=>cases ry;exact PySem.EqNone.ne_int_none (zAZ I q (by simp))
  | int j=>obtain⟨t',rfl⟩:=ry;exact ne_int (zAZ I q (congrArg not zFi))
  | str j=>obtain⟨t',rfl⟩:=ry;exact PySem.EqMixed.ne_int_str (zAZ I q (by simp))
  | _=>exact absurd (show false=true from hs) Bool.false_ne_true
 | str i =>
  obtain⟨t,rfl⟩:=rx
  cases y with
  | non=>cases ry;exact PySem.EqNone.ne_str_none (zAZ I q (by simp))
  | bl j=>cases ry;exact PySem.EqMixed.ne_str_bool (zAZ I q (by simp))
  | int j=>obtain⟨t',rfl⟩:=ry;exact PySem.EqMixed.ne_str_int (zAZ I q (by simp))
  | str j=>obtain⟨t',rfl⟩:=ry;exact ne_str (zAZ I q (congrArg not zFj))
  | _=>exact absurd (show false=true from hs) Bool.false_ne_true
 | byt i =>
  obtain⟨t,rfl⟩:=rx
  cases y with
  | byt j=>obtain⟨t',rfl⟩:=ry;exact W.ne_bytes (zAZ I q (congrArg not zFk))
  | _=>exact absurd (show false=true from hs) Bool.false_ne_true
 | _=>cases y<;>exact absurd (show false=true from hs) Bool.false_ne_true
theorem zMH:OpR X (compareOp .Lt) (rI0 λi j=>.bl (decide (i<j))):=opB0 λ_ _ _ _ _ _ _ q=>lt_int q
theorem zMI:OpR X (compareOp .LtE) (rI0 λi j=>.bl (decide (i<=j))):=opB0 λ_ _ _ _ _ _ _ q=>le_int q
theorem zMJ:OpR X (compareOp .Gt) (rI0 λi j=>.bl (decide (j<i))):=opB0 λ_ _ _ _ _ _ _ q=>gt_int q
theorem zMK:OpR X (compareOp .GtE) (rI0 λi j=>.bl (decide (j<=i))):=opB0 λ_ _ _ _ _ _ _ q=>ge_int q
theorem zKt:OpR X (compareOp .Is) (λx y H Q=>y=.non/\Q (.bl (decide (x=.non))) H):=by
 intro pins s σ H x y v u Q I rx ry h
 obtain⟨rfl,q⟩:=h
 cases ry
 refine is_none_gen (zAZ I q ?_)
 cases x<;>first
  | (cases rx;rfl)
  | (obtain⟨t,rfl⟩:=rx;rfl)
theorem zI4:OpR X (compareOp .IsNot) (λx y H Q=>y=.non/\Q (.bl (!decide (x=.non))) H):=by
 intro pins s σ H x y v u Q I rx ry h
 obtain⟨rfl,q⟩:=h
 cases ry
 refine isnot_none_gen (zAZ I q ?_)
 cases x<;>first
  | (cases rx;rfl)
  | (obtain⟨t,rfl⟩:=rx;rfl)
theorem zIT (b:Expr){op:CmpOp}(h:op≠.In:=by decide)(h2:op≠.NotIn:=by decide):behindInMarks op b=false:=by
 have e1:(op == CmpOp.In)=false:=by cases op<;>first | rfl | exact absurd rfl h
 have e2:(op == CmpOp.NotIn)=false:=by cases op<;>first | rfl | exact absurd rfl h2
 cases b<;>simp[behindInMarks,e1,e2]
theorem zI5 {op:CmpOp}{r:R2}(ho:OpR X (compareOp op) r)(ha:PE X a ta)(hb:PE X b tb)(hm:behindInMarks op b=false):PE X (.Compare a [op] [b] pos) (tOp r ta tb):=by
 intro pins s σ H Q I h
 exact wpAny_Compare1 (binT ha hb I h λv u s2 x y H2 I2 rx ry q=>ho pins s2 σ H2 x y v u Q I2 rx ry q) hm
def TruV (K:W.Frag)(x:V)(H:Hp)(k:Bool):Prop :=
 match x with
 | .non=>k=false
 | .bl b=>k=b
 | .int i=>k=(i != 0)
 | .str y=>y.length<=sizeLine/\k=((y.length:Int) != 0)
 | .byt y=>y.size<=sizeLine/\k=((y.size:Int) != 0)
 | .ref p=>(∃ xs,SqL K H p xs/\k=!xs.isEmpty)\/(∃ xs,SqT K H p xs/\k=!xs.isEmpty)\/∃ kvs,H p=some (.dK kvs)/\k=!kvs.isEmpty
 | _=>False
theorem zE2 {κ:Type}{kvs:List (κ×V)}{vs:List (κ×Value)}(r:KV kvs vs):(!vs.isEmpty)=!kvs.isEmpty:=by
 cases r<;>rfl
theorem zCj {xs:List V}{its:List Value}(r:Vals xs its):(!its.toArray.isEmpty)=!xs.isEmpty:=by
 cases r<;>simp
theorem zDL:(sizeLine:Nat)<2 ^ 63:=by rw[sizeLine_eq];decide
theorem zKu:TruR X (λx H Q=>∃ k,TruV X.K x H k/\Q k H):=by
 intro pins s σ H x v Q I rx h
 obtain⟨k,e,q⟩:=h
 have hl:=zDL
 have hs:sizeLine=16777216:=sizeLine_eq
 cases x with
 | non =>
  cases rx
  have e':k=false:=e
  subst e'
  exact truthy_none ⟨H,I,q⟩
 | bl b =>
  cases rx
  have e':k=b:=e
  subst e'
  exact wpAny_truthy_bool ⟨H,I,q⟩
 | int i =>
  obtain⟨t,rfl⟩:=rx
  have e':k=(i != 0):=e
  subst e'
  exact PySem.P.truthy_int ⟨H,I,q⟩
 | str y =>
  obtain⟨t,rfl⟩:=rx
  obtain⟨hy,e'⟩:y.length<=sizeLine/\k=((y.length:Int) != 0):=e
  subst e'
  exact PySem.P.truthy_str (by omega) ⟨H,I.tok _,q⟩
 | byt y =>
  obtain⟨t,rfl⟩:=rx
  obtain⟨hy,e'⟩:y.size<=sizeLine/\k=((y.size:Int) != 0):=e
  subst e'
  exact W.truthy_bytes (by omega) ⟨H,I.tok _,q⟩
 | ref p =>
  cases rx
  have e':(∃ xs,SqL X.K H p xs/\k=!xs.isEmpty)\/(∃ xs,SqT X.K H p xs/\k=!xs.isEmpty)\/∃ kvs,H p=some (.dK kvs)/\k=!kvs.isEmpty:=e
  rcases e' with ⟨xs,hx,e'⟩ | ⟨xs,hx,e'⟩ | ⟨kvs,hx,e'⟩
  ·subst e'
   obtain⟨its,r,pl,hz⟩:=I.list hx
   have hlen:=r.length
   exact wpAny_truthy_list pl.isList (by simp only[List.size_toArray];omega) ⟨H,I.tok _,by rw[zCj r];exact q⟩
  ·subst e'
   obtain⟨its,r,pl,hz⟩:=I.tuple hx
   have hlen:=r.length
   exact truthy_tuple pl (by simp only[List.size_toArray];omega) ⟨H,I.tok _,by rw[zCj r];exact q⟩
  ·subst e'
   obtain⟨hz,hS,vs,r,m⟩:kvs.length<=sizeLine/\(p == sysModules)=false/\∃ vs,KV kvs vs/\s.heap.DictOf (mixKind X.prog X.w) p vs:=I.hok p _ hx
   have hlen:kvs.length=vs.length:=Paired.length r
   exact wpAny_truthy_dict hS m (by omega) ⟨H,I.tok _,by rw[zE2 r];exact q⟩
 | _=>exact(show False from e).elim
theorem zE3:OpR X (binaryOp .Add) (λx y H Q=>∃ i j,x=.str i/\y=.str j/\i.length+j.length<=sizeLine/\Q (.str (i++j)) H):=by
 intro pins s σ H x y v u Q I rx ry h
 obtain⟨i,j,rfl,rfl,hz,q⟩:=h
 obtain⟨t,rfl⟩:=rx
 obtain⟨t',rfl⟩:=ry
 exact add_str (λt' tk=>⟨.str (i++j),H,I.tok _,⟨_,rfl⟩,q⟩) hz
theorem zCO {x:V}{us:List Value}(r:Vals [x] us):∃ u,us=[u]/\RelV x u:=by
 cases r with
 | cons r1 r2=>cases r2;exact⟨_,rfl,r1⟩
theorem zI6 {x y:V}{us:List Value}(r:Vals [x,y] us):∃ u w',us=[u,w']/\RelV x u/\RelV y w':=by
 cases r with
 | cons r1 r2 =>
  cases r2 with
  | cons r3 r4=>cases r4;exact⟨_,_,rfl,r1,r3⟩
theorem zFl (hc:X.calm=true):CallR X (.builtin "max") (λxs H Q=>∃ i j,xs=[.int i,.int j]/\Q (.int (if j > i then j else i)) H):=by
 intro pins s σ H xs us Q I r h
 obtain⟨i,j,rfl,q⟩:=h
 obtain⟨u,w',rfl,⟨t,rfl⟩,⟨t',rfl⟩⟩:=zI6 r
 refine max_two_ints (I.ok.hd hc) λh' tk k=>⟨_,H,I.kept k,?_,q⟩
 by_cases hj:j > i
 ·rw[if_pos hj,if_pos hj];exact⟨_,rfl⟩
 ·rw[if_neg hj,if_neg hj];exact⟨_,rfl⟩
theorem zFm (hc:X.calm=true):CallR X (.builtin "min") (λxs H Q=>∃ i j,xs=[.int i,.int j]/\Q (.int (if j<i then j else i)) H):=by
 intro pins s σ H xs us Q I r h
 obtain⟨i,j,rfl,q⟩:=h
 obtain⟨u,w',rfl,⟨t,rfl⟩,⟨t',rfl⟩⟩:=zI6 r
 refine min_two_ints (I.ok.hd hc) λh' tk k=>⟨_,H,I.kept k,?_,q⟩
 by_cases hj:j<i
 ·rw[if_pos hj,if_pos hj];exact⟨_,rfl⟩
 ·rw[if_neg hj,if_neg hj];exact⟨_,rfl⟩
theorem call_int1:CallR X (.type "int") (λxs H Q=>(∃ i,xs=[.int i]/\Q (.int i) H)\/∃ k,xs=[.bl k]/\Q (.int (if k then 1 else 0)) H):=by
 intro pins s σ H xs us Q I r h
 rcases h with ⟨i,rfl,q⟩ | ⟨k,rfl,q⟩
 ·obtain⟨u,rfl,t,rfl⟩:=zCO r
  exact call_int_int ⟨.int i,H,I,⟨_,rfl⟩,q⟩
 ·obtain⟨u,rfl,r1⟩:=zCO r
  cases r1
  exact call_int_bool ⟨.int (if k then 1 else 0),H,I.tok _,⟨_,rfl⟩,q⟩
end
end L2
namespace L2
open PySem PySem.Spec PyProof.Rows
structure ObjM (h:Heap)(x dx C:Addr)(mA:Str->Option Value):Prop where
 obj:h.get? x=some (W.instObj C dx)
 ns:h.Ns1 dx mA
 ne:dx≠x
theorem zFn {h:Heap}{dx:Addr}{mA:Str->Option Value}(n:h.Ns1 dx mA):∃ od,h.get? dx=some od/\∀ name,W.lookIn name od=some (mA name):=by
 obtain⟨o,es,ep,ho,hd,hk,_,hm⟩:=n
 refine⟨o,ho,λname=>?_⟩
 have e:=hm name
 unfold nsFind findBy at e
 rw[<- Array.find?_toList] at e
 unfold W.lookIn
 rw[hd]
 dsimp only
 split
 ·rename_i y q
  rw[q] at e
  exact congrArg some e
 ·rename_i q
  rw[q] at e
  have a:es.toList.any (·.refKey)=false:=by
   rw[List.any_eq_false]
   intro y hy
   obtain⟨z,t,hkey⟩:=hk y (Array.mem_toList_iff.mp hy)
   simp[DictEntry.refKey,hkey]
  have a':¬ es.toList.any (·.refKey)=true:=by rw[a];exact Bool.false_ne_true
  rw[if_neg a']
  exact congrArg some e
theorem ObjM.look {h:Heap}{x dx C:Addr}{mA:Str->Option Value}(I:ObjM h x dx C mA):∃ od,W.InstAt h x (W.instObj C dx) C (some od)/\∀ name,W.lookIn name od=some (mA name) :=
 let ⟨od,ho,hl⟩:=zFn I.ns
 ⟨od,⟨I.obj,rfl,rfl,ho⟩,hl⟩
section
variable {prog:Program}{w:World}{A:Around}{E:Value->Shared->Prop}{s:Shared}{K:W.Frag}{x dx C f:Addr}{mA:Str->Option Value}{name:Str}{v:Value}
end
section
variable {P:Program}{w:World}{H H':Hp}{h h':Heap}{a C dx:Addr}{fs fs':List (Str×V)}
theorem zI7 (hok:HOk P w H h)(e:H a=some (.ins C dx fs)):∃ mA,ObjM h a dx C mA/\(∀ f,RelO (fs.lookup f) (mA f))/\PySem.Within mA (fs.map (·.1))/\fs.length<=1000/\H dx=some (.own a):=by
 obtain⟨d,z,ne,ob,mA,n,r,q⟩:=(show ObjOk P w H h a (.ins C dx fs) from hok a _ e)
 exact⟨mA,⟨ob,n,ne⟩,r,q,z,d⟩
end
structure Cls (K:W.Frag)(C:Addr):Prop where
 pg:W.plainGet K C Str.empty=true
 hd:W.hasDictIn K C=true
 po:W.plainOver K C=true
 sa:W.findIn K (.ref C) "__setattr__"=some (some (.builtin "object.__setattr__"))
theorem Cls.get {K:W.Frag}{C:Addr}(c:Cls K C)(f:Str):W.plainGet K C f=true:=c.pg
structure Con (K:W.Frag)(C:Addr)(f:Str)(v:V)(u:Value):Prop where
 at_:W.findIn K (.ref C) f=some (some u)
 rel:RelV v u
 get:W.specialIn K u "__get__"=some none
 cp:W.copiedNames.contains f=false
structure Meth (K:W.Frag)(C:Addr)(m:Str)(f:Addr):Prop where
 at_:W.findIn K (.ref C) m=some (some (.ref f))
 fn:W.isFn K (.ref f)=true
 kp:W.keepIn K (.ref f)=true
section
variable {X:Cx}{pins:List (Addr×Obj)}{σ:St}{H:Hp}{s:Shared}{a C dx:Addr}{fs:List (Str×V)}{f:Str}{v:V}{A:Around}{E:Value->Shared->Prop}
end
section
variable {X:Cx}{o e value:Expr}{f:Str}{pos pos' tpos:Pos}{ta tv:TE}
end
section
variable {X:Cx}{pins:List (Addr×Obj)}{σ:St}{H:Hp}{s:Shared}{A:Around}{E:Value->Shared->Prop}{Q:Value->Shared->Prop}{c:Value}{b:Bool}
inductive TyOf (K:W.Frag)(H:Hp):V->Value->Prop where
 | non:TyOf K H .non (.type "NoneType")
 | bl (x:Bool):TyOf K H (.bl x) (.type "bool")
 | int (i:Int):TyOf K H (.int i) (.type "int")
 | str (x:Str):TyOf K H (.str x) (.type "str")
 | flt (x:UInt64):TyOf K H (.flt x) (.type "float")
 | lst {a:Addr} {xs:List V} (e:H a=some (.lst xs)):TyOf K H (.ref a) (.type "list")
 | frz {a:Addr} {o:Obj} {xs:List V} (e:H a=some (.frz o (.lst xs))):TyOf K H (.ref a) (.type "list")
 | tup {a:Addr} {xs:List V} (e:H a=some (.tup xs)):TyOf K H (.ref a) (.type "tuple")
 | dK {a:Addr} {kvs:List (Key×V)} (e:H a=some (.dK kvs)):TyOf K H (.ref a) (.type "dict")
 | dT {a:Addr} {kvs:List (List Key×V)} (e:H a=some (.dT kvs)):TyOf K H (.ref a) (.type "dict")
 | ins {a C dx:Addr} {fs:List (Str×V)} (e:H a=some (.ins C dx fs)) (cl:Cls K C) (ha:W.findIn K (.ref C) "__class__"=some (some (.builtin "object.__class__")))
   (hn:W.specialIn K (.builtin "object.__class__") "__get__"=some (some (.builtin "getset_descriptor.__get__"))) (htk:W.takesIn K (.builtin "object.__class__")=some true)
   (hm:W.mroIn K C (.type "object")=some true):TyOf K H (.ref a) (.ref C)
theorem zFo {x:V}{u t:Value}(I:Inv X pins σ H s)(rx:RelV x u)(ty:TyOf X.K H x t)(e:W.kitOne X.K t c=some b)(h:∀ tk,Q (.bool b) { s with toks:=tk }) :
  wpAny (model X.prog X.w) A (call (.builtin "isinstance") [u,c]) Q E s:=by
 cases ty with
 | non=>cases (show u=Value.none from rx);exact W.kia_one W.kitx_none I.kIn True.intro e (λz=>nomatch z) h
 | bl y=>cases (show u=Value.bool y from rx);exact W.kia_one W.kitx_bool I.kIn True.intro e (λz=>nomatch z) h
 | int i=>obtain⟨t,q⟩:=(show ∃ t,u=Value.int i t from rx);cases q;exact W.kia_one W.kitx_int I.kIn True.intro e (λz=>nomatch z) h
 | str y=>obtain⟨t,q⟩:=(show ∃ t,u=Value.str y t from rx);cases q;exact W.kia_one W.kitx_str I.kIn True.intro e (λz=>nomatch z) h
 | flt y=>obtain⟨t,q⟩:=(show ∃ t,u=Value.float y t from rx);cases q;exact W.kia_one W.kitx_float I.kIn True.intro e (λz=>nomatch z) h
 | @lst a xs ea =>
  cases (show u=Value.ref a from rx)
  obtain⟨_,_,n,_,h1⟩:=(show ObjOk X.prog X.w H s.heap a (.lst xs) from I.hok a _ ea)
  exact W.kia_one W.kitx_list I.kIn ⟨_,h1,rfl⟩ e (λz=>nomatch z) h
 | @frz a ob xs ea =>
  cases (show u=Value.ref a from rx)
  obtain⟨_,_,_,n,_,h1⟩:=(show ObjOk X.prog X.w H s.heap a (.frz ob (.lst xs)) from I.hok a _ ea)
  exact W.kia_one W.kitx_list I.kIn ⟨_,h1,rfl⟩ e (λz=>nomatch z) h
 | @tup a xs ea =>
  cases (show u=Value.ref a from rx)
  obtain⟨_,_,_,p⟩:=(show ObjOk X.prog X.w H s.heap a (.tup xs) from I.hok a _ ea)
  obtain⟨o,h1,h2,_⟩:=p
  exact W.kia_one W.kitx_tuple I.kIn ⟨o,h1,h2⟩ e (λz=>nomatch z) h
 | @dK a kvs ea =>
  cases (show u=Value.ref a from rx)
  obtain⟨_,_,vs,_,p⟩:=(show ObjOk X.prog X.w H s.heap a (.dK kvs) from I.hok a _ ea)
  obtain⟨o,es,ep,h1,h2,_⟩:=p
  exact W.kia_one W.kitx_dict I.kIn ⟨o,h1,h2.1⟩ e (λz=>nomatch z) h
 | @dT a kvs ea =>
  cases (show u=Value.ref a from rx)
  obtain⟨_,_,xs,_,o,es,ep,h1,h2,_⟩:=(show ObjOk X.prog X.w H s.heap a (.dT kvs) from I.hok a _ ea)
  exact W.kia_one W.kitx_dict I.kIn ⟨o,h1,h2.1⟩ e (λz=>nomatch z) h
 | @ins a C dx fs ea cl ha hn htk hm =>
  cases (show u=Value.ref a from rx)
  obtain⟨mA,O,_⟩:=zI7 I.hok ea
  obtain⟨od,J,_⟩:=O.look
  exact W.kia_one (W.kitx_own (cl.get _) cl.hd ha hn htk hm) I.kIn J e (λz=>nomatch z) h
end
end L2
namespace L2
open PySem PySem.Spec PyProof.Rows
structure Room (k:Nat)(A:Around):Prop where
 hd:A.handled=none
 dp:A.depth+3*k+5<recursionLimit
 un:A.units+16*k+200<cLine
 gd:A.guards=some []
theorem Room.mono {j k:Nat}{A:Around}(r:Room k A)(h:j<=k):Room j A:=⟨r.hd,by have:=r.dp;omega,by have:=r.un;omega,r.gd⟩
theorem Room.deeper {k:Nat}{A:Around}(r:Room (k+1) A)(env:Env):Room k (A.deeper env) :=
 ⟨r.hd,by have:=r.dp;show A.depth+1+3*k+5<_;omega,by have:=r.un;show A.units+3+16*k+200<_;omega,r.gd⟩
theorem Room.depth {k:Nat}{A:Around}(r:Room k A):A.depth<recursionLimit:=by have:=r.dp;omega
theorem Room.units {k:Nat}{A:Around}(r:Room k A):A.units+64<cLine:=by have:=r.un;omega
theorem Room.units0 {k:Nat}{A:Around}(r:Room k A):A.units<cLine:=by have:=r.un;omega
def tNil:TA:=λ_ H Q=>Q [] H
def zE4 (ta:TE)(tr:TA):TA:=λσ H Q=>ta σ H λx H1=>tr σ H1 λxs H2=>Q (x::xs) H2
section
variable {X:Cx}{e:Expr}{es:List Expr}{te:TE}{t:TA}{pos:Pos}
theorem zIU:PA X [] tNil:=λ_ _ _ _ H Q I h=>Calls.spliced_nil ⟨[],H,I,.nil,h⟩
theorem zI8 (ha:PE X e te)(hr:PA X es t)(hs:starEach (e::es) X.env=(false,eval e X.env)::starEach es X.env:=by rfl):PA X (e::es) (zE4 te t):=by
 intro pos pins s σ H Q I h
 rw[hs]
 show wpAny _ _ (spliced ((false,eval e X.env)::backTo pos (starEach es X.env))) _ _ s
 refine Calls.spliced_cons (thn (ha pins s σ H _ I h) λu s1 ⟨x,H1,I1,r1,q1⟩=>?_)
 exact thn (hr pos pins s1 σ H1 _ I1 q1) λus s2 ⟨xs,H2,I2,r2,q2⟩=>⟨x::xs,H2,I2,.cons r1 r2,q2⟩
def tTup (t:TA):TE:=λσ H Q=>t σ H λxs H1=>xs.length<=sizeLine/\∀ p,H1 p=none->Q (.ref p) (upd H1 p (.tup xs))
def tLst (t:TA):TE:=λσ H Q=>t σ H λxs H1=>xs.length<=sizeLine/\∀ p,H1 p=none->Q (.ref p) (upd H1 p (.lst xs))
theorem zKv {x1}(h:PA X es t):PE X (.Tuple es x1 pos) (tTup t):=by
 intro pins s σ H Q I hq
 refine wpAny_Tuple_spliced (thn (h pos pins s σ H _ I hq) λus s1 ⟨xs,H1,I1,r,z,q⟩=>⟨by rw[<- r.length];exact z,?_⟩)
 have hf:H1 s1.heap.objs.size=none:=I1.hok.fresh (Nat.le_refl _)
 refine⟨.ref s1.heap.objs.size,upd H1 s1.heap.objs.size (.tup xs),I1.laid (t':=s1.toks) (λb u e=>Heap.get?_push_of_some _ e) (Nat.le_refl _) ?_,rfl,q _ hf⟩
 exact⟨z,us,r,⟨_,Heap.get?_push_size _ rfl,rfl,_,rfl⟩⟩
theorem zKw (h:PA X es t):PE X (.List es pos) (tLst t):=by
 intro pins s σ H Q I hq
 refine wpAny_List_spliced (thn (h pos pins s σ H _ I hq) λus s1 ⟨xs,H1,I1,r,z,q⟩=>⟨by rw[<- r.length];exact z,?_⟩)
 have hf:H1 s1.heap.objs.size=none:=I1.hok.fresh (Nat.le_refl _)
 refine⟨.ref s1.heap.objs.size,upd H1 s1.heap.objs.size (.lst xs),I1.laid (t':=s1.toks) (λb u e=>Heap.get?_push_of_some _ e) (Nat.le_refl _) ?_,rfl,q _ hf⟩
 exact⟨z,us,0,r,Heap.get?_push_size _ rfl⟩
end
abbrev Sp:=List V->Hp->VK->XK->Prop
abbrev CXT:=List Env->Hp->Shared->XK->Value->Shared->Prop
structure Env0 (P:Program)(w:World)(K:W.Frag)(mg:Str->Option Value)(base:Heap)(A:Around)(outer:List Env)(s:Shared)(H:Hp):Prop where
 frames:A.frames=some outer
 mod:Mod K mg base
 bs:∀ b o,base.get? b=some o->s.heap.get? b=some o/\H b=none
 bsz:base.objs.size<=s.heap.objs.size
 funs:s.heap.FunFrames base outer
 frf:∀ b∈frs outer,H b=none
 hok:HOk P w H s.heap
 bare:AllBare s.gens
def CE (outer:List Env)(P:Program)(w:World)(H:Hp)(s:Shared)(Q:VK)(u:Value)(s':Shared):Prop :=
 ∃ v H',s'.os=s.os/\AllBare s'.gens/\Un (frs outer) [] H H' s.heap s'.heap/\HOk P w H' s'.heap/\RelV v u/\Q v H'
def CR (CX:CXT)(outer:List Env)(P:Program)(w:World)(H:Hp)(s:Shared)(Q:VK)(E:XK)(r:Result)(s':Shared):Prop :=
 match r with
 | .ok (.ret u)=>CE outer P w H s Q u s'
 | .ok _=>False
 | .error e=>CX outer H s E e s'
structure FnOk (P:Program)(w:World)(K:W.Frag)(mg:Str->Option Value)(base:Heap)(CX:CXT)(k:Nat)(f:Addr)(fd:FuncData)(ps:List Str)(sp:Sp):Prop where
 len:∀ vs H Q E,sp vs H Q E->vs.length=ps.length
 run:∀ (A:Around) (outer:List Env) (s:Shared) (H:Hp) (args:Args) (us:List Value) (vs:List V) (Q:VK) (E:XK),Room k A->Env0 P w K mg base A outer s H->BindsTo s fd args (ps.zip us)->Vals vs us->sp vs H Q E ->
  codeAny (model P w) A (.call (.ref f) args) (CR CX outer P w H s Q E) s
section
variable {X:Cx}{pins:List (Addr×Obj)}{σ:St}{H:Hp}{s s':Shared}
theorem Inv.env0 (I:Inv X pins σ H s):Env0 X.prog X.w X.K X.mg X.base X.A X.stack s H :=
 ⟨I.ok.frames,I.ok.mod,I.bs,Nat.le_trans I.ok.bsz I.sz,I.stack,I.stkFree,I.hok,I.bare⟩
theorem Inv.after {Q:VK}{u:Value}(I:Inv X pins σ H s)(h:CE X.stack X.prog X.w H s Q u s'):EP X pins σ Q u s':=by
 obtain⟨v,H',os,bare,un,hok,r,q⟩:=h
 obtain⟨hh,g,d,t,os'⟩:=s'
 obtain rfl:os'=s.os:=os
 exact⟨v,H',I.call (h':=hh) (g':=g) (d':=d) (t':=t) (ch:=[]) un hok bare (λb z=>absurd z (by simp)),r,q⟩
end
def zI9 (sp:Sp)(dvs:List V)(E:XK)(t:TA):TE:=λσ H Q=>t σ H λvs H1=>sp (vs++dvs) H1 Q E
def Binds (K:W.Frag)(fd:FuncData)(ps:List Str)(ds:List Value):Prop :=
 ∀ (s:Shared) (us:List Value),K.In s.heap->(us++ds).length=ps.length->BindsTo s fd ⟨us,[]⟩ (ps.zip (us++ds))
theorem Binds.all {K:W.Frag}{fd:FuncData}{ps:List Str}(h:∀ us:List Value,us.length=ps.length->bindArgs fd ⟨us,[]⟩=pure (ps.zip us)):Binds K fd ps []:=λs us _ hl=>by
 rw[List.append_nil] at hl ⊢
 exact .of_eq (h us hl)
def zFp (CX:CXT)(X:Cx)(E:XK):Prop:=∀ (pins:List (Addr×Obj)) (σ:St) (H:Hp) (s:Shared) (e:Value) (s':Shared),Inv X pins σ H s->CX X.stack H s E e s'->X.xe e s'
section
variable {X:Cx}{CX:CXT}{k:Nat}{f C:Addr}{fd:FuncData}{ps:List Str}{sp:Sp}{dvs:List V}{ds:List Value}{E:XK}{x m:Str}{p pos apos:Pos}{e o:Expr}{es:List Expr}{ta:TE}{t:TA}
theorem zKx {pins:List (Addr×Obj)}{σ:St}{H:Hp}{s:Shared}{Q:VK}{us:List Value}{vs:List V}(F:FnOk X.prog X.w X.K X.mg X.base CX k f fd ps sp)(hr:Room k X.A)(hb:Binds X.K fd ps ds)(hd:Vals dvs ds)(hx:zFp CX X E)
  (I:Inv X pins σ H s) (r:Vals vs us) (h:sp (vs++dvs) H Q E):wpAny (model X.prog X.w) X.A (call (.ref f) us) (EP X pins σ Q) X.xe s:=by
 have r2:Vals (vs++dvs) (us++ds):=r.append hd
 have hl:(us++ds).length=ps.length:=by rw[<- r2.length];exact F.len _ _ _ _ h
 refine wpAny_call (codeAny_mono (F.run X.A X.stack s H ⟨us,[]⟩ (us++ds) (vs++dvs) Q E hr I.env0 (hb s us I.kIn hl) r2 h) λr s' hq=>?_)
 cases r with
 | error e=>exact hx pins σ H s e s' I hq
 | ok fl =>
  cases fl with
  | ret u=>exact I.after hq
  | next=>exact False.elim hq
  | brk=>exact False.elim hq
  | cont=>exact False.elim hq
theorem zJA (F:FnOk X.prog X.w X.K X.mg X.base CX k f fd ps sp)(hr:Room k X.A)(hg:Gl X x)(hm:X.mg x=some (.ref f))(hk:W.keepIn X.K (.ref f)=true)(hb:Binds X.K fd ps ds)(hd:Vals dvs ds)(hx:zFp CX X E)
  (ha:PA X (e::es) t) (hdb:(x == ("__debug__":Str))=false:=by decide) (he:starEach (e::es) X.env=(false,eval e X.env)::starEach es X.env:=by rfl) (hpl:(backTo pos (starEach es X.env)).any (·.1)=false:=by rfl) :
  PE X (.Call (.Name x p) (e::es) [] pos) (zI9 sp dvs E t):=by
 intro pins s σ H Q I h
 refine wpAny_Call_Name_kw (zIv I hg hm ?_ hdb)
 refine W.callWith_K (h₀:=X.base) I.ok.mod.kin hk (thn (ha pos pins s σ H _ I h) λus s1 ⟨vs,H1,I1,r,q⟩=>⟨I1.kIn,?_⟩) he hpl
 exact zKx F hr hb hd hx I1 r q
structure Mk (K:W.Frag)(C f:Addr):Prop where
 makes:W.makesIn K C=true
 init:W.findIn K (.ref C) "__init__"=some (some (.ref f))
 fn:W.isFn K (.ref f)=true
 kp:W.keepIn K (.ref C)=true
end
section
variable {X:Cx}{CX:CXT}{k:Nat}{f C:Addr}{fd:FuncData}{ps ks:List Str}{sp:Sp}{E:XK}{x m:Str}{p pos apos kpos:Pos}{e o:Expr}{es:List Expr}{kws:List Keyword}{te ta:TE}{t tk:TA}{nm:Option Str}
structure KBinds (K:W.Frag)(fd:FuncData)(ps ks:List Str)(g:List Value->List Value->List Value)(gV:List V->List V->List V):Prop where
 to:∀ (s:Shared) (us ws:List Value),K.In s.heap->(g us ws).length=ps.length->BindsTo s fd ⟨us,ks.zip ws⟩ (ps.zip (g us ws))
 rel:∀ {vs:List V} {us:List Value} {zs:List V} {ws:List Value},Vals vs us->Vals zs ws->Vals (gV vs zs) (g us ws)
variable {g:List Value->List Value->List Value}{gV:List V->List V->List V}
end
structure FnScope (N P:List Str)(sc:Scope):Prop where
 kind:sc.kind=.function
 co:sc.isCoroutine=false
 gen:sc.isGenerator=false
 nd:N.Nodup
 pre:N.take P.length=P
 par:∀ x∈P,sc.names.lookup x=some .local\/sc.names.lookup x=some .cell
 nofree:∀ y∈sc.names,y.2≠.free
theorem zDM {kindOf:Str->Option NameKind}{x:Str}:∀ {binds:List (Str×Value)} {m:Str->Option Value},(∀ v,(x,v)∉binds)->bindL kindOf binds m x=m x
 | [],_,_=>rfl
 | (n,v)::r,m,h=>by
  unfold bindL
  rw[zDM λw hw=>h w (List.mem_cons_of_mem _ hw)]
  split
  ·have:x≠n:=by rintro rfl;exact h v List.mem_cons_self
   simp[this]
  ·rfl
theorem zDN {kindOf:Str->Option NameKind}{x:Str}:∀ {binds:List (Str×Value)} {m:Str->Option Value},(∀ v,(x,v)∉binds)->bindC kindOf binds m x=m x
 | [],_,_=>rfl
 | (n,v)::r,m,h=>by
  unfold bindC
  rw[zDN λw hw=>h w (List.mem_cons_of_mem _ hw)]
  split
  ·rfl
  ·have:x≠n:=by rintro rfl;exact h v List.mem_cons_self
   simp[this]
theorem zDO {kindOf:Str->Option NameKind}{x:Str}{v:Value}:∀ {P:List Str} {vs:List Value} {i:Nat} {m:Str->Option Value},P.Nodup->P[i]?=some x->vs[i]?=some v->kindOf x=some .local ->
  bindL kindOf (P.zip vs) m x=some v
 | [],_,_,_,_,h,_,_=>by simp at h
 | _::_,[],_,_,_,_,h,_=>by simp at h
 | p::P,w::vs,0,m,nd,h1,h2,hk=>by
  simp at h1 h2;subst h1;subst h2
  show bindL kindOf ((p,w)::P.zip vs) m p=_
  unfold bindL
  rw[zDM λv hv=>(List.nodup_cons.mp nd).1 (List.of_mem_zip hv).1,if_pos hk]
  simp
 | p::P,w::vs,i+1,m,nd,h1,h2,hk=>by
  show bindL kindOf ((p,w)::P.zip vs) m x=_
  unfold bindL
  exact zDO (i:=i) (List.nodup_cons.mp nd).2 (by simpa using h1) (by simpa using h2) hk
theorem zDP {kindOf:Str->Option NameKind}{x:Str}{v:Value}:∀ {P:List Str} {vs:List Value} {i:Nat} {m:Str->Option Value},P.Nodup->P[i]?=some x->vs[i]?=some v->kindOf x≠some .local ->
  bindC kindOf (P.zip vs) m x=some v
 | [],_,_,_,_,h,_,_=>by simp at h
 | _::_,[],_,_,_,_,h,_=>by simp at h
 | p::P,w::vs,0,m,nd,h1,h2,hk=>by
  simp at h1 h2;subst h1;subst h2
  show bindC kindOf ((p,w)::P.zip vs) m p=_
  unfold bindC
  rw[zDN λv hv=>(List.nodup_cons.mp nd).1 (List.of_mem_zip hv).1,if_neg hk]
  simp
 | p::P,w::vs,i+1,m,nd,h1,h2,hk=>by
  show bindC kindOf ((p,w)::P.zip vs) m x=_
  unfold bindC
  exact zDP (i:=i) (List.nodup_cons.mp nd).2 (by simpa using h1) (by simpa using h2) hk
def start (N:List Str)(vs:List V):St:=vs.map some++List.replicate (N.length-vs.length) none
def cxOf (CX:CXT)(P:Program)(w:World)(K:W.Frag)(mg:Str->Option Value)(base:Heap)(N:List Str)(qual:Str)(scope:Scope)(f:Addr)(cd:Value)(A:Around)(outer:List Env)(s:Shared)(H:Hp)(E:XK):Cx where
 prog:=P
 w:=w
 K:=K
 mg:=mg
 base:=base
 A:=A.deeper (envOfC qual scope s.heap.objs.size f cd)
 N:=N
 s₀:=s
 H₀:=H
 env:=envOfC qual scope s.heap.objs.size f cd
 outer:=outer
 stack:=envOfC qual scope s.heap.objs.size f cd::outer
 ex:=[]
 calm:=true
 fn:=λ_=>true
 pn:=[]
 xe:=λe s'=>wpAny (model P w) (A.deeper (envOfC qual scope s.heap.objs.size f cd)) (leaving (envOfC qual scope s.heap.objs.size f cd) e) (λ_ s''=>CX outer H s E e s'') (λe' s''=>CX outer H s E e' s'') s'
theorem zER {sc:Scope}{n:Nat}{x:Str}(h:sc.names.lookup x=some .cell):∃ c,(cellsFrom n sc.names []).lookup x=some c:=by
 have q:=W.cellsFrom_some sc.names n [] (.inl h)
 exact Option.isSome_iff_exists.mp q
theorem zFq {CX:CXT}{P:Program}{w:World}{K:W.Frag}{mg:Str->Option Value}{base:Heap}{N ps:List Str}{qual:Str}{scope:Scope}{f:Addr}{cd:Value}{A:Around}{outer:List Env}{s s1:Shared}{H:Hp}{E:XK}{us:List Value}{vs:List V}
  (S:FnScope N ps scope) (hd:A.handled=none) (e0:Env0 P w K mg base A outer s H) (hl:vs.length=ps.length) (r:Vals vs us)
  (x:InCallC s s.heap.objs.size (bindL (envOfC qual scope s.heap.objs.size f cd).kindOf (ps.zip us) λ_=>none) (cellsFrom (s.heap.objs.size+1) scope.names []) (bindC (envOfC qual scope s.heap.objs.size f cd).kindOf (ps.zip us) λ_=>none) s1) :
  Inv (cxOf CX P w K mg base N qual scope f cd A outer s H E) [] (start N vs) H s1:=by
 have hpl:ps.length<=N.length:=by have:=congrArg List.length S.pre;rw[List.length_take] at this;omega
 obtain⟨h1,tk,rfl,hk⟩:=x.done
 have noA:∀ b:Addr,b∉(cxOf CX P w K mg base N qual scope f cd A outer s H E).ex:=λb z=>absurd (show b∈([]:List Addr) from z) (by simp)
 refine⟨⟨e0.mod,S.kind,rfl,rfl,Nat.le_refl _,λy z c h1 h2=>?_,λy hy=>?_,λy c _ h=>?_,λ_=>hd,Around.frames_deeper e0.frames,.inr ⟨rfl,rfl⟩,λb z=>absurd z (noA b),e0.bs,e0.bsz,λb _ _=>noA b,λb z=>absurd z (noA b),e0.funs,e0.frf⟩,
  rfl,e0.bare,Un.kept hk,⟨_,x.toInCall.ns,λi y v h1 h2 h3=>?_⟩,λy c h=>⟨_,x.cell y c h⟩,e0.hok.fresh (Nat.le_refl _),λy c h=>?_,λp hp=>absurd (show p∈([]:List (Addr×Obj)) from hp) (by simp),e0.hok.kept hk,?_⟩
 ·exact name_of_addr x.apart (PySem.mem_of_lookup h1) (PySem.mem_of_lookup h2)
 ·have hy:scope.names.lookup y=some .cell\/scope.names.lookup y=some .free:=hy
  rcases hy with hy | hy
  ·exact zER hy
  ·exact absurd rfl (S.nofree _ (PySem.mem_of_lookup hy))
 ·exact Nat.le_of_lt (x.above y c (PySem.mem_of_lookup h))
 ·have hi:i<vs.length:=by
   unfold start at h2
   by_cases hi:i<vs.length
   ·exact hi
   ·rw[List.getElem?_append_right (by simpa using hi)] at h2
    rw[List.getElem?_replicate] at h2
    split at h2<;>cases h2
  have ha:vs[i]?=some v:=by
   unfold start at h2
   rw[List.getElem?_append_left (by simpa using hi),List.getElem?_map] at h2
   cases e:vs[i]? with
   | none=>rw[e] at h2;cases h2
   | some a=>rw[e] at h2;cases h2;rfl
  obtain⟨u,hu,rv⟩:=r.get ha
  have hp:ps[i]?=some y:=by
   rw[<- S.pre,List.getElem?_take_of_lt (by omega)];exact h1
  have ndP:ps.Nodup:=by rw[<- S.pre];exact S.nd.sublist (List.take_sublist _ _)
  refine⟨u,rv,?_⟩
  rcases S.par y (List.mem_of_getElem? hp) with k | k
  ·exact .inl ⟨k,zDO ndP hp hu k⟩
  ·obtain⟨c,e⟩:=zER (n:=s.heap.objs.size+1) k
   refine .inr ⟨.inl k,c,e,?_⟩
   have q:=x.cell y c e
   rw[zDP ndP hp hu (by show scope.names.lookup y≠_;rw[k];decide)] at q
   exact q
 ·exact e0.hok.fresh (Nat.le_of_lt (x.above y c (PySem.mem_of_lookup h)))
 ·unfold start
  show _=N.length
  rw[List.length_append,List.length_map,List.length_replicate]
  omega
theorem zML {CX:CXT}{P:Program}{w:World}{K:W.Frag}{mg:Str->Option Value}{base:Heap}{k:Nat}{f:Addr}{name qual:Str}{params:Arguments}{body:List Stmt}{scope:Scope}{dV kV doc pm cdv ct oc:Value}{an od:Option Addr}
  {osl:Array (Option Value)} {N ps:List Str} {sp:Sp} (lk:K.lookup f=some ⟨oc,od,.func (W.fnOf name qual params body scope dV kV doc pm an cdv ct),osl⟩) (hcd:W.codeIn K cdv qual=true) (S:FnScope N ps scope)
  (len:∀ vs H Q E,sp vs H Q E->vs.length=ps.length)
  (hbody:∀ (A:Around) (outer:List Env) (s:Shared) (H:Hp) (vs:List V) (Q:VK) (E:XK),Room k (A.deeper (envOfC qual scope s.heap.objs.size f cdv))->sp vs H Q E ->
   ∃ t,PSs (cxOf CX P w K mg base N qual scope f cdv A outer s H E) body t/\t { nx:=λ_ H'=>Q .non H',rt:=Q } (start N vs) H) :
  FnOk P w K mg base CX (k+1) f (W.fnOf name qual params body scope dV kV doc pm an cdv ct) ps sp:=by
 refine⟨len,λA outer s H args us vs Q E hr e0 hb r hsp=>?_⟩
 have hl:=len _ _ _ _ hsp
 have KX:K.In s.heap:=e0.mod.kin.keeps λb o e=>(e0.bs b o e).1
 have lim:s.heap.NoLimit:=e0.mod.nolimit.keeps λb o e=>(e0.bs b o e).1
 have hkind:∀ y∈ps.zip us,scope.names.lookup y.1=some .local\/(scope.names.lookup y.1=some .cell/\((cellsFrom (s.heap.objs.size+1) scope.names []).lookup y.1).isSome=true):=λ⟨n,v⟩ hy=>by
  rcases S.par n (List.of_mem_zip hy).1 with q | q
  ·exact .inl q
  ·exact .inr ⟨q,W.cellsFrom_some _ _ _ (.inl q)⟩
 refine codeAny_call_function hr.depth (KX _ _ lk) rfl S.co S.gen rfl (W.codeRec_of KX hcd) (hb _ _ _ _ ?_)
 refine wpAny_newFunctionEnv_cells S.kind hkind λenv he s1 x=>?_
 subst he
 refine⟨lim.keeps x.toInCall.keep,codeAny_func ?_⟩
 obtain⟨t,ht,hq⟩:=hbody A outer s H vs Q E (hr.deeper _) hsp
 have I:Inv (cxOf CX P w K mg base N qual scope f cdv A outer s H E) [] (start N vs) H s1:=zFq S hr.hd e0 hl r x
 refine wpAny_mono (ht [] s1 (start N vs) H _ I hq) (λfl s' hs=>?_) λe s' hs=>hs
 have fin:∀ {σ':St} {H':Hp} {v:V} {u:Value},Inv (cxOf CX P w K mg base N qual scope f cdv A outer s H E) [] σ' H' s'->RelV v u->Q v H'->CE outer P w H s Q u s' :=
  λ{σ' H' v u} J rv q=>⟨v,H',J.os,J.bare,J.base,J.hok,rv,q⟩
 cases fl with
 | ret u =>
  obtain⟨v,σ',H',J,rv,q⟩:=hs
  exact fin J rv q
 | next =>
  obtain⟨σ',H',J,q⟩:=hs
  exact fin (v:=V.non) (u:=Value.none) J rfl q
 | brk =>
  obtain⟨_,_,_,q⟩:=hs
  exact False.elim q
 | cont =>
  obtain⟨_,_,_,q⟩:=hs
  exact False.elim q
end L2
namespace L2
open PySem PySem.Spec PyProof.Rows
section
variable {X:Cx}{x:Str}{p pos:Pos}{e:Expr}{es:List Expr}{t:TA}{id T:String}{r:List V->Hp->VK->Prop}
def tCB (r:List V->Hp->VK->Prop)(t:TA):TE:=λσ H Q=>t σ H λvs H1=>r vs H1 Q
theorem zHD (hc:CallR X (.builtin id) r)(hg:Gl X x)(hm:X.mg x=none)(hv:bootBuiltins x=some (.builtin id))(ha:PA X (e::es) t)(hn:x≠"__name__":=by decide)(hdb:(x == ("__debug__":Str))=false:=by decide)
  (he:starEach (e::es) X.env=(false,eval e X.env)::starEach es X.env:=by rfl) (hpl:(backTo pos (starEach es X.env)).any (·.1)=false:=by rfl):PE X (.Call (.Name x p) (e::es) [] pos) (tCB r t):=by
 intro pins s σ H Q I h
 refine wpAny_Call_Name_kw (zBh I hg hm hv ?_ hn hdb)
 exact PyProof.Rows.callWith_builtin1 (thn (ha pos pins s σ H _ I h) λus s1 ⟨vs,H1,I1,r1,q1⟩=>hc pins s1 σ H1 vs us Q I1 r1 q1) he hpl
theorem zFr (hc:CallR X (.type T) r)(hg:Gl X x)(hm:X.mg x=none)(hv:bootBuiltins x=some (.type T))(ha:PA X (e::es) t)(hn:x≠"__name__":=by decide)(hdb:(x == ("__debug__":Str))=false:=by decide)
  (he:starEach (e::es) X.env=(false,eval e X.env)::starEach es X.env:=by rfl) (hpl:(backTo pos (starEach es X.env)).any (·.1)=false:=by rfl):PE X (.Call (.Name x p) (e::es) [] pos) (tCB r t):=by
 intro pins s σ H Q I h
 refine wpAny_Call_Name_kw (zBh I hg hm hv ?_ hn hdb)
 exact PyProof.Rows.callWith_type1 (thn (ha pos pins s σ H _ I h) λus s1 ⟨vs,H1,I1,r1,q1⟩=>hc pins s1 σ H1 vs us Q I1 r1 q1) he hpl
end
end L2
namespace HT
open PySem PyProof.Rows
section
open PySem.SeqAt
open PySem.AutoSeq1 (wpAny_loadPart')
open PySem.MeetsSeq PySem.MeetsSeq2 PySem.MeetsSeq3
end
section
variable {prog:Program}{w:World}{A:Around}{E:Value->Shared->Prop}{s:Shared}
def sIx (n d:Nat):Option Int->Nat
 | none=>d
 | some v=>if v<0 then (v+(n:Int)).toNat else min v.toNat n
theorem sIx_nat (n d k:Nat):sIx n d (some (k:Int))=min k n:=by
 show (if (k:Int)<0 then ((k:Int)+(n:Int)).toNat else min (k:Int).toNat n)=min k n
 rw[if_neg (by omega),Int.toNat_natCast]
end
end HT
namespace L2
open PySem PySem.Spec PyProof.Rows
abbrev TO:=St->Hp->(Option Int->Hp->Prop)->Prop
def PO (X:Cx)(e:Option Expr)(t:TO):Prop :=
 ∀ (pins:List (Addr×Obj)) (s:Shared) (σ:St) (H:Hp) (Q:Option Int->Hp->Prop),Inv X pins σ H s->t σ H Q ->
  wpAny (model X.prog X.w) X.A (evalPart e X.env) (λu s'=>∃ o H',Inv X pins σ H' s'/\IsPart u o/\Q o H') X.xe s
def zFs:TO:=λ_ H Q=>Q none H
theorem zAn {ns:List Int}:∀ {us:List Value},Vals (ns.map V.int) us->IntsAre us ns:=by
 induction ns with
 | nil=>intro us r;rw[List.map_nil] at r;cases r;exact .nil
 | cons n ns ih =>
  intro us r
  rw[List.map_cons] at r
  cases r with
  | cons r1 r2 =>
   obtain⟨t,e⟩:=r1
   subst e
   exact .cons n t (ih r2)
section
variable {X:Cx}{e:Expr}{te:TE}{lo hi:Option Expr}{tl th:TO}{pos p2:Pos}
theorem zJB:PO X none zFs:=by
 intro pins s σ H Q I h
 rw[evalPart_none]
 exact wpAny_pure ⟨none,H,I,.none,h⟩
def SlR (X:Cx)(r:V->Option Int->Option Int->Hp->VK->Prop):Prop :=
 ∀ (pins:List (Addr×Obj)) (s:Shared) (σ:St) (H:Hp) (x:V) (v vl vu:Value) (lo hi:Option Int) (sl:Addr) (Q:VK),Inv X pins σ H s->RelV x v->s.heap.IsSliceOf sl vl vu .none->IsPart vl lo->IsPart vu hi->r x lo hi H Q ->
  ∃ T id,typeLookup (.type T) "__getitem__"=pure (some (.builtin id))/\s.TypeIs v T/\wpAny (model X.prog X.w) X.A (getItem v (.ref sl)) (EP X pins σ Q) X.xe s
def tSl (r:V->Option Int->Option Int->Hp->VK->Prop)(te:TE)(tl th:TO):TE:=λσ H Q=>te σ H λx H1=>tl σ H1 λl H2=>th σ H2 λu H3=>r x l u H3 Q
theorem zHE {r:V->Option Int->Option Int->Hp->VK->Prop}(hr:SlR X r)(he:PE X e te)(hl:PO X lo tl)(hu:PO X hi th):PE X (.Subscript e (.Slice lo hi none p2) pos) (tSl r te tl th):=by
 intro pins s σ H Q I h
 refine Subscript_ (thn (he pins s σ H _ I h) λv s1 ⟨x,H1,I1,r1,q1⟩=>?_)
 refine wpAny_Slice (thn (hl pins s1 σ H1 _ I1 q1) λvl s2 ⟨l,H2,I2,pl,q2⟩=>thn (hu pins s2 σ H2 _ I2 q2) λvu s3 ⟨u,H3,I3,pu,q3⟩=>?_)
 rw[evalPart_none]
 refine wpAny_pure ?_
 have I4:Inv X pins σ H3 { s3 with heap:=s3.heap.push { cls:=.type "slice",data:=.fields #[vl,vu,.none] } }:=I3.kept (t':=s3.toks) λb ob q=>Heap.get?_push_of_some _ q
 obtain⟨T,id,hT,ht,hg⟩:=hr pins { s3 with heap:=s3.heap.push { cls:=.type "slice",data:=.fields #[vl,vu,.none] } } σ H3 x v vl vu l u s3.heap.objs.size Q I4 r1 (Heap.IsSliceOf.new ..) pl pu q3
 show wpAny (model X.prog X.w) X.A (subscriptTail e (.Slice lo hi none p2) v (.ref s3.heap.objs.size)) (EP X pins σ Q) X.xe { s3 with heap:=s3.heap.push { cls:=.type "slice",data:=.fields #[vl,vu,.none] } }
 exact tail_any (ops:=[.ref s3.heap.objs.size,v]) ht hT hg (by with_unfolding_all rfl)
def cutV (xs:List V)(lo hi:Option Int):List V:=(xs.drop (HT.sIx xs.length 0 lo)).take (HT.sIx xs.length xs.length hi-HT.sIx xs.length 0 lo)
theorem zD2 (xs:List V)(lo hi:Option Int):(cutV xs lo hi).length<=xs.length:=by
 unfold cutV
 rw[List.length_take,List.length_drop]
 omega
end
end L2
namespace L2
open PySem PySem.Spec PyProof.Rows
def ixN (n:Nat)(i:Int):Option Nat:=if 0<=i then (if i<n then some i.toNat else none) else if -(n:Int)<=i then some (i+n).toNat else none
def atI {α:Type}(xs:List α)(i:Int):Option α:=(ixN xs.length i).bind λj=>xs[j]?
theorem zFt {n:Nat}{i:Int}{j:Nat}(h:ixN n i=some j):seqIndex? i n=some j/\j<n/\-(n:Int)<=i/\i<n:=by
 unfold ixN at h
 by_cases h0:0<=i
 ·rw[if_pos h0] at h
  by_cases h1:i<n
  ·rw[if_pos h1] at h
   have e:i.toNat=j:=Option.some.inj h
   exact⟨by rw[seqIndex_of h0 h1,e],by omega,by omega,h1⟩
  ·rw[if_neg h1] at h;cases h
 ·rw[if_neg h0] at h
  by_cases h1:-(n:Int)<=i
  ·rw[if_pos h1] at h
   have e:(i+n).toNat=j:=Option.some.inj h
   exact⟨by rw[seqIndex_neg (by omega) h1,e],by omega,h1,by omega⟩
  ·rw[if_neg h1] at h;cases h
theorem zFu {α:Type}{xs:List α}{i:Int}{v:α}(h:atI xs i=some v):∃ j,seqIndex? i xs.length=some j/\xs[j]?=some v/\j<xs.length/\-(xs.length:Int)<=i/\i<xs.length:=by
 unfold atI at h
 cases e:ixN xs.length i with
 | none=>rw[e] at h;cases h
 | some j =>
  rw[e] at h
  obtain⟨h1,h2,h3,h4⟩:=zFt e
  exact⟨j,h1,h,h2,h3,h4⟩
theorem zFv {α:Type}{xs:List α}{j:Nat}{v:α}(h:xs[j]?=some v):atI xs (j:Int)=some v:=by
 have hj:j<xs.length:=(List.getElem?_eq_some_iff.mp h).1
 have e:ixN xs.length (j:Int)=some j:=by
  unfold ixN
  rw[if_pos (by omega),if_pos (by omega)];simp
 unfold atI;rw[e];exact h
theorem zCI {α:Type}(xs:List α)(v:α):atI (xs++[v]) (-1)=some v:=by
 have hl:(xs++[v]).length=xs.length+1:=by simp
 have e:ixN (xs++[v]).length (-1)=some xs.length:=by
  unfold ixN
  rw[hl,if_neg (by decide),if_pos (by omega)]
  congr 1
  omega
 unfold atI
 rw[e]
 show (xs++[v])[xs.length]?=some v
 simp
def zD3 (b:Expr):Prop:=∀ o i,subscripted b false o i=operate [o,i] (getItem o i)
def IxR (X:Cx)(r:R2):Prop :=
 ∀ (value slice:Expr) (pins:List (Addr×Obj)) (s:Shared) (σ:St) (H:Hp) (x y:V) (v u:Value) (Q:VK),Inv X pins σ H s->RelV x v->RelV y u->r x y H Q ->
  subscripted slice false v u=operate [v,u] (getItem v u)->wpAny (model X.prog X.w) X.A (subscriptTail value slice v u) (EP X pins σ Q) X.xe s
def MtR (X:Cx)(id:String)(r:V->List V->Hp->VK->Prop):Prop :=
 ∀ (pins:List (Addr×Obj)) (s:Shared) (σ:St) (H:Hp) (x:V) (xs:List V) (v:Value) (us:List Value) (Q:VK),Inv X pins σ H s->RelV x v->Vals xs us->r x xs H Q ->
  wpAny (model X.prog X.w) X.A (call (.builtin id) (v::us)) (EP X pins σ Q) X.xe s
section
variable {X:Cx}{a b:Expr}{ta tb:TE}{pos:Pos}
theorem zMM {r:R2}(hr:IxR X r)(ha:PE X a ta)(hb:PE X b tb)(hs:zD3 b):PE X (.Subscript a b pos) (tOp r ta tb):=by
 intro pins s σ H Q I h
 exact Subscript_ (binT ha hb I h λv u s2 x y H2 I2 rx ry q=>hr a b pins s2 σ H2 x y v u Q I2 rx ry q (hs _ _))
def rIxL (K:W.Frag):R2:=λx y H Q=>∃ p xs i v,x=.ref p/\y=.int i/\SqL K H p xs/\atI xs i=some v/\Q v H
def rIxT (K:W.Frag):R2:=λx y H Q=>∃ p xs i v,x=.ref p/\y=.int i/\SqT K H p xs/\atI xs i=some v/\Q v H
theorem zJC:IxR X (rIxL X.K):=by
 intro value slice pins s σ H x y v u Q I rx ry h hs
 obtain⟨p,xs,i,z,rfl,rfl,hq,he,q⟩:=h
 cases rx
 obtain⟨t,rfl⟩:=ry
 obtain⟨its,r,pl,hz⟩:=I.list hq
 obtain⟨j,h1,h2,h3,h4,h5⟩:=zFu he
 obtain⟨w,ew,rw'⟩:=r.get h2
 have hl:=r.length
 have hn:=zDL
 have fin:EP X pins σ Q w s:=⟨z,H,I,rw',q⟩
 by_cases h0:0<=i
 ·have hj:i.toNat=j:=by
   rw[seqIndex_of h0 h5] at h1
   exact Option.some.inj h1
  exact item_listR pl.isList h0 (by omega) (by rw[hj];simpa using ew) fin hs
 ·have hj:(i+(its.toArray.size:Int)).toNat=j:=by
   rw[seqIndex_neg (by omega) h4] at h1
   rw[List.size_toArray,<- hl]
   exact Option.some.inj h1
  exact subscriptTail_builtinR (x:=w) pl.isList.typeIs slot_list_getitem.lookup
   (wpAny_getItem_list_neg (Q:=λr s'=>r=w/\EP X pins σ Q r s') pl.isList (by omega) (by rw[List.size_toArray]<;>omega) (by omega) (by rw[hj];simpa using ew) ⟨rfl,fin⟩) hs
theorem zKy:IxR X (rIxT X.K):=by
 intro value slice pins s σ H x y v u Q I rx ry h hs
 obtain⟨p,xs,i,z,rfl,rfl,hq,he,q⟩:=h
 cases rx
 obtain⟨t,rfl⟩:=ry
 obtain⟨its,r,pl,hz⟩:=I.tuple hq
 obtain⟨j,h1,h2,h3,h4,h5⟩:=zFu he
 obtain⟨w,ew,rw'⟩:=r.get h2
 have hl:=r.length
 have hn:=zDL
 have fin:EP X pins σ Q w s:=⟨z,H,I,rw',q⟩
 exact subscriptTail_builtinR (x:=w) pl.typeIs slot_tuple_getitem.lookup
  (getItem_tuple (j:=j) (Q:=λr s'=>r=w/\EP X pins σ Q r s') pl (by omega) (by omega) (by rw[List.size_toArray,<- hl];exact h1) (by simpa using ew) ⟨rfl,fin⟩) hs
theorem zE5 (its:List Value)(n j:Nat)(u:Value):Obj.mapSeq (·.setIfInBounds j u) { cls:=.type "list",data:=.seq its.toArray n }={ cls:=.type "list",data:=.seq (its.set j u).toArray n }:=by
 simp[Obj.mapSeq]
theorem Inv.lst {pins:List (Addr×Obj)}{σ:St}{H:Hp}{s:Shared}{p:Addr}{xs:List V}(I:Inv X pins σ H s)(h:H p=some (.lst xs)) :
  ∃ (its:List Value) (n:Nat),Vals xs its/\s.heap.get? p=some { cls:=.type "list",data:=.seq its.toArray n }/\xs.length<=sizeLine:=by
 obtain⟨z,its,n,r,e⟩:=I.hok p _ h
 exact⟨its,n,r,e,z⟩
theorem Inv.lstUpd {pins:List (Addr×Obj)}{σ:St}{H:Hp}{s:Shared}{p:Addr}{xs ys:List V}{its its':List Value}{n n':Nat}{f:Obj->Obj}(I:Inv X pins σ H s)(h:H p=some (.lst xs))
  (ho:s.heap.get? p=some { cls:=.type "list",data:=.seq its.toArray n }) (hf:f { cls:=.type "list",data:=.seq its.toArray n }={ cls:=.type "list",data:=.seq its'.toArray n' }) (r:Vals ys its') (hz:ys.length<=sizeLine) (t:Nat) :
  Inv X pins σ (upd H p (.lst ys)) { s with heap:=s.heap.update p f,toks:=t }:=by
 have e:(s.heap.update p f).get? p=some { cls:=.type "list",data:=.seq its'.toArray n' }:=by
  rw[Heap.get?_update_self f ho (by rw[hf]<;>rfl),hf]
 refine I.write (x:=p) (e:=p) (by rw[h];trivial) (.inl rfl) (λb u hb q=>(Heap.get?_update_other _ _ (Ne.symm hb)).trans q) ⟨_,e⟩ ?_
 exact⟨hz,its',n',r,e⟩
def zMN:V->V->V->Hp->(Hp->Prop)->Prop:=λo i v H Q=>∃ p xs k j,o=.ref p/\i=.int k/\H p=some (.lst xs)/\ixN xs.length k=some j/\Q (upd H p (.lst (xs.set j v)))
theorem zHF:PSet X zMN:=by
 intro pins s σ H o i v ov iv u Q I ro ri rv h
 obtain⟨p,xs,k,j,rfl,rfl,hp,hj,q⟩:=h
 cases ro
 obtain⟨t,rfl⟩:=ri
 obtain⟨its,n,r,ho,hz⟩:=I.lst hp
 obtain⟨h1,h2,h3,h4⟩:=zFt hj
 have hl:=r.length
 have hn:=zDL
 have I':Inv X pins σ (upd H p (.lst (xs.set j v))) { s with heap:=s.heap.update p (Obj.mapSeq (·.setIfInBounds j u)) } :=
  I.lstUpd hp ho (zE5 its n j u) (r.set rv j) (by rw[List.length_set];exact hz) s.toks
 by_cases h0:0<=k
 ·have hk:k.toNat=j:=by
   rw[seqIndex_of h0 h4] at h1
   exact Option.some.inj h1
  exact W.ki_setAt ho h0 (by omega) (by rw[List.size_toArray,<- hl];exact h4) (by rw[hk];exact⟨_,I',q⟩)
 ·have hk:(k+(its.toArray.size:Int)).toNat=j:=by
   rw[seqIndex_neg (by omega) h3] at h1
   rw[List.size_toArray,<- hl]
   exact Option.some.inj h1
  exact W.ki_setBack ho (by omega) (by rw[List.size_toArray,<- hl];exact h3) (by omega) (by rw[hk];exact⟨_,I',q⟩)
theorem zDQ (lo hi:Option Int)(n:Nat):(sliceBounds lo hi none n).1=((HT.sIx n 0 lo:Nat):Int)/\(sliceBounds lo hi none n).2.1=((HT.sIx n n hi:Nat):Int)/\(sliceBounds lo hi none n).2.2=1:=by
 refine⟨?_,?_,rfl⟩
 ·cases lo with
  | none=>simp[sliceBounds,HT.sIx]
  | some i =>
   simp only[sliceBounds,HT.sIx,Option.getD_none,show (1:Int) > 0 by decide,if_true]
   by_cases h:i<0
   ·simp only[h,if_true]<;>omega
   ·simp only[h,if_false]<;>omega
 ·cases hi with
  | none=>simp[sliceBounds,HT.sIx]
  | some i =>
   simp only[sliceBounds,HT.sIx,Option.getD_none,show (1:Int) > 0 by decide,if_true]
   by_cases h:i<0
   ·simp only[h,if_true]<;>omega
   ·simp only[h,if_false]<;>omega
theorem zCw (its:List Value)(lo hi:Option Int):slicePick its.toArray lo hi none=((its.drop (HT.sIx its.length 0 lo)).take (HT.sIx its.length its.length hi-HT.sIx its.length 0 lo)).toArray:=by
 obtain⟨h1,h2,h3⟩:=zDQ lo hi its.toArray.size
 unfold slicePick
 rw[h1,h2,h3]
 simp only[sliceRange_one,pick_run,List.size_toArray]<;>rfl
def rSlL (K:W.Frag):V->Option Int->Option Int->Hp->VK->Prop:=λx lo hi H Q=>∃ a xs,x=.ref a/\SqL K H a xs/\∀ p,H p=none->Q (.ref p) (upd H p (.lst (cutV xs lo hi)))
theorem zJD:SlR X (rSlL X.K):=by
 intro pins s σ H x v vl vu lo hi sl Q I rx hs pl pu h
 obtain⟨a,xs,rfl,hx,q⟩:=h
 cases rx
 obtain⟨its,r,ht,hz⟩:=I.list hx
 have hlen:=r.length
 refine⟨"list",_,slot_list_getitem.lookup,ht.isList.typeIs,?_⟩
 refine wpAny_getItem_list_slice ht.isList hs pl pu .none (by simp) ?_ (by rw[List.size_toArray]<;>omega)
 rw[zCw,<- hlen]
 refine⟨.ref s.heap.objs.size,_,I.laid (t':=s.toks) (o:=.lst (cutV xs lo hi)) (λb ob q=>Heap.get?_push_of_some _ q) (Nat.le_refl _) ?_,rfl,q _ (I.hok.fresh (Nat.le_refl _))⟩
 exact⟨Nat.le_trans (zD2 xs lo hi) hz,_,0,(r.drop (HT.sIx xs.length 0 lo)).take (HT.sIx xs.length xs.length hi-HT.sIx xs.length 0 lo),Heap.get?_push_size _ rfl⟩
theorem call_len_seq:CallR X (.builtin "len") (λxs H Q=>∃ p ys,xs=[.ref p]/\(SqL X.K H p ys\/SqT X.K H p ys)/\Q (.int ys.length) H):=by
 intro pins s σ H xs us Q I r h
 obtain⟨p,ys,rfl,hq,q⟩:=h
 obtain⟨u,rfl,rx⟩:=zCO r
 cases rx
 have hn:=zDL
 rcases hq with hq | hq
 ·obtain⟨its,r',pl,hz⟩:=I.list hq
  have hlen:=r'.length
  exact Calls.call_len_list pl.isList (by simp only[List.size_toArray]<;>omega) ⟨.int ys.length,H,I.tok _,⟨s.toks+1,by rw[List.size_toArray,hlen]⟩,q⟩
 ·obtain⟨its,r',pl,hz⟩:=I.tuple hq
  have hlen:=r'.length
  exact len_tuple pl (by simp only[List.size_toArray]<;>omega) ⟨.int ys.length,H,I.tok _,⟨s.toks+1,by rw[List.size_toArray,hlen]⟩,q⟩
theorem CallR.or {f:Value}{r r':List V->Hp->VK->Prop}(h:CallR X f r)(h':CallR X f r'):CallR X f (λxs H Q=>r xs H Q\/r' xs H Q):=by
 intro pins s σ H xs us Q I rs q
 rcases q with q | q
 ·exact h pins s σ H xs us Q I rs q
 ·exact h' pins s σ H xs us Q I rs q
theorem call_list_of:CallR X (.type "list") (λxs H Q=>∃ p ys,xs=[.ref p]/\(SqL X.K H p ys\/SqT X.K H p ys)/\∀ l,H l=none->Q (.ref l) (upd H l (.lst ys))):=by
 intro pins s σ H xs us Q I r h
 obtain⟨p,ys,rfl,hq,q⟩:=h
 obtain⟨u,rfl,rx⟩:=zCO r
 cases rx
 have fin:∀ (its:List Value),Vals ys its->ys.length<=sizeLine->∀ (h':Heap) (c':Nat),(∀ b o',s.heap.get? b=some o'->h'.get? b=some o') ->
   h'.get? s.heap.objs.size=some { cls:=.type "list",dict:=none,data:=.seq its.toArray c',slots:=#[] }->EP X pins σ Q (.ref s.heap.objs.size) { s with heap:=h' }:=λits r' hz h' c' kp e =>
  ⟨.ref s.heap.objs.size,_,I.laid (t':=s.toks) kp (Nat.le_refl _) (show ObjOk X.prog X.w _ h' _ (.lst ys) from ⟨hz,its,c',r',e⟩),rfl,q _ (I.hok.fresh (Nat.le_refl _))⟩
 rcases hq with hq | hq
 ·obtain⟨its,r',pl,hz⟩:=I.list hq
  have hlen:=r'.length
  obtain⟨o,ho,hc,n,hd⟩:=pl.isList
  exact call_list_seq p (.inl rfl) ho hc hd (λh' c' kp e=>fin its r' hz h' c' kp e) (by simp only[List.size_toArray]<;>omega)
 ·obtain⟨its,r',pl,hz⟩:=I.tuple hq
  have hlen:=r'.length
  obtain⟨o,ho,hc,n,hd⟩:=pl
  exact call_list_seq p (.inr rfl) ho hc hd (λh' c' kp e=>fin its r' hz h' c' kp e) (by simp only[List.size_toArray]<;>omega)
def tyV (K:W.Frag)(T:String)(x:V)(H:Hp):Prop:=match x with
 | .str _=>T="str"
 | .int _=>T="int"
 | .ref p=>(T="list"/\∃ xs,SqL K H p xs)\/(T="tuple"/\∃ o,K.lookup p=some o/\o.cls=.type "tuple"/\o.dict=none) \/
   (T="dict"/\((∃ kvs,H p=some (.dK kvs))\/∃ kvs,H p=some (.dT kvs)))\/(T="set"/\∃ S n,H p=some (.set S n))
 | _=>False
theorem zKz {pins:List (Addr×Obj)}{σ:St}{H:Hp}{s:Shared}{T:String}{x:V}{v:Value}(I:Inv X pins σ H s)(r:RelV x v)(ty:tyV X.K T x H) :
  s.TypeIs v T/\∀ a,v=.ref a->∃ ob,s.heap.get? a=some ob/\ob.dict=none:=by
 cases x with
 | str z =>
  obtain⟨t,rfl⟩:=r
  cases (show T="str" from ty)
  exact⟨typeIs_str s z t,λ_ e=>nomatch e⟩
 | int i =>
  obtain⟨t,rfl⟩:=r
  cases (show T="int" from ty)
  exact⟨typeIs_int s i t,λ_ e=>nomatch e⟩
 | ref p =>
  cases r
  rcases ty with ⟨rfl,xs,hq⟩ | ⟨rfl,o,hk,hc,hd⟩ | ⟨rfl,hk⟩ | ⟨rfl,S,n,hk⟩
  ·obtain⟨its,_,pl,_⟩:=I.list hq
   refine⟨pl.isList.typeIs,λa e=>?_⟩
   cases e
   obtain⟨o,n,e,c,hd,_⟩:=pl
   exact⟨o,e,hd⟩
  ·refine⟨⟨o,I.kIn p o hk,hc⟩,λa e=>?_⟩
   cases e
   exact⟨o,I.kIn _ o hk,hd⟩
  ·have z:∃ o,s.heap.get? p=some o/\o.ExactDict:=by
    rcases hk with ⟨kvs,hk⟩ | ⟨kvs,hk⟩
    ·obtain⟨_,_,_,_,o,_,_,e,ex,_⟩:=I.hok p _ hk
     exact⟨o,e,ex⟩
    ·obtain⟨_,_,_,_,o,_,_,e,ex,_⟩:=I.hok p _ hk
     exact⟨o,e,ex⟩
   obtain⟨o,e,ex⟩:=z
   refine⟨⟨o,e,ex.1⟩,λa e2=>?_⟩
   cases e2
   exact⟨o,e,ex.2.1⟩
  ·obtain⟨o,_,_,_,e,ex,_⟩:=I.hok p _ hk
   refine⟨⟨o,e,ex.1⟩,λa e2=>?_⟩
   cases e2
   exact⟨o,e,ex.2.1⟩
 | _=>exact False.elim ty
def tBM (K:W.Frag)(T:String)(r:V->List V->Hp->VK->Prop)(to:TE)(t:TA):TE:=λσ H Q=>to σ H λx H1=>tyV K T x H1/\t σ H1 λxs H2=>r x xs H2 Q
variable {o e:Expr}{es:List Expr}{to:TE}{t:TA}{name:Str}{apos cpos:Pos}{T id:String}{r:V->List V->Hp->VK->Prop}
theorem zMO (pa:PlainAttrs T)(slot:Slot T name id)(hty:typeOf (.builtin id)=pure (.type "method_descriptor"))(hm:MtR X id r)(ho:PE X o to)(ha:PA X (e::es) t)
  (hbase:attributeBase o name X.env (eval o X.env)=eval o X.env:=by rfl)
  (hfew:((backTo cpos (starEach (e::es) X.env)).all (λx=>!x.1)&&(backToKw cpos (keywordEach [] X.env)).all (λx=>x.1.isSome)
   && decide ((e::es).length+([]:List Keyword).length+(if ([]:List Keyword).isEmpty then 0 else 1)<30))=true:=by rfl)
  (hline:(apos.endLine == cpos.line)=true:=by rfl) (hs:starEach (e::es) X.env=(false,eval e X.env)::starEach es X.env:=by rfl) (hplain:(backTo cpos (starEach es X.env)).any (·.1)=false:=by rfl) :
  PE X (.Call (.Attribute o name apos) (e::es) [] cpos) (tBM X.K T r to t):=by
 intro pins s σ H Q I h
 refine wpAny_Call_method_late hbase hfew hline rfl (thn (ho pins s σ H _ I h) λv s1 ⟨x,H1,I1,r1,ty,q1⟩=>?_)
 obtain⟨h1,h2⟩:=zKz I1 r1 ty
 refine⟨T,id,pa,slot,hty,h1,h2,?_⟩
 have hA:=ha cpos pins s1 σ H1 _ I1 q1
 rw[hs] at hA ⊢
 refine Calls.callWith_builtin (by show (false || (backTo cpos (starEach es X.env)).any (·.1))=false;rw[hplain]<;>rfl) (Calls.evalArgs_plain ?_)
 exact thn hA λus s2 ⟨vs,H2,I2,r2,q2⟩=>hm pins s2 σ H2 x vs v us Q I2 r1 r2 q2
end
end L2
namespace L2
open PySem PySem.Spec PyProof.Rows
def MtM (X:Cx)(id:String)(r:V->List V->Hp->VK->Prop):Prop :=
 ∀ (pins:List (Addr×Obj)) (s:Shared) (σ:St) (H:Hp) (x:V) (xs:List V) (v:Value) (us:List Value) (Q:VK),Inv X pins σ H s->RelV x v->Vals xs us->r x xs H Q ->
  wpAny (model X.prog X.w) X.A (call (.builtin id) (v::us)) (EP X pins σ Q) X.xe s
theorem Vals.one:∀ {x:V} {us:List Value},Vals [x] us->∃ u,us=[u]/\RelV x u
 | _,_,.cons r .nil=>⟨_,rfl,r⟩
theorem Vals.rep {xs:List V}{us:List Value}(h:Vals xs us):∀ k:Nat,Vals (List.replicate k xs).flatten (List.replicate k us).flatten
 | 0=>.nil
 | k+1=>by
  rw[List.replicate_succ,List.replicate_succ,List.flatten_cons,List.flatten_cons]
  exact Vals.append h (Vals.rep h k)
theorem zDR (its:List Value):∀ (k:Nat) (acc:List Value),
  List.foldl (λx1 x2=>x1++x2) acc.toArray (List.replicate k its.toArray)=(acc++(List.replicate k its).flatten).toArray
 | 0,acc=>by simp
 | k+1,acc=>by
  have e:acc.toArray++its.toArray=(acc++its).toArray:=by simp
  have e2:(acc++its)++(List.replicate k its).flatten=acc++(List.replicate (k+1) its).flatten:=by
   rw[List.replicate_succ,List.flatten_cons,List.append_assoc]
  rw[<- e2,<- zDR its k (acc++its),<- e,List.replicate_succ,List.foldl_cons]
section
variable {X:Cx}{pins:List (Addr×Obj)}{σ:St}{H:Hp}{s:Shared}{l b:Addr}{xs ys zs:List V}
theorem Inv.lset {its its':List Value}{n:Nat}{f:Array Value->Array Value}{t':Nat}(I:Inv X pins σ H s)(hH:H l=some (.lst xs))
  (e:s.heap.get? l=some { cls:=.type "list",data:=.seq its.toArray n }) (hf:f its.toArray=its'.toArray) (hv:Vals ys its') (hz:ys.length<=sizeLine) :
  Inv X pins σ (upd H l (.lst ys)) { s with heap:=s.heap.update l (Obj.mapSeq f),toks:=t' }:=by
 have q:=PySem.IsL.update e f
 rw[hf] at q
 refine I.write (x:=l) (e:=l) (by rw[hH];exact trivial) (.inl rfl) (λb' u hb hu=>(Heap.get?_update_other s.heap (Obj.mapSeq f) (Ne.symm hb)).trans hu) ⟨_,q⟩ ?_
 exact⟨hz,its',_,hv,q⟩
theorem Inv.lnew {its:List Value}{t':Nat}(I:Inv X pins σ H s)(hv:Vals ys its)(hz:ys.length<=sizeLine) :
  Inv X pins σ (upd H s.heap.objs.size (.lst ys)) { s with heap:=s.heap.push { cls:=.type "list",data:=.seq its.toArray },toks:=t' } :=
 I.laid (λ_ _ q=>Heap.get?_push_of_some _ q) (Nat.le_refl _) ⟨hz,its,0,hv,Heap.get?_push_size _ rfl⟩
theorem Inv.fresh (I:Inv X pins σ H s):H s.heap.objs.size=none:=I.hok.fresh (Nat.le_refl _)
theorem Inv.lstM (I:Inv X pins σ H s)(hH:H l=some (.lst xs)):xs.length<=sizeLine/\∃ (its:List Value) (n:Nat),Vals xs its/\xs.length=its.length/\s.heap.get? l=some { cls:=.type "list",data:=.seq its.toArray n }:=by
 obtain⟨z,its,n,r,e⟩:=I.hok l _ hH
 exact⟨z,its,n,r,r.length,e⟩
theorem zES {n:Nat}(h:n<=sizeLine):Builtin.List.listTooLong n=false:=by
 unfold Builtin.List.listTooLong
 exact decide_eq_false (by omega)
end
section
variable {X:Cx}
def zJE:V->List V->Hp->VK->Prop:=λx vs H Q=>∃ l xs y,x=.ref l/\vs=[y]/\H l=some (.lst xs)/\xs.length<sizeLine/\Q .non (upd H l (.lst (xs++[y])))
theorem zDS:MtM X "list.append" zJE:=by
 intro pins s σ H x vs v us Q I rx rv h
 obtain⟨l,xs,y,rfl,rfl,hH,hz,q⟩:=h
 cases rx
 obtain⟨u,rfl,ru⟩:=rv.one
 obtain⟨z,its,n,r,hl,e⟩:=I.lstM hH
 refine call_meets F.slot_list_append ⟨_,e,rfl⟩ F.entry_list_append (F.args_list_append_2 _ _) (PySem.list_append l its.toArray n u (by rw[List.size_toArray];omega)) ⟨e,?_⟩
 refine⟨.non,_,I.lset (its':=its++[u]) hH e (by simp) (r.append (.cons ru .nil)) ?_,rfl,q⟩
 rw[List.length_append,List.length_singleton]
 omega
def zJF:V->List V->Hp->VK->Prop:=λx vs H Q=>∃ l b xs zs,x=.ref l/\vs=[.ref b]/\H l=some (.lst xs)/\H b=some (.lst zs)/\xs.length+zs.length<=sizeLine/\Q .non (upd H l (.lst (xs++zs)))
theorem zK0:MtM X "list.extend" zJF:=by
 intro pins s σ H x vs v us Q I rx rv h
 obtain⟨l,b,xs,zs,rfl,rfl,hH,hB,hz,q⟩:=h
 cases rx
 obtain⟨u,rfl,ru⟩:=rv.one
 cases ru
 obtain⟨z,its,n,r,hl,e⟩:=I.lstM hH
 obtain⟨z2,its2,n2,r2,hl2,e2⟩:=I.lstM hB
 have hsz:its.toArray.size+its2.toArray.size<=sizeLine:=by rw[List.size_toArray,List.size_toArray];omega
 have hlong:¬ (!its.toArray.isEmpty&&Builtin.List.listTooLong (its.toArray.size+its2.toArray.size))=true:=by
  rw[zES hsz,Bool.and_false]
  exact Bool.false_ne_true
 refine call_meets F.slot_list_extend ⟨_,e,rfl⟩ F.entry_list_extend (F.args_list_extend_2 _ _)
  (AutoSeq1.list_extend_list_list_0 l its.toArray n b its2.toArray n2 hlong (by rw[List.size_toArray];omega) (by omega)) ⟨e,e2,?_⟩
 refine⟨.non,_,I.lset (its':=its++its2) hH e (by simp) (r.append r2) ?_,rfl,q⟩
 rw[List.length_append]
 omega
def rCat:R2:=λx y H Q=>∃ l b xs zs,x=.ref l/\y=.ref b/\H l=some (.lst xs)/\H b=some (.lst zs)/\xs.length+zs.length<=sizeLine/\∀ p,H p=none->Q (.ref p) (upd H p (.lst (xs++zs)))
theorem zK1:OpR X (binaryOp .Add) rCat:=by
 intro pins s σ H x y v u Q I rx ry h
 obtain⟨l,b,xs,zs,rfl,rfl,hH,hB,hz,q⟩:=h
 cases rx
 cases ry
 obtain⟨z,its,n,r,hl,e⟩:=I.lstM hH
 obtain⟨z2,its2,n2,r2,hl2,e2⟩:=I.lstM hB
 refine PySem.P.add_list e e2 ?_ (by rw[List.size_toArray,List.size_toArray];omega)
 have ea:its.toArray++its2.toArray=(its++its2).toArray:=by simp
 rw[ea]
 exact⟨.ref _,_,I.lnew (t':=s.toks) (r.append r2) (by rw[List.length_append];omega),rfl,q _ I.fresh⟩
def rRep:R2:=λx y H Q=>∃ l k xs,x=.ref l/\y=.int k/\H l=some (.lst xs)/\-(2 ^ 63)<=k/\k<2 ^ 63/\xs.length*k.toNat<=sizeLine /\
 ∀ p,H p=none->Q (.ref p) (upd H p (.lst (List.replicate k.toNat xs).flatten))
theorem zJG {α:Type}(xs:List α)(k:Nat):(List.replicate k xs).flatten.length=k*xs.length:=by
 induction k with
 | zero=>simp
 | succ k ih=>rw[List.replicate_succ,List.flatten_cons,List.length_append,ih,Nat.succ_mul,Nat.add_comm]
theorem zK2:OpR X (binaryOp .Mult) rRep:=by
 intro pins s σ H x y v u Q I rx ry h
 obtain⟨l,k,xs,rfl,rfl,hH,h1,h2,hz,q⟩:=h
 cases rx
 obtain⟨t,rfl⟩:=ry
 obtain⟨z,its,n,r,hl,e⟩:=I.lstM hH
 have hlen:its.toArray.size*k.toNat<=sizeLine:=by rw[List.size_toArray,<- hl];exact hz
 have hcap:¬ its.toArray.size*k.toNat > (2 ^ 63-1) / 8:=by
  have:(sizeLine:Nat)<=(2 ^ 63-1) / 8:=by decide
  omega
 have hfit:¬ (!Builtin.List.listFitsIndex k)=true:=by
  rw[fitsIndex_both h1 h2]
  exact Bool.false_ne_true
 have hlong:¬ Builtin.List.listTooLong (its.toArray.size*k.toNat)=true:=by
  rw[zES hlen]
  exact Bool.false_ne_true
 have hnew:List.foldl (λx1 x2=>x1++x2) #[] (List.replicate (if its.toArray.isEmpty=true then 0 else k.toNat) its.toArray)=(List.replicate k.toNat its).flatten.toArray:=by
  have f0:∀ m:Nat,List.foldl (λx1 x2=>x1++x2) #[] (List.replicate m its.toArray)=(List.replicate m its).flatten.toArray:=λm=>by
   have:=zDR its m []
   rw[List.nil_append] at this
   exact this
  rw[f0]
  cases its with
  | nil=>simp
  | cons a r'=>rw[if_neg (by simp)]
 refine wpAny_binaryOp_repeat_ref (T:="list") (U:="int") (by decide) ⟨_,e,rfl⟩ (λs'=>typeIs_int s' k t) noFill_list_mul F.fills_int_mul F.slot_int_rmul repeat_list F.slot_int_index.lookup
  (call_meets F.slot_int_rmul (typeIs_int s k t) F.entry_int_rmul (F.args_int_rmul_2 _ _) (int___rmul___int_list k t l its.toArray n)
   ⟨e,rfl,⟨_,e,rfl⟩,call_meets F.slot_list_mul ⟨_,e,rfl⟩ F.entry_list_mul (F.args_list_mul_2 _ _) (AutoListH.list___mul___list_int_3 l its.toArray n k t hfit hcap hlong) ⟨e,?_⟩⟩)
 rw[hnew]
 exact⟨.ref _,_,I.lnew (t':=s.toks) (r.rep k.toNat) (by rw[zJG,Nat.mul_comm];exact hz),rfl,q _ I.fresh⟩
end
section
variable {prog:Program}{w:World}{A:Around}{E:Value->Shared->Prop}{s:Shared}
end
section
variable {X:Cx}
end
end L2
namespace Att
open PySem PySem.W PySem.Calls PyProof.Rows
theorem zCP {P:Params}{h:Heap}:∀ (ns:List Int) (vs:List Value),WellAll P h vs (ns.map WData.int)->IntsAre vs ns:=by
 intro ns
 induction ns with
 | nil =>
  intro vs w
  rw[List.map_nil] at w
  cases w
  exact .nil
 | cons n ns ih =>
  intro vs w
  rw[List.map_cons] at w
  cases w with
  | cons a b =>
   cases a
   exact .cons _ _ (ih _ b)
theorem zFw {l:OpenLaw}{n:Nat}(hn:l.most=some n){P:Params}{h:Heap}{args:List WData}{vals:List Value}
  (hpre:l.row.toRowW.claim.pre args=true) (hwl:WellAll P h vals args) :
  ∃ a vs ns,vals=[Value.ref a]/\args=[WData.list (ns.map WData.int)]/\h.get? a=some { cls:=.type "list",data:=.seq vs.toArray }/\IntsAre vs ns/\ns.length<=n:=by
 have hsh:WShape.hasAll [] args [.list .int]=true:=(pre_splitW hpre).1
 have hc:l.pre.holds [] { args:=args }=true:=(pre_splitW hpre).2
 obtain⟨d,r,rfl,h1,h2⟩:=hasAllW_cons hsh
 obtain rfl:=hasAllW_nil h2
 obtain⟨xs,rfl,h3⟩:=hasW_list h1
 obtain⟨ns,rfl⟩:=items_int h3
 have hlen:ns.length<=n:=by
  unfold OpenLaw.pre at hc
  have h4:(WTm.not (.lt (.lit (.int (n:Int))) (.len (.arg 0)))).holds [] { args:=[.list (ns.map .int)] }=true:=by
   have h4:=(holds_andW hc).1
   rw[hn] at h4
   exact h4
  have h5:=condW_of h4 (w_not (w_lt w_lit (w_len_list (w_arg rfl))))
  rw[List.length_map] at h5
  refine Nat.le_of_not_lt λq=>?_
  have q':(n:Int)<((ns.length:Nat):Int):=by omega
  first
   | (rw[decide_eq_true q'] at h5;exact absurd h5 (by decide))
   | (simp at h5;omega)
 cases hwl with
 | cons w1 w2 =>
  cases w2
  cases w1 with
  | list ho hall=>exact⟨_,_,ns,rfl,rfl,ho,zCP ns _ hall,hlen⟩
theorem zFx (l:OpenLaw)(args:List WData):l.row.toRowW.claim.post args (.bool true) args=true :=
 postW_of (r:=l.row.toRowW) (X:=(true == true))
  (show WShape.has [] (.bool true) .bool=true by first | rfl | decide | simp[WShape.has,WShape.arms,WShape.armsAll])
  (show (WTm.eq .res (.lit (.bool true))).value [] { args:=args,res:=some (.bool true),after:=args }=some (.bool (true == true)) from w_eq_bool (w_res rfl) w_lit) rfl
theorem attach_call {l:OpenLaw}{n:Nat}{q:Program}{loose:List Str}{XP:(Str->Option Value)->Heap->Prop}{YP:World->Heap->Prop}{d:DefRec}
  (hn:l.most=some n) (hdf:d.params.defaults=[])
  (call:∀ (w:World) (s₀ s₁:Shared) (mg mb:Str->Option Value) (fa:Addr) (o:Obj) (pm cd doc:Value) (a:Addr) (vs:List Value) (ns:List Int),
   Ground q loose [] XP w s₀ mg mb s₁.heap->YP w s₁.heap ->
   s₁.heap.get? fa=some o->o.data=.func (docDef d.name d.params d.body d.scope pm cd doc)->s₁.heap.CodeRec cd d.name->mg d.name=some (.ref fa) ->
   s₁.heap.get? a=some { cls:=.type "list",data:=.seq vs.toArray }->IntsAre vs ns->ns.length<=n->s₁.gens=#[] ->
   codeAny (model l.prog w) callerA (.call (.ref fa) ⟨[.ref a],[]⟩) (λr s'=>r=.ok (.ret (.bool true))/\OldK s₁.heap s'.heap/\s'.os=s₁.os/\AllBare s'.gens) s₁) :
  WalkO q loose XP YP l.row.toRowW d [] (λf vs=>PySem.call f vs):=by
 intro w s₀ s₁ mg mb G Y fa o pm cd doc dV kV ho hd hcd hD hmg hg args vals as hpre hlay hrd hwl hlo
 obtain rfl:dV=.none:=Dflts.none hD hdf
 obtain rfl:kV=.none:=Dflts.noKw hD
 obtain⟨a,vs,ns,rfl,rfl,hobj,hints,hlen⟩:=zFw hn hpre hwl
 refine enter_call (codeAny_mono (call w s₀ s₁ mg mb fa o pm cd doc a vs ns G Y ho (fd_plain hd) hcd hmg hobj hints hlen hg) λr s' hq=>?_)
 obtain⟨rfl,h2,h3,h4⟩:=hq
 exact⟨.inl ⟨.bool true,.bool true,[],rfl,λ_=>rfl,.bool true,zFx l _,λ_=>⟨List.Pairwise.nil,λ_ hm=>(nomatch hm)⟩⟩,h2,h3,h4⟩
section
variable {prog:Program}{w:World}{A:Around}{E:Value->Shared->Prop}{s:Shared}{K:Frag}
end
end Att
namespace L2
open PySem PySem.Spec PyProof.Rows
theorem zBs:∀ {vs:List Value} {ns:List Int},IntsAre vs ns->Vals (ns.map V.int) vs
 | _,_,.nil=>.nil
 | _,_,.cons n t h=>.cons ⟨t,rfl⟩ (zBs h)
def Only (H:Hp):Prop:=∀ b,H b=none\/∃ o xs,H b=some (.frz o (.lst xs))
theorem zHG {P:Program}{w:World}{K:W.Frag}{mg mb:Str->Option Value}{CX:CXT}{k:Nat}{fa a:Addr}{fd:FuncData}{x:Str}{sp:Sp}{s₁:Shared}{vs:List Value}{ns:List Int}
  (KX:K.In s₁.heap) (hns:s₁.heap.Ns mainGlobals mg) (hb:s₁.heap.Ns builtinsNs mb) (hbb:∀ x:Str,x≠"__name__"->mb x=bootBuiltins x) (hlim:s₁.heap.NoLimit) (hg:s₁.gens=#[])
  (ha:s₁.heap.get? a=some { cls:=.type "list",data:=.seq vs.toArray }) (hi:IntsAre vs ns) (hl:ns.length<=sizeLine) (hr:Room k callerA)
  (F:∀ base:Heap,K.In base->base.Ns mainGlobals mg->FnOk P w K mg base CX k fa fd [x] sp) (hbind:∀ (s:Shared) (u:Value),BindsTo s fd ⟨[u],[]⟩ [(x,u)])
  (hsp:∀ H:Hp,Only H->SqL K H a (ns.map V.int)->sp [.ref a] H (λv _=>v=.bl true) λ_ _ _=>False)
  (hCX:∀ H e s',CX [] H s₁ (λ_ _ _=>False) e s'->False) :
  codeAny (model P w) callerA (.call (.ref fa) ⟨[.ref a],[]⟩) (λr s'=>r=.ok (.ret (.bool true))/\OldK s₁.heap s'.heap/\s'.os=s₁.os/\AllBare s'.gens) s₁:=by
 have rv:=zBs hi
 have lenV:=hi.length
 have core:∀ H:Hp,Only H->SqL K H a (ns.map V.int)->HOk P w H s₁.heap->(∀ b,H b≠none->b=a)->(H a≠none->K.lookup a=none) ->
   codeAny (model P w) callerA (.call (.ref fa) ⟨[.ref a],[]⟩) (λr s'=>r=.ok (.ret (.bool true))/\OldK s₁.heap s'.heap/\s'.os=s₁.os/\AllBare s'.gens) s₁:=by
  intro H hO hS hok hA hK
  have base_of:∀ {b:Addr} {o:Obj},s₁.heap.get? b=some o->H b=none->(hidT s₁.heap H).get? b=some o:=λe n=>zG6 e n
  have noA:∀ {b:Addr} {o:Obj} {es:Array DictEntry} {ep:Nat},s₁.heap.get? b=some o->o.data=.dict es ep->H b=none:=λ{b o es ep} e d=>by
   cases q:H b with
   | none=>rfl
   | some u =>
    have e':b=a:=hA b (by rw[q];simp)
    subst e'
    rw[ha] at e;cases e
    have d':Data.seq vs.toArray _=Data.dict es ep:=d
    cases d'
  have nsK:∀ {b:Addr} {m:Str->Option Value},s₁.heap.Ns b m->(hidT s₁.heap H).Ns b m:=λ{b m} ⟨o,es,ep,e,d,r⟩=>⟨o,es,ep,base_of e (noA e d),d,r⟩
  have hKb:K.In (hidT s₁.heap H):=λb o e=>base_of (KX b o e) (by
   cases q:H b with
   | none=>rfl
   | some u =>
    have e':b=a:=hA b (by rw[q];simp)
    subst e'
    rw[hK (by rw[q];simp)] at e;cases e)
  have hM:Mod K mg (hidT s₁.heap H):=⟨hKb,nsK hns,⟨mb,nsK hb,hbb⟩,let ⟨mc,h1,h2⟩:=hlim;⟨mc,nsK h1,h2⟩⟩
  have e0:Env0 P w K mg (hidT s₁.heap H) callerA [] s₁ H:=⟨rfl,hM,λb o e=>zIu e,Nat.le_of_eq (zFc _ _),trivial,λb hb=>absurd (show b∈([]:List Addr) from hb) (by simp),hok,.of_eq hg⟩
  refine codeAny_mono ((F _ hKb (nsK hns)).run callerA [] s₁ H ⟨[.ref a],[]⟩ [.ref a] [.ref a] _ _ hr e0 (hbind s₁ (.ref a)) (.cons rfl .nil) (hsp H hO hS)) λr s' h=>?_
  cases r with
  | error e=>exact(hCX H e s' h).elim
  | ok fl =>
   cases fl with
   | next=>exact False.elim h
   | brk=>exact False.elim h
   | cont=>exact False.elim h
   | ret u =>
    obtain⟨v,H',os,bare,un,hok',r',q⟩:=h
    have q':v=.bl true:=q
    subst q'
    obtain rfl:u=Value.bool true:=r'
    refine⟨rfl,OldK.of_keep λb o e=>?_,os,bare⟩
    cases q:H b with
    | none=>exact un.keep b o e q (by intro z;exact absurd (show b∈([]:List Addr) from z) (by simp)) (by simp)
    | some u =>
     rcases hO b with z | ⟨ob,xs,z⟩
     ·rw[q] at z;cases z
     ·have z2:=un.frzs b ob _ z
      obtain⟨e1,_⟩:=hok b _ z
      obtain⟨e2,_⟩:=hok' b _ z2
      rw[e] at e1;cases e1
      exact e2
 cases hk:K.lookup a with
 | some o =>
  have e:=KX a o hk
  rw[ha] at e
  cases e
  refine core (λ_=>none) (λ_=>.inl rfl) (.inr ⟨_,vs.toArray,_,hk,rfl,rfl,rfl,by rw[List.size_toArray,lenV];exact hl,by simpa using rv⟩) (λb u z=>by have z':(none:Option HO)=some u:=z;cases z') (λb z=>absurd rfl z) λz=>absurd rfl z
 | none =>
  refine core (λb=>if b=a then some (.frz { cls:=.type "list",data:=.seq vs.toArray } (.lst (ns.map V.int))) else none) (λb=>?_) (.inl (.inr ⟨{ cls:=.type "list",data:=.seq vs.toArray },if_pos rfl⟩)) (λb u z=>?_) (λb z=>?_) λ_=>hk
  ·by_cases hb:b=a
   ·exact .inr ⟨_,_,if_pos hb⟩
   ·exact .inl (if_neg hb)
  ·by_cases hb:b=a
   ·have z':=(if_pos hb).symm.trans z
    cases z'
    subst hb
    exact⟨ha,by rw[List.length_map];exact hl,vs,_,rv,ha⟩
   ·have z':=(if_neg hb).symm.trans z
    cases z'
  ·by_cases hb:b=a
   ·exact hb
   ·exact absurd (if_neg hb) z
end L2
namespace L2
open PySem PySem.Spec PyProof.Rows
abbrev KOf {K:W.Frag}{h:Heap}(_:K.In h):W.Frag:=K
theorem walk_of {l:W.OpenLaw}{n k:Nat}{q:Program}{loose:List Str}{XP:(Str->Option Value)->Heap->Prop}{YP:World->Heap->Prop}{d:DefRec}{K:Params->W.Frag}{CX:World->CXT}{sp:World->Sp}{x:Str}
  (hn:l.most=some n) (hn2:n<=sizeLine) (hdf:d.params.defaults=[]) (hr:Room k callerA)
  (hY:∀ (w:World) (h:Heap),YP w h->(K w.params).In h)
  (F:∀ (w:World) (mg:Str->Option Value) (fa:Addr) (h:Heap),(K w.params).In h->h.Ns mainGlobals mg->mg d.name=some (.ref fa) ->
   ∃ fd:FuncData,(∀ (s:Shared) (u:Value),BindsTo s fd ⟨[u],[]⟩ [(x,u)]) /\
    ∀ base:Heap,(K w.params).In base->base.Ns mainGlobals mg->FnOk l.prog w (K w.params) mg base (CX w) k fa fd [x] (sp w))
  (hsp:∀ (w:World) (H:Hp) (a:Addr) (ns:List Int),ns.length<=n->Only H->SqL (K w.params) H a (ns.map V.int)->sp w [.ref a] H (λv _=>v=.bl true) λ_ _ _=>False)
  (hCX:∀ (w:World) (H:Hp) (s:Shared) (e:Value) (s':Shared),CX w [] H s (λ_ _ _=>False) e s'->False) :
  W.WalkO q loose XP YP l.row.toRowW d [] (λf vs=>PySem.call f vs):=by
 refine Att.attach_call hn hdf λw s₀ s₁ mg mb fa o pm cd doc a vs ns G Y ho hd hcd hmg hobj hints hlen hg=>?_
 have KX:=hY w _ Y
 obtain⟨fd,hb,hF⟩:=F w mg fa _ KX G.T.g hmg
 exact zHG KX G.T.g G.T.b G.T.builtins G.T.nolimit hg hobj hints (Nat.le_trans hlen hn2) hr hF hb (λH hO hS=>hsp w H a ns hlen hO hS) λH e s'=>hCX w H s₁ e s'
end L2
namespace L2
open PySem PySem.Spec PyProof.Rows
def zAQ (s:Stmt):Arguments:=match s with
 | .FunctionDef _ a _ _ _ _ _ _ _ _=>a
 | _=>{ posonlyargs:=[],args:=[],vararg:=none,kwonlyargs:=[],kw_defaults:=[],kwarg:=none,defaults:=[] }
def zAF (s:Stmt):List Stmt:=match s with
 | .FunctionDef _ _ b _ _ _ _ _ _ _=>b
 | _=>[]
def zAA (s:Stmt):Scope:=match s with
 | .FunctionDef _ _ _ _ _ _ sc _ _ _=>sc
 | _=>{ kind:=.function,names:=[],isGenerator:=false,isCoroutine:=false }
abbrev CX0:CXT:=λ_ _ _ _ _ _=>False
abbrev E0:XK:=λ_ _ _=>False
theorem zMP {X:Cx}:zFp CX0 X E0:=λ_ _ _ _ _ _ _ h=>h.elim
structure Fun (K:W.Frag)(x qual:Str)(st:Stmt)(f:Addr)(fd:FuncData):Prop where
 ex:∃ (oc:Value) (od:Option Addr) (kV doc pm:Value) (an:Option Addr) (cdv ct:Value) (osl:Array (Option Value)),
  fd=W.fnOf x qual (zAQ st) (zAF st) (zAA st) .none kV doc pm an cdv ct/\K.lookup f=some ⟨oc,od,.func fd,osl⟩/\W.codeIn K cdv qual=true
 kp:W.keepIn K (.ref f)=true
section
variable {P:Program}{w:World}{K:W.Frag}{mg:Str->Option Value}{base:Heap}
theorem Fun.ok {x qual:Str}{st:Stmt}{f:Addr}{fd:FuncData}{N ps:List Str}{k:Nat}{sp:Sp}(F:Fun K x qual st f fd)(S:FnScope N ps (zAA st))(len:∀ vs H Q E,sp vs H Q E->vs.length=ps.length)
  (hbody:∀ (cdv:Value) (A:Around) (outer:List Env) (s:Shared) (H:Hp) (vs:List V) (Q:VK) (E:XK),Room k (A.deeper (envOfC qual (zAA st) s.heap.objs.size f cdv))->sp vs H Q E ->
   ∃ t,PSs (cxOf CX0 P w K mg base N qual (zAA st) f cdv A outer s H E).nox (zAF st) t/\t { nx:=λ_ H'=>Q .non H',rt:=Q } (start N vs) H):FnOk P w K mg base CX0 (k+1) f fd ps sp:=by
 obtain⟨oc,od,kV,doc,pm,an,cdv,ct,osl,rfl,lk,hcd⟩:=F.ex
 refine zML lk hcd S len λA outer s H vs Q E hr hsp=>?_
 obtain⟨t,h,q⟩:=hbody cdv A outer s H vs Q E hr hsp
 exact⟨t,h.nox,q⟩
theorem Fun.binds {x qual:Str}{st:Stmt}{f:Addr}{fd:FuncData}{ps:List Str}(F:Fun K x qual st f fd)
  (h:∀ (kV doc pm:Value) (an:Option Addr) (cdv ct:Value) (us:List Value),us.length=ps.length->bindArgs (W.fnOf x qual (zAQ st) (zAF st) (zAA st) .none kV doc pm an cdv ct) ⟨us,[]⟩=pure (ps.zip us)):Binds K fd ps []:=by
 obtain⟨oc,od,kV,doc,pm,an,cdv,ct,osl,rfl,lk,hcd⟩:=F.ex
 exact .all (h kV doc pm an cdv ct)
theorem zAW {x qual:Str}{st:Stmt}{f:Addr}{oc:Value}{od an:Option Addr}{osl:Array (Option Value)}{kV doc pm cdv ct:Value}(l:K.lookup f=some ⟨oc,od,.func (W.fnOf x qual (zAQ st) (zAF st) (zAA st) .none kV doc pm an cdv ct),osl⟩)
  (c:W.codeIn K cdv qual=true) (k:W.keepIn K (.ref f)=true):Fun K x qual st f (W.fnOf x qual (zAQ st) (zAF st) (zAA st) .none kV doc pm an cdv ct):=⟨⟨oc,od,kV,doc,pm,an,cdv,ct,osl,rfl,l,c⟩,k⟩
end
theorem zJH {A:Around}{k:Nat}(hr:Room k A):A.units+1<cLine:=Nat.lt_of_le_of_lt (Nat.add_le_add_left (by decide:1<=64) _) hr.units
section
variable {X:Cx}
end
theorem iteF {A B:Prop}(h:B):if false=true then A else B:=by
 rw[if_neg Bool.false_ne_true]
 exact h
theorem iteT {A B:Prop}(h:A):if true=true then A else B:=by
 rw[if_pos rfl]
 exact h
def Same (H H':Hp):Prop:=∀ b o,H b=some o->H' b=some o
theorem Same.refl (H:Hp):Same H H:=λ_ _ h=>h
theorem Same.trans {H H1 H2:Hp}(a:Same H H1)(b:Same H1 H2):Same H H2:=λc o h=>b c o (a c o h)
theorem Same.free {H H':Hp}(e:Same H H'){l:Addr}(h:H' l=Option.none):H l=Option.none:=by
 cases q:H l with
 | none=>rfl
 | some o =>
  rw[e l o q] at h
  cases h
theorem Same.seq {K:W.Frag}{H H':Hp}{a:Addr}{xs:List V}(e:Same H H')(h:SqL K H a xs):SqL K H' a xs:=by
 rcases h with (h | ⟨o,h⟩) | h
 ·exact .inl (.inl (e _ _ h))
 ·exact .inl (.inr ⟨o,e _ _ h⟩)
 ·exact .inr h
end L2
set_option maxHeartbeats 4000000
namespace SB
open PySem PyProof.Rows
structure SI (a0:Array Keyed)(st:SortSt):Prop where
 perm:(arrOf st).Perm a0
 kind:kindOf st=oneType'
 failed:failedOf st=none
theorem SI.size {a0:Array Keyed}{st:SortSt}(h:SI a0 st):(arrOf st).size=a0.size:=h.perm.size_eq
theorem SI.setArr {a0:Array Keyed}{st:SortSt}(h:SI a0 st){xs:Array Keyed}(hp:xs.Perm (arrOf st)):SI a0 (setArr st xs):=⟨hp.trans h.perm,h.kind,h.failed⟩
theorem SI.keys {a0:Array Keyed}{st:SortSt}(h:SI a0 st)(h0:IntKeys a0):IntKeys (arrOf st):=λp hp=>h0 p ((Array.perm_iff_toList_perm.mp h.perm).mem_iff.mp hp)
theorem zE6 {xs:Array Keyed}(h:IntKeys xs){i:Nat}(hi:i<xs.size):∃ p,xs[i]?=some p/\∃ n t,p.1=Value.int n t :=
 ⟨xs[i],getElem?_pos xs i hi,h _ (by simp)⟩
def zJI:Bool->Keyed->Array Keyed->Nat->Nat->Nat->StateT SortSt Sem (Option Nat):=sortPriv% PySem.Builtin.gallop
def zHH:Array Keyed->Array Keyed->StateT SortSt Sem (Array Keyed):=sortPriv% PySem.Builtin.mergeLo
def zHI:Array Keyed->Array Keyed->StateT SortSt Sem (Array Keyed):=sortPriv% PySem.Builtin.mergeHi
def zBt:Nat->StateT SortSt Sem Unit:=sortPriv% PySem.Builtin.setMinGallop
section
variable {prog:Program}{w:World}{A:Around}{E:Value->Shared->Prop}{s:Shared}{a0:Array Keyed}
theorem zBX {arr:Array Keyed}{i:Nat}{p:Keyed}{Q:Keyed->SortSt->Prop}{st:SortSt}(hp:arr[i]?=some p)(h:Q p st):wpS (model prog w) A E s (elem' arr i) Q st:=by
 rw[elem'_eq,hp];exact wpS_pure h
def G (a0:Array Keyed)(pe:Array (Nat×Nat×Nat))(st:SortSt):Prop:=SI a0 st/\pendingOf st=pe
theorem zE7 (g:Nat):zBt g=modify λs=>SortSt.mk' (kindOf s) (arrOf s) (pendingOf s) g (failedOf s):=rfl
def Laid (a b:Array Keyed)(ia ib:Nat)(out:Array Keyed):Prop:=out.toList.Perm (a.toList.take ia++b.toList.take ib)
theorem zD4 {xs:Array Keyed}{i:Nat}{p:Keyed}(h:xs[i]?=some p):xs.toList.take (i+1)=xs.toList.take i++[p]:=by
 have h':xs.toList[i]?=some p:=by simpa using h
 rw[List.take_add_one,h'];rfl
theorem Laid.b {a b:Array Keyed}{ia ib:Nat}{out:Array Keyed}(h:Laid a b ia ib out){p:Keyed}(hp:b[ib]?=some p):Laid a b ia (ib+1) (out.push p):=by
 unfold Laid at h ⊢
 rw[zD4 hp,Array.toList_push,<- List.append_assoc]
 exact h.append_right _
theorem Laid.a {a b:Array Keyed}{ia ib:Nat}{out:Array Keyed}(h:Laid a b ia ib out){p:Keyed}(hp:a[ia]?=some p):Laid a b (ia+1) ib (out.push p):=by
 unfold Laid at h ⊢
 rw[zD4 hp,Array.toList_push,List.append_assoc]
 refine(h.append_right _).trans ?_
 rw[List.append_assoc]
 exact(List.perm_append_comm).append_left _
theorem zA1 (xs:Array Keyed)(i j:Nat):(xs.extract i j).toList=(xs.toList.take j).drop i:=by
 rw[Array.toList_extract,List.extract_eq_take_drop,List.drop_take]
theorem zET (xs:Array Keyed)(i k:Nat):xs.toList.take (i+k)=xs.toList.take i++(xs.extract i (i+k)).toList:=by
 rw[zA1]
 have:=List.take_append_drop i (xs.toList.take (i+k))
 rw[List.take_take,Nat.min_eq_left (by omega)] at this
 exact this.symm
theorem Laid.ak {a b:Array Keyed}{ia ib:Nat}{out:Array Keyed}(h:Laid a b ia ib out)(k:Nat):Laid a b (ia+k) ib (out++a.extract ia (ia+k)):=by
 unfold Laid at h ⊢
 rw[zET,Array.toList_append,List.append_assoc]
 refine(h.append_right _).trans ?_
 rw[List.append_assoc]
 exact(List.perm_append_comm).append_left _
theorem Laid.bk {a b:Array Keyed}{ia ib:Nat}{out:Array Keyed}(h:Laid a b ia ib out)(k:Nat):Laid a b ia (ib+k) (out++b.extract ib (ib+k)):=by
 unfold Laid at h ⊢
 rw[zET,Array.toList_append,<- List.append_assoc]
 exact h.append_right _
theorem Laid.all {a b:Array Keyed}{ia ib:Nat}{out:Array Keyed}(h:Laid a b ia ib out)(ha:ia<=a.size)(hb:ib<=b.size) :
  (out++a.extract ia a.size++b.extract ib b.size).toList.Perm (a.toList++b.toList):=by
 obtain⟨j,hj⟩:∃ j,a.size=ia+j:=⟨a.size-ia,by omega⟩
 obtain⟨k,hk⟩:∃ k,b.size=ib+k:=⟨b.size-ib,by omega⟩
 have q:=(h.ak j).bk k
 rw[<- hj,<- hk] at q
 unfold Laid at q
 rw[List.take_of_length_le (by simp),List.take_of_length_le (by simp)] at q
 exact q
theorem Laid.all' {a b:Array Keyed}{ia ib:Nat}{out:Array Keyed}(h:Laid a b ia ib out)(ha:ia<=a.size)(hb:ib<=b.size) :
  (out++b.extract ib b.size++a.extract ia a.size).toList.Perm (a.toList++b.toList):=by
 obtain⟨j,hj⟩:∃ j,a.size=ia+j:=⟨a.size-ia,by omega⟩
 obtain⟨k,hk⟩:∃ k,b.size=ib+k:=⟨b.size-ib,by omega⟩
 have q:=(h.bk k).ak j
 rw[<- hj,<- hk] at q
 unfold Laid at q
 rw[List.take_of_length_le (by simp),List.take_of_length_le (by simp)] at q
 exact q
theorem zAM {α:Type}{c:Prop}[Decidable c]{t e:StateT SortSt Sem α}{Q:α->SortSt->Prop}{st:SortSt}{M:Model}(h1:c->wpS M A E s t Q st)(h2:¬ c->wpS M A E s e Q st) :
  wpS M A E s (if c then t else e) Q st:=by
 by_cases h:c
 ·rw[if_pos h];exact h1 h
 ·rw[if_neg h];exact h2 h
theorem zAI {α:Type}{x y:Nat}{t e:StateT SortSt Sem α}{Q:α->SortSt->Prop}{st:SortSt}{M:Model}(h1:x=y->wpS M A E s t Q st)(h2:x≠y->wpS M A E s e Q st) :
  wpS M A E s (if (x == y)=true then t else e) Q st :=
 zAM (λh=>h1 (by simpa using h)) λh=>h2 (by simpa using h)
theorem zAG {arr:Array Keyed}{i:Nat}{Q:Keyed->SortSt->Prop}{st:SortSt}(ha:IntKeys arr)(hi:i<arr.size)(h:∀ p,arr[i]?=some p->(∃ n t,p.1=Value.int n t)->Q p st) :
  wpS (model prog w) A E s (elem' arr i) Q st:=by
 obtain⟨p,e,k⟩:=zE6 ha hi
 exact zBX e (h p e k)
def GX (a0:Array Keyed)(pe:Array (Nat×Nat×Nat))(xs:Array Keyed)(st:SortSt):Prop:=G a0 pe st/\arrOf st=xs
theorem zA4 {g:Nat}{pe:Array (Nat×Nat×Nat)}{xs:Array Keyed}{Q:Unit->SortSt->Prop}{st:SortSt}(hB:GX a0 pe xs st)(h:∀ st',GX a0 pe xs st'->Q () st') :
  wpS (model prog w) A E s (zBt g) Q st:=by
 rw[zE7]
 exact wpS_modify (h _ ⟨⟨⟨hB.1.1.perm,hB.1.1.kind,hB.1.1.failed⟩,hB.1.2⟩,hB.2⟩)
structure Mid (a b:Array Keyed)(c0 ia ib:Nat)(out:Array Keyed):Prop where
 laid:Laid a b ia ib out
 ha:ia+1<a.size
 hb:ib<b.size
 pr:c0<=ia+ib
def LaidH (a b:Array Keyed)(na nb:Nat)(out:Array Keyed):Prop:=out.toList.Perm (a.toList.drop na++b.toList.drop nb)
theorem zD5 {xs:Array Keyed}{i:Nat}{p:Keyed}(h:xs[i]?=some p):xs.toList.drop i=p::xs.toList.drop (i+1):=by
 have h':xs.toList[i]?=some p:=by simpa using h
 obtain⟨hi,e⟩:=List.getElem?_eq_some_iff.mp h'
 rw[List.drop_eq_getElem_cons hi,e]
theorem LaidH.b {a b:Array Keyed}{na nb:Nat}{out:Array Keyed}(h:LaidH a b na nb out)(h1:1<=nb){p:Keyed}(hp:b[nb-1]?=some p):LaidH a b na (nb-1) (out.push p):=by
 unfold LaidH at h ⊢
 rw[zD5 hp,Array.toList_push,Nat.sub_add_cancel h1]
 refine(h.append_right _).trans ?_
 rw[List.append_assoc]
 exact(List.perm_append_comm).append_left _
theorem LaidH.a {a b:Array Keyed}{na nb:Nat}{out:Array Keyed}(h:LaidH a b na nb out)(h1:1<=na){p:Keyed}(hp:a[na-1]?=some p):LaidH a b (na-1) nb (out.push p):=by
 unfold LaidH at h ⊢
 rw[zD5 hp,Array.toList_push,Nat.sub_add_cancel h1]
 refine(h.append_right _).trans ?_
 exact List.perm_append_singleton _ _
theorem zEU (xs:Array Keyed){i j:Nat}(h:i<=j):xs.toList.drop i=(xs.extract i j).toList++xs.toList.drop j:=by
 rw[zA1]
 obtain⟨k,rfl⟩:∃ k,j=i+k:=⟨j-i,by omega⟩
 rw[List.drop_take,Nat.add_sub_cancel_left,<- List.drop_drop,List.take_append_drop]
theorem LaidH.ak {a b:Array Keyed}{na nb:Nat}{out:Array Keyed}(h:LaidH a b na nb out){k:Nat}(hk:k<=na):LaidH a b k nb (out++(a.extract k na).reverse):=by
 unfold LaidH at h ⊢
 rw[zEU a hk,Array.toList_append,Array.toList_reverse]
 refine(h.append_right _).trans ?_
 refine(List.Perm.append_left _ (List.reverse_perm _)).trans ?_
 refine List.perm_append_comm.trans ?_
 rw[List.append_assoc]
theorem LaidH.bk {a b:Array Keyed}{na nb:Nat}{out:Array Keyed}(h:LaidH a b na nb out){k:Nat}(hk:k<=nb):LaidH a b na k (out++(b.extract k nb).reverse):=by
 unfold LaidH at h ⊢
 rw[zEU b hk,Array.toList_append,Array.toList_reverse]
 refine(h.append_right _).trans ?_
 refine(List.Perm.append_left _ (List.reverse_perm _)).trans ?_
 rw[List.append_assoc]
 exact(List.perm_append_comm).append_left _
theorem LaidH.all {a b:Array Keyed}{na nb:Nat}{out:Array Keyed}(h:LaidH a b na nb out) :
  (a.extract 0 na++b.extract 0 nb++out.reverse).toList.Perm (a.toList++b.toList):=by
 unfold LaidH at h
 rw[Array.toList_append,Array.toList_append,Array.toList_reverse,zA1,zA1,List.drop_zero,List.drop_zero]
 refine(List.Perm.append_left _ ((List.reverse_perm _).trans h)).trans ?_
 rw[List.append_assoc,<- List.append_assoc (b.toList.take nb)]
 refine(List.Perm.append_left _ (List.perm_append_comm.append_right _)).trans ?_
 rw[List.append_assoc,<- List.append_assoc,List.take_append_drop,List.take_append_drop]
theorem LaidH.all' {a b:Array Keyed}{na nb:Nat}{out:Array Keyed}(h:LaidH a b na nb out) :
  (b.extract 0 nb++a.extract 0 na++out.reverse).toList.Perm (a.toList++b.toList):=by
 refine List.Perm.trans ?_ h.all
 rw[Array.toList_append,Array.toList_append,Array.toList_append,Array.toList_append]
 exact List.perm_append_comm.append_right _
structure MidH (a b:Array Keyed)(c0 na nb:Nat)(out:Array Keyed):Prop where
 laid:LaidH a b na nb out
 ha:1<=na
 ha2:na<=a.size
 hb:2<=nb
 hb2:nb<=b.size
 pr:c0+na+nb<=a.size+b.size
theorem zJJ {st st1:SortSt}{M:Model}{Q:PUnit->SortSt->Prop}(h:Q ⟨⟩ st1):wpS M A E s (set st1:StateT SortSt Sem PUnit) Q st:=by
 unfold wpS;rw[StateT.run_set];exact wpAny_pure ⟨rfl,h⟩
theorem zCJ {xs:Array Keyed}(h:IntKeys xs)(i j:Nat):IntKeys (xs.extract i j):=λp hp=>by
 rw[zA1] at hp
 exact h p (List.mem_of_mem_take (List.mem_of_mem_drop hp))
theorem zIV (ys:List Keyed):∀ (j k:Nat) (xs:Array Keyed),k+j+ys.length<=xs.size ->
  ((ys.zipIdx j).foldl (λa (pj:Keyed×Nat)=>a.setIfInBounds (k+pj.2) pj.1) xs).toList=xs.toList.take (k+j)++ys++xs.toList.drop (k+j+ys.length):=by
 induction ys with
 | nil=>intro j k xs _;simp
 | cons y ys ih =>
  intro j k xs h
  simp only[List.length_cons] at h
  rw[List.zipIdx_cons,List.foldl_cons,ih (j+1) k _ (by rw[Array.size_setIfInBounds];omega)]
  rw[Array.toList_setIfInBounds]
  have hl:k+j<xs.toList.length:=by simp;omega
  rw[show k+(j+1)=(k+j)+1 by omega,List.take_add_one,List.getElem?_set_self hl]
  rw[List.take_set_of_le (by omega),List.drop_set_of_lt (by omega)]
  simp only[Option.toList_some,List.append_assoc,List.length_cons,List.cons_append,List.nil_append]
  rw[show k+j+1+ys.length=k+j+(ys.length+1) by omega]
theorem zE8 {l:List Keyed}{i j k:Nat}(hij:i<=j)(hjk:j<=k){m:List Keyed}(h:m.Perm ((l.take j).drop i++(l.take k).drop j)):(l.take i++m++l.drop k).Perm l:=by
 have e:l=l.take i++((l.take j).drop i++(l.take k).drop j)++l.drop k:=by
  have e1:l.take j=l.take i++(l.take j).drop i:=by
   have:=List.take_append_drop i (l.take j)
   rw[List.take_take,Nat.min_eq_left hij] at this;exact this.symm
  have e2:l.take k=l.take j++(l.take k).drop j:=by
   have:=List.take_append_drop j (l.take k)
   rw[List.take_take,Nat.min_eq_left hjk] at this;exact this.symm
  rw[<- List.append_assoc,<- e1,<- e2,List.take_append_drop]
 conv=>rhs;rw[e]
 exact(h.append_left _).append_right _
theorem zJK {c:Prop}[Decidable c]{x y z:Nat}(h1:x+1<z)(h2:y+1<z):(if c then x else y)+1<z:=by
 by_cases h:c<;>simp[h,h1,h2]
end
end SB
namespace SB
open PySem PyProof.Rows
abbrev ks (p:Keyed):Int:=numOf p.1
def Up (xs:Array Keyed)(i j:Nat):Prop:=∀ k m,i<=k->k<=m->m<j->K xs k<=K xs m
def Dn (xs:Array Keyed)(i j:Nat):Prop:=∀ k m,i<=k->k<=m->m<j->K xs m<=K xs k
theorem K_at {xs:Array Keyed}{i:Nat}{p:Keyed}(h:xs[i]?=some p):K xs i=ks p:=by unfold K;rw[h]
theorem Up.one (xs:Array Keyed)(i:Nat):Up xs i (i+1):=λk m h1 h2 h3=>by
 obtain rfl:k=m:=by omega
 exact Int.le_refl _
theorem Up.snoc {xs:Array Keyed}{i j:Nat}(h:Up xs i j)(hj:K xs (j-1)<=K xs j):Up xs i (j+1):=λk m h1 h2 h3=>by
 by_cases e:m<j
 ·exact h k m h1 h2 e
 obtain rfl:m=j:=by omega
 by_cases e2:k=m
 ·subst e2;exact Int.le_refl _
 exact Int.le_trans (h k (m-1) h1 (by omega) (by omega)) hj
theorem Dn.snoc {xs:Array Keyed}{i j:Nat}(h:Dn xs i j)(hj:K xs j<=K xs (j-1)):Dn xs i (j+1):=λk m h1 h2 h3=>by
 by_cases e:m<j
 ·exact h k m h1 h2 e
 obtain rfl:m=j:=by omega
 by_cases e2:k=m
 ·subst e2;exact Int.le_refl _
 exact Int.le_trans hj (h k (m-1) h1 (by omega) (by omega))
theorem Up.eqK {xs ys:Array Keyed}{i j:Nat}(h:Up xs i j)(e:∀ k,i<=k->k<j->K ys k=K xs k):Up ys i j:=λk m h1 h2 h3=>by
 rw[e k h1 (by omega),e m (by omega) h3];exact h k m h1 h2 h3
theorem Dn.eqK {xs ys:Array Keyed}{i j:Nat}(h:Dn xs i j)(e:∀ k,i<=k->k<j->K ys k=K xs k):Dn ys i j:=λk m h1 h2 h3=>by
 rw[e k h1 (by omega),e m (by omega) h3];exact h k m h1 h2 h3
theorem Dn.mir {xs:Array Keyed}{i j:Nat}(h:Dn xs i j)(hj:j<=xs.size):Up (mirror xs i j ((j-i) / 2)) i j:=λk m h1 h2 h3=>by
 rw[K_mirror hj,K_mirror hj,if_pos (by omega),if_pos (by omega)]
 exact h _ _ (by omega) (by omega) (by omega)
def Low (lo:Nat)(xs ys:Array Keyed):Prop:=∀ k,k<lo->K ys k=K xs k
theorem Low.refl (lo:Nat)(xs:Array Keyed):Low lo xs xs:=λ_ _=>rfl
theorem Low.trans {lo:Nat}{xs ys zs:Array Keyed}(h:Low lo xs ys)(h2:Low lo ys zs):Low lo xs zs:=λk hk=>(h2 k hk).trans (h k hk)
theorem Low.mir {lo:Nat}{xs:Array Keyed}{i j:Nat}(hi:lo<=i)(hj:j<=xs.size):Low lo xs (mirror xs i j ((j-i) / 2)):=λk hk=>by
 rw[K_mirror hj,if_neg (by omega)]
section
variable {prog:Program}{w:World}{A:Around}{E:Value->Shared->Prop}{s:Shared}{a0:Array Keyed}
theorem zCQ {x y:Keyed}{st:SortSt}{Q:Option Bool->SortSt->Prop}(hk:kindOf st=oneType')(hx:∃ n t,x.1=Value.int n t)(hy:∃ n t,y.1=Value.int n t)
  (h:Q (some (decide (ks x<ks y))) st):wpS (model prog w) A E s (lt' x y) Q st:=by
 obtain⟨n,t,ex⟩:=hx
 obtain⟨m,u,ey⟩:=hy
 have e1:ks x=n:=by unfold ks;rw[ex];rfl
 have e2:ks y=m:=by unfold ks;rw[ey];rfl
 rw[e1,e2] at h
 rw[lt'_eq]
 refine wpS_bind (wpS_get ?_)
 rw[hk,keyLt'_oneType,ex,ey]
 exact wpS_bind (wpS_lift (wpAny_attempt (oneLt_int ⟨rfl,wpS_pure h⟩)))
theorem zA5 {i j:Nat}{st:SortSt}{Q:Option Bool->SortSt->Prop}(hB:SI a0 st)(h0:IntKeys a0)(hi:i<a0.size)(hj:j<a0.size)
  (h:∀ b:Bool,(b=true↔K (arrOf st) i<K (arrOf st) j)->Q (some b) st):wpS (model prog w) A E s (ltAt' i j) Q st:=by
 obtain⟨p,e1,k1⟩:=zE6 (hB.keys h0) (i:=i) (by rw[hB.size];exact hi)
 obtain⟨q,e2,k2⟩:=zE6 (hB.keys h0) (i:=j) (by rw[hB.size];exact hj)
 rw[ltAt'_eq]
 refine wpS_bind (wpS_get ?_)
 refine wpS_bind (zBX e1 (wpS_bind (zBX e2 (zCQ hB.kind k1 k2 (h _ ?_)))))
 rw[K_at e1,K_at e2];simp
theorem zA2 {st:SortSt}{i j:Nat}{Q:Unit->SortSt->Prop}(hB:SI a0 st)(h:∀ st',SI a0 st'->pendingOf st'=pendingOf st->arrOf st'=mirror (arrOf st) i j ((j-i) / 2)->Q () st') :
  wpS (model prog w) A E s (reverseSlice' i j) Q st:=by
 rw[reverseSlice'_eq];exact wpS_modify (h _ (hB.setArr (mirror_perm _ _ _ _)) rfl rfl)
theorem zFy {st:SortSt}{i j:Nat}{Q:Unit->SortSt->Prop}(hB:SI a0 st)(h:∀ st',SI a0 st'->pendingOf st'=pendingOf st->arrOf st'=bubble (arrOf st) i (i-j)->Q () st') :
  wpS (model prog w) A E s (moveDown' i j) Q st:=by
 rw[moveDown'_eq];exact wpS_modify (h _ (hB.setArr (bubble_perm _ _ _)) rfl rfl)
def GL (a0:Array Keyed)(pe:Array (Nat×Nat×Nat))(lo:Nat)(ys:Array Keyed)(st:SortSt):Prop:=G a0 pe st/\Low lo ys (arrOf st)
structure Fall (xs:Array Keyed)(lo x q:Nat):Prop where
 dn:Dn xs lo (lo+x)
 q1:q+1<=x
 eq:∀ i,lo+x-(q+1)<=i->i<lo+x->K xs i=K xs (lo+x-1)
theorem Fall.zero {xs:Array Keyed}{lo x:Nat}(h:Dn xs lo (lo+x))(h1:1<=x):Fall xs lo x 0:=⟨h,h1,λi h2 h3=>by congr 1;omega⟩
theorem Fall.less {xs:Array Keyed}{lo x q:Nat}(h:Fall xs lo x q)(hl:K xs (lo+x)<K xs (lo+x-1)):Fall xs lo (x+1) 0 :=
 .zero (h.dn.snoc (Int.le_of_lt hl)) (by omega)
theorem Fall.mir {xs:Array Keyed}{lo x q:Nat}(h:Fall xs lo x q)(hz:lo+x<=xs.size)(k:Nat) :
  K (mirror xs (lo+x-(q+1)) (lo+x) ((lo+x-(lo+x-(q+1))) / 2)) k=K xs k:=K_mirror_equal hz h.eq k
theorem Fall.like {xs:Array Keyed}{lo x q:Nat}(h:Fall xs lo x q)(h1:¬ K xs (lo+x)<K xs (lo+x-1))(h2:¬ K xs (lo+x-1)<K xs (lo+x)):Fall xs lo (x+1) (q+1):=by
 have e:K xs (lo+x)=K xs (lo+x-1):=by omega
 have:=h.q1
 refine⟨h.dn.snoc (by omega),by omega,λi h3 h4=>?_⟩
 rw[show lo+(x+1)-1=lo+x by omega]
 by_cases hi:i=lo+x
 ·rw[hi]
 ·rw[e];exact h.eq i (by omega) (by omega)
theorem zJL {lo nrem : Nat} {pe : Array (Nat × Nat × Nat)} {ys : Array Keyed} {st : SortSt} {Q : Option Nat → SortSt → Prop} (h0 : IntKeys a0) (hn : lo + nrem ≤ a0.size) (h1 : 1 ≤ nrem) (hB : GL a0 pe lo ys st)
    (h : ∀ m st', GL a0 pe lo ys st' → 1 ≤ m → m ≤ nrem → Up (arrOf st') lo (lo + m) → Q (some m) st') : wpS (model prog w) A E s (countRun' lo nrem) Q st := by
  rw [countRun'_eq]
  refine wpS_bind (wpS_mono (wpS_forRange (I := fun x c st' => c = (none, x) ∧ GL a0 pe lo ys st' ∧ Up (arrOf st') lo (lo + x)) (Q := fun c st' => ∃ m, c = (none, m) ∧ 1 ≤ m ∧ m ≤ nrem ∧ GL a0 pe lo ys st' ∧ Up (arrOf st') lo (lo + m) ∧ (m = nrem ∨ K (arrOf st') (lo + m) < K (arrOf st') (lo + m - 1))) ?s1 ?f1 ⟨rfl, hB, Up.one _ _⟩) ?p1)
  case f1 => rintro c st' ⟨rfl, g, U⟩; exact ⟨_, rfl, by omega, by omega, g, U, .inl (by omega)⟩
  case s1 =>
    rintro x c st' hx1 hx2 ⟨rfl, g, U⟩
    refine wpS_bind (zA5 g.1.1 h0 (by omega) (by omega) fun b hb => ?_)
    cases b
    · exact wpS_pure ⟨rfl, g, U.snoc (Int.not_lt.mp fun z => by cases hb.mpr z)⟩
    · exact wpS_pure ⟨x, rfl, hx1, by omega, g, U, .inr (hb.mp rfl)⟩
  case p1 =>
    rintro c st' ⟨m, rfl, hm1, hm2, g, U, hor⟩
    dsimp only
    by_cases hnn : m = nrem
    · rw [if_pos (by simpa using hnn)]
      exact wpS_pure (h _ _ g hm1 hm2 U)
    rw [if_neg (by simpa using hnn)]
    have hlt := hor.resolve_left hnn
    by_cases hgt : m > 1
    · rw [if_pos hgt]
      refine wpS_bind (zA5 g.1.1 h0 (by omega) (by omega) fun b hb => ?_)
      cases b
      · have hb : ¬ K (arrOf st') lo < K (arrOf st') (lo + m - 1) := fun z => by cases hb.mpr z
        dsimp only
        rw [if_neg (by decide)]
        have hz : lo + m ≤ (arrOf st').size := by rw [g.1.1.size]; omega
        have al : ∀ k, lo ≤ k → k < lo + m → K (arrOf st') k = K (arrOf st') (lo + m - 1) := fun k h1 h2 => by
          have q1 := U lo k (Nat.le_refl _) h1 h2
          have q2 := U k (lo + m - 1) h1 (by omega) (by omega)
          omega
        refine wpS_bind (zA2 g.1.1 fun st1 b1 e1 a1 => ?_)
        have eK : ∀ k, K (arrOf st1) k = K (arrOf st') k := fun k => by rw [a1]; exact K_mirror_equal hz al k
        have F : Fall (arrOf st1) lo (m + 1) 0 := by
          refine .zero (Dn.eqK (xs := arrOf st') ?_ fun k _ _ => eK k) (by omega)
          refine Dn.snoc (i := lo) (j := lo + m) (fun k n h1 h2 h3 => ?_) (Int.le_of_lt hlt)
          rw [al k h1 (by omega), al n (by omega) h3]; exact Int.le_refl _
        have g : GL a0 pe lo ys st1 := ⟨⟨b1, e1.trans g.1.2⟩, fun k hk => (eK k).trans (g.2 k hk)⟩
        refine wpS_bind (wpS_lift (wpAny_rule ⟨rfl, ?_⟩))
        refine wpS_bind (wpS_mono (wpS_forRange (I := fun x c st' => ∃ q, c = (none, x, q) ∧ GL a0 pe lo ys st' ∧ Fall (arrOf st') lo x q) (Q := fun c st' => ∃ m q, c = (none, m, q) ∧ m ≤ nrem ∧ GL a0 pe lo ys st' ∧ Fall (arrOf st') lo m q) ?_ ?_ ⟨0, rfl, g, F⟩) ?_)
        · rintro x c st' hx1 hx2 ⟨q, rfl, g, F⟩
          dsimp only
          have hz : lo + x ≤ (arrOf st').size := by rw [g.1.1.size]; omega
          refine wpS_bind (zA5 g.1.1 h0 (by omega) (by omega) fun b hb => ?_)
          cases b
          · have hb : ¬ K (arrOf st') (lo + x) < K (arrOf st') (lo + x - 1) := fun z => by cases hb.mpr z
            refine wpS_bind (zA5 g.1.1 h0 (by omega) (by omega) fun b hb2 => ?_)
            cases b
            · exact wpS_pure ⟨_, rfl, g, F.like hb fun z => by cases hb2.mpr z⟩
            · exact wpS_pure ⟨x, q, rfl, by omega, g, F⟩
          · have hb := hb.mp rfl
            by_cases hq : q > 0
            · simp only [if_pos hq, if_true]
              refine wpS_bind (zA2 g.1.1 fun st2 b2 e2 a2 => wpS_pure ⟨0, rfl, ⟨⟨b2, e2.trans g.1.2⟩, fun k hk => ?_⟩, ?_⟩)
              · rw [a2, F.mir hz]; exact g.2 k hk
              · rw [a2]
                exact .zero ((F.less hb).dn.eqK fun k _ _ => F.mir hz k) (by omega)
            · simp only [if_neg hq, if_true]
              exact wpS_pure ⟨0, rfl, g, F.less hb⟩
        · rintro c st' ⟨q, rfl, g, F⟩; exact ⟨_, _, rfl, by omega, g, F⟩
        · rintro c st' ⟨m, q, rfl, hm2, g, F⟩
          dsimp only
          have hm1 := F.q1
          have hz : lo + m ≤ (arrOf st').size := by rw [g.1.1.size]; omega
          by_cases hq : q > 0
          · rw [if_pos hq]
            refine wpS_bind (zA2 g.1.1 fun st2 b2 e2 a2 => wpS_bind (zA2 b2 fun st3 b3 e3 a3 => ?_))
            have hz2 : lo + m ≤ (arrOf st2).size := by rw [b2.size]; omega
            have D2 : Dn (arrOf st2) lo (lo + m) := by rw [a2]; exact F.dn.eqK fun k _ _ => F.mir hz k
            have L2 : Low lo ys (arrOf st2) := by rw [a2]; exact fun k hk => (F.mir hz k).trans (g.2 k hk)
            have U : Up (arrOf st3) lo (lo + m) := by rw [a3]; exact D2.mir hz2
            have L3 : Low lo ys (arrOf st3) := by rw [a3]; exact L2.trans (Low.mir (Nat.le_refl _) hz2)
            refine wpS_bind (wpS_mono (wpS_forRange (I := fun x c st' => c = (none, x) ∧ GL a0 pe lo ys st' ∧ Up (arrOf st') lo (lo + x)) (Q := fun c st' => ∃ m, c = (none, m) ∧ 1 ≤ m ∧ m ≤ nrem ∧ GL a0 pe lo ys st' ∧ Up (arrOf st') lo (lo + m)) ?_ ?_ ⟨rfl, ⟨⟨b3, e3.trans (e2.trans g.1.2)⟩, L3⟩, U⟩) ?_)
            · rintro x c st' hx1 hx2 ⟨rfl, g, U⟩
              dsimp only
              refine wpS_bind (zA5 g.1.1 h0 (by omega) (by omega) fun b hb => ?_)
              cases b
              · exact wpS_pure ⟨rfl, g, U.snoc (Int.not_lt.mp fun z => by cases hb.mpr z)⟩
              · exact wpS_pure ⟨x, rfl, by omega, by omega, g, U⟩
            · rintro c st' ⟨rfl, g, U⟩; exact ⟨_, rfl, by omega, by omega, g, U⟩
            · rintro c st' ⟨m, rfl, hm1, hm2, g, U⟩
              exact wpS_pure (h _ _ g hm1 hm2 U)
          · rw [if_neg hq]
            refine wpS_bind (zA2 g.1.1 fun st3 b3 e3 a3 => ?_)
            have e2 : pendingOf st' = pendingOf st' := rfl
            have U : Up (arrOf st3) lo (lo + m) := by rw [a3]; exact F.dn.mir hz
            have L3 : Low lo ys (arrOf st3) := by rw [a3]; exact g.2.trans (Low.mir (Nat.le_refl _) hz)
            refine wpS_bind (wpS_mono (wpS_forRange (I := fun x c st' => c = (none, x) ∧ GL a0 pe lo ys st' ∧ Up (arrOf st') lo (lo + x)) (Q := fun c st' => ∃ m, c = (none, m) ∧ 1 ≤ m ∧ m ≤ nrem ∧ GL a0 pe lo ys st' ∧ Up (arrOf st') lo (lo + m)) ?_ ?_ ⟨rfl, ⟨⟨b3, e3.trans (e2.trans g.1.2)⟩, L3⟩, U⟩) ?_)
            · rintro x c st' hx1 hx2 ⟨rfl, g, U⟩
              dsimp only
              refine wpS_bind (zA5 g.1.1 h0 (by omega) (by omega) fun b hb => ?_)
              cases b
              · exact wpS_pure ⟨rfl, g, U.snoc (Int.not_lt.mp fun z => by cases hb.mpr z)⟩
              · exact wpS_pure ⟨x, rfl, by omega, by omega, g, U⟩
            · rintro c st' ⟨rfl, g, U⟩; exact ⟨_, rfl, by omega, by omega, g, U⟩
            · rintro c st' ⟨m, rfl, hm1, hm2, g, U⟩
              exact wpS_pure (h _ _ g hm1 hm2 U)
      · exact wpS_pure (h _ _ g hm1 hm2 U)
    · rw [if_neg hgt]
      obtain rfl : m = 1 := by omega
      have F : Fall (arrOf st') lo (1 + 1) 0 := .zero (Dn.snoc (fun k n h1 h2 h3 => by obtain rfl : k = n := by omega
                                                                                       exact Int.le_refl _) (Int.le_of_lt hlt)) (by omega)
      refine wpS_bind (wpS_lift (wpAny_rule ⟨rfl, ?_⟩))
      refine wpS_bind (wpS_mono (wpS_forRange (I := fun x c st' => ∃ q, c = (none, x, q) ∧ GL a0 pe lo ys st' ∧ Fall (arrOf st') lo x q) (Q := fun c st' => ∃ m q, c = (none, m, q) ∧ m ≤ nrem ∧ GL a0 pe lo ys st' ∧ Fall (arrOf st') lo m q) ?_ ?_ ⟨0, rfl, g, F⟩) ?_)
      · rintro x c st' hx1 hx2 ⟨q, rfl, g, F⟩
        dsimp only
        have hz : lo + x ≤ (arrOf st').size := by rw [g.1.1.size]; omega
        refine wpS_bind (zA5 g.1.1 h0 (by omega) (by omega) fun b hb => ?_)
        cases b
        · have hb : ¬ K (arrOf st') (lo + x) < K (arrOf st') (lo + x - 1) := fun z => by cases hb.mpr z
          refine wpS_bind (zA5 g.1.1 h0 (by omega) (by omega) fun b hb2 => ?_)
          cases b
          · exact wpS_pure ⟨_, rfl, g, F.like hb fun z => by cases hb2.mpr z⟩
          · exact wpS_pure ⟨x, q, rfl, by omega, g, F⟩
        · have hb := hb.mp rfl
          by_cases hq : q > 0
          · simp only [if_pos hq, if_true]
            refine wpS_bind (zA2 g.1.1 fun st2 b2 e2 a2 => wpS_pure ⟨0, rfl, ⟨⟨b2, e2.trans g.1.2⟩, fun k hk => ?_⟩, ?_⟩)
            · rw [a2, F.mir hz]; exact g.2 k hk
            · rw [a2]
              exact .zero ((F.less hb).dn.eqK fun k _ _ => F.mir hz k) (by omega)
          · simp only [if_neg hq, if_true]
            exact wpS_pure ⟨0, rfl, g, F.less hb⟩
      · rintro c st' ⟨q, rfl, g, F⟩; exact ⟨_, _, rfl, by omega, g, F⟩
      · rintro c st' ⟨m, q, rfl, hm2, g, F⟩
        dsimp only
        have hm1 := F.q1
        have hz : lo + m ≤ (arrOf st').size := by rw [g.1.1.size]; omega
        by_cases hq : q > 0
        · rw [if_pos hq]
          refine wpS_bind (zA2 g.1.1 fun st2 b2 e2 a2 => wpS_bind (zA2 b2 fun st3 b3 e3 a3 => ?_))
          have hz2 : lo + m ≤ (arrOf st2).size := by rw [b2.size]; omega
          have D2 : Dn (arrOf st2) lo (lo + m) := by rw [a2]; exact F.dn.eqK fun k _ _ => F.mir hz k
          have L2 : Low lo ys (arrOf st2) := by rw [a2]; exact fun k hk => (F.mir hz k).trans (g.2 k hk)
          have U : Up (arrOf st3) lo (lo + m) := by rw [a3]; exact D2.mir hz2
          have L3 : Low lo ys (arrOf st3) := by rw [a3]; exact L2.trans (Low.mir (Nat.le_refl _) hz2)
          refine wpS_bind (wpS_mono (wpS_forRange (I := fun x c st' => c = (none, x) ∧ GL a0 pe lo ys st' ∧ Up (arrOf st') lo (lo + x)) (Q := fun c st' => ∃ m, c = (none, m) ∧ 1 ≤ m ∧ m ≤ nrem ∧ GL a0 pe lo ys st' ∧ Up (arrOf st') lo (lo + m)) ?_ ?_ ⟨rfl, ⟨⟨b3, e3.trans (e2.trans g.1.2)⟩, L3⟩, U⟩) ?_)
          · rintro x c st' hx1 hx2 ⟨rfl, g, U⟩
            dsimp only
            refine wpS_bind (zA5 g.1.1 h0 (by omega) (by omega) fun b hb => ?_)
            cases b
            · exact wpS_pure ⟨rfl, g, U.snoc (Int.not_lt.mp fun z => by cases hb.mpr z)⟩
            · exact wpS_pure ⟨x, rfl, by omega, by omega, g, U⟩
          · rintro c st' ⟨rfl, g, U⟩; exact ⟨_, rfl, by omega, by omega, g, U⟩
          · rintro c st' ⟨m, rfl, hm1, hm2, g, U⟩
            exact wpS_pure (h _ _ g hm1 hm2 U)
        · rw [if_neg hq]
          refine wpS_bind (zA2 g.1.1 fun st3 b3 e3 a3 => ?_)
          have e2 : pendingOf st' = pendingOf st' := rfl
          have U : Up (arrOf st3) lo (lo + m) := by rw [a3]; exact F.dn.mir hz
          have L3 : Low lo ys (arrOf st3) := by rw [a3]; exact g.2.trans (Low.mir (Nat.le_refl _) hz)
          refine wpS_bind (wpS_mono (wpS_forRange (I := fun x c st' => c = (none, x) ∧ GL a0 pe lo ys st' ∧ Up (arrOf st') lo (lo + x)) (Q := fun c st' => ∃ m, c = (none, m) ∧ 1 ≤ m ∧ m ≤ nrem ∧ GL a0 pe lo ys st' ∧ Up (arrOf st') lo (lo + m)) ?_ ?_ ⟨rfl, ⟨⟨b3, e3.trans (e2.trans g.1.2)⟩, L3⟩, U⟩) ?_)
          · rintro x c st' hx1 hx2 ⟨rfl, g, U⟩
            dsimp only
            refine wpS_bind (zA5 g.1.1 h0 (by omega) (by omega) fun b hb => ?_)
            cases b
            · exact wpS_pure ⟨rfl, g, U.snoc (Int.not_lt.mp fun z => by cases hb.mpr z)⟩
            · exact wpS_pure ⟨x, rfl, by omega, by omega, g, U⟩
          · rintro c st' ⟨rfl, g, U⟩; exact ⟨_, rfl, by omega, by omega, g, U⟩
          · rintro c st' ⟨m, rfl, hm1, hm2, g, U⟩
            exact wpS_pure (h _ _ g hm1 hm2 U)
theorem zK3 {lo n ok:Nat}{pe:Array (Nat×Nat×Nat)}{ys:Array Keyed}{st:SortSt}{Q:Bool->SortSt->Prop}(h0:IntKeys a0)(hn:lo+n<=a0.size)(hok:ok<=n)(hB:GL a0 pe lo ys st)(hU:Up (arrOf st) lo (lo+ok))
  (h:∀ st',GL a0 pe lo ys st'->Up (arrOf st') lo (lo+n)->Q true st'):wpS (model prog w) A E s (binarySort' lo n ok) Q st:=by
 rw[binarySort'_eq]
 refine wpS_bind (wpS_mono (wpS_forRange (I:=λk c st'=>c=(none,())/\GL a0 pe lo ys st'/\Up (arrOf st') lo (lo+min k n)) (Q:=λc st'=>c=(none,())/\GL a0 pe lo ys st'/\Up (arrOf st') lo (lo+n)) ?_ ?_ ⟨rfl,hB,?_⟩) ?_)
 ·rintro k c st' hak hkn ⟨rfl,g,U⟩
  rw[Nat.min_eq_left (Nat.le_of_lt hkn)] at U
  refine wpS_bind (wpS_mono (wpS_forRange (I:=λx c st''=>∃ l r,c=(none,l,r)/\st''=st'/\l<=r/\r<=k/\r-l<=k-x/\(∀ i,i<l->K (arrOf st') (lo+i)<=K (arrOf st') (lo+k))/\(∀ i,r<=i->i<k->K (arrOf st') (lo+k)<K (arrOf st') (lo+i)))
   (Q:=λc st''=>∃ l r,c=(none,l,r)/\st''=st'/\l<=k/\(∀ i,i<l->K (arrOf st') (lo+i)<=K (arrOf st') (lo+k))/\(∀ i,l<=i->i<k->K (arrOf st') (lo+k)<K (arrOf st') (lo+i))) ?_ ?_ ⟨0,k,rfl,rfl,by omega,Nat.le_refl _,by omega,λi hi=>by omega,λi h1 h2=>by omega⟩) ?_)
  ·rintro x c st'' _ hxk ⟨l,r,rfl,rfl,hlr,hr,hm,f1,f2⟩
   dsimp only
   by_cases hge:l>=r
   ·rw[if_pos hge]
    obtain rfl:l=r:=by omega
    exact wpS_pure ⟨l,l,rfl,rfl,hr,f1,f2⟩
   ·rw[if_neg hge]
    refine wpS_bind (zA5 g.1.1 h0 (by omega) (by omega) λb hb=>?_)
    cases b
    ·have hb:¬ K (arrOf st'') (lo+k)<K (arrOf st'') (lo+(l+r) / 2):=λz=>by cases hb.mpr z
     refine wpS_pure ⟨_,_,rfl,rfl,by omega,hr,by omega,λi hi=>?_,f2⟩
     exact Int.le_trans (U (lo+i) (lo+(l+r) / 2) (by omega) (by omega) (by omega)) (Int.not_lt.mp hb)
    ·refine wpS_pure ⟨_,_,rfl,rfl,by omega,by omega,by omega,f1,λi h1 h2=>?_⟩
     exact Int.lt_of_lt_of_le (hb.mp rfl) (U _ _ (by omega) (by omega) (by omega))
  ·rintro c st'' ⟨l,r,rfl,rfl,hlr,hr,hm,f1,f2⟩
   obtain rfl:l=r:=by omega
   exact⟨l,l,rfl,rfl,hr,f1,f2⟩
  ·rintro c st'' ⟨l,r,rfl,rfl,hl,f1,f2⟩
   refine wpS_bind (zFy g.1.1 λst2 b2 e2 a2=>wpS_pure ⟨rfl,⟨⟨b2,e2.trans g.1.2⟩,?_⟩,?_⟩)
   ·have hz:lo+k<(arrOf st'').size:=by rw[g.1.1.size];omega
    intro j hj
    rw[a2,K_bubble hz (by omega),if_neg (by omega),if_neg (by omega)]
    exact g.2 j hj
   ·have hz:lo+k<(arrOf st'').size:=by rw[g.1.1.size];omega
    rw[Nat.min_eq_left (show k+1<=n by omega),a2]
    intro i j hi hij hj
    have F1:∀ i,lo<=i->i<lo+l->K (arrOf st'') i<=K (arrOf st'') (lo+k):=λi q1 q2=>by
     have:=f1 (i-lo) (by omega);rwa [show lo+(i-lo)=i by omega] at this
    have F2:∀ i,lo+l<=i->i<lo+k->K (arrOf st'') (lo+k)<K (arrOf st'') i:=λi q1 q2=>by
     have:=f2 (i-lo) (by omega) (by omega);rwa [show lo+(i-lo)=i by omega] at this
    rw[K_bubble hz (by omega),K_bubble hz (by omega),show lo+k-(lo+k-(lo+l))=lo+l by omega]
    repeat' split
    all_goals first
     | (exfalso;omega)
     | exact Int.le_refl _
     | exact F1 _ (by omega) (by omega)
     | exact Int.le_of_lt (F2 _ (by omega) (by omega))
     | exact U _ _ (by omega) (by omega) (by omega)
 ·rintro c st' ⟨rfl,g,U⟩
  rw[show min (max (max ok 1) n) n=n by omega] at U
  exact⟨rfl,g,U⟩
 ·intro i j hi hij hj
  by_cases e:ok=0
  ·obtain rfl:i=j:=by omega
   exact Int.le_refl _
  ·exact hU i j hi hij (by omega)
 ·rintro c st' ⟨rfl,g,U⟩;exact wpS_pure (h _ g U)
end
end SB
namespace SB
open PySem PyProof.Rows
section
variable {prog:Program}{w:World}{A:Around}{E:Value->Shared->Prop}{s:Shared}{a0:Array Keyed}
def Ahead (left:Bool)(key:Keyed)(x:Int):Prop:=if left=true then x<ks key else x<=ks key
theorem zHJ {left:Bool}{key:Keyed}{x y:Int}(h:Ahead left key y)(hxy:x<=y):Ahead left key x:=by
 unfold Ahead at h ⊢
 cases left
 ·exact Int.le_trans hxy h
 ·exact Int.lt_of_le_of_lt hxy h
theorem zAj {left:Bool}{key:Keyed}{arr:Array Keyed}{base n hint:Nat}{st:SortSt}{Q:Option Nat->SortSt->Prop}(hk:kindOf st=oneType')(hkey:∃ i t,key.1=Value.int i t)(ha:IntKeys arr)
  (hb:base+n<=arr.size) (hh:hint<n) (hs:Up arr base (base+n))
  (h:∀ k,k<=n->(∀ i,i<k->Ahead left key (K arr (base+i)))->(∀ i,k<=i->i<n->¬ Ahead left key (K arr (base+i)))->Q (some k) st):wpS (model prog w) A E s (zJI left key arr base n hint) Q st:=by
 show wpS _ _ _ _ (_ >>= _) _ _
 have bey:∀ (i:Nat) (Q':Option Bool->SortSt->Prop),i<n->(∀ b:Bool,(b=true↔Ahead left key (K arr (base+i)))->Q' (some b) st)->wpS (model prog w) A E s (do
   let x <- elem' arr (base+i)
   if left then lt' x key else return (<- lt' key x).map (!·)) Q' st:=by
  intro i Q' hi q
  obtain⟨p,e1,k1⟩:=zE6 ha (i:=base+i) (by omega)
  rw[K_at e1] at q
  refine wpS_bind (zBX e1 ?_)
  cases left
  ·rw[if_neg (by decide)]
   refine wpS_bind (zCQ hk hkey k1 (wpS_pure (q _ ?_)))
   simp[Ahead]
  ·rw[if_pos rfl]
   refine zCQ hk k1 hkey (q _ ?_)
   simp[Ahead]
 have up:∀ i j,i<=j->j<n->Ahead left key (K arr (base+j))->Ahead left key (K arr (base+i)):=λi j h1 h2 h3=>zHJ h3 (hs _ _ (by omega) (by omega) (by omega))
 generalize hF:(λi=>Ahead left key (K arr (base+i)))=F at *
 have eF:∀ i,Ahead left key (K arr (base+i))=F i:=λi=>by rw[<- hF]
 simp only[eF] at bey up h
 clear eF
 dsimp only
 refine wpS_bind (bey hint _ hh λb hbh=>?_)
 cases b
 ·have hbh:¬ F hint:=λz=>absurd (hbh.mpr z) (by decide)
  dsimp only
  rw[if_neg (by decide)]
  refine wpS_bind (wpS_mono (wpS_forRange (I:=λx c st'=>∃ l r,c=(none,l,r)/\l<r/\x+1<=r/\l<=hint/\¬ F (hint-l)/\st=st') (Q:=λc st'=>∃ l r,c=(none,l,r)/\l<r/\l<=hint/\¬ F (hint-l)/\(hint+1<=r\/F (hint-r))/\st=st') ?_ ?_ ⟨_,_,rfl,by omega,by omega,by omega,hbh,rfl⟩) ?_)
  ·rintro x c st' _ hx ⟨l,r,rfl,hlr,hxr,hl,f,rfl⟩
   dsimp only
   by_cases hge:r>=hint+1
   ·rw[if_pos hge];exact wpS_pure ⟨l,r,rfl,hlr,hl,f,.inl hge,rfl⟩
   ·rw[if_neg hge]
    refine wpS_bind (bey _ _ (by omega) λb hbb=>?_)
    cases b
    ·exact wpS_pure ⟨_,_,rfl,by omega,by omega,by omega,λz=>absurd (hbb.mpr z) (by decide),rfl⟩
    ·exact wpS_pure ⟨_,_,rfl,hlr,hl,f,.inr (hbb.mp rfl),rfl⟩
  ·rintro c st' ⟨l,r,rfl,hlr,hxr,hl,f,rfl⟩;exact⟨l,r,rfl,hlr,hl,f,.inl (by omega),rfl⟩
  ·rintro c st' ⟨l,r,rfl,hlr,hl,f,hor,rfl⟩
   have f1:∀ i,i<hint+1-min r (hint+1)->F i:=λi hi=>by
    rcases hor with z | z
    ·omega
    ·exact up i (hint-r) (by omega) (by omega) z
   have f2:∀ i,hint-l<=i->i<n->¬ F i:=λi h1 h2 h3=>f (up (hint-l) i h1 h2 h3)
   have hlr:hint+1-min r (hint+1)<=hint-l:=by omega
   have hrn:hint-l<=n:=by omega
   dsimp only
   refine wpS_bind (wpS_mono (wpS_forRange (I:=λx c st'=>∃ l r,c=(none,l,r)/\l<=r/\r<=n/\r-l<=n-x/\(∀ i,i<l->F i)/\(∀ i,r<=i->i<n->¬ F i)/\st=st') (Q:=λc st'=>∃ l,c=(none,l,l)/\l<=n/\(∀ i,i<l->F i)/\(∀ i,l<=i->i<n->¬ F i)/\st=st') ?_ ?_ ⟨_,_,rfl,hlr,hrn,by omega,f1,f2,rfl⟩) ?_)
   ·rintro x c st' _ hx ⟨l,r,rfl,hlr,hr,hm,f1,f2,rfl⟩
    dsimp only
    by_cases hge:l>=r
    ·rw[if_pos hge]
     obtain rfl:l=r:=by omega
     exact wpS_pure ⟨l,rfl,hr,f1,f2,rfl⟩
    ·rw[if_neg hge]
     refine wpS_bind (bey _ _ (by omega) λb hbb=>?_)
     cases b
     ·refine wpS_pure ⟨_,_,rfl,by omega,by omega,by omega,f1,λi h1 h2 h3=>?_,rfl⟩
      have:=up (l+(r-l) / 2) i h1 h2 h3
      exact absurd (hbb.mpr this) (by decide)
     ·exact wpS_pure ⟨_,_,rfl,by omega,hr,by omega,λi h1=>up i _ (by omega) (by omega) (hbb.mp rfl),f2,rfl⟩
   ·rintro c st' ⟨l,r,rfl,hlr,hr,hm,f1,f2,rfl⟩
    obtain rfl:l=r:=by omega
    exact⟨l,rfl,hr,f1,f2,rfl⟩
   ·rintro c st' ⟨l,rfl,hr,f1,f2,rfl⟩
    exact wpS_pure (h _ hr f1 f2)
 ·have hbh:F hint:=hbh.mp rfl
  dsimp only
  rw[if_pos rfl]
  refine wpS_bind (wpS_mono (wpS_forRange (I:=λx c st'=>∃ l r,c=(none,l,r)/\l<r/\x+1<=r/\hint+l<n/\F (hint+l)/\st=st') (Q:=λc st'=>∃ l r,c=(none,l,r)/\l<r/\hint+l<n/\F (hint+l)/\(n-hint<=r\/¬ F (hint+r))/\st=st') ?_ ?_ ⟨_,_,rfl,by omega,by omega,by omega,hbh,rfl⟩) ?_)
  ·rintro x c st' _ hx ⟨l,r,rfl,hlr,hxr,hl,f,rfl⟩
   dsimp only
   by_cases hge:r>=n-hint
   ·rw[if_pos hge];exact wpS_pure ⟨l,r,rfl,hlr,hl,f,.inl hge,rfl⟩
   ·rw[if_neg hge]
    refine wpS_bind (bey _ _ (by omega) λb hbb=>?_)
    cases b
    ·exact wpS_pure ⟨_,_,rfl,hlr,hl,f,.inr (λz=>absurd (hbb.mpr z) (by decide)),rfl⟩
    ·exact wpS_pure ⟨_,_,rfl,by omega,by omega,by omega,hbb.mp rfl,rfl⟩
  ·rintro c st' ⟨l,r,rfl,hlr,hxr,hl,f,rfl⟩;exact⟨l,r,rfl,hlr,hl,f,.inl (by omega),rfl⟩
  ·rintro c st' ⟨l,r,rfl,hlr,hl,f,hor,rfl⟩
   have f1:∀ i,i<hint+l+1->F i:=λi hi=>up i (hint+l) (by omega) hl f
   have f2:∀ i,hint+min r (n-hint)<=i->i<n->¬ F i:=λi h1 h2 h3=>by
    rcases hor with z | z
    ·omega
    ·exact z (up (hint+r) i (by omega) h2 h3)
   have hlr:hint+l+1<=hint+min r (n-hint):=by omega
   have hrn:hint+min r (n-hint)<=n:=by omega
   dsimp only
   refine wpS_bind (wpS_mono (wpS_forRange (I:=λx c st'=>∃ l r,c=(none,l,r)/\l<=r/\r<=n/\r-l<=n-x/\(∀ i,i<l->F i)/\(∀ i,r<=i->i<n->¬ F i)/\st=st') (Q:=λc st'=>∃ l,c=(none,l,l)/\l<=n/\(∀ i,i<l->F i)/\(∀ i,l<=i->i<n->¬ F i)/\st=st') ?_ ?_ ⟨_,_,rfl,hlr,hrn,by omega,f1,f2,rfl⟩) ?_)
   ·rintro x c st' _ hx ⟨l,r,rfl,hlr,hr,hm,f1,f2,rfl⟩
    dsimp only
    by_cases hge:l>=r
    ·rw[if_pos hge]
     obtain rfl:l=r:=by omega
     exact wpS_pure ⟨l,rfl,hr,f1,f2,rfl⟩
    ·rw[if_neg hge]
     refine wpS_bind (bey _ _ (by omega) λb hbb=>?_)
     cases b
     ·refine wpS_pure ⟨_,_,rfl,by omega,by omega,by omega,f1,λi h1 h2 h3=>?_,rfl⟩
      have:=up (l+(r-l) / 2) i h1 h2 h3
      exact absurd (hbb.mpr this) (by decide)
     ·exact wpS_pure ⟨_,_,rfl,by omega,hr,by omega,λi h1=>up i _ (by omega) (by omega) (hbb.mp rfl),f2,rfl⟩
   ·rintro c st' ⟨l,r,rfl,hlr,hr,hm,f1,f2,rfl⟩
    obtain rfl:l=r:=by omega
    exact⟨l,rfl,hr,f1,f2,rfl⟩
   ·rintro c st' ⟨l,rfl,hr,f1,f2,rfl⟩
    exact wpS_pure (h _ hr f1 f2)
abbrev Srt (l:List Keyed):Prop:=l.Pairwise λp q=>ks p<=ks q
theorem zAe {xs:Array Keyed}{i j:Nat}{p:Keyed}(h:p∈(xs.extract i j).toList):∃ k,i<=k/\k<j/\k<xs.size/\K xs k=ks p:=by
 rw[zA1] at h
 obtain⟨k,hk,e⟩:=List.getElem_of_mem h
 have hk':=hk
 rw[List.length_drop,List.length_take,Array.length_toList] at hk'
 refine⟨i+k,by omega,by omega,by omega,?_⟩
 rw[List.getElem_drop,List.getElem_take] at e
 exact K_at (by rw[<- e];simp)
theorem zB6 {xs:Array Keyed}{i j:Nat}(h:Up xs i j)(hj:j<=xs.size):Srt (xs.extract i j).toList:=by
 rw[zA1,Srt,List.pairwise_iff_getElem]
 intro k m hk hm hkm
 rw[List.length_drop,List.length_take,Array.length_toList] at hk hm
 rw[List.getElem_drop,List.getElem_take,List.getElem_drop,List.getElem_take]
 have q:=h (i+k) (i+m) (by omega) (by omega) (by omega)
 rw[K_eq (by omega),K_eq (by omega)] at q
 simpa using q
structure Od (a b:Array Keyed)(ia ib:Nat)(out:Array Keyed):Prop where
 laid:Laid a b ia ib out
 srt:Srt out.toList
 la:∀ p,p∈out.toList->∀ j,ia<=j->j<a.size->ks p<=K a j
 lb:∀ p,p∈out.toList->∀ j,ib<=j->j<b.size->ks p<=K b j
structure Fit (a b:Array Keyed):Prop where
 ua:Up a 0 a.size
 ub:Up b 0 b.size
 fb:∀ j,j<a.size->K b 0<=K a j
 la:∀ j,j<b.size->K b j<=K a (a.size-1)
variable {a b:Array Keyed}{ia ib:Nat}{out:Array Keyed}
theorem Od.push {xs:Array Keyed}{p:Keyed}{k:Nat}(hs:Srt out.toList)(hl:∀ p,p∈out.toList->∀ j,k<=j->j<xs.size->ks p<=K xs j)(hp:xs[k]?=some p):Srt (out.push p).toList:=by
 rw[Array.toList_push,Srt,List.pairwise_append]
 refine⟨hs,List.pairwise_singleton _ _,λq hq r hr=>?_⟩
 obtain rfl:=List.mem_singleton.mp hr
 rw[<- K_at hp]
 exact hl q hq k (Nat.le_refl _) (by have:=Array.getElem?_eq_some_iff.mp hp;exact this.1)
theorem zEV {xs:Array Keyed}{p:Keyed}{k:Nat}(hp:xs[k]?=some p):k<xs.size:=(Array.getElem?_eq_some_iff.mp hp).1
theorem Od.pb (F:Fit a b)(h:Od a b ia ib out){p:Keyed}(hp:b[ib]?=some p)(hx:∀ j,ia<=j->j<a.size->ks p<=K a j):Od a b ia (ib+1) (out.push p):=by
 refine⟨h.laid.b hp,Od.push h.srt h.lb hp,λq hq j h1 h2=>?_,λq hq j h1 h2=>?_⟩
 ·rw[Array.toList_push,List.mem_append,List.mem_singleton] at hq
  rcases hq with hq | rfl
  ·exact h.la q hq j h1 h2
  ·exact hx j h1 h2
 ·rw[Array.toList_push,List.mem_append,List.mem_singleton] at hq
  rcases hq with hq | rfl
  ·exact h.lb q hq j (by omega) h2
  ·rw[<- K_at hp];exact F.ub _ _ (by omega) (by omega) h2
theorem Od.pa (F:Fit a b)(h:Od a b ia ib out){p:Keyed}(hp:a[ia]?=some p)(hx:∀ j,ib<=j->j<b.size->ks p<=K b j):Od a b (ia+1) ib (out.push p):=by
 refine⟨h.laid.a hp,Od.push h.srt h.la hp,λq hq j h1 h2=>?_,λq hq j h1 h2=>?_⟩
 ·rw[Array.toList_push,List.mem_append,List.mem_singleton] at hq
  rcases hq with hq | rfl
  ·exact h.la q hq j (by omega) h2
  ·rw[<- K_at hp];exact F.ua _ _ (by omega) (by omega) h2
 ·rw[Array.toList_push,List.mem_append,List.mem_singleton] at hq
  rcases hq with hq | rfl
  ·exact h.lb q hq j h1 h2
  ·exact hx j h1 h2
theorem Od.app {xs:Array Keyed}{k m:Nat}(hs:Srt out.toList)(hl:∀ p,p∈out.toList->∀ j,k<=j->j<xs.size->ks p<=K xs j)(hu:Up xs 0 xs.size)(hm:m<=xs.size):Srt (out++xs.extract k m).toList:=by
 rw[Array.toList_append,Srt,List.pairwise_append]
 refine⟨hs,zB6 (λi j h1 h2 h3=>hu i j (by omega) h2 (by omega)) hm,λq hq r hr=>?_⟩
 obtain⟨i,h1,h2,h3,e⟩:=zAe hr
 rw[<- e]
 exact hl q hq i h1 h3
theorem Od.ak (F:Fit a b)(h:Od a b ia ib out){k:Nat}(hk:ia+k<=a.size)(hx:∀ i,ia<=i->i<ia+k->∀ j,ib<=j->j<b.size->K a i<=K b j):Od a b (ia+k) ib (out++a.extract ia (ia+k)):=by
 refine⟨h.laid.ak k,Od.app h.srt h.la F.ua hk,λq hq j h1 h2=>?_,λq hq j h1 h2=>?_⟩
 ·rw[Array.toList_append,List.mem_append] at hq
  rcases hq with hq | hq
  ·exact h.la q hq j (by omega) h2
  ·obtain⟨i,i1,i2,i3,e⟩:=zAe hq
   rw[<- e];exact F.ua _ _ (by omega) (by omega) h2
 ·rw[Array.toList_append,List.mem_append] at hq
  rcases hq with hq | hq
  ·exact h.lb q hq j h1 h2
  ·obtain⟨i,i1,i2,i3,e⟩:=zAe hq
   rw[<- e];exact hx i i1 i2 j h1 h2
theorem Od.bk (F:Fit a b)(h:Od a b ia ib out){k:Nat}(hk:ib+k<=b.size)(hx:∀ j,ib<=j->j<ib+k->∀ i,ia<=i->i<a.size->K b j<=K a i):Od a b ia (ib+k) (out++b.extract ib (ib+k)):=by
 refine⟨h.laid.bk k,Od.app h.srt h.lb F.ub hk,λq hq j h1 h2=>?_,λq hq j h1 h2=>?_⟩
 ·rw[Array.toList_append,List.mem_append] at hq
  rcases hq with hq | hq
  ·exact h.la q hq j h1 h2
  ·obtain⟨i,i1,i2,i3,e⟩:=zAe hq
   rw[<- e];exact hx i i1 i2 j h1 h2
 ·rw[Array.toList_append,List.mem_append] at hq
  rcases hq with hq | hq
  ·exact h.lb q hq j (by omega) h2
  ·obtain⟨i,i1,i2,i3,e⟩:=zAe hq
   rw[<- e];exact F.ub _ _ (by omega) (by omega) h2
def Mg (a b:Array Keyed)(r:Array Keyed):Prop:=r.toList.Perm (a.toList++b.toList)/\Srt r.toList
theorem Od.fab (F:Fit a b)(h:Od a b ia ib out)(ha:ia<=a.size)(hb:ib<=b.size)(hx:∀ i,ia<=i->i<a.size->∀ j,ib<=j->j<b.size->K a i<=K b j):Mg a b (out++a.extract ia a.size++b.extract ib b.size):=by
 refine⟨h.laid.all ha hb,?_⟩
 obtain⟨j,hj⟩:∃ j,a.size=ia+j:=⟨a.size-ia,by omega⟩
 have q:=(h.ak F (k:=j) (by omega) (λi h1 h2=>hx i h1 (by omega)))
 rw[<- hj] at q
 exact Od.app q.srt q.lb F.ub (Nat.le_refl _)
theorem Od.fb (F:Fit a b)(h:Od a b ia ib out)(ha:ia<=a.size)(e:ib=b.size):Mg a b (out++a.extract ia a.size++b.extract ib b.size):=h.fab F ha (by omega) λi _ _ j h1 h2=>by omega
theorem Od.fa (F:Fit a b)(h:Od a b ia ib out)(hb:ib<=b.size)(e:ia=a.size):Mg a b (out++a.extract ia a.size++b.extract ib b.size):=h.fab F (by omega) hb λi h1 h2 j _ _=>by omega
theorem Od.fl (F : Fit a b) (h : Od a b ia ib out) (hb : ib ≤ b.size) (e : ia + 1 = a.size) : Mg a b (out ++ b.extract ib b.size ++ a.extract ia a.size) := by
  refine ⟨h.laid.all' (by omega) hb, ?_⟩
  obtain ⟨j, hj⟩ : ∃ j, b.size = ib + j := ⟨b.size - ib, by omega⟩
  have q := (h.bk F (k := j) (by omega) (fun i h1 h2 k h3 h4 => by obtain rfl : k = a.size - 1 := by omega
                                                                   exact F.la i (by omega)))
  rw [← hj] at q
  exact Od.app q.srt q.la F.ua (Nat.le_refl _)
theorem gA (F:Fit a b){p:Keyed}{k:Nat}(hp:b[ib]?=some p)(g:∀ i,i<k->Ahead false p (K a (ia+i))):∀ i,ia<=i->i<ia+k->∀ j,ib<=j->j<b.size->K a i<=K b j:=λi h1 h2 j h3 h4=>by
 have q:K a (ia+(i-ia))<=ks p:=g (i-ia) (by omega)
 rw[show ia+(i-ia)=i by omega,<- K_at hp] at q
 exact Int.le_trans q (F.ub _ _ (by omega) h3 h4)
theorem gB {p q:Keyed}{k:Nat}(hp:b[ib]?=some p)(hq:b[ib]?=some q)(g:∀ i,k<=i->i<a.size-ia->¬ Ahead false p (K a (ia+i))):∀ j,ia+k<=j->j<a.size->ks q<=K a j:=λj h1 h2=>by
 obtain rfl:p=q:=by rw[hp] at hq;exact Option.some.inj hq
 have z:¬ K a (ia+(j-ia))<=ks p:=g (j-ia) (by omega) (by omega)
 rw[show ia+(j-ia)=j by omega] at z
 omega
theorem gA2 (F:Fit a b){p:Keyed}{k:Nat}(hp:a[ia]?=some p)(g:∀ i,i<k->Ahead true p (K b (ib+i))):∀ j,ib<=j->j<ib+k->∀ i,ia<=i->i<a.size->K b j<=K a i:=λi h1 h2 j h3 h4=>by
 have q:K b (ib+(i-ib))<ks p:=g (i-ib) (by omega)
 rw[show ib+(i-ib)=i by omega,<- K_at hp] at q
 exact Int.le_trans (Int.le_of_lt q) (F.ua _ _ (by omega) h3 h4)
theorem gB2 {p q:Keyed}{k:Nat}(hp:a[ia]?=some p)(hq:a[ia]?=some q)(g:∀ i,k<=i->i<b.size-ib->¬ Ahead true p (K b (ib+i))):∀ j,ib+k<=j->j<b.size->ks q<=K b j:=λj h1 h2=>by
 obtain rfl:p=q:=by rw[hp] at hq;exact Option.some.inj hq
 have z:¬ K b (ib+(j-ib))<ks p:=g (j-ib) (by omega) (by omega)
 rw[show ib+(j-ib)=j by omega] at z
 omega
end
end SB
namespace SB
open PySem PyProof.Rows
section
variable {prog:Program}{w:World}{A:Around}{E:Value->Shared->Prop}{s:Shared}{a0:Array Keyed}
variable {a b:Array Keyed}{ia ib na nb:Nat}{out:Array Keyed}
theorem ltA (F:Fit a b){p1 p2 p3:Keyed}(h1:b[ib]?=some p1)(h2:a[ia]?=some p2)(h3:b[ib]?=some p3)(h:ks p1<ks p2):∀ j,ia<=j->j<a.size->ks p3<=K a j:=λj q1 q2=>by
 obtain rfl:p1=p3:=by rw[h1] at h3;exact Option.some.inj h3
 rw[<- K_at h2] at h
 exact Int.le_trans (Int.le_of_lt h) (F.ua _ _ (by omega) q1 q2)
theorem ltB (F:Fit a b){p1 p2 p3:Keyed}(h1:b[ib]?=some p1)(h2:a[ia]?=some p2)(h3:a[ia]?=some p3)(h:¬ ks p1<ks p2):∀ j,ib<=j->j<b.size->ks p3<=K b j:=λj q1 q2=>by
 obtain rfl:p2=p3:=by rw[h2] at h3;exact Option.some.inj h3
 rw[<- K_at h1] at h
 exact Int.le_trans (Int.not_lt.mp h) (F.ub _ _ (by omega) q1 q2)
theorem Up.sub {xs:Array Keyed}{i n:Nat}(h:Up xs 0 xs.size)(hn:i+n<=xs.size):Up xs i (i+n):=λk m _ h2 h3=>h k m (by omega) h2 (by omega)
structure MidO (a b:Array Keyed)(c0 ia ib:Nat)(out:Array Keyed):Prop where
 laid:Od a b ia ib out
 ha:ia+1<a.size
 hb:ib<b.size
 pr:c0<=ia+ib
def zE9 (a b:Array Keyed)(GG:SortSt->Prop){β:Type}(c:Option (Array Keyed)×β)(st':SortSt):Prop:=∃ r y,c=(some r,y)/\Mg a b r/\GG st'
structure OdH (a b:Array Keyed)(na nb:Nat)(out:Array Keyed):Prop where
 laid:LaidH a b na nb out
 srt:out.toList.Pairwise λp q=>ks q<=ks p
 la:∀ p,p∈out.toList->∀ j,j<na->K a j<=ks p
 lb:∀ p,p∈out.toList->∀ j,j<nb->K b j<=ks p
theorem OdH.pb (F:Fit a b)(h:OdH a b na nb out)(h1:1<=nb){p:Keyed}(hp:b[nb-1]?=some p)(hx:∀ j,j<na->K a j<=ks p):OdH a b na (nb-1) (out.push p):=by
 have hz:=zEV hp
 refine⟨h.laid.b h1 hp,?_,λq hq j h2=>?_,λq hq j h2=>?_⟩
 ·rw[Array.toList_push,List.pairwise_append]
  refine⟨h.srt,List.pairwise_singleton _ _,λq hq r hr=>?_⟩
  obtain rfl:=List.mem_singleton.mp hr
  rw[<- K_at hp];exact h.lb q hq _ (by omega)
 ·rw[Array.toList_push,List.mem_append,List.mem_singleton] at hq
  rcases hq with hq | rfl
  ·exact h.la q hq j h2
  ·exact hx j h2
 ·rw[Array.toList_push,List.mem_append,List.mem_singleton] at hq
  rcases hq with hq | rfl
  ·exact h.lb q hq j (by omega)
  ·rw[<- K_at hp];exact F.ub _ _ (by omega) (by omega) (by omega)
theorem OdH.pa (F:Fit a b)(h:OdH a b na nb out)(h1:1<=na){p:Keyed}(hp:a[na-1]?=some p)(hx:∀ j,j<nb->K b j<=ks p):OdH a b (na-1) nb (out.push p):=by
 have hz:=zEV hp
 refine⟨h.laid.a h1 hp,?_,λq hq j h2=>?_,λq hq j h2=>?_⟩
 ·rw[Array.toList_push,List.pairwise_append]
  refine⟨h.srt,List.pairwise_singleton _ _,λq hq r hr=>?_⟩
  obtain rfl:=List.mem_singleton.mp hr
  rw[<- K_at hp];exact h.la q hq _ (by omega)
 ·rw[Array.toList_push,List.mem_append,List.mem_singleton] at hq
  rcases hq with hq | rfl
  ·exact h.la q hq j (by omega)
  ·rw[<- K_at hp];exact F.ua _ _ (by omega) (by omega) (by omega)
 ·rw[Array.toList_push,List.mem_append,List.mem_singleton] at hq
  rcases hq with hq | rfl
  ·exact h.lb q hq j h2
  ·exact hx j h2
theorem zFz {xs:Array Keyed}{k m:Nat}(hs:out.toList.Pairwise λp q=>ks q<=ks p)(hl:∀ p,p∈out.toList->∀ j,j<m->K xs j<=ks p)(hu:Up xs 0 xs.size)(hm:m<=xs.size):(out++(xs.extract k m).reverse).toList.Pairwise λp q=>ks q<=ks p:=by
 rw[Array.toList_append,Array.toList_reverse,List.pairwise_append]
 refine⟨hs,List.pairwise_reverse.mpr (zB6 (λi j h1 h2 h3=>hu i j (by omega) h2 (by omega)) hm),λq hq r hr=>?_⟩
 obtain⟨i,h1,h2,h3,e⟩:=zAe (List.mem_reverse.mp hr)
 rw[<- e]
 exact hl q hq i h2
theorem OdH.ak (F:Fit a b)(h:OdH a b na nb out){k:Nat}(hk:k<=na)(hn:na<=a.size)(hx:∀ i,k<=i->i<na->∀ j,j<nb->K b j<=K a i):OdH a b k nb (out++(a.extract k na).reverse):=by
 refine⟨h.laid.ak hk,zFz h.srt h.la F.ua hn,λq hq j h2=>?_,λq hq j h2=>?_⟩
 ·rw[Array.toList_append,Array.toList_reverse,List.mem_append,List.mem_reverse] at hq
  rcases hq with hq | hq
  ·exact h.la q hq j (by omega)
  ·obtain⟨i,i1,i2,i3,e⟩:=zAe hq
   rw[<- e];exact F.ua _ _ (by omega) (by omega) i3
 ·rw[Array.toList_append,Array.toList_reverse,List.mem_append,List.mem_reverse] at hq
  rcases hq with hq | hq
  ·exact h.lb q hq j h2
  ·obtain⟨i,i1,i2,i3,e⟩:=zAe hq
   rw[<- e];exact hx i i1 i2 j h2
theorem OdH.bk (F:Fit a b)(h:OdH a b na nb out){k:Nat}(hk:k<=nb)(hn:nb<=b.size)(hx:∀ j,k<=j->j<nb->∀ i,i<na->K a i<=K b j):OdH a b na k (out++(b.extract k nb).reverse):=by
 refine⟨h.laid.bk hk,zFz h.srt h.lb F.ub hn,λq hq j h2=>?_,λq hq j h2=>?_⟩
 ·rw[Array.toList_append,Array.toList_reverse,List.mem_append,List.mem_reverse] at hq
  rcases hq with hq | hq
  ·exact h.la q hq j h2
  ·obtain⟨i,i1,i2,i3,e⟩:=zAe hq
   rw[<- e];exact hx i i1 i2 j h2
 ·rw[Array.toList_append,Array.toList_reverse,List.mem_append,List.mem_reverse] at hq
  rcases hq with hq | hq
  ·exact h.lb q hq j (by omega)
  ·obtain⟨i,i1,i2,i3,e⟩:=zAe hq
   rw[<- e];exact F.ub _ _ (by omega) (by omega) i3
theorem srt3 {x y z:List Keyed}(hx:Srt x)(hy:Srt y)(hz:Srt z)(h1:∀ p,p∈x->∀ q,q∈y->ks p<=ks q)(h2:∀ p,p∈x->∀ q,q∈z->ks p<=ks q)(h3:∀ p,p∈y->∀ q,q∈z->ks p<=ks q):Srt (x++y++z):=by
 rw[Srt,List.pairwise_append,List.pairwise_append]
 refine⟨⟨hx,hy,h1⟩,hz,λp hp q hq=>?_⟩
 rcases List.mem_append.mp hp with hp | hp
 ·exact h2 p hp q hq
 ·exact h3 p hp q hq
theorem OdH.fab (F:Fit a b)(h:OdH a b na nb out)(ha:na<=a.size)(hb:nb<=b.size)(hx:∀ i,i<na->∀ j,j<nb->K a i<=K b j):Mg a b (a.extract 0 na++b.extract 0 nb++out.reverse):=by
 refine⟨h.laid.all,?_⟩
 rw[Array.toList_append,Array.toList_append,Array.toList_reverse]
 refine srt3 (zB6 (λi j h1 h2 h3=>F.ua i j (by omega) h2 (by omega)) ha) (zB6 (λi j h1 h2 h3=>F.ub i j (by omega) h2 (by omega)) hb) (List.pairwise_reverse.mpr h.srt) (λp hp q hq=>?_) (λp hp q hq=>?_) (λp hp q hq=>?_)
 ·obtain⟨i,_,i2,_,e⟩:=zAe hp
  obtain⟨j,_,j2,_,e2⟩:=zAe hq
  rw[<- e,<- e2];exact hx i i2 j j2
 ·obtain⟨i,_,i2,_,e⟩:=zAe hp
  rw[<- e];exact h.la q (List.mem_reverse.mp hq) i i2
 ·obtain⟨i,_,i2,_,e⟩:=zAe hp
  rw[<- e];exact h.lb q (List.mem_reverse.mp hq) i i2
theorem OdH.fz (F:Fit a b)(h:OdH a b na nb out)(hb:nb<=b.size)(e:na=0):Mg a b (a.extract 0 na++b.extract 0 nb++out.reverse):=h.fab F (by omega) hb λi hi=>by omega
theorem OdH.fn (F:Fit a b)(h:OdH a b na nb out)(ha:na<=a.size)(e:nb=0):Mg a b (a.extract 0 na++b.extract 0 nb++out.reverse):=h.fab F ha (by omega) λi _ j hj=>by omega
theorem OdH.fl (F:Fit a b)(h:OdH a b na nb out)(ha:na<=a.size)(hb:nb<=b.size)(e:nb=1):Mg a b (b.extract 0 nb++a.extract 0 na++out.reverse):=by
 refine⟨h.laid.all',?_⟩
 rw[Array.toList_append,Array.toList_append,Array.toList_reverse]
 refine srt3 (zB6 (λi j h1 h2 h3=>F.ub i j (by omega) h2 (by omega)) hb) (zB6 (λi j h1 h2 h3=>F.ua i j (by omega) h2 (by omega)) ha) (List.pairwise_reverse.mpr h.srt) (λp hp q hq=>?_) (λp hp q hq=>?_) (λp hp q hq=>?_)
 ·obtain⟨i,_,i2,_,e1⟩:=zAe hp
  obtain⟨j,_,j2,_,e2⟩:=zAe hq
  obtain rfl:i=0:=by omega
  rw[<- e1,<- e2];exact F.fb j (by omega)
 ·obtain⟨i,_,i2,_,e⟩:=zAe hp
  rw[<- e];exact h.lb q (List.mem_reverse.mp hq) i i2
 ·obtain⟨i,_,i2,_,e⟩:=zAe hp
  rw[<- e];exact h.la q (List.mem_reverse.mp hq) i i2
theorem hA1 (F:Fit a b){p:Keyed}{k:Nat}(hp:b[nb-1]?=some p)(hb:nb<=b.size)(g:∀ i,k<=i->i<na->¬ Ahead false p (K a (0+i))):∀ i,k<=i->i<na->∀ j,j<nb->K b j<=K a i:=λi h1 h2 j h3=>by
 have z:¬ K a (0+i)<=ks p:=g i h1 h2
 rw[Nat.zero_add,<- K_at hp] at z
 have:=F.ub j (nb-1) (by omega) (by omega) (by omega)
 omega
theorem hB1 {p q:Keyed}{k:Nat}(hp:b[nb-1]?=some p)(hq:b[nb-1]?=some q)(g:∀ i,i<k->Ahead false p (K a (0+i))):∀ j,j<k->K a j<=ks q:=λj h1=>by
 obtain rfl:p=q:=by rw[hp] at hq;exact Option.some.inj hq
 have z:K a (0+j)<=ks p:=g j h1
 rwa [Nat.zero_add] at z
theorem hA2 (F:Fit a b){p:Keyed}{k:Nat}(hp:a[na-1]?=some p)(ha:na<=a.size)(g:∀ i,k<=i->i<nb->¬ Ahead true p (K b (0+i))):∀ j,k<=j->j<nb->∀ i,i<na->K a i<=K b j:=λj h1 h2 i h3=>by
 have z:¬ K b (0+j)<ks p:=g j h1 h2
 rw[Nat.zero_add,<- K_at hp] at z
 have:=F.ua i (na-1) (by omega) (by omega) (by omega)
 omega
theorem hB2 {p q:Keyed}{k:Nat}(hp:a[na-1]?=some p)(hq:a[na-1]?=some q)(g:∀ i,i<k->Ahead true p (K b (0+i))):∀ j,j<k->K b j<=ks q:=λj h1=>by
 obtain rfl:p=q:=by rw[hp] at hq;exact Option.some.inj hq
 have z:K b (0+j)<ks p:=g j h1
 rw[Nat.zero_add] at z
 exact Int.le_of_lt z
theorem ltAH (F:Fit a b){p1 p2 p3:Keyed}(h1:b[nb-1]?=some p1)(h2:a[na-1]?=some p2)(h3:a[na-1]?=some p3)(hn:nb<=b.size)(h:ks p1<ks p2):∀ j,j<nb->K b j<=ks p3:=λj q1=>by
 obtain rfl:p2=p3:=by rw[h2] at h3;exact Option.some.inj h3
 rw[<- K_at h1] at h
 exact Int.le_trans (F.ub _ _ (by omega) (by omega) (by omega)) (Int.le_of_lt h)
theorem ltBH (F:Fit a b){p1 p2 p3:Keyed}(h1:b[nb-1]?=some p1)(h2:a[na-1]?=some p2)(h3:b[nb-1]?=some p3)(hn:na<=a.size)(h:¬ ks p1<ks p2):∀ j,j<na->K a j<=ks p3:=λj q1=>by
 obtain rfl:p1=p3:=by rw[h1] at h3;exact Option.some.inj h3
 rw[<- K_at h2] at h
 exact Int.le_trans (F.ua _ _ (by omega) (by omega) (by omega)) (Int.not_lt.mp h)
structure MidHO (a b:Array Keyed)(c0 na nb:Nat)(out:Array Keyed):Prop where
 laid:OdH a b na nb out
 ha:1<=na
 ha2:na<=a.size
 hb:2<=nb
 hb2:nb<=b.size
 pr:c0+na+nb<=a.size+b.size
theorem zF0 {a b:Array Keyed}{pe:Array (Nat×Nat×Nat)}{xs:Array Keyed}{st:SortSt}{Q:Array Keyed->SortSt->Prop}(hB:GX a0 pe xs st)(ha:IntKeys a)(hb:IntKeys b)(ha1:1<=a.size)(hb1:1<=b.size)
  (F:Fit a b) (h:∀ out st',GX a0 pe xs st'->Mg a b out->Q out st'):wpS (model prog w) A E s (zHH a b) Q st:=by
 show wpS _ _ _ _ (_ >>= _) _ _
 refine wpS_bind (wpS_lift (wpAny_rule ⟨rfl,?_⟩))
 obtain⟨b0,e0,_⟩:=zE6 hb (i:=0) (by omega)
 refine wpS_bind (zBX e0 ?_)
 have L0:Od a b 0 1 #[b0]:=by
  refine⟨?_,List.pairwise_singleton _ _,λp hp j _ hj=>?_,λp hp j _ hj=>?_⟩
  ·unfold Laid
   rw[zD4 e0];simp
  ·obtain rfl:=List.mem_singleton.mp hp
   rw[<- K_at e0];exact F.fb j hj
  ·obtain rfl:=List.mem_singleton.mp hp
   rw[<- K_at e0];exact F.ub _ _ (by omega) (by omega) hj
 dsimp only
 refine zAI (λh1=>wpS_pure (h _ _ hB (L0.fb F (by omega) h1))) λh1=>?_
 refine zAI (λh2=>wpS_pure (h _ _ hB (L0.fl F (by omega) h2))) λh2=>?_
 refine wpS_bind (wpS_get ?_)
 refine wpS_bind (wpS_mono (wpS_forRange (I:=λx c st'=>∃ out ia ib mg,c=(none,out,ia,ib,mg)/\MidO a b (x+1) ia ib out/\GX a0 pe xs st') (Q:=zE9 a b (GX a0 pe xs)) ?step ?fin ⟨_,_,_,_,rfl,⟨L0,by omega,by omega,by omega⟩,hB⟩) ?post)
 case fin =>
  rintro c st' ⟨out,ia,ib,mg,rfl,m,g⟩
  have:=m.ha;have:=m.hb;have:=m.pr
  exfalso;omega
 case post =>
  rintro c st' ⟨r,y,rfl,p,g⟩
  exact wpS_pure (h _ _ g p)
 case step =>
  rintro x c st1 _ hx ⟨out,ia,ib,mg,rfl,m,g⟩
  dsimp only
  refine wpS_bind (wpS_mono (wpS_forRange (I:=λx2 c st'=>∃ out ia ib ac bc,c=(none,out,ia,ib,ac,bc)/\MidO a b (x+1+min x2 1) ia ib out/\GX a0 pe xs st')
   (Q:=λc st'=>zE9 a b (GX a0 pe xs) c st'\/∃ out ia ib ac bc,c=(none,out,ia,ib,ac,bc)/\MidO a b (x+2) ia ib out/\GX a0 pe xs st') ?_ ?_ ⟨_,_,_,_,_,rfl,m,g⟩) ?_)
  ·rintro x2 c st2 _ hx2 ⟨out,ia,ib,ac,bc,rfl,m,g⟩
   have m1:=m.ha;have m2:=m.hb;have m3:=m.pr
   dsimp only
   refine wpS_bind (zAG hb (by omega) λp1 hp1 kp1=>?_)
   refine wpS_bind (zAG ha (by omega) λp2 hp2 kp2=>?_)
   refine wpS_bind (zCQ g.1.1.kind kp1 kp2 ?_)
   dsimp only
   refine zAM (λhbw=>?_) (λhbw=>?_)
   ·refine wpS_bind (zAG hb (by omega) λp3 hp3 kp3=>?_)
    have X:=ltA F hp1 hp2 hp3 (of_decide_eq_true hbw)
    refine zAI (λe=>wpS_pure (.inl ⟨_,_,rfl,(m.laid.pb F hp3 X).fb F (by omega) e,g⟩)) λne=>?_
    exact zAM (λ_=>wpS_pure (.inr ⟨_,_,_,_,_,rfl,⟨m.laid.pb F hp3 X,by omega,by omega,by omega⟩,g⟩)) λ_=>wpS_pure ⟨_,_,_,_,_,rfl,⟨m.laid.pb F hp3 X,by omega,by omega,by omega⟩,g⟩
   ·refine wpS_bind (zAG ha (by omega) λp3 hp3 kp3=>?_)
    have X:=ltB F hp1 hp2 hp3 λz=>hbw (decide_eq_true z)
    refine zAI (λe=>wpS_pure (.inl ⟨_,_,rfl,(m.laid.pa F hp3 X).fl F (by omega) e,g⟩)) λne=>?_
    exact zAM (λ_=>wpS_pure (.inr ⟨_,_,_,_,_,rfl,⟨m.laid.pa F hp3 X,by omega,by omega,by omega⟩,g⟩)) λ_=>wpS_pure ⟨_,_,_,_,_,rfl,⟨m.laid.pa F hp3 X,by omega,by omega,by omega⟩,g⟩
  ·rintro c st2 ⟨out,ia,ib,ac,bc,rfl,m,g⟩
   exact .inr ⟨_,_,_,_,_,rfl,⟨m.laid,m.ha,m.hb,by have:=m.pr;omega⟩,g⟩
  ·rintro c st2 (⟨r,y,rfl,p,g⟩ | ⟨out,ia,ib,ac,bc,rfl,m,g⟩)
   ·exact wpS_pure ⟨_,_,rfl,p,g⟩
   ·dsimp only
    refine wpS_bind (wpS_lift (wpAny_rule ⟨rfl,?_⟩))
    refine wpS_bind (wpS_mono (wpS_forRange (I:=λ_ c st'=>∃ out ia ib mg ac bc,c=(none,out,ia,ib,mg,ac,bc)/\MidO a b (x+2) ia ib out/\GX a0 pe xs st')
     (Q:=λc st'=>zE9 a b (GX a0 pe xs) c st'\/∃ out ia ib mg ac bc,c=(none,out,ia,ib,mg,ac,bc)/\MidO a b (x+2) ia ib out/\GX a0 pe xs st') ?_ ?_ ⟨_,_,_,_,_,_,rfl,m,g⟩) ?_)
    ·rintro x3 c st3 _ hx3 ⟨out,ia,ib,mg,ac,bc,rfl,m,g⟩
     have m1:=m.ha;have m2:=m.hb;have m3:=m.pr
     have L:=m.laid
     dsimp only
     refine zAM (λhm=>?_) (λhm=>?_)
     ·refine wpS_bind (zA4 g λst1 g1=>?_)
      refine wpS_bind (zAG hb (by omega) λp hp kp=>?_)
      refine wpS_bind (zAj g1.1.1.kind kp ha (by omega) (by omega) (F.ua.sub (by omega)) λk hk gk1 gk2=>?_)
      dsimp only
      refine zAM (λhk0=>?_) (λhk0=>?_)
      ·refine zAI (λe=>wpS_pure (.inl ⟨_,_,rfl,((L).ak F (k:=k) (by omega) (gA F hp gk1)).fl F (by omega) e,g1⟩)) λne1=>?_
       refine zAI (λe=>wpS_pure (.inl ⟨_,_,rfl,((L).ak F (k:=k) (by omega) (gA F hp gk1)).fa F (by omega) e,g1⟩)) λne2=>?_
       refine wpS_bind (zAG hb (by omega) λq1 hq1 kq1=>?_)
       refine zAI (λe=>wpS_pure (.inl ⟨_,_,rfl,(((L).ak F (k:=k) (by omega) (gA F hp gk1)).pb F hq1 (gB hp hq1 gk2)).fb F (by omega) e,g1⟩)) λne3=>?_
       refine wpS_bind (zAG ha (by omega) λq2 hq2 kq2=>?_)
       refine wpS_bind (zAj g1.1.1.kind kq2 hb (by omega) (by omega) (F.ub.sub (by omega)) λk2 hk2 gk3 gk4=>?_)
       dsimp only
       refine zAM (λh22=>?_) (λh22=>?_)
       ·refine zAI (λe=>wpS_pure (.inl ⟨_,_,rfl,((((L).ak F (k:=k) (by omega) (gA F hp gk1)).pb F hq1 (gB hp hq1 gk2)).bk F (k:=k2) (by omega) (gA2 F hq2 gk3)).fb F (by omega) e,g1⟩)) λne4=>?_
        refine wpS_bind (zAG ha (by omega) λq3 hq3 kq3=>?_)
        refine zAI (λe=>wpS_pure (.inl ⟨_,_,rfl,(((((L).ak F (k:=k) (by omega) (gA F hp gk1)).pb F hq1 (gB hp hq1 gk2)).bk F (k:=k2) (by omega) (gA2 F hq2 gk3)).pa F hq3 (gB2 hq2 hq3 gk4)).fl F (by omega) e,g1⟩)) λne5=>?_
        refine zAM (λ_=>wpS_pure (.inr ⟨_,_,_,_,_,_,rfl,⟨((((L).ak F (k:=k) (by omega) (gA F hp gk1)).pb F hq1 (gB hp hq1 gk2)).bk F (k:=k2) (by omega) (gA2 F hq2 gk3)).pa F hq3 (gB2 hq2 hq3 gk4),by omega,by omega,by omega⟩,g1⟩)) λ_=>wpS_pure ⟨_,_,_,_,_,_,rfl,⟨((((L).ak F (k:=k) (by omega) (gA F hp gk1)).pb F hq1 (gB hp hq1 gk2)).bk F (k:=k2) (by omega) (gA2 F hq2 gk3)).pa F hq3 (gB2 hq2 hq3 gk4),by omega,by omega,by omega⟩,g1⟩
       ·obtain rfl:k2=0:=by omega
        refine wpS_bind (zAG ha (by omega) λq3 hq3 kq3=>?_)
        refine zAI (λe=>wpS_pure (.inl ⟨_,_,rfl,((((L).ak F (k:=k) (by omega) (gA F hp gk1)).pb F hq1 (gB hp hq1 gk2)).pa F hq3 (gB2 (ib:=ib+1) (k:=0) hq2 hq3 gk4)).fl F (by omega) e,g1⟩)) λne5=>?_
        refine zAM (λ_=>wpS_pure (.inr ⟨_,_,_,_,_,_,rfl,⟨(((L).ak F (k:=k) (by omega) (gA F hp gk1)).pb F hq1 (gB hp hq1 gk2)).pa F hq3 (gB2 (ib:=ib+1) (k:=0) hq2 hq3 gk4),by omega,by omega,by omega⟩,g1⟩)) λ_=>wpS_pure ⟨_,_,_,_,_,_,rfl,⟨(((L).ak F (k:=k) (by omega) (gA F hp gk1)).pb F hq1 (gB hp hq1 gk2)).pa F hq3 (gB2 (ib:=ib+1) (k:=0) hq2 hq3 gk4),by omega,by omega,by omega⟩,g1⟩
      ·obtain rfl:k=0:=by omega
       refine wpS_bind (zAG hb (by omega) λq1 hq1 kq1=>?_)
       refine zAI (λe=>wpS_pure (.inl ⟨_,_,rfl,((L).pb F hq1 (gB hp hq1 gk2)).fb F (by omega) e,g1⟩)) λne3=>?_
       refine wpS_bind (zAG ha (by omega) λq2 hq2 kq2=>?_)
       refine wpS_bind (zAj g1.1.1.kind kq2 hb (by omega) (by omega) (F.ub.sub (by omega)) λk2 hk2 gk3 gk4=>?_)
       dsimp only
       refine zAM (λh22=>?_) (λh22=>?_)
       ·refine zAI (λe=>wpS_pure (.inl ⟨_,_,rfl,(((L).pb F hq1 (gB hp hq1 gk2)).bk F (k:=k2) (by omega) (gA2 F hq2 gk3)).fb F (by omega) e,g1⟩)) λne4=>?_
        refine wpS_bind (zAG ha (by omega) λq3 hq3 kq3=>?_)
        refine zAI (λe=>wpS_pure (.inl ⟨_,_,rfl,((((L).pb F hq1 (gB hp hq1 gk2)).bk F (k:=k2) (by omega) (gA2 F hq2 gk3)).pa F hq3 (gB2 hq2 hq3 gk4)).fl F (by omega) e,g1⟩)) λne5=>?_
        refine zAM (λ_=>wpS_pure (.inr ⟨_,_,_,_,_,_,rfl,⟨(((L).pb F hq1 (gB hp hq1 gk2)).bk F (k:=k2) (by omega) (gA2 F hq2 gk3)).pa F hq3 (gB2 hq2 hq3 gk4),by omega,by omega,by omega⟩,g1⟩)) λ_=>wpS_pure ⟨_,_,_,_,_,_,rfl,⟨(((L).pb F hq1 (gB hp hq1 gk2)).bk F (k:=k2) (by omega) (gA2 F hq2 gk3)).pa F hq3 (gB2 hq2 hq3 gk4),by omega,by omega,by omega⟩,g1⟩
       ·obtain rfl:k2=0:=by omega
        refine wpS_bind (zAG ha (by omega) λq3 hq3 kq3=>?_)
        refine zAI (λe=>wpS_pure (.inl ⟨_,_,rfl,(((L).pb F hq1 (gB hp hq1 gk2)).pa F hq3 (gB2 (ib:=ib+1) (k:=0) hq2 hq3 gk4)).fl F (by omega) e,g1⟩)) λne5=>?_
        refine zAM (λ_=>wpS_pure (.inr ⟨_,_,_,_,_,_,rfl,⟨((L).pb F hq1 (gB hp hq1 gk2)).pa F hq3 (gB2 (ib:=ib+1) (k:=0) hq2 hq3 gk4),by omega,by omega,by omega⟩,g1⟩)) λ_=>wpS_pure ⟨_,_,_,_,_,_,rfl,⟨((L).pb F hq1 (gB hp hq1 gk2)).pa F hq3 (gB2 (ib:=ib+1) (k:=0) hq2 hq3 gk4),by omega,by omega,by omega⟩,g1⟩
     ·refine wpS_bind (zA4 g λst1 g1=>?_)
      refine wpS_bind (zAG hb (by omega) λp hp kp=>?_)
      refine wpS_bind (zAj g1.1.1.kind kp ha (by omega) (by omega) (F.ua.sub (by omega)) λk hk gk1 gk2=>?_)
      dsimp only
      refine zAM (λhk0=>?_) (λhk0=>?_)
      ·refine zAI (λe=>wpS_pure (.inl ⟨_,_,rfl,((L).ak F (k:=k) (by omega) (gA F hp gk1)).fl F (by omega) e,g1⟩)) λne1=>?_
       refine zAI (λe=>wpS_pure (.inl ⟨_,_,rfl,((L).ak F (k:=k) (by omega) (gA F hp gk1)).fa F (by omega) e,g1⟩)) λne2=>?_
       refine wpS_bind (zAG hb (by omega) λq1 hq1 kq1=>?_)
       refine zAI (λe=>wpS_pure (.inl ⟨_,_,rfl,(((L).ak F (k:=k) (by omega) (gA F hp gk1)).pb F hq1 (gB hp hq1 gk2)).fb F (by omega) e,g1⟩)) λne3=>?_
       refine wpS_bind (zAG ha (by omega) λq2 hq2 kq2=>?_)
       refine wpS_bind (zAj g1.1.1.kind kq2 hb (by omega) (by omega) (F.ub.sub (by omega)) λk2 hk2 gk3 gk4=>?_)
       dsimp only
       refine zAM (λh22=>?_) (λh22=>?_)
       ·refine zAI (λe=>wpS_pure (.inl ⟨_,_,rfl,((((L).ak F (k:=k) (by omega) (gA F hp gk1)).pb F hq1 (gB hp hq1 gk2)).bk F (k:=k2) (by omega) (gA2 F hq2 gk3)).fb F (by omega) e,g1⟩)) λne4=>?_
        refine wpS_bind (zAG ha (by omega) λq3 hq3 kq3=>?_)
        refine zAI (λe=>wpS_pure (.inl ⟨_,_,rfl,(((((L).ak F (k:=k) (by omega) (gA F hp gk1)).pb F hq1 (gB hp hq1 gk2)).bk F (k:=k2) (by omega) (gA2 F hq2 gk3)).pa F hq3 (gB2 hq2 hq3 gk4)).fl F (by omega) e,g1⟩)) λne5=>?_
        refine zAM (λ_=>wpS_pure (.inr ⟨_,_,_,_,_,_,rfl,⟨((((L).ak F (k:=k) (by omega) (gA F hp gk1)).pb F hq1 (gB hp hq1 gk2)).bk F (k:=k2) (by omega) (gA2 F hq2 gk3)).pa F hq3 (gB2 hq2 hq3 gk4),by omega,by omega,by omega⟩,g1⟩)) λ_=>wpS_pure ⟨_,_,_,_,_,_,rfl,⟨((((L).ak F (k:=k) (by omega) (gA F hp gk1)).pb F hq1 (gB hp hq1 gk2)).bk F (k:=k2) (by omega) (gA2 F hq2 gk3)).pa F hq3 (gB2 hq2 hq3 gk4),by omega,by omega,by omega⟩,g1⟩
       ·obtain rfl:k2=0:=by omega
        refine wpS_bind (zAG ha (by omega) λq3 hq3 kq3=>?_)
        refine zAI (λe=>wpS_pure (.inl ⟨_,_,rfl,((((L).ak F (k:=k) (by omega) (gA F hp gk1)).pb F hq1 (gB hp hq1 gk2)).pa F hq3 (gB2 (ib:=ib+1) (k:=0) hq2 hq3 gk4)).fl F (by omega) e,g1⟩)) λne5=>?_
        refine zAM (λ_=>wpS_pure (.inr ⟨_,_,_,_,_,_,rfl,⟨(((L).ak F (k:=k) (by omega) (gA F hp gk1)).pb F hq1 (gB hp hq1 gk2)).pa F hq3 (gB2 (ib:=ib+1) (k:=0) hq2 hq3 gk4),by omega,by omega,by omega⟩,g1⟩)) λ_=>wpS_pure ⟨_,_,_,_,_,_,rfl,⟨(((L).ak F (k:=k) (by omega) (gA F hp gk1)).pb F hq1 (gB hp hq1 gk2)).pa F hq3 (gB2 (ib:=ib+1) (k:=0) hq2 hq3 gk4),by omega,by omega,by omega⟩,g1⟩
      ·obtain rfl:k=0:=by omega
       refine wpS_bind (zAG hb (by omega) λq1 hq1 kq1=>?_)
       refine zAI (λe=>wpS_pure (.inl ⟨_,_,rfl,((L).pb F hq1 (gB hp hq1 gk2)).fb F (by omega) e,g1⟩)) λne3=>?_
       refine wpS_bind (zAG ha (by omega) λq2 hq2 kq2=>?_)
       refine wpS_bind (zAj g1.1.1.kind kq2 hb (by omega) (by omega) (F.ub.sub (by omega)) λk2 hk2 gk3 gk4=>?_)
       dsimp only
       refine zAM (λh22=>?_) (λh22=>?_)
       ·refine zAI (λe=>wpS_pure (.inl ⟨_,_,rfl,(((L).pb F hq1 (gB hp hq1 gk2)).bk F (k:=k2) (by omega) (gA2 F hq2 gk3)).fb F (by omega) e,g1⟩)) λne4=>?_
        refine wpS_bind (zAG ha (by omega) λq3 hq3 kq3=>?_)
        refine zAI (λe=>wpS_pure (.inl ⟨_,_,rfl,((((L).pb F hq1 (gB hp hq1 gk2)).bk F (k:=k2) (by omega) (gA2 F hq2 gk3)).pa F hq3 (gB2 hq2 hq3 gk4)).fl F (by omega) e,g1⟩)) λne5=>?_
        refine zAM (λ_=>wpS_pure (.inr ⟨_,_,_,_,_,_,rfl,⟨(((L).pb F hq1 (gB hp hq1 gk2)).bk F (k:=k2) (by omega) (gA2 F hq2 gk3)).pa F hq3 (gB2 hq2 hq3 gk4),by omega,by omega,by omega⟩,g1⟩)) λ_=>wpS_pure ⟨_,_,_,_,_,_,rfl,⟨(((L).pb F hq1 (gB hp hq1 gk2)).bk F (k:=k2) (by omega) (gA2 F hq2 gk3)).pa F hq3 (gB2 hq2 hq3 gk4),by omega,by omega,by omega⟩,g1⟩
       ·obtain rfl:k2=0:=by omega
        refine wpS_bind (zAG ha (by omega) λq3 hq3 kq3=>?_)
        refine zAI (λe=>wpS_pure (.inl ⟨_,_,rfl,(((L).pb F hq1 (gB hp hq1 gk2)).pa F hq3 (gB2 (ib:=ib+1) (k:=0) hq2 hq3 gk4)).fl F (by omega) e,g1⟩)) λne5=>?_
        refine zAM (λ_=>wpS_pure (.inr ⟨_,_,_,_,_,_,rfl,⟨((L).pb F hq1 (gB hp hq1 gk2)).pa F hq3 (gB2 (ib:=ib+1) (k:=0) hq2 hq3 gk4),by omega,by omega,by omega⟩,g1⟩)) λ_=>wpS_pure ⟨_,_,_,_,_,_,rfl,⟨((L).pb F hq1 (gB hp hq1 gk2)).pa F hq3 (gB2 (ib:=ib+1) (k:=0) hq2 hq3 gk4),by omega,by omega,by omega⟩,g1⟩
    ·rintro c st3 z;exact .inr z
    ·rintro c st3 (⟨r,y,rfl,p,g⟩ | ⟨out,ia,ib,mg,ac,bc,rfl,m,g⟩)
     ·exact wpS_pure ⟨_,_,rfl,p,g⟩
     ·exact wpS_bind (zA4 g λst4 g4=>wpS_pure ⟨_,_,_,_,rfl,m,g4⟩)
end
end SB
namespace SB
open PySem PyProof.Rows
section
variable {prog:Program}{w:World}{A:Around}{E:Value->Shared->Prop}{s:Shared}{a0:Array Keyed}
theorem zF1 {a b:Array Keyed}{pe:Array (Nat×Nat×Nat)}{xs:Array Keyed}{st:SortSt}{Q:Array Keyed->SortSt->Prop}(hB:GX a0 pe xs st)(ha:IntKeys a)(hb:IntKeys b)(ha1:1<=a.size)(hb1:1<=b.size)
  (F:Fit a b) (h:∀ out st',GX a0 pe xs st'->Mg a b out->Q out st'):wpS (model prog w) A E s (zHI a b) Q st:=by
 show wpS _ _ _ _ (_ >>= _) _ _
 refine wpS_bind (wpS_lift (wpAny_rule ⟨rfl,?_⟩))
 obtain⟨b0,e0,_⟩:=zE6 ha (i:=a.size-1) (by omega)
 refine wpS_bind (zBX e0 ?_)
 have L0:OdH a b (a.size-1) b.size #[b0]:=by
  refine⟨?_,List.pairwise_singleton _ _,λp hp j hj=>?_,λp hp j hj=>?_⟩
  ·unfold LaidH
   rw[zD5 e0,List.drop_of_length_le (by simp;omega),List.drop_of_length_le (by simp)]
   simp
  ·obtain rfl:=List.mem_singleton.mp hp
   rw[<- K_at e0];exact F.ua _ _ (by omega) (by omega) (by omega)
  ·obtain rfl:=List.mem_singleton.mp hp
   rw[<- K_at e0];exact F.la j hj
 dsimp only
 refine zAI (λh1=>wpS_pure (h _ _ hB (L0.fz F (by omega) h1))) λh1=>?_
 refine zAI (λh2=>wpS_pure (h _ _ hB (L0.fl F (by omega) (by omega) h2))) λh2=>?_
 refine wpS_bind (wpS_get ?_)
 refine wpS_bind (wpS_mono (wpS_forRange (a:=0) (I:=λx c st'=>∃ out na nb mg,c=(none,na,nb,out,mg)/\MidHO a b (x+1) na nb out/\GX a0 pe xs st') (Q:=zE9 a b (GX a0 pe xs)) ?step ?fin ⟨#[b0],a.size-1,b.size,gallopOf st,rfl,⟨L0,by omega,by omega,by omega,by omega,by omega⟩,hB⟩) ?post)
 case fin =>
  rintro c st' ⟨out,na,nb,mg,rfl,m,g⟩
  have:=m.ha;have:=m.hb;have:=m.pr
  exfalso;omega
 case post =>
  rintro c st' ⟨r,y,rfl,p,g⟩
  exact wpS_pure (h _ _ g p)
 case step =>
  rintro x c st1 _ hx ⟨out,na,nb,mg,rfl,m,g⟩
  dsimp only
  refine wpS_bind (wpS_mono (wpS_forRange (I:=λx2 c st'=>∃ out na nb ac bc,c=(none,na,nb,out,ac,bc)/\MidHO a b (x+1+min x2 1) na nb out/\GX a0 pe xs st')
   (Q:=λc st'=>zE9 a b (GX a0 pe xs) c st'\/∃ out na nb ac bc,c=(none,na,nb,out,ac,bc)/\MidHO a b (x+2) na nb out/\GX a0 pe xs st') ?_ ?_ ⟨_,_,_,_,_,rfl,m,g⟩) ?_)
  ·rintro x2 c st2 _ hx2 ⟨out,na,nb,ac,bc,rfl,m,g⟩
   have m1:=m.ha;have m2:=m.hb;have m3:=m.pr;have m4:=m.ha2;have m5:=m.hb2
   dsimp only
   refine wpS_bind (zAG hb (by omega) λp1 hp1 kp1=>?_)
   refine wpS_bind (zAG ha (by omega) λp2 hp2 kp2=>?_)
   refine wpS_bind (zCQ g.1.1.kind kp1 kp2 ?_)
   dsimp only
   refine zAM (λhbw=>?_) (λhbw=>?_)
   ·refine wpS_bind (zAG ha (by omega) λp3 hp3 kp3=>?_)
    have X:=ltAH F hp1 hp2 hp3 m5 (of_decide_eq_true hbw)
    refine zAI (λe=>wpS_pure (.inl ⟨_,_,rfl,(m.laid.pa F (by omega) hp3 X).fz F (by omega) e,g⟩)) λne=>?_
    exact zAM (λ_=>wpS_pure (.inr ⟨_,_,_,_,_,rfl,⟨m.laid.pa F (by omega) hp3 X,by omega,by omega,by omega,by omega,by omega⟩,g⟩)) λ_=>wpS_pure ⟨_,_,_,_,_,rfl,⟨m.laid.pa F (by omega) hp3 X,by omega,by omega,by omega,by omega,by omega⟩,g⟩
   ·refine wpS_bind (zAG hb (by omega) λp3 hp3 kp3=>?_)
    have X:=ltBH F hp1 hp2 hp3 m4 λz=>hbw (decide_eq_true z)
    refine zAI (λe=>wpS_pure (.inl ⟨_,_,rfl,(m.laid.pb F (by omega) hp3 X).fl F (by omega) (by omega) e,g⟩)) λne=>?_
    exact zAM (λ_=>wpS_pure (.inr ⟨_,_,_,_,_,rfl,⟨m.laid.pb F (by omega) hp3 X,by omega,by omega,by omega,by omega,by omega⟩,g⟩)) λ_=>wpS_pure ⟨_,_,_,_,_,rfl,⟨m.laid.pb F (by omega) hp3 X,by omega,by omega,by omega,by omega,by omega⟩,g⟩
  ·rintro c st2 ⟨out,na,nb,ac,bc,rfl,m,g⟩
   exact .inr ⟨_,_,_,_,_,rfl,⟨m.laid,m.ha,m.ha2,m.hb,m.hb2,by have:=m.pr;omega⟩,g⟩
  ·rintro c st2 (⟨r,y,rfl,p,g⟩ | ⟨out,na,nb,ac,bc,rfl,m,g⟩)
   ·exact wpS_pure ⟨_,_,rfl,p,g⟩
   ·dsimp only
    refine wpS_bind (wpS_lift (wpAny_rule ⟨rfl,?_⟩))
    refine wpS_bind (wpS_mono (wpS_forRange (I:=λ_ c st'=>∃ out na nb mg ac bc,c=(none,na,nb,out,mg,ac,bc)/\MidHO a b (x+2) na nb out/\GX a0 pe xs st')
     (Q:=λc st'=>zE9 a b (GX a0 pe xs) c st'\/∃ out na nb mg ac bc,c=(none,na,nb,out,mg,ac,bc)/\MidHO a b (x+2) na nb out/\GX a0 pe xs st') ?_ ?_ ⟨_,_,_,_,_,_,rfl,m,g⟩) ?_)
    ·rintro x3 c st3 _ hx3 ⟨out,na,nb,mg,ac,bc,rfl,m,g⟩
     have m1:=m.ha;have m2:=m.hb;have m3:=m.pr;have m4:=m.ha2;have m5:=m.hb2
     have L:=m.laid
     dsimp only
     refine zAM (λhm=>?_) (λhm=>?_)
     ·refine wpS_bind (zA4 g λst1 g1=>?_)
      refine wpS_bind (zAG hb (by omega) λp hp kp=>?_)
      refine wpS_bind (zAj g1.1.1.kind kp ha (by omega) (by omega) (F.ua.sub (by omega)) λk hk gk1 gk2=>?_)
      dsimp only
      refine zAM (λhk0=>?_) (λhk0=>?_)
      ·refine zAI (λe=>wpS_pure (.inl ⟨_,_,rfl,((L).ak F hk (by omega) (hA1 F hp (by omega) gk2)).fz F (by omega) e,g1⟩)) λne1=>?_
       refine wpS_bind (zAG hb (by omega) λq1 hq1 kq1=>?_)
       refine zAI (λe=>wpS_pure (.inl ⟨_,_,rfl,(((L).ak F hk (by omega) (hA1 F hp (by omega) gk2)).pb F (by omega) hq1 (λj hj=>hB1 hp hq1 gk1 j (by omega))).fl F (by omega) (by omega) e,g1⟩)) λne3=>?_
       refine wpS_bind (zAG ha (by omega) λq2 hq2 kq2=>?_)
       refine wpS_bind (zAj g1.1.1.kind kq2 hb (by omega) (by omega) (F.ub.sub (by omega)) λk2 hk2 gk3 gk4=>?_)
       dsimp only
       refine zAM (λh22=>?_) (λh22=>?_)
       ·refine zAI (λe=>wpS_pure (.inl ⟨_,_,rfl,((((L).ak F hk (by omega) (hA1 F hp (by omega) gk2)).pb F (by omega) hq1 (λj hj=>hB1 hp hq1 gk1 j (by omega))).bk F hk2 (by omega) (hA2 F hq2 (by omega) gk4)).fl F (by omega) (by omega) e,g1⟩)) λne4=>?_
        refine zAI (λe=>wpS_pure (.inl ⟨_,_,rfl,((((L).ak F hk (by omega) (hA1 F hp (by omega) gk2)).pb F (by omega) hq1 (λj hj=>hB1 hp hq1 gk1 j (by omega))).bk F hk2 (by omega) (hA2 F hq2 (by omega) gk4)).fn F (by omega) e,g1⟩)) λne4b=>?_
        refine wpS_bind (zAG ha (by omega) λq3 hq3 kq3=>?_)
        refine zAI (λe=>wpS_pure (.inl ⟨_,_,rfl,(((((L).ak F hk (by omega) (hA1 F hp (by omega) gk2)).pb F (by omega) hq1 (λj hj=>hB1 hp hq1 gk1 j (by omega))).bk F hk2 (by omega) (hA2 F hq2 (by omega) gk4)).pa F (by omega) hq3 (λj hj=>hB2 hq2 hq3 gk3 j (by omega))).fz F (by omega) e,g1⟩)) λne5=>?_
        refine zAM (λ_=>wpS_pure (.inr ⟨_,_,_,_,_,_,rfl,⟨((((L).ak F hk (by omega) (hA1 F hp (by omega) gk2)).pb F (by omega) hq1 (λj hj=>hB1 hp hq1 gk1 j (by omega))).bk F hk2 (by omega) (hA2 F hq2 (by omega) gk4)).pa F (by omega) hq3 (λj hj=>hB2 hq2 hq3 gk3 j (by omega)),by omega,by omega,by omega,by omega,by omega⟩,g1⟩)) λ_=>wpS_pure ⟨_,_,_,_,_,_,rfl,⟨((((L).ak F hk (by omega) (hA1 F hp (by omega) gk2)).pb F (by omega) hq1 (λj hj=>hB1 hp hq1 gk1 j (by omega))).bk F hk2 (by omega) (hA2 F hq2 (by omega) gk4)).pa F (by omega) hq3 (λj hj=>hB2 hq2 hq3 gk3 j (by omega)),by omega,by omega,by omega,by omega,by omega⟩,g1⟩
       ·refine wpS_bind (zAG ha (by omega) λq3 hq3 kq3=>?_)
        refine zAI (λe=>wpS_pure (.inl ⟨_,_,rfl,((((L).ak F hk (by omega) (hA1 F hp (by omega) gk2)).pb F (by omega) hq1 (λj hj=>hB1 hp hq1 gk1 j (by omega))).pa F (by omega) hq3 (λj hj=>hB2 hq2 hq3 gk3 j (by omega))).fz F (by omega) e,g1⟩)) λne5=>?_
        refine zAM (λ_=>wpS_pure (.inr ⟨_,_,_,_,_,_,rfl,⟨(((L).ak F hk (by omega) (hA1 F hp (by omega) gk2)).pb F (by omega) hq1 (λj hj=>hB1 hp hq1 gk1 j (by omega))).pa F (by omega) hq3 (λj hj=>hB2 hq2 hq3 gk3 j (by omega)),by omega,by omega,by omega,by omega,by omega⟩,g1⟩)) λ_=>wpS_pure ⟨_,_,_,_,_,_,rfl,⟨(((L).ak F hk (by omega) (hA1 F hp (by omega) gk2)).pb F (by omega) hq1 (λj hj=>hB1 hp hq1 gk1 j (by omega))).pa F (by omega) hq3 (λj hj=>hB2 hq2 hq3 gk3 j (by omega)),by omega,by omega,by omega,by omega,by omega⟩,g1⟩
      ·refine wpS_bind (zAG hb (by omega) λq1 hq1 kq1=>?_)
       refine zAI (λe=>wpS_pure (.inl ⟨_,_,rfl,((L).pb F (by omega) hq1 (λj hj=>hB1 hp hq1 gk1 j (by omega))).fl F (by omega) (by omega) e,g1⟩)) λne3=>?_
       refine wpS_bind (zAG ha (by omega) λq2 hq2 kq2=>?_)
       refine wpS_bind (zAj g1.1.1.kind kq2 hb (by omega) (by omega) (F.ub.sub (by omega)) λk2 hk2 gk3 gk4=>?_)
       dsimp only
       refine zAM (λh22=>?_) (λh22=>?_)
       ·refine zAI (λe=>wpS_pure (.inl ⟨_,_,rfl,(((L).pb F (by omega) hq1 (λj hj=>hB1 hp hq1 gk1 j (by omega))).bk F hk2 (by omega) (hA2 F hq2 (by omega) gk4)).fl F (by omega) (by omega) e,g1⟩)) λne4=>?_
        refine zAI (λe=>wpS_pure (.inl ⟨_,_,rfl,(((L).pb F (by omega) hq1 (λj hj=>hB1 hp hq1 gk1 j (by omega))).bk F hk2 (by omega) (hA2 F hq2 (by omega) gk4)).fn F (by omega) e,g1⟩)) λne4b=>?_
        refine wpS_bind (zAG ha (by omega) λq3 hq3 kq3=>?_)
        refine zAI (λe=>wpS_pure (.inl ⟨_,_,rfl,((((L).pb F (by omega) hq1 (λj hj=>hB1 hp hq1 gk1 j (by omega))).bk F hk2 (by omega) (hA2 F hq2 (by omega) gk4)).pa F (by omega) hq3 (λj hj=>hB2 hq2 hq3 gk3 j (by omega))).fz F (by omega) e,g1⟩)) λne5=>?_
        refine zAM (λ_=>wpS_pure (.inr ⟨_,_,_,_,_,_,rfl,⟨(((L).pb F (by omega) hq1 (λj hj=>hB1 hp hq1 gk1 j (by omega))).bk F hk2 (by omega) (hA2 F hq2 (by omega) gk4)).pa F (by omega) hq3 (λj hj=>hB2 hq2 hq3 gk3 j (by omega)),by omega,by omega,by omega,by omega,by omega⟩,g1⟩)) λ_=>wpS_pure ⟨_,_,_,_,_,_,rfl,⟨(((L).pb F (by omega) hq1 (λj hj=>hB1 hp hq1 gk1 j (by omega))).bk F hk2 (by omega) (hA2 F hq2 (by omega) gk4)).pa F (by omega) hq3 (λj hj=>hB2 hq2 hq3 gk3 j (by omega)),by omega,by omega,by omega,by omega,by omega⟩,g1⟩
       ·refine wpS_bind (zAG ha (by omega) λq3 hq3 kq3=>?_)
        refine zAI (λe=>wpS_pure (.inl ⟨_,_,rfl,(((L).pb F (by omega) hq1 (λj hj=>hB1 hp hq1 gk1 j (by omega))).pa F (by omega) hq3 (λj hj=>hB2 hq2 hq3 gk3 j (by omega))).fz F (by omega) e,g1⟩)) λne5=>?_
        refine zAM (λ_=>wpS_pure (.inr ⟨_,_,_,_,_,_,rfl,⟨((L).pb F (by omega) hq1 (λj hj=>hB1 hp hq1 gk1 j (by omega))).pa F (by omega) hq3 (λj hj=>hB2 hq2 hq3 gk3 j (by omega)),by omega,by omega,by omega,by omega,by omega⟩,g1⟩)) λ_=>wpS_pure ⟨_,_,_,_,_,_,rfl,⟨((L).pb F (by omega) hq1 (λj hj=>hB1 hp hq1 gk1 j (by omega))).pa F (by omega) hq3 (λj hj=>hB2 hq2 hq3 gk3 j (by omega)),by omega,by omega,by omega,by omega,by omega⟩,g1⟩
     ·refine wpS_bind (zA4 g λst1 g1=>?_)
      refine wpS_bind (zAG hb (by omega) λp hp kp=>?_)
      refine wpS_bind (zAj g1.1.1.kind kp ha (by omega) (by omega) (F.ua.sub (by omega)) λk hk gk1 gk2=>?_)
      dsimp only
      refine zAM (λhk0=>?_) (λhk0=>?_)
      ·refine zAI (λe=>wpS_pure (.inl ⟨_,_,rfl,((L).ak F hk (by omega) (hA1 F hp (by omega) gk2)).fz F (by omega) e,g1⟩)) λne1=>?_
       refine wpS_bind (zAG hb (by omega) λq1 hq1 kq1=>?_)
       refine zAI (λe=>wpS_pure (.inl ⟨_,_,rfl,(((L).ak F hk (by omega) (hA1 F hp (by omega) gk2)).pb F (by omega) hq1 (λj hj=>hB1 hp hq1 gk1 j (by omega))).fl F (by omega) (by omega) e,g1⟩)) λne3=>?_
       refine wpS_bind (zAG ha (by omega) λq2 hq2 kq2=>?_)
       refine wpS_bind (zAj g1.1.1.kind kq2 hb (by omega) (by omega) (F.ub.sub (by omega)) λk2 hk2 gk3 gk4=>?_)
       dsimp only
       refine zAM (λh22=>?_) (λh22=>?_)
       ·refine zAI (λe=>wpS_pure (.inl ⟨_,_,rfl,((((L).ak F hk (by omega) (hA1 F hp (by omega) gk2)).pb F (by omega) hq1 (λj hj=>hB1 hp hq1 gk1 j (by omega))).bk F hk2 (by omega) (hA2 F hq2 (by omega) gk4)).fl F (by omega) (by omega) e,g1⟩)) λne4=>?_
        refine zAI (λe=>wpS_pure (.inl ⟨_,_,rfl,((((L).ak F hk (by omega) (hA1 F hp (by omega) gk2)).pb F (by omega) hq1 (λj hj=>hB1 hp hq1 gk1 j (by omega))).bk F hk2 (by omega) (hA2 F hq2 (by omega) gk4)).fn F (by omega) e,g1⟩)) λne4b=>?_
        refine wpS_bind (zAG ha (by omega) λq3 hq3 kq3=>?_)
        refine zAI (λe=>wpS_pure (.inl ⟨_,_,rfl,(((((L).ak F hk (by omega) (hA1 F hp (by omega) gk2)).pb F (by omega) hq1 (λj hj=>hB1 hp hq1 gk1 j (by omega))).bk F hk2 (by omega) (hA2 F hq2 (by omega) gk4)).pa F (by omega) hq3 (λj hj=>hB2 hq2 hq3 gk3 j (by omega))).fz F (by omega) e,g1⟩)) λne5=>?_
        refine zAM (λ_=>wpS_pure (.inr ⟨_,_,_,_,_,_,rfl,⟨((((L).ak F hk (by omega) (hA1 F hp (by omega) gk2)).pb F (by omega) hq1 (λj hj=>hB1 hp hq1 gk1 j (by omega))).bk F hk2 (by omega) (hA2 F hq2 (by omega) gk4)).pa F (by omega) hq3 (λj hj=>hB2 hq2 hq3 gk3 j (by omega)),by omega,by omega,by omega,by omega,by omega⟩,g1⟩)) λ_=>wpS_pure ⟨_,_,_,_,_,_,rfl,⟨((((L).ak F hk (by omega) (hA1 F hp (by omega) gk2)).pb F (by omega) hq1 (λj hj=>hB1 hp hq1 gk1 j (by omega))).bk F hk2 (by omega) (hA2 F hq2 (by omega) gk4)).pa F (by omega) hq3 (λj hj=>hB2 hq2 hq3 gk3 j (by omega)),by omega,by omega,by omega,by omega,by omega⟩,g1⟩
       ·refine wpS_bind (zAG ha (by omega) λq3 hq3 kq3=>?_)
        refine zAI (λe=>wpS_pure (.inl ⟨_,_,rfl,((((L).ak F hk (by omega) (hA1 F hp (by omega) gk2)).pb F (by omega) hq1 (λj hj=>hB1 hp hq1 gk1 j (by omega))).pa F (by omega) hq3 (λj hj=>hB2 hq2 hq3 gk3 j (by omega))).fz F (by omega) e,g1⟩)) λne5=>?_
        refine zAM (λ_=>wpS_pure (.inr ⟨_,_,_,_,_,_,rfl,⟨(((L).ak F hk (by omega) (hA1 F hp (by omega) gk2)).pb F (by omega) hq1 (λj hj=>hB1 hp hq1 gk1 j (by omega))).pa F (by omega) hq3 (λj hj=>hB2 hq2 hq3 gk3 j (by omega)),by omega,by omega,by omega,by omega,by omega⟩,g1⟩)) λ_=>wpS_pure ⟨_,_,_,_,_,_,rfl,⟨(((L).ak F hk (by omega) (hA1 F hp (by omega) gk2)).pb F (by omega) hq1 (λj hj=>hB1 hp hq1 gk1 j (by omega))).pa F (by omega) hq3 (λj hj=>hB2 hq2 hq3 gk3 j (by omega)),by omega,by omega,by omega,by omega,by omega⟩,g1⟩
      ·refine wpS_bind (zAG hb (by omega) λq1 hq1 kq1=>?_)
       refine zAI (λe=>wpS_pure (.inl ⟨_,_,rfl,((L).pb F (by omega) hq1 (λj hj=>hB1 hp hq1 gk1 j (by omega))).fl F (by omega) (by omega) e,g1⟩)) λne3=>?_
       refine wpS_bind (zAG ha (by omega) λq2 hq2 kq2=>?_)
       refine wpS_bind (zAj g1.1.1.kind kq2 hb (by omega) (by omega) (F.ub.sub (by omega)) λk2 hk2 gk3 gk4=>?_)
       dsimp only
       refine zAM (λh22=>?_) (λh22=>?_)
       ·refine zAI (λe=>wpS_pure (.inl ⟨_,_,rfl,(((L).pb F (by omega) hq1 (λj hj=>hB1 hp hq1 gk1 j (by omega))).bk F hk2 (by omega) (hA2 F hq2 (by omega) gk4)).fl F (by omega) (by omega) e,g1⟩)) λne4=>?_
        refine zAI (λe=>wpS_pure (.inl ⟨_,_,rfl,(((L).pb F (by omega) hq1 (λj hj=>hB1 hp hq1 gk1 j (by omega))).bk F hk2 (by omega) (hA2 F hq2 (by omega) gk4)).fn F (by omega) e,g1⟩)) λne4b=>?_
        refine wpS_bind (zAG ha (by omega) λq3 hq3 kq3=>?_)
        refine zAI (λe=>wpS_pure (.inl ⟨_,_,rfl,((((L).pb F (by omega) hq1 (λj hj=>hB1 hp hq1 gk1 j (by omega))).bk F hk2 (by omega) (hA2 F hq2 (by omega) gk4)).pa F (by omega) hq3 (λj hj=>hB2 hq2 hq3 gk3 j (by omega))).fz F (by omega) e,g1⟩)) λne5=>?_
        refine zAM (λ_=>wpS_pure (.inr ⟨_,_,_,_,_,_,rfl,⟨(((L).pb F (by omega) hq1 (λj hj=>hB1 hp hq1 gk1 j (by omega))).bk F hk2 (by omega) (hA2 F hq2 (by omega) gk4)).pa F (by omega) hq3 (λj hj=>hB2 hq2 hq3 gk3 j (by omega)),by omega,by omega,by omega,by omega,by omega⟩,g1⟩)) λ_=>wpS_pure ⟨_,_,_,_,_,_,rfl,⟨(((L).pb F (by omega) hq1 (λj hj=>hB1 hp hq1 gk1 j (by omega))).bk F hk2 (by omega) (hA2 F hq2 (by omega) gk4)).pa F (by omega) hq3 (λj hj=>hB2 hq2 hq3 gk3 j (by omega)),by omega,by omega,by omega,by omega,by omega⟩,g1⟩
       ·refine wpS_bind (zAG ha (by omega) λq3 hq3 kq3=>?_)
        refine zAI (λe=>wpS_pure (.inl ⟨_,_,rfl,(((L).pb F (by omega) hq1 (λj hj=>hB1 hp hq1 gk1 j (by omega))).pa F (by omega) hq3 (λj hj=>hB2 hq2 hq3 gk3 j (by omega))).fz F (by omega) e,g1⟩)) λne5=>?_
        refine zAM (λ_=>wpS_pure (.inr ⟨_,_,_,_,_,_,rfl,⟨((L).pb F (by omega) hq1 (λj hj=>hB1 hp hq1 gk1 j (by omega))).pa F (by omega) hq3 (λj hj=>hB2 hq2 hq3 gk3 j (by omega)),by omega,by omega,by omega,by omega,by omega⟩,g1⟩)) λ_=>wpS_pure ⟨_,_,_,_,_,_,rfl,⟨((L).pb F (by omega) hq1 (λj hj=>hB1 hp hq1 gk1 j (by omega))).pa F (by omega) hq3 (λj hj=>hB2 hq2 hq3 gk3 j (by omega)),by omega,by omega,by omega,by omega,by omega⟩,g1⟩
    ·rintro c st3 z;exact .inr z
    ·rintro c st3 (⟨r,y,rfl,p,g⟩ | ⟨out,na,nb,mg,ac,bc,rfl,m,g⟩)
     ·exact wpS_pure ⟨_,_,rfl,p,g⟩
     ·exact wpS_bind (zA4 g λst4 g4=>wpS_pure ⟨_,_,_,_,rfl,m,g4⟩)
end
end SB
namespace SB
open PySem PyProof.Rows
section
variable {prog:Program}{w:World}{A:Around}{E:Value->Shared->Prop}{s:Shared}{a0:Array Keyed}
theorem zDT {xs:Array Keyed}{i j m:Nat}(hm:i+m<j)(hj:j<=xs.size):K (xs.extract i j) m=K xs (i+m):=by
 have h:(xs.extract i j)[m]?=xs[i+m]?:=by
  rw[Array.getElem?_extract,if_pos (by omega)]
 exact K_congr h
theorem zDU (xs:Array Keyed)(i:Nat):K xs i=((xs.toList[i]?).map ks).getD 0:=by
 unfold K
 rw[Array.getElem?_toList]
 cases xs[i]?<;>rfl
theorem zK4 {xs ys out:Array Keyed}{sa m1 m2 e:Nat}(hl:ys.toList=xs.toList.take m1++out.toList++xs.toList.drop m2)(h12:m1<=m2)(h2:m2<=xs.size)(ho:out.size=m2-m1)(hs:Srt out.toList)
  (u1:Up xs sa m1) (u2:Up xs m2 e) (c1:∀ i,sa<=i->i<m1->∀ p,p∈out.toList->K xs i<=ks p) (c2:∀ j,m2<=j->j<e->∀ p,p∈out.toList->ks p<=K xs j)
  (c3:∀ i j,sa<=i->i<m1->m2<=j->j<e->K xs i<=K xs j):Up ys sa e/\∀ k,k<m1\/m2<=k->K ys k=K xs k:=by
 have lt:(xs.toList.take m1).length=m1:=by rw[List.length_take,Array.length_toList];omega
 have lo:out.toList.length=m2-m1:=by rw[Array.length_toList];exact ho
 have e1:∀ k,k<m1->K ys k=K xs k:=λk hk=>by
  rw[zDU,zDU,hl,List.append_assoc,List.getElem?_append_left (by omega),List.getElem?_take_of_lt hk]
 have e2:∀ k,m2<=k->K ys k=K xs k:=λk hk=>by
  rw[zDU,zDU,hl,List.getElem?_append_right (by rw[List.length_append];omega),List.getElem?_drop,List.length_append,lt,lo,show m2+(k-(m1+(m2-m1)))=k by omega]
 have e3:∀ k,m1<=k->k<m2->∃ h:k-m1<out.toList.length,K ys k=ks (out.toList[k-m1]):=λk h3 h4=>by
  refine⟨by omega,?_⟩
  rw[zDU,hl,List.append_assoc,List.getElem?_append_right (by omega),lt,List.getElem?_append_left (by omega),List.getElem?_eq_getElem (by omega)]
  rfl
 refine⟨λi j h3 h4 h5=>?_,λk hk=>hk.elim (e1 k) (e2 k)⟩
 by_cases i1:i<m1
 ·rw[e1 i i1]
  by_cases j1:j<m1
  ·rw[e1 j j1];exact u1 i j h3 h4 j1
  by_cases j2:j<m2
  ·obtain⟨q,e⟩:=e3 j (by omega) j2
   rw[e];exact c1 i h3 i1 _ (List.getElem_mem _)
  ·rw[e2 j (by omega)];exact c3 i j h3 i1 (by omega) h5
 by_cases i2:i<m2
 ·obtain⟨q,e⟩:=e3 i (by omega) i2
  rw[e]
  by_cases j2:j<m2
  ·obtain⟨q2,e'⟩:=e3 j (by omega) j2
   rw[e']
   by_cases eq:i=j
   ·subst eq;exact Int.le_refl _
   ·exact List.pairwise_iff_getElem.mp hs _ _ q q2 (by omega)
  ·rw[e2 j (by omega)];exact c2 j (by omega) h5 _ (List.getElem_mem _)
 ·rw[e2 i (by omega),e2 j (by omega)];exact u2 i j (by omega) h4 h5
theorem Up.join {xs:Array Keyed}{i m j:Nat}(h1:Up xs i m)(h2:Up xs m j)(c:i<m->m<j->K xs (m-1)<=K xs m):Up xs i j:=λk n q1 q2 q3=>by
 by_cases n1:n<m
 ·exact h1 k n q1 q2 n1
 by_cases k1:k<m
 ·have z1:=h1 k (m-1) q1 (by omega) (by omega)
  have z2:=h2 m n (Nat.le_refl _) (by omega) q3
  have z3:=c (by omega) (by omega)
  omega
 ·exact h2 k n (by omega) q2 q3
def zMQ (xs:Array Keyed)(sa e:Nat)(st':SortSt):Prop:=Up (arrOf st') sa e/\∀ k,k<sa\/e<=k->K (arrOf st') k=K xs k
theorem zHK {xs:Array Keyed}{sa k sb nb k2:Nat}{out:Array Keyed}{ys:Array Keyed}{q1 q2:Keyed}(hz:sb+nb<=xs.size)(hk:sa+k<sb)(hk2:k2<=nb)(h1:1<=k2)(U1:Up xs sa sb)(U2:Up xs sb (sb+nb))
  (e1:xs[sb]?=some q1) (e2:xs[sb-1]?=some q2) (g1:∀ i,i<k->Ahead false q1 (K xs (sa+i))) (g4:∀ i,k2<=i->i<nb->¬ Ahead true q2 (K xs (sb+i)))
  (M:Mg (xs.extract (sa+k) sb) (xs.extract sb (sb+k2)) out) (hl:ys.toList=xs.toList.take (sa+k)++out.toList++xs.toList.drop (sb+k2)) :
  Up ys sa (sb+nb)/\∀ i,i<sa\/sb+nb<=i->K ys i=K xs i:=by
 have ho:out.size=sb+k2-(sa+k):=by
  rw[<- Array.length_toList,M.1.length_eq,List.length_append,Array.length_toList,Array.length_toList,Array.size_extract,Array.size_extract];omega
 have mem:∀ p,p∈out.toList->(∃ i,sa+k<=i/\i<sb/\K xs i=ks p)\/∃ i,sb<=i/\i<sb+k2/\K xs i=ks p:=λp hp=>by
  rcases List.mem_append.mp (M.1.mem_iff.mp hp) with z | z
  ·obtain⟨i,i1,i2,_,e⟩:=zAe z
   exact .inl ⟨i,i1,i2,e⟩
  ·obtain⟨i,i1,i2,_,e⟩:=zAe z
   exact .inr ⟨i,i1,i2,e⟩
 have low:∀ i,sa<=i->i<sa+k->K xs i<=K xs sb:=λi h3 h4=>by
  have z:K xs (sa+(i-sa))<=ks q1:=g1 (i-sa) (by omega)
  rwa [show sa+(i-sa)=i by omega,<- K_at e1] at z
 have hig:∀ j,sb+k2<=j->j<sb+nb->K xs (sb-1)<=K xs j:=λj h3 h4=>by
  have z:¬ K xs (sb+(j-sb))<ks q2:=g4 (j-sb) (by omega) (by omega)
  rw[show sb+(j-sb)=j by omega,<- K_at e2] at z
  omega
 have c1:∀ i,sa<=i->i<sa+k->∀ p,p∈out.toList->K xs i<=ks p:=λi h3 h4 p hp=>by
  rcases mem p hp with ⟨m,m1,m2,e⟩ | ⟨m,m1,m2,e⟩
  ·rw[<- e];exact U1 i m h3 (by omega) m2
  ·rw[<- e];exact Int.le_trans (low i h3 h4) (U2 _ _ (by omega) m1 (by omega))
 have c2:∀ j,sb+k2<=j->j<sb+nb->∀ p,p∈out.toList->ks p<=K xs j:=λj h3 h4 p hp=>by
  rcases mem p hp with ⟨m,m1,m2,e⟩ | ⟨m,m1,m2,e⟩
  ·rw[<- e];exact Int.le_trans (U1 m (sb-1) (by omega) (by omega) (by omega)) (hig j h3 h4)
  ·rw[<- e];exact U2 m j m1 (by omega) h4
 have c3:∀ i j,sa<=i->i<sa+k->sb+k2<=j->j<sb+nb->K xs i<=K xs j:=λi j h3 h4 h5 h6=>Int.le_trans (low i h3 h4) (U2 sb j (by omega) (by omega) h6)
 obtain⟨r1,r2⟩:=zK4 (xs:=xs) (ys:=ys) (out:=out) (sa:=sa) (m1:=sa+k) (m2:=sb+k2) (e:=sb+nb) hl (by omega) (by omega) ho M.2 (λi j a b c=>U1 i j a b (by omega)) (λi j a b c=>U2 i j (by omega) b c) c1 c2 c3
 exact⟨r1,λi hi=>r2 i (by omega)⟩
theorem zMR {xs:Array Keyed}{sa k sb nb k2:Nat}{q1 q2:Keyed}(hz:sb+nb<=xs.size)(hk:sa+k<sb)(hk2:k2<=nb)(h1:1<=k2)(U1:Up xs sa sb)(U2:Up xs sb (sb+nb))
  (e1:xs[sb]?=some q1) (e2:xs[sb-1]?=some q2) (g2:∀ i,k<=i->i<sb-sa->¬ Ahead false q1 (K xs (sa+i))) (g3:∀ i,i<k2->Ahead true q2 (K xs (sb+i))) :
  Fit (xs.extract (sa+k) sb) (xs.extract sb (sb+k2)):=by
 have z1:(xs.extract (sa+k) sb).size=sb-(sa+k):=by rw[Array.size_extract];omega
 have z2:(xs.extract sb (sb+k2)).size=k2:=by rw[Array.size_extract];omega
 refine⟨λi j a b c=>?_,λi j a b c=>?_,λj hj=>?_,λj hj=>?_⟩
 ·rw[z1] at c
  rw[zDT (by omega) (by omega),zDT (by omega) (by omega)]
  exact U1 _ _ (by omega) (by omega) (by omega)
 ·rw[z2] at c
  rw[zDT (by omega) (by omega),zDT (by omega) (by omega)]
  exact U2 _ _ (by omega) (by omega) (by omega)
 ·rw[z1] at hj
  rw[zDT (by omega) (by omega),zDT (by omega) (by omega),Nat.add_zero,K_at e1]
  have z:¬ K xs (sa+(k+j))<=ks q1:=g2 (k+j) (by omega) (by omega)
  rw[show sa+k+j=sa+(k+j) by omega]
  omega
 ·rw[z2] at hj
  rw[z1,zDT (by omega) (by omega),zDT (by omega) (by omega),show sa+k+(sb-(sa+k)-1)=sb-1 by omega,K_at e2]
  exact Int.le_of_lt (show K xs (sb+j)<ks q2 from g3 j hj)
theorem zF2 {i:Nat}{pe:Array (Nat×Nat×Nat)}{st:SortSt}{Q:Bool->SortSt->Prop}{sa na pw sb nb pw2:Nat}(h0:IntKeys a0)(hB:G a0 pe st)(h1:pe[i]?=some (sa,na,pw))(h2:pe[i+1]?=some (sb,nb,pw2))
  (hs:sb=sa+na) (hn1:1<=na) (hn2:1<=nb) (hz:sb+nb<=a0.size) (U1:Up (arrOf st) sa (sa+na)) (U2:Up (arrOf st) sb (sb+nb))
  (h:∀ st',G a0 ((pe.setIfInBounds i (sa,na+nb,pw)).eraseIdxIfInBounds (i+1)) st'->zMQ (arrOf st) sa (sb+nb) st'->Q true st'):wpS (model prog w) A E s (mergeAt' i) Q st:=by
 show wpS _ _ _ _ (_ >>= _) _ _
 refine wpS_bind (wpS_get ?_)
 have hpe:pendingOf st=pe:=hB.2
 have hsz:=hB.1.size
 have hk:=hB.1.keys h0
 rw[show (sortPriv% PySem.Builtin.SortState.pending) st=pe from hB.2,h1,h2]
 dsimp only
 have hxs:arrOf st=arrOf st:=rfl
 have hsz2:((sortPriv% PySem.Builtin.SortState.a) st).size=a0.size:=hsz
 have hpa:∀ p,(pe.setIfInBounds i (sa,na+nb,pw)).eraseIdxIfInBounds (i+1)=p->G a0 p (setPending st p):=λp _=>⟨⟨hB.1.perm,hB.1.kind,hB.1.failed⟩,rfl⟩
 generalize hp:(pe.setIfInBounds i (sa,na+nb,pw)).eraseIdxIfInBounds (i+1)=p at *
 have g1:=hpa p rfl
 refine wpS_bind (zJJ ?_)
 refine wpS_bind (zAG hk (by omega) λq1 hq1 kq1=>?_)
 refine wpS_bind (zAj g1.1.kind kq1 hk (by omega) (by omega) U1 λk hkn gk1 gk2=>?_)
 dsimp only
 have hzz:sb+nb<=(arrOf st).size:=by rw[hsz];exact hz
 refine zAI (λe=>wpS_pure (h _ g1 ⟨?_,λ_ _=>rfl⟩)) λne1=>?_
 ·refine Up.join (m:=sb) (by rw[hs];exact U1) U2 λ_ _=>?_
  have z:K (arrOf st) (sa+(na-1))<=ks q1:=gk1 (na-1) (by omega)
  rwa [show sa+(na-1)=sb-1 by omega,<- K_at hq1] at z
 refine wpS_bind (zAG hk (by omega) λq2 hq2 kq2=>?_)
 have hq2':(arrOf st)[sb-1]?=some q2:=by rw[<- hq2];congr 1;omega
 refine wpS_bind (zAj g1.1.kind kq2 hk (by omega) (by omega) U2 λk2 hk2 gk3 gk4=>?_)
 dsimp only
 have fin:∀ (out:Array Keyed) (st2:SortSt),k2≠0->GX a0 p (arrOf st) st2->Mg ((arrOf st).extract (sa+k) sb) ((arrOf st).extract sb (sb+k2)) out ->
   Q (failedOf (setArr st2 (out.toList.zipIdx.foldl (λa (x:Keyed×Nat)=>a.setIfInBounds (sa+k+x.2) x.1) (arrOf st2)))).isNone (setArr st2 (out.toList.zipIdx.foldl (λa (x:Keyed×Nat)=>a.setIfInBounds (sa+k+x.2) x.1) (arrOf st2))):=by
  intro out st2 ne2 g2 MM
  have p2:=MM.1
  have hf:failedOf st2=none:=g2.1.1.failed
  have hq:Q (failedOf st2).isNone (setArr st2 (out.toList.zipIdx.foldl (λa (x:Keyed×Nat)=>a.setIfInBounds (sa+k+x.2) x.1) (arrOf st2))):=by
   rw[hf]
   refine h _ ⟨⟨?_,g2.1.1.kind,g2.1.1.failed⟩,g2.1.2⟩ ?_
   case refine_2 =>
    refine zHK (xs:=arrOf st) (sa:=sa) (k:=k) (sb:=sb) (k2:=k2) (out:=out) hzz (by omega) hk2 (by omega) (by rw[hs];exact U1) U2 hq1 hq2' gk1 gk4 MM ?_
    show (out.toList.zipIdx.foldl (λa (x:Keyed×Nat)=>a.setIfInBounds (sa+k+x.2) x.1) (arrOf st2)).toList=_
    rw[g2.2]
    have hlen:out.toList.length=sb+k2-(sa+k):=by
     rw[p2.length_eq,List.length_append,Array.length_toList,Array.length_toList,Array.size_extract,Array.size_extract];omega
    have e:=zIV out.toList 0 (sa+k) (arrOf st) (by omega)
    rw[e,show sa+k+0+out.toList.length=sb+k2 by omega,Nat.add_zero]
   refine Array.Perm.trans ?_ g2.1.1.perm
   show (out.toList.zipIdx.foldl (λa (x:Keyed×Nat)=>a.setIfInBounds (sa+k+x.2) x.1) (arrOf st2)).Perm (arrOf st2)
   rw[g2.2]
   rw[Array.perm_iff_toList_perm]
   have hlen:out.toList.length=sb+k2-(sa+k):=by
    rw[p2.length_eq,List.length_append,Array.length_toList,Array.length_toList,Array.size_extract,Array.size_extract];omega
   have e:=zIV out.toList 0 (sa+k) (arrOf st) (by omega)
   rw[e]
   rw[zA1,zA1] at p2
   have e2:sa+k+0+out.toList.length=sb+k2:=by omega
   rw[e2,Nat.add_zero]
   exact zE8 (by omega) (by omega) p2
  exact hq
 refine zAI (λe=>wpS_pure (h _ g1 ⟨?_,λ_ _=>rfl⟩)) λne2=>?_
 ·refine Up.join (m:=sb) (by rw[hs];exact U1) U2 λ_ _=>?_
  have z:¬ K (arrOf st) (sb+0)<ks q2:=gk4 0 (by omega) (by omega)
  rw[Nat.add_zero,<- K_at hq2'] at z
  exact Int.not_lt.mp z
 have FF:Fit ((arrOf st).extract (sa+k) sb) ((arrOf st).extract sb (sb+k2)):=zMR (nb:=nb) hzz (by omega) hk2 (by omega) (by rw[hs];exact U1) U2 hq1 hq2' (λi a b=>gk2 i a (by omega)) gk3
 refine zAM (λ_=>?_) λ_=>?_
 ·refine wpS_bind (zF0 (a0:=a0) (xs:=arrOf st) ⟨g1,hxs⟩ (zCJ hk _ _) (zCJ hk _ _) (by rw[Array.size_extract];omega) (by rw[Array.size_extract];omega) FF λout st2 g2 p2=>?_)
  refine wpS_bind (wpS_modify (wpS_bind (wpS_get (wpS_pure ?_))))
  exact fin out st2 ne2 g2 p2
 ·refine wpS_bind (zF1 (a0:=a0) (xs:=arrOf st) ⟨g1,hxs⟩ (zCJ hk _ _) (zCJ hk _ _) (by rw[Array.size_extract];omega) (by rw[Array.size_extract];omega) FF λout st2 g2 p2=>?_)
  refine wpS_bind (wpS_modify (wpS_bind (wpS_get (wpS_pure ?_))))
  exact fin out st2 ne2 g2 p2
end
end SB
namespace SB
open PySem PyProof.Rows
section
variable {prog:Program}{w:World}{A:Around}{E:Value->Shared->Prop}{s:Shared}{a0:Array Keyed}
def SU (xs:Array Keyed):Nat->List (Nat×Nat×Nat)->Nat->Prop
 | s,[],e=>s=e
 | s,(a,n,_)::r,e=>a=s/\1<=n/\Up xs s (s+n)/\SU xs (s+n) r e
theorem SU.le {xs:Array Keyed}:∀ {s:Nat} {l:List (Nat×Nat×Nat)} {e:Nat},SU xs s l e->s+l.length<=e
 | _,[],_,h=>Nat.le_of_eq h
 | s,(_,n,_)::r,e,h=>by have:=SU.le h.2.2.2;simp only[List.length_cons];have:=h.2.1;omega
theorem SU.keep {xs ys:Array Keyed}:∀ {s:Nat} {l:List (Nat×Nat×Nat)} {e:Nat},SU xs s l e->(∀ k,s<=k->k<e->K ys k=K xs k)->SU ys s l e
 | _,[],_,h,_=>h
 | s,(_,n,_)::r,e,h,hk=>by
  have q:=SU.le h.2.2.2
  exact⟨h.1,h.2.1,h.2.2.1.eqK λk h1 h2=>hk k h1 (by omega),SU.keep h.2.2.2 λk h1 h2=>hk k (by omega) h2⟩
theorem SU.at {xs:Array Keyed}:∀ {s:Nat} {l:List (Nat×Nat×Nat)} {e i:Nat} {x:Nat×Nat×Nat},SU xs s l e->l[i]?=some x->s<=x.1/\1<=x.2.1/\x.1+x.2.1<=e/\Up xs x.1 (x.1+x.2.1)
 | _,[],_,_,_,_,h1=>by simp at h1
 | s,(a,n,p)::r,e,0,x,h,h1=>by
  simp at h1
  subst h1
  have q:=SU.le h.2.2.2
  obtain⟨rfl,h3,h4,h5⟩:=h
  exact⟨Nat.le_refl _,h3,by show a+n<=e;omega,h4⟩
 | s,(a,n,p)::r,e,i+1,x,h,h1=>by
  obtain⟨q1,q2,q3,q4⟩:=SU.at (i:=i) (x:=x) h.2.2.2 (by simpa using h1)
  exact⟨by omega,q2,q3,q4⟩
theorem SU.two {xs ys:Array Keyed}:∀ {s:Nat} {l:List (Nat×Nat×Nat)} {e i:Nat} {x y:Nat×Nat×Nat},SU xs s l e->l[i]?=some x->l[i+1]?=some y ->
  y.1=x.1+x.2.1/\(Up ys x.1 (y.1+y.2.1)->(∀ k,k<x.1\/y.1+y.2.1<=k->K ys k=K xs k)->SU ys s ((l.set i (x.1,x.2.1+y.2.1,x.2.2)).eraseIdx (i+1)) e)
 | _,[],_,_,_,_,_,h1,_=>by simp at h1
 | _,[_],_,0,_,_,_,_,h2=>by simp at h2
 | s,(a,n,p)::(b,m,q)::r,e,0,x,y,h,h1,h2=>by
  simp at h1 h2
  subst h1 h2
  obtain⟨rfl,h3,h6,rfl,h4,h7,h5⟩:=h
  refine⟨rfl,λu hk=>?_⟩
  show SU ys a ((a,n+m,p)::r) e
  have e1:a+(n+m)=a+n+m:=by omega
  refine⟨rfl,by omega,?_,?_⟩
  ·rw[e1];exact u
  ·rw[e1];exact h5.keep λk h1 h2=>hk k (.inr h1)
 | s,(a,n,p)::r,e,i+1,x,y,h,h1,h2=>by
  obtain⟨rfl,h3,h6,h5⟩:=h
  obtain⟨q1,q5⟩:=SU.two (ys:=ys) (i:=i) (x:=x) (y:=y) h5 (by simpa using h1) (by simpa using h2)
  have q:=SU.at (i:=i) (x:=x) h5 (by simpa using h1)
  exact⟨q1,λu hk=>⟨rfl,h3,h6.eqK λk h1 h2=>hk k (.inl (by omega)),q5 u hk⟩⟩
theorem SU.mod {xs:Array Keyed}(pw:Nat):∀ {s:Nat} {l:List (Nat×Nat×Nat)} {e:Nat} (i:Nat),SU xs s l e->SU xs s (l.modify i λ(st,len,_)=>(st,len,pw)) e
 | _,[],_,i,h=>by cases i<;>exact h
 | _,(_,_,_)::_,_,0,h=>h
 | _,(_,_,_)::_,_,i+1,h=>⟨h.1,h.2.1,h.2.2.1,SU.mod pw i h.2.2.2⟩
theorem SU.snoc {xs:Array Keyed}(n p:Nat)(hn:1<=n):∀ {s:Nat} {l:List (Nat×Nat×Nat)} {e:Nat},SU xs s l e->Up xs e (e+n)->SU xs s (l++[(e,n,p)]) (e+n)
 | s,[],e,h,u=>by
  obtain rfl:s=e:=h
  exact⟨rfl,hn,u,rfl⟩
 | _,(_,_,_)::_,_,h,u=>⟨h.1,h.2.1,h.2.2.1,SU.snoc n p hn h.2.2.2 u⟩
def GS (a0:Array Keyed)(e:Nat)(st:SortSt):Prop:=SI a0 st/\SU (arrOf st) 0 (pendingOf st).toList e
theorem zD6 {i e:Nat}{st:SortSt}{Q:Bool->SortSt->Prop}(h0:IntKeys a0)(hB:GS a0 e st)(he:e<=a0.size)(hi:i+1<(pendingOf st).size)
  (h:∀ st',GS a0 e st'->(pendingOf st').size+1=(pendingOf st).size->(∀ k,e<=k->K (arrOf st') k=K (arrOf st) k)->Q true st'):wpS (model prog w) A E s (mergeAt' i) Q st:=by
 obtain⟨⟨sa,na,pw⟩,hx⟩:∃ x,(pendingOf st)[i]?=some x:=⟨_,getElem?_pos _ i (by omega)⟩
 obtain⟨⟨sb,nb,pw2⟩,hy⟩:∃ x,(pendingOf st)[i+1]?=some x:=⟨_,getElem?_pos _ (i+1) hi⟩
 obtain⟨x1,x2,x3,x4⟩:=hB.2.at (i:=i) (x:=(sa,na,pw)) (by simpa using hx)
 obtain⟨y1,y2,y3,y4⟩:=hB.2.at (i:=i+1) (x:=(sb,nb,pw2)) (by simpa using hy)
 have q1:=(hB.2.two (ys:=arrOf st) (i:=i) (x:=(sa,na,pw)) (y:=(sb,nb,pw2)) (by simpa using hx) (by simpa using hy)).1
 refine zF2 h0 ⟨hB.1,rfl⟩ hx hy q1 x2 y2 (Nat.le_trans y3 he) x4 y4 λst' g af=>h st' ⟨g.1,?_⟩ ?_ λk hk=>af.2 k (.inr (Nat.le_trans y3 hk))
 ·rw[g.2,Array.toList_eraseIdxIfInBounds,Array.toList_setIfInBounds]
  exact(hB.2.two (ys:=arrOf st') (i:=i) (x:=(sa,na,pw)) (y:=(sb,nb,pw2)) (by simpa using hx) (by simpa using hy)).2 af.1 af.2
 ·rw[g.2,<- Array.length_toList,Array.toList_eraseIdxIfInBounds,Array.toList_setIfInBounds,List.length_eraseIdx,if_pos (by rw[List.length_set,Array.length_toList];omega),List.length_set,Array.length_toList]
  omega
theorem zK5 {st:SortSt}{Q:Unit->SortSt->Prop}(h0:IntKeys a0)(hB:SI a0 st)(hp:pendingOf st=#[])(h:∀ st',SI a0 st'->Up (arrOf st') 0 a0.size->Q () st'):wpS (model prog w) A E s sortRuns' Q st:=by
 rw[sortRuns'_eq]
 refine wpS_bind (wpS_get ?_)
 dsimp only
 rw[hB.size]
 generalize minRun' a0.size a0.size 0=mr
 refine wpS_bind (wpS_mono (wpS_forRange (I:=λx c st'=>∃ lo,c=(none,lo)/\lo<=a0.size/\x<=lo/\GS a0 lo st') (Q:=λc st'=>∃ lo,c=(none,lo)/\lo=a0.size/\GS a0 lo st') ?step ?fin ⟨0,rfl,by omega,by omega,hB,by rw[hp];rfl⟩) ?post)
 case fin=>rintro c st' ⟨lo,rfl,h1,h2,g⟩;exact⟨lo,rfl,by omega,g⟩
 case step =>
  rintro x c st1 _ hx ⟨lo,rfl,hlo,hxl,g⟩
  dsimp only
  refine zAM (λhge=>wpS_pure ⟨lo,rfl,by omega,g⟩) λhlt=>?_
  refine wpS_bind (zJL h0 (by omega) (by omega) (pe:=pendingOf st1) (ys:=arrOf st1) ⟨⟨g.1,rfl⟩,Low.refl _ _⟩ λm st2 g2 hm1 hm2 hU=>?_)
  have G2:GS a0 lo st2:=⟨g2.1.1,by rw[g2.1.2];exact g.2.keep λk _ hk=>g2.2 k hk⟩
  dsimp only
  refine zAM (λhmr=>?_) λhmr=>?_
  ·refine wpS_bind (wpS_lift (wpAny_rule ⟨rfl,?_⟩))
   refine wpS_bind (zK3 h0 (by omega) (by omega) g2 hU λst' g3 hU3=>?_)
   have G3:GS a0 lo st':=⟨g3.1.1,by rw[g3.1.2];exact g.2.keep λk _ hk=>g3.2 k hk⟩
   rw[if_neg (by decide)]
   obtain⟨nn,hnn⟩:∃ nn,nn=min (a0.size-lo) mr:=⟨_,rfl⟩
   rw[<- hnn]
   have hn1:1<=nn:=by omega
   have hn2:lo+nn<=a0.size:=by omega
   have hV:Up (arrOf st') lo (lo+nn):=by rw[hnn];exact hU3
   refine wpS_bind (wpS_get ?_)
   have fin:∀ st2:SortSt,GS a0 lo st2->Up (arrOf st2) lo (lo+nn)->GS a0 (lo+nn) (setPending st2 ((pendingOf st2).push (lo,nn,0))):=λst2 g2 u2=>by
    refine⟨⟨g2.1.perm,g2.1.kind,g2.1.failed⟩,?_⟩
    show SU (arrOf st2) 0 ((pendingOf st2).push (lo,nn,0)).toList (lo+nn)
    rw[Array.toList_push]
    exact g2.2.snoc nn 0 hn1 u2
   cases hbk:(pendingOf st').back? with
   | none=>exact wpS_bind (wpS_modify (wpS_pure ⟨_,rfl,hn2,by omega,fin _ G3 hV⟩))
   | some t =>
    obtain⟨s1,n1,p1⟩:=t
    dsimp only
    refine wpS_bind (wpS_mono (wpS_forRange (I:=λ_ c st2=>c=(none,())/\GS a0 lo st2/\Up (arrOf st2) lo (lo+nn)) (Q:=λc st2=>c=(none,())/\GS a0 lo st2/\Up (arrOf st2) lo (lo+nn)) ?_ ?_ ⟨rfl,G3,hV⟩) ?_)
    ·rintro y c st2 _ _ ⟨rfl,g2,u2⟩
     refine wpS_bind (wpS_get ?_)
     by_cases hp1:(pendingOf st2).size > 1
     ·rw[if_pos hp1]
      obtain⟨⟨a1,a2,older⟩,hx⟩:∃ x,(pendingOf st2)[(pendingOf st2).size-2]?=some x:=⟨_,getElem?_pos _ _ (by omega)⟩
      rw[hx]
      dsimp only
      refine zAM (λ_=>wpS_pure ⟨rfl,g2,u2⟩) λ_=>?_
      refine wpS_bind (zD6 h0 g2 hlo (by omega) λst3 g3 _ k3=>?_)
      exact wpS_pure ⟨rfl,g3,u2.eqK λk h1 _=>k3 k h1⟩
     ·rw[if_neg hp1]
      exact wpS_pure ⟨rfl,g2,u2⟩
    ·rintro c st2 z;exact z
    ·rintro c st2 ⟨rfl,g2,u2⟩
     refine wpS_bind (wpS_modify (wpS_bind (wpS_modify (wpS_pure ⟨_,rfl,hn2,by omega,fin _ ⟨⟨g2.1.perm,g2.1.kind,g2.1.failed⟩,?_⟩ u2⟩))))
     show SU (arrOf st2) 0 ((pendingOf st2).modify _ _).toList lo
     rw[Array.toList_modify]
     exact g2.2.mod _ _
  ·obtain⟨nn,hnn⟩:∃ nn,nn=m:=⟨_,rfl⟩
   rw[<- hnn]
   have hn1:1<=nn:=by omega
   have hn2:lo+nn<=a0.size:=by omega
   obtain⟨st',hst'⟩:∃ st',st'=st2:=⟨_,rfl⟩
   rw[<- hst'] at G2 ⊢
   have hV:Up (arrOf st') lo (lo+nn):=by rw[hnn,hst'];exact hU
   refine wpS_bind (wpS_get ?_)
   have fin:∀ st2:SortSt,GS a0 lo st2->Up (arrOf st2) lo (lo+nn)->GS a0 (lo+nn) (setPending st2 ((pendingOf st2).push (lo,nn,0))):=λst2 g2 u2=>by
    refine⟨⟨g2.1.perm,g2.1.kind,g2.1.failed⟩,?_⟩
    show SU (arrOf st2) 0 ((pendingOf st2).push (lo,nn,0)).toList (lo+nn)
    rw[Array.toList_push]
    exact g2.2.snoc nn 0 hn1 u2
   cases hbk:(pendingOf st').back? with
   | none=>exact wpS_bind (wpS_modify (wpS_pure ⟨_,rfl,hn2,by omega,fin _ G2 hV⟩))
   | some t =>
    obtain⟨s1,n1,p1⟩:=t
    dsimp only
    refine wpS_bind (wpS_mono (wpS_forRange (I:=λ_ c st2=>c=(none,())/\GS a0 lo st2/\Up (arrOf st2) lo (lo+nn)) (Q:=λc st2=>c=(none,())/\GS a0 lo st2/\Up (arrOf st2) lo (lo+nn)) ?_ ?_ ⟨rfl,G2,hV⟩) ?_)
    ·rintro y c st2 _ _ ⟨rfl,g2,u2⟩
     refine wpS_bind (wpS_get ?_)
     by_cases hp1:(pendingOf st2).size > 1
     ·rw[if_pos hp1]
      obtain⟨⟨a1,a2,older⟩,hx⟩:∃ x,(pendingOf st2)[(pendingOf st2).size-2]?=some x:=⟨_,getElem?_pos _ _ (by omega)⟩
      rw[hx]
      dsimp only
      refine zAM (λ_=>wpS_pure ⟨rfl,g2,u2⟩) λ_=>?_
      refine wpS_bind (zD6 h0 g2 hlo (by omega) λst3 g3 _ k3=>?_)
      exact wpS_pure ⟨rfl,g3,u2.eqK λk h1 _=>k3 k h1⟩
     ·rw[if_neg hp1]
      exact wpS_pure ⟨rfl,g2,u2⟩
    ·rintro c st2 z;exact z
    ·rintro c st2 ⟨rfl,g2,u2⟩
     refine wpS_bind (wpS_modify (wpS_bind (wpS_modify (wpS_pure ⟨_,rfl,hn2,by omega,fin _ ⟨⟨g2.1.perm,g2.1.kind,g2.1.failed⟩,?_⟩ u2⟩))))
     show SU (arrOf st2) 0 ((pendingOf st2).modify _ _).toList lo
     rw[Array.toList_modify]
     exact g2.2.mod _ _
 case post =>
  rintro c st1 ⟨lo,rfl,hlo,g⟩
  have hlo':=hlo
  have hln:(pendingOf st1).size<=a0.size:=by have:=g.2.le;rw[Array.length_toList] at this;omega
  dsimp only
  refine wpS_bind (wpS_mono (wpS_forRange (I:=λx c st2=>c=(none,())/\GS a0 lo st2/\(pendingOf st2).size+x<=a0.size+1) (Q:=λc st2=>c=(none,())/\GS a0 lo st2/\(pendingOf st2).size<=1) ?_ ?_ ⟨rfl,g,by omega⟩) ?_)
  ·rintro y c st2 _ _ ⟨rfl,g2,n2⟩
   refine wpS_bind (wpS_get ?_)
   refine zAM (λh1=>wpS_pure ⟨rfl,g2,h1⟩) λhsz=>?_
   refine wpS_bind (zD6 h0 g2 (by omega) (zJK (by omega) (by omega)) λst3 g3 e3 _=>?_)
   exact wpS_pure ⟨rfl,g3,by omega⟩
  ·rintro c st2 ⟨rfl,g2,n2⟩;exact⟨rfl,g2,by omega⟩
  ·rintro c st2 ⟨rfl,g2,n2⟩
   refine wpS_pure (h _ g2.1 ?_)
   have q:=g2.2
   rw[<- Array.length_toList] at n2
   rw[<- hlo]
   match hl:(pendingOf st2).toList with
   | [] =>
    rw[hl] at q
    obtain rfl:0=lo:=q
    exact λk m h1 h2 h3=>by omega
   | [(x,n,p)] =>
    rw[hl] at q
    obtain⟨rfl,h3,h4,h5⟩:=q
    obtain rfl:0+n=lo:=h5
    exact h4
   | _::_::_ =>
    rw[hl] at n2
    simp only[List.length_cons] at n2
    omega
theorem sort_s {a:Addr}{vs:List Value}{ns:List Int}{n:Nat}{P:PySem.Fin->Shared->Prop}(ho:s.heap.get? a=some (seqObj "list" vs.toArray n))
  (hI:IntsAre vs ns) (h64:vs.length<=1000)
  (h:∀ (out:Array Value) (ns':List Int),IntsAre out.toList ns'->ns'.Perm ns->ns'.Pairwise (·<=·)->P (.done (.ret .none)) { s with heap:=sortedHeap s.heap a vs out }) :
  wpAny (model prog w) A (Builtin.«list.sort» ⟨[.ref a],[]⟩) P E s:=by
 rw[list_sort_plain]
 have ha:a<s.heap.objs.size:=Heap.lt_size ho
 refine wpAny_bind (listItems_at ho rfl ?_)
 refine wpAny_bind (listUpdate_at ho rfl ?_ (by rw[sizeLine_eq];simp;omega) (by simp))
 obtain⟨e1,ho1⟩:∃ e1,(s.heap.update a (Obj.mapSeq λ_=>#[])).get? a=some (seqObj "list" #[] e1):=⟨_,get?_update_seq ho (λ_=>#[])⟩
 refine wpAny_bind (seqEpoch_at ho1 rfl ?_)
 refine wpAny_bind (wpAny_newTuple ?_ (by rw[sizeLine_eq];simp;omega))
 refine wpAny_bind (wpAny_newList ?_)
 refine wpAny_holding ?_
 have ho6:(((s.heap.update a (Obj.mapSeq λ_=>#[])).push (seqObj "tuple" vs.toArray 0)).push (seqObj "list" #[] 0)).get? a=some (seqObj "list" #[] e1):=by
  rw[Heap.get?_push_ne _ _ _ (by rw[size_push',Heap.size_update];exact Nat.ne_of_lt (Nat.lt_succ_of_lt ha)),Heap.get?_push_ne _ _ _ (by rw[Heap.size_update];exact Nat.ne_of_lt ha)]
  exact ho1
 show wpAny (model prog w) A _ P E { s with heap:=((s.heap.update a (Obj.mapSeq λ_=>#[])).push (seqObj "tuple" vs.toArray 0)).push (seqObj "list" #[] 0) }
 dsimp only
 have hsz:vs.toArray.size=vs.length:=by simp
 have fin:∀ st':SortSt,(arrOf st').Perm (pairsOf vs)->Up (arrOf st') 0 (pairsOf vs).size->P (.done (.ret .none)) { s with heap:=sortedHeap s.heap a vs ((arrOf st').map (·.2)) }:=by
  intro st' hp hu
  obtain⟨ns',h1,h2,h3⟩:=sorted_out hI hp λi j q1 q2=>hu i j (Nat.zero_le _) q1 q2
  exact h _ ns' h1 h2 h3
 by_cases h2:vs.toArray.size<2
 ·rw[if_pos h2,if_pos h2]
  refine wpAny_bind (wpAny_pure ?_)
  rw[StateT.run_pure]
  refine wpAny_bind (wpAny_pure ?_)
  dsimp only
  refine wpAny_bind (seqEpoch_at ho6 rfl ?_)
  refine wpAny_bind (listUpdate_at ho6 rfl ?_ (hsz2:=by rw[Array.size_map];show (pairsOf vs).size<=_;rw[pairsOf_size,sizeLine_eq];omega))
  simp only[bne_self_eq_false,Bool.false_eq_true,if_false]
  exact wpAny_pure (fin (SortSt.mk' general' (vs.toArray.zip vs.toArray) #[] 7 none) (Array.Perm.refl _) λi j _ q1 q2=>by
   rw[pairsOf_size] at q2
   obtain rfl:i=j:=by omega
   exact Int.le_refl _)
 ·rw[if_neg h2,if_neg h2]
  obtain⟨v₁,v₂,rest,rfl⟩:∃ v₁ v₂ rest,vs=v₁::v₂::rest:=by
   match vs,hsz,h2 with
   | [],_,h2=>simp at h2
   | [_],_,h2=>simp at h2
   | v₁::v₂::rest,_,_=>exact⟨v₁,v₂,rest,rfl⟩
  rw[keyKind_ints hI]
  refine wpAny_bind (wpAny_pure ?_)
  refine wpAny_bind (wpAny_mono (zK5 (a0:=pairsOf (v₁::v₂::rest)) (st:=SortSt.mk' oneType' ((v₁::v₂::rest).toArray.zip (v₁::v₂::rest).toArray) #[] 7 none)
   (Q:=λ_ st'=>SI (pairsOf (v₁::v₂::rest)) st'/\Up (arrOf st') 0 (pairsOf (v₁::v₂::rest)).size)
   hI.intKeys ⟨Array.Perm.refl _,rfl,rfl⟩ rfl λst' a1 a2=>⟨a1,a2⟩) ?_ λ_ _ e=>e)
  rintro⟨⟨⟩,st'⟩ s' ⟨rfl,hS,hS2⟩
  have hp:=hS.perm
  have hf:=hS.failed
  dsimp only
  refine wpAny_bind (seqEpoch_at ho6 rfl ?_)
  refine wpAny_bind (listUpdate_at ho6 rfl ?_ (hsz2:=by refine Nat.le_trans (Nat.le_of_eq ((Array.size_map ..).trans (hp.size_eq.trans (pairsOf_size _)))) ?_;rw[sizeLine_eq];omega))
  rw[hf]
  simp only[bne_self_eq_false,Bool.false_eq_true,if_false]
  exact wpAny_pure (fin st' hp hS2)
end
end SB
namespace L2
open PySem PySem.Spec PyProof.Rows
section
variable {X:Cx}
theorem zFA {y:Int}(h0:0<y)(h:y<2 ^ 200):y.natAbs.log2<9000:=by
 have h1:y.natAbs≠0:=by omega
 have h2:y.natAbs.log2<200:=(Nat.log2_lt h1).mpr (by omega)
 omega
theorem zHL:OpR X (binaryOp .FloorDiv) (rI (λ_ j=>0<j/\j<2 ^ 200) λi j=>.int (i / j)):=opI λi j _ _ _ _ _ hc q=>by
 refine floordiv_int (by omega) ?_ (.inl (PyProof.noPylong_of_log2 (zFA hc.1 hc.2)))
 rw[Int.fdiv_eq_ediv_of_nonneg i (by omega)]
 exact q
theorem zHM (hc:X.calm=true):CallR X (.builtin "sum") (λxs H Q=>∃ (p:Addr) (ns:List Int),xs=[.ref p]/\SqL X.K H p (ns.map V.int)/\Q (.int ns.sum) H):=by
 intro pins s σ H xs us Q I r h
 obtain⟨p,ns,rfl,hq,q⟩:=h
 obtain⟨u,rfl,rx⟩:=zCO r
 cases rx
 obtain⟨its,r',pl,hz⟩:=I.list hq
 have hi:=zAn r'
 obtain⟨xs,e⟩:=hi.allInts.items
 have hns:ns=xs.toList.map (·.1):=by rw[<- hi.numsOf,<- nums_intItems,<- e]
 have hl:=pl.isList
 rw[e] at hl
 refine sum_intListG (I.ok.hd hc) hl λh' tk t' hk=>⟨.int ns.sum,H,I.kept hk,⟨t',?_⟩,q⟩
 rw[preSum_eq,List.take_of_length_le (by simp),hns]
theorem zHN (hc:X.calm=true):CallR X (.builtin "max") (λxs H Q=>∃ (p:Addr) (ns:List Int),xs=[.ref p]/\SqL X.K H p (ns.map V.int)/\ns≠[]/\∀ M,M∈ns->(∀ a,a∈ns->a<=M)->Q (.int M) H):=by
 intro pins s σ H xs us Q I r h
 obtain⟨p,ns,rfl,hq,hne,q⟩:=h
 obtain⟨u,rfl,rx⟩:=zCO r
 cases rx
 obtain⟨its,r',pl,hz⟩:=I.list hq
 have hi:=zAn r'
 obtain⟨xs,e⟩:=hi.allInts.items
 have hns:ns=xs.toList.map (·.1):=by rw[<- hi.numsOf,<- nums_intItems,<- e]
 have hl:=pl.isList
 rw[e] at hl
 have hsz:0<xs.size:=by
  have h3:=List.length_pos_iff.mpr hne;rw[hns,List.length_map,Array.length_toList] at h3;exact h3
 refine max_intList (I.ok.hd hc) hl hsz λv h' tk hv hk=>?_
 obtain⟨t,rfl⟩:=intItems_at hv
 obtain⟨h1,h2⟩:=argBest_gt (numAt xs) (xs.size-1)
 refine⟨.int _,H,I.kept hk,⟨t,rfl⟩,q _ ?_ λa ha=>?_⟩
 ·rw[hns,numAt_eq];exact getD_mem (by rw[List.length_map,Array.length_toList];omega)
 ·rw[hns] at ha
  obtain⟨j,hj,rfl⟩:=mem_getD ha
  rw[List.length_map,Array.length_toList] at hj
  rw[<- numAt_eq];exact h2 j (by omega)
theorem zHO (hc:X.calm=true):CallR X (.builtin "min") (λxs H Q=>∃ (p:Addr) (ns:List Int),xs=[.ref p]/\SqL X.K H p (ns.map V.int)/\ns≠[]/\∀ M,M∈ns->(∀ a,a∈ns->M<=a)->Q (.int M) H):=by
 intro pins s σ H xs us Q I r h
 obtain⟨p,ns,rfl,hq,hne,q⟩:=h
 obtain⟨u,rfl,rx⟩:=zCO r
 cases rx
 obtain⟨its,r',pl,hz⟩:=I.list hq
 have hi:=zAn r'
 obtain⟨xs,e⟩:=hi.allInts.items
 have hns:ns=xs.toList.map (·.1):=by rw[<- hi.numsOf,<- nums_intItems,<- e]
 have hl:=pl.isList
 rw[e] at hl
 have hsz:0<xs.size:=by
  have h3:=List.length_pos_iff.mpr hne;rw[hns,List.length_map,Array.length_toList] at h3;exact h3
 refine min_intList (I.ok.hd hc) hl hsz λv h' tk hv hk=>?_
 obtain⟨t,rfl⟩:=intItems_at hv
 obtain⟨h1,h2⟩:=argBest_lt (numAt xs) (xs.size-1)
 refine⟨.int _,H,I.kept hk,⟨t,rfl⟩,q _ ?_ λa ha=>?_⟩
 ·rw[hns,numAt_eq];exact getD_mem (by rw[List.length_map,Array.length_toList];omega)
 ·rw[hns] at ha
  obtain⟨j,hj,rfl⟩:=mem_getD ha
  rw[List.length_map,Array.length_toList] at hj
  rw[<- numAt_eq];exact h2 j (by omega)
def RV:Nat->Hp->V->PyData->Prop
 | _,_,.non,d=>d=.none
 | _,_,.bl b,d=>d=.bool b
 | _,_,.int i,d=>d=.int i
 | _,_,.str x,d=>d=.str x
 | n+1,H,.ref a,d=>(∃ xs ds,Rd H a (.lst xs)/\d=.list ds/\Paired (RV n H) xs ds)\/∃ xs ds,Rd H a (.tup xs)/\d=.tuple ds/\Paired (RV n H) xs ds
 | _,_,_,_=>False
structure Shw (d:PyData):Prop where
 sh:d.showable=true
 nd:d.hasDict=false
 dp:d.depth<=30
 sz:d.shown.length<=sizeLine
end
end L2
namespace L2
open PySem PySem.Spec PyProof.Rows
abbrev zAT (X:Cx)(pins:List (Addr×Obj))(N':List Str)(scope:Scope)(cl:List (Str×Addr))(C:Addr)(s0:Shared)(H0:Hp)(fp:List Addr):Cx :=
 { X with N:=N',s₀:=s0,H₀:=H0,env:=compEnvC scope cl C X.env,outer:=X.stack,ex:=fp,fn:=λ_=>false,pn:=X.pn++pins,xe:=λ_ _=>False }
theorem zBE {k:NameKind}:∀ {names:List (Str×NameKind)} {x:Str},names.lookup x=some k->(x,k)∈names
 | (n,j)::r,x,h=>by
  rw[List.lookup_cons] at h
  cases e:x == n with
  | true =>
   rw[e] at h
   cases h
   rw[eq_of_beq e]
   exact List.mem_cons_self
  | false =>
   rw[e] at h
   exact List.mem_cons_of_mem _ (zBE h)
structure Clo (scope:Scope)(env:Env)(cl:List (Str×Addr)):Prop where
 eq:closureFor scope env=pure cl
 sub:∀ x c,cl.lookup x=some c->env.cells.lookup x=some c
 has:∀ x,(x,NameKind.free)∈scope.names->∃ c,cl.lookup x=some c
theorem zF3 {env:Env}:∀ (names:List (Str×NameKind)) (acc:List (Str×Addr)),(∀ x,(x,NameKind.free)∈names->∃ c,env.cells.lookup x=some c)->(∀ x c,acc.lookup x=some c->env.cells.lookup x=some c) ->
  ∃ cl,(forIn names acc λ(y:Str×NameKind) cs=>(if y.2 == NameKind.free then do let c <- cellOf env y.1;pure (ForInStep.yield ((y.1,c)::cs)) else pure (ForInStep.yield cs):Sem (ForInStep (List (Str×Addr)))))=pure cl /\
   (∀ x c,cl.lookup x=some c->env.cells.lookup x=some c)/\(∀ x,(x,NameKind.free)∈names->∃ c,cl.lookup x=some c)/\∀ x,(∃ c,acc.lookup x=some c)->∃ c,cl.lookup x=some c
 | [],acc,_,hs=>⟨acc,rfl,hs,λ_ h=>by simp at h,λ_ h=>h⟩
 | (n,k)::r,acc,hh,hs=>by
  by_cases hk:k=NameKind.free
  ·subst hk
   obtain⟨c,hc⟩:=hh n List.mem_cons_self
   obtain⟨cl,e,h1,h2,h3⟩:=zF3 r ((n,c)::acc) (λx hx=>hh x (List.mem_cons_of_mem _ hx)) (λx c' hx=>by
    rw[List.lookup_cons] at hx
    cases en:x == n with
    | true=>rw[en] at hx;cases hx;rw[eq_of_beq en];exact hc
    | false=>rw[en] at hx;exact hs x c' hx)
   refine⟨cl,?_,h1,λx hx=>?_,λx ⟨c',hx⟩=>?_⟩
   ·rw[List.forIn_cons]
    have ec:cellOf env n=pure c:=by unfold cellOf;rw[hc]
    simp only[beq_self_eq_true,if_true,ec,pure_bind]
    exact e
   ·rcases List.mem_cons.mp hx with hx | hx
    ·cases hx
     exact h3 n ⟨c,by rw[List.lookup_cons];simp⟩
    ·exact h2 x hx
   ·refine h3 x ?_
    cases en:x == n with
    | true=>exact⟨c,by rw[List.lookup_cons,en]⟩
    | false=>exact⟨c',by rw[List.lookup_cons,en];exact hx⟩
  ·obtain⟨cl,e,h1,h2,h3⟩:=zF3 r acc (λx hx=>hh x (List.mem_cons_of_mem _ hx)) hs
   refine⟨cl,?_,h1,λx hx=>?_,h3⟩
   ·rw[List.forIn_cons]
    have hb:(k == NameKind.free)=false:=by simpa using hk
    simp only[hb,Bool.false_eq_true,if_false,pure_bind]
    exact e
   ·rcases List.mem_cons.mp hx with hx | hx
    ·cases hx;exact absurd rfl hk
    ·exact h2 x hx
theorem zK6 {scope:Scope}{env:Env}(h:∀ x,(x,NameKind.free)∈scope.names->∃ c,env.cells.lookup x=some c):∃ cl,Clo scope env cl:=by
 obtain⟨cl,e,h1,h2,_⟩:=zF3 (env:=env) scope.names [] h (λx c hx=>by simp at hx)
 exact⟨cl,by unfold closureFor;exact(by simpa using e),h1,h2⟩
def zB7 (N':List Str)(caps:List (Option Nat))(N:List Str)(names names':List (Str×NameKind)):Bool :=
 (N'.length == caps.length)&&(N'.zip caps).all (λp=>match p.2 with
  | none=>true
  | some j=>N[j]? == some p.1&&names'.lookup p.1 == some .free) &&
 names'.all (λp=>p.2 != NameKind.cell&&(p.2 != NameKind.free || names.lookup p.1 == some .cell || names.lookup p.1 == some .free)&&(p.2 != NameKind.local || names'.lookup p.1 == some .local))
def zBj (caps:List (Option Nat))(σ:St):St:=caps.map λo=>match o with
 | none=>none
 | some j=>(σ[j]?).join
theorem zBR {env:Env}:∀ {names:List (Str×NameKind)} {x:Str},names.lookup x=some .free ->
  (names.map λ(n,k)=>if (k == NameKind.free&&env.scope.kind == .function&&env.kindOf n == some .cell) then (n,NameKind.cell) else (n,k)).lookup x=some .cell \/
  (names.map λ(n,k)=>if (k == NameKind.free&&env.scope.kind == .function&&env.kindOf n == some .cell) then (n,NameKind.cell) else (n,k)).lookup x=some .free
 | (n,k)::r,x,h=>by
  have ih:=@zBR env r x
  show List.lookup x ((if (k == NameKind.free&&env.scope.kind == .function&&env.kindOf n == some .cell)=true then (n,NameKind.cell) else (n,k))::_)=_ \/
   List.lookup x ((if (k == NameKind.free&&env.scope.kind == .function&&env.kindOf n == some .cell)=true then (n,NameKind.cell) else (n,k))::_)=_
  cases hx:x == n with
  | true =>
   simp only[List.lookup_cons,hx] at h
   cases h
   by_cases hc:(NameKind.free == NameKind.free&&env.scope.kind == .function&&env.kindOf n == some .cell)=true
   ·rw[if_pos hc];simp[List.lookup_cons,hx]
   ·rw[if_neg hc];simp[List.lookup_cons,hx]
  | false =>
   simp only[List.lookup_cons,hx] at h
   by_cases hc:(k == NameKind.free&&env.scope.kind == .function&&env.kindOf n == some .cell)=true
   ·rw[if_pos hc];simp only[List.lookup_cons,hx];exact ih h
   ·rw[if_neg hc];simp only[List.lookup_cons,hx];exact ih h
theorem zBS {env : Env} : ∀ {names : List (Str × NameKind)} {x : Str}, (∀ p ∈ names, p.2 ≠ .cell) →
    ((names.map fun (n, k) => if (k == NameKind.free && env.scope.kind == .function && env.kindOf n == some .cell) then (n, NameKind.cell) else (n, k)).lookup x = some .cell ∨
     (names.map fun (n, k) => if (k == NameKind.free && env.scope.kind == .function && env.kindOf n == some .cell) then (n, NameKind.cell) else (n, k)).lookup x = some .free) → (x, NameKind.free) ∈ names
  | [], x, _, h => by simp at h
  | (n, k) :: r, x, hc0, h => by
    have ih := @zBS env r x (fun p hp => hc0 p (List.mem_cons_of_mem _ hp))
    have hk0 : k ≠ .cell := hc0 (n, k) List.mem_cons_self
    rw [List.map_cons] at h
    generalize (r.map fun (x : Str × NameKind) => match x with | (n, k) => if (k == NameKind.free && env.scope.kind == ScopeKind.function && env.kindOf n == some NameKind.cell) = true then (n, NameKind.cell) else (n, k)) = R at h ih
    dsimp only at h
    by_cases hc : (k == NameKind.free && env.scope.kind == .function && env.kindOf n == some .cell) = true
    · rw [if_pos hc] at h
      cases hx : x == n with
      | true =>
        have hkf : k = .free := by
          rw [Bool.and_eq_true, Bool.and_eq_true] at hc
          exact eq_of_beq hc.1.1
        rw [eq_of_beq hx, hkf]; exact List.mem_cons_self
      | false =>
        rw [List.lookup_cons, hx] at h
        exact List.mem_cons_of_mem _ (ih h)
    · rw [if_neg hc] at h
      cases hx : x == n with
      | true =>
        rw [List.lookup_cons, hx] at h
        rcases h with h | h
        · exact absurd (Option.some.inj h) hk0
        · rw [eq_of_beq hx, Option.some.inj h]; exact List.mem_cons_self
      | false =>
        rw [List.lookup_cons, hx] at h
        exact List.mem_cons_of_mem _ (ih h)
section
variable {X:Cx}{pins:List (Addr×Obj)}{σ:St}{H:Hp}{s:Shared}
theorem zFB {N':List Str}{caps:List (Option Nat)}{scope:Scope}{cl:List (Str×Addr)}{fp:List Addr}{h1:Heap}{tk:Nat}(I:Inv X pins σ H s)(hfp:∀ b∈fp,FpOk X pins H b)(hfo:∀ b∈fp,∃ o,s.heap.get? b=some o)
  (hcap:zB7 N' caps X.N X.env.scope.names scope.names=true) (hkind:scope.kind=.function) (hC:Clo scope X.env cl)
  (hns:h1.Ns (s.heap.objs.size+1) λ_=>none) (hsb:Heap.SameBut (s.heap.objs.size+1) ((s.heap.push { cls:=.type "list",data:=.seq #[] }).push { cls:=.type "dict",data:=.dict #[] }) h1) :
  Inv (zAT X pins N' scope cl (s.heap.objs.size+1) { s with heap:=s.heap.push { cls:=.type "list",data:=.seq #[] } } (upd H s.heap.objs.size (.lst [])) fp) [] (zBj caps σ) (upd H s.heap.objs.size (.lst [])) { s with heap:=h1,toks:=tk }:=by
 have hn:H s.heap.objs.size=none:=I.hok.fresh (Nat.le_refl _)
 have hz:(s.heap.push { cls:=.type "list",data:=.seq #[] }).objs.size=s.heap.objs.size+1:=Heap.size_push ..
 have up1:∀ b o,s.heap.get? b=some o->(s.heap.push { cls:=.type "list",data:=.seq #[] }).get? b=some o:=λb o e=>Heap.get?_push_of_some _ e
 have up2:∀ b o,(s.heap.push { cls:=.type "list",data:=.seq #[] }).get? b=some o->h1.get? b=some o:=λb o e=>by
  have hb:b<s.heap.objs.size+1:=by rw[<- hz];exact Heap.lt_size e
  exact hsb.extBut b o (Nat.ne_of_lt hb) (Heap.get?_push_of_some _ e)
 have I1:Inv X pins σ (upd H s.heap.objs.size (.lst [])) { s with heap:=s.heap.push { cls:=.type "list",data:=.seq #[] },toks:=s.toks } :=
  I.laid (t':=s.toks) up1 (Nat.le_refl _) (show ObjOk X.prog X.w _ _ _ (.lst []) from ⟨Nat.zero_le _,[],0,.nil,Heap.get?_push_size _ rfl⟩)
 obtain⟨hcap1,hcap3⟩:=Bool.and_eq_true_iff.mp hcap
 obtain⟨hcap1,hcap2⟩:=Bool.and_eq_true_iff.mp hcap1
 have hlen:N'.length=caps.length:=by simpa using hcap1
 have hcap3':=List.all_eq_true.mp hcap3
 have nocell:∀ p∈scope.names,p.2≠NameKind.cell:=λp hp=>by
  have:=hcap3' p hp
  simp only[Bool.and_eq_true,bne_iff_ne] at this
  exact this.1.1
 have hsub:=I.stkSub
 have ltS:∀ b o,s.heap.get? b=some o->b<s.heap.objs.size:=λb o e=>Heap.lt_size e
 refine⟨⟨I.ok.mod,hkind,I.ok.glob,I.ok.blt,Nat.le_of_eq hz,λx y c e1 e2=>I.ok.inj x y c (hC.sub x c e1) (hC.sub y c e2),λx hx=>?_,λx c hf=>absurd (show false=true from hf) Bool.false_ne_true,I.ok.hd,I.ok.frames,.inl rfl,λb hb=>?_,λb o e=>?_,?_,λb o e hb=>?_,λb hb hf=>?_,?_,λb hb=>?_⟩,
  rfl,I.bare,Un.kept up2,⟨_,hns,λi x v e1 e2 e3=>?_⟩,λx c e=>?_,?_,λx c e=>?_,λp hp=>?_,I1.hok.kept up2,?_⟩
 ·exact hC.has x (zBS nocell hx)
 ·obtain⟨o,ho⟩:=hfo b hb
  obtain⟨f0,f1,f2,f3,f4,f5⟩:=hfp b hb
  exact⟨Nat.ne_of_lt (Nat.lt_succ_of_lt (ltS b o ho)),λx c e=>f4 x c (hC.sub x c e)⟩
 ·have q:=I1.bs b o e
  exact q
 ·show X.base.objs.size<=(s.heap.push _).objs.size
  rw[hz]
  exact Nat.le_trans (Nat.le_trans I.ok.bsz I.sz) (Nat.le_succ _)
 ·obtain⟨f0,f1,f2,f3,f4,f5⟩:=hfp b hb
  rcases f3 with f3 | f3
  ·exact I.ok.noex b o e f3
  ·exact absurd (Nat.lt_of_lt_of_le (Heap.lt_size e) (Nat.le_trans I.ok.bsz f3)) (Nat.lt_irrefl _)
 ·obtain⟨f0,f1,f2,f3,f4,f5⟩:=hfp b hb
  rcases List.mem_cons.mp (hsub b hf) with z | z
  ·exact f1 z
  ·exact f2 z
 ·exact I1.stack
 ·exact I1.stkFree b hb
 ·
  have e2':∃ o,caps[i]?=some o/\(match o with | none=>none | some j=>(σ[j]?).join)=some v:=by
   unfold zBj at e2
   rw[List.getElem?_map] at e2
   cases q:caps[i]? with
   | none=>rw[q] at e2;cases e2
   | some o=>rw[q] at e2;exact⟨o,rfl,Option.some.inj e2⟩
  obtain⟨o,ho,hv⟩:=e2'
  cases o with
  | none=>cases hv
  | some j =>
   have hv':(σ[j]?).join=some v:=hv
   have hσ:σ[j]?=some (some v):=by
    cases q:σ[j]? with
    | none=>rw[q] at hv';cases hv'
    | some w=>rw[q] at hv';rw[show w=some v from hv']
   have hzip:(x,some j)∈N'.zip caps:=by
    refine List.mem_iff_getElem?.mpr ⟨i,?_⟩
    rw[List.getElem?_zip_eq_some]
    exact⟨e1,ho⟩
   have q:=List.all_eq_true.mp hcap2 _ hzip
   simp only[Bool.and_eq_true,beq_iff_eq] at q
   obtain⟨q1,q2⟩:=q
   have q3:=hcap3' _ (zBE q2)
   have q4:X.env.scope.names.lookup x=some .cell\/X.env.scope.names.lookup x=some .free:=by
    simp only[bne_self_eq_false,Bool.false_or,Bool.and_eq_true,Bool.or_eq_true,beq_iff_eq] at q3
    exact q3.1.2
   obtain⟨m,_,hl⟩:=I.loc
   obtain⟨u,ru,lk⟩:=hl j x v q1 hσ (.inr q4)
   refine⟨u,ru,.inr ⟨zBR q2,?_⟩⟩
   have q5:X.env.kindOf x=some .cell\/X.env.kindOf x=some .free:=q4
   rcases lk with ⟨k,_⟩ | ⟨_,c,ec,hc⟩
   ·rcases q5 with q5 | q5<;>(rw[q5] at k;cases k)
   ·obtain⟨c',ec'⟩:=hC.has x (zBE q2)
    have:=hC.sub x c' ec'
    rw[ec] at this
    cases this
    obtain⟨oc,hoc,hdc⟩:=hc
    exact⟨c,ec',oc,up2 _ _ (up1 _ _ hoc),hdc⟩
 ·obtain⟨v,oc,hoc,hdc⟩:=I.cell x c (hC.sub x c e)
  exact⟨v,oc,up2 _ _ (up1 _ _ hoc),hdc⟩
 ·show upd H _ _ (s.heap.objs.size+1)=none
  rw[zAS (Nat.ne_of_gt (Nat.lt_succ_self _))]
  exact I.hok.fresh (Nat.le_succ _)
 ·exact I1.freeC x c (hC.sub x c e)
 ·have hp':p∈X.pn++pins:=by simpa using hp
  obtain⟨a1,a2,a3,a4,a5⟩:=I1.pin p hp'
  obtain⟨b1,_,_,_,_⟩:=I.pin p hp'
  refine⟨up2 _ _ a1,a2,Nat.ne_of_lt (Nat.lt_succ_of_lt (ltS _ _ b1)),λhf=>?_,a5⟩
  rcases List.mem_cons.mp (hsub p.1 hf) with z | z
  ·exact a3 z
  ·exact a4 z
 ·show (zBj caps σ).length=N'.length
  unfold zBj
  rw[List.length_map,hlen]
theorem zF4 {N':List Str}{scope:Scope}{cl:List (Str×Addr)}{fp:List Addr}{C:Addr}{pins':List (Addr×Obj)}{σ':St}{H':Hp}{s':Shared}(I:Inv X pins σ H s)(hfp:∀ b∈fp,FpOk X pins H b)
  (J:Inv (zAT X pins N' scope cl C { s with heap:=s.heap.push { cls:=.type "list",data:=.seq #[] } } (upd H s.heap.objs.size (.lst [])) fp) pins' σ' H' s'):Inv X pins σ H' s':=by
 have hn:H s.heap.objs.size=none:=I.hok.fresh (Nat.le_refl _)
 refine I.call' (ch:=fp) J.os ?_ J.hok J.bare λb hb=>?_
 ·exact(Un.laid (λb o e=>Heap.get?_push_of_some _ e) (Nat.le_refl _) hn).trans J.base
 ·obtain⟨f0,f1,f2,f3,f4,f5⟩:=hfp b hb
  exact⟨f3,f1,f4,f5⟩
end
end L2
namespace L2
open PySem PySem.Spec PyProof.Rows
def PIfs (X:Cx)(ifs:List Expr)(t:TT):Prop :=
 ∀ (pins:List (Addr×Obj)) (s:Shared) (σ:St) (H:Hp) (Q:Bool->Hp->Prop),Inv X pins σ H s->t σ H Q ->
  wpAny (model X.prog X.w) X.A (forIn ifs true λc r=>if r=true then do let ok <- isTrue c X.env (eval c X.env);pure (ForInStep.yield ok) else pure (ForInStep.yield r)) (TP X pins σ Q) X.xe s
def tYes:TT:=λ_ H Q=>Q true H
theorem zHP {X:Cx}:PIfs X [] tYes:=λ_ _ _ H _ I h=>wpAny_tests_nil ⟨H,I,h⟩
theorem zHQ {X:Cx}{c:Expr}{t:TT}(h:PT X c t):PIfs X [c] t:=λpins s σ H Q I q=>wpAny_tests_one (h pins s σ H Q I q)
def zBC (J:It)(D:Addr)(g:TG)(tt:TT)(te:TE)(σ0:St)(H0:Hp)(Q:Hp->Prop):Prop :=
 ∃ W:Nat->Nat->St->Hp->Prop,(∃ m,W 0 m σ0 H0)/\∀ i m σ' H',W i m σ' H' ->
  (J.stop i H'/\Q H')\/(J.go i H'/\∃ N:St->Hp->Prop,(∀ σ' H',N σ' H'->∃ m',m'<m/\W (i+1) m' σ' H')/\∀ x H2,J.yld i H' x H2->g x σ' H2 λσ2 H3=>tt σ2 H3 λb H4 =>
   if b=true then te σ2 H4 λv H5=>∃ ys,H5 D=some (.lst ys)/\ys.length<sizeLine/\N σ2 (upd H5 D (.lst (ys++[v]))) else N σ2 H4)
def zFC (caps:List (Option Nat))(wi:TI)(g:TG)(tt:TT)(te:TE):TE:=λσ H Q=>wi σ H λJ H1=>∀ D,H1 D=none->zBC J D g tt te (zBj caps σ) (upd H1 D (.lst [])) λH2=>Q (.ref D) H2
section
variable {X:Cx}{tg elt iter:Expr}{ifs:List Expr}{scope:Scope}{pos:Pos}
theorem zF5 {X':Cx}{fp:List Addr}{it D:Addr}{tn:Nat->Heap->Prop}{J:It}{g:TG}{tt:TT}{te:TE}{σ0:St}{H0:Hp}{s:Shared}{R:Result->Shared->Prop}{Qe:Hp->Prop}(hc:X'.calm=true)(hxe:X'.xe=λ_ _=>False)
  (T:Turn X'.prog X'.w X'.K tg J fp it tn) (hg:PG X' tg g) (ht:PIfs X' ifs tt) (he:PE X' elt te) (I:Inv X' [] σ0 H0 s) (hf:∀ b∈fp,FpOk X' [] H0 b) (st:tn 0 s.heap) (q:zBC J D g tt te σ0 H0 Qe)
  (hR:∀ s' σ' H',Inv X' [] σ' H' s'->Qe H'->R (.ok .next) s') :
  codeAny (model X'.prog X'.w) X'.A (.compLoop (.ListComp elt [⟨tg,iter,ifs,0⟩] scope pos) 0 (.ref it) (.ref D) X'.env) R s:=by
 obtain⟨W,⟨m0,w0⟩,turn⟩:=q
 have stat:∀ {H':Hp},(∀ b∈fp,H' b=none)->∀ b∈fp,FpOk X' [] H' b:=λhn b hb=>⟨hn b hb,(hf b hb).2⟩
 refine codeAny_loop rfl (λn s'=>∃ i σ' H',Inv X' [] σ' H' s'/\tn i s'.heap/\(∀ b∈fp,H' b=none)/\W i n σ' H') ?_ m0 ⟨0,σ0,H0,I,st,λb hb=>(hf b hb).1,w0⟩
 rintro n s3 ⟨i,σ3,H3,I3,st3,fr3,w3⟩
 show wpAny _ X'.A ((compTurn (.ListComp elt [⟨tg,iter,ifs,0⟩] scope pos) 0 (.ref it) (.ref D) X'.env).onRaise (λx=>do noteFrame x X'.env;theTreesLotGoes x)) _ _ s3
 refine wpAny_noted ?_
 rw[compTurn_list]
 have no:∀ {α:Type} {t:Sem α} {Q:α->Shared->Prop} {s':Shared} {E':Value->Shared->Prop},wpAny (model X'.prog X'.w) X'.A t Q X'.xe s'->wpAny (model X'.prog X'.w) X'.A t Q E' s':=λh=>wpAny_mono h (λ_ _ x=>x) λ_ _ x=>by rw[hxe] at x;exact x.elim
 refine wpAny_bind (wpAny_standAt ?_)
 rcases turn i n σ3 H3 w3 with ⟨stop,qn⟩ | ⟨go,N,hN,step⟩
 ·refine wpAny_bind (thn (T.done X' rfl rfl rfl hc i [] s3 σ3 H3 _ I3 (stat fr3) st3 stop) λr s4 ⟨hr,I4⟩=>?_)
  subst hr
  exact wpAny_pure (hR _ _ _ I4 qn)
 ·refine wpAny_bind (thn (T.item X' rfl rfl rfl hc i [] s3 σ3 H3 _ I3 (stat fr3) st3 go) λr s4 ⟨u,hr,h4⟩=>?_)
  subst hr
  refine wpAny_bind (thn h4 λ_ s5 ⟨x,H5,I5,r5,y5,st5,fr5⟩=>?_)
  have I5':=I5.pinned (stat fr5) (T.obj _ _ st5)
  have again:∀ {σ7:St} {H7:Hp} {s7:Shared},Inv X' ([]++zCi fp s5.heap) σ7 H7 s7->N σ7 H7->∃ m,m<n/\∃ i σ' H',Inv X' [] σ' H' s7/\tn i s7.heap/\(∀ b∈fp,H' b=none)/\W i m σ' H':=λ{σ7 H7 s7} I7 n7=>by
   obtain⟨m',hm,w7⟩:=hN σ7 H7 n7
   refine⟨m',hm,i+1,σ7,H7,I7.unpinned,T.keep _ _ _ st5 λb hb o e=>(I7.pin (b,o) (List.mem_append_right _ (List.mem_append_right _ (zAx hb e)))).1,λb hb=>?_,w7⟩
   obtain⟨o,e,d⟩:=T.obj _ _ st5 b hb
   exact(I7.pin (b,o) (List.mem_append_right _ (List.mem_append_right _ (zAx hb e)))).2.1
  refine wpAny_bind (thn (no (hg _ s5 σ3 H5 x u _ I5' r5 (step x H5 y5))) λ_ s6 ⟨σ6,H6,I6,q6⟩=>?_)
  refine wpAny_bind (thn (no (ht _ s6 σ6 H6 _ I6 q6)) λb s7 ⟨H7,I7,q7⟩=>?_)
  cases b with
  | false=>exact wpAny_pure ⟨rfl,again I7 q7⟩
  | true =>
   refine wpAny_bind (wpAny_bind (thn (no (he _ s7 σ6 H7 _ I7 q7)) λv s8 ⟨y,H8,I8,r8,q8⟩=>?_))
   obtain⟨ys,hD,hsz,q8⟩:=q8
   refine wpAny_bind (thn (no (zDS (X:=X') _ s8 σ6 H8 (.ref D) [y] (Value.ref D) [v] (λ_ H9=>N σ6 H9) I8 rfl (.cons r8 .nil) ⟨D,ys,y,rfl,rfl,hD,hsz,q8⟩)) λ_ s9 ⟨z,H9,I9,_,q9⟩=>?_)
   exact wpAny_pure (wpAny_pure ⟨rfl,again I9 q9⟩)
theorem zBY {N':List Str}{caps:List (Option Nat)}{N:List Str}{names names':List (Str×NameKind)}(h:zB7 N' caps N names names'=true):(∀ p∈names',p.2≠NameKind.cell)/\(∀ x,(x,NameKind.free)∈names'->names.lookup x=some .cell\/names.lookup x=some .free)/\∀ p∈names',p.2=.local->names'.lookup p.1=some .local:=by
 have h3:=List.all_eq_true.mp (Bool.and_eq_true_iff.mp h).2
 refine⟨λp hp=>?_,λx hx=>?_,λp hp hl=>?_⟩
 ·have:=h3 p hp
  simp only[Bool.and_eq_true,bne_iff_ne] at this
  exact this.1.1
 ·have:=h3 _ hx
  simp only[bne_self_eq_false,Bool.false_or,Bool.and_eq_true,Bool.or_eq_true,beq_iff_eq] at this
  exact this.1.2
 ·have:=h3 p hp
  rw[hl] at this
  simp only[bne_self_eq_false,Bool.false_or,Bool.and_eq_true,beq_iff_eq] at this
  exact this.2
theorem zCk {N':List Str}{caps:List (Option Nat)}{pins:List (Addr×Obj)}{σ:St}{H:Hp}{s:Shared}{J:It}{fp:List Addr}{it:Addr}{tn:Nat->Heap->Prop}{g:TG}{tt:TT}{te:TE}{cl:List (Str×Addr)}{RR:Value->Addr->Result->Shared->Prop}{Qe:Addr->Hp->Prop}
  (hc:X.calm=true) (hcap:zB7 N' caps X.N X.env.scope.names scope.names=true) (hkind:scope.kind=.function) (hC:Clo scope X.env cl)
  (hg:∀ C s0 H0 fp,PG (zAT X pins N' scope cl C s0 H0 fp) tg g) (ht:∀ C s0 H0 fp,PIfs (zAT X pins N' scope cl C s0 H0 fp) ifs tt) (he:∀ C s0 H0 fp,PE (zAT X pins N' scope cl C s0 H0 fp) elt te)
  (I:Inv X pins σ H s) (T:Turn X.prog X.w X.K tg J fp it tn) (st:tn 0 s.heap) (hf:∀ b∈fp,FpOk X pins H b) (q:∀ D,H D=none->zBC J D g tt te (zBj caps σ) (upd H D (.lst [])) (Qe D))
  (hR:∀ (D C:Addr) (s':Shared) (H':Hp),Inv X pins σ H' s'->Qe D H'->D≠C->(∃ o m,s'.heap.get? C=some o/\(∀ v,o.data≠.cell v)/\(∀ h2:Heap,h2.get? C=some o->h2.Ns C m))->H' C=none->s.heap.objs.size<=C->RR (.ref D) C (.ok .next) s') :
  wpAny (model X.prog X.w) X.A (newList []) (λacc s₃=>wpAny (model X.prog X.w) X.A (newFunctionEnv scope X.env.globals cl [] X.env.qual none .none (some X.env)) (λcenv s₄ =>
   codeAny (model X.prog X.w) X.A (.compStart (.ListComp elt [⟨tg,iter,ifs,0⟩] scope pos) 0 (.ref it) acc { cenv with scope:=relabel scope X.env }) (RR acc cenv.locals) s₄) X.xe s₃) X.xe s:=by
 refine wpAny_newObj_type (wpAny_newFunctionEnv (zBY hcap).1 (by intro y hy;simp at hy) (λh₁ hns₁ hsb₁=>?_) hkind)
 have hz:(s.heap.push { cls:=.type "list",data:=.seq #[] }).objs.size=s.heap.objs.size+1:=Heap.size_push ..
 have hns:h₁.Ns (s.heap.objs.size+1) λ_=>none:=by rw[<- hz];exact hns₁
 have hsb:Heap.SameBut (s.heap.objs.size+1) ((s.heap.push { cls:=.type "list",data:=.seq #[] }).push { cls:=.type "dict",data:=.dict #[] }) h₁:=by rw[<- hz];exact hsb₁
 have hfo:∀ b∈fp,∃ o,s.heap.get? b=some o:=λb hb=>let ⟨o,e,_⟩:=T.obj 0 _ st b hb;⟨o,e⟩
 have I1:=zFB (tk:=s.toks+([]:List (Str×Value)).length) I hf hfo hcap hkind hC hns hsb
 have hn:H s.heap.objs.size=none:=I.hok.fresh (Nat.le_refl _)
 have up:∀ b o,s.heap.get? b=some o->h₁.get? b=some o:=λb o e =>
  hsb.extBut b o (Nat.ne_of_lt (Nat.lt_succ_of_lt (Heap.lt_size e))) (Heap.get?_push_of_some _ (Heap.get?_push_of_some _ e))
 have st1:tn 0 h₁:=T.keep _ _ _ st λb _ o e=>up b o e
 have f1:∀ b∈fp,FpOk (zAT X pins N' scope cl (s.heap.objs.size+1) { s with heap:=s.heap.push { cls:=.type "list",data:=.seq #[] } } (upd H s.heap.objs.size (.lst [])) fp) [] (upd H s.heap.objs.size (.lst [])) b:=λb hb=>by
  obtain⟨a0,a1,a2,a3,a4,a5⟩:=hf b hb
  obtain⟨o,ho⟩:=hfo b hb
  have hlt:=Heap.lt_size ho
  refine⟨by rw[zAS (Nat.ne_of_lt hlt)];exact a0,Nat.ne_of_lt (Nat.lt_succ_of_lt hlt),λz=>?_,.inl hb,λx c e=>a4 x c (hC.sub x c e),λp hp=>a5 p (by simpa using hp)⟩
  rcases List.mem_cons.mp (I.stkSub b z) with z | z
  ·exact a1 z
  ·exact a2 z
 have loop:codeAny (model X.prog X.w) X.A (.compLoop (.ListComp elt [⟨tg,iter,ifs,0⟩] scope pos) 0 (.ref it) (.ref s.heap.objs.size) (compEnvC scope cl (s.heap.objs.size+1) X.env))
   (RR (.ref s.heap.objs.size) (s.heap.objs.size+1)) { s with heap:=h₁,toks:=s.toks+([]:List (Str×Value)).length }:=by
  refine zF5 (X':=zAT X pins N' scope cl (s.heap.objs.size+1) { s with heap:=s.heap.push { cls:=.type "list",data:=.seq #[] } } (upd H s.heap.objs.size (.lst [])) fp) hc rfl T (hg _ _ _ _) (ht _ _ _ _) (he _ _ _ _) I1 f1 st1 (q _ hn) λs' σ' H' J' qe=>?_
  have B:=zF4 I hf J'
  obtain⟨m,hnC,_⟩:=J'.loc
  obtain⟨o,es,ep,ho,hd,r⟩:=id hnC
  exact hR _ _ s' H' B qe (Nat.ne_of_lt (Nat.lt_succ_self _)) ⟨o,m,ho,(λv z=>by rw[hd] at z;cases z),λh2 e2=>⟨o,es,ep,e2,hd,r⟩⟩ J'.free (Nat.le_succ _)
 have fin:=codeAny_compStart_list loop (T.self _ _ _ _ _ st1 loop)
 have hz2:(s.heap.push { cls:=.type "list",dict:=none,data:=.seq ([]:List Value).toArray }).objs.size=s.heap.objs.size+1:=hz
 show codeAny _ _ (.compStart _ 0 _ _ { (newEnv scope (s.heap.push { cls:=.type "list",dict:=none,data:=.seq ([]:List Value).toArray }).objs.size X.env.globals cl X.env.qual none .none (some X.env) _) with scope:=relabel scope X.env }) (RR _ (s.heap.push { cls:=.type "list",dict:=none,data:=.seq ([]:List Value).toArray }).objs.size) _
 rw[hz2]
 exact fin
theorem zF6 {N':List Str}{caps:List (Option Nat)}{pins:List (Addr×Obj)}{σ:St}{H:Hp}{s:Shared}(I:Inv X pins σ H s)(hcap:zB7 N' caps X.N X.env.scope.names scope.names=true):∃ cl,Clo scope X.env cl :=
 zK6 λx hx=>I.ok.has x ((zBY hcap).2.1 x hx)
theorem zJM (N':List Str)(caps:List (Option Nat)){wi:TI}{g:TG}{tt:TT}{te:TE}(hc:X.calm=true)(hi:PI X tg iter wi)
  (hg:∀ pins cl C s0 H0 fp,PG (zAT X pins N' scope cl C s0 H0 fp) tg g) (ht:∀ pins cl C s0 H0 fp,PIfs (zAT X pins N' scope cl C s0 H0 fp) ifs tt) (he:∀ pins cl C s0 H0 fp,PE (zAT X pins N' scope cl C s0 H0 fp) elt te)
  (hcap:zB7 N' caps X.N X.env.scope.names scope.names=true:=by rfl) (hkind:scope.kind=.function:=by rfl) (hs:∀ x,foldedSetIterable iter X.env x=pure x:=by intro _;rfl) :
  PE X (.ListComp elt [⟨tg,iter,ifs,0⟩] scope pos) (zFC caps wi g tt te):=by
 intro pins s σ H Q I h
 obtain⟨cl,hC⟩:=zF6 I hcap
 rw[eval_ListComp]
 refine wpAny_comprehension_free (use:=none) rfl hs hC.eq hkind (zBY hcap).2.2 (thn (hi pins s σ H _ I h) λv s1 h1=>thn h1 λitv s2 h2=>?_)
 obtain⟨it,fp,tn,J,H2,e,I2,T,st2,f2,q2⟩:=h2
 subst e
 refine zCk (RR:=λacc C=>compPost (model X.prog X.w) X.A X.xe none (EP X pins σ Q) acc C) (Qe:=λD H'=>Q (.ref D) H') hc hcap hkind hC (hg pins cl) (ht pins cl) (he pins cl) I2 T st2 f2 q2 λD C s' H' I' q' hDC hCo hCn hCs=>?_
 obtain⟨o,m,ho,hd,hns⟩:=hCo
 refine⟨m,hns _ ho,λh' hsb=>⟨.ref D,H',?_,rfl,q'⟩⟩
 obtain⟨hp',g',d',t',os'⟩:=s'
 have hC0:X.s₀.heap.objs.size<=C:=Nat.le_trans I2.sz hCs
 exact I'.turned (t':=t') (it:=C) (λb o hb e=>hsb.extBut b o hb e) hCn (λz=>by
  have:=I2.lt;rw[<- z] at this;exact absurd (Nat.lt_of_lt_of_le this hCs) (Nat.lt_irrefl _)) (.inr hC0) (λx c e z=>by
  obtain⟨v,q⟩:=I2.cell x c e
  exact absurd (Nat.lt_of_lt_of_le q.lt (by rw[z];exact hCs)) (Nat.lt_irrefl _)) (λp hp z=>by
  exact absurd (Nat.lt_of_lt_of_le (Heap.lt_size (I2.pin p hp).1) (by rw[z];exact hCs)) (Nat.lt_irrefl _))
theorem zJN (N':List Str)(caps:List (Option Nat)){i:Nat}{y:Str}{py spos:Pos}{wi:TI}{g:TG}{tt:TT}{te:TE}(hc:X.calm=true)(hN:X.N.Nodup)(hy:X.N[i]?=some y)(hl:Loc X.env.scope y)(hi:PI X tg iter wi)
  (hg:∀ pins cl C s0 H0 fp,PG (zAT X pins N' scope cl C s0 H0 fp) tg g) (ht:∀ pins cl C s0 H0 fp,PIfs (zAT X pins N' scope cl C s0 H0 fp) ifs tt) (he:∀ pins cl C s0 H0 fp,PE (zAT X pins N' scope cl C s0 H0 fp) elt te)
  (hsw:swapsWith (.ListComp elt [⟨tg,iter,ifs,0⟩] scope pos) (some (.Name y py)) spos.line X.env=pure true:=by rfl)
  (hcap:zB7 N' caps X.N X.env.scope.names scope.names=true:=by rfl) (hkind:scope.kind=.function:=by rfl) (hs:∀ x,foldedSetIterable iter X.env x=pure x:=by intro _;rfl)
  (hf:X.fn y=true\/X.env.scope.names.lookup y=some .local:=by first | exact .inl rfl | exact .inr rfl | assumption) :
  PS X (.Assign [.Name y py] (.ListComp elt [⟨tg,iter,ifs,0⟩] scope pos) spos) (tAsg (zFC caps wi g tt te) (zBg i)):=by
 intro pins s σ H D0 I h
 obtain⟨cl,hC⟩:=zF6 I hcap
 rw[exec_Assign_Name_used _ _ _ _ hsw]
 refine wpAny_bind (wpAny_standAt (wpAny_bind ?_))
 show wpAny _ X.A (do let _ <- comprehension (.ListComp elt [⟨tg,iter,ifs,0⟩] scope pos) scope X.env _ (newList []) false (eval iter X.env) (some (assign (.Name y py) X.env))) _ _ s
 refine wpAny_bind (wpAny_mono (wpAny_comprehension_free (use:=some (assign (.Name y py) X.env)) (Q:=λ_ s'=>SP X pins D0 .next s') rfl hs hC.eq hkind (zBY hcap).2.2
  (thn (hi pins s σ H _ I h) λv s1 h1=>thn h1 λitv s2 h2=>?_)) (λ_ s' hq=>wpAny_pure (wpAny_pure hq)) λ_ _ e=>e)
 obtain⟨it,fp,tn,J,H2,e,I2,T,st2,f2,q2⟩:=h2
 subst e
 refine zCk (RR:=λacc C=>compPost (model X.prog X.w) X.A X.xe (some (assign (.Name y py) X.env)) (λ_ s'=>SP X pins D0 .next s') acc C) (Qe:=λD H'=>zBg i (.ref D) σ H' D0.nx) hc hcap hkind hC (hg pins cl) (ht pins cl) (he pins cl) I2 T st2 f2 q2 λD C s' H' I' q' hDC hCo hCn hCs=>?_
 obtain⟨o,m,ho,hd,hns⟩:=hCo
 have hCL:C≠X.env.locals:=λz=>by
  have:=I2.lt;rw[<- z] at this;exact absurd (Nat.lt_of_lt_of_le this hCs) (Nat.lt_irrefl _)
 have hCc:∀ x c,X.env.cells.lookup x=some c->c≠C:=λx c e z=>by
  obtain⟨v,q⟩:=I2.cell x c e
  exact absurd (Nat.lt_of_lt_of_le q.lt (by rw[z];exact hCs)) (Nat.lt_irrefl _)
 have hCp:∀ p∈X.pn++pins,p.1≠C:=λp hp z=>absurd (Nat.lt_of_lt_of_le (Heap.lt_size (I2.pin p hp).1) (by rw[z];exact hCs)) (Nat.lt_irrefl _)
 have hC0:X.s₀.heap.objs.size<=C:=Nat.le_trans I2.sz hCs
 have hCf:C∉X.fs:=I2.nofs hCs
 have I'':Inv X (pins++[(C,o)]) σ H' s':=I'.pins_of λp hp=>(List.mem_append.mp hp).elim (λz=>I'.pin p (List.mem_append_right _ z)) λz=>by
  have e:p=(C,o):=by simpa using z
  subst e
  exact⟨ho,hCn,hCL,hCf,hd⟩
 show wpAny _ X.A (assign (.Name y py) X.env (.ref D)) _ _ _
 refine wpAny_assign_Name (zCH I'' hN hy hl (v:=.ref D) rfl (λs'' J'=>?_) hf)
 have hCo2:=(J'.pin (C,o) (List.mem_append_right _ (List.mem_append_right _ (by simp))))
 refine⟨m,hns _ hCo2.1,λh' hsb=>?_⟩
 obtain⟨hp',g',d',t',os'⟩:=s''
 exact⟨_,H',J'.unpinned.turned (t':=t') (it:=C) (λb o hb e=>hsb.extBut b o hb e) hCo2.2.1 hCL (.inr hC0) hCc hCp,q'⟩
end
end L2
namespace L2
open PySem PySem.Spec PyProof.Rows
section
variable {X:Cx}
def isTy (t:String)(c:String):Bool:=t == c || (t == "bool"&&c == "int")
theorem zK7 {K:W.Frag}(t c:String)(ht:t∈["NoneType","bool","int","str","list","tuple","dict"])(hc:c∈["bool","int","str","list","tuple","dict"]):W.kitOne K (.type t) (.type c)=some (isTy t c):=by
 simp only[List.mem_cons,List.not_mem_nil,or_false] at ht hc
 rcases ht with rfl | rfl | rfl | rfl | rfl | rfl | rfl<;>rcases hc with rfl | rfl | rfl | rfl | rfl | rfl<;>rfl
theorem call_isinstance:CallR X (.builtin "isinstance") (λxs H Q=>∃ x t c,xs=[x,.ty c]/\TyOf X.K H x (.type t)/\t∈["NoneType","bool","int","str","list","tuple","dict"]/\c∈["bool","int","str","list","tuple","dict"]/\Q (.bl (isTy t c)) H):=by
 intro pins s σ H xs us Q I r h
 obtain⟨x,t,c,rfl,ty,ht,hc,q⟩:=h
 obtain⟨u,w',rfl,rx,ry⟩:=zI6 r
 cases ry
 exact zFo I rx ty (zK7 t c ht hc) λtk=>⟨.bl _,H,I.tok tk,rfl,q⟩
theorem zK8 {x:Str}{T:String}{pos:Pos}(hg:Gl X x)(hm:X.mg x=none)(hv:bootBuiltins x=some (.type T))(hn:x≠"__name__":=by decide)(hd:(x == ("__debug__":Str))=false:=by decide):PE X (.Name x pos) (tC (.ty T)) :=
 zIw hg hm hv rfl hn hd
end
end L2
namespace L2
open PySem PySem.Spec PyProof.Rows
section
variable {X:Cx}
theorem zCF:∀ (ns ms:List Int),ns.length=ms.length->((List.range ns.length).all λj=>decide (ns.getD j 0=ms.getD j 0))=decide (ns=ms):=by
 intro ns ms hl
 by_cases h:ns=ms
 ·subst h;simp
 ·rw[decide_eq_false h]
  cases hc:((List.range ns.length).all λj=>decide (ns.getD j 0=ms.getD j 0)) with
  | false=>rfl
  | true =>
   exfalso
   apply h
   rw[List.all_eq_true] at hc
   apply List.ext_getElem hl
   intro i h1 h2
   have:=hc i (List.mem_range.mpr h1)
   have e:=of_decide_eq_true this
   rw[List.getD_eq_getElem?_getD,List.getD_eq_getElem?_getD,List.getElem?_eq_getElem h1,List.getElem?_eq_getElem h2] at e
   exact e
theorem zCx {ns:List Int}:∀ {us:List Value},IntsAre us ns->∀ (j:Nat) (h:j<us.toArray.size),∃ t,us.toArray[j]=.int (ns.getD j 0) t:=by
 induction ns with
 | nil=>intro us h j hj;cases h;simp at hj
 | cons n ns ih =>
  intro us h j hj
  cases h with
  | cons _ t h =>
   cases j with
   | zero=>exact⟨t,by simp⟩
   | succ j =>
    obtain⟨t',e⟩:=ih h j (by simpa using hj)
    exact⟨t',by simpa using e⟩
def rEqI (K:W.Frag)(neg:Bool):R2:=λx y H Q=>∃ (p q:Addr) (ns ms:List Int),x=.ref p/\y=.ref q/\SqL K H p (ns.map V.int)/\SqL K H q (ms.map V.int)/\Q (.bl (if neg then !decide (ns=ms) else decide (ns=ms))) H
theorem zK9 {k:Nat}(hr:Room k X.A):OpR X (compareOp .Eq) (rEqI X.K false):=by
 intro pins s σ H x y v u Q I rx ry h
 obtain⟨p,q,ns,ms,rfl,rfl,h1,h2,qq⟩:=h
 cases rx;cases ry
 obtain⟨its,r1,p1,_⟩:=I.list h1
 obtain⟨its2,r2,p2,_⟩:=I.list h2
 have i1:=zAn r1
 have i2:=zAn r2
 have l1:=r1.length
 have l2:=r2.length
 rw[List.length_map] at l1 l2
 by_cases hl:ns.length=ms.length
 ·refine SeqAt.eq_listAt (e:=λj=>decide (ns.getD j 0=ms.getD j 0)) p1.isList p2.isList (by simp only[List.size_toArray];omega) hr.units0 (λj a1 a2=>?_) ?_
  ·obtain⟨t1,e1⟩:=zCx i1 j a1
   obtain⟨t2,e2⟩:=zCx i2 j a2
   rw[e1,e2]
   have:=SeqAt.EqAt.int_int (A:=X.A.in1) (s:=s) (ns.getD j 0) t1 (ms.getD j 0) t2
   rw[Bool.beq_eq_decide_eq] at this
   exact this
  ·rw[show its.toArray.size=ns.length by simp only[List.size_toArray];omega,zCF ns ms hl]
   exact⟨.bl _,H,I,rfl,qq⟩
 ·refine SeqAt.eq_list_lengthsAt p1.isList p2.isList (by simp only[List.size_toArray,bne_iff_ne];omega) hr.units0 ⟨.bl false,H,I,rfl,?_⟩
  have:decide (ns=ms)=false:=decide_eq_false λe=>hl (by rw[e])
  rw[this] at qq
  exact qq
def Itd (hi:Int)(n:Nat):It:=⟨λi _=>i<n,λi H x H'=>H'=H/\x=.int (hi-i),λi _=>n<=i⟩
theorem zF7 {P:Program}{w:World}{K:PySem.W.Frag}{tg:Expr}(it:Addr)(hi:Int)(n:Nat):Turn P w K tg (Itd hi n) [it] it (λi h=>IsRangeIter h it (hi+(i:Nat)*-1) ((n:Int)-(i:Nat)) (-1)) where
 mem:=by simp
 obj:=λi h st b hb=>by
  have e:b=it:=by simpa using hb
  subst e
  exact⟨_,st,λv z=>by
   have z':Data.fields _=Data.cell v:=z
   cases z'⟩
 keep:=λi h h' st k=>k it (by simp) _ st
 item:=by
  intro X hP hw hK hc i pins s σ H E I hf st hg
  subst hP hw hK
  obtain⟨f0,f1,f2,f3,f4,f5⟩:=hf it (by simp)
  have W:=Walks.range (prog:=X.prog) (w:=X.w) (I.ok.hd hc) it hi (-1) n
  refine W.item i s _ _ hg st λv h' tk hv st' kk=>?_
  obtain⟨t,rfl⟩:=hv
  have I1:Inv X pins σ H { s with heap:=h',toks:=tk }:=I.turned (λb o hb e=>kk b o (by simpa using hb) e) f0 f1 f3 f4 f5
  refine⟨_,rfl,zHA (s:={ s with heap:=h',toks:=tk }) (n:="range_iterator") st' rfl rfl (by decide) ⟨.int (hi-i),H,I1,⟨t,?_⟩,⟨rfl,rfl⟩,st',λb hb=>(hf b hb).1⟩⟩
  congr 1;omega
 done:=by
  intro X hP hw hK hc i pins s σ H E I hf st hg
  subst hP hw hK
  obtain⟨f0,f1,f2,f3,f4,f5⟩:=hf it (by simp)
  exact wpAny_pyNext_range_end (I.ok.hd hc) st (by have:n<=i:=hg;omega) λh' eb=>⟨rfl,I.turned (t':=s.toks) (λb o hb e=>eb b o hb e) f0 f1 f3 f4 f5⟩
 self:=λ_ _ _ _ _ st h=>wpAny_pyIter_rangeiter st h
theorem zBi (a b:Int):Builtin.Range.rangeSize a b (-1)=if b<a then a-b else 0:=by
 unfold Builtin.Range.rangeSize
 simp only[show ¬ ((-1:Int) > 0) by decide,if_false]
 rw[show (- -1:Int)=1 by decide,Int.ediv_one]
 split<;>omega
theorem zFD {a b:Int}(ha:-(2 ^ 61)<=a)(ha':a<2 ^ 61)(hb:-(2 ^ 61)<=b)(hb':b<2 ^ 61):Builtin.Range.small a b (-1)=true:=by
 unfold Builtin.Range.small
 rw[zBi]
 simp only[Builtin.Range.rangeFitsLong,Bool.and_eq_true,Bool.or_eq_true,decide_eq_true_eq,beq_iff_eq,show ¬ ((-1:Int) > 0) by decide,if_false]
 split<;>omega
def zMS (ta:TA):TI:=λσ H R=>ta σ H λvs H1=>∃ i j:Int,vs=[.int i,.int j,.int (-1)]/\(-(2 ^ 61)<=i/\i<2 ^ 61/\-(2 ^ 61)<=j/\j<2 ^ 61)/\R (Itd i (i-j).toNat) H1
theorem zJO {tg a b c:Expr}{ta:TA}{p pos:Pos}(hg:Gl X "range")(hm:X.mg "range"=none)(ha:PA X [a,b,c] ta)(hs:starEach [a,b,c] X.env=[(false,eval a X.env),(false,eval b X.env),(false,eval c X.env)]:=by rfl)(hs2:starEach [b,c] X.env=[(false,eval b X.env),(false,eval c X.env)]:=by rfl) :
  PI X tg (.Call (.Name "range" p) [a,b,c] [] pos) (zMS ta):=by
 intro pins s σ H R I h
 refine Call_ (zBh I hg hm boot_range (PyProof.Rows.callWith_type1 (thn (ha pos pins s σ H _ I h) λus s1 ⟨vs,H1,I1,r1,q1⟩=>?_) (by rw[hs,hs2]) (by rw[hs2];rfl)))
 obtain⟨i,j,e,⟨q1,q2,q3,q4⟩,q⟩:=q1
 subst e
 cases r1 with
 | cons r rr =>
  cases rr with
  | cons r' rr =>
   cases rr with
   | cons r'' rr =>
    cases rr
    obtain⟨t,rfl⟩:=r
    obtain⟨t',rfl⟩:=r'
    obtain⟨t'',rfl⟩:=r''
    refine call_range_3 (by decide) ?_ (.inl (PyProof.noPylong_small (by decide)))
    refine wpAny_pyIter_range (IsRange.new ..) (zFD q1 q2 q3 q4) ?_
    have I2:Inv X pins σ H1 { s1 with heap:=s1.heap.push { cls:=.type "range",data:=.fields #[.int i t,.int j t',.int (-1) t''] },toks:=s1.toks }:=I1.kept λb o e=>Heap.get?_push_of_some _ e
    refine⟨(s1.heap.push { cls:=.type "range",data:=.fields #[.int i t,.int j t',.int (-1) t''] }).objs.size,[(s1.heap.push { cls:=.type "range",data:=.fields #[.int i t,.int j t',.int (-1) t''] }).objs.size],_,_,H1,rfl,
     I2.kept (t':=s1.toks) λb o e=>Heap.get?_push_of_some _ e,zF7 _ i (i-j).toNat,?_,λb hb=>?_,q⟩
    ·have e1:i+((0:Nat):Int)*-1=i:=by simp
     have e2:(((i-j).toNat:Nat):Int)-((0:Nat):Int)=Builtin.Range.rangeSize i j (-1):=by rw[zBi];split<;>omega
     show IsRangeIter _ _ (i+((0:Nat):Int)*-1) ((((i-j).toNat:Nat):Int)-((0:Nat):Int)) (-1)
     rw[e1,e2]
     exact Heap.get?_push_size _ rfl
    ·have e:b=(s1.heap.push { cls:=.type "range",data:=.fields #[.int i t,.int j t',.int (-1) t''] }).objs.size:=by simpa using hb
     subst e
     exact I2.fpOk (Nat.le_refl _) (I2.hok.fresh (Nat.le_refl _))
theorem zCy {hi:Int}{n:Nat}{g:TG}{tb:TS}{D:Ends}{σ:St}{H:Hp}(Pv:Nat->St->Hp->Prop)(h0:Pv 0 σ H)
  (hs:∀ i σ H,i<n->Pv i σ H->g (.int (hi-i)) σ H λσ2 H2=>tb { D with nx:=Pv (i+1),ct:=Pv (i+1),bk:=D.nx } σ2 H2) (hd:∀ σ H,Pv n σ H->D.nx σ H) :
  ∃ W:Nat->Nat->St->Hp->Prop,(∃ m,W 0 m σ H)/\∀ i m σ H,W i m σ H ->
   ((Itd hi n).stop i H/\D.nx σ H)\/((Itd hi n).go i H/\∃ N:St->Hp->Prop,(∀ σ' H',N σ' H'->∃ m',m'<m/\W (i+1) m' σ' H')/\∀ x H',(Itd hi n).yld i H x H'->g x σ H' λσ2 H2=>tb { D with nx:=N,ct:=N,bk:=D.nx } σ2 H2):=by
 refine⟨λi m σ H=>m=n-i/\i<=n/\Pv i σ H,⟨n,by simp,Nat.zero_le _,h0⟩,?_⟩
 rintro i m σ H ⟨rfl,hi,p⟩
 by_cases hlt:i<n
 ·refine .inr ⟨hlt,Pv (i+1),λσ' H' p'=>⟨n-(i+1),by omega,rfl,hlt,p'⟩,λx H' y=>?_⟩
  obtain⟨e,y⟩:=y
  subst e y
  exact hs i σ _ hlt p
 ·have e:i=n:=by omega
  subst e
  exact .inl ⟨Nat.le_refl _,hd σ H p⟩
theorem zFE {lo:Int}{n:Nat}{D:Addr}{g:TG}{tt:TT}{te:TE}{σ0:St}{H0:Hp}{Q:Hp->Prop}(Pv:Nat->St->Hp->Prop)(h0:Pv 0 σ0 H0)
  (hs:∀ i σ H,i<n->Pv i σ H->g (.int (lo+i)) σ H λσ2 H3=>tt σ2 H3 λb H4=>if b=true then te σ2 H4 λv H5=>∃ ys,H5 D=some (.lst ys)/\ys.length<sizeLine/\Pv (i+1) σ2 (upd H5 D (.lst (ys++[v]))) else Pv (i+1) σ2 H4)
  (hd:∀ σ H,Pv n σ H->Q H):zBC (Itr lo n) D g tt te σ0 H0 Q:=by
 refine⟨λi m σ H=>m=n-i/\i<=n/\Pv i σ H,⟨n,by simp,Nat.zero_le _,h0⟩,?_⟩
 rintro i m σ H ⟨rfl,hi,p⟩
 by_cases hlt:i<n
 ·refine .inr ⟨hlt,Pv (i+1),λσ' H' p'=>⟨n-(i+1),by omega,rfl,hlt,p'⟩,λx H' y=>?_⟩
  obtain⟨e,y⟩:=y
  subst e y
  exact hs i σ _ hlt p
 ·have e:i=n:=by omega
  subst e
  exact .inl ⟨Nat.le_refl _,hd σ H p⟩
theorem zF8 {K:W.Frag}{a:Addr}{xs:List V}{D:Addr}{g:TG}{tt:TT}{te:TE}{σ0:St}{H0:Hp}{Q:Hp->Prop}(Pv:Nat->St->Hp->Prop)(h0:Pv 0 σ0 H0)(hl:∀ i σ H,i<=xs.length->Pv i σ H->SqL K H a xs)
  (hs:∀ i x σ H,xs[i]?=some x->Pv i σ H->g x σ H λσ2 H3=>tt σ2 H3 λb H4=>if b=true then te σ2 H4 λv H5=>∃ ys,H5 D=some (.lst ys)/\ys.length<sizeLine/\Pv (i+1) σ2 (upd H5 D (.lst (ys++[v]))) else Pv (i+1) σ2 H4)
  (hd:∀ σ H,Pv xs.length σ H->Q H):zBC (Itl K a) D g tt te σ0 H0 Q:=by
 refine⟨λi m σ H=>m=xs.length-i/\i<=xs.length/\Pv i σ H,⟨xs.length,by simp,Nat.zero_le _,h0⟩,?_⟩
 rintro i m σ H ⟨rfl,hi,p⟩
 have q:=hl i σ H hi p
 by_cases hlt:i<xs.length
 ·refine .inr ⟨⟨xs,xs[i],q,by simp[hlt]⟩,Pv (i+1),λσ' H' p'=>⟨xs.length-(i+1),by omega,rfl,hlt,p'⟩,λx H' y=>?_⟩
  obtain⟨e,y⟩:=y
  subst e
  exact hs i x σ _ (y xs q) p
 ·have e:i=xs.length:=by omega
  subst e
  exact .inl ⟨⟨xs,q,Nat.le_refl _⟩,hd σ H p⟩
end
end L2
namespace L2
open PySem PySem.Spec PyProof.Rows
def Ite (K : PySem.W.Frag) (a : Addr) : It :=
  ⟨fun i H => ∃ xs x, SqL K H a xs ∧ xs[i]? = some x,
   fun i H x H' => ∃ (T : Addr) (v : V), H T = none ∧ x = .ref T ∧ H' = upd H T (.tup [.int i, v]) ∧ ∀ xs, SqL K H a xs → xs[i]? = some v,
   fun i H => ∃ xs, SqL K H a xs ∧ xs.length ≤ i⟩
theorem zF9 {P:Program}{w:World}{K:W.Frag}{elts:List Expr}{x1:Nat}{pos:Pos}(a e it:Addr)(hne:e≠it) :
  Turn P w K (.Tuple elts x1 pos) (Ite K a) [e,it] e (λi h=>(∃ old,IsEnum h e it i old)/\h.IsListIter it a i) where
 mem:=by simp
 obj:=λi h st b hb=>by
  rcases List.mem_cons.mp hb with rfl | hb
  ·obtain⟨⟨old,q⟩,_⟩:=st
   exact⟨_,q,λv z=>by
    have z':Data.fields _=Data.cell v:=z
    cases z'⟩
  ·have e':b=it:=by simpa using hb
   subst e'
   obtain⟨_,o,q,c,d⟩:=st
   exact⟨o,q,λv z=>by rw[d] at z;cases z⟩
 keep:=λi h h' st k=>by
  obtain⟨⟨old,q⟩,st⟩:=st
  exact⟨⟨old,k e (by simp) _ q⟩,st.at λo e=>k it (by simp) o e⟩
 item:=by
  intro X hP hw hK hc i pins s σ H E I hf st hg
  subst hP hw hK
  obtain⟨⟨old,he⟩,hit⟩:=st
  obtain⟨xs,x,hq,hx⟩:=hg
  obtain⟨its,rv,p,hz⟩:=I.list hq
  obtain⟨u,hu,ru⟩:=rv.get hx
  obtain⟨f0,f1,f2,f3,f4,f5⟩:=hf e (by simp)
  obtain⟨g0,g1,g2,g3,g4,g5⟩:=hf it (by simp)
  refine wpAny_pyNext_enum_item he hit p.isList (x:=u) (by simpa using hu) hne λh₁ heo hit₁ ht₁ hz₁ hk₁=>?_
  refine⟨_,rfl,wpAny_letOwnedTupleGo_enum heo λh₂ he₂ hs₂=>?_⟩
  replace hs₂:Heap.SameBut e h₁ h₂:=hs₂
  have hel:e<s.heap.objs.size:=Heap.lt_size he
  have hT:H s.heap.objs.size=none:=I.hok.fresh (Nat.le_refl _)
  have ht₂:h₂.get? s.heap.objs.size=some { cls:=.type "tuple",data:=.seq #[.int i s.toks,u] }:=(hs₂.2 _ (Nat.ne_of_gt hel)).trans ht₁
  have kk:∀ b o,b≠e->b≠it->s.heap.get? b=some o->h₂.get? b=some o:=λb o h1 h2 q=>(hs₂.2 b h1).trans (hk₁ b o h1 h2 q)
  have nT:∀ b o,s.heap.get? b=some o->b≠s.heap.objs.size:=λb o q=>Nat.ne_of_lt (Heap.lt_size q)
  have nch:∀ b,b∉[e,it]->b≠e/\b≠it:=λb hb=>⟨λz=>hb (by simp[z]),λz=>hb (by simp[z])⟩
  have nE:∀ b o,H b=some o->b≠e/\b≠it:=λb o q=>⟨λz=>(by rw[z,f0] at q;cases q),λz=>(by rw[z,g0] at q;cases q)⟩
  have I1:Inv X pins σ (upd H s.heap.objs.size (.tup [.int i,x])) { s with heap:=h₂,gens:=s.gens,drawn:=s.drawn,toks:=s.toks+1 }:=by
   refine I.step (ch:=[e,it]) (λb hb=>?_) (λb o _ _ hc q _=>kk b o (nch b hc).1 (nch b hc).2 q) (λb o _ _ hc q _=>⟨o.slots,kk b o (nch b hc).1 (nch b hc).2 q⟩) (λb o _ q n=>by rw[zAS (nT b o q)];exact n)
    (λb o hc q=>⟨o,kk b o (nch b hc).1 (nch b hc).2 q⟩) (λb ys q=>by rw[zAS (zAK q hT)];exact q) (λb o z q=>by rw[zAS (zAK q hT)];exact q) (λb ps q=>⟨#[],by rw[zAS (zAK q hT),q];simp⟩) (λm hm=>?_) (λb z q=>?_) I.bare
   ·rcases List.mem_cons.mp hb with rfl | hb
    ·exact⟨f3,f1,f4,f5⟩
    ·have e':b=it:=by simpa using hb
     subst e'
     exact⟨g3,g1,g4,g5⟩
   ·obtain⟨o,es,ep,ho,r⟩:=hm
    exact⟨o,es,ep,kk _ o (Ne.symm f1) (Ne.symm g1) ho,r⟩
   ·by_cases hb:b=s.heap.objs.size
    ·subst hb
     rw[zAP] at q
     cases q
     exact⟨(by show 2<=sizeLine;rw[sizeLine_eq];decide),[.int i s.toks,u],.cons ⟨_,rfl⟩ (.cons ru .nil),_,ht₂,rfl,0,rfl⟩
    ·rw[zAS hb] at q
     refine(I.hok b z q).stay (λc v hc q'=>?_) (λc q'=>by rw[zAS (zAK q' hT)];exact q') λc ys q'=>by rw[zAS (zAK q' hT)];exact q'
     rcases hc with rfl | hc
     ·exact kk c v (nE c z q).1 (nE c z q).2 q'
     ·exact kk c v (nE c _ hc).1 (nE c _ hc).2 q'
  refine⟨.ref s.heap.objs.size,_,I1,rfl,⟨s.heap.objs.size,x,hT,rfl,rfl,λys hy=>by rw[I.list_inj hy hq];exact hx⟩,⟨⟨u,?_⟩,?_⟩,λb hb=>?_⟩
  ·have:((i+1:Nat):Int)=(i:Int)+1:=by push_cast;rfl
   rw[this];exact he₂
  ·exact hit₁.extBut hs₂.extBut (Ne.symm hne)
  ·have hbl:b<s.heap.objs.size:=by
    rcases List.mem_cons.mp hb with rfl | hb
    ·exact hel
    ·have e':b=it:=by simpa using hb
     subst e'
     obtain⟨o,q,_⟩:=hit
     exact Heap.lt_size q
   rw[zAS (Nat.ne_of_lt hbl)]
   exact(hf b hb).1
 done:=by
  intro X hP hw hK hc i pins s σ H E I hf st hg
  subst hP hw hK
  obtain⟨⟨old,he⟩,hit⟩:=st
  obtain⟨xs,hq,hx⟩:=hg
  obtain⟨its,rv,p,hz⟩:=I.list hq
  obtain⟨g0,g1,g2,g3,g4,g5⟩:=hf it (by simp)
  have hl:=rv.length
  exact wpAny_pyNext_enum_end (I.ok.hd hc) he hit p.isList (by simp;omega) λh' eb=>⟨rfl,I.turned (t':=s.toks) (λb o hb e=>eb b o hb e) g0 g1 g3 g4 g5⟩
 self:=λA i s Q E st h=>by
  obtain⟨⟨old,he⟩,_⟩:=st
  exact wpAny_pyIter_enum he h
section
variable {X:Cx}
def zMT (K:W.Frag)(ta:TA):TI:=λσ H R=>ta σ H λvs H1=>∃ a,vs=[.ref a]/\(∃ xs,SqL K H1 a xs)/\R (Ite K a) H1
theorem zDV:bootBuiltins "enumerate"=some (.type "enumerate"):=by decide +kernel
theorem zJP {elts:List Expr}{x1:Nat}{tpos:Pos}{l:Expr}{ta:TA}{p pos:Pos}(hg:Gl X "enumerate")(hm:X.mg "enumerate"=none)(ha:PA X [l] ta)(hs:starEach [l] X.env=[(false,eval l X.env)]:=by rfl):PI X (.Tuple elts x1 tpos) (.Call (.Name "enumerate" p) [l] [] pos) (zMT X.K ta):=by
 intro pins s σ H R I h
 refine Call_ (zBh I hg hm zDV (PyProof.Rows.callWith_type1 (thn (ha pos pins s σ H _ I h) λus s1 ⟨vs,H1,I1,r1,q1⟩=>?_) hs rfl))
 obtain⟨a,e,⟨xs,hxs⟩,q⟩:=q1
 subst e
 obtain⟨u,rfl,ru⟩:=zCO r1
 cases ru
 obtain⟨its,rv,pl,hz⟩:=I1.list hxs
 refine call_enumerate_list pl.isList λh' he hit hsz hk=>?_
 have I2:Inv X pins σ H1 { s1 with heap:=h' }:=I1.kept (t':=s1.toks) hk
 refine wpAny_pyIter_enum he ⟨s1.heap.objs.size+1,[s1.heap.objs.size+1,s1.heap.objs.size],_,Ite X.K a,H1,rfl,I2,zF9 a _ _ (Nat.ne_of_gt (Nat.lt_succ_self _)),⟨⟨_,he⟩,hit⟩,λb hb=>?_,q⟩
 rcases List.mem_cons.mp hb with rfl | hb
 ·exact I1.fpOk (Nat.le_succ _) (I1.hok.fresh (Nat.le_succ _))
 ·have e':b=s1.heap.objs.size:=by simpa using hb
  subst e'
  exact I1.fpOk (Nat.le_refl _) (I1.hok.fresh (Nat.le_refl _))
theorem zHR {K:PySem.W.Frag}{a:Addr}{xs:List V}{g:TG}{tb:TS}{D:Ends}{σ:St}{H:Hp}(Pv:Nat->St->Hp->Prop)(h0:Pv 0 σ H)(hl:∀ i σ H,i<=xs.length->Pv i σ H->SqL K H a xs)
  (hs:∀ i x σ H T,xs[i]?=some x->Pv i σ H->H T=none->g (.ref T) σ (upd H T (.tup [.int i,x])) λσ2 H2=>tb { D with nx:=Pv (i+1),ct:=Pv (i+1),bk:=D.nx } σ2 H2) (hd:∀ σ H,Pv xs.length σ H->D.nx σ H) :
  ∃ W:Nat->Nat->St->Hp->Prop,(∃ m,W 0 m σ H)/\∀ i m σ H,W i m σ H ->
   ((Ite K a).stop i H/\D.nx σ H)\/((Ite K a).go i H/\∃ N:St->Hp->Prop,(∀ σ' H',N σ' H'->∃ m',m'<m/\W (i+1) m' σ' H')/\∀ x H',(Ite K a).yld i H x H'->g x σ H' λσ2 H2=>tb { D with nx:=N,ct:=N,bk:=D.nx } σ2 H2):=by
 refine⟨λi m σ H=>m=xs.length-i/\i<=xs.length/\Pv i σ H,⟨xs.length,by simp,Nat.zero_le _,h0⟩,?_⟩
 rintro i m σ H ⟨rfl,hi,p⟩
 have q:=hl i σ H hi p
 by_cases hlt:i<xs.length
 ·refine .inr ⟨⟨xs,xs[i],q,by simp[hlt]⟩,Pv (i+1),λσ' H' p'=>⟨xs.length-(i+1),by omega,rfl,hlt,p'⟩,λx H' y=>?_⟩
  obtain⟨T,v,hT,rfl,rfl,y⟩:=y
  exact hs i v σ H T (y xs q) p hT
 ·have e:i=xs.length:=by omega
  subst e
  exact .inl ⟨⟨xs,q,Nat.le_refl _⟩,hd σ H p⟩
end
end L2
namespace L2
open PySem PySem.Spec PyProof.Rows
section
variable {prog:Program}{w:World}{A:Around}{E:Value->Shared->Prop}{s:Shared}
def EnX (h:Heap)(e it:Addr)(i:Int)(old:Value)(a:Addr)(f:Bool):Prop :=
 h.get? e=some { cls:=.type "enumerate",dict:=none,data:=.fields #[rawInt a,.bool f,.ref it,rawInt i,.none,old],slots:=#[] }
theorem fld {e:Addr}{vs:Array Value}{n:Nat}{x:Value}{Q:Value->Shared->Prop}(he:s.heap.get? e=some { cls:=.type "enumerate",dict:=none,data:=.fields vs,slots:=#[] })(hx:vs[n]?=some x)(h:Q x s) :
  wpAny (model prog w) A (field (.ref e) n) Q E s:=wpAny_field he rfl hx h
theorem zHS {e it l a:Addr}{i:Nat}{items:Array Value}{x old:Value}{f:Bool}{oa:Obj}{Q:Option Value->Shared->Prop}(he:EnX s.heap e it i old a f)(ha:s.heap.get? a=some oa)(hae:a≠e)(hai:a≠it)
  (hit:s.heap.IsListIter it l i) (hl:s.heap.IsList l items) (hx:items[i]?=some x) (hne:e≠it)
  (hQ:∀ h',EnX h' e it ((i:Int)+1) old a true->h'.IsListIter it l (i+1)->h'.get? s.heap.objs.size=some { cls:=.type "tuple",data:=.seq #[.int i s.toks,x] }->h'.objs.size=s.heap.objs.size+1 ->
   (∀ b o,b≠e->b≠it->s.heap.get? b=some o->h'.get? b=some o)->Q (some (.ref s.heap.objs.size)) { s with heap:=h',toks:=s.toks+1 }) :
  wpAny (model prog w) A (pyNext (.ref e)) Q E s:=by
 obtain⟨hp,gg,dd,tk,oo⟩:=s
 have ty:Shared.TypeIs ⟨hp,gg,dd,tk,oo⟩ (.ref e) "enumerate":=⟨_,he,rfl⟩
 unfold pyNext
 refine wpAny_bind (wpAny_attempt (wpAny_callSpecial?_slot (name:=Str.ofString "__next__") ty F.slot_enumerate_next (wpAny_call_entry F.slot_enumerate_next ty F.entry_enumerate_next ?_ (F.args_enumerate_next_1 _))))
 show wpAny _ _ (field (.ref e) 2 >>= _) _ _ _
 refine wpAny_bind (fld he (x:=.ref it) rfl (wpAny_bind (wpAny_nextOf_list_item hit hl hx λk1 j1 sb1=>?_)))
 have sb1':Heap.SameBut it hp k1:=sb1
 have e1:EnX k1 e it i old a f:=(sb1'.2 e hne).trans he
 show wpAny _ _ (field (.ref e) 3 >>= _) _ _ ⟨k1,gg,dd,tk,oo⟩
 refine wpAny_bind (fld e1 (x:=rawInt i) rfl (wpAny_bind (fld e1 (x:=.none) rfl ?_)))
 show wpAny _ _ (mkInt i >>= _) _ _ ⟨k1,gg,dd,tk,oo⟩
 refine wpAny_bind (wpAny_mkInt ?_)
 show wpAny _ _ (setField (.ref e) 3 (rawInt ((i:Int)+1)) >>= _) _ _ ⟨k1,gg,dd,tk+1,oo⟩
 refine wpAny_bind (wpAny_setField_rec e1 (by simp) λk2 e2 sb2=>?_)
 have sb2':Heap.SameBut e k1 k2:=sb2
 have e2':EnX k2 e it ((i:Int)+1) old a f:=e2
 show wpAny _ _ (setField (.ref e) 4 .none >>= _) _ _ ⟨k2,gg,dd,tk+1,oo⟩
 refine wpAny_bind (wpAny_setField_rec e2' (by simp) λk3 e3 sb3=>?_)
 have sb3':Heap.SameBut e k2 k3:=sb3
 have e3':EnX k3 e it ((i:Int)+1) old a f:=e3
 show wpAny _ _ (newTuple [.int i tk,x] >>= _) _ _ ⟨k3,gg,dd,tk+1,oo⟩
 refine wpAny_bind (wpAny_newTuple ?_)
 have z3:k3.objs.size=hp.objs.size:=by rw[sb3'.1,sb2'.1,sb1'.1]
 have elt:e<hp.objs.size:=Heap.lt_size he
 have kp:∀ b o,b≠e->b≠it->hp.get? b=some o->k3.get? b=some o:=λb o b1 b2 q=>sb3'.extBut b o b1 (sb2'.extBut b o b1 (sb1'.extBut b o b2 q))
 have fin:∀ k5:Heap,EnX k5 e it ((i:Int)+1) old a true->Heap.SameBut e (k3.push { cls:=.type "tuple",data:=.seq #[.int i tk,x] }) k5->Q (some (.ref hp.objs.size)) ⟨k5,gg,dd,tk+1,oo⟩:=λk5 e5 sb5=>by
  refine hQ k5 e5 ?_ (sb5.extBut _ _ (Nat.ne_of_gt elt) (by rw[<- z3];exact Heap.get?_push_size _ rfl)) (by rw[sb5.1,Heap.size_push,z3]) λb o b1 b2 q=>sb5.extBut b o b1 (Heap.get?_push_of_some _ (kp b o b1 b2 q))
  obtain⟨o,ho,r⟩:=(j1.extBut sb2'.extBut (Ne.symm hne)).extBut sb3'.extBut (Ne.symm hne)
  exact⟨o,sb5.extBut it o (Ne.symm hne) (Heap.get?_push_of_some _ ho),r⟩
 have e4:EnX (k3.push { cls:=.type "tuple",data:=.seq #[.int i tk,x] }) e it ((i:Int)+1) old a f:=Heap.get?_push_of_some _ e3'
 have a4:(k3.push { cls:=.type "tuple",data:=.seq #[.int i tk,x] }).get? a=some oa:=Heap.get?_push_of_some _ (kp a oa hae hai ha)
 show wpAny _ _ (Builtin.SmallTypes.ownedTupleIsFree (.ref e) >>= _) _ _ ⟨k3.push { cls:=.type "tuple",data:=.seq #[.int i tk,x] },gg,dd,tk+1,oo⟩
 rw[z3]
 refine wpAny_bind ?_
 unfold Builtin.SmallTypes.ownedTupleIsFree
 refine wpAny_bind (fld e4 (x:=rawInt a) rfl ?_)
 show wpAny _ _ (loadIfAlive ((a:Int).toNat) >>= _) _ _ _
 rw[Int.toNat_natCast]
 refine wpAny_bind (W.kdx_alive a4 ?_)
 simp only[Option.isNone_some,Bool.false_eq_true,if_false]
 refine wpAny_bind (fld e4 (x:=.bool f) rfl ?_)
 cases f with
 | true=>exact wpAny_pure (wpAny_pure ⟨_,rfl,wpAny_pure (fin _ e4 (Heap.SameBut.refl _ _))⟩)
 | false=>exact wpAny_bind (wpAny_setField_rec e4 (by simp) λk5 e5 sb5=>wpAny_pure (wpAny_pure ⟨_,rfl,wpAny_pure (fin k5 e5 sb5)⟩))
theorem zJQ {e it l a:Addr}{i:Nat}{items:Array Value}{old:Value}{f:Bool}{Q:Option Value->Shared->Prop}(hh:A.handled=none)(he:EnX s.heap e it i old a f)
  (hit:s.heap.IsListIter it l i) (hl:s.heap.IsList l items) (hx:items[i]?=none) (hQ:∀ h',Heap.ExtBut it s.heap h'->Q none { s with heap:=h' }):wpAny (model prog w) A (pyNext (.ref e)) Q E s:=by
 have ty:s.TypeIs (.ref e) "enumerate":=⟨_,he,rfl⟩
 unfold pyNext
 refine wpAny_bind (wpAny_attempt (wpAny_callSpecial?_slot (name:=Str.ofString "__next__") ty F.slot_enumerate_next (wpAny_call_entry F.slot_enumerate_next ty F.entry_enumerate_next ?_ (F.args_enumerate_next_1 _))))
 show wpAny _ _ (field (.ref e) 2 >>= _) _ _ _
 refine wpAny_bind (fld he (x:=.ref it) rfl (wpAny_bind (wpAny_nextOf_list_end hh hit hl hx λh' y q1 q2=>?_)))
 obtain⟨o,ho,hc⟩:=q2
 exact wpAny_bind (wpAny_isInstance (T:="StopIteration") (b:=true) ⟨o,ho,hc⟩ isSubtype_stop (wpAny_pure (hQ _ q1)))
end
end L2
namespace L2
open PySem PySem.Spec PyProof.Rows
def EnSt (h:Heap)(e it l S:Addr)(i:Nat):Prop :=
 ((i=0/\∃ old,IsEnum h e it 0 old)\/∃ old a f oa,EnX h e it i old a f/\h.get? a=some oa/\a≠e/\a≠it/\a≠S)/\h.IsListIter it l i
def EnTs (h:Heap)(items:Array Value)(lo:Nat)(as:List Addr):Prop :=
 as.Pairwise (·<·)/\∀ (j:Nat) (a:Addr),as[j]?=some a->lo<=a/\∃ t x,items[j]?=some x/\h.get? a=some { cls:=.type "tuple",data:=.seq #[.int j t,x] }
section
variable {prog:Program}{w:World}{A:Around}{s:Shared}{R:Result->Shared->Prop}
theorem zJR {S e it l:Addr}{items:Array Value}{lo:Nat}{h1:Heap}(hh:A.handled=none)(hne:e≠it)(hSe:S≠e)(hSi:S≠it)(hlS:l≠S)(hle:l≠e)(hli:l≠it)(hn:items.size<=sizeLine)(heL:e<lo)(hiL:it<lo)(hSL:S<lo)(res:Value)
  (hR:∀ h' tk c as,(∀ b o,b≠S->b≠e->b≠it->h1.get? b=some o->h'.get? b=some o)->h'.get? S=some { cls:=.type "list",dict:=none,data:=.seq (as.map Value.ref).toArray c,slots:=#[] }->as.length=items.size->EnTs h' items lo as->R (.ok (.ret res)) { s with heap:=h',toks:=tk }) :
  ∀ (k i:Nat) (h:Heap) (tk c:Nat) (as:List Addr),items.size-i=k->i<=items.size->EnSt h e it l S i->h.IsList l items->(∀ b o,b≠S->b≠e->b≠it->h1.get? b=some o->h.get? b=some o) ->
   h.get? S=some { cls:=.type "list",dict:=none,data:=.seq (as.map Value.ref).toArray c,slots:=#[] }->as.length=i->EnTs h items lo as->lo<=h.objs.size ->
   codeAny (model prog w) A (.builtin "list.extend.loop" ⟨[.ref S,.ref e,res],[]⟩) R { s with heap:=h,toks:=tk }:=by
 intro k
 induction k with
 | zero =>
  intro i h tk c as hk hi hst hl kp hS hal hG hlo
  have hx:items[i]?=none:=by simp;omega
  refine codeAny_builtin F.entry_extend_loop ?_
  rw[Around.under_plainId F.plain_extend_loop _]
  show wpAny _ A.in1 (pyNext (.ref e) >>= _) _ _ _
  have fin:∀ h',Heap.ExtBut it h h'->R (.ok (.ret res)) { s with heap:=h',toks:=tk }:=λh' eb =>
   hR h' tk c as (λb o a1 a2 a3 q=>eb b o a3 (kp b o a1 a2 a3 q)) (eb S _ hSi hS) (by omega) ⟨hG.1,λj a q=>by
    obtain⟨z1,t,x,z2,z3⟩:=hG.2 j a q
    exact⟨z1,t,x,z2,eb a _ (Nat.ne_of_gt (Nat.lt_of_lt_of_le hiL z1)) z3⟩⟩
  obtain⟨h0,hit⟩:=hst
  rcases h0 with ⟨rfl,old,he⟩ | ⟨old,a,f,oa,he,_⟩
  ·exact wpAny_bind (wpAny_pyNext_enum_end (s:={ s with heap:=h,toks:=tk }) (A:=A.in1) hh he hit hl hx λh' eb=>wpAny_pure (fin h' eb))
  ·exact wpAny_bind (zJQ (s:={ s with heap:=h,toks:=tk }) (A:=A.in1) hh he hit hl hx λh' eb=>wpAny_pure (fin h' eb))
 | succ k ih =>
  intro i h tk c as hk hi hst hl kp hS hal hG hlo
  have hlt:i<items.size:=by omega
  obtain⟨x,hx⟩:∃ x,items[i]?=some x:=⟨items[i],by simp[hlt]⟩
  refine codeAny_builtin F.entry_extend_loop ?_
  rw[Around.under_plainId F.plain_extend_loop _]
  show wpAny _ A.in1 (pyNext (.ref e) >>= _) _ _ _
  have hSz:S<h.objs.size:=Heap.lt_size hS
  have nxt:∀ h',(∃ old a f oa,EnX h' e it ((i:Int)+1) old a f/\h'.get? a=some oa/\a≠e/\a≠it/\a≠S)->h'.IsListIter it l (i+1)->h'.get? h.objs.size=some { cls:=.type "tuple",data:=.seq #[.int i tk,x] }->h'.objs.size=h.objs.size+1 ->
    (∀ b o,b≠e->b≠it->h.get? b=some o->h'.get? b=some o)->wpAny (model prog w) A.in1 (updateSeq S (·.push (Value.ref h.objs.size)) >>= λ_=>again (.builtin "list.extend.loop" ⟨[.ref S,.ref e,res],[]⟩))
     (λfin s'=>match fin with | .done f=>R (.ok f) s' | .again c'=>c'.quiet=true/\codeAny (model prog w) A c' R s') (λx s'=>R (.error x) s') { s with heap:=h',toks:=tk+1 }:=by
   intro h' hX hit' ht hz hk'
   have hS':=hk' S _ hSe hSi hS
   have up:∀ b o,b≠S->h'.get? b=some o->(h'.update S (Obj.mapSeq (·.push (Value.ref h.objs.size)))).get? b=some o:=λb o hb q=>(Heap.get?_update_other _ _ (Ne.symm hb)).trans q
   have hasz:(as.map Value.ref).toArray.size=i:=by simp[hal]
   refine wpAny_bind (wpAny_updateSeq hS' rfl (wpAny_pure ⟨plainId_quiet F.plain_extend_loop _,?_⟩) (by rw[hasz];omega) (by rw[Array.size_push,hasz];omega))
   have hS2:=Heap.get?_update_self (Obj.mapSeq (·.push (Value.ref h.objs.size))) hS' rfl
   refine ih (i+1) _ (tk+1) _ (as++[h.objs.size]) (by omega) hlt ?_ ?_ ?_ (by rw[hS2];simp[Obj.mapSeq];exact rfl) (by simp[hal]) ?_ ?_
   ·obtain⟨old,a,f,oa,q1,q2,q3,q4,q5⟩:=hX
    refine⟨.inr ⟨old,a,f,oa,?_,up a _ q5 q2,q3,q4,q5⟩,hit'.at λo q=>up it o (Ne.symm hSi) q⟩
    have e':((i+1:Nat):Int)=(i:Int)+1:=by omega
    rw[e']
    exact up e _ (Ne.symm hSe) q1
   ·exact(hl.at λo q=>hk' l o hle hli q).at λo q=>up l o hlS q
   ·exact λb o a1 a2 a3 q=>up b o a1 (hk' b o a2 a3 (kp b o a1 a2 a3 q))
   ·refine⟨List.pairwise_append.mpr ⟨hG.1,List.pairwise_singleton _ _,λa ha b hb=>?_⟩,λj a q=>?_⟩
    ·rw[List.mem_singleton.mp hb]
     obtain⟨j,hj⟩:=List.mem_iff_getElem?.mp ha
     obtain⟨_,_,_,_,z⟩:=hG.2 j a hj
     exact Heap.lt_size z
    ·rcases Nat.lt_trichotomy j as.length with c1 | c1 | c1
     ·rw[List.getElem?_append_left c1] at q
      obtain⟨z1,t,y,z2,z3⟩:=hG.2 j a q
      exact⟨z1,t,y,z2,up a _ (Nat.ne_of_gt (Nat.lt_of_lt_of_le hSL z1)) (hk' a _ (Nat.ne_of_gt (Nat.lt_of_lt_of_le heL z1)) (Nat.ne_of_gt (Nat.lt_of_lt_of_le hiL z1)) z3)⟩
     ·subst c1
      have ea:h.objs.size=a:=by simpa using q
      subst ea
      exact⟨hlo,tk,x,by rw[hal];exact hx,by rw[hal];exact up _ _ (Nat.ne_of_gt hSz) ht⟩
     ·rw[List.getElem?_eq_none (by simp;omega)] at q
      cases q
   ·rw[Heap.size_update,hz];omega
  have elt:e<h.objs.size:=Nat.lt_of_lt_of_le heL hlo
  have ilt:it<h.objs.size:=Nat.lt_of_lt_of_le hiL hlo
  obtain⟨h0,hit⟩:=hst
  rcases h0 with ⟨rfl,old,he⟩ | ⟨old,a,f,oa,he,q2,q3,q4,q5⟩
  ·exact wpAny_bind (wpAny_pyNext_enum_item (s:={ s with heap:=h,toks:=tk }) (A:=A.in1) he hit hl hx hne λh' b1 b2 b3 b4 b5=>nxt h' ⟨x,_,false,_,b1,b3,Nat.ne_of_gt elt,Nat.ne_of_gt ilt,Nat.ne_of_gt hSz⟩ b2 b3 b4 b5)
  ·exact wpAny_bind (zHS (s:={ s with heap:=h,toks:=tk }) (A:=A.in1) he q2 q3 q4 hit hl hx hne λh' b1 b2 b3 b4 b5=>nxt h' ⟨old,a,true,oa,b1,b5 a oa q3 q4 q2,q3,q4,q5⟩ b2 b3 b4 b5)
end
theorem zD7:typeLookup (.type "enumerate") "__len__"=pure none:=by rw[typeLookup_type,builtinLookup_eq_fast];kernel_rfl
theorem zDW:typeLookup (.type "enumerate") "__length_hint__"=pure none:=by rw[typeLookup_type,builtinLookup_eq_fast];kernel_rfl
section
variable {prog:Program}{w:World}{A:Around}{E:Value->Shared->Prop}{s:Shared}
theorem zCh {e it l:Addr}{items:Array Value}{Q:Value->Shared->Prop}(hh:A.handled=none)(he:IsEnum s.heap e it 0 .none)(hit:s.heap.IsListIter it l 0)(hl:s.heap.IsList l items)(hne:e≠it)(hle:l≠e)(hli:l≠it)(hn:items.size<=sizeLine)
  (hQ:∀ h' tk c as,(∀ b o,b≠e->b≠it->s.heap.get? b=some o->h'.get? b=some o)->h'.get? s.heap.objs.size=some { cls:=.type "list",dict:=none,data:=.seq (as.map Value.ref).toArray c,slots:=#[] }->as.length=items.size->EnTs h' items (s.heap.objs.size+1) as ->
   Q (.ref s.heap.objs.size) { s with heap:=h',toks:=tk }):wpAny (model prog w) A (call (.type "list") [.ref e]) Q E s:=by
 have elt:e<s.heap.objs.size:=Heap.lt_size he
 have ilt:it<s.heap.objs.size:=by obtain⟨o,q,_⟩:=hit;exact Heap.lt_size q
 have llt:l<s.heap.objs.size:=by obtain⟨o,q,_⟩:=hl;exact Heap.lt_size q
 refine callType_codes (Q₁:=λob s1=>ob=.ref s.heap.objs.size/\s1={ s with heap:=s.heap.push { cls:=.type "list",data:=.seq #[] } }) F.called_list (F.typeCall_list_1 _) F.entry_list_init (code_list_new _ ⟨rfl,rfl⟩) λob s1 q1=>?_
 obtain⟨rfl,rfl⟩:=q1
 have hS:(s.heap.push { cls:=.type "list",data:=.seq #[] }).get? s.heap.objs.size=some { cls:=.type "list",data:=.seq #[] }:=Heap.get?_push_size _ rfl
 refine⟨⟨_,hS,rfl⟩,F.args_list_init_2 _ _,?_⟩
 show wpAny _ A.in1.in1 (do let old <- Builtin.List.listItems (.ref s.heap.objs.size);Builtin.List.listUpdate (.ref s.heap.objs.size) (λ_=>#[]);letGo old.toList.reverse;Builtin.List.listExtendWith (.ref s.heap.objs.size) (.ref e) .none) _ _ _
 refine wpAny_bind (listItems_at hS rfl (wpAny_bind (listUpdate_at hS rfl (wpAny_bind (wpAny_letGo ?_)))))
 have hS2:=Heap.get?_update_self (Obj.mapSeq (λ_=>(#[]:Array Value))) hS rfl
 have oth:∀ b o,b<s.heap.objs.size->s.heap.get? b=some o->((s.heap.push { cls:=.type "list",data:=.seq #[] }).update s.heap.objs.size (Obj.mapSeq (λ_=>(#[]:Array Value)))).get? b=some o :=
  λb o hb q=>(Heap.get?_update_other _ _ (Nat.ne_of_gt hb)).trans (Heap.get?_push_of_some _ q)
 have hz:((s.heap.push { cls:=.type "list",data:=.seq #[] }).update s.heap.objs.size (Obj.mapSeq (λ_=>(#[]:Array Value)))).objs.size=s.heap.objs.size+1:=by rw[Heap.size_update,Heap.size_push]
 generalize hH:(s.heap.push { cls:=.type "list",data:=.seq #[] }).update s.heap.objs.size (Obj.mapSeq (λ_=>(#[]:Array Value)))=h2 at hS2 oth hz ⊢
 have he2:IsEnum h2 e it 0 .none:=oth e _ elt he
 have hT:Shared.TypeIs { s with heap:=h2 } (.ref e) "enumerate":=⟨_,he2,rfl⟩
 unfold Builtin.List.listExtendWith
 refine wpAny_bind (wpAny_typeOf hT ?_)
 have c1:Builtin.List.listSameRef (.ref s.heap.objs.size) (.ref e)=false:=by simp[Builtin.List.listSameRef];exact Nat.ne_of_gt elt
 simp only[c1,show (Value.type "enumerate" == Value.type "list")=false by decide,show (Value.type "enumerate" == Value.type "tuple")=false by decide,Bool.or_false,Bool.false_eq_true,if_false]
 refine wpAny_bind (wpAny_pyIter_enum he2 (wpAny_bind (wpAny_holding ?_)))
 unfold Builtin.List.listLengthHint
 refine wpAny_bind (wpAny_specialOf hT zD7 ?_)
 show wpAny _ _ (specialOf (Value.ref e) (Str.ofString "__length_hint__") >>= _) _ _ _
 refine wpAny_bind (wpAny_specialOf hT zDW (wpAny_pure ?_))
 show wpAny _ _ (rule "list.extend.makes-room" >>= λ_=>Builtin.List.listTouch (.ref s.heap.objs.size) >>= λ_=>again (.builtin "list.extend.loop" ⟨[.ref s.heap.objs.size,.ref e,.none],[]⟩)) _ _ _
 refine wpAny_bind (wpAny_rule (wpAny_bind ?_))
 show wpAny _ _ (updateSeq s.heap.objs.size (·.push .none) >>= λ_=>updateSeq s.heap.objs.size (·.pop)) _ _ _
 refine wpAny_bind (wpAny_updateSeq hS2 rfl ?_ (by simp) (by rw[sizeLine_eq];decide))
 have hS3:=Heap.get?_update_self (Obj.mapSeq (·.push Value.none)) hS2 rfl
 refine wpAny_updateSeq hS3 rfl ?_ (by rw[sizeLine_eq];decide) (by rw[sizeLine_eq];decide)
 have hS4:=Heap.get?_update_self (Obj.mapSeq (·.pop)) hS3 rfl
 have oth2:∀ b o,b<s.heap.objs.size->s.heap.get? b=some o->((h2.update s.heap.objs.size (Obj.mapSeq (·.push Value.none))).update s.heap.objs.size (Obj.mapSeq (·.pop))).get? b=some o :=
  λb o hb q=>(Heap.get?_update_other _ _ (Nat.ne_of_gt hb)).trans ((Heap.get?_update_other _ _ (Nat.ne_of_gt hb)).trans (oth b o hb q))
 refine wpAny_pure ⟨plainId_quiet F.plain_extend_loop _,?_⟩
 refine zJR (A:=A.in1) (R:=wants (λr s2=>r=.none/\Q (.ref s.heap.objs.size) s2) E) (s:=s) (h1:=s.heap) (lo:=s.heap.objs.size+1) (e:=e) (it:=it) (l:=l) (items:=items) hh hne (Nat.ne_of_gt elt) (Nat.ne_of_gt ilt) (Nat.ne_of_lt llt) hle hli hn (Nat.lt_succ_of_lt elt) (Nat.lt_succ_of_lt ilt) (Nat.lt_succ_self _) .none
  (λh' tk c as k1 k2 k3 k4=>⟨rfl,hQ h' tk c as (λb o b1 b2 q=>k1 b o (Nat.ne_of_lt (Heap.lt_size q)) b1 b2 q) k2 k3 k4⟩) items.size 0 _ _ _ [] (Nat.sub_zero _) (Nat.zero_le _) ⟨.inl ⟨rfl,.none,oth2 e _ elt he⟩,hit.at λo q=>oth2 it o ilt q⟩
  (hl.at λo q=>oth2 l o llt q) (λb o _ _ _ q=>oth2 b o (Heap.lt_size q) q) (by rw[hS4];rfl) rfl ⟨List.Pairwise.nil,λj a q=>by simp at q⟩ (by rw[Heap.size_update,Heap.size_update,hz];exact Nat.le_refl _)
end
end L2
namespace L2
open PySem PySem.Spec PyProof.Rows
section
variable {X:Cx}{pins:List (Addr×Obj)}{σ:St}{H H':Hp}{s:Shared}{h':Heap}
theorem Inv.grow {t':Nat}(I:Inv X pins σ H s)(k:∀ b u,s.heap.get? b=some u->h'.get? b=some u)(e:∀ b,b<s.heap.objs.size->H' b=H b)(new:∀ b o,s.heap.objs.size<=b->H' b=some o->ObjOk X.prog X.w H' h' b o) :
  Inv X pins σ H' { s with heap:=h',toks:=t' }:=by
 have up:∀ b o,H b=some o->H' b=some o:=λb o q=>by rw[e b (I.hok.lt q)];exact q
 refine I.un ⟨λb o q _ _ _=>k b o q,λb o q _ _ _=>⟨o.slots,k b o q⟩,λb o q n _=>by rw[e b (Heap.lt_size q)];exact n,λb o q _=>⟨o,k b o q⟩,λb xs q=>up b _ q,λb o u q=>up b _ q,λb ps q=>⟨#[],by rw[up b _ q];simp⟩⟩ λb o q=>?_
 by_cases hb:b<s.heap.objs.size
 ·rw[e b hb] at q
  exact(I.hok b o q).stay (λc u _ q'=>k c u q') (λc q'=>up c _ q') λc xs q'=>up c _ q'
 ·exact new b o (Nat.le_of_not_lt hb) q
end
section
variable {X:Cx}
def zGA (K:W.Frag)(ta:TA):TE:=λσ H Q=>ta σ H λvs H1=>∃ a xs,vs=[.ref a]/\SqL K H1 a xs/\∀ (D:Addr) (as:List Addr) (H2:Hp),Same H1 H2->H1 D=none->H2 D=some (.lst (as.map V.ref))->as.length=xs.length ->
 (∀ (j:Nat) (x:V),xs[j]?=some x->∃ b,as[j]?=some b/\H2 b=some (.tup [.int j,x]))->Q (.ref D) H2
theorem zFF {as:List Addr}(h:as.Pairwise (·<·)){j:Nat}{b:Addr}(hb:as[j]?=some b):as.findIdx? (· == b)=some j:=by
 rw[List.findIdx?_eq_some_iff_getElem]
 obtain⟨hj,e⟩:=List.getElem?_eq_some_iff.mp hb
 refine⟨hj,by simp[e],λi hi=>?_⟩
 have:=List.pairwise_iff_getElem.mp h i j (by omega) hj hi
 rw[e] at this
 simpa using Nat.ne_of_lt this
def enH (H:Hp)(n:Nat)(as:List Addr)(xs:List V):Hp:=λb=>if b<n then H b else if b=n+2 then some (.lst (as.map V.ref)) else match as.findIdx? (· == b) with
 | some j=>(xs[j]?).map λx=>.tup [.int j,x]
 | none=>none
theorem zGB {H:Hp}{n:Nat}{as:List Addr}{xs:List V}{b:Addr}(h:b<n):enH H n as xs b=H b:=if_pos h
theorem zMU {H:Hp}{n:Nat}{as:List Addr}{xs:List V}:enH H n as xs (n+2)=some (.lst (as.map V.ref)):=by
 unfold enH
 rw[if_neg (show ¬ n+2<n by omega),if_pos rfl]
theorem zMV {H:Hp}{n:Nat}{as:List Addr}{xs:List V}(h:as.Pairwise (·<·)){j:Nat}{b:Addr}{x:V}(hb:n+3<=b)(z1:as[j]?=some b)(z2:xs[j]?=some x):enH H n as xs b=some (.tup [.int j,x]):=by
 unfold enH
 rw[if_neg (Nat.not_lt.mpr (Nat.le_trans (Nat.le_add_right n 3) hb)),if_neg (Nat.ne_of_gt (Nat.lt_of_lt_of_le (Nat.lt_succ_self _) hb)),zFF h z1]
 show (xs[j]?).map _=_
 rw[z2];rfl
theorem zJS {H:Hp}{n:Nat}{as:List Addr}{xs:List V}{b:Addr}{o:HO}(hb:n<=b)(z:enH H n as xs b=some o):(b=n+2/\o=.lst (as.map V.ref))\/∃ (j:Nat) (x:V),as[j]?=some b/\xs[j]?=some x/\o=.tup [.int j,x]:=by
 unfold enH at z
 rw[if_neg (Nat.not_lt.mpr hb)] at z
 by_cases hD:b=n+2
 ·rw[if_pos hD] at z
  exact .inl ⟨hD,(Option.some.inj z).symm⟩
 ·rw[if_neg hD] at z
  cases f:as.findIdx? (· == b) with
  | none=>rw[f] at z;cases z
  | some j =>
   rw[f] at z
   obtain⟨hj,hb2,_⟩:=List.findIdx?_eq_some_iff_getElem.mp f
   have hb3:as[j]?=some b:=by rw[List.getElem?_eq_getElem hj];exact congrArg some (by simpa using hb2)
   cases hx:xs[j]? with
   | none =>
    have z':(xs[j]?).map (λx=>HO.tup [.int j,x])=some o:=z
    rw[hx] at z';cases z'
   | some x =>
    have z':(xs[j]?).map (λx=>HO.tup [.int j,x])=some o:=z
    rw[hx] at z'
    exact .inr ⟨j,x,hb3,hx,(Option.some.inj z').symm⟩
theorem zDX:∀ as:List Addr,Vals (as.map V.ref) (as.map Value.ref)
 | []=>.nil
 | _::as=>.cons rfl (zDX as)
theorem zHT {l:Expr}{ta:TA}{p p2 pos pos2:Pos}(hc:X.calm=true)(hg:Gl X "list")(hm:X.mg "list"=none)(hg2:Gl X "enumerate")(hm2:X.mg "enumerate"=none)(ha:PA X [l] ta)(hs:starEach [l] X.env=[(false,eval l X.env)]:=by rfl) :
  PE X (.Call (.Name "list" p) [.Call (.Name "enumerate" p2) [l] [] pos2] [] pos) (zGA X.K ta):=by
 intro pins s σ H Q I h
 refine wpAny_Call_Name_kw (zBh I hg hm (show bootBuiltins "list"=some (.type "list") by decide +kernel) ?_)
 refine PyProof.Rows.callWith_type1 ?_ rfl rfl
 show wpAny _ _ (spliced ((false,eval (.Call (.Name "enumerate" p2) [l] [] pos2) X.env)::[])) _ _ s
 refine Calls.spliced_cons ?_
 refine Call_ (zBh I hg2 hm2 zDV (PyProof.Rows.callWith_type1 (thn (ha pos2 pins s σ H _ I h) λus s1 ⟨vs,H1,I1,r1,q1⟩=>?_) hs rfl))
 obtain⟨a,xs,e,hxs,q⟩:=q1
 subst e
 obtain⟨u,rfl,ru⟩:=zCO r1
 cases ru
 obtain⟨its,rv,pl,hz⟩:=I1.list hxs
 have hlen:=rv.length
 have alt:a<s1.heap.objs.size:=by obtain⟨o,z,_⟩:=pl.isList;exact Heap.lt_size z
 refine call_enumerate_list pl.isList λh1 he hit hsz hk=>Calls.spliced_nil ?_
 refine zCh (s:={ s1 with heap:=h1 }) (I1.ok.hd hc) he hit (pl.isList.at λo z=>hk a o z) (Nat.ne_of_gt (Nat.lt_succ_self _)) (Nat.ne_of_lt (Nat.lt_succ_of_lt alt)) (Nat.ne_of_lt alt) (by simp only[List.size_toArray];omega) λh2 tk c as k1 k2 k3 k4=>?_
 rw[hsz] at k2 k4 ⊢
 have k3':as.length=xs.length:=by rw[k3];simp only[List.size_toArray];omega
 have keepAll:∀ b o,s1.heap.get? b=some o->h2.get? b=some o:=λb o z =>
  k1 b o (Nat.ne_of_lt (Nat.lt_succ_of_lt (Heap.lt_size z))) (Nat.ne_of_lt (Heap.lt_size z)) (hk b o z)
 have hgt:∀ (j:Nat) (b:Addr),as[j]?=some b->s1.heap.objs.size+3<=b:=λj b z=>(k4.2 j b z).1
 refine⟨.ref (s1.heap.objs.size+2),enH H1 s1.heap.objs.size as xs,?_,rfl,q _ as _ (λb o z=>by rw[zGB (I1.hok.lt z)];exact z) (I1.hok.fresh (Nat.le_add_right _ _)) zMU k3' λj x z=>?_⟩
 ·refine I1.grow (t':=tk) keepAll (λb hb=>zGB hb) λb o hb z=>?_
  rcases zJS hb z with ⟨rfl,rfl⟩ | ⟨j,x,hb3,hx,rfl⟩
  ·exact⟨by rw[List.length_map];omega,as.map Value.ref,c,zDX as,k2⟩
  ·obtain⟨_,t,y,y1,y2⟩:=k4.2 j b hb3
   obtain⟨u,hu,ru⟩:=rv.get hx
   have:y=u:=by
    have y1':its[j]?=some y:=by simpa using y1
    rw[hu] at y1'
    exact(Option.some.inj y1').symm
   subst this
   exact⟨(by show 2<=sizeLine;rw[sizeLine_eq];decide),[.int j t,y],.cons ⟨_,rfl⟩ (.cons ru .nil),_,y2,rfl,0,rfl⟩
 ·have hj:j<as.length:=by
   have:=(List.getElem?_eq_some_iff.mp z).1
   omega
  exact⟨as[j],List.getElem?_eq_getElem hj,zMV k4.1 (hgt j _ (List.getElem?_eq_getElem hj)) (List.getElem?_eq_getElem hj) z⟩
def zAs:Expr->Bool
 | .Starred ..=>false
 | _=>true
theorem zAi {e:Expr}{es:List Expr}{env:Env}(h:zAs e=true):starEach (e::es) env=(false,eval e env)::starEach es env:=by
 cases e<;>first | rfl | cases h
theorem pac {e:Expr}{es:List Expr}{te:TE}{t:TA}(ha:PE X e te)(hr:PA X es t)(hp:zAs e=true:=by rfl):PA X (e::es) (zE4 te t):=zI8 ha hr (zAi hp)
end
end L2
namespace L2
open PySem PySem.Spec PyProof.Rows
def Kp (S:List Addr)(H H':Hp):Prop:=∀ b o,b∉S->H b=some o->H' b=some o
theorem Kp.refl (S:List Addr)(H:Hp):Kp S H H:=λ_ _ _ q=>q
theorem Kp.trans {S:List Addr}{H H1 H2:Hp}(a:Kp S H H1)(b:Kp S H1 H2):Kp S H H2:=λc o n q=>b c o n (a c o n q)
theorem Same.kp {S:List Addr}{H H':Hp}(a:Same H H'):Kp S H H':=λb o _ q=>a b o q
theorem Kp.one {x b:Addr}{H H':Hp}{o:HO}(a:Kp [x] H H')(n:b≠x)(q:H b=some o):H' b=some o:=a b o (by simp[n]) q
theorem zAd {H:Hp}{p:Addr}{o:HO}(h:H p=none):Same H (upd H p o):=λc u z=>by rw[zAS (zAK z h)];exact z
theorem zCl {H:Hp}{p:Addr}{o:HO}:Kp [p] H (upd H p o):=λc u n z=>by rw[zAS (by simpa using n)];exact z
theorem Kp.free {H H':Hp}{S:List Addr}(a:Kp S H H'){p:Addr}(n:p∉S)(h:H' p=none):H p=none:=by
 cases q:H p with
 | none=>rfl
 | some o=>rw[a p o n q] at h;cases h
section
variable {X:Cx}
theorem PE.imp {e:Expr}{t t':TE}(h:PE X e t)(i:∀ σ H Q,t' σ H Q->t σ H Q):PE X e t':=λpins s σ H Q I w=>h pins s σ H Q I (i σ H Q w)
theorem PI.imp {tg e:Expr}{t t':TI}(h:PI X tg e t)(i:∀ σ H Q,t' σ H Q->t σ H Q):PI X tg e t':=λpins s σ H Q I w=>h pins s σ H Q I (i σ H Q w)
theorem CallR.imp {f:Value}{r r':List V->Hp->VK->Prop}(h:CallR X f r)(i:∀ xs H Q,r' xs H Q->r xs H Q):CallR X f r':=λpins s σ H xs us Q I rx w=>h pins s σ H xs us Q I rx (i xs H Q w)
theorem PS.imp {e:Stmt}{t t':TS}(h:PS X e t)(i:∀ D σ H,t' D σ H->t D σ H):PS X e t':=λpins s σ H D I w=>h pins s σ H D I (i D σ H w)
def gt:St->Nat->Option V
 | [],_=>none
 | o::_,0=>o
 | _::r,n+1=>gt r n
theorem zD8:∀ {σ:St} {i:Nat} {v:V},gt σ i=some v->σ[i]?=some (some v)
 | [],_,_,h=>by simp[gt] at h
 | o::_,0,_,h=>by simp[gt] at h;simp[h]
 | _::r,n+1,_,h=>by simp[gt] at h;simpa using zD8 h
def mVar (i:Nat):TE:=λσ H Q=>match gt σ i with
 | some v=>Q v H
 | none=>False
theorem zHU {i:Nat}{σ:St}{H:Hp}{Q:VK}(h:mVar i σ H Q):tVar i σ H Q:=by
 unfold mVar at h
 cases e:gt σ i with
 | none=>rw[e] at h;exact h.elim
 | some v=>rw[e] at h;exact⟨v,zD8 e,h⟩
theorem mv (i:Nat){x:Str}{pos:Pos}(hN:X.N[i]?=some x:=by rfl)(hv:Vis X.env.scope x:=by first | exact Or.inl rfl | exact Or.inr (Or.inl rfl) | exact Or.inr (Or.inr rfl))(hd:(x == ("__debug__":Str))=false:=by decide)
  (hcd:(x == ("__classdict__":Str))=false:=by decide):PE X (.Name x pos) (mVar i):=(zKX hN hv hd hcd).imp λ_ _ _=>zHU
@[irreducible] def zGC (xs:List V)(H:Hp)(Q:VK):Prop:=xs.length<=sizeLine/\∀ p,H p=none->Q (.ref p) (upd H p (.lst xs))
@[irreducible] def zGD (xs:List V)(H:Hp)(Q:VK):Prop:=xs.length<=sizeLine/\∀ p,H p=none->Q (.ref p) (upd H p (.tup xs))
@[irreducible] def hCat (a b:Addr)(H:Hp)(Q:VK):Prop:=∃ xs ys,H a=some (.lst xs)/\H b=some (.lst ys)/\xs.length+ys.length<=sizeLine/\∀ p,H p=none->Q (.ref p) (upd H p (.lst (xs++ys)))
@[irreducible] def hRep (a:Addr)(k:Int)(H:Hp)(Q:VK):Prop:=∃ xs,H a=some (.lst xs)/\-(2 ^ 63)<=k/\k<2 ^ 63/\xs.length*k.toNat<=sizeLine/\∀ p,H p=none->Q (.ref p) (upd H p (.lst (List.replicate k.toNat xs).flatten))
@[irreducible] def hIx (K:W.Frag)(a:Addr)(i:Int)(H:Hp)(Q:VK):Prop:=∃ xs v,(SqL K H a xs\/SqT K H a xs)/\atI xs i=some v/\Q v H
@[irreducible] def hSl (K:W.Frag)(a:Addr)(lo hi:Option Int)(H:Hp)(Q:VK):Prop:=∃ xs,SqL K H a xs/\∀ p,H p=none->Q (.ref p) (upd H p (.lst (cutV xs lo hi)))
@[irreducible] def hSet (a:Addr)(k:Int)(v:V)(H:Hp)(Q:Hp->Prop):Prop:=∃ xs j,H a=some (.lst xs)/\ixN xs.length k=some j/\Q (upd H a (.lst (xs.set j v)))
@[irreducible] def hApp (a:Addr)(y:V)(H:Hp)(Q:VK):Prop:=∃ xs,H a=some (.lst xs)/\xs.length<sizeLine/\Q .non (upd H a (.lst (xs++[y])))
@[irreducible] def hClr (a:Addr)(H:Hp)(Q:VK):Prop:=∃ xs,H a=some (.lst xs)/\Q .non (upd H a (.lst []))
@[irreducible] def hEqL (K:W.Frag)(a b:Addr)(H:Hp)(Q:Bool->Hp->Prop):Prop:=∃ ns ms:List Int,SqL K H a (ns.map V.int)/\SqL K H b (ms.map V.int)/\Q (decide (ns=ms)) H
@[irreducible] def hSum (K:W.Frag)(a:Addr)(H:Hp)(Q:VK):Prop:=∃ ns:List Int,SqL K H a (ns.map V.int)/\Q (.int ns.sum) H
@[irreducible] def hMax (K:W.Frag)(a:Addr)(H:Hp)(Q:VK):Prop:=∃ ns:List Int,SqL K H a (ns.map V.int)/\ns≠[]/\∀ M,M∈ns->(∀ a,a∈ns->a<=M)->Q (.int M) H
@[irreducible] def hMin (K:W.Frag)(a:Addr)(H:Hp)(Q:VK):Prop:=∃ ns:List Int,SqL K H a (ns.map V.int)/\ns≠[]/\∀ M,M∈ns->(∀ a,a∈ns->M<=a)->Q (.int M) H
@[irreducible] def hLen (K:W.Frag)(a:Addr)(H:Hp)(Q:VK):Prop:=∃ ys,(SqL K H a ys\/SqT K H a ys)/\Q (.int ys.length) H
@[irreducible] def zHV (K:W.Frag)(a:Addr)(H:Hp)(Q:VK):Prop:=∃ ys,(SqL K H a ys\/SqT K H a ys)/\∀ l,H l=none->Q (.ref l) (upd H l (.lst ys))
@[irreducible] def hIsi (K:W.Frag)(x:V)(c:String)(H:Hp)(Q:VK):Prop:=∃ t,TyOf K H x (.type t)/\t∈["NoneType","bool","int","str","list","tuple","dict"]/\c∈["bool","int","str","list","tuple","dict"]/\Q (.bl (isTy t c)) H
section
variable {H:Hp}{Q:VK}{K:W.Frag}{a b:Addr}
theorem zAc {xs:List V}(h:xs.length<=sizeLine)(q:∀ p H',H p=none->Same H H'->H' p=some (.lst xs)->Q (.ref p) H'):zGC xs H Q:=by
 unfold zGC;exact⟨h,λp hp=>q p _ hp (zAd hp) zAP⟩
theorem zCm {xs:List V}(h:xs.length<=sizeLine)(q:∀ p H',H p=none->Same H H'->H' p=some (.tup xs)->Q (.ref p) H'):zGD xs H Q:=by
 unfold zGD;exact⟨h,λp hp=>q p _ hp (zAd hp) zAP⟩
theorem zFG {xs ys:List V}(h1:H a=some (.lst xs))(h2:H b=some (.lst ys))(hl:xs.length+ys.length<=sizeLine)(q:∀ p H',H p=none->Same H H'->H' p=some (.lst (xs++ys))->Q (.ref p) H'):hCat a b H Q:=by
 unfold hCat;exact⟨xs,ys,h1,h2,hl,λp hp=>q p _ hp (zAd hp) zAP⟩
theorem zJT (z:Int)(k:Nat):(List.replicate k [V.int z]).flatten=(List.replicate k z).map V.int:=by
 induction k with
 | zero=>rfl
 | succ k ih=>rw[List.replicate_succ,List.flatten_cons,ih,List.replicate_succ];rfl
theorem zIW {z:Int}{k:Int}(h1:H a=some (.lst [.int z]))(h0:-(2 ^ 63)<=k)(hl:k<=1000)(q:∀ p H',H p=none->Same H H'->H' p=some (.lst ((List.replicate k.toNat z).map V.int))->Q (.ref p) H'):hRep a k H Q:=by
 unfold hRep
 refine⟨_,h1,h0,by omega,?_,λp hp=>q p _ hp (zAd hp) ?_⟩
 ·rw[sizeLine_eq];simp only[List.length_cons,List.length_nil];omega
 ·rw[zJT];exact zAP
theorem i_ix {xs:List V}{i:Int}{v:V}(h:SqL K H a xs\/SqT K H a xs)(e:atI xs i=some v)(q:Q v H):hIx K a i H Q:=by unfold hIx;exact⟨xs,v,h,e,q⟩
theorem zBD {xs:List V}{i:Int}{v:V}(k:Nat)(h:H a=some (.lst xs))(hi:i=k)(e:xs[k]?=some v)(q:Q v H):hIx K a i H Q:=by
 subst hi;exact i_ix (.inl (SqL.of h)) (zFv e) q
theorem zDY {xs:List V}{i:Int}{v:V}(k:Nat)(h:H a=some (.tup xs))(hi:i=k)(e:xs[k]?=some v)(q:Q v H):hIx K a i H Q:=by
 subst hi;exact i_ix (.inr (SqT.of h)) (zFv e) q
theorem zCR {ns:List Int}{i:Int}(h:H a=some (.lst (ns.map V.int)))(h0:0<=i)(h1:i<ns.length)(q:Q (.int (ns.getD i.toNat 0)) H):hIx K a i H Q:=by
 have e:i=((i.toNat:Nat):Int):=by omega
 refine zBD i.toNat h e (v:=.int (ns.getD i.toNat 0)) ?_ q
 have hk:i.toNat<ns.length:=by omega
 rw[List.getElem?_map,List.getElem?_eq_getElem hk,List.getD_eq_getElem?_getD,List.getElem?_eq_getElem hk];rfl
theorem zJU {ys:List V}(h:SqL K H a ys\/SqT K H a ys)(q:Q (.int ys.length) H):hLen K a H Q:=by unfold hLen;exact⟨ys,h,q⟩
theorem zA6 {ns:List Int}(h:H a=some (.lst (ns.map V.int)))(q:Q (.int ns.length) H):hLen K a H Q:=zJU (.inl (SqL.of h)) (by rw[List.length_map];exact q)
theorem zIX {xs:List V}(h:H a=some (.lst xs))(q:Q (.int xs.length) H):hLen K a H Q:=zJU (.inl (SqL.of h)) q
theorem zLA {ys:List V}(h:H a=some (.lst ys))(q:∀ p H',H p=none->Same H H'->H' p=some (.lst ys)->Q (.ref p) H'):zHV K a H Q:=by
 unfold zHV;exact⟨ys,.inl (SqL.of h),λp hp=>q p _ hp (zAd hp) zAP⟩
theorem zHW {ns:List Int}(h:SqL K H a (ns.map V.int))(q:Q (.int ns.sum) H):hSum K a H Q:=by unfold hSum;exact⟨ns,h,q⟩
theorem zJV {ns:List Int}(h:SqL K H a (ns.map V.int))(hn:ns≠[])(q:∀ M,M∈ns->(∀ a,a∈ns->a<=M)->Q (.int M) H):hMax K a H Q:=by unfold hMax;exact⟨ns,h,hn,q⟩
theorem zGE {ns:List Int}(h:SqL K H a (ns.map V.int))(hn:ns≠[])(q:∀ M,M∈ns->(∀ a,a∈ns->M<=a)->Q (.int M) H):hMin K a H Q:=by unfold hMin;exact⟨ns,h,hn,q⟩
theorem zMW {Q:Bool->Hp->Prop}{ns ms:List Int}(h1:SqL K H a (ns.map V.int))(h2:SqL K H b (ms.map V.int))(q:Q (decide (ns=ms)) H):hEqL K a b H Q:=by unfold hEqL;exact⟨ns,ms,h1,h2,q⟩
theorem zGF {xs:List V}{y:V}(h:H a=some (.lst xs))(hl:xs.length<sizeLine)(q:∀ H',Kp [a] H H'->H' a=some (.lst (xs++[y]))->Q .non H'):hApp a y H Q:=by
 unfold hApp;exact⟨xs,h,hl,q _ zCl zAP⟩
theorem zBu {ns:List Int}{z:Int}(h:H a=some (.lst (ns.map V.int)))(hl:ns.length<100000)(q:∀ H',Kp [a] H H'->H' a=some (.lst ((ns++[z]).map V.int))->Q .non H'):hApp a (.int z) H Q :=
 zGF h (by rw[List.length_map,sizeLine_eq];omega) λH' k e=>q H' k (by rw[e,List.map_append];rfl)
theorem zJW {Q:Hp->Prop}{xs:List V}{k:Int}{v:V}(j:Nat)(h:H a=some (.lst xs))(hk:k=j)(hj:j<xs.length)(q:∀ H',Kp [a] H H'->H' a=some (.lst (xs.set j v))->Q H'):hSet a k v H Q:=by
 unfold hSet
 refine⟨xs,j,h,?_,q _ zCl zAP⟩
 subst hk
 unfold ixN
 rw[if_pos (by omega),if_pos (by omega)]
 simp
theorem i_sl {xs:List V}{lo hi:Option Int}(h:SqL K H a xs)(q:∀ p H',H p=none->Same H H'->H' p=some (.lst (cutV xs lo hi))->Q (.ref p) H'):hSl K a lo hi H Q:=by
 unfold hSl;exact⟨xs,h,λp hp=>q p _ hp (zAd hp) zAP⟩
end
def vAdd:R2:=λx y H Q=>match x,y with
 | .int i,.int j=>Q (.int (i+j)) H
 | .ref a,.ref b=>hCat a b H Q
 | .str i,.str j=>i.length+j.length<=sizeLine/\Q (.str (i++j)) H
 | _,_=>False
theorem zAq:OpR X (binaryOp .Add) vAdd:=by
 intro pins s σ H x y v u Q I rx ry h
 cases x<;>cases y<;>first
  | exact(show False from h).elim
  | exact zKn pins s σ H _ _ v u Q I rx ry ⟨_,_,rfl,rfl,h⟩
  | (obtain⟨h1,h2⟩:=(show _/\_ from h);exact zE3 pins s σ H _ _ v u Q I rx ry ⟨_,_,rfl,rfl,h1,h2⟩)
  | (have h:=(show hCat _ _ H Q from h);unfold hCat at h;obtain⟨xs,ys,h1,h2,h3,h4⟩:=h;exact zK1 pins s σ H _ _ v u Q I rx ry ⟨_,_,xs,ys,rfl,rfl,h1,h2,h3,h4⟩)
def vSub:R2:=λx y H Q=>match x,y with
 | .int i,.int j=>Q (.int (i-j)) H
 | _,_=>False
theorem zA7:OpR X (binaryOp .Sub) vSub:=by
 intro pins s σ H x y v u Q I rx ry h
 cases x<;>cases y<;>first
  | exact(show False from h).elim
  | exact zKo pins s σ H _ _ v u Q I rx ry ⟨_,_,rfl,rfl,h⟩
def vMul:R2:=λx y H Q=>match x,y with
 | .int i,.int j=>CMul i j/\Q (.int (i*j)) H
 | .ref a,.int k=>hRep a k H Q
 | _,_=>False
theorem zCS:OpR X (binaryOp .Mult) vMul:=by
 intro pins s σ H x y v u Q I rx ry h
 cases x<;>cases y<;>first
  | exact(show False from h).elim
  | (obtain⟨h1,h2⟩:=(show CMul _ _/\_ from h);exact zKp pins s σ H _ _ v u Q I rx ry ⟨_,_,rfl,rfl,h1,h2⟩)
  | (have h:=(show hRep _ _ H Q from h);unfold hRep at h;obtain⟨xs,h1,h2,h3,h4,h5⟩:=h;exact zK2 pins s σ H _ _ v u Q I rx ry ⟨_,_,xs,rfl,rfl,h1,h2,h3,h4,h5⟩)
def vMod:R2:=λx y H Q=>match x,y with
 | .int i,.int j=>0<j/\Q (.int (i % j)) H
 | _,_=>False
theorem zFH:OpR X (binaryOp .Mod) vMod:=by
 intro pins s σ H x y v u Q I rx ry h
 cases x<;>cases y<;>first
  | exact(show False from h).elim
  | (obtain⟨h1,h2⟩:=(show (0:Int)<_/\_ from h);exact zKq pins s σ H _ _ v u Q I rx ry ⟨_,_,rfl,rfl,h1,h2⟩)
def zMX:R2:=λx y H Q=>match x,y with
 | .int i,.int j=>(0<j/\j<2 ^ 200)/\Q (.int (i / j)) H
 | _,_=>False
theorem zCn:OpR X (binaryOp .FloorDiv) zMX:=by
 intro pins s σ H x y v u Q I rx ry h
 cases x<;>cases y<;>first
  | exact(show False from h).elim
  | (obtain⟨h1,h2⟩:=(show ((0:Int)<_/\_)/\_ from h);exact zHL pins s σ H _ _ v u Q I rx ry ⟨_,_,rfl,rfl,h1,h2⟩)
def vPow:R2:=λx y H Q=>match x,y with
 | .int i,.int j=>CPow i j/\Q (.int (i ^ j.toNat)) H
 | _,_=>False
theorem zHX:OpR X (binaryOp .Pow) vPow:=by
 intro pins s σ H x y v u Q I rx ry h
 cases x<;>cases y<;>first
  | exact(show False from h).elim
  | (obtain⟨h1,h2⟩:=(show CPow _ _/\_ from h);exact zKr pins s σ H _ _ v u Q I rx ry ⟨_,_,rfl,rfl,h1,h2⟩)
def vLt (p:Int->Int->Bool):R2:=λx y H Q=>match x,y with
 | .int i,.int j=>Q (.bl (p i j)) H
 | _,_=>False
theorem zHY {op:CmpOp}{p:Int->Int->Bool}(h0:OpR X (compareOp op) (rI0 λi j=>.bl (p i j))):OpR X (compareOp op) (vLt p):=by
 intro pins s σ H x y v u Q I rx ry h
 cases x<;>cases y<;>first
  | exact(show False from h).elim
  | exact h0 pins s σ H _ _ v u Q I rx ry ⟨_,_,rfl,rfl,h⟩
theorem opLt:OpR X (compareOp .Lt) (vLt λi j=>decide (i<j)):=zHY zMH
theorem opLe:OpR X (compareOp .LtE) (vLt λi j=>decide (i<=j)):=zHY zMI
theorem opGt:OpR X (compareOp .Gt) (vLt λi j=>decide (j<i)):=zHY zMJ
theorem opGe:OpR X (compareOp .GtE) (vLt λi j=>decide (j<=i)):=zHY zMK
theorem dI {i j:Int}:decide (V.int i=V.int j)=decide (i=j):=by simp
theorem dS {i j:Str}:decide (V.str i=V.str j)=decide (i=j):=by simp
theorem dB {i j:Bool}:decide (V.bl i=V.bl j)=decide (i=j):=by simp
def vIsN (n:Bool->Bool):R2:=λx y H Q=>match y with
 | .non=>match x with
  | .non=>Q (.bl (n true)) H
  | .int _=>Q (.bl (n false)) H
  | .ref _=>Q (.bl (n false)) H
  | .bl _=>Q (.bl (n false)) H
  | .str _=>Q (.bl (n false)) H
  | _=>False
 | _=>False
theorem opIs:OpR X (compareOp .Is) (vIsN id):=by
 intro pins s σ H x y v u Q I rx ry h
 cases y<;>first
  | exact(show False from h).elim
  | (cases x<;>first
   | exact(show False from h).elim
   | exact zKt pins s σ H _ _ v u Q I rx ry ⟨rfl,h⟩)
theorem zGG:OpR X (compareOp .IsNot) (vIsN not):=by
 intro pins s σ H x y v u Q I rx ry h
 cases y<;>first
  | exact(show False from h).elim
  | (cases x<;>first
   | exact(show False from h).elim
   | exact zI4 pins s σ H _ _ v u Q I rx ry ⟨rfl,h⟩)
def vNeg:V->Hp->VK->Prop:=λx H Q=>match x with
 | .int i=>Q (.int (-i)) H
 | _=>False
theorem zCz:UnR X (unaryOp .USub) vNeg:=by
 intro pins s σ H x v Q I rx h
 cases x<;>first
  | exact(show False from h).elim
  | exact zKs pins s σ H _ v Q I rx ⟨_,rfl,h⟩
def vIx (K:W.Frag):R2:=λx y H Q=>match x,y with
 | .ref a,.int i=>hIx K a i H Q
 | _,_=>False
theorem ixM : IxR X (vIx X.K) := by
  intro value slice pins s σ H x y v u Q I rx ry h
  cases x <;> cases y <;> first
    | exact (show False from h).elim
    | (have h := (show hIx _ _ _ H Q from h)
       unfold hIx at h
       obtain ⟨xs, w, h1 | h1, h2, h3⟩ := h
       · exact zJC value slice pins s σ H _ _ v u Q I rx ry ⟨_, xs, _, w, rfl, rfl, h1, h2, h3⟩
       · exact zKy value slice pins s σ H _ _ v u Q I rx ry ⟨_, xs, _, w, rfl, rfl, h1, h2, h3⟩)
def vSl (K:W.Frag):V->Option Int->Option Int->Hp->VK->Prop:=λx lo hi H Q=>match x with
 | .ref a=>hSl K a lo hi H Q
 | _=>False
theorem slM : SlR X (vSl X.K) := by
  intro pins s σ H x v vl vu lo hi sl Q I rx hs pl pu h
  cases x <;> first
    | exact (show False from h).elim
    | (have h := (show hSl _ _ _ _ H Q from h)
       unfold hSl at h
       obtain ⟨xs, h1, h2⟩ := h
       exact zJD pins s σ H _ v vl vu lo hi sl Q I rx hs pl pu ⟨_, xs, rfl, h1, h2⟩)
def zLB (t:TE):TO:=λσ H Q=>t σ H λx H1=>match x with
 | .int i=>Q (some i) H1
 | _=>False
theorem po_m {e:Expr}{te:TE}(h:PE X e te):PO X (some e) (zLB te):=by
 intro pins s σ H Q I hw
 rw[evalPart_some]
 refine thn (h pins s σ H _ I hw) λu s1 ⟨x,H1,I1,r1,q1⟩=>?_
 cases x<;>first
  | exact(show False from q1).elim
  | (obtain⟨t,rfl⟩:=r1;exact⟨some _,H1,I1,.int _ t,q1⟩)
@[irreducible] def hTru (K:W.Frag)(a:Addr)(H:Hp)(Q:Bool->Hp->Prop):Prop:=∃ xs,(SqL K H a xs\/SqT K H a xs)/\Q (!xs.isEmpty) H
def vTru (K:W.Frag)(x:V)(H:Hp)(Q:Bool->Hp->Prop):Prop:=match x with
 | .bl b=>Q b H
 | .int i=>Q (i != 0) H
 | .non=>Q false H
 | .ref a=>hTru K a H Q
 | _=>False
theorem zHZ {K : PySem.W.Frag} {x : V} {H : Hp} {Q : Bool → Hp → Prop} (h : vTru K x H Q) : ∃ k, TruV K x H k ∧ Q k H := by
  cases x <;> first
    | exact (show False from h).elim
    | exact ⟨_, rfl, h⟩
    | (have h := (show hTru _ _ H Q from h)
       unfold hTru at h
       obtain ⟨xs, h1 | h1, h2⟩ := h
       · exact ⟨_, .inl ⟨xs, h1, rfl⟩, h2⟩
       · exact ⟨_, .inr (.inl ⟨xs, h1, rfl⟩), h2⟩)
theorem zJX {pins:List (Addr×Obj)}{s:Shared}{σ:St}{H:Hp}{x:V}{v:Value}{Q:Bool->Hp->Prop}(I:Inv X pins σ H s)(r:RelV x v)(h:vTru X.K x H Q):wpAny (model X.prog X.w) X.A (truthy v) (TP X pins σ Q) X.xe s :=
 zKu pins s σ H x v Q I r (zHZ h)
def mT (K:W.Frag)(t:TE):TT:=λσ H Q=>t σ H λx H'=>vTru K x H' Q
theorem pt_m {a:Expr}{ta:TE}(ha:PE X a ta)(he:∀ whole,isTrue a X.env whole=(do let v <- whole;standAt a.pos;holding [v] (truthy v)):=by intro _;rfl):PT X a (mT X.K ta):=by
 intro pins s σ H Q I h
 exact isTrue_plain (thn (ha pins s σ H _ I h) λv s1 ⟨x,H1,I1,r1,q1⟩=>zJX I1 r1 q1) (he _)
def mB (t:TE):TT:=λσ H Q=>t σ H λx H'=>match x with
 | .bl k=>Q k H'
 | _=>False
section
variable {a b c:Expr}{ta tb tc:TE}{pos:Pos}{tA tB':TT}{rest:List Expr}
theorem zLC {op:CmpOp}{r:R2}(ho:OpR X (compareOp op) r)(ha:PE X a ta)(hb:PE X b tb)(hm:behindInMarks op b=false):PT X (.Compare a [op] [b] pos) (mB (tOp r ta tb)):=by
 intro pins s σ H Q I h
 refine wpAny_isTrue_Compare1 (thn (ha pins s σ H _ I h) λv s1 ⟨x,H1,I1,r1,q1⟩=>thn (hb pins s1 σ H1 _ I1 q1) λu s2 ⟨y,H2,I2,r2,q2⟩ =>
  thn (ho pins s2 σ H2 x y v u _ I2 r1 r2 q2) λc s3 ⟨z,H3,I3,r3,q3⟩=>?_) hm
 cases z<;>first
  | exact(show False from q3).elim
  | (cases r3;exact wpAny_truthy_bool ⟨H3,I3,q3⟩)
def zEW (r r':R2)(ta tb tc:TE):TE:=λσ H Q=>ta σ H λx H1=>tb σ H1 λy H2=>r x y H2 λz H3=>match z with
 | .bl k=>(k=true->tc σ H3 λw' H4=>r' y w' H4 Q)/\(k=false->Q (.bl false) H3)
 | _=>False
theorem zLD {op op':CmpOp}{r r':R2}(ho:OpR X (compareOp op) r)(ho':OpR X (compareOp op') r')(ha:PE X a ta)(hb:PE X b tb)(hc:PE X c tc)
  (hm:lastMarks [op,op'] [b,c]=false:=by with_unfolding_all rfl):PE X (.Compare a [op,op'] [b,c] pos) (zEW r r' ta tb tc):=by
 intro pins s σ H Q I h
 refine Compare_chain (thn (ha pins s σ H _ I h) λv s1 ⟨x,H1,I1,r1,q1⟩=>chain_link (thn (hb pins s1 σ H1 _ I1 q1) λu s2 ⟨y,H2,I2,r2,q2⟩ =>
  thn (ho pins s2 σ H2 x y v u _ I2 r1 r2 q2) λd s3 ⟨z,H3,I3,r3,q3⟩=>?_)) hm
 cases z<;>first
  | exact(show False from q3).elim
  | skip
 rename_i k
 cases r3
 refine wpAny_truthy_bool ?_
 cases k with
 | false=>exact ite_ff ⟨.bl false,H3,I3,rfl,q3.2 rfl⟩
 | true=>exact ite_tt (chain_last (thn (hc pins s3 σ H3 _ I3 (q3.1 rfl)) λw' s4 ⟨z',H4,I4,r4,q4⟩=>ho' pins s4 σ H4 y z' u w' Q I4 r2 r4 q4))
theorem zLE {op op':CmpOp}{r r':R2}(ho:OpR X (compareOp op) r)(ho':OpR X (compareOp op') r')(ha:PE X a ta)(hb:PE X b tb)(hc:PE X c tc)
  (hm:lastMarks [op,op'] [b,c]=false:=by with_unfolding_all rfl):PT X (.Compare a [op,op'] [b,c] pos) (mB (zEW r r' ta tb tc)):=by
 intro pins s σ H Q I h
 refine isTrue_chain (thn (ha pins s σ H _ I h) λv s1 ⟨x,H1,I1,r1,q1⟩=>test_link (thn (hb pins s1 σ H1 _ I1 q1) λu s2 ⟨y,H2,I2,r2,q2⟩ =>
  thn (ho pins s2 σ H2 x y v u _ I2 r1 r2 q2) λd s3 ⟨z,H3,I3,r3,q3⟩=>?_)) hm
 cases z<;>first
  | exact(show False from q3).elim
  | skip
 rename_i k
 cases r3
 refine wpAny_truthy_bool ?_
 cases k with
 | false=>exact ite_ff ⟨H3,I3,q3.2 rfl⟩
 | true =>
  refine ite_tt (test_last (thn (hc pins s3 σ H3 _ I3 (q3.1 rfl)) λw' s4 ⟨z',H4,I4,r4,q4⟩=>thn (ho' pins s4 σ H4 y z' u w' _ I4 r2 r4 q4) λd' s5 ⟨z2,H5,I5,r5,q5⟩=>?_))
  cases z2<;>first
   | exact(show False from q5).elim
   | (cases r5;exact wpAny_truthy_bool ⟨H5,I5,q5⟩)
def mAnd (t u:TT):TT:=λσ H Q=>t σ H λc H1=>(c=true->u σ H1 Q)/\(c=false->Q false H1)
def mOr (t u:TT):TT:=λσ H Q=>t σ H λc H1=>(c=true->Q true H1)/\(c=false->u σ H1 Q)
theorem zMY (ha:PT X a tA)(hb:PW X (.BoolOp .And (b::rest) pos) tB'):PW X (.BoolOp .And (a::b::rest) pos) (mAnd tA tB'):=by
 intro wh pins s σ H Q I h
 refine isTrue_and (thn (ha pins s σ H _ I h) λc s1 ⟨H1,I1,q1⟩=>?_)
 cases c with
 | true=>exact hb wh pins s1 σ H1 Q I1 (q1.1 rfl)
 | false=>exact⟨H1,I1,q1.2 rfl⟩
theorem zMZ (ha:PT X a tA)(hb:PW X (.BoolOp .Or (b::rest) pos) tB'):PW X (.BoolOp .Or (a::b::rest) pos) (mOr tA tB'):=by
 intro wh pins s σ H Q I h
 refine isTrue_or (thn (ha pins s σ H _ I h) λc s1 ⟨H1,I1,q1⟩=>?_)
 cases c with
 | true=>exact⟨H1,I1,q1.1 rfl⟩
 | false=>exact hb wh pins s1 σ H1 Q I1 (q1.2 rfl)
def zJY (K:W.Frag)(ta tb:TE):TE:=λσ H Q=>ta σ H λx H1=>vTru K x H1 λc H2=>(c=true->tb σ H2 Q)/\(c=false->Q x H2)
def zJZ (K:W.Frag)(ta:TE):TE:=λσ H Q=>ta σ H λx H1=>vTru K x H1 λc H2=>Q (.bl (!c)) H2
theorem zMa (ha:PE X a ta)(hb:PE X (.BoolOp .And (b::rest) pos) tb):PE X (.BoolOp .And (a::b::rest) pos) (zJY X.K ta tb):=by
 intro pins s σ H Q I h
 refine BoolOp_and (thn (ha pins s σ H _ I h) λv s1 ⟨x,H1,I1,r1,q1⟩=>?_)
 refine thn (zJX I1 r1 q1) λc s2 ⟨H2,I2,q2⟩=>?_
 cases c with
 | true=>exact hb pins s2 σ H2 Q I2 (q2.1 rfl)
 | false=>exact⟨x,H2,I2,r1,q2.2 rfl⟩
theorem zMb (ha:PE X a ta):PE X (.UnaryOp .Not a pos) (zJZ X.K ta):=by
 intro pins s σ H Q I h
 refine UnaryOp_ (thn (ha pins s σ H _ I h) λv s1 ⟨x,H1,I1,r1,q1⟩=>?_)
 exact not_of (thn (zJX I1 r1 q1) λc s2 ⟨H2,I2,q2⟩=>⟨.bl (!c),H2,I2,rfl,q2⟩)
end
section
variable {st:Stmt}{rest:List Stmt}{t u:TS}{e:Expr}{te:TE}{pos:Pos}
def mIfS (c:TT)(t u:TS):TS:=λD σ H=>c σ H λb H1=>(b=true->t D σ H1)/\(b=false->u D σ H1)
theorem zLF {c:Expr}{a b:List Stmt}{tc:TT}(hc:PT X c tc)(ha:PSs X a t)(hb:PSs X b u):PS X (.If c a b pos) (mIfS tc t u):=by
 intro pins s σ H D I h
 refine wpAny_If (thn (hc pins s σ H _ I h) λd s1 ⟨H1,I1,q1⟩=>?_)
 cases d with
 | true=>exact ha pins s1 σ H1 D I1 (q1.1 rfl)
 | false=>exact hb pins s1 σ H1 D I1 (q1.2 rfl)
def mMid (t u:TS):TS:=λD σ H=>∃ M:St->Hp->Prop,t { D with nx:=M } σ H/\∀ σ' H',M σ' H'->u D σ' H'
theorem zJa (h1:PS X st t)(h2:PSs X rest u):PSs X (st::rest) (mMid t u):=by
 intro pins s σ H D I h
 obtain⟨M,h,hM⟩:=h
 refine wpAny_execs_cons (thn (h1 pins s σ H { D with nx:=M } I h) λf s1 q=>?_)
 cases f with
 | next =>
  obtain⟨σ',H',I',q⟩:=q
  exact h2 pins s1 σ' H' D I' (hM _ _ q)
 | ret v=>exact q
 | brk=>exact q
 | cont=>exact q
def zGH (c:TT)(tb:TS):TS:=λD σ H=>∃ W:Nat->St->Hp->Prop,(∃ m,W m σ H)/\∀ m σ H,W m σ H ->
 c σ H λb H1=>(b=true->tb { D with nx:=λσ' H'=>∃ m',m'<m/\W m' σ' H',ct:=λσ' H'=>∃ m',m'<m/\W m' σ' H',bk:=D.nx } σ H1)/\(b=false->D.nx σ H1)
theorem zLG {c:Expr}{body:List Stmt}{tc:TT}{tb:TS}(hp:PassesOwn (model X.prog X.w) X.A X.env X.xe)(hc:PT X c tc)(hb:PSs X body tb):PS X (.While c body [] pos) (zGH tc tb):=by
 intro pins s σ H D I h
 obtain⟨W,⟨m0,w0⟩,turn⟩:=h
 refine wpAny_While (codeAny_whileLoop (λn s'=>∃ σ' H',Inv X pins σ' H' s'/\W n σ' H') ?_ m0 ⟨σ,H,I,w0⟩)
 rintro n s1 ⟨σ1,H1,I1,w1⟩
 refine wpAny_passesOwn hp (thn (hc pins s1 σ1 H1 _ I1 (turn n σ1 H1 w1)) λb s2 ⟨H2,I2,q2⟩=>?_)
 cases b with
 | true =>
  rw[if_pos rfl]
  refine wpAny_passesOwn hp (thn (hb pins s2 σ1 H2 _ I2 (q2.1 rfl)) λf s3 q3=>?_)
  cases f with
  | next =>
   obtain⟨σ3,H3,I3,m',hm,w3⟩:=q3
   exact⟨m',hm,σ3,H3,I3,w3⟩
  | cont =>
   obtain⟨σ3,H3,I3,m',hm,w3⟩:=q3
   exact⟨m',hm,σ3,H3,I3,w3⟩
  | brk=>exact q3
  | ret v=>exact q3
 | false =>
  rw[if_neg Bool.false_ne_true]
  exact wpAny_execs_nil ⟨σ1,H2,I2,q2.2 rfl⟩
theorem zBk {c:TT}{tb:TS}{D:Ends}{σ:St}{H:Hp}(W:Nat->St->Hp->Prop)(m:Nat)(h0:W m σ H)
  (hs:∀ m σ H,W m σ H->c σ H λb H1=>(b=true->tb { D with nx:=λσ' H'=>∃ m',m'<m/\W m' σ' H',ct:=λσ' H'=>∃ m',m'<m/\W m' σ' H',bk:=D.nx } σ H1)/\(b=false->D.nx σ H1)):zGH c tb D σ H:=⟨W,⟨m,h0⟩,hs⟩
def mAug (i:Nat)(te:TE)(ti:TIp):TS:=λD σ H=>match gt σ i with
 | some x=>te σ H λy H1=>ti x y H1 λz H2=>D.nx (σ.set i (some z)) H2
 | none=>False
theorem zJb {i:Nat}{x:Str}{e:Expr}{te:TE}{op:Operator}{ti:TIp}{pos':Pos}(hN:X.N.Nodup)(hi:X.N[i]?=some x)(hx:Loc X.env.scope x)(he:PE X e te)(ho:PIp X op ti)(hf:X.fn x=true\/X.env.scope.names.lookup x=some .local:=by first | exact .inl rfl | exact .inr rfl | assumption) :
  PS X (.AugAssign (.Name x pos') op e pos) (mAug i te ti):=(zKj hN hi hx he ho hf).imp λD σ H h=>by
 unfold mAug at h
 cases e:gt σ i with
 | none=>rw[e] at h;exact h.elim
 | some v=>rw[e] at h;exact⟨v,zD8 e,h⟩
def vIpI (f:Int->Int->Int):TIp:=λx y H Q=>match x,y with
 | .int i,.int j=>Q (.int (f i j)) H
 | _,_=>False
theorem zDZ:PIp X .Add (vIpI λi j=>i+j):=by
 intro pins s σ H x y v u Q I r1 r2 h
 cases x<;>cases y<;>first
  | exact(show False from h).elim
  | exact zKk pins s σ H _ _ v u Q I r1 r2 ⟨_,_,rfl,rfl,h⟩
theorem zMc:PIp X .Sub (vIpI λi j=>i-j):=by
 intro pins s σ H x y v u Q I r1 r2 h
 cases x<;>cases y<;>first
  | exact(show False from h).elim
  | exact zKl pins s σ H _ _ v u Q I r1 r2 ⟨_,_,rfl,rfl,h⟩
def vSet:TSet:=λo i v H Q=>match o,i with
 | .ref a,.int k=>hSet a k v H Q
 | _,_=>False
theorem setM:PSet X vSet:=by
 intro pins s σ H o i v ov iv u Q I ro ri rv h
 cases o<;>cases i<;>first
  | exact(show False from h).elim
  | (have h:=(show hSet _ _ _ H Q from h);unfold hSet at h;obtain⟨xs,j,h1,h2,h3⟩:=h;exact zHF pins s σ H _ _ v ov iv u Q I ro ri rv ⟨_,xs,_,j,rfl,rfl,h1,h2,h3⟩)
end
def mLst (t:TA):TE:=λσ H Q=>t σ H λxs H1=>zGC xs H1 Q
def mTup (t:TA):TE:=λσ H Q=>t σ H λxs H1=>zGD xs H1 Q
theorem zMd {es:List Expr}{t:TA}{pos:Pos}(h:PA X es t):PE X (.List es pos) (mLst t):=by
 intro pins s σ H Q I w
 refine zKw (t:=λσ H Q=>t σ H Q) h pins s σ H Q I ?_
 have w':t σ H λxs H1=>zGC xs H1 Q:=w
 unfold zGC at w'
 exact w'
theorem zMe {x1:Nat}{es:List Expr}{t:TA}{pos:Pos}(h:PA X es t):PE X (.Tuple es x1 pos) (mTup t):=by
 intro pins s σ H Q I w
 refine zKv (t:=λσ H Q=>t σ H Q) h pins s σ H Q I ?_
 have w':t σ H λxs H1=>zGD xs H1 Q:=w
 unfold zGD at w'
 exact w'
def vApp:V->List V->Hp->VK->Prop:=λx vs H Q=>match x,vs with
 | .ref a,[y]=>hApp a y H Q
 | _,_=>False
theorem zB8:MtM X "list.append" vApp:=by
 intro pins s σ H x vs v us Q I rx rv h
 unfold vApp at h
 split at h
 ·unfold hApp at h;obtain⟨xs,h1,h2,h3⟩:=h;exact zDS pins s σ H _ _ v us Q I rx rv ⟨_,xs,_,rfl,rfl,h1,h2,h3⟩
 ·exact h.elim
theorem zB9 {K:W.Frag}{H:Hp}{a:Addr}{xs:List V}(h:H a=some (.lst xs)):tyV K "list" (.ref a) H:=.inl ⟨rfl,_,SqL.of h⟩
def vSum (K:W.Frag):List V->Hp->VK->Prop:=λxs H Q=>match xs with
 | [.ref a]=>hSum K a H Q
 | _=>False
theorem zJc (hc:X.calm=true):CallR X (.builtin "sum") (vSum X.K):=(zHM hc).imp λxs H Q h=>by
 unfold vSum at h;split at h
 ·unfold hSum at h;obtain⟨ns,h1,h2⟩:=h;exact⟨_,ns,rfl,h1,h2⟩
 ·exact h.elim
def vMax (K:W.Frag):List V->Hp->VK->Prop:=λxs H Q=>match xs with
 | [.ref a]=>hMax K a H Q
 | [.int i,.int j]=>Q (.int (max i j)) H
 | _=>False
theorem zJd (hc:X.calm=true):CallR X (.builtin "max") (vMax X.K):=((zHN hc).or (zFl hc)).imp λxs H Q h=>by
 unfold vMax at h;split at h
 ·unfold hMax at h;obtain⟨ns,h1,h2⟩:=h;exact .inl ⟨_,ns,rfl,h1,h2⟩
 ·refine .inr ⟨_,_,rfl,?_⟩
  rename_i i j
  have e:(if j > i then j else i)=max i j:=by split<;>omega
  rw[e];exact h
 ·exact h.elim
def vMin (K:W.Frag):List V->Hp->VK->Prop:=λxs H Q=>match xs with
 | [.ref a]=>hMin K a H Q
 | [.int i,.int j]=>Q (.int (min i j)) H
 | _=>False
theorem zJe (hc:X.calm=true):CallR X (.builtin "min") (vMin X.K):=((zHO hc).or (zFm hc)).imp λxs H Q h=>by
 unfold vMin at h;split at h
 ·unfold hMin at h;obtain⟨ns,h1,h2⟩:=h;exact .inl ⟨_,ns,rfl,h1,h2⟩
 ·refine .inr ⟨_,_,rfl,?_⟩
  rename_i i j
  have e:(if j<i then j else i)=min i j:=by split<;>omega
  rw[e];exact h
 ·exact h.elim
def vLen (K:W.Frag):List V->Hp->VK->Prop:=λxs H Q=>match xs with
 | [.ref a]=>hLen K a H Q
 | _=>False
theorem zJf:CallR X (.builtin "len") (vLen X.K):=call_len_seq.imp λxs H Q h=>by
 unfold vLen at h;split at h
 ·unfold hLen at h;obtain⟨ys,h1,h2⟩:=h;exact⟨_,ys,rfl,h1,h2⟩
 ·exact h.elim
def zJg (K:W.Frag):List V->Hp->VK->Prop:=λxs H Q=>match xs with
 | [.ref a]=>zHV K a H Q
 | _=>False
theorem zHa:CallR X (.type "list") (zJg X.K):=call_list_of.imp λxs H Q h=>by
 unfold zJg at h;split at h
 ·unfold zHV at h;obtain⟨ys,h1,h2⟩:=h;exact⟨_,ys,rfl,h1,h2⟩
 ·exact h.elim
def vInt:List V->Hp->VK->Prop:=λxs H Q=>match xs with
 | [.int i]=>Q (.int i) H
 | [.bl k]=>Q (.int (if k then 1 else 0)) H
 | _=>False
theorem zJh:CallR X (.type "int") vInt:=call_int1.imp λxs H Q h=>by
 unfold vInt at h;split at h
 ·exact .inl ⟨_,rfl,h⟩
 ·exact .inr ⟨_,rfl,h⟩
 ·exact h.elim
def vIsi (K:W.Frag):List V->Hp->VK->Prop:=λxs H Q=>match xs with
 | [x,.ty c]=>hIsi K x c H Q
 | _=>False
theorem zJi:CallR X (.builtin "isinstance") (vIsi X.K):=call_isinstance.imp λxs H Q h=>by
 unfold vIsi at h;split at h
 ·unfold hIsi at h;obtain⟨t,h1,h2⟩:=h;exact⟨_,t,_,rfl,h1,h2⟩
 ·exact h.elim
end
section
variable {X:Cx}{tg:Expr}
def mItL (K:W.Frag)(tl:TE):TI:=λσ H R=>tl σ H λx H1=>match x with
 | .ref a=>(∃ xs,SqL K H1 a xs)/\R (Itl K a) H1
 | _=>False
theorem zMf {l:Expr}{tl:TE}(hl:PE X l tl):PI X tg l (mItL X.K tl):=by
 intro pins s σ H R I h
 refine thn (hl pins s σ H _ I h) λv s1 ⟨x,H1,I1,r1,q1⟩=>?_
 cases x<;>first
  | exact(show False from q1).elim
  | skip
 rename_i a
 obtain⟨⟨xs,hq⟩,q⟩:=(show (∃ xs,SqL X.K H1 a xs)/\R (Itl X.K a) H1 from q1)
 cases r1
 obtain⟨its,rv,p,hz⟩:=I1.list hq
 refine wpAny_pyIter_list p.isList ?_
 refine⟨s1.heap.objs.size,[s1.heap.objs.size],_,_,H1,rfl,I1.kept (t':=s1.toks) λb o e=>Heap.get?_push_of_some _ e,zFe a _,⟨_,Heap.get?_push_size _ rfl,rfl,rfl⟩,λb hb=>?_,q⟩
 have e:b=s1.heap.objs.size:=by simpa using hb
 subst e
 exact I1.fpOk (Nat.le_refl _) (I1.hok.fresh (Nat.le_refl _))
def upA (t:TA):TA:=λσ H Q=>∃ P:List V->Hp->Prop,t σ H P/\∀ vs H1,P vs H1->Q vs H1
theorem PA.up {es:List Expr}{t:TA}(h:PA X es t):PA X es (upA t):=by
 intro pos pins s σ H Q I w
 obtain⟨P,w,hP⟩:=w
 exact thn (h pos pins s σ H P I w) λus s1 ⟨vs,H1,I1,r1,q1⟩=>⟨vs,H1,I1,r1,hP _ _ q1⟩
def zJj (ta:TA):TI:=λσ H R=>ta σ H λvs H1=>match vs with
 | [.int j]=>(-(2 ^ 62)<=j/\j<2 ^ 62)/\R (Itr 0 j.toNat) H1
 | _=>False
def zJk (ta:TA):TI:=λσ H R=>ta σ H λvs H1=>match vs with
 | [.int i,.int j]=>(-(2 ^ 62)<=i/\i<2 ^ 62/\-(2 ^ 62)<=j/\j<2 ^ 62)/\R (Itr i (j-i).toNat) H1
 | _=>False
def zJl (ta:TA):TI:=λσ H R=>ta σ H λvs H1=>match vs with
 | [.int i,.int j,.int k]=>k=-1/\(-(2 ^ 61)<=i/\i<2 ^ 61/\-(2 ^ 61)<=j/\j<2 ^ 61)/\R (Itd i (i-j).toNat) H1
 | _=>False
def zHb (K:W.Frag)(ta:TA):TI:=λσ H R=>ta σ H λvs H1=>match vs with
 | [.ref a]=>(∃ xs,SqL K H1 a xs)/\R (Ite K a) H1
 | _=>False
theorem zMg {a:Expr}{ta:TA}{p pos:Pos}(hg:Gl X "range")(hm:X.mg "range"=none)(ha:PA X [a] ta)(hs:starEach [a] X.env=[(false,eval a X.env)]:=by rfl):PI X tg (.Call (.Name "range" p) [a] [] pos) (zJj ta) :=
 (zFf hg hm ha.up hs).imp λσ H R h=>⟨_,h,λvs H1 q=>by
  split at q
  ·exact⟨_,rfl,q.1.1,q.1.2,q.2⟩
  ·exact q.elim⟩
theorem zMh {a b:Expr}{ta:TA}{p pos:Pos}(hg:Gl X "range")(hm:X.mg "range"=none)(ha:PA X [a,b] ta)(hs:starEach [a,b] X.env=[(false,eval a X.env),(false,eval b X.env)]:=by rfl)(hs2:starEach [b] X.env=[(false,eval b X.env)]:=by rfl) :
  PI X tg (.Call (.Name "range" p) [a,b] [] pos) (zJk ta):=(zFg hg hm ha.up hs hs2).imp λσ H R h=>⟨_,h,λvs H1 q=>by
  split at q
  ·exact⟨_,_,rfl,q.1,q.2⟩
  ·exact q.elim⟩
theorem zMi {a b c:Expr}{ta:TA}{p pos:Pos}(hg:Gl X "range")(hm:X.mg "range"=none)(ha:PA X [a,b,c] ta)(hs:starEach [a,b,c] X.env=[(false,eval a X.env),(false,eval b X.env),(false,eval c X.env)]:=by rfl)(hs2:starEach [b,c] X.env=[(false,eval b X.env),(false,eval c X.env)]:=by rfl) :
  PI X tg (.Call (.Name "range" p) [a,b,c] [] pos) (zJl ta):=(zJO hg hm ha.up hs hs2).imp λσ H R h=>⟨_,h,λvs H1 q=>by
  split at q
  ·obtain⟨rfl,q1,q2⟩:=q;exact⟨_,_,rfl,q1,q2⟩
  ·exact q.elim⟩
theorem zMj {elts:List Expr}{x1:Nat}{tpos:Pos}{l:Expr}{ta:TA}{p pos:Pos}(hg:Gl X "enumerate")(hm:X.mg "enumerate"=none)(ha:PA X [l] ta)(hs:starEach [l] X.env=[(false,eval l X.env)]:=by rfl):PI X (.Tuple elts x1 tpos) (.Call (.Name "enumerate" p) [l] [] pos) (zHb X.K ta) :=
 (zJP hg hm ha.up hs).imp λσ H R h=>⟨_,h,λvs H1 q=>by
  split at q
  ·exact⟨_,rfl,q.1,q.2⟩
  ·exact q.elim⟩
@[irreducible] def hUnp (K:W.Frag)(a:Addr)(n:Nat)(H:Hp)(Q:List V->Prop):Prop:=∃ xs,SqT K H a xs/\xs.length=n/\Q xs
theorem zD9 {K:W.Frag}{a:Addr}{n:Nat}{H:Hp}{Q:List V->Prop}{xs:List V}(h:H a=some (.tup xs))(hl:xs.length=n)(q:Q xs):hUnp K a n H Q:=by unfold hUnp;exact⟨xs,SqT.of h,hl,q⟩
def gTm (K:W.Frag)(n:Nat)(t:TGs):TG:=λv σ H Q=>match v with
 | .ref a=>hUnp K a n H λxs=>t xs σ H Q
 | _=>False
theorem zMk {es:List Expr}{k:Nat}{t:TGs}{n:Nat}{pos:Pos}(hc:X.calm=true)(h:PGs X es t)
  (hn:(assignEach es X.env).length=n:=by rfl) (hst:(assignEach es X.env).findIdx? (·.1)=none:=by rfl):PG X (.Tuple es k pos) (gTm X.K n t):=by
 intro pins s σ H v u Q I r hw
 cases v<;>first
  | exact(show False from hw).elim
  | skip
 rename_i a
 have hw:=(show hUnp X.K a n H _ from hw)
 unfold hUnp at hw
 obtain⟨xs,h1,h2,h3⟩:=hw
 exact zKf hc h hn hst pins s σ H _ u Q I r ⟨a,xs,rfl,h1,h2,h3⟩
def gNm:TGs:=λvs σ H Q=>match vs with
 | []=>Q σ H
 | _=>False
def gCm (t:TG)(u:TGs):TGs:=λvs σ H Q=>match vs with
 | v::r=>t v σ H λσ' H'=>u r σ' H' Q
 | []=>False
theorem zLH:PGs X [] gNm:=by
 intro pins s σ H vs us Q I r h
 cases vs with
 | nil=>exact zI3 pins s σ H _ us Q I r ⟨rfl,h⟩
 | cons v vs=>exact(show False from h).elim
theorem zLI {e:Expr}{es:List Expr}{t:TG}{u:TGs}(h1:PG X e t)(h2:PGs X es u)
  (hs:(assignEach (e::es) X.env).map (·.2)=assign e X.env::(assignEach es X.env).map (·.2):=by rfl):PGs X (e::es) (gCm t u):=by
 intro pins s σ H vs us Q I r h
 cases vs with
 | nil=>exact(show False from h).elim
 | cons v vs=>exact zG9 h1 h2 hs pins s σ H _ us Q I r ⟨v,vs,rfl,h⟩
end
theorem dec2 {p A B:Prop}[Decidable p](h1:p->A)(h2:¬ p->B):(decide p=true->A)/\(decide p=false->B):=⟨λh=>h1 (of_decide_eq_true h),λh=>h2 (of_decide_eq_false h)⟩
theorem bT {A B:Prop}(h:A):(true=true->A)/\(true=false->B):=⟨λ_=>h,λz=>nomatch z⟩
theorem bF {A B:Prop}(h:B):(false=true->A)/\(false=false->B):=⟨λz=>(nomatch z),λ_=>h⟩
theorem bIs {b:Bool}{A B:Prop}(hb:b=true)(h:A):(b=true->A)/\(b=false->B):=⟨λ_=>h,λz=>by rw[hb] at z;cases z⟩
theorem bNo {b:Bool}{A B:Prop}(hb:b=false)(h:B):(b=true->A)/\(b=false->B):=⟨λz=>(by rw[hb] at z;cases z),λ_=>h⟩
end L2
namespace L2
open PySem PySem.Spec PyProof.Rows
section
variable {X:Cx}
theorem zBv {pos:Pos}{env:Env}:∀ {es:List Expr},es.all zAs=true->(backTo pos (starEach es env)).any (·.1)=false
 | [],_=>rfl
 | e::es,h=>by
  rw[List.all_cons,Bool.and_eq_true] at h
  rw[zAi h.1]
  have:=zBv (pos:=pos) (env:=env) h.2
  simp only[backTo,List.map_cons,List.any_cons] at this ⊢
  rw[this];rfl
theorem zAy {env:Env}:∀ {es:List Expr},es.all zAs=true->starEach es env=es.map λe=>(false,eval e env)
 | [],_=>rfl
 | e::es,h=>by
  rw[List.all_cons,Bool.and_eq_true] at h
  rw[zAi h.1,zAy h.2];rfl
def zCo:Expr->Bool
 | .ListComp ..=>false
 | .SetComp ..=>false
 | .DictComp ..=>false
 | _=>true
theorem zBl {e:Expr}{t:Option Expr}{n:Nat}{env:Env}(h:zCo e=true):swapsWith e t n env=pure false:=by
 cases e<;>first | rfl | cases h
theorem zMl {i:Nat}{x:Str}{e:Expr}{te:TE}{pos pos':Pos}(hN:X.N.Nodup)(hi:X.N[i]?=some x)(hx:Loc X.env.scope x)(he:PE X e te)(hs:zCo e=true:=by rfl)(hf:X.fn x=true\/X.env.scope.names.lookup x=some .local:=by first | exact .inl rfl | exact .inr rfl | assumption) :
  PS X (.Assign [.Name x pos'] e pos) (tAsg te (zBg i)):=zKi hN hi hx he (zBl hs) hf
theorem zMm {e:Expr}{te:TE}{pos:Pos}(he:PE X e te)(hs:zCo e=true:=by rfl):PS X (.Expr e pos) (zI0 te):=zI1 he (zBl hs)
structure Def (P:Program)(w:World)(K:W.Frag)(mg:Str->Option Value)(base:Heap)(k:Nat)(x:Str)(ps:List Str)(sp:Sp):Prop where
 ex:∃ f fd,FnOk P w K mg base CX0 k f fd ps sp/\Binds K fd ps []/\W.keepIn K (.ref f)=true/\mg x=some (.ref f)
theorem zLJ {k j:Nat}{x:Str}{ps:List Str}{sp:Sp}{e:Expr}{es:List Expr}{t:TA}{p pos:Pos}(D:Def X.prog X.w X.K X.mg X.base k x ps sp)(hr:Room j X.A)(hj:k<=j)(hg:Gl X x)(ha:PA X (e::es) t)(hp:(e::es).all zAs=true:=by rfl)(hdb:(x == ("__debug__":Str))=false:=by decide) :
  PE X (.Call (.Name x p) (e::es) [] pos) (zI9 sp [] E0 t):=by
 obtain⟨f,fd,F,b,kp,m⟩:=D.ex
 rw[List.all_cons,Bool.and_eq_true] at hp
 exact zJA F (hr.mono hj) hg m kp b .nil zMP ha (hdb:=hdb) (he:=zAi hp.1) (hpl:=zBv hp.2)
theorem zMn {x:Str}{id:String}{r:List V->Hp->VK->Prop}{e:Expr}{es:List Expr}{t:TA}{p pos:Pos}(hc:CallR X (.builtin id) r)(hg:Gl X x)(hm:X.mg x=none)(hv:bootBuiltins x=some (.builtin id))(ha:PA X (e::es) t)(hp:(e::es).all zAs=true:=by rfl)(hn:x≠"__name__":=by decide)(hdb:(x == ("__debug__":Str))=false:=by decide) :
  PE X (.Call (.Name x p) (e::es) [] pos) (tCB r t):=by
 rw[List.all_cons,Bool.and_eq_true] at hp
 exact zHD hc hg hm hv ha hn hdb (zAi hp.1) (zBv hp.2)
theorem zMo {x:Str}{T:String}{r:List V->Hp->VK->Prop}{e:Expr}{es:List Expr}{t:TA}{p pos:Pos}(hc:CallR X (.type T) r)(hg:Gl X x)(hm:X.mg x=none)(hv:bootBuiltins x=some (.type T))(ha:PA X (e::es) t)(hp:(e::es).all zAs=true:=by rfl)(hn:x≠"__name__":=by decide)(hdb:(x == ("__debug__":Str))=false:=by decide) :
  PE X (.Call (.Name x p) (e::es) [] pos) (tCB r t):=by
 rw[List.all_cons,Bool.and_eq_true] at hp
 exact zFr hc hg hm hv ha hn hdb (zAi hp.1) (zBv hp.2)
theorem zGI {cpos : Pos} {e : Expr} {env : Env} (hp : zAs e = true) : ((backTo cpos (starEach [e] env)).all (fun x => !x.1) && (backToKw cpos (keywordEach [] env)).all (fun x => x.1.isSome)
      && decide (([e]:List Expr).length+([]:List Keyword).length+(if ([]:List Keyword).isEmpty then 0 else 1)<30))=true:=by
  rw[zAi hp];rfl
theorem zMp {o e:Expr}{to te:TE}{name:Str}{apos cpos:Pos}{T id:String}{r:V->List V->Hp->VK->Prop}(pa:PlainAttrs T)(slot:Slot T name id)(hty:typeOf (.builtin id)=pure (.type "method_descriptor"))(hm:MtR X id r)(ho:PE X o to)(ha:PE X e te)
  (hp:zAs e=true:=by rfl) (hbase:attributeBase o name X.env (eval o X.env)=eval o X.env:=by rfl) (hline:(apos.endLine == cpos.line)=true:=by rfl) :
  PE X (.Call (.Attribute o name apos) [e] [] cpos) (tBM X.K T r to (zE4 te tNil)) :=
 zMO pa slot hty hm ho (pac ha zIU hp) hbase (zGI hp) hline (zAi hp) rfl
theorem zMq {tg a:Expr}{ta:TA}{p pos:Pos}(hg:Gl X "range")(hm:X.mg "range"=none)(ha:PA X [a] ta)(hp:zAs a=true:=by rfl):PI X tg (.Call (.Name "range" p) [a] [] pos) (zJj ta):=zMg hg hm ha (zAi hp)
theorem zMr {tg a b:Expr}{ta:TA}{p pos:Pos}(hg:Gl X "range")(hm:X.mg "range"=none)(ha:PA X [a,b] ta)(hp:[a,b].all zAs=true:=by rfl):PI X tg (.Call (.Name "range" p) [a,b] [] pos) (zJk ta):=by
 have h2:[b].all zAs=true:=by simp only[List.all_cons,List.all_nil,Bool.and_true,Bool.and_eq_true] at hp ⊢;exact hp.2
 exact zMh hg hm ha (zAy hp) (zAy h2)
theorem zMs {tg a b c:Expr}{ta:TA}{p pos:Pos}(hg:Gl X "range")(hm:X.mg "range"=none)(ha:PA X [a,b,c] ta)(hp:[a,b,c].all zAs=true:=by rfl):PI X tg (.Call (.Name "range" p) [a,b,c] [] pos) (zJl ta):=by
 have h2:[b,c].all zAs=true:=by simp only[List.all_cons,List.all_nil,Bool.and_true,Bool.and_eq_true] at hp ⊢;exact hp.2
 exact zMi hg hm ha (zAy hp) (zAy h2)
theorem zMt {elts:List Expr}{x1:Nat}{tpos:Pos}{l:Expr}{ta:TA}{p pos:Pos}(hg:Gl X "enumerate")(hm:X.mg "enumerate"=none)(ha:PA X [l] ta)(hp:zAs l=true:=by rfl):PI X (.Tuple elts x1 tpos) (.Call (.Name "enumerate" p) [l] [] pos) (zHb X.K ta):=zMj hg hm ha (zAi hp)
def zEA:Expr->Bool
 | .Set ..=>false
 | _=>true
theorem zCA {e:Expr}{env:Env}(h:zEA e=true):∀ x,foldedSetIterable e env x=pure x:=by
 intro x;cases e<;>first | rfl | cases h
theorem zMu {tg iter:Expr}{body:List Stmt}{wi:TI}{g:TG}{tb:TS}{pos:Pos}(hp:PassesOwn (model X.prog X.w) X.A X.env X.xe)(hc:X.calm=true)(hi:PI X tg iter wi)(hg:PG X tg g)(hb:PSs X body tb)
  (hs:zEA iter=true:=by rfl):PS X (.For tg iter body [] pos) (tFor wi g tb):=zKm hp hc hi hg hb (zCA hs)
def zBw:Expr->Bool
 | .Starred ..=>false
 | _=>true
theorem zAz {e:Expr}{es:List Expr}{env:Env}(h:zBw e=true):assignEach (e::es) env=(false,assign e env)::assignEach es env:=by
 cases e<;>first | rfl | cases h
theorem zMv {e:Expr}{es:List Expr}{t:TG}{u:TGs}(h1:PG X e t)(h2:PGs X es u)(hp:zBw e=true:=by rfl):PGs X (e::es) (gCm t u):=zLI h1 h2 (by rw[zAz hp];rfl)
theorem zBI {env:Env}:∀ {es:List Expr},es.all zBw=true->(assignEach es env).length=es.length/\(assignEach es env).findIdx? (·.1)=none
 | [],_=>⟨rfl,rfl⟩
 | e::es,h=>by
  rw[List.all_cons,Bool.and_eq_true] at h
  obtain⟨h1,h2⟩:=zBI (env:=env) h.2
  rw[zAz h.1]
  refine⟨by rw[List.length_cons,h1,List.length_cons],?_⟩
  rw[List.findIdx?_cons,h2];rfl
theorem pg_t {es:List Expr}{k:Nat}{t:TGs}{pos:Pos}(hc:X.calm=true)(h:PGs X es t)(hp:es.all zBw=true:=by rfl):PG X (.Tuple es k pos) (gTm X.K es.length t):=zMk hc h (zBI hp).1 (zBI hp).2
end
end L2
namespace L2
open PySem PySem.Spec PyProof.Rows
structure QE (X:Cx)(e:Expr)(t:TE):Prop where
 h:PE X e t
structure QT (X:Cx)(e:Expr)(t:TT):Prop where
 h:PT X e t
structure QW (X:Cx)(e:Expr)(t:TT):Prop where
 h:PW X e t
structure QA (X:Cx)(es:List Expr)(t:TA):Prop where
 h:PA X es t
 p:es.all zAs=true
structure QS (X:Cx)(st:Stmt)(t:TS):Prop where
 h:PS X st t
structure QB (X:Cx)(st:List Stmt)(t:TS):Prop where
 h:PSs X st t
structure QG (X:Cx)(e:Expr)(t:TG):Prop where
 h:PG X e t
structure QGs (X:Cx)(es:List Expr)(t:TGs):Prop where
 h:PGs X es t
 p:es.all zBw=true
structure QI (X:Cx)(tg e:Expr)(t:TI):Prop where
 h:PI X tg e t
structure QIf (X:Cx)(es:List Expr)(t:TT):Prop where
 h:PIfs X es t
structure QO (X:Cx)(e:Option Expr)(t:TO):Prop where
 h:PO X e t
section
variable {X:Cx}{e a b c o tg:Expr}{es rest:List Expr}{te ta tb tc to:TE}{t:TA}{pos p p2:Pos}{st:Stmt}{sts:List Stmt}{x:Str}
theorem zAr:QB X [] zKd:=⟨zIy⟩
theorem zAH {u:TS}(h:QS X st u):QB X [st] u:=⟨zIz h.h⟩
theorem zAE {u v:TS}(h1:QS X st u)(h2:QB X sts v):QB X (st::sts) (tSeq u v):=⟨zG7 h1.h h2.h⟩
theorem zAY {u v:TS}(h1:QS X st u)(h2:QB X sts v):QB X (st::sts) (mMid u v):=⟨zJa h1.h h2.h⟩
theorem zEX:QS X st zIR:=⟨zG8⟩
theorem zAR (h:QE X e te):QS X (.Return (some e) pos) (tRet te):=⟨zKe h.h⟩
theorem zBQ (h:QE X e te)(hs:zCo e=true:=by rfl):QS X (.Expr e pos) (zI0 te):=⟨zMm h.h hs⟩
theorem zAJ {i:Nat}(hN:X.N.Nodup)(hi:X.N[i]?=some x)(hx:Loc X.env.scope x)(hf:X.fn x=true\/X.env.scope.names.lookup x=some .local)(he:QE X e te)(hs:zCo e=true:=by rfl) :
  QS X (.Assign [.Name x p] e pos) (tAsg te (zBg i)):=⟨zMl hN hi hx he.h hs hf⟩
theorem zGJ {g:TG}(he:QE X e te)(hg:QG X tg g)(hs:zCo e=true:=by rfl)(hw:swappedStores [tg] e X.env=pure none:=by rfl)(hp:zBw tg=true:=by rfl):QS X (.Assign [tg] e pos) (tAsg te g) :=
 ⟨zKh he.h hg.h (zBl hs) hw (by rw[zAz hp];rfl)⟩
theorem zBx {i:Nat}{op:Operator}{ti:TIp}(hN:X.N.Nodup)(hi:X.N[i]?=some x)(hx:Loc X.env.scope x)(hf:X.fn x=true\/X.env.scope.names.lookup x=some .local)(he:QE X e te)(ho:PIp X op ti):QS X (.AugAssign (.Name x p) op e pos) (mAug i te ti) :=
 ⟨zJb hN hi hx he.h ho hf⟩
theorem zA8 {s1 s2:List Stmt}{tc:TT}{u v:TS}(hc:QT X c tc)(ha:QB X s1 u)(hb:QB X s2 v):QS X (.If c s1 s2 pos) (mIfS tc u v):=⟨zLF hc.h ha.h hb.h⟩
theorem zBJ {tc:TT}{u:TS}(hp:PassesOwn (model X.prog X.w) X.A X.env X.xe)(hc:QT X c tc)(hb:QB X sts u):QS X (.While c sts [] pos) (zGH tc u):=⟨zLG hp hc.h hb.h⟩
theorem zAm {wi:TI}{g:TG}{u:TS}(hp:PassesOwn (model X.prog X.w) X.A X.env X.xe)(hc:X.calm=true)(hi:QI X tg e wi)(hg:QG X tg g)(hb:QB X sts u)(hs:zEA e=true:=by rfl):QS X (.For tg e sts [] pos) (tFor wi g u):=⟨zMu hp hc hi.h hg.h hb.h hs⟩
theorem zAL {i:Nat}(hN:X.N.Nodup)(hi:X.N[i]?=some x)(hx:Loc X.env.scope x)(hf:X.fn x=true\/X.env.scope.names.lookup x=some .local):QG X (.Name x pos) (zBg i):=⟨zI2 hN hi hx hf⟩
theorem zBm:QGs X [] gNm:=⟨zLH,rfl⟩
theorem zAk {g:TG}{u:TGs}(h1:QG X e g)(h2:QGs X es u)(hp:zBw e=true:=by rfl):QGs X (e::es) (gCm g u):=⟨zMv h1.h h2.h hp,by rw[List.all_cons,hp,h2.p];rfl⟩
theorem zLK {k:Nat}{u:TGs}(hc:X.calm=true)(h:QGs X es u):QG X (.Tuple es k pos) (gTm X.K es.length u):=⟨pg_t hc h.h h.p⟩
theorem zGK (ho : QE X o to) (hi : QE X e te) (hs : PSet X vSet) (ha : ∀ v, assign (.Subscript o e pos) X.env v = (do
      let ov <- holding [v] (eval o X.env)
      let iv <- holding [v,ov] (eval e X.env)
      standAt pos
      holding [v,ov,iv] (setItem ov iv v)
      release [v,ov,iv] []):=by intro _;rfl):QG X (.Subscript o e pos) (gSub to te vSet):=⟨zKg ho.h hi.h hs ha⟩
theorem zJm (h:QE X e te):QI X tg e (mItL X.K te):=⟨zMf h.h⟩
theorem zCT (hg:Gl X "range")(hm:X.mg "range"=none)(h:QA X [a] t):QI X tg (.Call (.Name "range" p) [a] [] pos) (zJj t):=⟨zMq hg hm h.h (by have:=h.p;simpa using this)⟩
theorem zJn (hg:Gl X "range")(hm:X.mg "range"=none)(h:QA X [a,b] t):QI X tg (.Call (.Name "range" p) [a,b] [] pos) (zJk t):=⟨zMr hg hm h.h h.p⟩
theorem zJo (hg:Gl X "range")(hm:X.mg "range"=none)(h:QA X [a,b,c] t):QI X tg (.Call (.Name "range" p) [a,b,c] [] pos) (zJl t):=⟨zMs hg hm h.h h.p⟩
theorem zJp {k:Nat}(hg:Gl X "enumerate")(hm:X.mg "enumerate"=none)(h:QA X [a] t):QI X (.Tuple es k p2) (.Call (.Name "enumerate" p) [a] [] pos) (zHb X.K t):=⟨zMt hg hm h.h (by have:=h.p;simpa using this)⟩
theorem zAC:QA X [] tNil:=⟨zIU,rfl⟩
theorem zAB (h1:QE X e te)(h2:QA X es t)(hp:zAs e=true:=by rfl):QA X (e::es) (zE4 te t):=⟨pac h1.h h2.h hp,by rw[List.all_cons,hp,h2.p];rfl⟩
theorem qv (i:Nat)(hN:X.N[i]?=some x)(hv:Vis X.env.scope x)(hd:(x == ("__debug__":Str))=false:=by decide)(hcd:(x == ("__classdict__":Str))=false:=by decide):QE X (.Name x pos) (mVar i):=⟨mv i hN hv hd hcd⟩
theorem zAD {i:Int}{j:Nat}:QE X (.Constant (.int i) j pos) (tC (.int i)):=⟨zKY⟩
theorem zEB {i:Bool}{j:Nat}:QE X (.Constant (.bool i) j pos) (tC (.bl i)):=⟨zMB⟩
theorem zCU {j:Nat}:QE X (.Constant .none j pos) (tC .non):=⟨zKZ⟩
theorem zFI {T:String}(hg:Gl X x)(hm:X.mg x=none)(hv:bootBuiltins x=some (.type T))(hn:x≠"__name__":=by decide)(hd:(x == ("__debug__":Str))=false:=by decide):QE X (.Name x pos) (tC (.ty T)):=⟨zK8 hg hm hv hn hd⟩
theorem zAO {op:Operator}{r:R2}(ho:OpR X (binaryOp op) r)(ha:QE X a ta)(hb:QE X b tb):QE X (.BinOp a op b pos) (tOp r ta tb):=⟨zMF ho ha.h hb.h⟩
theorem zC0 {op:UnaryOp}{r:V->Hp->VK->Prop}(ho:UnR X (unaryOp op) r)(ha:QE X a ta):QE X (.UnaryOp op a pos) (tUn r ta):=⟨zMG ho ha.h⟩
theorem zLL (ha:QE X a ta):QE X (.UnaryOp .Not a pos) (zJZ X.K ta):=⟨zMb ha.h⟩
theorem zGL {op:CmpOp}{r:R2}(ho:OpR X (compareOp op) r)(ha:QE X a ta)(hb:QE X b tb)(h1:op≠.In:=by decide)(h2:op≠.NotIn:=by decide):QE X (.Compare a [op] [b] pos) (tOp r ta tb):=⟨zI5 ho ha.h hb.h (zIT b h1 h2)⟩
theorem zHc {op op':CmpOp}{r r':R2}(ho:OpR X (compareOp op) r)(ho':OpR X (compareOp op') r')(ha:QE X a ta)(hb:QE X b tb)(hc:QE X c tc)(hm:lastMarks [op,op'] [b,c]=false:=by with_unfolding_all rfl):QE X (.Compare a [op,op'] [b,c] pos) (zEW r r' ta tb tc):=⟨zLD ho ho' ha.h hb.h hc.h hm⟩
theorem zGM {op:BoolOp}(h:QE X a ta):QE X (.BoolOp op [a] pos) ta:=⟨zKc h.h⟩
theorem zLM (ha:QE X a ta)(hb:QE X (.BoolOp .And (b::rest) pos) tb):QE X (.BoolOp .And (a::b::rest) pos) (zJY X.K ta tb):=⟨zMa ha.h hb.h⟩
theorem zAf (h:QA X es t):QE X (.List es pos) (mLst t):=⟨zMd h.h⟩
theorem zCp {k:Nat}(h:QA X es t):QE X (.Tuple es k pos) (mTup t):=⟨zMe h.h⟩
theorem zEC:QO X none zFs:=⟨zJB⟩
theorem zBT (h:QE X e te):QO X (some e) (zLB te):=⟨po_m h.h⟩
theorem zHd {lo hi:Option Expr}{tl th:TO}(he:QE X e te)(hl:QO X lo tl)(hu:QO X hi th):QE X (.Subscript e (.Slice lo hi none p2) pos) (tSl (vSl X.K) te tl th):=⟨zHE slM he.h hl.h hu.h⟩
theorem zMw (ha:QE X a ta)(hb:QE X b tb)(hs:zD3 b):QE X (.Subscript a b pos) (tOp (vIx X.K) ta tb):=⟨zMM ixM ha.h hb.h hs⟩
theorem zAN {k j:Nat}{ps:List Str}{sp:Sp}(D:Def X.prog X.w X.K X.mg X.base k x ps sp)(hr:Room j X.A)(hj:k<=j)(hg:Gl X x)(ha:QA X (e::es) t)(hdb:(x == ("__debug__":Str))=false:=by decide):QE X (.Call (.Name x p) (e::es) [] pos) (zI9 sp [] E0 t):=⟨zLJ D hr hj hg ha.h ha.p hdb⟩
theorem zAa {id:String}{r:List V->Hp->VK->Prop}(hc:CallR X (.builtin id) r)(hg:Gl X x)(hm:X.mg x=none)(hv:bootBuiltins x=some (.builtin id))(ha:QA X (e::es) t)(hn:x≠"__name__":=by decide)(hdb:(x == ("__debug__":Str))=false:=by decide):QE X (.Call (.Name x p) (e::es) [] pos) (tCB r t):=⟨zMn hc hg hm hv ha.h ha.p hn hdb⟩
theorem zLN {T:String}{r:List V->Hp->VK->Prop}(hc:CallR X (.type T) r)(hg:Gl X x)(hm:X.mg x=none)(hv:bootBuiltins x=some (.type T))(ha:QA X (e::es) t)(hn:x≠"__name__":=by decide)(hdb:(x == ("__debug__":Str))=false:=by decide):QE X (.Call (.Name x p) (e::es) [] pos) (tCB r t):=⟨zMo hc hg hm hv ha.h ha.p hn hdb⟩
theorem zHe {pos2:Pos}(hc:X.calm=true)(hg:Gl X "list")(hm:X.mg "list"=none)(hg2:Gl X "enumerate")(hm2:X.mg "enumerate"=none)(ha:QA X [a] t):QE X (.Call (.Name "list" p) [.Call (.Name "enumerate" p2) [a] [] pos2] [] pos) (zGA X.K t) :=
 ⟨zHT hc hg hm hg2 hm2 ha.h (zAy ha.p)⟩
theorem zMx {name:Str}{T id:String}{r:V->List V->Hp->VK->Prop}(pa:PlainAttrs T)(slot:Slot T name id)(hty:typeOf (.builtin id)=pure (.type "method_descriptor"))(hm:MtR X id r)(ho:QE X o to)(ha:QE X e te)
  (hp:zAs e=true:=by rfl) (hbase:attributeBase o name X.env (eval o X.env)=eval o X.env:=by rfl) (hline:(p.endLine == pos.line)=true:=by rfl):QE X (.Call (.Attribute o name p) [e] [] pos) (tBM X.K T r to (zE4 te tNil)):=⟨zMp pa slot hty hm ho.h ha.h hp hbase hline⟩
theorem zAX {op:CmpOp}{r:R2}(ho:OpR X (compareOp op) r)(ha:QE X a ta)(hb:QE X b tb)(h1:op≠.In:=by decide)(h2:op≠.NotIn:=by decide):QT X (.Compare a [op] [b] pos) (mB (tOp r ta tb)):=⟨zLC ho ha.h hb.h (zIT b h1 h2)⟩
theorem zEY {op op':CmpOp}{r r':R2}(ho:OpR X (compareOp op) r)(ho':OpR X (compareOp op') r')(ha:QE X a ta)(hb:QE X b tb)(hc:QE X c tc)(hm:lastMarks [op,op'] [b,c]=false:=by with_unfolding_all rfl):QT X (.Compare a [op,op'] [b,c] pos) (mB (zEW r r' ta tb tc)):=⟨zLE ho ho' ha.h hb.h hc.h hm⟩
theorem zC1 {tA:TT}(ha:QT X a tA):QW X (.BoolOp .And [a] pos) tA:=⟨zIx ha.h⟩
theorem zIY {tA:TT}(ha:QT X a tA):QW X (.BoolOp .Or [a] pos) tA:=⟨zKa ha.h⟩
theorem zEZ {tA tB':TT}(ha:QT X a tA)(hb:QW X (.BoolOp .And (b::rest) pos) tB'):QW X (.BoolOp .And (a::b::rest) pos) (mAnd tA tB'):=⟨zMY ha.h hb.h⟩
theorem zJq {tA tB':TT}(ha:QT X a tA)(hb:QW X (.BoolOp .Or (b::rest) pos) tB'):QW X (.BoolOp .Or (a::b::rest) pos) (mOr tA tB'):=⟨zMZ ha.h hb.h⟩
theorem QW.pt {tA:TT}(h:QW X a tA):QT X a tA:=⟨h.h.pt⟩
theorem zCq {tA:TT}(ha:QT X a tA):QT X (.UnaryOp .Not a pos) (tNot tA):=⟨zKb ha.h⟩
theorem zLO (ha:QE X a ta)(he:∀ whole,isTrue a X.env whole=(do let v <- whole;standAt a.pos;holding [v] (truthy v)):=by intro _;rfl):QT X a (mT X.K ta):=⟨pt_m ha.h he⟩
theorem zC2:QIf X [] tYes:=⟨zHP⟩
theorem zBn {tA:TT}(h:QT X c tA):QIf X [c] tA:=⟨zHQ h.h⟩
theorem zJr (N':List Str)(caps:List (Option Nat)){elt iter:Expr}{ifs:List Expr}{scope:Scope}{wi:TI}{g:TG}{tt:TT}(hc:X.calm=true)(hi:QI X tg iter wi)
  (hg:∀ pins cl C s0 H0 fp,QG (zAT X pins N' scope cl C s0 H0 fp) tg g) (ht:∀ pins cl C s0 H0 fp,QIf (zAT X pins N' scope cl C s0 H0 fp) ifs tt) (he:∀ pins cl C s0 H0 fp,QE (zAT X pins N' scope cl C s0 H0 fp) elt te)
  (hcap:zB7 N' caps X.N X.env.scope.names scope.names=true:=by kernel_rfl) (hkind:scope.kind=.function:=by rfl) (hs:zEA iter=true:=by rfl) :
  QE X (.ListComp elt [⟨tg,iter,ifs,0⟩] scope pos) (zFC caps wi g tt te) :=
 ⟨zJM N' caps hc hi.h (λa b c d e f=>(hg a b c d e f).h) (λa b c d e f=>(ht a b c d e f).h) (λa b c d e f=>(he a b c d e f).h) hcap hkind (zCA hs)⟩
theorem zJs (N':List Str)(caps:List (Option Nat)){i:Nat}{elt iter:Expr}{ifs:List Expr}{scope:Scope}{wi:TI}{g:TG}{tt:TT}(hc:X.calm=true)(hN:X.N.Nodup)(hy:X.N[i]?=some x)(hl:Loc X.env.scope x)(hf:X.fn x=true\/X.env.scope.names.lookup x=some .local)(hi:QI X tg iter wi)
  (hg:∀ pins cl C s0 H0 fp,QG (zAT X pins N' scope cl C s0 H0 fp) tg g) (ht:∀ pins cl C s0 H0 fp,QIf (zAT X pins N' scope cl C s0 H0 fp) ifs tt) (he:∀ pins cl C s0 H0 fp,QE (zAT X pins N' scope cl C s0 H0 fp) elt te)
  (hsw:swapsWith (.ListComp elt [⟨tg,iter,ifs,0⟩] scope pos) (some (.Name x p)) p2.line X.env=pure true:=by rfl)
  (hcap:zB7 N' caps X.N X.env.scope.names scope.names=true:=by kernel_rfl) (hkind:scope.kind=.function:=by rfl) (hs:zEA iter=true:=by rfl) :
  QS X (.Assign [.Name x p] (.ListComp elt [⟨tg,iter,ifs,0⟩] scope pos) p2) (tAsg (zFC caps wi g tt te) (zBg i)) :=
 ⟨zJN N' caps hc hN hy hl hi.h (λa b c d e f=>(hg a b c d e f).h) (λa b c d e f=>(ht a b c d e f).h) (λa b c d e f=>(he a b c d e f).h) hsw hcap hkind (zCA hs) hf⟩
end
theorem Fun.okq {P:Program}{w:World}{K:W.Frag}{mg:Str->Option Value}{base:Heap}{x qual:Str}{st:Stmt}{f:Addr}{fd:FuncData}{N ps:List Str}{k:Nat}{sp:Sp}(F:Fun K x qual st f fd)(S:FnScope N ps (zAA st))(len:∀ vs H Q E,sp vs H Q E->vs.length=ps.length)
  (hbody:∀ (cdv:Value) (A:Around) (outer:List Env) (s:Shared) (H:Hp) (vs:List V) (Q:VK) (E:XK),Room k (A.deeper (envOfC qual (zAA st) s.heap.objs.size f cdv))->sp vs H Q E ->
   ∃ T:{ t:TS // QB (cxOf CX0 P w K mg base N qual (zAA st) f cdv A outer s H E).nox (zAF st) t },T.1 { nx:=λ_ H'=>Q .non H',rt:=Q } (start N vs) H):FnOk P w K mg base CX0 (k+1) f fd ps sp :=
 F.ok S len λcdv A outer s H vs Q E hr h=>let ⟨T,q⟩:=hbody cdv A outer s H vs Q E hr h;⟨T.1,T.2.h,q⟩
end L2
namespace L2
open PySem PySem.Spec PyProof.Rows
def upE (t:TE):TE:=λσ H Q=>∃ P:VK,t σ H P/\∀ v H1,P v H1->Q v H1
def upT (t:TT):TT:=λσ H Q=>∃ P:Bool->Hp->Prop,t σ H P/\∀ v H1,P v H1->Q v H1
def upG (t:TG):TG:=λv σ H Q=>∃ P:St->Hp->Prop,t v σ H P/\∀ σ1 H1,P σ1 H1->Q σ1 H1
section
variable {X:Cx}{e a b c tg:Expr}{te:TE}{pos p p2:Pos}{x:Str}
theorem QE.up (h:QE X e te):QE X e (upE te):=⟨by
 intro pins s σ H Q I w
 obtain⟨P,w,hP⟩:=w
 exact thn (h.h pins s σ H P I w) λu s1 ⟨v,H1,I1,r1,q1⟩=>⟨v,H1,I1,r1,hP _ _ q1⟩⟩
theorem QIf.up {es:List Expr}{tt:TT}(h:QIf X es tt):QIf X es (upT tt):=⟨by
 intro pins s σ H Q I w
 obtain⟨P,w,hP⟩:=w
 exact thn (h.h pins s σ H P I w) λu s1 ⟨H1,I1,q1⟩=>⟨H1,I1,hP _ _ q1⟩⟩
theorem QG.up {g:TG}(h:QG X e g):QG X e (upG g):=⟨by
 intro pins s σ H v u Q I r w
 obtain⟨P,w,hP⟩:=w
 exact thn (h.h pins s σ H v u P I r w) λu s1 ⟨σ1,H1,I1,q1⟩=>⟨σ1,H1,I1,hP _ _ q1⟩⟩
theorem zFJ (N':List Str)(caps:List (Option Nat)){elt iter:Expr}{ifs:List Expr}{scope:Scope}{wi:TI}{g:TG}{tt:TT}(hc:X.calm=true)(hi:QI X tg iter wi)
  (hg:∀ pins cl C s0 H0 fp,QG (zAT X pins N' scope cl C s0 H0 fp) tg g) (ht:∀ pins cl C s0 H0 fp,QIf (zAT X pins N' scope cl C s0 H0 fp) ifs tt) (he:∀ pins cl C s0 H0 fp,QE (zAT X pins N' scope cl C s0 H0 fp) elt te)
  (hcap:zB7 N' caps X.N X.env.scope.names scope.names=true:=by kernel_rfl) (hkind:scope.kind=.function:=by rfl) (hs:zEA iter=true:=by rfl) :
  QE X (.ListComp elt [⟨tg,iter,ifs,0⟩] scope pos) (zFC caps wi (upG g) (upT tt) (upE te)) :=
 zJr N' caps hc hi (λa b c d e f=>(hg a b c d e f).up) (λa b c d e f=>(ht a b c d e f).up) (λa b c d e f=>(he a b c d e f).up) hcap hkind hs
theorem zGN (N':List Str)(caps:List (Option Nat)){i:Nat}{elt iter:Expr}{ifs:List Expr}{scope:Scope}{wi:TI}{g:TG}{tt:TT}(hc:X.calm=true)(hN:X.N.Nodup)(hy:X.N[i]?=some x)(hl:Loc X.env.scope x)(hf:X.fn x=true\/X.env.scope.names.lookup x=some .local)(hi:QI X tg iter wi)
  (hg:∀ pins cl C s0 H0 fp,QG (zAT X pins N' scope cl C s0 H0 fp) tg g) (ht:∀ pins cl C s0 H0 fp,QIf (zAT X pins N' scope cl C s0 H0 fp) ifs tt) (he:∀ pins cl C s0 H0 fp,QE (zAT X pins N' scope cl C s0 H0 fp) elt te)
  (hsw:swapsWith (.ListComp elt [⟨tg,iter,ifs,0⟩] scope pos) (some (.Name x p)) p2.line X.env=pure true:=by rfl)
  (hcap:zB7 N' caps X.N X.env.scope.names scope.names=true:=by kernel_rfl) (hkind:scope.kind=.function:=by rfl) (hs:zEA iter=true:=by rfl) :
  QS X (.Assign [.Name x p] (.ListComp elt [⟨tg,iter,ifs,0⟩] scope pos) p2) (tAsg (zFC caps wi (upG g) (upT tt) (upE te)) (zBg i)) :=
 zJs N' caps hc hN hy hl hf hi (λa b c d e f=>(hg a b c d e f).up) (λa b c d e f=>(ht a b c d e f).up) (λa b c d e f=>(he a b c d e f).up) hsw hcap hkind hs
end
def zHf (g:TG)(tt:TT)(te:TE)(D:Addr)(ys:List V)(x:V)(σ:St)(H:Hp)(N:St->Hp->List V->Prop):Prop :=
 g x σ H λσ2 H3=>tt σ2 H3 λb H4=>(b=true->te σ2 H4 λv H5=>H5 D=some (.lst ys)/\ys.length<sizeLine/\∀ H6,Kp [D] H5 H6->H6 D=some (.lst (ys++[v]))->N σ2 H6 (ys++[v]))/\(b=false->H4 D=some (.lst ys)/\N σ2 H4 ys)
theorem zC3 {g:TG}{tt:TT}{te:TE}{D:Addr}{ys:List V}{x:V}{σ:St}{H:Hp}{N:St->Hp->List V->Prop}{M:St->Hp->Prop}(h:zHf g tt te D ys x σ H N)(hM:∀ σ H ys,H D=some (.lst ys)->N σ H ys->M σ H) :
  upG g x σ H λσ2 H3=>upT tt σ2 H3 λb H4=>if b=true then upE te σ2 H4 λv H5=>∃ ys,H5 D=some (.lst ys)/\ys.length<sizeLine/\M σ2 (upd H5 D (.lst (ys++[v]))) else M σ2 H4:=by
 refine⟨_,h,λσ2 H3 h=>⟨_,h,λb H4 h=>?_⟩⟩
 cases b with
 | true=>exact iteT ⟨_,h.1 rfl,λv H5 q=>⟨ys,q.1,q.2.1,hM _ _ _ zAP (q.2.2 _ zCl zAP)⟩⟩
 | false=>exact iteF (hM _ _ _ (h.2 rfl).1 (h.2 rfl).2)
section
variable {g:TG}{tt:TT}{te:TE}{σ0:St}{H1:Hp}{Q:Addr->Hp->Prop}{K:W.Frag}
theorem zHg {lo:Int}{n:Nat}(R:Nat->Addr->St->Hp->List V->Prop)
  (h0:∀ D H',H1 D=none->Same H1 H'->H' D=some (.lst [])->R 0 D σ0 H' [])
  (hs:∀ i D σ H ys,i<n->H1 D=none->R i D σ H ys->H D=some (.lst ys)->zHf g tt te D ys (.int (lo+i)) σ H (R (i+1) D))
  (hd:∀ D σ H ys,H1 D=none->R n D σ H ys->H D=some (.lst ys)->Q D H):∀ D,H1 D=none->zBC (Itr lo n) D (upG g) (upT tt) (upE te) σ0 (upd H1 D (.lst [])) λH2=>Q D H2:=by
 intro D hD
 refine zFE (λi σ H=>∃ ys,H D=some (.lst ys)/\R i D σ H ys) ⟨[],zAP,h0 D _ hD (zAd hD) zAP⟩ ?_ ?_
 ·rintro i σ H hi ⟨ys,e,r⟩
  exact zC3 (hs i D σ H ys hi hD r e) λσ H ys e r=>⟨ys,e,r⟩
 ·rintro σ H ⟨ys,e,r⟩
  exact hd D σ H ys hD r e
theorem zA3 {a:Addr}(xs:List V)(R:Nat->Addr->St->Hp->List V->Prop)
  (h0:∀ D H',H1 D=none->Same H1 H'->H' D=some (.lst [])->R 0 D σ0 H' [])
  (hl:∀ i D σ H ys,H1 D=none->R i D σ H ys->SqL K H a xs)
  (hs:∀ i x D σ H ys,xs[i]?=some x->H1 D=none->R i D σ H ys->H D=some (.lst ys)->zHf g tt te D ys x σ H (R (i+1) D))
  (hd:∀ D σ H ys,H1 D=none->R xs.length D σ H ys->H D=some (.lst ys)->Q D H):∀ D,H1 D=none->zBC (Itl K a) D (upG g) (upT tt) (upE te) σ0 (upd H1 D (.lst [])) λH2=>Q D H2:=by
 intro D hD
 refine zF8 (xs:=xs) (λi σ H=>∃ ys,H D=some (.lst ys)/\R i D σ H ys) ⟨[],zAP,h0 D _ hD (zAd hD) zAP⟩ ?_ ?_ ?_
 ·rintro i σ H _ ⟨ys,e,r⟩
  exact hl i D σ H ys hD r
 ·rintro i x σ H hi ⟨ys,e,r⟩
  exact zC3 (hs i x D σ H ys hi hD r e) λσ H ys e r=>⟨ys,e,r⟩
 ·rintro σ H ⟨ys,e,r⟩
  exact hd D σ H ys hD r e
end
end L2
namespace L2
open PySem
theorem Kp.new {S:List Addr}{H H5 H6:Hp}{D:Addr}(k:Kp S H H5)(k6:Kp [D] H5 H6)(hD:H D=none):Kp S H H6:=λb o n q=>k6.one (zAK q hD) (k b o n q)
theorem Same.new {H H5 H6:Hp}{D:Addr}(k:Same H H5)(k6:Kp [D] H5 H6)(hD:H D=none):Same H H6:=λb o q=>k6.one (zAK q hD) (k b o q)
theorem Kp.same {S:List Addr}{H H5 H6:Hp}(k:Kp S H H5)(s:Same H5 H6):Kp S H H6:=λb o n q=>s b o (k b o n q)
theorem zFK {n:Nat}(h:n<=100000):n<=sizeLine:=by rw[sizeLine_eq];omega
theorem zBo {n:Nat}(h:n<=100000):n<sizeLine:=by rw[sizeLine_eq];omega
theorem zAt {zs:List Int}{i:Nat}{x:V}(h:(zs.map V.int)[i]?=some x):∃ z,x=.int z/\zs[i]?=some z/\z∈zs:=by
 rw[List.getElem?_map] at h
 cases e:zs[i]? with
 | none=>rw[e] at h;cases h
 | some z =>
  rw[e] at h
  exact⟨z,(Option.some.inj h).symm,rfl,List.mem_of_getElem? e⟩
end L2
namespace L2
open PySem PySem.Spec PyProof.Rows
def zLP (ns:List Int):PyData:=.list (ns.map PyData.int)
theorem zCV {H:Hp}(n:Nat):∀ ns:List Int,Paired (RV n H) (ns.map V.int) (ns.map PyData.int)
 | []=>.nil
 | k::ns=>.cons (by cases n<;>rfl) (zCV n ns)
theorem zJt {H:Hp}{a:Addr}{ns:List Int}(h:H a=some (.lst (ns.map V.int))):RV 1 H (.ref a) (zLP ns):=.inl ⟨_,_,.inl h,rfl,zCV 0 ns⟩
section
variable {g:TG}{tb:TS}{D:Ends}{σ:St}{H:Hp}{K:W.Frag}
theorem zIZ {a:Addr}(xs:List V)(Pv:Nat->St->Hp->Prop)(h0:Pv 0 σ H)(hl:∀ i σ H,i<=xs.length->Pv i σ H->SqL K H a xs)
  (hs:∀ i x σ H T H',xs[i]?=some x->Pv i σ H->H T=none->Same H H'->H' T=some (.tup [.int i,x])->g (.ref T) σ H' λσ2 H2=>tb { D with nx:=Pv (i+1),ct:=Pv (i+1),bk:=D.nx } σ2 H2) (hd:∀ σ H,Pv xs.length σ H->D.nx σ H) :
  ∃ W:Nat->Nat->St->Hp->Prop,(∃ m,W 0 m σ H)/\∀ i m σ H,W i m σ H ->
   ((Ite K a).stop i H/\D.nx σ H)\/((Ite K a).go i H/\∃ N:St->Hp->Prop,(∀ σ' H',N σ' H'->∃ m',m'<m/\W (i+1) m' σ' H')/\∀ x H',(Ite K a).yld i H x H'->g x σ H' λσ2 H2=>tb { D with nx:=N,ct:=N,bk:=D.nx } σ2 H2) :=
 zHR (xs:=xs) Pv h0 hl (λi x σ H T hx p hT=>hs i x σ H T _ hx p hT (zAd hT) zAP) hd
end
theorem zBy {α:Type}{l:List α}{i:Nat}{x:α}(h:l[i]?=some x):l.take (i+1)=l.take i++[x]:=by rw[List.take_add_one,h];rfl
theorem zFL {K:W.Frag}{H:Hp}{Q:VK}{x:V}{t c:String}(ty:TyOf K H x (.type t))(ht:t∈["NoneType","bool","int","str","list","tuple","dict"])(hc:c∈["bool","int","str","list","tuple","dict"])(q:Q (.bl (isTy t c)) H):hIsi K x c H Q:=by
 unfold hIsi;exact⟨t,ty,ht,hc,q⟩
end L2
namespace L2
open PySem PySem.Spec PyProof.Rows
section
variable {X:Cx}
end
section
variable {g:TG}{tt:TT}{te:TE}{σ0:St}{H1:Hp}{Q:Addr->Hp->Prop}{K:W.Frag}
end
end L2
namespace L2
open PySem PySem.Spec PyProof.Rows
section
variable {X:Cx}{K:W.Frag}{e a b c o tg:Expr}{es rest:List Expr}{te ta tb tc to:TE}{t:TA}{pos p p2:Pos}{x:Str}
theorem zCW {k:Nat}{u:TGs}(hK:X.K=K)(hc:X.calm=true)(h:QGs X es u):QG X (.Tuple es k pos) (gTm K es.length u):=hK▸zLK hc h
theorem zAu (hK:X.K=K)(h:QE X e te):QI X tg e (mItL K te):=hK▸zJm h
theorem zGO {k:Nat}(hK:X.K=K)(hg:Gl X "enumerate")(hm:X.mg "enumerate"=none)(h:QA X [a] t):QI X (.Tuple es k p2) (.Call (.Name "enumerate" p) [a] [] pos) (zHb K t):=hK▸zJp hg hm h
theorem zLQ (hK:X.K=K)(ha:QE X a ta):QE X (.UnaryOp .Not a pos) (zJZ K ta):=hK▸zLL ha
theorem zGP (hK:X.K=K)(ha:QE X a ta)(hb:QE X (.BoolOp .And (b::rest) pos) tb):QE X (.BoolOp .And (a::b::rest) pos) (zJY K ta tb):=hK▸zLM ha hb
theorem zBz {lo hi:Option Expr}{tl th:TO}(hK:X.K=K)(he:QE X e te)(hl:QO X lo tl)(hu:QO X hi th):QE X (.Subscript e (.Slice lo hi none p2) pos) (tSl (vSl K) te tl th):=hK▸zHd he hl hu
theorem zAU (hK:X.K=K)(ha:QE X a ta)(hb:QE X b tb)(hs:zD3 b):QE X (.Subscript a b pos) (tOp (vIx K) ta tb):=hK▸zMw ha hb hs
theorem zHh {pos2:Pos}(hK:X.K=K)(hc:X.calm=true)(hg:Gl X "list")(hm:X.mg "list"=none)(hg2:Gl X "enumerate")(hm2:X.mg "enumerate"=none)(ha:QA X [a] t):QE X (.Call (.Name "list" p) [.Call (.Name "enumerate" p2) [a] [] pos2] [] pos) (zGA K t):=hK▸zHe hc hg hm hg2 hm2 ha
theorem zCB {name:Str}{T id:String}{r:V->List V->Hp->VK->Prop}(hK:X.K=K)(pa:PlainAttrs T)(slot:Slot T name id)(hty:typeOf (.builtin id)=pure (.type "method_descriptor"))(hm:MtR X id r)(ho:QE X o to)(ha:QE X e te)
  (hp:zAs e=true:=by rfl) (hbase:attributeBase o name X.env (eval o X.env)=eval o X.env:=by rfl) (hline:(p.endLine == pos.line)=true:=by rfl):QE X (.Call (.Attribute o name p) [e] [] pos) (tBM K T r to (zE4 te tNil)):=hK▸zMx pa slot hty hm ho ha hp hbase hline
theorem zCX (hK:X.K=K)(ha:QE X a ta)(he:∀ whole,isTrue a X.env whole=(do let v <- whole;standAt a.pos;holding [v] (truthy v)):=by intro _;rfl):QT X a (mT K ta):=hK▸zLO ha he
theorem kSum (hK:X.K=K)(hc:X.calm=true):CallR X (.builtin "sum") (vSum K):=hK▸zJc hc
theorem kMax (hK:X.K=K)(hc:X.calm=true):CallR X (.builtin "max") (vMax K):=hK▸zJd hc
theorem kMin (hK:X.K=K)(hc:X.calm=true):CallR X (.builtin "min") (vMin K):=hK▸zJe hc
theorem kLen (hK:X.K=K):CallR X (.builtin "len") (vLen K):=hK▸zJf
theorem zMy (hK:X.K=K):CallR X (.type "list") (zJg K):=hK▸zHa
theorem kIsi (hK:X.K=K):CallR X (.builtin "isinstance") (vIsi K):=hK▸zJi
def vClr:V->List V->Hp->VK->Prop:=λx vs H Q=>match x,vs with
 | .ref a,[]=>hClr a H Q
 | _,_=>False
end
section
variable {X:Cx}
theorem zA9 {α β:Type}{R:α->β->Prop}:∀ {xs:List α} {ys:List β},Paired R xs ys->∀ (j:Nat) {x:α} {y:β},xs[j]?=some x->ys[j]?=some y->R x y
 | _,_,.nil,j,_,_,h,_=>by simp at h
 | _,_,.cons r t,0,_,_,h1,h2=>by simp at h1 h2;subst h1;subst h2;exact r
 | _,_,.cons r t,j+1,_,_,h1,h2=>zA9 t j (by simpa using h1) (by simpa using h2)
theorem zBZ (n:Nat):((List.range n).all λ_=>true)=true:=by simp
theorem zBa {pins:List (Addr×Obj)}{σ:St}{H:Hp}{s:Shared}{n:Nat}{A:Around}{xs ys:List V}{us vs:List Value}{ds:List PyData}
  (ih:∀ (x y:V) (u v:Value) (d:PyData),RV n H x d->RV n H y d->RelV x u->RelV y v->SeqAt.EqAt A s u v true) (p1:Paired (RV n H) xs ds) (p2:Paired (RV n H) ys ds) (r1:Vals xs us) (r2:Vals ys vs) :
  us.toArray.size=vs.toArray.size/\∀ j (h1:j<us.toArray.size) (h2:j<vs.toArray.size),SeqAt.EqAt A s us.toArray[j] vs.toArray[j] ((λ_=>true) j):=by
 have l1:=Paired.length p1
 have l2:=Paired.length p2
 have l3:=Paired.length r1
 have l4:=Paired.length r2
 refine⟨by simp only[List.size_toArray];omega,λj h1 h2=>?_⟩
 have h1':j<us.length:=by simpa using h1
 have h2':j<vs.length:=by simpa using h2
 have hx:j<xs.length:=by omega
 have hy:j<ys.length:=by omega
 have hd:j<ds.length:=by omega
 exact ih xs[j] ys[j] _ _ ds[j] (zA9 p1 j (List.getElem?_eq_getElem hx) (List.getElem?_eq_getElem hd)) (zA9 p2 j (List.getElem?_eq_getElem hy) (List.getElem?_eq_getElem hd))
  (zA9 r1 j (List.getElem?_eq_getElem hx) (by simp[h1'])) (zA9 r2 j (List.getElem?_eq_getElem hy) (by simp[h2']))
inductive RdP (n:Nat)(H:Hp)(h:Heap)(a:Addr):PyData->Prop where
 | lst {xs:List V} {us:List Value} {ds:List PyData} (p:Paired (RV n H) xs ds) (r:Vals xs us) (l:h.IsList a us.toArray):RdP n H h a (.list ds)
 | tup {xs:List V} {us:List Value} {ds:List PyData} (p:Paired (RV n H) xs ds) (r:Vals xs us) (l:h.IsTuple a us.toArray):RdP n H h a (.tuple ds)
theorem zB0 {pins:List (Addr×Obj)}{σ:St}{H:Hp}{s:Shared}(I:Inv X pins σ H s){n:Nat}{a:Addr}{d:PyData}(h:RV (n+1) H (.ref a) d):RdP n H s.heap a d:=by
 rcases (show (∃ xs ds,Rd H a (.lst xs)/\d=.list ds/\Paired (RV n H) xs ds)\/∃ xs ds,Rd H a (.tup xs)/\d=.tuple ds/\Paired (RV n H) xs ds from h) with ⟨xs,ds,h1,rfl,h3⟩ | ⟨xs,ds,h1,rfl,h3⟩
 ·obtain⟨us,r,p,_⟩:=I.list (.inl h1)
  exact .lst h3 r p.isList
 ·obtain⟨us,r,p,_⟩:=I.tuple (.inl h1)
  exact .tup h3 r p
def zDa:V->Option PyData
 | .non=>some .none
 | .bl b=>some (.bool b)
 | .int i=>some (.int i)
 | .str x=>some (.str x)
 | _=>none
theorem zED {n : Nat} {H : Hp} {x : V} {d : PyData} (h : RV n H x d) (hx : ∀ a, x ≠ .ref a) : zDa x = some d := by
  cases x with
  | non => have e : d = .none := by cases n <;> exact h
           rw [e]; rfl
  | bl b => have e : d = .bool b := by cases n <;> exact h
            rw [e]; rfl
  | int i => have e : d = .int i := by cases n <;> exact h
             rw [e]; rfl
  | str i => have e : d = .str i := by cases n <;> exact h
             rw [e]; rfl
  | ref a => exact absurd rfl (hx a)
  | byt b => cases n <;> exact (show False from h).elim
  | flt b => cases n <;> exact (show False from h).elim
  | ty b => cases n <;> exact (show False from h).elim
theorem zLR {n:Nat}{H:Hp}{a:Addr}{d:PyData}(h:RV n H (.ref a) d):(∃ ds,d=.list ds)\/∃ ds,d=.tuple ds:=by
 cases n with
 | zero=>exact(show False from h).elim
 | succ n =>
  rcases (show (∃ xs ds,Rd H a (.lst xs)/\d=.list ds/\Paired (RV n H) xs ds)\/∃ xs ds,Rd H a (.tup xs)/\d=.tuple ds/\Paired (RV n H) xs ds from h) with ⟨xs,ds,_,e,_⟩ | ⟨xs,ds,_,e,_⟩
  ·exact .inl ⟨ds,e⟩
  ·exact .inr ⟨ds,e⟩
theorem zGQ {x:V}{d:PyData}(h:zDa x=some d):(∀ ds,d≠.list ds)/\∀ ds,d≠.tuple ds:=by
 cases x<;>simp[zDa] at h<;>subst h<;>exact⟨λds e=>(by cases e),λds e=>(by cases e)⟩
theorem zHi {x y:V}{d:PyData}(h1:zDa x=some d)(h2:zDa y=some d):x=y:=by
 cases x<;>simp[zDa] at h1<;>subst h1<;>cases y<;>simp[zDa] at h2<;>first | rfl | (subst h2;rfl)
theorem zDb {n:Nat}{H:Hp}{x y:V}{d:PyData}(h1:RV n H x d)(h2:RV n H y d)(hx:∀ a,x≠.ref a):x=y:=by
 have f1:=zED h1 hx
 refine zHi f1 (zED h2 λb e=>?_)
 subst e
 rcases zLR h2 with ⟨ds,e⟩ | ⟨ds,e⟩
 ·exact(zGQ f1).1 ds e
 ·exact(zGQ f1).2 ds e
theorem zHj {x:V}{u v:Value}{d:PyData}{A:Around}{s:Shared}(hf:zDa x=some d)(r1:RelV x u)(r2:RelV x v):SeqAt.EqAt A s u v true:=by
 cases x with
 | non=>cases r1;cases r2;exact SeqAt.EqAt.same _
 | bl b=>cases r1;cases r2;exact SeqAt.EqAt.same _
 | int i =>
  obtain⟨t,rfl⟩:=r1
  obtain⟨t',rfl⟩:=r2
  have:=SeqAt.EqAt.int_int (A:=A) (s:=s) i t i t'
  rw[beq_self_eq_true] at this
  exact this
 | str i =>
  obtain⟨t,rfl⟩:=r1
  obtain⟨t',rfl⟩:=r2
  have:=SeqAt.EqAt.str_str (A:=A) (s:=s) i t i t'
  rw[beq_self_eq_true] at this
  exact this
 | _=>cases hf
theorem zGR {n:Nat}{H:Hp}{x y:V}{u v:Value}{d:PyData}{A:Around}{s:Shared}(h1:RV n H x d)(h2:RV n H y d)(r1:RelV x u)(r2:RelV y v)(hx:∀ a,x≠.ref a):SeqAt.EqAt A s u v true:=by
 have e:=zDb h1 h2 hx
 subst e
 exact zHj (zED h1 hx) r1 r2
theorem zGS {pins:List (Addr×Obj)}{σ:St}{H:Hp}{s:Shared}(I:Inv X pins σ H s):∀ (n:Nat) (A:Around),A.units+n<cLine->∀ (x y:V) (u v:Value) (d:PyData),RV n H x d->RV n H y d->RelV x u->RelV y v->SeqAt.EqAt A s u v true:=by
 intro n
 induction n with
 | zero =>
  intro A hA x y u v d h1 h2 r1 r2
  refine zGR h1 h2 r1 r2 λa e=>?_
  subst e
  exact(show False from h1)
 | succ n ih =>
  intro A hA x y u v d h1 h2 r1 r2
  by_cases hx:∃ a,x=.ref a
  ·obtain⟨a,rfl⟩:=hx
   by_cases hy:∃ b,y=.ref b
   ·obtain⟨b,rfl⟩:=hy
    cases r1
    cases r2
    by_cases hab:a=b
    ·subst hab;exact SeqAt.EqAt.same _
    have ih':=ih A.in1 (by show A.units+1+n<cLine;omega)
    have hu:A.units<cLine:=by omega
    cases zB0 I h1 with
    | lst p1 q1 l1 =>
     cases zB0 I h2 with
     | lst p2 q2 l2 =>
      obtain⟨z1,z2⟩:=zBa (pins:=pins) (σ:=σ) ih' p1 p2 q1 q2
      have:=SeqAt.RcAt.lists (A:=A) l1 l2 z1 hu z2
      rw[zBZ] at this
      exact SeqAt.EqAt.of_refs hab this
    | tup p1 q1 l1 =>
     cases zB0 I h2 with
     | tup p2 q2 l2 =>
      obtain⟨z1,z2⟩:=zBa (pins:=pins) (σ:=σ) ih' p1 p2 q1 q2
      have:=SeqAt.RcAt.tuples (A:=A) l1 l2 hu z2
      rw[zBZ,z1,beq_self_eq_true] at this
      exact SeqAt.EqAt.of_refs hab this
   ·exact absurd ⟨a,(zDb h2 h1 λb e=>hy ⟨b,e⟩)⟩ hy
  ·exact zGR h1 h2 r1 r2 λa e=>hx ⟨a,e⟩
@[irreducible] def hEqR (K:W.Frag)(a b:Addr)(H:Hp)(Q:Bool->Hp->Prop):Prop:=hEqL K a b H Q\/∃ n d,n<=20/\RV (n+1) H (.ref a) d/\RV (n+1) H (.ref b) d/\Q true H
theorem zMz {K:W.Frag}{a b:Addr}{H:Hp}{Q:Bool->Hp->Prop}{d:PyData}(n:Nat)(hn:n<=20)(h1:RV (n+1) H (.ref a) d)(h2:RV (n+1) H (.ref b) d)(q:Q true H):hEqR K a b H Q:=by unfold hEqR;exact .inr ⟨n,d,hn,h1,h2,q⟩
theorem zLS {K:W.Frag}{a b:Addr}{H:Hp}{Q:Bool->Hp->Prop}{ns ms:List Int}(h1:SqL K H a (ns.map V.int))(h2:SqL K H b (ms.map V.int))(q:Q (decide (ns=ms)) H):hEqR K a b H Q:=by unfold hEqR;exact .inl (zMW h1 h2 q)
def vEqG (K:W.Frag)(n:Bool->Bool):R2:=λx y H Q=>match x,y with
 | .int i,.int j=>Q (.bl (n (decide (i=j)))) H
 | .str i,.str j=>Q (.bl (n (decide (i=j)))) H
 | .bl i,.bl j=>Q (.bl (n (decide (i=j)))) H
 | .non,.non=>Q (.bl (n true)) H
 | .non,.int _=>Q (.bl (n false)) H
 | .int _,.non=>Q (.bl (n false)) H
 | .non,.bl _=>Q (.bl (n false)) H
 | .bl _,.non=>Q (.bl (n false)) H
 | .ref a,.ref b=>hEqR K a b H λr H'=>Q (.bl (n r)) H'
 | _,_=>False
theorem kEqG {K:W.Frag}{k:Nat}(hK:X.K=K)(hr:Room k X.A):OpR X (compareOp .Eq) (vEqG K id):=by
 subst hK
 intro pins s σ H x y v u Q I rx ry h
 cases x<;>cases y<;>first
  | exact(show False from h).elim
  | exact zHB pins s σ H _ _ v u Q I rx ry ⟨rfl,by rw[dI];exact h⟩
  | exact zHB pins s σ H _ _ v u Q I rx ry ⟨rfl,by rw[dS];exact h⟩
  | exact zHB pins s σ H _ _ v u Q I rx ry ⟨rfl,by rw[dB];exact h⟩
  | exact zHB pins s σ H _ _ v u Q I rx ry ⟨rfl,h⟩
  | skip
 rename_i a b
 have h:=(show hEqR X.K a b H _ from h)
 unfold hEqR at h
 rcases h with h | ⟨n,d,hn,h1,h2,q⟩
 ·unfold hEqL at h;obtain⟨xs,ys,h1,h2,h3⟩:=h;exact zK9 hr pins s σ H _ _ v u Q I rx ry ⟨_,_,xs,ys,rfl,rfl,h1,h2,h3⟩
 ·cases rx
  cases ry
  have hu:=hr.units
  have ih:=zGS I n X.A.in1 (by show X.A.units+1+n<cLine;omega)
  cases zB0 I h1 with
  | lst p1 q1 l1 =>
   cases zB0 I h2 with
   | lst p2 q2 l2 =>
    obtain⟨z1,z2⟩:=zBa (pins:=pins) (σ:=σ) ih p1 p2 q1 q2
    exact SeqAt.eq_listAt l1 l2 z1 (by omega) z2 (by rw[zBZ];exact⟨.bl true,H,I,rfl,q⟩)
  | tup p1 q1 l1 =>
   cases zB0 I h2 with
   | tup p2 q2 l2 =>
    obtain⟨z1,z2⟩:=zBa (pins:=pins) (σ:=σ) ih p1 p2 q1 q2
    exact SeqAt.eq_tupleAt l1 l2 (by omega) z2 (by rw[zBZ,z1,beq_self_eq_true];exact⟨.bl true,H,I,rfl,q⟩)
theorem kNeG {K:W.Frag}{k:Nat}(hK:X.K=K)(hr:Room k X.A):OpR X (compareOp .NotEq) (vEqG K not):=by
 subst hK
 intro pins s σ H x y v u Q I rx ry h
 cases x<;>cases y<;>first
  | exact(show False from h).elim
  | exact zHC pins s σ H _ _ v u Q I rx ry ⟨rfl,by rw[dI];exact h⟩
  | exact zHC pins s σ H _ _ v u Q I rx ry ⟨rfl,by rw[dS];exact h⟩
  | exact zHC pins s σ H _ _ v u Q I rx ry ⟨rfl,by rw[dB];exact h⟩
  | exact zHC pins s σ H _ _ v u Q I rx ry ⟨rfl,h⟩
  | skip
 rename_i a b
 have h:=(show hEqR X.K a b H _ from h)
 unfold hEqR at h
 have hu:=hr.units
 rcases h with h | ⟨n,d,hn,h1,h2,q⟩
 ·unfold hEqL at h
  obtain⟨ns,ms,h1,h2,qq⟩:=h
  cases rx;cases ry
  obtain⟨its,r1,p1,_⟩:=I.list h1
  obtain⟨its2,r2,p2,_⟩:=I.list h2
  have i1:=zAn r1
  have i2:=zAn r2
  have l1:=r1.length
  have l2:=r2.length
  rw[List.length_map] at l1 l2
  by_cases hl:ns.length=ms.length
  ·refine SeqAt.RcNeAt.lists (e:=λj=>decide (ns.getD j 0=ms.getD j 0)) p1.isList p2.isList (by simp only[List.size_toArray];omega) hr.units0 (λj a1 a2=>?_) _ _ _ _ ?_
   ·obtain⟨t1,e1⟩:=zCx i1 j a1
    obtain⟨t2,e2⟩:=zCx i2 j a2
    rw[e1,e2]
    have:=SeqAt.EqAt.int_int (A:=X.A.in1) (s:=s) (ns.getD j 0) t1 (ms.getD j 0) t2
    rw[Bool.beq_eq_decide_eq] at this
    exact this
   ·rw[show its.toArray.size=ns.length by simp only[List.size_toArray];omega,zCF ns ms hl]
    exact⟨.bl _,H,I,rfl,qq⟩
  ·refine SeqAt.RcNeAt.lists_lengths p1.isList p2.isList (by simp only[List.size_toArray,bne_iff_ne];omega) hr.units0 _ _ _ _ ⟨.bl true,H,I,rfl,?_⟩
   have:decide (ns=ms)=false:=decide_eq_false λe=>hl (by rw[e])
   rw[this] at qq
   exact qq
 ·cases rx
  cases ry
  have ih:=zGS I n X.A.in1 (by show X.A.units+1+n<cLine;omega)
  cases zB0 I h1 with
  | lst p1 q1 l1 =>
   cases zB0 I h2 with
   | lst p2 q2 l2 =>
    obtain⟨z1,z2⟩:=zBa (pins:=pins) (σ:=σ) ih p1 p2 q1 q2
    exact SeqAt.RcNeAt.lists l1 l2 z1 (by omega) z2 _ _ _ _ (by rw[zBZ];exact⟨.bl false,H,I,rfl,q⟩)
  | tup p1 q1 l1 =>
   cases zB0 I h2 with
   | tup p2 q2 l2 =>
    obtain⟨z1,z2⟩:=zBa (pins:=pins) (σ:=σ) ih p1 p2 q1 q2
    exact SeqAt.RcNeAt.tuples l1 l2 (by omega) z2 _ _ _ _ (by rw[zBZ,z1,beq_self_eq_true];exact⟨.bl false,H,I,rfl,q⟩)
end
end L2
namespace L2
open PySem PySem.Spec PyProof.Rows
section
variable {X:Cx}
end
end L2
namespace L2
open PySem PySem.Spec PyProof.Rows
section
variable {X:Cx}{e st:Expr}{te:TE}{ts:TO}{p2 pos:Pos}{K:W.Frag}
@[irreducible] def hRev (K:W.Frag)(a:Addr)(H:Hp)(Q:VK):Prop:=∃ xs,SqL K H a xs/\∀ p,H p=none->Q (.ref p) (upd H p (.lst xs.reverse))
theorem zM0 {a:Addr}{H:Hp}{Q:VK}{xs:List V}(h:SqL K H a xs)(q:∀ p H',H p=none->Same H H'->H' p=some (.lst xs.reverse)->Q (.ref p) H'):hRev K a H Q:=by
 unfold hRev;exact⟨xs,h,λp hp=>q p _ hp (zAd hp) zAP⟩
def mRev (K:W.Frag)(te:TE)(ts:TO):TE:=λσ H Q=>te σ H λx H1=>ts σ H1 λs H2=>match x,s with
 | .ref a,some k=>k=-1/\hRev K a H2 Q
 | _,_=>False
theorem Vals.rev:∀ {xs:List V} {us:List Value},Vals xs us->Vals xs.reverse us.reverse
 | _,_,.nil=>.nil
 | _,_,.cons r t=>by rw[List.reverse_cons,List.reverse_cons];exact(Vals.rev t).append (.cons r .nil)
theorem zLT (hK:X.K=K)(he:QE X e te)(hs:QO X (some st) ts)(hsub:∀ v sl,subscripted (.Slice none none (some st) p2) false v sl=operate [v,sl] (getItem v sl):=by intro _ _;rfl):QE X (.Subscript e (.Slice none none (some st) p2) pos) (mRev K te ts):=⟨by
 subst hK
 intro pins s σ H Q I h
 refine Subscript_ (thn (he.h pins s σ H _ I h) λv s1 ⟨x,H1,I1,r1,q1⟩=>?_)
 refine wpAny_Slice ?_
 rw[evalPart_none]
 refine wpAny_pure ?_
 refine wpAny_pure ?_
 refine thn (hs.h pins s1 σ H1 _ I1 q1) λvk s2 ⟨k,H2,I2,pk,q2⟩=>?_
 have I3:Inv X pins σ H2 { s2 with heap:=s2.heap.push { cls:=.type "slice",data:=.fields #[.none,.none,vk] } }:=I2.kept (t':=s2.toks) λb ob q=>Heap.get?_push_of_some _ q
 cases x with
 | ref a =>
  cases k with
  | none=>exact(show False from q2).elim
  | some k =>
   obtain⟨rfl,q⟩:=(show k=-1/\hRev X.K a H2 Q from q2)
   unfold hRev at q
   obtain⟨xs,hx,q⟩:=q
   cases r1
   obtain⟨its,r,ht,hz⟩:=I3.list hx
   have hlen:=r.length
   have hg:wpAny (model X.prog X.w) X.A (getItem (.ref a) (.ref s2.heap.objs.size)) (EP X pins σ Q) X.xe { s2 with heap:=s2.heap.push { cls:=.type "slice",data:=.fields #[.none,.none,vk] } }:=by
    refine wpAny_getItem_list_slice ht.isList (Heap.IsSliceOf.new ..) .none .none pk (by decide) ?_ (by rw[List.size_toArray];omega)
    rw[W.krv_pick]
    refine⟨.ref _,_,I3.laid (t':=s2.toks) (o:=.lst xs.reverse) (λb ob q=>Heap.get?_push_of_some _ q) (Nat.le_refl _) ?_,rfl,q _ (I3.hok.fresh (Nat.le_refl _))⟩
    exact⟨by rw[List.length_reverse];exact hz,_,0,Vals.rev r,Heap.get?_push_size _ rfl⟩
   exact tail_any (ops:=[.ref a,.ref s2.heap.objs.size]) (ht.isList.typeIs) slot_list_getitem.lookup hg (hsub _ _)
 | _=>exact(show False from q2).elim⟩
end
end L2
namespace L2
open PySem PySem.Spec PyProof.Rows
abbrev zM1 (X:Cx)(pins:List (Addr×Obj))(N':List Str)(scope:Scope)(cl:List (Str×Addr))(C:Addr)(s0:Shared)(H0:Hp)(fp:List Addr):Cx :=
 { zAT X pins N' scope cl C s0 H0 fp with fn:=λx=>scope.names.lookup x == some .cell }
section
variable {X:Cx}{pins:List (Addr×Obj)}{σ:St}{H:Hp}{s:Shared}
end
section
variable {X:Cx}{tg elt iter:Expr}{ifs:List Expr}{scope:Scope}{pos:Pos}
end
section
variable {X:Cx}{e a b c tg:Expr}{te:TE}{pos p p2:Pos}{x:Str}
end
end L2
namespace L2
open PySem
section
variable {X:Cx}{K:W.Frag}
end
end L2
namespace L2
open PySem PySem.Spec PyProof.Rows
section
variable {X:Cx}{K:W.Frag}{e t1 t2:Expr}{es:List Expr}{te:TE}{pos p p2:Pos}
def mTwo (te:TE)(g1 g2:TG):TS:=λD σ H=>te σ H λx H1=>g1 x σ H1 λσ1 H2=>g2 x σ1 H2 D.nx
theorem zLU {g1 g2:TG}(he:QE X e te)(h1:QG X t1 g1)(h2:QG X t2 g2)(hw:swappedStores [t1,t2] e X.env=pure none:=by rfl)(hp1:zBw t1=true:=by rfl)(hp2:zBw t2=true:=by rfl):QS X (.Assign [t1,t2] e pos) (mTwo te g1 g2):=⟨by
 intro pins s σ H D I h
 refine wpAny_Assign_two (thn (he.h pins s σ H _ I h) λv s1 ⟨x,H1,I1,r1,q1⟩=>?_) (by rw[zAz hp1,zAz hp2];rfl) hw
 refine thn (h1.h pins s1 σ H1 x v _ I1 r1 q1) λ_ s2 ⟨σ2,H2,I2,q2⟩=>?_
 exact thn (h2.h pins s2 σ2 H2 x v _ I2 r1 q2) λ_ s3 q=>q⟩
end
end L2
namespace L2
open PySem PySem.Spec PyProof.Rows
section
variable {X:Cx}
end
end L2
namespace L2
open PySem PySem.Spec PyProof.Rows
section
variable {g:TG}{tt:TT}{te:TE}{σ0:St}{H1:Hp}{Q:Addr->Hp->Prop}{K:W.Frag}
end
end L2
namespace L2
open PySem PySem.Spec PyProof.Rows
section
variable {X:Cx}
end
end L2
namespace L2
open PySem PySem.Spec PyProof.Rows
def wkE (te:TE):TE:=λσ H Q=>∃ P,te σ H P/\∀ v H1,P v H1->Q v H1
section
variable {X:Cx}{K:W.Frag}{e o value:Expr}{es:List Expr}{te ta tv to:TE}{t:TA}{pos p p2 pos' apos:Pos}{f m x:Str}{C:Addr}
theorem QE.wk (h:QE X e te):PE X e (wkE te):=by
 intro pins s σ H Q I ⟨P,hp,pq⟩
 exact thn (h.h pins s σ H _ I hp) λu s1 ⟨v,H1,I1,r1,q1⟩=>⟨v,H1,I1,r1,pq _ _ q1⟩
structure Mth (P:Program)(w:World)(K:W.Frag)(mg:Str->Option Value)(base:Heap)(k:Nat)(C:Addr)(m:Str)(ps:List Str)(sp:Sp):Prop where
 cl:Cls K C
 ex:∃ f fd,FnOk P w K mg base CX0 k f fd ps sp/\Binds K fd ps []/\Meth K C m f
structure Mkd (P:Program)(w:World)(K:W.Frag)(mg:Str->Option Value)(base:Heap)(k:Nat)(C:Addr)(x:Str)(ps:List Str)(sp:Sp):Prop where
 ex:∃ f fd,FnOk P w K mg base CX0 k f fd ps sp/\Binds K fd ps []/\Mk K C f/\mg x=some (.ref C)
structure KNum (mg:Str->Option Value)(x:Str)(n:Int):Prop where
 ex:∃ t,mg x=some (.int n t)
end
end L2
namespace L2
open PySem PySem.Spec PyProof.Rows
section
variable {g:TG}{tt:TT}{te:TE}{σ0:St}{H1:Hp}{Q:Addr->Hp->Prop}{K:W.Frag}
end
end L2
namespace L2
open PySem PySem.Spec PyProof.Rows
end L2
namespace L2
open PySem PySem.Spec PyProof.Rows
open AutoSeq1 (wpAny_loadPart')
end L2
namespace L2
open PySem PySem.Spec PyProof.Rows
section
variable {prog:Program}{w:World}{A:Around}{E:Value->Shared->Prop}{s:Shared}
end
end L2
namespace L2
open PySem PySem.Spec PyProof.Rows PySem.W
section
variable {X:Cx}
end
section
variable {g:TG}{tt:TT}{te:TE}{σ0:St}{H1:Hp}{Q:Addr->Hp->Prop}{K:W.Frag}
end
section
variable {X:Cx}{K:W.Frag}{a e:Expr}{t:TA}{es:List Expr}{p p2 p4 pos:Pos}
end
end L2
namespace L2
open PySem PySem.Spec PyProof.Rows PySem.SeqAt PySem.MeetsSeq3
open PySem.AutoSeq1 (wpAny_loadPart')
def zGT (A:Around)(s:Shared)(x y:Value)(r:Bool):Prop :=
 ∀ (p:Program) (w:World) (E Q:Value->Shared->Prop),Q (.bool r) s->wpAny (model p w) A (richCompare .Lt x y) Q E s
inductive Lesser (A:Around)(s:Shared):List Value->List Value->Bool->Prop where
 | both:Lesser A s [] [] false
 | short {y:Value} {ys:List Value}:Lesser A s [] (y::ys) true
 | long {x:Value} {xs:List Value}:Lesser A s (x::xs) [] false
 | on {x y:Value} {xs ys:List Value} {r:Bool} (h:EqAt A s x y true) (t:Lesser A s xs ys r):Lesser A s (x::xs) (y::ys) r
 | off {x y:Value} {xs ys:List Value} {r:Bool} (h:EqAt A s x y false) (t:zGT A s x y r):Lesser A s (x::xs) (y::ys) r
def SObj (h:Heap)(c:String)(a:Addr)(d:Option Addr)(vs:Array Value)(n:Nat)(sl:Array (Option Value)):Prop:=h.get? a=some { cls:=.type c,dict:=d,data:=.seq vs n,slots:=sl }
theorem zDc {a b:Addr}{vs us:Array Value}{n m:Nat}{da db:Option Addr}{sa sb:Array (Option Value)}{r:Bool}:∀ (k i:Nat),vs.size-i=k ->
  Meets (Builtin.«list.__eq__.loop» ⟨[.ref a,.ref b,rawInt i,rawInt 0],[]⟩) λA R s=>SObj s.heap "list" a da vs n sa/\SObj s.heap "list" b db us m sb /\
   Lesser A.in1 s (vs.toList.drop i) (us.toList.drop i) r/\i<=vs.size/\i<=us.size/\R (.ok (.ret (.bool r))) s
 | 0,i,hk=>by
  intro prog w A R s ⟨ha,hb,hl,hi1,hi2,q⟩
  obtain⟨hp,gl,dr,tk,os⟩:=s
  unfold SObj at ha hb
  have d1:vs.toList.drop i=[]:=List.drop_eq_nil_of_le (by simp;omega)
  rw[d1] at hl
  wp_walk using wpAny_loadPart' ha,wpAny_loadPart' hb
  have v1:vs[((i:Nat):Int).toNat]?=none:=by simp;omega
  rw[v1]
  wp_walk using wpAny_loadPart' ha,wpAny_loadPart' hb
  show R (.ok (.ret (.bool (decide (vs.size<us.size))))) _
  have z:decide (vs.size<us.size)=r:=by
   generalize hd:us.toList.drop i=us' at hl
   cases hl with
   | both =>
    have:=congrArg List.length hd
    simp at this
    exact decide_eq_false (by omega)
   | short =>
    have:=congrArg List.length hd
    simp at this
    exact decide_eq_true (by omega)
  rw[z];exact q
 | k+1,i,hk=>by
  intro prog w A R s ⟨ha,hb,hl,hi1,hi2,q⟩
  obtain⟨hp,gl,dr,tk,os⟩:=s
  unfold SObj at ha hb
  have i1:i<vs.size:=by omega
  have d1:vs.toList.drop i=vs[i]::vs.toList.drop (i+1):=by rw[List.drop_eq_getElem_cons (by simpa using i1)];simp
  rw[d1] at hl
  wp_walk using wpAny_loadPart' ha,wpAny_loadPart' hb
  have v1:vs[((i:Nat):Int).toNat]?=some vs[i]:=by rw[Int.toNat_natCast];exact Array.getElem?_eq_getElem i1
  rw[v1]
  by_cases i2:i<us.size
  ·have d2:us.toList.drop i=us[i]::us.toList.drop (i+1):=by rw[List.drop_eq_getElem_cons (by simpa using i2)];simp
   rw[d2] at hl
   have v2:us[((i:Nat):Int).toNat]?=some us[i]:=by rw[Int.toNat_natCast];exact Array.getElem?_eq_getElem i2
   rw[v2]
   cases hl with
   | on he ht =>
    refine wpAny_bind (he prog w _ _ ?_)
    wp_walk
    rw[show ((i:Int)+1)=((i+1:Nat):Int) by omega]
    refine⟨plainId_quiet plain_eq_loop _,codeAny_builtin entry_eq_loop ?_⟩
    rw[Around.under_plainId plain_eq_loop _]
    exact zDc k (i+1) (by omega) prog w A R _ ⟨ha,hb,ht,by omega,by omega,q⟩
   | off he ht =>
    refine wpAny_bind (he prog w _ _ ?_)
    wp_walk using wpAny_loadPart' ha,wpAny_loadPart' hb
    rw[v1,v2]
    refine wpAny_bind (ht prog w _ _ ?_)
    wp_walk
    exact q
  ·have d2:us.toList.drop i=[]:=List.drop_eq_nil_of_le (by simp;omega)
   rw[d2] at hl
   cases hl with
   | long =>
    have v2:us[((i:Nat):Int).toNat]?=none:=by simp;omega
    rw[v2]
    wp_walk using wpAny_loadPart' ha,wpAny_loadPart' hb
    have z:decide (vs.size<us.size)=false:=decide_eq_false (by omega)
    show R (.ok (.ret (.bool (decide (vs.size<us.size))))) _
    rw[z];exact q
theorem zGU {a b:Addr}{vs us:Array Value}{n m:Nat}{da db:Option Addr}{sa sb:Array (Option Value)}{r:Bool} :
  Meets (Builtin.«list.__lt__» ⟨[.ref a,.ref b],[]⟩) λA R s=>SObj s.heap "list" a da vs n sa/\SObj s.heap "list" b db us m sb/\Lesser A.in1 s vs.toList us.toList r/\R (.ok (.ret (.bool r))) s:=by
 intro prog w A R s ⟨ha,hb,hl,q⟩
 obtain⟨hp,gl,dr,tk,os⟩:=s
 unfold SObj at ha hb
 have sub:=AutoSeq1.sub_list_list
 wp_walk using wpAny_loadPart' ha,wpAny_loadPart' hb
 refine⟨plainId_quiet plain_eq_loop _,codeAny_builtin entry_eq_loop ?_⟩
 rw[Around.under_plainId plain_eq_loop _]
 exact zDc vs.size 0 rfl prog w A R _ ⟨ha,hb,by simpa using hl,by omega,by omega,q⟩
theorem zFM {A:Around}{s:Shared}{a b:Addr}{vs us:Array Value}{r:Bool}(ha:s.heap.IsList a vs)(hb:s.heap.IsList b us)(hu:A.units<cLine)(h:Lesser A.in1 s vs.toList us.toList r):zGT A s (.ref a) (.ref b) r:=λp w E Q q=>by
 obtain⟨⟨c1,d1,x1,l1⟩,o1,hc1,n1,hd1⟩:=id ha
 obtain⟨⟨c2,d2,x2,l2⟩,o2,hc2,n2,hd2⟩:=id hb
 cases hc1;cases hd1;cases hc2;cases hd2
 exact richCompare_meets_room (op:=.Lt) ⟨_,o1,rfl⟩ ⟨_,o2,rfl⟩ F.slot_list_lt F.entry_list_lt (F.args_list_lt_2 _ _) zGU ⟨o1,o2,h,show Value.bool _≠Value.notImplemented/\Q _ s from ⟨(λx=>nomatch x),q⟩⟩ hu
end L2
namespace L2
open PySem PySem.Spec PyProof.Rows PySem.SeqAt
section
variable {p:Program}{w:World}{A:Around}{s0:Shared}
def zBP (h h':Heap):Prop:=∀ b o,h.get? b=some o->h'.get? b=some o
def zIa (A:Around)(s:Shared)(us:List Value)(lt:Nat->Nat->Bool):Prop :=
 ∀ i j (x y:Value),i≠j->us[i]?=some x->us[j]?=some y->∀ (h:Heap) (t:Nat),zBP s.heap h->zGT A { s with heap:=h,toks:=t } x y (lt i j)
def zAg (lt:Nat->Nat->Bool):Nat->Nat
 | 0=>0
 | k+1=>if lt (k+1) (zAg lt k) then k+1 else zAg lt k
theorem zCY (lt:Nat->Nat->Bool):∀ k,zAg lt k<=k
 | 0=>Nat.le_refl _
 | k+1=>by unfold zAg;have:=zCY lt k;split<;>omega
def zJu (x:Value)(c:Nat):Obj:={ cls:=.type "list",dict:=none,data:=.seq #[x,x] c,slots:=#[] }
theorem zHk {I S l:Addr}{us:List Value}{lt:Nat->Nat->Bool}{R:Result->Shared->Prop}(hh:A.handled=none)(hl:s0.heap.IsList l us.toArray)(hI:s0.heap.get? I=none)(hS:s0.heap.get? S=none)(hSI:S≠I)(hlt:zIa A.in1 s0 us lt)
  (hR:∀ v h t,us[zAg lt (us.length-1)]?=some v->zBP s0.heap h->R (.ok (.ret v)) { s0 with heap:=h,toks:=t }) :
  ∀ (k j:Nat) (h:Heap) (t:Nat) (x:Value) (c:Nat),us.length-(j+1)=k->j+1<=us.length->zBP s0.heap h->h.IsListIter I l (j+1)->h.get? S=some (zJu x c)->us[zAg lt j]?=some x ->
   codeAny (model p w) A (.builtin "min.loop" ⟨[.ref I,.none,.ref S],[]⟩) R { s0 with heap:=h,toks:=t }:=by
 have nm:(toString "min"++toString ".loop":String)="min.loop":=by decide
 have nlI:l≠I:=λe=>by obtain⟨o,q,_⟩:=hl;rw[e,hI] at q;cases q
 have W:=Walks.list (prog:=p) (w:=w) (A:=A.in1) hh I l nlI us.toArray
 have z:us.toArray.size=us.length:=List.size_toArray ..
 have old:∀ {h h':Heap},zBP s0.heap h->(∀ b o,b∉[I]->h.get? b=some o->h'.get? b=some o)->zBP s0.heap h':=λk1 k2 b o e=>k2 b o (λhm=>by
  have:b=I:=by simpa using hm
  rw[this,hI] at e;cases e) (k1 b o e)
 have oldS:∀ {h:Heap} {f:Obj->Obj},zBP s0.heap h->zBP s0.heap (h.update S f):=λk1 b o e=>(Heap.get?_update_other _ _ (λq=>by rw[<- q,hS] at e;cases e)).trans (k1 b o e)
 have isl:∀ {h:Heap},zBP s0.heap h->h.IsList l us.toArray:=λk1=>hl.at λo e=>k1 l o e
 intro k
 induction k with
 | zero =>
  intro j h t x c hk hj kb it eS ex
  have jn:j+1=us.length:=by omega
  refine codeAny_builtin PySem.F.entry_min_loop ?_
  rw[Around.under_plainId PySem.F.plain_min_loop _]
  refine wpAny_bind (wpAny_seqItems eS rfl ?_)
  refine wpAny_bind (wpAny_tryCatch (W.done _ _ _ ⟨by rw[z,<- jn];exact it,isl kb⟩ λh' tk hk'=>?_))
  have eS':=hk' S _ (by simpa using hSI) eS
  refine wpAny_bind ?_
  refine wpAny_updateSeq eS' rfl (wpAny_bind (wpAny_letGo (wpAny_pure ?_)))
  exact hR x _ tk (by rw[<- jn];exact ex) (oldS (old kb hk'))
 | succ k ih =>
  intro j h t x c hk hj kb it eS ex
  have jn:j+1<us.length:=by omega
  refine codeAny_builtin PySem.F.entry_min_loop ?_
  rw[Around.under_plainId PySem.F.plain_min_loop _]
  refine wpAny_bind (wpAny_seqItems eS rfl ?_)
  refine wpAny_bind (wpAny_tryCatch (W.item (j+1) _ _ _ (by rw[z];exact jn) ⟨it,isl kb⟩ λv h' tk ev st hk'=>?_))
  have eS':=hk' S _ (by simpa using hSI) eS
  have kb':=old kb hk'
  have ev':us[j+1]?=some v:=by simpa using ev
  have fl:=zCY lt j
  show wpAny (model p w) A.in1 (tryCatch (holding [v,v] (richCompare .Lt v x >>= _)) _ >>= _) _ _ _
  refine wpAny_bind (wpAny_tryCatch (wpAny_holding (wpAny_bind (hlt (j+1) (zAg lt j) v x (by omega) ev' ex h' tk kb' p w _ _ ?_))))
  refine wpAny_bind (wpAny_holding (wpAny_truthy_bool ?_))
  refine wpAny_bind (wpAny_letGo (wpAny_pure ?_))
  cases hb:lt (j+1) (zAg lt j) with
  | true =>
   simp only[if_true]
   refine wpAny_bind ?_
   refine wpAny_updateSeq eS' rfl (wpAny_bind (wpAny_letGo ?_))
   rw[nm]
   refine wpAny_pure ⟨plainId_quiet PySem.F.plain_min_loop _,ih (j+1) _ tk v _ (by omega) (by omega) (oldS kb') (st.1.at λo e=>(Heap.get?_update_other _ _ hSI).trans e) (Heap.get?_update_self _ eS' rfl) (by simp only[zAg,hb,if_true];exact ev')⟩
  | false =>
   simp only[Bool.false_eq_true,if_false]
   refine wpAny_bind (wpAny_letGo ?_)
   rw[nm]
   exact wpAny_pure ⟨plainId_quiet PySem.F.plain_min_loop _,ih (j+1) _ tk x c (by omega) (by omega) kb' st.1 eS' (by simp only[zAg,hb,Bool.false_eq_true,if_false];exact ex)⟩
theorem zHl {l:Addr}{us:List Value}{lt:Nat->Nat->Bool}{Q E:Value->Shared->Prop}(hh:A.handled=none)(hl:s0.heap.IsList l us.toArray)(hne:0<us.length)(hlt:zIa A.in1 s0 us lt)
  (hQ:∀ v h t,us[zAg lt (us.length-1)]?=some v->zBP s0.heap h->Q v { s0 with heap:=h,toks:=t }):wpAny (model p w) A (call (.builtin "min") [.ref l]) Q E s0:=by
 have nm:(toString "min"++toString ".loop":String)="min.loop":=by decide
 refine call_function_tree PySem.F.kind_min PySem.F.plain_min PySem.F.entry_min (PySem.F.args_min1 _) ?_
 refine wpAny_bind (wpAny_of_eq (show Builtin.Builtins.bindParams "min" ["key","default"] 0 ⟨[],[]⟩=pure [none,none] from rfl) ?_)
 refine wpAny_bind (wpAny_pure ?_)
 refine wpAny_bind (wpAny_pyIter_list hl ?_)
 refine wpAny_bind (wpAny_newObj_type ?_)
 rw[nm]
 refine wpAny_pure ⟨plainId_quiet PySem.F.plain_min_loop _,?_⟩
 have hlt0:l<s0.heap.objs.size:=by obtain⟨_,e,_⟩:=hl;exact Heap.lt_size e
 generalize hob:({ cls:=.type "list_iterator",data:=.fields #[.ref l,.int 0 0] }:Obj)=ob
 have fI:(s0.heap.push ob).get? s0.heap.objs.size=some ob:=by subst hob;exact Heap.get?_push_size _ rfl
 have nI:s0.heap.get? s0.heap.objs.size=none:=by
  cases e:s0.heap.get? s0.heap.objs.size with
  | none=>rfl
  | some o=>exact absurd (Heap.lt_size e) (Nat.lt_irrefl _)
 generalize hob2:({ cls:=.type "list",data:=.seq #[] }:Obj)=ob2
 have zI:(s0.heap.push ob).objs.size=s0.heap.objs.size+1:=Heap.size_push ..
 have nSI:(s0.heap.push ob).objs.size≠s0.heap.objs.size:=by rw[zI];omega
 have nS:¬ (s0.heap.push ob).objs.size<s0.heap.objs.size:=by rw[zI];omega
 generalize hS:(s0.heap.push ob).objs.size=S at *
 have e2:((s0.heap.push ob).push ob2).get? S=some ob2:=by subst hS;subst hob2;exact Heap.get?_push_size _ rfl
 have fS:s0.heap.get? S=none:=by
  cases e:s0.heap.get? S with
  | none=>rfl
  | some o=>exact absurd (Heap.lt_size e) nS
 have kb2:zBP s0.heap ((s0.heap.push ob).push ob2):=λb o e=>Heap.get?_push_of_some _ (Heap.get?_push_of_some _ e)
 have nlI:l≠s0.heap.objs.size:=Nat.ne_of_lt hlt0
 have W:=Walks.list (prog:=p) (w:=w) (A:=A.in1) hh s0.heap.objs.size l nlI us.toArray
 have z:us.toArray.size=us.length:=List.size_toArray ..
 have it0:((s0.heap.push ob).push ob2).IsListIter s0.heap.objs.size l 0:=⟨ob,Heap.get?_push_of_some _ fI,by rw[<- hob],by rw[<- hob];rfl⟩
 refine codeAny_builtin PySem.F.entry_min_loop ?_
 rw[Around.under_plainId PySem.F.plain_min_loop _]
 subst hob2
 refine wpAny_bind (wpAny_seqItems e2 rfl ?_)
 refine wpAny_bind (wpAny_tryCatch (W.item 0 _ _ _ (by rw[z];exact hne) ⟨it0,hl.at λo e=>kb2 l o e⟩ λv h' tk ev st hk'=>?_))
 have eS':=hk' S _ (by simpa using nSI) e2
 have kb':zBP s0.heap h':=λb o e=>hk' b o (λhm=>by
  have:b=s0.heap.objs.size:=by simpa using hm
  rw[this,nI] at e;cases e) (kb2 b o e)
 show wpAny (model p w) A.in1 (updateSeq S (λ_=>#[v,v]) >>= _) _ _ _
 refine wpAny_bind ?_
 refine wpAny_updateSeq eS' rfl ?_
 rw[nm]
 have oldS:∀ {f:Obj->Obj},zBP s0.heap (h'.update S f):=λb o e=>(Heap.get?_update_other _ _ (λq=>by rw[<- q,fS] at e;cases e)).trans (kb' b o e)
 refine wpAny_pure ⟨plainId_quiet PySem.F.plain_min_loop _,?_⟩
 exact zHk (s0:=s0) hh hl nI fS nSI hlt hQ _ 0 _ tk v _ rfl hne oldS (st.1.at λo e=>(Heap.get?_update_other _ _ nSI).trans e) (Heap.get?_update_self _ eS' rfl) (by simpa [zAg] using ev)
end
end L2
namespace L2
open PySem PySem.Spec PyProof.Rows PySem.SeqAt
structure Ord {α:Type}(lt:α->α->Bool):Prop where
 irr:∀ x,lt x x=false
 tr:∀ x y z,lt x y=true->lt y z=true->lt x z=true
 tot:∀ x y,x≠y->lt x y=true\/lt y x=true
def lexB {α:Type}[DecidableEq α](lt:α->α->Bool):List α->List α->Bool
 | [],[]=>false
 | [],_::_=>true
 | _::_,[]=>false
 | x::xs,y::ys=>if x=y then lexB lt xs ys else lt x y
section
variable {α:Type}[DecidableEq α]{lt:α->α->Bool}
theorem zEa:∀ xs:List α,lexB lt xs xs=false
 | []=>rfl
 | x::xs=>by simp only[lexB,if_true];exact zEa xs
theorem zGV (o:Ord lt):∀ xs ys zs:List α,lexB lt xs ys=true->lexB lt ys zs=true->lexB lt xs zs=true
 | [],[],_,h,_=>nomatch h
 | [],_::_,[],_,h=>nomatch h
 | [],_::_,_::_,_,_=>rfl
 | _::_,[],_,h,_=>nomatch h
 | _::_,_::_,[],_,h=>nomatch h
 | x::xs,y::ys,z::zs,h1,h2=>by
  simp only[lexB] at h1 h2 ⊢
  by_cases e1:x=y
  ·subst e1
   rw[if_pos rfl] at h1
   by_cases e2:x=z
   ·subst e2
    rw[if_pos rfl] at h2 ⊢
    exact zGV o xs ys zs h1 h2
   ·rw[if_neg e2] at h2 ⊢;exact h2
  ·rw[if_neg e1] at h1
   by_cases e2:y=z
   ·subst e2
    rw[if_neg e1];exact h1
   ·rw[if_neg e2] at h2
    have h3:=o.tr x y z h1 h2
    by_cases e3:x=z
    ·subst e3
     rw[o.irr] at h3;cases h3
    ·rw[if_neg e3];exact h3
theorem zEb (o:Ord lt):∀ xs ys:List α,xs≠ys->lexB lt xs ys=true\/lexB lt ys xs=true
 | [],[],h=>absurd rfl h
 | [],_::_,_=>.inl rfl
 | _::_,[],_=>.inr rfl
 | x::xs,y::ys,h=>by
  simp only[lexB]
  by_cases e:x=y
  ·subst e
   rw[if_pos rfl,if_pos rfl]
   exact zEb o xs ys λq=>h (by rw[q])
  ·rw[if_neg e,if_neg λq=>e q.symm]
   exact o.tot x y e
theorem zHm (o:Ord lt):Ord (lexB lt):=⟨zEa,zGV o,zEb o⟩
end
theorem zJv:Ord (λa b:Int=>decide (a<b)):=⟨λx=>by simp,λx y z h1 h2=>by simp at *;omega,λx y h=>by simp;omega⟩
def ltI:List Int->List Int->Bool:=lexB λa b:Int=>decide (a<b)
theorem ltI_ord:Ord ltI:=zHm zJv
inductive CV where
 | n (i:Int)
 | s (l:List Int)
deriving DecidableEq
section
variable {X:Cx}{pins:List (Addr×Obj)}{σ:St}{H:Hp}{s:Shared}
theorem zDd {A:Around}:∀ {us vs:List Value} {l m:List Int},IntsAre us l->IntsAre vs m->Lesser A s us vs (ltI l m)
 | _,_,_,_,.nil,.nil=>.both
 | _,_,_,_,.nil,.cons _ _ _=>.short
 | _,_,_,_,.cons _ _ _,.nil=>.long
 | _,_,_,_,.cons a t h1,.cons b t' h2=>by
  have e:=EqAt.int_int (A:=A) (s:=s) a t b t'
  unfold ltI
  simp only[lexB]
  by_cases z:a=b
  ·rw[if_pos z]
   rw[beq_iff_eq.mpr z] at e
   exact .on e (zDd h1 h2)
  ·rw[if_neg z]
   rw[beq_eq_false_iff_ne.mpr z] at e
   exact .off e λp w E Q q=>lt_int q
end
end L2
namespace L2
open PySem PySem.Spec PyProof.Rows PySem.SeqAt
theorem zEc {cs:Nat->List Int}:∀ (n i:Nat),i<=n->ltI (cs i) (cs (zAg (λi j=>ltI (cs i) (cs j)) n))=false
 | 0,i,h=>by
  have:i=0:=by omega
  subst this
  exact ltI_ord.irr _
 | n+1,i,h=>by
  have ih:=zEc (cs:=cs) n
  simp only[zAg]
  by_cases hb:ltI (cs (n+1)) (cs (zAg (λi j=>ltI (cs i) (cs j)) n))=true
  case neg =>
   rw[if_neg hb]
   have hb:=(Bool.not_eq_true _).mp hb
   by_cases e:i=n+1
   ·subst e;exact hb
   ·exact ih i (by omega)
  case pos =>
   rw[if_pos hb]
   by_cases e:i=n+1
   ·subst e;exact ltI_ord.irr _
   ·have h1:=ih i (by omega)
    cases h2:ltI (cs i) (cs (n+1)) with
    | false=>rfl
    | true=>rw[ltI_ord.tr _ _ _ h2 hb] at h1;cases h1
section
variable {X:Cx}
@[irreducible] def zHn (a:Addr)(H:Hp)(Q:VK):Prop:=∃ (as:List Addr) (cs:Nat->List Int),H a=some (.lst (as.map V.ref))/\as≠[]/\(∀ (i:Nat) b,as[i]?=some b->H b=some (.lst ((cs i).map V.int))) /\
 ∀ (k:Nat) b,as[k]?=some b->(∀ i,i<as.length->ltI (cs i) (cs k)=false)->Q (.ref b) H
def zLV:List V->Hp->VK->Prop:=λxs H Q=>match xs with
 | [.ref a]=>zHn a H Q
 | _=>False
theorem zLW {n:Nat}(hr:Room n X.A)(hc:X.calm=true):CallR X (.builtin "min") zLV:=by
 intro pins s σ H xs us Q I r h
 unfold zLV at h
 split at h
 ·rename_i a
  unfold zHn at h
  obtain⟨as,cs,ha,hne,hit,q⟩:=h
  obtain⟨u,rfl,rx⟩:=zCO r
  cases rx
  obtain⟨its,r',pl,_⟩:=I.list (SqL.of ha)
  have hl:=r'.length
  rw[List.length_map] at hl
  have hpos:0<as.length:=List.length_pos_iff.mpr hne
  have its_at:∀ (i:Nat) (v:Value),its[i]?=some v->∃ b,as[i]?=some b/\v=.ref b:=λi v hv=>by
   have hi:i<as.length:=by have:=(List.getElem?_eq_some_iff.mp hv).1;omega
   have e:(as.map V.ref)[i]?=some (.ref as[i]):=by rw[List.getElem?_map,List.getElem?_eq_getElem hi];rfl
   exact⟨as[i],List.getElem?_eq_getElem hi,zA9 r' i e hv⟩
  have hu:=hr.units
  refine zHl (lt:=λi j=>ltI (cs i) (cs j)) (I.ok.hd hc) pl.isList (by omega) (λi j x y nij hx hy h' t kb=>?_) λv h' t hv kb=>?_
  ·obtain⟨b1,g1,rfl⟩:=its_at i x hx
   obtain⟨b2,g2,rfl⟩:=its_at j y hy
   have I':Inv X pins σ H { s with heap:=h',toks:=t }:=I.kept (t':=t) kb
   obtain⟨us1,v1,t1,_⟩:=I'.list (SqL.of (hit i b1 g1))
   obtain⟨us2,v2,t2,_⟩:=I'.list (SqL.of (hit j b2 g2))
   exact zFM t1.isList t2.isList (by show X.A.units+1<cLine;omega) (zDd (by simpa using zAn v1) (by simpa using zAn v2))
  ·obtain⟨b,hb,rfl⟩:=its_at _ v hv
   refine⟨.ref b,H,I.kept kb,rfl,q _ b hb λi hi=>?_⟩
   exact zEc (cs:=cs) (its.length-1) i (by omega)
 ·exact h.elim
theorem zIb {a:Addr}{H:Hp}{Q:VK}{as:List Addr}(cs:Nat->List Int)(ha:H a=some (.lst (as.map V.ref)))(hne:as≠[])(hit:∀ (i:Nat) b,as[i]?=some b->H b=some (.lst ((cs i).map V.int)))
  (q:∀ (k:Nat) b,as[k]?=some b->(∀ i,i<as.length->ltI (cs i) (cs k)=false)->Q (.ref b) H):zHn a H Q:=by unfold zHn;exact⟨as,cs,ha,hne,hit,q⟩
end
end L2
namespace L2
open PySem PySem.Spec PyProof.Rows
section
variable {X:Cx}{K:W.Frag}{a b e:Expr}{ta tb te:TE}{pos p p2:Pos}{x:Str}
theorem zHo {r:R2}(ho:OpR X (compareOp .NotIn) r)(ha:QE X a ta)(hb:QE X b tb)(hm:behindInMarks .NotIn b=false:=by with_unfolding_all rfl):QT X (.Compare a [.NotIn] [b] pos) (mB (tOp r ta tb)):=⟨zLC ho ha.h hb.h hm⟩
structure KTxt (mg:Str->Option Value)(x:Str)(z:Str):Prop where
 ex:∃ t,mg x=some (.str z t)
end
section
variable {X:Cx}{tg e:Expr}{te:TE}
end
end L2
namespace L2
open PySem PySem.Spec PyProof.Rows
structure Flies (P:Program)(w:World)(l:List Env)(H:Hp)(h0:Heap)(e:Addr)(cls:Value)(H':Hp)(h:Heap):Prop where
 un:Un (frs l) [] H H' h0 h
 hok:HOk P w H' h
 ex:∃ B t,Heap.FlyingW B l e cls (.ref t) h/\(∀ b o,H' b≠none->h.get? b=some o->B.get? b=some o)/\(∀ b o,h0.get? b=some o->H b=none->b∉frs l->B.get? b=some o) /\
  ∀ b o,h0.get? b=some o->b∉frs l->∃ o',B.get? b=some o'
 en:H' e=none
 new:h0.get? e=none
def CXe (P:Program)(w:World):CXT:=λl H s E ev s'=>∃ (e:Addr) (cls:Value) (H':Hp),ev=.ref e/\s'.os=s.os/\AllBare s'.gens/\Flies P w l H s.heap e cls H' s'.heap/\E cls none H'
section
variable {P:Program}{w:World}{K:W.Frag}{mg:Str->Option Value}{base:Heap}{N:List Str}{qual:Str}{scope:Scope}{f:Addr}{cd:Value}{A:Around}{outer:List Env}{s0:Shared}{H0:Hp}{E:XK}
abbrev cxE (P:Program)(w:World)(K:W.Frag)(mg:Str->Option Value)(base:Heap)(N:List Str)(qual:Str)(scope:Scope)(f:Addr)(cd:Value)(A:Around)(outer:List Env)(s0:Shared)(H0:Hp)(E:XK):Cx:=cxOf (CXe P w) P w K mg base N qual scope f cd A outer s0 H0 E
end
end L2
namespace L2
open PySem PySem.Spec PyProof.Rows
abbrev bmV:List Value:=[.type "ValueError",.type "Exception",.type "BaseException",.type "object"]
structure ExC (K:W.Frag)(mg:Str->Option Value)(x:Str)(C:Addr):Prop where
 bound:mg x=some (.ref C)
 cls:W.excIn K C bmV "ValueError.__new__"=true
section
variable {X:Cx}{e:Expr}{es:List Expr}{t:TA}{x:Str}{C:Addr}{np cpos pos p:Pos}{E:XK}
end
structure DefX (P:Program)(w:World)(K:W.Frag)(mg:Str->Option Value)(base:Heap)(k:Nat)(x:Str)(ps:List Str)(sp:Sp):Prop where
 ex:∃ f fd,FnOk P w K mg base (CXe P w) k f fd ps sp/\Binds K fd ps []/\W.keepIn K (.ref f)=true/\mg x=some (.ref f)
end L2
namespace L2
open PySem PySem.Spec PyProof.Rows
abbrev Cx.caught (X:Cx)(e:Addr):Cx:={ X with A:=X.A.mark (some (.ref e)),calm:=false,xe:=λ_ _=>False }
section
variable {X:Cx}{pins:List (Addr×Obj)}{σ:St}{H H':Hp}{s s':Shared}{e:Addr}{cls:Value}
end
end L2
namespace L2
open PySem PySem.Spec PyProof.Rows
section
variable {X:Cx}{pins:List (Addr×Obj)}{σ:St}{H H1:Hp}{s s1 s':Shared}{Q:VK}{Ex:XK}{x y n:Str}{e:Expr}{es:List Expr}{t:TA}{p pos np hpos cpos apos p1 tpos:Pos}{ps:List Str}{sp:Sp}{k k2 j:Nat}{C:Addr}{b0:Stmt}{suite:List Stmt}{su:TS}{D:Ends}{ev:Value}
end
end L2
set_option maxHeartbeats 2000000
namespace L2
open PySem PySem.Spec PyProof.Rows PySem.W
structure ExI (K:Frag)(C:Addr):Prop where
 own:excIn K C bmV "ValueError.__new__"=true
 cl:findIn K (.ref C) "__class__"=some (some (.builtin "object.__class__"))
 ob:mroIn K C (.type "object")=some true
 be:mroIn K C (.type "BaseException")=some true
 ga:findIn K (.ref C) "__getattribute__"=some (some (.builtin "BaseException.__getattribute__"))
 gn:findIn K (.ref C) "__getattr__"=some none
section
variable {prog:Program}{w:World}{A:Around}{E:Value->Shared->Prop}{K:Frag}{h:Heap}{g:Array GenState}{d:Drawn}{t:Nat}{os:OsState}{a C:Addr}
end
end L2
namespace L2
open PySem PySem.Spec PyProof.Rows
section
variable {X:Cx}{K:W.Frag}{x:Str}{C:Addr}{pos:Pos}
end
end L2
namespace L2
open PySem PySem.Spec PyProof.Rows
section
variable {X:Cx}{a b:Expr}{ta tb:TE}{pos:Pos}
end
end L2
namespace L2
open PySem PySem.Spec PyProof.Rows
section
variable {X:Cx}{e:Expr}{te:TE}{pos p2:Pos}
end
end L2
namespace L2
open PySem PySem.Spec PyProof.Rows
section
variable {X:Cx}
end
end L2
namespace L2
open PySem PySem.Spec PyProof.Rows
end L2
namespace L2
open PySem PySem.Spec PyProof.Rows
section
variable {X:Cx}{K:W.Frag}
end
end L2
set_option maxHeartbeats 4000000
namespace L2
open PySem PySem.Spec PyProof.Rows
section
variable {X:Cx}
end
structure MthX (P:Program)(w:World)(K:W.Frag)(mg:Str->Option Value)(base:Heap)(k:Nat)(C:Addr)(m:Str)(ps:List Str)(sp:Sp):Prop where
 cl:Cls K C
 ex:∃ f fd,FnOk P w K mg base (CXe P w) k f fd ps sp/\Binds K fd ps []/\Meth K C m f
section
variable {X:Cx}{C:Addr}{m:Str}{e o:Expr}{es:List Expr}{to:TE}{t:TA}{pos apos:Pos}{E:XK}
end
section
variable {X:Cx}{pins:List (Addr×Obj)}{σ:St}{H H1:Hp}{s s1 s':Shared}{Q:VK}{Ex:XK}{x y n m:Str}{e o:Expr}{es:List Expr}{t:TA}{to:TE}{p pos np hpos cpos apos p1 tpos:Pos}{ps:List Str}{sp:Sp}{k k2 j:Nat}{C:Addr}{b0:Stmt}{suite:List Stmt}{su:TS}{D:Ends}{ev:Value}
end
end L2
namespace L2
open PySem PySem.Spec PyProof.Rows
section
variable {κ:Type}[DecidableEq κ]
def valV (kvs:List (κ×V))(k:κ):Option V:=(kvs.find? λkv=>decide (kv.1=k)).map (·.2)
def putK (kvs:List (κ×V))(k:κ)(v:V):List (κ×V) :=
 if (kvs.any λkv=>decide (kv.1=k))=true then kvs.map (λkv=>if kv.1=k then (kv.1,v) else kv) else kvs++[(k,v)]
theorem zHp {k:κ}:valV ([]:List (κ×V)) k=none:=rfl
theorem zAo {p:κ×V}{r:List (κ×V)}{k:κ}(e:p.1=k):valV (p::r) k=some p.2:=by simp[valV,List.find?_cons,e]
theorem zAp {p:κ×V}{r:List (κ×V)}{k:κ}(e:¬ p.1=k):valV (p::r) k=valV r k:=by simp[valV,List.find?_cons,e]
theorem zBK (k:κ):∀ kvs:List (κ×V),(kvs.any λkv=>decide (kv.1=k))=(valV kvs k).isSome
 | []=>rfl
 | p::r=>by
  rw[List.any_cons]
  by_cases e:p.1=k
  ·simp only[zAo e,decide_eq_true e,Bool.true_or,Option.isSome_some]
  ·rw[zAp e,decide_eq_false e,Bool.false_or];exact zBK k r
theorem zEd (k j:κ)(y:V):∀ kvs:List (κ×V),valV (kvs.map λkv=>if kv.1=k then (kv.1,y) else kv) j=(valV kvs j).map λx=>if j=k then y else x
 | []=>rfl
 | p::r=>by
  have ih:=zEd k j y r
  rw[List.map_cons]
  by_cases h:p.1=k
  ·rw[if_pos h]
   by_cases e:p.1=j
   ·rw[zAo (p:=(p.1,y)) e,zAo e,Option.map_some,if_pos (e.symm.trans h)]
   ·rw[zAp (p:=(p.1,y)) e,zAp e,ih]
  ·rw[if_neg h]
   by_cases e:p.1=j
   ·rw[zAo (p:=p) e,zAo e,Option.map_some,if_neg (λz=>h (e.trans z))]
   ·rw[zAp (p:=p) e,zAp e,ih]
theorem zDe (k j:κ)(y:V):∀ kvs:List (κ×V),valV kvs k=none->valV (kvs++[(k,y)]) j=if j=k then some y else valV kvs j
 | [],_=>by
  by_cases e:k=j
  ·rw[if_pos e.symm];exact zAo (p:=(k,y)) e
  ·rw[if_neg (λz=>e z.symm)];exact zAp (p:=(k,y)) e
 | p::r,hn=>by
  rw[List.cons_append]
  have hk:¬ p.1=k:=λz=>by rw[zAo z] at hn;cases hn
  rw[zAp hk] at hn
  have ih:=zDe k j y r hn
  by_cases e:p.1=j
  ·rw[zAo e,zAo e,if_neg (λz=>hk (e.trans z))]
  ·rw[zAp e,zAp e,ih]
theorem zHq (kvs:List (κ×V))(k j:κ)(y:V):valV (putK kvs k y) j=if j=k then some y else valV kvs j:=by
 unfold putK
 by_cases a:(kvs.any λkv=>decide (kv.1=k))=true
 ·rw[if_pos a,zEd]
  rw[zBK] at a
  by_cases e:j=k
  ·obtain⟨x,hx⟩:=Option.isSome_iff_exists.mp a
   rw[if_pos e,e,hx,Option.map_some,if_pos rfl]
  ·rw[if_neg e]
   cases valV kvs j with
   | none=>rfl
   | some x=>rw[Option.map_some,if_neg e]
 ·rw[if_neg a]
  refine zDe k j y kvs ?_
  rw[zBK] at a
  cases q:valV kvs k with
  | none=>rfl
  | some x=>rw[q] at a;exact(a rfl).elim
theorem zBA (kvs:List (κ×V))(k:κ)(v:V):(putK kvs k v).length<=kvs.length+1:=by
 unfold putK
 split
 ·rw[List.length_map];omega
 ·rw[List.length_append,List.length_cons,List.length_nil];omega
theorem zHr {kvs:List (κ×V)}{k:κ}(v:V)(h:valV kvs k=none):putK kvs k v=kvs++[(k,v)]:=by
 unfold putK
 rw[zBK,h]
 exact if_neg (by decide)
theorem RelO.isSome_eq {o:Option V}{u:Option Value}(r:RelO o u):o.isSome=u.isSome:=by
 cases o with
 | none=>cases u with
  | none=>rfl
  | some _=>exact(show False from r).elim
 | some _=>cases u with
  | none=>exact(show False from r).elim
  | some _=>rfl
theorem RelO.getD {o:Option V}{u:Option Value}{d:V}{d':Value}(r:RelO o u)(rd:RelV d d'):RelV (o.getD d) (u.getD d'):=by
 cases o with
 | none=>cases u with
  | none=>exact rd
  | some _=>exact(show False from r).elim
 | some _=>cases u with
  | none=>exact(show False from r).elim
  | some _=>exact r
theorem KV.val {kvs:List (κ×V)}{vs:List (κ×Value)}(r:KV kvs vs)(k:κ):RelO (valV kvs k) (valueAt vs k):=by
 unfold KV at r
 induction r with
 | nil=>exact True.intro
 | @cons p q ps qs h t ih =>
  obtain⟨h1,h2⟩:=h
  by_cases e:p.1=k
  ·have e':q.1=k:=h1.symm.trans e
   have b:valueAt (q::qs) k=some q.2:=by simp[valueAt,List.find?_cons,e']
   rw[zAo e,b];exact h2
  ·have e':¬ q.1=k:=λz=>e (h1.trans z)
   have b:valueAt (q::qs) k=valueAt qs k:=by simp[valueAt,List.find?_cons,e']
   rw[zAp e,b];exact ih
theorem KV.any {kvs:List (κ×V)}{vs:List (κ×Value)}(r:KV kvs vs)(k:κ):(kvs.any λkv=>decide (kv.1=k))=vs.any λkv=>decide (kv.1=k):=by
 unfold KV at r
 induction r with
 | nil=>rfl
 | cons h t ih=>rw[List.any_cons,List.any_cons,ih,h.1]
theorem KV.repl {kvs:List (κ×V)}{vs:List (κ×Value)}(r:KV kvs vs)(k:κ){y:V}{u:Value}(ry:RelV y u) :
  KV (kvs.map λkv=>if kv.1=k then (kv.1,y) else kv) (vs.map λkv=>if kv.1=k then (kv.1,u) else kv):=by
 unfold KV at r ⊢
 induction r with
 | nil=>exact .nil
 | @cons p q ps qs h t ih =>
  rw[List.map_cons,List.map_cons]
  refine .cons ?_ ih
  obtain⟨h1,h2⟩:=h
  by_cases e:p.1=k
  ·rw[if_pos e,if_pos (h1.symm.trans e)];exact⟨h1,ry⟩
  ·rw[if_neg e,if_neg (λz=>e (h1.trans z))];exact⟨h1,h2⟩
theorem KV.put {kvs:List (κ×V)}{vs:List (κ×Value)}(r:KV kvs vs)(k:κ){y:V}{u:Value}(ry:RelV y u):KV (putK kvs k y) (stored vs k u):=by
 unfold putK stored
 rw[r.any k]
 by_cases e:(vs.any λkv=>decide (kv.1=k))=true
 ·rw[if_pos e,if_pos e];exact r.repl k ry
 ·rw[if_neg e,if_neg e];exact Paired.snoc r ⟨rfl,ry⟩
theorem KV.keys {kvs:List (κ×V)}{vs:List (κ×Value)}(r:KV kvs vs):kvs.map (·.1)=vs.map (·.1):=by
 unfold KV at r
 induction r with
 | nil=>rfl
 | cons h t ih=>rw[List.map_cons,List.map_cons,ih,h.1]
theorem KV.length {kvs:List (κ×V)}{vs:List (κ×Value)}(r:KV kvs vs):kvs.length=vs.length:=Paired.length r
end
theorem zGW {P:Program}{w:World}{k:Key}{u:Value}(r:RelV (kV k) u):(mixKind P w).is k u=true:=by
 cases k with
 | inl i=>obtain⟨t,e⟩:=(show ∃ t,u=Value.int i t from r);subst e;exact zD0 P w i t
 | inr x=>obtain⟨t,e⟩:=(show ∃ t,u=Value.str x t from r);subst e;exact zD1 P w x t
theorem zDf {P:Program}{w:World}:∀ {ks:List Key} {us:List Value},Vals (ks.map kV) us->ItemsAre (mixKind P w) ks us
 | [],_,r=>by rw[List.map_nil] at r;cases r;exact .nil
 | k::ks,_,r=>by
  rw[List.map_cons] at r
  cases r with
  | cons h t=>exact .cons (zGW h) (zDf t)
abbrev KT (H:Hp):List (List Key×V)->List (List Key×Addr×Value)->Prop:=Paired λp q=>p.1=q.1/\H q.2.1=some (.tup (p.1.map kV))/\RelV p.2 q.2.2
theorem KT.val {H:Hp}{kvs:List (List Key×V)}{xs:List (List Key×Addr×Value)}(r:KT H kvs xs)(k:List Key):RelO (valV kvs k) ((atKey xs k).map (·.2)):=by
 induction r with
 | nil=>exact True.intro
 | @cons p q ps qs h t ih =>
  obtain⟨h1,_,h2⟩:=h
  by_cases e:p.1=k
  ·have e':q.1=k:=h1.symm.trans e
   have b:atKey (q::qs) k=some q.2:=by simp[atKey,List.find?_cons,e']
   rw[zAo e,b];exact h2
  ·have e':¬ q.1=k:=λz=>e (h1.trans z)
   have b:atKey (q::qs) k=atKey qs k:=by simp[atKey,List.find?_cons,e']
   rw[zAp e,b];exact ih
theorem KT.repl {H:Hp}{kvs:List (List Key×V)}{xs:List (List Key×Addr×Value)}(r:KT H kvs xs)(k:List Key){y:V}{u:Value}(ry:RelV y u) :
  KT H (kvs.map λkv=>if kv.1=k then (kv.1,y) else kv) (xs.map (putAt k u)):=by
 induction r with
 | nil=>exact .nil
 | @cons p q ps qs h t ih =>
  rw[List.map_cons,List.map_cons]
  refine .cons ?_ ih
  obtain⟨h1,h2,h3⟩:=h
  unfold putAt
  by_cases e:p.1=k
  ·rw[if_pos e,if_pos (h1.symm.trans e)];exact⟨h1,h2,ry⟩
  ·rw[if_neg e,if_neg (λz=>e (h1.trans z))];exact⟨h1,h2,h3⟩
theorem KT.put {H:Hp}{kvs:List (List Key×V)}{xs:List (List Key×Addr×Value)}(r:KT H kvs xs)(k:List Key){b:Addr}{y:V}{u:Value}(hb:H b=some (.tup (k.map kV)))(ry:RelV y u) :
  KT H (putK kvs k y) (storedH xs k b u):=by
 have e:(kvs.any λkv=>decide (kv.1=k))=(atKey xs k).isSome:=by
  rw[zBK,(r.val k).isSome_eq,Option.isSome_map]
 unfold putK storedH
 rw[e]
 by_cases q:(atKey xs k).isSome=true
 ·rw[if_pos q,if_pos q];exact r.repl k ry
 ·rw[if_neg q,if_neg q];exact Paired.snoc r ⟨rfl,hb,ry⟩
theorem KT.keeps {H H':Hp}{kvs:List (List Key×V)}{xs:List (List Key×Addr×Value)}(r:KT H kvs xs)(ht:∀ b ys,H b=some (.tup ys)->H' b=some (.tup ys)):KT H' kvs xs :=
 Paired.mapP r λ_ _ z=>⟨z.1,ht _ _ z.2.1,z.2.2⟩
section
variable {P:Program}{w:World}{H:Hp}{h:Heap}{a:Addr}
theorem zLX {u:HO}(ok:HOk P w H h)(e:Rd H a u):ObjOk P w H h a u:=e.ok ok
theorem zGX {kvs:List (Key×V)}(ok:HOk P w H h)(e:Rd H a (.dK kvs)):kvs.length<=sizeLine/\(a == sysModules)=false/\∃ vs,KV kvs vs/\h.DictOf (mixKind P w) a vs :=
 show ObjOk P w H h a (.dK kvs) from zLX ok e
theorem zLY {kvs:List (Key×V)}(ok:HOk P w H h)(e:H a=some (.dK kvs)):kvs.length<=sizeLine/\(a == sysModules)=false/\∃ vs,KV kvs vs/\h.DictOf (mixKind P w) a vs:=zGX ok (.inl e)
theorem zEe {ks:List Key}(ok:HOk P w H h)(e:H a=some (.tup (ks.map kV))):(tupleKind (mixKind P w)).is h ks a:=by
 obtain⟨_,its,r,o,h1,h2,n,h3⟩:=(show ObjOk P w H h a (.tup (ks.map kV)) from ok a _ e)
 exact⟨o,its.toArray,n,h1,h2,h3,by simpa using zDf r⟩
theorem zHs {kvs:List (List Key×V)}(ok:HOk P w H h)(e:Rd H a (.dT kvs)):kvs.length<=sizeLine/\(a == sysModules)=false /\
  ∃ xs,KT H kvs xs/\h.DictOfH (tupleKind (mixKind P w)) a xs:=by
 obtain⟨z,y,xs,r,o,es,ep,h1,h2,h3,h4,h5⟩:=(show ObjOk P w H h a (.dT kvs) from zLX ok e)
 refine⟨z,y,xs,r,o,es,ep,h1,h2,h3,h4,λx hx=>?_,h5⟩
 have all:∀ {l:List (List Key×V)} {m:List (List Key×Addr×Value)},KT H l m->∀ x∈m,(tupleKind (mixKind P w)).is h x.1 x.2.1:=by
  intro l m q
  induction q with
  | nil=>intro x hx;exact nomatch hx
  | @cons p q ps qs hq t ih =>
   intro x hx
   rcases List.mem_cons.mp hx with e | hx
   ·subst e
    exact zEe ok (by rw[<- hq.1];exact hq.2.1)
   ·exact ih x hx
 exact all r x hx
theorem zM2 {kvs:List (List Key×V)}(ok:HOk P w H h)(e:H a=some (.dT kvs)):kvs.length<=sizeLine/\(a == sysModules)=false /\
  ∃ xs,KT H kvs xs/\h.DictOfH (tupleKind (mixKind P w)) a xs:=zHs ok (.inl e)
end
def DGet (H:Hp)(a:Addr)(y:V)(r:Option V):Prop :=
 (∃ kvs k,Rd H a (.dK kvs)/\y=kV k/\r=valV kvs k)\/∃ kvs k b,Rd H a (.dT kvs)/\y=.ref b/\H b=some (.tup (k.map kV))/\r=valV kvs k
def DPut (H:Hp)(a:Addr)(y v:V)(H':Hp):Prop :=
 (∃ kvs k,H a=some (.dK kvs)/\y=kV k/\kvs.length<sizeLine/\H'=upd H a (.dK (putK kvs k v))) \/
 ∃ kvs k b,H a=some (.dT kvs)/\y=.ref b/\H b=some (.tup (k.map kV))/\kvs.length<sizeLine/\H'=upd H a (.dT (putK kvs k v))
theorem DGet.k {H:Hp}{a:Addr}{kvs:List (Key×V)}{k:Key}(e:H a=some (.dK kvs)):DGet H a (kV k) (valV kvs k):=.inl ⟨kvs,k,.inl e,rfl,rfl⟩
theorem DPut.k {H:Hp}{a:Addr}{kvs:List (Key×V)}{k:Key}{v:V}(e:H a=some (.dK kvs))(hl:kvs.length<sizeLine):DPut H a (kV k) v (upd H a (.dK (putK kvs k v))):=.inl ⟨kvs,k,e,rfl,hl,rfl⟩
section
variable {X:Cx}{pins:List (Addr×Obj)}{σ:St}{H:Hp}{s:Shared}{a:Addr}{y v:V}{u r:Value}{o:Option V}{A:Around}{E:Value->Shared->Prop}
theorem Inv.big (I:Inv X pins σ H s):sysModules<s.heap.objs.size:=by
 have h:mainGlobals<s.heap.objs.size:=(I.mod.glob.keeps I.bk).lt
 exact Nat.lt_trans (by decide) h
theorem zJw {Q:Value->Shared->Prop}(hu:A.units+1<cLine)(I:Inv X pins σ H s)(g:DGet H a y o)(ry:RelV y u)(h:∀ s',Inv X pins σ H s'->Q (.bool (!o.isSome)) s') :
  wpAny (model X.prog X.w) A (compareOp .NotIn u (.ref a)) Q E s:=by
 rcases g with ⟨kvs,k,e,ey,l⟩ | ⟨kvs,k,b,e,ey,eb,l⟩
 ·subst ey
  obtain⟨z,hd,vs,rel,dd⟩:=zGX I.hok e
  refine wpAny_notIn_of (zGW ry) hd dd.mapOf ?_
  rw[<- (rel.val k).isSome_eq,<- l]
  exact h _ (I.tok _)
 ·subst ey
  cases (show u=Value.ref b from ry)
  obtain⟨z,hd,xs,rel,dd⟩:=zHs I.hok e
  refine wpAny_notIn_heap (tupleKind_room_in1 hu) (zEe I.hok eb) hd dd ?_
  have q:=(rel.val k).isSome_eq
  rw[Option.isSome_map] at q
  rw[<- q,<- l]
  exact h _ (I.tok _)
theorem zEE {h':Heap}{t':Nat}{ob:HO}(I:Inv X pins σ H s)(mu:Mut (H a))(hs:Heap.SameBut a s.heap h')(he:∃ q,h'.get? a=some q)(new:ObjOk X.prog X.w (upd H a ob) h' a ob) :
  Inv X pins σ (upd H a ob) { s with heap:=h',toks:=t' } :=
 I.write (x:=a) (e:=a) mu (.inl rfl) (λb q hb z=>(hs.2 b hb).trans z) he new
theorem zIc {P:Program}{w:World}{H':Hp}{h':Heap}{kvs:List (Key×V)}{vs:List (Key×Value)}(z:kvs.length<=sizeLine)(hd:(a == sysModules)=false)(rel:KV kvs vs)(dd:h'.DictOf (mixKind P w) a vs) :
  ObjOk P w H' h' a (.dK kvs):=⟨z,hd,vs,rel,dd⟩
theorem zGY {H':Hp}{Q:Unit->Shared->Prop}(hu:A.units+1<cLine)(I:Inv X pins σ H s)(g:DPut H a y v H')(ry:RelV y u)(rv:RelV v r)(h:∀ s',Inv X pins σ H' s'->Q () s') :
  wpAny (model X.prog X.w) A (setItem (.ref a) u r) Q E s:=by
 rcases g with ⟨kvs,k,e,ey,l,eH⟩ | ⟨kvs,k,b,e,ey,eb,l,eH⟩
 ·subst ey eH
  obtain⟨z,hd,vs,rel,dd⟩:=zLY I.hok e
  have hz:vs.length<=sizeLine:=by rw[<- rel.length];exact z
  have hl:(putK kvs k v).length<=sizeLine:=by have:=zBA kvs k v;omega
  refine wpAny_setItem_pairs (hsz:=hz) (zGW ry) dd λh' dd' hs=>h _ ?_
  have he:∃ q,h'.get? a=some q:=let ⟨q,_,_,hq,_⟩:=dd';⟨q,hq⟩
  exact zEE I (by rw[e];exact True.intro) hs he (zIc hl hd (rel.put k rv) dd')
 ·subst ey eH
  cases (show u=Value.ref b from ry)
  obtain⟨z,hd,xs,rel,dd⟩:=zM2 I.hok e
  have hz:xs.length<=sizeLine:=by rw[<- Paired.length rel];exact z
  have hl:(putK kvs k v).length<=sizeLine:=by have:=zBA kvs k v;omega
  refine wpAny_setItem_heap (hsz:=hz) (tupleKind_room_in1 hu) (zEe I.hok eb) dd λh' dd' hs=>h _ ?_
  obtain⟨q,es,ep,hq,h2,h3,h4,_,h5⟩:=dd'
  refine zEE I (by rw[e];exact True.intro) hs ⟨q,hq⟩ ⟨hl,hd,_,(rel.put k eb rv).keeps λc ys ec=>?_,q,es,ep,hq,h2,h3,h4,h5⟩
  rw[zAS (zMA ec e (λz=>nomatch z))]
  exact ec
end
section
variable {X:Cx}{pins:List (Addr×Obj)}{σ:St}{H:Hp}{s:Shared}{a:Addr}{kvs:List (Key×V)}{k:Key}{u:Value}{A:Around}{E:Value->Shared->Prop}
end
def zM3 (td ty tv:TE):TS:=λD σ H=>tv σ H λv H1=>td σ H1 λx H2=>ty σ H2 λy H3=>∃ a H4,x=.ref a/\DPut H3 a y v H4/\D.nx σ H4
section
variable {X:Cx}{o i e value:Expr}{pos pos' tpos:Pos}{td ty tv:TE}
theorem zJx (hu:X.A.units+1<cLine)(ho:PE X o td)(hi:PE X i ty)(hv:PE X value tv)(hs:swapsWith value (some (.Subscript o i pos')) pos.line X.env=pure false) :
  PS X (.Assign [.Subscript o i pos'] value pos) (zM3 td ty tv):=by
 intro pins s σ H D I h
 refine wpAny_Assign_Subscript (thn (hv pins s σ H _ I h) λr s1 ⟨v,H1,I1,rv,q1⟩=>thn (ho pins s1 σ H1 _ I1 q1) λu s2 ⟨x,H2,I2,rx,q2⟩=>thn (hi pins s2 σ H2 _ I2 q2) λiv s3 ⟨y,H3,I3,ry,a,H4,ex,g,q3⟩=>?_) hs
 subst ex
 obtain rfl:u=Value.ref a:=rx
 exact zGY hu I3 g ry rv λs4 I4=>⟨σ,H4,I4,q3⟩
end
theorem zEf {P:Program}{w:World}{H:Hp}(h:Heap)(hb:sysModules<h.objs.size):ObjOk P w H (h.push { cls:=.type "dict",data:=.dict #[] }) h.objs.size (.dK []) :=
 ⟨Nat.zero_le _,beq_eq_false_iff_ne.mpr (Ne.symm (Nat.ne_of_lt hb)),[],.nil,Heap.DictOf.new h⟩
def zLZ:TE:=λ_ H Q=>∀ p,H p=none->Q (.ref p) (upd H p (.dK []))
section
variable {X:Cx}{pos:Pos}
theorem zHt:PE X (.Dict [] [] pos) zLZ:=λpins s σ H Q I h =>
 wpAny_Dict_empty ⟨.ref s.heap.objs.size,_,I.laid (a:=s.heap.objs.size) (o:=.dK []) (t':=s.toks) (λ_ _ q=>Heap.get?_push_of_some _ q) (Nat.le_refl _) (zEf s.heap I.big),rfl,h _ (I.hok.fresh (Nat.le_refl _))⟩
end
def zGZ:List (TE×TE)->St->Hp->(List (V×V)->Hp->Prop)->Prop
 | [],_,H,Q=>Q [] H
 | (tk,tv)::r,σ,H,Q=>tk σ H λx H1=>tv σ H1 λy H2=>zGZ r σ H2 λps H3=>Q ((x,y)::ps) H3
abbrev VV:List (V×V)->List (Value×Value)->Prop:=Paired λp q=>RelV p.1 q.1/\RelV p.2 q.2
def PPs (X:Cx)(pos:Pos)(keys:List (Option Expr))(values:List Expr)(trs:List (TE×TE)):Prop :=
 ∀ (pins:List (Addr×Obj)) (s:Shared) (σ:St) (H:Hp) (Q:List (V×V)->Hp->Prop),Inv X pins σ H s->zGZ trs σ H Q ->
  wpAny (model X.prog X.w) X.A (evalPairs (pairTrees keys values X.env pos)) (λvs s'=>∃ ps H',Inv X pins σ H' s'/\VV ps vs/\Q ps H') X.xe s
theorem zJy {X:Cx}{pos:Pos}:PPs X pos [] [] []:=λpins s σ H Q I h=>pairTrees_nil_walk ⟨[],H,I,.nil,h⟩
theorem zHu {X:Cx}{pos:Pos}{k v:Expr}{ks:List (Option Expr)}{vs:List Expr}{tk tv:TE}{trs:List (TE×TE)}(hk:PE X k tk)(hv:PE X v tv)(hr:PPs X pos ks vs trs) :
  PPs X pos (some k::ks) (v::vs) ((tk,tv)::trs):=λpins s σ H Q I h =>
 pairTrees_cons_walk (thn (hk pins s σ H _ I h) λu s1 ⟨x,H1,I1,rx,q1⟩=>thn (hv pins s1 σ H1 _ I1 q1) λw2 s2 ⟨y,H2,I2,ry,q2⟩ =>
  thn (hr pins s2 σ H2 _ I2 q2) λws s3 ⟨ps,H3,I3,rel,q3⟩=>⟨(x,y)::ps,H3,I3,.cons ⟨rx,ry⟩ rel,q3⟩)
def zDg (kvs more:List (Key×V)):List (Key×V):=more.foldl (λacc kv=>putK acc kv.1 kv.2) kvs
theorem KV.merge:∀ {more:List (Key×V)} {rs:List (Key×Value)} {kvs:List (Key×V)} {vs:List (Key×Value)},KV more rs->KV kvs vs->KV (zDg kvs more) (merged vs rs):=by
 intro more rs kvs vs r
 unfold KV at r
 induction r generalizing kvs vs with
 | nil=>intro q;exact q
 | @cons p q ps qs h t ih =>
  intro r0
  have e:KV (putK kvs p.1 p.2) (stored vs q.1 q.2):=by
   have:=r0.put p.1 h.2
   rw[<- h.1];exact this
  exact ih e
theorem zB1:∀ (more kvs:List (Key×V)),(zDg kvs more).length<=kvs.length+more.length
 | [],kvs=>by show kvs.length<=kvs.length+0;omega
 | p::r,kvs=>by
  have h1:=zB1 r (putK kvs p.1 p.2)
  have h2:=zBA kvs p.1 p.2
  show (zDg (putK kvs p.1 p.2) r).length<=_
  rw[List.length_cons];omega
theorem zCr {P:Program}{w:World}:∀ {kvs:List (Key×V)} {ws:List (Value×Value)},VV (kvs.map λkv=>(kV kv.1,kv.2)) ws->∃ rs,Carries (mixKind P w) ws rs/\KV kvs rs
 | [],_,r=>by rw[List.map_nil] at r;cases r;exact⟨[],True.intro,.nil⟩
 | p::kvs,_,r=>by
  rw[List.map_cons] at r
  cases r with
  | @cons a b as bs h t =>
   obtain⟨rs,c,q⟩:=zCr (P:=P) (w:=w) t
   obtain⟨b1,b2⟩:=b
   exact⟨(p.1,b2)::rs,⟨zGW h.1,rfl,c⟩,.cons ⟨rfl,h.2⟩ q⟩
def zM4 (trs:List (TE×TE)):TE:=λσ H Q=>∀ p,H p=none->zGZ trs σ (upd H p (.dK [])) λps H2=>H2 p=some (.dK [])/\∃ kvs:List (Key×V),ps=kvs.map (λkv=>(kV kv.1,kv.2))/\kvs.length<=15/\Q (.ref p) (upd H2 p (.dK (zDg [] kvs)))
theorem zJz {X:Cx}{pos:Pos}{keys:List (Option Expr)}{values:List Expr}{trs:List (TE×TE)}(h:PPs X pos keys values trs)(hall:keys.all (·.isSome)=true)(hl:keys.length=values.length)(h0:keys≠[])
  (h15:keys.length<=15):PE X (.Dict keys values pos) (zM4 trs):=by
 intro pins s σ H Q I q
 have hn:=I.hok.fresh (Nat.le_refl s.heap.objs.size)
 have I1:=I.laid (a:=s.heap.objs.size) (o:=.dK []) (h':=s.heap.push { cls:=.type "dict",data:=.dict #[] }) (t':=s.toks) (λ_ _ q=>Heap.get?_push_of_some _ q) (Nat.le_refl _) (zEf s.heap I.big)
 refine wpAny_Dict_walk (knd:=mixKind X.prog X.w) hall hl h0 h15 (thn (h pins _ σ _ _ I1 (q _ hn)) λws s2 ⟨ps,H2,I2,rel,e,kvs,ep,lk,q2⟩=>?_)
 subst ep
 obtain⟨rs,c,rk⟩:=zCr (P:=X.prog) (w:=X.w) rel
 obtain⟨z,hd,vs0,r0,dd⟩:=zLY I2.hok e
 cases r0
 refine⟨rs,c,dd,λh' dd' hs=>⟨.ref s.heap.objs.size,_,?_,rfl,q2⟩⟩
 have hz:(zDg [] kvs).length<=sizeLine:=by
  have h1:=zB1 kvs []
  rw[List.length_nil] at h1
  rw[sizeLine_eq];omega
 have he:∃ q,h'.get? s.heap.objs.size=some q:=let ⟨q,_,_,hq,_⟩:=dd';⟨q,hq⟩
 exact zEE I2 (by rw[e];exact True.intro) hs he (zIc hz hd (rk.merge .nil) dd')
structure M1 (X:Cx)(o:Expr)(m:Str)(apos:Pos)(e:Expr)(cpos:Pos):Prop where
 base:attributeBase o m X.env (eval o X.env)=eval o X.env
 few:((backTo cpos (starEach [e] X.env)).all (λx=>!x.1)&&(backToKw cpos (keywordEach [] X.env)).all (λx=>x.1.isSome)
  && decide (([e]:List Expr).length+([]:List Keyword).length+(if ([]:List Keyword).isEmpty then 0 else 1)<30))=true
 line:(apos.endLine == cpos.line)=true
 trees:backTo cpos (starEach [e] X.env)=[(false,eval e X.env)]
structure M2 (X:Cx)(o:Expr)(m:Str)(apos:Pos)(e f:Expr)(cpos:Pos):Prop where
 base:attributeBase o m X.env (eval o X.env)=eval o X.env
 few:((backTo cpos (starEach [e,f] X.env)).all (λx=>!x.1)&&(backToKw cpos (keywordEach [] X.env)).all (λx=>x.1.isSome)
  && decide (([e,f]:List Expr).length+([]:List Keyword).length+(if ([]:List Keyword).isEmpty then 0 else 1)<30))=true
 line:(apos.endLine == cpos.line)=true
 trees:backTo cpos (starEach [e,f] X.env)=[(false,eval e X.env),(false,eval f X.env)]
def IsD (H:Hp)(a:Addr):Prop:=(∃ kvs,Rd H a (.dK kvs))\/∃ kvs,Rd H a (.dT kvs)
theorem zId {X:Cx}{pins:List (Addr×Obj)}{σ:St}{H:Hp}{s:Shared}{a:Addr}(I:Inv X pins σ H s)(d:IsD H a) :
  s.TypeIs (.ref a) "dict"/\(∀ b,Value.ref a=.ref b->∃ ob,s.heap.get? b=some ob/\ob.dict=none)/\(a == sysModules)=false:=by
 rcases d with ⟨kvs,e⟩ | ⟨kvs,e⟩
 ·obtain⟨_,hd,vs,_,dd⟩:=zGX I.hok e
  refine⟨dd.typeIs,λb q=>?_,hd⟩
  cases q
  obtain⟨ob,_,_,h1,h2,_⟩:=dd
  exact⟨ob,h1,h2.2.1⟩
 ·obtain⟨_,hd,xs,_,dd⟩:=zHs I.hok e
  refine⟨dd.typeIs,λb q=>?_,hd⟩
  cases q
  obtain⟨ob,_,_,h1,h2,_⟩:=dd
  exact⟨ob,h1,h2.2.1⟩
section
variable {X:Cx}{pins:List (Addr×Obj)}{σ:St}{H:Hp}{s:Shared}{a:Addr}{y d:V}{u r:Value}{o:Option V}{A:Around}{E:Value->Shared->Prop}
theorem zLa {Q:Value->Shared->Prop}(hu:A.units+1<cLine)(I:Inv X pins σ H s)(g:DGet H a y o)(ry:RelV y u)(rd:RelV d r)(h:∀ w' s',Inv X pins σ H s'->RelV (o.getD d) w'->Q w' s') :
  wpAny (model X.prog X.w) A (call (.builtin "dict.get") [.ref a,u,r]) Q E s:=by
 rcases g with ⟨kvs,k,e,ey,l⟩ | ⟨kvs,k,b,e,ey,eb,l⟩
 ·subst ey
  obtain⟨z,hd,vs,rel,dd⟩:=zGX I.hok e
  refine call_meetsIn PySem.F.slot_dict_get dd.typeIs PySem.F.entry_dict_get (PySem.F.args_dict_get_3 _ _ _) (meets_dict_get_default (mixKind X.prog X.w) a (zGW ry) hd r) ⟨_,dd.mapOf,h _ _ (I.tok _) ?_⟩
  rw[l]
  exact(rel.val k).getD rd
 ·subst ey
  cases (show u=Value.ref b from ry)
  obtain⟨z,hd,xs,rel,dd⟩:=zHs I.hok e
  refine call_meetsIn PySem.F.slot_dict_get dd.typeIs PySem.F.entry_dict_get (PySem.F.args_dict_get_3 _ _ _) (meetsH_dict_get_default (tupleKind (mixKind X.prog X.w)) a b hd r) ⟨tupleKind_room_in1 hu,k,xs,zEe I.hok eb,dd,h _ _ (I.tok _) ?_⟩
  rw[l]
  exact(rel.val k).getD rd
end
def zLb (td ty tx:TE):TE:=λσ H Q=>td σ H λx H1=>∃ a,x=.ref a/\IsD H1 a/\ty σ H1 λy H2=>tx σ H2 λz H3=>∃ o,DGet H3 a y o/\Q (o.getD z) H3
section
variable {X:Cx}{o e f:Expr}{apos cpos:Pos}{td ty tx:TE}
theorem zHv (hu:X.A.units+1<cLine)(ho:PE X o td)(he:PE X e ty)(hf:PE X f tx)(m:M2 X o "get" apos e f cpos):PE X (.Call (.Attribute o "get" apos) [e,f] [] cpos) (zLb td ty tx):=by
 intro pins s σ H Q I h
 refine wpAny_Call_method m.base m.few m.line PySem.F.plainAttrs_dict PySem.F.slot_dict_get PySem.F.type_dict_get (thn (ho pins s σ H _ I h) λu s1 ⟨x,H1,I1,rx,a,ex,d,q1⟩=>?_)
 subst ex
 obtain rfl:u=Value.ref a:=rx
 obtain⟨t1,t2,_⟩:=zId I1 d
 refine⟨t1,t2,?_⟩
 rw[m.trees]
 refine Calls.callWith_builtin rfl (Calls.evalArgs_plain (Calls.spliced_cons (thn (he pins s1 σ H1 _ I1 q1) λiv s2 ⟨y,H2,I2,ry,q2⟩ =>
  Calls.spliced_cons (thn (hf pins s2 σ H2 _ I2 q2) λfv s3 ⟨z,H3,I3,rz,ov,g,q3⟩=>Calls.spliced_nil ?_))))
 exact zLa hu I3 g ry rz λw' s4 I4 rw'=>⟨_,H3,I4,rw',q3⟩
end
section
variable {X:Cx}{pins:List (Addr×Obj)}{σ:St}{H:Hp}{s:Shared}{a:Addr}{kvs:List (Key×V)}{A:Around}{E:Value->Shared->Prop}
end
section
variable {X:Cx}{pins:List (Addr×Obj)}{σ:St}{H:Hp}{s:Shared}{a:Addr}{y:V}{u:Value}{A:Around}{E:Value->Shared->Prop}
end
end L2
namespace L2
open PySem PySem.Spec PyProof.Rows
section
variable {X:Cx}{K:W.Frag}
end
section
variable {X:Cx}{x y:Str}{e:Expr}{es:List Expr}{t:TA}{p pos np hpos cpos apos:Pos}{ps:List Str}{sp:Sp}{k k2:Nat}{C:Addr}{b0:Stmt}{suite:List Stmt}{su:TS}
end
end L2
namespace L2
open PySem PySem.Spec PyProof.Rows
section
variable {X:Cx}{K:W.Frag}
@[irreducible] def zDh (H:Hp)(Q:VK):Prop:=∀ p,H p=none->Q (.ref p) (upd H p (.dK []))
def zLc:TE:=λ_ H Q=>zDh H Q
theorem zC4 {pos:Pos}:QE X (.Dict [] [] pos) zLc:=⟨λpins s σ H Q I h=>zHt pins s σ H Q I (by have h:=(show zDh H Q from h);unfold zDh at h;exact h)⟩
theorem zEF {H:Hp}{Q:VK}(q:∀ p H',H p=none->Same H H'->H' p=some (.dK [])->Q (.ref p) H'):zDh H Q:=by unfold zDh;exact λp hp=>q p _ hp (zAd hp) zAP
@[irreducible] def zDi (a:Addr)(i:Int)(z:V)(H:Hp)(Q:VK):Prop:=∃ kvs,H a=some (.dK kvs)/\Q ((valV kvs (.inl i)).getD z) H
def zLd (td ty tx:TE):TE:=λσ H Q=>td σ H λx H1=>match x with
 | .ref a=>(∃ kvs,H1 a=some (.dK kvs))/\ty σ H1 λy H2=>match y with
  | .int i=>tx σ H2 λz H3=>zDi a i z H3 Q
  | _=>False
 | _=>False
theorem zGa {a:Addr}{z:V}{H:Hp}{Q:VK}{kvs:List (Key×V)}{i:Int}(h:H a=some (.dK kvs))(q:Q ((valV kvs (.inl i)).getD z) H):zDi a i z H Q:=by unfold zDi;exact⟨kvs,h,q⟩
@[irreducible] def zDj (a:Addr)(i:Int)(v:V)(H:Hp)(R:Hp->Prop):Prop:=∃ kvs,H a=some (.dK kvs)/\kvs.length<sizeLine/\R (upd H a (.dK (putK kvs (.inl i) v)))
theorem zEG {a:Addr}{v:V}{H:Hp}{R:Hp->Prop}{kvs:List (Key×V)}{i:Int}(h:H a=some (.dK kvs))(hl:kvs.length<sizeLine)(q:∀ H',Kp [a] H H'->H' a=some (.dK (putK kvs (.inl i) v))->R H'):zDj a i v H R:=by unfold zDj;exact⟨kvs,h,hl,q _ zCl zAP⟩
theorem zEg {o e f:Expr}{apos cpos:Pos}{td ty tx:TE}{j:Nat}(hr:Room j X.A)(ho:QE X o td)(he:QE X e ty)(hf:QE X f tx)(m:M2 X o "get" apos e f cpos):QE X (.Call (.Attribute o "get" apos) [e,f] [] cpos) (zLd td ty tx):=⟨by
 intro pins s σ H Q I h
 refine zHv (zJH hr) ho.wk he.wk hf.wk m pins s σ H Q I ⟨_,h,λx H1 q=>?_⟩
 cases x<;>first
  | exact(show False from q).elim
  | skip
 obtain⟨⟨kvs,h1⟩,q⟩:=q
 refine⟨_,rfl,.inl ⟨kvs,.inl h1⟩,_,q,λy H2 q=>?_⟩
 cases y<;>first
  | exact(show False from q).elim
  | skip
 rename_i i
 refine⟨_,q,λz H3 q=>?_⟩
 have q:=(show zDi _ _ z H3 Q from q)
 unfold zDi at q
 obtain⟨kvs,e1,q⟩:=q
 exact⟨_,DGet.k (k:=Sum.inl i) e1,q⟩⟩
def zLe (td ty tv:TE):TS:=λD σ H=>tv σ H λv H1=>td σ H1 λx H2=>match x with
 | .ref a=>ty σ H2 λy H3=>match y with
  | .int i=>zDj a i v H3 (λH4=>D.nx σ H4)
  | _=>False
 | _=>False
theorem zC5 {o i value:Expr}{pos pos':Pos}{td ty tv:TE}{j:Nat}(hr:Room j X.A)(ho:QE X o td)(hi:QE X i ty)(hv:QE X value tv)(hs:swapsWith value (some (.Subscript o i pos')) pos.line X.env=pure false:=by rfl):QS X (.Assign [.Subscript o i pos'] value pos) (zLe td ty tv):=⟨by
 intro pins s σ H D I h
 refine zJx (zJH hr) ho.wk hi.wk hv.wk hs pins s σ H D I ⟨_,h,λv H1 q=>⟨_,q,λx H2 q=>?_⟩⟩
 cases x<;>first
  | exact(show False from q).elim
  | skip
 refine⟨_,q,λy H3 q=>?_⟩
 cases y<;>first
  | exact(show False from q).elim
  | skip
 rename_i i
 have q:=(show zDj _ _ v H3 _ from q)
 unfold zDj at q
 obtain⟨kvs,e1,hl,q⟩:=q
 exact⟨_,_,rfl,DPut.k (k:=Sum.inl i) e1 hl,q⟩⟩
end
end L2
namespace SW
open PySem
def Rise (xs:Array Nat):Prop:=xs.toList.Pairwise (·<·)
theorem zC6 {xs:Array Nat}(h:Rise xs){i j:Nat}(hij:i<j)(hj:j<xs.size):xs[i]'(by omega)<xs[j]:=by
 have:=(List.pairwise_iff_getElem.mp h) i j (by simpa using (by omega:i<xs.size)) (by simpa using hj) hij
 simpa using this
theorem zLf {xs:Array Nat}{j:Nat}(R:Rise xs):∀ (fuel lo hi:Nat),hi-lo<=fuel->lo<=hi->hi<=xs.size->(∀ i (h:i<xs.size),i<lo->xs[i]<j)->(∀ i (h:i<xs.size),hi<=i->j<=xs[i]) ->
  SetTable.below.go xs j fuel lo hi<=xs.size/\(∀ i (h:i<xs.size),i<SetTable.below.go xs j fuel lo hi->xs[i]<j)/\(∀ i (h:i<xs.size),SetTable.below.go xs j fuel lo hi<=i->j<=xs[i]):=by
 intro fuel
 induction fuel with
 | zero =>
  intro lo hi h1 h2 h3 h4 h5
  have:lo=hi:=by omega
  subst this
  unfold SetTable.below.go
  exact⟨h3,h4,h5⟩
 | succ n ih =>
  intro lo hi h1 h2 h3 h4 h5
  unfold SetTable.below.go
  split
  ·rename_i hlt
   have hm:(lo+hi) / 2<xs.size:=by omega
   have e:xs.getD ((lo+hi) / 2) j=xs[(lo+hi) / 2]:=by simp[Array.getD,hm]
   dsimp only
   rw[e]
   split
   ·rename_i hj
    refine ih _ _ (by omega) (by omega) h3 (λi hi' hl=>?_) h5
    rcases Nat.lt_or_ge i ((lo+hi) / 2) with c | c
    ·exact Nat.lt_trans (zC6 R c hm) hj
    ·have:i=(lo+hi) / 2:=by omega
     subst this;exact hj
   ·rename_i hj
    refine ih _ _ (by omega) (by omega) (by omega) h4 λi hi' hl=>?_
    rcases Nat.lt_or_ge ((lo+hi) / 2) i with c | c
    ·exact Nat.le_of_lt (Nat.lt_of_le_of_lt (Nat.le_of_not_lt hj) (zC6 R c hi'))
    ·have:i=(lo+hi) / 2:=by omega
     subst this;exact Nat.le_of_not_lt hj
  ·have:lo=hi:=by omega
   subst this
   exact⟨h3,h4,h5⟩
theorem bel {xs:Array Nat}(j:Nat)(R:Rise xs):SetTable.below xs j<=xs.size/\(∀ i (h:i<xs.size),i<SetTable.below xs j->xs[i]<j)/\(∀ i (h:i<xs.size),SetTable.below xs j<=i->j<=xs[i]) :=
 zLf R _ _ _ (by omega) (Nat.zero_le _) (Nat.le_refl _) (λi h hl=>absurd hl (Nat.not_lt_zero _)) λi h hl=>absurd h (by omega)
theorem zJ0 {xs:Array Nat}{j:Nat}(R:Rise xs)(h:j∈xs.toList):xs[SetTable.below xs j]?=some j:=by
 obtain⟨i,hi,e⟩:=List.mem_iff_getElem.mp h
 obtain⟨b1,b2,b3⟩:=bel j R
 have hi':i<xs.size:=by simpa using hi
 have e':xs[i]=j:=by simpa using e
 have c1:SetTable.below xs j<=i:=by
  rcases Nat.lt_or_ge i (SetTable.below xs j) with c | c
  ·exact absurd (b2 i hi' c) (by omega)
  ·exact c
 have c2:SetTable.below xs j=i:=by
  rcases Nat.lt_or_ge (SetTable.below xs j) i with c | c
  ·have:=zC6 R c hi'
   have:=b3 _ (by omega:SetTable.below xs j<xs.size) (Nat.le_refl _)
   omega
  ·omega
 rw[c2,Array.getElem?_eq_getElem hi',e']
theorem zHw {α:Type}(xs:Array α)(p:Nat)(x:α):(SetTable.insertAt xs p x).toList=xs.toList.take p++x::xs.toList.drop p:=by
 unfold SetTable.insertAt
 simp[List.take_of_length_le]
theorem zHx {xs:Array Nat}{j:Nat}(R:Rise xs)(h:j∉xs.toList):Rise (SetTable.insertAt xs (SetTable.below xs j) j):=by
 obtain⟨b1,b2,b3⟩:=bel j R
 unfold Rise
 rw[zHw]
 have hA:∀ a∈xs.toList.take (SetTable.below xs j),a<j:=λa ha=>by
  obtain⟨i,hi,e⟩:=List.mem_iff_getElem.mp ha
  rw[List.length_take] at hi
  have:=b2 i (by simpa using (by omega:i<xs.toList.length)) (by omega)
  rw[List.getElem_take] at e
  rw[<- e];simpa using this
 have hB:∀ a∈xs.toList.drop (SetTable.below xs j),j<a:=λa ha=>by
  obtain⟨i,hi,e⟩:=List.mem_iff_getElem.mp ha
  rw[List.length_drop] at hi
  have:=b3 (SetTable.below xs j+i) (by simpa using (by omega:SetTable.below xs j+i<xs.toList.length)) (by omega)
  rw[List.getElem_drop] at e
  have ne:a≠j:=λq=>h (q▸List.mem_of_mem_drop ha)
  have e2:xs[SetTable.below xs j+i]'(by simpa using (by omega:SetTable.below xs j+i<xs.toList.length))=a:=by simpa using e
  omega
 refine List.pairwise_append.mpr ⟨List.Pairwise.sublist (List.take_sublist _ _) R,List.pairwise_cons.mpr ⟨hB,List.Pairwise.sublist (List.drop_sublist _ _) R⟩,λa ha b hb=>?_⟩
 rcases List.mem_cons.mp hb with rfl | hb
 ·exact hA a ha
 ·exact Nat.lt_trans (hA a ha) (hB b hb)
structure Ok (t:SetTable):Prop where
 r:Rise t.place
 d:t.dummies=#[]
theorem zHy {t:SetTable}(h:Ok t)(j:Nat):t.slot j≠.dummy:=by
 unfold SetTable.slot
 dsimp only
 split
 ·exact λh=>nomatch h
 ·have:SetTable.has t.dummies j=false:=by rw[h.d];rfl
  rw[this]
  exact λh=>nomatch h
theorem zGb {t:SetTable}(h:Ok t){j:Nat}(e:t.slot j=.empty):j∉t.place.toList:=by
 intro hm
 unfold SetTable.slot at e
 dsimp only at e
 rw[zJ0 h.r hm] at e
 simp at e
theorem zGc (t:SetTable)(p:SetTable.Probe):(t.advance p).dummy=p.dummy:=by
 unfold SetTable.advance
 split
 ·rfl
 ·rfl
theorem zFN {t:SetTable}(h:Ok t){f:Nat->Int}{x:Int}{j:Nat}{d:Option Nat}:∀ (fuel:Nat) (p:SetTable.Probe),p.dummy=none->SetTable.probe.go t f x fuel p=some (.empty j d)->t.slot j=.empty/\d=none:=by
 intro fuel
 induction fuel with
 | zero=>intro p _ e;unfold SetTable.probe.go at e;cases e
 | succ n ih =>
  intro p hp e
  unfold SetTable.probe.go at e
  split at e
  ·rename_i hs
   injection e with e
   injection e with e1 e2
   subst e1
   exact⟨hs,by rw[<- e2];exact hp⟩
  ·rename_i hs
   exact absurd hs (zHy h _)
  ·split at e
   ·cases e
   ·exact ih _ ((zGc _ _).trans hp) e
theorem zJ1 {t:SetTable}(h:Ok t){x:Int}{j:Nat}{b:Bool}(e:t.freeSlot x=some (j,b)):t.slot j=.empty:=by
 unfold SetTable.freeSlot at e
 split at e
 ·rename_i j' d hq
  obtain⟨q1,q2⟩:=zFN h _ _ rfl hq
  subst q2
  injection e with e
  injection e with e1 e2
  have:j'=j:=e1
  rw[<- this];exact q1
 ·cases e
theorem zCK (t:SetTable)(n:Nat):Ok (t.standIn n):=⟨by
 unfold SetTable.standIn Rise
 simp[List.pairwise_lt_range],rfl⟩
theorem zLg {t:SetTable}(h:Ok t){j:Nat}(e:t.slot j=.empty):Ok (t.put j).1:=by
 have hh:SetTable.has t.dummies j=false:=by rw[h.d];rfl
 unfold SetTable.put
 dsimp only
 refine⟨zHx h.r (zGb h e),?_⟩
 show (if SetTable.has t.dummies j=true then _ else t.dummies)=#[]
 rw[hh,if_neg (by simp)]
 exact h.d
theorem zLh {t:SetTable}(h:Ok t)(es:Array (Int×Value))(x:Int)(v:Value):Ok (layNew t es x v).2.1/\(layNew t es x v).2.1.led=t.led:=by
 unfold layNew
 split
 ·rename_i j b hq
  have:=zLg h (zJ1 h hq)
  dsimp only
  unfold SetTable.orStandIn
  split
  ·exact⟨this,rfl⟩
  ·exact⟨zCK _ _,rfl⟩
 ·exact⟨zCK _ _,rfl⟩
theorem zEH {f:Nat->Option Nat}:∀ l:List Nat,List.Sublist ((l.filterMap λj=>(f j).map λb=>(j,b)).map (·.1)) l
 | []=>List.Sublist.refl _
 | a::l=>by
  rw[List.filterMap_cons]
  cases hf:f a with
  | none=>simpa [hf] using (zEH l).cons a
  | some b=>simpa [hf] using zEH l
theorem zJ2 {m fi mo:Nat}{le pl:Bool}{hs:Array Int}{t:SetTable}{o:Array Nat}(e:SetTable.laid m fi mo le pl hs=some (t,o)):Ok t/\t.led=le:=by
 unfold SetTable.laid at e
 cases hc:SetTable.layClean m hs with
 | none=>rw[hc] at e;cases e
 | some ow =>
  rw[hc] at e
  injection e with e
  injection e with e1 e2
  subst e1
  refine⟨⟨?_,rfl⟩,rfl⟩
  unfold Rise
  dsimp only
  exact List.Pairwise.sublist (zEH (f:=λj=>ow.getD j none) _) List.pairwise_lt_range
theorem zHz (t:SetTable)(es:Array (Int×Value))(n:Nat):Ok (relayAll t es n).2.1/\(relayAll t es n).2.1.led=t.led:=by
 unfold relayAll
 split
 ·rename_i t' o hq
  unfold SetTable.relaid at hq
  dsimp only
  split
  ·exact zJ2 hq
  ·exact⟨zCK _ _,rfl⟩
 ·exact⟨zCK _ _,rfl⟩
end SW
namespace SW
open PySem PySem.Spec PyProof.Rows
def byT (w:World):Bool:=w.params.followText "set-order"
def vN:Value->Int
 | .int n _=>n
 | _=>0
def SetIs (w:World)(o:Obj)(ns:List Int):Prop :=
 o.ExactSet/\ns.Nodup/\∃ es ep t,o.data=.set es ep t/\(∀ e∈es.toList,∃ n tk,e=(hashInt n,Value.int n tk))/\(es.toList.map λe=>vN e.2).Perm ns/\t.fits es.size=true/\Ok t/\t.led=!byT w
theorem fresh_is (w:World):SetIs w { cls:=.type "set",dict:=none,data:=.set #[] 0 (.fresh 0 0 (!byT w)) } [] :=
 ⟨⟨rfl,rfl,rfl⟩,List.nodup_nil,#[],0,_,rfl,λe he=>by simp at he,List.Perm.refl _,by rfl,⟨List.Pairwise.nil,rfl⟩,rfl⟩
section
variable {prog:Program}{w:World}{A:Around}{E:Value->Shared->Prop}{s:Shared}
theorem zLi {es:List (Int×Value)}(h:∀ e∈es,∃ n tk,e=(hashInt n,Value.int n tk)):ElemsOf (intKind prog w) es:=λe he=>by
 obtain⟨n,tk,rfl⟩:=h e he
 exact⟨⟨n,intKind_is _ _ _ _,rfl⟩,rfl⟩
theorem new_is {Q:Value->Shared->Prop}(h:Q (.ref s.heap.objs.size) { s with heap:=s.heap.push { cls:=.type "set",dict:=none,data:=.set #[] 0 (.fresh 0 0 (!byT w)) } }) :
  wpAny (model prog w) A (newSet (.type "set")) Q E s:=by
 unfold newSet setsByText
 refine wpAny_bind (wpAny_bind (wpAny_askSetting (wpAny_pure ?_)))
 dsimp only
 simp only[newObj]
 exact wpAny_bind (wpAny_alloc (wpAny_pure h))
theorem zGd {h:Heap}{a:Addr}{o:Obj}{es es':Array (Int×Value)}{ep:Nat}{t t':SetTable}(ho:h.get? a=some o)(hd:o.data=.set es ep t) :
  (h.update a (Obj.putSet es' t')).get? a=some { o with data:=.set es' (ep+1) t' }:=by
 have:=Heap.get?_update_self (Obj.putSet es' t') ho (by rw[putSet_of es' t' hd];rfl)
 rwa [putSet_of es' t' hd] at this
theorem zGe {g:Bool->Sem Unit}(hg:∀ (b:Bool) (s1:Shared) (Q':Unit->Shared->Prop),Q' () s1->wpAny (model prog w) A (g b) Q' E s1)
  {a:Addr} {o:Obj} {es es1:Array (Int×Value)} {ep:Nat} {t t2:SetTable} {ns:List Int} (ho:s.heap.get? a=some o) (hex:o.ExactSet) (hd:o.data=.set es ep t) (hnd:ns.Nodup)
  (hel:∀ e∈es1.toList,∃ n tk,e=(hashInt n,Value.int n tk)) (hp:(es1.toList.map λe=>vN e.2).Perm ns) (hb:es1.size<scanBound) (hf:t2.fits es1.size=true) (hok:Ok t2) (hl:t2.led=!byT w) {wd:Bool} {R:Option Bool->Shared->Prop}
  (h:∀ h' o',Heap.SameBut a s.heap h'->h'.get? a=some o'->SetIs w o' ns->R (some true) { s with heap:=h' }) :
  wpAny (model prog w) A (do
    storeSet a es1 t2
    if (!wd&&t2.tooFull)=true then do
      g (relayAll t2 es1 (SetTable.grown es1.size)).2.2
      storeSet a (relayAll t2 es1 (SetTable.grown es1.size)).1 (relayAll t2 es1 (SetTable.grown es1.size)).2.1
      pure (some true)
     else pure (some true)) R E s:=by
 refine wpAny_bind (wpAny_storeSet_of ho hd ?_ (fits_of_scanBound hb))
 have ho1:=zGd (es':=es1) (t':=t2) ho hd
 have sb1:=Heap.SameBut.update s.heap a (Obj.putSet es1 t2)
 split
 ·have q1:=relayAll_perm t2 es1 (SetTable.grown es1.size)
  have q2:=relayAll_fits t2 es1 (SetTable.grown es1.size)
  obtain⟨q3,q4⟩:=zHz t2 es1 (SetTable.grown es1.size)
  generalize relayAll t2 es1 (SetTable.grown es1.size)=Rl at q1 q2 q3 q4 ⊢
  obtain⟨es2,t3,gave⟩:=Rl
  dsimp only at q1 q2 q3 q4 ⊢
  have hz:es2.size<scanBound:=by rw[<- Array.length_toList,q1.length_eq,Array.length_toList];exact hb
  refine wpAny_bind (hg _ _ _ (wpAny_bind (wpAny_storeSet_of ho1 rfl ?_ (fits_of_scanBound hz))))
  have ho2:=zGd (es':=es2) (t':=t3) ho1 rfl
  exact wpAny_pure (h _ _ (sb1.trans (Heap.SameBut.update _ a _)) ho2 ⟨hex,hnd,es2,_,t3,rfl,λe he=>hel e (q1.mem_iff.mp he),(q1.map _).trans hp,q2,q3,q4.trans hl⟩)
 ·exact wpAny_pure (h _ _ sb1 ho1 ⟨hex,hnd,es1,_,t2,rfl,hel,hp,hf,hok,hl⟩)
theorem zqfo {t:SetTable}(h:Ok t):Ok ({ t with plain:=false }:SetTable):=⟨h.r,h.d⟩
theorem zLj {a:Addr}{o:Obj}{ns:List Int}{k:Int}{u:Tok}{Q:Bool->Shared->Prop}(ho:s.heap.get? a=some o)(hs:SetIs w o ns)(hb:ns.length+1<scanBound)
  (h:∀ h' o' ns' b,Heap.SameBut a s.heap h'->h'.get? a=some o'->SetIs w o' ns'->(∀ j,j∈ns'↔j∈ns\/j=k)->ns'.length<=ns.length+1->Q b { s with heap:=h' }) :
  wpAny (model prog w) A (setAddHashed a (.int k u) (hashInt k)) Q E s:=by
 obtain⟨hex,hnd,es,ep,t,hd,hel,hp,hf,hok,hl⟩:=id hs
 have hz:es.size=ns.length:=by have:=hp.length_eq;simpa using this
 unfold setAddHashed setAddHashedIn
 refine wpAny_holding (wpAny_bind (wpAny_setState_of ho hd hf ?_))
 dsimp only
 rw[byScan_of (knd:=intKind prog w) (x:=.int k u) rfl (by omega) (zLi hel)]
 simp only[↓reduceIte]
 unfold setAddByScan
 refine wpAny_bind (wpAny_bind (wpAny_rule (wpAny_bind (wpAny_setScan_of (knd:=intKind prog w) (k:=k) (intKind_is _ _ _ _) ho hd hf (zLi hel) ?_))))
 cases hr:List.findIdx? (λe=>(intKind prog w).is k e.2) es.toList with
 | some j =>
  dsimp only
  obtain⟨hj,hpj,_⟩:=List.findIdx?_eq_some_iff_getElem.mp hr
  have hm:k∈ns:=by
   obtain⟨n,tk,e⟩:=hel _ (List.getElem_mem hj)
   have e2:n=k:=by
    rw[e] at hpj
    exact((intKind prog w).inj _ _ _ hpj (intKind_is _ _ _ _)).symm
   refine hp.mem_iff.mp (List.mem_map.mpr ⟨_,List.getElem_mem hj,?_⟩)
   rw[e];exact e2
  have:=h s.heap o ns false (Heap.SameBut.refl a s.heap) ho hs (λj=>⟨.inl,λq=>q.elim id λe=>e▸hm⟩) (by omega)
  exact wpAny_pure (wpAny_pure this)
 | none =>
  dsimp only
  have hm:k∉ns:=λq=>by
   obtain⟨e,he,q1⟩:=List.mem_map.mp (hp.mem_iff.mpr q)
   obtain⟨n,tk,rfl⟩:=hel e he
   have:=List.findIdx?_eq_none_iff.mp hr _ he
   have e2:n=k:=q1
   subst e2
   rw[intKind_is] at this
   cases this
  have hgw:∀ (b:Bool) {s1:Shared} {Q':Unit->Shared->Prop},Q' () s1->wpAny (model prog w) A (match b with | true=>rule "set.scan.the-table-gave-way" | false=>pure ()) Q' E s1 :=
   λb s1 Q' hq=>by cases b<;>first | exact wpAny_pure hq | exact wpAny_rule hq
  have q1:=layNew_perm t es (hashInt k) (.int k u)
  have q2:=layNew_fits t es (hashInt k) (.int k u)
  obtain⟨q3,q4⟩:=zLh hok es (hashInt k) (.int k u)
  show wpAny _ _ (match layNew t es (hashInt k) (.int k u) with | (es,t,wd,gave)=>_) _ _ _
  generalize layNew t es (hashInt k) (.int k u)=L at q1 q2 q3 q4 ⊢
  obtain⟨es1,t1,wd,gave⟩:=L
  dsimp only at q1 q2 q3 q4 ⊢
  rw[Array.toList_push] at q1
  have hel1:∀ e∈es1.toList,∃ n tk,e=(hashInt n,Value.int n tk):=λe he=>by
   rcases List.mem_append.mp (q1.mem_iff.mp he) with c | c
   ·exact hel e c
   ·exact⟨k,u,List.mem_singleton.mp c⟩
  have hp1:(es1.toList.map λe=>vN e.2).Perm (ns++[k]):=by
   refine(q1.map _).trans ?_
   rw[List.map_append]
   exact hp.append_right _
  have hz1:es1.size=ns.length+1:=by have:=hp1.length_eq;simpa using this
  have hnd1:(ns++[k]).Nodup:=List.nodup_append.mpr ⟨hnd,by simp,λa ha b hb e=>hm (by rw[<- List.mem_singleton.mp hb,<- e];exact ha)⟩
  refine wpAny_bind (hgw _ ?_)
  have fin:∀ h' o',Heap.SameBut a s.heap h'->h'.get? a=some o'->SetIs w o' (ns++[k])->Q true { s with heap:=h' }:=λh' o' sb e1 e2 =>
   h h' o' _ true sb e1 e2 (λj=>by simp) (by simp)
  split
  ·refine wpAny_bind ?_
   rw[hashByValue_scannable 8 rfl]
   refine wpAny_pure ?_
   refine zGe ?_ ho hex hd hnd1 hel1 hp1 (by omega) (by split<;>first | exact q2 | exact SetTable.fits_plain_off q2) (by split<;>first | exact q3 | exact zqfo q3) (by split<;>exact q4.trans hl) ?_
   ·intro b s1 Q' hq;cases b<;>first | exact wpAny_pure hq | exact wpAny_rule hq
   ·intro h' o' sb e1 e2;dsimp only;exact wpAny_pure (fin h' o' sb e1 e2)
  ·refine wpAny_bind (wpAny_pure ?_)
   simp only[↓reduceIte]
   refine zGe ?_ ho hex hd hnd1 hel1 hp1 (by omega) q2 q3 (q4.trans hl) ?_
   ·intro b s1 Q' hq;cases b<;>first | exact wpAny_pure hq | exact wpAny_rule hq
   ·intro h' o' sb e1 e2;dsimp only;exact wpAny_pure (fin h' o' sb e1 e2)
theorem addv_is {a:Addr}{o:Obj}{ns:List Int}{k:Int}{u:Tok}{Q:Bool->Shared->Prop}(ho:s.heap.get? a=some o)(hs:SetIs w o ns)(hb:ns.length+1<scanBound)
  (h:∀ h' o' ns' b,Heap.SameBut a s.heap h'->h'.get? a=some o'->SetIs w o' ns'->(∀ j,j∈ns'↔j∈ns\/j=k)->ns'.length<=ns.length+1->Q b { s with heap:=h',toks:=s.toks+1 }) :
  wpAny (model prog w) A (setAdd a (.int k u)) Q E s:=by
 unfold setAdd
 refine wpAny_holding (wpAny_bind ((intKind prog w).pyHash (k:=k) (intKind_is _ _ _ _) ?_))
 exact zLj (s:={ s with toks:=s.toks+1 }) ho hs hb h
end
section
variable {prog:Program}{w:World}{A:Around}{R:Result->Shared->Prop}{I:Addr}{fp wr:List Addr}{n:Nat}{P:Nat->Value->Prop}{St:Nat->Heap->Prop}
end
section
variable {prog:Program}{w:World}{A:Around}{E:Value->Shared->Prop}{s:Shared}
end
end SW
namespace SW
open PySem PySem.Spec PyProof.Rows
section
variable {prog:Program}{w:World}{A:Around}{E:Value->Shared->Prop}{s:Shared}
end
end SW
namespace SW
open PySem PySem.Spec PyProof.Rows
theorem slot_next:Slot "set_iterator" "__next__" "set_iterator.__next__" :=
 .of (owner:="set_iterator") (n:="__next__") (by rw[typeLookup_type,builtinLookup_eq_fast];kernel_rfl) (by decide +kernel) (by decide +kernel) (by decide +kernel) (by first | exact .inl (by decide +kernel) | exact .inr (by decide +kernel)) (by rw[isSubtype_type];kernel_rfl)
theorem zFO:entryFor table "set_iterator.__next__"=some Builtin.«set_iterator.__next__»:=entryFor_of_tree (by kernel_rfl)
theorem zEh:Manifest.owners.lookup (String.ofList ['r','o','t','a','r','e','t','i','_','t','e','s'].reverse)=some Manifest.sig_set_iterator:=by kernel_rfl
theorem zGf (a:Value):argsOk "set_iterator.__next__" ⟨[a],[]⟩:=by
 unfold argsOk;rw[signature?_of (id:="set_iterator.__next__") (n:=['_','_','t','x','e','n','_','_']) (o:=['r','o','t','a','r','e','t','i','_','t','e','s']) (by kernel_rfl) zEh];kernel_rfl
theorem zDk:Slot "set_iterator" "__iter__" "set_iterator.__iter__" :=
 .of (owner:="set_iterator") (n:="__iter__") (by rw[typeLookup_type,builtinLookup_eq_fast];kernel_rfl) (by decide +kernel) (by decide +kernel) (by decide +kernel) (by first | exact .inl (by decide +kernel) | exact .inr (by decide +kernel)) (by rw[isSubtype_type];kernel_rfl)
theorem zFP:entryFor table "set_iterator.__iter__"=some Builtin.«dict_keyiterator.__iter__»:=entryFor_alias (id':="dict_keyiterator.__iter__") (by kernel_rfl) rfl (by decide +kernel) (by kernel_rfl)
theorem zGg (a:Value):argsOk "set_iterator.__iter__" ⟨[a],[]⟩:=by
 unfold argsOk;rw[signature?_of (id:="set_iterator.__iter__") (n:=['_','_','r','e','t','i','_','_']) (o:=['r','o','t','a','r','e','t','i','_','t','e','s']) (by kernel_rfl) zEh];kernel_rfl
theorem zEI:entryFor table "set.__iter__"=some Builtin.«frozenset.__iter__»:=entryFor_alias (id':="frozenset.__iter__") (by kernel_rfl) rfl (by decide +kernel) (by kernel_rfl)
def SIt (h:Heap)(I:Addr)(f:Value)(i:Nat)(D:Addr)(n ep:Nat):Prop:=∃ o,h.get? I=some o/\o.cls=.type "set_iterator"/\o.data=.fields #[f,rawInt i,.ref D,rawInt n,rawInt ep]
theorem SIt.at {h h':Heap}{I D:Addr}{f:Value}{i n ep:Nat}(x:SIt h I f i D n ep)(e:∀ o,h.get? I=some o->h'.get? I=some o):SIt h' I f i D n ep:=let ⟨o,ho,r⟩:=x;⟨o,e _ ho,r⟩
theorem SIt.ty {s:Shared}{I D:Addr}{f:Value}{i n ep:Nat}(x:SIt s.heap I f i D n ep):s.TypeIs (.ref I) "set_iterator":=let ⟨o,ho,hc,_⟩:=x;⟨o,ho,hc⟩
section
variable {prog:Program}{w:World}{A:Around}{E:Value->Shared->Prop}{s:Shared}
theorem zM5 {M:Model}{src:Source}{n:Nat}{Q:Nat->Shared->Prop}(hn:n≠0)(h:∀ i d,i<n->Q i { s with drawn:=d }):wpAny M A (choose src n) Q E s:=λΓ p hΓ=>by
 show n≠0/\_
 exact⟨hn,h _ _ (Nat.mod_lt _ (Nat.pos_of_ne_zero hn))⟩
theorem zDl {α:Type}{xs:List α}{i:Nat}(h:i<xs.length):(xs[i]::xs.eraseIdx i).Perm xs:=by
 rw[List.eraseIdx_eq_take_drop_succ]
 refine List.perm_middle.symm.trans ?_
 rw[<- List.drop_eq_getElem_cons h,List.take_append_drop]
theorem zJ3 {M:Model}{α:Type}:∀ (n:Nat) (xs:List α) (s:Shared) (Q:List α->Shared->Prop),xs.length=n->(∀ ys d,ys.Perm xs->Q ys { s with drawn:=d })->wpAny M A (drawOrder n xs) Q E s:=by
 intro n
 induction n with
 | zero =>
  intro xs s Q hl h
  have:xs=[]:=List.length_eq_zero_iff.mp hl
  subst this
  unfold drawOrder
  exact wpAny_pure (h [] s.drawn (List.Perm.refl _))
 | succ n ih =>
  intro xs s Q hl h
  obtain⟨x,xs,rfl⟩:∃ x r,xs=x::r:=by
   cases xs with
   | nil=>cases hl
   | cons x r=>exact⟨x,r,rfl⟩
  unfold drawOrder
  refine wpAny_bind (zM5 (by simp) λi d hi=>?_)
  rw[List.getElem?_eq_getElem hi]
  dsimp only
  refine wpAny_bind (ih _ _ _ (by rw[List.length_eraseIdx_of_lt hi];simpa using hl) λys d' hy=>wpAny_pure (h _ d' ?_))
  exact(hy.cons _).trans (zDl hi)
theorem zCs {Q:Fin->Shared->Prop}{E:Value->Shared->Prop}(hh:A.handled=none)(h:∀ h' e,(∀ b o,s.heap.get? b=some o->h'.get? b=some o)->(∃ o,h'.get? e=some o/\o.cls=.type "StopIteration")->E (.ref e) { s with heap:=h' }) :
  wpAny (model prog w) A (newExc (.type "StopIteration") [] >>= λe=>raiseNew e) Q E s:=by
 refine wpAny_bind ?_
 simp only[newExc,newTuple]
 refine wpAny_bind (wpAny_newObj_type ?_ (by size_fits))
 refine wpAny_bind (m:=firstArgMember _ _) (wpAny_of_eq (a:=Value.none) (by first | rfl | (simp only[firstArgMember];rfl)) ?_)
 refine wpAny_newObj_type ?_ (by size_fits)
 simp only[raiseNew]
 refine wpAny_bind (wpAny_handled ?_)
 rw[show A.handled=none from hh]
 refine wpAny_bind (wpAny_pure (wpAny_throw ?_))
 exact h _ _ (λb o q=>Heap.get?_push_of_some _ (Heap.get?_push_of_some _ q)) ⟨_,Heap.get?_push_size _ rfl,rfl⟩
theorem zC7 {I:Addr}{f:Value}{i n ep:Nat}{D:Addr}{Q:Option Value->Shared->Prop}(hit:SIt s.heap I f i D n ep)
  (h:wpAny (model prog w) A.in1 (Builtin.«set_iterator.__next__» ⟨[.ref I],[]⟩) (λfin s'=>∃ r,fin=.done (.ret r)/\Q (some r) s') (λe s'=>∃ a o,e=.ref a/\s'.heap.get? a=some o/\o.cls=.type "StopIteration"/\Q none s') s) :
  wpAny (model prog w) A (pyNext (.ref I)) Q E s:=by
 unfold pyNext
 refine wpAny_bind (wpAny_attempt (wpAny_callSpecial?_slot (name:=Str.ofString "__next__") hit.ty slot_next (wpAny_call_entry slot_next hit.ty zFO ?_ (zGf _))))
 refine wpAny_mono h (λfin s' ⟨r,e,q⟩=>⟨r,e,wpAny_pure q⟩) λe s' ⟨a,o,e1,e2,e3,q⟩=>?_
 subst e1
 exact wpAny_bind (wpAny_isInstance (T:="StopIteration") (b:=true) ⟨o,e2,e3⟩ isSubtype_stop (wpAny_pure q))
theorem zH0 {h:Heap}{I D:Addr}{f:Value}{i n ep:Nat}{o:Obj}(ho:h.get? I=some o)(hd:o.data=.fields #[f,rawInt i,.ref D,rawInt n,rawInt ep])(k:Nat)(x:Value) :
  (h.update I (Obj.mapFields (·.setIfInBounds k x))).get? I=some (Obj.mapFields (·.setIfInBounds k x) o):=Heap.get?_update_self _ ho (Obj.isFreed_of_fields (Obj.data_mapFields hd _))
theorem zEi {I D:Addr}{sl i n ep nx:Nat}{o:Obj}{es:Array (Int×Value)}{t:SetTable}{x:Value}{Q:Option Value->Shared->Prop}(hit:SIt s.heap I (rawInt sl) i D n ep)(hD:s.heap.get? D=some o)(hd:o.data=.set es ep t)(hf:t.fits es.size=true)(hn:es.size=n)
  (hx:∀ (E':Value->Shared->Prop) (Q':Option (Value×Nat)->Shared->Prop),Q' (some (x,nx)) s->wpAny (model prog w) A.in1 (setNext D sl i ep) Q' E' s)
  (hQ:∀ h',SIt h' I (rawInt nx) (i+1) D n ep->Heap.SameBut I s.heap h'->Q (some x) { s with heap:=h' }):wpAny (model prog w) A (pyNext (.ref I)) Q E s:=by
 obtain⟨oi,hoi,hci,hdi⟩:=id hit
 refine zC7 hit ?_
 unfold Builtin.«set_iterator.__next__»
 refine wpAny_bind (wpAny_pure (wpAny_bind (wpAny_fieldsOf hoi hdi ?_)))
 show wpAny _ _ (setEntries D >>= _) _ _ s
 refine wpAny_bind (wpAny_setEntries_of hD hd hf ?_)
 rw[if_neg (by rw[hn];simp)]
 show wpAny _ _ (setNext D (Int.toNat (sl:Int)) (Int.toNat (i:Int)) (Int.toNat (ep:Int)) >>= _) _ _ s
 simp only[Int.toNat_natCast]
 refine wpAny_bind (hx _ _ ?_)
 show wpAny _ _ (setField (.ref I) 0 (rawInt nx) >>= _) _ _ s
 refine wpAny_bind (wpAny_setField hoi hdi (by simp) ?_)
 have e1:=zH0 hoi hdi 0 (rawInt nx)
 have d1:(Obj.mapFields (·.setIfInBounds 0 (rawInt nx)) oi).data=.fields #[rawInt nx,rawInt i,.ref D,rawInt n,rawInt ep]:=by rw[Obj.data_mapFields hdi];rfl
 show wpAny _ _ (setField (.ref I) 1 (rawInt ((i:Int)+1)) >>= _) _ _ _
 refine wpAny_bind (wpAny_setField e1 d1 (by simp) ?_)
 refine wpAny_pure ⟨_,rfl,hQ _ ⟨_,zH0 e1 d1 1 _,?_,?_⟩ ((Heap.SameBut.update ..).trans (Heap.SameBut.update ..))⟩
 ·exact(Obj.cls_mapFields ..).trans ((Obj.cls_mapFields ..).trans hci)
 ·rw[Obj.data_mapFields d1];rfl
theorem zGh {I D:Addr}{sl i n ep:Nat}{o:Obj}{es:Array (Int×Value)}{t:SetTable}{Q:Option Value->Shared->Prop}(hh:A.handled=none)(hit:SIt s.heap I (rawInt sl) i D n ep)(hD:s.heap.get? D=some o)(hd:o.data=.set es ep t)(hf:t.fits es.size=true)(hn:es.size=n)
  (hx:∀ (E':Value->Shared->Prop) (Q':Option (Value×Nat)->Shared->Prop),Q' none s->wpAny (model prog w) A.in1 (setNext D sl i ep) Q' E' s)
  (hQ:∀ h',(∀ b o,b≠I->s.heap.get? b=some o->h'.get? b=some o)->Q none { s with heap:=h' }):wpAny (model prog w) A (pyNext (.ref I)) Q E s:=by
 obtain⟨oi,hoi,hci,hdi⟩:=id hit
 refine zC7 hit ?_
 unfold Builtin.«set_iterator.__next__»
 refine wpAny_bind (wpAny_pure (wpAny_bind (wpAny_fieldsOf hoi hdi ?_)))
 show wpAny _ _ (setEntries D >>= _) _ _ s
 refine wpAny_bind (wpAny_setEntries_of hD hd hf ?_)
 rw[if_neg (by rw[hn];simp)]
 show wpAny _ _ (setNext D (Int.toNat (sl:Int)) (Int.toNat (i:Int)) (Int.toNat (ep:Int)) >>= _) _ _ s
 simp only[Int.toNat_natCast]
 refine wpAny_bind (hx _ _ ?_)
 show wpAny _ _ (setField (.ref I) 2 .none >>= _) _ _ s
 refine wpAny_bind (wpAny_setField hoi hdi (by simp) ?_)
 refine zCs hh λh' e k ⟨o2,q1,q2⟩=>⟨e,o2,rfl,q1,q2,hQ h' λb o hb q=>k b o ((Heap.get?_update_other _ _ (Ne.symm hb)).trans q)⟩
theorem zH1 {I D T:Addr}{i n ep p:Nat}{o ot:Obj}{c:Nat}{ps:Array Value}{es:Array (Int×Value)}{t:SetTable}{x:Int×Value}{u:Tok}{Q:Option Value->Shared->Prop}(hit:SIt s.heap I (.ref T) i D n ep)(hD:s.heap.get? D=some o)(hd:o.data=.set es ep t)(hf:t.fits es.size=true)(hn:es.size=n)
  (hT:s.heap.get? T=some ot) (hTd:ot.data=.seq ps c) (hp:ps[i]?=some (.int p u)) (hx:es[p]?=some x)
  (hQ:∀ h',SIt h' I (.ref T) (i+1) D n ep->Heap.SameBut I s.heap h'->Q (some x.2) { s with heap:=h' }):wpAny (model prog w) A (pyNext (.ref I)) Q E s:=by
 obtain⟨oi,hoi,hci,hdi⟩:=id hit
 refine zC7 hit ?_
 unfold Builtin.«set_iterator.__next__»
 refine wpAny_bind (wpAny_pure (wpAny_bind (wpAny_fieldsOf hoi hdi ?_)))
 show wpAny _ _ (setEntries D >>= _) _ _ s
 refine wpAny_bind (wpAny_setEntries_of hD hd hf ?_)
 rw[if_neg (by rw[hn];simp)]
 show wpAny _ _ (seqItems? (.ref T) >>= _) _ _ s
 refine wpAny_bind (wpAny_seqItems hT hTd ?_)
 show wpAny _ _ (match ps[Int.toNat (i:Int)]? with | some (.int place _)=>_ | some _=>_ | none=>_) _ _ s
 rw[Int.toNat_natCast,hp]
 show wpAny _ _ (setNextDrawn D (Int.toNat (p:Int)) (Int.toNat (ep:Int)) >>= _) _ _ s
 simp only[Int.toNat_natCast]
 unfold setNextDrawn
 refine wpAny_bind (wpAny_bind (wpAny_setState_of hD hd hf ?_))
 dsimp only
 rw[if_neg (by simp)]
 rw[hx]
 refine wpAny_pure ?_
 show wpAny _ _ (setField (.ref I) 1 (rawInt ((i:Int)+1)) >>= _) _ _ _
 refine wpAny_bind (wpAny_setField hoi hdi (by simp) ?_)
 refine wpAny_pure ⟨_,rfl,hQ _ ⟨_,zH0 hoi hdi 1 _,?_,?_⟩ (Heap.SameBut.update ..)⟩
 ·exact(Obj.cls_mapFields ..).trans hci
 ·rw[Obj.data_mapFields hdi];rfl
theorem zJ4 {I D T:Addr}{i n ep:Nat}{o ot:Obj}{c:Nat}{ps:Array Value}{es:Array (Int×Value)}{t:SetTable}{Q:Option Value->Shared->Prop}(hh:A.handled=none)(hit:SIt s.heap I (.ref T) i D n ep)(hD:s.heap.get? D=some o)(hd:o.data=.set es ep t)(hf:t.fits es.size=true)(hn:es.size=n)
  (hT:s.heap.get? T=some ot) (hTd:ot.data=.seq ps c) (hp:ps[i]?=none)
  (hQ:∀ h',(∀ b o,b≠I->s.heap.get? b=some o->h'.get? b=some o)->Q none { s with heap:=h' }):wpAny (model prog w) A (pyNext (.ref I)) Q E s:=by
 obtain⟨oi,hoi,hci,hdi⟩:=id hit
 refine zC7 hit ?_
 unfold Builtin.«set_iterator.__next__»
 refine wpAny_bind (wpAny_pure (wpAny_bind (wpAny_fieldsOf hoi hdi ?_)))
 show wpAny _ _ (setEntries D >>= _) _ _ s
 refine wpAny_bind (wpAny_setEntries_of hD hd hf ?_)
 rw[if_neg (by rw[hn];simp)]
 show wpAny _ _ (seqItems? (.ref T) >>= _) _ _ s
 refine wpAny_bind (wpAny_seqItems hT hTd ?_)
 show wpAny _ _ (match ps[Int.toNat (i:Int)]? with | some (.int place _)=>_ | some _=>_ | none=>_) _ _ s
 rw[Int.toNat_natCast,hp]
 show wpAny _ _ (setField (.ref I) 0 (rawInt 0) >>= _) _ _ s
 refine wpAny_bind (wpAny_setField hoi hdi (by simp) ?_)
 have e1:=zH0 hoi hdi 0 (rawInt 0)
 have d1:(Obj.mapFields (·.setIfInBounds 0 (rawInt 0)) oi).data=.fields #[rawInt 0,rawInt i,.ref D,rawInt n,rawInt ep]:=by rw[Obj.data_mapFields hdi];rfl
 show wpAny _ _ (setField (.ref I) 2 .none >>= _) _ _ _
 refine wpAny_bind (wpAny_setField e1 d1 (by simp) ?_)
 refine zCs hh λh' e k ⟨o2,q1,q2⟩=>⟨e,o2,rfl,q1,q2,hQ h' λb o hb q=>k b o ((Heap.get?_update_other _ _ (Ne.symm hb)).trans ((Heap.get?_update_other _ _ (Ne.symm hb)).trans q))⟩
end
end SW
namespace SW
open PySem PySem.Spec PyProof.Rows
theorem zJ5 {α:Type}(f:Nat->Nat):∀ (n k:Nat) (l:List α) (out:Array α),l.length=n->(pickOrder.go f n k l out).toList.Perm (out.toList++l):=by
 intro n
 induction n with
 | zero =>
  intro k l out hl
  have:l=[]:=List.length_eq_zero_iff.mp hl
  subst this
  unfold pickOrder.go
  simp
 | succ n ih =>
  intro k l out hl
  unfold pickOrder.go
  have hi:f k % l.length<l.length:=Nat.mod_lt _ (by omega)
  rw[List.getElem?_eq_getElem hi]
  dsimp only
  refine(ih _ _ _ (by rw[List.length_eraseIdx_of_lt hi];omega)).trans ?_
  rw[Array.toList_push,List.append_assoc]
  exact(zDl hi).append_left _
theorem zC8 {α:Type}(f:Nat->Nat)(xs:Array α):(pickOrder f xs).toList.Perm xs.toList:=by
 unfold pickOrder
 simpa using zJ5 f xs.size 0 xs.toList #[] (by simp)
theorem zCZ {es:List (Int×Value)}(h:∀ e∈es,∃ n tk,e=(hashInt n,Value.int n tk)):IntsAre (es.map (·.2)) (es.map λe=>vN e.2):=by
 induction es with
 | nil=>exact .nil
 | cons e es ih =>
  obtain⟨n,tk,rfl⟩:=h e (.head _)
  exact .cons n tk (ih λx hx=>h x (.tail _ hx))
section
variable {prog:Program}{w:World}{A:Around}{E:Value->Shared->Prop}{s:Shared}
theorem zEJ {I D:Addr}{f:Value}{i n ep:Nat}{Q:Value->Shared->Prop}(hit:SIt s.heap I f i D n ep)(h:Q (.ref I) s):wpAny (model prog w) A (pyIter (.ref I)) Q E s:=by
 refine wpAny_pyIter_slot hit.ty zDk (wpAny_call_entry zDk hit.ty zFP (?_:wpAny _ _ (ret (.ref I)) _ _ s) (zGg _))
 exact wpAny_pure ⟨_,rfl,"set_iterator",_,hit.ty,slot_next.lookup,h⟩
theorem zEK {Q:Bool->Shared->Prop}(h:Q (byT w) s):wpAny (model prog w) A setsByText Q E s:=by
 unfold setsByText
 exact wpAny_bind (wpAny_askSetting (wpAny_pure h))
theorem zGi {D:Addr}{o:Obj}{es:Array (Int×Value)}{ep:Nat}{t:SetTable}(hd:o.data=.set es ep t)(hf:t.fits es.size=true)(hb:byT w=true)(hh:A.handled=none)(I:Addr)(hne:D≠I) :
  Walks prog w A I [I,D] [I] es.size (λi v=>((pickOrder (w.params.setOrder D ep) es).toList.map (·.2))[i]?=some v) (λi h=>SIt h I (rawInt 0) i D es.size ep/\h.get? D=some o) where
 sub:=λb hb=>by simp at hb;simp[hb]
 frame:=λ_ _ _ st hk=>⟨st.1.at λo e=>hk I (by simp) o e,hk D (by simp) _ st.2⟩
 item:=λi s Q E hi st hQ=>by
  have hz:(pickOrder (w.params.setOrder D ep) es).size=es.size:=by have:=(zC8 (w.params.setOrder D ep) es).length_eq;simpa using this
  have hx:(pickOrder (w.params.setOrder D ep) es)[i]?=some ((pickOrder (w.params.setOrder D ep) es)[i]'(by omega)):=by simp[hz,hi]
  refine zEi (nx:=0) (x:=((pickOrder (w.params.setOrder D ep) es)[i]'(by omega)).2) st.1 st.2 hd hf rfl (λE' Q' q=>?_) λh' hit' sb=>hQ _ h' s.toks (by simp[hz,hi]) ⟨hit',sb.extBut _ _ hne st.2⟩ λb o hb e=>sb.extBut b o (λh=>hb (by simp[h])) e
  unfold setNext
  refine wpAny_bind (wpAny_setState_of st.2 hd hf ?_)
  dsimp only
  refine wpAny_bind (zEK ?_)
  rw[if_pos hb,if_neg (by simp)]
  unfold setWalk
  refine wpAny_bind (wpAny_bind (wpAny_setState_of st.2 hd hf ?_))
  dsimp only
  refine wpAny_bind (zEK ?_)
  rw[if_pos hb]
  refine wpAny_bind (wpAny_askSetting (wpAny_pure (wpAny_pure ?_)))
  show Q' (Option.map _ (pickOrder (w.params.setOrder D ep) es)[i]?) _
  rw[hx];exact q
 done:=λs Q E st hQ=>by
  have hz:(pickOrder (w.params.setOrder D ep) es).size=es.size:=by have:=(zC8 (w.params.setOrder D ep) es).length_eq;simpa using this
  refine zGh hh st.1 st.2 hd hf rfl (λE' Q' q=>?_) λh' k=>hQ h' s.toks λb o hb e=>k b o (λh=>hb (by simp[h])) e
  unfold setNext
  refine wpAny_bind (wpAny_setState_of st.2 hd hf ?_)
  dsimp only
  refine wpAny_bind (zEK ?_)
  rw[if_pos hb,if_neg (by simp)]
  unfold setWalk
  refine wpAny_bind (wpAny_bind (wpAny_setState_of st.2 hd hf ?_))
  dsimp only
  refine wpAny_bind (zEK ?_)
  rw[if_pos hb]
  refine wpAny_bind (wpAny_askSetting (wpAny_pure (wpAny_pure ?_)))
  show Q' (Option.map _ (pickOrder (w.params.setOrder D ep) es)[es.size]?) _
  rw[Array.getElem?_eq_none (by omega)];exact q
 self:=λ_ _ _ _ st hQ=>zEJ st.1 hQ
theorem zH2 {t:SetTable}{n i sl:Nat}(hok:Ok t)(hz:t.place.size=n)(hi:i<n)(hs:SetTable.below t.place sl=i):∃ j,t.place[i]?=some j/\SetTable.below t.place (j+1)=i+1:=by
 subst hz
 refine⟨t.place[i],by simp[hi],?_⟩
 obtain⟨b1,b2,b3⟩:=bel (t.place[i]+1) hok.r
 rcases Nat.lt_trichotomy (SetTable.below t.place (t.place[i]+1)) (i+1) with c | c | c
 ·have:=b3 i hi (by omega);omega
 ·exact c
 ·have h1:=b2 (i+1) (by omega) c
  have:=zC6 hok.r (by omega:i<i+1) (by omega:i+1<t.place.size)
  omega
theorem zFQ {D:Addr}{o:Obj}{es:Array (Int×Value)}{ep:Nat}{t:SetTable}(hd:o.data=.set es ep t)(hf:t.fits es.size=true)(hok:Ok t)(hb:byT w=false)(hl:t.led=true)(hp:(!t.plain&&decide (es.size > 1))=false)(hh:A.handled=none)(I:Addr)(hne:D≠I) :
  Walks prog w A I [I,D] [I] es.size (λi v=>(es.toList.map (·.2))[i]?=some v) (λi h=>(∃ sl:Nat,SIt h I (rawInt sl) i D es.size ep/\SetTable.below t.place sl=i)/\h.get? D=some o) where
 sub:=λb hb=>by simp at hb;simp[hb]
 frame:=λ_ _ _ ⟨⟨sl,st,e1⟩,e2⟩ hk=>⟨⟨sl,st.at λo e=>hk I (by simp) o e,e1⟩,hk D (by simp) _ e2⟩
 item:=λi s Q E hi ⟨⟨sl,st,e1⟩,e2⟩ hQ=>by
  have hz:t.place.size=es.size:=by
   unfold SetTable.fits at hf
   simp only[Bool.and_eq_true,beq_iff_eq] at hf
   exact hf.1
  obtain⟨j,z1,z2⟩:=zH2 hok hz hi e1
  refine zEi (nx:=j+1) (x:=(es[i]).2) st e2 hd hf rfl (λE' Q' q=>?_) λh' hit' sb=>hQ _ h' s.toks (by simp[hi]) ⟨⟨_,hit',z2⟩,sb.extBut _ _ hne e2⟩ λb o hb e=>sb.extBut b o (λh=>hb (by simp[h])) e
  unfold setNext
  refine wpAny_bind (wpAny_setState_of e2 hd hf ?_)
  dsimp only
  refine wpAny_bind (zEK ?_)
  rw[if_neg (by rw[hb];simp)]
  split
  ·rename_i hc
   exact absurd (show (!t.plain&&decide (es.size > 1))=true from hc) (by rw[hp];simp)
  ·show wpAny _ _ ((if (!t.led&&!es.isEmpty)=true then _ else _) >>= _) _ _ _
   rw[if_neg (by rw[hl];simp)]
   refine wpAny_bind (wpAny_pure (wpAny_pure ?_))
   rw[e1,z1,Array.getElem?_eq_getElem hi]
   exact q
 done:=λs Q E ⟨⟨sl,st,e1⟩,e2⟩ hQ=>by
  refine zGh hh st e2 hd hf rfl (λE' Q' q=>?_) λh' k=>hQ h' s.toks λb o hb e=>k b o (λh=>hb (by simp[h])) e
  unfold setNext
  refine wpAny_bind (wpAny_setState_of e2 hd hf ?_)
  dsimp only
  refine wpAny_bind (zEK ?_)
  rw[if_neg (by rw[hb];simp)]
  split
  ·rename_i hc
   exact absurd (show (!t.plain&&decide (es.size > 1))=true from hc) (by rw[hp];simp)
  ·show wpAny _ _ ((if (!t.led&&!es.isEmpty)=true then _ else _) >>= _) _ _ _
   rw[if_neg (by rw[hl];simp)]
   refine wpAny_bind (wpAny_pure (wpAny_pure ?_))
   rw[e1,Array.getElem?_eq_none (Nat.le_refl _)]
   exact q
 self:=λ_ _ _ _ ⟨⟨sl,st,e1⟩,e2⟩ hQ=>zEJ st hQ
theorem zFR {D T:Addr}{o ot:Obj}{es:Array (Int×Value)}{ep c:Nat}{t:SetTable}{ys:List Nat}(hd:o.data=.set es ep t)(hf:t.fits es.size=true)(hTd:ot.data=.seq (ys.map λ(i:Nat)=>rawInt i).toArray c)(hy:ys.Perm (List.range es.size))(hh:A.handled=none)(I:Addr)(hne:D≠I)(hnT:T≠I) :
  Walks prog w A I [I,D,T] [I] es.size (λi v=>(ys.map λp=>(es.toList.map (·.2)).getD p .none)[i]?=some v) (λi h=>SIt h I (.ref T) i D es.size ep/\h.get? D=some o/\h.get? T=some ot) where
 sub:=λb hb=>by simp at hb;simp[hb]
 frame:=λ_ _ _ st hk=>⟨st.1.at λo e=>hk I (by simp) o e,hk D (by simp) _ st.2.1,hk T (by simp) _ st.2.2⟩
 item:=λi s Q E hi st hQ=>by
  have hz:ys.length=es.size:=by simpa using hy.length_eq
  have hp:ys[i]'(by omega)<es.size:=by
   have:=hy.mem_iff.mp (List.getElem_mem (by omega:i<ys.length))
   simpa using this
  refine zH1 (p:=ys[i]'(by omega)) (x:=es[ys[i]'(by omega)]'hp) (u:=0) st.1 st.2.1 hd hf rfl st.2.2 hTd (by simp[hz,hi,rawInt]) (by simp[hp]) λh' hit' sb=>hQ _ h' s.toks ?_ ⟨hit',sb.extBut _ _ hne st.2.1,sb.extBut _ _ hnT st.2.2⟩ λb o hb e=>sb.extBut b o (λh=>hb (by simp[h])) e
  simp[hz,hi,hp]
 done:=λs Q E st hQ=>by
  have hz:ys.length=es.size:=by simpa using hy.length_eq
  exact zJ4 hh st.1 st.2.1 hd hf rfl st.2.2 hTd (by simp[hz]) λh' k=>hQ h' s.toks λb o hb e=>k b o (λh=>hb (by simp[h])) e
 self:=λ_ _ _ _ st hQ=>zEJ st.1 hQ
end
theorem zDm {us:List Value}{ns:List Int}(h:IntsAre us ns):∀ (ys:List Nat),(∀ y∈ys,y<us.length)->IntsAre (ys.map λp=>us.getD p .none) (ys.map λp=>ns.getD p 0)
 | [],_=>.nil
 | y::ys,hy=>by
  have hlt:=hy y (.head _)
  obtain⟨t,ht⟩:=PyProof.Rows.IntsAre.int_at h y (us[y]) (by simp[hlt])
  have e:us.getD y .none=.int (ns.getD y 0) t:=by rw[List.getD_eq_getElem?_getD,List.getElem?_eq_getElem hlt];exact ht
  rw[List.map_cons,List.map_cons,e]
  exact .cons _ t (zDm h ys λz hz=>hy z (.tail _ hz))
theorem zFS (ns:List Int):(List.range ns.length).map (λp=>ns.getD p 0)=ns:=by
 apply List.ext_getElem
 ·simp
 ·intro i h1 h2
  simp at h1
  simp[h1]
section
variable {prog:Program}{w:World}{A:Around}{E:Value->Shared->Prop}{s:Shared}
theorem zJ6 {D:Addr}{o:Obj}{ns:List Int}{Q:Value->Shared->Prop}(ho:s.heap.get? D=some o)(hs:SetIs w o ns)(hz:ns.length<scanBound)
  (h:∀ (I:Addr) (s1:Shared) (fp:List Addr) (ord:List Value) (St:Nat->Heap->Prop) (ms:List Int) (n:Nat),n=ns.length->(∀ b o,s.heap.get? b=some o->s1.heap.get? b=some o)->s1.os=s.os->s1.gens=s.gens->(∀ b∈fp,b=D\/s.heap.objs.size<=b)->(∀ b∈fp,b<s1.heap.objs.size) ->
   (∀ A':Around,A'.handled=none->Walks prog w A' I fp [I] n (λi v=>ord[i]?=some v) St)->St 0 s1.heap->IntsAre ord ms->ms.Perm ns->s.heap.objs.size<=I->Q (.ref I) s1) :
  wpAny (model prog w) A (pyIter (.ref D)) Q E s:=by
 obtain⟨hex,hnd,es,ep,t,hd,hel,hp,hf,hok,hl⟩:=id hs
 have hT:s.TypeIs (.ref D) "set":=⟨o,ho,hex.1⟩
 have hn:es.size=ns.length:=by simpa using hp.length_eq
 have hDlt:=Heap.lt_size ho
 refine wpAny_pyIter_slot hT F.slot_set_iter (wpAny_call_entry F.slot_set_iter hT zEI ?_ (F.args_set_iter_1 _))
 unfold Builtin.«frozenset.__iter__» Builtin.Frozenset.slot0 Builtin.Frozenset.sizeOf
 refine wpAny_bind (wpAny_bind (wpAny_pure ?_))
 refine wpAny_pure (wpAny_bind (wpAny_bind (wpAny_setEntries_of ho hd hf (wpAny_pure ?_))))
 unfold setDrawn
 refine wpAny_bind (wpAny_bind (wpAny_setState_of ho hd hf ?_))
 dsimp only
 refine wpAny_bind (zEK (wpAny_pure ?_))
 split
 ·rename_i hc
  have hc':(!byT w&&(!t.plain&&decide (es.size > 1)))=true:=hc
  refine wpAny_bind (zJ3 es.size (List.range es.size) s _ (by simp) λys d hy=>?_)
  have hyz:ys.length=es.size:=by simpa using hy.length_eq
  have hb:byT w=false:=by cases hq:byT w<;>simp[hq] at hc' ⊢
  refine wpAny_bind (wpAny_newTuple ?_ (by rw[List.length_map,hyz,hn];exact fits_of_scanBound hz))
  refine wpAny_bind (wpAny_setEpoch_of (Heap.get?_push_of_some _ ho) hd hf (wpAny_bind (wpAny_newObj_type (wpAny_pure ⟨_,rfl,"set_iterator",_,⟨_,Heap.get?_push_size _ rfl,rfl⟩,slot_next.lookup,?_⟩))))
  refine h _ _ [(s.heap.push _).objs.size,D,s.heap.objs.size] (ys.map λp=>(es.toList.map (·.2)).getD p .none) _ (ys.map λp=>(es.toList.map λe=>vN e.2).getD p 0) _ hn (λb o q=>Heap.get?_push_of_some _ (Heap.get?_push_of_some _ q)) rfl rfl ?_ ?_ (λA' hh=>zFR hd hf (T:=s.heap.objs.size) rfl hy hh _ (by rw[Heap.size_push];exact Nat.ne_of_lt (Nat.lt_succ_of_lt hDlt)) (by rw[Heap.size_push];exact Nat.ne_of_lt (Nat.lt_succ_self _))) ⟨⟨_,Heap.get?_push_size _ rfl,rfl,rfl⟩,Heap.get?_push_of_some _ (Heap.get?_push_of_some _ ho),Heap.get?_push_of_some _ (Heap.get?_push_size _ rfl)⟩ (zDm (zCZ hel) ys λy hy'=>?_) ?_ (by rw[Heap.size_push];exact Nat.le_succ _)
  ·intro b hb
   rcases List.mem_cons.mp hb with rfl | hb
   ·exact .inr (by rw[Heap.size_push];exact Nat.le_succ _)
   ·rcases List.mem_cons.mp hb with rfl | hb
    ·exact .inl rfl
    ·exact .inr (Nat.le_of_eq (List.mem_singleton.mp hb).symm)
  ·intro b hb
   show b<((s.heap.push _).push _).objs.size
   rw[Heap.size_push,Heap.size_push]
   rcases List.mem_cons.mp hb with rfl | hb
   ·rw[Heap.size_push];exact Nat.lt_succ_self _
   ·rcases List.mem_cons.mp hb with rfl | hb
    ·exact Nat.lt_succ_of_lt (Nat.lt_succ_of_lt hDlt)
    ·rw[List.mem_singleton.mp hb];exact Nat.lt_succ_of_lt (Nat.lt_succ_self _)
  ·have:=hy.mem_iff.mp hy'
   simpa using this
  ·have e:=zFS (es.toList.map λe=>vN e.2)
   have e2:(es.toList.map λe=>vN e.2).length=es.size:=by simp
   rw[e2] at e
   exact((hy.map _).trans (List.Perm.of_eq e)).trans hp
 ·rename_i hc
  have hc':¬ (!byT w&&(!t.plain&&decide (es.size > 1)))=true:=hc
  refine wpAny_bind (wpAny_pure (wpAny_bind (wpAny_setEpoch_of ho hd hf (wpAny_bind (wpAny_newObj_type (wpAny_pure ⟨_,rfl,"set_iterator",_,⟨_,Heap.get?_push_size _ rfl,rfl⟩,slot_next.lookup,?_⟩))))))
  have hit:SIt (s.heap.push { cls:=.type "set_iterator",data:=.fields #[rawInt 0,rawInt 0,.ref D,rawInt es.size,rawInt ep] }) s.heap.objs.size (rawInt 0) 0 D es.size ep:=⟨_,Heap.get?_push_size _ rfl,rfl,rfl⟩
  have hne:D≠s.heap.objs.size:=Nat.ne_of_lt hDlt
  cases hb:byT w with
  | true =>
   refine h _ _ [s.heap.objs.size,D] _ _ ((pickOrder (w.params.setOrder D ep) es).toList.map λe=>vN e.2) _ hn (λb o q=>Heap.get?_push_of_some _ q) rfl rfl ?_ ?_ (λA' hh=>zGi hd hf hb hh _ hne) ⟨hit,Heap.get?_push_of_some _ ho⟩ (zCZ λe he=>hel e ((zC8 _ es).mem_iff.mp he)) (((zC8 _ es).map _).trans hp) (Nat.le_refl _)
   ·intro b hb
    rcases List.mem_cons.mp hb with rfl | hb
    ·exact .inr (Nat.le_refl _)
    ·exact .inl (List.mem_singleton.mp hb)
   ·intro b hb
    show b<(s.heap.push _).objs.size
    rw[Heap.size_push]
    rcases List.mem_cons.mp hb with rfl | hb
    ·exact Nat.lt_succ_self _
    ·rw[List.mem_singleton.mp hb];exact Nat.lt_succ_of_lt hDlt
  | false =>
   have hpl:(!t.plain&&decide (es.size > 1))=false:=by
    rw[hb] at hc';simpa using hc'
   refine h _ _ [s.heap.objs.size,D] _ _ (es.toList.map λe=>vN e.2) _ hn (λb o q=>Heap.get?_push_of_some _ q) rfl rfl ?_ ?_ (λA' hh=>zFQ hd hf hok hb (by rw[hl,hb];rfl) hpl hh _ hne) ⟨⟨0,hit,?_⟩,Heap.get?_push_of_some _ ho⟩ (zCZ hel) hp (Nat.le_refl _)
   ·intro b hb
    rcases List.mem_cons.mp hb with rfl | hb
    ·exact .inr (Nat.le_refl _)
    ·exact .inl (List.mem_singleton.mp hb)
   ·intro b hb
    show b<(s.heap.push _).objs.size
    rw[Heap.size_push]
    rcases List.mem_cons.mp hb with rfl | hb
    ·exact Nat.lt_succ_self _
    ·rw[List.mem_singleton.mp hb];exact Nat.lt_succ_of_lt hDlt
   ·obtain⟨b1,b2,b3⟩:=bel 0 hok.r
    rcases Nat.eq_zero_or_pos (SetTable.below t.place 0) with c | c
    ·exact c
    ·exact absurd (b2 0 (by omega) c) (Nat.not_lt_zero _)
theorem zH3 {D:Addr}{Q:Bool->Shared->Prop}(hT:s.TypeIs (.ref D) "set")(h:Q false s):wpAny (model prog w) A (Builtin.List.listLengthHint (.ref D)) Q E s:=by
 unfold Builtin.List.listLengthHint
 refine wpAny_bind (wpAny_specialOf hT PySem.F.slot_set_len.lookup ?_)
 generalize hid:("set.__len__":String)=id0
 wp_delta
 rw[show splitId id0=some ("set","__len__") from by subst hid;decide +kernel]
 subst hid
 refine wpAny_bind (wpAny_isInstance (T:="set") (b:=true) hT (by rw[isSubtype_type];kernel_rfl) ?_)
 refine wpAny_ite_split (λhab=>absurd hab (by decide)) (λ_=>?_)
 refine wpAny_ite_split (λ_=>wpAny_bind (wpAny_typeOf hT (wpAny_pure h))) (λhab=>absurd (by decide +kernel) hab)
theorem zFT {D:Addr}{o:Obj}{ns:List Int}{Q:List Value->Shared->Prop}(hh:A.handled=none)(ho:s.heap.get? D=some o)(hs:SetIs w o ns)(hz:ns.length<scanBound)
  (h:∀ (s1:Shared) (vs:List Value) (ms:List Int),(∀ b o,s.heap.get? b=some o->s1.heap.get? b=some o)->s1.os=s.os->s1.gens=s.gens->s.heap.objs.size<=s1.heap.objs.size->IntsAre vs ms->ms.Perm ns->Q vs s1) :
  wpAny (model prog w) A (collect (.ref D)) Q E s:=by
 have hDlt:=Heap.lt_size ho
 have hT:s.TypeIs (.ref D) "set":=⟨o,ho,hs.1.1⟩
 unfold collect
 refine wpAny_bind (wpAny_runValue (codeAny_builtin F.entry_proto_collect ?_))
 rw[Around.under_plainId F.plain_proto_collect _]
 refine(?_:wpAny _ A.in1 (newList [] >>= λl=>again (.builtin "list.__iadd__" ⟨[l,.ref D],[]⟩)) _ _ s)
 refine wpAny_bind (wpAny_newObj_type (wpAny_pure ⟨plainId_quiet F.plain_list_iadd _,codeAny_builtin F.entry_list_iadd ?_⟩))
 rw[Around.under_plainId F.plain_list_iadd _]
 have hS:(s.heap.push { cls:=.type "list",data:=.seq ([]:List Value).toArray }).get? s.heap.objs.size=some { cls:=.type "list",data:=.seq ([]:List Value).toArray }:=Heap.get?_push_size _ rfl
 generalize hH:s.heap.push { cls:=.type "list",data:=.seq ([]:List Value).toArray }=H at hS ⊢
 have kH:∀ b o,s.heap.get? b=some o->H.get? b=some o:=λb o q=>by rw[<- hH];exact Heap.get?_push_of_some _ q
 have zH:H.objs.size=s.heap.objs.size+1:=by rw[<- hH,Heap.size_push]
 have ne:s.heap.objs.size≠D:=Nat.ne_of_gt hDlt
 have h1:Builtin.List.listSameRef (.ref s.heap.objs.size) (.ref D)=false:=by simp[Builtin.List.listSameRef,ne]
 refine(?_:wpAny _ A.in1 (Builtin.List.listExtendWith (.ref s.heap.objs.size) (.ref D) (.ref s.heap.objs.size)) _ _ _)
 unfold Builtin.List.listExtendWith
 refine wpAny_bind (wpAny_typeOf (T:="set") ⟨o,kH _ _ ho,hs.1.1⟩ ?_)
 rw[if_neg (by rw[h1];decide)]
 refine wpAny_bind (zJ6 (s:={ s with heap:=H }) (kH _ _ ho) hs hz λI s1 fp ord St ms n hn k1 k2 k3 k4 k5 W st hi hp hI=>?_)
 refine wpAny_bind (wpAny_holding (zH3 ⟨o,k1 _ _ (kH _ _ ho),hs.1.1⟩ ?_))
 have hSf:s.heap.objs.size∉fp:=λq=>by
  rcases k4 _ q with e | e
  ·exact ne e
  ·rw[show ({ s with heap:=H }:Shared).heap.objs.size=s.heap.objs.size+1 from zH] at e
   exact absurd e (Nat.not_succ_le_self _)
 have fin:∀ s2:Shared,St 0 s2.heap->(∀ b o,b≠s.heap.objs.size->s1.heap.get? b=some o->s2.heap.get? b=some o)->s2.os=s1.os->s2.gens=s1.gens->(∃ c,s2.heap.get? s.heap.objs.size=some { cls:=.type "list",dict:=none,data:=.seq #[] c,slots:=#[] }) ->
   codeAny (model prog w) A (.builtin "list.extend.loop" ⟨[.ref s.heap.objs.size,.ref I,.ref s.heap.objs.size],[]⟩) (λr s'=>∃ v,r=.ok (.ret v)/\wpAny (model prog w) A (match v with | .ref a=>(do match (<- load a).data with | .seq xs _=>pure xs.toList | _=>unsupported "internal:collect") | _=>unsupported "internal:collect") Q E s') s2:=by
  intro s2 st2 kk ko kg ⟨c,hc⟩
  refine codeAny_extend_loopS (W A.in1 hh).toS (by rw[hn];exact fits_of_scanBound hz) _ hSf _ n 0 s2 #[] c rfl (Nat.zero_le _) st2 hc (ItemsOf.nil _) λs3 acc c' hm hS3 hacc=>⟨_,rfl,?_⟩
  refine wpAny_bind (wpAny_load hS3 (wpAny_pure ?_))
  have e:acc.toList=ord:=by
   have hl:ord.length=n:=by rw[hn];exact(IntsAre.length hi).trans hp.length_eq
   apply List.ext_getElem
   ·rw[Array.length_toList,hacc.1,hl]
   ·intro i z1 z2
    have this:ord[i]?=some acc[i]:=hacc.2 i acc[i] (by simp)
    rw[List.getElem?_eq_getElem z2] at this
    injection this with this
    rw[Array.getElem_toList];exact this.symm
  rw[e]
  refine h s3 ord ms (λb o q=>?_) (by rw[hm.os,ko,k2]) (by rw[hm.gens,kg,k3]) ?_ hi hp
  ·have hb:=Heap.lt_size q
   refine hm.heap b o (λz=>?_) (kk b o (Nat.ne_of_lt hb) (k1 b o (kH b o q)))
   rcases List.mem_cons.mp z with e | z
   ·exact Nat.ne_of_lt hb e
   ·rw[List.mem_singleton.mp z] at hb
    exact absurd (Nat.lt_of_lt_of_le hb (Nat.le_trans (by rw[show ({ s with heap:=H }:Shared).heap.objs.size=s.heap.objs.size+1 from zH];exact Nat.le_succ _) hI)) (Nat.lt_irrefl _)
  ·exact Nat.le_of_lt (Heap.lt_size hS3)
 have hS1:s1.heap.get? s.heap.objs.size=some { cls:=.type "list",data:=.seq ([]:List Value).toArray }:=k1 _ _ hS
 refine wpAny_ite_split (λ_=>?_) (λ_=>wpAny_pure ⟨plainId_quiet PySem.F.plain_extend_loop _,?_⟩)
 ·refine wpAny_bind (wpAny_rule (wpAny_bind (?_:wpAny _ _ (updateSeq s.heap.objs.size (·.push .none) >>= λ_=>updateSeq s.heap.objs.size (·.pop)) _ _ _)))
  refine wpAny_bind (wpAny_updateSeq hS1 rfl ?_)
  have hS2:=Heap.get?_update_self (Obj.mapSeq (·.push Value.none)) hS1 rfl
  refine wpAny_updateSeq (hz:=by seq_fits) hS2 rfl ?_
  have hS3:=Heap.get?_update_self (Obj.mapSeq (·.pop)) hS2 rfl
  have oth:∀ b o,b≠s.heap.objs.size->s1.heap.get? b=some o->((s1.heap.update s.heap.objs.size (Obj.mapSeq (·.push Value.none))).update s.heap.objs.size (Obj.mapSeq (·.pop))).get? b=some o :=
   λb o hb e=>(Heap.get?_update_other _ _ (Ne.symm hb)).trans ((Heap.get?_update_other _ _ (Ne.symm hb)).trans e)
  refine wpAny_pure ⟨plainId_quiet PySem.F.plain_extend_loop _,codeAny_mono (fin _ ((W A hh).frame 0 _ _ st λb hb o e=>oth b o (λz=>hSf (z▸hb)) e) oth rfl rfl ⟨_,hS3⟩) λr s' hr=>?_⟩
  obtain⟨v,rfl,hv⟩:=hr
  exact hv
 ·refine codeAny_mono (fin s1 st (λb o _ q=>q) rfl rfl ⟨_,hS1⟩) λr s' hr=>?_
  obtain⟨v,rfl,hv⟩:=hr
  exact hv
theorem sorted_is {D:Addr}{o:Obj}{ns:List Int}{Q:Value->Shared->Prop}(hh:A.handled=none)(ho:s.heap.get? D=some o)(hs:SetIs w o ns)(hz:ns.length<=1000)
  (h:∀ (s1:Shared) (l:Addr) (out:List Value) (c:Nat) (ms:List Int),(∀ b o,s.heap.get? b=some o->s1.heap.get? b=some o)->s1.os=s.os->s1.gens=s.gens->s.heap.objs.size<=l->s1.heap.get? l=some (seqObj "list" out.toArray c)->IntsAre out ms->ms.Perm ns->ms.Pairwise (·<=·)->Q (.ref l) s1) :
  wpAny (model prog w) A (call (.builtin "sorted") [.ref D]) Q E s:=by
 refine Calls.call_function_entry kind_sorted plain_sorted entry_sorted (args_sorted1 _) ?_
 unfold Builtin.«sorted»
 refine wpAny_bind (m:=checkCount "sorted" 1 1 _) (wpAny_pure ?_)
 refine wpAny_bind (zFT (by exact hh) ho hs (by show _<4096;omega) λs1 vs ms k1 k2 k3 k4 hi hp=>?_)
 have hl:vs.length<=1000:=by rw[IntsAre.length hi,hp.length_eq];exact hz
 refine wpAny_bind (wpAny_newList ?_ (by rw[sizeLine_eq];omega))
 have hoL:(s1.heap.push (seqObj "list" vs.toArray 0)).get? s1.heap.objs.size=some (seqObj "list" vs.toArray 0):=Heap.get?_push_size _ rfl
 refine wpAny_bind (wpAny_holding (wpAny_call_entry (s:={ s1 with heap:=s1.heap.push (seqObj "list" vs.toArray 0) }) slot_list_sort ⟨_,hoL,rfl⟩ entry_list_sort (SB.sort_s hoL hi hl λout ns' a1 a2 a3=>⟨_,rfl,?_⟩) (args_list_sort _)))
 refine wpAny_pure ⟨_,rfl,?_⟩
 have g1:=Heap.get?_update_self (Obj.mapSeq λ_=>(#[]:Array Value)) hoL rfl
 have g2:=Heap.get?_push_of_some (seqObj "list" #[] 0) (Heap.get?_push_of_some (seqObj "tuple" vs.toArray 0) g1)
 have g3:=Heap.get?_update_self (Obj.mapSeq λ_=>out) g2 rfl
 refine h _ s1.heap.objs.size out.toList _ ns' (λb o q=>?_) k2 k3 k4 (g3.trans (by rw[Array.toArray_toList];rfl)) a1 (a2.trans hp) a3
 have hb:=k1 b o q
 have ne:s1.heap.objs.size≠b:=Nat.ne_of_gt (Heap.lt_size hb)
 exact(Heap.get?_update_other _ _ ne).trans (Heap.get?_push_of_some _ (Heap.get?_push_of_some _ ((Heap.get?_update_other _ _ ne).trans (Heap.get?_push_of_some _ hb))))
end
end SW
namespace L2
open PySem PySem.Spec PyProof.Rows
section
variable {X:Cx}
theorem Inv.drew {pins:List (Addr×Obj)}{σ:St}{H:Hp}{s s1:Shared}(I:Inv X pins σ H s)(h1:s1.heap=s.heap)(h2:s1.os=s.os)(h3:s1.gens=s.gens):Inv X pins σ H s1:=by
 obtain⟨a,b,c,d,e,f,g,i,j,k,l⟩:=I
 refine⟨a,h2.trans b,h3▸c,h1▸d,h1▸e,h1▸f,g,i,h1▸j,h1▸k,l⟩
theorem zH4:bootBuiltins "sorted"=some (.builtin "sorted"):=by decide +kernel
end
end L2
namespace L2
open PySem PySem.Spec PyProof.Rows
section
variable {X:Cx}{pins:List (Addr×Obj)}{σ:St}{H:Hp}{s:Shared}
theorem zEL {O:Obj}{o0:HO}(hO:ObjOk X.prog X.w (upd H s.heap.objs.size o0) (s.heap.push O) s.heap.objs.size o0){N':List Str}{caps:List (Option Nat)}{scope:Scope}{cl:List (Str×Addr)}{fp:List Addr}{h1:Heap}{tk:Nat}(I:Inv X pins σ H s)(hfp:∀ b∈fp,FpOk X pins H b)(hfo:∀ b∈fp,∃ o,s.heap.get? b=some o)
  (hcap:zB7 N' caps X.N X.env.scope.names scope.names=true) (hkind:scope.kind=.function) (hC:Clo scope X.env cl)
  (hns:h1.Ns (s.heap.objs.size+1) λ_=>none) (hsb:Heap.SameBut (s.heap.objs.size+1) ((s.heap.push O).push { cls:=.type "dict",data:=.dict #[] }) h1) :
  Inv (zAT X pins N' scope cl (s.heap.objs.size+1) { s with heap:=s.heap.push O } (upd H s.heap.objs.size o0) fp) [] (zBj caps σ) (upd H s.heap.objs.size o0) { s with heap:=h1,toks:=tk }:=by
 have hn:H s.heap.objs.size=none:=I.hok.fresh (Nat.le_refl _)
 have hz:(s.heap.push O).objs.size=s.heap.objs.size+1:=Heap.size_push ..
 have up1:∀ b o,s.heap.get? b=some o->(s.heap.push O).get? b=some o:=λb o e=>Heap.get?_push_of_some _ e
 have up2:∀ b o,(s.heap.push O).get? b=some o->h1.get? b=some o:=λb o e=>by
  have hb:b<s.heap.objs.size+1:=by rw[<- hz];exact Heap.lt_size e
  exact hsb.extBut b o (Nat.ne_of_lt hb) (Heap.get?_push_of_some _ e)
 have I1:Inv X pins σ (upd H s.heap.objs.size o0) { s with heap:=s.heap.push O,toks:=s.toks } :=
  I.laid (t':=s.toks) up1 (Nat.le_refl _) hO
 obtain⟨hcap1,hcap3⟩:=Bool.and_eq_true_iff.mp hcap
 obtain⟨hcap1,hcap2⟩:=Bool.and_eq_true_iff.mp hcap1
 have hlen:N'.length=caps.length:=by simpa using hcap1
 have hcap3':=List.all_eq_true.mp hcap3
 have nocell:∀ p∈scope.names,p.2≠NameKind.cell:=λp hp=>by
  have:=hcap3' p hp
  simp only[Bool.and_eq_true,bne_iff_ne] at this
  exact this.1.1
 have hsub:=I.stkSub
 have ltS:∀ b o,s.heap.get? b=some o->b<s.heap.objs.size:=λb o e=>Heap.lt_size e
 refine⟨⟨I.ok.mod,hkind,I.ok.glob,I.ok.blt,Nat.le_of_eq hz,λx y c e1 e2=>I.ok.inj x y c (hC.sub x c e1) (hC.sub y c e2),λx hx=>?_,λx c hf=>absurd (show false=true from hf) Bool.false_ne_true,I.ok.hd,I.ok.frames,.inl rfl,λb hb=>?_,λb o e=>?_,?_,λb o e hb=>?_,λb hb hf=>?_,?_,λb hb=>?_⟩,
  rfl,I.bare,Un.kept up2,⟨_,hns,λi x v e1 e2 e3=>?_⟩,λx c e=>?_,?_,λx c e=>?_,λp hp=>?_,I1.hok.kept up2,?_⟩
 ·exact hC.has x (zBS nocell hx)
 ·obtain⟨o,ho⟩:=hfo b hb
  obtain⟨f0,f1,f2,f3,f4,f5⟩:=hfp b hb
  exact⟨Nat.ne_of_lt (Nat.lt_succ_of_lt (ltS b o ho)),λx c e=>f4 x c (hC.sub x c e)⟩
 ·have q:=I1.bs b o e
  exact q
 ·show X.base.objs.size<=(s.heap.push _).objs.size
  rw[hz]
  exact Nat.le_trans (Nat.le_trans I.ok.bsz I.sz) (Nat.le_succ _)
 ·obtain⟨f0,f1,f2,f3,f4,f5⟩:=hfp b hb
  rcases f3 with f3 | f3
  ·exact I.ok.noex b o e f3
  ·exact absurd (Nat.lt_of_lt_of_le (Heap.lt_size e) (Nat.le_trans I.ok.bsz f3)) (Nat.lt_irrefl _)
 ·obtain⟨f0,f1,f2,f3,f4,f5⟩:=hfp b hb
  rcases List.mem_cons.mp (hsub b hf) with z | z
  ·exact f1 z
  ·exact f2 z
 ·exact I1.stack
 ·exact I1.stkFree b hb
 ·
  have e2':∃ o,caps[i]?=some o/\(match o with | none=>none | some j=>(σ[j]?).join)=some v:=by
   unfold zBj at e2
   rw[List.getElem?_map] at e2
   cases q:caps[i]? with
   | none=>rw[q] at e2;cases e2
   | some o=>rw[q] at e2;exact⟨o,rfl,Option.some.inj e2⟩
  obtain⟨o,ho,hv⟩:=e2'
  cases o with
  | none=>cases hv
  | some j =>
   have hv':(σ[j]?).join=some v:=hv
   have hσ:σ[j]?=some (some v):=by
    cases q:σ[j]? with
    | none=>rw[q] at hv';cases hv'
    | some w=>rw[q] at hv';rw[show w=some v from hv']
   have hzip:(x,some j)∈N'.zip caps:=by
    refine List.mem_iff_getElem?.mpr ⟨i,?_⟩
    rw[List.getElem?_zip_eq_some]
    exact⟨e1,ho⟩
   have q:=List.all_eq_true.mp hcap2 _ hzip
   simp only[Bool.and_eq_true,beq_iff_eq] at q
   obtain⟨q1,q2⟩:=q
   have q3:=hcap3' _ (zBE q2)
   have q4:X.env.scope.names.lookup x=some .cell\/X.env.scope.names.lookup x=some .free:=by
    simp only[bne_self_eq_false,Bool.false_or,Bool.and_eq_true,Bool.or_eq_true,beq_iff_eq] at q3
    exact q3.1.2
   obtain⟨m,_,hl⟩:=I.loc
   obtain⟨u,ru,lk⟩:=hl j x v q1 hσ (.inr q4)
   refine⟨u,ru,.inr ⟨zBR q2,?_⟩⟩
   have q5:X.env.kindOf x=some .cell\/X.env.kindOf x=some .free:=q4
   rcases lk with ⟨k,_⟩ | ⟨_,c,ec,hc⟩
   ·rcases q5 with q5 | q5<;>(rw[q5] at k;cases k)
   ·obtain⟨c',ec'⟩:=hC.has x (zBE q2)
    have:=hC.sub x c' ec'
    rw[ec] at this
    cases this
    obtain⟨oc,hoc,hdc⟩:=hc
    exact⟨c,ec',oc,up2 _ _ (up1 _ _ hoc),hdc⟩
 ·obtain⟨v,oc,hoc,hdc⟩:=I.cell x c (hC.sub x c e)
  exact⟨v,oc,up2 _ _ (up1 _ _ hoc),hdc⟩
 ·show upd H _ _ (s.heap.objs.size+1)=none
  rw[zAS (Nat.ne_of_gt (Nat.lt_succ_self _))]
  exact I.hok.fresh (Nat.le_succ _)
 ·exact I1.freeC x c (hC.sub x c e)
 ·have hp':p∈X.pn++pins:=by simpa using hp
  obtain⟨a1,a2,a3,a4,a5⟩:=I1.pin p hp'
  obtain⟨b1,_,_,_,_⟩:=I.pin p hp'
  refine⟨up2 _ _ a1,a2,Nat.ne_of_lt (Nat.lt_succ_of_lt (ltS _ _ b1)),λhf=>?_,a5⟩
  rcases List.mem_cons.mp (hsub p.1 hf) with z | z
  ·exact a3 z
  ·exact a4 z
 ·show (zBj caps σ).length=N'.length
  unfold zBj
  rw[List.length_map,hlen]
theorem zFU {O:Obj}{o0:HO}{N':List Str}{scope:Scope}{cl:List (Str×Addr)}{fp:List Addr}{C:Addr}{pins':List (Addr×Obj)}{σ':St}{H':Hp}{s':Shared}(I:Inv X pins σ H s)(hfp:∀ b∈fp,FpOk X pins H b)
  (J:Inv (zAT X pins N' scope cl C { s with heap:=s.heap.push O } (upd H s.heap.objs.size o0) fp) pins' σ' H' s'):Inv X pins σ H' s':=by
 have hn:H s.heap.objs.size=none:=I.hok.fresh (Nat.le_refl _)
 refine I.call' (ch:=fp) J.os ?_ J.hok J.bare λb hb=>?_
 ·exact(Un.laid (λb o e=>Heap.get?_push_of_some _ e) (Nat.le_refl _) hn).trans J.base
 ·obtain⟨f0,f1,f2,f3,f4,f5⟩:=hfp b hb
  exact⟨f3,f1,f4,f5⟩
end
def exs (w:World)(D:Addr)(ns:List Int):HO:=.ext λh=>∃ o,h.get? D=some o/\SW.SetIs w o ns
theorem zIe {P:Program}{w:World}{H:Hp}{h:Heap}{D:Addr}{ns:List Int}(e:∃ o,h.get? D=some o/\SW.SetIs w o ns):ObjOk P w H h D (exs w D ns) :=
 ⟨e,let ⟨o,q,_⟩:=e;⟨o,q⟩,λh1 h2 ⟨o,q,z⟩ k=>⟨o,k _ q,z⟩⟩
section
variable {X:Cx}{pins:List (Addr×Obj)}{σ:St}{H:Hp}{s:Shared}{A:Around}{E:Value->Shared->Prop}
theorem zIf (I:Inv X pins σ H s){D:Addr}{ns:List Int}(h:H D=some (exs X.w D ns)):∃ o,s.heap.get? D=some o/\SW.SetIs X.w o ns :=
 (show ObjOk X.prog X.w H s.heap D (exs X.w D ns) from I.hok D _ h).1
theorem zJ7 {D:Addr}{ns:List Int}{k:Int}{u:Tok}{Q:Value->Shared->Prop}(I:Inv X pins σ H s)(hD:H D=some (exs X.w D ns))(hl:ns.length<4000)
  (q:∀ ns' s',(∀ j,j∈ns'↔j∈ns\/j=k)->ns'.length<=ns.length+1->Inv X pins σ (upd H D (exs X.w D ns')) s'->Q .none s') :
  wpAny (model X.prog X.w) A (call (.builtin "set.add") [.ref D,.int k u]) Q E s:=by
 obtain⟨o,ho,hs⟩:=zIf I hD
 refine wpAny_call_entry F.slot_set_add ⟨o,ho,hs.1.1⟩ F.entry_set_add ?_ (F.args_set_add_2 _ _)
 unfold Builtin.«set.add» Builtin.Frozenset.oneOther
 simp only[List.isEmpty_nil,bind_assoc]
 unfold Builtin.Frozenset.addrOf
 refine wpAny_bind (wpAny_pure ?_)
 try dsimp only
 refine wpAny_bind (wpAny_pure ?_)
 try dsimp only
 refine wpAny_bind (SW.addv_is ho hs (by show _<4096;omega) λh' o' ns' b sb e1 e2 e3 e4=>?_)
 refine wpAny_pure ⟨_,rfl,q ns' _ e3 e4 (I.write (x:=D) (e:=D) (by rw[hD];trivial) (.inl rfl) (λb u hb z=>sb.extBut b u hb z) ⟨o',e1⟩ (zIe ⟨o',e1,e2⟩))⟩
end
section
variable {tg tg2 elt iter iter2:Expr}{scope:Scope}{pos:Pos}
theorem zGj (it acc:Value)(env:Env):compTurn (.SetComp elt [⟨tg,iter,[],0⟩,⟨tg2,iter2,[],0⟩] scope pos) 0 it acc env=(standAt iter.pos >>= λ_=>pyNext it >>= λr=>match r with
  | none=>pure (.done .next)
  | some v=>letOwnedTupleGo tg it v >>= λ_=>assign tg env v >>= λ_=>eval iter2 env >>= λx=>standAt iter2.pos >>= λ_=>foldedSetIterable iter2 env x >>= λx=>holding [x] (pyIter x) >>= λit2 =>
    runOwn (.compStart (.SetComp elt [⟨tg,iter,[],0⟩,⟨tg2,iter2,[],0⟩] scope pos) 1 it2 acc env) env >>= λ_ =>
    again (.compLoop (.SetComp elt [⟨tg,iter,[],0⟩,⟨tg2,iter2,[],0⟩] scope pos) 0 it acc env)):=by rfl
theorem zGk (it acc:Value)(env:Env):compTurn (.SetComp elt [⟨tg,iter,[],0⟩,⟨tg2,iter2,[],0⟩] scope pos) 1 it acc env=(standAt iter2.pos >>= λ_=>pyNext it >>= λr=>match r with
  | none=>pure (.done .next)
  | some v=>letOwnedTupleGo tg2 it v >>= λ_=>assign tg2 env v >>= λ_=>(eval elt env >>= λv=>standAt elt.pos >>= λ_=>call (.builtin "set.add") [acc,v] >>= λ_=>pure ()) >>= λ_ =>
    again (.compLoop (.SetComp elt [⟨tg,iter,[],0⟩,⟨tg2,iter2,[],0⟩] scope pos) 1 it acc env)):=by rfl
variable {prog:Program}{w:World}{A:Around}{R:Result->Shared->Prop}{s:Shared}
theorem zDn {d:Nat}{it acc:Value}{env:Env}(hd:d=0\/d=1)(h0:codeAny (model prog w) A (.compLoop (.SetComp elt [⟨tg,iter,[],0⟩,⟨tg2,iter2,[],0⟩] scope pos) d it acc env) R s)
  (h:wpAny (model prog w) A (pyIter it) (λit' s'=>codeAny (model prog w) A (.compLoop (.SetComp elt [⟨tg,iter,[],0⟩,⟨tg2,iter2,[],0⟩] scope pos) d it' acc env) R s') (notedBy (model prog w) A env λx s'=>R (.error x) s') s) :
  codeAny (model prog w) A (.compStart (.SetComp elt [⟨tg,iter,[],0⟩,⟨tg2,iter2,[],0⟩] scope pos) d it acc env) R s:=by
 refine codeAny_of_tree ?_
 show wpAny _ _ ((compStart (.SetComp elt [⟨tg,iter,[],0⟩,⟨tg2,iter2,[],0⟩] scope pos) d it acc env).onRaise (λx=>do noteFrame x env;standAt theWindowsPlace)) _ _ s
 refine wpAny_notedAt ?_
 unfold compStart
 rcases hd with rfl | rfl
 all_goals
  show wpAny _ _ (ask >>= _) _ _ s
  refine wpAny_bind (wpAny_askSetting (wpAny_ite ?_))
  split
  ·first
    | exact wpAny_bind (wpAny_pure (wpAny_pure (And.intro rfl h0)))
    | exact wpAny_pure (And.intro rfl h0)
  ·first
    | exact wpAny_bind (wpAny_rule (wpAny_bind (wpAny_standAt (wpAny_bind (wpAny_mono h (λit' s' h'=>wpAny_pure (And.intro rfl h')) λ_ _ x=>x)))))
    | (refine wpAny_bind (wpAny_rule ?_);show wpAny _ _ (standAt _ >>= _) _ _ s;exact wpAny_bind (wpAny_standAt (wpAny_bind (wpAny_mono h (λit' s' h'=>wpAny_pure (And.intro rfl h')) λ_ _ x=>x))))
end
section
variable {tg tg2 elt iter iter2:Expr}{scope:Scope}{pos:Pos}
theorem zJ8 {X':Cx}{P:List (Addr×Obj)}{fp:List Addr}{it D:Addr}{tn:Nat->Heap->Prop}{b:Nat}{te:TE}{rest:St}{v1:V}{H0:Hp}{s:Shared}{R:Result->Shared->Prop}{f:Nat->Int}{ns0:List Int}{o2:Option V}(hc:X'.calm=true)(hxe:X'.xe=λ_ _=>False)
  (T:Turn X'.prog X'.w X'.K tg2 (Itr 0 b) fp it tn) (hg:PG X' tg2 (zBg 1)) (he:PE X' elt te) (I:Inv X' P (some v1::o2::rest) H0 s) (hf:∀ c∈fp,FpOk X' P H0 c) (st:tn 0 s.heap) (hD:H0 D=some (exs X'.w D ns0)) (hle:ns0.length+b<4000)
  (hte:∀ (j:Nat) H,j<b->(∀ a,a≠D->H a=H0 a)->te (some v1::some (.int (0+(j:Int)))::rest) H λv H'=>v=.int (f j)/\H'=H)
  (hR:∀ s' o2' H' ns',Inv X' P (some v1::o2'::rest) H' s'->(∀ a,a≠D->H' a=H0 a)->H' D=some (exs X'.w D ns')->(∀ k,k∈ns'↔k∈ns0\/∃ j,j<b/\k=f j)->ns'.length<=ns0.length+b->R (.ok .next) s') :
  codeAny (model X'.prog X'.w) X'.A (.compLoop (.SetComp elt [⟨tg,iter,[],0⟩,⟨tg2,iter2,[],0⟩] scope pos) 1 (.ref it) (.ref D) X'.env) R s:=by
 have stat:∀ {H':Hp},(∀ b∈fp,H' b=none)->∀ b∈fp,FpOk X' P H' b:=λhn b hb=>⟨hn b hb,(hf b hb).2⟩
 refine codeAny_loop rfl (λn s'=>∃ j o2' H' ns',n=b-j/\j<=b/\Inv X' P (some v1::o2'::rest) H' s'/\tn j s'.heap/\(∀ c∈fp,H' c=none)/\(∀ a,a≠D->H' a=H0 a)/\H' D=some (exs X'.w D ns')/\(∀ k,k∈ns'↔k∈ns0\/∃ i,i<j/\k=f i)/\ns'.length<=ns0.length+j) ?_ (b-0) ⟨0,o2,H0,ns0,rfl,Nat.zero_le _,I,st,λc hc=>(hf c hc).1,λ_ _=>rfl,hD,λk=>⟨.inl,λz=>z.elim id λ⟨_,q,_⟩=>absurd q (Nat.not_lt_zero _)⟩,Nat.le_refl _⟩
 rintro n s3 ⟨j,o2',H3,ns',rfl,hjb,I3,st3,fr3,eq3,hD3,mem3,len3⟩
 show wpAny _ X'.A ((compTurn (.SetComp elt [⟨tg,iter,[],0⟩,⟨tg2,iter2,[],0⟩] scope pos) 1 (.ref it) (.ref D) X'.env).onRaise (λx=>do noteFrame x X'.env;theTreesLotGoes x)) _ _ s3
 refine wpAny_noted ?_
 rw[zGk]
 have no:∀ {α:Type} {t:Sem α} {Q:α->Shared->Prop} {s':Shared} {E':Value->Shared->Prop},wpAny (model X'.prog X'.w) X'.A t Q X'.xe s'->wpAny (model X'.prog X'.w) X'.A t Q E' s':=λh=>wpAny_mono h (λ_ _ x=>x) λ_ _ x=>by rw[hxe] at x;exact x.elim
 refine wpAny_bind (wpAny_standAt ?_)
 by_cases hj:j<b
 ·refine wpAny_bind (thn (T.item X' rfl rfl rfl hc j P s3 _ H3 _ I3 (stat fr3) st3 hj) λr s4 ⟨u,hr,h4⟩=>?_)
  subst hr
  refine wpAny_bind (thn h4 λ_ s5 ⟨x,H5,I5,r5,y5,st5,fr5⟩=>?_)
  obtain⟨rfl,rfl⟩:=y5
  have I5':=I5.pinned (stat fr5) (T.obj _ _ st5)
  refine wpAny_bind (thn (no (hg _ s5 _ H5 _ u (λσ6 H6=>σ6=some v1::some (.int (0+(j:Int)))::rest/\H6=H5) I5' r5 ⟨rfl,rfl⟩)) λ_ s6 ⟨σ6,H6,I6,e6,e6'⟩=>?_)
  subst e6 e6'
  refine wpAny_bind (wpAny_bind (thn (no (he _ s6 _ H6 _ I6 (hte j H6 hj eq3))) λv s8 ⟨y,H8,I8,r8,q8⟩=>?_))
  obtain⟨rfl,rfl⟩:=q8
  obtain⟨t,rfl⟩:=r8
  refine wpAny_bind (wpAny_standAt ?_)
  refine wpAny_bind (zJ7 I8 hD3 (by omega) λns2 s9 m1 m2 I9=>wpAny_pure (wpAny_pure ⟨rfl,?_⟩))
  refine⟨b-(j+1),by omega,j+1,_,_,ns2,rfl,hj,I9.unpinned,T.keep _ _ _ st5 λc hc o e=>(I9.pin (c,o) (List.mem_append_right _ (List.mem_append_right _ (zAx hc e)))).1,λc hc=>?_,λa ha=>by rw[zAS ha];exact eq3 a ha,zAP,λk=>?_,by omega⟩
  ·rw[zAS (λz=>by have:=fr5 c hc;rw[z,hD3] at this;cases this)];exact fr5 c hc
  ·rw[m1 k,mem3 k]
   constructor
   ·rintro((h | ⟨i,h1,h2⟩) | h)
    ·exact .inl h
    ·exact .inr ⟨i,by omega,h2⟩
    ·exact .inr ⟨j,by omega,h⟩
   ·rintro(h | ⟨i,h1,h2⟩)
    ·exact .inl (.inl h)
    ·by_cases e:i=j
     ·subst e;exact .inr h2
     ·exact .inl (.inr ⟨i,by omega,h2⟩)
 ·have ej:j=b:=by omega
  subst ej
  refine wpAny_bind (thn (T.done X' rfl rfl rfl hc j P s3 _ H3 _ I3 (stat fr3) st3 (Nat.le_refl _)) λr s4 ⟨hr,I4⟩=>?_)
  subst hr
  exact wpAny_pure (hR _ _ _ ns' I4 eq3 hD3 mem3 len3)
theorem zH5 {X':Cx}{fp:List Addr}{it D:Addr}{tn:Nat->Heap->Prop}{lo:Int}{n B:Nat}{wi2:TI}{te:TE}{rest:St}{H0:Hp}{s:Shared}{R:Result->Shared->Prop}{b:Nat->Nat}{f:Nat->Nat->Int}{o1 o2:Option V}(hc:X'.calm=true)(hxe:X'.xe=λ_ _=>False)
  (T:Turn X'.prog X'.w X'.K tg (Itr lo n) fp it tn) (hg:PG X' tg (zBg 0)) (hi:PI X' tg2 iter2 wi2) (hs:∀ x,foldedSetIterable iter2 X'.env x=pure x) (hg2:PG X' tg2 (zBg 1)) (he:PE X' elt te) (I:Inv X' [] (o1::o2::rest) H0 s) (hf:∀ c∈fp,FpOk X' [] H0 c) (st:tn 0 s.heap) (hD:H0 D=some (exs X'.w D [])) (hb:∀ i,i<n->b i<=B) (hle:n*B<4000)
  (hwi:∀ (i:Nat) o H,i<n->(∀ a,a≠D->H a=H0 a)->wi2 (some (.int (lo+(i:Int)))::o::rest) H λJ H'=>J=Itr 0 (b i)/\H'=H)
  (hte:∀ (i j:Nat) H,i<n->j<b i->(∀ a,a≠D->H a=H0 a)->te (some (.int (lo+(i:Int)))::some (.int (0+(j:Int)))::rest) H λv H'=>v=.int (f i j)/\H'=H)
  (hR:∀ s' o1' o2' H' ns',Inv X' [] (o1'::o2'::rest) H' s'->(∀ a,a≠D->H' a=H0 a)->H' D=some (exs X'.w D ns')->(∀ k,k∈ns'↔∃ i j,i<n/\j<b i/\k=f i j)->ns'.length<=n*B->R (.ok .next) s') :
  codeAny (model X'.prog X'.w) X'.A (.compLoop (.SetComp elt [⟨tg,iter,[],0⟩,⟨tg2,iter2,[],0⟩] scope pos) 0 (.ref it) (.ref D) X'.env) R s:=by
 have stat:∀ {H':Hp},(∀ b∈fp,H' b=none)->∀ b∈fp,FpOk X' [] H' b:=λhn b hb=>⟨hn b hb,(hf b hb).2⟩
 refine codeAny_loop rfl (λm s'=>∃ i o1' o2' H' ns',m=n-i/\i<=n/\Inv X' [] (o1'::o2'::rest) H' s'/\tn i s'.heap/\(∀ c∈fp,H' c=none)/\(∀ a,a≠D->H' a=H0 a)/\H' D=some (exs X'.w D ns')/\(∀ k,k∈ns'↔∃ x y,x<i/\y<b x/\k=f x y)/\ns'.length<=i*B) ?_ (n-0) ⟨0,o1,o2,H0,[],rfl,Nat.zero_le _,I,st,λc hc=>(hf c hc).1,λ_ _=>rfl,hD,λk=>⟨λz=>(nomatch z),λ⟨_,_,q,_⟩=>absurd q (Nat.not_lt_zero _)⟩,Nat.zero_le _⟩
 rintro m s3 ⟨i,o1',o2',H3,ns',rfl,hin,I3,st3,fr3,eq3,hD3,mem3,len3⟩
 show wpAny _ X'.A ((compTurn (.SetComp elt [⟨tg,iter,[],0⟩,⟨tg2,iter2,[],0⟩] scope pos) 0 (.ref it) (.ref D) X'.env).onRaise (λx=>do noteFrame x X'.env;theTreesLotGoes x)) _ _ s3
 refine wpAny_noted ?_
 rw[zGj]
 have no:∀ {α:Type} {t:Sem α} {Q:α->Shared->Prop} {s':Shared} {E':Value->Shared->Prop},wpAny (model X'.prog X'.w) X'.A t Q X'.xe s'->wpAny (model X'.prog X'.w) X'.A t Q E' s':=λh=>wpAny_mono h (λ_ _ x=>x) λ_ _ x=>by rw[hxe] at x;exact x.elim
 refine wpAny_bind (wpAny_standAt ?_)
 by_cases hi':i<n
 ·have hbi:=hb i hi'
  have hlt:ns'.length+b i<4000:=by
   have h1:(i+1)*B<=n*B:=Nat.mul_le_mul_right _ hi'
   rw[Nat.succ_mul] at h1
   omega
  refine wpAny_bind (thn (T.item X' rfl rfl rfl hc i [] s3 _ H3 _ I3 (stat fr3) st3 hi') λr s4 ⟨u,hr,h4⟩=>?_)
  subst hr
  refine wpAny_bind (thn h4 λ_ s5 ⟨x,H5,I5,r5,y5,st5,fr5⟩=>?_)
  obtain⟨rfl,rfl⟩:=y5
  have I5':=I5.pinned (stat fr5) (T.obj _ _ st5)
  refine wpAny_bind (thn (no (hg _ s5 _ H5 _ u (λσ6 H6=>σ6=some (.int (lo+(i:Int)))::o2'::rest/\H6=H5) I5' r5 ⟨rfl,rfl⟩)) λ_ s6 ⟨σ6,H6,I6,e6,e6'⟩=>?_)
  subst e6 e6'
  refine wpAny_bind (thn (no (hi _ s6 _ H6 _ I6 (hwi i o2' H6 hi' eq3))) λv s7 h7=>?_)
  refine wpAny_bind (wpAny_standAt (wpAny_bind (wpAny_of_eq (hs v) (wpAny_bind (wpAny_holding (thn (no h7) λitv s8 h8=>?_))))))
  obtain⟨it2,fp2,tn2,J,H8,e,I8,T2,st2,f2,q2,q2'⟩:=h8
  subst e q2 q2'
  have lp:codeAny (model X'.prog X'.w) X'.A (.compLoop (.SetComp elt [⟨tg,iter,[],0⟩,⟨tg2,iter2,[],0⟩] scope pos) 1 (.ref it2) (.ref D) X'.env) (λr s'=>r=.ok .next/\∃ o2'' H' ns2,Inv X' ([]++zCi fp s5.heap) (some (.int (lo+(i:Int)))::o2''::rest) H' s'/\(∀ a,a≠D->H' a=H0 a)/\H' D=some (exs X'.w D ns2)/\(∀ k,k∈ns2↔k∈ns'\/∃ j,j<b i/\k=f i j)/\ns2.length<=ns'.length+b i) s8 :=
   zJ8 (f:=f i) hc hxe T2 hg2 he I8 f2 st2 hD3 hlt (λj H hj eH=>hte i j H hi' hj λa ha=>(eH a ha).trans (eq3 a ha)) λs' o2'' H' ns2 I' e1 e2 e3 e4=>⟨rfl,o2'',H',ns2,I',λa ha=>(e1 a ha).trans (eq3 a ha),e2,e3,e4⟩
  refine wpAny_bind (wpAny_runOwn (show codeAny (model X'.prog X'.w) X'.A _ _ s8 from codeAny_mono (zDn (.inr rfl) lp (T2.self _ _ _ _ _ st2 lp)) λr s9 hr=>?_))
  obtain⟨rfl,o2'',H9,ns2,I9,e1,e2,e3,e4⟩:=hr
  refine wpAny_pure ⟨rfl,n-(i+1),by omega,i+1,_,_,H9,ns2,rfl,hi',I9.unpinned,T.keep _ _ _ st5 λc hc o e=>(I9.pin (c,o) (List.mem_append_right _ (List.mem_append_right _ (zAx hc e)))).1,λc hc=>?_,e1,e2,λk=>?_,?_⟩
  ·obtain⟨o,e,d⟩:=T.obj _ _ st5 c hc
   exact(I9.pin (c,o) (List.mem_append_right _ (List.mem_append_right _ (zAx hc e)))).2.1
  ·rw[e3 k,mem3 k]
   constructor
   ·rintro(⟨x,y,h1,h2,h3⟩ | ⟨j,h1,h2⟩)
    ·exact⟨x,y,by omega,h2,h3⟩
    ·exact⟨i,j,by omega,h1,h2⟩
   ·rintro⟨x,y,h1,h2,h3⟩
    by_cases e:x=i
    ·subst e;exact .inr ⟨y,h2,h3⟩
    ·exact .inl ⟨x,y,by omega,h2,h3⟩
  ·rw[Nat.succ_mul];omega
 ·have ei:i=n:=by omega
  subst ei
  refine wpAny_bind (thn (T.done X' rfl rfl rfl hc i [] s3 _ H3 _ I3 (stat fr3) st3 (Nat.le_refl _)) λr s4 ⟨hr,I4⟩=>?_)
  subst hr
  exact wpAny_pure (hR _ _ _ _ ns' I4 eq3 hD3 mem3 len3)
variable {X:Cx}
abbrev frs0 (w:World):Obj:={ cls:=.type "set",dict:=none,data:=.set #[] 0 (.fresh 0 0 (!SW.byT w)) }
theorem zGl {N':List Str}{cs:List (Option Nat)}{pins:List (Addr×Obj)}{σ:St}{H:Hp}{s:Shared}{lo:Int}{n B:Nat}{b:Nat->Nat}{f:Nat->Nat->Int}{fp:List Addr}{it:Addr}{tn:Nat->Heap->Prop}{wi2:TI}{te:TE}{cl:List (Str×Addr)}{RR:Value->Addr->Result->Shared->Prop}
  (hc:X.calm=true) (hcap:zB7 N' (none::none::cs) X.N X.env.scope.names scope.names=true) (hkind:scope.kind=.function) (hC:Clo scope X.env cl)
  (hg:∀ C s0 H0 fp,PG (zAT X pins N' scope cl C s0 H0 fp) tg (zBg 0)) (hi:∀ C s0 H0 fp,PI (zAT X pins N' scope cl C s0 H0 fp) tg2 iter2 wi2) (hs:∀ env x,foldedSetIterable iter2 env x=pure x) (hg2:∀ C s0 H0 fp,PG (zAT X pins N' scope cl C s0 H0 fp) tg2 (zBg 1)) (he:∀ C s0 H0 fp,PE (zAT X pins N' scope cl C s0 H0 fp) elt te)
  (I:Inv X pins σ H s) (T:Turn X.prog X.w X.K tg (Itr lo n) fp it tn) (st:tn 0 s.heap) (hf:∀ b∈fp,FpOk X pins H b) (hb:∀ i,i<n->b i<=B) (hle:n*B<=1000)
  (hwi:∀ (i:Nat) o H2,i<n->Same H H2->wi2 (some (.int (lo+(i:Int)))::o::zBj cs σ) H2 λJ H'=>J=Itr 0 (b i)/\H'=H2)
  (hte:∀ (i j:Nat) H2,i<n->j<b i->Same H H2->te (some (.int (lo+(i:Int)))::some (.int (0+(j:Int)))::zBj cs σ) H2 λv H'=>v=.int (f i j)/\H'=H2)
  (hR:∀ (D C:Addr) (s':Shared) (H':Hp) ns,Inv X pins σ H' s'->Same H H'->H D=none->H' D=some (exs X.w D ns)->(∀ k,k∈ns↔∃ i j,i<n/\j<b i/\k=f i j)->ns.length<=1000->(∃ o m,s'.heap.get? C=some o/\(∀ v,o.data≠.cell v)/\(∀ h2:Heap,h2.get? C=some o->h2.Ns C m))->H' C=none->s.heap.objs.size<=C->RR (.ref D) C (.ok .next) s') :
  wpAny (model X.prog X.w) X.A (newSet (.type "set")) (λacc s₃=>wpAny (model X.prog X.w) X.A (newFunctionEnv scope X.env.globals cl [] X.env.qual none .none (some X.env)) (λcenv s₄ =>
   codeAny (model X.prog X.w) X.A (.compStart (.SetComp elt [⟨tg,iter,[],0⟩,⟨tg2,iter2,[],0⟩] scope pos) 0 (.ref it) acc { cenv with scope:=relabel scope X.env }) (RR acc cenv.locals) s₄) X.xe s₃) X.xe s:=by
 refine SW.new_is (wpAny_newFunctionEnv (zBY hcap).1 (by intro y hy;simp at hy) (λh₁ hns₁ hsb₁=>?_) hkind)
 have hz:(s.heap.push (frs0 X.w)).objs.size=s.heap.objs.size+1:=Heap.size_push ..
 have hns:h₁.Ns (s.heap.objs.size+1) λ_=>none:=by rw[<- hz];exact hns₁
 have hsb:Heap.SameBut (s.heap.objs.size+1) ((s.heap.push (frs0 X.w)).push { cls:=.type "dict",data:=.dict #[] }) h₁:=by rw[<- hz];exact hsb₁
 have hfo:∀ b∈fp,∃ o,s.heap.get? b=some o:=λb hb=>let ⟨o,e,_⟩:=T.obj 0 _ st b hb;⟨o,e⟩
 have hO:ObjOk X.prog X.w (upd H s.heap.objs.size (exs X.w s.heap.objs.size [])) (s.heap.push (frs0 X.w)) s.heap.objs.size (exs X.w s.heap.objs.size []):=zIe ⟨_,Heap.get?_push_size _ rfl,SW.fresh_is X.w⟩
 have I1:=zEL (tk:=s.toks+([]:List (Str×Value)).length) (O:=frs0 X.w) hO I hf hfo hcap hkind hC hns hsb
 have hn:H s.heap.objs.size=none:=I.hok.fresh (Nat.le_refl _)
 have up:∀ b o,s.heap.get? b=some o->h₁.get? b=some o:=λb o e =>
  hsb.extBut b o (Nat.ne_of_lt (Nat.lt_succ_of_lt (Heap.lt_size e))) (Heap.get?_push_of_some _ (Heap.get?_push_of_some _ e))
 have st1:tn 0 h₁:=T.keep _ _ _ st λb _ o e=>up b o e
 have f1:∀ b∈fp,FpOk (zAT X pins N' scope cl (s.heap.objs.size+1) { s with heap:=s.heap.push (frs0 X.w) } (upd H s.heap.objs.size (exs X.w s.heap.objs.size [])) fp) [] (upd H s.heap.objs.size (exs X.w s.heap.objs.size [])) b:=λb hb=>by
  obtain⟨a0,a1,a2,a3,a4,a5⟩:=hf b hb
  obtain⟨o,ho⟩:=hfo b hb
  have hlt:=Heap.lt_size ho
  refine⟨by rw[zAS (Nat.ne_of_lt hlt)];exact a0,Nat.ne_of_lt (Nat.lt_succ_of_lt hlt),λz=>?_,.inl hb,λx c e=>a4 x c (hC.sub x c e),λp hp=>a5 p (by simpa using hp)⟩
  rcases List.mem_cons.mp (I.stkSub b z) with z | z
  ·exact a1 z
  ·exact a2 z
 have sm:∀ H2:Hp,(∀ a,a≠s.heap.objs.size->H2 a=upd H s.heap.objs.size (exs X.w s.heap.objs.size []) a)->Same H H2:=λH2 e a o q=>by
  have ne:a≠s.heap.objs.size:=λz=>by rw[z,hn] at q;cases q
  rw[e a ne,zAS ne];exact q
 have loop:codeAny (model X.prog X.w) X.A (.compLoop (.SetComp elt [⟨tg,iter,[],0⟩,⟨tg2,iter2,[],0⟩] scope pos) 0 (.ref it) (.ref s.heap.objs.size) (compEnvC scope cl (s.heap.objs.size+1) X.env))
   (RR (.ref s.heap.objs.size) (s.heap.objs.size+1)) { s with heap:=h₁,toks:=s.toks+([]:List (Str×Value)).length }:=by
  refine zH5 (X':=zAT X pins N' scope cl (s.heap.objs.size+1) { s with heap:=s.heap.push (frs0 X.w) } (upd H s.heap.objs.size (exs X.w s.heap.objs.size [])) fp) (b:=b) (f:=f) hc rfl T (hg _ _ _ _) (hi _ _ _ _) (hs _) (hg2 _ _ _ _) (he _ _ _ _) (rest:=zBj cs σ) I1 f1 st1 zAP hb (by omega) (λi o H2 h1 h2=>hwi i o H2 h1 (sm H2 h2)) (λi j H2 h1 h2 h3=>hte i j H2 h1 h2 (sm H2 h3)) λs' o1' o2' H' ns J' e1 e2 e3 e4=>?_
  have B':=zFU I hf J'
  obtain⟨m,hnC,_⟩:=J'.loc
  obtain⟨o,es,ep,ho,hd,r⟩:=id hnC
  exact hR _ _ s' H' ns B' (sm H' e1) hn e2 e3 (by omega) ⟨o,m,ho,(λv z=>by rw[hd] at z;cases z),λh2 e2=>⟨o,es,ep,e2,hd,r⟩⟩ J'.free (Nat.le_succ _)
 have fin:=zDn (.inl rfl) loop (T.self _ _ _ _ _ st1 loop)
 have hz2:(s.heap.push (frs0 X.w)).objs.size=s.heap.objs.size+1:=hz
 show codeAny _ _ (.compStart _ 0 _ _ { (newEnv scope (s.heap.push (frs0 X.w)).objs.size X.env.globals cl X.env.qual none .none (some X.env) _) with scope:=relabel scope X.env }) (RR _ (s.heap.push (frs0 X.w)).objs.size) _
 rw[hz2]
 exact fin
def tSC (cs:List (Option Nat))(wi wi2:TI)(te:TE):TE:=λσ H Q=>wi σ H λJ H1=>∃ (lo:Int) (n B:Nat) (b:Nat->Nat) (f:Nat->Nat->Int),J=Itr lo n/\(∀ i,i<n->b i<=B)/\n*B<=1000 /\
 (∀ (i:Nat) o H2,i<n->Same H1 H2->wi2 (some (.int (lo+(i:Int)))::o::zBj cs σ) H2 λJ H'=>J=Itr 0 (b i)/\H'=H2) /\
 (∀ (i j:Nat) H2,i<n->j<b i->Same H1 H2->te (some (.int (lo+(i:Int)))::some (.int (0+(j:Int)))::zBj cs σ) H2 λv H'=>v=.int (f i j)/\H'=H2) /\
 ∀ (p:Addr) (H':Hp) (ms:List Int),ms.Nodup->(∀ k,k∈ms↔∃ i j,i<n/\j<b i/\k=f i j)->ms.Pairwise (·<=·)->ms.length<=1000->H1 p=none->Same H1 H'->H' p=some (.lst (ms.map V.int))->Q (.ref p) H'
theorem zM6 (N':List Str)(cs:List (Option Nat)){wi wi2:TI}{te:TE}{p pos2:Pos}(hc:X.calm=true)(hgl:Gl X "sorted")(hm:X.mg "sorted"=none)(hi:QI X tg iter wi)
  (hg:∀ pins cl C s0 H0 fp,QG (zAT X pins N' scope cl C s0 H0 fp) tg (zBg 0)) (hi2:∀ pins cl C s0 H0 fp,QI (zAT X pins N' scope cl C s0 H0 fp) tg2 iter2 wi2) (hg2:∀ pins cl C s0 H0 fp,QG (zAT X pins N' scope cl C s0 H0 fp) tg2 (zBg 1)) (he:∀ pins cl C s0 H0 fp,QE (zAT X pins N' scope cl C s0 H0 fp) elt te)
  (hcap:zB7 N' (none::none::cs) X.N X.env.scope.names scope.names=true:=by kernel_rfl) (hkind:scope.kind=.function:=by rfl) (hs:∀ x,foldedSetIterable iter X.env x=pure x:=by intro _;rfl) (hs2:∀ env x,foldedSetIterable iter2 env x=pure x:=by intro _ _;rfl) :
  QE X (.Call (.Name "sorted" p) [.SetComp elt [⟨tg,iter,[],0⟩,⟨tg2,iter2,[],0⟩] scope pos] [] pos2) (tSC cs wi wi2 te):=⟨by
 intro pins s σ H Q I h
 obtain⟨cl,hC⟩:=zF6 I hcap
 refine wpAny_Call_Name_kw (zBh I hgl hm zH4 ?_)
 refine PyProof.Rows.callWith_builtin1 ?_ rfl rfl
 show wpAny _ _ (spliced ((false,eval (.SetComp elt [⟨tg,iter,[],0⟩,⟨tg2,iter2,[],0⟩] scope pos) X.env)::[])) _ _ s
 refine Calls.spliced_cons ?_
 show wpAny _ _ (comprehension (.SetComp elt [⟨tg,iter,[],0⟩,⟨tg2,iter2,[],0⟩] scope pos) scope X.env _ (newSet (.type "set")) false (eval iter X.env)) _ _ s
 refine wpAny_comprehension_free (use:=none) rfl hs hC.eq hkind (zBY hcap).2.2 (thn (hi.h pins s σ H _ I h) λv s1 h1=>thn h1 λitv s2 h2=>?_)
 obtain⟨it,fp,tn,J,H2,e,I2,T,st2,f2,lo,n,B,b,f,eJ,hb,hle,hwi,hte,q⟩:=h2
 subst e eJ
 refine zGl (b:=b) (f:=f) hc hcap hkind hC (λa b c d=>(hg pins cl a b c d).h) (λa b c d=>(hi2 pins cl a b c d).h) hs2 (λa b c d=>(hg2 pins cl a b c d).h) (λa b c d=>(he pins cl a b c d).h) I2 T st2 f2 hb hle hwi hte λD C s' H' ns I' sm hDn hD hmem hlen hCo hCn hCs=>?_
 obtain⟨o,m,ho,hd,hns⟩:=hCo
 refine⟨m,hns _ ho,λh' hsb=>Calls.spliced_nil ?_⟩
 obtain⟨hp',g',d',t',os'⟩:=s'
 have hC0:X.s₀.heap.objs.size<=C:=Nat.le_trans I2.sz hCs
 have I3:=I'.turned (t':=t') (it:=C) (λb o hb e=>hsb.extBut b o hb e) hCn (λz=>by
  have:=I2.lt;rw[<- z] at this;exact absurd (Nat.lt_of_lt_of_le this hCs) (Nat.lt_irrefl _)) (.inr hC0) (λx c e z=>by
  obtain⟨v,q⟩:=I2.cell x c e
  exact absurd (Nat.lt_of_lt_of_le q.lt (by rw[z];exact hCs)) (Nat.lt_irrefl _)) (λp hp z=>by
  exact absurd (Nat.lt_of_lt_of_le (Heap.lt_size (I2.pin p hp).1) (by rw[z];exact hCs)) (Nat.lt_irrefl _))
 obtain⟨od,hod,hset⟩:=zIf I3 hD
 refine SW.sorted_is (I3.ok.hd hc) hod hset hlen λs2' l out c ms z1 z2 z3 z4 z5 z6 z7 z8=>?_
 have hfl:H' l=none:=I3.hok.fresh z4
 refine⟨.ref l,_,?_,rfl,q l (upd H' l (.lst (ms.map V.int))) ms (z7.nodup_iff.mpr hset.2.1) (λk=>z7.mem_iff.trans (hmem k)) z8 (by rw[z7.length_eq];exact hlen) (sm.free hfl) (sm.trans (zAd hfl)) zAP⟩
 refine(I3.laid (t':=t') (h':=s2'.heap) z1 z4 (show ObjOk X.prog X.w _ _ _ (.lst _) from ⟨?_,out,c,zBs z6,z5⟩)).drew rfl z2 z3
 rw[List.length_map,z7.length_eq,sizeLine_eq];omega⟩
end
end L2
namespace L2
open PySem PySem.Spec PyProof.Rows
def ItK (a : Addr) (o : Obj) : It :=
  ⟨fun i H => ∃ kvs kv, H a = some (.frz o (.dK kvs)) ∧ kvs[i]? = some kv,
   fun i H x H' => H' = H ∧ ∀ kvs, H a = some (.frz o (.dK kvs)) → ∃ kv, kvs[i]? = some kv ∧ x = kV kv.1,
   fun i H => ∃ kvs, H a = some (.frz o (.dK kvs)) ∧ kvs.length ≤ i⟩
def ItP (a : Addr) (o : Obj) : It :=
  ⟨fun i H => ∃ kvs kv, H a = some (.frz o (.dK kvs)) ∧ kvs[i]? = some kv,
   fun i H x H' => ∃ (T : Addr) (kv : Key × V), H T = none ∧ x = .ref T ∧ H' = upd H T (.tup [kV kv.1, kv.2]) ∧ ∀ kvs, H a = some (.frz o (.dK kvs)) → kvs[i]? = some kv,
   fun i H => ∃ kvs, H a = some (.frz o (.dK kvs)) ∧ kvs.length ≤ i⟩
theorem KV.get:∀ {kvs:List (Key×V)} {vs:List (Key×Value)},KV kvs vs->∀ {i:Nat} {kv:Key×V},kvs[i]?=some kv->∃ u,vs[i]?=some (kv.1,u)/\RelV kv.2 u
 | _,_,.nil,i,kv,h=>by simp at h
 | _,_,.cons r rs,0,kv,h=>by
  simp at h
  subst h
  obtain⟨e,r⟩:=r
  exact⟨_,by simp[e],r⟩
 | _,_,.cons r rs,i+1,kv,h=>by
  obtain⟨u,h1,h2⟩:=KV.get rs (i:=i) (by simpa using h)
  exact⟨u,by simpa using h1,h2⟩
theorem zIg {P:Program}{w:World}{k:Key}{u:Value}(h:(mixKind P w).is k u=true):RelV (kV k) u:=by
 rcases keyIs_shape (show keyIs k u=true from h) with ⟨i,t,rfl,rfl⟩ | ⟨x,t,rfl,rfl⟩
 ·exact⟨t,rfl⟩
 ·exact⟨t,rfl⟩
theorem zDo {P:Program}{w:World}:∀ {es:List DictEntry} {vs:List (Key×Value)},Pairs (mixKind P w) es vs->es.length=vs.length
 | _,_,.nil=>rfl
 | _,_,.cons _ _ r=>by simp[zDo r]
theorem zCt {X:Cx}{pins:List (Addr×Obj)}{σ:St}{H:Hp}{s:Shared}{a:Addr}{o:Obj}{kvs:List (Key×V)}(I:Inv X pins σ H s)(h:H a=some (.frz o (.dK kvs))){es:Array DictEntry}{ep:Nat}(hd:o.data=.dict es ep) :
  (a == sysModules)=false/\∃ vs,KV kvs vs/\Heap.DictAt (mixKind X.prog X.w) s.heap a vs ep/\es.size=vs.length:=by
 obtain⟨h1,h2,h3,vs,h4,o',es',ep',g1,g2,g3,g4,g5,g6⟩:=(show ObjOk X.prog X.w H s.heap a (.frz o (.dK kvs)) from I.hok a _ h)
 rw[h1] at g1
 cases g1
 rw[hd] at g3
 cases g3
 exact⟨h3,vs,h4,⟨o,es,h1,g2,hd,g4,g5,g6⟩,by have:=zDo g5;simpa using this⟩
theorem zGm {P:Program}{w:World}{K:W.Frag}{tg:Expr}(a it:Addr)(o:Obj){es:Array DictEntry}{ep:Nat}(hd:o.data=.dict es ep):Turn P w K tg (ItK a o) [it] it (λi h=>h.IsKeyIter it a i es.size ep) where
 mem:=by simp
 obj:=λi h st b hb=>by
  have e:b=it:=by simpa using hb
  subst e
  obtain⟨o,e,c,d⟩:=st
  exact⟨o,e,λv z=>by rw[d] at z;cases z⟩
 keep:=λi h h' st k=>by
  obtain⟨o,e,c,d⟩:=st
  exact⟨o,k it (by simp) _ e,c,d⟩
 item:=by
  intro X hP hw hK hc i pins s σ H E I hf st hg
  subst hP hw hK
  obtain⟨kvs,kv,hq,hx⟩:=hg
  obtain⟨_,vs,rv,p,hz⟩:=zCt I hq hd
  obtain⟨u,hu,ru⟩:=rv.get hx
  obtain⟨f0,f1,f2,f3,f4,f5⟩:=hf it (by simp)
  rw[hz] at st
  refine wpAny_pyNext_dict_item st p hu λkey h' hk st' sb=>?_
  have I1:Inv X pins σ H { s with heap:=h' }:=I.turned (t':=s.toks) (λb o hb e=>(sb.2 b hb).trans e) f0 f1 f3 f4 f5
  obtain⟨o',e,c,d⟩:=id st'
  exact⟨key,rfl,zHA (s:={ s with heap:=h' }) e c d (by decide) ⟨kV kv.1,H,I1,zIg hk,⟨rfl,λys hy=>by rw[hy] at hq;cases hq;exact⟨kv,hx,rfl⟩⟩,by rw[hz];exact st',λb hb=>(hf b hb).1⟩⟩
 done:=by
  intro X hP hw hK hc i pins s σ H E I hf st hg
  subst hP hw hK
  obtain⟨kvs,hq,hx⟩:=hg
  obtain⟨_,vs,rv,p,hz⟩:=zCt I hq hd
  obtain⟨f0,f1,f2,f3,f4,f5⟩:=hf it (by simp)
  have hl:=rv.length
  rw[hz] at st
  exact wpAny_pyNext_dict_end (I.ok.hd hc) st p (by simp;omega) λh' eb=>⟨rfl,I.turned (t':=s.toks) (λb o hb e=>eb b o hb e) f0 f1 f3 f4 f5⟩
 self:=λA i s Q E st h=>by
  exact wpAny_pyIter_keyiter st h
theorem zIh {X:Cx}{pins:List (Addr×Obj)}{σ:St}{H:Hp}{s:Shared}{a:Addr}{kvs:List (Key×V)}(I:Inv X pins σ H s)(h:Rd H a (.dK kvs))(mu:H a=some (.dK kvs)->Mut (H a)) :
  ∃ (o:Obj) (es:Array DictEntry) (ep:Nat) (H':Hp),o.data=.dict es ep/\Inv X pins σ H' s/\Kp [a] H H'/\H' a=some (.frz o (.dK kvs)):=by
 rcases h with h | ⟨o,h⟩
 ·obtain⟨h2,h3,vs,h4,o,es,ep,g1,g2,g3,g4⟩:=(show ObjOk X.prog X.w H s.heap a (.dK kvs) from I.hok a _ h)
  exact⟨o,es,ep,upd H a (.frz o (.dK kvs)),g3,I.write (h':=s.heap) (t':=s.toks) (o:=.frz o (.dK kvs)) (mu h) (.inl rfl) (λ_ _ _ q=>q) ⟨_,g1⟩ ⟨g1,h2,h3,vs,h4,o,es,ep,g1,g2,g3,g4⟩,zCl,zAP⟩
 ·obtain⟨h1,h2,h3,vs,h4,o',es,ep,g1,g2,g3,g4⟩:=(show ObjOk X.prog X.w H s.heap a (.frz o (.dK kvs)) from I.hok a _ h)
  rw[h1] at g1
  cases g1
  exact⟨o,es,ep,H,g3,I,Kp.refl _ _,h⟩
@[irreducible] def hItD (J:Addr->Obj->It)(a:Addr)(H:Hp)(R:It->Hp->Prop):Prop:=∃ kvs,Rd H a (.dK kvs)/\∀ o H',Kp [a] H H'->H' a=some (.frz o (.dK kvs))->R (J a o) H'
theorem zJ9 {J:Addr->Obj->It}{a:Addr}{H:Hp}{R:It->Hp->Prop}{kvs:List (Key×V)}(h:Rd H a (.dK kvs))(q:∀ o H',Kp [a] H H'->H' a=some (.frz o (.dK kvs))->R (J a o) H'):hItD J a H R:=by unfold hItD;exact⟨kvs,h,q⟩
def mItD (J:Addr->Obj->It)(te:TE):TI:=λσ H R=>te σ H λx H1=>match x with
 | .ref a=>hItD J a H1 R
 | _=>False
theorem zIi {H:Hp}{a:Addr}{kvs:List (Key×V)}(h:H a=some (.dK kvs)):Mut (H a):=by rw[h];trivial
section
variable {X:Cx}{tg:Expr}
theorem zGn {l:Expr}{tl:TE}(hl:QE X l tl):QI X tg l (mItD ItK tl):=⟨by
 intro pins s σ H R I h
 refine thn (hl.h pins s σ H _ I h) λv s1 ⟨x,H1,I1,r1,q1⟩=>?_
 cases x<;>first
  | exact(show False from q1).elim
  | skip
 rename_i a
 have q1:=(show hItD ItK a H1 R from q1)
 unfold hItD at q1
 obtain⟨kvs,hq,q⟩:=q1
 cases r1
 obtain⟨o,es,ep,H2,hd,I2,k2,e2⟩:=zIh I1 hq zIi
 obtain⟨hs,vs,rv,p,hz⟩:=zCt I2 e2 hd
 refine wpAny_pyIter_dict hs p ?_
 refine⟨s1.heap.objs.size,[s1.heap.objs.size],_,_,H2,rfl,I2.kept (t':=s1.toks) λb o e=>Heap.get?_push_of_some _ e,zGm a _ o hd,⟨_,Heap.get?_push_size _ rfl,rfl,by rw[hz];rfl⟩,λb hb=>?_,q o H2 k2 e2⟩
 have e:b=s1.heap.objs.size:=by simpa using hb
 subst e
 exact I2.fpOk (Nat.le_refl _) (I2.hok.fresh (Nat.le_refl _))⟩
end
theorem zH6:entryFor table "dict_itemiterator.__iter__"=some Builtin.«dict_keyiterator.__iter__» :=
 entryFor_alias (id':="dict_keyiterator.__iter__") (by kernel_rfl) (by decide +kernel) (by decide +kernel) (by kernel_rfl)
theorem zBU {prog:Program}{w:World}{A:Around}{E:Value->Shared->Prop}{s:Shared}{it d:Addr}{i n ep:Nat}{ok ov:Value}{Q:Value->Shared->Prop}(hit:IsItemIter s.heap it d i n ep ok ov)(h:Q (.ref it) s):wpAny (model prog w) A (pyIter (.ref it)) Q E s:=by
 have ty:s.TypeIs (.ref it) "dict_itemiterator":=⟨_,hit,rfl⟩
 exact wpAny_pyIter_slot ty PySem.F.slot_dict_itemiterator_iter (wpAny_call_entry PySem.F.slot_dict_itemiterator_iter ty zH6 (id (wpAny_pure ⟨_,rfl,"dict_itemiterator",.builtin "dict_itemiterator.__next__",ty,PySem.F.slot_dict_itemiterator_next.lookup,h⟩)) (PySem.F.args_dict_itemiterator_iter_1 _))
theorem zFV {P:Program}{w:World}{K:W.Frag}{elts:List Expr}{x1:Nat}{pos:Pos}(a it:Addr)(o:Obj){es:Array DictEntry}{ep:Nat}(hd:o.data=.dict es ep):Turn P w K (.Tuple elts x1 pos) (ItP a o) [it] it (λi h=>∃ ok ov,IsItemIter h it a i es.size ep ok ov) where
 mem:=by simp
 obj:=λi h st b hb=>by
  have e:b=it:=by simpa using hb
  subst e
  obtain⟨ok,ov,e⟩:=st
  exact⟨_,e,λv z=>nomatch z⟩
 keep:=λi h h' st k=>by
  obtain⟨ok,ov,e⟩:=st
  exact⟨ok,ov,k it (by simp) _ e⟩
 item:=by
  intro X hP hw hK hc i pins s σ H E I hf st hg
  subst hP hw hK
  obtain⟨kvs,kv,hq,hx⟩:=hg
  obtain⟨_,vs,rv,p,hz⟩:=zCt I hq hd
  obtain⟨u,hu,ru⟩:=rv.get hx
  obtain⟨f0,f1,f2,f3,f4,f5⟩:=hf it (by simp)
  obtain⟨ok,ov,st⟩:=st
  rw[hz] at st
  refine wpAny_pyNext_items_item st p hu λkey h₁ hk st' ht₁ hz₁ hk₁=>?_
  refine⟨_,rfl,wpAny_letOwnedTupleGo_items (s:={ s with heap:=h₁ }) st' λh₂ he₂ hs₂=>?_⟩
  replace hs₂:Heap.SameBut it h₁ h₂:=hs₂
  have hel:it<s.heap.objs.size:=Heap.lt_size st
  have hT:H s.heap.objs.size=none:=I.hok.fresh (Nat.le_refl _)
  have ht₂:h₂.get? s.heap.objs.size=some { cls:=.type "tuple",data:=.seq #[key,u] }:=(hs₂.2 _ (Nat.ne_of_gt hel)).trans ht₁
  have kk:∀ b o,b≠it->s.heap.get? b=some o->h₂.get? b=some o:=λb o h1 q=>(hs₂.2 b h1).trans (hk₁ b o h1 q)
  have nT:∀ b o,s.heap.get? b=some o->b≠s.heap.objs.size:=λb o q=>Nat.ne_of_lt (Heap.lt_size q)
  have nE:∀ b o,H b=some o->b≠it:=λb o q z=>by rw[z,f0] at q;cases q
  have I1:Inv X pins σ (upd H s.heap.objs.size (.tup [kV kv.1,kv.2])) { s with heap:=h₂ }:=by
   refine I.step (g':=s.gens) (d':=s.drawn) (t':=s.toks) (ch:=[it]) (λb hb=>?_) (λb o _ _ hc q _=>kk b o (by simpa using hc) q) (λb o _ _ hc q _=>⟨o.slots,kk b o (by simpa using hc) q⟩) (λb o _ q n=>by rw[zAS (nT b o q)];exact n)
    (λb o hc q=>⟨o,kk b o (by simpa using hc) q⟩) (λb ys q=>by rw[zAS (zAK q hT)];exact q) (λb o z q=>by rw[zAS (zAK q hT)];exact q) (λb ps q=>⟨#[],by rw[zAS (zAK q hT),q];simp⟩) (λm hm=>?_) (λb z q=>?_) I.bare
   ·have e':b=it:=by simpa using hb
    subst e'
    exact⟨f3,f1,f4,f5⟩
   ·obtain⟨o,es,ep,ho,r⟩:=hm
    exact⟨o,es,ep,kk _ o (Ne.symm f1) ho,r⟩
   ·by_cases hb:b=s.heap.objs.size
    ·subst hb
     rw[zAP] at q
     cases q
     exact⟨(by show 2<=sizeLine;rw[sizeLine_eq];decide),[key,u],.cons (zIg hk) (.cons ru .nil),_,ht₂,rfl,0,rfl⟩
    ·rw[zAS hb] at q
     refine(I.hok b z q).stay (λc v hc q'=>?_) (λc q'=>by rw[zAS (zAK q' hT)];exact q') λc ys q'=>by rw[zAS (zAK q' hT)];exact q'
     rcases hc with rfl | hc
     ·exact kk c v (nE c z q) q'
     ·exact kk c v (nE c _ hc) q'
  refine⟨.ref s.heap.objs.size,_,I1,rfl,⟨s.heap.objs.size,kv,hT,rfl,rfl,λys hy=>by rw[hy] at hq;cases hq;exact hx⟩,⟨key,u,by rw[hz];exact he₂⟩,λb hb=>?_⟩
  have e':b=it:=by simpa using hb
  subst e'
  rw[zAS (Nat.ne_of_lt hel)]
  exact f0
 done:=by
  intro X hP hw hK hc i pins s σ H E I hf st hg
  subst hP hw hK
  obtain⟨kvs,hq,hx⟩:=hg
  obtain⟨_,vs,rv,p,hz⟩:=zCt I hq hd
  obtain⟨f0,f1,f2,f3,f4,f5⟩:=hf it (by simp)
  obtain⟨ok,ov,st⟩:=st
  have hl:=rv.length
  rw[hz] at st
  exact wpAny_pyNext_items_end (I.ok.hd hc) st p (by simp;omega) λh' eb=>⟨rfl,I.turned (t':=s.toks) (λb o hb e=>eb b o hb e) f0 f1 f3 f4 f5⟩
 self:=λA i s Q E st h=>by
  obtain⟨ok,ov,st⟩:=st
  exact zBU st h
section
variable {X:Cx}{tg:Expr}
theorem zH7 {l:Expr}{tl:TE}{es:List Expr}{k:Nat}{p2 apos pos:Pos}(hl:QE X l tl)(hb:attributeBase l "items" X.env (eval l X.env)=eval l X.env:=by rfl)(ha:(apos.endLine == pos.line)=true:=by rfl) :
  QI X (.Tuple es k p2) (.Call (.Attribute l "items" apos) [] [] pos) (mItD ItP tl):=⟨by
 intro pins s σ H R I h
 refine wpAny_Call_method hb rfl ha PySem.F.plainAttrs_dict PySem.F.slot_dict_items PySem.F.type_dict_items (thn (hl.h pins s σ H _ I h) λv s1 ⟨x,H1,I1,r1,q1⟩=>?_)
 cases x<;>first
  | exact(show False from q1).elim
  | skip
 rename_i a
 have q1:=(show hItD ItP a H1 R from q1)
 unfold hItD at q1
 obtain⟨kvs,hq,q⟩:=q1
 cases r1
 obtain⟨o,es,ep,H2,hd,I2,k2,e2⟩:=zIh I1 hq zIi
 obtain⟨hs,vs,rv,p,hz⟩:=zCt I2 e2 hd
 obtain⟨t1,t2,_⟩:=zId I1 (.inl ⟨kvs,hq⟩)
 refine⟨t1,t2,?_⟩
 refine Calls.callWith_builtin rfl (PySem.evalArgs_none ?_)
 refine call_meetsIn PySem.F.slot_dict_items t1 PySem.F.entry_dict_items (PySem.F.args_dict_items_1 _) (meets_dict_items (mixKind X.prog X.w) a hs) ⟨⟨vs,p.dictOf⟩,?_⟩
 have I3:Inv X pins σ H2 { s1 with heap:=s1.heap.push { cls:=.type "dict_items",data:=.fields #[.ref a] } }:=I2.kept (t':=s1.toks) λb o e=>Heap.get?_push_of_some _ e
 have p3:Heap.DictAt (mixKind X.prog X.w) (s1.heap.push { cls:=.type "dict_items",data:=.fields #[.ref a] }) a vs ep:=p.push _
 refine wpAny_pyIter_items (s:={ s1 with heap:=s1.heap.push { cls:=.type "dict_items",data:=.fields #[.ref a] } }) ⟨_,Heap.get?_push_size _ rfl,rfl,rfl⟩ p3 ?_
 refine⟨_,[_],_,_,H2,rfl,I3.kept (t':=s1.toks) λb o e=>Heap.get?_push_of_some _ e,zFV a _ o hd,⟨.none,.none,by rw[hz];exact Heap.get?_push_size _ rfl⟩,λb hb=>?_,q o H2 k2 e2⟩
 have e:b=(s1.heap.push { cls:=.type "dict_items",data:=.fields #[.ref a] }).objs.size:=by simpa using hb
 subst e
 exact I3.fpOk (Nat.le_refl _) (I3.hok.fresh (Nat.le_refl _))⟩
end
theorem zKA {a:Addr}{o:Obj}{kvs:List (Key×V)}{g:TG}{tb:TS}{D:Ends}{σ:St}{H:Hp}(Pv:Nat->St->Hp->Prop)(h0:Pv 0 σ H)(hl:∀ i σ H,i<=kvs.length->Pv i σ H->H a=some (.frz o (.dK kvs)))
  (hs:∀ i kv σ H,kvs[i]?=some kv->Pv i σ H->g (kV kv.1) σ H λσ2 H2=>tb { D with nx:=Pv (i+1),ct:=Pv (i+1),bk:=D.nx } σ2 H2) (hd:∀ σ H,Pv kvs.length σ H->D.nx σ H) :
  ∃ W:Nat->Nat->St->Hp->Prop,(∃ m,W 0 m σ H)/\∀ i m σ H,W i m σ H ->
   ((ItK a o).stop i H/\D.nx σ H)\/((ItK a o).go i H/\∃ N:St->Hp->Prop,(∀ σ' H',N σ' H'->∃ m',m'<m/\W (i+1) m' σ' H')/\∀ x H',(ItK a o).yld i H x H'->g x σ H' λσ2 H2=>tb { D with nx:=N,ct:=N,bk:=D.nx } σ2 H2):=by
 refine⟨λi m σ H=>m=kvs.length-i/\i<=kvs.length/\Pv i σ H,⟨kvs.length,by simp,Nat.zero_le _,h0⟩,?_⟩
 rintro i m σ H ⟨rfl,hi,p⟩
 have q:=hl i σ H hi p
 by_cases hlt:i<kvs.length
 ·refine .inr ⟨⟨kvs,kvs[i],q,by simp[hlt]⟩,Pv (i+1),λσ' H' p'=>⟨kvs.length-(i+1),by omega,rfl,hlt,p'⟩,λx H' y=>?_⟩
  obtain⟨e,y⟩:=y
  subst e
  obtain⟨kv,y1,rfl⟩:=y kvs q
  exact hs i kv σ _ y1 p
 ·have e:i=kvs.length:=by omega
  subst e
  exact .inl ⟨⟨kvs,q,Nat.le_refl _⟩,hd σ H p⟩
theorem zKB {a:Addr}{o:Obj}{kvs:List (Key×V)}{g:TG}{tb:TS}{D:Ends}{σ:St}{H:Hp}(Pv:Nat->St->Hp->Prop)(h0:Pv 0 σ H)(hl:∀ i σ H,i<=kvs.length->Pv i σ H->H a=some (.frz o (.dK kvs)))
  (hs:∀ i kv σ H T H',kvs[i]?=some kv->Pv i σ H->H T=none->Same H H'->H' T=some (.tup [kV kv.1,kv.2])->g (.ref T) σ H' λσ2 H2=>tb { D with nx:=Pv (i+1),ct:=Pv (i+1),bk:=D.nx } σ2 H2) (hd:∀ σ H,Pv kvs.length σ H->D.nx σ H) :
  ∃ W:Nat->Nat->St->Hp->Prop,(∃ m,W 0 m σ H)/\∀ i m σ H,W i m σ H ->
   ((ItP a o).stop i H/\D.nx σ H)\/((ItP a o).go i H/\∃ N:St->Hp->Prop,(∀ σ' H',N σ' H'->∃ m',m'<m/\W (i+1) m' σ' H')/\∀ x H',(ItP a o).yld i H x H'->g x σ H' λσ2 H2=>tb { D with nx:=N,ct:=N,bk:=D.nx } σ2 H2):=by
 refine⟨λi m σ H=>m=kvs.length-i/\i<=kvs.length/\Pv i σ H,⟨kvs.length,by simp,Nat.zero_le _,h0⟩,?_⟩
 rintro i m σ H ⟨rfl,hi,p⟩
 have q:=hl i σ H hi p
 by_cases hlt:i<kvs.length
 ·refine .inr ⟨⟨kvs,kvs[i],q,by simp[hlt]⟩,Pv (i+1),λσ' H' p'=>⟨kvs.length-(i+1),by omega,rfl,hlt,p'⟩,λx H' y=>?_⟩
  obtain⟨T,kv,hT,rfl,rfl,y⟩:=y
  exact hs i kv σ _ T _ (y kvs q) p hT (zAd hT) zAP
 ·have e:i=kvs.length:=by omega
  subst e
  exact .inl ⟨⟨kvs,q,Nat.le_refl _⟩,hd σ H p⟩
section
variable {g:TG}{tt:TT}{te:TE}{σ0:St}{H1:Hp}{Q:Addr->Hp->Prop}
theorem zH8 {a:Addr}{o:Obj}(kvs:List (Key×V))(R:Nat->Addr->St->Hp->List V->Prop)
  (h0:∀ D H',H1 D=none->Same H1 H'->H' D=some (.lst [])->R 0 D σ0 H' [])
  (hl:∀ i D σ H zs,H1 D=none->R i D σ H zs->H a=some (.frz o (.dK kvs)))
  (hs:∀ i kv D σ H zs,kvs[i]?=some kv->H1 D=none->R i D σ H zs->H D=some (.lst zs)->zHf g tt te D zs (kV kv.1) σ H (R (i+1) D))
  (hd:∀ D σ H zs,H1 D=none->R kvs.length D σ H zs->H D=some (.lst zs)->Q D H):∀ D,H1 D=none->zBC (ItK a o) D (upG g) (upT tt) (upE te) σ0 (upd H1 D (.lst [])) λH2=>Q D H2:=by
 intro D hD
 refine⟨λi m σ H=>m=kvs.length-i/\i<=kvs.length/\∃ zs,H D=some (.lst zs)/\R i D σ H zs,⟨kvs.length,by simp,Nat.zero_le _,[],zAP,h0 D _ hD (zAd hD) zAP⟩,?_⟩
 rintro i m σ H ⟨rfl,hi,zs,e,r⟩
 have q1:=hl i D σ H zs hD r
 by_cases hlt:i<kvs.length
 ·refine .inr ⟨⟨kvs,kvs[i],q1,by simp[hlt]⟩,λσ H=>∃ zs,H D=some (.lst zs)/\R (i+1) D σ H zs,λσ' H' p'=>⟨kvs.length-(i+1),by omega,rfl,hlt,p'⟩,λx H' y=>?_⟩
  obtain⟨rfl,y⟩:=y
  obtain⟨kv,y1,rfl⟩:=y kvs q1
  exact zC3 (hs i kv D σ H' zs y1 hD r e) λσ H zs e r=>⟨zs,e,r⟩
 ·have ei:i=kvs.length:=by omega
  subst ei
  exact .inl ⟨⟨kvs,q1,Nat.le_refl _⟩,hd D σ H zs hD r e⟩
end
end L2
namespace SW
open PySem PySem.Spec PyProof.Rows
section
variable {prog:Program}{w:World}{A:Around}{E:Value->Shared->Prop}{s:Shared}
theorem zDp:∀ {vs:List Value} {ns:List Int},vs.length=ns.length->(∀ (j:Nat) (v:Value),vs[j]?=some v->∃ n t,ns[j]?=some n/\v=.int n t)->IntsAre vs ns
 | [],[],_,_=>.nil
 | v::vs,n::ns,hl,h=>by
  obtain⟨n',t,h1,rfl⟩:=h 0 v rfl
  cases h1
  refine .cons n t (zDp (by simpa using hl) λj v hj=>?_)
  obtain⟨n',t,h1,h2⟩:=h (j+1) v (by simpa using hj)
  exact⟨n',t,by simpa using h1,h2⟩
theorem zDq {d:Addr}{vs:List (L2.Key×Value)}{ep:Nat}{Q:List Value->Shared->Prop}(hh:A.handled=none)(hs:(d == sysModules)=false)(ha:Heap.DictAt (L2.mixKind prog w) s.heap d vs ep)(hz:vs.length<=sizeLine)
  (h:∀ (h':Heap) (tk:Nat) (acc:Array Value),(∀ b o,s.heap.get? b=some o->h'.get? b=some o)->s.heap.objs.size<=h'.objs.size->ItemsOf (λi v=>∃ k x,vs[i]?=some (k,x)/\(L2.mixKind prog w).is k v=true) acc vs.length->Q acc.toList { s with heap:=h',toks:=tk }) :
  wpAny (model prog w) A (collect (.ref d)) Q E s:=by
 have hDlt:=ha.lt_size
 unfold collect
 refine wpAny_bind (wpAny_runValue (codeAny_builtin F.entry_proto_collect ?_))
 rw[Around.under_plainId F.plain_proto_collect _]
 refine(?_:wpAny _ A.in1 (newList [] >>= λl=>again (.builtin "list.__iadd__" ⟨[l,.ref d],[]⟩)) _ _ s)
 refine wpAny_bind (wpAny_newObj_type (wpAny_pure ⟨plainId_quiet F.plain_list_iadd _,codeAny_builtin F.entry_list_iadd ?_⟩))
 rw[Around.under_plainId F.plain_list_iadd _]
 have hS:(s.heap.push { cls:=.type "list",data:=.seq ([]:List Value).toArray }).get? s.heap.objs.size=some { cls:=.type "list",data:=.seq ([]:List Value).toArray }:=Heap.get?_push_size _ rfl
 refine(?_:wpAny _ A.in1 (Builtin.List.listExtendWith (.ref s.heap.objs.size) (.ref d) (.ref s.heap.objs.size)) _ _ _)
 refine W.kdl_extend (R:=λr s'=>match r with
  | Except.ok (Flow.ret v)=>wpAny (model prog w) A (match v with | .ref a=>(do match (<- load a).data with | .seq xs _=>pure xs.toList | _=>unsupported "internal:collect") | _=>unsupported "internal:collect") Q E s'
  | Except.ok _=>False
  | Except.error e=>E e s') (s:={ s with heap:=s.heap.push { cls:=.type "list",data:=.seq ([]:List Value).toArray } }) (W.kdl_dict hs) hh (ha.push _) _ (Nat.ne_of_gt hDlt) (Nat.ne_of_gt hDlt) _ _ hS (λh' tk acc c' k1 k2 k3=>?_) hz
 refine wpAny_bind (wpAny_load k2 (wpAny_pure ?_))
 exact h h' tk acc (λb o q=>k1 b o (Nat.ne_of_lt (Heap.lt_size q)) (Heap.get?_push_of_some _ q)) (Nat.le_of_lt (Heap.lt_size k2)) k3
theorem sorted_dict {d:Addr}{vs:List (L2.Key×Value)}{ns:List Int}{Q:Value->Shared->Prop}(hh:A.handled=none)(hs:(d == sysModules)=false)(hd:Heap.DictOf (L2.mixKind prog w) s.heap d vs)(hk:vs.map (·.1)=ns.map Sum.inl)(hz:ns.length<=1000)
  (h:∀ (s1:Shared) (l:Addr) (out:List Value) (c:Nat) (ms:List Int),(∀ b o,s.heap.get? b=some o->s1.heap.get? b=some o)->s1.os=s.os->s1.gens=s.gens->s.heap.objs.size<=l->s1.heap.get? l=some (seqObj "list" out.toArray c)->IntsAre out ms->ms.Perm ns->ms.Pairwise (·<=·)->Q (.ref l) s1) :
  wpAny (model prog w) A (call (.builtin "sorted") [.ref d]) Q E s:=by
 obtain⟨ep,ha⟩:=hd.dictAt
 have hlen:vs.length=ns.length:=by simpa using congrArg List.length hk
 refine Calls.call_function_entry kind_sorted plain_sorted entry_sorted (args_sorted1 _) ?_
 unfold Builtin.«sorted»
 refine wpAny_bind (m:=checkCount "sorted" 1 1 _) (wpAny_pure ?_)
 refine wpAny_bind (zDq (by exact hh) hs ha (by rw[sizeLine_eq];omega) λh' tk acc k1 hdl hacc=>?_)
 have hi:IntsAre acc.toList ns:=zDp (by rw[Array.length_toList,hacc.1,hlen]) λj v hj=>by
  obtain⟨k,x,h1,h2⟩:=hacc.2 j v (by simpa using hj)
  rcases L2.keyIs_shape (show L2.keyIs k v=true from h2) with ⟨i,t,rfl,rfl⟩ | ⟨y,t,rfl,rfl⟩
  ·have:=congrArg (λl=>l[j]?) hk
   simp only[List.getElem?_map,h1,Option.map_some] at this
   cases hn:ns[j]? with
   | none=>rw[hn] at this;cases this
   | some n =>
    rw[hn] at this
    simp at this
    exact⟨n,t,rfl,by rw[this]⟩
  ·have:=congrArg (λl=>l[j]?) hk
   simp only[List.getElem?_map,h1,Option.map_some] at this
   cases hn:ns[j]? with
   | none=>rw[hn] at this;cases this
   | some n=>rw[hn] at this;simp at this
 have hl:acc.toList.length<=1000:=by rw[IntsAre.length hi];exact hz
 refine wpAny_bind (wpAny_newList ?_ (by rw[sizeLine_eq];omega))
 have hoL:(h'.push (seqObj "list" acc.toList.toArray 0)).get? h'.objs.size=some (seqObj "list" acc.toList.toArray 0):=Heap.get?_push_size _ rfl
 refine wpAny_bind (wpAny_holding (wpAny_call_entry (s:={ s with heap:=h'.push (seqObj "list" acc.toList.toArray 0),toks:=tk }) slot_list_sort ⟨_,hoL,rfl⟩ entry_list_sort (SB.sort_s hoL hi hl λout ns' a1 a2 a3=>⟨_,rfl,?_⟩) (args_list_sort _)))
 refine wpAny_pure ⟨_,rfl,?_⟩
 have g1:=Heap.get?_update_self (Obj.mapSeq λ_=>(#[]:Array Value)) hoL rfl
 have g2:=Heap.get?_push_of_some (seqObj "list" #[] 0) (Heap.get?_push_of_some (seqObj "tuple" acc.toList.toArray 0) g1)
 have g3:=Heap.get?_update_self (Obj.mapSeq λ_=>out) g2 rfl
 refine h _ h'.objs.size out.toList _ ns' (λb o q=>?_) rfl rfl hdl (g3.trans (by rw[Array.toArray_toList];rfl)) a1 a2 a3
 have hb:=k1 b o q
 have ne:h'.objs.size≠b:=Nat.ne_of_gt (Heap.lt_size hb)
 exact(Heap.get?_update_other _ _ ne).trans (Heap.get?_push_of_some _ (Heap.get?_push_of_some _ ((Heap.get?_update_other _ _ ne).trans (Heap.get?_push_of_some _ hb))))
end
end SW
namespace L2
open PySem PySem.Spec PyProof.Rows
section
variable {X:Cx}
@[irreducible] def zH9 (a:Addr)(H:Hp)(Q:VK):Prop:=∃ (kvs:List (Key×V)) (ns:List Int),Rd H a (.dK kvs)/\kvs.map (·.1)=ns.map Sum.inl/\ns.length<=1000/\∀ (l:Addr) (ms:List Int),H l=none->ms.Perm ns->ms.Pairwise (·<=·)->Q (.ref l) (upd H l (.lst (ms.map V.int)))
theorem zLk {a:Addr}{H:Hp}{Q:VK}{kvs:List (Key×V)}{ns:List Int}(h:H a=some (.dK kvs))(hk:kvs.map (·.1)=ns.map Sum.inl)(hn:ns.length<=1000)(q:∀ (p:Addr) (H':Hp) (ms:List Int),ms.Perm ns->ms.Pairwise (·<=·)->H p=none->Same H H'->H' p=some (.lst (ms.map V.int))->Q (.ref p) H'):zH9 a H Q:=by
 unfold zH9
 exact⟨kvs,ns,.inl h,hk,hn,λl ms hl h1 h2=>q l _ ms h1 h2 hl (zAd hl) zAP⟩
def zLl:List V->Hp->VK->Prop:=λxs H Q=>match xs with
 | [.ref a]=>zH9 a H Q
 | _=>False
theorem zIA (hc:X.calm=true):CallR X (.builtin "sorted") zLl:=by
 intro pins s σ H xs us Q I rv h
 unfold zLl at h
 split at h
 ·unfold zH9 at h
  obtain⟨kvs,ns,h1,h2,h3,q⟩:=h
  obtain⟨u,rfl,ru⟩:=zCO rv
  cases ru
  obtain⟨h4,h5,vs,h6,h7⟩:=zGX I.hok h1
  refine SW.sorted_dict (I.ok.hd hc) h5 h7 (by rw[<- h6.keys];exact h2) h3 λs2 l out c ms z1 z2 z3 z4 z5 z6 z7 z8=>?_
  refine⟨.ref l,_,?_,rfl,q l ms (I.hok.fresh z4) z7 z8⟩
  refine(I.laid (t':=s.toks) (h':=s2.heap) (λb o e=>z1 b o e) z4 (show ObjOk X.prog X.w _ _ _ (.lst _) from ⟨?_,out,c,zBs z6,z5⟩)).drew rfl z2 z3
  rw[List.length_map,z7.length_eq,sizeLine_eq];omega
 ·exact h.elim
@[irreducible] def zCa (i:Int)(a:Addr)(H:Hp)(Q:VK):Prop:=∃ kvs,Rd H a (.dK kvs)/\Q (.bl (!(valV kvs (.inl i)).isSome)) H
theorem zIB {i:Int}{a:Addr}{H:Hp}{Q:VK}{kvs:List (Key×V)}(h:Rd H a (.dK kvs))(q:Q (.bl (!(valV kvs (.inl i)).isSome)) H):zCa i a H Q:=by unfold zCa;exact⟨kvs,h,q⟩
def zKC:R2:=λx y H Q=>match x,y with
 | .int i,.ref a=>zCa i a H Q
 | _,_=>False
theorem zIC {k:Nat}(hr:Room k X.A):OpR X (compareOp .NotIn) zKC:=by
 intro pins s σ H x y v u Q I rx ry h
 cases x<;>cases y<;>first
  | exact(show False from h).elim
  | skip
 rename_i i a
 have h:=(show zCa _ _ H Q from h)
 unfold zCa at h
 obtain⟨kvs,h1,q⟩:=h
 obtain rfl:u=Value.ref a:=ry
 exact zJw (zJH hr) I (show DGet H a (kV (.inl i)) (valV kvs (.inl i)) from .inl ⟨kvs,.inl i,h1,rfl,rfl⟩) rx λs3 I3=>⟨.bl _,H,I3,rfl,q⟩
@[irreducible] def zDr (p:Addr)(i:Int)(v:V)(H:Hp)(Q:VK):Prop:=H p=some (.dK [])/\Q (.ref p) (upd H p (.dK [(.inl i,v)]))
theorem zGo {p:Addr}{i:Int}{v:V}{H:Hp}{Q:VK}(h:H p=some (.dK []))(q:∀ H',Kp [p] H H'->H' p=some (.dK [(.inl i,v)])->Q (.ref p) H'):zDr p i v H Q:=by unfold zDr;exact⟨h,q _ zCl zAP⟩
def zLm (tk tv:TE):TE:=λσ H Q=>∀ p H1,H p=none->Same H H1->H1 p=some (.dK [])->tk σ H1 λk H2=>tv σ H2 λv H3=>match k with
 | .int i=>zDr p i v H3 Q
 | _=>False
theorem zEj {k v:Expr}{tk tv:TE}{pos:Pos}(hk:QE X k tk)(hv:QE X v tv):QE X (.Dict [some k] [v] pos) (zLm tk tv):=⟨λpins s σ H Q I h=>by
 refine zJz (trs:=[(_,_)]) (zHu hk.wk hv.wk zJy) rfl rfl (by simp) (by simp) pins s σ H Q I ?_
 intro p hp
 refine⟨_,h p _ hp (zAd hp) zAP,λx H2 q2=>⟨_,q2,λy H3 q=>?_⟩⟩
 cases x<;>first
  | exact(show False from q).elim
  | skip
 rename_i i
 have q:=(show zDr p i y H3 Q from q)
 unfold zDr at q
 exact⟨q.1,[(.inl i,y)],rfl,by show 1<=15;decide,q.2⟩⟩
end
end L2
namespace M3
def pcs (ns:List Int):Nat->List Nat->List (List Int)
 | b,[]=>[ns.drop b]
 | b,c::cs=>(ns.drop b).take (c-b)::pcs ns c cs
theorem zCb (ns:List Int):∀ (cs:List Nat) (b:Nat),(pcs ns b cs).length=cs.length+1
 | [],_=>rfl
 | c::cs,b=>by simp only[pcs,List.length_cons,zCb ns cs c]
theorem zIj (ns:List Int):∀ (cs:List Nat) (b i x y:Nat),(b::cs)[i]?=some x->(cs++[ns.length])[i]?=some y->(pcs ns b cs)[i]?=some ((ns.drop x).take (y-x))
 | [],b,0,x,y,h1,h2=>by
  simp only[List.getElem?_cons_zero,List.nil_append,Option.some.injEq] at h1 h2
  subst h1;subst h2
  simp only[pcs,List.getElem?_cons_zero]
  rw[List.take_of_length_le (by rw[List.length_drop];exact Nat.le_refl _)]
 | [],b,i+1,x,y,h1,h2=>by simp at h1
 | c::cs,b,0,x,y,h1,h2=>by
  simp only[List.getElem?_cons_zero,List.cons_append,Option.some.injEq] at h1 h2
  subst h1;subst h2
  simp only[pcs,List.getElem?_cons_zero]
 | c::cs,b,i+1,x,y,h1,h2=>by
  rw[List.getElem?_cons_succ] at h1
  rw[List.cons_append,List.getElem?_cons_succ] at h2
  simp only[pcs,List.getElem?_cons_succ]
  exact zIj ns cs c i x y h1 h2
structure CutN (cs:List Nat)(n:Nat):Prop where
 up:cs.Pairwise (·<·)
 lo:∀ c∈cs,1<=c
 hi:∀ c∈cs,c<n
theorem zGp {cs:List Nat}{n:Nat}(h:CutN cs n):cs.length<=n:=by
 have h1:∀ (cs:List Nat) (b:Nat),cs.Pairwise (·<·)->(∀ c∈cs,b<=c/\c<n)->b<=n->cs.length+b<=n:=by
  intro cs
  induction cs with
  | nil=>intro b _ _ h;simpa using h
  | cons c cs ih =>
   intro b hp hb hbn
   obtain⟨p1,p2⟩:=List.pairwise_cons.mp hp
   have hc:=hb c List.mem_cons_self
   have:=ih (c+1) p2 (λd hd=>⟨p1 d hd,(hb d (List.mem_cons_of_mem _ hd)).2⟩) (by omega)
   rw[List.length_cons];omega
 have:=h1 cs 0 h.up (λc hc=>⟨Nat.zero_le _,h.hi c hc⟩) (Nat.zero_le _)
 omega
end M3
namespace M3
end M3
namespace M5
def lcut (b:Int):Nat->Int->List Int->List Int
 | _,_,[]=>[]
 | i,tot,n::r=>if tot+n > b then (i:Int)::lcut b (i+1) n r else lcut b (i+1) (tot+n) r
def ltot (b:Int):Int->List Int->Int
 | tot,[]=>tot
 | tot,n::r=>if tot+n > b then ltot b n r else ltot b (tot+n) r
theorem zBb (b:Int):∀ (xs ys:List Int) (i:Nat) (tot:Int),lcut b i tot (xs++ys)=lcut b i tot xs++lcut b (i+xs.length) (ltot b tot xs) ys
 | [],ys,i,tot=>by simp[lcut,ltot]
 | x::xs,ys,i,tot=>by
  by_cases h:tot+x > b
  ·simp only[List.cons_append,lcut,ltot,h,if_true,zBb b xs ys (i+1) x,List.length_cons]
   rw[show i+1+xs.length=i+(xs.length+1) by omega]
  ·simp only[List.cons_append,lcut,ltot,h,if_false,zBb b xs ys (i+1) (tot+x),List.length_cons]
   rw[show i+1+xs.length=i+(xs.length+1) by omega]
theorem zCL (b:Int):∀ (xs ys:List Int) (tot:Int),ltot b tot (xs++ys)=ltot b (ltot b tot xs) ys
 | [],ys,tot=>rfl
 | x::xs,ys,tot=>by
  by_cases h:tot+x > b
  ·simp only[List.cons_append,ltot,h,if_true];exact zCL b xs ys x
  ·simp only[List.cons_append,ltot,h,if_false];exact zCL b xs ys (tot+x)
theorem zEk:∀ (ys:List Int),(∀ y∈ys,0<=y)->0<=ys.sum
 | [],_=>by simp
 | y::ys,h=>by
  rw[List.sum_cons]
  have:=zEk ys λz hz=>h z (List.mem_cons_of_mem _ hz)
  have:=h y List.mem_cons_self
  omega
theorem zB2 {b:Int}:∀ (ys:List Int) (i:Nat) (tot:Int),(∀ y∈ys,0<=y)->tot+ys.sum<=b->lcut b i tot ys=[]
 | [],_,_,_,_=>rfl
 | y::ys,i,tot,h,hs=>by
  rw[List.sum_cons] at hs
  have hp:0<=ys.sum:=zEk ys λz hz=>h z (List.mem_cons_of_mem _ hz)
  have:¬ tot+y > b:=by omega
  simp only[lcut,this,if_false]
  exact zB2 ys (i+1) (tot+y) (λz hz=>h z (List.mem_cons_of_mem _ hz)) (by omega)
theorem zBc:∀ {ys:List Int},(∀ y∈ys,0<=y)->∀ y∈ys,y<=ys.sum
 | x::ys,h,y,hy=>by
  rw[List.sum_cons]
  have h0:=zEk ys λz hz=>h z (List.mem_cons_of_mem _ hz)
  have hx:=h x List.mem_cons_self
  rcases List.mem_cons.mp hy with rfl | hy
  ·omega
  ·have:=zBc (λz hz=>h z (List.mem_cons_of_mem _ hz)) y hy
   omega
theorem zEl {b:Int}:∀ (ys:List Int) (i:Nat) (tot:Int),(∀ y∈ys,0<=y)->ys.sum<=b->(lcut b i tot ys).length<=1
 | [],_,_,_,_=>Nat.zero_le _
 | y::ys,i,tot,h,hs=>by
  rw[List.sum_cons] at hs
  have hy:=h y List.mem_cons_self
  have ht:∀ z∈ys,0<=z:=λz hz=>h z (List.mem_cons_of_mem _ hz)
  by_cases hc:tot+y > b
  ·simp only[lcut,hc,if_true,zB2 ys (i+1) y ht hs,List.length_cons,List.length_nil];omega
  ·simp only[lcut,hc,if_false]
   exact zEl ys (i+1) (tot+y) ht (by omega)
def gp (b:Int)(ns:List Int):Nat:=if ns=[] then 0 else (lcut b 0 0 ns).length+1
theorem zLn {b:Int}{xs ys:List Int}(h:∀ y∈ys,0<=y)(hs:ys.sum<=b):gp b (xs++ys)<=gp b xs+1:=by
 unfold gp
 by_cases hx:xs=[]
 ·subst hx
  rw[List.nil_append,zB2 ys 0 0 h (by omega)]
  split<;>simp
 ·rw[if_neg hx,if_neg (by simp[hx]),zBb,List.length_append]
  have:=zEl ys (0+xs.length) (ltot b 0 xs) h hs
  omega
theorem zGq {b:Int}:∀ (m:Nat) (xs:List Int),xs.length=m->xs≠[]->(∀ x∈xs,0<=x)->(∀ x∈xs,x<=b)->∃ pre seg,xs=pre++seg/\seg≠[]/\seg.sum=ltot b 0 xs/\ltot b 0 xs<=b/\gp b xs=gp b pre+1
 | 0,xs,hl,hne,_,_=>absurd (List.length_eq_zero_iff.mp hl) hne
 | m+1,xs,hl,hne,h0,h1=>by
  obtain⟨ys,n,rfl⟩:∃ ys n,xs=ys++[n]:=⟨xs.dropLast,xs.getLast hne,(List.dropLast_concat_getLast hne).symm⟩
  have hn:n<=b:=h1 n (by simp)
  by_cases hy:ys=[]
  ·subst hy
   have e:¬ (0:Int)+n > b:=by omega
   refine⟨[],[n],rfl,by simp,?_,?_,?_⟩
   ·simp[ltot,e]
   ·simp only[List.nil_append,ltot,e,if_false];omega
   ·simp[gp,lcut,hn]
  ·rw[zCL]
   by_cases hc:ltot b 0 ys+n > b
   ·refine⟨ys,[n],rfl,by simp,?_,?_,?_⟩
    ·simp[ltot,hc]
    ·simp only[ltot,hc,if_true];exact hn
    ·unfold gp
     rw[if_neg hy,if_neg (by simp),zBb]
     simp[lcut,hc]
   ·obtain⟨pre,seg,e1,e2,e3,e4,e5⟩:=zGq m ys (by simp at hl;exact hl) hy (λx hx=>h0 x (by simp[hx])) (λx hx=>h1 x (by simp[hx]))
    refine⟨pre,seg++[n],by rw[e1];simp,by simp,?_,?_,?_⟩
    ·simp only[List.sum_append,List.sum_cons,List.sum_nil,ltot,hc,if_false];omega
    ·simp only[ltot,hc,if_false];omega
    ·rw[<- e5]
     unfold gp
     rw[if_neg hy,if_neg (by simp),zBb]
     simp[lcut,hc]
end M5
namespace M5
theorem zCM (b:Int):∀ (xs:List Int) (i:Nat) (tot:Int),(lcut b i tot xs).length<=xs.length
 | [],_,_=>Nat.le_refl _
 | x::xs,i,tot=>by
  simp only[lcut]
  split
  ·have:=zCM b xs (i+1) x;simp only[List.length_cons];omega
  ·have:=zCM b xs (i+1) (tot+x);simp only[List.length_cons];omega
end M5
namespace M5
def fv (b:Int)(ns:List Int)(i:Nat):Option Int:=if (ns.take i).all (λn=>decide (n<=b))=true then some ((gp b (ns.take i):Nat):Int) else none
def seg (ns:List Int)(k e:Nat):Int:=((ns.take e).drop k).sum
theorem zID (ns:List Int)(e:Nat):seg ns e e=0:=by
 unfold seg;rw[List.drop_eq_nil_of_le (by rw[List.length_take];omega)];rfl
theorem zEm {ns:List Int}{k e:Nat}(hk:k<e)(he:e<=ns.length):seg ns k e=ns.getD k 0+seg ns (k+1) e:=by
 unfold seg
 have h:k<(ns.take e).length:=by rw[List.length_take];omega
 rw[List.drop_eq_getElem_cons h,List.sum_cons,List.getElem_take,List.getD_eq_getElem?_getD,List.getElem?_eq_getElem (by omega)];rfl
structure Best (b:Int)(ns:List Int)(e lo:Nat)(best:Option Int):Prop where
 ub:∀ k,lo<=k->k<e->seg ns k e<=b->∀ v,fv b ns k=some v->∃ w,best=some w/\w<=v+1
 ex:∀ w,best=some w->∃ k,lo<=k/\k<e/\seg ns k e<=b/\fv b ns k=some (w-1)
end M5
namespace M5
theorem zFW {ns:List Int}{i e:Nat}(h:i<=e):ns.take e=ns.take i++(ns.take e).drop i:=by
 conv=>lhs;rw[<- List.take_append_drop i (ns.take e)]
 rw[List.take_take,Nat.min_eq_left h]
end M5
namespace M10
open M5
def zAh (b:Int):Nat->Int->List Int->List Int
 | _,_,[]=>[]
 | i,tot,n::r=>if tot+n>=b then ((i+1:Nat):Int)::zAh b (i+1) 0 r else zAh b (i+1) (tot+n) r
def stot (b:Int):Int->List Int->Int
 | tot,[]=>tot
 | tot,n::r=>if tot+n>=b then stot b 0 r else stot b (tot+n) r
theorem zCc (b:Int):∀ (xs ys:List Int) (i:Nat) (tot:Int),zAh b i tot (xs++ys)=zAh b i tot xs++zAh b (i+xs.length) (stot b tot xs) ys
 | [],ys,i,tot=>by simp[zAh,stot]
 | x::xs,ys,i,tot=>by
  by_cases h:tot+x>=b
  ·simp only[List.cons_append,zAh,stot,h,if_true,zCc b xs ys (i+1) 0,List.length_cons]
   rw[show i+1+xs.length=i+(xs.length+1) by omega]
  ·simp only[List.cons_append,zAh,stot,h,if_false,zCc b xs ys (i+1) (tot+x),List.length_cons]
   rw[show i+1+xs.length=i+(xs.length+1) by omega]
theorem zC9 (b:Int):∀ (xs ys:List Int) (tot:Int),stot b tot (xs++ys)=stot b (stot b tot xs) ys
 | [],ys,tot=>rfl
 | x::xs,ys,tot=>by
  by_cases h:tot+x>=b
  ·simp only[List.cons_append,stot,h,if_true];exact zC9 b xs ys 0
  ·simp only[List.cons_append,stot,h,if_false];exact zC9 b xs ys (tot+x)
theorem zB3 (b:Int):∀ (xs:List Int) (i:Nat) (tot:Int),(zAh b i tot xs).length<=xs.length
 | [],_,_=>Nat.le_refl _
 | x::xs,i,tot=>by
  simp only[zAh]
  split
  ·have:=zB3 b xs (i+1) 0;simp only[List.length_cons];omega
  ·have:=zB3 b xs (i+1) (tot+x);simp only[List.length_cons];omega
theorem zCd (b:Int):∀ (xs:List Int) (i:Nat) (tot:Int),
  (zAh b i tot xs=[]/\∀ j,1<=j->j<=xs.length->tot+(xs.take j).sum<b) \/
  ∃ j,1<=j/\j<=xs.length/\tot+(xs.take j).sum>=b/\(∀ k,1<=k->k<j->tot+(xs.take k).sum<b)/\zAh b i tot xs=((i+j:Nat):Int)::zAh b (i+j) 0 (xs.drop j)
 | [],i,tot=>.inl ⟨rfl,λj h1 h2=>by simp at h2;omega⟩
 | x::xs,i,tot=>by
  by_cases h:tot+x>=b
  ·refine .inr ⟨1,Nat.le_refl _,by simp,by simpa using h,λk h1 h2=>by omega,?_⟩
   simp only[zAh,h,if_true,List.drop_succ_cons,List.drop_zero]
  ·rcases zCd b xs (i+1) (tot+x) with ⟨e,hl⟩ | ⟨j,h1,h2,h3,h4,h5⟩
   ·refine .inl ⟨by simp only[zAh,h,if_false,e],λj h1 h2=>?_⟩
    cases j with
    | zero=>omega
    | succ j =>
     rw[List.take_succ_cons,List.sum_cons]
     cases j with
     | zero=>simp;omega
     | succ j=>have:=hl (j+1) (by omega) (by simp at h2;omega);omega
   ·refine .inr ⟨j+1,by omega,by simp;omega,?_,λk hk1 hk2=>?_,?_⟩
    ·rw[List.take_succ_cons,List.sum_cons];omega
    ·cases k with
     | zero=>omega
     | succ k =>
      rw[List.take_succ_cons,List.sum_cons]
      cases k with
      | zero=>simp;omega
      | succ k=>have:=h4 (k+1) (by omega) (by omega);omega
    ·simp only[zAh,h,if_false,h5,List.drop_succ_cons]
     rw[show i+1+j=i+(j+1) by omega]
def cnt (b:Int)(tot:Int)(xs:List Int):Nat:=(zAh b 0 tot xs).length
theorem zBp (b:Int):∀ (xs:List Int) (i j:Nat) (tot:Int),(zAh b i tot xs).length=(zAh b j tot xs).length
 | [],_,_,_=>rfl
 | x::xs,i,j,tot=>by
  simp only[zAh]
  split
  ·simp only[List.length_cons];rw[zBp b xs (i+1) (j+1) 0]
  ·exact zBp b xs (i+1) (j+1) (tot+x)
theorem zBd (b tot x:Int)(xs:List Int):cnt b tot (x::xs)=if tot+x>=b then cnt b 0 xs+1 else cnt b (tot+x) xs:=by
 unfold cnt
 simp only[zAh]
 split
 ·rw[List.length_cons,zBp b xs 1 0]
 ·rw[zBp b xs 1 0]
theorem zEn (b:Int):∀ (xs:List Int),(∀ x∈xs,0<=x)->(∀ t u,0<=t->t<=u->cnt b t xs<=cnt b u xs)/\∀ t,0<=t->cnt b t xs<=cnt b 0 xs+1
 | [],_=>⟨λt u _ _=>by simp[cnt,zAh],λt _=>by simp[cnt,zAh]⟩
 | x::xs,h=>by
  obtain⟨h1,h2⟩:=zEn b xs λy hy=>h y (List.mem_cons_of_mem _ hy)
  have hx:=h x List.mem_cons_self
  have h3:∀ t,0<=t->cnt b 0 xs<=cnt b t (x::xs):=λt ht=>by
   rw[zBd];split
   ·omega
   ·exact h1 0 (t+x) (Int.le_refl 0) (by omega)
  refine⟨λt u ht htu=>?_,λt ht=>?_⟩
  ·rw[zBd,zBd]
   by_cases c1:t+x>=b
   ·rw[if_pos c1,if_pos (by omega)];exact Nat.le_refl _
   ·rw[if_neg c1]
    split
    ·exact h2 (t+x) (by omega)
    ·exact h1 _ _ (by omega) (by omega)
  ·have h4:=h3 0 (Int.le_refl 0)
   rw[zBd b t]
   split
   ·omega
   ·have:=h2 (t+x) (by omega);omega
theorem zIE {b:Int}{x:Int}{xs:List Int}(h:∀ y∈x::xs,0<=y):cnt b 0 xs<=cnt b 0 (x::xs):=by
 obtain⟨h1,h2⟩:=zEn b xs λy hy=>h y (List.mem_cons_of_mem _ hy)
 have hx:=h x List.mem_cons_self
 rw[zBd];split
 ·omega
 ·exact h1 0 (0+x) (Int.le_refl 0) (by omega)
def G (b:Int)(ns:List Int)(k:Nat):Nat:=cnt b 0 (ns.drop k)
theorem zIk {b:Int}{ns:List Int}(h:∀ n∈ns,0<=n):∀ (d k:Nat),G b ns (k+d)<=G b ns k
 | 0,k=>Nat.le_refl _
 | d+1,k=>by
  refine Nat.le_trans ?_ (zIk h d k)
  unfold G
  by_cases hl:k+d<ns.length
  ·rw[List.drop_eq_getElem_cons hl]
   exact zIE λy hy=>h y (by
    have:y∈ns.drop (k+d):=by rw[List.drop_eq_getElem_cons hl];exact hy
    exact List.mem_of_mem_drop this)
  ·rw[List.drop_eq_nil_of_le (by omega)];simp[cnt,zAh]
theorem zDA {ns:List Int}{k j:Nat}:((ns.drop k).take j).sum=seg ns k (k+j):=by
 unfold seg;rw[List.drop_take];congr 2;omega
theorem zDB (b:Int)(ns:List Int)(k:Nat)(hk:k<=ns.length) :
  (G b ns k=0/\zAh b k 0 (ns.drop k)=[]/\∀ e,k<e->e<=ns.length->seg ns k e<b) \/
  ∃ e,k<e/\e<=ns.length/\seg ns k e>=b/\(∀ j,k<j->j<e->seg ns k j<b)/\G b ns k=G b ns e+1/\zAh b k 0 (ns.drop k)=(e:Int)::zAh b e 0 (ns.drop e):=by
 have hlen:(ns.drop k).length=ns.length-k:=List.length_drop
 rcases zCd b (ns.drop k) k 0 with ⟨e,h⟩ | ⟨j,h1,h2,h3,h4,h5⟩
 ·refine .inl ⟨?_,e,λe' h1 h2=>?_⟩
  ·unfold G cnt;rw[zBp b _ 0 k,e];rfl
  ·have:=h (e'-k) (by omega) (by omega)
   rw[zDA,show k+(e'-k)=e' by omega] at this;omega
 ·rw[zDA] at h3
  refine .inr ⟨k+j,by omega,by omega,by omega,λi h6 h7=>?_,?_,?_⟩
  ·have:=h4 (i-k) (by omega) (by omega)
   rw[zDA,show k+(i-k)=i by omega] at this;omega
  ·unfold G cnt;rw[zBp b _ 0 k,h5,List.length_cons,List.drop_drop,zBp b _ (k+j) 0]
  ·rw[h5,List.drop_drop]
def M (b:Int)(ns:List Int)(k:Nat):Option Int:=if k=ns.length then some 0 else if G b ns k=0 then none else some ((G b ns k:Nat):Int)
structure Top (b:Int)(ns:List Int)(k hi:Nat)(best:Option Int):Prop where
 ub:∀ e,k<e->e<=hi->seg ns k e>=b->∀ v,M b ns e=some v->∃ w,best=some w/\v+1<=w
 ex:∀ w,best=some w->∃ e,k<e/\e<=hi/\seg ns k e>=b/\M b ns e=some (w-1)
end M10
namespace M11
open M5 M10
def pick (w:Nat)(x y:Int):Int:=if w=0 then min x y else max x y
def both (w:Nat)(x y:Int):Int:=if w=0 then max x y else min x y
def Le (w:Nat)(x y:Int):Prop:=if w=0 then x<=y else y<=x
theorem Le.refl (w:Nat)(x:Int):Le w x x:=by unfold Le;split<;>omega
theorem Le.trans {w:Nat}{x y z:Int}(a:Le w x y)(b:Le w y z):Le w x z:=by unfold Le at *;split at a<;>simp_all<;>omega
theorem zKD (w:Nat)(x y:Int):pick w x y=x\/pick w x y=y:=by unfold pick;split<;>omega
theorem zLo (w:Nat)(x y:Int):Le w (pick w x y) x:=by unfold pick Le;split<;>omega
theorem zLp (w:Nat)(x y:Int):Le w (pick w x y) y:=by unfold pick Le;split<;>omega
structure IsBest (w:Nat)(l:List Int)(v:Int):Prop where
 mem:v∈l
 le:∀ a∈l,Le w v a
def zKE (w:Nat):List Int->Option Int
 | []=>none
 | a::l=>some (l.foldl (pick w) a)
theorem zDs (w:Nat):∀ (l:List Int) (a:Int),IsBest w (a::l) (l.foldl (pick w) a)
 | [],a=>⟨by simp,λx hx=>by simp at hx;subst hx;exact Le.refl w _⟩
 | b::l,a=>by
  have ih:=zDs w l (pick w a b)
  rw[List.foldl_cons]
  refine⟨?_,λx hx=>?_⟩
  ·rcases List.mem_cons.mp ih.mem with h | h
   ·rw[h];rcases zKD w a b with e | e<;>rw[e]<;>simp
   ·exact List.mem_cons_of_mem _ (List.mem_cons_of_mem _ h)
  ·have h0:=ih.le _ List.mem_cons_self
   rcases List.mem_cons.mp hx with rfl | hx
   ·exact h0.trans (zLo w _ _)
   ·rcases List.mem_cons.mp hx with rfl | hx
    ·exact h0.trans (zLp w _ _)
    ·exact ih.le x (List.mem_cons_of_mem _ hx)
theorem zIF {w:Nat}{l:List Int}{v:Int}(h:zKE w l=some v):IsBest w l v:=by
 cases l with
 | nil=>cases h
 | cons a l=>have:=zDs w l a;simp only[zKE,Option.some.injEq] at h;rw[<- h];exact this
def T (w:Nat)(ns:List Int):Nat->Nat->Option Int
 | 0,i=>if i<ns.length then some (seg ns i ns.length) else none
 | k+1,i=>zKE w ((List.range (ns.length-(k+1)-i)).map λj=>both w (seg ns i (i+1+j)) ((T w ns k (i+1+j)).getD 0))
theorem T_some {w:Nat}{ns:List Int}:∀ {k i:Nat},i+k<ns.length->∃ v,T w ns k i=some v
 | 0,i,h=>⟨_,by simp only[T];rw[if_pos (by omega)]⟩
 | k+1,i,h=>by
  simp only[T]
  obtain⟨n,hn⟩:∃ n,ns.length-(k+1)-i=n+1:=⟨ns.length-(k+1)-i-1,by omega⟩
  rw[hn,List.range_succ_eq_map,List.map_cons]
  exact⟨_,rfl⟩
theorem zLq {w:Nat}{ns:List Int}:∀ {k i:Nat},ns.length<=i+k->T w ns k i=none
 | 0,i,h=>by simp only[T];rw[if_neg (by omega)]
 | k+1,i,h=>by
  simp only[T]
  rw[show ns.length-(k+1)-i=0 by omega];rfl
theorem zEM {w:Nat}{ns:List Int}{k i:Nat}{t:Int}(h:T w ns (k+1) i=some t):(∃ e v,i<e/\e+k<ns.length/\T w ns k e=some v/\t=both w (seg ns i e) v)/\∀ e v,i<e->e+k<ns.length->T w ns k e=some v->Le w t (both w (seg ns i e) v):=by
 have hb:=zIF h
 refine⟨?_,λe v h1 h2 hv=>?_⟩
 ·obtain⟨j,hj,e⟩:=List.mem_map.mp hb.mem
  have hj':=List.mem_range.mp hj
  obtain⟨v,hv⟩:=T_some (w:=w) (ns:=ns) (k:=k) (i:=i+1+j) (by omega)
  refine⟨i+1+j,v,by omega,by omega,hv,?_⟩
  rw[<- e,hv];rfl
 ·refine hb.le _ (List.mem_map.mpr ⟨e-(i+1),List.mem_range.mpr (by omega),?_⟩)
  rw[show i+1+(e-(i+1))=e by omega,hv];rfl
theorem G_le {b:Int}{ns:List Int}{i:Nat}:G b ns i<=ns.length-i:=by
 have:=zB3 b (ns.drop i) 0 0
 rw[List.length_drop] at this;exact this
theorem zBF {ns:List Int}{i e n:Nat}(h1:i<=e)(h2:e<=n)(h3:n<=ns.length):seg ns i n=seg ns i e+seg ns e n:=by
 unfold seg
 have:(ns.take n).drop i=(ns.take e).drop i++(ns.take n).drop e:=by
  have h:ns.take n=ns.take e++(ns.take n).drop e:=zFW h2
  conv=>lhs;rw[h]
  rw[List.drop_append_of_le_length (by rw[List.length_take];omega)]
 rw[this,List.sum_append]
theorem zCu {ns:List Int}(hnn:∀ n∈ns,0<=n)(i e:Nat):0<=seg ns i e:=zEk _ λy hy=>hnn y (List.mem_of_mem_take (List.mem_of_mem_drop hy))
theorem zKF {ns:List Int}(hnn:∀ n∈ns,0<=n)(b:Int):∀ {k i:Nat} {t:Int},i+k<ns.length->T 1 ns k i=some t->(b<=t↔k+1<=G b ns i)
 | 0,i,t,h,ht=>by
  simp only[T] at ht
  rw[if_pos (by omega)] at ht
  have ht:=Option.some.inj ht
  rcases zDB b ns i (by omega) with ⟨g0,_,hall⟩ | ⟨e,h1,h2,h3,h4,h5,_⟩
  ·have:=hall ns.length (by omega) (Nat.le_refl _)
   constructor<;>intro z<;>omega
  ·have h6:=zBF (ns:=ns) (Nat.le_of_lt h1) h2 (Nat.le_refl _)
   have h7:=zCu hnn e ns.length
   constructor<;>intro z<;>omega
 | k+1,i,t,h,ht=>by
  obtain⟨⟨e,v,he1,he2,hv,htv⟩,hle⟩:=zEM ht
  constructor
  ·intro hb
   have hs:b<=seg ns i e/\b<=v:=by
    rw[htv] at hb;unfold both at hb;rw[if_neg (by decide)] at hb;omega
   have hG:=(zKF hnn b he2 hv).mp hs.2
   rcases zDB b ns i (by omega) with ⟨g0,_,hall⟩ | ⟨e0,h1,h2,h3,h4,h5,_⟩
   ·have:=hall e he1 (by omega);omega
   ·have hee:e0<=e:=by
     refine Classical.byContradiction λz=>?_
     have:=h4 e he1 (by omega);omega
    have hm:=zIk (b:=b) hnn (e-e0) e0
    rw[show e0+(e-e0)=e by omega] at hm
    omega
  ·intro hG
   rcases zDB b ns i (by omega) with ⟨g0,_,hall⟩ | ⟨e0,h1,h2,h3,h4,h5,_⟩
   ·omega
   ·have hl:=G_le (b:=b) (ns:=ns) (i:=e0)
    have he0:e0+k<ns.length:=by omega
    obtain⟨v0,hv0⟩:=T_some (w:=1) he0
    have h6:=(zKF hnn b he0 hv0).mpr (by omega)
    have h7:=hle e0 v0 h1 he0 hv0
    unfold Le both at h7
    rw[if_neg (by decide),if_neg (by decide)] at h7
    omega
theorem zLr {ns:List Int}(hnn:∀ n∈ns,0<=n){b:Int}(hb:0<=b):∀ (d i:Nat),ns.length-i=d->i<=ns.length->b*(G b ns i:Int)<=seg ns i ns.length:=by
 intro d
 induction d using Nat.strongRecOn with
 | ind d ih =>
  intro i hd hi
  rcases zDB b ns i hi with ⟨g0,_,_⟩ | ⟨e,h1,h2,h3,h4,h5,_⟩
  ·rw[g0];have:=zCu hnn i ns.length;simp;omega
  ·have:=ih (ns.length-e) (by omega) e rfl h2
   rw[h5,zBF (ns:=ns) (Nat.le_of_lt h1) h2 (Nat.le_refl _)]
   push_cast
   rw[Int.mul_add,Int.mul_one]
   omega
theorem cnt_zero:∀ (xs:List Int) (t:Int),(∀ x∈xs,0<=x)->0<=t->cnt 0 t xs=xs.length
 | [],t,_,_=>rfl
 | x::xs,t,h,ht=>by
  have hx:=h x List.mem_cons_self
  rw[zBd,if_pos (by omega),cnt_zero xs 0 (λy hy=>h y (List.mem_cons_of_mem _ hy)) (Int.le_refl 0),List.length_cons]
theorem zLs {ns:List Int}(hnn:∀ n∈ns,0<=n):G 0 ns 0=ns.length:=by
 unfold G;rw[List.drop_zero];exact cnt_zero ns 0 hnn (Int.le_refl 0)
end M11
namespace M7
open M5 M10 M11
theorem zKG {b:Int}:∀ (n:Nat) (ps:List (List Int)),ps.length=n->(∀ p∈ps,∀ x∈p,0<=x)->(∀ p∈ps,p.sum<=b)->gp b ps.flatten<=ps.length
 | 0,ps,h,_,_=>by
  have:ps=[]:=List.length_eq_zero_iff.mp h
  subst this;simp[gp]
 | n+1,ps,h,h0,h1=>by
  have hne:ps≠[]:=λz=>by rw[z] at h;cases h
  have e:ps=ps.dropLast++[ps.getLast hne]:=(List.dropLast_concat_getLast hne).symm
  have hl:ps.dropLast.length=n:=by rw[List.length_dropLast,h];rfl
  have hm:∀ p∈ps.dropLast,p∈ps:=λp hp=>by rw[e];exact List.mem_append_left _ hp
  have ih:=zKG n ps.dropLast hl (λp hp=>h0 p (hm p hp)) λp hp=>h1 p (hm p hp)
  have hlast:=List.getLast_mem hne
  have:=zLn (b:=b) (xs:=ps.dropLast.flatten) (h0 _ hlast) (h1 _ hlast)
  rw[e,List.flatten_append,List.flatten_singleton,List.length_append]
  simp only[List.length_cons,List.length_nil]
  omega
theorem zIl {b:Int}:∀ (n:Nat) (xs:List Int),xs.length=n->(∀ x∈xs,0<=x)->(∀ x∈xs,x<=b)->∃ ps:List (List Int),ps.flatten=xs/\(∀ p∈ps,p≠[]/\p.sum<=b)/\ps.length=gp b xs:=by
 intro n
 induction n using Nat.strongRecOn with
 | ind n ih =>
  intro xs hl h0 h1
  by_cases hx:xs=[]
  ·subst hx;exact⟨[],rfl,by simp,by simp[gp]⟩
  ·obtain⟨pre,sg,e1,e2,e3,e4,e5⟩:=zGq xs.length xs rfl hx h0 h1
   have hs:0<sg.length:=List.length_pos_iff.mpr e2
   have hpl:pre.length<n:=by rw[<- hl,e1,List.length_append];omega
   obtain⟨ps,p1,p2,p3⟩:=ih pre.length hpl pre rfl (λx hx=>h0 x (by rw[e1];exact List.mem_append_left _ hx)) λx hx=>h1 x (by rw[e1];exact List.mem_append_left _ hx)
   refine⟨ps++[sg],by rw[List.flatten_append,p1,List.flatten_singleton,<- e1],λp hp=>?_,by rw[List.length_append,p3,e5];rfl⟩
   rcases List.mem_append.mp hp with hp | hp
   ·exact p2 p hp
   ·have:p=sg:=by simpa using hp
    subst this;exact⟨e2,by omega⟩
theorem zLt {b:Int}{xs:List Int}(h:∀ x∈xs,x<=b):gp b xs<=xs.length:=by
 unfold gp
 split
 ·omega
 ·rename_i hne
  cases xs with
  | nil=>exact absurd rfl hne
  | cons x xs =>
   have hx:=h x List.mem_cons_self
   have c:¬ (0+x > b):=by omega
   have:=zCM b xs (0+1) (0+x)
   simp only[lcut,c,if_false,List.length_cons]
   omega
theorem zGr {b:Int}:∀ (xs:List Int) (i:Nat) (tot:Int),tot<=b->lcut b i tot xs=[]->tot+xs.sum<=b
 | [],_,tot,h,_=>by simpa using h
 | x::xs,i,tot,h,hl=>by
  simp only[lcut] at hl
  split at hl
  ·cases hl
  ·rename_i c
   have:=zGr xs (i+1) (tot+x) (by omega) hl
   rw[List.sum_cons];omega
theorem zEo {ns:List Int}{i e:Nat}(h:i<=e):ns.drop i=(ns.take e).drop i++ns.drop e:=by
 by_cases he:e<=ns.length
 ·conv=>lhs;rw[<- List.take_append_drop e ns]
  rw[List.drop_append_of_le_length (by rw[List.length_take];omega)]
 ·rw[List.take_of_length_le (by omega),List.drop_eq_nil_of_le (as:=ns) (i:=e) (by omega),List.append_nil]
theorem zKH {ns:List Int}{i:Nat}:seg ns i ns.length=(ns.drop i).sum:=by unfold seg;rw[List.take_length]
theorem zGs {ns:List Int}(hnn:∀ n∈ns,0<=n)(b:Int):∀ {k i:Nat} {t:Int},i+k<ns.length->T 0 ns k i=some t->(t<=b↔(∀ x∈ns.drop i,x<=b)/\gp b (ns.drop i)<=k+1)
 | 0,i,t,h,ht=>by
  simp only[T] at ht
  rw[if_pos (by omega)] at ht
  have ht:=Option.some.inj ht
  rw[zKH] at ht
  have hd:∀ x∈ns.drop i,0<=x:=λx hx=>hnn x (List.mem_of_mem_drop hx)
  have hne:ns.drop i≠[]:=λz=>by have:=congrArg List.length z;rw[List.length_drop,List.length_nil] at this;omega
  constructor
  ·intro hb
   refine⟨λx hx=>Int.le_trans (zBc hd x hx) (by omega),?_⟩
   unfold gp
   rw[if_neg hne,zB2 _ 0 0 hd (by omega)];simp
  ·rintro⟨ha,hg⟩
   unfold gp at hg
   rw[if_neg hne] at hg
   have hl:lcut b 0 0 (ns.drop i)=[]:=List.length_eq_zero_iff.mp (by omega)
   have h0:(0:Int)<=b:=by
    cases hx:ns.drop i with
    | nil=>exact absurd hx hne
    | cons x xs=>have h1:=ha x (by rw[hx];simp);have h2:=hd x (by rw[hx];simp);omega
   have:=zGr _ 0 0 h0 hl
   omega
 | k+1,i,t,h,ht=>by
  obtain⟨⟨e,v,he1,he2,hv,htv⟩,hle⟩:=zEM ht
  have hd:∀ x∈ns.drop i,0<=x:=λx hx=>hnn x (List.mem_of_mem_drop hx)
  constructor
  ·intro hb
   have hs:seg ns i e<=b/\v<=b:=by
    rw[htv] at hb;unfold both at hb;rw[if_pos rfl] at hb;omega
   obtain⟨ha,hg⟩:=(zGs hnn b he2 hv).mp hs.2
   have hsplit:=zEo (ns:=ns) (Nat.le_of_lt he1)
   have hsn:∀ x∈(ns.take e).drop i,0<=x:=λx hx=>hnn x (List.mem_of_mem_take (List.mem_of_mem_drop hx))
   have hall:∀ x∈ns.drop i,x<=b:=λx hx=>by
    rw[hsplit] at hx
    rcases List.mem_append.mp hx with hx | hx
    ·exact Int.le_trans (zBc hsn x hx) hs.1
    ·exact ha x hx
   refine⟨hall,?_⟩
   obtain⟨ps,p1,p2,p3⟩:=zIl (b:=b) _ (ns.drop e) rfl (λx hx=>hnn x (List.mem_of_mem_drop hx)) ha
   have:=zKG (b:=b) _ ((ns.take e).drop i::ps) rfl (λp hp x hx=>by
    rcases List.mem_cons.mp hp with rfl | hp
    ·exact hsn x hx
    ·refine hnn x (List.mem_of_mem_drop (i:=e) ?_)
     rw[<- p1];exact List.mem_flatten.mpr ⟨p,hp,hx⟩) λp hp=>by
    rcases List.mem_cons.mp hp with rfl | hp
    ·exact hs.1
    ·exact(p2 p hp).2
   rw[List.flatten_cons,p1,<- hsplit,List.length_cons,p3] at this
   omega
  ·rintro⟨ha,hg⟩
   obtain⟨ps,p1,p2,p3⟩:=zIl (b:=b) _ (ns.drop i) rfl hd ha
   cases ps with
   | nil =>
    have:=congrArg List.length p1
    rw[List.flatten_nil,List.length_nil,List.length_drop] at this;omega
   | cons p ps =>
    rw[List.flatten_cons] at p1
    rw[List.length_cons] at p3
    obtain⟨hpne,hpb⟩:=p2 p List.mem_cons_self
    have hp1:0<p.length:=List.length_pos_iff.mpr hpne
    have hlen:p.length+ps.flatten.length=ns.length-i:=by
     have:=congrArg List.length p1
     rw[List.length_append,List.length_drop] at this;exact this
    let e0:=min (i+p.length) (ns.length-k-1)
    have he0:e0<=i+p.length/\e0<=ns.length-k-1/\i<e0:=by simp only[e0];omega
    have hseg0:seg ns i (i+p.length)=p.sum:=by
     unfold seg
     rw[List.drop_take,show i+p.length-i=p.length by omega,<- p1,List.take_left' rfl]
    have hsegle:seg ns i e0<=b:=by
     have h1:=zBF (ns:=ns) (i:=i) (e:=e0) (n:=i+p.length) (by omega) he0.1 (by omega)
     have h2:=zCu hnn e0 (i+p.length)
     omega
    obtain⟨v0,hv0⟩:=T_some (w:=0) (ns:=ns) (k:=k) (i:=e0) (by omega)
    have hall0:∀ x∈ns.drop e0,x<=b:=λx hx=>ha x (by rw[zEo (ns:=ns) (Nat.le_of_lt he0.2.2)];exact List.mem_append_right _ hx)
    have hg0:gp b (ns.drop e0)<=k+1:=by
     by_cases c:i+p.length<=ns.length-k-1
     ·have ee:e0=i+p.length:=by simp only[e0];omega
      have ed:ns.drop e0=ps.flatten:=by
       rw[ee,<- List.drop_drop,<- p1,List.drop_left' rfl]
      rw[ed]
      have:=zKG (b:=b) _ ps rfl (λq hq x hx=>hd x (by rw[<- p1];exact List.mem_append_right _ (List.mem_flatten.mpr ⟨q,hq,hx⟩))) λq hq=>(p2 q (List.mem_cons_of_mem _ hq)).2
      omega
     ·have ee:e0=ns.length-k-1:=by simp only[e0];omega
      have hgl:=zLt hall0
      rw[List.length_drop] at hgl
      omega
    have h6:=(zGs hnn b (by omega) hv0).mpr ⟨hall0,hg0⟩
    have h7:=hle e0 v0 he0.2.2 (by omega) hv0
    unfold Le both at h7
    rw[if_pos rfl,if_pos rfl] at h7
    omega
structure Back (ns:List Int)(t:Int)(m l x:Nat):Prop where
 le:x+l<=ns.length
 ge:1<=l->m-l<=x
 at0:l=0->x=ns.length
 fit:∀ j,l=j+1->∃ v,T 0 ns j x=some v/\v<=t
 no:∀ j,l=j+1->∀ i,m-l<=i->i<x->∀ v,T 0 ns j i=some v->t<v
theorem Back.start (ns:List Int)(t:Int)(m:Nat):Back ns t m 0 ns.length:=⟨by omega,λh=>by omega,λ_=>rfl,λj h=>by omega,λj h=>by omega⟩
theorem zIG {ns:List Int}(hnn:∀ n∈ns,0<=n){i j e:Nat}(h1:i<=j)(h2:j<=e)(h3:e<=ns.length):seg ns j e<=seg ns i e:=by
 have:=zBF (ns:=ns) h1 h2 h3
 have:=zCu hnn i j
 omega
theorem zDt {ns:List Int}(hnn:∀ n∈ns,0<=n){i e f:Nat}(h1:i<=e)(h2:e<=f)(h3:f<=ns.length):seg ns i e<=seg ns i f:=by
 have:=zBF (ns:=ns) h1 h2 h3
 have:=zCu hnn e f
 omega
theorem Back.step {ns:List Int}(hnn:∀ n∈ns,0<=n){t:Int}{m l x y:Nat}(h:Back ns t m l x)(hl:l+1<m)(hm:m<=ns.length)(h1:m-l-1<=y)(h2:y<x)(h3:seg ns y x<=t)(h4:y=m-l-1\/(1<=y/\t<seg ns (y-1) x)):Back ns t m (l+1) y:=by
 have hx:=h.le
 refine⟨by omega,λ_=>by omega,λz=>by omega,λj hj=>?_,λj hj i hi1 hi2 v hv=>?_⟩
 ·have:j=l:=by omega
  subst this
  cases j with
  | zero =>
   have:=h.at0 rfl
   subst this
   exact⟨seg ns y ns.length,by simp only[T];rw[if_pos h2],h3⟩
  | succ j =>
   obtain⟨v,hv,hvt⟩:=h.fit j rfl
   obtain⟨u,hu⟩:=T_some (w:=0) (ns:=ns) (k:=j+1) (i:=y) (by omega)
   have:=(zEM hu).2 x v h2 (by omega) hv
   unfold Le both at this
   rw[if_pos rfl,if_pos rfl] at this
   exact⟨u,hu,by omega⟩
 ·have:j=l:=by omega
  subst this
  have hy:1<=y/\t<seg ns (y-1) x:=by
   rcases h4 with z | z
   ·omega
   ·exact z
  have hge:seg ns (y-1) x<=seg ns i x:=zIG hnn (by omega) (by omega) (by omega)
  cases j with
  | zero =>
   have:=h.at0 rfl
   subst this
   simp only[T] at hv
   rw[if_pos (by omega)] at hv
   have:=Option.some.inj hv
   omega
  | succ j =>
   refine Classical.byContradiction λhn=>?_
   obtain⟨⟨e,u,he1,he2,hu,hvu⟩,_⟩:=zEM hv
   unfold both at hvu
   rw[if_pos rfl] at hvu
   have hxe:x<=e:=by
    refine Classical.byContradiction λz=>?_
    have:=h.no j rfl e (by omega) (by omega) u hu
    omega
   have:=zDt hnn (i:=i) (e:=x) (f:=e) (by omega) hxe (by omega)
   omega
theorem Back.top {ns:List Int}(hnn:∀ n∈ns,0<=n){t:Int}{m x:Nat}(h:Back ns t m (m-1) x)(hm:2<=m)(hmn:m<=ns.length)(hT:T 0 ns (m-1) 0=some t):0<x/\seg ns 0 x<=t:=by
 obtain⟨j,hj⟩:∃ j,m-1=j+1:=⟨m-2,by omega⟩
 have hg:=h.ge (by omega)
 rw[hj] at hT
 obtain⟨⟨e,u,he1,he2,hu,hvu⟩,_⟩:=zEM hT
 unfold both at hvu
 rw[if_pos rfl] at hvu
 have hxe:x<=e:=by
  refine Classical.byContradiction λz=>?_
  have:=h.no j hj e (by omega) (by omega) u hu
  omega
 have:=zDt hnn (i:=0) (e:=x) (f:=e) (by omega) hxe (by omega)
 exact⟨by omega,by omega⟩
end M7
namespace M25
def S (ns:List Int)(i:Nat):Int:=(ns.take i).sum
theorem zEp (ns:List Int):S ns 0=0:=by simp[S]
theorem zGt {ns:List Int}{i:Nat}{x:Int}(h:ns[i]?=some x):S ns (i+1)=S ns i+x:=by
 unfold S
 rw[List.take_add_one,h,List.sum_append];simp
def pre (ns:List Int)(k:Nat):List Int:=(List.range k).map (S ns)
theorem zDC (ns:List Int)(k:Nat):pre ns (k+1)=pre ns k++[S ns k]:=by unfold pre;rw[List.range_succ,List.map_append];rfl
theorem zGu (ns:List Int)(k:Nat):(pre ns k).length=k:=by simp[pre]
theorem zIm {ns:List Int}{k i:Nat}(h:i<k):(pre ns k)[i]?=some (S ns i):=by
 unfold pre;rw[List.getElem?_map,List.getElem?_range h];rfl
theorem zEq {ns:List Int}{k i:Nat}(h:i<k):(pre ns k).getD i 0=S ns i:=by
 rw[List.getD_eq_getElem?_getD,zIm h];rfl
def Path (w:Nat->Nat->Int):Nat->Nat->Nat->Int->Prop
 | 0,b,e,c=>b=e/\c=0
 | k+1,b,e,c=>∃ m c',b<m/\Path w k m e c'/\c=w b m+c'
section
variable {w:Nat->Nat->Int}
def zLu (w:Nat->Nat->Int)(k b e:Nat)(v:Int):Prop:=Path w k b e v/\∀ c,Path w k b e c->v<=c
end
def sq (ns:List Int)(b e:Nat):Int:=(S ns e-S ns b) ^ 2
structure Some_ (ns l:List Int)(i t upto:Nat)(vs:List Int):Prop where
 a:∀ v∈vs,∃ m,i<=m/\m<upto/\0<=l.getD m 0/\v=l.getD m 0+sq ns m t
 b:∀ m,i<=m->m<upto->0<=l.getD m 0->l.getD m 0+sq ns m t∈vs
end M25
namespace M25
section
variable {w:Nat->Nat->Int}
def Hit (w:Nat->Nat->Int)(n k b e:Nat):Prop:=∃ v u,zLu w (k-1) e n v/\zLu w k b n u/\w b e+v=u
def Step (w:Nat->Nat->Int)(n k b e:Nat):Prop:=b<e/\Hit w n k b e/\∀ e',b<e'->e'<e->¬ Hit w n k b e'
inductive Chain (w:Nat->Nat->Int)(n m:Nat):Nat->List Nat->Nat->Prop where
 | nil:Chain w n m 0 [] 0
 | snoc {i b e:Nat} {cs:List Nat} (h:Chain w n m i cs b) (s:Step w n (m-i) b e):Chain w n m (i+1) (cs++[e]) e
end
end M25
namespace M25
section
variable {w:Nat->Nat->Int}
end
end M25
namespace M30
open M25
end M30
namespace M31
open M25 M30
variable {f:Nat->Int}{n:Nat}
section
variable {ns zs:List Int}
structure CostAt (zs:List Int)(price cost:Int)(m:Nat):Prop where
 m1:1<=m
 mn:m<=zs.length
 at_:cost=zs.getD (m-1) 0+price*(m:Int)
 le:∀ i,i<zs.length->cost<=zs.getD i 0+price*((i+1:Nat):Int)
 ne:∀ i,i+1<m->zs.getD i 0+price*((i+1:Nat):Int)≠cost
end
end M31
namespace M32
open M25
section
variable {w:Nat->Nat->Int}
def Ahead:List Nat->List Nat->Prop
 | x::xs,y::ys=>x<y\/x=y/\Ahead xs ys
 | _,_=>False
end
end M32
namespace M14
open M25
def rsum:Nat->(Nat->Int)->Int
 | 0,_=>0
 | n+1,f=>rsum n f+f n
theorem zCC {f g:Nat->Int}:∀ {n:Nat},(∀ i,i<n->f i=g i)->rsum n f=rsum n g
 | 0,_=>rfl
 | n+1,h=>by unfold rsum;(try dsimp only);rw[zCC (λi hi=>h i (by omega)),h n (by omega)]
theorem zBV {f:Nat->Int}:∀ {n:Nat},(∀ i,i<n->f i=0)->rsum n f=0
 | 0,_=>rfl
 | n+1,h=>by unfold rsum;(try dsimp only);rw[zBV (λi hi=>h i (by omega)),h n (by omega)];rfl
theorem zCv (f:Nat->Int)(e:Nat):∀ {n:Nat},e<n->rsum n (λi=>f i*(if i=e then 1 else 0))=f e
 | n+1,h=>by
  unfold rsum
  try dsimp only
  by_cases z:n=e
  ·subst z
   rw[if_pos rfl,zBV (λi hi=>by rw[if_neg (by omega)];simp)];omega
  ·rw[if_neg z,zCv f e (by omega)];omega
def P (A:Nat->Nat->Int)(N:Nat):Nat->Nat->Nat->Int
 | 0,b,e=>if b=e then 1 else 0
 | k+1,b,e=>rsum N λm=>A b m*P A N k m e
def ok (ns:List Int)(lo hi:Int)(b e:Nat):Int:=if b<e/\lo<=S ns e-S ns b/\S ns e-S ns b<=hi then 1 else 0
def cnt (ns:List Int)(lo hi:Int)(k b:Nat):Int:=P (ok ns lo hi) (ns.length+1) k b ns.length
theorem S_mono {ns:List Int}(h0:∀ n∈ns,0<=n):∀ {i j:Nat},i<=j->S ns i<=S ns j:=by
 intro i j hij
 induction hij with
 | refl=>exact Int.le_refl _
 | step _ ih =>
  rename_i j _
  cases e:ns[j]? with
  | some x=>rw[zGt e];have:=h0 x (List.mem_of_getElem? e);omega
  | none =>
   have hl:ns.length<=j:=List.getElem?_eq_none_iff.mp e
   have:S ns (j+1)=S ns j:=by unfold S;rw[List.take_of_length_le (by omega),List.take_of_length_le hl]
   rw[this];exact ih
structure Rng (ns:List Int)(lo hi:Int)(b f h:Nat):Prop where
 f1:b+1<=f
 fh:f<=h
 hn:h<=ns.length+1
 iff:∀ e,b<e->e<=ns.length->((f<=e/\e<h)↔(lo<=S ns e-S ns b/\S ns e-S ns b<=hi))
theorem zBL (g:Nat->Int):∀ (N f h:Nat),f<=h->h<=N->((((List.range N).map g).drop f).take (h-f)).sum=rsum N λm=>(if f<=m/\m<h then 1 else 0)*g m
 | 0,f,h,h1,h2=>by
  have:h=0:=by omega
  have:f=0:=by omega
  subst this;subst this;rfl
 | N+1,f,h,h1,h2=>by
  unfold rsum
  try dsimp only
  by_cases hh:h<=N
  ·have ih:=zBL g N f h h1 hh
   rw[<- ih,List.range_succ,List.map_append,List.drop_append_of_le_length (by simp;omega),List.take_append_of_le_length (by simp;omega),if_neg (by omega)]
   omega
  ·have eh:h=N+1:=by omega
   subst eh
   by_cases hf:f<=N
   ·have ih:=zBL g N f N hf (Nat.le_refl _)
    rw[if_pos (by omega),List.range_succ,List.map_append,List.drop_append_of_le_length (by simp;omega)]
    rw[List.take_of_length_le (by simp;omega),List.sum_append]
    rw[List.take_of_length_le (by simp)] at ih
    rw[ih]
    rw[zCC (f:=λm=>(if f<=m/\m<N+1 then 1 else 0)*g m) (g:=λm=>(if f<=m/\m<N then 1 else 0)*g m) (λi hi=>by
     by_cases z:f<=i
     ·rw[if_pos ⟨z,by omega⟩,if_pos ⟨z,hi⟩]
     ·rw[if_neg (λq=>z q.1),if_neg (λq=>z q.1)])]
    simp
   ·have ef:f=N+1:=by omega
    subst ef
    rw[if_neg (by omega),zBV (λi hi=>by rw[if_neg (by omega)];simp)]
    simp
theorem zIH {ns:List Int}{lo hi:Int}{k b f h:Nat}(hb:b<ns.length)(r:Rng ns lo hi b f h) :
  ((((List.range (ns.length+1)).map (cnt ns lo hi k)).drop f).take (h-f)).sum=cnt ns lo hi (k+1) b:=by
 rw[zBL _ _ _ _ r.fh r.hn]
 show _=rsum (ns.length+1) λm=>ok ns lo hi b m*P (ok ns lo hi) (ns.length+1) k m ns.length
 refine zCC λm hm=>?_
 show (if f<=m/\m<h then 1 else 0)*_=_
 congr 1
 unfold ok
 by_cases hbm:b<m
 ·have:=r.iff m hbm (by omega)
  by_cases z:f<=m/\m<h
  ·rw[if_pos z,if_pos ⟨hbm,this.mp z⟩]
  ·rw[if_neg z,if_neg (λq=>z (this.mpr q.2))]
 ·have:=r.f1
  rw[if_neg (by omega),if_neg (λq=>hbm q.1)]
theorem zEN {ns:List Int}{lo hi:Int}{k:Nat}:cnt ns lo hi (k+1) ns.length=0:=by
 show rsum (ns.length+1) (λm=>ok ns lo hi ns.length m*P (ok ns lo hi) (ns.length+1) k m ns.length)=0
 refine zBV λm hm=>?_
 unfold ok
 rw[if_neg (by omega)];simp
theorem cnt_zero {ns:List Int}{lo hi:Int}:(List.range (ns.length+1)).map (cnt ns lo hi 0)=List.replicate ns.length 0++[1]:=by
 rw[List.range_succ,List.map_append]
 congr 1
 ·apply List.ext_getElem (by simp)
  intro i h1 h2
  simp only[List.getElem_map,List.getElem_range,List.getElem_replicate]
  have:i<ns.length:=by simpa using h1
  show (if i=ns.length then (1:Int) else 0)=0
  rw[if_neg (by omega)]
 ·simp[cnt,P]
def row (g:Nat->Int)(N:Nat):List Int:=(List.range N).map g
theorem zBq (g:Nat->Int)(N:Nat):(row g N).length=N:=by simp[row]
theorem zCN {g:Nat->Int}{N i:Nat}(h:i<N):(row g N).getD i 0=g i:=by
 rw[List.getD_eq_getElem?_getD];unfold row;rw[List.getElem?_map,List.getElem?_range h];rfl
end M14
namespace M18
open M25 M14 M5 M11
theorem zDD {f:Nat->Int}:∀ {n:Nat},(∀ i,i<n->0<=f i)->0<=rsum n f
 | 0,_=>Int.le_refl _
 | n+1,h=>by
  have h1:=zDD (f:=f) (n:=n) λi hi=>h i (by omega)
  have h2:=h n (by omega)
  show 0<=rsum n f+f n
  omega
theorem zDE {f:Nat->Int}:∀ {n:Nat},(∀ i,i<n->0<=f i)->(0<rsum n f↔∃ i,i<n/\0<f i)
 | 0,_=>⟨λh=>absurd h (by show ¬ (0:Int)<0;omega),λ⟨i,h,_⟩=>by omega⟩
 | n+1,h=>by
  have h1:=zDD (f:=f) (n:=n) λi hi=>h i (by omega)
  have h2:=h n (by omega)
  have ih:=zDE (f:=f) (n:=n) λi hi=>h i (by omega)
  constructor
  ·intro hp
   have hp':0<rsum n f+f n:=hp
   by_cases z:0<f n
   ·exact⟨n,by omega,z⟩
   ·obtain⟨i,hi,hf⟩:=ih.mp (by omega)
    exact⟨i,by omega,hf⟩
  ·rintro⟨i,hi,hf⟩
   show 0<rsum n f+f n
   by_cases z:i=n
   ·subst z;omega
   ·have:=ih.mpr ⟨i,by omega,hf⟩;omega
section
variable {ns:List Int}{lo hi:Int}
theorem zq8k (b e:Nat):ok ns lo hi b e=0\/ok ns lo hi b e=1:=by unfold ok;split<;>simp
theorem zq17 {b e:Nat}:ok ns lo hi b e=1↔b<e/\lo<=S ns e-S ns b/\S ns e-S ns b<=hi:=by
 unfold ok;split
 ·simp_all
 ·simp_all
theorem P_nn (N:Nat):∀ (k b e:Nat),0<=P (ok ns lo hi) N k b e
 | 0,b,e=>by show 0<=(if b=e then (1:Int) else 0);split<;>decide
 | k+1,b,e=>by
  show 0<=rsum N λm=>ok ns lo hi b m*P (ok ns lo hi) N k m e
  refine zDD λm _=>?_
  have:=P_nn N k m e
  rcases zq8k (ns:=ns) (lo:=lo) (hi:=hi) b m with z | z<;>rw[z]<;>omega
theorem cnt_nn (k b:Nat):0<=M14.cnt ns lo hi k b:=P_nn _ k b _
theorem zDF (k b m:Nat):0<=ok ns lo hi b m*M14.cnt ns lo hi k m:=by
 have:=cnt_nn (ns:=ns) (lo:=lo) (hi:=hi) k m
 rcases zq8k (ns:=ns) (lo:=lo) (hi:=hi) b m with z | z<;>rw[z]<;>omega
def acc (ns:List Int)(lo hi:Int)(k i e:Nat):Int:=rsum e λj=>ok ns lo hi i j*M14.cnt ns lo hi k j
theorem zBM (k i e:Nat):acc ns lo hi k i (e+1)=acc ns lo hi k i e+ok ns lo hi i e*M14.cnt ns lo hi k e:=rfl
theorem zEO (k i:Nat):M14.cnt ns lo hi (k+1) i=acc ns lo hi k i (ns.length+1):=rfl
theorem zIn (k i e:Nat):0<=acc ns lo hi k i e:=zDD λm _=>zDF k i m
theorem zII (k i:Nat){e e':Nat}(h:e<=e'):acc ns lo hi k i e<=acc ns lo hi k i e':=by
 induction h with
 | refl=>exact Int.le_refl _
 | step _ ih=>rename_i m _;rw[zBM];have:=zDF (ns:=ns) (lo:=lo) (hi:=hi) k i m;omega
theorem zqfh {i f h x:Nat}(r:Rng ns lo hi i f h)(hx:x<=ns.length)(hn:¬ (f<=x/\x<h)):ok ns lo hi i x=0:=by
 rcases zq8k (ns:=ns) (lo:=lo) (hi:=hi) i x with z | z
 ·exact z
 ·obtain⟨h1,h2⟩:=zq17.mp z
  exact absurd ((r.iff x h1 hx).mpr h2) hn
theorem zqfq {i f h x:Nat}(r:Rng ns lo hi i f h)(hx:x<=ns.length)(h1:f<=x)(h2:x<h):ok ns lo hi i x=1:=by
 have:=r.f1
 exact zq17.mpr ⟨by omega,(r.iff x (by omega) hx).mp ⟨h1,h2⟩⟩
theorem zIJ {i f h:Nat}(r:Rng ns lo hi i f h)(k:Nat):acc ns lo hi k i f=0:=by
 have:=r.fh
 have:=r.hn
 exact zBV λj hj=>by rw[zqfh r (by omega) (by omega)];simp
theorem zIK {i f h:Nat}(r:Rng ns lo hi i f h)(k:Nat):∀ {x:Nat},h<=x->x<=ns.length+1->acc ns lo hi k i x=acc ns lo hi k i (ns.length+1):=by
 intro x h1 h2
 have:∀ d x,x+d=ns.length+1->h<=x->acc ns lo hi k i x=acc ns lo hi k i (ns.length+1):=by
  intro d
  induction d with
  | zero=>intro x e _;rw[show x=ns.length+1 by omega]
  | succ d ih =>
   intro x e hx
   rw[<- ih (x+1) (by omega) (by omega),zBM,zqfh r (by omega) (by omega)];simp
 exact this (ns.length+1-x) x (by omega) h1
theorem zLv {i f h x k:Nat}{p:Int}(r:Rng ns lo hi i f h)(h1:f<=x)(h2:x<=ns.length+1)(h3:acc ns lo hi (k+1) i x<=p)(h4:p<M14.cnt ns lo hi (k+2) i):x<ns.length/\ok ns lo hi i x=1:=by
 rw[zEO] at h4
 have hxh:x<h:=Classical.byContradiction λz=>by
  rw[zIK r (k+1) (by omega) h2] at h3;omega
 have:=r.hn
 have hx:x≠ns.length:=λz=>by
  have e:acc ns lo hi (k+1) i (x+1)=acc ns lo hi (k+1) i x:=by
   rw[zBM,z,zEN];simp
  rw[z] at e h3;omega
 exact⟨by omega,zqfq r (by omega) h1 hxh⟩
inductive At (ns:List Int)(lo hi:Int):Nat->Nat->Int->List Int->Prop where
 | nil {i:Nat} {p:Int}:At ns lo hi 0 i p []
 | step {l i e:Nat} {p:Int} {c:List Int} (h1:i<e) (h2:e<ns.length) (h3:acc ns lo hi (l+1) i e<=p) (h4:p<acc ns lo hi (l+1) i (e+1)) (h6:At ns lo hi l e (p-acc ns lo hi (l+1) i e) c):At ns lo hi (l+1) i p ((e:Int)::c)
theorem zLw {b e:Nat}(h:b<=e)(he:e<=ns.length):S ns e-S ns b=seg ns b e:=by
 have h0:∀ i,seg ns 0 i=S ns i:=λi=>by unfold seg S;rw[List.drop_zero]
 have h1:=zBF (ns:=ns) (i:=0) (e:=b) (n:=e) (by omega) h he
 rw[h0,h0] at h1;omega
theorem Le_both {w:Nat}{x y t:Int}:Le w (both w x y) t↔Le w x t/\Le w y t:=by
 unfold Le both;split<;>omega
def Asks (ns:List Int)(lo hi:Int)(w:Nat)(t:Int):Prop:=∀ b e,b<e->e<=ns.length->((lo<=S ns e-S ns b/\S ns e-S ns b<=hi)↔Le w (seg ns b e) t)
theorem zqd4 {w:Nat}{t:Int}(ha:Asks ns lo hi w t){b e:Nat}(he:e<=ns.length):ok ns lo hi b e=1↔b<e/\Le w (seg ns b e) t:=by
 rw[zq17]
 exact⟨λ⟨h1,h2⟩=>⟨h1,(ha b e h1 he).mp h2⟩,λ⟨h1,h2⟩=>⟨h1,(ha b e h1 he).mpr h2⟩⟩
theorem zCe {w:Nat}{t:Int}(ha:Asks ns lo hi w t):∀ (k b:Nat),0<M14.cnt ns lo hi (k+1) b↔∃ v,T w ns k b=some v/\Le w v t
 | 0,b=>by
  have e:M14.cnt ns lo hi 1 b=ok ns lo hi b ns.length:=by
   show rsum (ns.length+1) (λm=>ok ns lo hi b m*(if m=ns.length then 1 else 0))=_
   exact zCv (λm=>ok ns lo hi b m) ns.length (by omega)
  rw[e]
  have hk:=zqd4 ha (b:=b) (e:=ns.length) (Nat.le_refl _)
  simp only[T]
  constructor
  ·intro h
   have h1:ok ns lo hi b ns.length=1:=by
    rcases zq8k (ns:=ns) (lo:=lo) (hi:=hi) b ns.length with z | z
    ·omega
    ·exact z
   obtain⟨h2,h3⟩:=hk.mp h1
   exact⟨_,by rw[if_pos h2],h3⟩
  ·rintro⟨v,hv,hl⟩
   by_cases z:b<ns.length
   ·rw[if_pos z] at hv
    cases hv
    rw[hk.mpr ⟨z,hl⟩];decide
   ·rw[if_neg z] at hv;cases hv
 | k+1,b=>by
  rw[zEO]
  unfold acc
  rw[zDE (λm _=>zDF (k+1) b m)]
  constructor
  ·rintro⟨m,hm,hp⟩
   have h1:ok ns lo hi b m=1:=by
    rcases zq8k (ns:=ns) (lo:=lo) (hi:=hi) b m with z | z
    ·rw[z] at hp;omega
    ·exact z
   rw[h1,Int.one_mul] at hp
   obtain⟨v,hv,hl⟩:=(zCe ha k m).mp hp
   obtain⟨h2,h3⟩:=(zqd4 ha (by omega)).mp h1
   have hmk:m+k<ns.length:=Classical.byContradiction λz=>by rw[zLq (by omega)] at hv;cases hv
   obtain⟨u,hu⟩:=T_some (w:=w) (ns:=ns) (k:=k+1) (i:=b) (by omega)
   exact⟨u,hu,((zEM hu).2 m v h2 hmk hv).trans (Le_both.mpr ⟨h3,hl⟩)⟩
  ·rintro⟨u,hu,hl⟩
   obtain⟨⟨e,v,h1,h2,hv,rfl⟩,_⟩:=zEM hu
   obtain⟨h3,h4⟩:=Le_both.mp hl
   refine⟨e,by omega,?_⟩
   rw[(zqd4 ha (by omega)).mpr ⟨h1,h3⟩,Int.one_mul]
   exact(zCe ha k e).mpr ⟨v,hv,h4⟩
theorem zKI {t:Int}(hnn:∀ n∈ns,0<=n):Asks ns 0 t 0 t:=λb e h1 h2=>by
 rw[zLw (by omega) h2]
 have:=zCu hnn b e
 unfold Le
 rw[if_pos rfl];omega
theorem zGv {t:Int}(hnn:∀ n∈ns,0<=n):Asks ns t ns.sum 1 t:=λb e h1 h2=>by
 have h3:S ns e<=S ns ns.length:=S_mono hnn h2
 have h4:S ns 0<=S ns b:=S_mono hnn (Nat.zero_le _)
 rw[zEp] at h4
 have h5:S ns ns.length=ns.sum:=by unfold S;rw[List.take_length]
 have h6:S ns e-S ns b<=ns.sum:=by omega
 have h7:=zLw (ns:=ns) (by omega:b<=e) h2
 unfold Le
 rw[if_neg (by decide),h7]
 omega
end
end M18
namespace M49
open M3 M25 M14 M18 M32
variable {ns:List Int}{lo hi:Int}
def Ins (ns:List Int)(lo hi:Int):Nat->List Nat->Prop
 | b,[]=>ok ns lo hi b ns.length=1
 | b,d::ds=>ok ns lo hi b d=1/\Ins ns lo hi d ds
theorem zEr:∀ {ds:List Nat} {b:Nat},Ins ns lo hi b ds->b<ns.length
 | [],b,h=>(zq17.mp h).1
 | d::ds,b,h=>Nat.lt_trans (zq17.mp h.1).1 (zEr h.2)
theorem cnt0 (b:Nat):0<M14.cnt ns lo hi 0 b↔b=ns.length:=by
 unfold M14.cnt M14.P
 split
 ·rename_i h;simp[h]
 ·rename_i h;simp[h]
theorem zBe (k b:Nat):0<M14.cnt ns lo hi (k+1) b↔∃ e,e<ns.length+1/\ok ns lo hi b e=1/\0<M14.cnt ns lo hi k e:=by
 rw[zEO]
 unfold acc
 rw[zDE λi _=>zDF k b i]
 constructor
 ·rintro⟨e,h1,h2⟩
  refine⟨e,h1,?_⟩
  rcases zq8k (ns:=ns) (lo:=lo) (hi:=hi) b e with z | z
  ·rw[z] at h2;simp at h2
  ·rw[z,Int.one_mul] at h2
   exact⟨z,h2⟩
 ·rintro⟨e,h1,h2,h3⟩
  exact⟨e,h1,by rw[h2,Int.one_mul];exact h3⟩
theorem zB4:∀ (l b:Nat),0<M14.cnt ns lo hi (l+1) b↔∃ ds:List Nat,ds.length=l/\Ins ns lo hi b ds
 | 0,b=>by
  rw[zBe]
  constructor
  ·rintro⟨e,_,h2,h3⟩
   rw[cnt0] at h3
   subst h3
   exact⟨[],rfl,h2⟩
  ·rintro⟨ds,h1,h2⟩
   have:ds=[]:=List.length_eq_zero_iff.mp h1
   subst this
   exact⟨ns.length,by omega,h2,(cnt0 _).mpr rfl⟩
 | l+1,b=>by
  rw[zBe]
  constructor
  ·rintro⟨e,h1,h2,h3⟩
   obtain⟨ds,h4,h5⟩:=(zB4 l e).mp h3
   exact⟨e::ds,by simp[h4],h2,h5⟩
  ·rintro⟨ds,h1,h2⟩
   cases ds with
   | nil=>simp at h1
   | cons d ds=>exact⟨d,by have:=zEr h2.2;omega,h2.1,(zB4 l d).mpr ⟨ds,by simpa using h1,h2.2⟩⟩
theorem zKJ {l i:Nat}{p:Int}{c:List Int}(h:At ns lo hi l i p c)(hp:p=0)(hc:0<M14.cnt ns lo hi (l+1) i) :
  ∃ cs:List Nat,c=cs.map (λ(n:Nat)=>(n:Int))/\cs.length=l/\Ins ns lo hi i cs/\∀ ds:List Nat,ds.length=l->Ins ns lo hi i ds->¬ Ahead ds cs:=by
 induction h with
 | nil =>
  rename_i i p
  obtain⟨ds,h1,h2⟩:=(zB4 0 i).mp hc
  have:ds=[]:=List.length_eq_zero_iff.mp h1
  subst this
  refine⟨[],rfl,rfl,h2,λes h3 _ ha=>?_⟩
  have:es=[]:=List.length_eq_zero_iff.mp h3
  subst this
  exact ha
 | step h1 h2 h3 h4 h6 ih =>
  rename_i l i e p c
  subst hp
  have n0:=zIn (ns:=ns) (lo:=lo) (hi:=hi) (l+1) i e
  have e0:acc ns lo hi (l+1) i e=0:=by omega
  rw[zBM,e0,Int.zero_add] at h4
  have o1:ok ns lo hi i e=1:=by
   rcases zq8k (ns:=ns) (lo:=lo) (hi:=hi) i e with z | z
   ·rw[z] at h4;simp at h4
   ·exact z
  rw[o1,Int.one_mul] at h4
  obtain⟨cs,g1,g2,g3,g4⟩:=ih (by omega) h4
  refine⟨e::cs,by rw[g1];rfl,by simp[g2],⟨o1,g3⟩,λds h7 h8 ha=>?_⟩
  cases ds with
  | nil=>exact ha
  | cons d ds =>
   rcases ha with ha | ⟨rfl,ha⟩
   ·have m1:=zII (ns:=ns) (lo:=lo) (hi:=hi) (l+1) i (show d+1<=e by omega)
    rw[zBM,h8.1,Int.one_mul] at m1
    have m2:=zIn (ns:=ns) (lo:=lo) (hi:=hi) (l+1) i d
    have m3:=(zB4 (ns:=ns) (lo:=lo) (hi:=hi) l d).mpr ⟨ds,by simpa using h7,h8.2⟩
    omega
   ·exact g4 ds (by simpa using h7) h8.2 ha
theorem slice_S {b c:Nat}(h:b<=c):((ns.drop b).take (c-b)).sum=S ns c-S ns b:=by
 unfold S
 have:=congrArg List.sum (List.take_append_drop b (ns.take c))
 rw[List.sum_append,List.take_take,Nat.min_eq_left h,List.drop_take] at this
 omega
theorem zEs {b:Nat}(h:b<=ns.length):(ns.drop b).sum=S ns ns.length-S ns b:=by
 have:=slice_S (ns:=ns) h
 rwa [List.take_of_length_le (by simp)] at this
theorem zGw:∀ {cs:List Nat} {b:Nat},Ins ns lo hi b cs↔(b::cs).Pairwise (·<·)/\(∀ c∈b::cs,c<ns.length)/\∀ p∈pcs ns b cs,lo<=p.sum/\p.sum<=hi
 | [],b=>by
  simp only[Ins,zq17,pcs,List.mem_singleton,forall_eq,List.pairwise_cons,List.not_mem_nil,false_implies,implies_true,List.Pairwise.nil,and_self,true_and]
  constructor
  ·rintro⟨h1,h2,h3⟩
   rw[zEs (by omega)]
   exact⟨h1,h2,h3⟩
  ·rintro⟨h1,h2⟩
   rw[zEs (by omega)] at h2
   exact⟨h1,h2⟩
 | c::cs,b=>by
  simp only[Ins,zq17,pcs]
  rw[zGw (cs:=cs) (b:=c)]
  constructor
  ·rintro⟨⟨h1,h2,h3⟩,h4,h5,h6⟩
   refine⟨List.pairwise_cons.mpr ⟨λx hx=>?_,h4⟩,λx hx=>?_,λp hp=>?_⟩
   ·rcases List.mem_cons.mp hx with rfl | hx
    ·exact h1
    ·exact Nat.lt_trans h1 ((List.pairwise_cons.mp h4).1 x hx)
   ·rcases List.mem_cons.mp hx with rfl | hx
    ·exact Nat.lt_trans h1 (h5 c (by simp))
    ·exact h5 x hx
   ·rcases List.mem_cons.mp hp with rfl | hp
    ·rw[slice_S (by omega)];exact⟨h2,h3⟩
    ·exact h6 p hp
  ·rintro⟨h1,h2,h3⟩
   obtain⟨p1,p2⟩:=List.pairwise_cons.mp h1
   have hb:=p1 c (by simp)
   have:=h3 _ (List.mem_cons_self)
   rw[slice_S (by omega)] at this
   exact⟨⟨hb,this⟩,p2,λx hx=>h2 x (List.mem_cons_of_mem _ hx),λp hp=>h3 p (List.mem_cons_of_mem _ hp)⟩
def Within (ns:List Int)(lo hi:Int)(cs:List Nat):Prop:=∀ x∈(pcs ns 0 cs).map List.sum,lo<=x/\x<=hi
theorem zCD {cs:List Nat}(hn:1<=ns.length):Ins ns lo hi 0 cs↔CutN cs ns.length/\Within ns lo hi cs:=by
 rw[zGw]
 constructor
 ·rintro⟨h1,h2,h3⟩
  obtain⟨p1,p2⟩:=List.pairwise_cons.mp h1
  refine⟨⟨p2,λc hc=>p1 c hc,λc hc=>h2 c (List.mem_cons_of_mem _ hc)⟩,λx hx=>?_⟩
  obtain⟨p,hp,rfl⟩:=List.mem_map.mp hx
  exact h3 p hp
 ·rintro⟨h1,h2⟩
  refine⟨List.pairwise_cons.mpr ⟨λc hc=>h1.lo c hc,h1.up⟩,λc hc=>?_,λp hp=>h2 _ (List.mem_map.mpr ⟨p,hp,rfl⟩)⟩
  rcases List.mem_cons.mp hc with rfl | hc
  ·omega
  ·exact h1.hi c hc
theorem zBB {m:Nat}(hn:1<=ns.length)(m1:1<=m):0<M14.cnt ns lo hi m 0↔∃ cs,CutN cs ns.length/\cs.length+1=m/\Within ns lo hi cs:=by
 obtain⟨l,rfl⟩:∃ l,m=l+1:=⟨m-1,by omega⟩
 rw[zB4]
 constructor
 ·rintro⟨ds,h1,h2⟩
  obtain⟨h3,h4⟩:=(zCD hn).mp h2
  exact⟨ds,h3,by omega,h4⟩
 ·rintro⟨ds,h1,h2,h3⟩
  exact⟨ds,by omega,(zCD hn).mpr ⟨h1,h3⟩⟩
theorem zIo {m:Nat}{c:List Int}(hn:1<=ns.length)(m1:1<=m)(h:At ns lo hi (m-1) 0 0 c)(hc:0<M14.cnt ns lo hi m 0) :
  ∃ cs:List Nat,c=cs.map (λ(n:Nat)=>(n:Int))/\CutN cs ns.length/\cs.length+1=m/\Within ns lo hi cs/\∀ ds,CutN ds ns.length->ds.length+1=m->Within ns lo hi ds->¬ Ahead ds cs:=by
 obtain⟨l,rfl⟩:∃ l,m=l+1:=⟨m-1,by omega⟩
 obtain⟨cs,g1,g2,g3,g4⟩:=zKJ h rfl hc
 obtain⟨h3,h4⟩:=(zCD hn).mp g3
 exact⟨cs,g1,h3,by omega,h4,λds h5 h6 h7=>g4 ds (by omega) ((zCD hn).mpr ⟨h5,h7⟩)⟩
def Spr (ns:List Int)(cs:List Nat)(d:Int):Prop:=∃ a b,a∈(pcs ns 0 cs).map List.sum/\b∈(pcs ns 0 cs).map List.sum/\Within ns a b cs/\d=b-a
theorem zEt (ns:List Int)(cs:List Nat):∃ a b,a∈(pcs ns 0 cs).map List.sum/\b∈(pcs ns 0 cs).map List.sum/\Within ns a b cs:=by
 have key:∀ l:List Int,l≠[]->∃ a b,a∈l/\b∈l/\∀ x∈l,a<=x/\x<=b:=by
  intro l
  induction l with
  | nil=>intro h;exact absurd rfl h
  | cons x l ih =>
   intro _
   by_cases hl:l=[]
   ·subst hl
    exact⟨x,x,by simp,by simp,λy hy=>by simp at hy;omega⟩
   ·obtain⟨a,b,h1,h2,h3⟩:=ih hl
    refine⟨min x a,max x b,?_,?_,λy hy=>?_⟩
    ·rcases Int.le_total x a with z | z
     ·rw[Int.min_eq_left z];simp
     ·rw[Int.min_eq_right z];exact List.mem_cons_of_mem _ h1
    ·rcases Int.le_total x b with z | z
     ·rw[Int.max_eq_right z];exact List.mem_cons_of_mem _ h2
     ·rw[Int.max_eq_left z];simp
    ·rcases List.mem_cons.mp hy with rfl | hy
     ·omega
     ·have:=h3 y hy;omega
 obtain⟨a,b,h1,h2,h3⟩:=key ((pcs ns 0 cs).map List.sum) (λz=>by have:=congrArg List.length z;simp[zCb] at this)
 exact⟨a,b,h1,h2,h3⟩
theorem zLx {cs:List Nat}{d:Int}(h:Spr ns cs d)(hw:Within ns lo hi cs):d<=hi-lo:=by
 obtain⟨a,b,h1,h2,h3,rfl⟩:=h
 have:=hw a h1
 have:=hw b h2
 omega
theorem zIL {cs:List Nat}{d d':Int}(h:Spr ns cs d)(h':Spr ns cs d'):d=d':=by
 obtain⟨a,b,h1,h2,h3,rfl⟩:=h
 obtain⟨a',b',h1',h2',h3',rfl⟩:=h'
 have:=h3 a' h1'
 have:=h3 b' h2'
 have:=h3' a h1
 have:=h3' b h2
 omega
structure SpB (ns:List Int)(m:Nat)(d:Int)(cs:List Nat):Prop where
 cut:CutN cs ns.length
 len:cs.length+1=m
 has:Spr ns cs d
 least:∀ ds e,CutN ds ns.length->ds.length+1=m->Spr ns ds e->d<=e
 first:∀ ds,CutN ds ns.length->ds.length+1=m->Spr ns ds d->¬ Ahead ds cs
theorem zCf:∀ {a b:List Nat},a.length=b.length->Ahead a b\/a=b\/Ahead b a
 | [],[],_=>.inr (.inl rfl)
 | x::a,y::b,h=>by
  rcases Nat.lt_trichotomy x y with z | rfl | z
  ·exact .inl (.inl z)
  ·rcases zCf (a:=a) (b:=b) (by simpa using h) with z | rfl | z
   ·exact .inl (.inr ⟨rfl,z⟩)
   ·exact .inr (.inl rfl)
   ·exact .inr (.inr (.inr ⟨rfl,z⟩))
  ·exact .inr (.inr (.inl z))
theorem zEu:∀ {a b c:List Nat},Ahead a b->Ahead b c->Ahead a c
 | x::a,y::b,z::c,h,g=>by
  rcases h with h | ⟨rfl,h⟩
  ·rcases g with g | ⟨rfl,_⟩
   ·exact .inl (Nat.lt_trans h g)
   ·exact .inl h
  ·rcases g with g | ⟨rfl,g⟩
   ·exact .inl g
   ·exact .inr ⟨rfl,zEu h g⟩
theorem SpB.uniq {m:Nat}{d d':Int}{cs cs':List Nat}(h:SpB ns m d cs)(h':SpB ns m d' cs'):d=d'/\cs=cs':=by
 have e:d=d':=Int.le_antisymm (h.least cs' d' h'.cut h'.len h'.has) (h'.least cs d h.cut h.len h.has)
 subst e
 refine⟨rfl,?_⟩
 rcases zCf (a:=cs) (b:=cs') (by have:=h.len;have:=h'.len;omega) with z | z | z
 ·exact absurd z (h'.first cs h.cut h.len h.has)
 ·exact z
 ·exact absurd z (h.first cs' h'.cut h'.len h'.has)
structure Nb (ns:List Int)(m:Nat)(bs:List (Int×Int)):Prop where
 has:∀ x∈bs,0<M14.cnt ns x.1 x.2 m 0
 all:∀ cs a b,CutN cs ns.length->cs.length+1=m->a∈(pcs ns 0 cs).map List.sum->b∈(pcs ns 0 cs).map List.sum->Within ns a b cs->∃ h,(a,h)∈bs/\h<=b
theorem zGx {m:Nat}{bs:List (Int×Int)}{d:Int}{cs:List Nat}(hn:1<=ns.length)(m1:1<=m)(N:Nb ns m bs)(hd:∃ x∈bs,x.2-x.1=d)(hmin:∀ x∈bs,d<=x.2-x.1)
  (hc:∃ x∈bs,x.2-x.1=d/\CutN cs ns.length/\cs.length+1=m/\Within ns x.1 x.2 cs)
  (hfirst:∀ x∈bs,x.2-x.1=d->∃ es,CutN es ns.length/\es.length+1=m/\Within ns x.1 x.2 es/\(∀ ds,CutN ds ns.length->ds.length+1=m->Within ns x.1 x.2 ds->¬ Ahead ds es)/\¬ Ahead es cs):SpB ns m d cs:=by
 have least:∀ ds e,CutN ds ns.length->ds.length+1=m->Spr ns ds e->d<=e:=λds e h1 h2 ⟨a,b,h3,h4,h5,h6⟩=>by
  obtain⟨h,h7,h8⟩:=N.all ds a b h1 h2 h3 h4 h5
  have:=hmin _ h7
  simp only at this
  omega
 obtain⟨x,hx,e,c1,c2,c3⟩:=hc
 obtain⟨a,b,s1,s2,s3⟩:=zEt ns cs
 have hs:Spr ns cs (b-a):=⟨a,b,s1,s2,s3,rfl⟩
 have e2:b-a=d:=Int.le_antisymm (by have:=zLx hs c3;omega) (least cs _ c1 c2 hs)
 refine⟨c1,c2,e2▸hs,least,λds h1 h2 h3 ha=>?_⟩
 obtain⟨a',b',g1,g2,g3,g4⟩:=h3
 obtain⟨h,h7,h8⟩:=N.all ds a' b' h1 h2 g1 g2 g3
 have h9:=hmin _ h7
 simp only at h9
 have e3:h=b':=by omega
 subst e3
 obtain⟨es,k1,k2,k3,k4,k5⟩:=hfirst _ h7 (by simp only;omega)
 have k6:=k4 ds h1 h2 g3
 rcases zCf (a:=es) (b:=cs) (by omega) with z | z | z
 ·exact k5 z
 ·subst z;exact k6 ha
 ·exact k6 (zEu ha z)
theorem zBN {lo' hi':Int}{cs:List Nat}(h:Within ns lo hi cs)(h1:lo'<=lo)(h2:hi<=hi'):Within ns lo' hi' cs:=λx hx=>by have:=h x hx;omega
theorem zDG (h0:∀ n∈ns,0<=n){b c:Nat}(h:b<=c):S ns b<=S ns c:=M14.S_mono h0 h
theorem zGy:∀ {cs:List Nat} {b:Nat},(b::cs).Pairwise (·<·)->(∀ c∈b::cs,c<ns.length)->∀ x∈(pcs ns b cs).map List.sum,∃ i e,i<e/\e<=ns.length/\x=S ns e-S ns i
 | [],b,_,h,x,hx=>by
  have hb:=h b (by simp)
  simp only[pcs,List.map_cons,List.map_nil,List.mem_singleton] at hx
  rw[zEs (by omega)] at hx
  exact⟨b,ns.length,hb,Nat.le_refl _,hx⟩
 | c::cs,b,hp,h,x,hx=>by
  obtain⟨p1,p2⟩:=List.pairwise_cons.mp hp
  have hc:=h c (by simp)
  simp only[pcs,List.map_cons] at hx
  rcases List.mem_cons.mp hx with rfl | hx
  ·rw[slice_S (by have:=p1 c (by simp);omega)]
   exact⟨b,c,p1 c (by simp),by omega,rfl⟩
  ·exact zGy p2 (λy hy=>h y (List.mem_cons_of_mem _ hy)) x hx
theorem cut_str {cs:List Nat}(hn:1<=ns.length)(h:CutN cs ns.length){x:Int}(hx:x∈(pcs ns 0 cs).map List.sum):∃ i e,i<e/\e<=ns.length/\x=S ns e-S ns i :=
 zGy (List.pairwise_cons.mpr ⟨λc hc=>h.lo c hc,h.up⟩) (λc hc=>by
  rcases List.mem_cons.mp hc with rfl | hc
  ·omega
  ·exact h.hi c hc) x hx
theorem zIp (h0:∀ n∈ns,0<=n){x:Int}{i e:Nat}(h:i<e)(he:e<=ns.length)(hx:x=S ns e-S ns i):0<=x/\x<=ns.sum:=by
 have h1:=zDG h0 (Nat.le_of_lt h)
 have h2:=zDG h0 he
 have h3:=zDG h0 (Nat.zero_le i)
 rw[zEp] at h3
 have h4:S ns ns.length=ns.sum:=by unfold S;rw[List.take_length]
 omega
theorem zDH {m:Nat}{t g:Int}(h0:∀ n∈ns,0<=n)(hn:1<=ns.length)(m1:1<=m)(hT0:M11.T 0 ns (m-1) 0=some t)(hT1:M11.T 1 ns (m-1) 0=some g){cs:List Nat}(h1:CutN cs ns.length)(h2:cs.length+1=m){a b:Int}(hw:Within ns a b cs)
  (ha:a∈(pcs ns 0 cs).map List.sum) (hb:b∈(pcs ns 0 cs).map List.sum):a<=g/\t<=b:=by
 obtain⟨l,rfl⟩:∃ l,m=l+1:=⟨m-1,by omega⟩
 obtain⟨i,e,q1,q2,q3⟩:=cut_str hn h1 ha
 have qa:=zIp h0 q1 q2 q3
 obtain⟨i',e',q1',q2',q3'⟩:=cut_str hn h1 hb
 have qb:=zIp h0 q1' q2' q3'
 constructor
 ·obtain⟨v,hv,hl⟩:=(zCe (zGv (t:=a) h0) l 0).mp ((zBB hn m1).mpr ⟨cs,h1,h2,zBN hw (Int.le_refl _) qb.2⟩)
  have hT1':M11.T 1 ns l 0=some g:=hT1
  rw[hT1'] at hv
  cases hv
  simpa [M11.Le] using hl
 ·obtain⟨v,hv,hl⟩:=(zCe (zKI (t:=b) h0) l 0).mp ((zBB hn m1).mpr ⟨cs,h1,h2,zBN hw qa.1 (Int.le_refl _)⟩)
  have hT0':M11.T 0 ns l 0=some t:=hT0
  rw[hT0'] at hv
  cases hv
  simpa [M11.Le] using hl
theorem feas {m:Nat}{g low:Int}(h0:∀ n∈ns,0<=n)(hn:1<=ns.length)(m1:1<=m)(hT1:M11.T 1 ns (m-1) 0=some g)(hl:low<=g):∃ cs a b,CutN cs ns.length/\cs.length+1=m/\a∈(pcs ns 0 cs).map List.sum/\b∈(pcs ns 0 cs).map List.sum/\Within ns a b cs/\low<=a:=by
 obtain⟨l,rfl⟩:∃ l,m=l+1:=⟨m-1,by omega⟩
 have hT1':M11.T 1 ns l 0=some g:=hT1
 have:=(zCe (zGv (t:=g) h0) l 0).mpr ⟨g,hT1',by simp[M11.Le]⟩
 obtain⟨cs,h1,h2,h3⟩:=(zBB hn m1).mp this
 obtain⟨a,b,s1,s2,s3⟩:=zEt ns cs
 exact⟨cs,a,b,h1,h2,s1,s2,s3,by have:=(h3 a s1).1;omega⟩
theorem zKK {m:Nat}{t g:Int}{ms:List Int}{bs:List (Int×Int)}(h0:∀ n∈ns,0<=n)(hn:1<=ns.length)(m1:1<=m)(hT0:M11.T 0 ns (m-1) 0=some t)(hT1:M11.T 1 ns (m-1) 0=some g)
  (hms:∀ k,k∈ms↔∃ i e,i<e/\e<=ns.length/\k=S ns e-S ns i) (hf:bs.map (·.1)=ms.filter λx=>decide (x<=g)) (hb:∀ x∈bs,0<M14.cnt ns x.1 x.2 m 0/\∀ y∈ms.filter (λx=>decide (t<=x)),y<x.2->¬ 0<M14.cnt ns x.1 y m 0):Nb ns m bs:=by
 refine⟨λx hx=>(hb x hx).1,λcs a b h1 h2 h3 h4 h5=>?_⟩
 obtain⟨q1,q2⟩:=zDH h0 hn m1 hT0 hT1 h1 h2 h5 h3 h4
 have ha:a∈bs.map (·.1):=by
  rw[hf,List.mem_filter]
  exact⟨(hms a).mpr (cut_str hn h1 h3),decide_eq_true q1⟩
 obtain⟨⟨a',h⟩,hx,rfl⟩:=List.mem_map.mp ha
 refine⟨h,hx,?_⟩
 rcases Int.lt_or_le b h with z | z
 ·refine absurd ((zBB hn m1).mpr ⟨cs,h1,h2,h5⟩) ((hb _ hx).2 b ?_ z)
  rw[List.mem_filter]
  exact⟨(hms b).mpr (cut_str hn h1 h4),decide_eq_true q2⟩
 ·exact z
end M49
namespace M20
open M3 M25 M14 M18 M32 M49
variable {ns:List Int}{lo hi:Int}
def Cf (ns:List Int)(lo hi:Int):Nat->Nat->Prop
 | 0,t=>t=0
 | p+1,t=>∃ s,Cf ns lo hi p s/\ok ns lo hi s t=1
theorem zIq:∀ (p q:Nat),(∃ s,Cf ns lo hi p s/\0<M14.cnt ns lo hi q s)↔0<M14.cnt ns lo hi (q+p) 0
 | 0,q=>by
  constructor
  ·rintro⟨s,h1,h2⟩
   have h1:s=0:=h1
   subst h1
   exact h2
  ·intro h
   exact⟨0,rfl,h⟩
 | p+1,q=>by
  have ih:=zIq p (q+1)
  rw[show q+(p+1)=q+1+p by omega,<- ih]
  constructor
  ·rintro⟨t,⟨s,h1,h2⟩,h3⟩
   refine⟨s,h1,(zBe q s).mpr ⟨t,?_,h2,h3⟩⟩
   cases q with
   | zero=>have:=(cnt0 (ns:=ns) (lo:=lo) (hi:=hi) t).mp h3;omega
   | succ q =>
    obtain⟨ds,_,h5⟩:=(zB4 (ns:=ns) (lo:=lo) (hi:=hi) q t).mp h3
    have:=zEr h5
    omega
  ·rintro⟨s,h1,h2⟩
   obtain⟨t,_,h3,h4⟩:=(zBe q s).mp h2
   exact⟨t,⟨s,h1,h3⟩,h4⟩
theorem zLy (m:Nat):Cf ns lo hi m ns.length↔0<M14.cnt ns lo hi m 0:=by
 rw[show m=0+m by omega,<- zIq m 0,Nat.zero_add]
 constructor
 ·intro h
  exact⟨_,h,(cnt0 _).mpr rfl⟩
 ·rintro⟨s,h1,h2⟩
  rw[(cnt0 s).mp h2] at h1
  exact h1
def Lv (ns:List Int)(lo:Int)(p:Nat)(F:Nat->Option Int):Prop:=(∀ t v,F t=some v->0<=v/\t<=ns.length)/\∀ t hi,0<=hi->((∃ v,F t=some v/\v<=hi)↔t<=ns.length/\Cf ns lo hi p t)
theorem zKL:Lv ns lo 0 λt=>if t=0 then some 0 else none:=by
 refine⟨λt v h=>?_,λt hi h0=>?_⟩
 ·dsimp only at h;split at h
  ·cases h;rename_i e;subst e;exact⟨Int.le_refl _,Nat.zero_le _⟩
  ·cases h
 ·dsimp only
  constructor
  ·rintro⟨v,h1,h2⟩
   split at h1
   ·rename_i e;subst e;exact⟨Nat.zero_le _,rfl⟩
   ·cases h1
  ·rintro⟨_,h⟩
   have h:t=0:=h
   subst h
   exact⟨0,by simp,h0⟩
def Part (ns:List Int)(lo:Int)(fs:List (Nat×Int))(i u:Nat)(L:Nat->Option Int):Prop :=
 (∀ t v,L t=some v->0<=v/\t<=ns.length)/\∀ t hi,0<=hi->((∃ v,L t=some v/\v<=hi)↔t<=ns.length/\∃ j s m,fs[j]?=some (s,m)/\(j<i\/(j=i/\t<u))/\m<=hi/\ok ns lo hi s t=1)
theorem zGz (fs:List (Nat×Int)):Part ns lo fs 0 0 λ_=>none:=by
 refine⟨λt v h=>(by cases h),λt hi h0=>⟨λ⟨v,h,_⟩=>(by cases h),?_⟩⟩
 rintro⟨_,j,s,m,_,h | ⟨_,h⟩,_⟩<;>omega
theorem zFX {fs:List (Nat×Int)}{i s:Nat}{m:Int}{L:Nat->Option Int}(h:Part ns lo fs i 0 L)(hf:fs[i]?=some (s,m)):Part ns lo fs i (s+1) L:=by
 refine⟨h.1,λt hi h0=>(h.2 t hi h0).trans ?_⟩
 constructor
 ·rintro⟨h1,j,s',m',h2,h3 | h3,h4⟩
  ·exact⟨h1,j,s',m',h2,.inl h3,h4⟩
  ·omega
 ·rintro⟨h1,j,s',m',h2,h3 | ⟨rfl,h3⟩,h4,h5⟩
  ·exact⟨h1,j,s',m',h2,.inl h3,h4,h5⟩
  ·rw[hf] at h2
   cases h2
   have:=(zq17.mp h5).1
   omega
theorem zIM {fs:List (Nat×Int)}{i:Nat}{L:Nat->Option Int}(h:Part ns lo fs i (ns.length+1) L):Part ns lo fs (i+1) 0 L:=by
 refine⟨h.1,λt hi h0=>(h.2 t hi h0).trans ?_⟩
 constructor
 ·rintro⟨h1,j,s',m',h2,h3 | ⟨rfl,h3⟩,h4⟩
  ·exact⟨h1,j,s',m',h2,.inl (by omega),h4⟩
  ·exact⟨h1,j,s',m',h2,.inl (by omega),h4⟩
 ·rintro⟨h1,j,s',m',h2,h3 | ⟨rfl,h3⟩,h4⟩
  ·refine⟨h1,j,s',m',h2,?_,h4⟩
   by_cases z:j=i
   ·exact .inr ⟨z,by omega⟩
   ·exact .inl (by omega)
  ·omega
theorem zG0 {fs:List (Nat×Int)}{i u s:Nat}{m:Int}{L:Nat->Option Int}(h:Part ns lo fs i u L)(hf:fs[i]?=some (s,m))(hn:¬ lo<=S ns u-S ns s):Part ns lo fs i (u+1) L:=by
 refine⟨h.1,λt hi h0=>(h.2 t hi h0).trans ?_⟩
 constructor
 ·rintro⟨h1,j,s',m',h2,h3 | ⟨rfl,h3⟩,h4⟩
  ·exact⟨h1,j,s',m',h2,.inl h3,h4⟩
  ·exact⟨h1,j,s',m',h2,.inr ⟨rfl,by omega⟩,h4⟩
 ·rintro⟨h1,j,s',m',h2,h3 | ⟨rfl,h3⟩,h4,h5⟩
  ·exact⟨h1,j,s',m',h2,.inl h3,h4,h5⟩
  ·refine⟨h1,j,s',m',h2,.inr ⟨rfl,?_⟩,h4,h5⟩
   rw[hf] at h2
   cases h2
   by_cases z:t=u
   ·subst z
    exact absurd (zq17.mp h5).2.1 hn
   ·omega
theorem zIN {fs:List (Nat×Int)}{i u s:Nat}{m:Int}{L:Nat->Option Int}(h:Part ns lo fs i u L)(hf:fs[i]?=some (s,m))(hu:u<=ns.length)(hsu:s<u)(hm:0<=m)(hlo:lo<=S ns u-S ns s) :
    Part ns lo fs i (u+1) λj=>if j=u then some (min (max m (S ns u-S ns s)) ((L u).getD (max m (S ns u-S ns s)))) else L j:=by
  refine⟨λt v ht=>?_,λt hi h0=>?_⟩
  · dsimp only at ht
    split at ht
    · rename_i e
      subst e
      cases ht
      refine⟨?_,hu⟩
      cases hL:L t with
      | none=>simp only[Option.getD_none];omega
      | some w=>have:=(h.1 t w hL).1;simp only[Option.getD_some];omega
    · exact h.1 t v ht
  · dsimp only
    by_cases ht:t=u
    · subst ht
      simp only[if_true,Option.some.injEq,exists_eq_left']
      have hh:=h.2 t hi h0
      have e1:min (max m (S ns t-S ns s)) ((L t).getD (max m (S ns t-S ns s)))<=hi↔(∃ v,L t=some v/\v<=hi)\/(m<=hi/\S ns t-S ns s<=hi):=by
        cases hL:L t with
        | none => simp only [Option.getD_none]; constructor
                  · intro z;exact .inr ⟨by omega,by omega⟩
                  · rintro(⟨v,z,_⟩ | ⟨z1,z2⟩)
                    · cases z
                    · omega
        | some w =>
          simp only[Option.getD_some,Option.some.injEq,exists_eq_left']
          constructor
          · intro z
            by_cases z2:w<=hi
            · exact .inl z2
            · exact .inr ⟨by omega,by omega⟩
          · rintro(z | ⟨z1,z2⟩)<;>omega
      rw[e1,hh]
      constructor
      · rintro(⟨h1,j,s',m',h2,h3,h4⟩ | ⟨z1,z2⟩)
        · exact⟨h1,j,s',m',h2,h3.elim .inl λ⟨a,b⟩=>by omega,h4⟩
        · exact⟨hu,i,s,m,hf,.inr ⟨rfl,by omega⟩,z1,zq17.mpr ⟨hsu,hlo,z2⟩⟩
      · rintro⟨h1,j,s',m',h2,h3 | ⟨rfl,_⟩,h4,h5⟩
        · exact .inl ⟨h1,j,s',m',h2,.inl h3,h4,h5⟩
        · rw[hf] at h2
          cases h2
          exact .inr ⟨h4,(zq17.mp h5).2.2⟩
    · simp only[if_neg ht]
      refine(h.2 t hi h0).trans ?_
      constructor
      · rintro⟨h1,j,s',m',h2,h3 | ⟨rfl,h3⟩,h4⟩
        · exact⟨h1,j,s',m',h2,.inl h3,h4⟩
        · exact⟨h1,j,s',m',h2,.inr ⟨rfl,by omega⟩,h4⟩
      · rintro⟨h1,j,s',m',h2,h3 | ⟨rfl,h3⟩,h4⟩
        · exact⟨h1,j,s',m',h2,.inl h3,h4⟩
        · exact⟨h1,j,s',m',h2,.inr ⟨rfl,by omega⟩,h4⟩
theorem zKM {p:Nat}{fs:List (Nat×Int)}{F L:Nat->Option Int}(hF:Lv ns lo p F)(hfs:∀ s m,(s,m)∈fs↔F s=some m)(h:Part ns lo fs fs.length 0 L):Lv ns lo (p+1) L:=by
 refine⟨h.1,λt hi h0=>(h.2 t hi h0).trans (and_congr_right λht=>?_)⟩
 constructor
 ·rintro⟨j,s,m,h1,_,h2,h3⟩
  exact⟨s,((hF.2 s hi h0).mp ⟨m,(hfs s m).mp (List.mem_of_getElem? h1),h2⟩).2,h3⟩
 ·rintro⟨s,h1,h2⟩
  obtain⟨m,h3,h4⟩:=(hF.2 s hi h0).mpr ⟨by have:=(zq17.mp h2).1;omega,h1⟩
  obtain⟨j,hj⟩:=List.getElem?_of_mem ((hfs s m).mpr h3)
  exact⟨j,s,m,hj,.inl (List.getElem?_eq_some_iff.mp hj).1,h4,h2⟩
def LE (ns:List Int)(lo:Int)(m:Nat)(o:Option Int):Prop:=(∀ v,o=some v->0<=v)/\∀ hi,0<=hi->((∃ v,o=some v/\v<=hi)↔0<M14.cnt ns lo hi m 0)
theorem zLz {m:Nat}{F:Nat->Option Int}(h:Lv ns lo m F):LE ns lo m (F ns.length) :=
 ⟨λv hv=>(h.1 _ v hv).1,λhi h0=>(h.2 ns.length hi h0).trans (by rw[zLy];exact and_iff_right (Nat.le_refl _))⟩
def zCE (ns:List Int)(lo hi:Int)(l i:Nat)(cs:List Nat):Prop:=cs.length=l/\Ins ns lo hi i cs/\∀ ds:List Nat,ds.length=l->Ins ns lo hi i ds->¬ Ahead ds cs
theorem zG1 {i:Nat}(h:0<M14.cnt ns lo hi 1 i):zCE ns lo hi 0 i []:=by
 obtain⟨ds,h1,h2⟩:=(zB4 0 i).mp h
 have:ds=[]:=List.length_eq_zero_iff.mp h1
 subst this
 refine⟨rfl,h2,λes h3 _ ha=>?_⟩
 have:es=[]:=List.length_eq_zero_iff.mp h3
 subst this
 exact ha
theorem zFY {l i e:Nat}{cs:List Nat}(h1:ok ns lo hi i e=1)(h2:∀ d,ok ns lo hi i d=1->0<M14.cnt ns lo hi (l+1) d->e<=d)(h3:zCE ns lo hi l e cs):zCE ns lo hi (l+1) i (e::cs):=by
 refine⟨by simp[h3.1],⟨h1,h3.2.1⟩,λds hl hi' ha=>?_⟩
 cases ds with
 | nil=>exact ha
 | cons d ds =>
  rcases ha with ha | ⟨rfl,ha⟩
  ·have:=h2 d hi'.1 ((zB4 l d).mpr ⟨ds,by simpa using hl,hi'.2⟩)
   omega
  ·exact h3.2.2 ds (by simpa using hl) hi'.2 ha
theorem zDu {m:Nat}{cs:List Nat}(hn:1<=ns.length)(m1:1<=m)(h:zCE ns lo hi (m-1) 0 cs) :
  CutN cs ns.length/\cs.length+1=m/\Within ns lo hi cs/\∀ ds,CutN ds ns.length->ds.length+1=m->Within ns lo hi ds->¬ Ahead ds cs:=by
 obtain⟨h1,h2,h3⟩:=h
 obtain⟨h4,h5⟩:=(zCD hn).mp h2
 exact⟨h4,by omega,h5,λds h6 h7 h8=>h3 ds (by omega) ((zCD hn).mpr ⟨h6,h8⟩)⟩
theorem zL0 {m:Nat}(m1:1<=m)(mn:m<=ns.length):∃ cs,CutN cs ns.length/\cs.length+1=m :=
 ⟨(List.range (m-1)).map (·+1),⟨by rw[List.pairwise_map];exact List.pairwise_lt_range.imp λh=>by omega,λc hc=>by obtain⟨x,_,rfl⟩:=List.mem_map.mp hc;omega,λc hc=>by obtain⟨x,hx,rfl⟩:=List.mem_map.mp hc;have:=List.mem_range.mp hx;omega⟩,by simp;omega⟩
theorem zG2:∀ (cs:List Nat) (b:Nat),(b::cs).Pairwise (·<·)->(∀ c∈b::cs,c<ns.length)->∀ x∈(pcs ns b cs).map List.sum,∃ i e,i<e/\e<=ns.length/\x=S ns e-S ns i
 | [],b,h1,h2,x,hx=>by
  simp only[pcs,List.map_cons,List.map_nil,List.mem_singleton] at hx
  have:=h2 b (by simp)
  exact⟨b,ns.length,this,Nat.le_refl _,by rw[hx,zEs (by omega)]⟩
 | c::cs,b,h1,h2,x,hx=>by
  simp only[pcs,List.map_cons,List.mem_cons] at hx
  have hbc:=(List.pairwise_cons.mp h1).1 c (by simp)
  have hc:=h2 c (by simp)
  rcases hx with rfl | hx
  ·exact⟨b,c,hbc,by omega,by rw[M49.slice_S (by omega)]⟩
  ·exact zG2 cs c (List.pairwise_cons.mp h1).2 (λy hy=>h2 y (List.mem_cons_of_mem _ hy)) x hx
theorem cut_str {cs:List Nat}(hn:1<=ns.length)(h:CutN cs ns.length):∀ x∈(pcs ns 0 cs).map List.sum,∃ i e,i<e/\e<=ns.length/\x=S ns e-S ns i :=
 zG2 cs 0 (List.pairwise_cons.mpr ⟨λc hc=>h.lo c hc,h.up⟩) λc hc=>by
  rcases List.mem_cons.mp hc with rfl | hc
  ·omega
  ·exact h.hi c hc
theorem zEv (h0:∀ n∈ns,0<=n){x:Int}(h:∃ i e,i<e/\e<=ns.length/\x=S ns e-S ns i):0<=x:=by
 obtain⟨i,e,h1,h2,rfl⟩:=h
 have:=S_mono h0 (Nat.le_of_lt h1)
 omega
theorem zIO {m:Nat}{lows:List Int}{E:Int->Option Int}(h0:∀ n∈ns,0<=n)(hn:1<=ns.length)(m1:1<=m)(mn:m<=ns.length)(hl:∀ k,k∈lows↔∃ i e,i<e/\e<=ns.length/\k=S ns e-S ns i)(hE:∀ low∈lows,LE ns low m (E low)):∃ low∈lows,∃ v,E low=some v:=by
 obtain⟨cs,c1,c2⟩:=zL0 m1 mn
 obtain⟨a,b,s1,s2,s3⟩:=zEt ns cs
 have ha:=(hl a).mpr (cut_str hn c1 a s1)
 obtain⟨v,hv,_⟩:=((hE a ha).2 b (zEv h0 (cut_str hn c1 b s2))).mpr ((zBB hn m1).mpr ⟨cs,c1,c2,s3⟩)
 exact⟨a,ha,v,hv⟩
theorem zL1 {m:Nat}{lows:List Int}{E:Int->Option Int}{d:Int}{cs:List Nat}(h0:∀ n∈ns,0<=n)(hn:1<=ns.length)(m1:1<=m)(hl:∀ k,k∈lows↔∃ i e,i<e/\e<=ns.length/\k=S ns e-S ns i)(hE:∀ low∈lows,LE ns low m (E low))
  (hd:∃ low∈lows,∃ v,E low=some v/\d=v-low) (hmin:∀ low∈lows,∀ v,E low=some v->d<=v-low)
  (hc:∃ low∈lows,zCE ns low (low+d) (m-1) 0 cs)
  (hf:∀ low∈lows,0<M14.cnt ns low (low+d) m 0->∃ es,zCE ns low (low+d) (m-1) 0 es/\¬ Ahead es cs):SpB ns m d cs:=by
 have lnn:∀ low∈lows,0<=low:=λlow h=>zEv h0 ((hl low).mp h)
 have hbs:∀ x:Int×Int,x∈lows.filterMap (λlow=>(E low).map λv=>(low,v))↔x.1∈lows/\E x.1=some x.2:=λx=>by
  rw[List.mem_filterMap]
  constructor
  ·rintro⟨low,h1,h2⟩
   cases hv:E low with
   | none=>rw[hv] at h2;cases h2
   | some v=>rw[hv] at h2;cases h2;exact⟨h1,hv⟩
  ·rintro⟨h1,h2⟩
   exact⟨x.1,h1,by rw[h2];rfl⟩
 have cv:∀ low∈lows,∀ v,E low=some v->0<M14.cnt ns low v m 0:=λlow h v hv=>((hE low h).2 v ((hE low h).1 v hv)).mp ⟨v,hv,Int.le_refl _⟩
 have dn:∀ low∈lows,0<M14.cnt ns low (low+d) m 0->E low=some (low+d)/\0<=low+d:=λlow h hp=>by
  obtain⟨cs',c1,c2,c3⟩:=(zBB hn m1).mp hp
  obtain⟨a,b,s1,s2,s3⟩:=zEt ns cs'
  have hb:=c3 b s2
  have:=zEv h0 (cut_str hn c1 b s2)
  obtain⟨v,hv,hle⟩:=((hE low h).2 (low+d) (by omega)).mpr hp
  have:=hmin low h v hv
  exact⟨by rw[hv];congr 1;omega,by omega⟩
 refine zGx (bs:=lows.filterMap λlow=>(E low).map λv=>(low,v)) hn m1 ⟨λx hx=>?_,λes a b h1 h2 h3 h4 h5=>?_⟩ ?_ (λx hx=>?_) ?_ (λx hx he=>?_)
 ·obtain⟨h1,h2⟩:=(hbs x).mp hx
  exact cv x.1 h1 x.2 h2
 ·have ha:=(hl a).mpr (cut_str hn h1 a h3)
  obtain⟨v,hv,hle⟩:=((hE a ha).2 b (zEv h0 (cut_str hn h1 b h4))).mpr ((zBB hn m1).mpr ⟨es,h1,h2,h5⟩)
  exact⟨v,(hbs (a,v)).mpr ⟨ha,hv⟩,hle⟩
 ·obtain⟨low,h1,v,h2,h3⟩:=hd
  exact⟨(low,v),(hbs (low,v)).mpr ⟨h1,h2⟩,h3.symm⟩
 ·obtain⟨h1,h2⟩:=(hbs x).mp hx
  exact hmin x.1 h1 x.2 h2
 ·obtain⟨low,h1,h2⟩:=hc
  obtain⟨c1,c2,c3,c4⟩:=zDu hn m1 h2
  obtain⟨e,_⟩:=dn low h1 ((zBB hn m1).mpr ⟨cs,c1,c2,c3⟩)
  exact⟨(low,low+d),(hbs (low,low+d)).mpr ⟨h1,e⟩,by simp;omega,c1,c2,c3⟩
 ·obtain⟨h1,h2⟩:=(hbs x).mp hx
  have e:x.2=x.1+d:=by omega
  rw[e] at h2 ⊢
  obtain⟨es,h3,h4⟩:=hf x.1 h1 (cv x.1 h1 _ h2)
  obtain⟨c1,c2,c3,c4⟩:=zDu hn m1 h3
  exact⟨es,c1,c2,c3,c4,h4⟩
end M20
namespace L2
open PySem PySem.Spec PyProof.Rows
structure Bl (mg:Str->Option Value):Prop where
 list:mg "list"=none
 enumerate:mg "enumerate"=none
 int:mg "int"=none
 sum:mg "sum"=none
 range:mg "range"=none
 sorted:mg "sorted"=none
 max:mg "max"=none
 min:mg "min"=none
 len:mg "len"=none
 repr:mg "repr"=none
 isinstance:mg "isinstance"=none
 zip:mg "zip"=none
 bool:mg "bool"=none
 tuple:mg "tuple"=none
 str:mg "str"=none
 dict:mg "dict"=none
 abs:mg "abs"=none
theorem zDI:bootBuiltins "int"=some (.type "int"):=by decide +kernel
theorem zDv:bootBuiltins "list"=some (.type "list"):=by decide +kernel
theorem zDw:bootBuiltins "bool"=some (.type "bool"):=by decide +kernel
theorem zFZ:bootBuiltins "tuple"=some (.type "tuple"):=by decide +kernel
theorem zB5:bootBuiltins "sum"=some (.builtin "sum"):=by decide +kernel
theorem zA0:bootBuiltins "max"=some (.builtin "max"):=by decide +kernel
theorem zAv:bootBuiltins "min"=some (.builtin "min"):=by decide +kernel
theorem zAV:bootBuiltins "len"=some (.builtin "len"):=by decide +kernel
theorem zDx:bootBuiltins "sorted"=some (.builtin "sorted"):=by decide +kernel
theorem zAb:bootBuiltins "isinstance"=some (.builtin "isinstance"):=by decide +kernel
structure Hand (d m:Int):Prop where
 d0:0<=d
 m0:0<=m
 m1:m<2147483587
def HandAt (H:Hp)(h:Addr):Prop:=∃ d m,H h=some (.lst [.int d,.int m])/\Hand d m
theorem HandAt.same {H H':Hp}{h:Addr}(s:Same H H')(x:HandAt H h):HandAt H' h:=let ⟨d,m,q,z⟩:=x;⟨d,m,s _ _ q,z⟩
theorem HandAt.kp {H H':Hp}{h:Addr}{S:List Addr}(s:Kp S H H')(n:h∉S)(x:HandAt H h):HandAt H' h:=let ⟨d,m,q,z⟩:=x;⟨d,m,s _ _ n q,z⟩
theorem HandAt.ne {H:Hp}{h p:Addr}(x:HandAt H h)(hp:H p=none):h≠p:=let ⟨_,_,q,_⟩:=x;zAK q hp
def zq5b:Sp:=λvs H Q _=>∃ cell k:Int,vs=[.int cell,.int k]/\0<=k/\k<=100/\∀ p H',H p=none->Same H H'->HandAt H' p->Q (.ref p) H'
def zq1p:Sp:=λvs H Q _=>∃ (h:Addr) (lim:Int),vs=[.ref h,.int lim]/\HandAt H h/\0<lim/\lim<2 ^ 200/\∀ g H',0<=g->g<lim->HandAt H' h->Kp [h] H H'->Q (.int g) H'
def zq4c (K:W.Frag):Sp:=λvs H Q _=>∃ (a:Addr) (ns:List Int) (many:Int),vs=[.ref a,.int many]/\SqL K H a (ns.map V.int)/\ns.length<=63/\∀ (D:Addr) (as:List Addr) (H2:Hp),Same H H2->H D=none->H2 D=some (.lst (as.map V.ref))->as.length<=64 ->
 (∀ (j:Nat) (b:Addr),as[j]?=some b->∃ c:Int,H2 b=some (.tup [.int j,.int c]))->Q (.ref D) H2
structure RowN (ns:List Int):Prop where
 ne:1<=ns.length
 le:ns.length<=120
 nn:∀ n∈ns,0<=n
 ub:∀ n∈ns,n<=1000000000000
def zq6k:Sp:=λvs H Q _=>∃ (h:Addr) (n:Nat),vs=[.ref h,.int n]/\HandAt H h/\1<=n/\n<=120/\∀ (p:Addr) (ns:List Int) (H':Hp),RowN ns->ns.length=n->HandAt H' h->Kp [h] H H'->H' p=some (.lst (ns.map V.int))->p≠h->H p=none->Q (.ref p) H'
def zq5c:Sp:=λvs H Q _=>∃ (h:Addr) (k most far:Int),vs=[.ref h,.int k,.int most,.int far]/\HandAt H h/\1<=most/\most<=120/\1<=far/\far<=120/\∀ (n:Nat) (H':Hp),1<=n->(n:Int)<=max far (max most 8)->HandAt H' h->Kp [h] H H'->Q (.int n) H'
end L2
namespace K
open PySem L2
def top (i:Nat):Stmt:=PySem.Challenge.pw_piecebounds_k20_least_spreads_of_longer.main.body.getD i (.Pass ⟨0,0,0,0⟩)
end K
namespace K
open PySem L2
section
variable {C:Addr}{P:Program}{w:World}{K:W.Frag}{mg:Str->Option Value}{base:Heap}{f:Addr}{fd:FuncData}
abbrev zq13:Stmt:=top 30
theorem zq7k:FnScope ["cell","k","digits"] ["cell","k"] (zAA zq13):=⟨rfl,rfl,rfl,by decide +kernel,rfl,by decide +kernel,by decide +kernel⟩
theorem zq68:Loc (zAA zq13) "digits":=Or.inl (by kernel_rfl)
theorem zq4d:Vis (zAA zq13) "cell":=Or.inl (by kernel_rfl)
theorem zqab:Vis (zAA zq13) "digits":=Or.inl (by kernel_rfl)
theorem zqe4:Vis (zAA zq13) "k":=Or.inl (by kernel_rfl)
def zqf4 {cdv:Value}{A:Around}{outer:List Env}{s:Shared}{H:Hp}{E:XK}(B:Bl mg)(hr:Room 0 (A.deeper (PyProof.Rows.envOfC "_law_hand" (zAA zq13) s.heap.objs.size f cdv))) :
  { t:TS // QB (cxOf CX0 P w K mg base ["cell","k","digits"] "_law_hand" (zAA zq13) f cdv A outer s H E).nox (zAF zq13) t } :=
 ⟨_,(zAE (zAJ (i:=2) zq7k.nd rfl zq68 (.inl rfl) zAD)
  (zAY (zA8 (zAX opGe (qv 0 rfl zq4d) (zAO zHX zAD zAD)) (zAH (zAJ (i:=2) zq7k.nd rfl zq68 (.inl rfl) (qv 0 rfl zq4d))) zAr)
  (zAH (zAR (zAf (zAB (qv 2 rfl zqab) (zAB (zAO zFH (zAO zCS (zAO zAq (zAO zAq (zAO zFH (qv 0 rfl zq4d) zAD) (zAO zCS zAD (qv 1 rfl zqe4))) zAD) zAD) zAD) zAC)))))))⟩
abbrev zq14:Stmt:=top 31
theorem zqaz:FnScope ["hand","limit","got"] ["hand","limit"] (zAA zq14):=⟨rfl,rfl,rfl,by decide +kernel,rfl,by decide +kernel,by decide +kernel⟩
theorem zqd5:Loc (zAA zq14) "got":=Or.inl (by kernel_rfl)
theorem zqd6:Vis (zAA zq14) "got":=Or.inl (by kernel_rfl)
theorem zqz:Vis (zAA zq14) "hand":=Or.inl (by kernel_rfl)
theorem zq3w:Vis (zAA zq14) "limit":=Or.inl (by kernel_rfl)
def zqf5 {cdv:Value}{A:Around}{outer:List Env}{s:Shared}{H:Hp}{E:XK}(B:Bl mg)(hr:Room 0 (A.deeper (PyProof.Rows.envOfC "_law_draw" (zAA zq14) s.heap.objs.size f cdv))) :
  { t:TS // QB (cxOf CX0 P w K mg base ["hand","limit","got"] "_law_draw" (zAA zq14) f cdv A outer s H E).nox (zAF zq14) t } :=
 ⟨_,(zAE (zA8 (zAX opGt (zAU (K:=K) rfl (qv 0 rfl zqz) zAD (λ_ _=>rfl)) zAD) (zAE (zAJ (i:=2) zqaz.nd rfl zqd5 (.inl rfl) (zAO zFH (zAU (K:=K) rfl (qv 0 rfl zqz) zAD (λ_ _=>rfl)) (qv 1 rfl zq3w)))
  (zAE (zGJ (zAO zCn (zAU (K:=K) rfl (qv 0 rfl zqz) zAD (λ_ _=>rfl)) (qv 1 rfl zq3w)) (zGK (qv 0 rfl zqz) zAD setM))
  (zAH (zAR (qv 2 rfl zqd6))))) zAr)
  (zAE (zGJ (zAO zFH (zAO zAq (zAO zAq (zAO zCS (zAU (K:=K) rfl (qv 0 rfl zqz) zAD (λ_ _=>rfl)) (zAU (K:=K) rfl (qv 0 rfl zqz) zAD (λ_ _=>rfl))) (zAO zCS zAD (zAU (K:=K) rfl (qv 0 rfl zqz) zAD (λ_ _=>rfl)))) zAD) zAD) (zGK (qv 0 rfl zqz) zAD setM))
  (zAH (zAR (zAO zFH (zAO zCn (zAU (K:=K) rfl (qv 0 rfl zqz) zAD (λ_ _=>rfl)) zAD) (qv 1 rfl zq3w))))))⟩
theorem pm:(0:Int)<2147483563:=by decide
theorem zG3 {a:Int}:a % 2147483563<2147483587:=Int.lt_trans (Int.emod_lt_of_pos _ pm) (by decide)
theorem zqel (B:Bl mg)(F:Fun K "_law_hand" "_law_hand" zq13 f fd):FnOk P w K mg base CX0 1 f fd ["cell","k"] zq5b:=by
 refine F.okq zq7k (λvs H Q E h=>?_) (λcdv A outer s H vs Q E hr h=>?_)
 ·obtain⟨c,k,rfl,_⟩:=h;rfl
 obtain⟨c,k,rfl,h0,h1,q⟩:=h
 refine⟨zqf4 B hr,?_⟩
 refine⟨λσ H'=>H'=H/\∃ d,0<=d/\σ=[some (.int c),some (.int k),some (.int d)],?_,?_⟩
 ·refine⟨⟨by decide,by decide,by decide⟩,dec2 (λhc=>?_) (λhc=>?_)⟩
  ·exact⟨rfl,c,Int.le_trans (by decide) hc,rfl⟩
  ·exact⟨rfl,0,Int.le_refl 0,rfl⟩
 ·rintro σ H' ⟨rfl,d,hd,rfl⟩
  refine⟨pm,.inl ⟨by decide,by decide⟩,.inr ⟨by decide,by decide⟩,pm,?_⟩
  refine zAc (by show 2<=sizeLine;decide) λp H1 hp s1 e1=>q p H1 hp s1 ⟨_,_,e1,hd,Int.emod_nonneg _ (by decide),zG3⟩
theorem zqem (B:Bl mg)(F:Fun K "_law_draw" "_law_draw" zq14 f fd):FnOk P w K mg base CX0 1 f fd ["hand","limit"] zq1p:=by
 refine F.okq zqaz (λvs H Q E h=>?_) (λcdv A outer s H vs Q E hr h=>?_)
 ·obtain⟨a,lim,rfl,_⟩:=h;rfl
 obtain⟨a,lim,rfl,⟨d,m,hH,hh⟩,l0,l1,q⟩:=h
 refine⟨zqf5 B hr,?_⟩
 refine zBD 0 hH rfl rfl (dec2 (λc=>?_) (λc=>?_))
 ·refine zBD 0 hH rfl rfl ⟨l0,?_⟩
  refine zBD 0 hH rfl rfl ⟨⟨l0,l1⟩,?_⟩
  refine zJW 0 hH rfl (by simp) λH1 k1 e1=>?_
  exact q _ _ (Int.emod_nonneg _ (by omega)) (Int.emod_lt_of_pos _ l0) ⟨_,_,e1,Int.ediv_nonneg hh.d0 (by omega),hh.m0,hh.m1⟩ k1
 ·refine zBD 1 hH rfl rfl (zBD 1 hH rfl rfl ⟨.inl ⟨by have:=hh.m0;omega,by have:=hh.m1;omega⟩,?_⟩)
  refine zBD 1 hH rfl rfl ⟨.inl ⟨by decide,by decide⟩,pm,?_⟩
  refine zJW 1 hH rfl (by simp) λH1 k1 e1=>?_
  refine zBD 1 e1 rfl rfl ⟨⟨by decide,by decide⟩,l0,?_⟩
  exact q _ _ (Int.emod_nonneg _ (by omega)) (Int.emod_lt_of_pos _ l0) ⟨_,_,e1,hh.d0,Int.emod_nonneg _ (by decide),zG3⟩ k1
abbrev zqt:Stmt:=top 32
theorem zqe5:FnScope ["script","many"] ["script","many"] (zAA zqt):=⟨rfl,rfl,rfl,by decide +kernel,rfl,by decide +kernel,by decide +kernel⟩
theorem zqb2:Vis (zAA zqt) "many":=Or.inl (by kernel_rfl)
theorem zq5k:Vis (zAA zqt) "script":=Or.inl (by kernel_rfl)
theorem zq7x:(zAA zqt).names.lookup ("enumerate":Str)=some NameKind.globalImplicit:=by kernel_rfl
theorem zqc6:(zAA zqt).names.lookup ("int":Str)=some NameKind.globalImplicit:=by kernel_rfl
theorem zqb3:(zAA zqt).names.lookup ("list":Str)=some NameKind.globalImplicit:=by kernel_rfl
def zqen {cdv:Value}{A:Around}{outer:List Env}{s:Shared}{H:Hp}{E:XK}(B:Bl mg)(hr:Room 0 (A.deeper (PyProof.Rows.envOfC "_law_cells" (zAA zqt) s.heap.objs.size f cdv))) :
  { t:TS // QB (cxOf CX0 P w K mg base ["script","many"] "_law_cells" (zAA zqt) f cdv A outer s H E).nox (zAF zqt) t } :=
 ⟨_,(zAH (zAR (zHh (K:=K) rfl rfl zqb3 B.list zq7x B.enumerate (zAB (zAO zAq (zBz (K:=K) rfl (qv 0 rfl zq5k) zEC (zBT (qv 1 rfl zqb2))) (zAO zCS (zAf (zAB zAD zAC)) (zLN zJh zqc6 B.int zDI (zAB (zGL (kEqG (K:=K) rfl hr) (qv 0 rfl zq5k) (zAf zAC)) zAC)))) zAC))))⟩
theorem zBW (ns:List Int)(lo hi:Option Int):cutV (ns.map V.int) lo hi=((ns.drop (HT.sIx ns.length 0 lo)).take (HT.sIx ns.length ns.length hi-HT.sIx ns.length 0 lo)).map V.int:=by
 unfold cutV
 rw[List.length_map,List.map_take,List.map_drop]
theorem zqe6 (B:Bl mg)(F:Fun K "_law_cells" "_law_cells" zqt f fd):FnOk P w K mg base CX0 1 f fd ["script","many"] (zq4c K):=by
 refine F.okq zqe5 (λvs H Q E h=>?_) (λcdv A outer s H vs Q E hr h=>?_)
 ·obtain⟨a,ns,many,rfl,_⟩:=h;rfl
 obtain⟨a,ns,many,rfl,hS,h63,q⟩:=h
 refine⟨zqen B hr,?_⟩
 refine i_sl hS λp1 H1 hp1 s1 e1=>?_
 refine zAc (by show 1<=sizeLine;decide) λp2 H2 hp2 s2 e2=>?_
 refine zAc (by show 0<=sizeLine;decide) λp3 H3 hp3 s3 e3=>?_
 refine zLS (ns:=ns) (ms:=[]) (s3.seq (s2.seq (s1.seq hS))) (SqL.of e3) ?_
 rw[zBW] at e1
 have hml:((ns.drop (HT.sIx ns.length 0 none)).take (HT.sIx ns.length ns.length (some many)-HT.sIx ns.length 0 none)).length<=63:=by
  rw[List.length_take,List.length_drop];omega
 generalize (ns.drop (HT.sIx ns.length 0 none)).take (HT.sIx ns.length ns.length (some many)-HT.sIx ns.length 0 none)=ms at e1 hml
 refine zIW (s3 _ _ e2) (by split<;>omega) (by split<;>omega) λp4 H4 hp4 s4 e4=>?_
 have hk:(List.replicate (if id (decide (ns=[]))=true then (1:Int) else 0).toNat (0:Int)).length<=1:=by
  rw[List.length_replicate];split<;>decide
 generalize List.replicate (if id (decide (ns=[]))=true then (1:Int) else 0).toNat (0:Int)=zs at e4 hk
 refine zFG (s4 _ _ (s3 _ _ (s2 _ _ e1))) e4 (zFK (by simp only[List.length_map];omega)) λp5 H5 hp5 s5 e5=>?_
 rw[<- List.map_append] at e5
 have hl:(ms++zs).length<=64:=by rw[List.length_append];omega
 generalize ms++zs=ts at e5 hl
 refine⟨p5,_,rfl,SqL.of e5,λD as H9 s9 hD0 hD hlen hpair=>?_⟩
 rw[List.length_map] at hlen
 refine q D as H9 (s1.trans (s2.trans (s3.trans (s4.trans (s5.trans s9))))) ((s1.trans (s2.trans (s3.trans (s4.trans s5)))).free hD0) hD (by omega) λj b hb=>?_
 have hj:j<ts.length:=by rw[<- hlen];exact(List.getElem?_eq_some_iff.mp hb).1
 obtain⟨b',hb',z⟩:=hpair j (.int ts[j]) (by rw[List.getElem?_map,List.getElem?_eq_getElem hj];rfl)
 rw[hb] at hb'
 cases hb'
 exact⟨_,z⟩
abbrev zqg:Stmt:=top 33
theorem zq15:FnScope ["hand","many","way","wide","k","one","found","number"] ["hand","many"] (zAA zqg):=⟨rfl,rfl,rfl,by decide +kernel,rfl,by decide +kernel,by decide +kernel⟩
theorem zqc7:Loc (zAA zqg) "found":=Or.inl (by kernel_rfl)
theorem zqb0:Loc (zAA zqg) "k":=Or.inl (by kernel_rfl)
theorem zq1s:Loc (zAA zqg) "number":=Or.inl (by kernel_rfl)
theorem zqdq:Loc (zAA zqg) "one":=Or.inl (by kernel_rfl)
theorem zqdr:Loc (zAA zqg) "way":=Or.inl (by kernel_rfl)
theorem zq7y:Loc (zAA zqg) "wide":=Or.inl (by kernel_rfl)
theorem zq4e:Vis (zAA zqg) "found":=Or.inl (by kernel_rfl)
theorem zq1i:Vis (zAA zqg) "hand":=Or.inl (by kernel_rfl)
theorem zqeo:Vis (zAA zqg) "k":=Or.inl (by kernel_rfl)
theorem zq7z:Vis (zAA zqg) "many":=Or.inl (by kernel_rfl)
theorem zq6q:Vis (zAA zqg) "number":=Or.inl (by kernel_rfl)
theorem zq60:Vis (zAA zqg) "one":=Or.inl (by kernel_rfl)
theorem zq2w:Vis (zAA zqg) "way":=Or.inl (by kernel_rfl)
theorem zq3b:Vis (zAA zqg) "wide":=Or.inl (by kernel_rfl)
theorem zqy:(zAA zqg).names.lookup ("_law_draw":Str)=some NameKind.globalImplicit:=by kernel_rfl
theorem zqds:(zAA zqg).names.lookup ("max":Str)=some NameKind.globalImplicit:=by kernel_rfl
theorem zq7c:(zAA zqg).names.lookup ("range":Str)=some NameKind.globalImplicit:=by kernel_rfl
def zqfi {cdv:Value}{A:Around}{outer:List Env}{s:Shared}{H:Hp}{E:XK}(B:Bl mg)(zqd:Def P w K mg base 1 "_law_draw" ["hand","limit"] zq1p)(hr:Room 1 (A.deeper (PyProof.Rows.envOfC "_law_row" (zAA zqg) s.heap.objs.size f cdv))) :
  { t:TS // QB (cxOf CX0 P w K mg base ["hand","many","way","wide","k","one","found","number"] "_law_row" (zAA zqg) f cdv A outer s H E).nox (zAF zqg) t } :=
 ⟨_,(zAE (zAJ (i:=2) zq15.nd rfl zqdr (.inl rfl) (zAN zqd hr (by decide) zqy (zAB (qv 0 rfl zq1i) (zAB zAD zAC))))
  (zAE (zAJ (i:=3) zq15.nd rfl zq7y (.inl rfl) zAD)
  (zAY (zAm PassesOwn.never rfl (zCT zq7c B.range (zAB (zAN zqd hr (by decide) zqy (zAB (qv 0 rfl zq1i) (zAB zAD zAC))) zAC)) (zAL (i:=4) zq15.nd rfl zqb0 (.inl rfl)) (zAH (zAJ (i:=3) zq15.nd rfl zq7y (.inl rfl) (zAO zCS (qv 3 rfl zq3b) zAD))))
  (zAE (zAJ (i:=5) zq15.nd rfl zqdq (.inl rfl) (zAN zqd hr (by decide) zqy (zAB (qv 0 rfl zq1i) (zAB zAD zAC))))
  (zAE (zAJ (i:=6) zq15.nd rfl zqc7 (.inl rfl) (zAf zAC))
  (zAY (zAm PassesOwn.never rfl (zCT zq7c B.range (zAB (qv 1 rfl zq7z) zAC)) (zAL (i:=4) zq15.nd rfl zqb0 (.inl rfl)) (zAE (zAJ (i:=7) zq15.nd rfl zq1s (.inl rfl) (zAN zqd hr (by decide) zqy (zAB (qv 0 rfl zq1i) (zAB zAD zAC))))
  (zAY (zA8 (zAX (kEqG (K:=K) rfl hr) (qv 2 rfl zq2w) zAD) (zAH (zAJ (i:=7) zq15.nd rfl zq1s (.inl rfl) (zAO zFH (zAO zAq (zAO zCS (zAN zqd hr (by decide) zqy (zAB (qv 0 rfl zq1i) (zAB (zAO zHX zAD zAD) zAC))) (zAO zHX zAD zAD)) (zAN zqd hr (by decide) zqy (zAB (qv 0 rfl zq1i) (zAB (zAO zHX zAD zAD) zAC)))) (zAO zAq (qv 3 rfl zq3b) zAD)))) zAr)
  (zAY (zA8 (zAX (kEqG (K:=K) rfl hr) (qv 2 rfl zq2w) zAD) (zAH (zAJ (i:=7) zq15.nd rfl zq1s (.inl rfl) (zAO zCn (zAO zCS (qv 5 rfl zq60) (qv 3 rfl zq3b)) zAD))) zAr)
  (zAY (zA8 (zAX (kEqG (K:=K) rfl hr) (qv 2 rfl zq2w) zAD) (zAH (zAJ (i:=7) zq15.nd rfl zq1s (.inl rfl) (zAO zCS (zAa (kMax (K:=K) rfl rfl) zqds B.max zA0 (zAB zAD (zAB (zAO zA7 (qv 7 rfl zq6q) zAD) zAC))) (qv 5 rfl zq60)))) zAr)
  (zAY (zA8 (zAX (kEqG (K:=K) rfl hr) (qv 2 rfl zq2w) zAD) (zAH (zAJ (i:=7) zq15.nd rfl zq1s (.inl rfl) (zAO zCS (qv 4 rfl zqeo) (qv 5 rfl zq60)))) zAr)
  (zAH (zBQ (zCB (K:=K) rfl PySem.F.plainAttrs_list PySem.F.slot_list_append PySem.F.type_list_append zB8 (qv 6 rfl zq4e) (qv 7 rfl zq6q))))))))))
  (zAY (zA8 (zAX (kEqG (K:=K) rfl hr) (qv 2 rfl zq2w) zAD) (zAH (zGJ (qv 3 rfl zq3b) (zGK (qv 6 rfl zq4e) (zAN zqd hr (by decide) zqy (zAB (qv 0 rfl zq1i) (zAB (qv 1 rfl zq7z) zAC))) setM))) zAr)
  (zAH (zAR (qv 6 rfl zq4e))))))))))⟩
theorem zIr {ns:List Int}{g:Int}(h0:0<=g)(h1:g<ns.length):ns.getD g.toNat 0∈ns:=by
 have hk:g.toNat<ns.length:=by omega
 rw[List.getD_eq_getElem?_getD,List.getElem?_eq_getElem hk]
 exact List.getElem_mem hk
theorem at2 {x y:V}{g:Int}(h0:0<=g)(h1:g<2):atI [x,y] g=some (if g=0 then x else y):=by
 have:g=0\/g=1:=by omega
 rcases this with rfl | rfl<;>rfl
theorem zL2 {i:Nat}(h:i<=12):(10:Int) ^ i<=1000000000000:=by
 have e:(10:Nat) ^ i<=10 ^ 12:=Nat.pow_le_pow_right (by decide) h
 have e2:((10 ^ i:Nat):Int)<=((10 ^ 12:Nat):Int):=Int.ofNat_le.mpr e
 rw[Int.natCast_pow] at e2
 exact Int.le_trans e2 (by decide)
theorem zKN (i:Nat):(1:Int)<=10 ^ i:=by
 have e:1<=(10:Nat) ^ i:=Nat.one_le_pow _ _ (by decide)
 have e2:((1:Nat):Int)<=((10 ^ i:Nat):Int):=Int.ofNat_le.mpr e
 rw[Int.natCast_pow] at e2
 exact e2
theorem zqf6 (B:Bl mg)(zqd:Def P w K mg base 1 "_law_draw" ["hand","limit"] zq1p)(F:Fun K "_law_row" "_law_row" zqg f fd):FnOk P w K mg base CX0 2 f fd ["hand","many"] zq6k:=by
 refine F.okq zq15 (λvs H Q E h=>?_) (λcdv A outer s H vs Q E hr h=>?_)
 ·obtain⟨a,n,rfl,_⟩:=h;rfl
 obtain⟨a,n,rfl,hh,n1,n2,q⟩:=h
 refine⟨zqfi B zqd hr,?_⟩
 refine⟨a,6,rfl,hh,by decide,by decide,λway H1 w0 w1 hh1 k1=>?_⟩
 refine⟨λσ H'=>∃ (wide:Int) (o4:Option V),1<=wide/\wide<=1000000000000/\HandAt H' a/\Kp [a] H H'/\σ=[some (.ref a),some (.int n),some (.int way),some (.int wide),o4,none,none,none],?_,?_⟩
 ·refine⟨a,13,rfl,hh1,by decide,by decide,λg H2 g0 g1 hh2 k2=>⟨⟨by omega,by omega⟩,?_⟩⟩
  refine zAl (λi σ H'=>∃ o4:Option V,H'=H2/\σ=[some (.ref a),some (.int n),some (.int way),some (.int (10 ^ i)),o4,none,none,none]) ?_ ?_ ?_
  ·exact⟨_,rfl,rfl⟩
  ·rintro i σ H' hi ⟨o4,rfl,rfl⟩
   refine⟨.inr ⟨by decide,by decide⟩,?_⟩
   exact⟨some (.int (0+(i:Int))),rfl,by rw[Int.pow_succ];rfl⟩
  ·rintro σ H' ⟨o4,rfl,rfl⟩
   exact⟨_,o4,zKN _,zL2 (by omega),hh2,k1.trans k2,rfl⟩
 rintro σ H2 ⟨wide,o4,wd0,wd1,hh2,k2,rfl⟩
 refine⟨a,30,rfl,hh2,by decide,by decide,λone H3 on0 on1 hh3 k3=>?_⟩
 refine zAc (by show 0<=sizeLine;decide) λp H4 hp s4 e4=>?_
 have np:p≠a:=(hh3.ne hp).symm
 have kk4:Kp [a] H H4:=(k2.trans k3).same s4
 have hp0:H p=none:=(k2.trans k3).free (by simpa using np) hp
 refine⟨λσ H'=>∃ (ns:List Int) (o4 o7:Option V),ns.length=n/\(∀ z∈ns,0<=z/\z<=1000000000000)/\HandAt H' a/\Kp [a] H H'/\H' p=some (.lst (ns.map V.int))/\σ=[some (.ref a),some (.int n),some (.int way),some (.int wide),o4,some (.int one),some (.ref p),o7],?_,?_⟩
 ·refine⟨⟨by omega,by omega⟩,zAl (λi σ H'=>∃ (ns:List Int) (o4 o7:Option V),ns.length=i/\(∀ z∈ns,0<=z/\z<=1000000000000)/\HandAt H' a/\Kp [a] H H'/\H' p=some (.lst (ns.map V.int))/\σ=[some (.ref a),some (.int n),some (.int way),some (.int wide),o4,some (.int one),some (.ref p),o7]) ?_ ?_ ?_⟩
  ·exact⟨[],_,_,rfl,by simp,hh3.same s4,kk4,e4,rfl⟩
  ·rintro i σ H5 hi ⟨ns,o4,o7,hl,hz,hh5,k5,e5,rfl⟩
   have hi':i<n:=by omega
   refine⟨a,4,rfl,hh5,by decide,by decide,λg H6 g0 g1 hh6 k6=>?_⟩
   have e6:=k6.one np e5
   have kk6:=k5.trans k6
   refine⟨λσ H'=>∃ number:Int,0<=number/\number<=1000000000000/\(way=3->number<=3)/\HandAt H' a/\Kp [a] H H'/\H' p=some (.lst (ns.map V.int))/\σ=[some (.ref a),some (.int n),some (.int way),some (.int wide),some (.int (0+(i:Int))),some (.int one),some (.ref p),some (.int number)],?_,?_⟩
   ·refine dec2 (λc=>?_) (λc=>?_)
    ·refine⟨⟨by decide,by decide,by decide⟩,a,10000000,rfl,hh6,by decide,by decide,λga H7 ga0 ga1 hh7 k7=>?_⟩
     refine⟨⟨by decide,by decide,by decide⟩,.inr ⟨by decide,by decide⟩,⟨by decide,by decide,by decide⟩,a,10000000,rfl,hh7,by decide,by decide,λgb H8 gb0 gb1 hh8 k8=>?_⟩
     refine⟨by omega,?_⟩
     refine⟨_,Int.emod_nonneg _ (by omega),?_,λz=>by omega,hh8,(kk6.trans k7).trans k8,k8.one np (k7.one np e6),rfl⟩
     have:=Int.emod_lt_of_pos (ga*10 ^ Int.toNat 7+gb) (show 0<wide+1 by omega)
     omega
    ·exact⟨g,g0,by omega,λ_=>by omega,hh6,kk6,e6,rfl⟩
   rintro σ H7 ⟨number,m0,m1,m3,hh7,k7,e7,rfl⟩
   refine⟨λσ H'=>∃ number:Int,0<=number/\number<=1000000000000/\(way=3->number<=3)/\HandAt H' a/\Kp [a] H H'/\H' p=some (.lst (ns.map V.int))/\σ=[some (.ref a),some (.int n),some (.int way),some (.int wide),some (.int (0+(i:Int))),some (.int one),some (.ref p),some (.int number)],?_,?_⟩
   ·refine dec2 (λc=>?_) (λc=>?_)
    ·refine⟨.inl ⟨by omega,by omega⟩,⟨by decide,by decide⟩,?_⟩
     have hm:0<=one*wide/\one*wide<=29*1000000000000:=⟨Int.mul_nonneg on0 (by omega),Int.mul_le_mul (by omega) wd1 (by omega) (by decide)⟩
     refine⟨one*wide / 30,by omega,by omega,λz=>by omega,hh7,k7,e7,rfl⟩
    ·exact⟨number,m0,m1,m3,hh7,k7,e7,rfl⟩
   rintro σ H8 ⟨number,m0,m1,m3,hh8,k8,e8,rfl⟩
   refine⟨λσ H'=>∃ number:Int,0<=number/\number<=1000000000000/\HandAt H' a/\Kp [a] H H'/\H' p=some (.lst (ns.map V.int))/\σ=[some (.ref a),some (.int n),some (.int way),some (.int wide),some (.int (0+(i:Int))),some (.int one),some (.ref p),some (.int number)],?_,?_⟩
   ·refine dec2 (λc=>?_) (λc=>?_)
    ·have h3:=m3 c
     have hx:0<=max 0 (number-2)/\max 0 (number-2)<=1:=by omega
     refine⟨.inr ⟨by omega,by omega⟩,?_⟩
     have hm:0<=max 0 (number-2)*one/\max 0 (number-2)*one<=1*29:=⟨Int.mul_nonneg hx.1 on0,Int.mul_le_mul hx.2 (by omega) on0 (by decide)⟩
     refine⟨max 0 (number-2)*one,hm.1,by omega,hh8,k8,e8,rfl⟩
    ·exact⟨number,m0,m1,hh8,k8,e8,rfl⟩
   rintro σ H9 ⟨number,m0,m1,hh9,k9,e9,rfl⟩
   refine⟨λσ H'=>∃ number:Int,0<=number/\number<=1000000000000/\HandAt H' a/\Kp [a] H H'/\H' p=some (.lst (ns.map V.int))/\σ=[some (.ref a),some (.int n),some (.int way),some (.int wide),some (.int (0+(i:Int))),some (.int one),some (.ref p),some (.int number)],?_,?_⟩
   ·refine dec2 (λc=>?_) (λc=>?_)
    ·refine⟨.inr ⟨by omega,by omega⟩,?_⟩
     have hm:0<=(0+(i:Int))*one/\(0+(i:Int))*one<=119*29:=⟨Int.mul_nonneg (by omega) on0,Int.mul_le_mul (by omega) (by omega) on0 (by decide)⟩
     refine⟨(0+(i:Int))*one,by omega,by omega,hh9,k9,e9,rfl⟩
    ·exact⟨number,m0,m1,hh9,k9,e9,rfl⟩
   rintro σ H10 ⟨number,m0,m1,hh10,k10,e10,rfl⟩
   refine⟨zB9 e10,zBu e10 (by omega) λH11 k11 e11=>?_⟩
   refine⟨ns++[number],_,_,by simp[hl],λz hz'=>?_,hh10.kp k11 (by simpa using Ne.symm np),k10.new k11 hp0,e11,rfl⟩
   rcases List.mem_append.mp hz' with h | h
   ·exact hz z h
   ·have:z=number:=by simpa using h
    subst this;exact⟨m0,m1⟩
  ·rintro σ H5 h
   obtain⟨ns,o4,o7,hl,r⟩:=h
   exact⟨ns,o4,o7,by omega,r⟩
 rintro σ H5 ⟨ns,o4,o7,hl,hz,hh5,k5,e5,rfl⟩
 have fin:∀ (ms:List Int) (H':Hp),ms.length=n->(∀ z∈ms,0<=z/\z<=1000000000000)->HandAt H' a->Kp [a] H H'->H' p=some (.lst (ms.map V.int))->Q (.ref p) H':=λms H' h1 h2 h3 h4 h5 =>
  q p ms H' ⟨by omega,by omega,λz hz=>(h2 z hz).1,λz hz=>(h2 z hz).2⟩ h1 h3 h4 h5 np hp0
 refine⟨λσ H'=>∃ ms:List Int,ms.length=n/\(∀ z∈ms,0<=z/\z<=1000000000000)/\HandAt H' a/\Kp [a] H H'/\H' p=some (.lst (ms.map V.int))/\σ=[some (.ref a),some (.int n),some (.int way),some (.int wide),o4,some (.int one),some (.ref p),o7],?_,?_⟩
 ·refine dec2 (λc=>?_) (λc=>?_)
  ·refine⟨a,n,rfl,hh5,by omega,by omega,λj H6 j0 j1 hh6 k6=>?_⟩
   have e6:=k6.one np e5
   refine zJW j.toNat e6 (by omega) (by rw[List.length_map];omega) λH7 k7 e7=>?_
   refine⟨ns.set j.toNat wide,by simp[hl],λz hz'=>?_,hh6.kp k7 (by simpa using Ne.symm np),(k5.trans k6).new k7 hp0,?_,rfl⟩
   ·rcases List.mem_or_eq_of_mem_set hz' with hz' | rfl
    ·exact hz z hz'
    ·exact⟨by omega,wd1⟩
   ·rw[e7,List.map_set]
  ·exact⟨ns,hl,hz,hh5,k5,e5,rfl⟩
 rintro σ H6 ⟨ms,hl,hz,hh6,k6,e6,rfl⟩
 exact fin ms H6 hl hz hh6 k6 e6
abbrev zqo:Stmt:=top 34
theorem zq7l:FnScope ["hand","k","most","far","more","size"] ["hand","k","most","far"] (zAA zqo):=⟨rfl,rfl,rfl,by decide +kernel,rfl,by decide +kernel,by decide +kernel⟩
theorem zqc8:Loc (zAA zqo) "more":=Or.inl (by kernel_rfl)
theorem zqc9:Loc (zAA zqo) "size":=Or.inl (by kernel_rfl)
theorem zq80:Vis (zAA zqo) "far":=Or.inl (by kernel_rfl)
theorem zq22:Vis (zAA zqo) "hand":=Or.inl (by kernel_rfl)
theorem zqe7:Vis (zAA zqo) "k":=Or.inl (by kernel_rfl)
theorem zqca:Vis (zAA zqo) "more":=Or.inl (by kernel_rfl)
theorem zqcb:Vis (zAA zqo) "most":=Or.inl (by kernel_rfl)
theorem zqcc:Vis (zAA zqo) "size":=Or.inl (by kernel_rfl)
theorem zq1f:(zAA zqo).names.lookup ("_law_draw":Str)=some NameKind.globalImplicit:=by kernel_rfl
def zqf7 {cdv:Value}{A:Around}{outer:List Env}{s:Shared}{H:Hp}{E:XK}(B:Bl mg)(zqd:Def P w K mg base 1 "_law_draw" ["hand","limit"] zq1p)(hr:Room 1 (A.deeper (PyProof.Rows.envOfC "_law_size" (zAA zqo) s.heap.objs.size f cdv))) :
  { t:TS // QB (cxOf CX0 P w K mg base ["hand","k","most","far","more","size"] "_law_size" (zAA zqo) f cdv A outer s H E).nox (zAF zqo) t } :=
 ⟨_,(zAE (zA8 (QW.pt (zEZ (zAX (kEqG (K:=K) rfl hr) (qv 1 rfl zqe7) zAD) (zC1 (zAX (kEqG (K:=K) rfl hr) (zAN zqd hr (by decide) zq1f (zAB (qv 0 rfl zq22) (zAB zAD zAC))) zAD)))) (zAE (zAJ (i:=4) zq7l.nd rfl zqc8 (.inl rfl) (zAO zAq zAD (zAN zqd hr (by decide) zq1f (zAB (qv 0 rfl zq22) (zAB (qv 3 rfl zq80) zAC)))))
  (zAH (zAR (zAU (K:=K) rfl (zAf (zAB (qv 3 rfl zq80) (zAB (qv 4 rfl zqca) zAC))) (zAN zqd hr (by decide) zq1f (zAB (qv 0 rfl zq22) (zAB zAD zAC))) (λ_ _=>rfl))))) zAr)
  (zAE (zAJ (i:=5) zq7l.nd rfl zqc9 (.inl rfl) (zAN zqd hr (by decide) zq1f (zAB (qv 0 rfl zq22) (zAB zAD zAC))))
  (zAH (zAR (zAO zAq zAD (zAN zqd hr (by decide) zq1f (zAB (qv 0 rfl zq22) (zAB (zAU (K:=K) rfl (zAf (zAB zAD (zAB zAD (zAB (qv 2 rfl zqcb) zAC)))) (qv 5 rfl zqcc) (λ_ _=>rfl)) zAC))))))))⟩
theorem at3 {x y z:V}{g:Int}(h0:0<=g)(h1:g<3):atI [x,y,z] g=some (if g=0 then x else if g=1 then y else z):=by
 have:g=0\/g=1\/g=2:=by omega
 rcases this with rfl | rfl | rfl<;>rfl
theorem zqep (B:Bl mg)(zqd:Def P w K mg base 1 "_law_draw" ["hand","limit"] zq1p)(F:Fun K "_law_size" "_law_size" zqo f fd):FnOk P w K mg base CX0 2 f fd ["hand","k","most","far"] zq5c:=by
 refine F.okq zq7l (λvs H Q E h=>?_) (λcdv A outer s H vs Q E hr h=>?_)
 ·obtain⟨a,k,m,fr,rfl,_⟩:=h;rfl
 obtain⟨a,k,m,fr,rfl,hh,m0,m1,f0,f1,q⟩:=h
 refine⟨zqf7 B zqd hr,?_⟩
 have fin:∀ (z:Int) (H':Hp),1<=z->z<=max fr (max m 8)->HandAt H' a->Kp [a] H H'->Q (.int z) H':=λz H' h1 h2 h3 h4=>by
  have e:z=((z.toNat:Nat):Int):=by omega
  rw[e];exact q _ H' (by omega) (by omega) h3 h4
 have lim:∀ g:Int,0<=g->g<3->∃ l:Int,(if g=0 then V.int 4 else if g=1 then V.int 8 else V.int m)=.int l/\1<=l/\l<=max m 8:=λg g0 g1=>by
  by_cases z:g=0
  ·exact⟨4,by rw[if_pos z],by decide,by omega⟩
  ·by_cases z1:g=1
   ·exact⟨8,by rw[if_neg z,if_pos z1],by decide,by omega⟩
   ·exact⟨m,by rw[if_neg z,if_neg z1],m0,by omega⟩
 refine dec2 (λc=>⟨a,8,rfl,hh,by decide,by decide,λg H1 g0 g1 hh1 k1=>dec2 (λc2=>?_) (λc2=>?_)⟩) (λc=>bF ?_)
 ·refine⟨a,fr,rfl,hh1,by omega,by omega,λg2 H2 g20 g21 hh2 k2=>?_⟩
  refine zAc (by show 2<=sizeLine;decide) λp3 H3 hp3 s3 e3=>?_
  refine⟨a,2,rfl,hh2.same s3,by decide,by decide,λg4 H4 g40 g41 hh4 k4=>?_⟩
  have n3:p3≠a:=(hh2.ne hp3).symm
  refine i_ix (.inl (SqL.of (k4.one n3 e3))) (at2 g40 g41) ?_
  have kk:Kp [a] H H4:=((k1.trans k2).same s3).trans k4
  by_cases z:g4=0
  ·rw[if_pos z];exact fin _ _ f0 (by omega) hh4 kk
  ·rw[if_neg z];exact fin _ _ (by omega) (by omega) hh4 kk
 ·refine⟨a,3,rfl,hh1,by decide,by decide,λg2 H2 g20 g21 hh2 k2=>?_⟩
  refine zAc (by show 3<=sizeLine;decide) λp3 H3 hp3 s3 e3=>?_
  obtain⟨l,el,l0,l1⟩:=lim g2 g20 g21
  refine i_ix (.inl (SqL.of e3)) ((at3 g20 g21).trans (congrArg some el)) ?_
  refine⟨a,l,rfl,hh2.same s3,by omega,by omega,λg4 H4 g40 g41 hh4 k4=>?_⟩
  exact fin _ _ (by omega) (by omega) hh4 (((k1.trans k2).same s3).trans k4)
 ·refine⟨a,3,rfl,hh,by decide,by decide,λg2 H2 g20 g21 hh2 k2=>?_⟩
  refine zAc (by show 3<=sizeLine;decide) λp3 H3 hp3 s3 e3=>?_
  obtain⟨l,el,l0,l1⟩:=lim g2 g20 g21
  refine i_ix (.inl (SqL.of e3)) ((at3 g20 g21).trans (congrArg some el)) ?_
  refine⟨a,l,rfl,hh2.same s3,by omega,by omega,λg4 H4 g40 g41 hh4 k4=>?_⟩
  exact fin _ _ (by omega) (by omega) hh4 ((k2.same s3).trans k4)
abbrev zq16:Stmt:=top 5
theorem zqeq:FnScope ["thing"] ["thing"] (zAA zq16):=⟨rfl,rfl,rfl,by decide +kernel,rfl,by decide +kernel,by decide +kernel⟩
theorem zq6r:Vis (zAA zq16) "thing":=Or.inl (by kernel_rfl)
theorem zqcd:(zAA zq16).names.lookup ("bool":Str)=some NameKind.globalImplicit:=by kernel_rfl
theorem zqd7:(zAA zq16).names.lookup ("int":Str)=some NameKind.globalImplicit:=by kernel_rfl
theorem zq40:(zAA zq16).names.lookup ("isinstance":Str)=some NameKind.globalImplicit:=by kernel_rfl
def zqf8 {cdv:Value}{A:Around}{outer:List Env}{s:Shared}{H:Hp}{E:XK}(B:Bl mg)(hr:Room 0 (A.deeper (PyProof.Rows.envOfC "is_whole" (zAA zq16) s.heap.objs.size f cdv))) :
  { t:TS // QB (cxOf CX0 P w K mg base ["thing"] "is_whole" (zAA zq16) f cdv A outer s H E).nox (zAF zq16) t } :=
 ⟨_,(zAH (zAR (zGP (K:=K) rfl (zAa (kIsi (K:=K) rfl) zq40 B.isinstance zAb (zAB (qv 0 rfl zq6r) (zAB (zFI zqd7 B.int zDI) zAC))) (zGM (zLQ (K:=K) rfl (zAa (kIsi (K:=K) rfl) zq40 B.isinstance zAb (zAB (qv 0 rfl zq6r) (zAB (zFI zqcd B.bool zDw) zAC))))))))⟩
def zq5d:Sp:=λvs H Q _=>∃ i:Int,vs=[.int i]/\Q (.bl true) H
theorem zqer (B:Bl mg)(F:Fun K "is_whole" "is_whole" zq16 f fd):FnOk P w K mg base CX0 1 f fd ["thing"] zq5d:=by
 refine F.okq zqeq (λvs H Q E h=>?_) (λcdv A outer s H vs Q E hr h=>?_)
 ·obtain⟨i,rfl,_⟩:=h;rfl
 obtain⟨i,rfl,q⟩:=h
 refine⟨zqf8 B hr,?_⟩
 refine zFL (.int i) (by simp) (by simp) (bIs (by decide +kernel) ?_)
 refine zFL (.int i) (by simp) (by simp) ?_
 have e:isTy "int" "bool"=false:=by decide +kernel
 rw[e];exact q
abbrev zqw:Stmt:=top 6
theorem zqe8:FnScope ["thing","low","high"] ["thing","low","high"] (zAA zqw):=⟨rfl,rfl,rfl,by decide +kernel,rfl,by decide +kernel,by decide +kernel⟩
theorem zqb4:Vis (zAA zqw) "high":=Or.inl (by kernel_rfl)
theorem zqce:Vis (zAA zqw) "low":=Or.inl (by kernel_rfl)
theorem zq69:Vis (zAA zqw) "thing":=Or.inl (by kernel_rfl)
theorem zq8l:(zAA zqw).names.lookup ("is_whole":Str)=some NameKind.globalImplicit:=by kernel_rfl
def zqes {cdv:Value}{A:Around}{outer:List Env}{s:Shared}{H:Hp}{E:XK}(B:Bl mg)(zq4f:Def P w K mg base 1 "is_whole" ["thing"] zq5d)(hr:Room 1 (A.deeper (PyProof.Rows.envOfC "is_within" (zAA zqw) s.heap.objs.size f cdv))) :
  { t:TS // QB (cxOf CX0 P w K mg base ["thing","low","high"] "is_within" (zAA zqw) f cdv A outer s H E).nox (zAF zqw) t } :=
 ⟨_,(zAH (zAR (zGP (K:=K) rfl (zAN zq4f hr (by decide) zq8l (zAB (qv 0 rfl zq69) zAC)) (zGM (zHc opLe opLe (qv 1 rfl zqce) (qv 0 rfl zq69) (qv 2 rfl zqb4))))))⟩
def zq2e:Sp:=λvs H Q _=>∃ i l u:Int,vs=[.int i,.int l,.int u]/\Q (.bl (decide (l<=i/\i<=u))) H
theorem zqe9 (B:Bl mg)(zq4f:Def P w K mg base 1 "is_whole" ["thing"] zq5d)(F:Fun K "is_within" "is_within" zqw f fd):FnOk P w K mg base CX0 2 f fd ["thing","low","high"] zq2e:=by
 refine F.okq zqe8 (λvs H Q E h=>?_) (λcdv A outer s H vs Q E hr h=>?_)
 ·obtain⟨i,l,u,rfl,_⟩:=h;rfl
 obtain⟨i,l,u,rfl,q⟩:=h
 refine⟨zqes B zq4f hr,?_⟩
 refine⟨i,rfl,bT (dec2 (λc=>?_) (λc=>?_))⟩
 ·have e:decide (l<=i/\i<=u)=decide (i<=u):=by simp[c]
  rw[e] at q;exact q
 ·have e:decide (l<=i/\i<=u)=false:=by simp[c]
  rw[e] at q;exact q
abbrev zqs:Stmt:=top 7
theorem zqdt:FnScope ["row","many"] ["row","many"] (zAA zqs):=⟨rfl,rfl,rfl,by decide +kernel,rfl,by decide +kernel,by decide +kernel⟩
theorem zqac:Vis (zAA zqs) "many":=Or.inl (by kernel_rfl)
theorem zqb5:Vis (zAA zqs) "row":=Or.inl (by kernel_rfl)
theorem zq7m:(zAA zqs).names.lookup ("is_within":Str)=some NameKind.globalImplicit:=by kernel_rfl
theorem zqb6:(zAA zqs).names.lookup ("len":Str)=some NameKind.globalImplicit:=by kernel_rfl
def zqea {cdv:Value}{A:Around}{outer:List Env}{s:Shared}{H:Hp}{E:XK}(B:Bl mg)(zq1e:Def P w K mg base 2 "is_within" ["thing","low","high"] zq2e)(hr:Room 2 (A.deeper (PyProof.Rows.envOfC "check_many" (zAA zqs) s.heap.objs.size f cdv))) :
  { t:TS // QB (cxOf CX0 P w K mg base ["row","many"] "check_many" (zAA zqs) f cdv A outer s H E).nox (zAF zqs) t } :=
 ⟨_,(zAH (zA8 (zCq (zCX (K:=K) rfl (zAN zq1e hr (by decide) zq7m (zAB (qv 1 rfl zqac) (zAB zAD (zAB (zAa (kLen (K:=K) rfl) zqb6 B.len zAV (zAB (qv 0 rfl zqb5) zAC)) zAC)))))) (zAH zEX) zAr))⟩
def zqr:Sp:=λvs H Q _=>∃ (r:Addr) (m:Int) (xs:List V),vs=[.ref r,.int m]/\H r=some (.lst xs)/\1<=m/\m<=xs.length/\Q .non H
theorem zqdu (B:Bl mg)(zq1e:Def P w K mg base 2 "is_within" ["thing","low","high"] zq2e)(F:Fun K "check_many" "check_many" zqs f fd):FnOk P w K mg base CX0 3 f fd ["row","many"] zqr:=by
 refine F.okq zqdt (λvs H Q E h=>?_) (λcdv A outer s H vs Q E hr h=>?_)
 ·obtain⟨r,m,xs,rfl,_⟩:=h;rfl
 obtain⟨r,m,xs,rfl,hr0,h1,h2,q⟩:=h
 refine⟨zqea B zq1e hr,?_⟩
 refine zIX hr0 ⟨m,1,_,rfl,?_⟩
 have e:decide ((1:Int)<=m/\m<=(xs.length:Int))=true:=decide_eq_true ⟨h1,h2⟩
 rw[e]
 exact bF q
structure LL (H:Hp)(p:Addr)(ps:List Addr)(pss:List (List Int)):Prop where
 at_:H p=some (.lst (ps.map V.ref))
 nd:ps.Nodup
 np:p∉ps
 it:Paired (λa ns=>H a=some (.lst (List.map V.int ns))) ps pss
theorem zBO {α β:Type}{F G:α->β->Prop}:∀ {l:List α} {m:List β},Paired F l m->(∀ a∈l,∀ b,F a b->G a b)->Paired G l m
 | _,_,.nil,_=>.nil
 | _,_,.cons r t,f=>.cons (f _ List.mem_cons_self _ r) (zBO t λa ha=>f a (List.mem_cons_of_mem _ ha))
theorem zBG {α β:Type}{F:α->β->Prop}{a:α}{b:β}(h:F a b):∀ {l:List α} {m:List β},Paired F l m->Paired F (l++[a]) (m++[b])
 | _,_,.nil=>.cons h .nil
 | _,_,.cons r t=>.cons r (zBG h t)
theorem zDy {α β:Type}{F:α->β->Prop}:∀ {l:List α} {m:List β},Paired F l m->∀ {a:α},a∈l->∃ b,F a b
 | _,_,.cons r t,a,h=>by
  rcases List.mem_cons.mp h with rfl | h
  ·exact⟨_,r⟩
  ·exact zDy t h
section
variable {H H':Hp}{p:Addr}{ps S:List Addr}{pss:List (List Int)}
theorem LL.len (h:LL H p ps pss):ps.length=pss.length:=Paired.length h.it
end
abbrev zs (cs:List Nat):List Int:=cs.map λ(n:Nat)=>(n:Int)
theorem zM7 {cs:List Nat}{i:Nat}{x:V}(h:((zs cs).map V.int)[i]?=some x):∃ n:Nat,x=.int n/\cs[i]?=some n:=by
 obtain⟨z,rfl,hz,_⟩:=zAt h
 rw[List.getElem?_map] at hz
 cases e:cs[i]? with
 | none=>rw[e] at hz;cases hz
 | some n=>rw[e] at hz;cases hz;exact⟨n,rfl,rfl⟩
theorem zEw {as:List Addr}{i:Nat}{x:V}(h:(as.map V.ref)[i]?=some x):∃ b,as[i]?=some b/\x=.ref b:=by
 rw[List.getElem?_map] at h
 cases e:as[i]? with
 | none=>rw[e] at h;cases h
 | some b=>rw[e] at h;cases h;exact⟨b,rfl,rfl⟩
theorem zAw {α β:Type}{F:α->β->Prop}{l:List α}{m:List β}(h:Paired F l m){i:Nat}{a:α}(ha:l[i]?=some a):∃ b,m[i]?=some b/\F a b:=by
 have hl:=Paired.length h
 have hi:=(List.getElem?_eq_some_iff.mp ha).1
 have hi2:i<m.length:=by omega
 exact⟨m[i],List.getElem?_eq_getElem hi2,zA9 h i ha (List.getElem?_eq_getElem hi2)⟩
theorem zBH {ps:List Addr}{i:Nat}{a:Addr}(h:ps[i]?=some a):(ps.map V.ref)[i]?=some (.ref a):=by rw[List.getElem?_map,h];rfl
abbrev zqp:Stmt:=top 12
theorem zq61:FnScope ["row","sums","number"] ["row"] (zAA zqp):=⟨rfl,rfl,rfl,by decide +kernel,rfl,by decide +kernel,by decide +kernel⟩
theorem zq94:Loc (zAA zqp) "number":=Or.inl (by kernel_rfl)
theorem zqad:Loc (zAA zqp) "sums":=Or.inl (by kernel_rfl)
theorem zq95:Vis (zAA zqp) "number":=Or.inl (by kernel_rfl)
theorem zqb7:Vis (zAA zqp) "row":=Or.inl (by kernel_rfl)
theorem zq3e:Vis (zAA zqp) "sums":=Or.inl (by kernel_rfl)
def zqeb {cdv:Value}{A:Around}{outer:List Env}{s:Shared}{H:Hp}{E:XK}(B:Bl mg)(hr:Room 0 (A.deeper (PyProof.Rows.envOfC "sums_ahead" (zAA zqp) s.heap.objs.size f cdv))) :
  { t:TS // QB (cxOf CX0 P w K mg base ["row","sums","number"] "sums_ahead" (zAA zqp) f cdv A outer s H E).nox (zAF zqp) t } :=
 ⟨_,(zAE (zAJ (i:=1) zq61.nd rfl zqad (.inl rfl) (zAf (zAB zAD zAC)))
  (zAY (zAm PassesOwn.never rfl (zAu (K:=K) rfl (qv 0 rfl zqb7)) (zAL (i:=2) zq61.nd rfl zq94 (.inl rfl)) (zAH (zBQ (zCB (K:=K) rfl PySem.F.plainAttrs_list PySem.F.slot_list_append PySem.F.type_list_append zB8 (qv 1 rfl zq3e) (zAO zAq (zAU (K:=K) rfl (qv 1 rfl zq3e) (zC0 zCz zAD) (λ_ _=>rfl)) (qv 2 rfl zq95))))))
  (zAH (zAR (qv 1 rfl zq3e)))))⟩
open M25 in
def zq1m:Sp:=λvs H Q _=>∃ (r:Addr) (ns:List Int),vs=[.ref r]/\H r=some (.lst (ns.map V.int))/\ns.length<=1000/\∀ (p:Addr) (H':Hp),H p=none->Same H H'->H' p=some (.lst ((pre ns (ns.length+1)).map V.int))->Q (.ref p) H'
open M25 in
theorem zDJ (ns:List Int)(k:Nat):(pre ns (k+1)).map V.int=(pre ns k).map V.int++[V.int (S ns k)]:=by rw[zDC,List.map_append];rfl
open M25 in
theorem zCG {K:W.Frag}{H:Hp}{a:Addr}{ns:List Int}{N:Nat}{i:Int}{Q:VK}(k:Nat)(h:H a=some (.lst ((pre ns N).map V.int)))(hi:i=k)(hk:k<N)(q:Q (.int (S ns k)) H):hIx K a i H Q :=
 zBD k h hi (by rw[List.getElem?_map,zIm hk];rfl) q
open M25 in
theorem zqdv (B:Bl mg)(F:Fun K "sums_ahead" "sums_ahead" zqp f fd):FnOk P w K mg base CX0 1 f fd ["row"] zq1m:=by
 refine F.okq zq61 (λvs H Q E h=>?_) (λcdv A outer s H vs Q E hr h=>?_)
 ·obtain⟨r,ns,rfl,_⟩:=h;rfl
 obtain⟨r,ns,rfl,hr0,hle,q⟩:=h
 refine⟨zqeb B  hr,?_⟩
 refine zAc (by show 1<=sizeLine;decide) λp H1 hp s1 e1=>?_
 refine⟨λσ H'=>Same H H'/\H' p=some (.lst ((pre ns (ns.length+1)).map V.int))/\∃ o,σ=[some (.ref r),some (.ref p),o],?_,?_⟩
 ·refine⟨⟨_,SqL.of (s1 _ _ hr0)⟩,zBr (xs:=ns.map V.int) (λi σ H'=>Same H H'/\H' p=some (.lst ((pre ns (i+1)).map V.int))/\∃ o,σ=[some (.ref r),some (.ref p),o]) ?_ ?_ ?_ ?_⟩
  ·refine⟨s1,?_,_,rfl⟩
   rw[e1,zDJ,zEp];rfl
  ·rintro i σ H' _ ⟨s',_⟩
   exact SqL.of (s' _ _ hr0)
  ·rintro i x σ H2 hx ⟨s2,e2,o,rfl⟩
   obtain⟨z,rfl,hz,_⟩:=zAt hx
   have hi:i<ns.length:=(List.getElem?_eq_some_iff.mp hz).1
   have e2':=e2
   rw[zDJ] at e2'
   refine⟨zB9 e2,i_ix (.inl (SqL.of e2')) (zCI _ _) ?_⟩
   refine zBu e2 (by rw[zGu];omega) λH3 k3 e3=>?_
   refine⟨s2.new k3 hp,?_,_,rfl⟩
   rw[e3,zDC ns (i+1),zGt hz]
  ·rintro σ H' ⟨s',e',o⟩
   rw[List.length_map] at e'
   exact⟨s',e',o⟩
 ·rintro σ H' ⟨s',e',o,rfl⟩
  exact q p H' hp s' e'
abbrev zq5:Stmt:=top 11
theorem zq12:FnScope ["row","low","high","ahead","ranges","first","behind","begin"] ["row","low","high"] (zAA zq5):=⟨rfl,rfl,rfl,by decide +kernel,rfl,by decide +kernel,by decide +kernel⟩
theorem zq9p:Loc (zAA zq5) "ahead":=Or.inl (by kernel_rfl)
theorem zq9q:Loc (zAA zq5) "begin":=Or.inl (by kernel_rfl)
theorem zq2z:Loc (zAA zq5) "behind":=Or.inl (by kernel_rfl)
theorem zq37:Loc (zAA zq5) "first":=Or.inl (by kernel_rfl)
theorem zq96:Loc (zAA zq5) "ranges":=Or.inl (by kernel_rfl)
theorem zq23:Vis (zAA zq5) "ahead":=Or.inl (by kernel_rfl)
theorem zq38:Vis (zAA zq5) "begin":=Or.inl (by kernel_rfl)
theorem zq1x:Vis (zAA zq5) "behind":=Or.inl (by kernel_rfl)
theorem zq1k:Vis (zAA zq5) "first":=Or.inl (by kernel_rfl)
theorem zqae:Vis (zAA zq5) "high":=Or.inl (by kernel_rfl)
theorem zqb8:Vis (zAA zq5) "low":=Or.inl (by kernel_rfl)
theorem zq50:Vis (zAA zq5) "ranges":=Or.inl (by kernel_rfl)
theorem zq2m:Vis (zAA zq5) "row":=Or.inl (by kernel_rfl)
theorem zq3x:(zAA zq5).names.lookup ("len":Str)=some NameKind.globalImplicit:=by kernel_rfl
theorem zq6s:(zAA zq5).names.lookup ("max":Str)=some NameKind.globalImplicit:=by kernel_rfl
theorem zq9r:(zAA zq5).names.lookup ("range":Str)=some NameKind.globalImplicit:=by kernel_rfl
theorem zq7a:(zAA zq5).names.lookup ("sums_ahead":Str)=some NameKind.globalImplicit:=by kernel_rfl
def zqec {cdv:Value}{A:Around}{outer:List Env}{s:Shared}{H:Hp}{E:XK}(B:Bl mg)(zq18:Def P w K mg base 1 "sums_ahead" ["row"] zq1m)(hr:Room 1 (A.deeper (PyProof.Rows.envOfC "end_ranges" (zAA zq5) s.heap.objs.size f cdv))) :
  { t:TS // QB (cxOf CX0 P w K mg base ["row","low","high","ahead","ranges","first","behind","begin"] "end_ranges" (zAA zq5) f cdv A outer s H E).nox (zAF zq5) t } :=
 ⟨_,(zAE (zAJ (i:=3) zq12.nd rfl zq9p (.inl rfl) (zAN zq18 hr (by decide) zq7a (zAB (qv 0 rfl zq2m) zAC)))
  (zAE (zAJ (i:=4) zq12.nd rfl zq96 (.inl rfl) (zAf zAC))
  (zAE (zLU zAD (zAL (i:=5) zq12.nd rfl zq37 (.inl rfl)) (zAL (i:=6) zq12.nd rfl zq2z (.inl rfl)))
  (zAY (zAm PassesOwn.never rfl (zCT zq9r B.range (zAB (zAa (kLen (K:=K) rfl) zq3x B.len zAV (zAB (qv 0 rfl zq2m) zAC)) zAC)) (zAL (i:=7) zq12.nd rfl zq9q (.inl rfl)) (zAE (zAJ (i:=5) zq12.nd rfl zq37 (.inl rfl) (zAa (kMax (K:=K) rfl rfl) zq6s B.max zA0 (zAB (qv 5 rfl zq1k) (zAB (zAO zAq (qv 7 rfl zq38) zAD) zAC))))
  (zAY (zBJ PassesOwn.never (QW.pt (zEZ (zAX opLe (qv 5 rfl zq1k) (zAa (kLen (K:=K) rfl) zq3x B.len zAV (zAB (qv 0 rfl zq2m) zAC))) (zC1 (zAX opLt (zAO zA7 (zAU (K:=K) rfl (qv 3 rfl zq23) (qv 5 rfl zq1k) (λ_ _=>rfl)) (zAU (K:=K) rfl (qv 3 rfl zq23) (qv 7 rfl zq38) (λ_ _=>rfl))) (qv 1 rfl zqb8))))) (zAH (zBx (i:=5) zq12.nd rfl zq37 (.inl rfl) zAD zDZ)))
  (zAE (zAJ (i:=6) zq12.nd rfl zq2z (.inl rfl) (zAa (kMax (K:=K) rfl rfl) zq6s B.max zA0 (zAB (qv 6 rfl zq1x) (zAB (qv 5 rfl zq1k) zAC))))
  (zAY (zBJ PassesOwn.never (QW.pt (zEZ (zAX opLe (qv 6 rfl zq1x) (zAa (kLen (K:=K) rfl) zq3x B.len zAV (zAB (qv 0 rfl zq2m) zAC))) (zC1 (zAX opLe (zAO zA7 (zAU (K:=K) rfl (qv 3 rfl zq23) (qv 6 rfl zq1x) (λ_ _=>rfl)) (zAU (K:=K) rfl (qv 3 rfl zq23) (qv 7 rfl zq38) (λ_ _=>rfl))) (qv 2 rfl zqae))))) (zAH (zBx (i:=6) zq12.nd rfl zq2z (.inl rfl) zAD zDZ)))
  (zAH (zBQ (zCB (K:=K) rfl PySem.F.plainAttrs_list PySem.F.slot_list_append PySem.F.type_list_append zB8 (qv 4 rfl zq50) (zCp (zAB (qv 5 rfl zq1k) (zAB (qv 6 rfl zq1x) zAC)))))))))))
  (zAH (zAR (qv 4 rfl zq50)))))))⟩
structure PL (H:Hp)(p:Addr)(ps:List Addr)(rs:List (Nat×Nat)):Prop where
 at_:H p=some (.lst (ps.map V.ref))
 it:Paired (λa (r:Nat×Nat)=>H a=some (.tup [.int r.1,.int r.2])) ps rs
theorem PL.same {H H':Hp}{p:Addr}{ps:List Addr}{rs:List (Nat×Nat)}(h:PL H p ps rs)(s:Same H H'):PL H' p ps rs:=⟨s _ _ h.at_,zBO h.it λa ha b e=>s _ _ e⟩
theorem PL.add {H H3 H4:Hp}{p q:Addr}{ps:List Addr}{rs:List (Nat×Nat)}{f g:Nat}(h:PL H p ps rs)(s:Same H H3)(e3:H3 q=some (.tup [.int f,.int g]))(k:Kp [p] H3 H4)(e4:H4 p=some (.lst (ps.map V.ref++[.ref q]))):PL H4 p (ps++[q]) (rs++[(f,g)]):=by
 have hp3:=s _ _ h.at_
 have ne:∀ a xs,H3 a=some (.tup xs)->a≠p:=λa xs e z=>by rw[z,hp3] at e;cases e
 refine⟨by rw[e4,List.map_append];rfl,?_⟩
 exact zBG (F:=λa (r:Nat×Nat)=>H4 a=some (.tup [.int r.1,.int r.2])) (b:=(f,g)) (k.one (ne _ _ e3) e3) (zBO h.it λa ha b e=>k.one (ne _ _ (s _ _ e)) (s _ _ e))
open M25 M14 in
def zq1z:Sp:=λvs H Q _=>∃ (r:Addr) (ns:List Int) (lo hi:Int),vs=[.ref r,.int lo,.int hi]/\H r=some (.lst (ns.map V.int))/\ns.length<=1000/\(∀ n∈ns,0<=n) /\
 ∀ (p:Addr) (ps:List Addr) (rs:List (Nat×Nat)) (H':Hp),H p=none->Same H H'->PL H' p ps rs->rs.length=ns.length->(∀ j f h,rs[j]?=some (f,h)->Rng ns lo hi j f h)->Q (.ref p) H'
open M25 M14 in
theorem zqdw (B:Bl mg)(zq18:Def P w K mg base 1 "sums_ahead" ["row"] zq1m)(F:Fun K "end_ranges" "end_ranges" zq5 f fd):FnOk P w K mg base CX0 2 f fd ["row","low","high"] zq1z:=by
 refine F.okq zq12 (λvs H Q E h=>?_) (λcdv A outer s H vs Q E hr h=>?_)
 ·obtain⟨r,ns,lo,hi,rfl,_⟩:=h;rfl
 obtain⟨r,ns,lo,hi,rfl,hr0,hle,hnn,q⟩:=h
 refine⟨zqec B zq18 hr,?_⟩
 refine⟨r,ns,rfl,hr0,hle,λah H1 hah s1 e1=>?_⟩
 refine zAc (by show 0<=sizeLine;decide) λp H2 hp s2 e2=>?_
 have s02:=s1.trans s2
 have hp0:H p=none:=s1.free hp
 have nap:ah≠p:=zAK e1 hp
 have mono:∀ {i j:Nat},i<=j->S ns i<=S ns j:=λh=>S_mono hnn h
 refine⟨λσ H'=>Same H H'/\(∃ ps rs,PL H' p ps rs/\rs.length=ns.length/\∀ j f h,rs[j]?=some (f,h)->Rng ns lo hi j f h)/\∃ o5 o6 o7,σ=[some (.ref r),some (.int lo),some (.int hi),some (.ref ah),some (.ref p),o5,o6,o7],?_,?_⟩
 ·refine zA6 (s02 _ _ hr0) ⟨⟨by omega,by omega⟩,zAl (λi σ H'=>Same H H'/\H' ah=some (.lst ((pre ns (ns.length+1)).map V.int))/\(∃ ps rs,PL H' p ps rs/\rs.length=i/\∀ j f h,rs[j]?=some (f,h)->Rng ns lo hi j f h)/\∃ (fi be:Nat) (o7:Option V),fi<=ns.length+1/\be<=ns.length+1/\(∀ e,i<e->e<fi->S ns e-S ns i<lo)/\(∀ e,i<e->fi<=e->e<be->S ns e-S ns i<=hi)/\σ=[some (.ref r),some (.int lo),some (.int hi),some (.ref ah),some (.ref p),some (.int fi),some (.int be),o7]) ?_ ?_ ?_⟩
  ·exact⟨s02,s2 _ _ e1,⟨[],[],⟨e2,.nil⟩,rfl,by simp⟩,1,1,_,by omega,by omega,λe h1 h2=>by omega,λe h1 h2 h3=>by omega,rfl⟩
  ·rintro i σ H3 hi' ⟨s3,eah,⟨ps,rs,pl,hrl,hrs⟩,fi,be,o7,fi1,be1,cf,cb,rfl⟩
   have hi'':i<ns.length:=by omega
   have er3:=s3 _ _ hr0
   refine⟨λσ H'=>H'=H3/\∃ f:Nat,fi<=f/\i+1<=f/\f<=ns.length+1/\(∀ e,i<e->e<f->S ns e-S ns i<lo)/\(f<=ns.length->lo<=S ns f-S ns i)/\σ=[some (.ref r),some (.int lo),some (.int hi),some (.ref ah),some (.ref p),some (.int f),some (.int be),some (.int (0+(i:Int)))],?_,?_⟩
   ·have e0:max (fi:Int) (0+(i:Int)+1)=((max fi (i+1):Nat):Int):=by omega
    refine zBk (λmm σ H'=>H'=H3/\∃ f:Nat,mm=ns.length+1-f/\fi<=f/\i+1<=f/\f<=ns.length+1/\(∀ e,i<e->e<f->S ns e-S ns i<lo)/\σ=[some (.ref r),some (.int lo),some (.int hi),some (.ref ah),some (.ref p),some (.int f),some (.int be),some (.int (0+(i:Int)))]) (ns.length+1-max fi (i+1)) ⟨rfl,max fi (i+1),rfl,by omega,by omega,by omega,λe h1 h2=>cf e h1 (by omega),by rw[e0];rfl⟩ ?_
    rintro mm σ H' ⟨rfl,f,hmm,h1,h2,h3,h4,rfl⟩
    refine zA6 er3 (dec2 (λc=>?_) (λc=>bF ?_))
    ·refine zCG f eah rfl (by omega) (zCG i eah (by omega) (by omega) (dec2 (λc2=>?_) (λc2=>?_)))
     ·refine⟨ns.length+1-(f+1),by omega,rfl,f+1,rfl,by omega,by omega,by omega,λe g1 g2=>?_,rfl⟩
      by_cases z:e=f
      ·subst z;exact c2
      ·exact h4 e g1 (by omega)
     ·exact⟨rfl,f,h1,h2,h3,h4,λ_=>by omega,rfl⟩
    ·exact⟨rfl,f,h1,h2,h3,h4,λz=>by omega,rfl⟩
   rintro σ H' ⟨rfl,f,f0,f1,f2,cf',fge,rfl⟩
   have e1':max (be:Int) (f:Int)=((max be f:Nat):Int):=by omega
   refine⟨λσ H4=>H4=H'/\∃ g:Nat,f<=g/\g<=ns.length+1/\(∀ e,i<e->f<=e->e<g->S ns e-S ns i<=hi)/\(g<=ns.length->hi<S ns g-S ns i)/\σ=[some (.ref r),some (.int lo),some (.int hi),some (.ref ah),some (.ref p),some (.int f),some (.int g),some (.int (0+(i:Int)))],?_,?_⟩
   ·refine zBk (λmm σ H4=>H4=H'/\∃ g:Nat,mm=ns.length+1-g/\f<=g/\g<=ns.length+1/\(∀ e,i<e->f<=e->e<g->S ns e-S ns i<=hi)/\σ=[some (.ref r),some (.int lo),some (.int hi),some (.ref ah),some (.ref p),some (.int f),some (.int g),some (.int (0+(i:Int)))]) (ns.length+1-max be f) ⟨rfl,max be f,rfl,by omega,by omega,λe h1 h2 h3=>cb e h1 (by omega) (by omega),by rw[e1'];rfl⟩ ?_
    rintro mm σ H4 ⟨rfl,g,hmm,h1,h2,h3,rfl⟩
    refine zA6 er3 (dec2 (λc=>?_) (λc=>bF ?_))
    ·refine zCG g eah rfl (by omega) (zCG i eah (by omega) (by omega) (dec2 (λc2=>?_) (λc2=>?_)))
     ·refine⟨ns.length+1-(g+1),by omega,rfl,g+1,rfl,by omega,by omega,λe g1 g2 g3=>?_,rfl⟩
      by_cases z:e=g
      ·subst z;exact c2
      ·exact h3 e g1 g2 (by omega)
     ·exact⟨rfl,g,h1,h2,h3,λ_=>by omega,rfl⟩
    ·exact⟨rfl,g,h1,h2,h3,λz=>by omega,rfl⟩
   rintro σ H4 ⟨rfl,g,g0,g1,cb',ggt,rfl⟩
   have hpl:=Paired.length pl.it
   refine⟨zB9 pl.at_,zCm (by show 2<=sizeLine;decide) λtu H5 htu s5 e5=>zGF (s5 _ _ pl.at_) (zBo (by rw[List.length_map];omega)) λH6 k6 e6=>?_⟩
   refine⟨(s3.trans s5).new k6 hp0,k6.one nap (s5 _ _ eah),⟨_,_,pl.add s5 e5 k6 e6,by simp[hrl],λj f' h' hj=>?_⟩,f,g,_,f2,g1,λe h1 h2=>?_,λe h1 h2 h3=>?_,rfl⟩
   ·by_cases hjr:j<rs.length
    ·rw[List.getElem?_append_left hjr] at hj;exact hrs j f' h' hj
    ·rw[List.getElem?_append_right (by omega)] at hj
     have hj0:j-rs.length=0:=by
      by_cases h0:j-rs.length=0
      ·exact h0
      ·rw[List.getElem?_eq_none (by simp;omega)] at hj;cases hj
     rw[hj0] at hj
     simp only[List.getElem?_cons_zero,Option.some.injEq,Prod.mk.injEq] at hj
     obtain⟨rfl,rfl⟩:=hj
     have ej:j=i:=by omega
     subst ej
     refine⟨f1,g0,g1,λe h1 h2=>⟨λ⟨a1,a2⟩=>⟨?_,cb' e h1 a1 a2⟩,λ⟨a1,a2⟩=>⟨?_,?_⟩⟩⟩
     ·have:=fge (by omega);have:=mono a1;omega
     ·rcases Nat.lt_or_ge e f with z | z
      ·have:=cf' e h1 z;omega
      ·exact z
     ·rcases Nat.lt_or_ge e g with z | z
      ·exact z
      ·have:=ggt (by omega);have:=mono z;omega
   ·have:=cf' e (by omega) h2;have:=mono (show i<=i+1 by omega);omega
   ·have:=cb' e (by omega) h2 h3;have:=mono (show i<=i+1 by omega);omega
  ·rintro σ H' ⟨h1,_,⟨ps,rs,h2,h3,h4⟩,fi,be,o7,_,_,_,_,rfl⟩
   exact⟨h1,⟨ps,rs,h2,by omega,h4⟩,_,_,_,rfl⟩
 ·rintro σ H' ⟨h1,⟨ps,rs,h2,h3,h4⟩,o5,o6,o7,rfl⟩
  exact q p ps rs H' hp0 h1 h2 h3 h4
end
end K
namespace K
open PySem L2
section
variable {C:Addr}{P:Program}{w:World}{K:W.Frag}{mg:Str->Option Value}{base:Heap}{f:Addr}{fd:FuncData}
theorem LL.add {H H3 H4:Hp}{p q:Addr}{ps:List Addr}{pss:List (List Int)}{l:List Int}(h:LL H p ps pss)(hq:H q=none)(s:Same H H3)(e3:H3 q=some (.lst (l.map V.int)))(k:Kp [p] H3 H4)(e4:H4 p=some (.lst (ps.map V.ref++[.ref q]))):LL H4 p (ps++[q]) (pss++[l]):=by
 have hqp:q≠p:=(zAK h.at_ hq).symm
 have hqn:q∉ps:=λhm=>by
  obtain⟨b,e⟩:=zDy h.it hm
  rw[hq] at e;cases e
 refine⟨by rw[e4,List.map_append];rfl,?_,?_,?_⟩
 ·exact List.nodup_append.mpr ⟨h.nd,by simp,λa ha b hb=>by
   have:b=q:=by simpa using hb
   subst this;exact λz=>hqn (z▸ha)⟩
 ·intro hm
  rcases List.mem_append.mp hm with hm | hm
  ·exact h.np hm
  ·exact hqp (by simpa using hm:p=q).symm
 ·exact zBG (F:=λa ns=>H4 a=some (.lst (List.map V.int ns))) (b:=l) (k.one hqp e3) (zBO h.it λa ha b e=>k.one (λz=>h.np (z▸ha)) (s _ _ e))
abbrev zqk:Stmt:=top 13
theorem zq3u:FnScope ["ranges","many","ways","left","fewer"] ["ranges","many"] (zAA zqk):=⟨rfl,rfl,rfl,by decide +kernel,rfl,by decide +kernel,by decide +kernel⟩
theorem zq9s:Loc (zAA zqk) "fewer":=Or.inr (by kernel_rfl)
theorem zqaf:Loc (zAA zqk) "left":=Or.inl (by kernel_rfl)
theorem zqag:Loc (zAA zqk) "ways":=Or.inl (by kernel_rfl)
theorem zqah:Vis (zAA zqk) "left":=Or.inl (by kernel_rfl)
theorem zqai:Vis (zAA zqk) "many":=Or.inl (by kernel_rfl)
theorem zq51:Vis (zAA zqk) "ranges":=Or.inl (by kernel_rfl)
theorem zq3f:Vis (zAA zqk) "ways":=Or.inl (by kernel_rfl)
theorem zqb9:(zAA zqk).names.lookup ("len":Str)=some NameKind.globalImplicit:=by kernel_rfl
theorem zq9t:(zAA zqk).names.lookup ("range":Str)=some NameKind.globalImplicit:=by kernel_rfl
def zqed {cdv:Value}{A:Around}{outer:List Env}{s:Shared}{H:Hp}{E:XK}(B:Bl mg)(hr:Room 0 (A.deeper (PyProof.Rows.envOfC "count_ways" (zAA zqk) s.heap.objs.size f cdv))) :
  { t:TS // QB (cxOf CX0 P w K mg base ["ranges","many","ways","left","fewer"] "count_ways" (zAA zqk) f cdv A outer s H E).nox (zAF zqk) t } :=
 ⟨_,(zAE (zAJ (i:=2) zq3u.nd rfl zqag (.inl rfl) (zAf (zAB (zAO zAq (zAO zCS (zAf (zAB zAD zAC)) (zAa (kLen (K:=K) rfl) zqb9 B.len zAV (zAB (qv 0 rfl zq51) zAC))) (zAf (zAB zAD zAC))) zAC)))
  (zAY (zAm PassesOwn.never rfl (zCT zq9t B.range (zAB (qv 1 rfl zqai) zAC)) (zAL (i:=3) zq3u.nd rfl zqaf (.inl rfl)) (zAE (zAJ (i:=4) zq3u.nd rfl zq9s (.inl rfl) (zAU (K:=K) rfl (qv 2 rfl zq3f) (qv 3 rfl zqah) (λ_ _=>rfl)))
  (zAH (zBQ (zCB (K:=K) rfl PySem.F.plainAttrs_list PySem.F.slot_list_append PySem.F.type_list_append zB8 (qv 2 rfl zq3f) (zAO zAq (zFJ ["first","behind","fewer"] [none,none,some 4] rfl (zAu (K:=K) rfl (qv 0 rfl zq51)) (λ_ _ _ _ _ _=>(zCW (K:=K) rfl rfl (zAk (zAL (i:=0) (show (["first","behind","fewer"]:List Str).Nodup by decide +kernel) rfl (by first | exact Or.inl rfl | exact Or.inr rfl) (by first | exact .inl rfl | exact .inr rfl)) (zAk (zAL (i:=1) (show (["first","behind","fewer"]:List Str).Nodup by decide +kernel) rfl (by first | exact Or.inl rfl | exact Or.inr rfl) (by first | exact .inl rfl | exact .inr rfl)) zBm)))) (λ_ _ _ _ _ _=>zC2) (λ_ _ _ _ _ _=>(zAa (kSum (K:=K) rfl rfl) rfl B.sum zB5 (zAB (zBz (K:=K) rfl (qv 2 rfl (by first | exact Or.inl rfl | exact Or.inr (Or.inl rfl) | exact Or.inr (Or.inr rfl))) (zBT (qv 0 rfl (by first | exact Or.inl rfl | exact Or.inr (Or.inl rfl) | exact Or.inr (Or.inr rfl)))) (zBT (qv 1 rfl (by first | exact Or.inl rfl | exact Or.inr (Or.inl rfl) | exact Or.inr (Or.inr rfl))))) zAC)))) (zAf (zAB zAD zAC))))))))
  (zAH (zAR (qv 2 rfl zq3f)))))⟩
open M25 M14 in
def zq20:Sp:=λvs H Q _=>∃ (g:Addr) (ps:List Addr) (rs:List (Nat×Nat)) (ns:List Int) (lo hi:Int) (m:Nat),vs=[.ref g,.int m]/\PL H g ps rs/\rs.length=ns.length/\(∀ j f h,rs[j]?=some (f,h)->Rng ns lo hi j f h)/\ns.length<=900/\m<=1000 /\
 ∀ (p:Addr) (qs:List Addr) (pss:List (List Int)) (H':Hp),H p=none->Same H H'->LL H' p qs pss->pss.length=m+1->(∀ k l,pss[k]?=some l->l=row (cnt ns lo hi k) (ns.length+1))->Q (.ref p) H'
open M25 M14 in
theorem zqdx (B:Bl mg)(F:Fun K "count_ways" "count_ways" zqk f fd):FnOk P w K mg base CX0 1 f fd ["ranges","many"] zq20:=by
 refine F.okq zq3u (λvs H Q E h=>?_) (λcdv A outer s H vs Q E hr h=>?_)
 ·obtain⟨g,ps,rs,ns,lo,hi,m,rfl,_⟩:=h;rfl
 obtain⟨g,ps,rs,ns,lo,hi,m,rfl,pl,hrl,hrs,hle,hm,q⟩:=h
 refine⟨zqed B  hr,?_⟩
 have hpl:=Paired.length pl.it
 refine zAc (by show 1<=sizeLine;decide) λp1 H1 hp1 s1 e1=>?_
 refine zIX (s1 _ _ pl.at_) (zIW (z:=0) e1 (by omega) (by rw[List.length_map];omega) λp2 H2 hp2 s2 e2=>?_)
 refine zAc (by show 1<=sizeLine;decide) λp3 H3 hp3 s3 e3=>?_
 refine zFG (s3 _ _ e2) e3 (zFK (by simp;omega)) λp4 H4 hp4 s4 e4=>?_
 have e4':H4 p4=some (.lst ((row (cnt ns lo hi 0) (ns.length+1)).map V.int)):=by
  have:row (cnt ns lo hi 0) (ns.length+1)=List.replicate ns.length 0++[1]:=cnt_zero
  rw[e4,this,List.map_append,List.length_map,hpl,hrl];rfl
 refine zAc (by show 1<=sizeLine;decide) λwy H5 hwy s5 e5=>?_
 have s04:=s1.trans (s2.trans (s3.trans s4))
 have s05:=s04.trans s5
 have hwy0:H wy=none:=s04.free hwy
 have ll0:LL H5 wy [p4] [row (cnt ns lo hi 0) (ns.length+1)]:=by
  refine⟨e5,by simp,?_,.cons (s5 _ _ e4') .nil⟩
  have:=zAK e4 hwy
  simpa using this.symm
 refine⟨λσ H'=>(∃ qs pss,Same H H'/\LL H' wy qs pss/\pss.length=m+1/\∀ k l,pss[k]?=some l->l=row (cnt ns lo hi k) (ns.length+1))/\∃ o3 o4,σ=[some (.ref g),some (.int m),some (.ref wy),o3,o4],?_,?_⟩
 ·refine⟨⟨by omega,by omega⟩,zAl (λi σ H'=>(∃ qs pss,Same H H'/\LL H' wy qs pss/\pss.length=i+1/\∀ k l,pss[k]?=some l->l=row (cnt ns lo hi k) (ns.length+1))/\∃ o3 o4,σ=[some (.ref g),some (.int m),some (.ref wy),o3,o4]) ?_ ?_ ?_⟩
  ·refine⟨⟨_,_,s05,ll0,rfl,λk l e=>?_⟩,_,_,rfl⟩
   match k,e with
   | 0,e=>simp at e;exact e.symm
   | k+1,e=>simp at e
  ·rintro i σ H6 hi' ⟨⟨qs,pss,s6,ll,hpp,hok⟩,o3,o4,rfl⟩
   have hi'':i<m:=by omega
   have hql:=ll.len
   have hx:qs[i]?=some (qs[i]'(by omega)):=List.getElem?_eq_getElem (by omega)
   obtain⟨fw,hfw,efw⟩:=zAw ll.it hx
   generalize qs[i]'(by omega)=fa at hx efw
   have hfe:=hok i fw hfw
   subst hfe
   refine zBD i ll.at_ (by omega) (zBH hx) ?_
   have pl6:=pl.same s6
   refine⟨zB9 ll.at_,⟨_,SqL.of pl6.at_⟩,zA3 (ps.map V.ref) (λb D σ H' ys=>ys=(row (cnt ns lo hi (i+1)) b).map V.int/\Same H6 H'/\∃ o1 o2,σ=[o1,o2,some (.ref fa)]) ?_ ?_ ?_ ?_⟩
   ·intro D H' hD s' e'
    exact⟨rfl,s',_,_,rfl⟩
   ·rintro b D σ H' ys hD ⟨_,s',_⟩
    exact SqL.of (s' _ _ pl6.at_)
   ·rintro b x D σ H' ys hx' hD ⟨rfl,s',o1,o2,rfl⟩ eD
    obtain⟨a,ha,rfl⟩:=zEw hx'
    obtain⟨⟨f,h⟩,hfh,ea⟩:=zAw pl6.it ha
    have rg:=hrs b f h hfh
    have hb:b<ns.length:=by have:=(List.getElem?_eq_some_iff.mp hfh).1;omega
    have r1:=rg.fh
    have r2:=rg.hn
    refine zD9 (s' _ _ ea) rfl (bT (i_sl (SqL.of (s' _ _ efw)) λsl H8 hsl s8 e8=>?_))
    have e8':H8 sl=some (.lst ((((row (cnt ns lo hi i) (ns.length+1)).drop f).take (h-f)).map V.int)):=by
     rw[e8,zBW,HT.sIx_nat,HT.sIx_nat,zBq,Nat.min_eq_left (by omega),Nat.min_eq_left (by omega)]
    refine zHW (SqL.of e8') ?_
    have es:(((row (cnt ns lo hi i) (ns.length+1)).drop f).take (h-f)).sum=cnt ns lo hi (i+1) b:=zIH hb rg
    rw[es]
    refine⟨s8 _ _ eD,zBo (by rw[List.length_map,zBq];omega),λH9 k9 e9=>⟨?_,(s'.trans s8).new k9 hD,_,_,rfl⟩⟩
    unfold row
    rw[List.range_succ,List.map_append,List.map_append];rfl
   ·rintro D σ H7 ys hD ⟨rfl,s7,_⟩ eD
    rw[List.length_map,hpl,hrl] at eD
    refine zAc (by show 1<=sizeLine;decide) λz1 H8 hz1 s8 e8=>?_
    refine zFG (s8 _ _ eD) e8 (zFK (by rw[List.length_map,zBq];simp;omega)) λnw H9 hnw s9 e9=>?_
    have s69:=s7.trans (s8.trans s9)
    have e9':H9 nw=some (.lst ((row (cnt ns lo hi (i+1)) (ns.length+1)).map V.int)):=by
     rw[e9];unfold row;rw[List.range_succ,List.map_append,List.map_append,List.map_singleton,List.map_singleton,zEN]
    refine zGF (s69 _ _ ll.at_) (zBo (by rw[List.length_map];omega)) λH10 k10 e10=>?_
    refine⟨⟨_,_,(s6.trans s69).new k10 hwy0,ll.add (s7.free (s8.free hnw)) s69 e9' k10 e10,by simp[hpp],λk l e=>?_⟩,_,_,rfl⟩
    by_cases hk:k<i+1
    ·rw[List.getElem?_append_left (by omega)] at e;exact hok k l e
    ·rw[List.getElem?_append_right (by omega)] at e
     by_cases hk2:k=i+1
     ·subst hk2
      rw[hpp,Nat.sub_self] at e;simp at e;exact e.symm
     ·rw[List.getElem?_eq_none (by simp;omega)] at e;cases e
  ·rintro σ H' ⟨⟨qs,pss,h1,h2,h3,h4⟩,o⟩
   exact⟨⟨qs,pss,h1,h2,by omega,h4⟩,o⟩
 ·rintro σ H' ⟨⟨qs,pss,h1,h2,h3,h4⟩,o3,o4,rfl⟩
  exact q wy qs pss H' hwy0 h1 h2 h3 h4
abbrev zqi:Stmt:=top 9
theorem zqcf:FnScope ["row","many","low","high"] ["row","many","low","high"] (zAA zqi):=⟨rfl,rfl,rfl,by decide +kernel,rfl,by decide +kernel,by decide +kernel⟩
theorem zq97:Vis (zAA zqi) "high":=Or.inl (by kernel_rfl)
theorem zq9u:Vis (zAA zqi) "low":=Or.inl (by kernel_rfl)
theorem zq30:Vis (zAA zqi) "many":=Or.inl (by kernel_rfl)
theorem zq5l:Vis (zAA zqi) "row":=Or.inl (by kernel_rfl)
theorem zq6l:(zAA zqi).names.lookup ("check_many":Str)=some NameKind.globalImplicit:=by kernel_rfl
theorem zq6m:(zAA zqi).names.lookup ("count_ways":Str)=some NameKind.globalImplicit:=by kernel_rfl
theorem zq6n:(zAA zqi).names.lookup ("end_ranges":Str)=some NameKind.globalImplicit:=by kernel_rfl
def zqd8 {cdv:Value}{A:Around}{outer:List Env}{s:Shared}{H:Hp}{E:XK}(B:Bl mg)(zq6:Def P w K mg base 3 "check_many" ["row","many"] zqr)(zq19:Def P w K mg base 1 "count_ways" ["ranges","many"] zq20)(zq1a:Def P w K mg base 2 "end_ranges" ["row","low","high"] zq1z)(hr:Room 3 (A.deeper (PyProof.Rows.envOfC "cuts_between" (zAA zqi) s.heap.objs.size f cdv))) :
  { t:TS // QB (cxOf CX0 P w K mg base ["row","many","low","high"] "cuts_between" (zAA zqi) f cdv A outer s H E).nox (zAF zqi) t } :=
 ⟨_,(zAE (zBQ (zAN zq6 hr (by decide) zq6l (zAB (qv 0 rfl zq5l) (zAB (qv 1 rfl zq30) zAC))))
  (zAH (zAR (zAU (K:=K) rfl (zAU (K:=K) rfl (zAN zq19 hr (by decide) zq6m (zAB (zAN zq1a hr (by decide) zq6n (zAB (qv 0 rfl zq5l) (zAB (qv 2 rfl zq9u) (zAB (qv 3 rfl zq97) zAC)))) (zAB (qv 1 rfl zq30) zAC))) (qv 1 rfl zq30) (λ_ _=>rfl)) zAD (λ_ _=>rfl)))))⟩
open M25 M14 in
def zq31:Sp:=λvs H Q _=>∃ (r:Addr) (ns:List Int) (m:Nat) (lo hi:Int),vs=[.ref r,.int m,.int lo,.int hi]/\H r=some (.lst (ns.map V.int))/\ns.length<=900/\(∀ n∈ns,0<=n)/\1<=m/\m<=ns.length/\∀ H',Same H H'->Q (.int (cnt ns lo hi m 0)) H'
open M25 M14 in
theorem zqcg (B:Bl mg)(zq6:Def P w K mg base 3 "check_many" ["row","many"] zqr)(zq19:Def P w K mg base 1 "count_ways" ["ranges","many"] zq20)(zq1a:Def P w K mg base 2 "end_ranges" ["row","low","high"] zq1z)(F:Fun K "cuts_between" "cuts_between" zqi f fd):FnOk P w K mg base CX0 4 f fd ["row","many","low","high"] zq31:=by
 refine F.okq zqcf (λvs H Q E h=>?_) (λcdv A outer s H vs Q E hr h=>?_)
 ·obtain⟨r,ns,m,lo,hi,rfl,_⟩:=h;rfl
 obtain⟨r,ns,m,lo,hi,rfl,hr0,hle,hnn,m1,m2,q⟩:=h
 refine⟨zqd8 B zq6 zq19 zq1a hr,?_⟩
 refine⟨r,m,_,rfl,hr0,by omega,by rw[List.length_map];omega,?_⟩
 refine⟨r,ns,lo,hi,rfl,hr0,by omega,hnn,λp ps rs H1 hp s1 pl hrl hrs=>?_⟩
 refine⟨p,ps,rs,ns,lo,hi,m,rfl,pl,hrl,hrs,hle,by omega,λw qs pss H2 hw s2 ll hpl hok=>?_⟩
 have hql:=ll.len
 have hx:qs[m]?=some (qs[m]'(by omega)):=List.getElem?_eq_getElem (by omega)
 obtain⟨l,hl,el⟩:=zAw ll.it hx
 have hle':=hok m l hl
 subst hle'
 refine zBD m ll.at_ rfl (zBH hx) (zCR el (by decide) (by rw[zBq];omega) ?_)
 rw[show (0:Int).toNat=0 from rfl,zCN (by omega)]
 exact q H2 (s1.trans s2)
abbrev zqe:Stmt:=top 10
theorem zq1q:FnScope ["row","many","low","high","place","ranges","ways","cut","end","skipped","left"] ["row","many","low","high","place"] (zAA zqe):=⟨rfl,rfl,rfl,by decide +kernel,rfl,by decide +kernel,by decide +kernel⟩
theorem zqee:Loc (zAA zqe) "cut":=Or.inl (by kernel_rfl)
theorem zq6t:Loc (zAA zqe) "end":=Or.inl (by kernel_rfl)
theorem zqdy:Loc (zAA zqe) "left":=Or.inl (by kernel_rfl)
theorem zqch:Loc (zAA zqe) "ranges":=Or.inl (by kernel_rfl)
theorem zq6u:Loc (zAA zqe) "skipped":=Or.inl (by kernel_rfl)
theorem zqdz:Loc (zAA zqe) "ways":=Or.inl (by kernel_rfl)
theorem zq9v:Vis (zAA zqe) "cut":=Or.inl (by kernel_rfl)
theorem zq4g:Vis (zAA zqe) "end":=Or.inl (by kernel_rfl)
theorem zqe0:Vis (zAA zqe) "high":=Or.inl (by kernel_rfl)
theorem zq93:Vis (zAA zqe) "left":=Or.inl (by kernel_rfl)
theorem zqef:Vis (zAA zqe) "low":=Or.inl (by kernel_rfl)
theorem zq3v:Vis (zAA zqe) "many":=Or.inl (by kernel_rfl)
theorem zq81:Vis (zAA zqe) "place":=Or.inl (by kernel_rfl)
theorem zq7d:Vis (zAA zqe) "ranges":=Or.inl (by kernel_rfl)
theorem zq9w:Vis (zAA zqe) "row":=Or.inl (by kernel_rfl)
theorem zqba:Vis (zAA zqe) "skipped":=Or.inl (by kernel_rfl)
theorem zq62:Vis (zAA zqe) "ways":=Or.inl (by kernel_rfl)
theorem zq98:(zAA zqe).names.lookup ("check_many":Str)=some NameKind.globalImplicit:=by kernel_rfl
theorem zq99:(zAA zqe).names.lookup ("count_ways":Str)=some NameKind.globalImplicit:=by kernel_rfl
theorem zq9a:(zAA zqe).names.lookup ("end_ranges":Str)=some NameKind.globalImplicit:=by kernel_rfl
theorem zq9x:(zAA zqe).names.lookup ("is_within":Str)=some NameKind.globalImplicit:=by kernel_rfl
theorem zqd9:(zAA zqe).names.lookup ("range":Str)=some NameKind.globalImplicit:=by kernel_rfl
def zqfl {cdv:Value}{A:Around}{outer:List Env}{s:Shared}{H:Hp}{E:XK}(B:Bl mg)(zq6:Def P w K mg base 3 "check_many" ["row","many"] zqr)(zq1a:Def P w K mg base 2 "end_ranges" ["row","low","high"] zq1z)(zq19:Def P w K mg base 1 "count_ways" ["ranges","many"] zq20)(zq1e:Def P w K mg base 2 "is_within" ["thing","low","high"] zq2e)(hr:Room 3 (A.deeper (PyProof.Rows.envOfC "cut_at" (zAA zqe) s.heap.objs.size f cdv))) :
  { t:TS // QB (cxOf CX0 P w K mg base ["row","many","low","high","place","ranges","ways","cut","end","skipped","left"] "cut_at" (zAA zqe) f cdv A outer s H E).nox (zAF zqe) t } :=
 ⟨_,(zAE (zBQ (zAN zq6 hr (by decide) zq98 (zAB (qv 0 rfl zq9w) (zAB (qv 1 rfl zq3v) zAC))))
  (zAE (zAJ (i:=5) zq1q.nd rfl zqch (.inl rfl) (zAN zq1a hr (by decide) zq9a (zAB (qv 0 rfl zq9w) (zAB (qv 2 rfl zqef) (zAB (qv 3 rfl zqe0) zAC)))))
  (zAE (zAJ (i:=6) zq1q.nd rfl zqdz (.inl rfl) (zAN zq19 hr (by decide) zq99 (zAB (qv 5 rfl zq7d) (zAB (qv 1 rfl zq3v) zAC))))
  (zAE (zA8 (zCq (zCX (K:=K) rfl (zAN zq1e hr (by decide) zq9x (zAB (qv 4 rfl zq81) (zAB zAD (zAB (zAO zA7 (zAU (K:=K) rfl (zAU (K:=K) rfl (qv 6 rfl zq62) (qv 1 rfl zq3v) (λ_ _=>rfl)) zAD (λ_ _=>rfl)) zAD) zAC)))))) (zAH zEX) zAr)
  (zAE (zAJ (i:=7) zq1q.nd rfl zqee (.inl rfl) (zAf zAC))
  (zAE (zAJ (i:=8) zq1q.nd rfl zq6t (.inl rfl) zAD)
  (zAE (zAJ (i:=9) zq1q.nd rfl zq6u (.inl rfl) zAD)
  (zAY (zAm PassesOwn.never rfl (zJo zqd9 B.range (zAB (zAO zA7 (qv 1 rfl zq3v) zAD) (zAB zAD (zAB (zC0 zCz zAD) zAC)))) (zAL (i:=10) zq1q.nd rfl zqdy (.inl rfl)) (zAE (zAJ (i:=8) zq1q.nd rfl zq6t (.inl rfl) (zAU (K:=K) rfl (zAU (K:=K) rfl (qv 5 rfl zq7d) (qv 8 rfl zq4g) (λ_ _=>rfl)) zAD (λ_ _=>rfl)))
  (zAY (zBJ PassesOwn.never (zAX opLe (zAO zAq (qv 9 rfl zqba) (zAU (K:=K) rfl (zAU (K:=K) rfl (qv 6 rfl zq62) (qv 10 rfl zq93) (λ_ _=>rfl)) (qv 8 rfl zq4g) (λ_ _=>rfl))) (qv 4 rfl zq81)) (zAE (zBx (i:=9) zq1q.nd rfl zq6u (.inl rfl) (zAU (K:=K) rfl (zAU (K:=K) rfl (qv 6 rfl zq62) (qv 10 rfl zq93) (λ_ _=>rfl)) (qv 8 rfl zq4g) (λ_ _=>rfl)) zDZ)
  (zAH (zBx (i:=8) zq1q.nd rfl zq6t (.inl rfl) zAD zDZ))))
  (zAH (zBQ (zCB (K:=K) rfl PySem.F.plainAttrs_list PySem.F.slot_list_append PySem.F.type_list_append zB8 (qv 7 rfl zq9v) (qv 8 rfl zq4g)))))))
  (zAH (zAR (qv 7 rfl zq9v)))))))))))⟩
open M25 M14 M18 in
def zq7e:Sp:=λvs H Q _=>∃ (r:Addr) (ns:List Int) (m:Nat) (lo hi pl:Int),vs=[.ref r,.int m,.int lo,.int hi,.int pl]/\H r=some (.lst (ns.map V.int))/\ns.length<=900/\(∀ n∈ns,0<=n)/\1<=m/\m<=ns.length/\0<=pl/\pl<M14.cnt ns lo hi m 0 /\
 ∀ (p:Addr) (c:List Int) (H':Hp),At ns lo hi (m-1) 0 pl c->H p=none->Same H H'->H' p=some (.lst (c.map V.int))->Q (.ref p) H'
open M25 M14 M18 in
theorem zqfj (B:Bl mg)(zq6:Def P w K mg base 3 "check_many" ["row","many"] zqr)(zq1a:Def P w K mg base 2 "end_ranges" ["row","low","high"] zq1z)(zq19:Def P w K mg base 1 "count_ways" ["ranges","many"] zq20)(zq1e:Def P w K mg base 2 "is_within" ["thing","low","high"] zq2e)(F:Fun K "cut_at" "cut_at" zqe f fd):FnOk P w K mg base CX0 4 f fd ["row","many","low","high","place"] zq7e:=by
 refine F.okq zq1q (λvs H Q E h=>?_) (λcdv A outer s H vs Q E hr h=>?_)
 ·obtain⟨r,ns,m,lo,hi,pl,rfl,_⟩:=h;rfl
 obtain⟨r,ns,m,lo,hi,pl,rfl,hr0,hle,hnn,m1,m2,p0,p1,q⟩:=h
 refine⟨zqfl B zq6 zq1a zq19 zq1e hr,?_⟩
 refine⟨r,m,_,rfl,hr0,by omega,by rw[List.length_map];omega,?_⟩
 refine⟨r,ns,lo,hi,rfl,hr0,by omega,hnn,λrg ps rs H1 hrg s1 plr hrl hrs=>?_⟩
 refine⟨rg,ps,rs,ns,lo,hi,m,rfl,plr,hrl,hrs,hle,by omega,λw qs pss H2 hw s2 ll hpl hok=>?_⟩
 have hql:=ll.len
 have plr2:=plr.same s2
 have hpsl:=Paired.length plr.it
 have way:∀ l,l<=m->∃ a,(qs.map V.ref)[l]?=some (.ref a)/\H2 a=some (.lst ((row (M14.cnt ns lo hi l) (ns.length+1)).map V.int)):=λl hl=>by
  have hx':qs[l]?=some (qs[l]'(by omega)):=List.getElem?_eq_getElem (by omega)
  obtain⟨lr,hlr,el⟩:=zAw ll.it hx'
  have hle':=hok l lr hlr
  subst hle'
  exact⟨_,zBH hx',el⟩
 obtain⟨a0,ha0,ea0⟩:=way m (Nat.le_refl _)
 refine zBD m (v:=.ref a0) ll.at_ rfl ha0 (zCR ea0 (by decide) (by rw[zBq];omega) ?_)
 rw[show (0:Int).toNat=0 from rfl,zCN (by omega)]
 refine⟨pl,0,M14.cnt ns lo hi m 0-1,rfl,bNo (by simp;omega) ?_⟩
 refine zAc (by show 0<=sizeLine;decide) λct H3 hct s3 e3=>?_
 have s02:=s1.trans s2
 have hct0:H ct=none:=s02.free hct
 refine⟨λσ H'=>Same H2 H'/\(∃ c:List Int,At ns lo hi (m-1) 0 pl c/\H' ct=some (.lst (c.map V.int)))/\∃ o8 o9 o10,σ=[some (.ref r),some (.int m),some (.int lo),some (.int hi),some (.int pl),some (.ref rg),some (.ref w),some (.ref ct),o8,o9,o10],?_,?_⟩
 ·refine⟨rfl,⟨by omega,by omega,by omega,by omega⟩,zCy (λj σ H'=>Same H2 H'/\∃ (i:Nat) (sk p':Int) (c1:List Int) (o10:Option V),i<=ns.length/\sk+p'=pl/\0<=p'/\p'<M14.cnt ns lo hi (m-j) i/\c1.length=j/\(∀ c2,At ns lo hi (m-1-j) i p' c2->At ns lo hi (m-1) 0 pl (c1++c2))/\H' ct=some (.lst (c1.map V.int))/\σ=[some (.ref r),some (.int m),some (.int lo),some (.int hi),some (.int pl),some (.ref rg),some (.ref w),some (.ref ct),some (.int i),some (.int sk),o10]) ?_ ?_ ?_⟩
  ·exact⟨s3,0,0,pl,[],_,by omega,by omega,p0,p1,rfl,λc2 h=>h,e3,rfl⟩
  ·rintro j σ H4 hj ⟨s4,i,sk,p',c1,o10,hi',hsk,hp0,hp1,hc1,hAt,e4,rfl⟩
   obtain⟨k,hk⟩:∃ k,m-1-j=k+1:=⟨m-2-j,by omega⟩
   have hk2:m-j=k+2:=by omega
   rw[hk] at hAt
   rw[hk2] at hp1
   have hin:i<ns.length:=Classical.byContradiction λz=>by
    rw[show i=ns.length by omega,zEN] at hp1;omega
   have hxp:ps[i]?=some (ps[i]'(by omega)):=List.getElem?_eq_getElem (by omega)
   obtain⟨⟨f,h⟩,hfh,ea⟩:=zAw plr2.it hxp
   have rng:=hrs i f h hfh
   refine zBD i (s4 _ _ plr2.at_) rfl (zBH hxp) (zDY 0 (v:=.int f) (s4 _ _ ea) rfl rfl ?_)
   have f1:=rng.f1
   have f2:=rng.fh
   have f3:=rng.hn
   have eL:((m:Int)-1-j)=((k+1:Nat):Int):=by omega
   rw[eL]
   obtain⟨ak,hak,eak⟩:=way (k+1) (by omega)
   have az:=zIJ rng (k+1)
   refine⟨λσ H'=>H'=H4/\∃ x:Nat,i<x/\x<ns.length/\acc ns lo hi (k+1) i x<=p'/\p'<acc ns lo hi (k+1) i (x+1)/\ok ns lo hi i x=1/\σ=[some (.ref r),some (.int m),some (.int lo),some (.int hi),some (.int pl),some (.ref rg),some (.ref w),some (.ref ct),some (.int x),some (.int (sk+acc ns lo hi (k+1) i x)),some (.int ((k+1:Nat):Int))],?_,?_⟩
   ·refine zBk (λmm σ H'=>H'=H4/\∃ x:Nat,mm=ns.length+1-x/\f<=x/\x<=ns.length+1/\acc ns lo hi (k+1) i x<=p'/\σ=[some (.ref r),some (.int m),some (.int lo),some (.int hi),some (.int pl),some (.ref rg),some (.ref w),some (.ref ct),some (.int x),some (.int (sk+acc ns lo hi (k+1) i x)),some (.int ((k+1:Nat):Int))]) (ns.length+1-f) ⟨rfl,f,rfl,Nat.le_refl _,by omega,by omega,by rw[az,Int.add_zero];rfl⟩ ?_
    rintro mm σ H' ⟨rfl,x,rfl,hx1,hx2,hx3,rfl⟩
    obtain⟨hxn,hxo⟩:=zLv rng hx1 hx2 hx3 hp1
    have as:=zBM (ns:=ns) (lo:=lo) (hi:=hi) (k+1) i x
    rw[hxo,Int.one_mul] at as
    refine zBD (k+1) (v:=.ref ak) (s4 _ _ ll.at_) rfl hak (zCR (s4 _ _ eak) (by omega) (by rw[zBq];omega) ?_)
    rw[Int.toNat_natCast,zCN (by omega)]
    refine dec2 (λc=>?_) (λc=>?_)
    ·refine zBD (k+1) (v:=.ref ak) (s4 _ _ ll.at_) rfl hak (zCR (s4 _ _ eak) (by omega) (by rw[zBq];omega) ?_)
     rw[Int.toNat_natCast,zCN (by omega)]
     refine⟨ns.length+1-(x+1),by omega,rfl,x+1,rfl,by omega,by omega,by omega,?_⟩
     rw[as,<- Int.add_assoc];rfl
    ·exact⟨rfl,x,by omega,hxn,hx3,by omega,hxo,rfl⟩
   rintro σ H' ⟨rfl,x,x1,x2,x3,x4,xo,rfl⟩
   have as:=zBM (ns:=ns) (lo:=lo) (hi:=hi) (k+1) i x
   rw[xo,Int.one_mul] at as
   refine⟨zB9 e4,zBu e4 (by omega) λH6 k6 e6=>?_⟩
   refine⟨s4.new k6 hct,x,sk+acc ns lo hi (k+1) i x,p'-acc ns lo hi (k+1) i x,c1++[(x:Int)],_,by omega,by omega,by omega,?_,by simp[hc1],λc2 h2=>?_,e6,rfl⟩
   ·rw[show m-(j+1)=k+1 by omega];omega
   ·rw[show m-1-(j+1)=k by omega] at h2
    rw[List.append_assoc]
    exact hAt _ (At.step x1 x2 x3 x4 h2)
  ·rintro σ H4 ⟨s4,i,sk,p',c1,o10,_,_,_,_,hc1,hAt,e4,rfl⟩
   have e0:m-1-((m:Int)-1-0).toNat=0:=by omega
   rw[e0] at hAt
   have:=hAt [] At.nil
   rw[List.append_nil] at this
   exact⟨s4,⟨c1,this,e4⟩,_,_,_,rfl⟩
 ·rintro σ H4 ⟨s4,⟨c,hc,e4⟩,o8,o9,o10,rfl⟩
  exact q ct c H4 hc hct0 (s02.trans s4) e4
abbrev zql:Stmt:=top 15
theorem zq27:FnScope ["row","bound","cut","total","place","number"] ["row","bound"] (zAA zql):=⟨rfl,rfl,rfl,by decide +kernel,rfl,by decide +kernel,by decide +kernel⟩
theorem zqda:Loc (zAA zql) "cut":=Or.inl (by kernel_rfl)
theorem zqaj:Loc (zAA zql) "number":=Or.inl (by kernel_rfl)
theorem zqbb:Loc (zAA zql) "place":=Or.inl (by kernel_rfl)
theorem zq3y:Loc (zAA zql) "total":=Or.inl (by kernel_rfl)
theorem zq6v:Vis (zAA zql) "bound":=Or.inl (by kernel_rfl)
theorem zq82:Vis (zAA zql) "cut":=Or.inl (by kernel_rfl)
theorem zq6a:Vis (zAA zql) "number":=Or.inl (by kernel_rfl)
theorem zqbc:Vis (zAA zql) "place":=Or.inl (by kernel_rfl)
theorem zq83:Vis (zAA zql) "row":=Or.inl (by kernel_rfl)
theorem zqbd:Vis (zAA zql) "total":=Or.inl (by kernel_rfl)
theorem zq8m:(zAA zql).names.lookup ("enumerate":Str)=some NameKind.globalImplicit:=by kernel_rfl
theorem zqdb:(zAA zql).names.lookup ("max":Str)=some NameKind.globalImplicit:=by kernel_rfl
def zqf9 {cdv:Value}{A:Around}{outer:List Env}{s:Shared}{H:Hp}{E:XK}(B:Bl mg)(hr:Room 0 (A.deeper (PyProof.Rows.envOfC "long_cut" (zAA zql) s.heap.objs.size f cdv))) :
  { t:TS // QB (cxOf CX0 P w K mg base ["row","bound","cut","total","place","number"] "long_cut" (zAA zql) f cdv A outer s H E).nox (zAF zql) t } :=
 ⟨_,(zAE (zA8 (zAX opGt (zAa (kMax (K:=K) rfl rfl) zqdb B.max zA0 (zAB (qv 0 rfl zq83) zAC)) (qv 1 rfl zq6v)) (zAH (zAR zCU)) zAr)
  (zAE (zAJ (i:=2) zq27.nd rfl zqda (.inl rfl) (zAf zAC))
  (zAE (zAJ (i:=3) zq27.nd rfl zq3y (.inl rfl) zAD)
  (zAY (zAm PassesOwn.never rfl (zGO (K:=K) rfl zq8m B.enumerate (zAB (qv 0 rfl zq83) zAC)) (zCW (K:=K) rfl rfl (zAk (zAL (i:=4) zq27.nd rfl zqbb (.inl rfl)) (zAk (zAL (i:=5) zq27.nd rfl zqaj (.inl rfl)) zBm))) (zAY (zA8 (zAX opGt (zAO zAq (qv 3 rfl zqbd) (qv 5 rfl zq6a)) (qv 1 rfl zq6v)) (zAE (zBQ (zCB (K:=K) rfl PySem.F.plainAttrs_list PySem.F.slot_list_append PySem.F.type_list_append zB8 (qv 2 rfl zq82) (qv 4 rfl zqbc)))
  (zAH (zAJ (i:=3) zq27.nd rfl zq3y (.inl rfl) zAD))) zAr)
  (zAH (zBx (i:=3) zq27.nd rfl zq3y (.inl rfl) (qv 5 rfl zq6a) zDZ))))
  (zAH (zAR (qv 2 rfl zq82)))))))⟩
open M5 in
def zq5e:Sp:=λvs H Q _=>∃ (r:Addr) (b:Int) (ns:List Int),vs=[.ref r,.int b]/\H r=some (.lst (ns.map V.int))/\ns≠[]/\ns.length<=1000/\((∃ n∈ns,b<n)->Q .non H) /\
 ((∀ n∈ns,n<=b)->∀ p H',H p=none->Same H H'->H' p=some (.lst ((lcut b 0 0 ns).map V.int))->Q (.ref p) H')
open M5 in
theorem zqet (B:Bl mg)(F:Fun K "long_cut" "long_cut" zql f fd):FnOk P w K mg base CX0 1 f fd ["row","bound"] zq5e:=by
 refine F.okq zq27 (λvs H Q E h=>?_) (λcdv A outer s H vs Q E hr h=>?_)
 ·obtain⟨r,b,ns,rfl,_⟩:=h;rfl
 obtain⟨r,b,ns,rfl,hr0,hne,hle,q1,q2⟩:=h
 refine⟨zqf9 B hr,?_⟩
 refine zJV (SqL.of hr0) hne λM hM hmax=>dec2 (λc=>q1 ⟨M,hM,c⟩) (λc=>?_)
 have hb:∀ n∈ns,n<=b:=λn hn=>by have:=hmax n hn;omega
 refine zAc (by show 0<=sizeLine;decide) λp H1 hp s1 e1=>?_
 refine⟨λσ H'=>Same H H'/\H' p=some (.lst ((lcut b 0 0 ns).map V.int))/\gt σ 2=some (.ref p),?_,?_⟩
 ·refine⟨⟨_,SqL.of (s1 _ _ hr0)⟩,zIZ (ns.map V.int) (λi σ H'=>∃ o1 o2,σ=[some (.ref r),some (.int b),some (.ref p),some (.int (ltot b 0 (ns.take i))),o1,o2]/\Same H H'/\H' p=some (.lst ((lcut b 0 0 (ns.take i)).map V.int))) ?_ ?_ ?_ ?_⟩
  ·exact⟨none,none,rfl,s1,e1⟩
  ·rintro i σ H' _ ⟨o1,o2,rfl,s',e'⟩
   exact SqL.of (s' _ _ hr0)
  ·rintro i x σ H' T H2 hx ⟨o1,o2,rfl,s',e'⟩ hT s2 e2
   obtain⟨z,rfl,hz,_⟩:=zAt hx
   have hi:i<ns.length:=(List.getElem?_eq_some_iff.mp hz).1
   have hlen:(ns.take i).length=i:=by rw[List.length_take];omega
   have et:=zBy hz
   have e3:=s2 _ _ e'
   refine zD9 e2 rfl ?_
   refine⟨λσ H'=>σ=[some (.ref r),some (.int b),some (.ref p),some (.int (if ltot b 0 (ns.take i)+z > b then 0 else ltot b 0 (ns.take i))),some (.int i),some (.int z)]/\Same H H'/\H' p=some (.lst ((lcut b 0 0 (ns.take (i+1))).map V.int)),?_,?_⟩
   ·have el:lcut b 0 0 (ns.take (i+1))=lcut b 0 0 (ns.take i)++(if ltot b 0 (ns.take i)+z > b then [(i:Int)] else []):=by
     rw[et,zBb,hlen,Nat.zero_add]
     simp only[lcut]
    have ll:(lcut b 0 0 (ns.take i)).length<=1000:=by
     have:=zCM b (ns.take i) 0 0;omega
    refine dec2 (λc=>?_) (λc=>?_)
    ·refine⟨zB9 e3,zBu e3 (by omega) λH4 k4 e4=>?_⟩
     have c':ltot b 0 (ns.take i)+z > b:=c
     refine⟨by rw[if_pos c'];rfl,(s'.trans s2).new k4 hp,by rw[e4,el,if_pos c']⟩
    ·have c':¬ ltot b 0 (ns.take i)+z > b:=c
     refine⟨by rw[if_neg c'];rfl,s'.trans s2,by rw[e3,el,if_neg c',List.append_nil]⟩
   ·rintro σ H4 ⟨rfl,s4,e4⟩
    refine⟨some (.int i),some (.int z),?_,s4,e4⟩
    rw[et,zCL]
    simp only[ltot]
    by_cases c:ltot b 0 (ns.take i)+z > b
    ·simp[c]
    ·simp[c]
  ·rintro σ H' ⟨o1,o2,rfl,s',e'⟩
   rw[List.length_map,List.take_length] at e'
   exact⟨s',e',rfl⟩
 ·rintro σ H' ⟨s',e',hg⟩
  show mVar 2 σ H' Q
  unfold mVar
  rw[hg]
  exact q2 hb p H' hp s' e'
abbrev zqh:Stmt:=top 16
theorem zq6w:FnScope ["row","bound","cut"] ["row","bound"] (zAA zqh):=⟨rfl,rfl,rfl,by decide +kernel,rfl,by decide +kernel,by decide +kernel⟩
theorem zq9b:Loc (zAA zqh) "cut":=Or.inl (by kernel_rfl)
theorem zq84:Vis (zAA zqh) "bound":=Or.inl (by kernel_rfl)
theorem zq52:Vis (zAA zqh) "cut":=Or.inl (by kernel_rfl)
theorem zq9c:Vis (zAA zqh) "row":=Or.inl (by kernel_rfl)
theorem zq9d:(zAA zqh).names.lookup ("len":Str)=some NameKind.globalImplicit:=by kernel_rfl
theorem zq6x:(zAA zqh).names.lookup ("long_cut":Str)=some NameKind.globalImplicit:=by kernel_rfl
def zqci {cdv:Value}{A:Around}{outer:List Env}{s:Shared}{H:Hp}{E:XK}(B:Bl mg)(zq4h:Def P w K mg base 1 "long_cut" ["row","bound"] zq5e)(hr:Room 1 (A.deeper (PyProof.Rows.envOfC "fewest_pieces" (zAA zqh) s.heap.objs.size f cdv))) :
  { t:TS // QB (cxOf CX0 P w K mg base ["row","bound","cut"] "fewest_pieces" (zAA zqh) f cdv A outer s H E).nox (zAF zqh) t } :=
 ⟨_,(zAE (zAJ (i:=2) zq6w.nd rfl zq9b (.inl rfl) (zAN zq4h hr (by decide) zq6x (zAB (qv 0 rfl zq9c) (zAB (qv 1 rfl zq84) zAC))))
  (zAE (zA8 (zAX opIs (qv 2 rfl zq52) zCU) (zAH (zAR zCU)) zAr)
  (zAH (zAR (zAO zAq (zAa (kLen (K:=K) rfl) zq9d B.len zAV (zAB (qv 2 rfl zq52) zAC)) zAD)))))⟩
open M5 in
def fewV (b:Int)(ns:List Int):V:=if ns.all (λn=>decide (n<=b))=true then .int ((lcut b 0 0 ns).length+1) else .non
theorem zG4 {b:Int}{ns:List Int}(h:∀ n∈ns,n<=b):fewV b ns=.int ((M5.lcut b 0 0 ns).length+1):=by
 unfold fewV;rw[if_pos];rw[List.all_eq_true];intro n hn;exact decide_eq_true (h n hn)
theorem zKO {b:Int}{ns:List Int}(h:∃ n∈ns,b<n):fewV b ns=.non:=by
 obtain⟨n,hn,hb⟩:=h
 unfold fewV;rw[if_neg];rw[List.all_eq_true];intro h;have:=of_decide_eq_true (h n hn);omega
def zq2n:Sp:=λvs H Q _=>∃ (r:Addr) (b:Int) (ns:List Int),vs=[.ref r,.int b]/\H r=some (.lst (ns.map V.int))/\ns≠[]/\ns.length<=1000/\∀ H',Same H H'->Q (fewV b ns) H'
theorem zqbe (B:Bl mg)(zq4h:Def P w K mg base 1 "long_cut" ["row","bound"] zq5e)(F:Fun K "fewest_pieces" "fewest_pieces" zqh f fd):FnOk P w K mg base CX0 2 f fd ["row","bound"] zq2n:=by
 refine F.okq zq6w (λvs H Q E h=>?_) (λcdv A outer s H vs Q E hr h=>?_)
 ·obtain⟨r,b,ns,rfl,_⟩:=h;rfl
 obtain⟨r,b,ns,rfl,hr0,hne,hle,q⟩:=h
 refine⟨zqci B zq4h hr,?_⟩
 refine⟨r,b,ns,rfl,hr0,hne,hle,λh=>?_,λh p H1 hp s1 e1=>?_⟩
 ·refine bT ?_
  have:=q H (Same.refl H)
  rw[zKO h] at this;exact this
 ·refine bF (zA6 e1 ?_)
  have:=q H1 s1
  rw[zG4 h] at this;exact this
abbrev zqa:Stmt:=top 18
theorem zq1r:FnScope ["row","many","low","high","middle"] ["row","many"] (zAA zqa):=⟨rfl,rfl,rfl,by decide +kernel,rfl,by decide +kernel,by decide +kernel⟩
theorem zq5m:Loc (zAA zqa) "high":=Or.inl (by kernel_rfl)
theorem zq6b:Loc (zAA zqa) "low":=Or.inl (by kernel_rfl)
theorem zq8n:Loc (zAA zqa) "middle":=Or.inl (by kernel_rfl)
theorem zq5n:Vis (zAA zqa) "high":=Or.inl (by kernel_rfl)
theorem zq3g:Vis (zAA zqa) "low":=Or.inl (by kernel_rfl)
theorem zq9y:Vis (zAA zqa) "many":=Or.inl (by kernel_rfl)
theorem zq2o:Vis (zAA zqa) "middle":=Or.inl (by kernel_rfl)
theorem zq3h:Vis (zAA zqa) "row":=Or.inl (by kernel_rfl)
theorem zq5o:(zAA zqa).names.lookup ("fewest_pieces":Str)=some NameKind.globalImplicit:=by kernel_rfl
theorem zqak:(zAA zqa).names.lookup ("max":Str)=some NameKind.globalImplicit:=by kernel_rfl
theorem zqal:(zAA zqa).names.lookup ("sum":Str)=some NameKind.globalImplicit:=by kernel_rfl
def zqe1 {cdv:Value}{A:Around}{outer:List Env}{s:Shared}{H:Hp}{E:XK}(B:Bl mg)(zq24:Def P w K mg base 2 "fewest_pieces" ["row","bound"] zq2n)(hr:Room 2 (A.deeper (PyProof.Rows.envOfC "least_bound" (zAA zqa) s.heap.objs.size f cdv))) :
  { t:TS // QB (cxOf CX0 P w K mg base ["row","many","low","high","middle"] "least_bound" (zAA zqa) f cdv A outer s H E).nox (zAF zqa) t } :=
 ⟨_,(zAE (zAJ (i:=2) zq1r.nd rfl zq6b (.inl rfl) (zAa (kMax (K:=K) rfl rfl) zqak B.max zA0 (zAB (qv 0 rfl zq3h) zAC)))
  (zAE (zAJ (i:=3) zq1r.nd rfl zq5m (.inl rfl) (zAa (kSum (K:=K) rfl rfl) zqal B.sum zB5 (zAB (qv 0 rfl zq3h) zAC)))
  (zAY (zBJ PassesOwn.never (zAX opLt (qv 2 rfl zq3g) (qv 3 rfl zq5n)) (zAE (zAJ (i:=4) zq1r.nd rfl zq8n (.inl rfl) (zAO zCn (zAO zAq (qv 2 rfl zq3g) (qv 3 rfl zq5n)) zAD))
  (zAH (zA8 (zAX opLe (zAN zq24 hr (by decide) zq5o (zAB (qv 0 rfl zq3h) (zAB (qv 4 rfl zq2o) zAC))) (qv 1 rfl zq9y)) (zAH (zAJ (i:=3) zq1r.nd rfl zq5m (.inl rfl) (qv 4 rfl zq2o))) (zAH (zAJ (i:=2) zq1r.nd rfl zq6b (.inl rfl) (zAO zAq (qv 4 rfl zq2o) zAD)))))))
  (zAH (zAR (qv 2 rfl zq3g))))))⟩
open M5 M10 M11 M7
theorem zEx {ns:List Int}(h:RowN ns):0<=ns.sum/\ns.sum<=120000000000000:=by
 have key:∀ l:List Int,(∀ n∈l,0<=n)->(∀ n∈l,n<=1000000000000)->0<=l.sum/\l.sum<=1000000000000*l.length:=by
  intro l
  induction l with
  | nil=>intro _ _;simp
  | cons x l ih =>
   intro h0 h1
   obtain⟨a,b⟩:=ih (λn hn=>h0 n (List.mem_cons_of_mem _ hn)) λn hn=>h1 n (List.mem_cons_of_mem _ hn)
   have:=h0 x List.mem_cons_self
   have:=h1 x List.mem_cons_self
   rw[List.sum_cons,List.length_cons]
   omega
 have:=key ns h.nn h.ub
 have:=h.le
 omega
def zq3c:Sp:=λvs H Q _=>∃ (r:Addr) (m:Nat) (ns:List Int) (t:Int),vs=[.ref r,.int m]/\H r=some (.lst (ns.map V.int))/\RowN ns/\1<=m/\m<=ns.length/\T 0 ns (m-1) 0=some t/\∀ H',Same H H'->0<=t->t<=120000000000000->(∀ n∈ns,n<=t)->Q (.int t) H'
theorem zqdc (B:Bl mg)(zq24:Def P w K mg base 2 "fewest_pieces" ["row","bound"] zq2n)(F:Fun K "least_bound" "least_bound" zqa f fd):FnOk P w K mg base CX0 3 f fd ["row","many"] zq3c:=by
 refine F.okq zq1r (λvs H Q E h=>?_) (λcdv A outer s H vs Q E hr h=>?_)
 ·obtain⟨r,m,ns,t,rfl,_⟩:=h;rfl
 obtain⟨r,m,ns,t,rfl,hr0,rn,hm1,hmn,hT,q⟩:=h
 refine⟨zqe1 B zq24 hr,?_⟩
 have hnn:=rn.nn
 have hle:ns.length<=1000:=by have:=rn.le;omega
 have hne:ns≠[]:=λz=>by have:=rn.ne;rw[z] at this;simp at this
 have hiff:∀ b,t<=b↔(∀ x∈ns,x<=b)/\gp b ns<=m:=λb=>by
  have:=zGs hnn b (k:=m-1) (i:=0) (by omega) hT
  rw[show m-1+1=m by omega,List.drop_zero] at this;exact this
 have hall:=((hiff t).mp (Int.le_refl t)).1
 have hsum:=zEx rn
 have hts:t<=ns.sum:=by
  refine(hiff _).mpr ⟨λx hx=>zBc hnn x hx,?_⟩
  unfold gp
  rw[if_neg hne,zB2 _ 0 0 hnn (by omega)]
  simp;omega
 refine zJV (SqL.of hr0) hne λM hM hmax=>zHW (SqL.of hr0) ?_
 have hMt:M<=t:=hall M hM
 have hM0:=hnn M hM
 refine⟨λσ H'=>Same H H'/\∃ o3 o4,σ=[some (.ref r),some (.int m),some (.int t),o3,o4],?_,?_⟩
 ·refine zBk (λmm σ H'=>∃ lo hi:Int,∃ o4,M<=lo/\lo<=t/\t<=hi/\hi<=ns.sum/\mm=(hi-lo).toNat/\Same H H'/\σ=[some (.ref r),some (.int m),some (.int lo),some (.int hi),o4]) _ ⟨M,ns.sum,_,Int.le_refl M,hMt,hts,Int.le_refl _,rfl,Same.refl H,rfl⟩ ?_
  rintro mm σ H1 ⟨lo,hi,o4,h1,h2,h3,h4,rfl,s1,rfl⟩
  refine dec2 (λc=>?_) (λc=>?_)
  ·refine⟨⟨by decide,by decide⟩,r,(lo+hi) / 2,ns,rfl,s1 _ _ hr0,hne,hle,λH2 s2=>?_⟩
   have hmid:∀ n∈ns,n<=(lo+hi) / 2:=λn hn=>by have:=hmax n hn;omega
   have hi2:=hiff ((lo+hi) / 2)
   have hgp:gp ((lo+hi) / 2) ns=(lcut ((lo+hi) / 2) 0 0 ns).length+1:=by unfold gp;rw[if_neg hne]
   rw[zG4 hmid]
   refine dec2 (λc2=>?_) (λc2=>?_)
   ·have:=hi2.mpr ⟨hmid,by omega⟩
    exact⟨((lo+hi) / 2-lo).toNat,by omega,lo,(lo+hi) / 2,_,h1,h2,this,by omega,rfl,s1.trans s2,rfl⟩
   ·have:¬ t<=(lo+hi) / 2:=λz=>c2 (by have:=(hi2.mp z).2;omega)
    exact⟨(hi-((lo+hi) / 2+1)).toNat,by omega,(lo+hi) / 2+1,hi,_,by omega,by omega,h3,h4,rfl,s1.trans s2,rfl⟩
  ·have:lo=t:=by omega
   subst this
   exact⟨s1,_,_,rfl⟩
 ·rintro σ H1 ⟨s1,o3,o4,rfl⟩
  exact q H1 s1 (by omega) (by omega) hall
abbrev zq9:Stmt:=top 20
theorem zq1o:FnScope ["row","ahead","end","bound","begin","total"] ["row","ahead","end","bound"] (zAA zq9):=⟨rfl,rfl,rfl,by decide +kernel,rfl,by decide +kernel,by decide +kernel⟩
theorem zq3l:Loc (zAA zq9) "begin":=Or.inl (by kernel_rfl)
theorem zq3m:Loc (zAA zq9) "total":=Or.inl (by kernel_rfl)
theorem zq7n:Vis (zAA zq9) "ahead":=Or.inl (by kernel_rfl)
theorem zq1b:Vis (zAA zq9) "begin":=Or.inl (by kernel_rfl)
theorem zq7o:Vis (zAA zq9) "bound":=Or.inl (by kernel_rfl)
theorem zq8o:Vis (zAA zq9) "end":=Or.inl (by kernel_rfl)
theorem zq2p:Vis (zAA zq9) "row":=Or.inl (by kernel_rfl)
theorem zq7p:Vis (zAA zq9) "total":=Or.inl (by kernel_rfl)
def zqbf {cdv:Value}{A:Around}{outer:List Env}{s:Shared}{H:Hp}{E:XK}(B:Bl mg)(hr:Room 0 (A.deeper (PyProof.Rows.envOfC "earliest_begin" (zAA zq9) s.heap.objs.size f cdv))) :
  { t:TS // QB (cxOf CX0 P w K mg base ["row","ahead","end","bound","begin","total"] "earliest_begin" (zAA zq9) f cdv A outer s H E).nox (zAF zq9) t } :=
 ⟨_,(zAE (zAJ (i:=4) zq1o.nd rfl zq3l (.inl rfl) (zAO zA7 (qv 2 rfl zq8o) zAD))
  (zAE (zAJ (i:=5) zq1o.nd rfl zq3m (.inl rfl) (zAU (K:=K) rfl (qv 0 rfl zq2p) (qv 4 rfl zq1b) (λ_ _=>rfl)))
  (zAY (zBJ PassesOwn.never (QW.pt (zEZ (zAX opGt (qv 4 rfl zq1b) (qv 1 rfl zq7n)) (zC1 (zAX opLe (zAO zAq (qv 5 rfl zq7p) (zAU (K:=K) rfl (qv 0 rfl zq2p) (zAO zA7 (qv 4 rfl zq1b) zAD) (λ_ _=>rfl))) (qv 3 rfl zq7o))))) (zAE (zBx (i:=4) zq1o.nd rfl zq3l (.inl rfl) zAD zMc)
  (zAH (zBx (i:=5) zq1o.nd rfl zq3m (.inl rfl) (zAU (K:=K) rfl (qv 0 rfl zq2p) (qv 4 rfl zq1b) (λ_ _=>rfl)) zDZ))))
  (zAH (zAR (qv 4 rfl zq1b))))))⟩
def zq29:Sp:=λvs H Q _=>∃ (r:Addr) (a e:Nat) (b:Int) (ns:List Int),vs=[.ref r,.int a,.int e,.int b]/\H r=some (.lst (ns.map V.int))/\a<e/\e<=ns.length/\(∀ n∈ns,n<=b) /\
 ∀ y:Nat,a<=y->y<e->seg ns y e<=b->(y=a\/(1<=y/\b<seg ns (y-1) e))->Q (.int y) H
theorem zqam (B:Bl mg)(F:Fun K "earliest_begin" "earliest_begin" zq9 f fd):FnOk P w K mg base CX0 1 f fd ["row","ahead","end","bound"] zq29:=by
 refine F.okq zq1o (λvs H Q E h=>?_) (λcdv A outer s H vs Q E hr h=>?_)
 ·obtain⟨r,a,e,b,ns,rfl,_⟩:=h;rfl
 obtain⟨r,a,e,b,ns,rfl,hr0,hae,hen,hall,q⟩:=h
 refine⟨zqbf B hr,?_⟩
 have e1:(((e:Int)-1)).toNat=e-1:=by omega
 refine zCR hr0 (by omega) (by omega) ?_
 rw[e1]
 have hs1:seg ns (e-1) e=ns.getD (e-1) 0:=by
  rw[zEm (show e-1<e by omega) hen,show e-1+1=e by omega,zID];omega
 have hin:ns.getD (e-1) 0<=b:=by
  refine hall _ ?_
  rw[List.getD_eq_getElem?_getD,List.getElem?_eq_getElem (show e-1<ns.length by omega)]
  exact List.getElem_mem _
 refine⟨λσ H'=>H'=H/\∃ y:Nat,a<=y/\y<e/\seg ns y e<=b/\(y=a\/(1<=y/\b<seg ns (y-1) e))/\∃ o5,σ=[some (.ref r),some (.int a),some (.int e),some (.int b),some (.int y),o5],?_,?_⟩
 ·refine zBk (λmm σ H'=>H'=H/\∃ y:Nat,a<=y/\y<e/\mm=y/\seg ns y e<=b/\σ=[some (.ref r),some (.int a),some (.int e),some (.int b),some (.int y),some (.int (seg ns y e))]) (e-1) ⟨rfl,e-1,by omega,by omega,rfl,by omega,by rw[hs1,show ((e-1:Nat):Int)=(e:Int)-1 by omega];rfl⟩ ?_
  rintro mm σ H' ⟨rfl,y,h1,h2,hmm,h3,rfl⟩
  refine dec2 (λc=>?_) (λc=>?_)
  ·have hst:=zEm (ns:=ns) (k:=y-1) (e:=e) (by omega) hen
   rw[show y-1+1=y by omega] at hst
   have ey:((y:Int)-1).toNat=y-1:=by omega
   refine zCR hr0 (by omega) (by omega) ?_
   rw[ey]
   refine dec2 (λc2=>?_) (λc2=>?_)
   ·refine zCR (i:=(y:Int)-1) hr0 (by omega) (by omega) ?_
    rw[ey]
    have e2:((y-1:Nat):Int)=(y:Int)-1:=by omega
    have hfin:seg ns (y-1) e=seg ns y e+ns.getD (y-1) 0:=by omega
    refine⟨y-1,by omega,rfl,y-1,by omega,by omega,rfl,?_,?_⟩
    ·have c2':seg ns y e+ns.getD (y-1) 0<=b:=c2
     omega
    ·rw[e2,hfin];rfl
   ·have c2':¬ seg ns y e+ns.getD (y-1) 0<=b:=c2
    exact⟨rfl,y,h1,h2,h3,.inr ⟨by omega,by omega⟩,_,rfl⟩
  ·exact bF ⟨rfl,y,h1,h2,h3,.inl (by omega),_,rfl⟩
 ·rintro σ H' ⟨rfl,y,h1,h2,h3,h4,o5,rfl⟩
  exact q y h1 h2 h3 h4
def zEP (w:Nat)(o:Option Int)(b:Int):Bool:=match o with
 | none=>true
 | some t=>if w=0 then decide (b<t) else decide (t<b)
open M5 M10 M11
inductive FirstCut (w:Nat)(ns:List Int)(t:Int):Nat->Nat->List Int->Prop where
 | nil (i:Nat):FirstCut w ns t 0 i []
 | step {l i e:Nat} {c:List Int} (h1:i<e) (h2:e<ns.length) (h3:zEP w (some (seg ns i e)) t=false) (h4:zEP w (T w ns l e) t=false)
   (h5:∀ j,i<j->j<e->zEP w (some (seg ns i j)) t=true\/zEP w (T w ns l j) t=true) (h6:FirstCut w ns t l e c):FirstCut w ns t (l+1) i ((e:Int)::c)
abbrev zq7:Stmt:=top 19
theorem zq25:FnScope ["row","many","bound","places","end","ahead"] ["row","many","bound"] (zAA zq7):=⟨rfl,rfl,rfl,by decide +kernel,rfl,by decide +kernel,by decide +kernel⟩
theorem zq8p:Loc (zAA zq7) "ahead":=Or.inl (by kernel_rfl)
theorem zq5p:Loc (zAA zq7) "end":=Or.inl (by kernel_rfl)
theorem zq85:Loc (zAA zq7) "places":=Or.inl (by kernel_rfl)
theorem zq8q:Vis (zAA zq7) "ahead":=Or.inl (by kernel_rfl)
theorem zq8r:Vis (zAA zq7) "bound":=Or.inl (by kernel_rfl)
theorem zq5q:Vis (zAA zq7) "end":=Or.inl (by kernel_rfl)
theorem zq9e:Vis (zAA zq7) "many":=Or.inl (by kernel_rfl)
theorem zq41:Vis (zAA zq7) "places":=Or.inl (by kernel_rfl)
theorem zq5r:Vis (zAA zq7) "row":=Or.inl (by kernel_rfl)
theorem zq4y:(zAA zq7).names.lookup ("earliest_begin":Str)=some NameKind.globalImplicit:=by kernel_rfl
theorem zq9z:(zAA zq7).names.lookup ("len":Str)=some NameKind.globalImplicit:=by kernel_rfl
theorem zq8s:(zAA zq7).names.lookup ("range":Str)=some NameKind.globalImplicit:=by kernel_rfl
def zqdd {cdv:Value}{A:Around}{outer:List Env}{s:Shared}{H:Hp}{E:XK}(B:Bl mg)(zq1t:Def P w K mg base 1 "earliest_begin" ["row","ahead","end","bound"] zq29)(hr:Room 1 (A.deeper (PyProof.Rows.envOfC "earliest_cut" (zAA zq7) s.heap.objs.size f cdv))) :
  { t:TS // QB (cxOf CX0 P w K mg base ["row","many","bound","places","end","ahead"] "earliest_cut" (zAA zq7) f cdv A outer s H E).nox (zAF zq7) t } :=
 ⟨_,(zAE (zAJ (i:=3) zq25.nd rfl zq85 (.inl rfl) (zAf zAC))
  (zAE (zAJ (i:=4) zq25.nd rfl zq5p (.inl rfl) (zAa (kLen (K:=K) rfl) zq9z B.len zAV (zAB (qv 0 rfl zq5r) zAC)))
  (zAY (zAm PassesOwn.never rfl (zJo zq8s B.range (zAB (zAO zA7 (qv 1 rfl zq9e) zAD) (zAB zAD (zAB (zC0 zCz zAD) zAC)))) (zAL (i:=5) zq25.nd rfl zq8p (.inl rfl)) (zAE (zAJ (i:=4) zq25.nd rfl zq5p (.inl rfl) (zAN zq1t hr (by decide) zq4y (zAB (qv 0 rfl zq5r) (zAB (qv 5 rfl zq8q) (zAB (qv 4 rfl zq5q) (zAB (qv 2 rfl zq8r) zAC))))))
  (zAH (zBQ (zCB (K:=K) rfl PySem.F.plainAttrs_list PySem.F.slot_list_append PySem.F.type_list_append zB8 (qv 3 rfl zq41) (qv 4 rfl zq5q))))))
  (zAH (zAR (zLT (K:=K) rfl (qv 3 rfl zq41) (zBT (zC0 zCz zAD))))))))⟩
open M5 M10 M11 M7
def zq32:Sp:=λvs H Q _=>∃ (r:Addr) (m:Nat) (ns:List Int) (t:Int),vs=[.ref r,.int m,.int t]/\H r=some (.lst (ns.map V.int))/\(∀ n∈ns,0<=n)/\ns.length<=1000/\(∀ n∈ns,n<=t)/\1<=m/\m<=ns.length/\T 0 ns (m-1) 0=some t /\
 ∀ p c H',FirstCut 0 ns t (m-1) 0 c->(∀ n∈c,0<=n/\n<=1000)->H p=none->Same H H'->H' p=some (.lst (c.map V.int))->Q (.ref p) H'
theorem zqcj (B:Bl mg)(zq1t:Def P w K mg base 1 "earliest_begin" ["row","ahead","end","bound"] zq29)(F:Fun K "earliest_cut" "earliest_cut" zq7 f fd):FnOk P w K mg base CX0 2 f fd ["row","many","bound"] zq32:=by
 refine F.okq zq25 (λvs H Q E h=>?_) (λcdv A outer s H vs Q E hr h=>?_)
 ·obtain⟨r,m,ns,t,rfl,_⟩:=h;rfl
 obtain⟨r,m,ns,t,rfl,hr0,hnn,hle,hall,hm1,hmn,hT,q⟩:=h
 refine⟨zqdd B zq1t hr,?_⟩
 refine zAc (by show 0<=sizeLine;decide) λp H1 hp s1 e1=>?_
 refine zA6 (s1 _ _ hr0) ?_
 refine⟨λσ H'=>Same H H'/\∃ (c:List Int),FirstCut 0 ns t (m-1) 0 c.reverse/\(∀ n∈c,0<=n/\n<=1000)/\H' p=some (.lst (c.map V.int))/\∃ o4 o5,σ=[some (.ref r),some (.int m),some (.int t),some (.ref p),o4,o5],?_,?_⟩
 ·refine⟨rfl,⟨by omega,by omega,by omega,by omega⟩,zCy (λl σ H'=>Same H H'/\l<=m-1/\∃ (x:Nat) (c:List Int),Back ns t m l x/\c.length=l/\(∀ n∈c,0<=n/\n<=1000)/\(∀ i,(l=0\/(m-l-1<=i/\i<x/\seg ns i x<=t))->FirstCut 0 ns t l i c.reverse)/\H' p=some (.lst (c.map V.int))/\∃ o5,σ=[some (.ref r),some (.int m),some (.int t),some (.ref p),some (.int x),o5]) ?_ ?_ ?_⟩
  ·exact⟨s1,Nat.zero_le _,ns.length,[],Back.start ns t m,rfl,by simp,λi _=>FirstCut.nil i,e1,_,rfl⟩
  ·rintro l σ H2 hl ⟨s2,_,x,c,hb,hcl,hc1,hF,e2,o5,rfl⟩
   have hl':l+1<m:=by omega
   have hxl:=hb.le
   have hxge:m-l-1<x:=by
    by_cases z:l=0
    ·have:=hb.at0 z;omega
    ·have:=hb.ge (by omega);omega
   have ea:((m:Int)-1-l)=((m-l-1:Nat):Int):=by omega
   rw[ea]
   refine⟨r,m-l-1,x,t,ns,rfl,s2 _ _ hr0,hxge,by omega,hall,λy h1 h2 h3 h4=>?_⟩
   have hb':=hb.step hnn hl' hmn h1 h2 h3 h4
   refine⟨zB9 e2,zBu e2 (by omega) λH3 k3 e3=>?_⟩
   refine⟨s2.new k3 hp,by omega,y,c++[(y:Int)],hb',by simp[hcl],λn hn=>?_,λi hi=>?_,e3,_,rfl⟩
   ·rcases List.mem_append.mp hn with hn | hn
    ·exact hc1 n hn
    ·have:n=(y:Int):=by simpa using hn
     omega
   ·rcases hi with z | ⟨i1,i2,i3⟩
    ·omega
    rw[List.reverse_append,List.reverse_singleton,List.singleton_append]
    obtain⟨v,hv,hvt⟩:=hb'.fit l rfl
    refine FirstCut.step i2 (by omega) ?_ ?_ (λj hj1 hj2=>.inr ?_) (hF y ?_)
    ·simp only[zEP];rw[if_pos trivial];exact decide_eq_false (by omega)
    ·rw[hv];simp only[zEP];rw[if_pos trivial];exact decide_eq_false (by omega)
    ·cases hTj:T 0 ns l j with
     | none=>rfl
     | some u =>
      have:=hb'.no l rfl j (by omega) hj2 u hTj
      simp only[zEP];rw[if_pos trivial];exact decide_eq_true this
    ·by_cases z:l=0
     ·exact .inl z
     ·exact .inr ⟨h1,h2,h3⟩
  ·rintro σ H2 ⟨s2,_,x,c,hb,hcl,hc1,hF,e2,o5,rfl⟩
   have en:((m:Int)-1-0).toNat=m-1:=by omega
   rw[en] at hb hF hcl
   refine⟨s2,c,hF 0 ?_,hc1,e2,_,_,rfl⟩
   by_cases z:m=1
   ·exact .inl (by omega)
   ·obtain⟨h1,h2⟩:=hb.top hnn (by omega) hmn hT
    exact .inr ⟨by omega,h1,h2⟩
 ·rintro σ H2 ⟨s2,c,hF,hc1,e2,o4,o5,rfl⟩
  refine⟨rfl,zM0 (SqL.of e2) λp3 H3 hp3 s3 e3=>q p3 c.reverse H3 hF (λn hn=>hc1 n (by simpa using hn)) (s2.free hp3) (s2.trans s3) ?_⟩
  rw[e3,List.map_reverse]
abbrev zqb:Stmt:=top 17
theorem zq6c:FnScope ["row","many","bound"] ["row","many"] (zAA zqb):=⟨rfl,rfl,rfl,by decide +kernel,rfl,by decide +kernel,by decide +kernel⟩
theorem zq7q:Loc (zAA zqb) "bound":=Or.inl (by kernel_rfl)
theorem zq3n:Vis (zAA zqb) "bound":=Or.inl (by kernel_rfl)
theorem zq2f:Vis (zAA zqb) "many":=Or.inl (by kernel_rfl)
theorem zq2q:Vis (zAA zqb) "row":=Or.inl (by kernel_rfl)
theorem zq5s:(zAA zqb).names.lookup ("check_many":Str)=some NameKind.globalImplicit:=by kernel_rfl
theorem zq4z:(zAA zqb).names.lookup ("earliest_cut":Str)=some NameKind.globalImplicit:=by kernel_rfl
theorem zq58:(zAA zqb).names.lookup ("least_bound":Str)=some NameKind.globalImplicit:=by kernel_rfl
def zqbg {cdv:Value}{A:Around}{outer:List Env}{s:Shared}{H:Hp}{E:XK}(B:Bl mg)(zq6:Def P w K mg base 3 "check_many" ["row","many"] zqr)(zq2x:Def P w K mg base 3 "least_bound" ["row","many"] zq3c)(zq2g:Def P w K mg base 2 "earliest_cut" ["row","many","bound"] zq32)(hr:Room 3 (A.deeper (PyProof.Rows.envOfC "least_greatest" (zAA zqb) s.heap.objs.size f cdv))) :
  { t:TS // QB (cxOf CX0 P w K mg base ["row","many","bound"] "least_greatest" (zAA zqb) f cdv A outer s H E).nox (zAF zqb) t } :=
 ⟨_,(zAE (zBQ (zAN zq6 hr (by decide) zq5s (zAB (qv 0 rfl zq2q) (zAB (qv 1 rfl zq2f) zAC))))
  (zAE (zAJ (i:=2) zq6c.nd rfl zq7q (.inl rfl) (zAN zq2x hr (by decide) zq58 (zAB (qv 0 rfl zq2q) (zAB (qv 1 rfl zq2f) zAC))))
  (zAH (zAR (zCp (zAB (qv 2 rfl zq3n) (zAB (zAN zq2g hr (by decide) zq4z (zAB (qv 0 rfl zq2q) (zAB (qv 1 rfl zq2f) (zAB (qv 2 rfl zq3n) zAC)))) zAC)))))))⟩
open M5 M10 M11 M7
def zq2a:Sp:=λvs H Q _=>∃ (r:Addr) (m:Nat) (ns:List Int) (t:Int),vs=[.ref r,.int m]/\H r=some (.lst (ns.map V.int))/\RowN ns/\1<=m/\m<=ns.length/\T 0 ns (m-1) 0=some t /\
 ∀ p pc c H',0<=t->t<=120000000000000->FirstCut 0 ns t (m-1) 0 c->(∀ n∈c,0<=n/\n<=1000)->H p=none->H pc=none->Same H H'->H' p=some (.tup [.int t,.ref pc])->H' pc=some (.lst (c.map V.int))->Q (.ref p) H'
theorem zqan (B:Bl mg)(zq6:Def P w K mg base 3 "check_many" ["row","many"] zqr)(zq2x:Def P w K mg base 3 "least_bound" ["row","many"] zq3c)(zq2g:Def P w K mg base 2 "earliest_cut" ["row","many","bound"] zq32)
  (F:Fun K "least_greatest" "least_greatest" zqb f fd):FnOk P w K mg base CX0 4 f fd ["row","many"] zq2a:=by
 refine F.okq zq6c (λvs H Q E h=>?_) (λcdv A outer s H vs Q E hr h=>?_)
 ·obtain⟨r,m,ns,t,rfl,_⟩:=h;rfl
 obtain⟨r,m,ns,t,rfl,hr0,rn,hm1,hmn,hT,q⟩:=h
 refine⟨zqbg B zq6 zq2x zq2g hr,?_⟩
 have hle:ns.length<=1000:=by have:=rn.le;omega
 refine⟨r,m,_,rfl,hr0,by omega,by rw[List.length_map];omega,?_⟩
 refine⟨r,m,ns,t,rfl,hr0,rn,hm1,hmn,hT,λH1 s1 ht0 htb hall=>?_⟩
 refine⟨r,m,ns,t,rfl,s1 _ _ hr0,rn.nn,hle,hall,hm1,hmn,hT,λpc c H2 hF hc hpc s2 e2=>?_⟩
 refine zCm (by show 2<=sizeLine;decide) λp H3 hp s3 e3=>?_
 exact q p pc c H3 ht0 htb hF hc ((s1.trans s2).free hp) (s1.free hpc) (s1.trans (s2.trans s3)) e3 (s3 _ _ e2)
abbrev zqf:Stmt:=top 22
theorem zq1n:FnScope ["row","bound","ends","total","place","number"] ["row","bound"] (zAA zqf):=⟨rfl,rfl,rfl,by decide +kernel,rfl,by decide +kernel,by decide +kernel⟩
theorem zqao:Loc (zAA zqf) "ends":=Or.inl (by kernel_rfl)
theorem zq9f:Loc (zAA zqf) "number":=Or.inl (by kernel_rfl)
theorem zqa0:Loc (zAA zqf) "place":=Or.inl (by kernel_rfl)
theorem zq39:Loc (zAA zqf) "total":=Or.inl (by kernel_rfl)
theorem zqa1:Vis (zAA zqf) "bound":=Or.inl (by kernel_rfl)
theorem zq6d:Vis (zAA zqf) "ends":=Or.inl (by kernel_rfl)
theorem zq9g:Vis (zAA zqf) "number":=Or.inl (by kernel_rfl)
theorem zqa2:Vis (zAA zqf) "place":=Or.inl (by kernel_rfl)
theorem zqbh:Vis (zAA zqf) "row":=Or.inl (by kernel_rfl)
theorem zqa3:Vis (zAA zqf) "total":=Or.inl (by kernel_rfl)
theorem zq7r:(zAA zqf).names.lookup ("enumerate":Str)=some NameKind.globalImplicit:=by kernel_rfl
def zqeg {cdv:Value}{A:Around}{outer:List Env}{s:Shared}{H:Hp}{E:XK}(B:Bl mg)(hr:Room 0 (A.deeper (PyProof.Rows.envOfC "short_ends" (zAA zqf) s.heap.objs.size f cdv))) :
  { t:TS // QB (cxOf CX0 P w K mg base ["row","bound","ends","total","place","number"] "short_ends" (zAA zqf) f cdv A outer s H E).nox (zAF zqf) t } :=
 ⟨_,(zAE (zAJ (i:=2) zq1n.nd rfl zqao (.inl rfl) (zAf zAC))
  (zAE (zAJ (i:=3) zq1n.nd rfl zq39 (.inl rfl) zAD)
  (zAY (zAm PassesOwn.never rfl (zGO (K:=K) rfl zq7r B.enumerate (zAB (qv 0 rfl zqbh) zAC)) (zCW (K:=K) rfl rfl (zAk (zAL (i:=4) zq1n.nd rfl zqa0 (.inl rfl)) (zAk (zAL (i:=5) zq1n.nd rfl zq9f (.inl rfl)) zBm))) (zAE (zBx (i:=3) zq1n.nd rfl zq39 (.inl rfl) (qv 5 rfl zq9g) zDZ)
  (zAH (zA8 (zAX opGe (qv 3 rfl zqa3) (qv 1 rfl zqa1)) (zAE (zBQ (zCB (K:=K) rfl PySem.F.plainAttrs_list PySem.F.slot_list_append PySem.F.type_list_append zB8 (qv 2 rfl zq6d) (zAO zAq (qv 4 rfl zqa2) zAD)))
  (zAH (zAJ (i:=3) zq1n.nd rfl zq39 (.inl rfl) zAD))) zAr))))
  (zAH (zAR (qv 2 rfl zq6d))))))⟩
open M10 in
def zq21:Sp:=λvs H Q _=>∃ (r:Addr) (b:Int) (ns:List Int),vs=[.ref r,.int b]/\H r=some (.lst (ns.map V.int))/\ns.length<=1000 /\
 ∀ p H',H p=none->Same H H'->H' p=some (.lst ((zAh b 0 0 ns).map V.int))->Q (.ref p) H'
open M10 in
theorem zqe2 (B:Bl mg)(F:Fun K "short_ends" "short_ends" zqf f fd):FnOk P w K mg base CX0 1 f fd ["row","bound"] zq21:=by
 refine F.okq zq1n (λvs H Q E h=>?_) (λcdv A outer s H vs Q E hr h=>?_)
 ·obtain⟨r,b,ns,rfl,_⟩:=h;rfl
 obtain⟨r,b,ns,rfl,hr0,hle,q⟩:=h
 refine⟨zqeg B hr,?_⟩
 refine zAc (by show 0<=sizeLine;decide) λp H1 hp s1 e1=>?_
 refine⟨λσ H'=>Same H H'/\H' p=some (.lst ((zAh b 0 0 ns).map V.int))/\∃ o3 o4 o5,σ=[some (.ref r),some (.int b),some (.ref p),o3,o4,o5],?_,?_⟩
 ·refine⟨⟨_,SqL.of (s1 _ _ hr0)⟩,zIZ (ns.map V.int) (λi σ H'=>∃ o1 o2,σ=[some (.ref r),some (.int b),some (.ref p),some (.int (stot b 0 (ns.take i))),o1,o2]/\Same H H'/\H' p=some (.lst ((zAh b 0 0 (ns.take i)).map V.int))) ?_ ?_ ?_ ?_⟩
  ·exact⟨none,none,rfl,s1,e1⟩
  ·rintro i σ H' _ ⟨o1,o2,rfl,s',e'⟩
   exact SqL.of (s' _ _ hr0)
  ·rintro i x σ H' T H2 hx ⟨o1,o2,rfl,s',e'⟩ hT s2 e2
   obtain⟨z,rfl,hz,_⟩:=zAt hx
   have hi:i<ns.length:=(List.getElem?_eq_some_iff.mp hz).1
   have hlen:(ns.take i).length=i:=by rw[List.length_take];omega
   have et:=zBy hz
   have e3:=s2 _ _ e'
   have ll:(zAh b 0 0 (ns.take i)).length<=1000:=by have:=zB3 b (ns.take i) 0 0;omega
   have el:zAh b 0 0 (ns.take (i+1))=zAh b 0 0 (ns.take i)++(if stot b 0 (ns.take i)+z>=b then [((i+1:Nat):Int)] else []):=by
    rw[et,zCc,hlen,Nat.zero_add]
    simp only[zAh]
   have es:stot b 0 (ns.take (i+1))=if stot b 0 (ns.take i)+z>=b then 0 else stot b 0 (ns.take i)+z:=by
    rw[et,zC9]
    simp only[stot]
   refine zD9 e2 rfl ?_
   refine dec2 (λc=>?_) (λc=>?_)
   ·have c':stot b 0 (ns.take i)+z>=b:=c
    refine⟨zB9 e3,zBu e3 (by omega) λH4 k4 e4=>?_⟩
    refine⟨some (.int i),some (.int z),by rw[es,if_pos c'];rfl,(s'.trans s2).new k4 hp,?_⟩
    rw[e4,el,if_pos c'];rfl
   ·have c':¬ stot b 0 (ns.take i)+z>=b:=c
    refine⟨some (.int i),some (.int z),by rw[es,if_neg c'];rfl,s'.trans s2,?_⟩
    rw[e3,el,if_neg c',List.append_nil]
  ·rintro σ H' ⟨o1,o2,rfl,s',e'⟩
   rw[List.length_map,List.take_length] at e'
   exact⟨s',e',_,_,_,rfl⟩
 ·rintro σ H' ⟨s',e',o3,o4,o5,rfl⟩
  exact q p H' hp s' e'
abbrev zq4:Stmt:=top 24
theorem zq1h:FnScope ["row","many","low","high","middle"] ["row","many"] (zAA zq4):=⟨rfl,rfl,rfl,by decide +kernel,rfl,by decide +kernel,by decide +kernel⟩
theorem zq42:Loc (zAA zq4) "high":=Or.inl (by kernel_rfl)
theorem zq4i:Loc (zAA zq4) "low":=Or.inl (by kernel_rfl)
theorem zq7b:Loc (zAA zq4) "middle":=Or.inl (by kernel_rfl)
theorem zq43:Vis (zAA zq4) "high":=Or.inl (by kernel_rfl)
theorem zq2r:Vis (zAA zq4) "low":=Or.inl (by kernel_rfl)
theorem zq44:Vis (zAA zq4) "many":=Or.inl (by kernel_rfl)
theorem zq1y:Vis (zAA zq4) "middle":=Or.inl (by kernel_rfl)
theorem zq4j:Vis (zAA zq4) "row":=Or.inl (by kernel_rfl)
theorem zq8t:(zAA zq4).names.lookup ("len":Str)=some NameKind.globalImplicit:=by kernel_rfl
theorem zq5t:(zAA zq4).names.lookup ("short_ends":Str)=some NameKind.globalImplicit:=by kernel_rfl
theorem zq8u:(zAA zq4).names.lookup ("sum":Str)=some NameKind.globalImplicit:=by kernel_rfl
def zqbi {cdv:Value}{A:Around}{outer:List Env}{s:Shared}{H:Hp}{E:XK}(B:Bl mg)(zq1c:Def P w K mg base 1 "short_ends" ["row","bound"] zq21)(hr:Room 1 (A.deeper (PyProof.Rows.envOfC "greatest_bound" (zAA zq4) s.heap.objs.size f cdv))) :
  { t:TS // QB (cxOf CX0 P w K mg base ["row","many","low","high","middle"] "greatest_bound" (zAA zq4) f cdv A outer s H E).nox (zAF zq4) t } :=
 ⟨_,(zAE (zAJ (i:=2) zq1h.nd rfl zq4i (.inl rfl) zAD)
  (zAE (zAJ (i:=3) zq1h.nd rfl zq42 (.inl rfl) (zAO zCn (zAa (kSum (K:=K) rfl rfl) zq8u B.sum zB5 (zAB (qv 0 rfl zq4j) zAC)) (qv 1 rfl zq44)))
  (zAY (zBJ PassesOwn.never (zAX opLt (qv 2 rfl zq2r) (qv 3 rfl zq43)) (zAE (zAJ (i:=4) zq1h.nd rfl zq7b (.inl rfl) (zAO zCn (zAO zAq (zAO zAq (qv 2 rfl zq2r) (qv 3 rfl zq43)) zAD) zAD))
  (zAH (zA8 (zAX opGe (zAa (kLen (K:=K) rfl) zq8t B.len zAV (zAB (zAN zq1c hr (by decide) zq5t (zAB (qv 0 rfl zq4j) (zAB (qv 4 rfl zq1y) zAC))) zAC)) (qv 1 rfl zq44)) (zAH (zAJ (i:=2) zq1h.nd rfl zq4i (.inl rfl) (qv 4 rfl zq1y))) (zAH (zAJ (i:=3) zq1h.nd rfl zq42 (.inl rfl) (zAO zA7 (qv 4 rfl zq1y) zAD)))))))
  (zAH (zAR (qv 2 rfl zq2r))))))⟩
open M5 M10 M11
theorem zEy (ns:List Int):ns.sum=seg ns 0 ns.length:=by unfold seg;rw[List.take_length,List.drop_zero]
theorem zL3 (b:Int)(ns:List Int):(zAh b 0 0 ns).length=G b ns 0:=by unfold G cnt;rw[List.drop_zero]
def zq2b:Sp:=λvs H Q _=>∃ (r:Addr) (m:Nat) (ns:List Int) (t:Int),vs=[.ref r,.int m]/\H r=some (.lst (ns.map V.int))/\RowN ns/\1<=m/\m<=ns.length/\T 1 ns (m-1) 0=some t/\∀ H',Same H H'->0<=t->t<=120000000000000->Q (.int t) H'
theorem zqap (B:Bl mg)(zq1c:Def P w K mg base 1 "short_ends" ["row","bound"] zq21)(F:Fun K "greatest_bound" "greatest_bound" zq4 f fd):FnOk P w K mg base CX0 2 f fd ["row","many"] zq2b:=by
 refine F.okq zq1h (λvs H Q E h=>?_) (λcdv A outer s H vs Q E hr h=>?_)
 ·obtain⟨r,m,ns,t,rfl,_⟩:=h;rfl
 obtain⟨r,m,ns,t,rfl,hr0,rn,hm1,hmn,hT,q⟩:=h
 refine⟨zqbi B zq1c hr,?_⟩
 have hnn:=rn.nn
 have hle:ns.length<=1000:=by have:=rn.le;omega
 have hiff:∀ b,b<=t↔m<=G b ns 0:=λb=>by
  have:=zKF hnn b (k:=m-1) (i:=0) (by omega) hT
  rw[show m-1+1=m by omega] at this;exact this
 have ht0:0<=t:=(hiff 0).mpr (by rw[zLs hnn];exact hmn)
 have hsum:=zEx rn
 have htm:t<=ns.sum / m:=by
  rw[Int.le_ediv_iff_mul_le (by omega)]
  have h1:=zLr hnn ht0 ns.length 0 (by omega) (by omega)
  have h2:=(hiff t).mp (Int.le_refl t)
  rw[<- zEy] at h1
  have h3:t*(m:Int)<=t*(G t ns 0:Int):=Int.mul_le_mul_of_nonneg_left (by omega) ht0
  omega
 have htb:t<=120000000000000:=by
  have h1:=zLr hnn ht0 ns.length 0 (by omega) (by omega)
  have h2:=(hiff t).mp (Int.le_refl t)
  rw[<- zEy] at h1
  have h3:t*1<=t*(G t ns 0:Int):=Int.mul_le_mul_of_nonneg_left (by omega) ht0
  omega
 have hmI:(0:Int)<m:=by omega
 refine zHW (SqL.of hr0) ⟨⟨by omega,by omega⟩,?_⟩
 have hhi:ns.sum / (m:Int)<=120000000000000:=by
  have:=Int.ediv_le_self (a:=ns.sum) (m:Int) hsum.1
  omega
 refine⟨λσ H'=>Same H H'/\∃ o3 o4,σ=[some (.ref r),some (.int m),some (.int t),o3,o4],?_,?_⟩
 ·refine zBk (λmm σ H'=>∃ lo hi:Int,∃ o4,0<=lo/\lo<=t/\t<=hi/\hi<=120000000000000/\mm=(hi-lo).toNat/\Same H H'/\σ=[some (.ref r),some (.int m),some (.int lo),some (.int hi),o4]) _ ⟨0,ns.sum / m,_,Int.le_refl 0,ht0,htm,hhi,rfl,Same.refl H,rfl⟩ ?_
  rintro mm σ H1 ⟨lo,hi,o4,h1,h2,h3,h4,rfl,s1,rfl⟩
  refine dec2 (λc=>?_) (λc=>?_)
  ·refine⟨⟨by decide,by decide⟩,r,(lo+hi+1) / 2,ns,rfl,s1 _ _ hr0,hle,λp H2 hp s2 e2=>?_⟩
   refine zA6 e2 ?_
   rw[zL3]
   have hi2:=hiff ((lo+hi+1) / 2)
   refine dec2 (λc2=>?_) (λc2=>?_)
   ·have:=hi2.mpr (by omega)
    exact⟨(hi-(lo+hi+1) / 2).toNat,by omega,(lo+hi+1) / 2,hi,_,by omega,this,h3,h4,rfl,s1.trans s2,rfl⟩
   ·have:¬ (lo+hi+1) / 2<=t:=λz=>c2 (by have:=hi2.mp z;omega)
    exact⟨((lo+hi+1) / 2-1-lo).toNat,by omega,lo,(lo+hi+1) / 2-1,_,h1,h2,by omega,by omega,rfl,s1.trans s2,rfl⟩
  ·have:lo=t:=by omega
   subst this
   exact⟨s1,_,_,rfl⟩
 ·rintro σ H1 ⟨s1,o3,o4,rfl⟩
  exact q H1 s1 ht0 htb
abbrev zqc:Stmt:=top 23
theorem zq6e:FnScope ["row","many","bound"] ["row","many"] (zAA zqc):=⟨rfl,rfl,rfl,by decide +kernel,rfl,by decide +kernel,by decide +kernel⟩
theorem zq7s:Loc (zAA zqc) "bound":=Or.inl (by kernel_rfl)
theorem zq3o:Vis (zAA zqc) "bound":=Or.inl (by kernel_rfl)
theorem zq2h:Vis (zAA zqc) "many":=Or.inl (by kernel_rfl)
theorem zq2s:Vis (zAA zqc) "row":=Or.inl (by kernel_rfl)
theorem zq5u:(zAA zqc).names.lookup ("check_many":Str)=some NameKind.globalImplicit:=by kernel_rfl
theorem zq4b:(zAA zqc).names.lookup ("greatest_bound":Str)=some NameKind.globalImplicit:=by kernel_rfl
theorem zq5v:(zAA zqc).names.lookup ("short_ends":Str)=some NameKind.globalImplicit:=by kernel_rfl
def zqbj {cdv:Value}{A:Around}{outer:List Env}{s:Shared}{H:Hp}{E:XK}(B:Bl mg)(zq6:Def P w K mg base 3 "check_many" ["row","many"] zqr)(zq1u:Def P w K mg base 2 "greatest_bound" ["row","many"] zq2b)(zq1c:Def P w K mg base 1 "short_ends" ["row","bound"] zq21)(hr:Room 3 (A.deeper (PyProof.Rows.envOfC "greatest_least" (zAA zqc) s.heap.objs.size f cdv))) :
  { t:TS // QB (cxOf CX0 P w K mg base ["row","many","bound"] "greatest_least" (zAA zqc) f cdv A outer s H E).nox (zAF zqc) t } :=
 ⟨_,(zAE (zBQ (zAN zq6 hr (by decide) zq5u (zAB (qv 0 rfl zq2s) (zAB (qv 1 rfl zq2h) zAC))))
  (zAE (zAJ (i:=2) zq6e.nd rfl zq7s (.inl rfl) (zAN zq1u hr (by decide) zq4b (zAB (qv 0 rfl zq2s) (zAB (qv 1 rfl zq2h) zAC))))
  (zAH (zAR (zCp (zAB (qv 2 rfl zq3o) (zAB (zBz (K:=K) rfl (zAN zq1c hr (by decide) zq5v (zAB (qv 0 rfl zq2s) (zAB (qv 2 rfl zq3o) zAC))) zEC (zBT (zAO zA7 (qv 1 rfl zq2h) zAD))) zAC)))))))⟩
open M5 M10 M11
def zq2c:Sp:=λvs H Q _=>∃ (r:Addr) (m:Nat) (ns:List Int) (t:Int),vs=[.ref r,.int m]/\H r=some (.lst (ns.map V.int))/\RowN ns/\1<=m/\m<=ns.length/\T 1 ns (m-1) 0=some t /\
 ∀ p pc H',0<=t->t<=120000000000000->H p=none->H pc=none->Same H H'->H' p=some (.tup [.int t,.ref pc])->H' pc=some (.lst (((zAh t 0 0 ns).take (m-1)).map V.int))->Q (.ref p) H'
theorem zqaq (B:Bl mg)(zq6:Def P w K mg base 3 "check_many" ["row","many"] zqr)(zq1u:Def P w K mg base 2 "greatest_bound" ["row","many"] zq2b)(zq1c:Def P w K mg base 1 "short_ends" ["row","bound"] zq21)
  (F:Fun K "greatest_least" "greatest_least" zqc f fd):FnOk P w K mg base CX0 4 f fd ["row","many"] zq2c:=by
 refine F.okq zq6e (λvs H Q E h=>?_) (λcdv A outer s H vs Q E hr h=>?_)
 ·obtain⟨r,m,ns,t,rfl,_⟩:=h;rfl
 obtain⟨r,m,ns,t,rfl,hr0,rn,hm1,hmn,hT,q⟩:=h
 refine⟨zqbj B zq6 zq1u zq1c hr,?_⟩
 have hle:ns.length<=1000:=by have:=rn.le;omega
 refine⟨r,m,_,rfl,hr0,by omega,by rw[List.length_map];omega,?_⟩
 refine⟨r,m,ns,t,rfl,hr0,rn,hm1,hmn,hT,λH1 s1 ht0 htb=>?_⟩
 refine⟨r,t,ns,rfl,s1 _ _ hr0,hle,λp2 H2 hp2 s2 e2=>?_⟩
 refine i_sl (SqL.of e2) λpc H3 hpc s3 e3=>?_
 refine zCm (by show 2<=sizeLine;decide) λp H4 hp s4 e4=>?_
 refine q p pc H4 ht0 htb ((s1.trans (s2.trans s3)).free hp) ((s1.trans s2).free hpc) (s1.trans (s2.trans (s3.trans s4))) e4 ?_
 rw[s4 _ _ e3,zBW]
 have e1:HT.sIx (zAh t 0 0 ns).length 0 none=0:=rfl
 have e2':((m:Int)-1)=((m-1:Nat):Int):=by omega
 rw[e1,e2',HT.sIx_nat,List.drop_zero,Nat.sub_zero]
 congr 3
 by_cases c:m-1<=(zAh t 0 0 ns).length
 ·rw[Nat.min_eq_left c]
 ·rw[Nat.min_eq_right (by omega),List.take_of_length_le (Nat.le_refl _),List.take_of_length_le (by omega)]
abbrev zqj:Stmt:=top 28
theorem zq7f:FnScope ["row","ahead"] ["row"] (zAA zqj):=⟨rfl,rfl,rfl,by decide +kernel,rfl,by decide +kernel,by decide +kernel⟩
theorem zq8v:Loc (zAA zqj) "ahead":=Or.inr (by kernel_rfl)
theorem zq8w:Vis (zAA zqj) "ahead":=Or.inr (Or.inl (by kernel_rfl))
theorem zqa4:Vis (zAA zqj) "row":=Or.inl (by kernel_rfl)
theorem zqa5:(zAA zqj).names.lookup ("len":Str)=some NameKind.globalImplicit:=by kernel_rfl
theorem zq8x:(zAA zqj).names.lookup ("range":Str)=some NameKind.globalImplicit:=by kernel_rfl
theorem zq86:(zAA zqj).names.lookup ("sorted":Str)=some NameKind.globalImplicit:=by kernel_rfl
theorem zq6o:(zAA zqj).names.lookup ("sums_ahead":Str)=some NameKind.globalImplicit:=by kernel_rfl
def zqde {cdv:Value}{A:Around}{outer:List Env}{s:Shared}{H:Hp}{E:XK}(B:Bl mg)(zq18:Def P w K mg base 1 "sums_ahead" ["row"] zq1m)(hr:Room 1 (A.deeper (PyProof.Rows.envOfC "stretch_sums" (zAA zqj) s.heap.objs.size f cdv))) :
  { t:TS // QB (cxOf CX0 P w K mg base ["row","ahead"] "stretch_sums" (zAA zqj) f cdv A outer s H E).nox (zAF zqj) t } :=
 ⟨_,(zAE (zAJ (i:=1) zq7f.nd rfl zq8v (.inl rfl) (zAN zq18 hr (by decide) zq6o (zAB (qv 0 rfl zqa4) zAC)))
  (zAH (zAR (zM6 ["end","begin","ahead"] [some 1] rfl zq86 B.sorted (zJn zq8x B.range (zAB zAD (zAB (zAa (kLen (K:=K) rfl) zqa5 B.len zAV (zAB (qv 1 rfl zq8w) zAC)) zAC))) (λ_ _ _ _ _ _=>(zAL (i:=0) (show (["end","begin","ahead"]:List Str).Nodup by decide +kernel) rfl (by first | exact Or.inl rfl | exact Or.inr rfl) (by first | exact .inl rfl | exact .inr rfl))) (λ_ _ _ _ _ _=>(zCT rfl B.range (zAB (qv 0 rfl (by first | exact Or.inl rfl | exact Or.inr (Or.inl rfl) | exact Or.inr (Or.inr rfl))) zAC))) (λ_ _ _ _ _ _=>(zAL (i:=1) (show (["end","begin","ahead"]:List Str).Nodup by decide +kernel) rfl (by first | exact Or.inl rfl | exact Or.inr rfl) (by first | exact .inl rfl | exact .inr rfl))) (λ_ _ _ _ _ _=>(zAO zA7 (zAU (K:=K) rfl (qv 2 rfl (by first | exact Or.inl rfl | exact Or.inr (Or.inl rfl) | exact Or.inr (Or.inr rfl))) (qv 0 rfl (by first | exact Or.inl rfl | exact Or.inr (Or.inl rfl) | exact Or.inr (Or.inr rfl))) (λ_ _=>rfl)) (zAU (K:=K) rfl (qv 2 rfl (by first | exact Or.inl rfl | exact Or.inr (Or.inl rfl) | exact Or.inr (Or.inr rfl))) (qv 1 rfl (by first | exact Or.inl rfl | exact Or.inr (Or.inl rfl) | exact Or.inr (Or.inr rfl))) (λ_ _=>rfl))))))))⟩
open M25
def Strs (ns ms:List Int):Prop:=ms.Nodup/\(∀ k,k∈ms↔∃ i e,i<e/\e<=ns.length/\k=S ns e-S ns i)/\ms.Pairwise (·<=·)
def zq33:Sp:=λvs H Q _=>∃ (r:Addr) (ns:List Int),vs=[.ref r]/\H r=some (.lst (ns.map V.int))/\1<=ns.length/\ns.length<=30 /\
 ∀ (p:Addr) (ms:List Int) (H':Hp),Strs ns ms->ms.length<=1000->H p=none->Same H H'->H' p=some (.lst (ms.map V.int))->Q (.ref p) H'
theorem zqck (B:Bl mg)(zq18:Def P w K mg base 1 "sums_ahead" ["row"] zq1m)(F:Fun K "stretch_sums" "stretch_sums" zqj f fd):FnOk P w K mg base CX0 2 f fd ["row"] zq33:=by
 refine F.okq zq7f (λvs H Q E h=>?_) (λcdv A outer s H vs Q E hr h=>?_)
 ·obtain⟨r,ns,rfl,_⟩:=h;rfl
 obtain⟨r,ns,rfl,hr0,n1,n2,q⟩:=h
 refine⟨zqde B zq18 hr,?_⟩
 refine⟨r,ns,rfl,hr0,by omega,λp1 H1 hp1 s1 e1=>?_⟩
 have hpl:(pre ns (ns.length+1)).length=ns.length+1:=by simp[pre]
 refine zA6 e1 ⟨⟨by decide,by decide,by omega,by omega⟩,1,ns.length,ns.length,λi=>i+1,λi j=>S ns (i+1)-S ns j,?_,λi hi=>hi,?_,λi o H2 hi s2=>?_,λi j H2 hi hj s2=>?_,λp H' ms h1 h2 h3 hml hp s' e'=>?_⟩
 ·rw[hpl];congr 1;omega
 ·exact Nat.le_trans (Nat.mul_le_mul n2 n2) (by decide)
 ·refine⟨⟨by omega,by omega⟩,?_,rfl⟩
  show Itr 0 _=Itr 0 (i+1)
  congr 1;omega
 ·have hj:j<i+1:=hj
  have e2:=s2 _ _ e1
  have b1:(1+(i:Int))<(pre ns (ns.length+1)).length:=by omega
  refine zCR e2 (by omega) b1 (zCR e2 (by omega) (by omega) ⟨?_,rfl⟩)
  rw[show (1+(i:Int)).toNat=i+1 by omega,show (0+(j:Int)).toNat=j by omega,zEq (by omega),zEq (by omega)]
 ·refine q p ms H' ⟨h1,λk=>(h2 k).trans ?_,h3⟩ hml (s1.free hp) (s1.trans s') e'
  constructor
  ·rintro⟨i,j,h4,h5,h6⟩
   have h5:j<i+1:=h5
   exact⟨j,i+1,by omega,by omega,h6⟩
  ·rintro⟨i,e,h4,h5,h6⟩
   exact⟨e-1,i,by omega,(by omega:i<e-1+1),by show k=S ns (e-1+1)-S ns i;rw[show e-1+1=e by omega];exact h6⟩
abbrev zq2:Stmt:=top 27
theorem zqx:FnScope ["row","many","sums","greatest_low","least_high","lows","highs","bounds","at","low"] ["row","many"] (zAA zq2):=⟨rfl,rfl,rfl,by decide +kernel,rfl,by decide +kernel,by decide +kernel⟩
theorem zq6y:Loc (zAA zq2) "at":=Or.inl (by kernel_rfl)
theorem zq8y:Loc (zAA zq2) "bounds":=Or.inl (by kernel_rfl)
theorem zq63:Loc (zAA zq2) "greatest_low":=Or.inr (by kernel_rfl)
theorem zq9h:Loc (zAA zq2) "highs":=Or.inl (by kernel_rfl)
theorem zq6z:Loc (zAA zq2) "least_high":=Or.inr (by kernel_rfl)
theorem zqar:Loc (zAA zq2) "low":=Or.inl (by kernel_rfl)
theorem zqa6:Loc (zAA zq2) "lows":=Or.inl (by kernel_rfl)
theorem zqa7:Loc (zAA zq2) "sums":=Or.inl (by kernel_rfl)
theorem zq70:Vis (zAA zq2) "at":=Or.inl (by kernel_rfl)
theorem zq4k:Vis (zAA zq2) "bounds":=Or.inl (by kernel_rfl)
theorem zq53:Vis (zAA zq2) "highs":=Or.inl (by kernel_rfl)
theorem zq6f:Vis (zAA zq2) "low":=Or.inl (by kernel_rfl)
theorem zqa8:Vis (zAA zq2) "lows":=Or.inl (by kernel_rfl)
theorem zq3a:Vis (zAA zq2) "many":=Or.inl (by kernel_rfl)
theorem zq2d:Vis (zAA zq2) "row":=Or.inl (by kernel_rfl)
theorem zq5w:Vis (zAA zq2) "sums":=Or.inl (by kernel_rfl)
theorem zq64:(zAA zq2).names.lookup ("cuts_between":Str)=some NameKind.globalImplicit:=by kernel_rfl
theorem zq59:(zAA zq2).names.lookup ("greatest_least":Str)=some NameKind.globalImplicit:=by kernel_rfl
theorem zq5a:(zAA zq2).names.lookup ("least_greatest":Str)=some NameKind.globalImplicit:=by kernel_rfl
theorem zq65:(zAA zq2).names.lookup ("stretch_sums":Str)=some NameKind.globalImplicit:=by kernel_rfl
def zqe3 {cdv:Value}{A:Around}{outer:List Env}{s:Shared}{H:Hp}{E:XK}(B:Bl mg)(zq2i:Def P w K mg base 2 "stretch_sums" ["row"] zq33)(zq1v:Def P w K mg base 4 "greatest_least" ["row","many"] zq2c)(zq1w:Def P w K mg base 4 "least_greatest" ["row","many"] zq2a)(zq2j:Def P w K mg base 4 "cuts_between" ["row","many","low","high"] zq31)(hr:Room 4 (A.deeper (PyProof.Rows.envOfC "near_bounds" (zAA zq2) s.heap.objs.size f cdv))) :
  { t:TS // QB (cxOf CX0 P w K mg base ["row","many","sums","greatest_low","least_high","lows","highs","bounds","at","low"] "near_bounds" (zAA zq2) f cdv A outer s H E).nox (zAF zq2) t } :=
 ⟨_,(zAE (zAJ (i:=2) zqx.nd rfl zqa7 (.inl rfl) (zAN zq2i hr (by decide) zq65 (zAB (qv 0 rfl zq2d) zAC)))
  (zAE (zAJ (i:=3) zqx.nd rfl zq63 (.inl rfl) (zAU (K:=K) rfl (zAN zq1v hr (by decide) zq59 (zAB (qv 0 rfl zq2d) (zAB (qv 1 rfl zq3a) zAC))) zAD (λ_ _=>rfl)))
  (zAE (zAJ (i:=4) zqx.nd rfl zq6z (.inl rfl) (zAU (K:=K) rfl (zAN zq1w hr (by decide) zq5a (zAB (qv 0 rfl zq2d) (zAB (qv 1 rfl zq3a) zAC))) zAD (λ_ _=>rfl)))
  (zAE (zGN ["low","greatest_low"] [none,some 3] (i:=5) rfl zqx.nd rfl zqa6 (.inl rfl) (zAu (K:=K) rfl (qv 2 rfl zq5w)) (λ_ _ _ _ _ _=>(zAL (i:=0) (show (["low","greatest_low"]:List Str).Nodup by decide +kernel) rfl (by first | exact Or.inl rfl | exact Or.inr rfl) (by first | exact .inl rfl | exact .inr rfl))) (λ_ _ _ _ _ _=>zBn (zAX opLe (qv 0 rfl (by first | exact Or.inl rfl | exact Or.inr (Or.inl rfl) | exact Or.inr (Or.inr rfl))) (qv 1 rfl (by first | exact Or.inl rfl | exact Or.inr (Or.inl rfl) | exact Or.inr (Or.inr rfl))))) (λ_ _ _ _ _ _=>(qv 0 rfl (by first | exact Or.inl rfl | exact Or.inr (Or.inl rfl) | exact Or.inr (Or.inr rfl)))))
  (zAE (zGN ["high","least_high"] [none,some 4] (i:=6) rfl zqx.nd rfl zq9h (.inl rfl) (zAu (K:=K) rfl (qv 2 rfl zq5w)) (λ_ _ _ _ _ _=>(zAL (i:=0) (show (["high","least_high"]:List Str).Nodup by decide +kernel) rfl (by first | exact Or.inl rfl | exact Or.inr rfl) (by first | exact .inl rfl | exact .inr rfl))) (λ_ _ _ _ _ _=>zBn (zAX opGe (qv 0 rfl (by first | exact Or.inl rfl | exact Or.inr (Or.inl rfl) | exact Or.inr (Or.inr rfl))) (qv 1 rfl (by first | exact Or.inl rfl | exact Or.inr (Or.inl rfl) | exact Or.inr (Or.inr rfl))))) (λ_ _ _ _ _ _=>(qv 0 rfl (by first | exact Or.inl rfl | exact Or.inr (Or.inl rfl) | exact Or.inr (Or.inr rfl)))))
  (zAE (zAJ (i:=7) zqx.nd rfl zq8y (.inl rfl) (zAf zAC))
  (zAE (zAJ (i:=8) zqx.nd rfl zq6y (.inl rfl) zAD)
  (zAY (zAm PassesOwn.never rfl (zAu (K:=K) rfl (qv 5 rfl zqa8)) (zAL (i:=9) zqx.nd rfl zqar (.inl rfl)) (zAY (zBJ PassesOwn.never (zAX (kEqG (K:=K) rfl hr) (zAN zq2j hr (by decide) zq64 (zAB (qv 0 rfl zq2d) (zAB (qv 1 rfl zq3a) (zAB (qv 9 rfl zq6f) (zAB (zAU (K:=K) rfl (qv 6 rfl zq53) (qv 8 rfl zq70) (λ_ _=>rfl)) zAC))))) zAD) (zAH (zBx (i:=8) zqx.nd rfl zq6y (.inl rfl) zAD zDZ)))
  (zAH (zBQ (zCB (K:=K) rfl PySem.F.plainAttrs_list PySem.F.slot_list_append PySem.F.type_list_append zB8 (qv 7 rfl zq4k) (zCp (zAB (qv 9 rfl zq6f) (zAB (zAU (K:=K) rfl (qv 6 rfl zq53) (qv 8 rfl zq70) (λ_ _=>rfl)) zAC))))))))
  (zAH (zAR (qv 7 rfl zq4k)))))))))))⟩
open M25 M14 M49
structure PZ (H:Hp)(p:Addr)(ps:List Addr)(rs:List (Int×Int)):Prop where
 at_:H p=some (.lst (ps.map V.ref))
 it:Paired (λa (r:Int×Int)=>H a=some (.tup [.int r.1,.int r.2])) ps rs
theorem PZ.same {H H':Hp}{p:Addr}{ps:List Addr}{rs:List (Int×Int)}(h:PZ H p ps rs)(s:Same H H'):PZ H' p ps rs:=⟨s _ _ h.at_,zBO h.it λa ha b e=>s _ _ e⟩
theorem PZ.add {H H3 H4:Hp}{p q:Addr}{ps:List Addr}{rs:List (Int×Int)}{f g:Int}(h:PZ H p ps rs)(s:Same H H3)(e3:H3 q=some (.tup [.int f,.int g]))(k:Kp [p] H3 H4)(e4:H4 p=some (.lst (ps.map V.ref++[.ref q]))):PZ H4 p (ps++[q]) (rs++[(f,g)]):=by
 have hp3:=s _ _ h.at_
 have ne:∀ a xs,H3 a=some (.tup xs)->a≠p:=λa xs e z=>by rw[z,hp3] at e;cases e
 refine⟨by rw[e4,List.map_append];rfl,?_⟩
 exact zBG (F:=λa (r:Int×Int)=>H4 a=some (.tup [.int r.1,.int r.2])) (b:=(f,g)) (k.one (ne _ _ e3) e3) (zBO h.it λa ha b e=>k.one (ne _ _ (s _ _ e)) (s _ _ e))
theorem zIs {ms:List Int}(h1:ms.Nodup)(h2:ms.Pairwise (·<=·))(f:Int->Bool):(ms.filter f).Pairwise (·<·):=by
 refine List.Pairwise.filter f ((h2.and h1).imp λh=>?_)
 have:=h.1;have:=h.2
 omega
def zq3d:Sp:=λvs H Q _=>∃ (r:Addr) (m:Nat) (ns:List Int),vs=[.ref r,.int m]/\H r=some (.lst (ns.map V.int))/\RowN ns/\ns.length<=30/\1<=m/\m<=ns.length /\
 ∀ (p:Addr) (ps:List Addr) (bs:List (Int×Int)) (H':Hp),PZ H' p ps bs->Nb ns m bs->bs≠[]->bs.length<=1000->H p=none->Same H H'->Q (.ref p) H'
theorem zqdf (B:Bl mg)(zq2i:Def P w K mg base 2 "stretch_sums" ["row"] zq33)(zq1v:Def P w K mg base 4 "greatest_least" ["row","many"] zq2c)(zq1w:Def P w K mg base 4 "least_greatest" ["row","many"] zq2a)(zq2j:Def P w K mg base 4 "cuts_between" ["row","many","low","high"] zq31)(F:Fun K "near_bounds" "near_bounds" zq2 f fd):FnOk P w K mg base CX0 5 f fd ["row","many"] zq3d:=by
 refine F.okq zqx (λvs H Q E h=>?_) (λcdv A outer s H vs Q E hr h=>?_)
 ·obtain⟨r,m,ns,rfl,_⟩:=h;rfl
 obtain⟨r,m,ns,rfl,hr0,rn,n30,m1,mn,q⟩:=h
 refine⟨zqe3 B zq2i zq1v zq1w zq2j hr,?_⟩
 have hle:=rn.le
 have hn1:=rn.ne
 obtain⟨t,hT0⟩:=M11.T_some (w:=0) (ns:=ns) (k:=m-1) (i:=0) (by omega)
 obtain⟨g,hT1⟩:=M11.T_some (w:=1) (ns:=ns) (k:=m-1) (i:=0) (by omega)
 refine⟨r,ns,rfl,hr0,hn1,n30,λp1 ms H1 ⟨hnd,hmem,hsr⟩ hml hp1 s1 e1=>?_⟩
 have hr1:=s1 _ _ hr0
 refine⟨r,m,ns,g,rfl,hr1,rn,m1,mn,hT1,λp2 pc2 H2 _ _ hp2 hpc2 s2 e2 ec2=>?_⟩
 refine zDY 0 e2 rfl rfl ?_
 have hr2:=s2 _ _ hr1
 refine⟨r,m,ns,t,rfl,hr2,rn,m1,mn,hT0,λp3 pc3 c3 H3 _ _ _ _ hp3 hpc3 s3 e3 ec3=>?_⟩
 refine zDY 0 e3 rfl rfl ?_
 have hr3:=s3 _ _ hr2
 have e13:=s3 _ _ (s2 _ _ e1)
 have s13:=s1.trans (s2.trans s3)
 refine⟨⟨_,SqL.of e13⟩,zA3 (ms.map V.int) (λk D σ H' ys=>ys=((ms.take k).filter λx=>decide (x<=g)).map V.int/\Same H3 H'/\∃ o,σ=[o,some (.int g)]) ?_ ?_ ?_ ?_⟩
 ·intro D H' hD s' e'
  exact⟨rfl,s',_,rfl⟩
 ·rintro k D σ H' ys hD ⟨_,s',_⟩
  exact SqL.of (s' _ _ e13)
 ·rintro k x D σ H' ys hx hD ⟨rfl,s',o,rfl⟩ eD
  obtain⟨z,rfl,hz,_⟩:=zAt hx
  have hkl:k<ms.length:=(List.getElem?_eq_some_iff.mp hz).1
  have etk:ms.take (k+1)=ms.take k++[z]:=by rw[List.take_add_one,hz];rfl
  refine dec2 (λc=>⟨eD,zBo ?_,λH6 k6 e6=>⟨?_,s'.new k6 hD,_,rfl⟩⟩) (λc=>⟨eD,?_,s',_,rfl⟩)
  ·rw[List.length_map]
   exact Nat.le_trans (List.length_filter_le _ _) (by rw[List.length_take];omega)
  ·rw[etk,List.filter_append,List.map_append,List.filter_cons_of_pos (by simpa using c)];rfl
  ·rw[etk,List.filter_append,List.filter_cons_of_neg (by simpa using c)];simp
 rintro p4 σ H4 ys hp4 ⟨rfl,s4,_⟩ e4
 rw[List.take_of_length_le (by simp)] at e4
 have e14:=s4 _ _ e13
 have hr4:=s4 _ _ hr3
 refine⟨⟨_,SqL.of e14⟩,zA3 (ms.map V.int) (λk D σ H' ys=>ys=((ms.take k).filter λx=>decide (t<=x)).map V.int/\Same H4 H'/\∃ o,σ=[o,some (.int t)]) ?_ ?_ ?_ ?_⟩
 ·intro D H' hD s' e'
  exact⟨rfl,s',_,rfl⟩
 ·rintro k D σ H' ys hD ⟨_,s',_⟩
  exact SqL.of (s' _ _ e14)
 ·rintro k x D σ H' ys hx hD ⟨rfl,s',o,rfl⟩ eD
  obtain⟨z,rfl,hz,_⟩:=zAt hx
  have hkl:k<ms.length:=(List.getElem?_eq_some_iff.mp hz).1
  have etk:ms.take (k+1)=ms.take k++[z]:=by rw[List.take_add_one,hz];rfl
  refine dec2 (λc=>⟨eD,zBo ?_,λH6 k6 e6=>⟨?_,s'.new k6 hD,_,rfl⟩⟩) (λc=>⟨eD,?_,s',_,rfl⟩)
  ·rw[List.length_map]
   exact Nat.le_trans (List.length_filter_le _ _) (by rw[List.length_take];omega)
  ·rw[etk,List.filter_append,List.map_append,List.filter_cons_of_pos (by simpa using c)];rfl
  ·rw[etk,List.filter_append,List.filter_cons_of_neg (by simpa using c)];simp
 rintro p5 σ H5 ys hp5 ⟨rfl,s5,_⟩ e5
 rw[List.take_of_length_le (by simp)] at e5
 have e45:=s5 _ _ e4
 have hr5:=s5 _ _ hr4
 have hlt:=zIs hnd hsr λx=>decide (t<=x)
 have hlo:=zIs hnd hsr λx=>decide (x<=g)
 have hlm:(ms.filter λx=>decide (x<=g)).length<=1000:=Nat.le_trans (List.length_filter_le _ _) hml
 have hhm:(ms.filter λx=>decide (t<=x)).length<=1000:=Nat.le_trans (List.length_filter_le _ _) hml
 generalize hL:(ms.filter λx=>decide (x<=g))=L at e45 hlo hlm
 generalize hG:(ms.filter λx=>decide (t<=x))=G at e5 hlt hhm
 have cntle:∀ {l l' h:Int},l<=l'->0<cnt ns l' h m 0->0<cnt ns l h m 0:=λ{l l' h} hll hc=>by
  obtain⟨cs,c1,c2,c3⟩:=(zBB hn1 m1).mp hc
  exact(zBB hn1 m1).mpr ⟨cs,c1,c2,zBN c3 hll (Int.le_refl _)⟩
 have hfeas:∀ l∈L,∃ j x,G[j]?=some x/\0<cnt ns l x m 0:=λl hl=>by
  rw[<- hL,List.mem_filter] at hl
  obtain⟨cs,a,b,c1,c2,c3,c4,c5,c6⟩:=feas rn.nn hn1 m1 hT1 (of_decide_eq_true hl.2)
  have hb:b∈G:=by
   rw[<- hG,List.mem_filter]
   exact⟨(hmem b).mpr (cut_str hn1 c1 c4),decide_eq_true (zDH rn.nn hn1 m1 hT0 hT1 c1 c2 c5 c3 c4).2⟩
  obtain⟨j,hj⟩:=List.mem_iff_getElem?.mp hb
  exact⟨j,b,hj,(zBB hn1 m1).mpr ⟨cs,c1,c2,zBN c5 c6 (Int.le_refl _)⟩⟩
 have hLne:L≠[]:=λz=>by
  obtain⟨cs,a,b,c1,c2,c3,c4,c5,c6⟩:=feas rn.nn hn1 m1 hT1 (Int.le_refl g)
  have:a∈L:=by
   rw[<- hL,List.mem_filter]
   exact⟨(hmem a).mpr (cut_str hn1 c1 c3),decide_eq_true (zDH rn.nn hn1 m1 hT0 hT1 c1 c2 c5 c3 c4).1⟩
  rw[z] at this;cases this
 refine zAc (by show 0<=sizeLine;decide) λp6 H6 hp6 s6 e6=>?_
 have e46:=s6 _ _ e45
 have e56:=s6 _ _ e5
 have hr6:=s6 _ _ hr5
 have s06:=s13.trans (s4.trans (s5.trans s6))
 have hp60:H p6=none:=(s13.trans (s4.trans s5)).free hp6
 refine⟨λσ H'=>∃ ps bs o8 o9,PZ H' p6 ps bs/\bs.map (·.1)=L/\(∀ x∈bs,0<cnt ns x.1 x.2 m 0/\∀ y∈G,y<x.2->¬ 0<cnt ns x.1 y m 0)/\Kp [p6] H6 H'/\σ=[some (.ref r),some (.int m),some (.ref p1),some (.int g),some (.int t),some (.ref p4),some (.ref p5),some (.ref p6),o8,o9],?_,?_⟩
 ·have n46:p4≠p6:=zAK e45 hp6
  have n56:p5≠p6:=zAK e5 hp6
  have nr6:r≠p6:=zAK hr5 hp6
  refine⟨⟨_,SqL.of e46⟩,zBr (xs:=L.map V.int) (λi σ H'=>∃ ps bs,∃ a:Nat,∃ o9,PZ H' p6 ps bs/\bs.map (·.1)=L.take i/\(∀ x∈bs,0<cnt ns x.1 x.2 m 0/\∀ y∈G,y<x.2->¬ 0<cnt ns x.1 y m 0)/\(∀ (j:Nat) y l,j<a->G[j]?=some y->l∈L.drop i->¬ 0<cnt ns l y m 0)/\Kp [p6] H6 H'/\σ=[some (.ref r),some (.int m),some (.ref p1),some (.int g),some (.int t),some (.ref p4),some (.ref p5),some (.ref p6),some (.int a),o9]) ?_ ?_ ?_ ?_⟩
  ·exact⟨[],[],0,none,⟨e6,.nil⟩,rfl,λx hx=>(nomatch hx),λj y l hj=>absurd hj (Nat.not_lt_zero _),Kp.refl _ _,rfl⟩
  ·rintro i σ H' _ ⟨_,_,_,_,_,_,_,_,k',_⟩
   exact SqL.of (k'.one n46 e46)
  ·rintro i x σ H7 hx ⟨ps,bs,a,o9,pz,hbm,hbf,hat,k7,rfl⟩
   obtain⟨l,rfl,hl,_⟩:=zAt hx
   have hlL:l∈L:=List.mem_of_getElem? hl
   have hil:=(List.getElem?_eq_some_iff.mp hl).1
   have hdrop:L.drop i=l::L.drop (i+1):=by rw[List.drop_eq_getElem_cons hil,(List.getElem?_eq_some_iff.mp hl).2]
   have hr7:=k7.one nr6 hr6
   have e57:=k7.one n56 e56
   refine⟨λσ H'=>∃ (a':Nat) (y:Int),G[a']?=some y/\0<cnt ns l y m 0/\(∀ (j:Nat) z,j<a'->G[j]?=some z->¬ 0<cnt ns l z m 0)/\Same H7 H'/\σ=[some (.ref r),some (.int m),some (.ref p1),some (.int g),some (.int t),some (.ref p4),some (.ref p5),some (.ref p6),some (.int a'),some (.int l)],?_,?_⟩
   ·refine zBk (λmm σ H'=>∃ a':Nat,mm=G.length-a'/\(∀ (j:Nat) z,j<a'->G[j]?=some z->¬ 0<cnt ns l z m 0)/\Same H7 H'/\σ=[some (.ref r),some (.int m),some (.ref p1),some (.int g),some (.int t),some (.ref p4),some (.ref p5),some (.ref p6),some (.int a'),some (.int l)]) (G.length-a) ⟨a,rfl,λj z hj hz=>hat j z l hj hz (by rw[hdrop];simp),Same.refl _,rfl⟩ ?_
    rintro mm σ H8 ⟨a',hmm,ha',s8,rfl⟩
    obtain⟨j,y0,hj,hpos⟩:=hfeas l hlL
    have haj:a'<=j:=Nat.le_of_not_lt λz=>ha' j y0 z hj hpos
    have hjl:=(List.getElem?_eq_some_iff.mp hj).1
    have hy:G[a']?=some (G[a']'(by omega)):=List.getElem?_eq_getElem _
    refine zBD (v:=.int (G[a']'(by omega))) a' (s8 _ _ e57) rfl (by rw[List.getElem?_map,hy];rfl) ?_
    refine⟨r,ns,m,l,_,rfl,s8 _ _ hr7,by omega,rn.nn,m1,mn,λH9 s9=>?_⟩
    refine dec2 (λc=>?_) (λc=>?_)
    ·refine⟨G.length-(a'+1),by omega,a'+1,rfl,λj z hj' hz=>?_,s8.trans s9,by rw[show ((a'+1:Nat):Int)=(a':Int)+1 by omega];rfl⟩
     by_cases e:j=a'
     ·subst e
      rw[hy] at hz
      injection hz with hz
      rw[<- hz,c];decide
     ·exact ha' j z (by omega) hz
    ·refine⟨a',_,hy,?_,ha',s8.trans s9,rfl⟩
     have:=M18.cnt_nn (ns:=ns) (lo:=l) (hi:=G[a']'(by omega)) m 0
     omega
   ·rintro σ H8 ⟨a',y,hy,hpos,ha',s8,rfl⟩
    have pz8:=pz.same s8
    have hpl:=Paired.length pz8.it
    have hbl:bs.length<=1000:=by
     have:=congrArg List.length hbm
     rw[List.length_map,List.length_take] at this
     omega
    refine⟨zB9 pz8.at_,zBD (v:=.int y) a' (s8 _ _ e57) rfl (by rw[List.getElem?_map,hy];rfl) (zCm (by show 2<=sizeLine;decide) λp9 H9 hp9 s9 e9=>?_)⟩
    refine zGF (s9 _ _ pz8.at_) (zBo (by rw[List.length_map];omega)) λH10 k10 e10=>?_
    refine⟨ps++[p9],bs++[(l,y)],a',_,pz8.add s9 e9 k10 e10,?_,λx hx=>?_,λj z l' hj hz hl' hc=>?_,(((k7.trans s8.kp).trans s9.kp).trans k10),rfl⟩
    ·rw[List.map_append,hbm,List.take_add_one,hl];rfl
    ·rcases List.mem_append.mp hx with hx | hx
     ·exact hbf x hx
     ·have:x=(l,y):=by simpa using hx
      subst this
      refine⟨hpos,λz hz hzy=>?_⟩
      obtain⟨j,hj⟩:=List.mem_iff_getElem?.mp hz
      refine ha' j z ?_ hj
      rcases Nat.lt_or_ge j a' with c | c
      ·exact c
      ·have ej:=(List.getElem?_eq_some_iff.mp hj)
       have ea:=(List.getElem?_eq_some_iff.mp hy)
       rcases Nat.lt_or_ge a' j with c2 | c2
       ·have:=(List.pairwise_iff_getElem.mp hlt) a' j ea.1 ej.1 c2
        rw[ea.2,ej.2] at this
        have hzy:z<y:=hzy
        omega
       ·have:j=a':=by omega
        subst this
        rw[hy] at hj
        injection hj with hj
        have hzy:z<y:=hzy
        omega
    ·have hll:l<=l':=by
      have:=(List.pairwise_cons.mp (hdrop▸(hlo.sublist (List.drop_sublist i L)))).1 l' hl'
      omega
     exact ha' j z hj hz (cntle hll hc)
  ·rintro σ H' ⟨ps,bs,a,o9,h1,h2,h3,_,h5,rfl⟩
   refine⟨ps,bs,_,_,h1,?_,h3,h5,rfl⟩
   rw[h2,List.length_map,List.take_length]
 ·rintro σ H7 ⟨ps,bs,o8,o9,pz,hbm,hbf,k7,rfl⟩
  have nb:Nb ns m bs:=zKK (t:=t) (g:=g) (ms:=ms) rn.nn hn1 m1 hT0 hT1 hmem (by rw[hbm,hL]) (by rw[hG];exact hbf)
  refine q p6 ps bs H7 pz nb (λz=>hLne (by rw[<- hbm,z];rfl)) ?_ hp60 ?_
  ·have:=congrArg List.length hbm
   rw[List.length_map] at this
   omega
  ·exact λa o e=>k7 a o (λz=>by have h:a=p6:=(by simpa using z);rw[h,hp60] at e;cases e) (s06 _ _ e)
abbrev zq8:Stmt:=top 26
theorem zq34:FnScope ["row","many","bounds","spread","cuts"] ["row","many"] (zAA zq8):=⟨rfl,rfl,rfl,by decide +kernel,rfl,by decide +kernel,by decide +kernel⟩
theorem zq87:Loc (zAA zq8) "bounds":=Or.inl (by kernel_rfl)
theorem zq9i:Loc (zAA zq8) "cuts":=Or.inl (by kernel_rfl)
theorem zq88:Loc (zAA zq8) "spread":=Or.inr (by kernel_rfl)
theorem zq45:Vis (zAA zq8) "bounds":=Or.inl (by kernel_rfl)
theorem zq9j:Vis (zAA zq8) "cuts":=Or.inl (by kernel_rfl)
theorem zq54:Vis (zAA zq8) "many":=Or.inr (Or.inl (by kernel_rfl))
theorem zq5x:Vis (zAA zq8) "row":=Or.inr (Or.inl (by kernel_rfl))
theorem zq89:Vis (zAA zq8) "spread":=Or.inr (Or.inl (by kernel_rfl))
theorem zq6p:(zAA zq8).names.lookup ("check_many":Str)=some NameKind.globalImplicit:=by kernel_rfl
theorem zq5y:(zAA zq8).names.lookup ("min":Str)=some NameKind.globalImplicit:=by kernel_rfl
theorem zq66:(zAA zq8).names.lookup ("near_bounds":Str)=some NameKind.globalImplicit:=by kernel_rfl
def zqdg {cdv:Value}{A:Around}{outer:List Env}{s:Shared}{H:Hp}{E:XK}(B:Bl mg)(zq6:Def P w K mg base 3 "check_many" ["row","many"] zqr)(zq2y:Def P w K mg base 5 "near_bounds" ["row","many"] zq3d)(zq71:Def P w K mg base 4 "cut_at" ["row","many","low","high","place"] zq7e)(hr:Room 5 (A.deeper (PyProof.Rows.envOfC "least_spread" (zAA zq8) s.heap.objs.size f cdv))) :
  { t:TS // QB (cxOf CX0 P w K mg base ["row","many","bounds","spread","cuts"] "least_spread" (zAA zq8) f cdv A outer s H E).nox (zAF zq8) t } :=
 ⟨_,(zAE (zBQ (zAN zq6 hr (by decide) zq6p (zAB (qv 0 rfl zq5x) (zAB (qv 1 rfl zq54) zAC))))
  (zAE (zAJ (i:=2) zq34.nd rfl zq87 (.inl rfl) (zAN zq2y hr (by decide) zq66 (zAB (qv 0 rfl zq5x) (zAB (qv 1 rfl zq54) zAC))))
  (zAE (zAJ (i:=3) zq34.nd rfl zq88 (.inl rfl) (zAa (kMin (K:=K) rfl rfl) zq5y B.min zAv (zAB (zFJ ["low","high"] [none,none] rfl (zAu (K:=K) rfl (qv 2 rfl zq45)) (λ_ _ _ _ _ _=>(zCW (K:=K) rfl rfl (zAk (zAL (i:=0) (show (["low","high"]:List Str).Nodup by decide +kernel) rfl (by first | exact Or.inl rfl | exact Or.inr rfl) (by first | exact .inl rfl | exact .inr rfl)) (zAk (zAL (i:=1) (show (["low","high"]:List Str).Nodup by decide +kernel) rfl (by first | exact Or.inl rfl | exact Or.inr rfl) (by first | exact .inl rfl | exact .inr rfl)) zBm)))) (λ_ _ _ _ _ _=>zC2) (λ_ _ _ _ _ _=>(zAO zA7 (qv 1 rfl (by first | exact Or.inl rfl | exact Or.inr (Or.inl rfl) | exact Or.inr (Or.inr rfl))) (qv 0 rfl (by first | exact Or.inl rfl | exact Or.inr (Or.inl rfl) | exact Or.inr (Or.inr rfl)))))) zAC)))
  (zAE (zGN ["low","high","row","many","spread"] [none,none,some 0,some 1,some 3] (i:=4) rfl zq34.nd rfl zq9i (.inl rfl) (zAu (K:=K) rfl (qv 2 rfl zq45)) (λ_ _ _ _ _ _=>(zCW (K:=K) rfl rfl (zAk (zAL (i:=0) (show (["low","high","row","many","spread"]:List Str).Nodup by decide +kernel) rfl (by first | exact Or.inl rfl | exact Or.inr rfl) (by first | exact .inl rfl | exact .inr rfl)) (zAk (zAL (i:=1) (show (["low","high","row","many","spread"]:List Str).Nodup by decide +kernel) rfl (by first | exact Or.inl rfl | exact Or.inr rfl) (by first | exact .inl rfl | exact .inr rfl)) zBm)))) (λ_ _ _ _ _ _=>zBn (zAX (kEqG (K:=K) rfl hr) (zAO zA7 (qv 1 rfl (by first | exact Or.inl rfl | exact Or.inr (Or.inl rfl) | exact Or.inr (Or.inr rfl))) (qv 0 rfl (by first | exact Or.inl rfl | exact Or.inr (Or.inl rfl) | exact Or.inr (Or.inr rfl)))) (qv 4 rfl (by first | exact Or.inl rfl | exact Or.inr (Or.inl rfl) | exact Or.inr (Or.inr rfl))))) (λ_ _ _ _ _ _=>(zAN zq71 hr (by decide) rfl (zAB (qv 2 rfl (by first | exact Or.inl rfl | exact Or.inr (Or.inl rfl) | exact Or.inr (Or.inr rfl))) (zAB (qv 3 rfl (by first | exact Or.inl rfl | exact Or.inr (Or.inl rfl) | exact Or.inr (Or.inr rfl))) (zAB (qv 0 rfl (by first | exact Or.inl rfl | exact Or.inr (Or.inl rfl) | exact Or.inr (Or.inr rfl))) (zAB (qv 1 rfl (by first | exact Or.inl rfl | exact Or.inr (Or.inl rfl) | exact Or.inr (Or.inr rfl))) (zAB zAD zAC))))))))
  (zAH (zAR (zCp (zAB (qv 3 rfl zq89) (zAB (zAa (zLW hr rfl) zq5y B.min zAv (zAB (qv 4 rfl zq9j) zAC)) zAC)))))))))⟩
open M25 M14 M49 M3
theorem zDK:∀ {xs ys:List Nat},xs.length=ys.length->M32.Ahead xs ys->ltI (zs xs) (zs ys)=true
 | x::xs,y::ys,hl,h=>by
  unfold ltI
  simp only[zs,List.map_cons,lexB]
  rcases h with h | ⟨rfl,h⟩
  ·rw[if_neg (by omega)]
   simpa using h
  ·rw[if_pos rfl]
   exact zDK (by simpa using hl) h
def zq35:Sp:=λvs H Q _=>∃ (r:Addr) (m:Nat) (ns:List Int),vs=[.ref r,.int m]/\H r=some (.lst (ns.map V.int))/\RowN ns/\ns.length<=30/\1<=m/\m<=ns.length /\
 ∀ (p pc:Addr) (d:Int) (cs:List Nat) (H':Hp),SpB ns m d cs->H p=none->H pc=none->p≠pc->Same H H'->H' p=some (.tup [.int d,.ref pc])->H' pc=some (.lst ((zs cs).map V.int))->Q (.ref p) H'
theorem zqcl (B:Bl mg)(zq6:Def P w K mg base 3 "check_many" ["row","many"] zqr)(zq2y:Def P w K mg base 5 "near_bounds" ["row","many"] zq3d)(zq71:Def P w K mg base 4 "cut_at" ["row","many","low","high","place"] zq7e)(F:Fun K "least_spread" "least_spread" zq8 f fd):FnOk P w K mg base CX0 6 f fd ["row","many"] zq35:=by
 refine F.okq zq34 (λvs H Q E h=>?_) (λcdv A outer s H vs Q E hr h=>?_)
 ·obtain⟨r,m,ns,rfl,_⟩:=h;rfl
 obtain⟨r,m,ns,rfl,hr0,rn,n30,m1,mn,q⟩:=h
 refine⟨zqdg B zq6 zq2y zq71 hr,?_⟩
 have hle:=rn.le
 have hn1:=rn.ne
 refine⟨r,m,_,rfl,hr0,by omega,by rw[List.length_map];omega,?_⟩
 refine⟨r,m,ns,rfl,hr0,rn,n30,m1,mn,λp1 ps bs H1 pz nb hbn hbl hp1 s1=>?_⟩
 have hr1:=s1 _ _ hr0
 have hpl:=Paired.length pz.it
 refine⟨⟨_,SqL.of pz.at_⟩,zA3 (ps.map V.ref) (λk D σ H' ys=>ys=((bs.map λx=>x.2-x.1).take k).map V.int/\Same H1 H'/\∃ o1 o2,σ=[o1,o2]) ?_ ?_ ?_ ?_⟩
 ·intro D H' hD s' e'
  exact⟨rfl,s',_,_,rfl⟩
 ·rintro k D σ H' ys hD ⟨_,s',_⟩
  exact SqL.of (s' _ _ pz.at_)
 ·rintro k x D σ H' ys hx hD ⟨rfl,s',o1,o2,rfl⟩ eD
  obtain⟨a,ha,rfl⟩:=zEw hx
  obtain⟨⟨l,h⟩,hlh,ea⟩:=zAw pz.it ha
  refine zD9 (s' _ _ ea) rfl (bT ⟨eD,zBo (by rw[List.length_map,List.length_take,List.length_map];omega),λH6 k6 e6=>⟨?_,s'.new k6 hD,_,_,rfl⟩⟩)
  rw[zBy (x:=h-l) (by rw[List.getElem?_map,hlh];rfl),List.map_append];rfl
 rintro p2 σ H2 ys hp2 ⟨rfl,s2,_⟩ e2
 rw[List.take_of_length_le (by simp;omega)] at e2
 refine zGE (SqL.of e2) (λz=>hbn (by simpa using z)) λd hd hmin=>?_
 have hd':∃ x∈bs,x.2-x.1=d:=by
  obtain⟨x,hx,e⟩:=List.mem_map.mp hd
  exact⟨x,hx,e⟩
 have hmin':∀ x∈bs,d<=x.2-x.1:=λx hx=>hmin _ (List.mem_map.mpr ⟨x,hx,rfl⟩)
 have pz2:=pz.same s2
 have hr2:=s2 _ _ hr1
 refine⟨⟨_,SqL.of pz2.at_⟩,zA3 (ps.map V.ref) (λk D σ H' ys=>(∃ (as:List Addr) (css:List (List Int)),ys=as.map V.ref/\D∉as/\(∀ a∈as,H2 a=none)/\Paired (λa c=>H' a=some (.lst (c.map V.int))) as css/\Paired (λc (x:Int×Int)=>M18.At ns x.1 x.2 (m-1) 0 0 c) css ((bs.take k).filter λx=>decide (x.2-x.1=d)))/\Same H2 H'/\∃ o1 o2,σ=[o1,o2,some (.ref r),some (.int m),some (.int d)]) ?_ ?_ ?_ ?_⟩
 ·intro D H' hD s' e'
  exact⟨⟨[],[],rfl,by simp,by simp,.nil,.nil⟩,s',_,_,rfl⟩
 ·rintro k D σ H' ys hD ⟨_,s',_⟩
  exact SqL.of (s' _ _ pz2.at_)
 ·rintro k x D σ H' ys hx hD ⟨⟨as,css,rfl,hDa,hfr,hp1,hp2⟩,s',o1,o2,rfl⟩ eD
  obtain⟨a,ha,rfl⟩:=zEw hx
  obtain⟨⟨l,h⟩,hlh,ea⟩:=zAw pz2.it ha
  have etk:bs.take (k+1)=bs.take k++[(l,h)]:=by rw[List.take_add_one,hlh];rfl
  have hal:as.length<=1000:=by
   have h1:=Paired.length hp1
   have h2:=Paired.length hp2
   have:=List.length_filter_le (λx:Int×Int=>decide (x.2-x.1=d)) (bs.take k)
   rw[List.length_take] at this
   omega
  refine zD9 (s' _ _ ea) rfl (dec2 (λc=>?_) (λc=>⟨eD,⟨as,css,rfl,hDa,hfr,hp1,?_⟩,s',_,_,rfl⟩))
  ·have hpos:=nb.has _ (List.mem_of_getElem? hlh)
   refine⟨r,ns,m,l,h,0,rfl,s' _ _ hr2,by omega,rn.nn,m1,mn,by decide,hpos,λpc cL H5 hat hpc s5 e5=>?_⟩
   have npD:pc≠D:=(zAK eD hpc).symm
   refine⟨s5 _ _ eD,zBo (by rw[List.length_map];omega),λH6 k6 e6=>⟨⟨as++[pc],css++[cL],by rw[List.map_append];rfl,by simp[hDa,npD.symm],λb hb=>?_,?_,?_⟩,(s'.trans s5).new k6 hD,_,_,rfl⟩⟩
   ·rcases List.mem_append.mp hb with hb | hb
    ·exact hfr b hb
    ·have:b=pc:=by simpa using hb
     subst this;exact s'.free hpc
   ·exact zBG (F:=λa c=>H6 a=some (.lst (c.map V.int))) (k6.one npD e5) (zBO hp1 λa ha b e=>k6.one (λz=>hDa (z▸ha)) (s5 _ _ e))
   ·rw[etk,List.filter_append,List.filter_cons_of_pos (by simpa using c)]
    exact zBG (F:=λc (x:Int×Int)=>M18.At ns x.1 x.2 (m-1) 0 0 c) (b:=(l,h)) hat hp2
  ·rw[etk,List.filter_append,List.filter_cons_of_neg (by simpa using c)]
   simpa using hp2
 rintro p3 σ H3 ys hp3 ⟨⟨as,css,rfl,hDa,hfr,hp1',hp2'⟩,s3,_⟩ e3
 rw[List.take_of_length_le (by simp;omega)] at hp2'
 have hl1:=Paired.length hp1'
 have hl2:=Paired.length hp2'
 have hmemf:∀ x∈bs,x.2-x.1=d->∃ (i:Nat) (c:List Int),css[i]?=some c/\i<as.length/\M18.At ns x.1 x.2 (m-1) 0 0 c:=λx hx e=>by
  have hx':x∈bs.filter λx=>decide (x.2-x.1=d):=List.mem_filter.mpr ⟨hx,decide_eq_true e⟩
  obtain⟨i,hi⟩:=List.mem_iff_getElem?.mp hx'
  have hil:=(List.getElem?_eq_some_iff.mp hi).1
  have hc:css[i]?=some (css[i]'(by omega)):=List.getElem?_eq_getElem _
  obtain⟨x',hx2,hat⟩:=zAw hp2' hc
  rw[hi] at hx2
  cases hx2
  exact⟨i,_,hc,by omega,hat⟩
 have hane:as≠[]:=λz=>by
  obtain⟨x,hx,e⟩:=hd'
  obtain⟨i,c,_,hi,_⟩:=hmemf x hx e
  rw[z] at hi;simp at hi
 refine zIb (λi=>css.getD i []) e3 hane (λi b hb=>?_) λk b hb hlow=>?_
 ·obtain⟨c,hc,e⟩:=zAw hp1' hb
  rw[List.getD_eq_getElem?_getD,hc];exact e
 obtain⟨c,hc,eb⟩:=zAw hp1' hb
 obtain⟨x,hx,hat⟩:=zAw hp2' hc
 obtain⟨hxb,hxd⟩:=List.mem_filter.mp (List.mem_of_getElem? hx)
 have hxd':x.2-x.1=d:=of_decide_eq_true hxd
 obtain⟨cs,rfl,c1,c2,c3,c4⟩:=zIo hn1 m1 hat (nb.has x hxb)
 have sp:SpB ns m d cs:=zGx hn1 m1 nb hd' hmin' ⟨x,hxb,hxd',c1,c2,c3⟩ λy hy e=>by
  obtain⟨i,c',hc',hi,hat'⟩:=hmemf y hy e
  obtain⟨es,rfl,g1,g2,g3,g4⟩:=zIo hn1 m1 hat' (nb.has y hy)
  refine⟨es,g1,g2,g3,g4,λha=>?_⟩
  have h1:=hlow i hi
  simp only[List.getD_eq_getElem?_getD,hc',hc,Option.getD_some] at h1
  have h2:=zDK (by omega) ha
  rw[show zs es=List.map (λ(n:Nat)=>(n:Int)) es from rfl,show zs cs=List.map (λ(n:Nat)=>(n:Int)) cs from rfl,h1] at h2
  cases h2
 have hb0:H b=none:=(s1.trans s2).free (hfr b (List.mem_of_getElem? hb))
 refine zCm (by show 2<=sizeLine;decide) λp4 H4 hp4 s4 e4=>?_
 have npb:p4≠b:=(zAK eb hp4).symm
 exact q p4 b d cs H4 sp ((s1.trans (s2.trans s3)).free hp4) hb0 npb (s1.trans (s2.trans (s3.trans s4))) e4 (s4 _ _ eb)
abbrev zq10:Stmt:=top 37
theorem zqb1:FnScope ["row","cut","ends"] ["row","cut"] (zAA zq10):=⟨rfl,rfl,rfl,by decide +kernel,rfl,by decide +kernel,by decide +kernel⟩
theorem zqcm:Loc (zAA zq10) "ends":=Or.inr (by kernel_rfl)
theorem zq8a:Vis (zAA zq10) "cut":=Or.inl (by kernel_rfl)
theorem zqdh:Vis (zAA zq10) "row":=Or.inr (Or.inl (by kernel_rfl))
theorem zq8b:(zAA zq10).names.lookup ("len":Str)=some NameKind.globalImplicit:=by kernel_rfl
theorem zqbk:(zAA zq10).names.lookup ("range":Str)=some NameKind.globalImplicit:=by kernel_rfl
def zqfa {cdv:Value}{A:Around}{outer:List Env}{s:Shared}{H:Hp}{E:XK}(B:Bl mg)(hr:Room 0 (A.deeper (PyProof.Rows.envOfC "_law_sums" (zAA zq10) s.heap.objs.size f cdv))) :
  { t:TS // QB (cxOf CX0 P w K mg base ["row","cut","ends"] "_law_sums" (zAA zq10) f cdv A outer s H E).nox (zAF zq10) t } :=
 ⟨_,(zAE (zAJ (i:=2) zqb1.nd rfl zqcm (.inl rfl) (zAO zAq (zAO zAq (zAf (zAB zAD zAC)) (qv 1 rfl zq8a)) (zAf (zAB (zAa (kLen (K:=K) rfl) zq8b B.len zAV (zAB (qv 0 rfl zqdh) zAC)) zAC))))
  (zAH (zAR (zFJ ["k","row","ends"] [none,some 0,some 2] rfl (zCT zqbk B.range (zAB (zAO zAq (zAa (kLen (K:=K) rfl) zq8b B.len zAV (zAB (qv 1 rfl zq8a) zAC)) zAD) zAC)) (λ_ _ _ _ _ _=>(zAL (i:=0) (show (["k","row","ends"]:List Str).Nodup by decide +kernel) rfl (by first | exact Or.inl rfl | exact Or.inr rfl) (by first | exact .inl rfl | exact .inr rfl))) (λ_ _ _ _ _ _=>zC2) (λ_ _ _ _ _ _=>(zAa (kSum (K:=K) rfl rfl) rfl B.sum zB5 (zAB (zBz (K:=K) rfl (qv 1 rfl (by first | exact Or.inl rfl | exact Or.inr (Or.inl rfl) | exact Or.inr (Or.inr rfl))) (zBT (zAU (K:=K) rfl (qv 2 rfl (by first | exact Or.inl rfl | exact Or.inr (Or.inl rfl) | exact Or.inr (Or.inr rfl))) (qv 0 rfl (by first | exact Or.inl rfl | exact Or.inr (Or.inl rfl) | exact Or.inr (Or.inr rfl))) (λ_ _=>rfl))) (zBT (zAU (K:=K) rfl (qv 2 rfl (by first | exact Or.inl rfl | exact Or.inr (Or.inl rfl) | exact Or.inr (Or.inr rfl))) (zAO zAq (qv 0 rfl (by first | exact Or.inl rfl | exact Or.inr (Or.inl rfl) | exact Or.inr (Or.inr rfl))) zAD) (λ_ _=>rfl)))) zAC)))))))⟩
open M3 in
def zq5f:Sp:=λvs H Q _=>∃ (r c:Addr) (ns:List Int) (cs:List Nat),vs=[.ref r,.ref c]/\H r=some (.lst (ns.map V.int))/\H c=some (.lst ((zs cs).map V.int))/\ns.length<=1000/\CutN cs ns.length /\
 ∀ (p:Addr) (H':Hp),H p=none->Same H H'->H' p=some (.lst (((pcs ns 0 cs).map List.sum).map V.int))->Q (.ref p) H'
open M3 in
theorem zqeu (B:Bl mg)(F:Fun K "_law_sums" "_law_sums" zq10 f fd):FnOk P w K mg base CX0 1 f fd ["row","cut"] zq5f:=by
 refine F.okq zqb1 (λvs H Q E h=>?_) (λcdv A outer s H vs Q E hr h=>?_)
 ·obtain⟨r,c,ns,cs,rfl,_⟩:=h;rfl
 obtain⟨r,c,ns,cs,rfl,hr0,hc0,hle,hcut,q⟩:=h
 have hcl:=zGp hcut
 refine⟨zqfa B  hr,?_⟩
 refine zAc (by show 1<=sizeLine;decide) λp1 H1 hp1 s1 e1=>?_
 refine zFG e1 (s1 _ _ hc0) (zFK (by simp;omega)) λp2 H2 hp2 s2 e2=>?_
 refine zA6 (s2 _ _ (s1 _ _ hr0)) ?_
 refine zAc (by show 1<=sizeLine;decide) λp3 H3 hp3 s3 e3=>?_
 refine zFG (s3 _ _ e2) e3 (zFK (by simp;omega)) λen H4 hen s4 e4=>?_
 have sH:Same H H4:=s1.trans (s2.trans (s3.trans s4))
 have e4':H4 en=some (.lst ((zs (0::(cs++[ns.length]))).map V.int)):=by rw[e4];simp[zs]
 have hr4:=sH _ _ hr0
 refine zA6 (sH _ _ hc0) ?_
 rw[List.length_map]
 refine⟨⟨by omega,by omega⟩,zHg (λk D σ H' ys=>ys=(((pcs ns 0 cs).map List.sum).take k).map V.int/\Same H4 H'/\∃ o,σ=[o,some (.ref r),some (.ref en)]) ?_ ?_ ?_⟩
 ·intro D H' hD s' e'
  exact⟨rfl,s',_,rfl⟩
 ·rintro k D σ H' ys hk hD ⟨rfl,s',o,rfl⟩ eD
  have hk':k<cs.length+1:=by omega
  obtain⟨x,hx⟩:∃ x,(0::cs)[k]?=some x:=⟨_,List.getElem?_eq_getElem (by simp;omega)⟩
  obtain⟨y,hy⟩:∃ y,(cs++[ns.length])[k]?=some y:=⟨_,List.getElem?_eq_getElem (by simp;omega)⟩
  have hxl:x<=ns.length:=by
   rcases List.mem_cons.mp (List.mem_of_getElem? hx) with rfl | h
   ·omega
   ·exact Nat.le_of_lt (hcut.hi x h)
  have hyl:y<=ns.length:=by
   rcases List.mem_append.mp (List.mem_of_getElem? hy) with h | h
   ·exact Nat.le_of_lt (hcut.hi y h)
   ·simp at h;omega
  have hx':((zs (0::(cs++[ns.length]))).map V.int)[k]?=some (.int (x:Nat)):=by
   rw[List.getElem?_map,List.getElem?_map,show (0::(cs++[ns.length]))[k]?=some x by
    have:0::(cs++[ns.length])=(0::cs)++[ns.length]:=rfl
    rw[this,List.getElem?_append_left (by simp;omega)];exact hx];rfl
  have hy':((zs (0::(cs++[ns.length]))).map V.int)[k+1]?=some (.int (y:Nat)):=by
   rw[List.getElem?_map,List.getElem?_map,List.getElem?_cons_succ,hy];rfl
  have hpk:=zIj ns cs 0 k x y hx hy
  have een:=s' _ _ e4'
  refine bT (zBD k een (by omega) hx' (zBD (k+1) een (by omega) hy' ?_))
  refine i_sl (SqL.of (s' _ _ hr4)) λsl H5 hsl s5 e5=>?_
  rw[zBW,HT.sIx_nat,HT.sIx_nat,Nat.min_eq_left hxl,Nat.min_eq_left hyl] at e5
  refine zHW (SqL.of e5) ⟨s5 _ _ eD,zBo (by rw[List.length_map,List.length_take,List.length_map,zCb];omega),λH6 k6 e6=>⟨?_,(s'.trans s5).new k6 hD,_,rfl⟩⟩
  rw[zBy (x:=((ns.drop x).take (y-x)).sum) (by rw[List.getElem?_map,hpk];rfl),List.map_append];rfl
 ·rintro D σ H' ys hD ⟨rfl,s',_⟩ eD
  refine q D H' (sH.free hD) (sH.trans s') ?_
  rw[eD,List.take_of_length_le (by rw[List.length_map,zCb];omega)]
abbrev zqm:Stmt:=top 35
theorem zq7t:FnScope ["hand","row","many","some"] ["hand","row"] (zAA zqm):=⟨rfl,rfl,rfl,by decide +kernel,rfl,by decide +kernel,by decide +kernel⟩
theorem zqcn:Loc (zAA zqm) "many":=Or.inl (by kernel_rfl)
theorem zqco:Loc (zAA zqm) "some":=Or.inl (by kernel_rfl)
theorem zq7g:Vis (zAA zqm) "hand":=Or.inl (by kernel_rfl)
theorem zq36:Vis (zAA zqm) "many":=Or.inl (by kernel_rfl)
theorem zqdi:Vis (zAA zqm) "row":=Or.inl (by kernel_rfl)
theorem zqcp:Vis (zAA zqm) "some":=Or.inl (by kernel_rfl)
theorem zq4l:(zAA zqm).names.lookup ("_law_draw":Str)=some NameKind.globalImplicit:=by kernel_rfl
theorem zqdj:(zAA zqm).names.lookup ("len":Str)=some NameKind.globalImplicit:=by kernel_rfl
theorem zqdk:(zAA zqm).names.lookup ("max":Str)=some NameKind.globalImplicit:=by kernel_rfl
theorem zqdl:(zAA zqm).names.lookup ("min":Str)=some NameKind.globalImplicit:=by kernel_rfl
def zqfb {cdv:Value}{A:Around}{outer:List Env}{s:Shared}{H:Hp}{E:XK}(B:Bl mg)(zqd:Def P w K mg base 1 "_law_draw" ["hand","limit"] zq1p)(hr:Room 1 (A.deeper (PyProof.Rows.envOfC "_law_many" (zAA zqm) s.heap.objs.size f cdv))) :
  { t:TS // QB (cxOf CX0 P w K mg base ["hand","row","many","some"] "_law_many" (zAA zqm) f cdv A outer s H E).nox (zAF zqm) t } :=
 ⟨_,(zAE (zAJ (i:=2) zq7t.nd rfl zqcn (.inl rfl) (zAa (kLen (K:=K) rfl) zqdj B.len zAV (zAB (qv 1 rfl zqdi) zAC)))
  (zAE (zAJ (i:=3) zq7t.nd rfl zqco (.inl rfl) (zAf (zAB zAD (zAB (zAa (kMin (K:=K) rfl rfl) zqdl B.min zAv (zAB zAD (zAB (qv 2 rfl zq36) zAC))) (zAB (qv 2 rfl zq36) (zAB (zAa (kMax (K:=K) rfl rfl) zqdk B.max zA0 (zAB zAD (zAB (zAO zA7 (qv 2 rfl zq36) zAD) zAC))) (zAB (zAO zAq zAD (zAN zqd hr (by decide) zq4l (zAB (qv 0 rfl zq7g) (zAB (qv 2 rfl zq36) zAC)))) zAC)))))))
  (zAH (zAR (zAU (K:=K) rfl (qv 3 rfl zqcp) (zAU (K:=K) rfl (zAf (zAB zAD (zAB zAD (zAB zAD (zAB zAD (zAB zAD (zAB zAD (zAB zAD (zAB zAD zAC))))))))) (zAN zqd hr (by decide) zq4l (zAB (qv 0 rfl zq7g) (zAB zAD zAC))) (λ_ _=>rfl)) (λ_ _=>rfl))))))⟩
def zq5g:Sp:=λvs H Q _=>∃ (h r:Addr) (ns:List Int),vs=[.ref h,.ref r]/\HandAt H h/\H r=some (.lst (ns.map V.int))/\1<=ns.length/\ns.length<=1000/\∀ (m:Nat) (H':Hp),1<=m->m<=ns.length->HandAt H' h->Kp [h] H H'->Q (.int m) H'
theorem zqev (B:Bl mg)(zqd:Def P w K mg base 1 "_law_draw" ["hand","limit"] zq1p)(F:Fun K "_law_many" "_law_many" zqm f fd):FnOk P w K mg base CX0 2 f fd ["hand","row"] zq5g:=by
 refine F.okq zq7t (λvs H Q E h=>?_) (λcdv A outer s H vs Q E hr h=>?_)
 ·obtain⟨h,r,ns,rfl,_⟩:=h;rfl
 obtain⟨a,r,ns,rfl,hh,hr0,n1,n2,q⟩:=h
 refine⟨zqfb B zqd hr,?_⟩
 refine zA6 hr0 ?_
 refine⟨a,ns.length,rfl,hh,by omega,by omega,λg H1 g0 g1 hh1 k1=>?_⟩
 refine zAc (by show 5<=sizeLine;decide) λp2 H2 hp2 s2 e2=>?_
 refine zAc (by show 8<=sizeLine;decide) λp3 H3 hp3 s3 e3=>?_
 refine⟨a,8,rfl,(hh1.same s2).same s3,by decide,by decide,λg2 H4 g20 g21 hh4 k4=>?_⟩
 have n2':p2≠a:=(hh1.ne hp2).symm
 have n3':p3≠a:=((hh1.same s2).ne hp3).symm
 have e3':H4 p3=some (.lst (([0,1,2,3,4,4,4,4]:List Int).map V.int)):=k4.one n3' e3
 refine zCR e3' g20 (by simpa using g21) ?_
 have hm:=zIr (ns:=[0,1,2,3,4,4,4,4]) g20 (by simpa using g21)
 generalize ([0,1,2,3,4,4,4,4]:List Int).getD g2.toNat 0=j at hm
 have hj:0<=j/\j<5:=by
  simp only[List.mem_cons,List.not_mem_nil,or_false] at hm
  omega
 have e2':H4 p2=some (.lst (([1,min 2 (ns.length:Int),(ns.length:Int),max 1 ((ns.length:Int)-1),1+g]:List Int).map V.int)):=k4.one n2' (s3 _ _ e2)
 refine zCR e2' hj.1 (by simpa using hj.2) ?_
 have hm2:=zIr (ns:=[1,min 2 (ns.length:Int),(ns.length:Int),max 1 ((ns.length:Int)-1),1+g]) hj.1 (by simpa using hj.2)
 generalize ([1,min 2 (ns.length:Int),(ns.length:Int),max 1 ((ns.length:Int)-1),1+g]:List Int).getD j.toNat 0=z at hm2
 have hz:1<=z/\z<=ns.length:=by
  simp only[List.mem_cons,List.not_mem_nil,or_false] at hm2
  omega
 have ez:z=((z.toNat:Nat):Int):=by omega
 rw[ez]
 exact q _ H4 (by omega) (by omega) hh4 (((k1.same s2).same s3).trans k4)
def zL4 (t:Int)(c:List Int):PyData:=.tuple [.int t,zLP c]
theorem zG5 {H:Hp}{p pc:Addr}{t:Int}{c:List Int}(h1:H p=some (.tup [.int t,.ref pc]))(h2:H pc=some (.lst (c.map V.int))):RV 2 H (.ref p) (zL4 t c) :=
 .inr ⟨_,_,.inl h1,rfl,.cons rfl (.cons (zJt h2) .nil)⟩
abbrev zqv:Stmt:=top 36
theorem zqew:FnScope ["found","due"] ["found","due"] (zAA zqv):=⟨rfl,rfl,rfl,by decide +kernel,rfl,by decide +kernel,by decide +kernel⟩
theorem zqdm:Vis (zAA zqv) "due":=Or.inl (by kernel_rfl)
theorem zq1j:Vis (zAA zqv) "found":=Or.inl (by kernel_rfl)
theorem zq46:(zAA zqv).names.lookup ("isinstance":Str)=some NameKind.globalImplicit:=by kernel_rfl
theorem zqdn:(zAA zqv).names.lookup ("len":Str)=some NameKind.globalImplicit:=by kernel_rfl
theorem zqcq:(zAA zqv).names.lookup ("list":Str)=some NameKind.globalImplicit:=by kernel_rfl
theorem zqbl:(zAA zqv).names.lookup ("tuple":Str)=some NameKind.globalImplicit:=by kernel_rfl
def zqfc {cdv:Value}{A:Around}{outer:List Env}{s:Shared}{H:Hp}{E:XK}(B:Bl mg)(hr:Room 0 (A.deeper (PyProof.Rows.envOfC "_law_told" (zAA zqv) s.heap.objs.size f cdv))) :
  { t:TS // QB (cxOf CX0 P w K mg base ["found","due"] "_law_told" (zAA zqv) f cdv A outer s H E).nox (zAF zqv) t } :=
 ⟨_,(zAE (zA8 (QW.pt (zJq (zCq (zCX (K:=K) rfl (zAa (kIsi (K:=K) rfl) zq46 B.isinstance zAb (zAB (qv 0 rfl zq1j) (zAB (zFI zqbl B.tuple zFZ) zAC))))) (zJq (zAX (kNeG (K:=K) rfl hr) (zAa (kLen (K:=K) rfl) zqdn B.len zAV (zAB (qv 0 rfl zq1j) zAC)) zAD) (zIY (zCq (zCX (K:=K) rfl (zAa (kIsi (K:=K) rfl) zq46 B.isinstance zAb (zAB (zAU (K:=K) rfl (qv 0 rfl zq1j) zAD (λ_ _=>rfl)) (zAB (zFI zqcq B.list zDv) zAC))))))))) (zAH (zAR zEB)) zAr)
  (zAE (zA8 (zAX (kNeG (K:=K) rfl hr) (zFJ ["one"] [none] rfl (zAu (K:=K) rfl (zAO zAq (zAf (zAB (zAU (K:=K) rfl (qv 0 rfl zq1j) zAD (λ_ _=>rfl)) zAC)) (zAU (K:=K) rfl (qv 0 rfl zq1j) zAD (λ_ _=>rfl)))) (λ_ _ _ _ _ _=>(zAL (i:=0) (show (["one"]:List Str).Nodup by decide +kernel) rfl (by first | exact Or.inl rfl | exact Or.inr rfl) (by first | exact .inl rfl | exact .inr rfl))) (λ_ _ _ _ _ _=>zBn (QW.pt (zJq (zCq (zCX (K:=K) rfl (zAa (kIsi (K:=K) rfl) rfl B.isinstance zAb (zAB (qv 0 rfl (by first | exact Or.inl rfl | exact Or.inr (Or.inl rfl) | exact Or.inr (Or.inr rfl))) (zAB (zFI rfl B.int zDI) zAC))))) (zIY (zCX (K:=K) rfl (zAa (kIsi (K:=K) rfl) rfl B.isinstance zAb (zAB (qv 0 rfl (by first | exact Or.inl rfl | exact Or.inr (Or.inl rfl) | exact Or.inr (Or.inr rfl))) (zAB (zFI rfl B.bool zDw) zAC)))))))) (λ_ _ _ _ _ _=>(qv 0 rfl (by first | exact Or.inl rfl | exact Or.inr (Or.inl rfl) | exact Or.inr (Or.inr rfl))))) (zAf zAC)) (zAH (zAR zEB)) zAr)
  (zAH (zAR (zGL (kEqG (K:=K) rfl hr) (qv 0 rfl zq1j) (qv 1 rfl zqdm))))))⟩
def zq5h:Sp:=λvs H Q _=>∃ (p pc d dc:Addr) (v:Int) (cs:List Int),vs=[.ref p,.ref d]/\H p=some (.tup [.int v,.ref pc])/\H pc=some (.lst (cs.map V.int))/\H d=some (.tup [.int v,.ref dc])/\H dc=some (.lst (cs.map V.int))/\cs.length<=1000/\∀ H',Same H H'->Q (.bl true) H'
theorem zqex (B:Bl mg)(F:Fun K "_law_told" "_law_told" zqv f fd):FnOk P w K mg base CX0 1 f fd ["found","due"] zq5h:=by
 refine F.okq zqew (λvs H Q E h=>?_) (λcdv A outer s H vs Q E hr h=>?_)
 ·obtain⟨p,pc,d,dc,v,cs,rfl,_⟩:=h;rfl
 obtain⟨p,pc,d,dc,v,cs,rfl,ep,epc,ed,edc,hl,q⟩:=h
 refine⟨zqfc B  hr,?_⟩
 refine zFL (.tup ep) (by simp) (by simp) (bNo (by decide +kernel) ?_)
 refine zJU (.inr (SqT.of ep)) (bNo (by simp) ?_)
 refine zDY 1 ep rfl rfl (zFL (.lst epc) (by simp) (by simp) (bNo (by decide +kernel) ?_))
 refine zDY 0 ep rfl rfl (zAc (by show 1<=sizeLine;decide) λp1 H1 hp1 s1 e1=>?_)
 refine zDY 1 (s1 _ _ ep) rfl rfl (zFG e1 (s1 _ _ epc) (zFK (by simp;omega)) λp2 H2 hp2 s2 e2=>?_)
 have e2':H2 p2=some (.lst ((v::cs).map V.int)):=e2
 refine⟨⟨_,SqL.of e2'⟩,zA3 ((v::cs).map V.int) (λi D σ H' ys=>ys=[]/\Same H2 H'/\∃ o,σ=[o]) ?_ ?_ ?_ ?_⟩
 ·intro D H' hD s' e'
  exact⟨rfl,s',_,rfl⟩
 ·rintro i D σ H' ys hD ⟨_,s',_⟩
  exact SqL.of (s' _ _ e2')
 ·rintro i x D σ H' ys hx hD ⟨rfl,s',o,rfl⟩ eD
  obtain⟨z,rfl,_,_⟩:=zAt hx
  refine zFL (.int z) (by simp) (by simp) (bNo (by decide +kernel) ?_)
  refine zFL (.int z) (by simp) (by simp) (bNo (by decide +kernel) ?_)
  exact⟨eD,rfl,s',_,rfl⟩
 rintro nn σ H3 ys hnn ⟨rfl,s3,_⟩ e3
 refine zAc (by show 0<=sizeLine;decide) λn2 H4 hn2 s4 e4=>?_
 refine zLS (ns:=[]) (ms:=[]) (SqL.of (s4 _ _ e3)) (SqL.of e4) (bNo (by simp) ?_)
 have sx:=s1.trans (s2.trans (s3.trans s4))
 exact zMz (d:=zL4 v cs) 1 (by decide) (zG5 (sx _ _ ep) (sx _ _ epc)) (zG5 (sx _ _ ed) (sx _ _ edc)) (q H4 sx)
theorem zCg {α:Type}[DecidableEq α]:∀ (r l:List α),l.Nodup->(∀ x∈l,x∈r)->l.length<=r.length
 | [],l,_,h=>by
  cases l with
  | nil=>simp
  | cons x l=>exact absurd (h x (by simp)) (by simp)
 | a::r,l,hn,h=>by
  by_cases ha:a∈l
  ·have h1:=zCg r (l.erase a) (hn.erase a) λx hx=>by
    rw[hn.mem_erase_iff] at hx
    rcases List.mem_cons.mp (h x hx.2) with z | z
    ·exact absurd z hx.1
    ·exact z
   rw[List.length_erase_of_mem ha] at h1
   simp;omega
  ·have h1:=zCg r l hn λx hx=>by
    rcases List.mem_cons.mp (h x hx) with z | z
    ·subst z;exact absurd hx ha
    ·exact z
   simp;omega
theorem zBf {kvs:List (Key×V)}(hn:(kvs.map (·.1)).Nodup){k:Key}{v:V}:valV kvs k=some v↔(k,v)∈kvs:=by
 induction kvs with
 | nil=>simp[zHp]
 | cons p r ih =>
  rw[List.map_cons,List.nodup_cons] at hn
  by_cases e:p.1=k
  ·rw[zAo e,List.mem_cons]
   constructor
   ·intro h;injection h with h;exact .inl (by rw[<- e,<- h])
   ·rintro(h | h)
    ·rw[<- h]
    ·exact absurd (List.mem_map.mpr ⟨_,h,rfl⟩) (e▸hn.1)
  ·rw[zAp e,ih hn.2,List.mem_cons]
   constructor
   ·exact .inr
   ·rintro(h | h)
    ·exact absurd (by rw[<- h]) e
    ·exact h
theorem zIP (kvs:List (Key×V))(k:Key)(v:V):(putK kvs k v).map (·.1)=if (valV kvs k).isSome then kvs.map (·.1) else kvs.map (·.1)++[k]:=by
 unfold putK
 rw[zBK]
 split
 ·rw[List.map_map]
  refine List.map_congr_left λp _=>?_
  simp only[Function.comp_apply]
  split<;>rfl
 ·simp
theorem zDz {kvs:List (Key×V)}(hn:(kvs.map (·.1)).Nodup)(k:Key)(v:V):((putK kvs k v).map (·.1)).Nodup:=by
 rw[zIP]
 split
 ·exact hn
 ·rename_i h
  rw[List.nodup_append]
  refine⟨hn,by simp,λa ha b hb=>?_⟩
  have:b=k:=by simpa using hb
  subst this
  rintro rfl
  obtain⟨p,hp,rfl⟩:=List.mem_map.mp ha
  have:=(zBf hn).mpr (show (p.1,p.2)∈kvs from hp)
  rw[this] at h
  simp at h
structure DF (N:Nat)(kvs:List (Key×V))(L:Nat->Option V):Prop where
 nd:(kvs.map (·.1)).Nodup
 mem:∀ k v,(k,v)∈kvs↔∃ t:Nat,k=.inl (t:Int)/\L t=some v
 le:∀ t v,L t=some v->t<=N
theorem DF.val {N:Nat}{kvs:List (Key×V)}{L:Nat->Option V}(d:DF N kvs L)(t:Nat):valV kvs (.inl (t:Int))=L t:=by
 cases h:L t with
 | some v=>exact(zBf d.nd).mpr ((d.mem _ v).mpr ⟨t,rfl,h⟩)
 | none =>
  cases hv:valV kvs (.inl (t:Int)) with
  | none=>rfl
  | some v =>
   obtain⟨t',h1,h2⟩:=(d.mem _ v).mp ((zBf d.nd).mp hv)
   have:t'=t:=by injection h1 with h1;omega
   subst this
   rw[h] at h2;cases h2
theorem DF.nil (N:Nat):DF N [] λ_=>none:=⟨by simp,λk v=>by simp,λt v h=>(by cases h)⟩
theorem DF.one {N t:Nat}(ht:t<=N)(v:V):DF N [(.inl (t:Int),v)] λj=>if j=t then some v else none:=by
 refine⟨by simp,λk u=>?_,λj u h=>?_⟩
 ·rw[List.mem_singleton]
  constructor
  ·intro h;cases h;exact⟨t,rfl,by simp⟩
  ·rintro⟨j,rfl,h⟩
   split at h
   ·rename_i e;subst e;cases h;rfl
   ·cases h
 ·split at h
  ·rename_i e;subst e;exact ht
  ·cases h
theorem DF.put {N:Nat}{kvs:List (Key×V)}{L:Nat->Option V}(d:DF N kvs L){t:Nat}(ht:t<=N)(v:V):DF N (putK kvs (.inl (t:Int)) v) λj=>if j=t then some v else L j:=by
 refine⟨zDz d.nd _ _,λk u=>?_,λj u h=>?_⟩
 ·rw[<- zBf (zDz d.nd _ _),zHq]
  constructor
  ·intro h
   split at h
   ·rename_i e;exact⟨t,e,by simpa using h⟩
   ·rename_i e
    obtain⟨j,rfl,h2⟩:=(d.mem _ _).mp ((zBf d.nd).mp h)
    refine⟨j,rfl,?_⟩
    rw[if_neg λz=>e (by rw[z])];exact h2
  ·rintro⟨j,rfl,h⟩
   split at h
   ·rename_i e;subst e;rw[if_pos rfl];exact h
   ·rename_i e
    rw[if_neg λz=>e (by injection z with z;omega)]
    exact(zBf d.nd).mpr ((d.mem _ _).mpr ⟨j,rfl,h⟩)
 ·split at h
  ·rename_i e;subst e;exact ht
  ·exact d.le j u h
theorem DF.len {N:Nat}{kvs:List (Key×V)}{L:Nat->Option V}(d:DF N kvs L):kvs.length<=N+1:=by
 have h1:=zCg ((List.range (N+1)).map λ(t:Nat)=>(Sum.inl (t:Int):Key)) (kvs.map (·.1)) d.nd λx hx=>by
  obtain⟨p,hp,rfl⟩:=List.mem_map.mp hx
  obtain⟨t,h1,h2⟩:=(d.mem p.1 p.2).mp hp
  have:=d.le t _ h2
  exact List.mem_map.mpr ⟨t,List.mem_range.mpr (by omega),h1.symm⟩
 simpa using h1
theorem DF.at {N:Nat}{kvs:List (Key×V)}{L:Nat->Option V}(d:DF N kvs L){i:Nat}{kv:Key×V}(h:kvs[i]?=some kv):∃ t:Nat,kv.1=.inl (t:Int)/\L t=some kv.2/\t<=N:=by
 obtain⟨t,h1,h2⟩:=(d.mem kv.1 kv.2).mp (List.mem_of_getElem? h)
 exact⟨t,h1,h2,d.le t _ h2⟩
theorem DF.congr {N:Nat}{kvs:List (Key×V)}{L L':Nat->Option V}(d:DF N kvs L)(h:∀ t,L t=L' t):DF N kvs L':=by
 have:L=L':=funext h
 subst this;exact d
abbrev zqu:Stmt:=top 38
theorem zq72:FnScope ["row","found","number"] ["row"] (zAA zqu):=⟨rfl,rfl,rfl,by decide +kernel,rfl,by decide +kernel,by decide +kernel⟩
theorem zqas:Loc (zAA zqu) "found":=Or.inl (by kernel_rfl)
theorem zqa9:Loc (zAA zqu) "number":=Or.inl (by kernel_rfl)
theorem zq3i:Vis (zAA zqu) "found":=Or.inl (by kernel_rfl)
theorem zqaa:Vis (zAA zqu) "number":=Or.inl (by kernel_rfl)
theorem zqcr:Vis (zAA zqu) "row":=Or.inl (by kernel_rfl)
def zqey {cdv:Value}{A:Around}{outer:List Env}{s:Shared}{H:Hp}{E:XK}(B:Bl mg)(hr:Room 0 (A.deeper (PyProof.Rows.envOfC "_law_ahead" (zAA zqu) s.heap.objs.size f cdv))) :
  { t:TS // QB (cxOf CX0 P w K mg base ["row","found","number"] "_law_ahead" (zAA zqu) f cdv A outer s H E).nox (zAF zqu) t } :=
 ⟨_,(zAE (zAJ (i:=1) zq72.nd rfl zqas (.inl rfl) (zAf (zAB zAD zAC)))
  (zAY (zAm PassesOwn.never rfl (zAu (K:=K) rfl (qv 0 rfl zqcr)) (zAL (i:=2) zq72.nd rfl zqa9 (.inl rfl)) (zAH (zBQ (zCB (K:=K) rfl PySem.F.plainAttrs_list PySem.F.slot_list_append PySem.F.type_list_append zB8 (qv 1 rfl zq3i) (zAO zAq (zAU (K:=K) rfl (qv 1 rfl zq3i) (zC0 zCz zAD) (λ_ _=>rfl)) (qv 2 rfl zqaa))))))
  (zAH (zAR (qv 1 rfl zq3i)))))⟩
open M25 in
def zq4m:Sp:=zq1m
open M25 in
theorem zqeh (B:Bl mg)(F:Fun K "_law_ahead" "_law_ahead" zqu f fd):FnOk P w K mg base CX0 1 f fd ["row"] zq4m:=by
 refine F.okq zq72 (λvs H Q E h=>?_) (λcdv A outer s H vs Q E hr h=>?_)
 ·obtain⟨r,ns,rfl,_⟩:=h;rfl
 obtain⟨r,ns,rfl,hr0,hle,q⟩:=h
 refine⟨zqey B  hr,?_⟩
 refine zAc (by show 1<=sizeLine;decide) λp H1 hp s1 e1=>?_
 refine⟨λσ H'=>Same H H'/\H' p=some (.lst ((pre ns (ns.length+1)).map V.int))/\∃ o,σ=[some (.ref r),some (.ref p),o],?_,?_⟩
 ·refine⟨⟨_,SqL.of (s1 _ _ hr0)⟩,zBr (xs:=ns.map V.int) (λi σ H'=>Same H H'/\H' p=some (.lst ((pre ns (i+1)).map V.int))/\∃ o,σ=[some (.ref r),some (.ref p),o]) ?_ ?_ ?_ ?_⟩
  ·refine⟨s1,?_,_,rfl⟩
   rw[e1,zDJ,zEp];rfl
  ·rintro i σ H' _ ⟨s',_⟩
   exact SqL.of (s' _ _ hr0)
  ·rintro i x σ H2 hx ⟨s2,e2,o,rfl⟩
   obtain⟨z,rfl,hz,_⟩:=zAt hx
   have hi:i<ns.length:=(List.getElem?_eq_some_iff.mp hz).1
   have e2':=e2
   rw[zDJ] at e2'
   refine⟨zB9 e2,i_ix (.inl (SqL.of e2')) (zCI _ _) ?_⟩
   refine zBu e2 (by rw[zGu];omega) λH3 k3 e3=>?_
   refine⟨s2.new k3 hp,?_,_,rfl⟩
   rw[e3,zDC ns (i+1),zGt hz]
  ·rintro σ H' ⟨s',e',o⟩
   rw[List.length_map] at e'
   exact⟨s',e',o⟩
 ·rintro σ H' ⟨s',e',o,rfl⟩
  exact q p H' hp s' e'
abbrev zq0:Stmt:=top 39
theorem zqq:FnScope ["ahead","many","low","found","piece","longer","place","most","there","number","end"] ["ahead","many","low"] (zAA zq0):=⟨rfl,rfl,rfl,by decide +kernel,rfl,by decide +kernel,by decide +kernel⟩
theorem zq9k:Loc (zAA zq0) "end":=Or.inl (by kernel_rfl)
theorem zq47:Loc (zAA zq0) "found":=Or.inl (by kernel_rfl)
theorem zq7u:Loc (zAA zq0) "longer":=Or.inl (by kernel_rfl)
theorem zq8z:Loc (zAA zq0) "most":=Or.inl (by kernel_rfl)
theorem zq7v:Loc (zAA zq0) "number":=Or.inl (by kernel_rfl)
theorem zq8c:Loc (zAA zq0) "piece":=Or.inl (by kernel_rfl)
theorem zq8d:Loc (zAA zq0) "place":=Or.inl (by kernel_rfl)
theorem zq8e:Loc (zAA zq0) "there":=Or.inl (by kernel_rfl)
theorem zq1l:Vis (zAA zq0) "ahead":=Or.inl (by kernel_rfl)
theorem zq55:Vis (zAA zq0) "end":=Or.inl (by kernel_rfl)
theorem zq48:Vis (zAA zq0) "found":=Or.inl (by kernel_rfl)
theorem zq28:Vis (zAA zq0) "longer":=Or.inl (by kernel_rfl)
theorem zq9l:Vis (zAA zq0) "low":=Or.inl (by kernel_rfl)
theorem zq90:Vis (zAA zq0) "many":=Or.inl (by kernel_rfl)
theorem zq91:Vis (zAA zq0) "most":=Or.inl (by kernel_rfl)
theorem zq3p:Vis (zAA zq0) "number":=Or.inl (by kernel_rfl)
theorem zq49:Vis (zAA zq0) "place":=Or.inl (by kernel_rfl)
theorem zq2k:Vis (zAA zq0) "there":=Or.inl (by kernel_rfl)
theorem zq56:(zAA zq0).names.lookup ("len":Str)=some NameKind.globalImplicit:=by kernel_rfl
theorem zq9m:(zAA zq0).names.lookup ("max":Str)=some NameKind.globalImplicit:=by kernel_rfl
theorem zq9n:(zAA zq0).names.lookup ("min":Str)=some NameKind.globalImplicit:=by kernel_rfl
theorem zq4a:(zAA zq0).names.lookup ("range":Str)=some NameKind.globalImplicit:=by kernel_rfl
def zqcs {cdv:Value}{A:Around}{outer:List Env}{s:Shared}{H:Hp}{E:XK}(B:Bl mg)(hr:Room 0 (A.deeper (PyProof.Rows.envOfC "_law_least_end" (zAA zq0) s.heap.objs.size f cdv))) :
  { t:TS // QB (cxOf CX0 P w K mg base ["ahead","many","low","found","piece","longer","place","most","there","number","end"] "_law_least_end" (zAA zq0) f cdv A outer s H E).nox (zAF zq0) t } :=
 ⟨_,(zAE (zAJ (i:=3) zqq.nd rfl zq47 (.inl rfl) (zEj zAD zAD))
  (zAY (zAm PassesOwn.never rfl (zCT zq4a B.range (zAB (qv 1 rfl zq90) zAC)) (zAL (i:=4) zqq.nd rfl zq8c (.inl rfl)) (zAE (zAJ (i:=5) zqq.nd rfl zq7u (.inl rfl) zC4)
  (zAY (zAm PassesOwn.never rfl (zH7 (qv 3 rfl zq48)) (zCW (K:=K) rfl rfl (zAk (zAL (i:=6) zqq.nd rfl zq8d (.inl rfl)) (zAk (zAL (i:=7) zqq.nd rfl zq8z (.inl rfl)) zBm))) (zAH (zAm PassesOwn.never rfl (zJn zq4a B.range (zAB (zAO zAq (qv 6 rfl zq49) zAD) (zAB (zAa (kLen (K:=K) rfl) zq56 B.len zAV (zAB (qv 0 rfl zq1l) zAC)) zAC))) (zAL (i:=8) zqq.nd rfl zq8e (.inl rfl)) (zAE (zAJ (i:=9) zqq.nd rfl zq7v (.inl rfl) (zAO zA7 (zAU (K:=K) rfl (qv 0 rfl zq1l) (qv 8 rfl zq2k) (λ_ _=>rfl)) (zAU (K:=K) rfl (qv 0 rfl zq1l) (qv 6 rfl zq49) (λ_ _=>rfl))))
  (zAH (zA8 (zAX opGe (qv 9 rfl zq3p) (qv 2 rfl zq9l)) (zAE (zAJ (i:=10) zqq.nd rfl zq9k (.inl rfl) (zAa (kMax (K:=K) rfl rfl) zq9m B.max zA0 (zAB (qv 7 rfl zq91) (zAB (qv 9 rfl zq3p) zAC))))
  (zAH (zC5 hr (qv 5 rfl zq28) (qv 8 rfl zq2k) (zAa (kMin (K:=K) rfl rfl) zq9n B.min zAv (zAB (qv 10 rfl zq55) (zAB (zEg hr (qv 5 rfl zq28) (qv 8 rfl zq2k) (qv 10 rfl zq55) ⟨rfl,rfl,rfl,rfl⟩) zAC)))))) zAr))))))
  (zAH (zAJ (i:=3) zqq.nd rfl zq47 (.inl rfl) (qv 5 rfl zq28))))))
  (zAH (zAR (zEg hr (qv 3 rfl zq48) (zAO zA7 (zAa (kLen (K:=K) rfl) zq56 B.len zAV (zAB (qv 0 rfl zq1l) zAC)) zAD) zCU ⟨rfl,rfl,rfl,rfl⟩)))))⟩
open M25 M20
theorem zKP {N:Nat}{kvs:List (Key×V)}{F:Nat->Option Int}(d:DF N kvs λt=>(F t).map V.int):∃ fs:List (Nat×Int),kvs=fs.map (λx=>(.inl (x.1:Int),.int x.2))/\∀ s m,(s,m)∈fs↔F s=some m:=by
 have key:∀ l:List (Key×V),(∀ x∈l,∃ y:Nat×Int,x=(.inl (y.1:Int),.int y.2))->∃ fs:List (Nat×Int),l=fs.map λx=>(.inl (x.1:Int),.int x.2):=by
  intro l
  induction l with
  | nil=>intro _;exact⟨[],rfl⟩
  | cons x l ih =>
   intro h
   obtain⟨y,hy⟩:=h x (by simp)
   obtain⟨fs,hf⟩:=ih λz hz=>h z (List.mem_cons_of_mem _ hz)
   exact⟨y::fs,by rw[hy,hf];rfl⟩
 have form:∀ k v,(k,v)∈kvs↔∃ (t:Nat) (m:Int),k=.inl (t:Int)/\v=.int m/\F t=some m:=λk v=>(d.mem k v).trans ⟨λ⟨t,h1,h2⟩=>by
  cases hF:F t with
  | none=>rw[hF] at h2;cases h2
  | some m=>rw[hF] at h2;cases h2;exact⟨t,m,h1,rfl,hF⟩,λ⟨t,m,h1,h2,h3⟩=>⟨t,h1,by rw[h3,h2];rfl⟩⟩
 obtain⟨fs,hf⟩:=key kvs λx hx=>by
  obtain⟨t,m,h1,h2,h3⟩:=(form x.1 x.2).mp hx
  exact⟨(t,m),by rw[<- h1,<- h2]⟩
 refine⟨fs,hf,λs m=>?_⟩
 constructor
 ·intro h
  obtain⟨t,m',h1,h2,h3⟩:=(form (.inl (s:Int)) (.int m)).mp (by rw[hf];exact List.mem_map.mpr ⟨_,h,rfl⟩)
  have:t=s:=by injection h1 with h1;omega
  subst this
  cases h2
  exact h3
 ·intro h
  have:=(form (.inl (s:Int)) (.int m)).mpr ⟨s,m,rfl,rfl,h⟩
  rw[hf] at this
  obtain⟨y,hy,e⟩:=List.mem_map.mp this
  injection e with e1 e2
  injection e1 with e1
  injection e2 with e2
  have:y=(s,m):=Prod.ext (by have:((y.1:Nat):Int)=s:=e1;simp;omega) e2
  rw[<- this];exact hy
def zq2t:Sp:=λvs H Q _=>∃ (a:Addr) (ns:List Int) (m:Nat) (lo:Int),vs=[.ref a,.int m,.int lo]/\H a=some (.lst ((pre ns (ns.length+1)).map V.int))/\ns.length<=30/\m<=1000 /\
 ∀ (o:Option Int) (H':Hp),LE ns lo m o->Same H H'->Q ((o.map V.int).getD .non) H'
theorem zqbm (B:Bl mg)(F:Fun K "_law_least_end" "_law_least_end" zq0 f fd):FnOk P w K mg base CX0 1 f fd ["ahead","many","low"] zq2t:=by
 refine F.okq zqq (λvs H Q E h=>?_) (λcdv A outer s H vs Q E hr h=>?_)
 ·obtain⟨a,ns,m,lo,rfl,_⟩:=h;rfl
 obtain⟨a,ns,m,lo,rfl,ha,hle,hm,q⟩:=h
 refine⟨zqcs B  hr,?_⟩
 have hpl:(pre ns (ns.length+1)).length=ns.length+1:=by simp[pre]
 intro p0 H1 hp0 s1 e1
 refine zGo e1 λH2 k2 e2=>?_
 have s2:Same H H2:=s1.new k2 hp0
 refine⟨λσ H'=>∃ (fo:Addr) (kvs:List (Key×V)) (F:Nat->Option Int) (o4 o5 o6 o7 o8 o9 o10:Option V),H fo=none/\H' fo=some (.dK kvs)/\DF ns.length kvs (λt=>(F t).map V.int)/\Lv ns lo m F/\Same H H'/\σ=[some (.ref a),some (.int m),some (.int lo),some (.ref fo),o4,o5,o6,o7,o8,o9,o10],?_,?_⟩
 ·refine⟨⟨by omega,by omega⟩,zAl (λi σ H'=>∃ (fo:Addr) (kvs:List (Key×V)) (F:Nat->Option Int) (o4 o5 o6 o7 o8 o9 o10:Option V),H fo=none/\H' fo=some (.dK kvs)/\DF ns.length kvs (λt=>(F t).map V.int)/\Lv ns lo i F/\Same H H'/\σ=[some (.ref a),some (.int m),some (.int lo),some (.ref fo),o4,o5,o6,o7,o8,o9,o10]) ?_ ?_ ?_⟩
  ·refine⟨p0,_,_,_,_,_,_,_,_,_,hp0,e2,?_,zKL,s2,rfl⟩
   refine(DF.one (t:=0) (Nat.zero_le _) (.int 0)).congr λt=>?_
   split<;>rfl
  ·rintro i σ H3 hi ⟨fo,kvs,F,o4,o5,o6,o7,o8,o9,o10,hfo,e3,df,lv,s3,rfl⟩
   obtain⟨fs,rfl,hfs⟩:=zKP df
   refine zEF λlg H4 hlg s4 e4=>?_
   have ngf:lg≠fo:=(zAK e3 hlg).symm
   refine⟨λσ H'=>∃ (ks:List (Key×V)) (L:Nat->Option Int) (o6 o7 o8 o9 o10:Option V),H' lg=some (.dK ks)/\DF ns.length ks (λt=>(L t).map V.int)/\Part ns lo fs fs.length 0 L/\Same H H'/\σ=[some (.ref a),some (.int m),some (.int lo),some (.ref fo),some (.int (0+i)),some (.ref lg),o6,o7,o8,o9,o10],?_,?_⟩
   ·refine zJ9 (.inl (s4 _ _ e3)) λob H5 k5 e5=>?_
    have s5:Same H H5:=(s3.trans s4).new k5 hfo
    have hlg0:H lg=none:=s3.free hlg
    refine zKB (kvs:=fs.map λx=>(.inl (x.1:Int),.int x.2)) (λj σ H'=>∃ (ks:List (Key×V)) (L:Nat->Option Int) (o6 o7 o8 o9 o10:Option V),H' lg=some (.dK ks)/\H' fo=some (.frz ob (.dK (fs.map λx=>(.inl (x.1:Int),.int x.2))))/\DF ns.length ks (λt=>(L t).map V.int)/\Part ns lo fs j 0 L/\Same H H'/\σ=[some (.ref a),some (.int m),some (.int lo),some (.ref fo),some (.int (0+i)),some (.ref lg),o6,o7,o8,o9,o10]) ?_ ?_ ?_ ?_
    ·exact⟨[],λ_=>none,_,_,_,_,_,k5.one ngf e4,e5,DF.nil _,zGz fs,s5,rfl⟩
    ·rintro j σ H' _ ⟨_,_,_,_,_,_,_,_,e',_⟩
     exact e'
    ·rintro j kv σ H6 T H7 hkv ⟨ks,L,o6,o7,o8,o9,o10,e6,f6,d6,p6,s6,rfl⟩ hT s7 e7
     rw[List.getElem?_map] at hkv
     obtain⟨⟨pl,mo⟩,hj,rfl⟩:∃ y,fs[j]?=some y/\kv=(.inl (y.1:Int),.int y.2):=by
      cases hy:fs[j]? with
      | none=>rw[hy] at hkv;cases hkv
      | some y=>rw[hy] at hkv;cases hkv;exact⟨y,rfl,rfl⟩
     have hF:=(hfs pl mo).mp (List.mem_of_getElem? hj)
     obtain⟨mo0,pln⟩:=lv.1 pl mo hF
     have e7':H7 T=some (.tup [.int pl,.int mo]):=e7
     refine zD9 e7' rfl ?_
     have ha7:=s7 _ _ (s6 _ _ ha)
     refine zA6 ha7 ⟨⟨by omega,by omega,by omega,by omega⟩,?_⟩
     refine zAl (λk σ H'=>∃ (ks:List (Key×V)) (L:Nat->Option Int) (o8 o9 o10:Option V),H' lg=some (.dK ks)/\H' fo=some (.frz ob (.dK (fs.map λx=>(.inl (x.1:Int),.int x.2))))/\DF ns.length ks (λt=>(L t).map V.int)/\Part ns lo fs j (pl+1+k) L/\Same H H'/\σ=[some (.ref a),some (.int m),some (.int lo),some (.ref fo),some (.int (0+i)),some (.ref lg),some (.int pl),some (.int mo),o8,o9,o10]) ?_ ?_ ?_
     ·exact⟨ks,L,_,_,_,s7 _ _ e6,s7 _ _ f6,d6,zFX p6 hj,s6.trans s7,rfl⟩
     ·rintro k σ H8 hk ⟨ks,L,o8,o9,o10,e8,f8,d8,p8,s8,rfl⟩
      have hu:((pl:Int)+1)+(k:Int)=((pl+1+k:Nat):Int):=by omega
      rw[hu]
      generalize hug:pl+1+k=u at *
      have ha8:=s8 _ _ ha
      refine zCG u ha8 rfl (by omega) (zCG pl ha8 rfl (by omega) ?_)
      refine dec2 (λc=>?_) (λc=>?_)
      ·have c':lo<=S ns u-S ns pl:=c
       have hv:(valV ks (.inl ((u:Nat):Int))).getD (.int (max mo (S ns u-S ns pl)))=.int ((L u).getD (max mo (S ns u-S ns pl))):=by
        rw[d8.val];cases L u<;>rfl
       refine⟨⟨_,e8⟩,zGa e8 ?_⟩
       rw[hv]
       refine zEG e8 (Nat.lt_of_le_of_lt d8.len (by rw[sizeLine_eq];omega)) λH9 k9 e9=>?_
       refine⟨_,λt=>if t=u then some (min (max mo (S ns u-S ns pl)) ((L u).getD (max mo (S ns u-S ns pl)))) else L t,_,_,_,e9,k9.one (Ne.symm ngf) f8,?_,?_,s8.new k9 hlg0,rfl⟩
       ·refine(d8.put (t:=u) (by omega) _).congr λt=>?_
        by_cases z:t=u<;>simp[z]
       ·rw[show pl+1+(k+1)=u+1 by omega]
        exact zIN p8 hj (by omega) (by omega) mo0 c'
      ·have c':¬ lo<=S ns u-S ns pl:=c
       exact⟨ks,L,_,_,_,e8,f8,d8,by rw[show pl+1+(k+1)=u+1 by omega];exact zG0 p8 hj c',s8,rfl⟩
     ·rintro σ H8 ⟨ks,L,o8,o9,o10,e8,f8,d8,p8,s8,rfl⟩
      rw[show pl+1+(((pre ns (ns.length+1)).length:Int)-((pl:Int)+1)).toNat=ns.length+1 by omega] at p8
      exact⟨ks,L,_,_,_,_,_,e8,f8,d8,zIM p8,s8,rfl⟩
    ·rintro σ H8 ⟨ks,L,o6,o7,o8,o9,o10,e8,f8,d8,p8,s8,rfl⟩
     rw[List.length_map] at p8
     exact⟨ks,L,_,_,_,_,_,e8,d8,p8,s8,rfl⟩
   ·rintro σ H8 ⟨ks,L,o6,o7,o8,o9,o10,e8,d8,p8,s8,rfl⟩
    exact⟨lg,ks,L,_,_,_,_,_,_,_,s3.free hlg,e8,d8,zKM lv hfs p8,s8,rfl⟩
  ·rintro σ H8 ⟨fo,kvs,F,o4,o5,o6,o7,o8,o9,o10,hfo,e3,df,lv,s3,rfl⟩
   rw[show ((m:Int)).toNat=m by omega] at lv
   exact⟨fo,kvs,F,_,_,_,_,_,_,_,hfo,e3,df,lv,s3,rfl⟩
 ·rintro σ H8 ⟨fo,kvs,F,o4,o5,o6,o7,o8,o9,o10,hfo,e3,df,lv,s3,rfl⟩
  refine⟨⟨_,e3⟩,zA6 (s3 _ _ ha) ?_⟩
  refine zGa e3 ?_
  rw[show (((pre ns (ns.length+1)).length:Int)-1)=(ns.length:Int) by omega,df.val]
  exact q _ H8 (zLz lv) s3
abbrev zqn:Stmt:=top 40
theorem zq5i:FnScope ["ahead","found","place","there"] ["ahead"] (zAA zqn):=⟨rfl,rfl,rfl,by decide +kernel,rfl,by decide +kernel,by decide +kernel⟩
theorem zqbn:Loc (zAA zqn) "found":=Or.inl (by kernel_rfl)
theorem zqbo:Loc (zAA zqn) "place":=Or.inl (by kernel_rfl)
theorem zqbp:Loc (zAA zqn) "there":=Or.inl (by kernel_rfl)
theorem zq2u:Vis (zAA zqn) "ahead":=Or.inl (by kernel_rfl)
theorem zq73:Vis (zAA zqn) "found":=Or.inl (by kernel_rfl)
theorem zq74:Vis (zAA zqn) "place":=Or.inl (by kernel_rfl)
theorem zqbq:Vis (zAA zqn) "there":=Or.inl (by kernel_rfl)
theorem zq8f:(zAA zqn).names.lookup ("len":Str)=some NameKind.globalImplicit:=by kernel_rfl
theorem zq75:(zAA zqn).names.lookup ("range":Str)=some NameKind.globalImplicit:=by kernel_rfl
theorem zqat:(zAA zqn).names.lookup ("sorted":Str)=some NameKind.globalImplicit:=by kernel_rfl
def zqfd {cdv:Value}{A:Around}{outer:List Env}{s:Shared}{H:Hp}{E:XK}(B:Bl mg)(hr:Room 0 (A.deeper (PyProof.Rows.envOfC "_law_lows" (zAA zqn) s.heap.objs.size f cdv))) :
  { t:TS // QB (cxOf CX0 P w K mg base ["ahead","found","place","there"] "_law_lows" (zAA zqn) f cdv A outer s H E).nox (zAF zqn) t } :=
 ⟨_,(zAE (zAJ (i:=1) zq5i.nd rfl zqbn (.inl rfl) zC4)
  (zAY (zAm PassesOwn.never rfl (zCT zq75 B.range (zAB (zAa (kLen (K:=K) rfl) zq8f B.len zAV (zAB (qv 0 rfl zq2u) zAC)) zAC)) (zAL (i:=2) zq5i.nd rfl zqbo (.inl rfl)) (zAH (zAm PassesOwn.never rfl (zJn zq75 B.range (zAB (zAO zAq (qv 2 rfl zq74) zAD) (zAB (zAa (kLen (K:=K) rfl) zq8f B.len zAV (zAB (qv 0 rfl zq2u) zAC)) zAC))) (zAL (i:=3) zq5i.nd rfl zqbp (.inl rfl)) (zAH (zC5 hr (qv 1 rfl zq73) (zAO zA7 (zAU (K:=K) rfl (qv 0 rfl zq2u) (qv 3 rfl zqbq) (λ_ _=>rfl)) (zAU (K:=K) rfl (qv 0 rfl zq2u) (qv 2 rfl zq74) (λ_ _=>rfl))) zEB)))))
  (zAH (zAR (zAa (zIA rfl) zqat B.sorted zDx (zAB (qv 1 rfl zq73) zAC))))))⟩
open M25 M20
theorem zL5 {ks:List Int}(hn:ks.Nodup)(k:Int)(v:V):∃ ks':List Int,putK (ks.map λx=>((.inl x:Key),v)) (.inl k) v=ks'.map (λx=>(.inl x,v))/\ks'.Nodup/\(∀ j,j∈ks'↔j∈ks\/j=k)/\ks'.length<=ks.length+1:=by
 have hl:=zBA (ks.map λx=>((.inl x:Key),v)) (.inl k) v
 have ev:valV (ks.map λx=>((.inl x:Key),v)) (.inl k)=if k∈ks then some v else none:=by
  induction ks with
  | nil=>rfl
  | cons x ks ih =>
   rw[List.map_cons]
   by_cases e:x=k
   ·subst e
    rw[zAo (by rfl)];simp
   ·rw[zAp (by intro z;injection z with z;exact e z),ih (List.nodup_cons.mp hn).2 (zBA _ _ _)]
    have e':¬ k=x:=λz=>e z.symm
    simp[e']
 by_cases hk:k∈ks
 ·refine⟨ks,?_,hn,λj=>⟨.inl,λh=>h.elim id λz=>z▸hk⟩,by omega⟩
  unfold putK
  rw[zBK,ev,if_pos hk]
  simp only[Option.isSome_some,if_true,List.map_map]
  refine List.map_congr_left λx _=>?_
  simp only[Function.comp_apply]
  split<;>rfl
 ·refine⟨ks++[k],?_,?_,λj=>by simp,by simp⟩
  ·rw[zHr _ (by rw[ev,if_neg hk])]
   simp
  ·rw[List.nodup_append]
   refine⟨hn,by simp,λa ha b hb=>?_⟩
   have:b=k:=by simpa using hb
   subst this
   rintro rfl
   exact hk ha
def zq5j:Sp:=λvs H Q _=>∃ (a:Addr) (ns:List Int),vs=[.ref a]/\H a=some (.lst ((pre ns (ns.length+1)).map V.int))/\ns.length<=30 /\
 ∀ (p:Addr) (ms:List Int) (H':Hp),Strs ns ms->ms.length<=1000->H p=none->Same H H'->H' p=some (.lst (ms.map V.int))->Q (.ref p) H'
theorem zqez (B:Bl mg)(F:Fun K "_law_lows" "_law_lows" zqn f fd):FnOk P w K mg base CX0 1 f fd ["ahead"] zq5j:=by
 refine F.okq zq5i (λvs H Q E h=>?_) (λcdv A outer s H vs Q E hr h=>?_)
 ·obtain⟨a,ns,rfl,_⟩:=h;rfl
 obtain⟨a,ns,rfl,ha,hle,q⟩:=h
 refine⟨zqfd B  hr,?_⟩
 have hpl:(pre ns (ns.length+1)).length=ns.length+1:=by simp[pre]
 refine zEF λfo H1 hfo s1 e1=>?_
 refine⟨λσ H'=>∃ (ks:List Int) (o2 o3:Option V),H' fo=some (.dK (ks.map λx=>(.inl x,.bl true)))/\ks.Nodup/\ks.length<=961/\(∀ x,x∈ks↔∃ i e,i<e/\e<=ns.length/\x=S ns e-S ns i)/\Same H H'/\σ=[some (.ref a),some (.ref fo),o2,o3],?_,?_⟩
 ·refine zA6 (s1 _ _ ha) ⟨⟨by omega,by omega⟩,zAl (λi σ H'=>∃ (ks:List Int) (o2 o3:Option V),H' fo=some (.dK (ks.map λx=>(.inl x,.bl true)))/\ks.Nodup/\ks.length<=31*i/\(∀ x,x∈ks↔∃ p e,p<i/\p<e/\e<=ns.length/\x=S ns e-S ns p)/\Same H H'/\σ=[some (.ref a),some (.ref fo),o2,o3]) ?_ ?_ ?_⟩
  ·exact⟨[],_,_,e1,by simp,by simp,λx=>by simp,s1,rfl⟩
  ·rintro i σ H2 hi ⟨ks,o2,o3,e2,nd2,l2,m2,s2,rfl⟩
   refine zA6 (s2 _ _ ha) ⟨⟨by omega,by omega,by omega,by omega⟩,zAl (λk σ H'=>∃ (ks:List Int) (o3:Option V),H' fo=some (.dK (ks.map λx=>(.inl x,.bl true)))/\ks.Nodup/\ks.length<=31*i+k/\(∀ x,x∈ks↔∃ p e,(p<i\/(p=i/\e<i+1+k))/\p<e/\e<=ns.length/\x=S ns e-S ns p)/\Same H H'/\σ=[some (.ref a),some (.ref fo),some (.int (0+i)),o3]) ?_ ?_ ?_⟩
   ·refine⟨ks,_,e2,nd2,by omega,λx=>(m2 x).trans ?_,s2,rfl⟩
    constructor
    ·rintro⟨p,e,h1,h2⟩;exact⟨p,e,.inl h1,h2⟩
    ·rintro⟨p,e,h1 | ⟨rfl,h1⟩,h2,h3⟩
     ·exact⟨p,e,h1,h2,h3⟩
     ·omega
   ·rintro k σ H3 hk ⟨ks,o3,e3,nd3,l3,m3,s3,rfl⟩
    have ha3:=s3 _ _ ha
    refine zCG (i+1+k) ha3 (by omega) (by omega) (zCG i ha3 (by omega) (by omega) ?_)
    refine zEG e3 (by rw[List.length_map,sizeLine_eq];omega) λH4 k4 e4=>?_
    obtain⟨ks',h1,h2,h3,h4⟩:=zL5 nd3 (S ns (i+1+k)-S ns i) (.bl true)
    rw[h1] at e4
    refine⟨ks',_,e4,h2,by omega,λx=>(h3 x).trans ?_,s3.new k4 hfo,rfl⟩
    rw[m3 x]
    constructor
    ·rintro(⟨p,e,h5 | ⟨rfl,h5⟩,h6⟩ | rfl)
     ·exact⟨p,e,.inl h5,h6⟩
     ·exact⟨p,e,.inr ⟨rfl,by omega⟩,h6⟩
     ·exact⟨i,i+1+k,.inr ⟨rfl,by omega⟩,by omega,by omega,rfl⟩
    ·rintro⟨p,e,h5 | ⟨rfl,h5⟩,h6,h7,h8⟩
     ·exact .inl ⟨p,e,.inl h5,h6,h7,h8⟩
     ·by_cases z:e=p+1+k
      ·subst z;exact .inr h8
      ·exact .inl ⟨p,e,.inr ⟨rfl,by omega⟩,h6,h7,h8⟩
   ·rintro σ H3 ⟨ks,o3,e3,nd3,l3,m3,s3,rfl⟩
    refine⟨ks,_,_,e3,nd3,by omega,λx=>(m3 x).trans ?_,s3,rfl⟩
    constructor
    ·rintro⟨p,e,h5 | ⟨rfl,h5⟩,h6⟩
     ·exact⟨p,e,by omega,h6⟩
     ·exact⟨p,e,by omega,h6⟩
    ·rintro⟨p,e,h5,h6,h7,h8⟩
     refine⟨p,e,?_,h6,h7,h8⟩
     by_cases z:p=i
     ·exact .inr ⟨z,by omega⟩
     ·exact .inl (by omega)
  ·rintro σ H3 ⟨ks,o2,o3,e3,nd3,l3,m3,s3,rfl⟩
   refine⟨ks,_,_,e3,nd3,by omega,λx=>(m3 x).trans ?_,s3,rfl⟩
   constructor
   ·rintro⟨p,e,_,h⟩;exact⟨p,e,h⟩
   ·rintro⟨p,e,h1,h2,h3⟩;exact⟨p,e,by omega,h1,h2,h3⟩
 ·rintro σ H3 ⟨ks,o2,o3,e3,nd3,l3,m3,s3,rfl⟩
  refine zLk (ns:=ks) e3 (by rw[List.map_map];rfl) (by omega) λp H4 ms z1 z2 hp s4 e4=>?_
  exact q p ms H4 ⟨z1.nodup_iff.mpr nd3,λk=>z1.mem_iff.trans (m3 k),z2⟩ (by rw[z1.length_eq];omega) (s3.free hp) (s3.trans s4) e4
abbrev zq3:Stmt:=top 41
theorem zq1d:FnScope ["ahead","many","low","high","last","good","piece","level","there","place","cut","left","some"] ["ahead","many","low","high"] (zAA zq3):=⟨rfl,rfl,rfl,by decide +kernel,rfl,by decide +kernel,by decide +kernel⟩
theorem zqct:Loc (zAA zq3) "cut":=Or.inr (by kernel_rfl)
theorem zqbr:Loc (zAA zq3) "good":=Or.inl (by kernel_rfl)
theorem zqbs:Loc (zAA zq3) "last":=Or.inl (by kernel_rfl)
theorem zqbt:Loc (zAA zq3) "left":=Or.inl (by kernel_rfl)
theorem zqau:Loc (zAA zq3) "level":=Or.inl (by kernel_rfl)
theorem zqav:Loc (zAA zq3) "piece":=Or.inl (by kernel_rfl)
theorem zqaw:Loc (zAA zq3) "place":=Or.inl (by kernel_rfl)
theorem zqbu:Loc (zAA zq3) "some":=Or.inl (by kernel_rfl)
theorem zqax:Loc (zAA zq3) "there":=Or.inl (by kernel_rfl)
theorem zq3j:Vis (zAA zq3) "ahead":=Or.inr (Or.inl (by kernel_rfl))
theorem zq7h:Vis (zAA zq3) "cut":=Or.inr (Or.inl (by kernel_rfl))
theorem zq2v:Vis (zAA zq3) "good":=Or.inl (by kernel_rfl)
theorem zqbv:Vis (zAA zq3) "high":=Or.inr (Or.inl (by kernel_rfl))
theorem zqbw:Vis (zAA zq3) "last":=Or.inl (by kernel_rfl)
theorem zqbx:Vis (zAA zq3) "left":=Or.inl (by kernel_rfl)
theorem zq6g:Vis (zAA zq3) "level":=Or.inl (by kernel_rfl)
theorem zqcu:Vis (zAA zq3) "low":=Or.inr (Or.inl (by kernel_rfl))
theorem zq3z:Vis (zAA zq3) "many":=Or.inl (by kernel_rfl)
theorem zq6h:Vis (zAA zq3) "place":=Or.inl (by kernel_rfl)
theorem zqby:Vis (zAA zq3) "some":=Or.inl (by kernel_rfl)
theorem zq6i:Vis (zAA zq3) "there":=Or.inl (by kernel_rfl)
theorem zqcv:(zAA zq3).names.lookup ("len":Str)=some NameKind.globalImplicit:=by kernel_rfl
theorem zqcw:(zAA zq3).names.lookup ("min":Str)=some NameKind.globalImplicit:=by kernel_rfl
theorem zq3k:(zAA zq3).names.lookup ("range":Str)=some NameKind.globalImplicit:=by kernel_rfl
def zqf0 {cdv:Value}{A:Around}{outer:List Env}{s:Shared}{H:Hp}{E:XK}(B:Bl mg)(hr:Room 0 (A.deeper (PyProof.Rows.envOfC "_law_first" (zAA zq3) s.heap.objs.size f cdv))) :
  { t:TS // QB (cxOf CX0 P w K mg base ["ahead","many","low","high","last","good","piece","level","there","place","cut","left","some"] "_law_first" (zAA zq3) f cdv A outer s H E).nox (zAF zq3) t } :=
 ⟨_,(zAE (zAJ (i:=4) zq1d.nd rfl zqbs (.inl rfl) (zAO zA7 (zAa (kLen (K:=K) rfl) zqcv B.len zAV (zAB (qv 0 rfl zq3j) zAC)) zAD))
  (zAE (zAJ (i:=5) zq1d.nd rfl zqbr (.inl rfl) (zAf (zAB (zEj (qv 4 rfl zqbw) zEB) zAC)))
  (zAY (zAm PassesOwn.never rfl (zCT zq3k B.range (zAB (qv 1 rfl zq3z) zAC)) (zAL (i:=6) zq1d.nd rfl zqav (.inl rfl)) (zAE (zAJ (i:=7) zq1d.nd rfl zqau (.inl rfl) zC4)
  (zAY (zAm PassesOwn.never rfl (zGn (zAU (K:=K) rfl (qv 5 rfl zq2v) (zC0 zCz zAD) (λ_ _=>rfl))) (zAL (i:=8) zq1d.nd rfl zqax (.inl rfl)) (zAH (zAm PassesOwn.never rfl (zCT zq3k B.range (zAB (qv 8 rfl zq6i) zAC)) (zAL (i:=9) zq1d.nd rfl zqaw (.inl rfl)) (zAH (zA8 (zEY opLe opLe (qv 2 rfl zqcu) (zAO zA7 (zAU (K:=K) rfl (qv 0 rfl zq3j) (qv 8 rfl zq6i) (λ_ _=>rfl)) (zAU (K:=K) rfl (qv 0 rfl zq3j) (qv 9 rfl zq6h) (λ_ _=>rfl))) (qv 3 rfl zqbv)) (zAH (zC5 hr (qv 7 rfl zq6g) (qv 9 rfl zq6h) zEB)) zAr)))))
  (zAH (zBQ (zCB (K:=K) rfl PySem.F.plainAttrs_list PySem.F.slot_list_append PySem.F.type_list_append zB8 (qv 5 rfl zq2v) (qv 7 rfl zq6g)))))))
  (zAE (zA8 (zHo (zIC hr) zAD (zAU (K:=K) rfl (qv 5 rfl zq2v) (qv 1 rfl zq3z) (λ_ _=>rfl))) (zAH (zAR zCU)) zAr)
  (zAE (zAJ (i:=10) zq1d.nd rfl zqct (.inl rfl) (zAf (zAB zAD zAC)))
  (zAY (zAm PassesOwn.never rfl (zJo zq3k B.range (zAB (zAO zA7 (qv 1 rfl zq3z) zAD) (zAB zAD (zAB (zC0 zCz zAD) zAC)))) (zAL (i:=11) zq1d.nd rfl zqbt (.inl rfl)) (zAE (zGN ["there","cut"] [none,some 10] (i:=12) rfl zq1d.nd rfl zqbu (.inl rfl) (zGn (zAU (K:=K) rfl (qv 5 rfl zq2v) (qv 11 rfl zqbx) (λ_ _=>rfl))) (λ_ _ _ _ _ _=>(zAL (i:=0) (show (["there","cut"]:List Str).Nodup by decide +kernel) rfl (by first | exact Or.inl rfl | exact Or.inr rfl) (by first | exact .inl rfl | exact .inr rfl))) (λ_ _ _ _ _ _=>zBn (zAX opGt (qv 0 rfl (by first | exact Or.inl rfl | exact Or.inr (Or.inl rfl) | exact Or.inr (Or.inr rfl))) (zAU (K:=K) rfl (qv 1 rfl (by first | exact Or.inl rfl | exact Or.inr (Or.inl rfl) | exact Or.inr (Or.inr rfl))) (zC0 zCz zAD) (λ_ _=>rfl)))) (λ_ _ _ _ _ _=>(qv 0 rfl (by first | exact Or.inl rfl | exact Or.inr (Or.inl rfl) | exact Or.inr (Or.inr rfl)))))
  (zAH (zBQ (zCB (K:=K) rfl PySem.F.plainAttrs_list PySem.F.slot_list_append PySem.F.type_list_append zB8 (qv 10 rfl zq7h) (zAa (kMin (K:=K) rfl rfl) zqcw B.min zAv (zAB (zFJ ["there","low","ahead","cut","high"] [none,some 2,some 0,some 10,some 3] rfl (zAu (K:=K) rfl (qv 12 rfl zqby)) (λ_ _ _ _ _ _=>(zAL (i:=0) (show (["there","low","ahead","cut","high"]:List Str).Nodup by decide +kernel) rfl (by first | exact Or.inl rfl | exact Or.inr rfl) (by first | exact .inl rfl | exact .inr rfl))) (λ_ _ _ _ _ _=>zBn (zEY opLe opLe (qv 1 rfl (by first | exact Or.inl rfl | exact Or.inr (Or.inl rfl) | exact Or.inr (Or.inr rfl))) (zAO zA7 (zAU (K:=K) rfl (qv 2 rfl (by first | exact Or.inl rfl | exact Or.inr (Or.inl rfl) | exact Or.inr (Or.inr rfl))) (qv 0 rfl (by first | exact Or.inl rfl | exact Or.inr (Or.inl rfl) | exact Or.inr (Or.inr rfl))) (λ_ _=>rfl)) (zAU (K:=K) rfl (qv 2 rfl (by first | exact Or.inl rfl | exact Or.inr (Or.inl rfl) | exact Or.inr (Or.inr rfl))) (zAU (K:=K) rfl (qv 3 rfl (by first | exact Or.inl rfl | exact Or.inr (Or.inl rfl) | exact Or.inr (Or.inr rfl))) (zC0 zCz zAD) (λ_ _=>rfl)) (λ_ _=>rfl))) (qv 4 rfl (by first | exact Or.inl rfl | exact Or.inr (Or.inl rfl) | exact Or.inr (Or.inr rfl))))) (λ_ _ _ _ _ _=>(qv 0 rfl (by first | exact Or.inl rfl | exact Or.inr (Or.inl rfl) | exact Or.inr (Or.inr rfl))))) zAC)))))))
  (zAH (zAR (zBz (K:=K) rfl (qv 10 rfl zq7h) (zBT zAD) zEC)))))))))⟩
open M25 M14 M18 M49 M20 M3
def rch (ns:List Int)(lo hi:Int)(p t:Nat):Option V:=if t<=ns.length/\0<M14.cnt ns lo hi p t then some (.bl true) else none
theorem rch_some {ns:List Int}{lo hi:Int}{p t:Nat}{v:V}:rch ns lo hi p t=some v↔v=.bl true/\t<=ns.length/\0<M14.cnt ns lo hi p t:=by
 unfold rch
 split
 ·rename_i h;simp[h,eq_comm]
 ·rename_i h
  constructor
  ·intro z;cases z
  ·rintro⟨_,z⟩;exact absurd z h
def Lvs (ns:List Int)(lo hi:Int)(H H':Hp)(as:List Addr):Prop:=as.Nodup/\∀ (j:Nat) (b:Addr),as[j]?=some b->H b=none/\∃ kvs,Rd H' b (.dK kvs)/\DF ns.length kvs (rch ns lo hi j)
theorem zL6 {H H':Hp}{S:List Addr}{a:Addr}{u:HO}(k:Kp S H H')(h:a∉S)(r:Rd H a u):Rd H' a u:=by
 rcases r with r | ⟨o,r⟩
 ·exact .inl (k _ _ h r)
 ·exact .inr ⟨o,k _ _ h r⟩
theorem zEz {H:Hp}{a:Addr}{u:HO}(r:Rd H a u):∃ o,H a=some o:=by
 rcases r with r | ⟨o,r⟩
 ·exact⟨_,r⟩
 ·exact⟨_,r⟩
theorem Lvs.kp {ns:List Int}{lo hi:Int}{H H' H2:Hp}{as:List Addr}{S:List Addr}(h:Lvs ns lo hi H H' as)(k:Kp S H' H2)(hS:∀ a∈as,a∉S):Lvs ns lo hi H H2 as :=
 ⟨h.1,λj b hb=>let ⟨h1,kvs,h2,h3⟩:=h.2 j b hb;⟨h1,kvs,zL6 k (hS b (List.mem_of_getElem? hb)) h2,h3⟩⟩
theorem Lvs.same {ns:List Int}{lo hi:Int}{H H' H2:Hp}{as:List Addr}(h:Lvs ns lo hi H H' as)(k:Same H' H2):Lvs ns lo hi H H2 as:=h.kp (S:=[]) k.kp (by simp)
theorem Lvs.kp1 {ns:List Int}{lo hi:Int}{H H' H2:Hp}{as:List Addr}{x:Addr}(h:Lvs ns lo hi H H' as)(k:Kp [x] H' H2)(hx:x∉as):Lvs ns lo hi H H2 as:=h.kp k λy hy z=>hx ((List.mem_singleton.mp z)▸hy)
theorem Lvs.frz {ns:List Int}{lo hi:Int}{H H' H2:Hp}{as:List Addr}{j:Nat}{b:Addr}{kvs:List (Key×V)}{o:Obj}(h:Lvs ns lo hi H H' as)(hb:as[j]?=some b)(k:Kp [b] H' H2)(e:H2 b=some (.frz o (.dK kvs)))(d:DF ns.length kvs (rch ns lo hi j)):Lvs ns lo hi H H2 as:=by
 refine⟨h.1,λi c hc=>?_⟩
 obtain⟨h1,ks,h2,h3⟩:=h.2 i c hc
 by_cases z:c=b
 ·subst z
  have:i=j:=(List.getElem?_inj (List.getElem?_eq_some_iff.mp hc).1 h.1).mp (hc.trans hb.symm)
  subst this
  exact⟨h1,kvs,.inr ⟨o,e⟩,d⟩
 ·exact⟨h1,ks,zL6 k (by simpa using z) h2,h3⟩
theorem Lvs.snoc {ns:List Int}{lo hi:Int}{H H':Hp}{as:List Addr}{b:Addr}{kvs:List (Key×V)}(h:Lvs ns lo hi H H' as)(hb:b∉as)(hn:H b=none)(e:H' b=some (.dK kvs))(d:DF ns.length kvs (rch ns lo hi as.length)):Lvs ns lo hi H H' (as++[b]):=by
 refine⟨?_,λj c hc=>?_⟩
 ·rw[List.nodup_append]
  refine⟨h.1,by simp,λx hx y hy=>?_⟩
  have:y=b:=by simpa using hy
  subst this
  rintro rfl;exact hb hx
 ·rcases Nat.lt_or_ge j as.length with z | z
  ·rw[List.getElem?_append_left z] at hc
   exact h.2 j c hc
  ·rw[List.getElem?_append_right z] at hc
   cases hj:j-as.length with
   | zero =>
    rw[hj] at hc
    simp at hc
    subst hc
    have:j=as.length:=by omega
    subst this
    exact⟨hn,kvs,.inl e,d⟩
   | succ k=>rw[hj] at hc;simp at hc
def LP (ns:List Int)(lo hi:Int)(kvs:List (Key×V))(i u t:Nat):Prop:=∃ (j s:Nat) (v:V),kvs[j]?=some (.inl (s:Int),v)/\(j<i\/(j=i/\t<u))/\s<=ns.length/\ok ns lo hi t s=1
open Classical in
noncomputable def lp (ns:List Int) (lo hi:Int) (kvs:List (Key×V)) (i u t:Nat):Option V:=if LP ns lo hi kvs i u t then some (.bl true) else none
theorem zL7 {ns:List Int}{lo hi:Int}{kvs ks:List (Key×V)}{i u i' u':Nat}(d:DF ns.length ks (lp ns lo hi kvs i u))(h:∀ t,LP ns lo hi kvs i u t↔LP ns lo hi kvs i' u' t):DF ns.length ks (lp ns lo hi kvs i' u'):=d.congr λt=>by
 unfold lp
 by_cases z:LP ns lo hi kvs i u t
 ·rw[if_pos z,if_pos ((h t).mp z)]
 ·rw[if_neg z,if_neg λy=>z ((h t).mpr y)]
theorem zIQ {ns:List Int}{lo hi:Int}{kvs:List (Key×V)}{i t:Nat}:¬ LP ns lo hi kvs 0 0 t:=by
 rintro⟨j,s,v,_,h | ⟨_,h⟩,_⟩<;>omega
theorem zKQ {ns:List Int}{lo hi:Int}{kvs:List (Key×V)}{i s:Nat}{v:V}(hk:kvs[i]?=some (.inl (s:Int),v))(t:Nat):LP ns lo hi kvs i s t↔LP ns lo hi kvs (i+1) 0 t:=by
 constructor
 ·rintro⟨j,s',v',h1,h2 | ⟨rfl,h2⟩,h3⟩
  ·exact⟨j,s',v',h1,.inl (by omega),h3⟩
  ·exact⟨j,s',v',h1,.inl (by omega),h3⟩
 ·rintro⟨j,s',v',h1,h2 | ⟨rfl,h2⟩,h3,h4⟩
  ·refine⟨j,s',v',h1,?_,h3,h4⟩
   by_cases z:j=i
   ·subst z
    rw[hk] at h1
    injection h1 with h1
    injection h1 with h1 _
    injection h1 with h1
    have:=(zq17.mp h4).1
    exact .inr ⟨rfl,by omega⟩
   ·exact .inl (by omega)
  ·omega
theorem zKR {ns:List Int}{lo hi:Int}{kvs:List (Key×V)}{i s u:Nat}{v:V}(hk:kvs[i]?=some (.inl (s:Int),v))(hn:¬ ok ns lo hi u s=1)(t:Nat):LP ns lo hi kvs i u t↔LP ns lo hi kvs i (u+1) t:=by
 constructor
 ·rintro⟨j,s',v',h1,h2 | ⟨rfl,h2⟩,h3⟩
  ·exact⟨j,s',v',h1,.inl h2,h3⟩
  ·exact⟨j,s',v',h1,.inr ⟨rfl,by omega⟩,h3⟩
 ·rintro⟨j,s',v',h1,h2 | ⟨rfl,h2⟩,h3,h4⟩
  ·exact⟨j,s',v',h1,.inl h2,h3,h4⟩
  ·refine⟨j,s',v',h1,.inr ⟨rfl,?_⟩,h3,h4⟩
   by_cases z:t=u
   ·subst z
    rw[hk] at h1
    injection h1 with h1
    injection h1 with h1 _
    injection h1 with h1
    have:s=s':=by omega
    subst this
    exact absurd h4 hn
   ·omega
theorem zL8 {ns:List Int}{lo hi:Int}{kvs ks:List (Key×V)}{i s u:Nat}{v:V}(d:DF ns.length ks (lp ns lo hi kvs i u))(hk:kvs[i]?=some (.inl (s:Int),v))(hs:s<=ns.length)(hu:u<=ns.length)(ho:ok ns lo hi u s=1):DF ns.length (putK ks (.inl (u:Int)) (.bl true)) (lp ns lo hi kvs i (u+1)):=(d.put hu (.bl true)).congr λt=>by
 unfold lp
 by_cases z:t=u
 ·subst z
  rw[if_pos rfl,if_pos ⟨i,s,v,hk,.inr ⟨rfl,by omega⟩,hs,ho⟩]
 ·rw[if_neg z]
  have e:LP ns lo hi kvs i u t↔LP ns lo hi kvs i (u+1) t:=by
   constructor
   ·rintro⟨j,s',v',h1,h2 | ⟨rfl,h2⟩,h3⟩
    ·exact⟨j,s',v',h1,.inl h2,h3⟩
    ·exact⟨j,s',v',h1,.inr ⟨rfl,by omega⟩,h3⟩
   ·rintro⟨j,s',v',h1,h2 | ⟨rfl,h2⟩,h3⟩
    ·exact⟨j,s',v',h1,.inl h2,h3⟩
    ·exact⟨j,s',v',h1,.inr ⟨rfl,by omega⟩,h3⟩
  by_cases y:LP ns lo hi kvs i u t
  ·rw[if_pos y,if_pos (e.mp y)]
  ·rw[if_neg y,if_neg λw=>y (e.mpr w)]
theorem zL9 {ns:List Int}{lo hi:Int}{kvs ks:List (Key×V)}{p:Nat}(dk:DF ns.length kvs (rch ns lo hi p))(d:DF ns.length ks (lp ns lo hi kvs kvs.length 0)):DF ns.length ks (rch ns lo hi (p+1)):=d.congr λt=>by
 have e:LP ns lo hi kvs kvs.length 0 t↔t<=ns.length/\0<M14.cnt ns lo hi (p+1) t:=by
  rw[zBe]
  constructor
  ·rintro⟨j,s,v,h1,_,h3,h4⟩
   obtain⟨t',h5,h6,h7⟩:=dk.at h1
   injection h5 with h5
   have:t'=s:=by omega
   subst this
   have h8:=rch_some.mp h6
   have:=(zq17.mp h4).1
   exact⟨by omega,t',by omega,h4,h8.2.2⟩
  ·rintro⟨h1,e,h2,h3,h4⟩
   have h5:(Sum.inl (e:Int),.bl true)∈kvs:=(dk.mem _ _).mpr ⟨e,rfl,rch_some.mpr ⟨rfl,by omega,h4⟩⟩
   obtain⟨j,hj⟩:=List.getElem?_of_mem h5
   exact⟨j,e,_,hj,.inl (List.getElem?_eq_some_iff.mp hj).1,by omega,h3⟩
 unfold lp rch
 by_cases y:LP ns lo hi kvs kvs.length 0 t
 ·rw[if_pos y,if_pos (e.mp y)]
 ·rw[if_neg y,if_neg λw=>y (e.mpr w)]
def zq4n:Sp:=λvs H Q _=>∃ (a:Addr) (ns:List Int) (m:Nat) (lo hi:Int),vs=[.ref a,.int m,.int lo,.int hi]/\H a=some (.lst ((pre ns (ns.length+1)).map V.int))/\1<=ns.length/\ns.length<=30/\1<=m/\m<=ns.length /\
 (∀ H',¬ 0<M14.cnt ns lo hi m 0->Same H H'->Q .non H')/\∀ (p:Addr) (cs:List Nat) (H':Hp),zCE ns lo hi (m-1) 0 cs->H p=none->Same H H'->H' p=some (.lst ((zs cs).map V.int))->Q (.ref p) H'
theorem zqei (B:Bl mg)(F:Fun K "_law_first" "_law_first" zq3 f fd):FnOk P w K mg base CX0 1 f fd ["ahead","many","low","high"] zq4n:=by
 refine F.okq zq1d (λvs H Q E h=>?_) (λcdv A outer s H vs Q E hr h=>?_)
 ·obtain⟨a,ns,m,lo,hi,rfl,_⟩:=h;rfl
 obtain⟨a,ns,m,lo,hi,rfl,ha,hn1,hle,m1,mn,qN,q⟩:=h
 refine⟨zqf0 B  hr,?_⟩
 have hpl:(pre ns (ns.length+1)).length=ns.length+1:=by simp[pre]
 have df0:DF ns.length [(.inl (ns.length:Int),.bl true)] (rch ns lo hi 0):=(DF.one (t:=ns.length) (Nat.le_refl _) (.bl true)).congr λt=>by
  unfold rch
  by_cases z:t=ns.length
  ·subst z
   rw[if_pos rfl,if_pos ⟨Nat.le_refl _,(cnt0 _).mpr rfl⟩]
  ·rw[if_neg z,if_neg λy=>z ((cnt0 t).mp y.2)]
 refine zA6 ha ?_
 have hN:(((pre ns (ns.length+1)).length:Int)-1)=(ns.length:Int):=by omega
 intro p0 H1 hp0 s1 e1
 refine zGo e1 λH2 k2 e2=>?_
 rw[hN] at e2
 have s2:Same H H2:=s1.new k2 hp0
 refine zAc (by show 1<=sizeLine;decide) λgo H3 hgo s3 e3=>?_
 have hgo0:H go=none:=s2.free hgo
 have ngp:go≠p0:=(zAK e2 hgo).symm
 refine⟨λσ H'=>∃ (as:List Addr) (o6 o7 o8 o9 o10 o11 o12:Option V),H' go=some (.lst (as.map V.ref))/\as.length=m+1/\Lvs ns lo hi H H' as/\go∉as/\Same H H'/\σ=[some (.ref a),some (.int m),some (.int lo),some (.int hi),some (.int (((pre ns (ns.length+1)).length:Int)-1)),some (.ref go),o6,o7,o8,o9,o10,o11,o12],?_,?_⟩
 ·refine⟨⟨by omega,by omega⟩,zAl (λi σ H'=>∃ (as:List Addr) (o6 o7 o8 o9 o10 o11 o12:Option V),H' go=some (.lst (as.map V.ref))/\as.length=i+1/\Lvs ns lo hi H H' as/\go∉as/\Same H H'/\σ=[some (.ref a),some (.int m),some (.int lo),some (.int hi),some (.int (((pre ns (ns.length+1)).length:Int)-1)),some (.ref go),o6,o7,o8,o9,o10,o11,o12]) ?_ ?_ ?_⟩
  ·refine⟨[p0],_,_,_,_,_,_,_,e3,rfl,⟨by simp,λj b hb=>?_⟩,by simpa using ngp,s2.trans s3,rfl⟩
   cases j with
   | zero=>simp at hb;subst hb;exact⟨hp0,_,.inl (s3 _ _ e2),df0⟩
   | succ j=>simp at hb
  ·rintro i σ H4 hi' ⟨as,o6,o7,o8,o9,o10,o11,o12,e4,hal,lv4,hga,s4,rfl⟩
   refine zEF λle H5 hle5 s5 e5=>?_
   have hle0:H le=none:=s4.free hle5
   obtain⟨as',b,rfl⟩:∃ as' b,as=as'++[b]:=⟨as.dropLast,as.getLast (by intro z;rw[z] at hal;simp at hal),(List.dropLast_concat_getLast _).symm⟩
   have hbi:(as'++[b])[i]?=some b:=by
    have:as'.length=i:=by simp at hal;omega
    rw[List.getElem?_append_right (by omega),this];simp
   have lv5:=lv4.same s5
   have e45:=s5 _ _ e4
   obtain⟨hb0,kvs,rb,db⟩:=lv5.2 i b hbi
   have nla:le∉as'++[b]:=λz=>by
    obtain⟨j,hj⟩:=List.getElem?_of_mem z
    obtain⟨_,ks,r,_⟩:=lv4.2 j le hj
    obtain⟨_,o⟩:=zEz r
    rw[hle5] at o;cases o
   have nlg:le≠go:=(zAK e4 hle5).symm
   have ngb:go≠b:=λz=>hga (by simp[z])
   have nlb:le≠b:=λz=>nla (by simp[z])
   refine⟨λσ H'=>∃ (ks:List (Key×V)) (o8 o9 o10 o11 o12:Option V),H' le=some (.dK ks)/\DF ns.length ks (rch ns lo hi (i+1))/\H' go=some (.lst ((as'++[b]).map V.ref))/\Lvs ns lo hi H H' (as'++[b])/\Same H H'/\σ=[some (.ref a),some (.int m),some (.int lo),some (.int hi),some (.int (((pre ns (ns.length+1)).length:Int)-1)),some (.ref go),some (.int (0+i)),some (.ref le),o8,o9,o10,o11,o12],?_,?_⟩
   ·have e45':=e45
    rw[List.map_append] at e45'
    refine i_ix (.inl (SqL.of e45')) (zCI _ _) ?_
    refine zJ9 rb λob H6 k6 e6=>?_
    refine zKA (kvs:=kvs) (λj σ H'=>∃ (ks:List (Key×V)) (o8 o9 o10 o11 o12:Option V),H' le=some (.dK ks)/\DF ns.length ks (lp ns lo hi kvs j 0)/\H' go=some (.lst ((as'++[b]).map V.ref))/\H' b=some (.frz ob (.dK kvs))/\Lvs ns lo hi H H' (as'++[b])/\Same H H'/\σ=[some (.ref a),some (.int m),some (.int lo),some (.int hi),some (.int (((pre ns (ns.length+1)).length:Int)-1)),some (.ref go),some (.int (0+i)),some (.ref le),o8,o9,o10,o11,o12]) ?_ ?_ ?_ ?_
    ·refine⟨[],_,_,_,_,_,k6.one nlb e5,(DF.nil _).congr λt=>?_,k6.one ngb e45,e6,lv5.frz hbi k6 e6 db,(s4.trans s5).new k6 hb0,rfl⟩
     unfold lp
     rw[if_neg (zIQ (i:=0))]
    ·rintro j σ H' _ ⟨_,_,_,_,_,_,_,_,_,e',_⟩
     exact e'
    ·rintro j kv σ H7 hkv ⟨ks,o8,o9,o10,o11,o12,e7,d7,g7,b7,lv7,s7,rfl⟩
     obtain⟨k1,v1⟩:=kv
     obtain⟨t,ht,hr7,htn⟩:=db.at hkv
     have ht:k1=.inl (t:Int):=ht
     subst ht
     refine⟨⟨by show -(2 ^ 62)<=((t:Int));omega,by show ((t:Int))<2 ^ 62;omega⟩,?_⟩
     refine zAl (λu σ H'=>∃ (ks:List (Key×V)) (o9 o10 o11 o12:Option V),H' le=some (.dK ks)/\DF ns.length ks (lp ns lo hi kvs j u)/\H' go=some (.lst ((as'++[b]).map V.ref))/\H' b=some (.frz ob (.dK kvs))/\Lvs ns lo hi H H' (as'++[b])/\Same H H'/\σ=[some (.ref a),some (.int m),some (.int lo),some (.int hi),some (.int (((pre ns (ns.length+1)).length:Int)-1)),some (.ref go),some (.int (0+i)),some (.ref le),some (.int t),o9,o10,o11,o12]) ?_ ?_ ?_
     ·exact⟨ks,_,_,_,_,e7,d7,g7,b7,lv7,s7,rfl⟩
     ·rintro u σ H8 hu ⟨ks,o9,o10,o11,o12,e8,d8,g8,b8,lv8,s8,rfl⟩
      have hut0:((t:Int)).toNat=t:=by omega
      have hut:u<t:=by omega
      have ha8:=s8 _ _ ha
      have skip:¬ ok ns lo hi u t=1->DF ns.length ks (lp ns lo hi kvs j (u+1)):=λhn=>zL7 d8 (zKR hkv hn)
      refine zCG t ha8 rfl (by omega) (zCG u ha8 (by omega) (by omega) ?_)
      refine dec2 (λc1=>dec2 (λc2=>?_) (λc2=>?_)) (λc1=>bF ?_)
      ·refine zEG e8 (Nat.lt_of_le_of_lt d8.len (by rw[sizeLine_eq];omega)) λH9 k9 e9=>?_
       have eu:(0+(u:Int))=(u:Int):=by omega
       rw[eu] at e9
       exact⟨_,_,_,_,_,e9,zL8 d8 hkv htn (by omega) (zq17.mpr ⟨hut,c1,c2⟩),k9.one (Ne.symm nlg) g8,k9.one (Ne.symm nlb) b8,lv8.kp1 k9 nla,s8.new k9 hle0,rfl⟩
      ·exact⟨ks,_,_,_,_,e8,skip (λz=>c2 (zq17.mp z).2.2),g8,b8,lv8,s8,rfl⟩
      ·exact⟨ks,_,_,_,_,e8,skip (λz=>c1 (zq17.mp z).2.1),g8,b8,lv8,s8,rfl⟩
     ·rintro σ H8 ⟨ks,o9,o10,o11,o12,e8,d8,g8,b8,lv8,s8,rfl⟩
      have et:((t:Int)).toNat=t:=by omega
      rw[et] at d8
      exact⟨ks,_,_,_,_,_,e8,zL7 d8 (zKQ hkv),g8,b8,lv8,s8,rfl⟩
    ·rintro σ H8 ⟨ks,o8,o9,o10,o11,o12,e8,d8,g8,b8,lv8,s8,rfl⟩
     exact⟨ks,_,_,_,_,_,e8,zL9 db d8,g8,lv8,s8,rfl⟩
   ·rintro σ H8 ⟨ks,o8,o9,o10,o11,o12,e8,d8,g8,lv8,s8,rfl⟩
    refine⟨zB9 g8,zGF g8 (zBo (by rw[List.length_map,hal];omega)) λH9 k9 e9=>?_⟩
    have lv9:=lv8.kp1 k9 hga
    refine⟨as'++[b]++[le],_,_,_,_,_,_,_,by rw[e9,List.map_append (l₁:=as'++[b])];rfl,by simp at hal ⊢;omega,lv9.snoc nla hle0 (k9.one nlg e8) (by rw[hal];exact d8),?_,s8.new k9 hgo0,rfl⟩
    simp only[List.mem_append,not_or,List.mem_singleton] at hga ⊢
    exact⟨hga,Ne.symm nlg⟩
  ·rintro σ H8 ⟨as,o6,o7,o8,o9,o10,o11,o12,e4,hal,lv4,hga,s4,rfl⟩
   exact⟨as,_,_,_,_,_,_,_,e4,by omega,lv4,hga,s4,rfl⟩
 ·rintro σ H4 ⟨as,o6,o7,o8,o9,o10,o11,o12,e4,hal,lv4,hga,s4,rfl⟩
  have at_:∀ l,l<=m->∃ b kvs,(as.map V.ref)[l]?=some (.ref b)/\as[l]?=some b/\H b=none/\DF ns.length kvs (rch ns lo hi l):=λl hl=>by
   have hx:as[l]?=some (as[l]'(by omega)):=List.getElem?_eq_getElem (by omega)
   obtain⟨h1,kvs,_,h3⟩:=lv4.2 l _ hx
   exact⟨_,kvs,zBH hx,hx,h1,h3⟩
  obtain⟨b,_,hb1,hb2,_,_⟩:=at_ m (Nat.le_refl _)
  obtain⟨_,kvs,rb,db⟩:=lv4.2 m b hb2
  refine zBD m (v:=.ref b) e4 rfl hb1 ?_
  refine zIB rb ?_
  have hv:=db.val 0
  by_cases hp:0<M14.cnt ns lo hi m 0
  ·have hr:rch ns lo hi m 0=some (.bl true):=rch_some.mpr ⟨rfl,by omega,hp⟩
   rw[hr] at hv
   refine bNo (by rw[show ((0:Int))=((0:Nat):Int) from rfl,hv];rfl) ?_
   refine zAc (by show 1<=sizeLine;decide) λcu H5 hcu s5 e5=>?_
   have hcu0:H cu=none:=s4.free hcu
   have ncg:cu≠go:=(zAK e4 hcu).symm
   have nca:cu∉as:=λz=>by
    obtain⟨j,hj⟩:=List.getElem?_of_mem z
    obtain⟨_,ks,r,_⟩:=lv4.2 j cu hj
    obtain⟨_,o⟩:=zEz r
    rw[hcu] at o;cases o
   refine⟨λσ H'=>∃ (pr:List Nat) (o6 o7 o8 o9 o11 o12:Option V),H' cu=some (.lst ((zs (0::pr)).map V.int))/\zCE ns lo hi (m-1) 0 pr/\Same H H'/\σ=[some (.ref a),some (.int m),some (.int lo),some (.int hi),some (.int (((pre ns (ns.length+1)).length:Int)-1)),some (.ref go),o6,o7,o8,o9,some (.ref cu),o11,o12],?_,?_⟩
   ·refine⟨rfl,⟨by omega,by omega,by omega,by omega⟩,zCy (λj σ H'=>∃ (pr:List Nat) (cur:Nat) (o6 o7 o8 o9 o11 o12:Option V),H' cu=some (.lst ((zs (0::pr)).map V.int))/\pr.length=j/\atI ((zs (0::pr)).map V.int) (-1)=some (.int cur)/\cur<=ns.length/\0<M14.cnt ns lo hi (m-j) cur/\(∀ cs,zCE ns lo hi (m-1-j) cur cs->zCE ns lo hi (m-1) 0 (pr++cs))/\H' go=some (.lst (as.map V.ref))/\Lvs ns lo hi H H' as/\Same H H'/\σ=[some (.ref a),some (.int m),some (.int lo),some (.int hi),some (.int (((pre ns (ns.length+1)).length:Int)-1)),some (.ref go),o6,o7,o8,o9,some (.ref cu),o11,o12]) ?_ ?_ ?_⟩
    ·exact⟨[],0,_,_,_,_,_,_,e5,rfl,rfl,by omega,hp,λcs h=>h,s5 _ _ e4,lv4.same s5,s4.trans s5,rfl⟩
    ·rintro j σ H6 hj ⟨pr,cur,o6,o7,o8,o9,o11,o12,e6,hpr,hat,hcn,hcp,hfi,g6,lv6,s6,rfl⟩
     obtain⟨l,hl⟩:∃ l,m-1-j=l+1:=⟨m-2-j,by omega⟩
     rw[show m-j=l+2 by omega] at hcp
     rw[hl] at hfi
     obtain⟨b',_,hb1',hb2',hb0',_⟩:=at_ (l+1) (by omega)
     obtain⟨_,kvs',rb',db'⟩:=lv6.2 (l+1) b' hb2'
     refine zBD (l+1) (v:=.ref b') g6 (by omega) hb1' ?_
     refine zJ9 rb' λob H7 k7 e7=>?_
     have ncb:cu≠b':=λz=>nca (z▸List.mem_of_getElem? hb2')
     have ngb:go≠b':=λz=>hga (z▸List.mem_of_getElem? hb2')
     have s7:Same H H7:=s6.new k7 hb0'
     have c7:=k7.one ncb e6
     refine zH8 (kvs:=kvs') (λk D σ H' ys=>∃ so:List Nat,ys=(zs so).map V.int/\so.length<=k/\(∀ x∈so,cur<x/\x<=ns.length/\0<M14.cnt ns lo hi (l+1) x)/\(∀ i x v,i<k->kvs'[i]?=some (.inl ((x:Nat):Int),v)->cur<x->x∈so)/\Same H7 H'/\∃ o,σ=[o,some (.ref cu)]) ?_ ?_ ?_ ?_
     ·intro D H' hD s' e'
      exact⟨[],rfl,by simp,by simp,λi x v hi=>absurd hi (Nat.not_lt_zero _),s',_,rfl⟩
     ·rintro k D σ H' ys hD ⟨_,_,_,_,_,s',_⟩
      exact s' _ _ e7
     ·rintro k kv D σ H' ys hkv hD ⟨so,rfl,hsl,hs1,hs2,s',o,rfl⟩ eD
      obtain⟨k1,v1⟩:=kv
      obtain⟨t,ht,hr7,htn⟩:=db'.at hkv
      have ht:k1=.inl (t:Int):=ht
      subst ht
      have hkl:k<kvs'.length:=(List.getElem?_eq_some_iff.mp hkv).1
      have hkn:=db'.len
      refine i_ix (.inl (SqL.of (s' _ _ c7))) hat ?_
      refine dec2 (λc=>?_) (λc=>?_)
      ·have c':(cur:Int)<(t:Int):=c
       refine⟨eD,zBo (by simp[zs];omega),λH8 k8 e8=>⟨so++[t],by simp[zs];rfl,by simp;omega,λx hx=>?_,λi x v hi hx hc=>?_,s'.new k8 hD,_,rfl⟩⟩
       ·rcases List.mem_append.mp hx with hx | hx
        ·exact hs1 x hx
        ·have:x=t:=by simpa using hx
         subst this
         exact⟨by omega,htn,(rch_some.mp hr7).2.2⟩
       ·by_cases z:i=k
        ·subst z
         rw[hkv] at hx
         injection hx with hx
         injection hx with hx _
         injection hx with hx
         have:x=t:=by omega
         simp[this]
        ·exact List.mem_append_left _ (hs2 i x v (by omega) hx hc)
      ·have c':¬ (cur:Int)<(t:Int):=c
       refine⟨eD,so,rfl,by omega,hs1,λi x v hi hx hc=>?_,s',_,rfl⟩
       by_cases z:i=k
       ·subst z
        rw[hkv] at hx
        injection hx with hx
        injection hx with hx _
        injection hx with hx
        omega
       ·exact hs2 i x v (by omega) hx hc
     rintro so1 σ H8 ys hso1 ⟨so,rfl,hsl,hs1,hs2,s8,_⟩ e8
     have hkn:=db'.len
     have c8:=s8 _ _ c7
     refine⟨zB9 c8,?_⟩
     have hfull:∀ x:Nat,x∈so↔cur<x/\x<=ns.length/\0<M14.cnt ns lo hi (l+1) x:=λx=>by
      refine⟨hs1 x,λ⟨h1,h2,h3⟩=>?_⟩
      have h5:((.inl (x:Int),.bl true):Key×V)∈kvs':=(db'.mem _ _).mpr ⟨x,rfl,rch_some.mpr ⟨rfl,h2,h3⟩⟩
      obtain⟨i,hi⟩:=List.getElem?_of_mem h5
      exact hs2 i x _ (List.getElem?_eq_some_iff.mp hi).1 hi h1
     refine⟨⟨_,SqL.of e8⟩,zA3 ((zs so).map V.int) (λk D σ H' ys=>∃ re:List Nat,ys=(zs re).map V.int/\re.length<=k/\(∀ x,x∈re↔(∃ i,i<k/\so[i]?=some x)/\ok ns lo hi cur x=1)/\Same H8 H'/\∃ o,σ=[o,some (.int lo),some (.ref a),some (.ref cu),some (.int hi)]) ?_ ?_ ?_ ?_⟩
     ·intro D H' hD s' e'
      exact⟨[],rfl,by simp,λx=>by simp,s',_,rfl⟩
     ·rintro k D σ H' ys hD ⟨_,_,_,_,s',_⟩
      exact SqL.of (s' _ _ e8)
     ·rintro k x D σ H' ys hx hD ⟨re,rfl,hrl,hre,s',o,rfl⟩ eD
      obtain⟨t,rfl,ht⟩:=zM7 hx
      obtain⟨t1,t2,t3⟩:=hs1 t (List.mem_of_getElem? ht)
      have hkl:k<so.length:=(List.getElem?_eq_some_iff.mp ht).1
      have sx:=s8.trans s'
      have ha9:=sx _ _ (s7 _ _ ha)
      have skip:¬ ok ns lo hi cur t=1->∀ x,x∈re↔(∃ i,i<k+1/\so[i]?=some x)/\ok ns lo hi cur x=1:=λhn x=>(hre x).trans ⟨λ⟨⟨i,h1,h2⟩,h3⟩=>⟨⟨i,by omega,h2⟩,h3⟩,λ⟨⟨i,h1,h2⟩,h3⟩=>⟨⟨i,by
       by_cases z:i=k
       ·subst z
        rw[ht] at h2
        cases h2
        exact absurd h3 hn
       ·omega,h2⟩,h3⟩⟩
      refine zCG t ha9 rfl (by omega) (i_ix (.inl (SqL.of (sx _ _ c7))) hat (zCG cur ha9 rfl (by omega) ?_))
      refine dec2 (λc1=>dec2 (λc2=>?_) (λc2=>?_)) (λc1=>bF ?_)
      ·have hok:ok ns lo hi cur t=1:=zq17.mpr ⟨t1,c1,c2⟩
       refine⟨eD,zBo (by simp[zs];omega),λH9 k9 e9=>⟨re++[t],by simp[zs],by simp;omega,λx=>?_,s'.new k9 hD,_,rfl⟩⟩
       rw[List.mem_append,hre x,List.mem_singleton]
       constructor
       ·rintro(⟨⟨i,h1,h2⟩,h3⟩ | rfl)
        ·exact⟨⟨i,by omega,h2⟩,h3⟩
        ·exact⟨⟨k,by omega,ht⟩,hok⟩
       ·rintro⟨⟨i,h1,h2⟩,h3⟩
        by_cases z:i=k
        ·subst z
         rw[ht] at h2
         cases h2
         exact .inr rfl
        ·exact .inl ⟨⟨i,by omega,h2⟩,h3⟩
      ·exact⟨eD,re,rfl,by omega,skip (λz=>c2 (zq17.mp z).2.2),s',_,rfl⟩
      ·exact⟨eD,re,rfl,by omega,skip (λz=>c1 (zq17.mp z).2.1),s',_,rfl⟩
     rintro re1 σ H9 ys hre1 ⟨re,rfl,hrl,hre,s9,_⟩ e9
     have hrf:∀ x:Nat,x∈re↔x<=ns.length/\0<M14.cnt ns lo hi (l+1) x/\ok ns lo hi cur x=1:=λx=>by
      rw[hre x]
      constructor
      ·rintro⟨⟨i,_,h1⟩,h2⟩
       obtain⟨h3,h4,h5⟩:=hs1 x (List.mem_of_getElem? h1)
       exact⟨h4,h5,h2⟩
      ·rintro⟨h1,h2,h3⟩
       obtain⟨i,hi⟩:=List.getElem?_of_mem ((hfull x).mpr ⟨(zq17.mp h3).1,h1,h2⟩)
       have:=(List.getElem?_eq_some_iff.mp hi).1
       exact⟨⟨i,by simp[zs];omega,hi⟩,h3⟩
     obtain⟨e0,h01,h02,h03⟩:=(zBe (l+1) cur).mp hcp
     have hne:zs re≠[]:=λz=>by
      have:=(hrf e0).mpr ⟨by omega,h03,h02⟩
      have z2:re=[]:=by simpa [zs] using z
      rw[z2] at this;cases this
     refine zGE (SqL.of e9) hne λN hN hmin=>?_
     obtain⟨e,he,rfl⟩:=List.mem_map.mp hN
     obtain⟨he1,he2,he3⟩:=(hrf e).mp he
     have c9:=s9 _ _ c8
     refine zBu c9 (by simp[zs,hpr];omega) λH10 k10 e10=>?_
     have lv9:=((lv6.frz hb2' k7 e7 db').same s8).same s9
     refine⟨pr++[e],e,_,_,_,_,_,_,by rw[e10];simp[zs],by simp[hpr],?_,he1,by rw[show m-(j+1)=l+1 by omega];exact he2,λcs hcs=>?_,k10.one (Ne.symm ncg) (s9 _ _ (s8 _ _ (k7.one ngb g6))),lv9.kp1 k10 nca,((s7.trans s8).trans s9).new k10 hcu0,rfl⟩
     ·rw[show (zs (0::(pr++[e]))).map V.int=(zs (0::pr)).map V.int++[.int (e:Int)] by simp[zs]]
      exact zCI _ _
     ·rw[show m-1-(j+1)=l by omega] at hcs
      have:=hfi (e::cs) (zFY he3 (λd hd1 hd2=>?_) hcs)
      ·rw[List.append_assoc];exact this
      ·have hdn:d<=ns.length:=by
        obtain⟨ds,_,h5⟩:=(zB4 l d).mp hd2
        have:=zEr h5;omega
       have:=hmin (d:Int) (List.mem_map.mpr ⟨d,(hrf d).mpr ⟨hdn,hd2,hd1⟩,rfl⟩)
       omega
    ·rintro σ H6 ⟨pr,cur,o6,o7,o8,o9,o11,o12,e6,hpr,hat,hcn,hcp,hfi,g6,lv6,s6,rfl⟩
     have hj:((m:Int)-1-0).toNat=m-1:=by omega
     rw[hj] at hfi hcp
     rw[show m-(m-1)=1 by omega] at hcp
     rw[show m-1-(m-1)=0 by omega] at hfi
     have:=hfi [] (zG1 hcp)
     rw[List.append_nil] at this
     exact⟨pr,_,_,_,_,_,_,e6,this,s6,rfl⟩
   ·rintro σ H6 ⟨pr,o6,o7,o8,o9,o11,o12,e6,hfi,s6,rfl⟩
    refine i_sl (SqL.of e6) λsl H7 hsl s7 e7=>?_
    refine q sl pr H7 hfi (s6.free hsl) (s6.trans s7) ?_
    rw[e7]
    congr 2
    show cutV ((((0:Nat):Int)::zs pr).map V.int) (some 1) none=_
    rw[zBW,show (some 1:Option Int)=some ((1:Nat):Int) from rfl,HT.sIx_nat,Nat.min_eq_left (by simp),show HT.sIx (((0:Nat):Int)::zs pr).length (((0:Nat):Int)::zs pr).length none=(((0:Nat):Int)::zs pr).length from rfl,List.drop_one,List.tail_cons,List.take_of_length_le (by simp)]
  ·have hr:rch ns lo hi m 0=none:=by
    cases h:rch ns lo hi m 0 with
    | none=>rfl
    | some v=>exact absurd (rch_some.mp h).2.2 hp
   rw[hr] at hv
   refine bIs (by rw[show ((0:Int))=((0:Nat):Int) from rfl,hv];rfl) ?_
   exact qN H4 hp s4
abbrev zq1:Stmt:=top 42
theorem zq1g:FnScope ["row","many","ahead","lows","spreads","low","end","cuts","due","sums"] ["row","many"] (zAA zq1):=⟨rfl,rfl,rfl,by decide +kernel,rfl,by decide +kernel,by decide +kernel⟩
theorem zqay:Loc (zAA zq1) "ahead":=Or.inr (by kernel_rfl)
theorem zqbz:Loc (zAA zq1) "cuts":=Or.inl (by kernel_rfl)
theorem zqcx:Loc (zAA zq1) "due":=Or.inl (by kernel_rfl)
theorem zqcy:Loc (zAA zq1) "end":=Or.inl (by kernel_rfl)
theorem zqcz:Loc (zAA zq1) "low":=Or.inl (by kernel_rfl)
theorem zqc0:Loc (zAA zq1) "lows":=Or.inl (by kernel_rfl)
theorem zq9o:Loc (zAA zq1) "spreads":=Or.inr (by kernel_rfl)
theorem zqc1:Loc (zAA zq1) "sums":=Or.inl (by kernel_rfl)
theorem zq6j:Vis (zAA zq1) "ahead":=Or.inr (Or.inl (by kernel_rfl))
theorem zqc2:Vis (zAA zq1) "cuts":=Or.inl (by kernel_rfl)
theorem zq4o:Vis (zAA zq1) "due":=Or.inl (by kernel_rfl)
theorem zq7i:Vis (zAA zq1) "end":=Or.inl (by kernel_rfl)
theorem zq7j:Vis (zAA zq1) "low":=Or.inl (by kernel_rfl)
theorem zq76:Vis (zAA zq1) "lows":=Or.inl (by kernel_rfl)
theorem zq77:Vis (zAA zq1) "many":=Or.inr (Or.inl (by kernel_rfl))
theorem zq4p:Vis (zAA zq1) "row":=Or.inl (by kernel_rfl)
theorem zq57:Vis (zAA zq1) "spreads":=Or.inr (Or.inl (by kernel_rfl))
theorem zq78:Vis (zAA zq1) "sums":=Or.inl (by kernel_rfl)
theorem zq7w:(zAA zq1).names.lookup ("_law_ahead":Str)=some NameKind.globalImplicit:=by kernel_rfl
theorem zq67:(zAA zq1).names.lookup ("_law_least_end":Str)=some NameKind.globalImplicit:=by kernel_rfl
theorem zq8g:(zAA zq1).names.lookup ("_law_lows":Str)=some NameKind.globalImplicit:=by kernel_rfl
theorem zq8h:(zAA zq1).names.lookup ("_law_sums":Str)=some NameKind.globalImplicit:=by kernel_rfl
theorem zq8i:(zAA zq1).names.lookup ("_law_told":Str)=some NameKind.globalImplicit:=by kernel_rfl
theorem zq79:(zAA zq1).names.lookup ("least_spread":Str)=some NameKind.globalImplicit:=by kernel_rfl
theorem zqc3:(zAA zq1).names.lookup ("list":Str)=some NameKind.globalImplicit:=by kernel_rfl
theorem zqd0:(zAA zq1).names.lookup ("max":Str)=some NameKind.globalImplicit:=by kernel_rfl
theorem zq4q:(zAA zq1).names.lookup ("min":Str)=some NameKind.globalImplicit:=by kernel_rfl
def zqf1 {cdv:Value}{A:Around}{outer:List Env}{s:Shared}{H:Hp}{E:XK}(B:Bl mg)(zq3q:Def P w K mg base 1 "_law_ahead" ["row"] zq4m)(zq4r:Def P w K mg base 1 "_law_lows" ["ahead"] zq5j)(zq26:Def P w K mg base 1 "_law_least_end" ["ahead","many","low"] zq2t)(zq3r:Def P w K mg base 1 "_law_first" ["ahead","many","low","high"] zq4n)(zq4s:Def P w K mg base 1 "_law_sums" ["row","cut"] zq5f)(zq4t:Def P w K mg base 1 "_law_told" ["found","due"] zq5h)(zq2l:Def P w K mg base 6 "least_spread" ["row","many"] zq35)(hr:Room 6 (A.deeper (PyProof.Rows.envOfC "_law_right" (zAA zq1) s.heap.objs.size f cdv))) :
  { t:TS // QB (cxOf CX0 P w K mg base ["row","many","ahead","lows","spreads","low","end","cuts","due","sums"] "_law_right" (zAA zq1) f cdv A outer s H E).nox (zAF zq1) t } :=
 ⟨_,(zAE (zAJ (i:=2) zq1g.nd rfl zqay (.inl rfl) (zAN zq3q hr (by decide) zq7w (zAB (qv 0 rfl zq4p) zAC)))
  (zAE (zAJ (i:=3) zq1g.nd rfl zqc0 (.inl rfl) (zAN zq4r hr (by decide) zq8g (zAB (qv 2 rfl zq6j) zAC)))
  (zAE (zAJ (i:=4) zq1g.nd rfl zq9o (.inl rfl) (zAf zAC))
  (zAY (zAm PassesOwn.never rfl (zAu (K:=K) rfl (qv 3 rfl zq76)) (zAL (i:=5) zq1g.nd rfl zqcz (.inl rfl)) (zAE (zAJ (i:=6) zq1g.nd rfl zqcy (.inl rfl) (zAN zq26 hr (by decide) zq67 (zAB (qv 2 rfl zq6j) (zAB (qv 1 rfl zq77) (zAB (qv 5 rfl zq7j) zAC)))))
  (zAH (zA8 (zAX zGG (qv 6 rfl zq7i) zCU) (zAH (zBQ (zCB (K:=K) rfl PySem.F.plainAttrs_list PySem.F.slot_list_append PySem.F.type_list_append zB8 (qv 4 rfl zq57) (zAO zA7 (qv 6 rfl zq7i) (qv 5 rfl zq7j))))) zAr))))
  (zAE (zGN ["low","ahead","many","spreads"] [none,some 2,some 1,some 4] (i:=7) rfl zq1g.nd rfl zqbz (.inl rfl) (zAu (K:=K) rfl (qv 3 rfl zq76)) (λ_ _ _ _ _ _=>(zAL (i:=0) (show (["low","ahead","many","spreads"]:List Str).Nodup by decide +kernel) rfl (by first | exact Or.inl rfl | exact Or.inr rfl) (by first | exact .inl rfl | exact .inr rfl))) (λ_ _ _ _ _ _=>zC2) (λ_ _ _ _ _ _=>(zAN zq3r hr (by decide) rfl (zAB (qv 1 rfl (by first | exact Or.inl rfl | exact Or.inr (Or.inl rfl) | exact Or.inr (Or.inr rfl))) (zAB (qv 2 rfl (by first | exact Or.inl rfl | exact Or.inr (Or.inl rfl) | exact Or.inr (Or.inr rfl))) (zAB (qv 0 rfl (by first | exact Or.inl rfl | exact Or.inr (Or.inl rfl) | exact Or.inr (Or.inr rfl))) (zAB (zAO zAq (qv 0 rfl (by first | exact Or.inl rfl | exact Or.inr (Or.inl rfl) | exact Or.inr (Or.inr rfl))) (zAa (kMin (K:=K) rfl rfl) rfl B.min zAv (zAB (qv 3 rfl (by first | exact Or.inl rfl | exact Or.inr (Or.inl rfl) | exact Or.inr (Or.inr rfl))) zAC))) zAC)))))))
  (zAE (zAJ (i:=8) zq1g.nd rfl zqcx (.inl rfl) (zCp (zAB (zAa (kMin (K:=K) rfl rfl) zq4q B.min zAv (zAB (qv 4 rfl zq57) zAC)) (zAB (zAa (zLW hr rfl) zq4q B.min zAv (zAB (zFJ ["cut"] [none] rfl (zAu (K:=K) rfl (qv 7 rfl zqc2)) (λ_ _ _ _ _ _=>(zAL (i:=0) (show (["cut"]:List Str).Nodup by decide +kernel) rfl (by first | exact Or.inl rfl | exact Or.inr rfl) (by first | exact .inl rfl | exact .inr rfl))) (λ_ _ _ _ _ _=>zBn (zAX zGG (qv 0 rfl (by first | exact Or.inl rfl | exact Or.inr (Or.inl rfl) | exact Or.inr (Or.inr rfl))) zCU)) (λ_ _ _ _ _ _=>(qv 0 rfl (by first | exact Or.inl rfl | exact Or.inr (Or.inl rfl) | exact Or.inr (Or.inr rfl))))) zAC)) zAC))))
  (zAE (zAJ (i:=9) zq1g.nd rfl zqc1 (.inl rfl) (zAN zq4s hr (by decide) zq8h (zAB (qv 0 rfl zq4p) (zAB (zAU (K:=K) rfl (qv 8 rfl zq4o) zAD (λ_ _=>rfl)) zAC))))
  (zAH (zAR (zGP (K:=K) rfl (zGL (kEqG (K:=K) rfl hr) (zAO zA7 (zAa (kMax (K:=K) rfl rfl) zqd0 B.max zA0 (zAB (qv 9 rfl zq78) zAC)) (zAa (kMin (K:=K) rfl rfl) zq4q B.min zAv (zAB (qv 9 rfl zq78) zAC))) (zAU (K:=K) rfl (qv 8 rfl zq4o) zAD (λ_ _=>rfl))) (zGM (zAN zq4t hr (by decide) zq8i (zAB (zAN zq2l hr (by decide) zq79 (zAB (zLN (zMy (K:=K) rfl) zqc3 B.list zDv (zAB (qv 0 rfl zq4p) zAC)) (zAB (qv 1 rfl zq77) zAC))) (zAB (qv 8 rfl zq4o) zAC))))))))))))))⟩
open M25 M14 M18 M49 M20 M3 M32
def CutOf (ns:List Int)(m:Nat)(d low:Int)(D:Addr)(H:Hp)(v:V):Prop:=(v=.non/\¬ 0<M14.cnt ns low (low+d) m 0)\/∃ (p:Addr) (cs:List Nat),v=.ref p/\p≠D/\zCE ns low (low+d) (m-1) 0 cs/\H p=some (.lst ((zs cs).map V.int))
theorem CutOf.kp {ns:List Int}{m:Nat}{d low:Int}{D:Addr}{H H':Hp}{v:V}(h:CutOf ns m d low D H v)(s:Kp [D] H H'):CutOf ns m d low D H' v:=h.imp id λ⟨p,cs,a,n,b,c⟩=>⟨p,cs,a,n,b,s.one n c⟩
theorem zKS {ns:List Int}{lo:Int}{m:Nat}{o o':Option Int}(h:LE ns lo m o)(h':LE ns lo m o'):o=o':=by
 have key:∀ {o o':Option Int} {v:Int},LE ns lo m o->LE ns lo m o'->o=some v->∃ w,o'=some w/\w<=v:=λ{o o' v} h h' e =>
  (h'.2 v (h.1 v e)).mpr ((h.2 v (h.1 v e)).mp ⟨v,e,Int.le_refl _⟩)
 cases o with
 | none =>
  cases o' with
  | none=>rfl
  | some v=>obtain⟨w,z,_⟩:=key h' h rfl;cases z
 | some v =>
  obtain⟨w,z,h1⟩:=key h h' rfl
  subst z
  obtain⟨u,z,h2⟩:=key h' h rfl
  cases z
  rw[Int.le_antisymm h1 h2]
open Classical in
noncomputable def Eof (ns:List Int) (m:Nat) (low:Int):Option Int:=if h:∃ o,LE ns low m o then h.choose else none
theorem eof {ns:List Int}{m:Nat}{low:Int}{o:Option Int}(h:LE ns low m o):Eof ns m low=o:=by
 unfold Eof
 rw[dif_pos ⟨o,h⟩]
 exact zKS (Exists.choose_spec (⟨o,h⟩:∃ o,LE ns low m o)) h
theorem zIt:∀ l:List Int,l≠[]->∃ d∈l,∀ x∈l,d<=x
 | [],h=>absurd rfl h
 | [x],_=>⟨x,by simp,λy hy=>by simp at hy;omega⟩
 | x::y::l,_=>by
  obtain⟨d,h1,h2⟩:=zIt (y::l) (by simp)
  rcases Int.le_total x d with z | z
  ·exact⟨x,by simp,λw hw=>by
    rcases List.mem_cons.mp hw with rfl | hw
    ·exact Int.le_refl _
    ·exact Int.le_trans z (h2 w hw)⟩
  ·exact⟨d,List.mem_cons_of_mem _ h1,λw hw=>by
    rcases List.mem_cons.mp hw with rfl | hw
    ·exact z
    ·exact h2 w hw⟩
structure Told (ns:List Int)(m:Nat)(d:Int)(ms:List Int)(k:Nat)(H:Hp)(as:List Addr)(css:List (List Nat)):Prop where
 len:as.length=css.length
 it:∀ (i:Nat) b,as[i]?=some b->∃ cs,css[i]?=some cs/\H b=some (.lst ((zs cs).map V.int))
 of:∀ cs∈css,∃ low∈ms,zCE ns low (low+d) (m-1) 0 cs
 all:∀ (j:Nat) low,j<k->ms[j]?=some low->0<M14.cnt ns low (low+d) m 0->∃ cs∈css,zCE ns low (low+d) (m-1) 0 cs
def zq4u:Sp:=λvs H Q _=>∃ (r:Addr) (m:Nat) (ns:List Int),vs=[.ref r,.int m]/\H r=some (.lst (ns.map V.int))/\RowN ns/\ns.length<=24/\1<=m/\m<=ns.length/\∀ (H':Hp),Same H H'->Q (.bl true) H'
theorem zqej (B:Bl mg)(zq3q:Def P w K mg base 1 "_law_ahead" ["row"] zq4m)(zq4r:Def P w K mg base 1 "_law_lows" ["ahead"] zq5j)(zq26:Def P w K mg base 1 "_law_least_end" ["ahead","many","low"] zq2t)(zq3r:Def P w K mg base 1 "_law_first" ["ahead","many","low","high"] zq4n)(zq4s:Def P w K mg base 1 "_law_sums" ["row","cut"] zq5f)(zq4t:Def P w K mg base 1 "_law_told" ["found","due"] zq5h)(zq2l:Def P w K mg base 6 "least_spread" ["row","many"] zq35)(F:Fun K "_law_right" "_law_right" zq1 f fd):FnOk P w K mg base CX0 7 f fd ["row","many"] zq4u:=by
 refine F.okq zq1g (λvs H Q E h=>?_) (λcdv A outer s H vs Q E hr h=>?_)
 ·obtain⟨r,m,ns,rfl,_⟩:=h;rfl
 obtain⟨r,m,ns,rfl,hr0,rn,n24,m1,mn,q⟩:=h
 refine⟨zqf1 B zq3q zq4r zq26 zq3r zq4s zq4t zq2l hr,?_⟩
 have hn1:=rn.ne
 refine⟨r,ns,rfl,hr0,by omega,λa H1 ha s1 e1=>?_⟩
 refine⟨a,ns,rfl,e1,by omega,λl ms H2 hst hml hl s2 e2=>?_⟩
 obtain⟨hnd,hmem,hup⟩:=hst
 refine zAc (by show 0<=sizeLine;decide) λsp H3 hsp s3 e3=>?_
 refine⟨λσ H'=>∃ (o5 o6 o7 o8 o9:Option V),H' sp=some (.lst ((ms.filterMap λlow=>(Eof ns m low).map (·-low)).map V.int))/\(∀ low∈ms,LE ns low m (Eof ns m low))/\Same H2 H'/\σ=[some (.ref r),some (.int m),some (.ref a),some (.ref l),some (.ref sp),o5,o6,o7,o8,o9],?_,?_⟩
 ·refine⟨⟨_,SqL.of (s3 _ _ e2)⟩,zBr (xs:=ms.map V.int) (λj σ H'=>∃ (o5 o6 o7 o8 o9:Option V),H' sp=some (.lst (((ms.take j).filterMap λlow=>(Eof ns m low).map (·-low)).map V.int))/\(∀ low∈ms.take j,LE ns low m (Eof ns m low))/\Same H2 H'/\σ=[some (.ref r),some (.int m),some (.ref a),some (.ref l),some (.ref sp),o5,o6,o7,o8,o9]) ?_ ?_ ?_ ?_⟩
  ·exact⟨_,_,_,_,_,e3,by simp,s3,rfl⟩
  ·rintro j σ H' _ ⟨_,_,_,_,_,_,_,s',_⟩
   exact SqL.of (s' _ _ e2)
  ·rintro j x σ H4 hx ⟨o5,o6,o7,o8,o9,e4,hle4,s4,rfl⟩
   obtain⟨low,rfl,hlow,_⟩:=zAt hx
   have hj:j<ms.length:=(List.getElem?_eq_some_iff.mp hlow).1
   have etk:ms.take (j+1)=ms.take j++[low]:=by rw[List.take_add_one,hlow];rfl
   refine⟨a,ns,m,low,rfl,s4 _ _ (s2 _ _ e1),by omega,by omega,λo H5 ho s5=>?_⟩
   have eo:=eof ho
   have hle5:∀ x∈ms.take (j+1),LE ns x m (Eof ns m x):=λx hx=>by
    rw[etk] at hx
    rcases List.mem_append.mp hx with hx | hx
    ·exact hle4 x hx
    ·have:x=low:=by simpa using hx
     subst this;rw[eo];exact ho
   cases o with
   | none =>
    refine bF ⟨_,_,_,_,_,?_,hle5,s4.trans s5,rfl⟩
    rw[s5 _ _ e4,etk,List.filterMap_append]
    simp[eo]
   | some v =>
    have e45:=s5 _ _ e4
    refine bT ⟨zB9 e45,zBu e45 ?_ λH6 k6 e6=>?_⟩
    ·refine Nat.lt_of_le_of_lt (List.length_filterMap_le _ _) ?_
     rw[List.length_take];omega
    ·refine⟨_,_,_,_,_,?_,hle5,(s4.trans s5).new k6 hsp,rfl⟩
     rw[e6,etk,List.filterMap_append]
     simp[eo]
  ·rintro σ H4 ⟨o5,o6,o7,o8,o9,e4,hle4,s4,rfl⟩
   rw[List.length_map,List.take_of_length_le (Nat.le_refl _)] at e4 hle4
   exact⟨_,_,_,_,_,e4,hle4,s4,rfl⟩
 rintro σ H4 ⟨o5,o6,o7,o8,o9,e4,hLE,s4,rfl⟩
 have hmem':∀ x,x∈(ms.filterMap λlow=>(Eof ns m low).map (·-low))↔∃ low∈ms,∃ v,Eof ns m low=some v/\x=v-low:=λx=>by
  rw[List.mem_filterMap]
  constructor
  ·rintro⟨low,h1,h2⟩
   cases hv:Eof ns m low with
   | none=>rw[hv] at h2;cases h2
   | some v=>rw[hv] at h2;cases h2;exact⟨low,h1,v,hv,rfl⟩
  ·rintro⟨low,h1,v,hv,rfl⟩
   exact⟨low,h1,by rw[hv];rfl⟩
 have hne:(ms.filterMap λlow=>(Eof ns m low).map (·-low))≠[]:=λz=>by
  obtain⟨low,h1,v,hv⟩:=zIO rn.nn hn1 m1 mn hmem hLE
  have:=(hmem' (v-low)).mpr ⟨low,h1,v,hv,rfl⟩
  rw[z] at this;cases this
 have hspl:(ms.filterMap λlow=>(Eof ns m low).map (·-low)).length<=1000:=Nat.le_trans (List.length_filterMap_le _ _) hml
 generalize (ms.filterMap λlow=>(Eof ns m low).map (·-low))=spl at *
 obtain⟨d,hd1,hd2⟩:=zIt spl hne
 have dN:∀ N,N∈spl->(∀ x∈spl,N<=x)->N=d:=λN h1 h2=>Int.le_antisymm (h2 d hd1) (hd2 N h1)
 refine⟨⟨_,SqL.of (s4 _ _ e2)⟩,zA3 (ms.map V.int) (λk D σ H' ys=>ys.length=k/\(∀ (j:Nat) v,ys[j]?=some v->∃ low,ms[j]?=some low/\CutOf ns m d low D H' v)/\Same H4 H'/\∃ o,σ=[o,some (.ref a),some (.int m),some (.ref sp)]) ?_ ?_ ?_ ?_⟩
 ·intro D H' hD s' e'
  exact⟨rfl,λj v hj=>(by simp at hj),s',_,rfl⟩
 ·rintro k D σ H' ys hD ⟨_,_,s',_⟩
  exact SqL.of (s' _ _ (s4 _ _ e2))
 ·rintro k x D σ H5 ys hx hD ⟨hyl,hys,s5,o,rfl⟩ eD
  obtain⟨low,rfl,hlow,_⟩:=zAt hx
  have hk:k<ms.length:=(List.getElem?_eq_some_iff.mp hlow).1
  refine bT (zGE (SqL.of (s5 _ _ e4)) hne λN hN hmin=>?_)
  have:=dN N hN hmin
  subst this
  have more:∀ (H6 H7:Hp) (v:V),Same H5 H6->CutOf ns m N low D H6 v->Kp [D] H6 H7->∀ (j:Nat) u,(ys++[v])[j]?=some u->∃ lw,ms[j]?=some lw/\CutOf ns m N lw D H7 u:=λH6 H7 v s6 hc k7 j u hj=>by
   rcases Nat.lt_or_ge j ys.length with z | z
   ·rw[List.getElem?_append_left z] at hj
    obtain⟨lw,h1,h2⟩:=hys j u hj
    exact⟨lw,h1,(h2.kp s6.kp).kp k7⟩
   ·rw[List.getElem?_append_right z] at hj
    cases hjk:j-ys.length with
    | zero =>
     rw[hjk] at hj
     simp at hj
     subst hj
     have:j=k:=by omega
     subst this
     exact⟨low,hlow,hc.kp k7⟩
    | succ i=>rw[hjk] at hj;simp at hj
  refine⟨a,ns,m,low,low+N,rfl,s5 _ _ (s4 _ _ (s2 _ _ e1)),hn1,by omega,m1,mn,λH6 hn6 s6=>?_,λp cs H6 hf6 hp6 s6 e6=>?_⟩
  ·exact⟨s6 _ _ eD,zBo (by omega),λH7 k7 e7=>⟨by simp[hyl],more H6 H7 .non s6 (.inl ⟨rfl,hn6⟩) k7,(s5.trans s6).new k7 hD,_,rfl⟩⟩
  ·exact⟨s6 _ _ eD,zBo (by omega),λH7 k7 e7=>⟨by simp[hyl],more H6 H7 (.ref p) s6 (.inr ⟨p,cs,rfl,(zAK eD hp6).symm,hf6,e6⟩) k7,(s5.trans s6).new k7 hD,_,rfl⟩⟩
 rintro ct σ H5 ys hct ⟨hyl,hys,s5,_⟩ e5
 rw[List.length_map] at hyl
 refine zGE (SqL.of (s5 _ _ e4)) hne λN hN hmin=>?_
 have:=dN N hN hmin
 subst this
 refine⟨⟨_,SqL.of e5⟩,zA3 ys (λk D σ H' zs'=>∃ (as:List Addr) (css:List (List Nat)),zs'=as.map V.ref/\as.length<=k/\Told ns m N ms k H' as css/\Same H5 H'/\∃ o,σ=[o]) ?_ ?_ ?_ ?_⟩
 ·intro D H' hD s' e'
  exact⟨[],[],rfl,by simp,⟨rfl,λi b hb=>(by simp at hb),by simp,λj low hj=>absurd hj (Nat.not_lt_zero _)⟩,s',_,rfl⟩
 ·rintro k D σ H' zs' hD ⟨_,_,_,_,_,s',_⟩
  exact SqL.of (s' _ _ e5)
 ·rintro k x D σ H6 zs' hx hD ⟨as,css,rfl,hal,td,s6,o,rfl⟩ eD
  obtain⟨low,hlow,hc⟩:=hys k x hx
  have hk:k<ys.length:=(List.getElem?_eq_some_iff.mp hx).1
  rcases hc with ⟨rfl,hn⟩ | ⟨p,cs,rfl,_,hf,ep⟩
  ·refine bF ⟨eD,as,css,rfl,by omega,⟨td.len,td.it,td.of,λj lw hj hlw hp=>?_⟩,s6,_,rfl⟩
   by_cases z:j=k
   ·subst z
    rw[hlow] at hlw;cases hlw
    exact absurd hp hn
   ·exact td.all j lw (by omega) hlw hp
  ·have npD:p≠D:=zAK ep hD
   refine bT ⟨eD,zBo (by rw[List.length_map];omega),λH7 k7 e7=>⟨as++[p],css++[cs],by simp,by simp;omega,⟨by simp[td.len],λi b hb=>?_,λc hc=>?_,λj lw hj hlw hp=>?_⟩,s6.new k7 hD,_,rfl⟩⟩
   ·have tdk:∀ i b,as[i]?=some b->b≠D:=λi b hb z=>by
     obtain⟨c,_,h2⟩:=td.it i b hb
     rw[z,eD] at h2
     injection h2 with h2
     injection h2 with h2
     have hi:=(List.getElem?_eq_some_iff.mp hb).1
     have h3:=congrArg (λl=>l[i]?) h2
     simp only[List.getElem?_map,hb,Option.map_some] at h3
     cases hz:c[i]? with
     | none=>rw[hz] at h3;cases h3
     | some w=>rw[hz] at h3;simp at h3
    rcases Nat.lt_or_ge i as.length with z | z
    ·rw[List.getElem?_append_left z] at hb
     obtain⟨c,h1,h2⟩:=td.it i b hb
     exact⟨c,by rw[List.getElem?_append_left (by rw[<- td.len];exact z)];exact h1,k7.one (tdk i b hb) h2⟩
    ·rw[List.getElem?_append_right z] at hb
     cases hj:i-as.length with
     | zero =>
      rw[hj] at hb
      simp at hb
      subst hb
      exact⟨cs,by rw[List.getElem?_append_right (by rw[<- td.len];exact z),<- td.len,hj];rfl,k7.one npD (s6 _ _ ep)⟩
     | succ n=>rw[hj] at hb;simp at hb
   ·rcases List.mem_append.mp hc with hc | hc
    ·exact td.of c hc
    ·have:c=cs:=by simpa using hc
     subst this
     exact⟨low,List.mem_of_getElem? hlow,hf⟩
   ·by_cases z:j=k
    ·subst z
     rw[hlow] at hlw;cases hlw
     exact⟨cs,by simp,hf⟩
    ·obtain⟨c,h1,h2⟩:=td.all j lw (by omega) hlw hp
     exact⟨c,List.mem_append_left _ h1,h2⟩
 rintro dl σ H6 zs' hdl ⟨as,css,rfl,hal,td,s6,_⟩ e6
 rw[hyl] at td
 obtain⟨low0,hl0,v0,hv0,hN0⟩:=(hmem' N).mp hN
 have hpos:0<M14.cnt ns low0 (low0+N) m 0:=by
  have h1:=hLE low0 hl0
  rw[hv0] at h1
  have h2:=(h1.2 v0 (h1.1 v0 rfl)).mp ⟨v0,rfl,Int.le_refl _⟩
  rw[show low0+N=v0 by omega];exact h2
 have hane:as≠[]:=λz=>by
  obtain⟨j,hj⟩:=List.getElem?_of_mem hl0
  obtain⟨c,h1,_⟩:=td.all j low0 (List.getElem?_eq_some_iff.mp hj).1 hj hpos
  have:=td.len
  rw[z] at this
  have:css=[]:=List.length_eq_zero_iff.mp this.symm
  rw[this] at h1;cases h1
 refine zIb (λi=>zs (css.getD i [])) e6 hane (λi b hb=>?_) λk b hb hlow=>?_
 ·obtain⟨c,hc,e⟩:=td.it i b hb
  rw[List.getD_eq_getElem?_getD,hc];exact e
 obtain⟨cs,hcs,eb⟩:=td.it k b hb
 obtain⟨lw,hlw,hfc⟩:=td.of cs (List.mem_of_getElem? hcs)
 have sB:SpB ns m N cs:=zL1 (E:=Eof ns m) rn.nn hn1 m1 hmem hLE ⟨low0,hl0,v0,hv0,hN0⟩ (λlow h v hv=>hmin _ ((hmem' _).mpr ⟨low,h,v,hv,rfl⟩)) ⟨lw,hlw,hfc⟩ λlow h hp=>by
  obtain⟨j,hj⟩:=List.getElem?_of_mem h
  obtain⟨es,h1,h2⟩:=td.all j low (List.getElem?_eq_some_iff.mp hj).1 hj hp
  refine⟨es,h2,λha=>?_⟩
  obtain⟨i,hi⟩:=List.getElem?_of_mem h1
  have h3:=hlow i (by rw[td.len];exact(List.getElem?_eq_some_iff.mp hi).1)
  simp only[List.getD_eq_getElem?_getD,hi,hcs,Option.getD_some] at h3
  have h4:=zDK (by rw[h2.1,hfc.1]) ha
  rw[h3] at h4;cases h4
 have hcl:=zGp sB.cut
 refine zCm (by show 2<=sizeLine;decide) λdu H7 hdu s7 e7=>?_
 have s07:Same H H7:=s1.trans (s2.trans (s4.trans (s5.trans (s6.trans s7))))
 refine zDY 1 (v:=.ref b) e7 rfl rfl ⟨r,b,ns,cs,rfl,s07 _ _ hr0,s7 _ _ eb,by omega,sB.cut,λsm H8 hsm s8 e8=>?_⟩
 have hsn:(pcs ns 0 cs).map List.sum≠[]:=λz=>by have:=congrArg List.length z;simp[zCb] at this
 refine zJV (SqL.of e8) hsn λM hM hmax=>zGE (SqL.of e8) hsn λW hW hmi=>zDY 0 (v:=.int N) (s8 _ _ e7) rfl rfl ?_
 have hs:Spr ns cs (M-W):=⟨W,M,hW,hM,λx hx=>⟨hmi x hx,hmax x hx⟩,rfl⟩
 have hMW:=zIL hs sB.has
 refine bIs (decide_eq_true hMW) ?_
 refine zLA (s8 _ _ (s07 _ _ hr0)) λhd H9 hhd s9 e9=>?_
 refine⟨hd,m,ns,rfl,e9,rn,by omega,m1,mn,λtd5 tc v5 cs5 H10 sp5 htd htc ntt s10 e10 ec10=>?_⟩
 have hu:=sp5.uniq sB
 cases hu.1
 cases hu.2
 have sx:=s8.trans (s9.trans s10)
 exact⟨td5,tc,du,b,_,_,rfl,e10,ec10,sx _ _ e7,sx _ _ (s7 _ _ eb),by simp;omega,λH11 s11=>q H11 (s07.trans (sx.trans s11))⟩
abbrev zq11:Stmt:=top 43
theorem zq8j:FnScope ["script","k","cell","hand","row","j"] ["script"] (zAA zq11):=⟨rfl,rfl,rfl,by decide +kernel,rfl,by decide +kernel,by decide +kernel⟩
theorem zqfe:Loc (zAA zq11) "cell":=Or.inl (by kernel_rfl)
theorem zqff:Loc (zAA zq11) "hand":=Or.inl (by kernel_rfl)
theorem zqfm:Loc (zAA zq11) "j":=Or.inl (by kernel_rfl)
theorem zqfn:Loc (zAA zq11) "k":=Or.inl (by kernel_rfl)
theorem zqfk:Loc (zAA zq11) "row":=Or.inl (by kernel_rfl)
theorem zqfg:Vis (zAA zq11) "cell":=Or.inl (by kernel_rfl)
theorem zq92:Vis (zAA zq11) "hand":=Or.inl (by kernel_rfl)
theorem zqf3:Vis (zAA zq11) "k":=Or.inl (by kernel_rfl)
theorem zqdp:Vis (zAA zq11) "row":=Or.inl (by kernel_rfl)
theorem zqek:Vis (zAA zq11) "script":=Or.inl (by kernel_rfl)
theorem zqc4:(zAA zq11).names.lookup ("_law_cells":Str)=some NameKind.globalImplicit:=by kernel_rfl
theorem zqd1:(zAA zq11).names.lookup ("_law_hand":Str)=some NameKind.globalImplicit:=by kernel_rfl
theorem zqd2:(zAA zq11).names.lookup ("_law_many":Str)=some NameKind.globalImplicit:=by kernel_rfl
theorem zqc5:(zAA zq11).names.lookup ("_law_right":Str)=some NameKind.globalImplicit:=by kernel_rfl
theorem zqdo:(zAA zq11).names.lookup ("_law_row":Str)=some NameKind.globalImplicit:=by kernel_rfl
theorem zqd3:(zAA zq11).names.lookup ("_law_size":Str)=some NameKind.globalImplicit:=by kernel_rfl
theorem zqf2:(zAA zq11).names.lookup ("range":Str)=some NameKind.globalImplicit:=by kernel_rfl
def zqfr {cdv:Value}{A:Around}{outer:List Env}{s:Shared}{H:Hp}{E:XK}(B:Bl mg)(zq3s:Def P w K mg base 1 "_law_cells" ["script","many"] (zq4c K))(zq4v:Def P w K mg base 1 "_law_hand" ["cell","k"] zq5b)(zq5z:Def P w K mg base 2 "_law_row" ["hand","many"] zq6k)(zq4w:Def P w K mg base 2 "_law_size" ["hand","k","most","far"] zq5c)(zq3t:Def P w K mg base 7 "_law_right" ["row","many"] zq4u)(zq4x:Def P w K mg base 2 "_law_many" ["hand","row"] zq5g)(hr:Room 7 (A.deeper (PyProof.Rows.envOfC "law" (zAA zq11) s.heap.objs.size f cdv))) :
  { t:TS // QB (cxOf CX0 P w K mg base ["script","k","cell","hand","row","j"] "law" (zAA zq11) f cdv A outer s H E).nox (zAF zq11) t } :=
 ⟨_,(zAY (zAm PassesOwn.never rfl (zAu (K:=K) rfl (zAN zq3s hr (by decide) zqc4 (zAB (qv 0 rfl zqek) (zAB zAD zAC)))) (zCW (K:=K) rfl rfl (zAk (zAL (i:=1) zq8j.nd rfl zqfn (.inl rfl)) (zAk (zAL (i:=2) zq8j.nd rfl zqfe (.inl rfl)) zBm))) (zAE (zAJ (i:=3) zq8j.nd rfl zqff (.inl rfl) (zAN zq4v hr (by decide) zqd1 (zAB (qv 2 rfl zqfg) (zAB (qv 1 rfl zqf3) zAC))))
  (zAE (zAJ (i:=4) zq8j.nd rfl zqfk (.inl rfl) (zAN zq5z hr (by decide) zqdo (zAB (qv 3 rfl zq92) (zAB (zAN zq4w hr (by decide) zqd3 (zAB (qv 3 rfl zq92) (zAB (qv 1 rfl zqf3) (zAB zAD (zAB zAD zAC))))) zAC))))
  (zAH (zAm PassesOwn.never rfl (zCT zqf2 B.range (zAB zAD zAC)) (zAL (i:=5) zq8j.nd rfl zqfm (.inl rfl)) (zAH (zA8 (zCq (zCX (K:=K) rfl (zAN zq3t hr (by decide) zqc5 (zAB (qv 4 rfl zqdp) (zAB (zAN zq4x hr (by decide) zqd2 (zAB (qv 3 rfl zq92) (zAB (qv 4 rfl zqdp) zAC))) zAC))))) (zAH (zAR zEB)) zAr)))))))
  (zAH (zAR zEB)))⟩
def zE0 (K:W.Frag):Sp:=λvs H Q _=>∃ (a:Addr) (ns:List Int),vs=[.ref a]/\SqL K H a (ns.map V.int)/\ns.length<=63/\∀ H',Q (.bl true) H'
theorem zqfp (B:Bl mg)(zq3s:Def P w K mg base 1 "_law_cells" ["script","many"] (zq4c K))(zq4v:Def P w K mg base 1 "_law_hand" ["cell","k"] zq5b)(zq5z:Def P w K mg base 2 "_law_row" ["hand","many"] zq6k)(zq4w:Def P w K mg base 2 "_law_size" ["hand","k","most","far"] zq5c)(zq3t:Def P w K mg base 7 "_law_right" ["row","many"] zq4u)(zq4x:Def P w K mg base 2 "_law_many" ["hand","row"] zq5g)(F:Fun K "law" "law" zq11 f fd):FnOk P w K mg base CX0 8 f fd ["script"] (zE0 K):=by
 refine F.okq zq8j (λvs H Q E h=>?_) (λcdv A outer s H vs Q E hr h=>?_)
 ·obtain⟨a,ns,rfl,_⟩:=h;rfl
 obtain⟨a,sc,rfl,hS,h63,q⟩:=h
 refine⟨zqfr B zq3s zq4v zq5z zq4w zq3t zq4x hr,?_⟩
 refine⟨λσ H'=>True,?_,?_⟩
 ·refine⟨a,sc,3,rfl,hS,h63,λD as H0 s0 hDn hD hlen hpair=>?_⟩
  refine⟨⟨_,SqL.of hD⟩,zBr (xs:=as.map V.ref) (λi σ H'=>(∃ o1 o2 o3 o4 o5,σ=[some (.ref a),o1,o2,o3,o4,o5])/\Same H0 H') ?_ ?_ ?_ ?_⟩
  ·exact⟨⟨_,_,_,_,_,rfl⟩,Same.refl _⟩
  ·rintro i σ H' _ ⟨_,s'⟩
   exact SqL.of (s' _ _ hD)
  ·rintro i x σ H1 hx ⟨⟨o1,o2,o3,o4,o5,rfl⟩,s1⟩
   obtain⟨b,hb,rfl⟩:=zEw hx
   obtain⟨c,hc⟩:=hpair i b hb
   have hi:i<as.length:=(List.getElem?_eq_some_iff.mp hb).1
   refine zD9 (s1 _ _ hc) rfl ?_
   refine⟨c,i,rfl,by omega,by omega,λh H2 hh0 s2 hh2=>?_⟩
   refine⟨h,i,16,24,rfl,hh2,by decide,by decide,by decide,by decide,λn H3 n1 n2 hh3 k3=>?_⟩
   have n24:n<=24:=by omega
   refine⟨h,n,rfl,hh3,n1,by omega,λr ns H4 rn hln hh4 k4 e4 nr hr0=>?_⟩
   have hle:=rn.le
   have hge:=rn.ne
   have s14:Same H1 H4:=(s2.new k3 hh0).new k4 hh0
   refine⟨⟨by decide,by decide⟩,zAl (λj σ H'=>(∃ o5,σ=[some (.ref a),some (.int i),some (.int c),some (.ref h),some (.ref r),o5])/\HandAt H' h/\H' r=some (.lst (ns.map V.int))/\Same H1 H') ?_ ?_ ?_⟩
   ·exact⟨⟨_,rfl⟩,hh4,e4,s14⟩
   ·rintro j σ H5 hj ⟨⟨o5,rfl⟩,hh5,e5,s5⟩
    refine⟨h,r,ns,rfl,hh5,e5,hge,by omega,λm H7 m1 m2 hh7 k7=>?_⟩
    have e7:=k7.one nr e5
    refine⟨r,m,ns,rfl,e7,rn,by omega,m1,m2,λH8 s8=>bF ?_⟩
    exact⟨⟨_,rfl⟩,hh7.same s8,s8 _ _ e7,(s5.new k7 hh0).trans s8⟩
   ·rintro σ H5 ⟨⟨o5,rfl⟩,hh5,e5,s5⟩
    exact⟨⟨_,_,_,_,_,rfl⟩,s1.trans s5⟩
  ·rintro σ H' _
   trivial
 ·rintro σ H' _
  exact q H'
end
end K
namespace K
open PySem PySem.Spec PyProof.Rows L2
theorem all_mk {l:W.OpenLaw}{w:World}{K:W.Frag}{h:Heap}{mg:Str->Option Value}{fa f0 f1 f2 f3 f4 f5 f6 f7 f8 f9 f10 f11 f12 f13 f14 f15 f16 f17 f18 f19 f20 f21 f22 f23 f24 f25 f26 f27 f28 f29 f30 f31 f32 f33:Addr}(X:K.In h)(G:h.Ns mainGlobals mg)(hfa:mg "law"=some (.ref fa))
  {od0 an0 od1 an1 od2 an2 od3 an3 od4 an4 od5 an5 od6 an6 od7 an7 od8 an8 od9 an9 od10 an10 od11 an11 od12 an12 od13 an13 od14 an14 od15 an15 od16 an16 od17 an17 od18 an18 od19 an19 od20 an20 od21 an21 od22 an22 od23 an23 od24 an24 od25 an25 od26 an26 od27 an27 od28 an28 od29 an29 od30 an30 od31 an31 od32 an32 od33 an33:Option Addr} {sl0 sl1 sl2 sl3 sl4 sl5 sl6 sl7 sl8 sl9 sl10 sl11 sl12 sl13 sl14 sl15 sl16 sl17 sl18 sl19 sl20 sl21 sl22 sl23 sl24 sl25 sl26 sl27 sl28 sl29 sl30 sl31 sl32 sl33:Array (Option Value)} {oc0 kV0 dc0 pm0 cd0 ct0 oc1 kV1 dc1 pm1 cd1 ct1 oc2 kV2 dc2 pm2 cd2 ct2 oc3 kV3 dc3 pm3 cd3 ct3 oc4 kV4 dc4 pm4 cd4 ct4 oc5 kV5 dc5 pm5 cd5 ct5 oc6 kV6 dc6 pm6 cd6 ct6 oc7 kV7 dc7 pm7 cd7 ct7 oc8 kV8 dc8 pm8 cd8 ct8 oc9 kV9 dc9 pm9 cd9 ct9 oc10 kV10 dc10 pm10 cd10 ct10 oc11 kV11 dc11 pm11 cd11 ct11 oc12 kV12 dc12 pm12 cd12 ct12 oc13 kV13 dc13 pm13 cd13 ct13 oc14 kV14 dc14 pm14 cd14 ct14 oc15 kV15 dc15 pm15 cd15 ct15 oc16 kV16 dc16 pm16 cd16 ct16 oc17 kV17 dc17 pm17 cd17 ct17 oc18 kV18 dc18 pm18 cd18 ct18 oc19 kV19 dc19 pm19 cd19 ct19 oc20 kV20 dc20 pm20 cd20 ct20 oc21 kV21 dc21 pm21 cd21 ct21 oc22 kV22 dc22 pm22 cd22 ct22 oc23 kV23 dc23 pm23 cd23 ct23 oc24 kV24 dc24 pm24 cd24 ct24 oc25 kV25 dc25 pm25 cd25 ct25 oc26 kV26 dc26 pm26 cd26 ct26 oc27 kV27 dc27 pm27 cd27 ct27 oc28 kV28 dc28 pm28 cd28 ct28 oc29 kV29 dc29 pm29 cd29 ct29 oc30 kV30 dc30 pm30 cd30 ct30 oc31 kV31 dc31 pm31 cd31 ct31 oc32 kV32 dc32 pm32 cd32 ct32 oc33 kV33 dc33 pm33 cd33 ct33:Value}
  (a0:W.nsIn K mainGlobals "_law_cells"=some (some (.ref f0))) (l0:K.lookup f0=some ⟨oc0,od0,.func (W.fnOf "_law_cells" "_law_cells" (zAQ zqt) (zAF zqt) (zAA zqt) .none kV0 dc0 pm0 an0 cd0 ct0),sl0⟩) (c0:W.codeIn K cd0 "_law_cells"=true) (k0:W.keepIn K (.ref f0)=true)
  (a1:W.nsIn K mainGlobals "_law_hand"=some (some (.ref f1))) (l1:K.lookup f1=some ⟨oc1,od1,.func (W.fnOf "_law_hand" "_law_hand" (zAQ zq13) (zAF zq13) (zAA zq13) .none kV1 dc1 pm1 an1 cd1 ct1),sl1⟩) (c1:W.codeIn K cd1 "_law_hand"=true) (k1:W.keepIn K (.ref f1)=true)
  (a2:W.nsIn K mainGlobals "_law_draw"=some (some (.ref f2))) (l2:K.lookup f2=some ⟨oc2,od2,.func (W.fnOf "_law_draw" "_law_draw" (zAQ zq14) (zAF zq14) (zAA zq14) .none kV2 dc2 pm2 an2 cd2 ct2),sl2⟩) (c2:W.codeIn K cd2 "_law_draw"=true) (k2:W.keepIn K (.ref f2)=true)
  (a3:W.nsIn K mainGlobals "_law_row"=some (some (.ref f3))) (l3:K.lookup f3=some ⟨oc3,od3,.func (W.fnOf "_law_row" "_law_row" (zAQ zqg) (zAF zqg) (zAA zqg) .none kV3 dc3 pm3 an3 cd3 ct3),sl3⟩) (c3:W.codeIn K cd3 "_law_row"=true) (k3:W.keepIn K (.ref f3)=true)
  (a4:W.nsIn K mainGlobals "_law_size"=some (some (.ref f4))) (l4:K.lookup f4=some ⟨oc4,od4,.func (W.fnOf "_law_size" "_law_size" (zAQ zqo) (zAF zqo) (zAA zqo) .none kV4 dc4 pm4 an4 cd4 ct4),sl4⟩) (c4:W.codeIn K cd4 "_law_size"=true) (k4:W.keepIn K (.ref f4)=true)
  (a5:W.nsIn K mainGlobals "_law_ahead"=some (some (.ref f5))) (l5:K.lookup f5=some ⟨oc5,od5,.func (W.fnOf "_law_ahead" "_law_ahead" (zAQ zqu) (zAF zqu) (zAA zqu) .none kV5 dc5 pm5 an5 cd5 ct5),sl5⟩) (c5:W.codeIn K cd5 "_law_ahead"=true) (k5:W.keepIn K (.ref f5)=true)
  (a6:W.nsIn K mainGlobals "_law_lows"=some (some (.ref f6))) (l6:K.lookup f6=some ⟨oc6,od6,.func (W.fnOf "_law_lows" "_law_lows" (zAQ zqn) (zAF zqn) (zAA zqn) .none kV6 dc6 pm6 an6 cd6 ct6),sl6⟩) (c6:W.codeIn K cd6 "_law_lows"=true) (k6:W.keepIn K (.ref f6)=true)
  (a7:W.nsIn K mainGlobals "_law_least_end"=some (some (.ref f7))) (l7:K.lookup f7=some ⟨oc7,od7,.func (W.fnOf "_law_least_end" "_law_least_end" (zAQ zq0) (zAF zq0) (zAA zq0) .none kV7 dc7 pm7 an7 cd7 ct7),sl7⟩) (c7:W.codeIn K cd7 "_law_least_end"=true) (k7:W.keepIn K (.ref f7)=true)
  (a8:W.nsIn K mainGlobals "_law_first"=some (some (.ref f8))) (l8:K.lookup f8=some ⟨oc8,od8,.func (W.fnOf "_law_first" "_law_first" (zAQ zq3) (zAF zq3) (zAA zq3) .none kV8 dc8 pm8 an8 cd8 ct8),sl8⟩) (c8:W.codeIn K cd8 "_law_first"=true) (k8:W.keepIn K (.ref f8)=true)
  (a9:W.nsIn K mainGlobals "_law_sums"=some (some (.ref f9))) (l9:K.lookup f9=some ⟨oc9,od9,.func (W.fnOf "_law_sums" "_law_sums" (zAQ zq10) (zAF zq10) (zAA zq10) .none kV9 dc9 pm9 an9 cd9 ct9),sl9⟩) (c9:W.codeIn K cd9 "_law_sums"=true) (k9:W.keepIn K (.ref f9)=true)
  (a10:W.nsIn K mainGlobals "_law_told"=some (some (.ref f10))) (l10:K.lookup f10=some ⟨oc10,od10,.func (W.fnOf "_law_told" "_law_told" (zAQ zqv) (zAF zqv) (zAA zqv) .none kV10 dc10 pm10 an10 cd10 ct10),sl10⟩) (c10:W.codeIn K cd10 "_law_told"=true) (k10:W.keepIn K (.ref f10)=true)
  (a11:W.nsIn K mainGlobals "is_whole"=some (some (.ref f11))) (l11:K.lookup f11=some ⟨oc11,od11,.func (W.fnOf "is_whole" "is_whole" (zAQ zq16) (zAF zq16) (zAA zq16) .none kV11 dc11 pm11 an11 cd11 ct11),sl11⟩) (c11:W.codeIn K cd11 "is_whole"=true) (k11:W.keepIn K (.ref f11)=true)
  (a12:W.nsIn K mainGlobals "is_within"=some (some (.ref f12))) (l12:K.lookup f12=some ⟨oc12,od12,.func (W.fnOf "is_within" "is_within" (zAQ zqw) (zAF zqw) (zAA zqw) .none kV12 dc12 pm12 an12 cd12 ct12),sl12⟩) (c12:W.codeIn K cd12 "is_within"=true) (k12:W.keepIn K (.ref f12)=true)
  (a13:W.nsIn K mainGlobals "check_many"=some (some (.ref f13))) (l13:K.lookup f13=some ⟨oc13,od13,.func (W.fnOf "check_many" "check_many" (zAQ zqs) (zAF zqs) (zAA zqs) .none kV13 dc13 pm13 an13 cd13 ct13),sl13⟩) (c13:W.codeIn K cd13 "check_many"=true) (k13:W.keepIn K (.ref f13)=true)
  (a14:W.nsIn K mainGlobals "sums_ahead"=some (some (.ref f14))) (l14:K.lookup f14=some ⟨oc14,od14,.func (W.fnOf "sums_ahead" "sums_ahead" (zAQ zqp) (zAF zqp) (zAA zqp) .none kV14 dc14 pm14 an14 cd14 ct14),sl14⟩) (c14:W.codeIn K cd14 "sums_ahead"=true) (k14:W.keepIn K (.ref f14)=true)
  (a15:W.nsIn K mainGlobals "stretch_sums"=some (some (.ref f15))) (l15:K.lookup f15=some ⟨oc15,od15,.func (W.fnOf "stretch_sums" "stretch_sums" (zAQ zqj) (zAF zqj) (zAA zqj) .none kV15 dc15 pm15 an15 cd15 ct15),sl15⟩) (c15:W.codeIn K cd15 "stretch_sums"=true) (k15:W.keepIn K (.ref f15)=true)
  (a16:W.nsIn K mainGlobals "short_ends"=some (some (.ref f16))) (l16:K.lookup f16=some ⟨oc16,od16,.func (W.fnOf "short_ends" "short_ends" (zAQ zqf) (zAF zqf) (zAA zqf) .none kV16 dc16 pm16 an16 cd16 ct16),sl16⟩) (c16:W.codeIn K cd16 "short_ends"=true) (k16:W.keepIn K (.ref f16)=true)
  (a17:W.nsIn K mainGlobals "greatest_bound"=some (some (.ref f17))) (l17:K.lookup f17=some ⟨oc17,od17,.func (W.fnOf "greatest_bound" "greatest_bound" (zAQ zq4) (zAF zq4) (zAA zq4) .none kV17 dc17 pm17 an17 cd17 ct17),sl17⟩) (c17:W.codeIn K cd17 "greatest_bound"=true) (k17:W.keepIn K (.ref f17)=true)
  (a18:W.nsIn K mainGlobals "greatest_least"=some (some (.ref f18))) (l18:K.lookup f18=some ⟨oc18,od18,.func (W.fnOf "greatest_least" "greatest_least" (zAQ zqc) (zAF zqc) (zAA zqc) .none kV18 dc18 pm18 an18 cd18 ct18),sl18⟩) (c18:W.codeIn K cd18 "greatest_least"=true) (k18:W.keepIn K (.ref f18)=true)
  (a19:W.nsIn K mainGlobals "long_cut"=some (some (.ref f19))) (l19:K.lookup f19=some ⟨oc19,od19,.func (W.fnOf "long_cut" "long_cut" (zAQ zql) (zAF zql) (zAA zql) .none kV19 dc19 pm19 an19 cd19 ct19),sl19⟩) (c19:W.codeIn K cd19 "long_cut"=true) (k19:W.keepIn K (.ref f19)=true)
  (a20:W.nsIn K mainGlobals "fewest_pieces"=some (some (.ref f20))) (l20:K.lookup f20=some ⟨oc20,od20,.func (W.fnOf "fewest_pieces" "fewest_pieces" (zAQ zqh) (zAF zqh) (zAA zqh) .none kV20 dc20 pm20 an20 cd20 ct20),sl20⟩) (c20:W.codeIn K cd20 "fewest_pieces"=true) (k20:W.keepIn K (.ref f20)=true)
  (a21:W.nsIn K mainGlobals "least_bound"=some (some (.ref f21))) (l21:K.lookup f21=some ⟨oc21,od21,.func (W.fnOf "least_bound" "least_bound" (zAQ zqa) (zAF zqa) (zAA zqa) .none kV21 dc21 pm21 an21 cd21 ct21),sl21⟩) (c21:W.codeIn K cd21 "least_bound"=true) (k21:W.keepIn K (.ref f21)=true)
  (a22:W.nsIn K mainGlobals "earliest_begin"=some (some (.ref f22))) (l22:K.lookup f22=some ⟨oc22,od22,.func (W.fnOf "earliest_begin" "earliest_begin" (zAQ zq9) (zAF zq9) (zAA zq9) .none kV22 dc22 pm22 an22 cd22 ct22),sl22⟩) (c22:W.codeIn K cd22 "earliest_begin"=true) (k22:W.keepIn K (.ref f22)=true)
  (a23:W.nsIn K mainGlobals "earliest_cut"=some (some (.ref f23))) (l23:K.lookup f23=some ⟨oc23,od23,.func (W.fnOf "earliest_cut" "earliest_cut" (zAQ zq7) (zAF zq7) (zAA zq7) .none kV23 dc23 pm23 an23 cd23 ct23),sl23⟩) (c23:W.codeIn K cd23 "earliest_cut"=true) (k23:W.keepIn K (.ref f23)=true)
  (a24:W.nsIn K mainGlobals "least_greatest"=some (some (.ref f24))) (l24:K.lookup f24=some ⟨oc24,od24,.func (W.fnOf "least_greatest" "least_greatest" (zAQ zqb) (zAF zqb) (zAA zqb) .none kV24 dc24 pm24 an24 cd24 ct24),sl24⟩) (c24:W.codeIn K cd24 "least_greatest"=true) (k24:W.keepIn K (.ref f24)=true)
  (a25:W.nsIn K mainGlobals "count_ways"=some (some (.ref f25))) (l25:K.lookup f25=some ⟨oc25,od25,.func (W.fnOf "count_ways" "count_ways" (zAQ zqk) (zAF zqk) (zAA zqk) .none kV25 dc25 pm25 an25 cd25 ct25),sl25⟩) (c25:W.codeIn K cd25 "count_ways"=true) (k25:W.keepIn K (.ref f25)=true)
  (a26:W.nsIn K mainGlobals "end_ranges"=some (some (.ref f26))) (l26:K.lookup f26=some ⟨oc26,od26,.func (W.fnOf "end_ranges" "end_ranges" (zAQ zq5) (zAF zq5) (zAA zq5) .none kV26 dc26 pm26 an26 cd26 ct26),sl26⟩) (c26:W.codeIn K cd26 "end_ranges"=true) (k26:W.keepIn K (.ref f26)=true)
  (a27:W.nsIn K mainGlobals "cuts_between"=some (some (.ref f27))) (l27:K.lookup f27=some ⟨oc27,od27,.func (W.fnOf "cuts_between" "cuts_between" (zAQ zqi) (zAF zqi) (zAA zqi) .none kV27 dc27 pm27 an27 cd27 ct27),sl27⟩) (c27:W.codeIn K cd27 "cuts_between"=true) (k27:W.keepIn K (.ref f27)=true)
  (a28:W.nsIn K mainGlobals "near_bounds"=some (some (.ref f28))) (l28:K.lookup f28=some ⟨oc28,od28,.func (W.fnOf "near_bounds" "near_bounds" (zAQ zq2) (zAF zq2) (zAA zq2) .none kV28 dc28 pm28 an28 cd28 ct28),sl28⟩) (c28:W.codeIn K cd28 "near_bounds"=true) (k28:W.keepIn K (.ref f28)=true)
  (a29:W.nsIn K mainGlobals "cut_at"=some (some (.ref f29))) (l29:K.lookup f29=some ⟨oc29,od29,.func (W.fnOf "cut_at" "cut_at" (zAQ zqe) (zAF zqe) (zAA zqe) .none kV29 dc29 pm29 an29 cd29 ct29),sl29⟩) (c29:W.codeIn K cd29 "cut_at"=true) (k29:W.keepIn K (.ref f29)=true)
  (a30:W.nsIn K mainGlobals "least_spread"=some (some (.ref f30))) (l30:K.lookup f30=some ⟨oc30,od30,.func (W.fnOf "least_spread" "least_spread" (zAQ zq8) (zAF zq8) (zAA zq8) .none kV30 dc30 pm30 an30 cd30 ct30),sl30⟩) (c30:W.codeIn K cd30 "least_spread"=true) (k30:W.keepIn K (.ref f30)=true)
  (a31:W.nsIn K mainGlobals "_law_right"=some (some (.ref f31))) (l31:K.lookup f31=some ⟨oc31,od31,.func (W.fnOf "_law_right" "_law_right" (zAQ zq1) (zAF zq1) (zAA zq1) .none kV31 dc31 pm31 an31 cd31 ct31),sl31⟩) (c31:W.codeIn K cd31 "_law_right"=true) (k31:W.keepIn K (.ref f31)=true)
  (a32:W.nsIn K mainGlobals "_law_many"=some (some (.ref f32))) (l32:K.lookup f32=some ⟨oc32,od32,.func (W.fnOf "_law_many" "_law_many" (zAQ zqm) (zAF zqm) (zAA zqm) .none kV32 dc32 pm32 an32 cd32 ct32),sl32⟩) (c32:W.codeIn K cd32 "_law_many"=true) (k32:W.keepIn K (.ref f32)=true)
  (a33:W.nsIn K mainGlobals "law"=some (some (.ref f33))) (l33:K.lookup f33=some ⟨oc33,od33,.func (W.fnOf "law" "law" (zAQ zq11) (zAF zq11) (zAA zq11) .none kV33 dc33 pm33 an33 cd33 ct33),sl33⟩) (c33:W.codeIn K cd33 "law"=true) (k33:W.keepIn K (.ref f33)=true)
  (z0:W.nsIn K mainGlobals "list"=some none) (z1:W.nsIn K mainGlobals "enumerate"=some none) (z2:W.nsIn K mainGlobals "int"=some none) (z3:W.nsIn K mainGlobals "sum"=some none) (z4:W.nsIn K mainGlobals "range"=some none) (z5:W.nsIn K mainGlobals "sorted"=some none) (z6:W.nsIn K mainGlobals "max"=some none) (z7:W.nsIn K mainGlobals "min"=some none) (z8:W.nsIn K mainGlobals "len"=some none) (z9:W.nsIn K mainGlobals "repr"=some none) (z10:W.nsIn K mainGlobals "isinstance"=some none) (z11:W.nsIn K mainGlobals "zip"=some none) (z12:W.nsIn K mainGlobals "bool"=some none) (z13:W.nsIn K mainGlobals "tuple"=some none) (z14:W.nsIn K mainGlobals "str"=some none) (z15:W.nsIn K mainGlobals "dict"=some none) (z16:W.nsIn K mainGlobals "abs"=some none) :
  ∃ fd:FuncData,(∀ (s:Shared) (v:Value),BindsTo s fd ⟨[v],[]⟩ [("script",v)])/\∀ base:Heap,K.In base->base.Ns mainGlobals mg->FnOk l.prog w K mg base CX0 8 fa fd ["script"] (zE0 K):=by
 have e:=hfa.symm.trans (W.mg_of X G a33)
 cases e
 have F0:=zAW (st:=zqt) l0 c0 k0
 have b0:=F0.binds (ps:=["script","many"]) λ_ _ _ _ _ _ us hl=>match us,hl with | [_,_],_=>rfl
 have F1:=zAW (st:=zq13) l1 c1 k1
 have b1:=F1.binds (ps:=["cell","k"]) λ_ _ _ _ _ _ us hl=>match us,hl with | [_,_],_=>rfl
 have F2:=zAW (st:=zq14) l2 c2 k2
 have b2:=F2.binds (ps:=["hand","limit"]) λ_ _ _ _ _ _ us hl=>match us,hl with | [_,_],_=>rfl
 have F3:=zAW (st:=zqg) l3 c3 k3
 have b3:=F3.binds (ps:=["hand","many"]) λ_ _ _ _ _ _ us hl=>match us,hl with | [_,_],_=>rfl
 have F4:=zAW (st:=zqo) l4 c4 k4
 have b4:=F4.binds (ps:=["hand","k","most","far"]) λ_ _ _ _ _ _ us hl=>match us,hl with | [_,_,_,_],_=>rfl
 have F5:=zAW (st:=zqu) l5 c5 k5
 have b5:=F5.binds (ps:=["row"]) λ_ _ _ _ _ _ us hl=>match us,hl with | [_],_=>rfl
 have F6:=zAW (st:=zqn) l6 c6 k6
 have b6:=F6.binds (ps:=["ahead"]) λ_ _ _ _ _ _ us hl=>match us,hl with | [_],_=>rfl
 have F7:=zAW (st:=zq0) l7 c7 k7
 have b7:=F7.binds (ps:=["ahead","many","low"]) λ_ _ _ _ _ _ us hl=>match us,hl with | [_,_,_],_=>rfl
 have F8:=zAW (st:=zq3) l8 c8 k8
 have b8:=F8.binds (ps:=["ahead","many","low","high"]) λ_ _ _ _ _ _ us hl=>match us,hl with | [_,_,_,_],_=>rfl
 have F9:=zAW (st:=zq10) l9 c9 k9
 have b9:=F9.binds (ps:=["row","cut"]) λ_ _ _ _ _ _ us hl=>match us,hl with | [_,_],_=>rfl
 have F10:=zAW (st:=zqv) l10 c10 k10
 have b10:=F10.binds (ps:=["found","due"]) λ_ _ _ _ _ _ us hl=>match us,hl with | [_,_],_=>rfl
 have F11:=zAW (st:=zq16) l11 c11 k11
 have b11:=F11.binds (ps:=["thing"]) λ_ _ _ _ _ _ us hl=>match us,hl with | [_],_=>rfl
 have F12:=zAW (st:=zqw) l12 c12 k12
 have b12:=F12.binds (ps:=["thing","low","high"]) λ_ _ _ _ _ _ us hl=>match us,hl with | [_,_,_],_=>rfl
 have F13:=zAW (st:=zqs) l13 c13 k13
 have b13:=F13.binds (ps:=["row","many"]) λ_ _ _ _ _ _ us hl=>match us,hl with | [_,_],_=>rfl
 have F14:=zAW (st:=zqp) l14 c14 k14
 have b14:=F14.binds (ps:=["row"]) λ_ _ _ _ _ _ us hl=>match us,hl with | [_],_=>rfl
 have F15:=zAW (st:=zqj) l15 c15 k15
 have b15:=F15.binds (ps:=["row"]) λ_ _ _ _ _ _ us hl=>match us,hl with | [_],_=>rfl
 have F16:=zAW (st:=zqf) l16 c16 k16
 have b16:=F16.binds (ps:=["row","bound"]) λ_ _ _ _ _ _ us hl=>match us,hl with | [_,_],_=>rfl
 have F17:=zAW (st:=zq4) l17 c17 k17
 have b17:=F17.binds (ps:=["row","many"]) λ_ _ _ _ _ _ us hl=>match us,hl with | [_,_],_=>rfl
 have F18:=zAW (st:=zqc) l18 c18 k18
 have b18:=F18.binds (ps:=["row","many"]) λ_ _ _ _ _ _ us hl=>match us,hl with | [_,_],_=>rfl
 have F19:=zAW (st:=zql) l19 c19 k19
 have b19:=F19.binds (ps:=["row","bound"]) λ_ _ _ _ _ _ us hl=>match us,hl with | [_,_],_=>rfl
 have F20:=zAW (st:=zqh) l20 c20 k20
 have b20:=F20.binds (ps:=["row","bound"]) λ_ _ _ _ _ _ us hl=>match us,hl with | [_,_],_=>rfl
 have F21:=zAW (st:=zqa) l21 c21 k21
 have b21:=F21.binds (ps:=["row","many"]) λ_ _ _ _ _ _ us hl=>match us,hl with | [_,_],_=>rfl
 have F22:=zAW (st:=zq9) l22 c22 k22
 have b22:=F22.binds (ps:=["row","ahead","end","bound"]) λ_ _ _ _ _ _ us hl=>match us,hl with | [_,_,_,_],_=>rfl
 have F23:=zAW (st:=zq7) l23 c23 k23
 have b23:=F23.binds (ps:=["row","many","bound"]) λ_ _ _ _ _ _ us hl=>match us,hl with | [_,_,_],_=>rfl
 have F24:=zAW (st:=zqb) l24 c24 k24
 have b24:=F24.binds (ps:=["row","many"]) λ_ _ _ _ _ _ us hl=>match us,hl with | [_,_],_=>rfl
 have F25:=zAW (st:=zqk) l25 c25 k25
 have b25:=F25.binds (ps:=["ranges","many"]) λ_ _ _ _ _ _ us hl=>match us,hl with | [_,_],_=>rfl
 have F26:=zAW (st:=zq5) l26 c26 k26
 have b26:=F26.binds (ps:=["row","low","high"]) λ_ _ _ _ _ _ us hl=>match us,hl with | [_,_,_],_=>rfl
 have F27:=zAW (st:=zqi) l27 c27 k27
 have b27:=F27.binds (ps:=["row","many","low","high"]) λ_ _ _ _ _ _ us hl=>match us,hl with | [_,_,_,_],_=>rfl
 have F28:=zAW (st:=zq2) l28 c28 k28
 have b28:=F28.binds (ps:=["row","many"]) λ_ _ _ _ _ _ us hl=>match us,hl with | [_,_],_=>rfl
 have F29:=zAW (st:=zqe) l29 c29 k29
 have b29:=F29.binds (ps:=["row","many","low","high","place"]) λ_ _ _ _ _ _ us hl=>match us,hl with | [_,_,_,_,_],_=>rfl
 have F30:=zAW (st:=zq8) l30 c30 k30
 have b30:=F30.binds (ps:=["row","many"]) λ_ _ _ _ _ _ us hl=>match us,hl with | [_,_],_=>rfl
 have F31:=zAW (st:=zq1) l31 c31 k31
 have b31:=F31.binds (ps:=["row","many"]) λ_ _ _ _ _ _ us hl=>match us,hl with | [_,_],_=>rfl
 have F32:=zAW (st:=zqm) l32 c32 k32
 have b32:=F32.binds (ps:=["hand","row"]) λ_ _ _ _ _ _ us hl=>match us,hl with | [_,_],_=>rfl
 have F33:=zAW (st:=zq11) l33 c33 k33
 have b33:=F33.binds (ps:=["script"]) λ_ _ _ _ _ _ us hl=>match us,hl with | [_],_=>rfl
 have B:Bl mg:=⟨W.mg_none_of X G z0,W.mg_none_of X G z1,W.mg_none_of X G z2,W.mg_none_of X G z3,W.mg_none_of X G z4,W.mg_none_of X G z5,W.mg_none_of X G z6,W.mg_none_of X G z7,W.mg_none_of X G z8,W.mg_none_of X G z9,W.mg_none_of X G z10,W.mg_none_of X G z11,W.mg_none_of X G z12,W.mg_none_of X G z13,W.mg_none_of X G z14,W.mg_none_of X G z15,W.mg_none_of X G z16⟩
 refine⟨W.fnOf "law" "law" (zAQ zq11) (zAF zq11) (zAA zq11) .none kV33 dc33 pm33 an33 cd33 ct33,λs v=>.of_eq rfl,λbase _ _=>?_⟩
 have zq3s:Def l.prog w K mg base 1 "_law_cells" ["script","many"] (zq4c K):=⟨f0,_,zqe6 (P:=l.prog) (w:=w) (base:=base) B  F0,b0,k0,W.mg_of X G a0⟩
 have zq4v:Def l.prog w K mg base 1 "_law_hand" ["cell","k"] zq5b:=⟨f1,_,zqel (P:=l.prog) (w:=w) (base:=base) B  F1,b1,k1,W.mg_of X G a1⟩
 have zqd:Def l.prog w K mg base 1 "_law_draw" ["hand","limit"] zq1p:=⟨f2,_,zqem (P:=l.prog) (w:=w) (base:=base) B  F2,b2,k2,W.mg_of X G a2⟩
 have zq5z:Def l.prog w K mg base 2 "_law_row" ["hand","many"] zq6k:=⟨f3,_,zqf6 (P:=l.prog) (w:=w) (base:=base) B zqd F3,b3,k3,W.mg_of X G a3⟩
 have zq4w:Def l.prog w K mg base 2 "_law_size" ["hand","k","most","far"] zq5c:=⟨f4,_,zqep (P:=l.prog) (w:=w) (base:=base) B zqd F4,b4,k4,W.mg_of X G a4⟩
 have zq3q:Def l.prog w K mg base 1 "_law_ahead" ["row"] zq4m:=⟨f5,_,zqeh (P:=l.prog) (w:=w) (base:=base) B  F5,b5,k5,W.mg_of X G a5⟩
 have zq4r:Def l.prog w K mg base 1 "_law_lows" ["ahead"] zq5j:=⟨f6,_,zqez (P:=l.prog) (w:=w) (base:=base) B  F6,b6,k6,W.mg_of X G a6⟩
 have zq26:Def l.prog w K mg base 1 "_law_least_end" ["ahead","many","low"] zq2t:=⟨f7,_,zqbm (P:=l.prog) (w:=w) (base:=base) B  F7,b7,k7,W.mg_of X G a7⟩
 have zq3r:Def l.prog w K mg base 1 "_law_first" ["ahead","many","low","high"] zq4n:=⟨f8,_,zqei (P:=l.prog) (w:=w) (base:=base) B  F8,b8,k8,W.mg_of X G a8⟩
 have zq4s:Def l.prog w K mg base 1 "_law_sums" ["row","cut"] zq5f:=⟨f9,_,zqeu (P:=l.prog) (w:=w) (base:=base) B  F9,b9,k9,W.mg_of X G a9⟩
 have zq4t:Def l.prog w K mg base 1 "_law_told" ["found","due"] zq5h:=⟨f10,_,zqex (P:=l.prog) (w:=w) (base:=base) B  F10,b10,k10,W.mg_of X G a10⟩
 have zq4f:Def l.prog w K mg base 1 "is_whole" ["thing"] zq5d:=⟨f11,_,zqer (P:=l.prog) (w:=w) (base:=base) B  F11,b11,k11,W.mg_of X G a11⟩
 have zq1e:Def l.prog w K mg base 2 "is_within" ["thing","low","high"] zq2e:=⟨f12,_,zqe9 (P:=l.prog) (w:=w) (base:=base) B zq4f F12,b12,k12,W.mg_of X G a12⟩
 have zq6:Def l.prog w K mg base 3 "check_many" ["row","many"] zqr:=⟨f13,_,zqdu (P:=l.prog) (w:=w) (base:=base) B zq1e F13,b13,k13,W.mg_of X G a13⟩
 have zq18:Def l.prog w K mg base 1 "sums_ahead" ["row"] zq1m:=⟨f14,_,zqdv (P:=l.prog) (w:=w) (base:=base) B  F14,b14,k14,W.mg_of X G a14⟩
 have zq2i:Def l.prog w K mg base 2 "stretch_sums" ["row"] zq33:=⟨f15,_,zqck (P:=l.prog) (w:=w) (base:=base) B zq18 F15,b15,k15,W.mg_of X G a15⟩
 have zq1c:Def l.prog w K mg base 1 "short_ends" ["row","bound"] zq21:=⟨f16,_,zqe2 (P:=l.prog) (w:=w) (base:=base) B  F16,b16,k16,W.mg_of X G a16⟩
 have zq1u:Def l.prog w K mg base 2 "greatest_bound" ["row","many"] zq2b:=⟨f17,_,zqap (P:=l.prog) (w:=w) (base:=base) B zq1c F17,b17,k17,W.mg_of X G a17⟩
 have zq1v:Def l.prog w K mg base 4 "greatest_least" ["row","many"] zq2c:=⟨f18,_,zqaq (P:=l.prog) (w:=w) (base:=base) B zq6 zq1u zq1c F18,b18,k18,W.mg_of X G a18⟩
 have zq4h:Def l.prog w K mg base 1 "long_cut" ["row","bound"] zq5e:=⟨f19,_,zqet (P:=l.prog) (w:=w) (base:=base) B  F19,b19,k19,W.mg_of X G a19⟩
 have zq24:Def l.prog w K mg base 2 "fewest_pieces" ["row","bound"] zq2n:=⟨f20,_,zqbe (P:=l.prog) (w:=w) (base:=base) B zq4h F20,b20,k20,W.mg_of X G a20⟩
 have zq2x:Def l.prog w K mg base 3 "least_bound" ["row","many"] zq3c:=⟨f21,_,zqdc (P:=l.prog) (w:=w) (base:=base) B zq24 F21,b21,k21,W.mg_of X G a21⟩
 have zq1t:Def l.prog w K mg base 1 "earliest_begin" ["row","ahead","end","bound"] zq29:=⟨f22,_,zqam (P:=l.prog) (w:=w) (base:=base) B  F22,b22,k22,W.mg_of X G a22⟩
 have zq2g:Def l.prog w K mg base 2 "earliest_cut" ["row","many","bound"] zq32:=⟨f23,_,zqcj (P:=l.prog) (w:=w) (base:=base) B zq1t F23,b23,k23,W.mg_of X G a23⟩
 have zq1w:Def l.prog w K mg base 4 "least_greatest" ["row","many"] zq2a:=⟨f24,_,zqan (P:=l.prog) (w:=w) (base:=base) B zq6 zq2x zq2g F24,b24,k24,W.mg_of X G a24⟩
 have zq19:Def l.prog w K mg base 1 "count_ways" ["ranges","many"] zq20:=⟨f25,_,zqdx (P:=l.prog) (w:=w) (base:=base) B  F25,b25,k25,W.mg_of X G a25⟩
 have zq1a:Def l.prog w K mg base 2 "end_ranges" ["row","low","high"] zq1z:=⟨f26,_,zqdw (P:=l.prog) (w:=w) (base:=base) B zq18 F26,b26,k26,W.mg_of X G a26⟩
 have zq2j:Def l.prog w K mg base 4 "cuts_between" ["row","many","low","high"] zq31:=⟨f27,_,zqcg (P:=l.prog) (w:=w) (base:=base) B zq6 zq19 zq1a F27,b27,k27,W.mg_of X G a27⟩
 have zq2y:Def l.prog w K mg base 5 "near_bounds" ["row","many"] zq3d:=⟨f28,_,zqdf (P:=l.prog) (w:=w) (base:=base) B zq2i zq1v zq1w zq2j F28,b28,k28,W.mg_of X G a28⟩
 have zq71:Def l.prog w K mg base 4 "cut_at" ["row","many","low","high","place"] zq7e:=⟨f29,_,zqfj (P:=l.prog) (w:=w) (base:=base) B zq6 zq1a zq19 zq1e F29,b29,k29,W.mg_of X G a29⟩
 have zq2l:Def l.prog w K mg base 6 "least_spread" ["row","many"] zq35:=⟨f30,_,zqcl (P:=l.prog) (w:=w) (base:=base) B zq6 zq2y zq71 F30,b30,k30,W.mg_of X G a30⟩
 have zq3t:Def l.prog w K mg base 7 "_law_right" ["row","many"] zq4u:=⟨f31,_,zqej (P:=l.prog) (w:=w) (base:=base) B zq3q zq4r zq26 zq3r zq4s zq4t zq2l F31,b31,k31,W.mg_of X G a31⟩
 have zq4x:Def l.prog w K mg base 2 "_law_many" ["hand","row"] zq5g:=⟨f32,_,zqev (P:=l.prog) (w:=w) (base:=base) B zqd F32,b32,k32,W.mg_of X G a32⟩
 exact zqfp (P:=l.prog) (w:=w) (base:=base) B zq3s zq4v zq5z zq4w zq3t zq4x F33
theorem walk {l:W.OpenLaw}{q:Program}{loose:List Str}{XP:(Str->Option Value)->Heap->Prop}{YP:World->Heap->Prop}{d:DefRec}{K:Params->W.Frag}(hn:l.most=some 63)(hdf:d.params.defaults=[])
  (hY:∀ (w:World) (h:Heap),YP w h->(K w.params).In h)
  (F:∀ (w:World) (mg:Str->Option Value) (fa:Addr) (h:Heap),(K w.params).In h->h.Ns mainGlobals mg->mg d.name=some (.ref fa) ->
   ∃ fd:FuncData,(∀ (s:Shared) (u:Value),BindsTo s fd ⟨[u],[]⟩ [("script",u)])/\∀ base:Heap,(K w.params).In base->base.Ns mainGlobals mg->FnOk l.prog w (K w.params) mg base CX0 8 fa fd ["script"] (zE0 (K w.params))) :
  W.WalkO q loose XP YP l.row.toRowW d [] (λf vs=>PySem.call f vs) :=
 L2.walk_of (n:=63) (k:=8) (x:="script") (CX:=λ_=>CX0) (sp:=λw=>zE0 (K w.params)) hn (by decide) hdf ⟨rfl,by decide,by decide,rfl⟩ hY F (λ_ _ a ns hl _ hS=>⟨a,ns,rfl,hS,hl,λ_=>rfl⟩) λ_ _ _ _ _ z=>z
end K
namespace PySem.W.Fast
def tw10087114490218102131:=0
def tw10113129739886651043:=0
def tw10209499382445852853:=0
def tw10263362373895921075:=0
def tw10275744040613384616:=0
def tw10307864536129117721:=0
def tw10333577790772253365:=0
def tw10380326440302171600:=0
def tw10468086120995607089:=0
def tw10687710675042124205:=0
def tw10695443111511982332:=0
def tw10751615575497455501:=0
def tw10811117617792649681:=0
def tw10825486924893508724:=0
def tw10995587697210802475:=0
def tw11003692385759623553:=0
def tw1103396750989612606:=0
def tw11044054134867670184:=0
def tw11102306105294410770:=0
def tw1110462434637667553:=0
def tw11205519472680361365:=0
def tw11231786046118940145:=0
def tw11244929394661733538:=0
def tw11252529845717585789:=0
def tw11529379837622717431:=0
def tw11577401798230067831:=0
def tw11731982695673248068:=0
def tw11756144666078450764:=0
def tw11782168754331127319:=0
def tw11951455708754960563:=0
def tw12153172650760450321:=0
def tw12170752708199765036:=0
def tw12252277086226918630:=0
def tw12285840254687023535:=0
def tw12348610827569092818:=0
def tw12424901879304205473:=0
def tw12449572317989106516:=0
def tw12795880716438908502:=0
def tw12835273599941588342:=0
def tw12870631734616084745:=0
def tw12890714109513543000:=0
def tw12977725459258018533:=0
def tw13039632483865077625:=0
def tw13057057632008639475:=0
def tw13173711391324170670:=0
def tw13202024869408071724:=0
def tw13242030821507747846:=0
def tw13466761572620919687:=0
def tw13701113513772766626:=0
def tw13915243840387596800:=0
def tw13954915171460635717:=0
def tw13961911765740499352:=0
def tw13997529952397221897:=0
def tw14259222522902506581:=0
def tw14277714675306111617:=0
def tw1442116482692272071:=0
def tw14571562517438537689:=0
def tw14600876980044534382:=0
def tw14777766215630933101:=0
def tw1479392430787799610:=0
def tw14797430653256446969:=0
def tw14820643549394556150:=0
def tw14841389547811226924:=0
def tw1484696513823301381:=0
def tw14862628959676274762:=0
def tw14882797885100542935:=0
def tw14884567314387222489:=0
def tw14954137002604539237:=0
def tw15050216027574048177:=0
def tw15059566151388376955:=0
def tw15106332086277632866:=0
def tw15168469836954664325:=0
def tw1519961528242403416:=0
def tw15250559809277645072:=0
def tw15358662625181723072:=0
def tw15423661548599199023:=0
def tw15450662362057106191:=0
def tw15464110947869877101:=0
def tw15479218572731494692:=0
def tw15549873670065123773:=0
def tw15628045481875283050:=0
def tw15631538612803015404:=0
def tw15640819935630721679:=0
def tw15719311017317760493:=0
def tw15753392280816542625:=0
def tw15757689348983713713:=0
def tw1576540958713603370:=0
def tw15796266078092071491:=0
def tw16006226714732524355:=0
def tw1601107842530733655:=0
def tw16172181600396541028:=0
def tw16198459024285945713:=0
def tw16297137663329177533:=0
def tw16302850108336534016:=0
def tw16308594218554148088:=0
def tw16380120010623329479:=0
def tw16397590533533166884:=0
def tw16505402520446984219:=0
def tw16582175008598899386:=0
def tw16603945217723974456:=0
def tw16608115047189493813:=0
def tw16689378993682242616:=0
def tw1680508298901981791:=0
def tw1681498010961921387:=0
def tw16845397380077942738:=0
def tw16873146118153817336:=0
def tw16987355957548060927:=0
def tw17009451454585340178:=0
def tw17140323274983333310:=0
def tw17166113691897060868:=0
def tw17248339477315133772:=0
def tw17280992598739493985:=0
def tw17318986423760901289:=0
def tw17417570913635264277:=0
def tw17487202586808579673:=0
def tw17651328676758745967:=0
def tw17659913747105514434:=0
def tw17666201279270328442:=0
def tw17694086055300971073:=0
def tw17704454110250858282:=0
def tw17714929431133418535:=0
def tw17753352153268498822:=0
def tw18041577919197926698:=0
def tw1805167157383387338:=0
def tw1824684332510597012:=0
def tw18258992785682413530:=0
def tw1826005659903142350:=0
def tw18274288552316570151:=0
def tw1870395890673684763:=0
def tw1871744618755381906:=0
def tw1909947652185825204:=0
def tw1951882783656714547:=0
def tw1988924135981687729:=0
def tw2047871651291989489:=0
def tw2092225060768971009:=0
def tw2319338891102948021:=0
def tw2380017219020535366:=0
def tw2381814728720277239:=0
def tw2382872359980032744:=0
def tw250287689159773755:=0
def tw251377779228178150:=0
def tw2605984787494512846:=0
def tw266927340135991622:=0
def tw2674045214280720997:=0
def tw2709005156232639666:=0
def tw3064932471358182072:=0
def tw3098202890214074562:=0
def tw3126097783990676572:=0
def tw3135974486482139692:=0
def tw3231101549253119852:=0
def tw323249380957276279:=0
def tw3376268139918994268:=0
def tw3394243551673142718:=0
def tw343448755532722017:=0
def tw3521388032048914255:=0
def tw3563987000424065966:=0
def tw3576884624468618886:=0
def tw3601175021845699452:=0
def tw3761190172093395762:=0
def tw4064610967050126927:=0
def tw4065738656461913256:=0
def tw4105791685282505874:=0
def tw4117344189162790249:=0
def tw4143719846204337829:=0
def tw4246666007971944503:=0
def tw4299485768767103347:=0
def tw4549629869001464116:=0
def tw4586919190009330853:=0
def tw4616919648519709423:=0
def tw4641335400381134061:=0
def tw4668226259987901222:=0
def tw4698923386497044460:=0
def tw4772365229395462647:=0
def tw4874704117685887657:=0
def tw4925776641521734201:=0
def tw5017298466275349461:=0
def tw5072958111284792634:=0
def tw522044834701112241:=0
def tw5420797161606012032:=0
def tw5527060545731842733:=0
def tw555486922674129284:=0
def tw5624218728552073300:=0
def tw5630741972172093866:=0
def tw5654986762144754316:=0
def tw573845564465914960:=0
def tw5742493902369867339:=0
def tw5839030295645080620:=0
def tw5881120795820228065:=0
def tw5958929193430710991:=0
def tw5993875314533375931:=0
def tw603404255796734125:=0
def tw606335966843452388:=0
def tw6080718995133260606:=0
def tw6091814914664983746:=0
def tw610810921515398113:=0
def tw6216720699107603614:=0
def tw6262065434047282035:=0
def tw6487909695483956800:=0
def tw6554791231524805276:=0
def tw6556994498997799956:=0
def tw6586998963664461150:=0
def tw6639926769983269555:=0
def tw7061804646689721563:=0
def tw7065697014316254989:=0
def tw7075869022423507359:=0
def tw7082375640049249028:=0
def tw7135959792135022052:=0
def tw7189514775816691970:=0
def tw7373027573635379948:=0
def tw7450022167288590174:=0
def tw7505918217899968588:=0
def tw7547183646058137683:=0
def tw7656968347849642621:=0
def tw7828103373995622035:=0
def tw7845143137833708082:=0
def tw7953320535671967757:=0
def tw8039377535638493227:=0
def tw8101650358524243125:=0
def tw8174719232538381412:=0
def tw8184983809042747079:=0
def tw8228099175620011006:=0
def tw8286180599308896414:=0
def tw8286789812023213219:=0
def tw8458456491176697588:=0
def tw8461407123039142730:=0
def tw8479719784333984375:=0
def tw871257308434489268:=0
def tw8833559951569363788:=0
def tw8891189546141206925:=0
def tw8991351998970378661:=0
def tw8992242561237057431:=0
def tw9016018112807216210:=0
def tw9031708525268006978:=0
def tw9053531243446025911:=0
def tw9071948208345156918:=0
def tw9096099659518146386:=0
def tw9125275368720294109:=0
def tw9166357453754977028:=0
def tw926044024675619637:=0
def tw9396341226471303480:=0
def tw942217290283084376:=0
def tw9423877494590361678:=0
def tw942751018515364984:=0
def tw9468816732506597138:=0
def tw951529489203787003:=0
def tw9516664873262310:=0
def tw9542052313596577608:=0
def tw9619737660783980:=0
def tw9635051484564399406:=0
def tw966990478367005993:=0
def tw9736752919583856971:=0
def tw9817256954491520529:=0
def tw9821531282605337804:=0
end PySem.W.Fast
open PySem PySem.W PyProof.Rows
set_option maxRecDepth 100000 in
set_option maxHeartbeats 0 in
theorem PySem.Challenge.cw_piecebounds_k20_least_spreads_of_longer_holds : PySem.Challenge.rw_piecebounds_k20_least_spreads_of_longer.Holds := by
  w_on; o_law; k_head; (case hw => w_witness2)
  k_fill
  refine K.walk (l := PySem.Challenge.rw_piecebounds_k20_least_spreads_of_longer) rfl rfl (fun w h Y => PySem.W.kIn_of Y) ?F
  case F =>
    intro w mg fa h KX G hmg
    refine' K.all_mk KX G hmg ?a0 ?l0 ?c0 ?k0 ?a1 ?l1 ?c1 ?k1 ?a2 ?l2 ?c2 ?k2 ?a3 ?l3 ?c3 ?k3 ?a4 ?l4 ?c4 ?k4 ?a5 ?l5 ?c5 ?k5 ?a6 ?l6 ?c6 ?k6 ?a7 ?l7 ?c7 ?k7 ?a8 ?l8 ?c8 ?k8 ?a9 ?l9 ?c9 ?k9 ?a10 ?l10 ?c10 ?k10 ?a11 ?l11 ?c11 ?k11 ?a12 ?l12 ?c12 ?k12 ?a13 ?l13 ?c13 ?k13 ?a14 ?l14 ?c14 ?k14 ?a15 ?l15 ?c15 ?k15 ?a16 ?l16 ?c16 ?k16 ?a17 ?l17 ?c17 ?k17 ?a18 ?l18 ?c18 ?k18 ?a19 ?l19 ?c19 ?k19 ?a20 ?l20 ?c20 ?k20 ?a21 ?l21 ?c21 ?k21 ?a22 ?l22 ?c22 ?k22 ?a23 ?l23 ?c23 ?k23 ?a24 ?l24 ?c24 ?k24 ?a25 ?l25 ?c25 ?k25 ?a26 ?l26 ?c26 ?k26 ?a27 ?l27 ?c27 ?k27 ?a28 ?l28 ?c28 ?k28 ?a29 ?l29 ?c29 ?k29 ?a30 ?l30 ?c30 ?k30 ?a31 ?l31 ?c31 ?k31 ?a32 ?l32 ?c32 ?k32 ?a33 ?l33 ?c33 ?k33 ?z0 ?z1 ?z2 ?z3 ?z4 ?z5 ?z6 ?z7 ?z8 ?z9 ?z10 ?z11 ?z12 ?z13 ?z14 ?z15 ?z16
    (case a0 | l0 | c0 | k0 | a1 | l1 | c1 | k1 | a2 | l2 | c2 | k2 | a3 | l3 | c3 | k3 | a4 | l4 | c4 | k4 | a5 | l5 | c5 | k5 | a6 | l6 | c6 | k6 | a7 | l7 | c7 | k7 | a8 | l8 | c8 | k8 | a9 | l9 | c9 | k9 | a10 | l10 | c10 | k10 | a11 | l11 | c11 | k11 | a12 | l12 | c12 | k12 | a13 | l13 | c13 | k13 | a14 | l14 | c14 | k14 | a15 | l15 | c15 | k15 | a16 | l16 | c16 | k16 | a17 | l17 | c17 | k17 | a18 | l18 | c18 | k18 | a19 | l19 | c19 | k19 | a20 | l20 | c20 | k20 | a21 | l21 | c21 | k21 | a22 | l22 | c22 | k22 | a23 | l23 | c23 | k23 | a24 | l24 | c24 | k24 | a25 | l25 | c25 | k25 | a26 | l26 | c26 | k26 | a27 | l27 | c27 | k27 | a28 | l28 | c28 | k28 | a29 | l29 | c29 | k29 | a30 | l30 | c30 | k30 | a31 | l31 | c31 | k31 | a32 | l32 | c32 | k32 | a33 | l33 | c33 | k33 | z0 | z1 | z2 | z3 | z4 | z5 | z6 | z7 | z8 | z9 | z10 | z11 | z12 | z13 | z14 | z15 | z16 => k_is)
