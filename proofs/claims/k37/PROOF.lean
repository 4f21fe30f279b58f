import PyProof.Rows.All
import Wide.All
import OpenK.AllK
import Wide.FinOn
import Lean
import PyProof.EqAt
import PyProof.EqKinds
import PyProof.TupleCall
import PySem.Challenge.RW_piecebounds_k37_no_such_many
set_option Elab.async false
set_option linter.all false
set_option maxRecDepth 100000
namespace L2
open PySem PySem.Spec PyProof.Rows
abbrev Key:=Sum Int Str
def keyIs:Key->Value->Bool
 | .inl k,v=>Value.isInt k v
 | .inr x,v=>Value.isStrOf x v
def keyH (w:World):Key->Int
 | .inl k=>hashInt k
 | .inr x=>hashStr w x
theorem keyIs_shape:∀ {k:Key} {v:Value},keyIs k v=true->(∃ i t,k=Sum.inl i/\v=Value.int i t)\/(∃ x t,k=Sum.inr x/\v=Value.str x t)
 | .inl i,v,h=>by
  obtain⟨t,e⟩:=Value.isInt_shape (k:=i) (v:=v) h
  exact .inl ⟨i,t,rfl,e⟩
 | .inr x,v,h=>by
  obtain⟨t,e⟩:=Value.isStrOf_shape (x:=x) (v:=v) h
  exact .inr ⟨x,t,rfl,e⟩
theorem key_ll (a b:Int):decide ((Sum.inl a:Key)=Sum.inl b)=(a == b):=by
 by_cases e:a=b
 ·subst e;simp
 ·have h:¬ (Sum.inl a:Key)=Sum.inl b:=λq=>e (Sum.inl.inj q)
  rw[decide_eq_false h]
  exact(beq_eq_false_iff_ne.mpr e).symm
theorem key_rr (a b:Str):decide ((Sum.inr a:Key)=Sum.inr b)=decide (a=b):=by
 by_cases e:a=b
 ·subst e;simp
 ·have h:¬ (Sum.inr a:Key)=Sum.inr b:=λq=>e (Sum.inr.inj q)
  rw[decide_eq_false h,decide_eq_false e]
theorem key_lr (a:Int)(b:Str):decide ((Sum.inl a:Key)=Sum.inr b)=false:=decide_eq_false (λq=>nomatch q)
theorem key_rl (a:Str)(b:Int):decide ((Sum.inr a:Key)=Sum.inl b)=false:=decide_eq_false (λq=>nomatch q)
def mixKind (prog:Program)(w:World):PySem.KeyKind prog w Key where
 is:=keyIs
 hash:=keyH w
 inj:=λv a b ha hb=>by
  rcases keyIs_shape ha with ⟨i,t,rfl,rfl⟩ | ⟨x,t,rfl,rfl⟩
  ·rcases keyIs_shape hb with ⟨j,u,rfl,e⟩ | ⟨y,u,rfl,e⟩
   ·injection e with e1 _;rw[e1]
   ·exact nomatch e
  ·rcases keyIs_shape hb with ⟨j,u,rfl,e⟩ | ⟨y,u,rfl,e⟩
   ·exact nomatch e
   ·injection e with e1 _;rw[e1]
 byValue:=λk v h=>by
  rcases keyIs_shape h with ⟨i,t,rfl,rfl⟩ | ⟨x,t,rfl,rfl⟩<;>rfl
 pyHash:=λhv h=>by
  rcases keyIs_shape hv with ⟨i,t,rfl,rfl⟩ | ⟨x,t,rfl,rfl⟩
  ·exact wpAny_pyHash_int h
  ·exact wpAny_pyHash_str h
 eqBool:=λhu hv h=>by
  rcases keyIs_shape hu with ⟨i,t,rfl,rfl⟩ | ⟨x,t,rfl,rfl⟩
  ·rcases keyIs_shape hv with ⟨j,u,rfl,rfl⟩ | ⟨y,u,rfl,rfl⟩
   ·rw[key_ll] at h;exact wpAny_eqBool_int h
   ·rw[key_lr] at h;exact SeqAt.EqAt.int_str i t y u _ _ _ _ h
  ·rcases keyIs_shape hv with ⟨j,u,rfl,rfl⟩ | ⟨y,u,rfl,rfl⟩
   ·rw[key_rl] at h;exact SeqAt.EqAt.str_int x t j u _ _ _ _ h
   ·rw[key_rr] at h;exact wpAny_eqBool_str h
 «strs»:=λk x t v h=>by
  rcases keyIs_shape h with ⟨i,u,rfl,e⟩ | ⟨y,u,rfl,e⟩
  ·exact nomatch e
  ·injection e with e1 _
   subst e1
   cases v<;>rfl
end L2
namespace L2
open PySem PySem.Spec PyProof.Rows
inductive V where
 | non | bl (b:Bool) | int (i:Int) | str (x:Str) | byt (b:Array UInt8) | flt (b:UInt64) | ref (a:Addr) | ty (n:String)
 deriving DecidableEq
def RelV:V->Value->Prop
 | .non,u=>u=Value.none
 | .bl b,u=>u=Value.bool b
 | .int i,u=>∃ t,u=Value.int i t
 | .str x,u=>∃ t,u=Value.str x t
 | .byt b,u=>∃ t,u=Value.bytes b t
 | .flt b,u=>∃ t,u=Value.float b t
 | .ref a,u=>u=Value.ref a
 | .ty n,u=>u=Value.type n
abbrev Vals:List V->List Value->Prop:=Paired RelV
theorem Vals.length {xs:List V}{us:List Value}(r:Vals xs us):xs.length=us.length:=Paired.length r
theorem Vals.get:∀ {xs:List V} {us:List Value} {i:Nat} {x:V},Vals xs us->xs[i]?=some x->∃ u,us[i]?=some u/\RelV x u
 | _,_,_,_,.nil,e=>by simp at e
 | _,_,0,_,.cons r _,e=>by simp at e;subst e;exact⟨_,rfl,r⟩
 | _,_,i+1,x,.cons _ t,e=>by
  obtain⟨u,h1,h2⟩:=Vals.get (i:=i) (x:=x) t (by simpa using e)
  exact⟨u,by simpa using h1,h2⟩
theorem Vals.set {x:V}{u:Value}(r:RelV x u):∀ {xs:List V} {us:List Value} (i:Nat),Vals xs us->Vals (xs.set i x) (us.set i u)
 | _,_,_,.nil=>.nil
 | _,_,0,.cons _ t=>.cons r t
 | _,_,i+1,.cons q t=>.cons q (Vals.set r i t)
theorem Vals.append:∀ {xs ys:List V} {us ws:List Value},Vals xs us->Vals ys ws->Vals (xs++ys) (us++ws)
 | _,_,_,_,.nil,s=>s
 | _,_,_,_,.cons r t,s=>.cons r (Vals.append t s)
theorem Vals.take:∀ {xs:List V} {us:List Value} (n:Nat),Vals xs us->Vals (xs.take n) (us.take n)
 | _,_,0,_=>.nil
 | _,_,_+1,.nil=>.nil
 | _,_,n+1,.cons r t=>.cons r (Vals.take n t)
theorem Vals.drop:∀ {xs:List V} {us:List Value} (n:Nat),Vals xs us->Vals (xs.drop n) (us.drop n)
 | _,_,0,r=>r
 | _,_,_+1,.nil=>.nil
 | _,_,n+1,.cons _ t=>Vals.drop n t
def RelO:Option V->Option Value->Prop
 | some v,some u=>RelV v u
 | none,none=>True
 | _,_=>False
def KV {κ:Type}:List (κ×V)->List (κ×Value)->Prop:=Paired λ(p:κ×V) (q:κ×Value)=>p.1=q.1/\RelV p.2 q.2
def kV:Key->V
 | .inl i=>.int i
 | .inr x=>.str x
inductive HO where
  | lst (xs:List V)
  | tup (xs:List V)
  | dK (kvs:List (Key×V)) | dT (kvs:List (List Key×V))
  | set (S:Int->Bool) (n:Nat)
  | ins (C dx:Addr) (fs:List (Str×V))
  | own (x:Addr)
  | xd (fs:List (Str×V))
  | met (f x:Addr)
  | rng (lo hi:Int)
  | frz (o:Obj) (u:HO)
  | tbl (ps:Array Value)
  | ext (φ:Heap->Prop)
abbrev Hp:=Addr->Option HO
def upd (H:Hp)(a:Addr)(o:HO):Hp:=λb=>if b=a then some o else H b
theorem upd_same {H:Hp}{a:Addr}{o:HO}:upd H a o a=some o:=by unfold upd;rw[if_pos rfl]
theorem upd_ne {H:Hp}{a b:Addr}{o:HO}(h:b≠a):upd H a o b=H b:=by unfold upd;rw[if_neg h]
theorem ne_of_none {H:Hp}{a b:Addr}{o:HO}(h:H a=some o)(h':H b=none):a≠b:=by
 intro e;subst e;rw[h] at h';cases h'
section
variable (P:Program)(w:World)
def ObjOk (H:Hp)(h:Heap)(a:Addr):HO->Prop
 | .lst xs=>xs.length<=sizeLine/\∃ (its:List Value) (n:Nat),Vals xs its/\h.get? a=some { cls:=.type "list",data:=.seq its.toArray n }
 | .tup xs=>xs.length<=sizeLine/\∃ its:List Value,Vals xs its/\IsTup h a its.toArray
 | .dK kvs=>kvs.length<=sizeLine/\(a == sysModules)=false/\∃ vs,KV kvs vs/\h.DictOf (mixKind P w) a vs
 | .dT kvs=>kvs.length<=sizeLine/\(a == sysModules)=false/\∃ xs:List (List Key×Addr×Value),
   Paired (λ(p:List Key×V) (q:List Key×Addr×Value)=>p.1=q.1/\H q.2.1=some (.tup (p.1.map kV))/\RelV p.2 q.2.2) kvs xs /\
   ∃ o es ep,h.get? a=some o/\o.ExactDict/\o.data=.dict es ep/\es.toList=xs.map (entryOfKey (tupleKind (mixKind P w)))/\(xs.map (·.1)).Nodup
 | .set S n=>h.SetOf (intKind P w) a S n
 | .ins C dx fs=>H dx=some (.own a)/\fs.length<=1000/\dx≠a/\h.get? a=some (W.instObj C dx) /\
   ∃ mA,h.Ns1 dx mA/\(∀ f,RelO (fs.lookup f) (mA f))/\PySem.Within mA (fs.map (·.1))
 | .own _=>∃ o,h.get? a=some o
 | .xd fs=>∃ mA,h.Ns1 a mA/\∀ f,RelO (fs.lookup f) (mA f)
 | .rng lo hi=>∃ t u v,h.get? a=some { cls:=.type "range",data:=.fields #[.int lo t,.int hi u,.int 1 v] }
 | .frz o u=>h.get? a=some o/\ObjOk H h a u
 | .tbl ps=>h.get? a=some { cls:=.none,data:=.fields ps }
 | .met f x=>h.get? a=some (W.methodObj (.ref f) (.ref x))
 | .ext φ=>φ h/\(∃ o,h.get? a=some o)/\∀ h1 h2:Heap,φ h1->(∀ o,h1.get? a=some o->h2.get? a=some o)->φ h2
def HOk (H:Hp)(h:Heap):Prop:=∀ a o,H a=some o->ObjOk P w H h a o
end
section
variable {P:Program}{w:World}{H H':Hp}{h h':Heap}{a:Addr}{o:HO}
theorem ObjOk.lt (x:ObjOk P w H h a o):a<h.objs.size:=by
 cases o with
 | lst xs=>obtain⟨_,_,_,_,e⟩:=x;exact Heap.lt_size e
 | tup xs=>obtain⟨_,_,_,p⟩:=x;exact p.lt
 | dK kvs=>obtain⟨_,_,_,_,o,_,_,e,_⟩:=x;exact Heap.lt_size e
 | dT kvs=>obtain⟨_,_,_,_,o,_,_,e,_⟩:=x;exact Heap.lt_size e
 | set S n=>obtain⟨o,_,_,_,e,_⟩:=x;exact Heap.lt_size e
 | ins C dx fs=>obtain⟨_,_,_,e,_⟩:=x;exact Heap.lt_size e
 | own y=>obtain⟨_,e⟩:=x;exact Heap.lt_size e
 | xd fs=>obtain⟨_,⟨_,_,_,e,_⟩,_⟩:=x;exact Heap.lt_size e
 | rng lo hi=>obtain⟨_,_,_,e⟩:=x;exact Heap.lt_size e
 | frz ob u=>obtain⟨e,_⟩:=x;exact Heap.lt_size e
 | tbl ps=>exact Heap.lt_size (show h.get? a=some _ from x)
 | met f y=>exact Heap.lt_size (show h.get? a=some _ from x)
 | ext φ=>obtain⟨_,⟨_,e⟩,_⟩:=x;exact Heap.lt_size e
theorem Paired.mapP {α β:Type}{F G:α->β->Prop}:∀ {l₁:List α} {l₂:List β},Paired F l₁ l₂->(∀ a b,F a b->G a b)->Paired G l₁ l₂
 | _,_,.nil,_=>.nil
 | _,_,.cons r t,f=>.cons (f _ _ r) (Paired.mapP t f)
theorem Paired.imp' {α β:Type}{F G:α->β->Prop}(f:∀ a b,F a b->G a b){l₁:List α}{l₂:List β}(r:Paired F l₁ l₂):Paired G l₁ l₂:=Paired.mapP r f
theorem ObjOk.stay (x:ObjOk P w H h a o)(k:∀ b u,(b=a\/H b=some (.own a))->h.get? b=some u->h'.get? b=some u)
  (ho:∀ b,H b=some (.own a)->H' b=some (.own a)) (ht:∀ b xs,H b=some (.tup xs)->H' b=some (.tup xs)):ObjOk P w H' h' a o:=by
 induction o with
 | lst xs=>obtain⟨z,its,n,r,e⟩:=x;exact⟨z,its,n,r,k _ _ (.inl rfl) e⟩
 | tup xs=>obtain⟨z,its,r,ob,e,c⟩:=x;exact⟨z,its,r,ob,k _ _ (.inl rfl) e,c⟩
 | dK kvs=>obtain⟨z,y,vs,r,ob,es,ep,e,c⟩:=x;exact⟨z,y,vs,r,ob,es,ep,k _ _ (.inl rfl) e,c⟩
 | dT kvs =>
  obtain⟨z,y,xs,r,ob,es,ep,e,c⟩:=x
  exact⟨z,y,xs,Paired.mapP r λp q z=>⟨z.1,ht _ _ z.2.1,z.2.2⟩,ob,es,ep,k _ _ (.inl rfl) e,c⟩
 | set S n=>obtain⟨ob,es,ep,t,e,c⟩:=x;exact⟨ob,es,ep,t,k _ _ (.inl rfl) e,c⟩
 | ins C dx fs =>
  obtain⟨d,z,ne,e,mA,⟨od,es,ep,e2,c⟩,r⟩:=x
  exact⟨ho _ d,z,ne,k _ _ (.inl rfl) e,mA,⟨od,es,ep,k _ _ (.inr d) e2,c⟩,r⟩
 | own y=>obtain⟨ob,e⟩:=x;exact⟨ob,k _ _ (.inl rfl) e⟩
 | xd fs=>obtain⟨mA,⟨od,es,ep,e,c⟩,r⟩:=x;exact⟨mA,⟨od,es,ep,k _ _ (.inl rfl) e,c⟩,r⟩
 | rng lo hi=>obtain⟨t,u,v,e⟩:=x;exact⟨t,u,v,k _ _ (.inl rfl) e⟩
 | frz ob u ih=>obtain⟨e,q⟩:=x;exact⟨k _ _ (.inl rfl) e,ih q⟩
 | tbl ps =>
  have e:h.get? a=some { cls:=.none,data:=.fields ps }:=x
  show h'.get? a=some { cls:=.none,data:=.fields ps }
  exact k a _ (.inl rfl) e
 | met f y =>
  have e:h.get? a=some (W.methodObj (.ref f) (.ref y)):=x
  show h'.get? a=some (W.methodObj (.ref f) (.ref y))
  exact k a _ (.inl rfl) e
 | ext φ=>obtain⟨p,⟨o,e⟩,st⟩:=x;exact⟨st _ _ p λo q=>k _ _ (.inl rfl) q,⟨o,k _ _ (.inl rfl) e⟩,st⟩
theorem HOk.lt (x:HOk P w H h)(e:H a=some o):a<h.objs.size:=(x a o e).lt
theorem HOk.fresh (x:HOk P w H h)(e:h.objs.size<=a):H a=none:=by
 cases q:H a with
 | none=>rfl
 | some u=>exact absurd (Nat.lt_of_lt_of_le (x.lt q) e) (Nat.lt_irrefl _)
theorem HOk.kept (x:HOk P w H h)(k:∀ b u,h.get? b=some u->h'.get? b=some u):HOk P w H h':=λa o e =>
 (x a o e).stay (λb u _ q=>k b u q) (λ_ q=>q) λ_ _ q=>q
theorem HOk.laid (x:HOk P w H h)(k:∀ b u,h.get? b=some u->h'.get? b=some u)(hp:h.objs.size<=a)(new:ObjOk P w (upd H a o) h' a o):HOk P w (upd H a o) h':=λb u e=>by
 have hn:=x.fresh hp
 by_cases hb:b=a
 ·subst hb;rw[upd_same] at e;cases e;exact new
 ·rw[upd_ne hb] at e
  exact(x b u e).stay (λc v _ q=>k c v q) (λc q=>by rw[upd_ne (ne_of_none q hn)];exact q) λc xs q=>by rw[upd_ne (ne_of_none q hn)];exact q
end
def Rd (H:Hp)(a:Addr)(u:HO):Prop:=H a=some u\/∃ o,H a=some (.frz o u)
theorem Rd.ok {P:Program}{w:World}{H:Hp}{h:Heap}{a:Addr}{u:HO}(r:Rd H a u)(x:HOk P w H h):ObjOk P w H h a u:=by
 rcases r with r | ⟨o,r⟩
 ·exact x a u r
 ·obtain⟨_,q⟩:=x a _ r
  exact q
def Mut:Option HO->Prop
 | some (.lst _)=>True
 | some (.dK _)=>True
 | some (.dT _)=>True
 | some (.set _ _)=>True
 | some (.ins _ _ _)=>True
 | some (.ext _)=>True
 | _=>False
section
variable {P:Program}{w:World}{H:Hp}{h h':Heap}{x e:Addr}{o':HO}
theorem HOk.write (ok:HOk P w H h)(mu:Mut (H x))(he:e=x\/H e=some (.own x))(k:∀ b u,b≠e->h.get? b=some u->h'.get? b=some u)(heo:∃ u,h'.get? e=some u)
  (new:ObjOk P w (upd H x o') h' x o'):HOk P w (upd H x o') h':=λb u q=>by
 have nown:∀ c y,H c=some (.own y)->c≠x:=λc y r z=>by subst z;rw[r] at mu;exact mu
 have ntup:∀ c xs,H c=some (.tup xs)->c≠x:=λc xs r z=>by subst z;rw[r] at mu;exact mu
 by_cases hb:b=x
 ·subst hb;rw[upd_same] at q;cases q;exact new
 ·rw[upd_ne hb] at q
  by_cases hbe:b=e
  ·have q':H b=some (.own x):=by
    rcases he with z | z
    ·exact absurd (hbe.trans z) hb
    ·rw[hbe];exact z
   rw[q] at q';cases q'
   obtain⟨v,hv⟩:=heo
   exact⟨v,by rw[hbe];exact hv⟩
  ·refine(ok b u q).stay (λc v hc r=>k c v ?_ r) (λc r=>by rw[upd_ne (nown c b r)];exact r) λc xs r=>by rw[upd_ne (ntup c xs r)];exact r
   rcases hc with rfl | hc
   ·exact hbe
   ·rintro rfl
    rcases he with z | z
    ·exact nown c b hc z
    ·rw[hc] at z;cases z;exact hb rfl
end
structure Un (fs ex:List Addr)(H H':Hp)(h h':Heap):Prop where
 keep:∀ b o,h.get? b=some o->H b=none->b∉fs->b∉ex->h'.get? b=some o
 slot:∀ b o,h.get? b=some o->H b=none->b∈fs->b∉ex->∃ sl,h'.get? b=some { o with slots:=sl }
 free:∀ b o,h.get? b=some o->H b=none->b∉ex->H' b=none
 there:∀ b o,h.get? b=some o->b∉ex->∃ o',h'.get? b=some o'
 tups:∀ b xs,H b=some (.tup xs)->H' b=some (.tup xs)
 frzs:∀ b o u,H b=some (.frz o u)->H' b=some (.frz o u)
 tbls:∀ b ps,H b=some (.tbl ps)->∃ more,H' b=some (.tbl (ps++more))
section
variable {fs fs' ex ex':List Addr}{H H1 H2:Hp}{h h1 h2 h':Heap}{a x e:Addr}{o:HO}
theorem Un.any (u:Un fs ex H H1 h h1){b:Addr}{ob:Obj}(q:h.get? b=some ob)(n:H b=none)(hx:b∉ex):∃ sl,h1.get? b=some { ob with slots:=sl }:=by
 by_cases hb:b∈fs
 ·exact u.slot b ob q n hb hx
 ·exact⟨ob.slots,u.keep b ob q n hb hx⟩
theorem Un.trans (a:Un fs ex H H1 h h1)(b:Un fs ex H1 H2 h1 h2):Un fs ex H H2 h h2 where
 keep:=λc ob q n hc hx=>b.keep c ob (a.keep c ob q n hc hx) (a.free c ob q n hx) hc hx
 slot:=λc ob q n hc hx=>by
  obtain⟨sl,e1⟩:=a.slot c ob q n hc hx
  obtain⟨sl',e2⟩:=b.slot c _ e1 (a.free c ob q n hx) hc hx
  exact⟨sl',e2⟩
 free:=λc ob q n hx=>by
  obtain⟨o',e1⟩:=a.there c ob q hx
  exact b.free c o' e1 (a.free c ob q n hx) hx
 there:=λc ob q hx=>by
  obtain⟨o',e1⟩:=a.there c ob q hx
  exact b.there c o' e1 hx
 tups:=λc xs q=>b.tups c xs (a.tups c xs q)
 frzs:=λc ob xs q=>b.frzs c ob xs (a.frzs c ob xs q)
 tbls:=λc ps q=>by
  obtain⟨m1,e1⟩:=a.tbls c ps q
  obtain⟨m2,e2⟩:=b.tbls c _ e1
  exact⟨m1++m2,by rw[e2,Array.append_assoc]⟩
theorem Un.kept (k:∀ b u,h.get? b=some u->h'.get? b=some u):Un fs ex H H h h' :=
 ⟨λb ob q _ _ _=>k b ob q,λb ob q _ _ _=>⟨ob.slots,k b ob q⟩,λ_ _ _ n _=>n,λb ob q _=>⟨ob,k b ob q⟩,λ_ _ q=>q,λ_ _ _ q=>q,λ_ ps q=>⟨#[],by rw[q];simp⟩⟩
theorem Un.refl:Un fs ex H H h h:=Un.kept λ_ _ q=>q
theorem Un.laid (k:∀ b u,h.get? b=some u->h'.get? b=some u)(hp:h.objs.size<=a)(hn:H a=none):Un fs ex H (upd H a o) h h' where
 keep:=λb u q _ _ _=>k b u q
 slot:=λb u q _ _ _=>⟨u.slots,k b u q⟩
 free:=λb u q n _=>by rw[upd_ne (Nat.ne_of_lt (Nat.lt_of_lt_of_le (Heap.lt_size q) hp))];exact n
 there:=λb u q _=>⟨u,k b u q⟩
 tups:=λb xs q=>by rw[upd_ne (ne_of_none q hn)];exact q
 frzs:=λb u xs q=>by rw[upd_ne (ne_of_none q hn)];exact q
 tbls:=λb ps q=>⟨#[],by rw[upd_ne (ne_of_none q hn),q];simp⟩
theorem Un.write (mu:Mut (H x))(he:e=x\/H e=some (.own x))(k:∀ b u,b≠e->h.get? b=some u->h'.get? b=some u)(heo:∃ u,h'.get? e=some u):Un fs ex H (upd H x o) h h':=by
 have hx:∀ b,H b=none->b≠x:=λb n z=>by subst z;rw[n] at mu;exact mu
 have hb:∀ b,H b=none->b≠e:=λb n z=>by
  subst z
  rcases he with r | r
  ·exact hx b n r
  ·rw[n] at r;cases r
 have hm:∀ b u,H b=some u->¬ Mut (some u)->b≠x:=λb u q nm z=>by subst z;rw[q] at mu;exact nm mu
 refine⟨λb u q n _ _=>k b u (hb b n) q,λb u q n _ _=>⟨u.slots,k b u (hb b n) q⟩,λb u q n _=>by rw[upd_ne (hx b n)];exact n,λb u q _=>?_,
  λb xs q=>by rw[upd_ne (hm b _ q λz=>z)];exact q,λb u xs q=>by rw[upd_ne (hm b _ q λz=>z)];exact q,λb ps q=>⟨#[],by rw[upd_ne (hm b _ q λz=>z),q];simp⟩⟩
 by_cases hbe:b=e
 ·subst hbe;exact heo
 ·exact⟨u,k b u hbe q⟩
end
def trk (h:Heap)(H:Hp):List Addr:=(List.range h.objs.size).filter λa=>(H a).isSome
def hidT (h:Heap)(H:Hp):Heap:=W.hideAll h (trk h H)
theorem hidT_size (h:Heap)(H:Hp):(hidT h H).objs.size=h.objs.size:=W.hideAll_size _ _
theorem hidT_get {h:Heap}{H:Hp}{b:Addr}{o:Obj}(e:h.get? b=some o)(n:H b=none):(hidT h H).get? b=some o :=
 W.hideAll_get _ e λhm=>by
  have q:(H b).isSome=true:=(List.mem_filter.mp hm).2
  rw[n] at q;simp at q
theorem of_hidT {h:Heap}{H:Hp}{b:Addr}{o:Obj}(e:(hidT h H).get? b=some o):h.get? b=some o/\H b=none:=by
 have e':h.get? b=some o:=W.of_hideAll (trk h H) e
 refine⟨e',?_⟩
 cases q:H b with
 | none=>rfl
 | some x =>
  have hm:b∈trk h H:=List.mem_filter.mpr ⟨List.mem_range.mpr (Heap.lt_size e'),by simp[q]⟩
  have z:(hidT h H).get? b=none:=W.hideAll_none (trk h H) hm
  rw[z] at e;cases e
end L2
namespace L2
open PySem PySem.Spec PyProof.Rows
structure Mod (K:W.Frag)(mg:Str->Option Value)(base:Heap):Prop where
 kin:K.In base
 glob:base.Ns mainGlobals mg
 blt:∃ mb,base.Ns builtinsNs mb/\∀ x:Str,x≠"__name__"->mb x=bootBuiltins x
 nolimit:base.NoLimit
structure Cx where
 prog:Program
 w:World
 K:W.Frag
 mg:Str->Option Value
 base:Heap
 A:Around
 N:List Str
 s₀:Shared
 H₀:Hp
 env:Env
 outer:List Env
 stack:List Env
 ex:List Addr
 fn:Str->Bool
 calm:Bool
 pn:List (Addr×Obj)
 xe:Value->Shared->Prop
def frs (l:List Env):List Addr:=l.filterMap (·.frame)
abbrev Cx.fs (X:Cx):List Addr:=frs X.outer
def Vis (sc:Scope)(x:Str):Prop:=sc.names.lookup x=some .local\/sc.names.lookup x=some .cell\/sc.names.lookup x=some .free
def Loc (sc:Scope)(x:Str):Prop:=sc.names.lookup x=some .local\/sc.names.lookup x=some .cell
def Look (env:Env)(h:Heap)(m:Str->Option Value)(x:Str)(u:Value):Prop :=
 (env.kindOf x=some .local/\m x=some u)\/((env.kindOf x=some .cell\/env.kindOf x=some .free)/\∃ c,env.cells.lookup x=some c/\h.IsCell c (some u))
structure Cx.Ok (X:Cx):Prop where
 mod:Mod X.K X.mg X.base
 kind:X.env.scope.kind=.function
 glob:X.env.globals=mainGlobals
 blt:X.env.builtins=builtinsNs
 above:X.s₀.heap.objs.size<=X.env.locals
 inj:∀ x y c,X.env.cells.lookup x=some c->X.env.cells.lookup y=some c->x=y
 has:∀ x,(X.env.kindOf x=some .cell\/X.env.kindOf x=some .free)->∃ c,X.env.cells.lookup x=some c
 cab:∀ x c,X.fn x=true->X.env.cells.lookup x=some c->X.s₀.heap.objs.size<=c
 hd:X.calm=true->X.A.handled=none
 frames:X.A.frames=some X.stack
 stk:X.stack=X.outer\/(X.stack=X.env::X.outer/\X.env.frame=some X.env.locals)
 exf:∀ b∈X.ex,b≠X.env.locals/\∀ x c,X.env.cells.lookup x=some c->c≠b
 bs:∀ b o,X.base.get? b=some o->X.s₀.heap.get? b=some o/\X.H₀ b=none
 bsz:X.base.objs.size<=X.s₀.heap.objs.size
 noex:∀ b o,X.base.get? b=some o->b∉X.ex
 exfs:∀ b∈X.ex,b∉X.fs
 funs:X.s₀.heap.FunFrames X.base X.outer
 frf:∀ b∈X.fs,X.H₀ b=none
structure Inv (X:Cx)(pins:List (Addr×Obj))(σ:List (Option V))(H:Hp)(s:Shared):Prop where
 ok:X.Ok
 os:s.os=X.s₀.os
 bare:AllBare s.gens
 base:Un X.fs X.ex X.H₀ H X.s₀.heap s.heap
 loc:∃ m,s.heap.Ns X.env.locals m/\∀ (i:Nat) (x:Str) (v:V),X.N[i]?=some x->σ[i]?=some (some v)->Vis X.env.scope x->∃ u,RelV v u/\Look X.env s.heap m x u
 cell:∀ x c,X.env.cells.lookup x=some c->∃ v,s.heap.IsCell c v
 free:H X.env.locals=none
 freeC:∀ x c,X.env.cells.lookup x=some c->H c=none
 pin:∀ p∈X.pn++pins,s.heap.get? p.1=some p.2/\H p.1=none/\p.1≠X.env.locals/\p.1∉X.fs/\∀ v,p.2.data≠.cell v
 hok:HOk X.prog X.w H s.heap
 len:σ.length=X.N.length
section
variable {X:Cx}{pins:List (Addr×Obj)}{σ:List (Option V)}{H H':Hp}{s:Shared}{h':Heap}
theorem Cx.Ok.nofr (ok:X.Ok){b:Addr}{o:Obj}(e:X.base.get? b=some o):b∉X.fs:=λhb=>by
 have:=(ok.funs.mem hb).1
 rw[e] at this;cases this
theorem Inv.bs (I:Inv X pins σ H s):∀ b o,X.base.get? b=some o->s.heap.get? b=some o/\H b=none:=λb o e =>
 ⟨I.base.keep b o (I.ok.bs b o e).1 (I.ok.bs b o e).2 (I.ok.nofr e) (I.ok.noex b o e),I.base.free b o (I.ok.bs b o e).1 (I.ok.bs b o e).2 (I.ok.noex b o e)⟩
theorem Inv.bk (I:Inv X pins σ H s):∀ b o,X.base.get? b=some o->s.heap.get? b=some o:=λb o e=>(I.bs b o e).1
theorem Inv.mod (I:Inv X pins σ H s):Mod X.K X.mg X.base:=I.ok.mod
theorem Inv.kIn (I:Inv X pins σ H s):X.K.In s.heap:=I.ok.mod.kin.keeps I.bk
theorem Inv.lt (I:Inv X pins σ H s):X.env.locals<s.heap.objs.size:=let ⟨_,hn,_⟩:=I.loc;hn.lt
theorem Inv.sz (I:Inv X pins σ H s):X.s₀.heap.objs.size<=s.heap.objs.size:=Nat.le_trans I.ok.above (Nat.le_of_lt I.lt)
theorem Inv.nofs (I:Inv X pins σ H s){a:Addr}(h:s.heap.objs.size<=a):a∉X.fs:=λhb=>by
 obtain⟨_,o,ho,_⟩:=I.ok.funs.mem hb
 exact absurd (Nat.lt_of_lt_of_le (Heap.lt_size ho) (Nat.le_trans I.sz h)) (Nat.lt_irrefl _)
theorem Inv.cne (I:Inv X pins σ H s):∀ x c,X.env.cells.lookup x=some c->c≠X.env.locals:=λx c e z=>by
 obtain⟨v,o,ho,hd⟩:=I.cell x c e
 obtain⟨m,⟨o',es,ep,ho',hd',_⟩,_⟩:=I.loc
 rw[z,ho'] at ho;cases ho;rw[hd'] at hd;cases hd
theorem Inv.funs (I:Inv X pins σ H s):s.heap.FunFrames X.base X.outer:=by
 have all:∀ (l:List Env),(∀ b∈frs l,b∈X.fs)->X.s₀.heap.FunFrames X.base l->s.heap.FunFrames X.base l:=by
  intro l
  induction l with
  | nil=>intro _ _;trivial
  | cons env r ih =>
   intro hs hl
   obtain⟨hk,⟨L,o,hf,hn,ho,hd⟩,hr⟩:=hl
   have hL:L∈X.fs:=hs L (by unfold frs;rw[List.filterMap_cons,hf];exact List.mem_cons_self)
   obtain⟨sl,e⟩:=I.base.slot L o ho (I.ok.frf L hL) hL λz=>I.ok.exfs L z hL
   exact⟨hk,⟨L,_,hf,hn,e,hd⟩,ih (λb hb=>hs b (by unfold frs;rw[List.filterMap_cons,hf];exact List.mem_cons_of_mem _ hb)) hr⟩
 exact all X.outer (λ_ hb=>hb) I.ok.funs
theorem Inv.stack (I:Inv X pins σ H s):s.heap.FunFrames X.base X.stack:=by
 rcases I.ok.stk with e | ⟨e,hf⟩
 ·rw[e];exact I.funs
 ·rw[e]
  obtain⟨m,hn,_⟩:=I.loc
  refine .cons (by rw[I.ok.kind];decide) hf hn ?_ I.funs
  exact Heap.get?_none_of_le (Nat.le_trans I.ok.bsz I.ok.above)
theorem Inv.stkSub (I:Inv X pins σ H s):∀ b∈frs X.stack,b∈X.env.locals::X.fs:=λb hb=>by
 rcases I.ok.stk with e | ⟨e,hf⟩
 ·rw[e] at hb;exact List.mem_cons_of_mem _ hb
 ·rw[e] at hb
  unfold frs at hb
  rw[List.filterMap_cons,hf] at hb
  exact hb
theorem Inv.stkFree (I:Inv X pins σ H s):∀ b∈frs X.stack,H b=none:=λb hb=>by
 rcases List.mem_cons.mp (I.stkSub b hb) with e | hb
 ·rw[e];exact I.free
 ·obtain⟨_,o,ho,_⟩:=I.ok.funs.mem hb
  exact I.base.free b o ho (I.ok.frf b hb) λz=>I.ok.exfs b z hb
theorem Inv.step {g':Array GenState}{t':Nat}{d':Drawn}{ch:List Addr}(I:Inv X pins σ H s)
  (hch:∀ b∈ch,(b∈X.ex\/X.s₀.heap.objs.size<=b)/\b≠X.env.locals/\(∀ x c,X.env.cells.lookup x=some c->c≠b)/\∀ p∈X.pn++pins,p.1≠b)
  (keep:∀ b o,b≠X.env.locals->b∉X.fs->b∉ch->s.heap.get? b=some o->H b=none->h'.get? b=some o)
  (slot:∀ b o,b≠X.env.locals->b∈X.fs->b∉ch->s.heap.get? b=some o->H b=none->∃ sl,h'.get? b=some { o with slots:=sl }) (free:∀ b o,b∉ch->s.heap.get? b=some o->H b=none->H' b=none)
  (there:∀ b o,b∉ch->s.heap.get? b=some o->∃ o',h'.get? b=some o')
  (tups:∀ b xs,H b=some (.tup xs)->H' b=some (.tup xs)) (frzs:∀ b o u,H b=some (.frz o u)->H' b=some (.frz o u)) (tbls:∀ b ps,H b=some (.tbl ps)->∃ more,H' b=some (.tbl (ps++more)))
  (ns:∀ m,s.heap.Ns X.env.locals m->h'.Ns X.env.locals m) (hok:HOk X.prog X.w H' h') (hg:AllBare g') :
  Inv X pins σ H' { s with heap:=h',gens:=g',drawn:=d',toks:=t' }:=by
 have neL:∀ b o,X.s₀.heap.get? b=some o->b≠X.env.locals:=λb o e=>Nat.ne_of_lt (Nat.lt_of_lt_of_le (Heap.lt_size e) I.ok.above)
 have neC:∀ b o,X.s₀.heap.get? b=some o->b∉X.ex->b∉ch:=λb o e hx hb=>by
  rcases (hch b hb).1 with z | z
  ·exact hx z
  ·exact absurd (Nat.lt_of_lt_of_le (Heap.lt_size e) z) (Nat.lt_irrefl _)
 have cellK:∀ x c,X.env.cells.lookup x=some c->∀ v,s.heap.IsCell c v->h'.IsCell c v:=λx c e v ⟨o,ho,hd⟩=>by
  have nch:c∉ch:=λz=>(hch c z).2.2.1 x c e rfl
  by_cases hc:c∈X.fs
  ·obtain⟨sl,q⟩:=slot c o (I.cne x c e) hc nch ho (I.freeC x c e)
   exact⟨_,q,hd⟩
  ·exact⟨o,keep c o (I.cne x c e) hc nch ho (I.freeC x c e),hd⟩
 refine⟨I.ok,I.os,hg,⟨λb o e n hb hx=>?_,λb o e n hb hx=>?_,λb o e n hx=>?_,λb o e hx=>?_,λb xs e=>tups b xs (I.base.tups b xs e),λb o xs e=>frzs b o xs (I.base.frzs b o xs e),λb ps e=>?_⟩,?_,λx c e=>?_,?_,λx c e=>?_,λp hp=>?_,hok,I.len⟩
 ·exact keep b o (neL b o e) hb (neC b o e hx) (I.base.keep b o e n hb hx) (I.base.free b o e n hx)
 ·obtain⟨sl,e1⟩:=I.base.slot b o e n hb hx
  obtain⟨sl',e2⟩:=slot b _ (neL b o e) hb (neC b o e hx) e1 (I.base.free b o e n hx)
  exact⟨sl',e2⟩
 ·obtain⟨o',e1⟩:=I.base.there b o e hx
  exact free b o' (neC b o e hx) e1 (I.base.free b o e n hx)
 ·obtain⟨o',e1⟩:=I.base.there b o e hx
  exact there b o' (neC b o e hx) e1
 ·obtain⟨m1,e1⟩:=I.base.tbls b ps e
  obtain⟨m2,e2⟩:=tbls b _ e1
  exact⟨m1++m2,by rw[e2,Array.append_assoc]⟩
 ·obtain⟨m,hn,hl⟩:=I.loc
  refine⟨m,ns m hn,λi x v e1 e2 e3=>?_⟩
  obtain⟨u,r,l⟩:=hl i x v e1 e2 e3
  refine⟨u,r,?_⟩
  rcases l with l | ⟨k,c,e,z⟩
  ·exact .inl l
  ·exact .inr ⟨k,c,e,cellK x c e _ z⟩
 ·obtain⟨v,z⟩:=I.cell x c e
  exact⟨v,cellK x c e v z⟩
 ·obtain⟨m,⟨o,_,_,ho,_⟩,_⟩:=I.loc
  exact free _ o (λz=>(hch _ z).2.1 rfl) ho I.free
 ·obtain⟨v,o,ho,hd⟩:=I.cell x c e
  exact free c o (λz=>(hch c z).2.2.1 x c e rfl) ho (I.freeC x c e)
 ·obtain⟨e,n,ne,nf,d⟩:=I.pin p hp
  have nch:p.1∉ch:=λz=>(hch p.1 z).2.2.2 p hp rfl
  exact⟨keep p.1 p.2 ne nf nch e n,free p.1 p.2 nch e n,ne,nf,d⟩
theorem Inv.un {t':Nat}(I:Inv X pins σ H s)(u:Un X.fs [] H H' s.heap h')(hok:HOk X.prog X.w H' h'):Inv X pins σ H' { s with heap:=h',toks:=t' }:=by
 obtain⟨m,⟨o,es,ep,ho,r⟩,_⟩:=id I.loc
 obtain⟨sl,hL⟩:=u.any ho I.free (by simp)
 exact I.step (g':=s.gens) (d':=s.drawn) (ch:=[]) (λ_ z=>nomatch z) (λb o _ hb _ e n=>u.keep b o e n hb (by simp)) (λb o _ hb _ e n=>u.slot b o e n hb (by simp)) (λb o _ e n=>u.free b o e n (by simp)) (λb o _ e=>u.there b o e (by simp)) u.tups u.frzs u.tbls (λm' hm=>by
  obtain⟨o',es',ep',ho',r'⟩:=hm
  rw[ho] at ho';cases ho'
  exact⟨_,es',ep',hL,r'⟩) hok I.bare
theorem Inv.call {g':Array GenState}{t':Nat}{d':Drawn}{ch:List Addr}(I:Inv X pins σ H s)(u:Un (frs X.stack) ch H H' s.heap h')(hok:HOk X.prog X.w H' h')(hg:AllBare g')
  (hch:∀ b∈ch,(b∈X.ex\/X.s₀.heap.objs.size<=b)/\b≠X.env.locals/\(∀ x c,X.env.cells.lookup x=some c->c≠b)/\∀ p∈X.pn++pins,p.1≠b) :
  Inv X pins σ H' { s with heap:=h',gens:=g',drawn:=d',toks:=t' }:=by
 obtain⟨m,⟨o,es,ep,ho,r⟩,_⟩:=id I.loc
 obtain⟨sl,hL⟩:=u.any ho I.free λz=>(hch _ z).2.1 rfl
 exact I.step (ch:=ch) hch (λb o hL hb hc e n=>u.keep b o e n (λz=>(List.mem_cons.mp (I.stkSub b z)).elim hL hb) hc) (λb o _ _ hc e n=>u.any e n hc) (λb o hc e n=>u.free b o e n hc) (λb o hc e=>u.there b o e hc) u.tups u.frzs u.tbls (λm' hm=>by
  obtain⟨o',es',ep',ho',r'⟩:=hm
  rw[ho] at ho';cases ho'
  exact⟨_,es',ep',hL,r'⟩) hok hg
theorem Inv.turned {t':Nat}{it:Addr}(I:Inv X pins σ H s)(k:∀ b o,b≠it->s.heap.get? b=some o->h'.get? b=some o)(hn:H it=none)(hL:it≠X.env.locals)
  (h1:it∈X.ex\/X.s₀.heap.objs.size<=it) (h2:∀ x c,X.env.cells.lookup x=some c->c≠it) (h3:∀ p∈X.pn++pins,p.1≠it):Inv X pins σ H { s with heap:=h',toks:=t' }:=by
 have nit:∀ b u,H b=some u->b≠it:=λb u e z=>by rw[z,hn] at e;cases e
 refine I.step (g':=s.gens) (d':=s.drawn) (ch:=[it]) (λb hb=>?_) (λb o _ _ hc e _=>k b o (λz=>hc (by simp[z])) e) (λb o _ _ hc e _=>⟨o.slots,k b o (λz=>hc (by simp[z])) e⟩) (λ_ _ _ _ n=>n)
  (λb o hc e=>⟨o,k b o (λz=>hc (by simp[z])) e⟩) (λ_ _ e=>e) (λ_ _ _ e=>e) (λb ps e=>⟨#[],by rw[e];simp⟩) (λm hm=>?_) (λb u e=>?_) I.bare
 ·have e:b=it:=by simpa using hb
  subst e
  exact⟨h1,hL,h2,h3⟩
 ·obtain⟨o,es,ep,ho,r⟩:=hm
  exact⟨o,es,ep,k _ o (Ne.symm hL) ho,r⟩
 ·refine(I.hok b u e).stay (λc v hc q=>k c v ?_ q) (λ_ q=>q) λ_ _ q=>q
  rcases hc with z | z
  ·rw[z];exact nit b u e
  ·exact nit c _ z
theorem Inv.tok (I:Inv X pins σ H s)(t:Nat):Inv X pins σ H { s with toks:=t }:=I.un (h':=s.heap) (t':=t) Un.refl I.hok
theorem Inv.kept {t':Nat}(I:Inv X pins σ H s)(k:∀ b u,s.heap.get? b=some u->h'.get? b=some u):Inv X pins σ H { s with heap:=h',toks:=t' }:=I.un (Un.kept k) (I.hok.kept k)
theorem Inv.laid {a:Addr}{o:HO}{t':Nat}(I:Inv X pins σ H s)(k:∀ b u,s.heap.get? b=some u->h'.get? b=some u)(hp:s.heap.objs.size<=a)(new:ObjOk X.prog X.w (upd H a o) h' a o) :
  Inv X pins σ (upd H a o) { s with heap:=h',toks:=t' }:=I.un (Un.laid k hp (I.hok.fresh hp)) (I.hok.laid k hp new)
theorem Inv.write {x e:Addr}{o:HO}{t':Nat}(I:Inv X pins σ H s)(mu:Mut (H x))(he:e=x\/H e=some (.own x))(k:∀ b u,b≠e->s.heap.get? b=some u->h'.get? b=some u)(heo:∃ u,h'.get? e=some u)
  (new:ObjOk X.prog X.w (upd H x o) h' x o):Inv X pins σ (upd H x o) { s with heap:=h',toks:=t' }:=I.un (Un.write mu he k heo) (I.hok.write mu he k heo new)
theorem Inv.pins_of {pins':List (Addr×Obj)}(I:Inv X pins σ H s)(h:∀ p∈pins',s.heap.get? p.1=some p.2/\H p.1=none/\p.1≠X.env.locals/\p.1∉X.fs/\∀ v,p.2.data≠.cell v):Inv X pins' σ H s :=
 ⟨I.ok,I.os,I.bare,I.base,I.loc,I.cell,I.free,I.freeC,λp hp=>(List.mem_append.mp hp).elim (λz=>I.pin p (List.mem_append_left _ z)) (h p),I.hok,I.len⟩
theorem nodup_ix {N:List Str}(hN:N.Nodup){i j:Nat}{x:Str}(a:N[i]?=some x)(b:N[j]?=some x):i=j:=by
 obtain⟨h1,e1⟩:=List.getElem?_eq_some_iff.mp a
 obtain⟨h2,e2⟩:=List.getElem?_eq_some_iff.mp b
 exact(List.getElem_inj hN).mp (e1.trans e2.symm)
theorem store_ok2 {M:Model}{A:Around}{E:Value->Shared->Prop}{i:Nat}{x:Str}{v:V}{u:Value}{Q:Unit->Shared->Prop}(I:Inv X pins σ H s)(hN:X.N.Nodup)(hi:X.N[i]?=some x)(hx:Loc X.env.scope x)(r:RelV v u)
  (h:∀ s',Inv X pins (σ.set i (some v)) H s'->(∃ a,Heap.SameBut a s.heap s'.heap/\(a=X.env.locals\/X.env.cells.lookup x=some a))->Q () s') (hf:X.fn x=true\/X.env.scope.names.lookup x=some .local:=by first | exact .inl rfl | exact .inr rfl | assumption):wpAny M A (storeName X.env x u) Q E s:=by
 obtain⟨m,hn,hl⟩:=id I.loc
 have hcls:(X.env.scope.kind == .class || (X.env.scope.kind == .module&&X.env.locals != X.env.globals))=false:=by rw[I.ok.kind];rfl
 have hiσ:i<σ.length:=by rw[I.len];exact(List.getElem?_eq_some_iff.mp hi).1
 have cne:=I.cne
 have tracked:∀ {a:Addr} {h':Heap},(∃ o,s.heap.get? a=some o/\H a=none)->Heap.SameBut a s.heap h'->HOk X.prog X.w H h':=λ{a h'} ha hs b ob e=>by
  obtain⟨_,_,hfree⟩:=ha
  refine(I.hok b ob e).stay (λc w' hc q=>(hs.2 c ?_).trans q) (λ_ q=>q) λ_ _ q=>q
  rintro rfl
  rcases hc with rfl | hc
  ·rw[hfree] at e;cases e
  ·rw[hfree] at hc;cases hc
 rcases hx with hk | hk
 ·refine wpAny_storeName_local hk hn (λh' hn' hs=>?_) hcls
  obtain⟨oL,_,_,hoL,_⟩:=id hn
  refine h _ ⟨I.ok,I.os,I.bare,⟨λb o e n hb hx=>?_,λb o e n hb hx=>?_,I.base.free,λb o e hx=>?_,I.base.tups,I.base.frzs,I.base.tbls⟩,⟨_,hn',λj y v' e1 e2 e3=>?_⟩,λy c e=>?_,I.free,I.freeC,λp hp=>?_,tracked ⟨oL,hoL,I.free⟩ hs,by simpa using I.len⟩ ⟨_,hs,.inl rfl⟩
  ·exact(hs.2 b (Nat.ne_of_lt (Nat.lt_of_lt_of_le (Heap.lt_size e) I.ok.above))).trans (I.base.keep b o e n hb hx)
  ·obtain⟨sl,e1⟩:=I.base.slot b o e n hb hx
   exact⟨sl,(hs.2 b (Nat.ne_of_lt (Nat.lt_of_lt_of_le (Heap.lt_size e) I.ok.above))).trans e1⟩
  ·obtain⟨o',e1⟩:=I.base.there b o e hx
   exact⟨o',(hs.2 b (Nat.ne_of_lt (Nat.lt_of_lt_of_le (Heap.lt_size e) I.ok.above))).trans e1⟩
  ·by_cases hj:j=i
   ·subst hj
    rw[hi] at e1;cases e1
    rw[List.getElem?_set_self hiσ] at e2
    cases e2
    exact⟨u,r,.inl ⟨hk,by simp⟩⟩
   ·rw[List.getElem?_set_ne (Ne.symm hj)] at e2
    obtain⟨u',r',q⟩:=hl j y v' e1 e2 e3
    refine⟨u',r',?_⟩
    rcases q with ⟨k,e⟩ | ⟨k,c,e,z⟩
    ·refine .inl ⟨k,?_⟩
     have:y≠x:=λe=>hj (nodup_ix hN e1 (e▸hi))
     simp[this,e]
    ·exact .inr ⟨k,c,e,z.sameBut hs (cne y c e)⟩
  ·obtain⟨w',z⟩:=I.cell y c e
   exact⟨w',z.sameBut hs (cne y c e)⟩
  ·obtain⟨e,n,ne,nf,d⟩:=I.pin p hp
   exact⟨(hs.2 p.1 ne).trans e,n,ne,nf,d⟩
 ·have hfn:X.fn x=true:=by
   rcases hf with z | z
   ·exact z
   ·rw[z] at hk;cases hk
  obtain⟨c,hc⟩:=I.ok.has x (.inl hk)
  obtain⟨w',z⟩:=I.cell x c hc
  refine wpAny_storeName_cell I.ok.kind hk hc z (λh' hc' hs=>?_)
  obtain⟨oc,hoc,hocd⟩:=id z
  refine h { s with heap:=h' } ⟨I.ok,I.os,I.bare,⟨λb o e n hb hx=>?_,λb o e n hb hx=>?_,I.base.free,λb o e hx=>?_,I.base.tups,I.base.frzs,I.base.tbls⟩,⟨m,hn.sameBut hs (Ne.symm (cne x c hc)),λj y v' e1 e2 e3=>?_⟩,λy c' e=>?_,I.free,I.freeC,λp hp=>?_,tracked ⟨oc,hoc,I.freeC x c hc⟩ hs,by simpa using I.len⟩ ⟨c,hs,.inr hc⟩
  ·exact(hs.2 b (Nat.ne_of_lt (Nat.lt_of_lt_of_le (Heap.lt_size e) (I.ok.cab x c hfn hc)))).trans (I.base.keep b o e n hb hx)
  ·obtain⟨sl,e1⟩:=I.base.slot b o e n hb hx
   exact⟨sl,(hs.2 b (Nat.ne_of_lt (Nat.lt_of_lt_of_le (Heap.lt_size e) (I.ok.cab x c hfn hc)))).trans e1⟩
  ·obtain⟨o',e1⟩:=I.base.there b o e hx
   exact⟨o',(hs.2 b (Nat.ne_of_lt (Nat.lt_of_lt_of_le (Heap.lt_size e) (I.ok.cab x c hfn hc)))).trans e1⟩
  ·by_cases hj:j=i
   ·subst hj
    rw[hi] at e1;cases e1
    rw[List.getElem?_set_self hiσ] at e2
    cases e2
    exact⟨u,r,.inr ⟨.inl hk,c,hc,hc'⟩⟩
   ·rw[List.getElem?_set_ne (Ne.symm hj)] at e2
    obtain⟨u',r',q⟩:=hl j y v' e1 e2 e3
    refine⟨u',r',?_⟩
    rcases q with q | ⟨k,c',e,z'⟩
    ·exact .inl q
    ·refine .inr ⟨k,c',e,z'.sameBut hs ?_⟩
     rintro rfl
     exact hj (nodup_ix hN e1 (I.ok.inj _ _ _ e hc▸hi))
  ·by_cases hcc:c'=c
   ·subst hcc;exact⟨_,hc'⟩
   ·obtain⟨w2,z2⟩:=I.cell y c' e
    exact⟨w2,z2.sameBut hs hcc⟩
  ·obtain⟨e,n,ne,nf,d⟩:=I.pin p hp
   refine⟨(hs.2 p.1 ?_).trans e,n,ne,nf,d⟩
   intro q
   rw[q,hoc] at e
   have q':oc=p.2:=Option.some.inj e
   exact d w' (by rw[<- q'];exact hocd)
theorem store_ok {M:Model}{A:Around}{E:Value->Shared->Prop}{i:Nat}{x:Str}{v:V}{u:Value}{Q:Unit->Shared->Prop}(I:Inv X pins σ H s)(hN:X.N.Nodup)(hi:X.N[i]?=some x)(hx:Loc X.env.scope x)(r:RelV v u)
  (h:∀ s',Inv X pins (σ.set i (some v)) H s'->Q () s') (hf:X.fn x=true\/X.env.scope.names.lookup x=some .local:=by first | exact .inl rfl | exact .inr rfl | assumption):wpAny M A (storeName X.env x u) Q E s :=
 store_ok2 I hN hi hx r (λs' I' _=>h s' I') hf
theorem Inv.call' {s':Shared}{ch:List Addr}(I:Inv X pins σ H s)(ho:s'.os=s.os)(u:Un (frs X.stack) ch H H' s.heap s'.heap)(hok:HOk X.prog X.w H' s'.heap)(hg:AllBare s'.gens)
  (hch:∀ b∈ch,(b∈X.ex\/X.s₀.heap.objs.size<=b)/\b≠X.env.locals/\(∀ x c,X.env.cells.lookup x=some c->c≠b)/\∀ p∈X.pn++pins,p.1≠b):Inv X pins σ H' s':=by
 obtain⟨h',g',d',t',o'⟩:=s'
 have e:o'=s.os:=ho
 subst e
 exact I.call (g':=g') (t':=t') (d':=d') u hok hg hch
end
abbrev XK:=Value->Option Addr->Hp->Prop
abbrev St:=List (Option V)
abbrev VK:=V->Hp->Prop
abbrev TE:=St->Hp->VK->Prop
abbrev TT:=St->Hp->(Bool->Hp->Prop)->Prop
abbrev TA:=St->Hp->(List V->Hp->Prop)->Prop
structure Ends where
 nx:St->Hp->Prop
 rt:VK
 bk:St->Hp->Prop:=λ_ _=>False
 ct:St->Hp->Prop:=λ_ _=>False
abbrev TS:=Ends->St->Hp->Prop
def EP (X:Cx)(pins:List (Addr×Obj))(σ:St)(Q:VK)(u:Value)(s':Shared):Prop:=∃ v H',Inv X pins σ H' s'/\RelV v u/\Q v H'
def TP (X:Cx)(pins:List (Addr×Obj))(σ:St)(Q:Bool->Hp->Prop)(b:Bool)(s':Shared):Prop:=∃ H',Inv X pins σ H' s'/\Q b H'
def AP (X:Cx)(pins:List (Addr×Obj))(σ:St)(Q:List V->Hp->Prop)(us:List Value)(s':Shared):Prop:=∃ vs H',Inv X pins σ H' s'/\Vals vs us/\Q vs H'
def SP (X:Cx)(pins:List (Addr×Obj))(D:Ends)(f:Flow)(s':Shared):Prop :=
 match f with
 | .next=>∃ σ' H',Inv X pins σ' H' s'/\D.nx σ' H'
 | .brk=>∃ σ' H',Inv X pins σ' H' s'/\D.bk σ' H'
 | .cont=>∃ σ' H',Inv X pins σ' H' s'/\D.ct σ' H'
 | .ret u=>∃ v σ' H',Inv X pins σ' H' s'/\RelV v u/\D.rt v H'
def PE (X:Cx)(e:Expr)(t:TE):Prop :=
 ∀ (pins:List (Addr×Obj)) (s:Shared) (σ:St) (H:Hp) (Q:VK),Inv X pins σ H s->t σ H Q->wpAny (model X.prog X.w) X.A (eval e X.env) (EP X pins σ Q) X.xe s
def PT (X:Cx)(e:Expr)(t:TT):Prop :=
 ∀ (pins:List (Addr×Obj)) (s:Shared) (σ:St) (H:Hp) (Q:Bool->Hp->Prop),Inv X pins σ H s->t σ H Q->wpAny (model X.prog X.w) X.A (isTrue e X.env (eval e X.env)) (TP X pins σ Q) X.xe s
def PW (X:Cx)(e:Expr)(t:TT):Prop :=
 ∀ (whole:Sem Value) (pins:List (Addr×Obj)) (s:Shared) (σ:St) (H:Hp) (Q:Bool->Hp->Prop),Inv X pins σ H s->t σ H Q->wpAny (model X.prog X.w) X.A (isTrue e X.env whole) (TP X pins σ Q) X.xe s
theorem PW.pt {X:Cx}{e:Expr}{t:TT}(h:PW X e t):PT X e t:=h _
def PA (X:Cx)(es:List Expr)(t:TA):Prop :=
 ∀ (pos:Pos) (pins:List (Addr×Obj)) (s:Shared) (σ:St) (H:Hp) (Q:List V->Hp->Prop),Inv X pins σ H s->t σ H Q->wpAny (model X.prog X.w) X.A (spliced (backTo pos (starEach es X.env))) (AP X pins σ Q) X.xe s
def PS (X:Cx)(st:Stmt)(t:TS):Prop :=
 ∀ (pins:List (Addr×Obj)) (s:Shared) (σ:St) (H:Hp) (D:Ends),Inv X pins σ H s->t D σ H->wpAny (model X.prog X.w) X.A (exec st X.env) (SP X pins D) X.xe s
def PSs (X:Cx)(st:List Stmt)(t:TS):Prop :=
 ∀ (pins:List (Addr×Obj)) (s:Shared) (σ:St) (H:Hp) (D:Ends),Inv X pins σ H s->t D σ H->wpAny (model X.prog X.w) X.A (execs st X.env) (SP X pins D) X.xe s
theorem thn {α:Type}{t:Sem α}{Q Q':α->Shared->Prop}{M:Model}{A:Around}{E:Value->Shared->Prop}{s:Shared}(h:wpAny M A t Q E s)(hQ:∀ a s,Q a s->Q' a s):wpAny M A t Q' E s:=wpAny_mono h hQ λ_ _ x=>x
end L2
namespace L2
open PySem PySem.Spec PyProof.Rows
section
variable {X:Cx}
theorem bin {a b:Expr}{ta tb:TE}(ha:PE X a ta)(hb:PE X b tb){pins:List (Addr×Obj)}{s:Shared}{σ:St}{H:Hp}{R:V->V->Hp->Prop}(I:Inv X pins σ H s)(h:ta σ H λx H1=>tb σ H1 λy H2=>R x y H2)
  {α:Type} {Q:α->Shared->Prop} {f:Value->Value->Sem α}
  (hf:∀ v u s2 x y H2,Inv X pins σ H2 s2->RelV x v->RelV y u->R x y H2->wpAny (model X.prog X.w) X.A (f v u) Q X.xe s2) :
  wpAny (model X.prog X.w) X.A (eval a X.env) (λv s₁=>wpAny (model X.prog X.w) X.A (eval b X.env) (λu s₂=>wpAny (model X.prog X.w) X.A (f v u) Q X.xe s₂) X.xe s₁) X.xe s:=by
 refine thn (ha pins s σ H _ I h) λv s1 ⟨x,H1,I1,r1,q1⟩=>?_
 refine thn (hb pins s1 σ H1 _ I1 q1) λu s2 ⟨y,H2,I2,r2,q2⟩=>?_
 exact hf v u s2 x y H2 I2 r1 r2 q2
def tVar (i:Nat):TE:=λσ H Q=>∃ v,σ[i]?=some (some v)/\Q v H
def tC (v:V):TE:=λ_ H Q=>Q v H
theorem pe_var {i:Nat}{x:Str}{pos:Pos}(hN:X.N[i]?=some x)(hv:Vis X.env.scope x)(hd:(x == ("__debug__":Str))=false:=by decide)(hcd:(x == ("__classdict__":Str))=false:=by decide):PE X (.Name x pos) (tVar i):=by
 intro pins s σ H Q I h
 obtain⟨v,e,h⟩:=h
 obtain⟨m,hn,hl⟩:=I.loc
 obtain⟨u,r,l⟩:=hl i x v hN e hv
 have fin:EP X pins σ Q u s:=⟨v,H,I,r,h⟩
 rcases l with ⟨hk,hm⟩ | ⟨hk,c,hc,hcell⟩
 ·exact wpAny_Name (wpAny_loadName_local I.ok.kind hk hn hm fin) hd
 ·rcases hk with hk | hk
  ·exact wpAny_Name (wpAny_loadName_cell I.ok.kind hk hc hcell fin) hd
  ·exact wpAny_Name (wpAny_loadName_free I.ok.kind hk hc hcell fin hcd) hd
theorem pe_int {i j pos}:PE X (.Constant (.int i) j pos) (tC (.int i)):=λ_ _ _ H _ I h=>wpAny_Constant_int ⟨.int i,H,I.tok _,⟨_,rfl⟩,h⟩
theorem pe_bl {b j pos}:PE X (.Constant (.bool b) j pos) (tC (.bl b)):=λ_ _ _ H _ I h=>Constant_bool ⟨.bl b,H,I,rfl,h⟩
theorem pe_non {j pos}:PE X (.Constant .none j pos) (tC .non):=λ_ _ _ H _ I h=>Constant_none ⟨.non,H,I,rfl,h⟩
theorem pe_str {x j pos}:PE X (.Constant (.str x) j pos) (tC (.str x)):=λ_ _ _ H _ I h=>Calls.Constant_str ⟨.str x,H,I.tok _,⟨_,rfl⟩,h⟩
def Gl (X:Cx)(x:Str):Prop:=X.env.kindOf x=some .globalImplicit
theorem ld_glob {E:Value->Shared->Prop}{pins:List (Addr×Obj)}{s:Shared}{σ:St}{H:Hp}{x:Str}{u:Value}{pos:Pos}{Q:Value->Shared->Prop}(I:Inv X pins σ H s)(hg:Gl X x)(hm:X.mg x=some u)(h:Q u s)
  (hd:(x == ("__debug__":Str))=false:=by decide):wpAny (model X.prog X.w) X.A (eval (.Name x pos) X.env) Q E s :=
 Calls.Name_function_global I.ok.kind hg (Calls.loadGlobal_global (by rw[I.ok.glob];exact I.mod.glob.keeps I.bk) hm h) hd
theorem ld_blt {E:Value->Shared->Prop}{pins:List (Addr×Obj)}{s:Shared}{σ:St}{H:Hp}{x:Str}{u:Value}{pos:Pos}{Q:Value->Shared->Prop}(I:Inv X pins σ H s)(hg:Gl X x)(hm:X.mg x=none)(hv:bootBuiltins x=some u)(h:Q u s)
  (hn:x≠"__name__":=by decide) (hd:(x == ("__debug__":Str))=false:=by decide):wpAny (model X.prog X.w) X.A (eval (.Name x pos) X.env) Q E s:=by
 obtain⟨mb,h1,h2⟩:=I.mod.blt
 exact Calls.Name_function_global I.ok.kind hg (Calls.loadGlobal_builtin (by rw[I.ok.glob];exact I.mod.glob.keeps I.bk) hm (by rw[I.ok.blt];exact h1.keeps I.bk) ((h2 x hn).trans hv) h) hd
theorem pe_glob {x:Str}{v:V}{u:Value}{pos:Pos}(hg:Gl X x)(hm:X.mg x=some u)(r:RelV v u)(hd:(x == ("__debug__":Str))=false:=by decide):PE X (.Name x pos) (tC v) :=
 λ_ _ _ H _ I h=>ld_glob I hg hm ⟨v,H,I,r,h⟩ hd
theorem pe_bltn {x:Str}{v:V}{u:Value}{pos:Pos}(hg:Gl X x)(hm:X.mg x=none)(hv:bootBuiltins x=some u)(r:RelV v u)(hn:x≠"__name__":=by decide)(hd:(x == ("__debug__":Str))=false:=by decide):PE X (.Name x pos) (tC v) :=
 λ_ _ _ H _ I h=>ld_blt I hg hm hv ⟨v,H,I,r,h⟩ hn hd
def t2I (ta tb:TE)(k:Int->Int->Hp->Prop):St->Hp->Prop:=λσ H=>ta σ H λx H1=>tb σ H1 λy H2=>∃ i j,x=.int i/\y=.int j/\k i j H2
variable {a b:Expr}{ta tb:TE}{pos:Pos}
def tCmp (p:Int->Int->Bool)(ta tb:TE):TE:=λσ H Q=>t2I ta tb (λi j H2=>Q (.bl (p i j)) H2) σ H
abbrev tLt:TE->TE->TE:=tCmp λi j=>decide (i<j)
abbrev tLe:TE->TE->TE:=tCmp λi j=>decide (i<=j)
abbrev tGt:TE->TE->TE:=tCmp λi j=>decide (j<i)
abbrev tGe:TE->TE->TE:=tCmp λi j=>decide (j<=i)
abbrev tEqI:TE->TE->TE:=tCmp λi j=>decide (i=j)
abbrev tNeI:TE->TE->TE:=tCmp λi j=>!decide (i=j)
variable {tA tB':TT}{rest:List Expr}
def tNot (t:TT):TT:=λσ H Q=>t σ H λc H1=>Q (!c) H1
theorem pw_and1 (ha:PT X a tA):PW X (.BoolOp .And [a] pos) tA:=by
 intro wh pins s σ H Q I h
 refine isTrue_and (thn (ha pins s σ H Q I h) λc s1 e=>?_)
 cases c with
 | true=>exact isTrue_and_nil e
 | false=>exact e
theorem pw_or1 (ha:PT X a tA):PW X (.BoolOp .Or [a] pos) tA:=by
 intro wh pins s σ H Q I h
 refine isTrue_or (thn (ha pins s σ H Q I h) λc s1 e=>?_)
 cases c with
 | false=>exact isTrue_or_nil e
 | true=>exact e
theorem pt_not (ha:PT X a tA):PT X (.UnaryOp .Not a pos) (tNot tA):=by
 intro pins s σ H Q I h
 exact isTrue_not (ha pins s σ H (λc H1=>Q (!c) H1) I h)
theorem pe_one {op}{t:TE}(h:PE X a t):PE X (.BoolOp op [a] pos) t:=λpins s σ H Q I hw=>BoolOp_one (h pins s σ H Q I hw)
end
end L2
namespace L2
open PySem PySem.Spec PyProof.Rows
def SqL (K:W.Frag)(H:Hp)(a:Addr)(xs:List V):Prop :=
 Rd H a (.lst xs) \/
  ∃ (o:Obj) (its:Array Value) (n:Nat),K.lookup a=some o/\o.cls=.type "list"/\o.dict=none/\o.data=.seq its n/\its.size<=sizeLine/\Vals xs its.toList
def SqT (K:W.Frag)(H:Hp)(a:Addr)(xs:List V):Prop :=
 Rd H a (.tup xs) \/
  ∃ (o:Obj) (its:Array Value) (n:Nat),K.lookup a=some o/\o.cls=.type "tuple"/\o.data=.seq its n/\its.size<=sizeLine/\Vals xs its.toList
def absV:Value->Option V
 | .none=>some .non
 | .bool b=>some (.bl b)
 | .int i _=>some (.int i)
 | .str x _=>some (.str x)
 | .bytes b _=>some (.byt b)
 | .float b _=>some (.flt b)
 | .ref a=>some (.ref a)
 | .type n=>some (.ty n)
 | _=>none
theorem RelV.abs {x:V}{u:Value}(r:RelV x u):absV u=some x:=by
 cases x with
 | non=>cases r;rfl
 | bl _=>cases r;rfl
 | int _=>obtain⟨t,rfl⟩:=r;rfl
 | str _=>obtain⟨t,rfl⟩:=r;rfl
 | byt _=>obtain⟨t,rfl⟩:=r;rfl
 | flt _=>obtain⟨t,rfl⟩:=r;rfl
 | ref _=>cases r;rfl
 | ty _=>cases r;rfl
theorem RelV.inj {x y:V}{u:Value}(r:RelV x u)(q:RelV y u):x=y:=Option.some.inj (r.abs.symm.trans q.abs)
theorem Vals.inj:∀ {xs ys:List V} {us:List Value},Vals xs us->Vals ys us->xs=ys
 | _,_,_,.nil,.nil=>rfl
 | _,_,_,.cons r t,.cons r' t'=>by rw[r.inj r',Vals.inj t t']
section
variable {X:Cx}{pins:List (Addr×Obj)}{σ:St}{H:Hp}{s:Shared}{a:Addr}{xs ys:List V}
theorem SqL.of {K:W.Frag}(h:H a=some (.lst xs)):SqL K H a xs:=.inl (.inl h)
theorem SqT.of {K:W.Frag}(h:H a=some (.tup xs)):SqT K H a xs:=.inl (.inl h)
theorem Inv.list (I:Inv X pins σ H s)(h:SqL X.K H a xs):∃ its:List Value,Vals xs its/\PlainL s.heap a its.toArray/\xs.length<=sizeLine:=by
 rcases h with h | ⟨o,its,n,hk,hc,hd,hs,hz,r⟩
 ·obtain⟨z,its,n,r,e⟩:=h.ok I.hok
  exact⟨its,r,⟨_,n,e,rfl,rfl,rfl⟩,z⟩
 ·refine⟨its.toList,r,⟨o,n,I.kIn a o hk,hc,hd,by simpa using hs⟩,?_⟩
  have e:=r.length
  simp only[Array.length_toList] at e
  omega
theorem Inv.tuple (I:Inv X pins σ H s)(h:SqT X.K H a xs):∃ its:List Value,Vals xs its/\IsTup s.heap a its.toArray/\xs.length<=sizeLine:=by
 rcases h with h | ⟨o,its,n,hk,hc,hs,hz,r⟩
 ·obtain⟨z,its,r,p⟩:=h.ok I.hok
  exact⟨its,r,p,z⟩
 ·refine⟨its.toList,r,⟨o,I.kIn a o hk,hc,n,by simpa using hs⟩,?_⟩
  have e:=r.length
  simp only[Array.length_toList] at e
  omega
theorem Inv.list_inj (I:Inv X pins σ H s)(h:SqL X.K H a xs)(h':SqL X.K H a ys):xs=ys:=by
 obtain⟨its,r,⟨o,n,e,_,_,d⟩,_⟩:=I.list h
 obtain⟨its',r',⟨o',n',e',_,_,d'⟩,_⟩:=I.list h'
 rw[e] at e';cases e'
 rw[d] at d'
 injection d' with d1 _
 have:its=its':=by simpa using congrArg Array.toList d1
 subst this
 exact r.inj r'
end
abbrev Cx.wish (X:Cx)(E:Value->Shared->Prop):Cx:={ X with xe:=E }
abbrev Cx.nox (X:Cx):Cx:=X.wish λ_ _=>False
theorem Cx.Ok.wish {X:Cx}(ok:X.Ok)(E:Value->Shared->Prop):(X.wish E).Ok :=
 ⟨ok.mod,ok.kind,ok.glob,ok.blt,ok.above,ok.inj,ok.has,ok.cab,ok.hd,ok.frames,ok.stk,ok.exf,ok.bs,ok.bsz,ok.noex,ok.exfs,ok.funs,ok.frf⟩
theorem Cx.Ok.unwish {X:Cx}{E:Value->Shared->Prop}(ok:(X.wish E).Ok):X.Ok :=
 ⟨ok.mod,ok.kind,ok.glob,ok.blt,ok.above,ok.inj,ok.has,ok.cab,ok.hd,ok.frames,ok.stk,ok.exf,ok.bs,ok.bsz,ok.noex,ok.exfs,ok.funs,ok.frf⟩
section
variable {X:Cx}{pins:List (Addr×Obj)}{σ:St}{H:Hp}{s:Shared}{E:Value->Shared->Prop}
theorem Inv.wish (I:Inv X pins σ H s)(E:Value->Shared->Prop):Inv (X.wish E) pins σ H s:=⟨I.ok.wish E,I.os,I.bare,I.base,I.loc,I.cell,I.free,I.freeC,I.pin,I.hok,I.len⟩
theorem Inv.unwish (I:Inv (X.wish E) pins σ H s):Inv X pins σ H s:=⟨I.ok.unwish,I.os,I.bare,I.base,I.loc,I.cell,I.free,I.freeC,I.pin,I.hok,I.len⟩
theorem SP.unwish {D:Ends}{f:Flow}{s':Shared}(h:SP (X.wish E) pins D f s'):SP X pins D f s':=by
 cases f with
 | next=>obtain⟨σ',H',I,q⟩:=h;exact⟨σ',H',I.unwish,q⟩
 | brk=>obtain⟨σ',H',I,q⟩:=h;exact⟨σ',H',I.unwish,q⟩
 | cont=>obtain⟨σ',H',I,q⟩:=h;exact⟨σ',H',I.unwish,q⟩
 | ret u=>obtain⟨v,σ',H',I,r,q⟩:=h;exact⟨v,σ',H',I.unwish,r,q⟩
theorem PSs.nox {st:List Stmt}{t:TS}(h:PSs X.nox st t):PSs X st t:=λpins s σ H D I hw =>
 wpAny_mono (h pins s σ H D (I.wish _) hw) (λ_ _ q=>q.unwish) λ_ _ z=>False.elim z
end
section
variable {X:Cx}{st:Stmt}{rest:List Stmt}{t u:TS}{e:Expr}{te:TE}{pos:Pos}
def tNext:TS:=λD σ H=>D.nx σ H
def tSeq (t u:TS):TS:=λD σ H=>t { D with nx:=u D } σ H
theorem pss_nil:PSs X [] tNext:=λ_ _ σ H _ I h=>wpAny_execs_nil ⟨σ,H,I,h⟩
theorem pss_cons (h1:PS X st t)(h2:PSs X rest u):PSs X (st::rest) (tSeq t u):=by
 intro pins s σ H D I h
 refine wpAny_execs_cons (thn (h1 pins s σ H { D with nx:=u D } I h) λf s1 q=>?_)
 cases f with
 | next =>
  obtain⟨σ',H',I',q⟩:=q
  exact h2 pins s1 σ' H' D I' q
 | ret v=>exact q
 | brk=>exact q
 | cont=>exact q
theorem pss_one (h1:PS X st t):PSs X [st] t:=by
 intro pins s σ H D I h
 refine wpAny_execs_cons (thn (h1 pins s σ H D I h) λf s1 q=>?_)
 cases f with
 | next=>exact wpAny_execs_nil q
 | ret v=>exact q
 | brk=>exact q
 | cont=>exact q
theorem Inv.quiet {pins:List (Addr×Obj)}{σ:St}{H:Hp}{s:Shared}(I:Inv X pins σ H s):interactive X.env=false:=by simp[interactive,I.ok.kind]
def tDrop (te:TE):TS:=λD σ H=>te σ H λ_ H1=>D.nx σ H1
theorem ps_expr (he:PE X e te)(hs:swapsWith e none pos.line X.env=pure false:=by rfl):PS X (.Expr e pos) (tDrop te):=by
 intro pins s σ H D I h
 exact wpAny_Expr_any (thn (he pins s σ H _ I h) λv s1 ⟨x,H1,I1,r1,q1⟩=>⟨σ,H1,I1,q1⟩) I.quiet hs
def tRet (te:TE):TS:=λD σ H=>te σ H D.rt
theorem ps_ret (he:PE X e te):PS X (.Return (some e) pos) (tRet te):=by
 intro pins s σ H D I h
 exact wpAny_Return_some (thn (he pins s σ H _ I h) λv s1 ⟨x,H1,I1,r1,q1⟩=>⟨x,σ,H1,I1,r1,q1⟩)
end
abbrev TG:=V->St->Hp->(St->Hp->Prop)->Prop
abbrev TGs:=List V->St->Hp->(St->Hp->Prop)->Prop
def PG (X:Cx)(target:Expr)(t:TG):Prop :=
 ∀ (pins:List (Addr×Obj)) (s:Shared) (σ:St) (H:Hp) (v:V) (u:Value) (Q:St->Hp->Prop),Inv X pins σ H s->RelV v u->t v σ H Q ->
  wpAny (model X.prog X.w) X.A (assign target X.env u) (λ_ s'=>∃ σ' H',Inv X pins σ' H' s'/\Q σ' H') X.xe s
def PGs (X:Cx)(ts:List Expr)(t:TGs):Prop :=
 ∀ (pins:List (Addr×Obj)) (s:Shared) (σ:St) (H:Hp) (vs:List V) (us:List Value) (Q:St->Hp->Prop),Inv X pins σ H s->Vals vs us->t vs σ H Q ->
  wpAny (model X.prog X.w) X.A (assignInOrder ((assignEach ts X.env).map (·.2)) us) (λ_ s'=>∃ σ' H',Inv X pins σ' H' s'/\Q σ' H') X.xe s
abbrev TSet:=V->V->V->Hp->(Hp->Prop)->Prop
abbrev TIp:=V->V->Hp->VK->Prop
def PIp (X:Cx)(op:Operator)(t:TIp):Prop :=
 ∀ (pins:List (Addr×Obj)) (s:Shared) (σ:St) (H:Hp) (x y:V) (v u:Value) (Q:VK),Inv X pins σ H s->RelV x v->RelV y u->t x y H Q ->
  wpAny (model X.prog X.w) X.A (inplaceOp op v u) (EP X pins σ Q) X.xe s
section
variable {X:Cx}{pos:Pos}
def gName (i:Nat):TG:=λv σ H Q=>Q (σ.set i (some v)) H
theorem pg_name {i:Nat}{x:Str}(hN:X.N.Nodup)(hi:X.N[i]?=some x)(hx:Loc X.env.scope x)(hf:X.fn x=true\/X.env.scope.names.lookup x=some .local:=by first | exact .inl rfl | exact .inr rfl | assumption):PG X (.Name x pos) (gName i):=by
 intro pins s σ H v u Q I r h
 exact wpAny_assign_Name (store_ok I hN hi hx r (λs' I'=>⟨_,H,I',h⟩) hf)
def gNil:TGs:=λvs σ H Q=>vs=[]/\Q σ H
def gCons (t:TG)(u:TGs):TGs:=λvs σ H Q=>∃ v r,vs=v::r/\t v σ H λσ' H'=>u r σ' H' Q
theorem pgs_nil:PGs X [] gNil:=by
 intro pins s σ H vs us Q I r h
 obtain⟨e,h⟩:=h
 subst e
 cases r
 exact assignInOrder_nil ⟨σ,H,I,h⟩
theorem pgs_cons {e:Expr}{es:List Expr}{t:TG}{u:TGs}(h1:PG X e t)(h2:PGs X es u)
  (hs:(assignEach (e::es) X.env).map (·.2)=assign e X.env::(assignEach es X.env).map (·.2):=by rfl):PGs X (e::es) (gCons t u):=by
 intro pins s σ H vs us Q I r h
 obtain⟨v,vr,e1,h⟩:=h
 subst e1
 cases r with
 | cons r rr =>
  rw[hs]
  refine assignInOrder_cons (thn (h1 pins s σ H _ _ _ I r h) λ_ s1 ⟨σ1,H1,I1,q1⟩=>?_)
  exact h2 pins s1 σ1 H1 _ _ Q I1 rr q1
def gTup (K:W.Frag)(n:Nat)(t:TGs):TG:=λv σ H Q=>∃ a xs,v=.ref a/\SqT K H a xs/\xs.length=n/\t xs σ H Q
theorem pg_tup {es:List Expr}{k:Nat}{t:TGs}{n:Nat}(hc:X.calm=true)(h:PGs X es t)
  (hn:(assignEach es X.env).length=n:=by rfl) (hst:(assignEach es X.env).findIdx? (·.1)=none:=by rfl):PG X (.Tuple es k pos) (gTup X.K n t):=by
 intro pins s σ H v u Q I r hw
 obtain⟨a,xs,e1,hq,hl,hw⟩:=hw
 subst e1
 cases r
 obtain⟨its,rv,ht,hz⟩:=I.tuple hq
 refine assign_Tuple_tuple (I.ok.hd hc) ht (by simp[hn,<- hl,rv.length]) hst λh' hx=>?_
 have I1:Inv X pins σ H { s with heap:=h' }:=I.kept (t':=s.toks) λb o e=>hx b o (Nat.ne_of_lt (Heap.lt_size e)) e
 exact h pins _ σ H xs _ Q I1 (by simpa using rv) hw
def tAsg (te:TE)(g:TG):TS:=λD σ H=>te σ H λx H1=>g x σ H1 D.nx
theorem ps_asg {tg e:Expr}{te:TE}{g:TG}(he:PE X e te)(hg:PG X tg g)(hs:swapsWithSole [tg] e pos.line X.env=pure false:=by rfl)(hw:swappedStores [tg] e X.env=pure none:=by rfl)
  (h1:(assignEach [tg] X.env).map (·.2)=[assign tg X.env]:=by rfl):PS X (.Assign [tg] e pos) (tAsg te g):=by
 intro pins s σ H D I h
 refine wpAny_Assign_stores (thn (he pins s σ H _ I h) λv s1 ⟨x,H1,I1,r1,q1⟩=>?_) hs hw
 rw[h1]
 exact thn (hg pins s1 σ H1 x v _ I1 r1 q1) λ_ s2 q=>q
theorem ps_set {i:Nat}{x:Str}{e:Expr}{te:TE}{pos':Pos}(hN:X.N.Nodup)(hi:X.N[i]?=some x)(hx:Loc X.env.scope x)(he:PE X e te)(hs:swapsWith e (some (.Name x pos')) pos.line X.env=pure false:=by rfl)(hf:X.fn x=true\/X.env.scope.names.lookup x=some .local:=by first | exact .inl rfl | exact .inr rfl | assumption) :
  PS X (.Assign [.Name x pos'] e pos) (tAsg te (gName i)):=by
 intro pins s σ H D I h
 refine wpAny_Assign_Name (thn (he pins s σ H _ I h) λv s1 ⟨y,H1,I1,r1,q1⟩=>?_) hs
 exact store_ok I1 hN hi hx r1 (λs2 I2=>⟨_,H1,I2,q1⟩) hf
def tAug (i:Nat)(te:TE)(ti:TIp):TS:=λD σ H=>∃ x,σ[i]?=some (some x)/\te σ H λy H1=>ti x y H1 λz H2=>D.nx (σ.set i (some z)) H2
theorem ps_aug {i:Nat}{x:Str}{e:Expr}{te:TE}{op:Operator}{ti:TIp}{pos':Pos}(hN:X.N.Nodup)(hi:X.N[i]?=some x)(hx:Loc X.env.scope x)(he:PE X e te)(ho:PIp X op ti)(hf:X.fn x=true\/X.env.scope.names.lookup x=some .local:=by first | exact .inl rfl | exact .inr rfl | assumption) :
  PS X (.AugAssign (.Name x pos') op e pos) (tAug i te ti):=by
 intro pins s σ H D I h
 obtain⟨v,e1,h⟩:=h
 obtain⟨m,hn,hl⟩:=I.loc
 have vis:Vis X.env.scope x:=by rcases hx with k | k;exact .inl k;exact .inr (.inl k)
 obtain⟨u,r,l⟩:=hl i x v hi e1 vis
 refine wpAny_AugAssign_Name ?_
 have go:wpAny (model X.prog X.w) X.A (eval e X.env) (λw s₂=>wpAny (model X.prog X.w) X.A (inplaceOp op u w) (λr s₃=>wpAny (model X.prog X.w) X.A (storeName X.env x r) (λ_=>SP X pins D .next) X.xe s₃) X.xe s₂) X.xe s:=by
  refine thn (he pins s σ H _ I h) λw s1 ⟨y,H1,I1,r1,q1⟩=>?_
  refine thn (ho pins s1 σ H1 v y u w _ I1 r r1 q1) λz s2 ⟨zv,H2,I2,r2,q2⟩=>?_
  exact store_ok I2 hN hi hx r2 (λs3 I3=>⟨_,H2,I3,q2⟩) hf
 rcases l with ⟨hk,hm⟩ | ⟨hk,c,hc,hcell⟩
 ·exact wpAny_loadName_local I.ok.kind hk hn hm go
 ·rcases hk with hk | hk
  ·exact wpAny_loadName_cell I.ok.kind hk hc hcell go
  ·rcases hx with k | k
   ·have:X.env.scope.names.lookup x=some .free:=hk
    rw[k] at this;cases this
   ·have:X.env.scope.names.lookup x=some .free:=hk
    rw[k] at this;cases this
def ipI (f:Int->Int->Int):TIp:=λx y H Q=>∃ i j,x=.int i/\y=.int j/\Q (.int (f i j)) H
theorem ip_add:PIp X .Add (ipI λi j=>i+j):=by
 intro pins s σ H x y v u Q I r1 r2 h
 obtain⟨i,j,e1,e2,q⟩:=h
 subst e1;subst e2
 obtain⟨t,rfl⟩:=r1
 obtain⟨t',rfl⟩:=r2
 exact iadd_int ⟨.int _,H,I.tok _,⟨_,rfl⟩,q⟩
theorem ip_sub:PIp X .Sub (ipI λi j=>i-j):=by
 intro pins s σ H x y v u Q I r1 r2 h
 obtain⟨i,j,e1,e2,q⟩:=h
 subst e1;subst e2
 obtain⟨t,rfl⟩:=r1
 obtain⟨t',rfl⟩:=r2
 exact isub_int ⟨.int _,H,I.tok _,⟨_,rfl⟩,q⟩
end
section
variable {X:Cx}{pos:Pos}
end
structure It where
 go:Nat->Hp->Prop
 yld:Nat->Hp->V->Hp->Prop
 stop:Nat->Hp->Prop
def FpOk (X:Cx)(pins:List (Addr×Obj))(H:Hp)(b:Addr):Prop :=
 H b=none/\b≠X.env.locals/\b∉X.fs/\(b∈X.ex\/X.s₀.heap.objs.size<=b)/\(∀ x c,X.env.cells.lookup x=some c->c≠b)/\∀ p∈X.pn++pins,p.1≠b
theorem Inv.fpOk {X:Cx}{pins:List (Addr×Obj)}{σ:St}{H H':Hp}{s:Shared}{b:Addr}(I:Inv X pins σ H s)(hb:s.heap.objs.size<=b)(hn:H' b=none):FpOk X pins H' b:=by
 refine⟨hn,Nat.ne_of_gt (Nat.lt_of_lt_of_le I.lt hb),I.nofs hb,.inr (Nat.le_trans I.sz hb),λx c e z=>?_,λp hp z=>?_⟩
 ·obtain⟨v,q⟩:=I.cell x c e
  exact absurd (Nat.lt_of_lt_of_le q.lt (by rw[z];exact hb)) (Nat.lt_irrefl _)
 ·exact absurd (Nat.lt_of_lt_of_le (Heap.lt_size (I.pin p hp).1) (by rw[z];exact hb)) (Nat.lt_irrefl _)
structure Turn (P:Program)(w:World)(K:W.Frag)(tg:Expr)(J:It)(fp:List Addr)(it:Addr)(tn:Nat->Heap->Prop):Prop where
 mem:it∈fp
 obj:∀ i h,tn i h->∀ b∈fp,∃ o,h.get? b=some o/\∀ v,o.data≠.cell v
 keep:∀ i h h',tn i h->(∀ b∈fp,∀ o,h.get? b=some o->h'.get? b=some o)->tn i h'
 item:∀ (X:Cx),X.prog=P->X.w=w->X.K=K->X.calm=true->∀ (i:Nat) (pins:List (Addr×Obj)) (s:Shared) (σ:St) (H:Hp) (E:Value->Shared->Prop),Inv X pins σ H s->(∀ b∈fp,FpOk X pins H b)->tn i s.heap->J.go i H ->
  wpAny (model P w) X.A (pyNext (.ref it)) (λr s1=>∃ u,r=some u /\
   wpAny (model P w) X.A (letOwnedTupleGo tg (.ref it) u) (λ_ s2=>∃ x H',Inv X pins σ H' s2/\RelV x u/\J.yld i H x H'/\tn (i+1) s2.heap/\∀ b∈fp,H' b=none) E s1) E s
 done:∀ (X:Cx),X.prog=P->X.w=w->X.K=K->X.calm=true->∀ (i:Nat) (pins:List (Addr×Obj)) (s:Shared) (σ:St) (H:Hp) (E:Value->Shared->Prop),Inv X pins σ H s->(∀ b∈fp,FpOk X pins H b)->tn i s.heap->J.stop i H ->
  wpAny (model P w) X.A (pyNext (.ref it)) (λr s1=>r=none/\Inv X pins σ H s1) E s
 self:∀ (A:Around) (i:Nat) (s:Shared) (Q:Value->Shared->Prop) (E:Value->Shared->Prop),tn i s.heap->Q (.ref it) s->wpAny (model P w) A (pyIter (.ref it)) Q E s
abbrev TI:=St->Hp->(It->Hp->Prop)->Prop
def PIE (X:Cx)(pins:List (Addr×Obj))(σ:St)(tg:Expr)(R:It->Hp->Prop)(itv:Value)(s2:Shared):Prop :=
 ∃ (it:Addr) (fp:List Addr) (tn:Nat->Heap->Prop) (J:It) (H':Hp),itv=.ref it/\Inv X pins σ H' s2/\Turn X.prog X.w X.K tg J fp it tn/\tn 0 s2.heap/\(∀ b∈fp,FpOk X pins H' b)/\R J H'
def PI (X:Cx)(tg iter:Expr)(wi:TI):Prop :=
 ∀ (pins:List (Addr×Obj)) (s:Shared) (σ:St) (H:Hp) (R:It->Hp->Prop),Inv X pins σ H s->wi σ H R ->
  wpAny (model X.prog X.w) X.A (eval iter X.env) (λv s1=>wpAny (model X.prog X.w) X.A (pyIter v) (PIE X pins σ tg R) X.xe s1) X.xe s
theorem go_of {M : Model} {A : Around} {E : Value → Shared → Prop} {s : Shared} {tg : Expr} {it : Addr} {u : Value} {o : Obj} {n : String} {vs : Array Value} {Q : Unit → Shared → Prop} (ho : s.heap.get? it = some o) (hc : o.cls = .type n) (hd : o.data = .fields vs)
    (hn : ["enumerate", "zip", "dict_itemiterator", "dict_reverseitemiterator", "odict_iterator", "itertools.zip_longest", "itertools.pairwise"].contains n = false) (hQ : Q () s) : wpAny M A (letOwnedTupleGo tg (.ref it) u) Q E s := by
  unfold letOwnedTupleGo
  cases tg <;> first
    | exact wpAny_pure hQ
    | (cases u <;> first
        | exact wpAny_pure hQ
        | (refine wpAny_bind (wpAny_load ho ?_)
           rw [hc, hd]
           show wpAny M A (if (["enumerate", "zip", "dict_itemiterator", "dict_reverseitemiterator", "odict_iterator", "itertools.zip_longest", "itertools.pairwise"].contains n && vs[0]? == some (rawInt _)) = true then _ else _) Q E s
           rw [if_neg (by intro h; rw [hn, Bool.false_and] at h; cases h)]
           exact wpAny_pure hQ))
def Itl (K:W.Frag)(a:Addr):It :=
 ⟨λi H=>∃ xs x,SqL K H a xs/\xs[i]?=some x,λi H x H'=>H'=H/\∀ xs,SqL K H a xs->xs[i]?=some x,λi H=>∃ xs,SqL K H a xs/\xs.length<=i⟩
def Itr (lo:Int)(n:Nat):It:=⟨λi _=>i<n,λi H x H'=>H'=H/\x=.int (lo+i),λi _=>n<=i⟩
theorem turn_list {P:Program}{w:World}{K:W.Frag}{tg:Expr}(a it:Addr):Turn P w K tg (Itl K a) [it] it (λi h=>h.IsListIter it a i) where
 mem:=by simp
 obj:=λi h st b hb=>by
  have e:b=it:=by simpa using hb
  subst e
  obtain⟨o,e,c,d⟩:=st
  exact⟨o,e,λv z=>by rw[d] at z;cases z⟩
 keep:=λi h h' st k=>st.at λo e=>k it (by simp) o e
 item:=by
  intro X hP hw hK hc i pins s σ H E I hf st hg
  subst hP hw hK
  obtain⟨xs,x,hq,hx⟩:=hg
  obtain⟨its,rv,p,hz⟩:=I.list hq
  obtain⟨u,hu,ru⟩:=rv.get hx
  obtain⟨f0,f1,f2,f3,f4,f5⟩:=hf it (by simp)
  refine wpAny_pyNext_list_item st p.isList (x:=u) (by simpa using hu) λh' st' sb=>?_
  have I1:Inv X pins σ H { s with heap:=h' }:=I.turned (t':=s.toks) (λb o hb e=>(sb.2 b hb).trans e) f0 f1 f3 f4 f5
  obtain⟨o,e,c,d⟩:=id st'
  exact⟨u,rfl,go_of (s:={ s with heap:=h' }) e c d (by decide) ⟨x,H,I1,ru,⟨rfl,λys hy=>by rw[I.list_inj hy hq];exact hx⟩,st',λb hb=>(hf b hb).1⟩⟩
 done:=by
  intro X hP hw hK hc i pins s σ H E I hf st hg
  subst hP hw hK
  obtain⟨xs,hq,hx⟩:=hg
  obtain⟨its,rv,p,hz⟩:=I.list hq
  obtain⟨f0,f1,f2,f3,f4,f5⟩:=hf it (by simp)
  have hl:=rv.length
  exact wpAny_pyNext_list_end (I.ok.hd hc) st p.isList (by simp;omega) λh' eb=>⟨rfl,I.turned (t':=s.toks) (λb o hb e=>eb b o hb e) f0 f1 f3 f4 f5⟩
 self:=λ_ _ _ _ _ st h=>wpAny_pyIter_listiter st h
theorem turn_range {P:Program}{w:World}{K:PySem.W.Frag}{tg:Expr}(it:Addr)(lo:Int)(n:Nat):Turn P w K tg (Itr lo n) [it] it (λi h=>IsRangeIter h it (lo+(i:Nat)*1) ((n:Int)-(i:Nat)) 1) where
 mem:=by simp
 obj:=λi h st b hb=>by
  have e:b=it:=by simpa using hb
  subst e
  exact⟨_,st,λv z=>by
   have z':Data.fields _=Data.cell v:=z
   cases z'⟩
 keep:=λi h h' st k=>k it (by simp) _ st
 item:=by
  intro X hP hw hK hc i pins s σ H E I hf st hg
  subst hP hw hK
  obtain⟨f0,f1,f2,f3,f4,f5⟩:=hf it (by simp)
  have W:=Walks.range (prog:=X.prog) (w:=X.w) (I.ok.hd hc) it lo 1 n
  refine W.item i s _ _ hg st λv h' tk hv st' kk=>?_
  obtain⟨t,rfl⟩:=hv
  have I1:Inv X pins σ H { s with heap:=h',toks:=tk }:=I.turned (λb o hb e=>kk b o (by simpa using hb) e) f0 f1 f3 f4 f5
  refine⟨_,rfl,go_of (s:={ s with heap:=h',toks:=tk }) (n:="range_iterator") st' rfl rfl (by decide) ⟨.int (lo+i),H,I1,⟨t,?_⟩,⟨rfl,rfl⟩,st',λb hb=>(hf b hb).1⟩⟩
  rw[Int.mul_one]
 done:=by
  intro X hP hw hK hc i pins s σ H E I hf st hg
  subst hP hw hK
  obtain⟨f0,f1,f2,f3,f4,f5⟩:=hf it (by simp)
  exact wpAny_pyNext_range_end (I.ok.hd hc) st (by have:n<=i:=hg;omega) λh' eb=>⟨rfl,I.turned (t':=s.toks) (λb o hb e=>eb b o hb e) f0 f1 f3 f4 f5⟩
 self:=λ_ _ _ _ _ st h=>wpAny_pyIter_rangeiter st h
end L2
namespace L2
open PySem PySem.Spec PyProof.Rows
section
variable {X:Cx}{tg:Expr}
theorem range_it {pins:List (Addr×Obj)}{σ:St}{H:Hp}{s:Shared}{R:It->Hp->Prop}{E:Value->Shared->Prop}{lo hi:Int}{t u v:Tok}{tk:Nat}(I:Inv X pins σ H s)(h1:-(2 ^ 62)<=lo)(h2:lo<2 ^ 62)(h3:-(2 ^ 62)<=hi)(h4:hi<2 ^ 62)
  (q:R (Itr lo (hi-lo).toNat) H):wpAny (model X.prog X.w) X.A (pyIter (.ref s.heap.objs.size)) (PIE X pins σ tg R) E { s with heap:=s.heap.push { cls:=.type "range",data:=.fields #[.int lo t,.int hi u,.int 1 v] },toks:=tk }:=by
 refine wpAny_pyIter_range (IsRange.new ..) (small_one h1 h2 h3 h4) ?_
 have I1:Inv X pins σ H { s with heap:=s.heap.push { cls:=.type "range",data:=.fields #[.int lo t,.int hi u,.int 1 v] },toks:=tk }:=I.kept λb o e=>Heap.get?_push_of_some _ e
 refine⟨(s.heap.push { cls:=.type "range",data:=.fields #[.int lo t,.int hi u,.int 1 v] }).objs.size,[(s.heap.push { cls:=.type "range",data:=.fields #[.int lo t,.int hi u,.int 1 v] }).objs.size],_,_,H,rfl,
  I1.kept (t':=tk) λb o e=>Heap.get?_push_of_some _ e,turn_range _ lo (hi-lo).toNat,?_,λb hb=>?_,q⟩
 ·have e1:lo+((0:Nat):Int)*1=lo:=by simp
  have e2:(((hi-lo).toNat:Nat):Int)-((0:Nat):Int)=Builtin.Range.rangeSize lo hi 1:=by rw[rangeSize_one];split<;>omega
  show IsRangeIter _ _ (lo+((0:Nat):Int)*1) ((((hi-lo).toNat:Nat):Int)-((0:Nat):Int)) 1
  rw[e1,e2]
  exact Heap.get?_push_size _ rfl
 ·have e:b=(s.heap.push { cls:=.type "range",data:=.fields #[.int lo t,.int hi u,.int 1 v] }).objs.size:=by simpa using hb
  subst e
  exact I1.fpOk (Nat.le_refl _) (I1.hok.fresh (Nat.le_refl _))
def iRng1 (ta:TA):TI:=λσ H R=>ta σ H λvs H1=>∃ j:Int,vs=[.int j]/\-(2 ^ 62)<=j/\j<2 ^ 62/\R (Itr 0 j.toNat) H1
theorem pi_range1 {a:Expr}{ta:TA}{p pos:Pos}(hg:Gl X "range")(hm:X.mg "range"=none)(ha:PA X [a] ta)(hs:starEach [a] X.env=[(false,eval a X.env)]:=by rfl):PI X tg (.Call (.Name "range" p) [a] [] pos) (iRng1 ta):=by
 intro pins s σ H R I h
 refine Call_ (ld_blt I hg hm boot_range (PyProof.Rows.callWith_type1 (thn (ha pos pins s σ H _ I h) λus s1 ⟨vs,H1,I1,r1,q1⟩=>?_) hs rfl))
 obtain⟨j,e,q1,q2,q⟩:=q1
 subst e
 cases r1 with
 | cons r rr =>
  cases rr
  obtain⟨t,rfl⟩:=r
  exact call_range_1 (range_it I1 (by omega) (by omega) q1 q2 (by simpa using q))
def tFor (wi:TI)(g:TG)(tb:TS):TS:=λD σ H=>wi σ H λJ H1=>∃ W:Nat->Nat->St->Hp->Prop,(∃ m,W 0 m σ H1)/\∀ i m σ H,W i m σ H ->
 (J.stop i H/\D.nx σ H)\/(J.go i H/\∃ N:St->Hp->Prop,(∀ σ' H',N σ' H'->∃ m',m'<m/\W (i+1) m' σ' H')/\∀ x H',J.yld i H x H'->g x σ H' λσ2 H2=>tb { D with nx:=N,ct:=N,bk:=D.nx } σ2 H2)
def pinsAt (fp:List Addr)(h:Heap):List (Addr×Obj):=fp.filterMap λb=>(h.get? b).map λo=>(b,o)
theorem mem_pinsAt {fp:List Addr}{h:Heap}{b:Addr}{o:Obj}(hb:b∈fp)(e:h.get? b=some o):(b,o)∈pinsAt fp h:=List.mem_filterMap.mpr ⟨b,hb,by rw[e];rfl⟩
theorem of_pinsAt {fp:List Addr}{h:Heap}{p:Addr×Obj}(hp:p∈pinsAt fp h):p.1∈fp/\h.get? p.1=some p.2:=by
 obtain⟨b,hb,e⟩:=List.mem_filterMap.mp hp
 cases q:h.get? b with
 | none=>rw[q] at e;cases e
 | some o =>
  rw[q] at e
  have e':(b,o)=p:=Option.some.inj e
  subst e'
  exact⟨hb,q⟩
theorem Inv.pinned {pins:List (Addr×Obj)}{σ:St}{H:Hp}{s:Shared}{fp:List Addr}(I:Inv X pins σ H s)(hf:∀ b∈fp,FpOk X pins H b)(ho:∀ b∈fp,∃ o,s.heap.get? b=some o/\∀ v,o.data≠.cell v):Inv X (pins++pinsAt fp s.heap) σ H s :=
 I.pins_of λp hp=>(List.mem_append.mp hp).elim (λz=>I.pin p (List.mem_append_right _ z)) λz=>by
  obtain⟨hb,e⟩:=of_pinsAt z
  obtain⟨f0,f1,f2,_⟩:=hf p.1 hb
  obtain⟨o,e',d⟩:=ho p.1 hb
  rw[e] at e';cases e'
  exact⟨e,f0,f1,f2,d⟩
theorem Inv.unpinned {pins pl:List (Addr×Obj)}{σ:St}{H:Hp}{s:Shared}(I:Inv X (pins++pl) σ H s):Inv X pins σ H s:=I.pins_of λp hp=>I.pin p (List.mem_append_right _ (List.mem_append_left _ hp))
theorem ps_for {iter:Expr}{body:List Stmt}{wi:TI}{g:TG}{tb:TS}{pos:Pos}(hp:PassesOwn (model X.prog X.w) X.A X.env X.xe)(hc:X.calm=true)(hi:PI X tg iter wi)(hg:PG X tg g)(hb:PSs X body tb)
  (hs:∀ x,foldedSetIterable iter X.env x=pure x:=by intro _;rfl):PS X (.For tg iter body [] pos) (tFor wi g tb):=by
 intro pins s σ H D I h
 refine wpAny_For (thn (hi pins s σ H _ I h) λv s1 h1=>thn h1 λitv s2 h2=>?_) hs
 obtain⟨it,fp,tn,J,H2,e,I2,T,st2,f2,W,⟨m0,w0⟩,turn⟩:=h2
 subst e
 have stat:∀ {H':Hp},(∀ b∈fp,H' b=none)->∀ b∈fp,FpOk X pins H' b:=λhn b hb=>⟨hn b hb,(f2 b hb).2⟩
 refine codeAny_forLoop_any (λn s'=>∃ i σ' H',Inv X pins σ' H' s'/\tn i s'.heap/\(∀ b∈fp,H' b=none)/\W i n σ' H') ?_ m0 ⟨0,σ,H2,I2,st2,λb hb=>(f2 b hb).1,w0⟩
 rintro n s3 ⟨i,σ3,H3,I3,st3,fr3,w3⟩
 rcases turn i n σ3 H3 w3 with ⟨stop,qn⟩ | ⟨go,N,hN,step⟩
 ·refine wpAny_passesOwn hp (thn (T.done X rfl rfl rfl hc i pins s3 σ3 H3 X.xe I3 (stat fr3) st3 stop) λr s4 ⟨hr,I4⟩=>?_)
  subst hr
  exact wpAny_execs_nil ⟨σ3,H3,I4,qn⟩
 ·refine wpAny_passesOwn hp (thn (T.item X rfl rfl rfl hc i pins s3 σ3 H3 X.xe I3 (stat fr3) st3 go) λr s4 ⟨u,hr,h4⟩=>?_)
  subst hr
  refine wpAny_passesOwn hp (thn h4 λ_ s5 ⟨x,H5,I5,r5,y5,st5,fr5⟩=>?_)
  have I5':=I5.pinned (stat fr5) (T.obj _ _ st5)
  refine wpAny_passesOwn hp (thn (hg _ s5 σ3 H5 x u _ I5' r5 (step x H5 y5)) λ_ s6 ⟨σ6,H6,I6,q6⟩=>?_)
  refine wpAny_passesOwn hp (thn (hb _ s6 σ6 H6 _ I6 q6) λf s7 q7=>?_)
  have again:∀ {σ7:St} {H7:Hp},Inv X (pins++pinsAt fp s5.heap) σ7 H7 s7->N σ7 H7->∃ m,m<n/\∃ i σ' H',Inv X pins σ' H' s7/\tn i s7.heap/\(∀ b∈fp,H' b=none)/\W i m σ' H':=λ{σ7 H7} I7 n7=>by
   obtain⟨m',hm,w7⟩:=hN σ7 H7 n7
   refine⟨m',hm,i+1,σ7,H7,I7.unpinned,T.keep _ _ _ st5 λb hb o e=>(I7.pin (b,o) (List.mem_append_right _ (List.mem_append_right _ (mem_pinsAt hb e)))).1,λb hb=>?_,w7⟩
   obtain⟨o,e,d⟩:=T.obj _ _ st5 b hb
   exact(I7.pin (b,o) (List.mem_append_right _ (List.mem_append_right _ (mem_pinsAt hb e)))).2.1
  cases f with
  | next=>obtain⟨σ7,H7,I7,n7⟩:=q7;exact again I7 n7
  | cont=>obtain⟨σ7,H7,I7,n7⟩:=q7;exact again I7 n7
  | brk=>obtain⟨σ7,H7,I7,q7⟩:=q7;exact⟨σ7,H7,I7.unpinned,q7⟩
  | ret v=>obtain⟨x7,σ7,H7,I7,r7,q7⟩:=q7;exact⟨x7,σ7,H7,I7.unpinned,r7,q7⟩
end
theorem for_list {K:PySem.W.Frag}{a:Addr}{xs:List V}{g:TG}{tb:TS}{D:Ends}{σ:St}{H:Hp}(Pv:Nat->St->Hp->Prop)(h0:Pv 0 σ H)(hl:∀ i σ H,i<=xs.length->Pv i σ H->SqL K H a xs)
  (hs:∀ i x σ H,xs[i]?=some x->Pv i σ H->g x σ H λσ2 H2=>tb { D with nx:=Pv (i+1),ct:=Pv (i+1),bk:=D.nx } σ2 H2) (hd:∀ σ H,Pv xs.length σ H->D.nx σ H) :
  ∃ W:Nat->Nat->St->Hp->Prop,(∃ m,W 0 m σ H)/\∀ i m σ H,W i m σ H ->
   ((Itl K a).stop i H/\D.nx σ H)\/((Itl K a).go i H/\∃ N:St->Hp->Prop,(∀ σ' H',N σ' H'->∃ m',m'<m/\W (i+1) m' σ' H')/\∀ x H',(Itl K a).yld i H x H'->g x σ H' λσ2 H2=>tb { D with nx:=N,ct:=N,bk:=D.nx } σ2 H2):=by
 refine⟨λi m σ H=>m=xs.length-i/\i<=xs.length/\Pv i σ H,⟨xs.length,by simp,Nat.zero_le _,h0⟩,?_⟩
 rintro i m σ H ⟨rfl,hi,p⟩
 have q:=hl i σ H hi p
 by_cases hlt:i<xs.length
 ·refine .inr ⟨⟨xs,xs[i],q,by simp[hlt]⟩,Pv (i+1),λσ' H' p'=>⟨xs.length-(i+1),by omega,rfl,hlt,p'⟩,λx H' y=>?_⟩
  obtain⟨e,y⟩:=y
  subst e
  exact hs i x σ _ (y xs q) p
 ·have e:i=xs.length:=by omega
  subst e
  exact .inl ⟨⟨xs,q,Nat.le_refl _⟩,hd σ H p⟩
theorem for_range {lo:Int}{n:Nat}{g:TG}{tb:TS}{D:Ends}{σ:St}{H:Hp}(Pv:Nat->St->Hp->Prop)(h0:Pv 0 σ H)
  (hs:∀ i σ H,i<n->Pv i σ H->g (.int (lo+i)) σ H λσ2 H2=>tb { D with nx:=Pv (i+1),ct:=Pv (i+1),bk:=D.nx } σ2 H2) (hd:∀ σ H,Pv n σ H->D.nx σ H) :
  ∃ W:Nat->Nat->St->Hp->Prop,(∃ m,W 0 m σ H)/\∀ i m σ H,W i m σ H ->
   ((Itr lo n).stop i H/\D.nx σ H)\/((Itr lo n).go i H/\∃ N:St->Hp->Prop,(∀ σ' H',N σ' H'->∃ m',m'<m/\W (i+1) m' σ' H')/\∀ x H',(Itr lo n).yld i H x H'->g x σ H' λσ2 H2=>tb { D with nx:=N,ct:=N,bk:=D.nx } σ2 H2):=by
 refine⟨λi m σ H=>m=n-i/\i<=n/\Pv i σ H,⟨n,by simp,Nat.zero_le _,h0⟩,?_⟩
 rintro i m σ H ⟨rfl,hi,p⟩
 by_cases hlt:i<n
 ·refine .inr ⟨hlt,Pv (i+1),λσ' H' p'=>⟨n-(i+1),by omega,rfl,hlt,p'⟩,λx H' y=>?_⟩
  obtain⟨e,y⟩:=y
  subst e y
  exact hs i σ _ hlt p
 ·have e:i=n:=by omega
  subst e
  exact .inl ⟨Nat.le_refl _,hd σ H p⟩
end L2
namespace L2
open PySem PySem.Spec PyProof.Rows
abbrev R2:=V->V->Hp->VK->Prop
def OpR (X:Cx)(f:Value->Value->Sem Value)(r:R2):Prop :=
 ∀ (pins:List (Addr×Obj)) (s:Shared) (σ:St) (H:Hp) (x y:V) (v u:Value) (Q:VK),Inv X pins σ H s->RelV x v->RelV y u->r x y H Q ->
  wpAny (model X.prog X.w) X.A (f v u) (EP X pins σ Q) X.xe s
def UnR (X:Cx)(f:Value->Sem Value)(r:V->Hp->VK->Prop):Prop :=
 ∀ (pins:List (Addr×Obj)) (s:Shared) (σ:St) (H:Hp) (x:V) (v:Value) (Q:VK),Inv X pins σ H s->RelV x v->r x H Q ->
  wpAny (model X.prog X.w) X.A (f v) (EP X pins σ Q) X.xe s
def CallR (X:Cx)(f:Value)(r:List V->Hp->VK->Prop):Prop :=
 ∀ (pins:List (Addr×Obj)) (s:Shared) (σ:St) (H:Hp) (xs:List V) (us:List Value) (Q:VK),Inv X pins σ H s->Vals xs us->r xs H Q ->
  wpAny (model X.prog X.w) X.A (call f us) (EP X pins σ Q) X.xe s
def TruR (X:Cx)(r:V->Hp->(Bool->Hp->Prop)->Prop):Prop :=
 ∀ (pins:List (Addr×Obj)) (s:Shared) (σ:St) (H:Hp) (x:V) (v:Value) (Q:Bool->Hp->Prop),Inv X pins σ H s->RelV x v->r x H Q ->
  wpAny (model X.prog X.w) X.A (truthy v) (TP X pins σ Q) X.xe s
def tOp (r:R2)(ta tb:TE):TE:=λσ H Q=>ta σ H λx H1=>tb σ H1 λy H2=>r x y H2 Q
def tUn (r:V->Hp->VK->Prop)(ta:TE):TE:=λσ H Q=>ta σ H λx H1=>r x H1 Q
def rI (C:Int->Int->Prop)(g:Int->Int->V):R2:=λx y H Q=>∃ i j,x=.int i/\y=.int j/\C i j/\Q (g i j) H
def rI0 (g:Int->Int->V):R2:=λx y H Q=>∃ i j,x=.int i/\y=.int j/\Q (g i j) H
def rU (g:Int->V):V->Hp->VK->Prop:=λx H Q=>∃ i,x=.int i/\Q (g i) H
section
variable {X:Cx}{a b c:Expr}{ta tb tc:TE}{pos:Pos}
theorem binT (ha:PE X a ta)(hb:PE X b tb){pins:List (Addr×Obj)}{s:Shared}{σ:St}{H:Hp}{R:V->V->Hp->Prop}(I:Inv X pins σ H s)
  (h:ta σ H λx H1=>tb σ H1 λy H2=>R x y H2) {Q:Value->Shared->Prop} {f:Value->Value->Sem Value}
  (hf:∀ v u s2 x y H2,Inv X pins σ H2 s2->RelV x v->RelV y u->R x y H2->wpAny (model X.prog X.w) X.A (f v u) Q X.xe s2) :
  wpAny (model X.prog X.w) X.A (eval a X.env) (λv s₁=>wpAny (model X.prog X.w) X.A (eval b X.env) (λu s₂=>wpAny (model X.prog X.w) X.A (f v u) Q X.xe s₂) X.xe s₁) X.xe s:=by
 refine thn (ha pins s σ H _ I h) λv s1 ⟨x,H1,I1,r1,q1⟩=>?_
 refine thn (hb pins s1 σ H1 _ I1 q1) λu s2 ⟨y,H2,I2,r2,q2⟩=>?_
 exact hf v u s2 x y H2 I2 r1 r2 q2
theorem pe_op {op:Operator}{r:R2}(ho:OpR X (binaryOp op) r)(ha:PE X a ta)(hb:PE X b tb):PE X (.BinOp a op b pos) (tOp r ta tb):=by
 intro pins s σ H Q I h
 exact wpAny_BinOp (binT ha hb I h λv u s2 x y H2 I2 rx ry q=>ho pins s2 σ H2 x y v u Q I2 rx ry q)
theorem pe_un {op:UnaryOp}{r:V->Hp->VK->Prop}(ho:UnR X (unaryOp op) r)(ha:PE X a ta):PE X (.UnaryOp op a pos) (tUn r ta):=by
 intro pins s σ H Q I h
 exact UnaryOp_ (thn (ha pins s σ H _ I h) λv s1 ⟨x,H1,I1,r1,q1⟩=>ho pins s1 σ H1 x v Q I1 r1 q1)
theorem opI {f:Value->Value->Sem Value}{C:Int->Int->Prop}{g:Int->Int->Int}
  (rule:∀ (i j:Int) (t u:Tok) (s:Shared) (Q:Value->Shared->Prop) (E:Value->Shared->Prop),C i j->Q (.int (g i j) s.toks) { s with toks:=s.toks+1 }->wpAny (model X.prog X.w) X.A (f (.int i t) (.int j u)) Q E s) :
  OpR X f (rI C λi j=>.int (g i j)):=by
 intro pins s σ H x y v u Q I rx ry h
 obtain⟨i,j,rfl,rfl,hc,q⟩:=h
 obtain⟨t,rfl⟩:=rx
 obtain⟨t',rfl⟩:=ry
 exact rule i j t t' s _ _ hc ⟨.int (g i j),H,I.tok _,⟨_,rfl⟩,q⟩
theorem opI0 {f:Value->Value->Sem Value}{g:Int->Int->Int}
  (rule:∀ (i j:Int) (t u:Tok) (s:Shared) (Q:Value->Shared->Prop) (E:Value->Shared->Prop),Q (.int (g i j) s.toks) { s with toks:=s.toks+1 }->wpAny (model X.prog X.w) X.A (f (.int i t) (.int j u)) Q E s) :
  OpR X f (rI0 λi j=>.int (g i j)):=by
 intro pins s σ H x y v u Q I rx ry h
 obtain⟨i,j,rfl,rfl,q⟩:=h
 obtain⟨t,rfl⟩:=rx
 obtain⟨t',rfl⟩:=ry
 exact rule i j t t' s _ _ ⟨.int (g i j),H,I.tok _,⟨_,rfl⟩,q⟩
theorem opB0 {f:Value->Value->Sem Value}{g:Int->Int->Bool}
  (rule:∀ (i j:Int) (t u:Tok) (s:Shared) (Q:Value->Shared->Prop) (E:Value->Shared->Prop),Q (.bool (g i j)) s->wpAny (model X.prog X.w) X.A (f (.int i t) (.int j u)) Q E s) :
  OpR X f (rI0 λi j=>.bl (g i j)):=by
 intro pins s σ H x y v u Q I rx ry h
 obtain⟨i,j,rfl,rfl,q⟩:=h
 obtain⟨t,rfl⟩:=rx
 obtain⟨t',rfl⟩:=ry
 exact rule i j t t' s _ _ ⟨.bl (g i j),H,I,rfl,q⟩
def CPow (i j:Int):Prop:=0<=j/\j<=1000000/\i.natAbs<2 ^ 64
def CMul (i j:Int):Prop:=(-(2 ^ 64)<i/\i<2 ^ 64)\/(-(2 ^ 64)<j/\j<2 ^ 64)
theorem CMul.ok {i j:Int}(h:CMul i j):IntMulOk i j:=by
 rcases h with ⟨h1,h2⟩ | ⟨h1,h2⟩
 ·exact .of_left (intBits_le_64 h1 h2)
 ·exact .of_right (intBits_le_64 h1 h2)
theorem op_add:OpR X (binaryOp .Add) (rI0 λi j=>.int (i+j)):=opI0 λ_ _ _ _ _ _ _ q=>add_int q
theorem op_sub:OpR X (binaryOp .Sub) (rI0 λi j=>.int (i-j)):=opI0 λ_ _ _ _ _ _ _ q=>sub_int q
theorem op_mul:OpR X (binaryOp .Mult) (rI CMul λi j=>.int (i*j)):=opI λ_ _ _ _ _ _ _ hc q=>mul_int q hc.ok
theorem op_mod:OpR X (binaryOp .Mod) (rI (λ_ j=>0<j) λi j=>.int (i % j)):=opI λi j _ _ _ _ _ hc q=>by
 have h1:(0:Int)<j:=hc
 exact mod_int' (by omega) (by rw[Int.fmod_eq_emod_of_nonneg i (by omega)];exact q)
theorem op_pow:OpR X (binaryOp .Pow) (rI CPow λi j=>.int (i ^ j.toNat)):=opI λ_ _ _ _ _ _ _ hc q=>pow_int_small hc.1 hc.2.1 hc.2.2 q
theorem unI {f:Value->Sem Value}{g:Int->Int}
  (rule:∀ (i:Int) (t:Tok) (s:Shared) (Q:Value->Shared->Prop) (E:Value->Shared->Prop),Q (.int (g i) s.toks) { s with toks:=s.toks+1 }->wpAny (model X.prog X.w) X.A (f (.int i t)) Q E s) :
  UnR X f (rU λi=>.int (g i)):=by
 intro pins s σ H x v Q I rx h
 obtain⟨i,rfl,q⟩:=h
 obtain⟨t,rfl⟩:=rx
 exact rule i t s _ _ ⟨.int (g i),H,I.tok _,⟨_,rfl⟩,q⟩
theorem un_neg:UnR X (unaryOp .USub) (rU λi=>.int (-i)):=unI λ_ _ _ _ _ q=>neg_int q
end
def scal:V->V->Bool
 | .non,.non=>true | .non,.int _=>true | .int _,.non=>true | .non,.bl _=>true | .bl _,.non=>true | .non,.str _=>true | .str _,.non=>true
 | .int _,.int _=>true | .bl _,.bl _=>true | .str _,.str _=>true | .byt _,.byt _=>true
 | .int _,.str _=>true | .str _,.int _=>true | .bl _,.str _=>true | .str _,.bl _=>true
 | _,_=>false
def rEq:R2:=λx y H Q=>scal x y=true/\Q (.bl (decide (x=y))) H
def rNe:R2:=λx y H Q=>scal x y=true/\Q (.bl (!decide (x=y))) H
theorem dec_int {i j:Int}:decide (V.int i=V.int j)=(i == j):=by
 rw[Bool.eq_iff_iff]
 simp
theorem dec_bl {i j:Bool}:decide (V.bl i=V.bl j)=(i == j):=by
 rw[Bool.eq_iff_iff]
 simp
theorem dec_str {i j:Str}:decide (V.str i=V.str j)=(i == j):=by
 rw[Bool.eq_iff_iff]
 simp
theorem dec_byt {i j:Array UInt8}:decide (V.byt i=V.byt j)=(i.toList == j.toList):=by
 rw[Bool.eq_iff_iff]
 cases i
 cases j
 simp
section
variable {X:Cx}{a b c:Expr}{ta tb tc:TE}{pos:Pos}
theorem fin_bl {pins:List (Addr×Obj)}{σ:St}{H:Hp}{s:Shared}{Q:VK}{k k':Bool}(I:Inv X pins σ H s)(q:Q (.bl k) H)(e:k=k'):EP X pins σ Q (.bool k') s:=by
 subst e
 exact⟨.bl k,H,I,rfl,q⟩
theorem op_eq:OpR X (compareOp .Eq) rEq:=by
 intro pins s σ H x y v u Q I rx ry h
 obtain⟨hs,q⟩:=h
 cases x with
 | non =>
  cases rx
  cases y with
  | non=>cases ry;exact PySem.EqNone.eq_none_none (fin_bl I q (by simp))
  | bl j=>cases ry;exact PySem.EqNone.eq_none_bool (fin_bl I q (by simp))
  | int j=>obtain⟨t',rfl⟩:=ry;exact PySem.EqNone.eq_none_int (fin_bl I q (by simp))
  | str j=>obtain⟨t',rfl⟩:=ry;exact PySem.EqNone.eq_none_str (fin_bl I q (by simp))
  | _=>exact absurd (show false=true from hs) Bool.false_ne_true
 | bl i =>
  cases rx
  cases y with
  | non=>cases ry;exact PySem.EqNone.eq_bool_none (fin_bl I q (by simp))
  | bl j=>cases ry;exact eq_bool (fin_bl I q dec_bl)
  | str j=>obtain⟨t',rfl⟩:=ry;exact PySem.EqMixed.eq_bool_str (fin_bl I q (by simp))
  | _=>exact absurd (show false=true from hs) Bool.false_ne_true
 | int i =>
  obtain⟨t,rfl⟩:=rx
  cases y with
  | non=>cases ry;exact PySem.EqNone.eq_int_none (fin_bl I q (by simp))
  | int j=>obtain⟨t',rfl⟩:=ry;exact eq_int (fin_bl I q dec_int)
  | str j=>obtain⟨t',rfl⟩:=ry;exact PySem.EqMixed.eq_int_str (fin_bl I q (by simp))
  | _=>exact absurd (show false=true from hs) Bool.false_ne_true
 | str i =>
  obtain⟨t,rfl⟩:=rx
  cases y with
  | non=>cases ry;exact PySem.EqNone.eq_str_none (fin_bl I q (by simp))
  | bl j=>cases ry;exact PySem.EqMixed.eq_str_bool (fin_bl I q (by simp))
  | int j=>obtain⟨t',rfl⟩:=ry;exact PySem.EqMixed.eq_str_int (fin_bl I q (by simp))
  | str j=>obtain⟨t',rfl⟩:=ry;exact eq_str (fin_bl I q dec_str)
  | _=>exact absurd (show false=true from hs) Bool.false_ne_true
 | byt i =>
  obtain⟨t,rfl⟩:=rx
  cases y with
  | byt j=>obtain⟨t',rfl⟩:=ry;exact W.eq_bytes (fin_bl I q dec_byt)
  | _=>exact absurd (show false=true from hs) Bool.false_ne_true
 | _=>cases y<;>exact absurd (show false=true from hs) Bool.false_ne_true
theorem op_ne:OpR X (compareOp .NotEq) rNe:=by
 intro pins s σ H x y v u Q I rx ry h
 obtain⟨hs,q⟩:=h
 cases x with
 | non =>
  cases rx
  cases y with
  | non=>cases ry;exact PySem.EqNone.ne_none_none (fin_bl I q (by simp))
  | bl j=>cases ry;exact PySem.EqNone.ne_none_bool (fin_bl I q (by simp))
  | int j=>obtain⟨t',rfl⟩:=ry;exact PySem.EqNone.ne_none_int (fin_bl I q (by simp))
  | str j=>obtain⟨t',rfl⟩:=ry;exact PySem.EqNone.ne_none_str (fin_bl I q (by simp))
  | _=>exact absurd (show false=true from hs) Bool.false_ne_true
 | bl i =>
  cases rx
  cases y with
  | non=>cases ry;exact PySem.EqNone.ne_bool_none (fin_bl I q (by simp))
  | bl j=>cases ry;exact ne_bool (fin_bl I q (congrArg not dec_bl))
  | str j=>obtain⟨t',rfl⟩:=ry;exact PySem.EqMixed.ne_bool_str (fin_bl I q (by simp))
  | _=>exact absurd (show false=true from hs) Bool.false_ne_true
 | int i =>
  obtain⟨t,rfl⟩:=rx
  cases y with
  | non=>cases ry;exact PySem.EqNone.ne_int_none (fin_bl I q (by simp))
  | int j=>obtain⟨t',rfl⟩:=ry;exact ne_int (fin_bl I q (congrArg not dec_int))
  | str j=>obtain⟨t',rfl⟩:=ry;exact PySem.EqMixed.ne_int_str (fin_bl I q (by simp))
  | _=>exact absurd (show false=true from hs) Bool.false_ne_true
 | str i =>
  obtain⟨t,rfl⟩:=rx
  cases y with
  | non=>cases ry;exact PySem.EqNone.ne_str_none (fin_bl I q (by simp))
  | bl j=>cases ry;exact PySem.EqMixed.ne_str_bool (fin_bl I q (by simp))
  | int j=>obtain⟨t',rfl⟩:=ry;exact PySem.EqMixed.ne_str_int (fin_bl I q (by simp))
  | str j=>obtain⟨t',rfl⟩:=ry;exact ne_str (fin_bl I q (congrArg not dec_str))
  | _=>exact absurd (show false=true from hs) Bool.false_ne_true
 | byt i =>
  obtain⟨t,rfl⟩:=rx
  cases y with
  | byt j=>obtain⟨t',rfl⟩:=ry;exact W.ne_bytes (fin_bl I q (congrArg not dec_byt))
  | _=>exact absurd (show false=true from hs) Bool.false_ne_true
 | _=>cases y<;>exact absurd (show false=true from hs) Bool.false_ne_true
theorem op_lt:OpR X (compareOp .Lt) (rI0 λi j=>.bl (decide (i<j))):=opB0 λ_ _ _ _ _ _ _ q=>lt_int q
theorem op_le:OpR X (compareOp .LtE) (rI0 λi j=>.bl (decide (i<=j))):=opB0 λ_ _ _ _ _ _ _ q=>le_int q
theorem op_gt:OpR X (compareOp .Gt) (rI0 λi j=>.bl (decide (j<i))):=opB0 λ_ _ _ _ _ _ _ q=>gt_int q
theorem op_ge:OpR X (compareOp .GtE) (rI0 λi j=>.bl (decide (j<=i))):=opB0 λ_ _ _ _ _ _ _ q=>ge_int q
theorem op_isN:OpR X (compareOp .Is) (λx y H Q=>y=.non/\Q (.bl (decide (x=.non))) H):=by
 intro pins s σ H x y v u Q I rx ry h
 obtain⟨rfl,q⟩:=h
 cases ry
 refine is_none_gen (fin_bl I q ?_)
 cases x<;>first
  | (cases rx;rfl)
  | (obtain⟨t,rfl⟩:=rx;rfl)
theorem nomark (b:Expr){op:CmpOp}(h:op≠.In:=by decide)(h2:op≠.NotIn:=by decide):behindInMarks op b=false:=by
 have e1:(op == CmpOp.In)=false:=by cases op<;>first | rfl | exact absurd rfl h
 have e2:(op == CmpOp.NotIn)=false:=by cases op<;>first | rfl | exact absurd rfl h2
 cases b<;>simp[behindInMarks,e1,e2]
theorem pe_cmpR {op:CmpOp}{r:R2}(ho:OpR X (compareOp op) r)(ha:PE X a ta)(hb:PE X b tb)(hm:behindInMarks op b=false):PE X (.Compare a [op] [b] pos) (tOp r ta tb):=by
 intro pins s σ H Q I h
 exact wpAny_Compare1 (binT ha hb I h λv u s2 x y H2 I2 rx ry q=>ho pins s2 σ H2 x y v u Q I2 rx ry q) hm
def TruV (K:W.Frag)(x:V)(H:Hp)(k:Bool):Prop :=
 match x with
 | .non=>k=false
 | .bl b=>k=b
 | .int i=>k=(i != 0)
 | .str y=>y.length<=sizeLine/\k=((y.length:Int) != 0)
 | .byt y=>y.size<=sizeLine/\k=((y.size:Int) != 0)
 | .ref p=>(∃ xs,SqL K H p xs/\k=!xs.isEmpty)\/(∃ xs,SqT K H p xs/\k=!xs.isEmpty)\/∃ kvs,H p=some (.dK kvs)/\k=!kvs.isEmpty
 | _=>False
theorem isEmpty_kv {κ:Type}{kvs:List (κ×V)}{vs:List (κ×Value)}(r:KV kvs vs):(!vs.isEmpty)=!kvs.isEmpty:=by
 cases r<;>rfl
theorem isEmpty_of {xs:List V}{its:List Value}(r:Vals xs its):(!its.toArray.isEmpty)=!xs.isEmpty:=by
 cases r<;>simp
theorem line63:(sizeLine:Nat)<2 ^ 63:=by rw[sizeLine_eq];decide
theorem tru_ok:TruR X (λx H Q=>∃ k,TruV X.K x H k/\Q k H):=by
 intro pins s σ H x v Q I rx h
 obtain⟨k,e,q⟩:=h
 have hl:=line63
 have hs:sizeLine=16777216:=sizeLine_eq
 cases x with
 | non =>
  cases rx
  have e':k=false:=e
  subst e'
  exact truthy_none ⟨H,I,q⟩
 | bl b =>
  cases rx
  have e':k=b:=e
  subst e'
  exact wpAny_truthy_bool ⟨H,I,q⟩
 | int i =>
  obtain⟨t,rfl⟩:=rx
  have e':k=(i != 0):=e
  subst e'
  exact PySem.P.truthy_int ⟨H,I,q⟩
 | str y =>
  obtain⟨t,rfl⟩:=rx
  obtain⟨hy,e'⟩:y.length<=sizeLine/\k=((y.length:Int) != 0):=e
  subst e'
  exact PySem.P.truthy_str (by omega) ⟨H,I.tok _,q⟩
 | byt y =>
  obtain⟨t,rfl⟩:=rx
  obtain⟨hy,e'⟩:y.size<=sizeLine/\k=((y.size:Int) != 0):=e
  subst e'
  exact W.truthy_bytes (by omega) ⟨H,I.tok _,q⟩
 | ref p =>
  cases rx
  have e':(∃ xs,SqL X.K H p xs/\k=!xs.isEmpty)\/(∃ xs,SqT X.K H p xs/\k=!xs.isEmpty)\/∃ kvs,H p=some (.dK kvs)/\k=!kvs.isEmpty:=e
  rcases e' with ⟨xs,hx,e'⟩ | ⟨xs,hx,e'⟩ | ⟨kvs,hx,e'⟩
  ·subst e'
   obtain⟨its,r,pl,hz⟩:=I.list hx
   have hlen:=r.length
   exact wpAny_truthy_list pl.isList (by simp only[List.size_toArray];omega) ⟨H,I.tok _,by rw[isEmpty_of r];exact q⟩
  ·subst e'
   obtain⟨its,r,pl,hz⟩:=I.tuple hx
   have hlen:=r.length
   exact truthy_tuple pl (by simp only[List.size_toArray];omega) ⟨H,I.tok _,by rw[isEmpty_of r];exact q⟩
  ·subst e'
   obtain⟨hz,hS,vs,r,m⟩:kvs.length<=sizeLine/\(p == sysModules)=false/\∃ vs,KV kvs vs/\s.heap.DictOf (mixKind X.prog X.w) p vs:=I.hok p _ hx
   have hlen:kvs.length=vs.length:=Paired.length r
   exact wpAny_truthy_dict hS m (by omega) ⟨H,I.tok _,by rw[isEmpty_kv r];exact q⟩
 | _=>exact(show False from e).elim
theorem op_add_str:OpR X (binaryOp .Add) (λx y H Q=>∃ i j,x=.str i/\y=.str j/\i.length+j.length<=sizeLine/\Q (.str (i++j)) H):=by
 intro pins s σ H x y v u Q I rx ry h
 obtain⟨i,j,rfl,rfl,hz,q⟩:=h
 obtain⟨t,rfl⟩:=rx
 obtain⟨t',rfl⟩:=ry
 exact add_str (λt' tk=>⟨.str (i++j),H,I.tok _,⟨_,rfl⟩,q⟩) hz
theorem vals1 {x:V}{us:List Value}(r:Vals [x] us):∃ u,us=[u]/\RelV x u:=by
 cases r with
 | cons r1 r2=>cases r2;exact⟨_,rfl,r1⟩
theorem vals2 {x y:V}{us:List Value}(r:Vals [x,y] us):∃ u w',us=[u,w']/\RelV x u/\RelV y w':=by
 cases r with
 | cons r1 r2 =>
  cases r2 with
  | cons r3 r4=>cases r4;exact⟨_,_,rfl,r1,r3⟩
theorem call_abs:CallR X (.builtin "abs") (λxs H Q=>∃ i,xs=[.int i]/\Q (.int (if i<0 then -i else i)) H):=by
 intro pins s σ H xs us Q I r h
 obtain⟨i,rfl,q⟩:=h
 obtain⟨u,rfl,t,rfl⟩:=vals1 r
 exact call_abs_int λu tk=>⟨.int (if i<0 then -i else i),H,I.tok _,⟨_,rfl⟩,q⟩
theorem call_max2 (hc:X.calm=true):CallR X (.builtin "max") (λxs H Q=>∃ i j,xs=[.int i,.int j]/\Q (.int (if j > i then j else i)) H):=by
 intro pins s σ H xs us Q I r h
 obtain⟨i,j,rfl,q⟩:=h
 obtain⟨u,w',rfl,⟨t,rfl⟩,⟨t',rfl⟩⟩:=vals2 r
 refine max_two_ints (I.ok.hd hc) λh' tk k=>⟨_,H,I.kept k,?_,q⟩
 by_cases hj:j > i
 ·rw[if_pos hj,if_pos hj];exact⟨_,rfl⟩
 ·rw[if_neg hj,if_neg hj];exact⟨_,rfl⟩
theorem call_min2 (hc:X.calm=true):CallR X (.builtin "min") (λxs H Q=>∃ i j,xs=[.int i,.int j]/\Q (.int (if j<i then j else i)) H):=by
 intro pins s σ H xs us Q I r h
 obtain⟨i,j,rfl,q⟩:=h
 obtain⟨u,w',rfl,⟨t,rfl⟩,⟨t',rfl⟩⟩:=vals2 r
 refine min_two_ints (I.ok.hd hc) λh' tk k=>⟨_,H,I.kept k,?_,q⟩
 by_cases hj:j<i
 ·rw[if_pos hj,if_pos hj];exact⟨_,rfl⟩
 ·rw[if_neg hj,if_neg hj];exact⟨_,rfl⟩
theorem call_int1:CallR X (.type "int") (λxs H Q=>(∃ i,xs=[.int i]/\Q (.int i) H)\/∃ k,xs=[.bl k]/\Q (.int (if k then 1 else 0)) H):=by
 intro pins s σ H xs us Q I r h
 rcases h with ⟨i,rfl,q⟩ | ⟨k,rfl,q⟩
 ·obtain⟨u,rfl,t,rfl⟩:=vals1 r
  exact call_int_int ⟨.int i,H,I,⟨_,rfl⟩,q⟩
 ·obtain⟨u,rfl,r1⟩:=vals1 r
  cases r1
  exact call_int_bool ⟨.int (if k then 1 else 0),H,I.tok _,⟨_,rfl⟩,q⟩
theorem call_str_int:CallR X (.type "str") (λxs H Q=>∃ i,xs=[.int i]/\i.natAbs.log2<1920/\Q (.str (toString i)) H):=by
 intro pins s σ H xs us Q I r h
 obtain⟨i,rfl,hz,q⟩:=h
 obtain⟨u,rfl,t,rfl⟩:=vals1 r
 exact PySem.P.str_of_int hz ⟨.str _,H,I.tok _,⟨_,rfl⟩,q⟩
end
end L2
namespace L2
open PySem PySem.Spec PyProof.Rows
structure ObjM (h:Heap)(x dx C:Addr)(mA:Str->Option Value):Prop where
 obj:h.get? x=some (W.instObj C dx)
 ns:h.Ns1 dx mA
 ne:dx≠x
theorem lookIn_ns {h:Heap}{dx:Addr}{mA:Str->Option Value}(n:h.Ns1 dx mA):∃ od,h.get? dx=some od/\∀ name,W.lookIn name od=some (mA name):=by
 obtain⟨o,es,ep,ho,hd,hk,_,hm⟩:=n
 refine⟨o,ho,λname=>?_⟩
 have e:=hm name
 unfold nsFind findBy at e
 rw[<- Array.find?_toList] at e
 unfold W.lookIn
 rw[hd]
 dsimp only
 split
 ·rename_i y q
  rw[q] at e
  exact congrArg some e
 ·rename_i q
  rw[q] at e
  have a:es.toList.any (·.refKey)=false:=by
   rw[List.any_eq_false]
   intro y hy
   obtain⟨z,t,hkey⟩:=hk y (Array.mem_toList_iff.mp hy)
   simp[DictEntry.refKey,hkey]
  have a':¬ es.toList.any (·.refKey)=true:=by rw[a];exact Bool.false_ne_true
  rw[if_neg a']
  exact congrArg some e
theorem ObjM.look {h:Heap}{x dx C:Addr}{mA:Str->Option Value}(I:ObjM h x dx C mA):∃ od,W.InstAt h x (W.instObj C dx) C (some od)/\∀ name,W.lookIn name od=some (mA name) :=
 let ⟨od,ho,hl⟩:=lookIn_ns I.ns
 ⟨od,⟨I.obj,rfl,rfl,ho⟩,hl⟩
section
variable {prog:Program}{w:World}{A:Around}{E:Value->Shared->Prop}{s:Shared}{K:W.Frag}{x dx C f:Addr}{mA:Str->Option Value}{name:Str}{v:Value}
end
section
variable {P:Program}{w:World}{H H':Hp}{h h':Heap}{a C dx:Addr}{fs fs':List (Str×V)}
theorem ins_get (hok:HOk P w H h)(e:H a=some (.ins C dx fs)):∃ mA,ObjM h a dx C mA/\(∀ f,RelO (fs.lookup f) (mA f))/\PySem.Within mA (fs.map (·.1))/\fs.length<=1000/\H dx=some (.own a):=by
 obtain⟨d,z,ne,ob,mA,n,r,q⟩:=(show ObjOk P w H h a (.ins C dx fs) from hok a _ e)
 exact⟨mA,⟨ob,n,ne⟩,r,q,z,d⟩
end
structure Cls (K:W.Frag)(C:Addr):Prop where
 pg:W.plainGet K C Str.empty=true
 hd:W.hasDictIn K C=true
 po:W.plainOver K C=true
 sa:W.findIn K (.ref C) "__setattr__"=some (some (.builtin "object.__setattr__"))
theorem Cls.get {K:W.Frag}{C:Addr}(c:Cls K C)(f:Str):W.plainGet K C f=true:=c.pg
structure Con (K:W.Frag)(C:Addr)(f:Str)(v:V)(u:Value):Prop where
 at_:W.findIn K (.ref C) f=some (some u)
 rel:RelV v u
 get:W.specialIn K u "__get__"=some none
 cp:W.copiedNames.contains f=false
structure Meth (K:W.Frag)(C:Addr)(m:Str)(f:Addr):Prop where
 at_:W.findIn K (.ref C) m=some (some (.ref f))
 fn:W.isFn K (.ref f)=true
 kp:W.keepIn K (.ref f)=true
section
variable {X:Cx}{pins:List (Addr×Obj)}{σ:St}{H:Hp}{s:Shared}{a C dx:Addr}{fs:List (Str×V)}{f:Str}{v:V}{A:Around}{E:Value->Shared->Prop}
end
section
variable {X:Cx}{o e value:Expr}{f:Str}{pos pos' tpos:Pos}{ta tv:TE}
end
section
variable {X:Cx}{pins:List (Addr×Obj)}{σ:St}{H:Hp}{s:Shared}{A:Around}{E:Value->Shared->Prop}{Q:Value->Shared->Prop}{c:Value}{b:Bool}
inductive TyOf (K:W.Frag)(H:Hp):V->Value->Prop where
 | non:TyOf K H .non (.type "NoneType")
 | bl (x:Bool):TyOf K H (.bl x) (.type "bool")
 | int (i:Int):TyOf K H (.int i) (.type "int")
 | str (x:Str):TyOf K H (.str x) (.type "str")
 | flt (x:UInt64):TyOf K H (.flt x) (.type "float")
 | lst {a:Addr} {xs:List V} (e:H a=some (.lst xs)):TyOf K H (.ref a) (.type "list")
 | frz {a:Addr} {o:Obj} {xs:List V} (e:H a=some (.frz o (.lst xs))):TyOf K H (.ref a) (.type "list")
 | tup {a:Addr} {xs:List V} (e:H a=some (.tup xs)):TyOf K H (.ref a) (.type "tuple")
 | dK {a:Addr} {kvs:List (Key×V)} (e:H a=some (.dK kvs)):TyOf K H (.ref a) (.type "dict")
 | dT {a:Addr} {kvs:List (List Key×V)} (e:H a=some (.dT kvs)):TyOf K H (.ref a) (.type "dict")
 | ins {a C dx:Addr} {fs:List (Str×V)} (e:H a=some (.ins C dx fs)) (cl:Cls K C) (ha:W.findIn K (.ref C) "__class__"=some (some (.builtin "object.__class__")))
   (hn:W.specialIn K (.builtin "object.__class__") "__get__"=some (some (.builtin "getset_descriptor.__get__"))) (htk:W.takesIn K (.builtin "object.__class__")=some true)
   (hm:W.mroIn K C (.type "object")=some true):TyOf K H (.ref a) (.ref C)
theorem isinst_ok {x:V}{u t:Value}(I:Inv X pins σ H s)(rx:RelV x u)(ty:TyOf X.K H x t)(e:W.kitOne X.K t c=some b)(h:∀ tk,Q (.bool b) { s with toks:=tk }) :
  wpAny (model X.prog X.w) A (call (.builtin "isinstance") [u,c]) Q E s:=by
 cases ty with
 | non=>cases (show u=Value.none from rx);exact W.kia_one W.kitx_none I.kIn True.intro e (λz=>nomatch z) h
 | bl y=>cases (show u=Value.bool y from rx);exact W.kia_one W.kitx_bool I.kIn True.intro e (λz=>nomatch z) h
 | int i=>obtain⟨t,q⟩:=(show ∃ t,u=Value.int i t from rx);cases q;exact W.kia_one W.kitx_int I.kIn True.intro e (λz=>nomatch z) h
 | str y=>obtain⟨t,q⟩:=(show ∃ t,u=Value.str y t from rx);cases q;exact W.kia_one W.kitx_str I.kIn True.intro e (λz=>nomatch z) h
 | flt y=>obtain⟨t,q⟩:=(show ∃ t,u=Value.float y t from rx);cases q;exact W.kia_one W.kitx_float I.kIn True.intro e (λz=>nomatch z) h
 | @lst a xs ea =>
  cases (show u=Value.ref a from rx)
  obtain⟨_,_,n,_,h1⟩:=(show ObjOk X.prog X.w H s.heap a (.lst xs) from I.hok a _ ea)
  exact W.kia_one W.kitx_list I.kIn ⟨_,h1,rfl⟩ e (λz=>nomatch z) h
 | @frz a ob xs ea =>
  cases (show u=Value.ref a from rx)
  obtain⟨_,_,_,n,_,h1⟩:=(show ObjOk X.prog X.w H s.heap a (.frz ob (.lst xs)) from I.hok a _ ea)
  exact W.kia_one W.kitx_list I.kIn ⟨_,h1,rfl⟩ e (λz=>nomatch z) h
 | @tup a xs ea =>
  cases (show u=Value.ref a from rx)
  obtain⟨_,_,_,p⟩:=(show ObjOk X.prog X.w H s.heap a (.tup xs) from I.hok a _ ea)
  obtain⟨o,h1,h2,_⟩:=p
  exact W.kia_one W.kitx_tuple I.kIn ⟨o,h1,h2⟩ e (λz=>nomatch z) h
 | @dK a kvs ea =>
  cases (show u=Value.ref a from rx)
  obtain⟨_,_,vs,_,p⟩:=(show ObjOk X.prog X.w H s.heap a (.dK kvs) from I.hok a _ ea)
  obtain⟨o,es,ep,h1,h2,_⟩:=p
  exact W.kia_one W.kitx_dict I.kIn ⟨o,h1,h2.1⟩ e (λz=>nomatch z) h
 | @dT a kvs ea =>
  cases (show u=Value.ref a from rx)
  obtain⟨_,_,xs,_,o,es,ep,h1,h2,_⟩:=(show ObjOk X.prog X.w H s.heap a (.dT kvs) from I.hok a _ ea)
  exact W.kia_one W.kitx_dict I.kIn ⟨o,h1,h2.1⟩ e (λz=>nomatch z) h
 | @ins a C dx fs ea cl ha hn htk hm =>
  cases (show u=Value.ref a from rx)
  obtain⟨mA,O,_⟩:=ins_get I.hok ea
  obtain⟨od,J,_⟩:=O.look
  exact W.kia_one (W.kitx_own (cl.get _) cl.hd ha hn htk hm) I.kIn J e (λz=>nomatch z) h
end
end L2
namespace L2
open PySem PySem.Spec PyProof.Rows
structure Room (k:Nat)(A:Around):Prop where
 hd:A.handled=none
 dp:A.depth+3*k+5<recursionLimit
 un:A.units+16*k+200<cLine
 gd:A.guards=some []
theorem Room.mono {j k:Nat}{A:Around}(r:Room k A)(h:j<=k):Room j A:=⟨r.hd,by have:=r.dp;omega,by have:=r.un;omega,r.gd⟩
theorem Room.deeper {k:Nat}{A:Around}(r:Room (k+1) A)(env:Env):Room k (A.deeper env) :=
 ⟨r.hd,by have:=r.dp;show A.depth+1+3*k+5<_;omega,by have:=r.un;show A.units+3+16*k+200<_;omega,r.gd⟩
theorem Room.depth {k:Nat}{A:Around}(r:Room k A):A.depth<recursionLimit:=by have:=r.dp;omega
theorem Room.units {k:Nat}{A:Around}(r:Room k A):A.units+64<cLine:=by have:=r.un;omega
theorem Room.units0 {k:Nat}{A:Around}(r:Room k A):A.units<cLine:=by have:=r.un;omega
def tNil:TA:=λ_ H Q=>Q [] H
def tCons (ta:TE)(tr:TA):TA:=λσ H Q=>ta σ H λx H1=>tr σ H1 λxs H2=>Q (x::xs) H2
section
variable {X:Cx}{e:Expr}{es:List Expr}{te:TE}{t:TA}{pos:Pos}
theorem pa_nil:PA X [] tNil:=λ_ _ _ _ H Q I h=>Calls.spliced_nil ⟨[],H,I,.nil,h⟩
theorem pa_cons (ha:PE X e te)(hr:PA X es t)(hs:starEach (e::es) X.env=(false,eval e X.env)::starEach es X.env:=by rfl):PA X (e::es) (tCons te t):=by
 intro pos pins s σ H Q I h
 rw[hs]
 show wpAny _ _ (spliced ((false,eval e X.env)::backTo pos (starEach es X.env))) _ _ s
 refine Calls.spliced_cons (thn (ha pins s σ H _ I h) λu s1 ⟨x,H1,I1,r1,q1⟩=>?_)
 exact thn (hr pos pins s1 σ H1 _ I1 q1) λus s2 ⟨xs,H2,I2,r2,q2⟩=>⟨x::xs,H2,I2,.cons r1 r2,q2⟩
def tTup (t:TA):TE:=λσ H Q=>t σ H λxs H1=>xs.length<=sizeLine/\∀ p,H1 p=none->Q (.ref p) (upd H1 p (.tup xs))
def tLst (t:TA):TE:=λσ H Q=>t σ H λxs H1=>xs.length<=sizeLine/\∀ p,H1 p=none->Q (.ref p) (upd H1 p (.lst xs))
theorem pe_tup {x1}(h:PA X es t):PE X (.Tuple es x1 pos) (tTup t):=by
 intro pins s σ H Q I hq
 refine wpAny_Tuple_spliced (thn (h pos pins s σ H _ I hq) λus s1 ⟨xs,H1,I1,r,z,q⟩=>⟨by rw[<- r.length];exact z,?_⟩)
 have hf:H1 s1.heap.objs.size=none:=I1.hok.fresh (Nat.le_refl _)
 refine⟨.ref s1.heap.objs.size,upd H1 s1.heap.objs.size (.tup xs),I1.laid (t':=s1.toks) (λb u e=>Heap.get?_push_of_some _ e) (Nat.le_refl _) ?_,rfl,q _ hf⟩
 exact⟨z,us,r,⟨_,Heap.get?_push_size _ rfl,rfl,_,rfl⟩⟩
theorem pe_lst (h:PA X es t):PE X (.List es pos) (tLst t):=by
 intro pins s σ H Q I hq
 refine wpAny_List_spliced (thn (h pos pins s σ H _ I hq) λus s1 ⟨xs,H1,I1,r,z,q⟩=>⟨by rw[<- r.length];exact z,?_⟩)
 have hf:H1 s1.heap.objs.size=none:=I1.hok.fresh (Nat.le_refl _)
 refine⟨.ref s1.heap.objs.size,upd H1 s1.heap.objs.size (.lst xs),I1.laid (t':=s1.toks) (λb u e=>Heap.get?_push_of_some _ e) (Nat.le_refl _) ?_,rfl,q _ hf⟩
 exact⟨z,us,0,r,Heap.get?_push_size _ rfl⟩
end
abbrev Sp:=List V->Hp->VK->XK->Prop
abbrev CXT:=List Env->Hp->Shared->XK->Value->Shared->Prop
structure Env0 (P:Program)(w:World)(K:W.Frag)(mg:Str->Option Value)(base:Heap)(A:Around)(outer:List Env)(s:Shared)(H:Hp):Prop where
 frames:A.frames=some outer
 mod:Mod K mg base
 bs:∀ b o,base.get? b=some o->s.heap.get? b=some o/\H b=none
 bsz:base.objs.size<=s.heap.objs.size
 funs:s.heap.FunFrames base outer
 frf:∀ b∈frs outer,H b=none
 hok:HOk P w H s.heap
 bare:AllBare s.gens
def CE (outer:List Env)(P:Program)(w:World)(H:Hp)(s:Shared)(Q:VK)(u:Value)(s':Shared):Prop :=
 ∃ v H',s'.os=s.os/\AllBare s'.gens/\Un (frs outer) [] H H' s.heap s'.heap/\HOk P w H' s'.heap/\RelV v u/\Q v H'
def CR (CX:CXT)(outer:List Env)(P:Program)(w:World)(H:Hp)(s:Shared)(Q:VK)(E:XK)(r:Result)(s':Shared):Prop :=
 match r with
 | .ok (.ret u)=>CE outer P w H s Q u s'
 | .ok _=>False
 | .error e=>CX outer H s E e s'
structure FnOk (P:Program)(w:World)(K:W.Frag)(mg:Str->Option Value)(base:Heap)(CX:CXT)(k:Nat)(f:Addr)(fd:FuncData)(ps:List Str)(sp:Sp):Prop where
 len:∀ vs H Q E,sp vs H Q E->vs.length=ps.length
 run:∀ (A:Around) (outer:List Env) (s:Shared) (H:Hp) (args:Args) (us:List Value) (vs:List V) (Q:VK) (E:XK),Room k A->Env0 P w K mg base A outer s H->BindsTo s fd args (ps.zip us)->Vals vs us->sp vs H Q E ->
  codeAny (model P w) A (.call (.ref f) args) (CR CX outer P w H s Q E) s
theorem FnOk.imp {P:Program}{w:World}{K:W.Frag}{mg:Str->Option Value}{base:Heap}{CX:CXT}{k:Nat}{f:Addr}{fd:FuncData}{ps:List Str}{sp sp':Sp}(F:FnOk P w K mg base CX k f fd ps sp)
  (h:∀ vs H Q E,sp' vs H Q E->sp vs H Q E):FnOk P w K mg base CX k f fd ps sp' :=
 ⟨λvs H Q E q=>F.len vs H Q E (h _ _ _ _ q),λA outer s H args us vs Q E hr he hb hv hs=>F.run A outer s H args us vs Q E hr he hb hv (h _ _ _ _ hs)⟩
section
variable {X:Cx}{pins:List (Addr×Obj)}{σ:St}{H:Hp}{s s':Shared}
theorem Inv.env0 (I:Inv X pins σ H s):Env0 X.prog X.w X.K X.mg X.base X.A X.stack s H :=
 ⟨I.ok.frames,I.ok.mod,I.bs,Nat.le_trans I.ok.bsz I.sz,I.stack,I.stkFree,I.hok,I.bare⟩
theorem Inv.after {Q:VK}{u:Value}(I:Inv X pins σ H s)(h:CE X.stack X.prog X.w H s Q u s'):EP X pins σ Q u s':=by
 obtain⟨v,H',os,bare,un,hok,r,q⟩:=h
 obtain⟨hh,g,d,t,os'⟩:=s'
 obtain rfl:os'=s.os:=os
 exact⟨v,H',I.call (h':=hh) (g':=g) (d':=d) (t':=t) (ch:=[]) un hok bare (λb z=>absurd z (by simp)),r,q⟩
end
def tCall (sp:Sp)(dvs:List V)(E:XK)(t:TA):TE:=λσ H Q=>t σ H λvs H1=>sp (vs++dvs) H1 Q E
def Binds (K:W.Frag)(fd:FuncData)(ps:List Str)(ds:List Value):Prop :=
 ∀ (s:Shared) (us:List Value),K.In s.heap->(us++ds).length=ps.length->BindsTo s fd ⟨us,[]⟩ (ps.zip (us++ds))
theorem Binds.all {K:W.Frag}{fd:FuncData}{ps:List Str}(h:∀ us:List Value,us.length=ps.length->bindArgs fd ⟨us,[]⟩=pure (ps.zip us)):Binds K fd ps []:=λs us _ hl=>by
 rw[List.append_nil] at hl ⊢
 exact .of_eq (h us hl)
def Passes (CX:CXT)(X:Cx)(E:XK):Prop:=∀ (pins:List (Addr×Obj)) (σ:St) (H:Hp) (s:Shared) (e:Value) (s':Shared),Inv X pins σ H s->CX X.stack H s E e s'->X.xe e s'
section
variable {X:Cx}{CX:CXT}{k:Nat}{f C:Addr}{fd:FuncData}{ps:List Str}{sp:Sp}{dvs:List V}{ds:List Value}{E:XK}{x m:Str}{p pos apos:Pos}{e o:Expr}{es:List Expr}{ta:TE}{t:TA}
theorem run_fn {pins:List (Addr×Obj)}{σ:St}{H:Hp}{s:Shared}{Q:VK}{us:List Value}{vs:List V}(F:FnOk X.prog X.w X.K X.mg X.base CX k f fd ps sp)(hr:Room k X.A)(hb:Binds X.K fd ps ds)(hd:Vals dvs ds)(hx:Passes CX X E)
  (I:Inv X pins σ H s) (r:Vals vs us) (h:sp (vs++dvs) H Q E):wpAny (model X.prog X.w) X.A (call (.ref f) us) (EP X pins σ Q) X.xe s:=by
 have r2:Vals (vs++dvs) (us++ds):=r.append hd
 have hl:(us++ds).length=ps.length:=by rw[<- r2.length];exact F.len _ _ _ _ h
 refine wpAny_call (codeAny_mono (F.run X.A X.stack s H ⟨us,[]⟩ (us++ds) (vs++dvs) Q E hr I.env0 (hb s us I.kIn hl) r2 h) λr s' hq=>?_)
 cases r with
 | error e=>exact hx pins σ H s e s' I hq
 | ok fl =>
  cases fl with
  | ret u=>exact I.after hq
  | next=>exact False.elim hq
  | brk=>exact False.elim hq
  | cont=>exact False.elim hq
theorem pe_call (F:FnOk X.prog X.w X.K X.mg X.base CX k f fd ps sp)(hr:Room k X.A)(hg:Gl X x)(hm:X.mg x=some (.ref f))(hk:W.keepIn X.K (.ref f)=true)(hb:Binds X.K fd ps ds)(hd:Vals dvs ds)(hx:Passes CX X E)
  (ha:PA X (e::es) t) (hdb:(x == ("__debug__":Str))=false:=by decide) (he:starEach (e::es) X.env=(false,eval e X.env)::starEach es X.env:=by rfl) (hpl:(backTo pos (starEach es X.env)).any (·.1)=false:=by rfl) :
  PE X (.Call (.Name x p) (e::es) [] pos) (tCall sp dvs E t):=by
 intro pins s σ H Q I h
 refine wpAny_Call_Name_kw (ld_glob I hg hm ?_ hdb)
 refine W.callWith_K (h₀:=X.base) I.ok.mod.kin hk (thn (ha pos pins s σ H _ I h) λus s1 ⟨vs,H1,I1,r,q⟩=>⟨I1.kIn,?_⟩) he hpl
 exact run_fn F hr hb hd hx I1 r q
structure Mk (K:W.Frag)(C f:Addr):Prop where
 makes:W.makesIn K C=true
 init:W.findIn K (.ref C) "__init__"=some (some (.ref f))
 fn:W.isFn K (.ref f)=true
 kp:W.keepIn K (.ref C)=true
end
section
variable {X:Cx}{CX:CXT}{k:Nat}{f C:Addr}{fd:FuncData}{ps ks:List Str}{sp:Sp}{E:XK}{x m:Str}{p pos apos kpos:Pos}{e o:Expr}{es:List Expr}{kws:List Keyword}{te ta:TE}{t tk:TA}{nm:Option Str}
structure KBinds (K:W.Frag)(fd:FuncData)(ps ks:List Str)(g:List Value->List Value->List Value)(gV:List V->List V->List V):Prop where
 to:∀ (s:Shared) (us ws:List Value),K.In s.heap->(g us ws).length=ps.length->BindsTo s fd ⟨us,ks.zip ws⟩ (ps.zip (g us ws))
 rel:∀ {vs:List V} {us:List Value} {zs:List V} {ws:List Value},Vals vs us->Vals zs ws->Vals (gV vs zs) (g us ws)
variable {g:List Value->List Value->List Value}{gV:List V->List V->List V}
end
structure FnScope (N P:List Str)(sc:Scope):Prop where
 kind:sc.kind=.function
 co:sc.isCoroutine=false
 gen:sc.isGenerator=false
 nd:N.Nodup
 pre:N.take P.length=P
 par:∀ x∈P,sc.names.lookup x=some .local\/sc.names.lookup x=some .cell
 nofree:∀ y∈sc.names,y.2≠.free
theorem bindL_out {kindOf:Str->Option NameKind}{x:Str}:∀ {binds:List (Str×Value)} {m:Str->Option Value},(∀ v,(x,v)∉binds)->bindL kindOf binds m x=m x
 | [],_,_=>rfl
 | (n,v)::r,m,h=>by
  unfold bindL
  rw[bindL_out λw hw=>h w (List.mem_cons_of_mem _ hw)]
  split
  ·have:x≠n:=by rintro rfl;exact h v List.mem_cons_self
   simp[this]
  ·rfl
theorem bindC_out {kindOf:Str->Option NameKind}{x:Str}:∀ {binds:List (Str×Value)} {m:Str->Option Value},(∀ v,(x,v)∉binds)->bindC kindOf binds m x=m x
 | [],_,_=>rfl
 | (n,v)::r,m,h=>by
  unfold bindC
  rw[bindC_out λw hw=>h w (List.mem_cons_of_mem _ hw)]
  split
  ·rfl
  ·have:x≠n:=by rintro rfl;exact h v List.mem_cons_self
   simp[this]
theorem bindL_get {kindOf:Str->Option NameKind}{x:Str}{v:Value}:∀ {P:List Str} {vs:List Value} {i:Nat} {m:Str->Option Value},P.Nodup->P[i]?=some x->vs[i]?=some v->kindOf x=some .local ->
  bindL kindOf (P.zip vs) m x=some v
 | [],_,_,_,_,h,_,_=>by simp at h
 | _::_,[],_,_,_,_,h,_=>by simp at h
 | p::P,w::vs,0,m,nd,h1,h2,hk=>by
  simp at h1 h2;subst h1;subst h2
  show bindL kindOf ((p,w)::P.zip vs) m p=_
  unfold bindL
  rw[bindL_out λv hv=>(List.nodup_cons.mp nd).1 (List.of_mem_zip hv).1,if_pos hk]
  simp
 | p::P,w::vs,i+1,m,nd,h1,h2,hk=>by
  show bindL kindOf ((p,w)::P.zip vs) m x=_
  unfold bindL
  exact bindL_get (i:=i) (List.nodup_cons.mp nd).2 (by simpa using h1) (by simpa using h2) hk
theorem bindC_get {kindOf:Str->Option NameKind}{x:Str}{v:Value}:∀ {P:List Str} {vs:List Value} {i:Nat} {m:Str->Option Value},P.Nodup->P[i]?=some x->vs[i]?=some v->kindOf x≠some .local ->
  bindC kindOf (P.zip vs) m x=some v
 | [],_,_,_,_,h,_,_=>by simp at h
 | _::_,[],_,_,_,_,h,_=>by simp at h
 | p::P,w::vs,0,m,nd,h1,h2,hk=>by
  simp at h1 h2;subst h1;subst h2
  show bindC kindOf ((p,w)::P.zip vs) m p=_
  unfold bindC
  rw[bindC_out λv hv=>(List.nodup_cons.mp nd).1 (List.of_mem_zip hv).1,if_neg hk]
  simp
 | p::P,w::vs,i+1,m,nd,h1,h2,hk=>by
  show bindC kindOf ((p,w)::P.zip vs) m x=_
  unfold bindC
  exact bindC_get (i:=i) (List.nodup_cons.mp nd).2 (by simpa using h1) (by simpa using h2) hk
def start (N:List Str)(vs:List V):St:=vs.map some++List.replicate (N.length-vs.length) none
def cxOf (CX:CXT)(P:Program)(w:World)(K:W.Frag)(mg:Str->Option Value)(base:Heap)(N:List Str)(qual:Str)(scope:Scope)(f:Addr)(cd:Value)(A:Around)(outer:List Env)(s:Shared)(H:Hp)(E:XK):Cx where
 prog:=P
 w:=w
 K:=K
 mg:=mg
 base:=base
 A:=A.deeper (envOfC qual scope s.heap.objs.size f cd)
 N:=N
 s₀:=s
 H₀:=H
 env:=envOfC qual scope s.heap.objs.size f cd
 outer:=outer
 stack:=envOfC qual scope s.heap.objs.size f cd::outer
 ex:=[]
 calm:=true
 fn:=λ_=>true
 pn:=[]
 xe:=λe s'=>wpAny (model P w) (A.deeper (envOfC qual scope s.heap.objs.size f cd)) (leaving (envOfC qual scope s.heap.objs.size f cd) e) (λ_ s''=>CX outer H s E e s'') (λe' s''=>CX outer H s E e' s'') s'
theorem cell_has {sc:Scope}{n:Nat}{x:Str}(h:sc.names.lookup x=some .cell):∃ c,(cellsFrom n sc.names []).lookup x=some c:=by
 have q:=W.cellsFrom_some sc.names n [] (.inl h)
 exact Option.isSome_iff_exists.mp q
theorem inv_start {CX:CXT}{P:Program}{w:World}{K:W.Frag}{mg:Str->Option Value}{base:Heap}{N ps:List Str}{qual:Str}{scope:Scope}{f:Addr}{cd:Value}{A:Around}{outer:List Env}{s s1:Shared}{H:Hp}{E:XK}{us:List Value}{vs:List V}
  (S:FnScope N ps scope) (hd:A.handled=none) (e0:Env0 P w K mg base A outer s H) (hl:vs.length=ps.length) (r:Vals vs us)
  (x:InCallC s s.heap.objs.size (bindL (envOfC qual scope s.heap.objs.size f cd).kindOf (ps.zip us) λ_=>none) (cellsFrom (s.heap.objs.size+1) scope.names []) (bindC (envOfC qual scope s.heap.objs.size f cd).kindOf (ps.zip us) λ_=>none) s1) :
  Inv (cxOf CX P w K mg base N qual scope f cd A outer s H E) [] (start N vs) H s1:=by
 have hpl:ps.length<=N.length:=by have:=congrArg List.length S.pre;rw[List.length_take] at this;omega
 obtain⟨h1,tk,rfl,hk⟩:=x.done
 have noA:∀ b:Addr,b∉(cxOf CX P w K mg base N qual scope f cd A outer s H E).ex:=λb z=>absurd (show b∈([]:List Addr) from z) (by simp)
 refine⟨⟨e0.mod,S.kind,rfl,rfl,Nat.le_refl _,λy z c h1 h2=>?_,λy hy=>?_,λy c _ h=>?_,λ_=>hd,Around.frames_deeper e0.frames,.inr ⟨rfl,rfl⟩,λb z=>absurd z (noA b),e0.bs,e0.bsz,λb _ _=>noA b,λb z=>absurd z (noA b),e0.funs,e0.frf⟩,
  rfl,e0.bare,Un.kept hk,⟨_,x.toInCall.ns,λi y v h1 h2 h3=>?_⟩,λy c h=>⟨_,x.cell y c h⟩,e0.hok.fresh (Nat.le_refl _),λy c h=>?_,λp hp=>absurd (show p∈([]:List (Addr×Obj)) from hp) (by simp),e0.hok.kept hk,?_⟩
 ·exact name_of_addr x.apart (PySem.mem_of_lookup h1) (PySem.mem_of_lookup h2)
 ·have hy:scope.names.lookup y=some .cell\/scope.names.lookup y=some .free:=hy
  rcases hy with hy | hy
  ·exact cell_has hy
  ·exact absurd rfl (S.nofree _ (PySem.mem_of_lookup hy))
 ·exact Nat.le_of_lt (x.above y c (PySem.mem_of_lookup h))
 ·have hi:i<vs.length:=by
   unfold start at h2
   by_cases hi:i<vs.length
   ·exact hi
   ·rw[List.getElem?_append_right (by simpa using hi)] at h2
    rw[List.getElem?_replicate] at h2
    split at h2<;>cases h2
  have ha:vs[i]?=some v:=by
   unfold start at h2
   rw[List.getElem?_append_left (by simpa using hi),List.getElem?_map] at h2
   cases e:vs[i]? with
   | none=>rw[e] at h2;cases h2
   | some a=>rw[e] at h2;cases h2;rfl
  obtain⟨u,hu,rv⟩:=r.get ha
  have hp:ps[i]?=some y:=by
   rw[<- S.pre,List.getElem?_take_of_lt (by omega)];exact h1
  have ndP:ps.Nodup:=by rw[<- S.pre];exact S.nd.sublist (List.take_sublist _ _)
  refine⟨u,rv,?_⟩
  rcases S.par y (List.mem_of_getElem? hp) with k | k
  ·exact .inl ⟨k,bindL_get ndP hp hu k⟩
  ·obtain⟨c,e⟩:=cell_has (n:=s.heap.objs.size+1) k
   refine .inr ⟨.inl k,c,e,?_⟩
   have q:=x.cell y c e
   rw[bindC_get ndP hp hu (by show scope.names.lookup y≠_;rw[k];decide)] at q
   exact q
 ·exact e0.hok.fresh (Nat.le_of_lt (x.above y c (PySem.mem_of_lookup h)))
 ·unfold start
  show _=N.length
  rw[List.length_append,List.length_map,List.length_replicate]
  omega
theorem fn_of {CX:CXT}{P:Program}{w:World}{K:W.Frag}{mg:Str->Option Value}{base:Heap}{k:Nat}{f:Addr}{name qual:Str}{params:Arguments}{body:List Stmt}{scope:Scope}{dV kV doc pm cdv ct oc:Value}{an od:Option Addr}
  {osl:Array (Option Value)} {N ps:List Str} {sp:Sp} (lk:K.lookup f=some ⟨oc,od,.func (W.fnOf name qual params body scope dV kV doc pm an cdv ct),osl⟩) (hcd:W.codeIn K cdv qual=true) (S:FnScope N ps scope)
  (len:∀ vs H Q E,sp vs H Q E->vs.length=ps.length)
  (hbody:∀ (A:Around) (outer:List Env) (s:Shared) (H:Hp) (vs:List V) (Q:VK) (E:XK),Room k (A.deeper (envOfC qual scope s.heap.objs.size f cdv))->sp vs H Q E ->
   ∃ t,PSs (cxOf CX P w K mg base N qual scope f cdv A outer s H E) body t/\t { nx:=λ_ H'=>Q .non H',rt:=Q } (start N vs) H) :
  FnOk P w K mg base CX (k+1) f (W.fnOf name qual params body scope dV kV doc pm an cdv ct) ps sp:=by
 refine⟨len,λA outer s H args us vs Q E hr e0 hb r hsp=>?_⟩
 have hl:=len _ _ _ _ hsp
 have KX:K.In s.heap:=e0.mod.kin.keeps λb o e=>(e0.bs b o e).1
 have lim:s.heap.NoLimit:=e0.mod.nolimit.keeps λb o e=>(e0.bs b o e).1
 have hkind:∀ y∈ps.zip us,scope.names.lookup y.1=some .local\/(scope.names.lookup y.1=some .cell/\((cellsFrom (s.heap.objs.size+1) scope.names []).lookup y.1).isSome=true):=λ⟨n,v⟩ hy=>by
  rcases S.par n (List.of_mem_zip hy).1 with q | q
  ·exact .inl q
  ·exact .inr ⟨q,W.cellsFrom_some _ _ _ (.inl q)⟩
 refine codeAny_call_function hr.depth (KX _ _ lk) rfl S.co S.gen rfl (W.codeRec_of KX hcd) (hb _ _ _ _ ?_)
 refine wpAny_newFunctionEnv_cells S.kind hkind λenv he s1 x=>?_
 subst he
 refine⟨lim.keeps x.toInCall.keep,codeAny_func ?_⟩
 obtain⟨t,ht,hq⟩:=hbody A outer s H vs Q E (hr.deeper _) hsp
 have I:Inv (cxOf CX P w K mg base N qual scope f cdv A outer s H E) [] (start N vs) H s1:=inv_start S hr.hd e0 hl r x
 refine wpAny_mono (ht [] s1 (start N vs) H _ I hq) (λfl s' hs=>?_) λe s' hs=>hs
 have fin:∀ {σ':St} {H':Hp} {v:V} {u:Value},Inv (cxOf CX P w K mg base N qual scope f cdv A outer s H E) [] σ' H' s'->RelV v u->Q v H'->CE outer P w H s Q u s' :=
  λ{σ' H' v u} J rv q=>⟨v,H',J.os,J.bare,J.base,J.hok,rv,q⟩
 cases fl with
 | ret u =>
  obtain⟨v,σ',H',J,rv,q⟩:=hs
  exact fin J rv q
 | next =>
  obtain⟨σ',H',J,q⟩:=hs
  exact fin (v:=V.non) (u:=Value.none) J rfl q
 | brk =>
  obtain⟨_,_,_,q⟩:=hs
  exact False.elim q
 | cont =>
  obtain⟨_,_,_,q⟩:=hs
  exact False.elim q
end L2
namespace L2
open PySem PySem.Spec PyProof.Rows
section
variable {X:Cx}{x:Str}{p pos:Pos}{e:Expr}{es:List Expr}{t:TA}{id T:String}{r:List V->Hp->VK->Prop}
def tCB (r:List V->Hp->VK->Prop)(t:TA):TE:=λσ H Q=>t σ H λvs H1=>r vs H1 Q
theorem pe_callB (hc:CallR X (.builtin id) r)(hg:Gl X x)(hm:X.mg x=none)(hv:bootBuiltins x=some (.builtin id))(ha:PA X (e::es) t)(hn:x≠"__name__":=by decide)(hdb:(x == ("__debug__":Str))=false:=by decide)
  (he:starEach (e::es) X.env=(false,eval e X.env)::starEach es X.env:=by rfl) (hpl:(backTo pos (starEach es X.env)).any (·.1)=false:=by rfl):PE X (.Call (.Name x p) (e::es) [] pos) (tCB r t):=by
 intro pins s σ H Q I h
 refine wpAny_Call_Name_kw (ld_blt I hg hm hv ?_ hn hdb)
 exact PyProof.Rows.callWith_builtin1 (thn (ha pos pins s σ H _ I h) λus s1 ⟨vs,H1,I1,r1,q1⟩=>hc pins s1 σ H1 vs us Q I1 r1 q1) he hpl
theorem pe_callTy (hc:CallR X (.type T) r)(hg:Gl X x)(hm:X.mg x=none)(hv:bootBuiltins x=some (.type T))(ha:PA X (e::es) t)(hn:x≠"__name__":=by decide)(hdb:(x == ("__debug__":Str))=false:=by decide)
  (he:starEach (e::es) X.env=(false,eval e X.env)::starEach es X.env:=by rfl) (hpl:(backTo pos (starEach es X.env)).any (·.1)=false:=by rfl):PE X (.Call (.Name x p) (e::es) [] pos) (tCB r t):=by
 intro pins s σ H Q I h
 refine wpAny_Call_Name_kw (ld_blt I hg hm hv ?_ hn hdb)
 exact PyProof.Rows.callWith_type1 (thn (ha pos pins s σ H _ I h) λus s1 ⟨vs,H1,I1,r1,q1⟩=>hc pins s1 σ H1 vs us Q I1 r1 q1) he hpl
end
end L2
namespace HT
open PySem PyProof.Rows
section
open PySem.SeqAt
open PySem.AutoSeq1 (wpAny_loadPart')
open PySem.MeetsSeq PySem.MeetsSeq2 PySem.MeetsSeq3
end
section
variable {prog:Program}{w:World}{A:Around}{E:Value->Shared->Prop}{s:Shared}
def sIx (n d:Nat):Option Int->Nat
 | none=>d
 | some v=>if v<0 then (v+(n:Int)).toNat else min v.toNat n
theorem sIx_none (n d:Nat):sIx n d none=d:=rfl
theorem sIx_nat (n d k:Nat):sIx n d (some (k:Int))=min k n:=by
 show (if (k:Int)<0 then ((k:Int)+(n:Int)).toNat else min (k:Int).toNat n)=min k n
 rw[if_neg (by omega),Int.toNat_natCast]
end
end HT
namespace L2
open PySem PySem.Spec PyProof.Rows
abbrev TO:=St->Hp->(Option Int->Hp->Prop)->Prop
def PO (X:Cx)(e:Option Expr)(t:TO):Prop :=
 ∀ (pins:List (Addr×Obj)) (s:Shared) (σ:St) (H:Hp) (Q:Option Int->Hp->Prop),Inv X pins σ H s->t σ H Q ->
  wpAny (model X.prog X.w) X.A (evalPart e X.env) (λu s'=>∃ o H',Inv X pins σ H' s'/\IsPart u o/\Q o H') X.xe s
def tNoPart:TO:=λ_ H Q=>Q none H
theorem intsAre_of {ns:List Int}:∀ {us:List Value},Vals (ns.map V.int) us->IntsAre us ns:=by
 induction ns with
 | nil=>intro us r;rw[List.map_nil] at r;cases r;exact .nil
 | cons n ns ih =>
  intro us r
  rw[List.map_cons] at r
  cases r with
  | cons r1 r2 =>
   obtain⟨t,e⟩:=r1
   subst e
   exact .cons n t (ih r2)
section
variable {X:Cx}{e:Expr}{te:TE}{lo hi:Option Expr}{tl th:TO}{pos p2:Pos}
theorem po_none:PO X none tNoPart:=by
 intro pins s σ H Q I h
 rw[evalPart_none]
 exact wpAny_pure ⟨none,H,I,.none,h⟩
def SlR (X:Cx)(r:V->Option Int->Option Int->Hp->VK->Prop):Prop :=
 ∀ (pins:List (Addr×Obj)) (s:Shared) (σ:St) (H:Hp) (x:V) (v vl vu:Value) (lo hi:Option Int) (sl:Addr) (Q:VK),Inv X pins σ H s->RelV x v->s.heap.IsSliceOf sl vl vu .none->IsPart vl lo->IsPart vu hi->r x lo hi H Q ->
  ∃ T id,typeLookup (.type T) "__getitem__"=pure (some (.builtin id))/\s.TypeIs v T/\wpAny (model X.prog X.w) X.A (getItem v (.ref sl)) (EP X pins σ Q) X.xe s
def tSl (r:V->Option Int->Option Int->Hp->VK->Prop)(te:TE)(tl th:TO):TE:=λσ H Q=>te σ H λx H1=>tl σ H1 λl H2=>th σ H2 λu H3=>r x l u H3 Q
theorem pe_slice {r:V->Option Int->Option Int->Hp->VK->Prop}(hr:SlR X r)(he:PE X e te)(hl:PO X lo tl)(hu:PO X hi th):PE X (.Subscript e (.Slice lo hi none p2) pos) (tSl r te tl th):=by
 intro pins s σ H Q I h
 refine Subscript_ (thn (he pins s σ H _ I h) λv s1 ⟨x,H1,I1,r1,q1⟩=>?_)
 refine wpAny_Slice (thn (hl pins s1 σ H1 _ I1 q1) λvl s2 ⟨l,H2,I2,pl,q2⟩=>thn (hu pins s2 σ H2 _ I2 q2) λvu s3 ⟨u,H3,I3,pu,q3⟩=>?_)
 rw[evalPart_none]
 refine wpAny_pure ?_
 have I4:Inv X pins σ H3 { s3 with heap:=s3.heap.push { cls:=.type "slice",data:=.fields #[vl,vu,.none] } }:=I3.kept (t':=s3.toks) λb ob q=>Heap.get?_push_of_some _ q
 obtain⟨T,id,hT,ht,hg⟩:=hr pins { s3 with heap:=s3.heap.push { cls:=.type "slice",data:=.fields #[vl,vu,.none] } } σ H3 x v vl vu l u s3.heap.objs.size Q I4 r1 (Heap.IsSliceOf.new ..) pl pu q3
 show wpAny (model X.prog X.w) X.A (subscriptTail e (.Slice lo hi none p2) v (.ref s3.heap.objs.size)) (EP X pins σ Q) X.xe { s3 with heap:=s3.heap.push { cls:=.type "slice",data:=.fields #[vl,vu,.none] } }
 exact tail_any (ops:=[.ref s3.heap.objs.size,v]) ht hT hg (by with_unfolding_all rfl)
def cutV (xs:List V)(lo hi:Option Int):List V:=(xs.drop (HT.sIx xs.length 0 lo)).take (HT.sIx xs.length xs.length hi-HT.sIx xs.length 0 lo)
theorem cutV_length (xs:List V)(lo hi:Option Int):(cutV xs lo hi).length<=xs.length:=by
 unfold cutV
 rw[List.length_take,List.length_drop]
 omega
end
end L2
namespace L2
open PySem PySem.Spec PyProof.Rows
def ixN (n:Nat)(i:Int):Option Nat:=if 0<=i then (if i<n then some i.toNat else none) else if -(n:Int)<=i then some (i+n).toNat else none
def atI {α:Type}(xs:List α)(i:Int):Option α:=(ixN xs.length i).bind λj=>xs[j]?
theorem ixN_seq {n:Nat}{i:Int}{j:Nat}(h:ixN n i=some j):seqIndex? i n=some j/\j<n/\-(n:Int)<=i/\i<n:=by
 unfold ixN at h
 by_cases h0:0<=i
 ·rw[if_pos h0] at h
  by_cases h1:i<n
  ·rw[if_pos h1] at h
   have e:i.toNat=j:=Option.some.inj h
   exact⟨by rw[seqIndex_of h0 h1,e],by omega,by omega,h1⟩
  ·rw[if_neg h1] at h;cases h
 ·rw[if_neg h0] at h
  by_cases h1:-(n:Int)<=i
  ·rw[if_pos h1] at h
   have e:(i+n).toNat=j:=Option.some.inj h
   exact⟨by rw[seqIndex_neg (by omega) h1,e],by omega,h1,by omega⟩
  ·rw[if_neg h1] at h;cases h
theorem atI_get {α:Type}{xs:List α}{i:Int}{v:α}(h:atI xs i=some v):∃ j,seqIndex? i xs.length=some j/\xs[j]?=some v/\j<xs.length/\-(xs.length:Int)<=i/\i<xs.length:=by
 unfold atI at h
 cases e:ixN xs.length i with
 | none=>rw[e] at h;cases h
 | some j =>
  rw[e] at h
  obtain⟨h1,h2,h3,h4⟩:=ixN_seq e
  exact⟨j,h1,h,h2,h3,h4⟩
theorem atI_nat {α:Type}{xs:List α}{j:Nat}{v:α}(h:xs[j]?=some v):atI xs (j:Int)=some v:=by
 have hj:j<xs.length:=(List.getElem?_eq_some_iff.mp h).1
 have e:ixN xs.length (j:Int)=some j:=by
  unfold ixN
  rw[if_pos (by omega),if_pos (by omega)];simp
 unfold atI;rw[e];exact h
theorem atI_last {α:Type}(xs:List α)(v:α):atI (xs++[v]) (-1)=some v:=by
 have hl:(xs++[v]).length=xs.length+1:=by simp
 have e:ixN (xs++[v]).length (-1)=some xs.length:=by
  unfold ixN
  rw[hl,if_neg (by decide),if_pos (by omega)]
  congr 1
  omega
 unfold atI
 rw[e]
 show (xs++[v])[xs.length]?=some v
 simp
def PlainIx (b:Expr):Prop:=∀ o i,subscripted b false o i=operate [o,i] (getItem o i)
def IxR (X:Cx)(r:R2):Prop :=
 ∀ (value slice:Expr) (pins:List (Addr×Obj)) (s:Shared) (σ:St) (H:Hp) (x y:V) (v u:Value) (Q:VK),Inv X pins σ H s->RelV x v->RelV y u->r x y H Q ->
  subscripted slice false v u=operate [v,u] (getItem v u)->wpAny (model X.prog X.w) X.A (subscriptTail value slice v u) (EP X pins σ Q) X.xe s
def MtR (X:Cx)(id:String)(r:V->List V->Hp->VK->Prop):Prop :=
 ∀ (pins:List (Addr×Obj)) (s:Shared) (σ:St) (H:Hp) (x:V) (xs:List V) (v:Value) (us:List Value) (Q:VK),Inv X pins σ H s->RelV x v->Vals xs us->r x xs H Q ->
  wpAny (model X.prog X.w) X.A (call (.builtin id) (v::us)) (EP X pins σ Q) X.xe s
section
variable {X:Cx}{a b:Expr}{ta tb:TE}{pos:Pos}
theorem pe_ix {r:R2}(hr:IxR X r)(ha:PE X a ta)(hb:PE X b tb)(hs:PlainIx b):PE X (.Subscript a b pos) (tOp r ta tb):=by
 intro pins s σ H Q I h
 exact Subscript_ (binT ha hb I h λv u s2 x y H2 I2 rx ry q=>hr a b pins s2 σ H2 x y v u Q I2 rx ry q (hs _ _))
def rIxL (K:W.Frag):R2:=λx y H Q=>∃ p xs i v,x=.ref p/\y=.int i/\SqL K H p xs/\atI xs i=some v/\Q v H
def rIxT (K:W.Frag):R2:=λx y H Q=>∃ p xs i v,x=.ref p/\y=.int i/\SqT K H p xs/\atI xs i=some v/\Q v H
theorem ix_list:IxR X (rIxL X.K):=by
 intro value slice pins s σ H x y v u Q I rx ry h hs
 obtain⟨p,xs,i,z,rfl,rfl,hq,he,q⟩:=h
 cases rx
 obtain⟨t,rfl⟩:=ry
 obtain⟨its,r,pl,hz⟩:=I.list hq
 obtain⟨j,h1,h2,h3,h4,h5⟩:=atI_get he
 obtain⟨w,ew,rw'⟩:=r.get h2
 have hl:=r.length
 have hn:=line63
 have fin:EP X pins σ Q w s:=⟨z,H,I,rw',q⟩
 by_cases h0:0<=i
 ·have hj:i.toNat=j:=by
   rw[seqIndex_of h0 h5] at h1
   exact Option.some.inj h1
  exact item_listR pl.isList h0 (by omega) (by rw[hj];simpa using ew) fin hs
 ·have hj:(i+(its.toArray.size:Int)).toNat=j:=by
   rw[seqIndex_neg (by omega) h4] at h1
   rw[List.size_toArray,<- hl]
   exact Option.some.inj h1
  exact subscriptTail_builtinR (x:=w) pl.isList.typeIs slot_list_getitem.lookup
   (wpAny_getItem_list_neg (Q:=λr s'=>r=w/\EP X pins σ Q r s') pl.isList (by omega) (by rw[List.size_toArray]<;>omega) (by omega) (by rw[hj];simpa using ew) ⟨rfl,fin⟩) hs
theorem ix_tup:IxR X (rIxT X.K):=by
 intro value slice pins s σ H x y v u Q I rx ry h hs
 obtain⟨p,xs,i,z,rfl,rfl,hq,he,q⟩:=h
 cases rx
 obtain⟨t,rfl⟩:=ry
 obtain⟨its,r,pl,hz⟩:=I.tuple hq
 obtain⟨j,h1,h2,h3,h4,h5⟩:=atI_get he
 obtain⟨w,ew,rw'⟩:=r.get h2
 have hl:=r.length
 have hn:=line63
 have fin:EP X pins σ Q w s:=⟨z,H,I,rw',q⟩
 exact subscriptTail_builtinR (x:=w) pl.typeIs slot_tuple_getitem.lookup
  (getItem_tuple (j:=j) (Q:=λr s'=>r=w/\EP X pins σ Q r s') pl (by omega) (by omega) (by rw[List.size_toArray,<- hl];exact h1) (by simpa using ew) ⟨rfl,fin⟩) hs
theorem slice_bounds (lo hi:Option Int)(n:Nat):(sliceBounds lo hi none n).1=((HT.sIx n 0 lo:Nat):Int)/\(sliceBounds lo hi none n).2.1=((HT.sIx n n hi:Nat):Int)/\(sliceBounds lo hi none n).2.2=1:=by
 refine⟨?_,?_,rfl⟩
 ·cases lo with
  | none=>simp[sliceBounds,HT.sIx]
  | some i =>
   simp only[sliceBounds,HT.sIx,Option.getD_none,show (1:Int) > 0 by decide,if_true]
   by_cases h:i<0
   ·simp only[h,if_true]<;>omega
   ·simp only[h,if_false]<;>omega
 ·cases hi with
  | none=>simp[sliceBounds,HT.sIx]
  | some i =>
   simp only[sliceBounds,HT.sIx,Option.getD_none,show (1:Int) > 0 by decide,if_true]
   by_cases h:i<0
   ·simp only[h,if_true]<;>omega
   ·simp only[h,if_false]<;>omega
theorem slicePick_cut (its:List Value)(lo hi:Option Int):slicePick its.toArray lo hi none=((its.drop (HT.sIx its.length 0 lo)).take (HT.sIx its.length its.length hi-HT.sIx its.length 0 lo)).toArray:=by
 obtain⟨h1,h2,h3⟩:=slice_bounds lo hi its.toArray.size
 unfold slicePick
 rw[h1,h2,h3]
 simp only[sliceRange_one,pick_run,List.size_toArray]<;>rfl
def rSlL (K:W.Frag):V->Option Int->Option Int->Hp->VK->Prop:=λx lo hi H Q=>∃ a xs,x=.ref a/\SqL K H a xs/\∀ p,H p=none->Q (.ref p) (upd H p (.lst (cutV xs lo hi)))
theorem sl_list:SlR X (rSlL X.K):=by
 intro pins s σ H x v vl vu lo hi sl Q I rx hs pl pu h
 obtain⟨a,xs,rfl,hx,q⟩:=h
 cases rx
 obtain⟨its,r,ht,hz⟩:=I.list hx
 have hlen:=r.length
 refine⟨"list",_,slot_list_getitem.lookup,ht.isList.typeIs,?_⟩
 refine wpAny_getItem_list_slice ht.isList hs pl pu .none (by simp) ?_ (by rw[List.size_toArray]<;>omega)
 rw[slicePick_cut,<- hlen]
 refine⟨.ref s.heap.objs.size,_,I.laid (t':=s.toks) (o:=.lst (cutV xs lo hi)) (λb ob q=>Heap.get?_push_of_some _ q) (Nat.le_refl _) ?_,rfl,q _ (I.hok.fresh (Nat.le_refl _))⟩
 exact⟨Nat.le_trans (cutV_length xs lo hi) hz,_,0,(r.drop (HT.sIx xs.length 0 lo)).take (HT.sIx xs.length xs.length hi-HT.sIx xs.length 0 lo),Heap.get?_push_size _ rfl⟩
theorem call_len_seq:CallR X (.builtin "len") (λxs H Q=>∃ p ys,xs=[.ref p]/\(SqL X.K H p ys\/SqT X.K H p ys)/\Q (.int ys.length) H):=by
 intro pins s σ H xs us Q I r h
 obtain⟨p,ys,rfl,hq,q⟩:=h
 obtain⟨u,rfl,rx⟩:=vals1 r
 cases rx
 have hn:=line63
 rcases hq with hq | hq
 ·obtain⟨its,r',pl,hz⟩:=I.list hq
  have hlen:=r'.length
  exact Calls.call_len_list pl.isList (by simp only[List.size_toArray]<;>omega) ⟨.int ys.length,H,I.tok _,⟨s.toks+1,by rw[List.size_toArray,hlen]⟩,q⟩
 ·obtain⟨its,r',pl,hz⟩:=I.tuple hq
  have hlen:=r'.length
  exact len_tuple pl (by simp only[List.size_toArray]<;>omega) ⟨.int ys.length,H,I.tok _,⟨s.toks+1,by rw[List.size_toArray,hlen]⟩,q⟩
theorem CallR.or {f:Value}{r r':List V->Hp->VK->Prop}(h:CallR X f r)(h':CallR X f r'):CallR X f (λxs H Q=>r xs H Q\/r' xs H Q):=by
 intro pins s σ H xs us Q I rs q
 rcases q with q | q
 ·exact h pins s σ H xs us Q I rs q
 ·exact h' pins s σ H xs us Q I rs q
theorem call_list_of:CallR X (.type "list") (λxs H Q=>∃ p ys,xs=[.ref p]/\(SqL X.K H p ys\/SqT X.K H p ys)/\∀ l,H l=none->Q (.ref l) (upd H l (.lst ys))):=by
 intro pins s σ H xs us Q I r h
 obtain⟨p,ys,rfl,hq,q⟩:=h
 obtain⟨u,rfl,rx⟩:=vals1 r
 cases rx
 have fin:∀ (its:List Value),Vals ys its->ys.length<=sizeLine->∀ (h':Heap) (c':Nat),(∀ b o',s.heap.get? b=some o'->h'.get? b=some o') ->
   h'.get? s.heap.objs.size=some { cls:=.type "list",dict:=none,data:=.seq its.toArray c',slots:=#[] }->EP X pins σ Q (.ref s.heap.objs.size) { s with heap:=h' }:=λits r' hz h' c' kp e =>
  ⟨.ref s.heap.objs.size,_,I.laid (t':=s.toks) kp (Nat.le_refl _) (show ObjOk X.prog X.w _ h' _ (.lst ys) from ⟨hz,its,c',r',e⟩),rfl,q _ (I.hok.fresh (Nat.le_refl _))⟩
 rcases hq with hq | hq
 ·obtain⟨its,r',pl,hz⟩:=I.list hq
  have hlen:=r'.length
  obtain⟨o,ho,hc,n,hd⟩:=pl.isList
  exact call_list_seq p (.inl rfl) ho hc hd (λh' c' kp e=>fin its r' hz h' c' kp e) (by simp only[List.size_toArray]<;>omega)
 ·obtain⟨its,r',pl,hz⟩:=I.tuple hq
  have hlen:=r'.length
  obtain⟨o,ho,hc,n,hd⟩:=pl
  exact call_list_seq p (.inr rfl) ho hc hd (λh' c' kp e=>fin its r' hz h' c' kp e) (by simp only[List.size_toArray]<;>omega)
def tyV (K:W.Frag)(T:String)(x:V)(H:Hp):Prop:=match x with
 | .str _=>T="str"
 | .int _=>T="int"
 | .ref p=>(T="list"/\∃ xs,SqL K H p xs)\/(T="tuple"/\∃ o,K.lookup p=some o/\o.cls=.type "tuple"/\o.dict=none) \/
   (T="dict"/\((∃ kvs,H p=some (.dK kvs))\/∃ kvs,H p=some (.dT kvs)))\/(T="set"/\∃ S n,H p=some (.set S n))
 | _=>False
theorem tyV_is {pins:List (Addr×Obj)}{σ:St}{H:Hp}{s:Shared}{T:String}{x:V}{v:Value}(I:Inv X pins σ H s)(r:RelV x v)(ty:tyV X.K T x H) :
  s.TypeIs v T/\∀ a,v=.ref a->∃ ob,s.heap.get? a=some ob/\ob.dict=none:=by
 cases x with
 | str z =>
  obtain⟨t,rfl⟩:=r
  cases (show T="str" from ty)
  exact⟨typeIs_str s z t,λ_ e=>nomatch e⟩
 | int i =>
  obtain⟨t,rfl⟩:=r
  cases (show T="int" from ty)
  exact⟨typeIs_int s i t,λ_ e=>nomatch e⟩
 | ref p =>
  cases r
  rcases ty with ⟨rfl,xs,hq⟩ | ⟨rfl,o,hk,hc,hd⟩ | ⟨rfl,hk⟩ | ⟨rfl,S,n,hk⟩
  ·obtain⟨its,_,pl,_⟩:=I.list hq
   refine⟨pl.isList.typeIs,λa e=>?_⟩
   cases e
   obtain⟨o,n,e,c,hd,_⟩:=pl
   exact⟨o,e,hd⟩
  ·refine⟨⟨o,I.kIn p o hk,hc⟩,λa e=>?_⟩
   cases e
   exact⟨o,I.kIn _ o hk,hd⟩
  ·have z:∃ o,s.heap.get? p=some o/\o.ExactDict:=by
    rcases hk with ⟨kvs,hk⟩ | ⟨kvs,hk⟩
    ·obtain⟨_,_,_,_,o,_,_,e,ex,_⟩:=I.hok p _ hk
     exact⟨o,e,ex⟩
    ·obtain⟨_,_,_,_,o,_,_,e,ex,_⟩:=I.hok p _ hk
     exact⟨o,e,ex⟩
   obtain⟨o,e,ex⟩:=z
   refine⟨⟨o,e,ex.1⟩,λa e2=>?_⟩
   cases e2
   exact⟨o,e,ex.2.1⟩
  ·obtain⟨o,_,_,_,e,ex,_⟩:=I.hok p _ hk
   refine⟨⟨o,e,ex.1⟩,λa e2=>?_⟩
   cases e2
   exact⟨o,e,ex.2.1⟩
 | _=>exact False.elim ty
def tBM (K:W.Frag)(T:String)(r:V->List V->Hp->VK->Prop)(to:TE)(t:TA):TE:=λσ H Q=>to σ H λx H1=>tyV K T x H1/\t σ H1 λxs H2=>r x xs H2 Q
variable {o e:Expr}{es:List Expr}{to:TE}{t:TA}{name:Str}{apos cpos:Pos}{T id:String}{r:V->List V->Hp->VK->Prop}
theorem pe_bm (pa:PlainAttrs T)(slot:Slot T name id)(hty:typeOf (.builtin id)=pure (.type "method_descriptor"))(hm:MtR X id r)(ho:PE X o to)(ha:PA X (e::es) t)
  (hbase:attributeBase o name X.env (eval o X.env)=eval o X.env:=by rfl)
  (hfew:((backTo cpos (starEach (e::es) X.env)).all (λx=>!x.1)&&(backToKw cpos (keywordEach [] X.env)).all (λx=>x.1.isSome)
   && decide ((e::es).length+([]:List Keyword).length+(if ([]:List Keyword).isEmpty then 0 else 1)<30))=true:=by rfl)
  (hline:(apos.endLine == cpos.line)=true:=by rfl) (hs:starEach (e::es) X.env=(false,eval e X.env)::starEach es X.env:=by rfl) (hplain:(backTo cpos (starEach es X.env)).any (·.1)=false:=by rfl) :
  PE X (.Call (.Attribute o name apos) (e::es) [] cpos) (tBM X.K T r to t):=by
 intro pins s σ H Q I h
 refine wpAny_Call_method_late hbase hfew hline rfl (thn (ho pins s σ H _ I h) λv s1 ⟨x,H1,I1,r1,ty,q1⟩=>?_)
 obtain⟨h1,h2⟩:=tyV_is I1 r1 ty
 refine⟨T,id,pa,slot,hty,h1,h2,?_⟩
 have hA:=ha cpos pins s1 σ H1 _ I1 q1
 rw[hs] at hA ⊢
 refine Calls.callWith_builtin (by show (false || (backTo cpos (starEach es X.env)).any (·.1))=false;rw[hplain]<;>rfl) (Calls.evalArgs_plain ?_)
 exact thn hA λus s2 ⟨vs,H2,I2,r2,q2⟩=>hm pins s2 σ H2 x vs v us Q I2 r1 r2 q2
end
end L2
namespace L2
open PySem PySem.Spec PyProof.Rows
def MtM (X:Cx)(id:String)(r:V->List V->Hp->VK->Prop):Prop :=
 ∀ (pins:List (Addr×Obj)) (s:Shared) (σ:St) (H:Hp) (x:V) (xs:List V) (v:Value) (us:List Value) (Q:VK),Inv X pins σ H s->RelV x v->Vals xs us->r x xs H Q ->
  wpAny (model X.prog X.w) X.A (call (.builtin id) (v::us)) (EP X pins σ Q) X.xe s
theorem Vals.one:∀ {x:V} {us:List Value},Vals [x] us->∃ u,us=[u]/\RelV x u
 | _,_,.cons r .nil=>⟨_,rfl,r⟩
theorem Vals.two:∀ {x y:V} {us:List Value},Vals [x,y] us->∃ u v,us=[u,v]/\RelV x u/\RelV y v
 | _,_,_,.cons r (.cons q .nil)=>⟨_,_,rfl,r,q⟩
theorem Vals.eraseIdx:∀ {xs:List V} {us:List Value} (i:Nat),Vals xs us->Vals (xs.eraseIdx i) (us.eraseIdx i)
 | _,_,_,.nil=>.nil
 | _,_,0,.cons _ t=>t
 | _,_,i+1,.cons r t=>.cons r (Vals.eraseIdx i t)
theorem Vals.rep {xs:List V}{us:List Value}(h:Vals xs us):∀ k:Nat,Vals (List.replicate k xs).flatten (List.replicate k us).flatten
 | 0=>.nil
 | k+1=>by
  rw[List.replicate_succ,List.replicate_succ,List.flatten_cons,List.flatten_cons]
  exact Vals.append h (Vals.rep h k)
theorem len_erase {α:Type}:∀ (l:List α) (i:Nat),(l.eraseIdx i).length<=l.length
 | [],_=>Nat.le_refl _
 | _::_,0=>Nat.le_succ _
 | _::r,i+1=>Nat.succ_le_succ (len_erase r i)
theorem foldl_rep (its:List Value):∀ (k:Nat) (acc:List Value),
  List.foldl (λx1 x2=>x1++x2) acc.toArray (List.replicate k its.toArray)=(acc++(List.replicate k its).flatten).toArray
 | 0,acc=>by simp
 | k+1,acc=>by
  have e:acc.toArray++its.toArray=(acc++its).toArray:=by simp
  have e2:(acc++its)++(List.replicate k its).flatten=acc++(List.replicate (k+1) its).flatten:=by
   rw[List.replicate_succ,List.flatten_cons,List.append_assoc]
  rw[<- e2,<- foldl_rep its k (acc++its),<- e,List.replicate_succ,List.foldl_cons]
section
variable {X:Cx}{pins:List (Addr×Obj)}{σ:St}{H:Hp}{s:Shared}{l b:Addr}{xs ys zs:List V}
theorem Inv.lset {its its':List Value}{n:Nat}{f:Array Value->Array Value}{t':Nat}(I:Inv X pins σ H s)(hH:H l=some (.lst xs))
  (e:s.heap.get? l=some { cls:=.type "list",data:=.seq its.toArray n }) (hf:f its.toArray=its'.toArray) (hv:Vals ys its') (hz:ys.length<=sizeLine) :
  Inv X pins σ (upd H l (.lst ys)) { s with heap:=s.heap.update l (Obj.mapSeq f),toks:=t' }:=by
 have q:=PySem.IsL.update e f
 rw[hf] at q
 refine I.write (x:=l) (e:=l) (by rw[hH];exact trivial) (.inl rfl) (λb' u hb hu=>(Heap.get?_update_other s.heap (Obj.mapSeq f) (Ne.symm hb)).trans hu) ⟨_,q⟩ ?_
 exact⟨hz,its',_,hv,q⟩
theorem Inv.lnew {its:List Value}{t':Nat}(I:Inv X pins σ H s)(hv:Vals ys its)(hz:ys.length<=sizeLine) :
  Inv X pins σ (upd H s.heap.objs.size (.lst ys)) { s with heap:=s.heap.push { cls:=.type "list",data:=.seq its.toArray },toks:=t' } :=
 I.laid (λ_ _ q=>Heap.get?_push_of_some _ q) (Nat.le_refl _) ⟨hz,its,0,hv,Heap.get?_push_size _ rfl⟩
theorem Inv.fresh (I:Inv X pins σ H s):H s.heap.objs.size=none:=I.hok.fresh (Nat.le_refl _)
theorem Inv.lstM (I:Inv X pins σ H s)(hH:H l=some (.lst xs)):xs.length<=sizeLine/\∃ (its:List Value) (n:Nat),Vals xs its/\xs.length=its.length/\s.heap.get? l=some { cls:=.type "list",data:=.seq its.toArray n }:=by
 obtain⟨z,its,n,r,e⟩:=I.hok l _ hH
 exact⟨z,its,n,r,r.length,e⟩
theorem notLongL {n:Nat}(h:n<=sizeLine):Builtin.List.listTooLong n=false:=by
 unfold Builtin.List.listTooLong
 exact decide_eq_false (by omega)
end
section
variable {X:Cx}
def rAppend:V->List V->Hp->VK->Prop:=λx vs H Q=>∃ l xs y,x=.ref l/\vs=[y]/\H l=some (.lst xs)/\xs.length<sizeLine/\Q .non (upd H l (.lst (xs++[y])))
theorem mt_append:MtM X "list.append" rAppend:=by
 intro pins s σ H x vs v us Q I rx rv h
 obtain⟨l,xs,y,rfl,rfl,hH,hz,q⟩:=h
 cases rx
 obtain⟨u,rfl,ru⟩:=rv.one
 obtain⟨z,its,n,r,hl,e⟩:=I.lstM hH
 refine call_meets F.slot_list_append ⟨_,e,rfl⟩ F.entry_list_append (F.args_list_append_2 _ _) (PySem.list_append l its.toArray n u (by rw[List.size_toArray];omega)) ⟨e,?_⟩
 refine⟨.non,_,I.lset (its':=its++[u]) hH e (by simp) (r.append (.cons ru .nil)) ?_,rfl,q⟩
 rw[List.length_append,List.length_singleton]
 omega
def rExtend:V->List V->Hp->VK->Prop:=λx vs H Q=>∃ l b xs zs,x=.ref l/\vs=[.ref b]/\H l=some (.lst xs)/\H b=some (.lst zs)/\xs.length+zs.length<=sizeLine/\Q .non (upd H l (.lst (xs++zs)))
theorem mt_extend:MtM X "list.extend" rExtend:=by
 intro pins s σ H x vs v us Q I rx rv h
 obtain⟨l,b,xs,zs,rfl,rfl,hH,hB,hz,q⟩:=h
 cases rx
 obtain⟨u,rfl,ru⟩:=rv.one
 cases ru
 obtain⟨z,its,n,r,hl,e⟩:=I.lstM hH
 obtain⟨z2,its2,n2,r2,hl2,e2⟩:=I.lstM hB
 have hsz:its.toArray.size+its2.toArray.size<=sizeLine:=by rw[List.size_toArray,List.size_toArray];omega
 have hlong:¬ (!its.toArray.isEmpty&&Builtin.List.listTooLong (its.toArray.size+its2.toArray.size))=true:=by
  rw[notLongL hsz,Bool.and_false]
  exact Bool.false_ne_true
 refine call_meets F.slot_list_extend ⟨_,e,rfl⟩ F.entry_list_extend (F.args_list_extend_2 _ _)
  (AutoSeq1.list_extend_list_list_0 l its.toArray n b its2.toArray n2 hlong (by rw[List.size_toArray];omega) (by omega)) ⟨e,e2,?_⟩
 refine⟨.non,_,I.lset (its':=its++its2) hH e (by simp) (r.append r2) ?_,rfl,q⟩
 rw[List.length_append]
 omega
def rPopAt:V->List V->Hp->VK->Prop:=λx vs H Q=>∃ l xs i k y,x=.ref l/\vs=[.int i]/\H l=some (.lst xs)/\-(2 ^ 63)<=i/\i<2 ^ 63/\seqIndex? i xs.length=some k/\xs[k]?=some y/\Q y (upd H l (.lst (xs.eraseIdx k)))
theorem mt_popAt:MtM X "list.pop" rPopAt:=by
 intro pins s σ H x vs v us Q I rx rv h
 obtain⟨l,xs,i,k,y,rfl,rfl,hH,h1,h2,hk,hy,q⟩:=h
 cases rx
 obtain⟨u,rfl,ru⟩:=rv.one
 obtain⟨t,rfl⟩:=ru
 obtain⟨z,its,n,r,hl,e⟩:=I.lstM hH
 obtain⟨w,hw,rw'⟩:=r.get hy
 refine call_meets F.slot_list_pop ⟨_,e,rfl⟩ F.entry_list_pop (F.args_list_pop_2 _ _)
  (MeetsSeq.list_pop_at l its.toArray n i t k w (fitsIndex_both h1 h2) (by rw[List.size_toArray,<- hl];exact hk) (by rw[<- Array.getElem?_toList];exact hw) (by rw[List.size_toArray];omega)) ⟨e,?_⟩
 refine⟨y,_,I.lset (its':=its.eraseIdx k) hH e ?_ (r.eraseIdx k) ?_,rw',q⟩
 ·show its.toArray.eraseIdxIfInBounds k=(its.eraseIdx k).toArray
  rw[List.eraseIdxIfInBounds_toArray]
 ·have:=len_erase xs k
  omega
def rCat:R2:=λx y H Q=>∃ l b xs zs,x=.ref l/\y=.ref b/\H l=some (.lst xs)/\H b=some (.lst zs)/\xs.length+zs.length<=sizeLine/\∀ p,H p=none->Q (.ref p) (upd H p (.lst (xs++zs)))
theorem op_cat:OpR X (binaryOp .Add) rCat:=by
 intro pins s σ H x y v u Q I rx ry h
 obtain⟨l,b,xs,zs,rfl,rfl,hH,hB,hz,q⟩:=h
 cases rx
 cases ry
 obtain⟨z,its,n,r,hl,e⟩:=I.lstM hH
 obtain⟨z2,its2,n2,r2,hl2,e2⟩:=I.lstM hB
 refine PySem.P.add_list e e2 ?_ (by rw[List.size_toArray,List.size_toArray];omega)
 have ea:its.toArray++its2.toArray=(its++its2).toArray:=by simp
 rw[ea]
 exact⟨.ref _,_,I.lnew (t':=s.toks) (r.append r2) (by rw[List.length_append];omega),rfl,q _ I.fresh⟩
def rRep:R2:=λx y H Q=>∃ l k xs,x=.ref l/\y=.int k/\H l=some (.lst xs)/\-(2 ^ 63)<=k/\k<2 ^ 63/\xs.length*k.toNat<=sizeLine /\
 ∀ p,H p=none->Q (.ref p) (upd H p (.lst (List.replicate k.toNat xs).flatten))
theorem len_rep {α:Type}(xs:List α)(k:Nat):(List.replicate k xs).flatten.length=k*xs.length:=by
 induction k with
 | zero=>simp
 | succ k ih=>rw[List.replicate_succ,List.flatten_cons,List.length_append,ih,Nat.succ_mul,Nat.add_comm]
theorem op_rep:OpR X (binaryOp .Mult) rRep:=by
 intro pins s σ H x y v u Q I rx ry h
 obtain⟨l,k,xs,rfl,rfl,hH,h1,h2,hz,q⟩:=h
 cases rx
 obtain⟨t,rfl⟩:=ry
 obtain⟨z,its,n,r,hl,e⟩:=I.lstM hH
 have hlen:its.toArray.size*k.toNat<=sizeLine:=by rw[List.size_toArray,<- hl];exact hz
 have hcap:¬ its.toArray.size*k.toNat > (2 ^ 63-1) / 8:=by
  have:(sizeLine:Nat)<=(2 ^ 63-1) / 8:=by decide
  omega
 have hfit:¬ (!Builtin.List.listFitsIndex k)=true:=by
  rw[fitsIndex_both h1 h2]
  exact Bool.false_ne_true
 have hlong:¬ Builtin.List.listTooLong (its.toArray.size*k.toNat)=true:=by
  rw[notLongL hlen]
  exact Bool.false_ne_true
 have hnew:List.foldl (λx1 x2=>x1++x2) #[] (List.replicate (if its.toArray.isEmpty=true then 0 else k.toNat) its.toArray)=(List.replicate k.toNat its).flatten.toArray:=by
  have f0:∀ m:Nat,List.foldl (λx1 x2=>x1++x2) #[] (List.replicate m its.toArray)=(List.replicate m its).flatten.toArray:=λm=>by
   have:=foldl_rep its m []
   rw[List.nil_append] at this
   exact this
  rw[f0]
  cases its with
  | nil=>simp
  | cons a r'=>rw[if_neg (by simp)]
 refine wpAny_binaryOp_repeat_ref (T:="list") (U:="int") (by decide) ⟨_,e,rfl⟩ (λs'=>typeIs_int s' k t) noFill_list_mul F.fills_int_mul F.slot_int_rmul repeat_list F.slot_int_index.lookup
  (call_meets F.slot_int_rmul (typeIs_int s k t) F.entry_int_rmul (F.args_int_rmul_2 _ _) (int___rmul___int_list k t l its.toArray n)
   ⟨e,rfl,⟨_,e,rfl⟩,call_meets F.slot_list_mul ⟨_,e,rfl⟩ F.entry_list_mul (F.args_list_mul_2 _ _) (AutoListH.list___mul___list_int_3 l its.toArray n k t hfit hcap hlong) ⟨e,?_⟩⟩)
 rw[hnew]
 exact⟨.ref _,_,I.lnew (t':=s.toks) (r.rep k.toNat) (by rw[len_rep,Nat.mul_comm];exact hz),rfl,q _ I.fresh⟩
end
section
variable {prog:Program}{w:World}{A:Around}{E:Value->Shared->Prop}{s:Shared}
end
section
variable {X:Cx}
end
end L2
namespace Att
open PySem PySem.W PySem.Calls PyProof.Rows
theorem ints_of_wellAll {P:Params}{h:Heap}:∀ (ns:List Int) (vs:List Value),WellAll P h vs (ns.map WData.int)->IntsAre vs ns:=by
 intro ns
 induction ns with
 | nil =>
  intro vs w
  rw[List.map_nil] at w
  cases w
  exact .nil
 | cons n ns ih =>
  intro vs w
  rw[List.map_cons] at w
  cases w with
  | cons a b =>
   cases a
   exact .cons _ _ (ih _ b)
theorem script_of {l:OpenLaw}{n:Nat}(hn:l.most=some n){P:Params}{h:Heap}{args:List WData}{vals:List Value}
  (hpre:l.row.toRowW.claim.pre args=true) (hwl:WellAll P h vals args) :
  ∃ a vs ns,vals=[Value.ref a]/\args=[WData.list (ns.map WData.int)]/\h.get? a=some { cls:=.type "list",data:=.seq vs.toArray }/\IntsAre vs ns/\ns.length<=n:=by
 have hsh:WShape.hasAll [] args [.list .int]=true:=(pre_splitW hpre).1
 have hc:l.pre.holds [] { args:=args }=true:=(pre_splitW hpre).2
 obtain⟨d,r,rfl,h1,h2⟩:=hasAllW_cons hsh
 obtain rfl:=hasAllW_nil h2
 obtain⟨xs,rfl,h3⟩:=hasW_list h1
 obtain⟨ns,rfl⟩:=items_int h3
 have hlen:ns.length<=n:=by
  unfold OpenLaw.pre at hc
  have h4:(WTm.not (.lt (.lit (.int (n:Int))) (.len (.arg 0)))).holds [] { args:=[.list (ns.map .int)] }=true:=by
   have h4:=(holds_andW hc).1
   rw[hn] at h4
   exact h4
  have h5:=condW_of h4 (w_not (w_lt w_lit (w_len_list (w_arg rfl))))
  rw[List.length_map] at h5
  refine Nat.le_of_not_lt λq=>?_
  have q':(n:Int)<((ns.length:Nat):Int):=by omega
  first
   | (rw[decide_eq_true q'] at h5;exact absurd h5 (by decide))
   | (simp at h5;omega)
 cases hwl with
 | cons w1 w2 =>
  cases w2
  cases w1 with
  | list ho hall=>exact⟨_,_,ns,rfl,rfl,ho,ints_of_wellAll ns _ hall,hlen⟩
theorem post_true (l:OpenLaw)(args:List WData):l.row.toRowW.claim.post args (.bool true) args=true :=
 postW_of (r:=l.row.toRowW) (X:=(true == true))
  (show WShape.has [] (.bool true) .bool=true by first | rfl | decide | simp[WShape.has,WShape.arms,WShape.armsAll])
  (show (WTm.eq .res (.lit (.bool true))).value [] { args:=args,res:=some (.bool true),after:=args }=some (.bool (true == true)) from w_eq_bool (w_res rfl) w_lit) rfl
theorem attach_call {l:OpenLaw}{n:Nat}{q:Program}{loose:List Str}{XP:(Str->Option Value)->Heap->Prop}{YP:World->Heap->Prop}{d:DefRec}
  (hn:l.most=some n) (hdf:d.params.defaults=[])
  (call:∀ (w:World) (s₀ s₁:Shared) (mg mb:Str->Option Value) (fa:Addr) (o:Obj) (pm cd doc:Value) (a:Addr) (vs:List Value) (ns:List Int),
   Ground q loose [] XP w s₀ mg mb s₁.heap->YP w s₁.heap ->
   s₁.heap.get? fa=some o->o.data=.func (docDef d.name d.params d.body d.scope pm cd doc)->s₁.heap.CodeRec cd d.name->mg d.name=some (.ref fa) ->
   s₁.heap.get? a=some { cls:=.type "list",data:=.seq vs.toArray }->IntsAre vs ns->ns.length<=n->s₁.gens=#[] ->
   codeAny (model l.prog w) callerA (.call (.ref fa) ⟨[.ref a],[]⟩) (λr s'=>r=.ok (.ret (.bool true))/\OldK s₁.heap s'.heap/\s'.os=s₁.os/\AllBare s'.gens) s₁) :
  WalkO q loose XP YP l.row.toRowW d [] (λf vs=>PySem.call f vs):=by
 intro w s₀ s₁ mg mb G Y fa o pm cd doc dV kV ho hd hcd hD hmg hg args vals as hpre hlay hrd hwl hlo
 obtain rfl:dV=.none:=Dflts.none hD hdf
 obtain rfl:kV=.none:=Dflts.noKw hD
 obtain⟨a,vs,ns,rfl,rfl,hobj,hints,hlen⟩:=script_of hn hpre hwl
 refine enter_call (codeAny_mono (call w s₀ s₁ mg mb fa o pm cd doc a vs ns G Y ho (fd_plain hd) hcd hmg hobj hints hlen hg) λr s' hq=>?_)
 obtain⟨rfl,h2,h3,h4⟩:=hq
 exact⟨.inl ⟨.bool true,.bool true,[],rfl,λ_=>rfl,.bool true,post_true l _,λ_=>⟨List.Pairwise.nil,λ_ hm=>(nomatch hm)⟩⟩,h2,h3,h4⟩
section
variable {prog:Program}{w:World}{A:Around}{E:Value->Shared->Prop}{s:Shared}{K:Frag}
end
end Att
namespace L2
open PySem PySem.Spec PyProof.Rows
theorem vals_ints:∀ {vs:List Value} {ns:List Int},IntsAre vs ns->Vals (ns.map V.int) vs
 | _,_,.nil=>.nil
 | _,_,.cons n t h=>.cons ⟨t,rfl⟩ (vals_ints h)
def Only (H:Hp):Prop:=∀ b,H b=none\/∃ o xs,H b=some (.frz o (.lst xs))
theorem law_call {P:Program}{w:World}{K:W.Frag}{mg mb:Str->Option Value}{CX:CXT}{k:Nat}{fa a:Addr}{fd:FuncData}{x:Str}{sp:Sp}{s₁:Shared}{vs:List Value}{ns:List Int}
  (KX:K.In s₁.heap) (hns:s₁.heap.Ns mainGlobals mg) (hb:s₁.heap.Ns builtinsNs mb) (hbb:∀ x:Str,x≠"__name__"->mb x=bootBuiltins x) (hlim:s₁.heap.NoLimit) (hg:s₁.gens=#[])
  (ha:s₁.heap.get? a=some { cls:=.type "list",data:=.seq vs.toArray }) (hi:IntsAre vs ns) (hl:ns.length<=sizeLine) (hr:Room k callerA)
  (F:∀ base:Heap,K.In base->base.Ns mainGlobals mg->FnOk P w K mg base CX k fa fd [x] sp) (hbind:∀ (s:Shared) (u:Value),BindsTo s fd ⟨[u],[]⟩ [(x,u)])
  (hsp:∀ H:Hp,Only H->SqL K H a (ns.map V.int)->sp [.ref a] H (λv _=>v=.bl true) λ_ _ _=>False)
  (hCX:∀ H e s',CX [] H s₁ (λ_ _ _=>False) e s'->False) :
  codeAny (model P w) callerA (.call (.ref fa) ⟨[.ref a],[]⟩) (λr s'=>r=.ok (.ret (.bool true))/\OldK s₁.heap s'.heap/\s'.os=s₁.os/\AllBare s'.gens) s₁:=by
 have rv:=vals_ints hi
 have lenV:=hi.length
 have core:∀ H:Hp,Only H->SqL K H a (ns.map V.int)->HOk P w H s₁.heap->(∀ b,H b≠none->b=a)->(H a≠none->K.lookup a=none) ->
   codeAny (model P w) callerA (.call (.ref fa) ⟨[.ref a],[]⟩) (λr s'=>r=.ok (.ret (.bool true))/\OldK s₁.heap s'.heap/\s'.os=s₁.os/\AllBare s'.gens) s₁:=by
  intro H hO hS hok hA hK
  have base_of:∀ {b:Addr} {o:Obj},s₁.heap.get? b=some o->H b=none->(hidT s₁.heap H).get? b=some o:=λe n=>hidT_get e n
  have noA:∀ {b:Addr} {o:Obj} {es:Array DictEntry} {ep:Nat},s₁.heap.get? b=some o->o.data=.dict es ep->H b=none:=λ{b o es ep} e d=>by
   cases q:H b with
   | none=>rfl
   | some u =>
    have e':b=a:=hA b (by rw[q];simp)
    subst e'
    rw[ha] at e;cases e
    have d':Data.seq vs.toArray _=Data.dict es ep:=d
    cases d'
  have nsK:∀ {b:Addr} {m:Str->Option Value},s₁.heap.Ns b m->(hidT s₁.heap H).Ns b m:=λ{b m} ⟨o,es,ep,e,d,r⟩=>⟨o,es,ep,base_of e (noA e d),d,r⟩
  have hKb:K.In (hidT s₁.heap H):=λb o e=>base_of (KX b o e) (by
   cases q:H b with
   | none=>rfl
   | some u =>
    have e':b=a:=hA b (by rw[q];simp)
    subst e'
    rw[hK (by rw[q];simp)] at e;cases e)
  have hM:Mod K mg (hidT s₁.heap H):=⟨hKb,nsK hns,⟨mb,nsK hb,hbb⟩,let ⟨mc,h1,h2⟩:=hlim;⟨mc,nsK h1,h2⟩⟩
  have e0:Env0 P w K mg (hidT s₁.heap H) callerA [] s₁ H:=⟨rfl,hM,λb o e=>of_hidT e,Nat.le_of_eq (hidT_size _ _),trivial,λb hb=>absurd (show b∈([]:List Addr) from hb) (by simp),hok,.of_eq hg⟩
  refine codeAny_mono ((F _ hKb (nsK hns)).run callerA [] s₁ H ⟨[.ref a],[]⟩ [.ref a] [.ref a] _ _ hr e0 (hbind s₁ (.ref a)) (.cons rfl .nil) (hsp H hO hS)) λr s' h=>?_
  cases r with
  | error e=>exact(hCX H e s' h).elim
  | ok fl =>
   cases fl with
   | next=>exact False.elim h
   | brk=>exact False.elim h
   | cont=>exact False.elim h
   | ret u =>
    obtain⟨v,H',os,bare,un,hok',r',q⟩:=h
    have q':v=.bl true:=q
    subst q'
    obtain rfl:u=Value.bool true:=r'
    refine⟨rfl,OldK.of_keep λb o e=>?_,os,bare⟩
    cases q:H b with
    | none=>exact un.keep b o e q (by intro z;exact absurd (show b∈([]:List Addr) from z) (by simp)) (by simp)
    | some u =>
     rcases hO b with z | ⟨ob,xs,z⟩
     ·rw[q] at z;cases z
     ·have z2:=un.frzs b ob _ z
      obtain⟨e1,_⟩:=hok b _ z
      obtain⟨e2,_⟩:=hok' b _ z2
      rw[e] at e1;cases e1
      exact e2
 cases hk:K.lookup a with
 | some o =>
  have e:=KX a o hk
  rw[ha] at e
  cases e
  refine core (λ_=>none) (λ_=>.inl rfl) (.inr ⟨_,vs.toArray,_,hk,rfl,rfl,rfl,by rw[List.size_toArray,lenV];exact hl,by simpa using rv⟩) (λb u z=>by have z':(none:Option HO)=some u:=z;cases z') (λb z=>absurd rfl z) λz=>absurd rfl z
 | none =>
  refine core (λb=>if b=a then some (.frz { cls:=.type "list",data:=.seq vs.toArray } (.lst (ns.map V.int))) else none) (λb=>?_) (.inl (.inr ⟨{ cls:=.type "list",data:=.seq vs.toArray },if_pos rfl⟩)) (λb u z=>?_) (λb z=>?_) λ_=>hk
  ·by_cases hb:b=a
   ·exact .inr ⟨_,_,if_pos hb⟩
   ·exact .inl (if_neg hb)
  ·by_cases hb:b=a
   ·have z':=(if_pos hb).symm.trans z
    cases z'
    subst hb
    exact⟨ha,by rw[List.length_map];exact hl,vs,_,rv,ha⟩
   ·have z':=(if_neg hb).symm.trans z
    cases z'
  ·by_cases hb:b=a
   ·exact hb
   ·exact absurd (if_neg hb) z
end L2
namespace L2
open PySem PySem.Spec PyProof.Rows
abbrev KOf {K:W.Frag}{h:Heap}(_:K.In h):W.Frag:=K
theorem walk_of {l:W.OpenLaw}{n k:Nat}{q:Program}{loose:List Str}{XP:(Str->Option Value)->Heap->Prop}{YP:World->Heap->Prop}{d:DefRec}{K:Params->W.Frag}{CX:World->CXT}{sp:World->Sp}{x:Str}
  (hn:l.most=some n) (hn2:n<=sizeLine) (hdf:d.params.defaults=[]) (hr:Room k callerA)
  (hY:∀ (w:World) (h:Heap),YP w h->(K w.params).In h)
  (F:∀ (w:World) (mg:Str->Option Value) (fa:Addr) (h:Heap),(K w.params).In h->h.Ns mainGlobals mg->mg d.name=some (.ref fa) ->
   ∃ fd:FuncData,(∀ (s:Shared) (u:Value),BindsTo s fd ⟨[u],[]⟩ [(x,u)]) /\
    ∀ base:Heap,(K w.params).In base->base.Ns mainGlobals mg->FnOk l.prog w (K w.params) mg base (CX w) k fa fd [x] (sp w))
  (hsp:∀ (w:World) (H:Hp) (a:Addr) (ns:List Int),ns.length<=n->Only H->SqL (K w.params) H a (ns.map V.int)->sp w [.ref a] H (λv _=>v=.bl true) λ_ _ _=>False)
  (hCX:∀ (w:World) (H:Hp) (s:Shared) (e:Value) (s':Shared),CX w [] H s (λ_ _ _=>False) e s'->False) :
  W.WalkO q loose XP YP l.row.toRowW d [] (λf vs=>PySem.call f vs):=by
 refine Att.attach_call hn hdf λw s₀ s₁ mg mb fa o pm cd doc a vs ns G Y ho hd hcd hmg hobj hints hlen hg=>?_
 have KX:=hY w _ Y
 obtain⟨fd,hb,hF⟩:=F w mg fa _ KX G.T.g hmg
 exact law_call KX G.T.g G.T.b G.T.builtins G.T.nolimit hg hobj hints (Nat.le_trans hlen hn2) hr hF hb (λH hO hS=>hsp w H a ns hlen hO hS) λH e s'=>hCX w H s₁ e s'
end L2
namespace L2
open PySem PySem.Spec PyProof.Rows
def defArgs (s:Stmt):Arguments:=match s with
 | .FunctionDef _ a _ _ _ _ _ _ _ _=>a
 | _=>{ posonlyargs:=[],args:=[],vararg:=none,kwonlyargs:=[],kw_defaults:=[],kwarg:=none,defaults:=[] }
def defBody (s:Stmt):List Stmt:=match s with
 | .FunctionDef _ _ b _ _ _ _ _ _ _=>b
 | _=>[]
def defScope (s:Stmt):Scope:=match s with
 | .FunctionDef _ _ _ _ _ _ sc _ _ _=>sc
 | _=>{ kind:=.function,names:=[],isGenerator:=false,isCoroutine:=false }
abbrev CX0:CXT:=λ_ _ _ _ _ _=>False
abbrev E0:XK:=λ_ _ _=>False
theorem pass0 {X:Cx}:Passes CX0 X E0:=λ_ _ _ _ _ _ _ h=>h.elim
structure Fun (K:W.Frag)(x qual:Str)(st:Stmt)(f:Addr)(fd:FuncData):Prop where
 ex:∃ (oc:Value) (od:Option Addr) (kV doc pm:Value) (an:Option Addr) (cdv ct:Value) (osl:Array (Option Value)),
  fd=W.fnOf x qual (defArgs st) (defBody st) (defScope st) .none kV doc pm an cdv ct/\K.lookup f=some ⟨oc,od,.func fd,osl⟩/\W.codeIn K cdv qual=true
 kp:W.keepIn K (.ref f)=true
section
variable {P:Program}{w:World}{K:W.Frag}{mg:Str->Option Value}{base:Heap}
theorem Fun.ok {x qual:Str}{st:Stmt}{f:Addr}{fd:FuncData}{N ps:List Str}{k:Nat}{sp:Sp}(F:Fun K x qual st f fd)(S:FnScope N ps (defScope st))(len:∀ vs H Q E,sp vs H Q E->vs.length=ps.length)
  (hbody:∀ (cdv:Value) (A:Around) (outer:List Env) (s:Shared) (H:Hp) (vs:List V) (Q:VK) (E:XK),Room k (A.deeper (envOfC qual (defScope st) s.heap.objs.size f cdv))->sp vs H Q E ->
   ∃ t,PSs (cxOf CX0 P w K mg base N qual (defScope st) f cdv A outer s H E).nox (defBody st) t/\t { nx:=λ_ H'=>Q .non H',rt:=Q } (start N vs) H):FnOk P w K mg base CX0 (k+1) f fd ps sp:=by
 obtain⟨oc,od,kV,doc,pm,an,cdv,ct,osl,rfl,lk,hcd⟩:=F.ex
 refine fn_of lk hcd S len λA outer s H vs Q E hr hsp=>?_
 obtain⟨t,h,q⟩:=hbody cdv A outer s H vs Q E hr hsp
 exact⟨t,h.nox,q⟩
theorem Fun.binds {x qual:Str}{st:Stmt}{f:Addr}{fd:FuncData}{ps:List Str}(F:Fun K x qual st f fd)
  (h:∀ (kV doc pm:Value) (an:Option Addr) (cdv ct:Value) (us:List Value),us.length=ps.length->bindArgs (W.fnOf x qual (defArgs st) (defBody st) (defScope st) .none kV doc pm an cdv ct) ⟨us,[]⟩=pure (ps.zip us)):Binds K fd ps []:=by
 obtain⟨oc,od,kV,doc,pm,an,cdv,ct,osl,rfl,lk,hcd⟩:=F.ex
 exact .all (h kV doc pm an cdv ct)
theorem fun_mk {x qual:Str}{st:Stmt}{f:Addr}{oc:Value}{od an:Option Addr}{osl:Array (Option Value)}{kV doc pm cdv ct:Value}(l:K.lookup f=some ⟨oc,od,.func (W.fnOf x qual (defArgs st) (defBody st) (defScope st) .none kV doc pm an cdv ct),osl⟩)
  (c:W.codeIn K cdv qual=true) (k:W.keepIn K (.ref f)=true):Fun K x qual st f (W.fnOf x qual (defArgs st) (defBody st) (defScope st) .none kV doc pm an cdv ct):=⟨⟨oc,od,kV,doc,pm,an,cdv,ct,osl,rfl,l,c⟩,k⟩
end
section
variable {X:Cx}
end
theorem iteF {A B:Prop}(h:B):if false=true then A else B:=by
 rw[if_neg Bool.false_ne_true]
 exact h
theorem iteT {A B:Prop}(h:A):if true=true then A else B:=by
 rw[if_pos rfl]
 exact h
def Same (H H':Hp):Prop:=∀ b o,H b=some o->H' b=some o
theorem Same.refl (H:Hp):Same H H:=λ_ _ h=>h
theorem Same.trans {H H1 H2:Hp}(a:Same H H1)(b:Same H1 H2):Same H H2:=λc o h=>b c o (a c o h)
theorem Same.free {H H':Hp}(e:Same H H'){l:Addr}(h:H' l=Option.none):H l=Option.none:=by
 cases q:H l with
 | none=>rfl
 | some o =>
  rw[e l o q] at h
  cases h
theorem Same.seq {K:W.Frag}{H H':Hp}{a:Addr}{xs:List V}(e:Same H H')(h:SqL K H a xs):SqL K H' a xs:=by
 rcases h with (h | ⟨o,h⟩) | h
 ·exact .inl (.inl (e _ _ h))
 ·exact .inl (.inr ⟨o,e _ _ h⟩)
 ·exact .inr h
end L2
set_option maxHeartbeats 4000000
namespace SB
open PySem PyProof.Rows
structure SI (a0:Array Keyed)(st:SortSt):Prop where
 perm:(arrOf st).Perm a0
 kind:kindOf st=oneType'
 failed:failedOf st=none
theorem SI.size {a0:Array Keyed}{st:SortSt}(h:SI a0 st):(arrOf st).size=a0.size:=h.perm.size_eq
theorem SI.setArr {a0:Array Keyed}{st:SortSt}(h:SI a0 st){xs:Array Keyed}(hp:xs.Perm (arrOf st)):SI a0 (setArr st xs):=⟨hp.trans h.perm,h.kind,h.failed⟩
theorem SI.keys {a0:Array Keyed}{st:SortSt}(h:SI a0 st)(h0:IntKeys a0):IntKeys (arrOf st):=λp hp=>h0 p ((Array.perm_iff_toList_perm.mp h.perm).mem_iff.mp hp)
theorem ik_at {xs:Array Keyed}(h:IntKeys xs){i:Nat}(hi:i<xs.size):∃ p,xs[i]?=some p/\∃ n t,p.1=Value.int n t :=
 ⟨xs[i],getElem?_pos xs i hi,h _ (by simp)⟩
def gallop':Bool->Keyed->Array Keyed->Nat->Nat->Nat->StateT SortSt Sem (Option Nat):=sortPriv% PySem.Builtin.gallop
def mergeLo':Array Keyed->Array Keyed->StateT SortSt Sem (Array Keyed):=sortPriv% PySem.Builtin.mergeLo
def mergeHi':Array Keyed->Array Keyed->StateT SortSt Sem (Array Keyed):=sortPriv% PySem.Builtin.mergeHi
def setMinGallop':Nat->StateT SortSt Sem Unit:=sortPriv% PySem.Builtin.setMinGallop
section
variable {prog:Program}{w:World}{A:Around}{E:Value->Shared->Prop}{s:Shared}{a0:Array Keyed}
theorem wpS_elem {arr:Array Keyed}{i:Nat}{p:Keyed}{Q:Keyed->SortSt->Prop}{st:SortSt}(hp:arr[i]?=some p)(h:Q p st):wpS (model prog w) A E s (elem' arr i) Q st:=by
 rw[elem'_eq,hp];exact wpS_pure h
def G (a0:Array Keyed)(pe:Array (Nat×Nat×Nat))(st:SortSt):Prop:=SI a0 st/\pendingOf st=pe
theorem setMin'_eq (g:Nat):setMinGallop' g=modify λs=>SortSt.mk' (kindOf s) (arrOf s) (pendingOf s) g (failedOf s):=rfl
def Laid (a b:Array Keyed)(ia ib:Nat)(out:Array Keyed):Prop:=out.toList.Perm (a.toList.take ia++b.toList.take ib)
theorem take_at {xs:Array Keyed}{i:Nat}{p:Keyed}(h:xs[i]?=some p):xs.toList.take (i+1)=xs.toList.take i++[p]:=by
 have h':xs.toList[i]?=some p:=by simpa using h
 rw[List.take_add_one,h'];rfl
theorem Laid.b {a b:Array Keyed}{ia ib:Nat}{out:Array Keyed}(h:Laid a b ia ib out){p:Keyed}(hp:b[ib]?=some p):Laid a b ia (ib+1) (out.push p):=by
 unfold Laid at h ⊢
 rw[take_at hp,Array.toList_push,<- List.append_assoc]
 exact h.append_right _
theorem Laid.a {a b:Array Keyed}{ia ib:Nat}{out:Array Keyed}(h:Laid a b ia ib out){p:Keyed}(hp:a[ia]?=some p):Laid a b (ia+1) ib (out.push p):=by
 unfold Laid at h ⊢
 rw[take_at hp,Array.toList_push,List.append_assoc]
 refine(h.append_right _).trans ?_
 rw[List.append_assoc]
 exact(List.perm_append_comm).append_left _
theorem ext_list (xs:Array Keyed)(i j:Nat):(xs.extract i j).toList=(xs.toList.take j).drop i:=by
 rw[Array.toList_extract,List.extract_eq_take_drop,List.drop_take]
theorem take_ext (xs:Array Keyed)(i k:Nat):xs.toList.take (i+k)=xs.toList.take i++(xs.extract i (i+k)).toList:=by
 rw[ext_list]
 have:=List.take_append_drop i (xs.toList.take (i+k))
 rw[List.take_take,Nat.min_eq_left (by omega)] at this
 exact this.symm
theorem Laid.ak {a b:Array Keyed}{ia ib:Nat}{out:Array Keyed}(h:Laid a b ia ib out)(k:Nat):Laid a b (ia+k) ib (out++a.extract ia (ia+k)):=by
 unfold Laid at h ⊢
 rw[take_ext,Array.toList_append,List.append_assoc]
 refine(h.append_right _).trans ?_
 rw[List.append_assoc]
 exact(List.perm_append_comm).append_left _
theorem Laid.bk {a b:Array Keyed}{ia ib:Nat}{out:Array Keyed}(h:Laid a b ia ib out)(k:Nat):Laid a b ia (ib+k) (out++b.extract ib (ib+k)):=by
 unfold Laid at h ⊢
 rw[take_ext,Array.toList_append,<- List.append_assoc]
 exact h.append_right _
theorem Laid.all {a b:Array Keyed}{ia ib:Nat}{out:Array Keyed}(h:Laid a b ia ib out)(ha:ia<=a.size)(hb:ib<=b.size) :
  (out++a.extract ia a.size++b.extract ib b.size).toList.Perm (a.toList++b.toList):=by
 obtain⟨j,hj⟩:∃ j,a.size=ia+j:=⟨a.size-ia,by omega⟩
 obtain⟨k,hk⟩:∃ k,b.size=ib+k:=⟨b.size-ib,by omega⟩
 have q:=(h.ak j).bk k
 rw[<- hj,<- hk] at q
 unfold Laid at q
 rw[List.take_of_length_le (by simp),List.take_of_length_le (by simp)] at q
 exact q
theorem Laid.all' {a b:Array Keyed}{ia ib:Nat}{out:Array Keyed}(h:Laid a b ia ib out)(ha:ia<=a.size)(hb:ib<=b.size) :
  (out++b.extract ib b.size++a.extract ia a.size).toList.Perm (a.toList++b.toList):=by
 obtain⟨j,hj⟩:∃ j,a.size=ia+j:=⟨a.size-ia,by omega⟩
 obtain⟨k,hk⟩:∃ k,b.size=ib+k:=⟨b.size-ib,by omega⟩
 have q:=(h.bk k).ak j
 rw[<- hj,<- hk] at q
 unfold Laid at q
 rw[List.take_of_length_le (by simp),List.take_of_length_le (by simp)] at q
 exact q
theorem wpS_ite {α:Type}{c:Prop}[Decidable c]{t e:StateT SortSt Sem α}{Q:α->SortSt->Prop}{st:SortSt}{M:Model}(h1:c->wpS M A E s t Q st)(h2:¬ c->wpS M A E s e Q st) :
  wpS M A E s (if c then t else e) Q st:=by
 by_cases h:c
 ·rw[if_pos h];exact h1 h
 ·rw[if_neg h];exact h2 h
theorem wpS_iteB {α:Type}{x y:Nat}{t e:StateT SortSt Sem α}{Q:α->SortSt->Prop}{st:SortSt}{M:Model}(h1:x=y->wpS M A E s t Q st)(h2:x≠y->wpS M A E s e Q st) :
  wpS M A E s (if (x == y)=true then t else e) Q st :=
 wpS_ite (λh=>h1 (by simpa using h)) λh=>h2 (by simpa using h)
theorem wpS_elemB {arr:Array Keyed}{i:Nat}{Q:Keyed->SortSt->Prop}{st:SortSt}(ha:IntKeys arr)(hi:i<arr.size)(h:∀ p,arr[i]?=some p->(∃ n t,p.1=Value.int n t)->Q p st) :
  wpS (model prog w) A E s (elem' arr i) Q st:=by
 obtain⟨p,e,k⟩:=ik_at ha hi
 exact wpS_elem e (h p e k)
def GX (a0:Array Keyed)(pe:Array (Nat×Nat×Nat))(xs:Array Keyed)(st:SortSt):Prop:=G a0 pe st/\arrOf st=xs
theorem wpS_setMin {g:Nat}{pe:Array (Nat×Nat×Nat)}{xs:Array Keyed}{Q:Unit->SortSt->Prop}{st:SortSt}(hB:GX a0 pe xs st)(h:∀ st',GX a0 pe xs st'->Q () st') :
  wpS (model prog w) A E s (setMinGallop' g) Q st:=by
 rw[setMin'_eq]
 exact wpS_modify (h _ ⟨⟨⟨hB.1.1.perm,hB.1.1.kind,hB.1.1.failed⟩,hB.1.2⟩,hB.2⟩)
structure Mid (a b:Array Keyed)(c0 ia ib:Nat)(out:Array Keyed):Prop where
 laid:Laid a b ia ib out
 ha:ia+1<a.size
 hb:ib<b.size
 pr:c0<=ia+ib
def LaidH (a b:Array Keyed)(na nb:Nat)(out:Array Keyed):Prop:=out.toList.Perm (a.toList.drop na++b.toList.drop nb)
theorem drop_at {xs:Array Keyed}{i:Nat}{p:Keyed}(h:xs[i]?=some p):xs.toList.drop i=p::xs.toList.drop (i+1):=by
 have h':xs.toList[i]?=some p:=by simpa using h
 obtain⟨hi,e⟩:=List.getElem?_eq_some_iff.mp h'
 rw[List.drop_eq_getElem_cons hi,e]
theorem LaidH.b {a b:Array Keyed}{na nb:Nat}{out:Array Keyed}(h:LaidH a b na nb out)(h1:1<=nb){p:Keyed}(hp:b[nb-1]?=some p):LaidH a b na (nb-1) (out.push p):=by
 unfold LaidH at h ⊢
 rw[drop_at hp,Array.toList_push,Nat.sub_add_cancel h1]
 refine(h.append_right _).trans ?_
 rw[List.append_assoc]
 exact(List.perm_append_comm).append_left _
theorem LaidH.a {a b:Array Keyed}{na nb:Nat}{out:Array Keyed}(h:LaidH a b na nb out)(h1:1<=na){p:Keyed}(hp:a[na-1]?=some p):LaidH a b (na-1) nb (out.push p):=by
 unfold LaidH at h ⊢
 rw[drop_at hp,Array.toList_push,Nat.sub_add_cancel h1]
 refine(h.append_right _).trans ?_
 exact List.perm_append_singleton _ _
theorem drop_ext (xs:Array Keyed){i j:Nat}(h:i<=j):xs.toList.drop i=(xs.extract i j).toList++xs.toList.drop j:=by
 rw[ext_list]
 obtain⟨k,rfl⟩:∃ k,j=i+k:=⟨j-i,by omega⟩
 rw[List.drop_take,Nat.add_sub_cancel_left,<- List.drop_drop,List.take_append_drop]
theorem LaidH.ak {a b:Array Keyed}{na nb:Nat}{out:Array Keyed}(h:LaidH a b na nb out){k:Nat}(hk:k<=na):LaidH a b k nb (out++(a.extract k na).reverse):=by
 unfold LaidH at h ⊢
 rw[drop_ext a hk,Array.toList_append,Array.toList_reverse]
 refine(h.append_right _).trans ?_
 refine(List.Perm.append_left _ (List.reverse_perm _)).trans ?_
 refine List.perm_append_comm.trans ?_
 rw[List.append_assoc]
theorem LaidH.bk {a b:Array Keyed}{na nb:Nat}{out:Array Keyed}(h:LaidH a b na nb out){k:Nat}(hk:k<=nb):LaidH a b na k (out++(b.extract k nb).reverse):=by
 unfold LaidH at h ⊢
 rw[drop_ext b hk,Array.toList_append,Array.toList_reverse]
 refine(h.append_right _).trans ?_
 refine(List.Perm.append_left _ (List.reverse_perm _)).trans ?_
 rw[List.append_assoc]
 exact(List.perm_append_comm).append_left _
theorem LaidH.all {a b:Array Keyed}{na nb:Nat}{out:Array Keyed}(h:LaidH a b na nb out) :
  (a.extract 0 na++b.extract 0 nb++out.reverse).toList.Perm (a.toList++b.toList):=by
 unfold LaidH at h
 rw[Array.toList_append,Array.toList_append,Array.toList_reverse,ext_list,ext_list,List.drop_zero,List.drop_zero]
 refine(List.Perm.append_left _ ((List.reverse_perm _).trans h)).trans ?_
 rw[List.append_assoc,<- List.append_assoc (b.toList.take nb)]
 refine(List.Perm.append_left _ (List.perm_append_comm.append_right _)).trans ?_
 rw[List.append_assoc,<- List.append_assoc,List.take_append_drop,List.take_append_drop]
theorem LaidH.all' {a b:Array Keyed}{na nb:Nat}{out:Array Keyed}(h:LaidH a b na nb out) :
  (b.extract 0 nb++a.extract 0 na++out.reverse).toList.Perm (a.toList++b.toList):=by
 refine List.Perm.trans ?_ h.all
 rw[Array.toList_append,Array.toList_append,Array.toList_append,Array.toList_append]
 exact List.perm_append_comm.append_right _
structure MidH (a b:Array Keyed)(c0 na nb:Nat)(out:Array Keyed):Prop where
 laid:LaidH a b na nb out
 ha:1<=na
 ha2:na<=a.size
 hb:2<=nb
 hb2:nb<=b.size
 pr:c0+na+nb<=a.size+b.size
theorem wpS_set {st st1:SortSt}{M:Model}{Q:PUnit->SortSt->Prop}(h:Q ⟨⟩ st1):wpS M A E s (set st1:StateT SortSt Sem PUnit) Q st:=by
 unfold wpS;rw[StateT.run_set];exact wpAny_pure ⟨rfl,h⟩
theorem keys_ext {xs:Array Keyed}(h:IntKeys xs)(i j:Nat):IntKeys (xs.extract i j):=λp hp=>by
 rw[ext_list] at hp
 exact h p (List.mem_of_mem_take (List.mem_of_mem_drop hp))
theorem put_at (ys:List Keyed):∀ (j k:Nat) (xs:Array Keyed),k+j+ys.length<=xs.size ->
  ((ys.zipIdx j).foldl (λa (pj:Keyed×Nat)=>a.setIfInBounds (k+pj.2) pj.1) xs).toList=xs.toList.take (k+j)++ys++xs.toList.drop (k+j+ys.length):=by
 induction ys with
 | nil=>intro j k xs _;simp
 | cons y ys ih =>
  intro j k xs h
  simp only[List.length_cons] at h
  rw[List.zipIdx_cons,List.foldl_cons,ih (j+1) k _ (by rw[Array.size_setIfInBounds];omega)]
  rw[Array.toList_setIfInBounds]
  have hl:k+j<xs.toList.length:=by simp;omega
  rw[show k+(j+1)=(k+j)+1 by omega,List.take_add_one,List.getElem?_set_self hl]
  rw[List.take_set_of_le (by omega),List.drop_set_of_lt (by omega)]
  simp only[Option.toList_some,List.append_assoc,List.length_cons,List.cons_append,List.nil_append]
  rw[show k+j+1+ys.length=k+j+(ys.length+1) by omega]
theorem three_perm {l:List Keyed}{i j k:Nat}(hij:i<=j)(hjk:j<=k){m:List Keyed}(h:m.Perm ((l.take j).drop i++(l.take k).drop j)):(l.take i++m++l.drop k).Perm l:=by
 have e:l=l.take i++((l.take j).drop i++(l.take k).drop j)++l.drop k:=by
  have e1:l.take j=l.take i++(l.take j).drop i:=by
   have:=List.take_append_drop i (l.take j)
   rw[List.take_take,Nat.min_eq_left hij] at this;exact this.symm
  have e2:l.take k=l.take j++(l.take k).drop j:=by
   have:=List.take_append_drop j (l.take k)
   rw[List.take_take,Nat.min_eq_left hjk] at this;exact this.symm
  rw[<- List.append_assoc,<- e1,<- e2,List.take_append_drop]
 conv=>rhs;rw[e]
 exact(h.append_left _).append_right _
theorem ite_lt2 {c:Prop}[Decidable c]{x y z:Nat}(h1:x+1<z)(h2:y+1<z):(if c then x else y)+1<z:=by
 by_cases h:c<;>simp[h,h1,h2]
end
end SB
namespace SB
open PySem PyProof.Rows
abbrev ks (p:Keyed):Int:=numOf p.1
def Up (xs:Array Keyed)(i j:Nat):Prop:=∀ k m,i<=k->k<=m->m<j->K xs k<=K xs m
def Dn (xs:Array Keyed)(i j:Nat):Prop:=∀ k m,i<=k->k<=m->m<j->K xs m<=K xs k
theorem K_at {xs:Array Keyed}{i:Nat}{p:Keyed}(h:xs[i]?=some p):K xs i=ks p:=by unfold K;rw[h]
theorem Up.one (xs:Array Keyed)(i:Nat):Up xs i (i+1):=λk m h1 h2 h3=>by
 obtain rfl:k=m:=by omega
 exact Int.le_refl _
theorem Up.snoc {xs:Array Keyed}{i j:Nat}(h:Up xs i j)(hj:K xs (j-1)<=K xs j):Up xs i (j+1):=λk m h1 h2 h3=>by
 by_cases e:m<j
 ·exact h k m h1 h2 e
 obtain rfl:m=j:=by omega
 by_cases e2:k=m
 ·subst e2;exact Int.le_refl _
 exact Int.le_trans (h k (m-1) h1 (by omega) (by omega)) hj
theorem Dn.snoc {xs:Array Keyed}{i j:Nat}(h:Dn xs i j)(hj:K xs j<=K xs (j-1)):Dn xs i (j+1):=λk m h1 h2 h3=>by
 by_cases e:m<j
 ·exact h k m h1 h2 e
 obtain rfl:m=j:=by omega
 by_cases e2:k=m
 ·subst e2;exact Int.le_refl _
 exact Int.le_trans hj (h k (m-1) h1 (by omega) (by omega))
theorem Up.eqK {xs ys:Array Keyed}{i j:Nat}(h:Up xs i j)(e:∀ k,i<=k->k<j->K ys k=K xs k):Up ys i j:=λk m h1 h2 h3=>by
 rw[e k h1 (by omega),e m (by omega) h3];exact h k m h1 h2 h3
theorem Dn.eqK {xs ys:Array Keyed}{i j:Nat}(h:Dn xs i j)(e:∀ k,i<=k->k<j->K ys k=K xs k):Dn ys i j:=λk m h1 h2 h3=>by
 rw[e k h1 (by omega),e m (by omega) h3];exact h k m h1 h2 h3
theorem Dn.mir {xs:Array Keyed}{i j:Nat}(h:Dn xs i j)(hj:j<=xs.size):Up (mirror xs i j ((j-i) / 2)) i j:=λk m h1 h2 h3=>by
 rw[K_mirror hj,K_mirror hj,if_pos (by omega),if_pos (by omega)]
 exact h _ _ (by omega) (by omega) (by omega)
def Low (lo:Nat)(xs ys:Array Keyed):Prop:=∀ k,k<lo->K ys k=K xs k
theorem Low.refl (lo:Nat)(xs:Array Keyed):Low lo xs xs:=λ_ _=>rfl
theorem Low.trans {lo:Nat}{xs ys zs:Array Keyed}(h:Low lo xs ys)(h2:Low lo ys zs):Low lo xs zs:=λk hk=>(h2 k hk).trans (h k hk)
theorem Low.mir {lo:Nat}{xs:Array Keyed}{i j:Nat}(hi:lo<=i)(hj:j<=xs.size):Low lo xs (mirror xs i j ((j-i) / 2)):=λk hk=>by
 rw[K_mirror hj,if_neg (by omega)]
section
variable {prog:Program}{w:World}{A:Around}{E:Value->Shared->Prop}{s:Shared}{a0:Array Keyed}
theorem wpS_ltP {x y:Keyed}{st:SortSt}{Q:Option Bool->SortSt->Prop}(hk:kindOf st=oneType')(hx:∃ n t,x.1=Value.int n t)(hy:∃ n t,y.1=Value.int n t)
  (h:Q (some (decide (ks x<ks y))) st):wpS (model prog w) A E s (lt' x y) Q st:=by
 obtain⟨n,t,ex⟩:=hx
 obtain⟨m,u,ey⟩:=hy
 have e1:ks x=n:=by unfold ks;rw[ex];rfl
 have e2:ks y=m:=by unfold ks;rw[ey];rfl
 rw[e1,e2] at h
 rw[lt'_eq]
 refine wpS_bind (wpS_get ?_)
 rw[hk,keyLt'_oneType,ex,ey]
 exact wpS_bind (wpS_lift (wpAny_attempt (oneLt_int ⟨rfl,wpS_pure h⟩)))
theorem wpS_ltI {i j:Nat}{st:SortSt}{Q:Option Bool->SortSt->Prop}(hB:SI a0 st)(h0:IntKeys a0)(hi:i<a0.size)(hj:j<a0.size)
  (h:∀ b:Bool,(b=true↔K (arrOf st) i<K (arrOf st) j)->Q (some b) st):wpS (model prog w) A E s (ltAt' i j) Q st:=by
 obtain⟨p,e1,k1⟩:=ik_at (hB.keys h0) (i:=i) (by rw[hB.size];exact hi)
 obtain⟨q,e2,k2⟩:=ik_at (hB.keys h0) (i:=j) (by rw[hB.size];exact hj)
 rw[ltAt'_eq]
 refine wpS_bind (wpS_get ?_)
 refine wpS_bind (wpS_elem e1 (wpS_bind (wpS_elem e2 (wpS_ltP hB.kind k1 k2 (h _ ?_)))))
 rw[K_at e1,K_at e2];simp
theorem wpS_revI {st:SortSt}{i j:Nat}{Q:Unit->SortSt->Prop}(hB:SI a0 st)(h:∀ st',SI a0 st'->pendingOf st'=pendingOf st->arrOf st'=mirror (arrOf st) i j ((j-i) / 2)->Q () st') :
  wpS (model prog w) A E s (reverseSlice' i j) Q st:=by
 rw[reverseSlice'_eq];exact wpS_modify (h _ (hB.setArr (mirror_perm _ _ _ _)) rfl rfl)
theorem wpS_downI {st:SortSt}{i j:Nat}{Q:Unit->SortSt->Prop}(hB:SI a0 st)(h:∀ st',SI a0 st'->pendingOf st'=pendingOf st->arrOf st'=bubble (arrOf st) i (i-j)->Q () st') :
  wpS (model prog w) A E s (moveDown' i j) Q st:=by
 rw[moveDown'_eq];exact wpS_modify (h _ (hB.setArr (bubble_perm _ _ _)) rfl rfl)
def GL (a0:Array Keyed)(pe:Array (Nat×Nat×Nat))(lo:Nat)(ys:Array Keyed)(st:SortSt):Prop:=G a0 pe st/\Low lo ys (arrOf st)
structure Fall (xs:Array Keyed)(lo x q:Nat):Prop where
 dn:Dn xs lo (lo+x)
 q1:q+1<=x
 eq:∀ i,lo+x-(q+1)<=i->i<lo+x->K xs i=K xs (lo+x-1)
theorem Fall.zero {xs:Array Keyed}{lo x:Nat}(h:Dn xs lo (lo+x))(h1:1<=x):Fall xs lo x 0:=⟨h,h1,λi h2 h3=>by congr 1;omega⟩
theorem Fall.less {xs:Array Keyed}{lo x q:Nat}(h:Fall xs lo x q)(hl:K xs (lo+x)<K xs (lo+x-1)):Fall xs lo (x+1) 0 :=
 .zero (h.dn.snoc (Int.le_of_lt hl)) (by omega)
theorem Fall.mir {xs:Array Keyed}{lo x q:Nat}(h:Fall xs lo x q)(hz:lo+x<=xs.size)(k:Nat) :
  K (mirror xs (lo+x-(q+1)) (lo+x) ((lo+x-(lo+x-(q+1))) / 2)) k=K xs k:=K_mirror_equal hz h.eq k
theorem Fall.like {xs:Array Keyed}{lo x q:Nat}(h:Fall xs lo x q)(h1:¬ K xs (lo+x)<K xs (lo+x-1))(h2:¬ K xs (lo+x-1)<K xs (lo+x)):Fall xs lo (x+1) (q+1):=by
 have e:K xs (lo+x)=K xs (lo+x-1):=by omega
 have:=h.q1
 refine⟨h.dn.snoc (by omega),by omega,λi h3 h4=>?_⟩
 rw[show lo+(x+1)-1=lo+x by omega]
 by_cases hi:i=lo+x
 ·rw[hi]
 ·rw[e];exact h.eq i (by omega) (by omega)
theorem count_s {lo nrem : Nat} {pe : Array (Nat × Nat × Nat)} {ys : Array Keyed} {st : SortSt} {Q : Option Nat → SortSt → Prop} (h0 : IntKeys a0) (hn : lo + nrem ≤ a0.size) (h1 : 1 ≤ nrem) (hB : GL a0 pe lo ys st)
    (h : ∀ m st', GL a0 pe lo ys st' → 1 ≤ m → m ≤ nrem → Up (arrOf st') lo (lo + m) → Q (some m) st') : wpS (model prog w) A E s (countRun' lo nrem) Q st := by
  rw [countRun'_eq]
  refine wpS_bind (wpS_mono (wpS_forRange (I := fun x c st' => c = (none, x) ∧ GL a0 pe lo ys st' ∧ Up (arrOf st') lo (lo + x)) (Q := fun c st' => ∃ m, c = (none, m) ∧ 1 ≤ m ∧ m ≤ nrem ∧ GL a0 pe lo ys st' ∧ Up (arrOf st') lo (lo + m) ∧ (m = nrem ∨ K (arrOf st') (lo + m) < K (arrOf st') (lo + m - 1))) ?s1 ?f1 ⟨rfl, hB, Up.one _ _⟩) ?p1)
  case f1 => rintro c st' ⟨rfl, g, U⟩; exact ⟨_, rfl, by omega, by omega, g, U, .inl (by omega)⟩
  case s1 =>
    rintro x c st' hx1 hx2 ⟨rfl, g, U⟩
    refine wpS_bind (wpS_ltI g.1.1 h0 (by omega) (by omega) fun b hb => ?_)
    cases b
    · exact wpS_pure ⟨rfl, g, U.snoc (Int.not_lt.mp fun z => by cases hb.mpr z)⟩
    · exact wpS_pure ⟨x, rfl, hx1, by omega, g, U, .inr (hb.mp rfl)⟩
  case p1 =>
    rintro c st' ⟨m, rfl, hm1, hm2, g, U, hor⟩
    dsimp only
    by_cases hnn : m = nrem
    · rw [if_pos (by simpa using hnn)]
      exact wpS_pure (h _ _ g hm1 hm2 U)
    rw [if_neg (by simpa using hnn)]
    have hlt := hor.resolve_left hnn
    by_cases hgt : m > 1
    · rw [if_pos hgt]
      refine wpS_bind (wpS_ltI g.1.1 h0 (by omega) (by omega) fun b hb => ?_)
      cases b
      · have hb : ¬ K (arrOf st') lo < K (arrOf st') (lo + m - 1) := fun z => by cases hb.mpr z
        dsimp only
        rw [if_neg (by decide)]
        have hz : lo + m ≤ (arrOf st').size := by rw [g.1.1.size]; omega
        have al : ∀ k, lo ≤ k → k < lo + m → K (arrOf st') k = K (arrOf st') (lo + m - 1) := fun k h1 h2 => by
          have q1 := U lo k (Nat.le_refl _) h1 h2
          have q2 := U k (lo + m - 1) h1 (by omega) (by omega)
          omega
        refine wpS_bind (wpS_revI g.1.1 fun st1 b1 e1 a1 => ?_)
        have eK : ∀ k, K (arrOf st1) k = K (arrOf st') k := fun k => by rw [a1]; exact K_mirror_equal hz al k
        have F : Fall (arrOf st1) lo (m + 1) 0 := by
          refine .zero (Dn.eqK (xs := arrOf st') ?_ fun k _ _ => eK k) (by omega)
          refine Dn.snoc (i := lo) (j := lo + m) (fun k n h1 h2 h3 => ?_) (Int.le_of_lt hlt)
          rw [al k h1 (by omega), al n (by omega) h3]; exact Int.le_refl _
        have g : GL a0 pe lo ys st1 := ⟨⟨b1, e1.trans g.1.2⟩, fun k hk => (eK k).trans (g.2 k hk)⟩
        refine wpS_bind (wpS_lift (wpAny_rule ⟨rfl, ?_⟩))
        refine wpS_bind (wpS_mono (wpS_forRange (I := fun x c st' => ∃ q, c = (none, x, q) ∧ GL a0 pe lo ys st' ∧ Fall (arrOf st') lo x q) (Q := fun c st' => ∃ m q, c = (none, m, q) ∧ m ≤ nrem ∧ GL a0 pe lo ys st' ∧ Fall (arrOf st') lo m q) ?_ ?_ ⟨0, rfl, g, F⟩) ?_)
        · rintro x c st' hx1 hx2 ⟨q, rfl, g, F⟩
          dsimp only
          have hz : lo + x ≤ (arrOf st').size := by rw [g.1.1.size]; omega
          refine wpS_bind (wpS_ltI g.1.1 h0 (by omega) (by omega) fun b hb => ?_)
          cases b
          · have hb : ¬ K (arrOf st') (lo + x) < K (arrOf st') (lo + x - 1) := fun z => by cases hb.mpr z
            refine wpS_bind (wpS_ltI g.1.1 h0 (by omega) (by omega) fun b hb2 => ?_)
            cases b
            · exact wpS_pure ⟨_, rfl, g, F.like hb fun z => by cases hb2.mpr z⟩
            · exact wpS_pure ⟨x, q, rfl, by omega, g, F⟩
          · have hb := hb.mp rfl
            by_cases hq : q > 0
            · simp only [if_pos hq, if_true]
              refine wpS_bind (wpS_revI g.1.1 fun st2 b2 e2 a2 => wpS_pure ⟨0, rfl, ⟨⟨b2, e2.trans g.1.2⟩, fun k hk => ?_⟩, ?_⟩)
              · rw [a2, F.mir hz]; exact g.2 k hk
              · rw [a2]
                exact .zero ((F.less hb).dn.eqK fun k _ _ => F.mir hz k) (by omega)
            · simp only [if_neg hq, if_true]
              exact wpS_pure ⟨0, rfl, g, F.less hb⟩
        · rintro c st' ⟨q, rfl, g, F⟩; exact ⟨_, _, rfl, by omega, g, F⟩
        · rintro c st' ⟨m, q, rfl, hm2, g, F⟩
          dsimp only
          have hm1 := F.q1
          have hz : lo + m ≤ (arrOf st').size := by rw [g.1.1.size]; omega
          by_cases hq : q > 0
          · rw [if_pos hq]
            refine wpS_bind (wpS_revI g.1.1 fun st2 b2 e2 a2 => wpS_bind (wpS_revI b2 fun st3 b3 e3 a3 => ?_))
            have hz2 : lo + m ≤ (arrOf st2).size := by rw [b2.size]; omega
            have D2 : Dn (arrOf st2) lo (lo + m) := by rw [a2]; exact F.dn.eqK fun k _ _ => F.mir hz k
            have L2 : Low lo ys (arrOf st2) := by rw [a2]; exact fun k hk => (F.mir hz k).trans (g.2 k hk)
            have U : Up (arrOf st3) lo (lo + m) := by rw [a3]; exact D2.mir hz2
            have L3 : Low lo ys (arrOf st3) := by rw [a3]; exact L2.trans (Low.mir (Nat.le_refl _) hz2)
            refine wpS_bind (wpS_mono (wpS_forRange (I := fun x c st' => c = (none, x) ∧ GL a0 pe lo ys st' ∧ Up (arrOf st') lo (lo + x)) (Q := fun c st' => ∃ m, c = (none, m) ∧ 1 ≤ m ∧ m ≤ nrem ∧ GL a0 pe lo ys st' ∧ Up (arrOf st') lo (lo + m)) ?_ ?_ ⟨rfl, ⟨⟨b3, e3.trans (e2.trans g.1.2)⟩, L3⟩, U⟩) ?_)
            · rintro x c st' hx1 hx2 ⟨rfl, g, U⟩
              dsimp only
              refine wpS_bind (wpS_ltI g.1.1 h0 (by omega) (by omega) fun b hb => ?_)
              cases b
              · exact wpS_pure ⟨rfl, g, U.snoc (Int.not_lt.mp fun z => by cases hb.mpr z)⟩
              · exact wpS_pure ⟨x, rfl, by omega, by omega, g, U⟩
            · rintro c st' ⟨rfl, g, U⟩; exact ⟨_, rfl, by omega, by omega, g, U⟩
            · rintro c st' ⟨m, rfl, hm1, hm2, g, U⟩
              exact wpS_pure (h _ _ g hm1 hm2 U)
          · rw [if_neg hq]
            refine wpS_bind (wpS_revI g.1.1 fun st3 b3 e3 a3 => ?_)
            have e2 : pendingOf st' = pendingOf st' := rfl
            have U : Up (arrOf st3) lo (lo + m) := by rw [a3]; exact F.dn.mir hz
            have L3 : Low lo ys (arrOf st3) := by rw [a3]; exact g.2.trans (Low.mir (Nat.le_refl _) hz)
            refine wpS_bind (wpS_mono (wpS_forRange (I := fun x c st' => c = (none, x) ∧ GL a0 pe lo ys st' ∧ Up (arrOf st') lo (lo + x)) (Q := fun c st' => ∃ m, c = (none, m) ∧ 1 ≤ m ∧ m ≤ nrem ∧ GL a0 pe lo ys st' ∧ Up (arrOf st') lo (lo + m)) ?_ ?_ ⟨rfl, ⟨⟨b3, e3.trans (e2.trans g.1.2)⟩, L3⟩, U⟩) ?_)
            · rintro x c st' hx1 hx2 ⟨rfl, g, U⟩
              dsimp only
              refine wpS_bind (wpS_ltI g.1.1 h0 (by omega) (by omega) fun b hb => ?_)
              cases b
              · exact wpS_pure ⟨rfl, g, U.snoc (Int.not_lt.mp fun z => by cases hb.mpr z)⟩
              · exact wpS_pure ⟨x, rfl, by omega, by omega, g, U⟩
            · rintro c st' ⟨rfl, g, U⟩; exact ⟨_, rfl, by omega, by omega, g, U⟩
            · rintro c st' ⟨m, rfl, hm1, hm2, g, U⟩
              exact wpS_pure (h _ _ g hm1 hm2 U)
      · exact wpS_pure (h _ _ g hm1 hm2 U)
    · rw [if_neg hgt]
      obtain rfl : m = 1 := by omega
      have F : Fall (arrOf st') lo (1 + 1) 0 := .zero (Dn.snoc (fun k n h1 h2 h3 => by obtain rfl : k = n := by omega
                                                                                       exact Int.le_refl _) (Int.le_of_lt hlt)) (by omega)
      refine wpS_bind (wpS_lift (wpAny_rule ⟨rfl, ?_⟩))
      refine wpS_bind (wpS_mono (wpS_forRange (I := fun x c st' => ∃ q, c = (none, x, q) ∧ GL a0 pe lo ys st' ∧ Fall (arrOf st') lo x q) (Q := fun c st' => ∃ m q, c = (none, m, q) ∧ m ≤ nrem ∧ GL a0 pe lo ys st' ∧ Fall (arrOf st') lo m q) ?_ ?_ ⟨0, rfl, g, F⟩) ?_)
      · rintro x c st' hx1 hx2 ⟨q, rfl, g, F⟩
        dsimp only
        have hz : lo + x ≤ (arrOf st').size := by rw [g.1.1.size]; omega
        refine wpS_bind (wpS_ltI g.1.1 h0 (by omega) (by omega) fun b hb => ?_)
        cases b
        · have hb : ¬ K (arrOf st') (lo + x) < K (arrOf st') (lo + x - 1) := fun z => by cases hb.mpr z
          refine wpS_bind (wpS_ltI g.1.1 h0 (by omega) (by omega) fun b hb2 => ?_)
          cases b
          · exact wpS_pure ⟨_, rfl, g, F.like hb fun z => by cases hb2.mpr z⟩
          · exact wpS_pure ⟨x, q, rfl, by omega, g, F⟩
        · have hb := hb.mp rfl
          by_cases hq : q > 0
          · simp only [if_pos hq, if_true]
            refine wpS_bind (wpS_revI g.1.1 fun st2 b2 e2 a2 => wpS_pure ⟨0, rfl, ⟨⟨b2, e2.trans g.1.2⟩, fun k hk => ?_⟩, ?_⟩)
            · rw [a2, F.mir hz]; exact g.2 k hk
            · rw [a2]
              exact .zero ((F.less hb).dn.eqK fun k _ _ => F.mir hz k) (by omega)
          · simp only [if_neg hq, if_true]
            exact wpS_pure ⟨0, rfl, g, F.less hb⟩
      · rintro c st' ⟨q, rfl, g, F⟩; exact ⟨_, _, rfl, by omega, g, F⟩
      · rintro c st' ⟨m, q, rfl, hm2, g, F⟩
        dsimp only
        have hm1 := F.q1
        have hz : lo + m ≤ (arrOf st').size := by rw [g.1.1.size]; omega
        by_cases hq : q > 0
        · rw [if_pos hq]
          refine wpS_bind (wpS_revI g.1.1 fun st2 b2 e2 a2 => wpS_bind (wpS_revI b2 fun st3 b3 e3 a3 => ?_))
          have hz2 : lo + m ≤ (arrOf st2).size := by rw [b2.size]; omega
          have D2 : Dn (arrOf st2) lo (lo + m) := by rw [a2]; exact F.dn.eqK fun k _ _ => F.mir hz k
          have L2 : Low lo ys (arrOf st2) := by rw [a2]; exact fun k hk => (F.mir hz k).trans (g.2 k hk)
          have U : Up (arrOf st3) lo (lo + m) := by rw [a3]; exact D2.mir hz2
          have L3 : Low lo ys (arrOf st3) := by rw [a3]; exact L2.trans (Low.mir (Nat.le_refl _) hz2)
          refine wpS_bind (wpS_mono (wpS_forRange (I := fun x c st' => c = (none, x) ∧ GL a0 pe lo ys st' ∧ Up (arrOf st') lo (lo + x)) (Q := fun c st' => ∃ m, c = (none, m) ∧ 1 ≤ m ∧ m ≤ nrem ∧ GL a0 pe lo ys st' ∧ Up (arrOf st') lo (lo + m)) ?_ ?_ ⟨rfl, ⟨⟨b3, e3.trans (e2.trans g.1.2)⟩, L3⟩, U⟩) ?_)
          · rintro x c st' hx1 hx2 ⟨rfl, g, U⟩
            dsimp only
            refine wpS_bind (wpS_ltI g.1.1 h0 (by omega) (by omega) fun b hb => ?_)
            cases b
            · exact wpS_pure ⟨rfl, g, U.snoc (Int.not_lt.mp fun z => by cases hb.mpr z)⟩
            · exact wpS_pure ⟨x, rfl, by omega, by omega, g, U⟩
          · rintro c st' ⟨rfl, g, U⟩; exact ⟨_, rfl, by omega, by omega, g, U⟩
          · rintro c st' ⟨m, rfl, hm1, hm2, g, U⟩
            exact wpS_pure (h _ _ g hm1 hm2 U)
        · rw [if_neg hq]
          refine wpS_bind (wpS_revI g.1.1 fun st3 b3 e3 a3 => ?_)
          have e2 : pendingOf st' = pendingOf st' := rfl
          have U : Up (arrOf st3) lo (lo + m) := by rw [a3]; exact F.dn.mir hz
          have L3 : Low lo ys (arrOf st3) := by rw [a3]; exact g.2.trans (Low.mir (Nat.le_refl _) hz)
          refine wpS_bind (wpS_mono (wpS_forRange (I := fun x c st' => c = (none, x) ∧ GL a0 pe lo ys st' ∧ Up (arrOf st') lo (lo + x)) (Q := fun c st' => ∃ m, c = (none, m) ∧ 1 ≤ m ∧ m ≤ nrem ∧ GL a0 pe lo ys st' ∧ Up (arrOf st') lo (lo + m)) ?_ ?_ ⟨rfl, ⟨⟨b3, e3.trans (e2.trans g.1.2)⟩, L3⟩, U⟩) ?_)
          · rintro x c st' hx1 hx2 ⟨rfl, g, U⟩
            dsimp only
            refine wpS_bind (wpS_ltI g.1.1 h0 (by omega) (by omega) fun b hb => ?_)
            cases b
            · exact wpS_pure ⟨rfl, g, U.snoc (Int.not_lt.mp fun z => by cases hb.mpr z)⟩
            · exact wpS_pure ⟨x, rfl, by omega, by omega, g, U⟩
          · rintro c st' ⟨rfl, g, U⟩; exact ⟨_, rfl, by omega, by omega, g, U⟩
          · rintro c st' ⟨m, rfl, hm1, hm2, g, U⟩
            exact wpS_pure (h _ _ g hm1 hm2 U)
theorem bins_s {lo n ok:Nat}{pe:Array (Nat×Nat×Nat)}{ys:Array Keyed}{st:SortSt}{Q:Bool->SortSt->Prop}(h0:IntKeys a0)(hn:lo+n<=a0.size)(hok:ok<=n)(hB:GL a0 pe lo ys st)(hU:Up (arrOf st) lo (lo+ok))
  (h:∀ st',GL a0 pe lo ys st'->Up (arrOf st') lo (lo+n)->Q true st'):wpS (model prog w) A E s (binarySort' lo n ok) Q st:=by
 rw[binarySort'_eq]
 refine wpS_bind (wpS_mono (wpS_forRange (I:=λk c st'=>c=(none,())/\GL a0 pe lo ys st'/\Up (arrOf st') lo (lo+min k n)) (Q:=λc st'=>c=(none,())/\GL a0 pe lo ys st'/\Up (arrOf st') lo (lo+n)) ?_ ?_ ⟨rfl,hB,?_⟩) ?_)
 ·rintro k c st' hak hkn ⟨rfl,g,U⟩
  rw[Nat.min_eq_left (Nat.le_of_lt hkn)] at U
  refine wpS_bind (wpS_mono (wpS_forRange (I:=λx c st''=>∃ l r,c=(none,l,r)/\st''=st'/\l<=r/\r<=k/\r-l<=k-x/\(∀ i,i<l->K (arrOf st') (lo+i)<=K (arrOf st') (lo+k))/\(∀ i,r<=i->i<k->K (arrOf st') (lo+k)<K (arrOf st') (lo+i)))
   (Q:=λc st''=>∃ l r,c=(none,l,r)/\st''=st'/\l<=k/\(∀ i,i<l->K (arrOf st') (lo+i)<=K (arrOf st') (lo+k))/\(∀ i,l<=i->i<k->K (arrOf st') (lo+k)<K (arrOf st') (lo+i))) ?_ ?_ ⟨0,k,rfl,rfl,by omega,Nat.le_refl _,by omega,λi hi=>by omega,λi h1 h2=>by omega⟩) ?_)
  ·rintro x c st'' _ hxk ⟨l,r,rfl,rfl,hlr,hr,hm,f1,f2⟩
   dsimp only
   by_cases hge:l>=r
   ·rw[if_pos hge]
    obtain rfl:l=r:=by omega
    exact wpS_pure ⟨l,l,rfl,rfl,hr,f1,f2⟩
   ·rw[if_neg hge]
    refine wpS_bind (wpS_ltI g.1.1 h0 (by omega) (by omega) λb hb=>?_)
    cases b
    ·have hb:¬ K (arrOf st'') (lo+k)<K (arrOf st'') (lo+(l+r) / 2):=λz=>by cases hb.mpr z
     refine wpS_pure ⟨_,_,rfl,rfl,by omega,hr,by omega,λi hi=>?_,f2⟩
     exact Int.le_trans (U (lo+i) (lo+(l+r) / 2) (by omega) (by omega) (by omega)) (Int.not_lt.mp hb)
    ·refine wpS_pure ⟨_,_,rfl,rfl,by omega,by omega,by omega,f1,λi h1 h2=>?_⟩
     exact Int.lt_of_lt_of_le (hb.mp rfl) (U _ _ (by omega) (by omega) (by omega))
  ·rintro c st'' ⟨l,r,rfl,rfl,hlr,hr,hm,f1,f2⟩
   obtain rfl:l=r:=by omega
   exact⟨l,l,rfl,rfl,hr,f1,f2⟩
  ·rintro c st'' ⟨l,r,rfl,rfl,hl,f1,f2⟩
   refine wpS_bind (wpS_downI g.1.1 λst2 b2 e2 a2=>wpS_pure ⟨rfl,⟨⟨b2,e2.trans g.1.2⟩,?_⟩,?_⟩)
   ·have hz:lo+k<(arrOf st'').size:=by rw[g.1.1.size];omega
    intro j hj
    rw[a2,K_bubble hz (by omega),if_neg (by omega),if_neg (by omega)]
    exact g.2 j hj
   ·have hz:lo+k<(arrOf st'').size:=by rw[g.1.1.size];omega
    rw[Nat.min_eq_left (show k+1<=n by omega),a2]
    intro i j hi hij hj
    have F1:∀ i,lo<=i->i<lo+l->K (arrOf st'') i<=K (arrOf st'') (lo+k):=λi q1 q2=>by
     have:=f1 (i-lo) (by omega);rwa [show lo+(i-lo)=i by omega] at this
    have F2:∀ i,lo+l<=i->i<lo+k->K (arrOf st'') (lo+k)<K (arrOf st'') i:=λi q1 q2=>by
     have:=f2 (i-lo) (by omega) (by omega);rwa [show lo+(i-lo)=i by omega] at this
    rw[K_bubble hz (by omega),K_bubble hz (by omega),show lo+k-(lo+k-(lo+l))=lo+l by omega]
    repeat' split
    all_goals first
     | (exfalso;omega)
     | exact Int.le_refl _
     | exact F1 _ (by omega) (by omega)
     | exact Int.le_of_lt (F2 _ (by omega) (by omega))
     | exact U _ _ (by omega) (by omega) (by omega)
 ·rintro c st' ⟨rfl,g,U⟩
  rw[show min (max (max ok 1) n) n=n by omega] at U
  exact⟨rfl,g,U⟩
 ·intro i j hi hij hj
  by_cases e:ok=0
  ·obtain rfl:i=j:=by omega
   exact Int.le_refl _
  ·exact hU i j hi hij (by omega)
 ·rintro c st' ⟨rfl,g,U⟩;exact wpS_pure (h _ g U)
end
end SB
namespace SB
open PySem PyProof.Rows
section
variable {prog:Program}{w:World}{A:Around}{E:Value->Shared->Prop}{s:Shared}{a0:Array Keyed}
def Ahead (left:Bool)(key:Keyed)(x:Int):Prop:=if left=true then x<ks key else x<=ks key
theorem ahead_le {left:Bool}{key:Keyed}{x y:Int}(h:Ahead left key y)(hxy:x<=y):Ahead left key x:=by
 unfold Ahead at h ⊢
 cases left
 ·exact Int.le_trans hxy h
 ·exact Int.lt_of_le_of_lt hxy h
theorem gallop_s {left:Bool}{key:Keyed}{arr:Array Keyed}{base n hint:Nat}{st:SortSt}{Q:Option Nat->SortSt->Prop}(hk:kindOf st=oneType')(hkey:∃ i t,key.1=Value.int i t)(ha:IntKeys arr)
  (hb:base+n<=arr.size) (hh:hint<n) (hs:Up arr base (base+n))
  (h:∀ k,k<=n->(∀ i,i<k->Ahead left key (K arr (base+i)))->(∀ i,k<=i->i<n->¬ Ahead left key (K arr (base+i)))->Q (some k) st):wpS (model prog w) A E s (gallop' left key arr base n hint) Q st:=by
 show wpS _ _ _ _ (_ >>= _) _ _
 have bey:∀ (i:Nat) (Q':Option Bool->SortSt->Prop),i<n->(∀ b:Bool,(b=true↔Ahead left key (K arr (base+i)))->Q' (some b) st)->wpS (model prog w) A E s (do
   let x <- elem' arr (base+i)
   if left then lt' x key else return (<- lt' key x).map (!·)) Q' st:=by
  intro i Q' hi q
  obtain⟨p,e1,k1⟩:=ik_at ha (i:=base+i) (by omega)
  rw[K_at e1] at q
  refine wpS_bind (wpS_elem e1 ?_)
  cases left
  ·rw[if_neg (by decide)]
   refine wpS_bind (wpS_ltP hk hkey k1 (wpS_pure (q _ ?_)))
   simp[Ahead]
  ·rw[if_pos rfl]
   refine wpS_ltP hk k1 hkey (q _ ?_)
   simp[Ahead]
 have up:∀ i j,i<=j->j<n->Ahead left key (K arr (base+j))->Ahead left key (K arr (base+i)):=λi j h1 h2 h3=>ahead_le h3 (hs _ _ (by omega) (by omega) (by omega))
 generalize hF:(λi=>Ahead left key (K arr (base+i)))=F at *
 have eF:∀ i,Ahead left key (K arr (base+i))=F i:=λi=>by rw[<- hF]
 simp only[eF] at bey up h
 clear eF
 dsimp only
 refine wpS_bind (bey hint _ hh λb hbh=>?_)
 cases b
 ·have hbh:¬ F hint:=λz=>absurd (hbh.mpr z) (by decide)
  dsimp only
  rw[if_neg (by decide)]
  refine wpS_bind (wpS_mono (wpS_forRange (I:=λx c st'=>∃ l r,c=(none,l,r)/\l<r/\x+1<=r/\l<=hint/\¬ F (hint-l)/\st=st') (Q:=λc st'=>∃ l r,c=(none,l,r)/\l<r/\l<=hint/\¬ F (hint-l)/\(hint+1<=r\/F (hint-r))/\st=st') ?_ ?_ ⟨_,_,rfl,by omega,by omega,by omega,hbh,rfl⟩) ?_)
  ·rintro x c st' _ hx ⟨l,r,rfl,hlr,hxr,hl,f,rfl⟩
   dsimp only
   by_cases hge:r>=hint+1
   ·rw[if_pos hge];exact wpS_pure ⟨l,r,rfl,hlr,hl,f,.inl hge,rfl⟩
   ·rw[if_neg hge]
    refine wpS_bind (bey _ _ (by omega) λb hbb=>?_)
    cases b
    ·exact wpS_pure ⟨_,_,rfl,by omega,by omega,by omega,λz=>absurd (hbb.mpr z) (by decide),rfl⟩
    ·exact wpS_pure ⟨_,_,rfl,hlr,hl,f,.inr (hbb.mp rfl),rfl⟩
  ·rintro c st' ⟨l,r,rfl,hlr,hxr,hl,f,rfl⟩;exact⟨l,r,rfl,hlr,hl,f,.inl (by omega),rfl⟩
  ·rintro c st' ⟨l,r,rfl,hlr,hl,f,hor,rfl⟩
   have f1:∀ i,i<hint+1-min r (hint+1)->F i:=λi hi=>by
    rcases hor with z | z
    ·omega
    ·exact up i (hint-r) (by omega) (by omega) z
   have f2:∀ i,hint-l<=i->i<n->¬ F i:=λi h1 h2 h3=>f (up (hint-l) i h1 h2 h3)
   have hlr:hint+1-min r (hint+1)<=hint-l:=by omega
   have hrn:hint-l<=n:=by omega
   dsimp only
   refine wpS_bind (wpS_mono (wpS_forRange (I:=λx c st'=>∃ l r,c=(none,l,r)/\l<=r/\r<=n/\r-l<=n-x/\(∀ i,i<l->F i)/\(∀ i,r<=i->i<n->¬ F i)/\st=st') (Q:=λc st'=>∃ l,c=(none,l,l)/\l<=n/\(∀ i,i<l->F i)/\(∀ i,l<=i->i<n->¬ F i)/\st=st') ?_ ?_ ⟨_,_,rfl,hlr,hrn,by omega,f1,f2,rfl⟩) ?_)
   ·rintro x c st' _ hx ⟨l,r,rfl,hlr,hr,hm,f1,f2,rfl⟩
    dsimp only
    by_cases hge:l>=r
    ·rw[if_pos hge]
     obtain rfl:l=r:=by omega
     exact wpS_pure ⟨l,rfl,hr,f1,f2,rfl⟩
    ·rw[if_neg hge]
     refine wpS_bind (bey _ _ (by omega) λb hbb=>?_)
     cases b
     ·refine wpS_pure ⟨_,_,rfl,by omega,by omega,by omega,f1,λi h1 h2 h3=>?_,rfl⟩
      have:=up (l+(r-l) / 2) i h1 h2 h3
      exact absurd (hbb.mpr this) (by decide)
     ·exact wpS_pure ⟨_,_,rfl,by omega,hr,by omega,λi h1=>up i _ (by omega) (by omega) (hbb.mp rfl),f2,rfl⟩
   ·rintro c st' ⟨l,r,rfl,hlr,hr,hm,f1,f2,rfl⟩
    obtain rfl:l=r:=by omega
    exact⟨l,rfl,hr,f1,f2,rfl⟩
   ·rintro c st' ⟨l,rfl,hr,f1,f2,rfl⟩
    exact wpS_pure (h _ hr f1 f2)
 ·have hbh:F hint:=hbh.mp rfl
  dsimp only
  rw[if_pos rfl]
  refine wpS_bind (wpS_mono (wpS_forRange (I:=λx c st'=>∃ l r,c=(none,l,r)/\l<r/\x+1<=r/\hint+l<n/\F (hint+l)/\st=st') (Q:=λc st'=>∃ l r,c=(none,l,r)/\l<r/\hint+l<n/\F (hint+l)/\(n-hint<=r\/¬ F (hint+r))/\st=st') ?_ ?_ ⟨_,_,rfl,by omega,by omega,by omega,hbh,rfl⟩) ?_)
  ·rintro x c st' _ hx ⟨l,r,rfl,hlr,hxr,hl,f,rfl⟩
   dsimp only
   by_cases hge:r>=n-hint
   ·rw[if_pos hge];exact wpS_pure ⟨l,r,rfl,hlr,hl,f,.inl hge,rfl⟩
   ·rw[if_neg hge]
    refine wpS_bind (bey _ _ (by omega) λb hbb=>?_)
    cases b
    ·exact wpS_pure ⟨_,_,rfl,hlr,hl,f,.inr (λz=>absurd (hbb.mpr z) (by decide)),rfl⟩
    ·exact wpS_pure ⟨_,_,rfl,by omega,by omega,by omega,hbb.mp rfl,rfl⟩
  ·rintro c st' ⟨l,r,rfl,hlr,hxr,hl,f,rfl⟩;exact⟨l,r,rfl,hlr,hl,f,.inl (by omega),rfl⟩
  ·rintro c st' ⟨l,r,rfl,hlr,hl,f,hor,rfl⟩
   have f1:∀ i,i<hint+l+1->F i:=λi hi=>up i (hint+l) (by omega) hl f
   have f2:∀ i,hint+min r (n-hint)<=i->i<n->¬ F i:=λi h1 h2 h3=>by
    rcases hor with z | z
    ·omega
    ·exact z (up (hint+r) i (by omega) h2 h3)
   have hlr:hint+l+1<=hint+min r (n-hint):=by omega
   have hrn:hint+min r (n-hint)<=n:=by omega
   dsimp only
   refine wpS_bind (wpS_mono (wpS_forRange (I:=λx c st'=>∃ l r,c=(none,l,r)/\l<=r/\r<=n/\r-l<=n-x/\(∀ i,i<l->F i)/\(∀ i,r<=i->i<n->¬ F i)/\st=st') (Q:=λc st'=>∃ l,c=(none,l,l)/\l<=n/\(∀ i,i<l->F i)/\(∀ i,l<=i->i<n->¬ F i)/\st=st') ?_ ?_ ⟨_,_,rfl,hlr,hrn,by omega,f1,f2,rfl⟩) ?_)
   ·rintro x c st' _ hx ⟨l,r,rfl,hlr,hr,hm,f1,f2,rfl⟩
    dsimp only
    by_cases hge:l>=r
    ·rw[if_pos hge]
     obtain rfl:l=r:=by omega
     exact wpS_pure ⟨l,rfl,hr,f1,f2,rfl⟩
    ·rw[if_neg hge]
     refine wpS_bind (bey _ _ (by omega) λb hbb=>?_)
     cases b
     ·refine wpS_pure ⟨_,_,rfl,by omega,by omega,by omega,f1,λi h1 h2 h3=>?_,rfl⟩
      have:=up (l+(r-l) / 2) i h1 h2 h3
      exact absurd (hbb.mpr this) (by decide)
     ·exact wpS_pure ⟨_,_,rfl,by omega,hr,by omega,λi h1=>up i _ (by omega) (by omega) (hbb.mp rfl),f2,rfl⟩
   ·rintro c st' ⟨l,r,rfl,hlr,hr,hm,f1,f2,rfl⟩
    obtain rfl:l=r:=by omega
    exact⟨l,rfl,hr,f1,f2,rfl⟩
   ·rintro c st' ⟨l,rfl,hr,f1,f2,rfl⟩
    exact wpS_pure (h _ hr f1 f2)
abbrev Srt (l:List Keyed):Prop:=l.Pairwise λp q=>ks p<=ks q
theorem ext_mem {xs:Array Keyed}{i j:Nat}{p:Keyed}(h:p∈(xs.extract i j).toList):∃ k,i<=k/\k<j/\k<xs.size/\K xs k=ks p:=by
 rw[ext_list] at h
 obtain⟨k,hk,e⟩:=List.getElem_of_mem h
 have hk':=hk
 rw[List.length_drop,List.length_take,Array.length_toList] at hk'
 refine⟨i+k,by omega,by omega,by omega,?_⟩
 rw[List.getElem_drop,List.getElem_take] at e
 exact K_at (by rw[<- e];simp)
theorem ext_srt {xs:Array Keyed}{i j:Nat}(h:Up xs i j)(hj:j<=xs.size):Srt (xs.extract i j).toList:=by
 rw[ext_list,Srt,List.pairwise_iff_getElem]
 intro k m hk hm hkm
 rw[List.length_drop,List.length_take,Array.length_toList] at hk hm
 rw[List.getElem_drop,List.getElem_take,List.getElem_drop,List.getElem_take]
 have q:=h (i+k) (i+m) (by omega) (by omega) (by omega)
 rw[K_eq (by omega),K_eq (by omega)] at q
 simpa using q
structure Od (a b:Array Keyed)(ia ib:Nat)(out:Array Keyed):Prop where
 laid:Laid a b ia ib out
 srt:Srt out.toList
 la:∀ p,p∈out.toList->∀ j,ia<=j->j<a.size->ks p<=K a j
 lb:∀ p,p∈out.toList->∀ j,ib<=j->j<b.size->ks p<=K b j
structure Fit (a b:Array Keyed):Prop where
 ua:Up a 0 a.size
 ub:Up b 0 b.size
 fb:∀ j,j<a.size->K b 0<=K a j
 la:∀ j,j<b.size->K b j<=K a (a.size-1)
variable {a b:Array Keyed}{ia ib:Nat}{out:Array Keyed}
theorem Od.push {xs:Array Keyed}{p:Keyed}{k:Nat}(hs:Srt out.toList)(hl:∀ p,p∈out.toList->∀ j,k<=j->j<xs.size->ks p<=K xs j)(hp:xs[k]?=some p):Srt (out.push p).toList:=by
 rw[Array.toList_push,Srt,List.pairwise_append]
 refine⟨hs,List.pairwise_singleton _ _,λq hq r hr=>?_⟩
 obtain rfl:=List.mem_singleton.mp hr
 rw[<- K_at hp]
 exact hl q hq k (Nat.le_refl _) (by have:=Array.getElem?_eq_some_iff.mp hp;exact this.1)
theorem lt_of_at {xs:Array Keyed}{p:Keyed}{k:Nat}(hp:xs[k]?=some p):k<xs.size:=(Array.getElem?_eq_some_iff.mp hp).1
theorem Od.pb (F:Fit a b)(h:Od a b ia ib out){p:Keyed}(hp:b[ib]?=some p)(hx:∀ j,ia<=j->j<a.size->ks p<=K a j):Od a b ia (ib+1) (out.push p):=by
 refine⟨h.laid.b hp,Od.push h.srt h.lb hp,λq hq j h1 h2=>?_,λq hq j h1 h2=>?_⟩
 ·rw[Array.toList_push,List.mem_append,List.mem_singleton] at hq
  rcases hq with hq | rfl
  ·exact h.la q hq j h1 h2
  ·exact hx j h1 h2
 ·rw[Array.toList_push,List.mem_append,List.mem_singleton] at hq
  rcases hq with hq | rfl
  ·exact h.lb q hq j (by omega) h2
  ·rw[<- K_at hp];exact F.ub _ _ (by omega) (by omega) h2
theorem Od.pa (F:Fit a b)(h:Od a b ia ib out){p:Keyed}(hp:a[ia]?=some p)(hx:∀ j,ib<=j->j<b.size->ks p<=K b j):Od a b (ia+1) ib (out.push p):=by
 refine⟨h.laid.a hp,Od.push h.srt h.la hp,λq hq j h1 h2=>?_,λq hq j h1 h2=>?_⟩
 ·rw[Array.toList_push,List.mem_append,List.mem_singleton] at hq
  rcases hq with hq | rfl
  ·exact h.la q hq j (by omega) h2
  ·rw[<- K_at hp];exact F.ua _ _ (by omega) (by omega) h2
 ·rw[Array.toList_push,List.mem_append,List.mem_singleton] at hq
  rcases hq with hq | rfl
  ·exact h.lb q hq j h1 h2
  ·exact hx j h1 h2
theorem Od.app {xs:Array Keyed}{k m:Nat}(hs:Srt out.toList)(hl:∀ p,p∈out.toList->∀ j,k<=j->j<xs.size->ks p<=K xs j)(hu:Up xs 0 xs.size)(hm:m<=xs.size):Srt (out++xs.extract k m).toList:=by
 rw[Array.toList_append,Srt,List.pairwise_append]
 refine⟨hs,ext_srt (λi j h1 h2 h3=>hu i j (by omega) h2 (by omega)) hm,λq hq r hr=>?_⟩
 obtain⟨i,h1,h2,h3,e⟩:=ext_mem hr
 rw[<- e]
 exact hl q hq i h1 h3
theorem Od.ak (F:Fit a b)(h:Od a b ia ib out){k:Nat}(hk:ia+k<=a.size)(hx:∀ i,ia<=i->i<ia+k->∀ j,ib<=j->j<b.size->K a i<=K b j):Od a b (ia+k) ib (out++a.extract ia (ia+k)):=by
 refine⟨h.laid.ak k,Od.app h.srt h.la F.ua hk,λq hq j h1 h2=>?_,λq hq j h1 h2=>?_⟩
 ·rw[Array.toList_append,List.mem_append] at hq
  rcases hq with hq | hq
  ·exact h.la q hq j (by omega) h2
  ·obtain⟨i,i1,i2,i3,e⟩:=ext_mem hq
   rw[<- e];exact F.ua _ _ (by omega) (by omega) h2
 ·rw[Array.toList_append,List.mem_append] at hq
  rcases hq with hq | hq
  ·exact h.lb q hq j h1 h2
  ·obtain⟨i,i1,i2,i3,e⟩:=ext_mem hq
   rw[<- e];exact hx i i1 i2 j h1 h2
theorem Od.bk (F:Fit a b)(h:Od a b ia ib out){k:Nat}(hk:ib+k<=b.size)(hx:∀ j,ib<=j->j<ib+k->∀ i,ia<=i->i<a.size->K b j<=K a i):Od a b ia (ib+k) (out++b.extract ib (ib+k)):=by
 refine⟨h.laid.bk k,Od.app h.srt h.lb F.ub hk,λq hq j h1 h2=>?_,λq hq j h1 h2=>?_⟩
 ·rw[Array.toList_append,List.mem_append] at hq
  rcases hq with hq | hq
  ·exact h.la q hq j h1 h2
  ·obtain⟨i,i1,i2,i3,e⟩:=ext_mem hq
   rw[<- e];exact hx i i1 i2 j h1 h2
 ·rw[Array.toList_append,List.mem_append] at hq
  rcases hq with hq | hq
  ·exact h.lb q hq j (by omega) h2
  ·obtain⟨i,i1,i2,i3,e⟩:=ext_mem hq
   rw[<- e];exact F.ub _ _ (by omega) (by omega) h2
def Mg (a b:Array Keyed)(r:Array Keyed):Prop:=r.toList.Perm (a.toList++b.toList)/\Srt r.toList
theorem Od.fab (F:Fit a b)(h:Od a b ia ib out)(ha:ia<=a.size)(hb:ib<=b.size)(hx:∀ i,ia<=i->i<a.size->∀ j,ib<=j->j<b.size->K a i<=K b j):Mg a b (out++a.extract ia a.size++b.extract ib b.size):=by
 refine⟨h.laid.all ha hb,?_⟩
 obtain⟨j,hj⟩:∃ j,a.size=ia+j:=⟨a.size-ia,by omega⟩
 have q:=(h.ak F (k:=j) (by omega) (λi h1 h2=>hx i h1 (by omega)))
 rw[<- hj] at q
 exact Od.app q.srt q.lb F.ub (Nat.le_refl _)
theorem Od.fb (F:Fit a b)(h:Od a b ia ib out)(ha:ia<=a.size)(e:ib=b.size):Mg a b (out++a.extract ia a.size++b.extract ib b.size):=h.fab F ha (by omega) λi _ _ j h1 h2=>by omega
theorem Od.fa (F:Fit a b)(h:Od a b ia ib out)(hb:ib<=b.size)(e:ia=a.size):Mg a b (out++a.extract ia a.size++b.extract ib b.size):=h.fab F (by omega) hb λi h1 h2 j _ _=>by omega
theorem Od.fl (F : Fit a b) (h : Od a b ia ib out) (hb : ib ≤ b.size) (e : ia + 1 = a.size) : Mg a b (out ++ b.extract ib b.size ++ a.extract ia a.size) := by
  refine ⟨h.laid.all' (by omega) hb, ?_⟩
  obtain ⟨j, hj⟩ : ∃ j, b.size = ib + j := ⟨b.size - ib, by omega⟩
  have q := (h.bk F (k := j) (by omega) (fun i h1 h2 k h3 h4 => by obtain rfl : k = a.size - 1 := by omega
                                                                   exact F.la i (by omega)))
  rw [← hj] at q
  exact Od.app q.srt q.la F.ua (Nat.le_refl _)
theorem gA (F:Fit a b){p:Keyed}{k:Nat}(hp:b[ib]?=some p)(g:∀ i,i<k->Ahead false p (K a (ia+i))):∀ i,ia<=i->i<ia+k->∀ j,ib<=j->j<b.size->K a i<=K b j:=λi h1 h2 j h3 h4=>by
 have q:K a (ia+(i-ia))<=ks p:=g (i-ia) (by omega)
 rw[show ia+(i-ia)=i by omega,<- K_at hp] at q
 exact Int.le_trans q (F.ub _ _ (by omega) h3 h4)
theorem gB {p q:Keyed}{k:Nat}(hp:b[ib]?=some p)(hq:b[ib]?=some q)(g:∀ i,k<=i->i<a.size-ia->¬ Ahead false p (K a (ia+i))):∀ j,ia+k<=j->j<a.size->ks q<=K a j:=λj h1 h2=>by
 obtain rfl:p=q:=by rw[hp] at hq;exact Option.some.inj hq
 have z:¬ K a (ia+(j-ia))<=ks p:=g (j-ia) (by omega) (by omega)
 rw[show ia+(j-ia)=j by omega] at z
 omega
theorem gA2 (F:Fit a b){p:Keyed}{k:Nat}(hp:a[ia]?=some p)(g:∀ i,i<k->Ahead true p (K b (ib+i))):∀ j,ib<=j->j<ib+k->∀ i,ia<=i->i<a.size->K b j<=K a i:=λi h1 h2 j h3 h4=>by
 have q:K b (ib+(i-ib))<ks p:=g (i-ib) (by omega)
 rw[show ib+(i-ib)=i by omega,<- K_at hp] at q
 exact Int.le_trans (Int.le_of_lt q) (F.ua _ _ (by omega) h3 h4)
theorem gB2 {p q:Keyed}{k:Nat}(hp:a[ia]?=some p)(hq:a[ia]?=some q)(g:∀ i,k<=i->i<b.size-ib->¬ Ahead true p (K b (ib+i))):∀ j,ib+k<=j->j<b.size->ks q<=K b j:=λj h1 h2=>by
 obtain rfl:p=q:=by rw[hp] at hq;exact Option.some.inj hq
 have z:¬ K b (ib+(j-ib))<ks p:=g (j-ib) (by omega) (by omega)
 rw[show ib+(j-ib)=j by omega] at z
 omega
end
end SB
namespace SB
open PySem PyProof.Rows
section
variable {prog:Program}{w:World}{A:Around}{E:Value->Shared->Prop}{s:Shared}{a0:Array Keyed}
variable {a b:Array Keyed}{ia ib na nb:Nat}{out:Array Keyed}
theorem ltA (F:Fit a b){p1 p2 p3:Keyed}(h1:b[ib]?=some p1)(h2:a[ia]?=some p2)(h3:b[ib]?=some p3)(h:ks p1<ks p2):∀ j,ia<=j->j<a.size->ks p3<=K a j:=λj q1 q2=>by
 obtain rfl:p1=p3:=by rw[h1] at h3;exact Option.some.inj h3
 rw[<- K_at h2] at h
 exact Int.le_trans (Int.le_of_lt h) (F.ua _ _ (by omega) q1 q2)
theorem ltB (F:Fit a b){p1 p2 p3:Keyed}(h1:b[ib]?=some p1)(h2:a[ia]?=some p2)(h3:a[ia]?=some p3)(h:¬ ks p1<ks p2):∀ j,ib<=j->j<b.size->ks p3<=K b j:=λj q1 q2=>by
 obtain rfl:p2=p3:=by rw[h2] at h3;exact Option.some.inj h3
 rw[<- K_at h1] at h
 exact Int.le_trans (Int.not_lt.mp h) (F.ub _ _ (by omega) q1 q2)
theorem Up.sub {xs:Array Keyed}{i n:Nat}(h:Up xs 0 xs.size)(hn:i+n<=xs.size):Up xs i (i+n):=λk m _ h2 h3=>h k m (by omega) h2 (by omega)
structure MidO (a b:Array Keyed)(c0 ia ib:Nat)(out:Array Keyed):Prop where
 laid:Od a b ia ib out
 ha:ia+1<a.size
 hb:ib<b.size
 pr:c0<=ia+ib
def MRetO (a b:Array Keyed)(GG:SortSt->Prop){β:Type}(c:Option (Array Keyed)×β)(st':SortSt):Prop:=∃ r y,c=(some r,y)/\Mg a b r/\GG st'
structure OdH (a b:Array Keyed)(na nb:Nat)(out:Array Keyed):Prop where
 laid:LaidH a b na nb out
 srt:out.toList.Pairwise λp q=>ks q<=ks p
 la:∀ p,p∈out.toList->∀ j,j<na->K a j<=ks p
 lb:∀ p,p∈out.toList->∀ j,j<nb->K b j<=ks p
theorem OdH.pb (F:Fit a b)(h:OdH a b na nb out)(h1:1<=nb){p:Keyed}(hp:b[nb-1]?=some p)(hx:∀ j,j<na->K a j<=ks p):OdH a b na (nb-1) (out.push p):=by
 have hz:=lt_of_at hp
 refine⟨h.laid.b h1 hp,?_,λq hq j h2=>?_,λq hq j h2=>?_⟩
 ·rw[Array.toList_push,List.pairwise_append]
  refine⟨h.srt,List.pairwise_singleton _ _,λq hq r hr=>?_⟩
  obtain rfl:=List.mem_singleton.mp hr
  rw[<- K_at hp];exact h.lb q hq _ (by omega)
 ·rw[Array.toList_push,List.mem_append,List.mem_singleton] at hq
  rcases hq with hq | rfl
  ·exact h.la q hq j h2
  ·exact hx j h2
 ·rw[Array.toList_push,List.mem_append,List.mem_singleton] at hq
  rcases hq with hq | rfl
  ·exact h.lb q hq j (by omega)
  ·rw[<- K_at hp];exact F.ub _ _ (by omega) (by omega) (by omega)
theorem OdH.pa (F:Fit a b)(h:OdH a b na nb out)(h1:1<=na){p:Keyed}(hp:a[na-1]?=some p)(hx:∀ j,j<nb->K b j<=ks p):OdH a b (na-1) nb (out.push p):=by
 have hz:=lt_of_at hp
 refine⟨h.laid.a h1 hp,?_,λq hq j h2=>?_,λq hq j h2=>?_⟩
 ·rw[Array.toList_push,List.pairwise_append]
  refine⟨h.srt,List.pairwise_singleton _ _,λq hq r hr=>?_⟩
  obtain rfl:=List.mem_singleton.mp hr
  rw[<- K_at hp];exact h.la q hq _ (by omega)
 ·rw[Array.toList_push,List.mem_append,List.mem_singleton] at hq
  rcases hq with hq | rfl
  ·exact h.la q hq j (by omega)
  ·rw[<- K_at hp];exact F.ua _ _ (by omega) (by omega) (by omega)
 ·rw[Array.toList_push,List.mem_append,List.mem_singleton] at hq
  rcases hq with hq | rfl
  ·exact h.lb q hq j h2
  ·exact hx j h2
theorem rev_app {xs:Array Keyed}{k m:Nat}(hs:out.toList.Pairwise λp q=>ks q<=ks p)(hl:∀ p,p∈out.toList->∀ j,j<m->K xs j<=ks p)(hu:Up xs 0 xs.size)(hm:m<=xs.size):(out++(xs.extract k m).reverse).toList.Pairwise λp q=>ks q<=ks p:=by
 rw[Array.toList_append,Array.toList_reverse,List.pairwise_append]
 refine⟨hs,List.pairwise_reverse.mpr (ext_srt (λi j h1 h2 h3=>hu i j (by omega) h2 (by omega)) hm),λq hq r hr=>?_⟩
 obtain⟨i,h1,h2,h3,e⟩:=ext_mem (List.mem_reverse.mp hr)
 rw[<- e]
 exact hl q hq i h2
theorem OdH.ak (F:Fit a b)(h:OdH a b na nb out){k:Nat}(hk:k<=na)(hn:na<=a.size)(hx:∀ i,k<=i->i<na->∀ j,j<nb->K b j<=K a i):OdH a b k nb (out++(a.extract k na).reverse):=by
 refine⟨h.laid.ak hk,rev_app h.srt h.la F.ua hn,λq hq j h2=>?_,λq hq j h2=>?_⟩
 ·rw[Array.toList_append,Array.toList_reverse,List.mem_append,List.mem_reverse] at hq
  rcases hq with hq | hq
  ·exact h.la q hq j (by omega)
  ·obtain⟨i,i1,i2,i3,e⟩:=ext_mem hq
   rw[<- e];exact F.ua _ _ (by omega) (by omega) i3
 ·rw[Array.toList_append,Array.toList_reverse,List.mem_append,List.mem_reverse] at hq
  rcases hq with hq | hq
  ·exact h.lb q hq j h2
  ·obtain⟨i,i1,i2,i3,e⟩:=ext_mem hq
   rw[<- e];exact hx i i1 i2 j h2
theorem OdH.bk (F:Fit a b)(h:OdH a b na nb out){k:Nat}(hk:k<=nb)(hn:nb<=b.size)(hx:∀ j,k<=j->j<nb->∀ i,i<na->K a i<=K b j):OdH a b na k (out++(b.extract k nb).reverse):=by
 refine⟨h.laid.bk hk,rev_app h.srt h.lb F.ub hn,λq hq j h2=>?_,λq hq j h2=>?_⟩
 ·rw[Array.toList_append,Array.toList_reverse,List.mem_append,List.mem_reverse] at hq
  rcases hq with hq | hq
  ·exact h.la q hq j h2
  ·obtain⟨i,i1,i2,i3,e⟩:=ext_mem hq
   rw[<- e];exact hx i i1 i2 j h2
 ·rw[Array.toList_append,Array.toList_reverse,List.mem_append,List.mem_reverse] at hq
  rcases hq with hq | hq
  ·exact h.lb q hq j (by omega)
  ·obtain⟨i,i1,i2,i3,e⟩:=ext_mem hq
   rw[<- e];exact F.ub _ _ (by omega) (by omega) i3
theorem srt3 {x y z:List Keyed}(hx:Srt x)(hy:Srt y)(hz:Srt z)(h1:∀ p,p∈x->∀ q,q∈y->ks p<=ks q)(h2:∀ p,p∈x->∀ q,q∈z->ks p<=ks q)(h3:∀ p,p∈y->∀ q,q∈z->ks p<=ks q):Srt (x++y++z):=by
 rw[Srt,List.pairwise_append,List.pairwise_append]
 refine⟨⟨hx,hy,h1⟩,hz,λp hp q hq=>?_⟩
 rcases List.mem_append.mp hp with hp | hp
 ·exact h2 p hp q hq
 ·exact h3 p hp q hq
theorem OdH.fab (F:Fit a b)(h:OdH a b na nb out)(ha:na<=a.size)(hb:nb<=b.size)(hx:∀ i,i<na->∀ j,j<nb->K a i<=K b j):Mg a b (a.extract 0 na++b.extract 0 nb++out.reverse):=by
 refine⟨h.laid.all,?_⟩
 rw[Array.toList_append,Array.toList_append,Array.toList_reverse]
 refine srt3 (ext_srt (λi j h1 h2 h3=>F.ua i j (by omega) h2 (by omega)) ha) (ext_srt (λi j h1 h2 h3=>F.ub i j (by omega) h2 (by omega)) hb) (List.pairwise_reverse.mpr h.srt) (λp hp q hq=>?_) (λp hp q hq=>?_) (λp hp q hq=>?_)
 ·obtain⟨i,_,i2,_,e⟩:=ext_mem hp
  obtain⟨j,_,j2,_,e2⟩:=ext_mem hq
  rw[<- e,<- e2];exact hx i i2 j j2
 ·obtain⟨i,_,i2,_,e⟩:=ext_mem hp
  rw[<- e];exact h.la q (List.mem_reverse.mp hq) i i2
 ·obtain⟨i,_,i2,_,e⟩:=ext_mem hp
  rw[<- e];exact h.lb q (List.mem_reverse.mp hq) i i2
theorem OdH.fz (F:Fit a b)(h:OdH a b na nb out)(hb:nb<=b.size)(e:na=0):Mg a b (a.extract 0 na++b.extract 0 nb++out.reverse):=h.fab F (by omega) hb λi hi=>by omega
theorem OdH.fn (F:Fit a b)(h:OdH a b na nb out)(ha:na<=a.size)(e:nb=0):Mg a b (a.extract 0 na++b.extract 0 nb++out.reverse):=h.fab F ha (by omega) λi _ j hj=>by omega
theorem OdH.fl (F:Fit a b)(h:OdH a b na nb out)(ha:na<=a.size)(hb:nb<=b.size)(e:nb=1):Mg a b (b.extract 0 nb++a.extract 0 na++out.reverse):=by
 refine⟨h.laid.all',?_⟩
 rw[Array.toList_append,Array.toList_append,Array.toList_reverse]
 refine srt3 (ext_srt (λi j h1 h2 h3=>F.ub i j (by omega) h2 (by omega)) hb) (ext_srt (λi j h1 h2 h3=>F.ua i j (by omega) h2 (by omega)) ha) (List.pairwise_reverse.mpr h.srt) (λp hp q hq=>?_) (λp hp q hq=>?_) (λp hp q hq=>?_)
 ·obtain⟨i,_,i2,_,e1⟩:=ext_mem hp
  obtain⟨j,_,j2,_,e2⟩:=ext_mem hq
  obtain rfl:i=0:=by omega
  rw[<- e1,<- e2];exact F.fb j (by omega)
 ·obtain⟨i,_,i2,_,e⟩:=ext_mem hp
  rw[<- e];exact h.lb q (List.mem_reverse.mp hq) i i2
 ·obtain⟨i,_,i2,_,e⟩:=ext_mem hp
  rw[<- e];exact h.la q (List.mem_reverse.mp hq) i i2
theorem hA1 (F:Fit a b){p:Keyed}{k:Nat}(hp:b[nb-1]?=some p)(hb:nb<=b.size)(g:∀ i,k<=i->i<na->¬ Ahead false p (K a (0+i))):∀ i,k<=i->i<na->∀ j,j<nb->K b j<=K a i:=λi h1 h2 j h3=>by
 have z:¬ K a (0+i)<=ks p:=g i h1 h2
 rw[Nat.zero_add,<- K_at hp] at z
 have:=F.ub j (nb-1) (by omega) (by omega) (by omega)
 omega
theorem hB1 {p q:Keyed}{k:Nat}(hp:b[nb-1]?=some p)(hq:b[nb-1]?=some q)(g:∀ i,i<k->Ahead false p (K a (0+i))):∀ j,j<k->K a j<=ks q:=λj h1=>by
 obtain rfl:p=q:=by rw[hp] at hq;exact Option.some.inj hq
 have z:K a (0+j)<=ks p:=g j h1
 rwa [Nat.zero_add] at z
theorem hA2 (F:Fit a b){p:Keyed}{k:Nat}(hp:a[na-1]?=some p)(ha:na<=a.size)(g:∀ i,k<=i->i<nb->¬ Ahead true p (K b (0+i))):∀ j,k<=j->j<nb->∀ i,i<na->K a i<=K b j:=λj h1 h2 i h3=>by
 have z:¬ K b (0+j)<ks p:=g j h1 h2
 rw[Nat.zero_add,<- K_at hp] at z
 have:=F.ua i (na-1) (by omega) (by omega) (by omega)
 omega
theorem hB2 {p q:Keyed}{k:Nat}(hp:a[na-1]?=some p)(hq:a[na-1]?=some q)(g:∀ i,i<k->Ahead true p (K b (0+i))):∀ j,j<k->K b j<=ks q:=λj h1=>by
 obtain rfl:p=q:=by rw[hp] at hq;exact Option.some.inj hq
 have z:K b (0+j)<ks p:=g j h1
 rw[Nat.zero_add] at z
 exact Int.le_of_lt z
theorem ltAH (F:Fit a b){p1 p2 p3:Keyed}(h1:b[nb-1]?=some p1)(h2:a[na-1]?=some p2)(h3:a[na-1]?=some p3)(hn:nb<=b.size)(h:ks p1<ks p2):∀ j,j<nb->K b j<=ks p3:=λj q1=>by
 obtain rfl:p2=p3:=by rw[h2] at h3;exact Option.some.inj h3
 rw[<- K_at h1] at h
 exact Int.le_trans (F.ub _ _ (by omega) (by omega) (by omega)) (Int.le_of_lt h)
theorem ltBH (F:Fit a b){p1 p2 p3:Keyed}(h1:b[nb-1]?=some p1)(h2:a[na-1]?=some p2)(h3:b[nb-1]?=some p3)(hn:na<=a.size)(h:¬ ks p1<ks p2):∀ j,j<na->K a j<=ks p3:=λj q1=>by
 obtain rfl:p1=p3:=by rw[h1] at h3;exact Option.some.inj h3
 rw[<- K_at h2] at h
 exact Int.le_trans (F.ua _ _ (by omega) (by omega) (by omega)) (Int.not_lt.mp h)
structure MidHO (a b:Array Keyed)(c0 na nb:Nat)(out:Array Keyed):Prop where
 laid:OdH a b na nb out
 ha:1<=na
 ha2:na<=a.size
 hb:2<=nb
 hb2:nb<=b.size
 pr:c0+na+nb<=a.size+b.size
theorem mergeLo_s {a b:Array Keyed}{pe:Array (Nat×Nat×Nat)}{xs:Array Keyed}{st:SortSt}{Q:Array Keyed->SortSt->Prop}(hB:GX a0 pe xs st)(ha:IntKeys a)(hb:IntKeys b)(ha1:1<=a.size)(hb1:1<=b.size)
  (F:Fit a b) (h:∀ out st',GX a0 pe xs st'->Mg a b out->Q out st'):wpS (model prog w) A E s (mergeLo' a b) Q st:=by
 show wpS _ _ _ _ (_ >>= _) _ _
 refine wpS_bind (wpS_lift (wpAny_rule ⟨rfl,?_⟩))
 obtain⟨b0,e0,_⟩:=ik_at hb (i:=0) (by omega)
 refine wpS_bind (wpS_elem e0 ?_)
 have L0:Od a b 0 1 #[b0]:=by
  refine⟨?_,List.pairwise_singleton _ _,λp hp j _ hj=>?_,λp hp j _ hj=>?_⟩
  ·unfold Laid
   rw[take_at e0];simp
  ·obtain rfl:=List.mem_singleton.mp hp
   rw[<- K_at e0];exact F.fb j hj
  ·obtain rfl:=List.mem_singleton.mp hp
   rw[<- K_at e0];exact F.ub _ _ (by omega) (by omega) hj
 dsimp only
 refine wpS_iteB (λh1=>wpS_pure (h _ _ hB (L0.fb F (by omega) h1))) λh1=>?_
 refine wpS_iteB (λh2=>wpS_pure (h _ _ hB (L0.fl F (by omega) h2))) λh2=>?_
 refine wpS_bind (wpS_get ?_)
 refine wpS_bind (wpS_mono (wpS_forRange (I:=λx c st'=>∃ out ia ib mg,c=(none,out,ia,ib,mg)/\MidO a b (x+1) ia ib out/\GX a0 pe xs st') (Q:=MRetO a b (GX a0 pe xs)) ?step ?fin ⟨_,_,_,_,rfl,⟨L0,by omega,by omega,by omega⟩,hB⟩) ?post)
 case fin =>
  rintro c st' ⟨out,ia,ib,mg,rfl,m,g⟩
  have:=m.ha;have:=m.hb;have:=m.pr
  exfalso;omega
 case post =>
  rintro c st' ⟨r,y,rfl,p,g⟩
  exact wpS_pure (h _ _ g p)
 case step =>
  rintro x c st1 _ hx ⟨out,ia,ib,mg,rfl,m,g⟩
  dsimp only
  refine wpS_bind (wpS_mono (wpS_forRange (I:=λx2 c st'=>∃ out ia ib ac bc,c=(none,out,ia,ib,ac,bc)/\MidO a b (x+1+min x2 1) ia ib out/\GX a0 pe xs st')
   (Q:=λc st'=>MRetO a b (GX a0 pe xs) c st'\/∃ out ia ib ac bc,c=(none,out,ia,ib,ac,bc)/\MidO a b (x+2) ia ib out/\GX a0 pe xs st') ?_ ?_ ⟨_,_,_,_,_,rfl,m,g⟩) ?_)
  ·rintro x2 c st2 _ hx2 ⟨out,ia,ib,ac,bc,rfl,m,g⟩
   have m1:=m.ha;have m2:=m.hb;have m3:=m.pr
   dsimp only
   refine wpS_bind (wpS_elemB hb (by omega) λp1 hp1 kp1=>?_)
   refine wpS_bind (wpS_elemB ha (by omega) λp2 hp2 kp2=>?_)
   refine wpS_bind (wpS_ltP g.1.1.kind kp1 kp2 ?_)
   dsimp only
   refine wpS_ite (λhbw=>?_) (λhbw=>?_)
   ·refine wpS_bind (wpS_elemB hb (by omega) λp3 hp3 kp3=>?_)
    have X:=ltA F hp1 hp2 hp3 (of_decide_eq_true hbw)
    refine wpS_iteB (λe=>wpS_pure (.inl ⟨_,_,rfl,(m.laid.pb F hp3 X).fb F (by omega) e,g⟩)) λne=>?_
    exact wpS_ite (λ_=>wpS_pure (.inr ⟨_,_,_,_,_,rfl,⟨m.laid.pb F hp3 X,by omega,by omega,by omega⟩,g⟩)) λ_=>wpS_pure ⟨_,_,_,_,_,rfl,⟨m.laid.pb F hp3 X,by omega,by omega,by omega⟩,g⟩
   ·refine wpS_bind (wpS_elemB ha (by omega) λp3 hp3 kp3=>?_)
    have X:=ltB F hp1 hp2 hp3 λz=>hbw (decide_eq_true z)
    refine wpS_iteB (λe=>wpS_pure (.inl ⟨_,_,rfl,(m.laid.pa F hp3 X).fl F (by omega) e,g⟩)) λne=>?_
    exact wpS_ite (λ_=>wpS_pure (.inr ⟨_,_,_,_,_,rfl,⟨m.laid.pa F hp3 X,by omega,by omega,by omega⟩,g⟩)) λ_=>wpS_pure ⟨_,_,_,_,_,rfl,⟨m.laid.pa F hp3 X,by omega,by omega,by omega⟩,g⟩
  ·rintro c st2 ⟨out,ia,ib,ac,bc,rfl,m,g⟩
   exact .inr ⟨_,_,_,_,_,rfl,⟨m.laid,m.ha,m.hb,by have:=m.pr;omega⟩,g⟩
  ·rintro c st2 (⟨r,y,rfl,p,g⟩ | ⟨out,ia,ib,ac,bc,rfl,m,g⟩)
   ·exact wpS_pure ⟨_,_,rfl,p,g⟩
   ·dsimp only
    refine wpS_bind (wpS_lift (wpAny_rule ⟨rfl,?_⟩))
    refine wpS_bind (wpS_mono (wpS_forRange (I:=λ_ c st'=>∃ out ia ib mg ac bc,c=(none,out,ia,ib,mg,ac,bc)/\MidO a b (x+2) ia ib out/\GX a0 pe xs st')
     (Q:=λc st'=>MRetO a b (GX a0 pe xs) c st'\/∃ out ia ib mg ac bc,c=(none,out,ia,ib,mg,ac,bc)/\MidO a b (x+2) ia ib out/\GX a0 pe xs st') ?_ ?_ ⟨_,_,_,_,_,_,rfl,m,g⟩) ?_)
    ·rintro x3 c st3 _ hx3 ⟨out,ia,ib,mg,ac,bc,rfl,m,g⟩
     have m1:=m.ha;have m2:=m.hb;have m3:=m.pr
     have L:=m.laid
     dsimp only
     refine wpS_ite (λhm=>?_) (λhm=>?_)
     ·refine wpS_bind (wpS_setMin g λst1 g1=>?_)
      refine wpS_bind (wpS_elemB hb (by omega) λp hp kp=>?_)
      refine wpS_bind (gallop_s g1.1.1.kind kp ha (by omega) (by omega) (F.ua.sub (by omega)) λk hk gk1 gk2=>?_)
      dsimp only
      refine wpS_ite (λhk0=>?_) (λhk0=>?_)
      ·refine wpS_iteB (λe=>wpS_pure (.inl ⟨_,_,rfl,((L).ak F (k:=k) (by omega) (gA F hp gk1)).fl F (by omega) e,g1⟩)) λne1=>?_
       refine wpS_iteB (λe=>wpS_pure (.inl ⟨_,_,rfl,((L).ak F (k:=k) (by omega) (gA F hp gk1)).fa F (by omega) e,g1⟩)) λne2=>?_
       refine wpS_bind (wpS_elemB hb (by omega) λq1 hq1 kq1=>?_)
       refine wpS_iteB (λe=>wpS_pure (.inl ⟨_,_,rfl,(((L).ak F (k:=k) (by omega) (gA F hp gk1)).pb F hq1 (gB hp hq1 gk2)).fb F (by omega) e,g1⟩)) λne3=>?_
       refine wpS_bind (wpS_elemB ha (by omega) λq2 hq2 kq2=>?_)
       refine wpS_bind (gallop_s g1.1.1.kind kq2 hb (by omega) (by omega) (F.ub.sub (by omega)) λk2 hk2 gk3 gk4=>?_)
       dsimp only
       refine wpS_ite (λh22=>?_) (λh22=>?_)
       ·refine wpS_iteB (λe=>wpS_pure (.inl ⟨_,_,rfl,((((L).ak F (k:=k) (by omega) (gA F hp gk1)).pb F hq1 (gB hp hq1 gk2)).bk F (k:=k2) (by omega) (gA2 F hq2 gk3)).fb F (by omega) e,g1⟩)) λne4=>?_
        refine wpS_bind (wpS_elemB ha (by omega) λq3 hq3 kq3=>?_)
        refine wpS_iteB (λe=>wpS_pure (.inl ⟨_,_,rfl,(((((L).ak F (k:=k) (by omega) (gA F hp gk1)).pb F hq1 (gB hp hq1 gk2)).bk F (k:=k2) (by omega) (gA2 F hq2 gk3)).pa F hq3 (gB2 hq2 hq3 gk4)).fl F (by omega) e,g1⟩)) λne5=>?_
        refine wpS_ite (λ_=>wpS_pure (.inr ⟨_,_,_,_,_,_,rfl,⟨((((L).ak F (k:=k) (by omega) (gA F hp gk1)).pb F hq1 (gB hp hq1 gk2)).bk F (k:=k2) (by omega) (gA2 F hq2 gk3)).pa F hq3 (gB2 hq2 hq3 gk4),by omega,by omega,by omega⟩,g1⟩)) λ_=>wpS_pure ⟨_,_,_,_,_,_,rfl,⟨((((L).ak F (k:=k) (by omega) (gA F hp gk1)).pb F hq1 (gB hp hq1 gk2)).bk F (k:=k2) (by omega) (gA2 F hq2 gk3)).pa F hq3 (gB2 hq2 hq3 gk4),by omega,by omega,by omega⟩,g1⟩
       ·obtain rfl:k2=0:=by omega
        refine wpS_bind (wpS_elemB ha (by omega) λq3 hq3 kq3=>?_)
        refine wpS_iteB (λe=>wpS_pure (.inl ⟨_,_,rfl,((((L).ak F (k:=k) (by omega) (gA F hp gk1)).pb F hq1 (gB hp hq1 gk2)).pa F hq3 (gB2 (ib:=ib+1) (k:=0) hq2 hq3 gk4)).fl F (by omega) e,g1⟩)) λne5=>?_
        refine wpS_ite (λ_=>wpS_pure (.inr ⟨_,_,_,_,_,_,rfl,⟨(((L).ak F (k:=k) (by omega) (gA F hp gk1)).pb F hq1 (gB hp hq1 gk2)).pa F hq3 (gB2 (ib:=ib+1) (k:=0) hq2 hq3 gk4),by omega,by omega,by omega⟩,g1⟩)) λ_=>wpS_pure ⟨_,_,_,_,_,_,rfl,⟨(((L).ak F (k:=k) (by omega) (gA F hp gk1)).pb F hq1 (gB hp hq1 gk2)).pa F hq3 (gB2 (ib:=ib+1) (k:=0) hq2 hq3 gk4),by omega,by omega,by omega⟩,g1⟩
      ·obtain rfl:k=0:=by omega
       refine wpS_bind (wpS_elemB hb (by omega) λq1 hq1 kq1=>?_)
       refine wpS_iteB (λe=>wpS_pure (.inl ⟨_,_,rfl,((L).pb F hq1 (gB hp hq1 gk2)).fb F (by omega) e,g1⟩)) λne3=>?_
       refine wpS_bind (wpS_elemB ha (by omega) λq2 hq2 kq2=>?_)
       refine wpS_bind (gallop_s g1.1.1.kind kq2 hb (by omega) (by omega) (F.ub.sub (by omega)) λk2 hk2 gk3 gk4=>?_)
       dsimp only
       refine wpS_ite (λh22=>?_) (λh22=>?_)
       ·refine wpS_iteB (λe=>wpS_pure (.inl ⟨_,_,rfl,(((L).pb F hq1 (gB hp hq1 gk2)).bk F (k:=k2) (by omega) (gA2 F hq2 gk3)).fb F (by omega) e,g1⟩)) λne4=>?_
        refine wpS_bind (wpS_elemB ha (by omega) λq3 hq3 kq3=>?_)
        refine wpS_iteB (λe=>wpS_pure (.inl ⟨_,_,rfl,((((L).pb F hq1 (gB hp hq1 gk2)).bk F (k:=k2) (by omega) (gA2 F hq2 gk3)).pa F hq3 (gB2 hq2 hq3 gk4)).fl F (by omega) e,g1⟩)) λne5=>?_
        refine wpS_ite (λ_=>wpS_pure (.inr ⟨_,_,_,_,_,_,rfl,⟨(((L).pb F hq1 (gB hp hq1 gk2)).bk F (k:=k2) (by omega) (gA2 F hq2 gk3)).pa F hq3 (gB2 hq2 hq3 gk4),by omega,by omega,by omega⟩,g1⟩)) λ_=>wpS_pure ⟨_,_,_,_,_,_,rfl,⟨(((L).pb F hq1 (gB hp hq1 gk2)).bk F (k:=k2) (by omega) (gA2 F hq2 gk3)).pa F hq3 (gB2 hq2 hq3 gk4),by omega,by omega,by omega⟩,g1⟩
       ·obtain rfl:k2=0:=by omega
        refine wpS_bind (wpS_elemB ha (by omega) λq3 hq3 kq3=>?_)
        refine wpS_iteB (λe=>wpS_pure (.inl ⟨_,_,rfl,(((L).pb F hq1 (gB hp hq1 gk2)).pa F hq3 (gB2 (ib:=ib+1) (k:=0) hq2 hq3 gk4)).fl F (by omega) e,g1⟩)) λne5=>?_
        refine wpS_ite (λ_=>wpS_pure (.inr ⟨_,_,_,_,_,_,rfl,⟨((L).pb F hq1 (gB hp hq1 gk2)).pa F hq3 (gB2 (ib:=ib+1) (k:=0) hq2 hq3 gk4),by omega,by omega,by omega⟩,g1⟩)) λ_=>wpS_pure ⟨_,_,_,_,_,_,rfl,⟨((L).pb F hq1 (gB hp hq1 gk2)).pa F hq3 (gB2 (ib:=ib+1) (k:=0) hq2 hq3 gk4),by omega,by omega,by omega⟩,g1⟩
     ·refine wpS_bind (wpS_setMin g λst1 g1=>?_)
      refine wpS_bind (wpS_elemB hb (by omega) λp hp kp=>?_)
      refine wpS_bind (gallop_s g1.1.1.kind kp ha (by omega) (by omega) (F.ua.sub (by omega)) λk hk gk1 gk2=>?_)
      dsimp only
      refine wpS_ite (λhk0=>?_) (λhk0=>?_)
      ·refine wpS_iteB (λe=>wpS_pure (.inl ⟨_,_,rfl,((L).ak F (k:=k) (by omega) (gA F hp gk1)).fl F (by omega) e,g1⟩)) λne1=>?_
       refine wpS_iteB (λe=>wpS_pure (.inl ⟨_,_,rfl,((L).ak F (k:=k) (by omega) (gA F hp gk1)).fa F (by omega) e,g1⟩)) λne2=>?_
       refine wpS_bind (wpS_elemB hb (by omega) λq1 hq1 kq1=>?_)
       refine wpS_iteB (λe=>wpS_pure (.inl ⟨_,_,rfl,(((L).ak F (k:=k) (by omega) (gA F hp gk1)).pb F hq1 (gB hp hq1 gk2)).fb F (by omega) e,g1⟩)) λne3=>?_
       refine wpS_bind (wpS_elemB ha (by omega) λq2 hq2 kq2=>?_)
       refine wpS_bind (gallop_s g1.1.1.kind kq2 hb (by omega) (by omega) (F.ub.sub (by omega)) λk2 hk2 gk3 gk4=>?_)
       dsimp only
       refine wpS_ite (λh22=>?_) (λh22=>?_)
       ·refine wpS_iteB (λe=>wpS_pure (.inl ⟨_,_,rfl,((((L).ak F (k:=k) (by omega) (gA F hp gk1)).pb F hq1 (gB hp hq1 gk2)).bk F (k:=k2) (by omega) (gA2 F hq2 gk3)).fb F (by omega) e,g1⟩)) λne4=>?_
        refine wpS_bind (wpS_elemB ha (by omega) λq3 hq3 kq3=>?_)
        refine wpS_iteB (λe=>wpS_pure (.inl ⟨_,_,rfl,(((((L).ak F (k:=k) (by omega) (gA F hp gk1)).pb F hq1 (gB hp hq1 gk2)).bk F (k:=k2) (by omega) (gA2 F hq2 gk3)).pa F hq3 (gB2 hq2 hq3 gk4)).fl F (by omega) e,g1⟩)) λne5=>?_
        refine wpS_ite (λ_=>wpS_pure (.inr ⟨_,_,_,_,_,_,rfl,⟨((((L).ak F (k:=k) (by omega) (gA F hp gk1)).pb F hq1 (gB hp hq1 gk2)).bk F (k:=k2) (by omega) (gA2 F hq2 gk3)).pa F hq3 (gB2 hq2 hq3 gk4),by omega,by omega,by omega⟩,g1⟩)) λ_=>wpS_pure ⟨_,_,_,_,_,_,rfl,⟨((((L).ak F (k:=k) (by omega) (gA F hp gk1)).pb F hq1 (gB hp hq1 gk2)).bk F (k:=k2) (by omega) (gA2 F hq2 gk3)).pa F hq3 (gB2 hq2 hq3 gk4),by omega,by omega,by omega⟩,g1⟩
       ·obtain rfl:k2=0:=by omega
        refine wpS_bind (wpS_elemB ha (by omega) λq3 hq3 kq3=>?_)
        refine wpS_iteB (λe=>wpS_pure (.inl ⟨_,_,rfl,((((L).ak F (k:=k) (by omega) (gA F hp gk1)).pb F hq1 (gB hp hq1 gk2)).pa F hq3 (gB2 (ib:=ib+1) (k:=0) hq2 hq3 gk4)).fl F (by omega) e,g1⟩)) λne5=>?_
        refine wpS_ite (λ_=>wpS_pure (.inr ⟨_,_,_,_,_,_,rfl,⟨(((L).ak F (k:=k) (by omega) (gA F hp gk1)).pb F hq1 (gB hp hq1 gk2)).pa F hq3 (gB2 (ib:=ib+1) (k:=0) hq2 hq3 gk4),by omega,by omega,by omega⟩,g1⟩)) λ_=>wpS_pure ⟨_,_,_,_,_,_,rfl,⟨(((L).ak F (k:=k) (by omega) (gA F hp gk1)).pb F hq1 (gB hp hq1 gk2)).pa F hq3 (gB2 (ib:=ib+1) (k:=0) hq2 hq3 gk4),by omega,by omega,by omega⟩,g1⟩
      ·obtain rfl:k=0:=by omega
       refine wpS_bind (wpS_elemB hb (by omega) λq1 hq1 kq1=>?_)
       refine wpS_iteB (λe=>wpS_pure (.inl ⟨_,_,rfl,((L).pb F hq1 (gB hp hq1 gk2)).fb F (by omega) e,g1⟩)) λne3=>?_
       refine wpS_bind (wpS_elemB ha (by omega) λq2 hq2 kq2=>?_)
       refine wpS_bind (gallop_s g1.1.1.kind kq2 hb (by omega) (by omega) (F.ub.sub (by omega)) λk2 hk2 gk3 gk4=>?_)
       dsimp only
       refine wpS_ite (λh22=>?_) (λh22=>?_)
       ·refine wpS_iteB (λe=>wpS_pure (.inl ⟨_,_,rfl,(((L).pb F hq1 (gB hp hq1 gk2)).bk F (k:=k2) (by omega) (gA2 F hq2 gk3)).fb F (by omega) e,g1⟩)) λne4=>?_
        refine wpS_bind (wpS_elemB ha (by omega) λq3 hq3 kq3=>?_)
        refine wpS_iteB (λe=>wpS_pure (.inl ⟨_,_,rfl,((((L).pb F hq1 (gB hp hq1 gk2)).bk F (k:=k2) (by omega) (gA2 F hq2 gk3)).pa F hq3 (gB2 hq2 hq3 gk4)).fl F (by omega) e,g1⟩)) λne5=>?_
        refine wpS_ite (λ_=>wpS_pure (.inr ⟨_,_,_,_,_,_,rfl,⟨(((L).pb F hq1 (gB hp hq1 gk2)).bk F (k:=k2) (by omega) (gA2 F hq2 gk3)).pa F hq3 (gB2 hq2 hq3 gk4),by omega,by omega,by omega⟩,g1⟩)) λ_=>wpS_pure ⟨_,_,_,_,_,_,rfl,⟨(((L).pb F hq1 (gB hp hq1 gk2)).bk F (k:=k2) (by omega) (gA2 F hq2 gk3)).pa F hq3 (gB2 hq2 hq3 gk4),by omega,by omega,by omega⟩,g1⟩
       ·obtain rfl:k2=0:=by omega
        refine wpS_bind (wpS_elemB ha (by omega) λq3 hq3 kq3=>?_)
        refine wpS_iteB (λe=>wpS_pure (.inl ⟨_,_,rfl,(((L).pb F hq1 (gB hp hq1 gk2)).pa F hq3 (gB2 (ib:=ib+1) (k:=0) hq2 hq3 gk4)).fl F (by omega) e,g1⟩)) λne5=>?_
        refine wpS_ite (λ_=>wpS_pure (.inr ⟨_,_,_,_,_,_,rfl,⟨((L).pb F hq1 (gB hp hq1 gk2)).pa F hq3 (gB2 (ib:=ib+1) (k:=0) hq2 hq3 gk4),by omega,by omega,by omega⟩,g1⟩)) λ_=>wpS_pure ⟨_,_,_,_,_,_,rfl,⟨((L).pb F hq1 (gB hp hq1 gk2)).pa F hq3 (gB2 (ib:=ib+1) (k:=0) hq2 hq3 gk4),by omega,by omega,by omega⟩,g1⟩
    ·rintro c st3 z;exact .inr z
    ·rintro c st3 (⟨r,y,rfl,p,g⟩ | ⟨out,ia,ib,mg,ac,bc,rfl,m,g⟩)
     ·exact wpS_pure ⟨_,_,rfl,p,g⟩
     ·exact wpS_bind (wpS_setMin g λst4 g4=>wpS_pure ⟨_,_,_,_,rfl,m,g4⟩)
end
end SB
namespace SB
open PySem PyProof.Rows
section
variable {prog:Program}{w:World}{A:Around}{E:Value->Shared->Prop}{s:Shared}{a0:Array Keyed}
theorem mergeHi_s {a b:Array Keyed}{pe:Array (Nat×Nat×Nat)}{xs:Array Keyed}{st:SortSt}{Q:Array Keyed->SortSt->Prop}(hB:GX a0 pe xs st)(ha:IntKeys a)(hb:IntKeys b)(ha1:1<=a.size)(hb1:1<=b.size)
  (F:Fit a b) (h:∀ out st',GX a0 pe xs st'->Mg a b out->Q out st'):wpS (model prog w) A E s (mergeHi' a b) Q st:=by
 show wpS _ _ _ _ (_ >>= _) _ _
 refine wpS_bind (wpS_lift (wpAny_rule ⟨rfl,?_⟩))
 obtain⟨b0,e0,_⟩:=ik_at ha (i:=a.size-1) (by omega)
 refine wpS_bind (wpS_elem e0 ?_)
 have L0:OdH a b (a.size-1) b.size #[b0]:=by
  refine⟨?_,List.pairwise_singleton _ _,λp hp j hj=>?_,λp hp j hj=>?_⟩
  ·unfold LaidH
   rw[drop_at e0,List.drop_of_length_le (by simp;omega),List.drop_of_length_le (by simp)]
   simp
  ·obtain rfl:=List.mem_singleton.mp hp
   rw[<- K_at e0];exact F.ua _ _ (by omega) (by omega) (by omega)
  ·obtain rfl:=List.mem_singleton.mp hp
   rw[<- K_at e0];exact F.la j hj
 dsimp only
 refine wpS_iteB (λh1=>wpS_pure (h _ _ hB (L0.fz F (by omega) h1))) λh1=>?_
 refine wpS_iteB (λh2=>wpS_pure (h _ _ hB (L0.fl F (by omega) (by omega) h2))) λh2=>?_
 refine wpS_bind (wpS_get ?_)
 refine wpS_bind (wpS_mono (wpS_forRange (a:=0) (I:=λx c st'=>∃ out na nb mg,c=(none,na,nb,out,mg)/\MidHO a b (x+1) na nb out/\GX a0 pe xs st') (Q:=MRetO a b (GX a0 pe xs)) ?step ?fin ⟨#[b0],a.size-1,b.size,gallopOf st,rfl,⟨L0,by omega,by omega,by omega,by omega,by omega⟩,hB⟩) ?post)
 case fin =>
  rintro c st' ⟨out,na,nb,mg,rfl,m,g⟩
  have:=m.ha;have:=m.hb;have:=m.pr
  exfalso;omega
 case post =>
  rintro c st' ⟨r,y,rfl,p,g⟩
  exact wpS_pure (h _ _ g p)
 case step =>
  rintro x c st1 _ hx ⟨out,na,nb,mg,rfl,m,g⟩
  dsimp only
  refine wpS_bind (wpS_mono (wpS_forRange (I:=λx2 c st'=>∃ out na nb ac bc,c=(none,na,nb,out,ac,bc)/\MidHO a b (x+1+min x2 1) na nb out/\GX a0 pe xs st')
   (Q:=λc st'=>MRetO a b (GX a0 pe xs) c st'\/∃ out na nb ac bc,c=(none,na,nb,out,ac,bc)/\MidHO a b (x+2) na nb out/\GX a0 pe xs st') ?_ ?_ ⟨_,_,_,_,_,rfl,m,g⟩) ?_)
  ·rintro x2 c st2 _ hx2 ⟨out,na,nb,ac,bc,rfl,m,g⟩
   have m1:=m.ha;have m2:=m.hb;have m3:=m.pr;have m4:=m.ha2;have m5:=m.hb2
   dsimp only
   refine wpS_bind (wpS_elemB hb (by omega) λp1 hp1 kp1=>?_)
   refine wpS_bind (wpS_elemB ha (by omega) λp2 hp2 kp2=>?_)
   refine wpS_bind (wpS_ltP g.1.1.kind kp1 kp2 ?_)
   dsimp only
   refine wpS_ite (λhbw=>?_) (λhbw=>?_)
   ·refine wpS_bind (wpS_elemB ha (by omega) λp3 hp3 kp3=>?_)
    have X:=ltAH F hp1 hp2 hp3 m5 (of_decide_eq_true hbw)
    refine wpS_iteB (λe=>wpS_pure (.inl ⟨_,_,rfl,(m.laid.pa F (by omega) hp3 X).fz F (by omega) e,g⟩)) λne=>?_
    exact wpS_ite (λ_=>wpS_pure (.inr ⟨_,_,_,_,_,rfl,⟨m.laid.pa F (by omega) hp3 X,by omega,by omega,by omega,by omega,by omega⟩,g⟩)) λ_=>wpS_pure ⟨_,_,_,_,_,rfl,⟨m.laid.pa F (by omega) hp3 X,by omega,by omega,by omega,by omega,by omega⟩,g⟩
   ·refine wpS_bind (wpS_elemB hb (by omega) λp3 hp3 kp3=>?_)
    have X:=ltBH F hp1 hp2 hp3 m4 λz=>hbw (decide_eq_true z)
    refine wpS_iteB (λe=>wpS_pure (.inl ⟨_,_,rfl,(m.laid.pb F (by omega) hp3 X).fl F (by omega) (by omega) e,g⟩)) λne=>?_
    exact wpS_ite (λ_=>wpS_pure (.inr ⟨_,_,_,_,_,rfl,⟨m.laid.pb F (by omega) hp3 X,by omega,by omega,by omega,by omega,by omega⟩,g⟩)) λ_=>wpS_pure ⟨_,_,_,_,_,rfl,⟨m.laid.pb F (by omega) hp3 X,by omega,by omega,by omega,by omega,by omega⟩,g⟩
  ·rintro c st2 ⟨out,na,nb,ac,bc,rfl,m,g⟩
   exact .inr ⟨_,_,_,_,_,rfl,⟨m.laid,m.ha,m.ha2,m.hb,m.hb2,by have:=m.pr;omega⟩,g⟩
  ·rintro c st2 (⟨r,y,rfl,p,g⟩ | ⟨out,na,nb,ac,bc,rfl,m,g⟩)
   ·exact wpS_pure ⟨_,_,rfl,p,g⟩
   ·dsimp only
    refine wpS_bind (wpS_lift (wpAny_rule ⟨rfl,?_⟩))
    refine wpS_bind (wpS_mono (wpS_forRange (I:=λ_ c st'=>∃ out na nb mg ac bc,c=(none,na,nb,out,mg,ac,bc)/\MidHO a b (x+2) na nb out/\GX a0 pe xs st')
     (Q:=λc st'=>MRetO a b (GX a0 pe xs) c st'\/∃ out na nb mg ac bc,c=(none,na,nb,out,mg,ac,bc)/\MidHO a b (x+2) na nb out/\GX a0 pe xs st') ?_ ?_ ⟨_,_,_,_,_,_,rfl,m,g⟩) ?_)
    ·rintro x3 c st3 _ hx3 ⟨out,na,nb,mg,ac,bc,rfl,m,g⟩
     have m1:=m.ha;have m2:=m.hb;have m3:=m.pr;have m4:=m.ha2;have m5:=m.hb2
     have L:=m.laid
     dsimp only
     refine wpS_ite (λhm=>?_) (λhm=>?_)
     ·refine wpS_bind (wpS_setMin g λst1 g1=>?_)
      refine wpS_bind (wpS_elemB hb (by omega) λp hp kp=>?_)
      refine wpS_bind (gallop_s g1.1.1.kind kp ha (by omega) (by omega) (F.ua.sub (by omega)) λk hk gk1 gk2=>?_)
      dsimp only
      refine wpS_ite (λhk0=>?_) (λhk0=>?_)
      ·refine wpS_iteB (λe=>wpS_pure (.inl ⟨_,_,rfl,((L).ak F hk (by omega) (hA1 F hp (by omega) gk2)).fz F (by omega) e,g1⟩)) λne1=>?_
       refine wpS_bind (wpS_elemB hb (by omega) λq1 hq1 kq1=>?_)
       refine wpS_iteB (λe=>wpS_pure (.inl ⟨_,_,rfl,(((L).ak F hk (by omega) (hA1 F hp (by omega) gk2)).pb F (by omega) hq1 (λj hj=>hB1 hp hq1 gk1 j (by omega))).fl F (by omega) (by omega) e,g1⟩)) λne3=>?_
       refine wpS_bind (wpS_elemB ha (by omega) λq2 hq2 kq2=>?_)
       refine wpS_bind (gallop_s g1.1.1.kind kq2 hb (by omega) (by omega) (F.ub.sub (by omega)) λk2 hk2 gk3 gk4=>?_)
       dsimp only
       refine wpS_ite (λh22=>?_) (λh22=>?_)
       ·refine wpS_iteB (λe=>wpS_pure (.inl ⟨_,_,rfl,((((L).ak F hk (by omega) (hA1 F hp (by omega) gk2)).pb F (by omega) hq1 (λj hj=>hB1 hp hq1 gk1 j (by omega))).bk F hk2 (by omega) (hA2 F hq2 (by omega) gk4)).fl F (by omega) (by omega) e,g1⟩)) λne4=>?_
        refine wpS_iteB (λe=>wpS_pure (.inl ⟨_,_,rfl,((((L).ak F hk (by omega) (hA1 F hp (by omega) gk2)).pb F (by omega) hq1 (λj hj=>hB1 hp hq1 gk1 j (by omega))).bk F hk2 (by omega) (hA2 F hq2 (by omega) gk4)).fn F (by omega) e,g1⟩)) λne4b=>?_
        refine wpS_bind (wpS_elemB ha (by omega) λq3 hq3 kq3=>?_)
        refine wpS_iteB (λe=>wpS_pure (.inl ⟨_,_,rfl,(((((L).ak F hk (by omega) (hA1 F hp (by omega) gk2)).pb F (by omega) hq1 (λj hj=>hB1 hp hq1 gk1 j (by omega))).bk F hk2 (by omega) (hA2 F hq2 (by omega) gk4)).pa F (by omega) hq3 (λj hj=>hB2 hq2 hq3 gk3 j (by omega))).fz F (by omega) e,g1⟩)) λne5=>?_
        refine wpS_ite (λ_=>wpS_pure (.inr ⟨_,_,_,_,_,_,rfl,⟨((((L).ak F hk (by omega) (hA1 F hp (by omega) gk2)).pb F (by omega) hq1 (λj hj=>hB1 hp hq1 gk1 j (by omega))).bk F hk2 (by omega) (hA2 F hq2 (by omega) gk4)).pa F (by omega) hq3 (λj hj=>hB2 hq2 hq3 gk3 j (by omega)),by omega,by omega,by omega,by omega,by omega⟩,g1⟩)) λ_=>wpS_pure ⟨_,_,_,_,_,_,rfl,⟨((((L).ak F hk (by omega) (hA1 F hp (by omega) gk2)).pb F (by omega) hq1 (λj hj=>hB1 hp hq1 gk1 j (by omega))).bk F hk2 (by omega) (hA2 F hq2 (by omega) gk4)).pa F (by omega) hq3 (λj hj=>hB2 hq2 hq3 gk3 j (by omega)),by omega,by omega,by omega,by omega,by omega⟩,g1⟩
       ·refine wpS_bind (wpS_elemB ha (by omega) λq3 hq3 kq3=>?_)
        refine wpS_iteB (λe=>wpS_pure (.inl ⟨_,_,rfl,((((L).ak F hk (by omega) (hA1 F hp (by omega) gk2)).pb F (by omega) hq1 (λj hj=>hB1 hp hq1 gk1 j (by omega))).pa F (by omega) hq3 (λj hj=>hB2 hq2 hq3 gk3 j (by omega))).fz F (by omega) e,g1⟩)) λne5=>?_
        refine wpS_ite (λ_=>wpS_pure (.inr ⟨_,_,_,_,_,_,rfl,⟨(((L).ak F hk (by omega) (hA1 F hp (by omega) gk2)).pb F (by omega) hq1 (λj hj=>hB1 hp hq1 gk1 j (by omega))).pa F (by omega) hq3 (λj hj=>hB2 hq2 hq3 gk3 j (by omega)),by omega,by omega,by omega,by omega,by omega⟩,g1⟩)) λ_=>wpS_pure ⟨_,_,_,_,_,_,rfl,⟨(((L).ak F hk (by omega) (hA1 F hp (by omega) gk2)).pb F (by omega) hq1 (λj hj=>hB1 hp hq1 gk1 j (by omega))).pa F (by omega) hq3 (λj hj=>hB2 hq2 hq3 gk3 j (by omega)),by omega,by omega,by omega,by omega,by omega⟩,g1⟩
      ·refine wpS_bind (wpS_elemB hb (by omega) λq1 hq1 kq1=>?_)
       refine wpS_iteB (λe=>wpS_pure (.inl ⟨_,_,rfl,((L).pb F (by omega) hq1 (λj hj=>hB1 hp hq1 gk1 j (by omega))).fl F (by omega) (by omega) e,g1⟩)) λne3=>?_
       refine wpS_bind (wpS_elemB ha (by omega) λq2 hq2 kq2=>?_)
       refine wpS_bind (gallop_s g1.1.1.kind kq2 hb (by omega) (by omega) (F.ub.sub (by omega)) λk2 hk2 gk3 gk4=>?_)
       dsimp only
       refine wpS_ite (λh22=>?_) (λh22=>?_)
       ·refine wpS_iteB (λe=>wpS_pure (.inl ⟨_,_,rfl,(((L).pb F (by omega) hq1 (λj hj=>hB1 hp hq1 gk1 j (by omega))).bk F hk2 (by omega) (hA2 F hq2 (by omega) gk4)).fl F (by omega) (by omega) e,g1⟩)) λne4=>?_
        refine wpS_iteB (λe=>wpS_pure (.inl ⟨_,_,rfl,(((L).pb F (by omega) hq1 (λj hj=>hB1 hp hq1 gk1 j (by omega))).bk F hk2 (by omega) (hA2 F hq2 (by omega) gk4)).fn F (by omega) e,g1⟩)) λne4b=>?_
        refine wpS_bind (wpS_elemB ha (by omega) λq3 hq3 kq3=>?_)
        refine wpS_iteB (λe=>wpS_pure (.inl ⟨_,_,rfl,((((L).pb F (by omega) hq1 (λj hj=>hB1 hp hq1 gk1 j (by omega))).bk F hk2 (by omega) (hA2 F hq2 (by omega) gk4)).pa F (by omega) hq3 (λj hj=>hB2 hq2 hq3 gk3 j (by omega))).fz F (by omega) e,g1⟩)) λne5=>?_
        refine wpS_ite (λ_=>wpS_pure (.inr ⟨_,_,_,_,_,_,rfl,⟨(((L).pb F (by omega) hq1 (λj hj=>hB1 hp hq1 gk1 j (by omega))).bk F hk2 (by omega) (hA2 F hq2 (by omega) gk4)).pa F (by omega) hq3 (λj hj=>hB2 hq2 hq3 gk3 j (by omega)),by omega,by omega,by omega,by omega,by omega⟩,g1⟩)) λ_=>wpS_pure ⟨_,_,_,_,_,_,rfl,⟨(((L).pb F (by omega) hq1 (λj hj=>hB1 hp hq1 gk1 j (by omega))).bk F hk2 (by omega) (hA2 F hq2 (by omega) gk4)).pa F (by omega) hq3 (λj hj=>hB2 hq2 hq3 gk3 j (by omega)),by omega,by omega,by omega,by omega,by omega⟩,g1⟩
       ·refine wpS_bind (wpS_elemB ha (by omega) λq3 hq3 kq3=>?_)
        refine wpS_iteB (λe=>wpS_pure (.inl ⟨_,_,rfl,(((L).pb F (by omega) hq1 (λj hj=>hB1 hp hq1 gk1 j (by omega))).pa F (by omega) hq3 (λj hj=>hB2 hq2 hq3 gk3 j (by omega))).fz F (by omega) e,g1⟩)) λne5=>?_
        refine wpS_ite (λ_=>wpS_pure (.inr ⟨_,_,_,_,_,_,rfl,⟨((L).pb F (by omega) hq1 (λj hj=>hB1 hp hq1 gk1 j (by omega))).pa F (by omega) hq3 (λj hj=>hB2 hq2 hq3 gk3 j (by omega)),by omega,by omega,by omega,by omega,by omega⟩,g1⟩)) λ_=>wpS_pure ⟨_,_,_,_,_,_,rfl,⟨((L).pb F (by omega) hq1 (λj hj=>hB1 hp hq1 gk1 j (by omega))).pa F (by omega) hq3 (λj hj=>hB2 hq2 hq3 gk3 j (by omega)),by omega,by omega,by omega,by omega,by omega⟩,g1⟩
     ·refine wpS_bind (wpS_setMin g λst1 g1=>?_)
      refine wpS_bind (wpS_elemB hb (by omega) λp hp kp=>?_)
      refine wpS_bind (gallop_s g1.1.1.kind kp ha (by omega) (by omega) (F.ua.sub (by omega)) λk hk gk1 gk2=>?_)
      dsimp only
      refine wpS_ite (λhk0=>?_) (λhk0=>?_)
      ·refine wpS_iteB (λe=>wpS_pure (.inl ⟨_,_,rfl,((L).ak F hk (by omega) (hA1 F hp (by omega) gk2)).fz F (by omega) e,g1⟩)) λne1=>?_
       refine wpS_bind (wpS_elemB hb (by omega) λq1 hq1 kq1=>?_)
       refine wpS_iteB (λe=>wpS_pure (.inl ⟨_,_,rfl,(((L).ak F hk (by omega) (hA1 F hp (by omega) gk2)).pb F (by omega) hq1 (λj hj=>hB1 hp hq1 gk1 j (by omega))).fl F (by omega) (by omega) e,g1⟩)) λne3=>?_
       refine wpS_bind (wpS_elemB ha (by omega) λq2 hq2 kq2=>?_)
       refine wpS_bind (gallop_s g1.1.1.kind kq2 hb (by omega) (by omega) (F.ub.sub (by omega)) λk2 hk2 gk3 gk4=>?_)
       dsimp only
       refine wpS_ite (λh22=>?_) (λh22=>?_)
       ·refine wpS_iteB (λe=>wpS_pure (.inl ⟨_,_,rfl,((((L).ak F hk (by omega) (hA1 F hp (by omega) gk2)).pb F (by omega) hq1 (λj hj=>hB1 hp hq1 gk1 j (by omega))).bk F hk2 (by omega) (hA2 F hq2 (by omega) gk4)).fl F (by omega) (by omega) e,g1⟩)) λne4=>?_
        refine wpS_iteB (λe=>wpS_pure (.inl ⟨_,_,rfl,((((L).ak F hk (by omega) (hA1 F hp (by omega) gk2)).pb F (by omega) hq1 (λj hj=>hB1 hp hq1 gk1 j (by omega))).bk F hk2 (by omega) (hA2 F hq2 (by omega) gk4)).fn F (by omega) e,g1⟩)) λne4b=>?_
        refine wpS_bind (wpS_elemB ha (by omega) λq3 hq3 kq3=>?_)
        refine wpS_iteB (λe=>wpS_pure (.inl ⟨_,_,rfl,(((((L).ak F hk (by omega) (hA1 F hp (by omega) gk2)).pb F (by omega) hq1 (λj hj=>hB1 hp hq1 gk1 j (by omega))).bk F hk2 (by omega) (hA2 F hq2 (by omega) gk4)).pa F (by omega) hq3 (λj hj=>hB2 hq2 hq3 gk3 j (by omega))).fz F (by omega) e,g1⟩)) λne5=>?_
        refine wpS_ite (λ_=>wpS_pure (.inr ⟨_,_,_,_,_,_,rfl,⟨((((L).ak F hk (by omega) (hA1 F hp (by omega) gk2)).pb F (by omega) hq1 (λj hj=>hB1 hp hq1 gk1 j (by omega))).bk F hk2 (by omega) (hA2 F hq2 (by omega) gk4)).pa F (by omega) hq3 (λj hj=>hB2 hq2 hq3 gk3 j (by omega)),by omega,by omega,by omega,by omega,by omega⟩,g1⟩)) λ_=>wpS_pure ⟨_,_,_,_,_,_,rfl,⟨((((L).ak F hk (by omega) (hA1 F hp (by omega) gk2)).pb F (by omega) hq1 (λj hj=>hB1 hp hq1 gk1 j (by omega))).bk F hk2 (by omega) (hA2 F hq2 (by omega) gk4)).pa F (by omega) hq3 (λj hj=>hB2 hq2 hq3 gk3 j (by omega)),by omega,by omega,by omega,by omega,by omega⟩,g1⟩
       ·refine wpS_bind (wpS_elemB ha (by omega) λq3 hq3 kq3=>?_)
        refine wpS_iteB (λe=>wpS_pure (.inl ⟨_,_,rfl,((((L).ak F hk (by omega) (hA1 F hp (by omega) gk2)).pb F (by omega) hq1 (λj hj=>hB1 hp hq1 gk1 j (by omega))).pa F (by omega) hq3 (λj hj=>hB2 hq2 hq3 gk3 j (by omega))).fz F (by omega) e,g1⟩)) λne5=>?_
        refine wpS_ite (λ_=>wpS_pure (.inr ⟨_,_,_,_,_,_,rfl,⟨(((L).ak F hk (by omega) (hA1 F hp (by omega) gk2)).pb F (by omega) hq1 (λj hj=>hB1 hp hq1 gk1 j (by omega))).pa F (by omega) hq3 (λj hj=>hB2 hq2 hq3 gk3 j (by omega)),by omega,by omega,by omega,by omega,by omega⟩,g1⟩)) λ_=>wpS_pure ⟨_,_,_,_,_,_,rfl,⟨(((L).ak F hk (by omega) (hA1 F hp (by omega) gk2)).pb F (by omega) hq1 (λj hj=>hB1 hp hq1 gk1 j (by omega))).pa F (by omega) hq3 (λj hj=>hB2 hq2 hq3 gk3 j (by omega)),by omega,by omega,by omega,by omega,by omega⟩,g1⟩
      ·refine wpS_bind (wpS_elemB hb (by omega) λq1 hq1 kq1=>?_)
       refine wpS_iteB (λe=>wpS_pure (.inl ⟨_,_,rfl,((L).pb F (by omega) hq1 (λj hj=>hB1 hp hq1 gk1 j (by omega))).fl F (by omega) (by omega) e,g1⟩)) λne3=>?_
       refine wpS_bind (wpS_elemB ha (by omega) λq2 hq2 kq2=>?_)
       refine wpS_bind (gallop_s g1.1.1.kind kq2 hb (by omega) (by omega) (F.ub.sub (by omega)) λk2 hk2 gk3 gk4=>?_)
       dsimp only
       refine wpS_ite (λh22=>?_) (λh22=>?_)
       ·refine wpS_iteB (λe=>wpS_pure (.inl ⟨_,_,rfl,(((L).pb F (by omega) hq1 (λj hj=>hB1 hp hq1 gk1 j (by omega))).bk F hk2 (by omega) (hA2 F hq2 (by omega) gk4)).fl F (by omega) (by omega) e,g1⟩)) λne4=>?_
        refine wpS_iteB (λe=>wpS_pure (.inl ⟨_,_,rfl,(((L).pb F (by omega) hq1 (λj hj=>hB1 hp hq1 gk1 j (by omega))).bk F hk2 (by omega) (hA2 F hq2 (by omega) gk4)).fn F (by omega) e,g1⟩)) λne4b=>?_
        refine wpS_bind (wpS_elemB ha (by omega) λq3 hq3 kq3=>?_)
        refine wpS_iteB (λe=>wpS_pure (.inl ⟨_,_,rfl,((((L).pb F (by omega) hq1 (λj hj=>hB1 hp hq1 gk1 j (by omega))).bk F hk2 (by omega) (hA2 F hq2 (by omega) gk4)).pa F (by omega) hq3 (λj hj=>hB2 hq2 hq3 gk3 j (by omega))).fz F (by omega) e,g1⟩)) λne5=>?_
        refine wpS_ite (λ_=>wpS_pure (.inr ⟨_,_,_,_,_,_,rfl,⟨(((L).pb F (by omega) hq1 (λj hj=>hB1 hp hq1 gk1 j (by omega))).bk F hk2 (by omega) (hA2 F hq2 (by omega) gk4)).pa F (by omega) hq3 (λj hj=>hB2 hq2 hq3 gk3 j (by omega)),by omega,by omega,by omega,by omega,by omega⟩,g1⟩)) λ_=>wpS_pure ⟨_,_,_,_,_,_,rfl,⟨(((L).pb F (by omega) hq1 (λj hj=>hB1 hp hq1 gk1 j (by omega))).bk F hk2 (by omega) (hA2 F hq2 (by omega) gk4)).pa F (by omega) hq3 (λj hj=>hB2 hq2 hq3 gk3 j (by omega)),by omega,by omega,by omega,by omega,by omega⟩,g1⟩
       ·refine wpS_bind (wpS_elemB ha (by omega) λq3 hq3 kq3=>?_)
        refine wpS_iteB (λe=>wpS_pure (.inl ⟨_,_,rfl,(((L).pb F (by omega) hq1 (λj hj=>hB1 hp hq1 gk1 j (by omega))).pa F (by omega) hq3 (λj hj=>hB2 hq2 hq3 gk3 j (by omega))).fz F (by omega) e,g1⟩)) λne5=>?_
        refine wpS_ite (λ_=>wpS_pure (.inr ⟨_,_,_,_,_,_,rfl,⟨((L).pb F (by omega) hq1 (λj hj=>hB1 hp hq1 gk1 j (by omega))).pa F (by omega) hq3 (λj hj=>hB2 hq2 hq3 gk3 j (by omega)),by omega,by omega,by omega,by omega,by omega⟩,g1⟩)) λ_=>wpS_pure ⟨_,_,_,_,_,_,rfl,⟨((L).pb F (by omega) hq1 (λj hj=>hB1 hp hq1 gk1 j (by omega))).pa F (by omega) hq3 (λj hj=>hB2 hq2 hq3 gk3 j (by omega)),by omega,by omega,by omega,by omega,by omega⟩,g1⟩
    ·rintro c st3 z;exact .inr z
    ·rintro c st3 (⟨r,y,rfl,p,g⟩ | ⟨out,na,nb,mg,ac,bc,rfl,m,g⟩)
     ·exact wpS_pure ⟨_,_,rfl,p,g⟩
     ·exact wpS_bind (wpS_setMin g λst4 g4=>wpS_pure ⟨_,_,_,_,rfl,m,g4⟩)
end
end SB
namespace SB
open PySem PyProof.Rows
section
variable {prog:Program}{w:World}{A:Around}{E:Value->Shared->Prop}{s:Shared}{a0:Array Keyed}
theorem K_ext {xs:Array Keyed}{i j m:Nat}(hm:i+m<j)(hj:j<=xs.size):K (xs.extract i j) m=K xs (i+m):=by
 have h:(xs.extract i j)[m]?=xs[i+m]?:=by
  rw[Array.getElem?_extract,if_pos (by omega)]
 exact K_congr h
theorem K_list (xs:Array Keyed)(i:Nat):K xs i=((xs.toList[i]?).map ks).getD 0:=by
 unfold K
 rw[Array.getElem?_toList]
 cases xs[i]?<;>rfl
theorem put_up {xs ys out:Array Keyed}{sa m1 m2 e:Nat}(hl:ys.toList=xs.toList.take m1++out.toList++xs.toList.drop m2)(h12:m1<=m2)(h2:m2<=xs.size)(ho:out.size=m2-m1)(hs:Srt out.toList)
  (u1:Up xs sa m1) (u2:Up xs m2 e) (c1:∀ i,sa<=i->i<m1->∀ p,p∈out.toList->K xs i<=ks p) (c2:∀ j,m2<=j->j<e->∀ p,p∈out.toList->ks p<=K xs j)
  (c3:∀ i j,sa<=i->i<m1->m2<=j->j<e->K xs i<=K xs j):Up ys sa e/\∀ k,k<m1\/m2<=k->K ys k=K xs k:=by
 have lt:(xs.toList.take m1).length=m1:=by rw[List.length_take,Array.length_toList];omega
 have lo:out.toList.length=m2-m1:=by rw[Array.length_toList];exact ho
 have e1:∀ k,k<m1->K ys k=K xs k:=λk hk=>by
  rw[K_list,K_list,hl,List.append_assoc,List.getElem?_append_left (by omega),List.getElem?_take_of_lt hk]
 have e2:∀ k,m2<=k->K ys k=K xs k:=λk hk=>by
  rw[K_list,K_list,hl,List.getElem?_append_right (by rw[List.length_append];omega),List.getElem?_drop,List.length_append,lt,lo,show m2+(k-(m1+(m2-m1)))=k by omega]
 have e3:∀ k,m1<=k->k<m2->∃ h:k-m1<out.toList.length,K ys k=ks (out.toList[k-m1]):=λk h3 h4=>by
  refine⟨by omega,?_⟩
  rw[K_list,hl,List.append_assoc,List.getElem?_append_right (by omega),lt,List.getElem?_append_left (by omega),List.getElem?_eq_getElem (by omega)]
  rfl
 refine⟨λi j h3 h4 h5=>?_,λk hk=>hk.elim (e1 k) (e2 k)⟩
 by_cases i1:i<m1
 ·rw[e1 i i1]
  by_cases j1:j<m1
  ·rw[e1 j j1];exact u1 i j h3 h4 j1
  by_cases j2:j<m2
  ·obtain⟨q,e⟩:=e3 j (by omega) j2
   rw[e];exact c1 i h3 i1 _ (List.getElem_mem _)
  ·rw[e2 j (by omega)];exact c3 i j h3 i1 (by omega) h5
 by_cases i2:i<m2
 ·obtain⟨q,e⟩:=e3 i (by omega) i2
  rw[e]
  by_cases j2:j<m2
  ·obtain⟨q2,e'⟩:=e3 j (by omega) j2
   rw[e']
   by_cases eq:i=j
   ·subst eq;exact Int.le_refl _
   ·exact List.pairwise_iff_getElem.mp hs _ _ q q2 (by omega)
  ·rw[e2 j (by omega)];exact c2 j (by omega) h5 _ (List.getElem_mem _)
 ·rw[e2 i (by omega),e2 j (by omega)];exact u2 i j (by omega) h4 h5
theorem Up.join {xs:Array Keyed}{i m j:Nat}(h1:Up xs i m)(h2:Up xs m j)(c:i<m->m<j->K xs (m-1)<=K xs m):Up xs i j:=λk n q1 q2 q3=>by
 by_cases n1:n<m
 ·exact h1 k n q1 q2 n1
 by_cases k1:k<m
 ·have z1:=h1 k (m-1) q1 (by omega) (by omega)
  have z2:=h2 m n (Nat.le_refl _) (by omega) q3
  have z3:=c (by omega) (by omega)
  omega
 ·exact h2 k n (by omega) q2 q3
def After (xs:Array Keyed)(sa e:Nat)(st':SortSt):Prop:=Up (arrOf st') sa e/\∀ k,k<sa\/e<=k->K (arrOf st') k=K xs k
theorem merged_s {xs:Array Keyed}{sa k sb nb k2:Nat}{out:Array Keyed}{ys:Array Keyed}{q1 q2:Keyed}(hz:sb+nb<=xs.size)(hk:sa+k<sb)(hk2:k2<=nb)(h1:1<=k2)(U1:Up xs sa sb)(U2:Up xs sb (sb+nb))
  (e1:xs[sb]?=some q1) (e2:xs[sb-1]?=some q2) (g1:∀ i,i<k->Ahead false q1 (K xs (sa+i))) (g4:∀ i,k2<=i->i<nb->¬ Ahead true q2 (K xs (sb+i)))
  (M:Mg (xs.extract (sa+k) sb) (xs.extract sb (sb+k2)) out) (hl:ys.toList=xs.toList.take (sa+k)++out.toList++xs.toList.drop (sb+k2)) :
  Up ys sa (sb+nb)/\∀ i,i<sa\/sb+nb<=i->K ys i=K xs i:=by
 have ho:out.size=sb+k2-(sa+k):=by
  rw[<- Array.length_toList,M.1.length_eq,List.length_append,Array.length_toList,Array.length_toList,Array.size_extract,Array.size_extract];omega
 have mem:∀ p,p∈out.toList->(∃ i,sa+k<=i/\i<sb/\K xs i=ks p)\/∃ i,sb<=i/\i<sb+k2/\K xs i=ks p:=λp hp=>by
  rcases List.mem_append.mp (M.1.mem_iff.mp hp) with z | z
  ·obtain⟨i,i1,i2,_,e⟩:=ext_mem z
   exact .inl ⟨i,i1,i2,e⟩
  ·obtain⟨i,i1,i2,_,e⟩:=ext_mem z
   exact .inr ⟨i,i1,i2,e⟩
 have low:∀ i,sa<=i->i<sa+k->K xs i<=K xs sb:=λi h3 h4=>by
  have z:K xs (sa+(i-sa))<=ks q1:=g1 (i-sa) (by omega)
  rwa [show sa+(i-sa)=i by omega,<- K_at e1] at z
 have hig:∀ j,sb+k2<=j->j<sb+nb->K xs (sb-1)<=K xs j:=λj h3 h4=>by
  have z:¬ K xs (sb+(j-sb))<ks q2:=g4 (j-sb) (by omega) (by omega)
  rw[show sb+(j-sb)=j by omega,<- K_at e2] at z
  omega
 have c1:∀ i,sa<=i->i<sa+k->∀ p,p∈out.toList->K xs i<=ks p:=λi h3 h4 p hp=>by
  rcases mem p hp with ⟨m,m1,m2,e⟩ | ⟨m,m1,m2,e⟩
  ·rw[<- e];exact U1 i m h3 (by omega) m2
  ·rw[<- e];exact Int.le_trans (low i h3 h4) (U2 _ _ (by omega) m1 (by omega))
 have c2:∀ j,sb+k2<=j->j<sb+nb->∀ p,p∈out.toList->ks p<=K xs j:=λj h3 h4 p hp=>by
  rcases mem p hp with ⟨m,m1,m2,e⟩ | ⟨m,m1,m2,e⟩
  ·rw[<- e];exact Int.le_trans (U1 m (sb-1) (by omega) (by omega) (by omega)) (hig j h3 h4)
  ·rw[<- e];exact U2 m j m1 (by omega) h4
 have c3:∀ i j,sa<=i->i<sa+k->sb+k2<=j->j<sb+nb->K xs i<=K xs j:=λi j h3 h4 h5 h6=>Int.le_trans (low i h3 h4) (U2 sb j (by omega) (by omega) h6)
 obtain⟨r1,r2⟩:=put_up (xs:=xs) (ys:=ys) (out:=out) (sa:=sa) (m1:=sa+k) (m2:=sb+k2) (e:=sb+nb) hl (by omega) (by omega) ho M.2 (λi j a b c=>U1 i j a b (by omega)) (λi j a b c=>U2 i j (by omega) b c) c1 c2 c3
 exact⟨r1,λi hi=>r2 i (by omega)⟩
theorem fit_s {xs:Array Keyed}{sa k sb nb k2:Nat}{q1 q2:Keyed}(hz:sb+nb<=xs.size)(hk:sa+k<sb)(hk2:k2<=nb)(h1:1<=k2)(U1:Up xs sa sb)(U2:Up xs sb (sb+nb))
  (e1:xs[sb]?=some q1) (e2:xs[sb-1]?=some q2) (g2:∀ i,k<=i->i<sb-sa->¬ Ahead false q1 (K xs (sa+i))) (g3:∀ i,i<k2->Ahead true q2 (K xs (sb+i))) :
  Fit (xs.extract (sa+k) sb) (xs.extract sb (sb+k2)):=by
 have z1:(xs.extract (sa+k) sb).size=sb-(sa+k):=by rw[Array.size_extract];omega
 have z2:(xs.extract sb (sb+k2)).size=k2:=by rw[Array.size_extract];omega
 refine⟨λi j a b c=>?_,λi j a b c=>?_,λj hj=>?_,λj hj=>?_⟩
 ·rw[z1] at c
  rw[K_ext (by omega) (by omega),K_ext (by omega) (by omega)]
  exact U1 _ _ (by omega) (by omega) (by omega)
 ·rw[z2] at c
  rw[K_ext (by omega) (by omega),K_ext (by omega) (by omega)]
  exact U2 _ _ (by omega) (by omega) (by omega)
 ·rw[z1] at hj
  rw[K_ext (by omega) (by omega),K_ext (by omega) (by omega),Nat.add_zero,K_at e1]
  have z:¬ K xs (sa+(k+j))<=ks q1:=g2 (k+j) (by omega) (by omega)
  rw[show sa+k+j=sa+(k+j) by omega]
  omega
 ·rw[z2] at hj
  rw[z1,K_ext (by omega) (by omega),K_ext (by omega) (by omega),show sa+k+(sb-(sa+k)-1)=sb-1 by omega,K_at e2]
  exact Int.le_of_lt (show K xs (sb+j)<ks q2 from g3 j hj)
theorem mergeAt_s {i:Nat}{pe:Array (Nat×Nat×Nat)}{st:SortSt}{Q:Bool->SortSt->Prop}{sa na pw sb nb pw2:Nat}(h0:IntKeys a0)(hB:G a0 pe st)(h1:pe[i]?=some (sa,na,pw))(h2:pe[i+1]?=some (sb,nb,pw2))
  (hs:sb=sa+na) (hn1:1<=na) (hn2:1<=nb) (hz:sb+nb<=a0.size) (U1:Up (arrOf st) sa (sa+na)) (U2:Up (arrOf st) sb (sb+nb))
  (h:∀ st',G a0 ((pe.setIfInBounds i (sa,na+nb,pw)).eraseIdxIfInBounds (i+1)) st'->After (arrOf st) sa (sb+nb) st'->Q true st'):wpS (model prog w) A E s (mergeAt' i) Q st:=by
 show wpS _ _ _ _ (_ >>= _) _ _
 refine wpS_bind (wpS_get ?_)
 have hpe:pendingOf st=pe:=hB.2
 have hsz:=hB.1.size
 have hk:=hB.1.keys h0
 rw[show (sortPriv% PySem.Builtin.SortState.pending) st=pe from hB.2,h1,h2]
 dsimp only
 have hxs:arrOf st=arrOf st:=rfl
 have hsz2:((sortPriv% PySem.Builtin.SortState.a) st).size=a0.size:=hsz
 have hpa:∀ p,(pe.setIfInBounds i (sa,na+nb,pw)).eraseIdxIfInBounds (i+1)=p->G a0 p (setPending st p):=λp _=>⟨⟨hB.1.perm,hB.1.kind,hB.1.failed⟩,rfl⟩
 generalize hp:(pe.setIfInBounds i (sa,na+nb,pw)).eraseIdxIfInBounds (i+1)=p at *
 have g1:=hpa p rfl
 refine wpS_bind (wpS_set ?_)
 refine wpS_bind (wpS_elemB hk (by omega) λq1 hq1 kq1=>?_)
 refine wpS_bind (gallop_s g1.1.kind kq1 hk (by omega) (by omega) U1 λk hkn gk1 gk2=>?_)
 dsimp only
 have hzz:sb+nb<=(arrOf st).size:=by rw[hsz];exact hz
 refine wpS_iteB (λe=>wpS_pure (h _ g1 ⟨?_,λ_ _=>rfl⟩)) λne1=>?_
 ·refine Up.join (m:=sb) (by rw[hs];exact U1) U2 λ_ _=>?_
  have z:K (arrOf st) (sa+(na-1))<=ks q1:=gk1 (na-1) (by omega)
  rwa [show sa+(na-1)=sb-1 by omega,<- K_at hq1] at z
 refine wpS_bind (wpS_elemB hk (by omega) λq2 hq2 kq2=>?_)
 have hq2':(arrOf st)[sb-1]?=some q2:=by rw[<- hq2];congr 1;omega
 refine wpS_bind (gallop_s g1.1.kind kq2 hk (by omega) (by omega) U2 λk2 hk2 gk3 gk4=>?_)
 dsimp only
 have fin:∀ (out:Array Keyed) (st2:SortSt),k2≠0->GX a0 p (arrOf st) st2->Mg ((arrOf st).extract (sa+k) sb) ((arrOf st).extract sb (sb+k2)) out ->
   Q (failedOf (setArr st2 (out.toList.zipIdx.foldl (λa (x:Keyed×Nat)=>a.setIfInBounds (sa+k+x.2) x.1) (arrOf st2)))).isNone (setArr st2 (out.toList.zipIdx.foldl (λa (x:Keyed×Nat)=>a.setIfInBounds (sa+k+x.2) x.1) (arrOf st2))):=by
  intro out st2 ne2 g2 MM
  have p2:=MM.1
  have hf:failedOf st2=none:=g2.1.1.failed
  have hq:Q (failedOf st2).isNone (setArr st2 (out.toList.zipIdx.foldl (λa (x:Keyed×Nat)=>a.setIfInBounds (sa+k+x.2) x.1) (arrOf st2))):=by
   rw[hf]
   refine h _ ⟨⟨?_,g2.1.1.kind,g2.1.1.failed⟩,g2.1.2⟩ ?_
   case refine_2 =>
    refine merged_s (xs:=arrOf st) (sa:=sa) (k:=k) (sb:=sb) (k2:=k2) (out:=out) hzz (by omega) hk2 (by omega) (by rw[hs];exact U1) U2 hq1 hq2' gk1 gk4 MM ?_
    show (out.toList.zipIdx.foldl (λa (x:Keyed×Nat)=>a.setIfInBounds (sa+k+x.2) x.1) (arrOf st2)).toList=_
    rw[g2.2]
    have hlen:out.toList.length=sb+k2-(sa+k):=by
     rw[p2.length_eq,List.length_append,Array.length_toList,Array.length_toList,Array.size_extract,Array.size_extract];omega
    have e:=put_at out.toList 0 (sa+k) (arrOf st) (by omega)
    rw[e,show sa+k+0+out.toList.length=sb+k2 by omega,Nat.add_zero]
   refine Array.Perm.trans ?_ g2.1.1.perm
   show (out.toList.zipIdx.foldl (λa (x:Keyed×Nat)=>a.setIfInBounds (sa+k+x.2) x.1) (arrOf st2)).Perm (arrOf st2)
   rw[g2.2]
   rw[Array.perm_iff_toList_perm]
   have hlen:out.toList.length=sb+k2-(sa+k):=by
    rw[p2.length_eq,List.length_append,Array.length_toList,Array.length_toList,Array.size_extract,Array.size_extract];omega
   have e:=put_at out.toList 0 (sa+k) (arrOf st) (by omega)
   rw[e]
   rw[ext_list,ext_list] at p2
   have e2:sa+k+0+out.toList.length=sb+k2:=by omega
   rw[e2,Nat.add_zero]
   exact three_perm (by omega) (by omega) p2
  exact hq
 refine wpS_iteB (λe=>wpS_pure (h _ g1 ⟨?_,λ_ _=>rfl⟩)) λne2=>?_
 ·refine Up.join (m:=sb) (by rw[hs];exact U1) U2 λ_ _=>?_
  have z:¬ K (arrOf st) (sb+0)<ks q2:=gk4 0 (by omega) (by omega)
  rw[Nat.add_zero,<- K_at hq2'] at z
  exact Int.not_lt.mp z
 have FF:Fit ((arrOf st).extract (sa+k) sb) ((arrOf st).extract sb (sb+k2)):=fit_s (nb:=nb) hzz (by omega) hk2 (by omega) (by rw[hs];exact U1) U2 hq1 hq2' (λi a b=>gk2 i a (by omega)) gk3
 refine wpS_ite (λ_=>?_) λ_=>?_
 ·refine wpS_bind (mergeLo_s (a0:=a0) (xs:=arrOf st) ⟨g1,hxs⟩ (keys_ext hk _ _) (keys_ext hk _ _) (by rw[Array.size_extract];omega) (by rw[Array.size_extract];omega) FF λout st2 g2 p2=>?_)
  refine wpS_bind (wpS_modify (wpS_bind (wpS_get (wpS_pure ?_))))
  exact fin out st2 ne2 g2 p2
 ·refine wpS_bind (mergeHi_s (a0:=a0) (xs:=arrOf st) ⟨g1,hxs⟩ (keys_ext hk _ _) (keys_ext hk _ _) (by rw[Array.size_extract];omega) (by rw[Array.size_extract];omega) FF λout st2 g2 p2=>?_)
  refine wpS_bind (wpS_modify (wpS_bind (wpS_get (wpS_pure ?_))))
  exact fin out st2 ne2 g2 p2
end
end SB
namespace SB
open PySem PyProof.Rows
section
variable {prog:Program}{w:World}{A:Around}{E:Value->Shared->Prop}{s:Shared}{a0:Array Keyed}
def SU (xs:Array Keyed):Nat->List (Nat×Nat×Nat)->Nat->Prop
 | s,[],e=>s=e
 | s,(a,n,_)::r,e=>a=s/\1<=n/\Up xs s (s+n)/\SU xs (s+n) r e
theorem SU.le {xs:Array Keyed}:∀ {s:Nat} {l:List (Nat×Nat×Nat)} {e:Nat},SU xs s l e->s+l.length<=e
 | _,[],_,h=>Nat.le_of_eq h
 | s,(_,n,_)::r,e,h=>by have:=SU.le h.2.2.2;simp only[List.length_cons];have:=h.2.1;omega
theorem SU.keep {xs ys:Array Keyed}:∀ {s:Nat} {l:List (Nat×Nat×Nat)} {e:Nat},SU xs s l e->(∀ k,s<=k->k<e->K ys k=K xs k)->SU ys s l e
 | _,[],_,h,_=>h
 | s,(_,n,_)::r,e,h,hk=>by
  have q:=SU.le h.2.2.2
  exact⟨h.1,h.2.1,h.2.2.1.eqK λk h1 h2=>hk k h1 (by omega),SU.keep h.2.2.2 λk h1 h2=>hk k (by omega) h2⟩
theorem SU.at {xs:Array Keyed}:∀ {s:Nat} {l:List (Nat×Nat×Nat)} {e i:Nat} {x:Nat×Nat×Nat},SU xs s l e->l[i]?=some x->s<=x.1/\1<=x.2.1/\x.1+x.2.1<=e/\Up xs x.1 (x.1+x.2.1)
 | _,[],_,_,_,_,h1=>by simp at h1
 | s,(a,n,p)::r,e,0,x,h,h1=>by
  simp at h1
  subst h1
  have q:=SU.le h.2.2.2
  obtain⟨rfl,h3,h4,h5⟩:=h
  exact⟨Nat.le_refl _,h3,by show a+n<=e;omega,h4⟩
 | s,(a,n,p)::r,e,i+1,x,h,h1=>by
  obtain⟨q1,q2,q3,q4⟩:=SU.at (i:=i) (x:=x) h.2.2.2 (by simpa using h1)
  exact⟨by omega,q2,q3,q4⟩
theorem SU.two {xs ys:Array Keyed}:∀ {s:Nat} {l:List (Nat×Nat×Nat)} {e i:Nat} {x y:Nat×Nat×Nat},SU xs s l e->l[i]?=some x->l[i+1]?=some y ->
  y.1=x.1+x.2.1/\(Up ys x.1 (y.1+y.2.1)->(∀ k,k<x.1\/y.1+y.2.1<=k->K ys k=K xs k)->SU ys s ((l.set i (x.1,x.2.1+y.2.1,x.2.2)).eraseIdx (i+1)) e)
 | _,[],_,_,_,_,_,h1,_=>by simp at h1
 | _,[_],_,0,_,_,_,_,h2=>by simp at h2
 | s,(a,n,p)::(b,m,q)::r,e,0,x,y,h,h1,h2=>by
  simp at h1 h2
  subst h1 h2
  obtain⟨rfl,h3,h6,rfl,h4,h7,h5⟩:=h
  refine⟨rfl,λu hk=>?_⟩
  show SU ys a ((a,n+m,p)::r) e
  have e1:a+(n+m)=a+n+m:=by omega
  refine⟨rfl,by omega,?_,?_⟩
  ·rw[e1];exact u
  ·rw[e1];exact h5.keep λk h1 h2=>hk k (.inr h1)
 | s,(a,n,p)::r,e,i+1,x,y,h,h1,h2=>by
  obtain⟨rfl,h3,h6,h5⟩:=h
  obtain⟨q1,q5⟩:=SU.two (ys:=ys) (i:=i) (x:=x) (y:=y) h5 (by simpa using h1) (by simpa using h2)
  have q:=SU.at (i:=i) (x:=x) h5 (by simpa using h1)
  exact⟨q1,λu hk=>⟨rfl,h3,h6.eqK λk h1 h2=>hk k (.inl (by omega)),q5 u hk⟩⟩
theorem SU.mod {xs:Array Keyed}(pw:Nat):∀ {s:Nat} {l:List (Nat×Nat×Nat)} {e:Nat} (i:Nat),SU xs s l e->SU xs s (l.modify i λ(st,len,_)=>(st,len,pw)) e
 | _,[],_,i,h=>by cases i<;>exact h
 | _,(_,_,_)::_,_,0,h=>h
 | _,(_,_,_)::_,_,i+1,h=>⟨h.1,h.2.1,h.2.2.1,SU.mod pw i h.2.2.2⟩
theorem SU.snoc {xs:Array Keyed}(n p:Nat)(hn:1<=n):∀ {s:Nat} {l:List (Nat×Nat×Nat)} {e:Nat},SU xs s l e->Up xs e (e+n)->SU xs s (l++[(e,n,p)]) (e+n)
 | s,[],e,h,u=>by
  obtain rfl:s=e:=h
  exact⟨rfl,hn,u,rfl⟩
 | _,(_,_,_)::_,_,h,u=>⟨h.1,h.2.1,h.2.2.1,SU.snoc n p hn h.2.2.2 u⟩
def GS (a0:Array Keyed)(e:Nat)(st:SortSt):Prop:=SI a0 st/\SU (arrOf st) 0 (pendingOf st).toList e
theorem merge_s {i e:Nat}{st:SortSt}{Q:Bool->SortSt->Prop}(h0:IntKeys a0)(hB:GS a0 e st)(he:e<=a0.size)(hi:i+1<(pendingOf st).size)
  (h:∀ st',GS a0 e st'->(pendingOf st').size+1=(pendingOf st).size->(∀ k,e<=k->K (arrOf st') k=K (arrOf st) k)->Q true st'):wpS (model prog w) A E s (mergeAt' i) Q st:=by
 obtain⟨⟨sa,na,pw⟩,hx⟩:∃ x,(pendingOf st)[i]?=some x:=⟨_,getElem?_pos _ i (by omega)⟩
 obtain⟨⟨sb,nb,pw2⟩,hy⟩:∃ x,(pendingOf st)[i+1]?=some x:=⟨_,getElem?_pos _ (i+1) hi⟩
 obtain⟨x1,x2,x3,x4⟩:=hB.2.at (i:=i) (x:=(sa,na,pw)) (by simpa using hx)
 obtain⟨y1,y2,y3,y4⟩:=hB.2.at (i:=i+1) (x:=(sb,nb,pw2)) (by simpa using hy)
 have q1:=(hB.2.two (ys:=arrOf st) (i:=i) (x:=(sa,na,pw)) (y:=(sb,nb,pw2)) (by simpa using hx) (by simpa using hy)).1
 refine mergeAt_s h0 ⟨hB.1,rfl⟩ hx hy q1 x2 y2 (Nat.le_trans y3 he) x4 y4 λst' g af=>h st' ⟨g.1,?_⟩ ?_ λk hk=>af.2 k (.inr (Nat.le_trans y3 hk))
 ·rw[g.2,Array.toList_eraseIdxIfInBounds,Array.toList_setIfInBounds]
  exact(hB.2.two (ys:=arrOf st') (i:=i) (x:=(sa,na,pw)) (y:=(sb,nb,pw2)) (by simpa using hx) (by simpa using hy)).2 af.1 af.2
 ·rw[g.2,<- Array.length_toList,Array.toList_eraseIdxIfInBounds,Array.toList_setIfInBounds,List.length_eraseIdx,if_pos (by rw[List.length_set,Array.length_toList];omega),List.length_set,Array.length_toList]
  omega
theorem runs_s {st:SortSt}{Q:Unit->SortSt->Prop}(h0:IntKeys a0)(hB:SI a0 st)(hp:pendingOf st=#[])(h:∀ st',SI a0 st'->Up (arrOf st') 0 a0.size->Q () st'):wpS (model prog w) A E s sortRuns' Q st:=by
 rw[sortRuns'_eq]
 refine wpS_bind (wpS_get ?_)
 dsimp only
 rw[hB.size]
 generalize minRun' a0.size a0.size 0=mr
 refine wpS_bind (wpS_mono (wpS_forRange (I:=λx c st'=>∃ lo,c=(none,lo)/\lo<=a0.size/\x<=lo/\GS a0 lo st') (Q:=λc st'=>∃ lo,c=(none,lo)/\lo=a0.size/\GS a0 lo st') ?step ?fin ⟨0,rfl,by omega,by omega,hB,by rw[hp];rfl⟩) ?post)
 case fin=>rintro c st' ⟨lo,rfl,h1,h2,g⟩;exact⟨lo,rfl,by omega,g⟩
 case step =>
  rintro x c st1 _ hx ⟨lo,rfl,hlo,hxl,g⟩
  dsimp only
  refine wpS_ite (λhge=>wpS_pure ⟨lo,rfl,by omega,g⟩) λhlt=>?_
  refine wpS_bind (count_s h0 (by omega) (by omega) (pe:=pendingOf st1) (ys:=arrOf st1) ⟨⟨g.1,rfl⟩,Low.refl _ _⟩ λm st2 g2 hm1 hm2 hU=>?_)
  have G2:GS a0 lo st2:=⟨g2.1.1,by rw[g2.1.2];exact g.2.keep λk _ hk=>g2.2 k hk⟩
  dsimp only
  refine wpS_ite (λhmr=>?_) λhmr=>?_
  ·refine wpS_bind (wpS_lift (wpAny_rule ⟨rfl,?_⟩))
   refine wpS_bind (bins_s h0 (by omega) (by omega) g2 hU λst' g3 hU3=>?_)
   have G3:GS a0 lo st':=⟨g3.1.1,by rw[g3.1.2];exact g.2.keep λk _ hk=>g3.2 k hk⟩
   rw[if_neg (by decide)]
   obtain⟨nn,hnn⟩:∃ nn,nn=min (a0.size-lo) mr:=⟨_,rfl⟩
   rw[<- hnn]
   have hn1:1<=nn:=by omega
   have hn2:lo+nn<=a0.size:=by omega
   have hV:Up (arrOf st') lo (lo+nn):=by rw[hnn];exact hU3
   refine wpS_bind (wpS_get ?_)
   have fin:∀ st2:SortSt,GS a0 lo st2->Up (arrOf st2) lo (lo+nn)->GS a0 (lo+nn) (setPending st2 ((pendingOf st2).push (lo,nn,0))):=λst2 g2 u2=>by
    refine⟨⟨g2.1.perm,g2.1.kind,g2.1.failed⟩,?_⟩
    show SU (arrOf st2) 0 ((pendingOf st2).push (lo,nn,0)).toList (lo+nn)
    rw[Array.toList_push]
    exact g2.2.snoc nn 0 hn1 u2
   cases hbk:(pendingOf st').back? with
   | none=>exact wpS_bind (wpS_modify (wpS_pure ⟨_,rfl,hn2,by omega,fin _ G3 hV⟩))
   | some t =>
    obtain⟨s1,n1,p1⟩:=t
    dsimp only
    refine wpS_bind (wpS_mono (wpS_forRange (I:=λ_ c st2=>c=(none,())/\GS a0 lo st2/\Up (arrOf st2) lo (lo+nn)) (Q:=λc st2=>c=(none,())/\GS a0 lo st2/\Up (arrOf st2) lo (lo+nn)) ?_ ?_ ⟨rfl,G3,hV⟩) ?_)
    ·rintro y c st2 _ _ ⟨rfl,g2,u2⟩
     refine wpS_bind (wpS_get ?_)
     by_cases hp1:(pendingOf st2).size > 1
     ·rw[if_pos hp1]
      obtain⟨⟨a1,a2,older⟩,hx⟩:∃ x,(pendingOf st2)[(pendingOf st2).size-2]?=some x:=⟨_,getElem?_pos _ _ (by omega)⟩
      rw[hx]
      dsimp only
      refine wpS_ite (λ_=>wpS_pure ⟨rfl,g2,u2⟩) λ_=>?_
      refine wpS_bind (merge_s h0 g2 hlo (by omega) λst3 g3 _ k3=>?_)
      exact wpS_pure ⟨rfl,g3,u2.eqK λk h1 _=>k3 k h1⟩
     ·rw[if_neg hp1]
      exact wpS_pure ⟨rfl,g2,u2⟩
    ·rintro c st2 z;exact z
    ·rintro c st2 ⟨rfl,g2,u2⟩
     refine wpS_bind (wpS_modify (wpS_bind (wpS_modify (wpS_pure ⟨_,rfl,hn2,by omega,fin _ ⟨⟨g2.1.perm,g2.1.kind,g2.1.failed⟩,?_⟩ u2⟩))))
     show SU (arrOf st2) 0 ((pendingOf st2).modify _ _).toList lo
     rw[Array.toList_modify]
     exact g2.2.mod _ _
  ·obtain⟨nn,hnn⟩:∃ nn,nn=m:=⟨_,rfl⟩
   rw[<- hnn]
   have hn1:1<=nn:=by omega
   have hn2:lo+nn<=a0.size:=by omega
   obtain⟨st',hst'⟩:∃ st',st'=st2:=⟨_,rfl⟩
   rw[<- hst'] at G2 ⊢
   have hV:Up (arrOf st') lo (lo+nn):=by rw[hnn,hst'];exact hU
   refine wpS_bind (wpS_get ?_)
   have fin:∀ st2:SortSt,GS a0 lo st2->Up (arrOf st2) lo (lo+nn)->GS a0 (lo+nn) (setPending st2 ((pendingOf st2).push (lo,nn,0))):=λst2 g2 u2=>by
    refine⟨⟨g2.1.perm,g2.1.kind,g2.1.failed⟩,?_⟩
    show SU (arrOf st2) 0 ((pendingOf st2).push (lo,nn,0)).toList (lo+nn)
    rw[Array.toList_push]
    exact g2.2.snoc nn 0 hn1 u2
   cases hbk:(pendingOf st').back? with
   | none=>exact wpS_bind (wpS_modify (wpS_pure ⟨_,rfl,hn2,by omega,fin _ G2 hV⟩))
   | some t =>
    obtain⟨s1,n1,p1⟩:=t
    dsimp only
    refine wpS_bind (wpS_mono (wpS_forRange (I:=λ_ c st2=>c=(none,())/\GS a0 lo st2/\Up (arrOf st2) lo (lo+nn)) (Q:=λc st2=>c=(none,())/\GS a0 lo st2/\Up (arrOf st2) lo (lo+nn)) ?_ ?_ ⟨rfl,G2,hV⟩) ?_)
    ·rintro y c st2 _ _ ⟨rfl,g2,u2⟩
     refine wpS_bind (wpS_get ?_)
     by_cases hp1:(pendingOf st2).size > 1
     ·rw[if_pos hp1]
      obtain⟨⟨a1,a2,older⟩,hx⟩:∃ x,(pendingOf st2)[(pendingOf st2).size-2]?=some x:=⟨_,getElem?_pos _ _ (by omega)⟩
      rw[hx]
      dsimp only
      refine wpS_ite (λ_=>wpS_pure ⟨rfl,g2,u2⟩) λ_=>?_
      refine wpS_bind (merge_s h0 g2 hlo (by omega) λst3 g3 _ k3=>?_)
      exact wpS_pure ⟨rfl,g3,u2.eqK λk h1 _=>k3 k h1⟩
     ·rw[if_neg hp1]
      exact wpS_pure ⟨rfl,g2,u2⟩
    ·rintro c st2 z;exact z
    ·rintro c st2 ⟨rfl,g2,u2⟩
     refine wpS_bind (wpS_modify (wpS_bind (wpS_modify (wpS_pure ⟨_,rfl,hn2,by omega,fin _ ⟨⟨g2.1.perm,g2.1.kind,g2.1.failed⟩,?_⟩ u2⟩))))
     show SU (arrOf st2) 0 ((pendingOf st2).modify _ _).toList lo
     rw[Array.toList_modify]
     exact g2.2.mod _ _
 case post =>
  rintro c st1 ⟨lo,rfl,hlo,g⟩
  have hlo':=hlo
  have hln:(pendingOf st1).size<=a0.size:=by have:=g.2.le;rw[Array.length_toList] at this;omega
  dsimp only
  refine wpS_bind (wpS_mono (wpS_forRange (I:=λx c st2=>c=(none,())/\GS a0 lo st2/\(pendingOf st2).size+x<=a0.size+1) (Q:=λc st2=>c=(none,())/\GS a0 lo st2/\(pendingOf st2).size<=1) ?_ ?_ ⟨rfl,g,by omega⟩) ?_)
  ·rintro y c st2 _ _ ⟨rfl,g2,n2⟩
   refine wpS_bind (wpS_get ?_)
   refine wpS_ite (λh1=>wpS_pure ⟨rfl,g2,h1⟩) λhsz=>?_
   refine wpS_bind (merge_s h0 g2 (by omega) (ite_lt2 (by omega) (by omega)) λst3 g3 e3 _=>?_)
   exact wpS_pure ⟨rfl,g3,by omega⟩
  ·rintro c st2 ⟨rfl,g2,n2⟩;exact⟨rfl,g2,by omega⟩
  ·rintro c st2 ⟨rfl,g2,n2⟩
   refine wpS_pure (h _ g2.1 ?_)
   have q:=g2.2
   rw[<- Array.length_toList] at n2
   rw[<- hlo]
   match hl:(pendingOf st2).toList with
   | [] =>
    rw[hl] at q
    obtain rfl:0=lo:=q
    exact λk m h1 h2 h3=>by omega
   | [(x,n,p)] =>
    rw[hl] at q
    obtain⟨rfl,h3,h4,h5⟩:=q
    obtain rfl:0+n=lo:=h5
    exact h4
   | _::_::_ =>
    rw[hl] at n2
    simp only[List.length_cons] at n2
    omega
theorem sort_s {a:Addr}{vs:List Value}{ns:List Int}{n:Nat}{P:PySem.Fin->Shared->Prop}(ho:s.heap.get? a=some (seqObj "list" vs.toArray n))
  (hI:IntsAre vs ns) (h64:vs.length<=1000)
  (h:∀ (out:Array Value) (ns':List Int),IntsAre out.toList ns'->ns'.Perm ns->ns'.Pairwise (·<=·)->P (.done (.ret .none)) { s with heap:=sortedHeap s.heap a vs out }) :
  wpAny (model prog w) A (Builtin.«list.sort» ⟨[.ref a],[]⟩) P E s:=by
 rw[list_sort_plain]
 have ha:a<s.heap.objs.size:=Heap.lt_size ho
 refine wpAny_bind (listItems_at ho rfl ?_)
 refine wpAny_bind (listUpdate_at ho rfl ?_ (by rw[sizeLine_eq];simp;omega) (by simp))
 obtain⟨e1,ho1⟩:∃ e1,(s.heap.update a (Obj.mapSeq λ_=>#[])).get? a=some (seqObj "list" #[] e1):=⟨_,get?_update_seq ho (λ_=>#[])⟩
 refine wpAny_bind (seqEpoch_at ho1 rfl ?_)
 refine wpAny_bind (wpAny_newTuple ?_ (by rw[sizeLine_eq];simp;omega))
 refine wpAny_bind (wpAny_newList ?_)
 refine wpAny_holding ?_
 have ho6:(((s.heap.update a (Obj.mapSeq λ_=>#[])).push (seqObj "tuple" vs.toArray 0)).push (seqObj "list" #[] 0)).get? a=some (seqObj "list" #[] e1):=by
  rw[Heap.get?_push_ne _ _ _ (by rw[size_push',Heap.size_update];exact Nat.ne_of_lt (Nat.lt_succ_of_lt ha)),Heap.get?_push_ne _ _ _ (by rw[Heap.size_update];exact Nat.ne_of_lt ha)]
  exact ho1
 show wpAny (model prog w) A _ P E { s with heap:=((s.heap.update a (Obj.mapSeq λ_=>#[])).push (seqObj "tuple" vs.toArray 0)).push (seqObj "list" #[] 0) }
 dsimp only
 have hsz:vs.toArray.size=vs.length:=by simp
 have fin:∀ st':SortSt,(arrOf st').Perm (pairsOf vs)->Up (arrOf st') 0 (pairsOf vs).size->P (.done (.ret .none)) { s with heap:=sortedHeap s.heap a vs ((arrOf st').map (·.2)) }:=by
  intro st' hp hu
  obtain⟨ns',h1,h2,h3⟩:=sorted_out hI hp λi j q1 q2=>hu i j (Nat.zero_le _) q1 q2
  exact h _ ns' h1 h2 h3
 by_cases h2:vs.toArray.size<2
 ·rw[if_pos h2,if_pos h2]
  refine wpAny_bind (wpAny_pure ?_)
  rw[StateT.run_pure]
  refine wpAny_bind (wpAny_pure ?_)
  dsimp only
  refine wpAny_bind (seqEpoch_at ho6 rfl ?_)
  refine wpAny_bind (listUpdate_at ho6 rfl ?_ (hsz2:=by rw[Array.size_map];show (pairsOf vs).size<=_;rw[pairsOf_size,sizeLine_eq];omega))
  simp only[bne_self_eq_false,Bool.false_eq_true,if_false]
  exact wpAny_pure (fin (SortSt.mk' general' (vs.toArray.zip vs.toArray) #[] 7 none) (Array.Perm.refl _) λi j _ q1 q2=>by
   rw[pairsOf_size] at q2
   obtain rfl:i=j:=by omega
   exact Int.le_refl _)
 ·rw[if_neg h2,if_neg h2]
  obtain⟨v₁,v₂,rest,rfl⟩:∃ v₁ v₂ rest,vs=v₁::v₂::rest:=by
   match vs,hsz,h2 with
   | [],_,h2=>simp at h2
   | [_],_,h2=>simp at h2
   | v₁::v₂::rest,_,_=>exact⟨v₁,v₂,rest,rfl⟩
  rw[keyKind_ints hI]
  refine wpAny_bind (wpAny_pure ?_)
  refine wpAny_bind (wpAny_mono (runs_s (a0:=pairsOf (v₁::v₂::rest)) (st:=SortSt.mk' oneType' ((v₁::v₂::rest).toArray.zip (v₁::v₂::rest).toArray) #[] 7 none)
   (Q:=λ_ st'=>SI (pairsOf (v₁::v₂::rest)) st'/\Up (arrOf st') 0 (pairsOf (v₁::v₂::rest)).size)
   hI.intKeys ⟨Array.Perm.refl _,rfl,rfl⟩ rfl λst' a1 a2=>⟨a1,a2⟩) ?_ λ_ _ e=>e)
  rintro⟨⟨⟩,st'⟩ s' ⟨rfl,hS,hS2⟩
  have hp:=hS.perm
  have hf:=hS.failed
  dsimp only
  refine wpAny_bind (seqEpoch_at ho6 rfl ?_)
  refine wpAny_bind (listUpdate_at ho6 rfl ?_ (hsz2:=by refine Nat.le_trans (Nat.le_of_eq ((Array.size_map ..).trans (hp.size_eq.trans (pairsOf_size _)))) ?_;rw[sizeLine_eq];omega))
  rw[hf]
  simp only[bne_self_eq_false,Bool.false_eq_true,if_false]
  exact wpAny_pure (fin st' hp hS2)
theorem sorted_s {l:Addr}{vs:List Value}{ns:List Int}{Q:Value->Shared->Prop}(hl:s.heap.IsList l vs.toArray)(hI:IntsAre vs ns)(h64:vs.length<=1000)
  (h:∀ (out:Array Value) (ns':List Int),IntsAre out.toList ns'->ns'.Perm ns->ns'.Pairwise (·<=·)->Q (.ref (s.heap.objs.size+1)) { s with heap:=sortedAll s.heap vs out }) :
  wpAny (model prog w) A (call (.builtin "sorted") [.ref l]) Q E s:=by
 refine Calls.call_function_entry kind_sorted plain_sorted entry_sorted (args_sorted1 _) ?_
 unfold Builtin.«sorted»
 refine wpAny_bind (m:=checkCount "sorted" 1 1 _) (wpAny_pure ?_)
 refine wpAny_bind (collect_list hl ?_ (by rw[sizeLine_eq];omega))
 refine wpAny_bind (wpAny_newList ?_ (by rw[sizeLine_eq];omega))
 have hsz:((s.heap.push (seqObj "list" #[] 0)).update s.heap.objs.size (Obj.mapSeq (·++vs.toArray))).objs.size=s.heap.objs.size+1:=by
  rw[Heap.size_update,size_push']
 have hoL:(((s.heap.push (seqObj "list" #[] 0)).update s.heap.objs.size (Obj.mapSeq (·++vs.toArray))).push (seqObj "list" vs.toArray 0)).get? (s.heap.objs.size+1)=some (seqObj "list" vs.toArray 0):=by
  rw[<- hsz];exact Heap.get?_push_size _ rfl
 show wpAny _ _ _ _ _ { s with heap:=((s.heap.push (seqObj "list" #[] 0)).update s.heap.objs.size (Obj.mapSeq (·++vs.toArray))).push (seqObj "list" vs.toArray 0) }
 rw[hsz]
 refine wpAny_bind (wpAny_holding (wpAny_call_entry slot_list_sort ⟨_,hoL,rfl⟩ entry_list_sort (sort_s hoL hI h64 λout ns' a1 a2 a3=>⟨_,rfl,?_⟩) (args_list_sort _)))
 exact wpAny_pure ⟨_,rfl,h out ns' a1 a2 a3⟩
end
end SB
namespace L2
open PySem PySem.Spec PyProof.Rows
section
variable {X:Cx}
theorem log2_small {y:Int}(h0:0<y)(h:y<2 ^ 200):y.natAbs.log2<9000:=by
 have h1:y.natAbs≠0:=by omega
 have h2:y.natAbs.log2<200:=(Nat.log2_lt h1).mpr (by omega)
 omega
theorem op_fdivL:OpR X (binaryOp .FloorDiv) (rI (λ_ j=>0<j/\j<2 ^ 200) λi j=>.int (i / j)):=opI λi j _ _ _ _ _ hc q=>by
 refine floordiv_int (by omega) ?_ (.inl (PyProof.noPylong_of_log2 (log2_small hc.1 hc.2)))
 rw[Int.fdiv_eq_ediv_of_nonneg i (by omega)]
 exact q
theorem call_sum (hc:X.calm=true):CallR X (.builtin "sum") (λxs H Q=>∃ (p:Addr) (ns:List Int),xs=[.ref p]/\SqL X.K H p (ns.map V.int)/\Q (.int ns.sum) H):=by
 intro pins s σ H xs us Q I r h
 obtain⟨p,ns,rfl,hq,q⟩:=h
 obtain⟨u,rfl,rx⟩:=vals1 r
 cases rx
 obtain⟨its,r',pl,hz⟩:=I.list hq
 have hi:=intsAre_of r'
 obtain⟨xs,e⟩:=hi.allInts.items
 have hns:ns=xs.toList.map (·.1):=by rw[<- hi.numsOf,<- nums_intItems,<- e]
 have hl:=pl.isList
 rw[e] at hl
 refine sum_intListG (I.ok.hd hc) hl λh' tk t' hk=>⟨.int ns.sum,H,I.kept hk,⟨t',?_⟩,q⟩
 rw[preSum_eq,List.take_of_length_le (by simp),hns]
theorem call_max (hc:X.calm=true):CallR X (.builtin "max") (λxs H Q=>∃ (p:Addr) (ns:List Int),xs=[.ref p]/\SqL X.K H p (ns.map V.int)/\ns≠[]/\∀ M,M∈ns->(∀ a,a∈ns->a<=M)->Q (.int M) H):=by
 intro pins s σ H xs us Q I r h
 obtain⟨p,ns,rfl,hq,hne,q⟩:=h
 obtain⟨u,rfl,rx⟩:=vals1 r
 cases rx
 obtain⟨its,r',pl,hz⟩:=I.list hq
 have hi:=intsAre_of r'
 obtain⟨xs,e⟩:=hi.allInts.items
 have hns:ns=xs.toList.map (·.1):=by rw[<- hi.numsOf,<- nums_intItems,<- e]
 have hl:=pl.isList
 rw[e] at hl
 have hsz:0<xs.size:=by
  have h3:=List.length_pos_iff.mpr hne;rw[hns,List.length_map,Array.length_toList] at h3;exact h3
 refine max_intList (I.ok.hd hc) hl hsz λv h' tk hv hk=>?_
 obtain⟨t,rfl⟩:=intItems_at hv
 obtain⟨h1,h2⟩:=argBest_gt (numAt xs) (xs.size-1)
 refine⟨.int _,H,I.kept hk,⟨t,rfl⟩,q _ ?_ λa ha=>?_⟩
 ·rw[hns,numAt_eq];exact getD_mem (by rw[List.length_map,Array.length_toList];omega)
 ·rw[hns] at ha
  obtain⟨j,hj,rfl⟩:=mem_getD ha
  rw[List.length_map,Array.length_toList] at hj
  rw[<- numAt_eq];exact h2 j (by omega)
theorem call_min (hc:X.calm=true):CallR X (.builtin "min") (λxs H Q=>∃ (p:Addr) (ns:List Int),xs=[.ref p]/\SqL X.K H p (ns.map V.int)/\ns≠[]/\∀ M,M∈ns->(∀ a,a∈ns->M<=a)->Q (.int M) H):=by
 intro pins s σ H xs us Q I r h
 obtain⟨p,ns,rfl,hq,hne,q⟩:=h
 obtain⟨u,rfl,rx⟩:=vals1 r
 cases rx
 obtain⟨its,r',pl,hz⟩:=I.list hq
 have hi:=intsAre_of r'
 obtain⟨xs,e⟩:=hi.allInts.items
 have hns:ns=xs.toList.map (·.1):=by rw[<- hi.numsOf,<- nums_intItems,<- e]
 have hl:=pl.isList
 rw[e] at hl
 have hsz:0<xs.size:=by
  have h3:=List.length_pos_iff.mpr hne;rw[hns,List.length_map,Array.length_toList] at h3;exact h3
 refine min_intList (I.ok.hd hc) hl hsz λv h' tk hv hk=>?_
 obtain⟨t,rfl⟩:=intItems_at hv
 obtain⟨h1,h2⟩:=argBest_lt (numAt xs) (xs.size-1)
 refine⟨.int _,H,I.kept hk,⟨t,rfl⟩,q _ ?_ λa ha=>?_⟩
 ·rw[hns,numAt_eq];exact getD_mem (by rw[List.length_map,Array.length_toList];omega)
 ·rw[hns] at ha
  obtain⟨j,hj,rfl⟩:=mem_getD ha
  rw[List.length_map,Array.length_toList] at hj
  rw[<- numAt_eq];exact h2 j (by omega)
theorem call_sorted:CallR X (.builtin "sorted") (λxs H Q=>∃ (p:Addr) (ns:List Int),xs=[.ref p]/\SqL X.K H p (ns.map V.int)/\ns.length<=1000/\∀ (l:Addr) (ns':List Int),H l=none->ns'.Perm ns->ns'.Pairwise (·<=·)->Q (.ref l) (upd H l (.lst (ns'.map V.int)))):=by
 intro pins s σ H xs us Q I r h
 obtain⟨p,ns,rfl,hq,hle,q⟩:=h
 obtain⟨u,rfl,rx⟩:=vals1 r
 cases rx
 obtain⟨its,r',pl,hz⟩:=I.list hq
 have hi:=intsAre_of r'
 have hlen:=r'.length
 rw[List.length_map] at hlen
 refine SB.sorted_s pl.isList hi (by omega) λout ns' a1 a2 a3=>?_
 obtain⟨e,he⟩:=sortedAll_at s.heap its out
 have hn:H (s.heap.objs.size+1)=none:=I.hok.fresh (Nat.le_succ _)
 refine⟨.ref (s.heap.objs.size+1),_,?_,rfl,q _ ns' hn a2 a3⟩
 refine I.laid (t':=s.toks) (λ_ _=>sortedAll_old) (Nat.le_succ _) (show ObjOk X.prog X.w _ _ _ (.lst _) from ⟨?_,out.toList,e,vals_ints a1,he⟩)
 rw[List.length_map,a2.length_eq,sizeLine_eq];omega
def RV:Nat->Hp->V->PyData->Prop
 | _,_,.non,d=>d=.none
 | _,_,.bl b,d=>d=.bool b
 | _,_,.int i,d=>d=.int i
 | _,_,.str x,d=>d=.str x
 | n+1,H,.ref a,d=>(∃ xs ds,Rd H a (.lst xs)/\d=.list ds/\Paired (RV n H) xs ds)\/∃ xs ds,Rd H a (.tup xs)/\d=.tuple ds/\Paired (RV n H) xs ds
 | _,_,_,_=>False
structure Shw (d:PyData):Prop where
 sh:d.showable=true
 nd:d.hasDict=false
 dp:d.depth<=30
 sz:d.shown.length<=sizeLine
end
end L2
namespace L2
open PySem PySem.Spec PyProof.Rows
abbrev cxComp (X:Cx)(pins:List (Addr×Obj))(N':List Str)(scope:Scope)(cl:List (Str×Addr))(C:Addr)(s0:Shared)(H0:Hp)(fp:List Addr):Cx :=
 { X with N:=N',s₀:=s0,H₀:=H0,env:=compEnvC scope cl C X.env,outer:=X.stack,ex:=fp,fn:=λ_=>false,pn:=X.pn++pins,xe:=λ_ _=>False }
theorem find_names {k:NameKind}:∀ {names:List (Str×NameKind)} {x:Str},names.lookup x=some k->(x,k)∈names
 | (n,j)::r,x,h=>by
  rw[List.lookup_cons] at h
  cases e:x == n with
  | true =>
   rw[e] at h
   cases h
   rw[eq_of_beq e]
   exact List.mem_cons_self
  | false =>
   rw[e] at h
   exact List.mem_cons_of_mem _ (find_names h)
structure Clo (scope:Scope)(env:Env)(cl:List (Str×Addr)):Prop where
 eq:closureFor scope env=pure cl
 sub:∀ x c,cl.lookup x=some c->env.cells.lookup x=some c
 has:∀ x,(x,NameKind.free)∈scope.names->∃ c,cl.lookup x=some c
theorem clo_go {env:Env}:∀ (names:List (Str×NameKind)) (acc:List (Str×Addr)),(∀ x,(x,NameKind.free)∈names->∃ c,env.cells.lookup x=some c)->(∀ x c,acc.lookup x=some c->env.cells.lookup x=some c) ->
  ∃ cl,(forIn names acc λ(y:Str×NameKind) cs=>(if y.2 == NameKind.free then do let c <- cellOf env y.1;pure (ForInStep.yield ((y.1,c)::cs)) else pure (ForInStep.yield cs):Sem (ForInStep (List (Str×Addr)))))=pure cl /\
   (∀ x c,cl.lookup x=some c->env.cells.lookup x=some c)/\(∀ x,(x,NameKind.free)∈names->∃ c,cl.lookup x=some c)/\∀ x,(∃ c,acc.lookup x=some c)->∃ c,cl.lookup x=some c
 | [],acc,_,hs=>⟨acc,rfl,hs,λ_ h=>by simp at h,λ_ h=>h⟩
 | (n,k)::r,acc,hh,hs=>by
  by_cases hk:k=NameKind.free
  ·subst hk
   obtain⟨c,hc⟩:=hh n List.mem_cons_self
   obtain⟨cl,e,h1,h2,h3⟩:=clo_go r ((n,c)::acc) (λx hx=>hh x (List.mem_cons_of_mem _ hx)) (λx c' hx=>by
    rw[List.lookup_cons] at hx
    cases en:x == n with
    | true=>rw[en] at hx;cases hx;rw[eq_of_beq en];exact hc
    | false=>rw[en] at hx;exact hs x c' hx)
   refine⟨cl,?_,h1,λx hx=>?_,λx ⟨c',hx⟩=>?_⟩
   ·rw[List.forIn_cons]
    have ec:cellOf env n=pure c:=by unfold cellOf;rw[hc]
    simp only[beq_self_eq_true,if_true,ec,pure_bind]
    exact e
   ·rcases List.mem_cons.mp hx with hx | hx
    ·cases hx
     exact h3 n ⟨c,by rw[List.lookup_cons];simp⟩
    ·exact h2 x hx
   ·refine h3 x ?_
    cases en:x == n with
    | true=>exact⟨c,by rw[List.lookup_cons,en]⟩
    | false=>exact⟨c',by rw[List.lookup_cons,en];exact hx⟩
  ·obtain⟨cl,e,h1,h2,h3⟩:=clo_go r acc (λx hx=>hh x (List.mem_cons_of_mem _ hx)) hs
   refine⟨cl,?_,h1,λx hx=>?_,h3⟩
   ·rw[List.forIn_cons]
    have hb:(k == NameKind.free)=false:=by simpa using hk
    simp only[hb,Bool.false_eq_true,if_false,pure_bind]
    exact e
   ·rcases List.mem_cons.mp hx with hx | hx
    ·cases hx;exact absurd rfl hk
    ·exact h2 x hx
theorem clo_mk {scope:Scope}{env:Env}(h:∀ x,(x,NameKind.free)∈scope.names->∃ c,env.cells.lookup x=some c):∃ cl,Clo scope env cl:=by
 obtain⟨cl,e,h1,h2,_⟩:=clo_go (env:=env) scope.names [] h (λx c hx=>by simp at hx)
 exact⟨cl,by unfold closureFor;exact(by simpa using e),h1,h2⟩
def capOk (N':List Str)(caps:List (Option Nat))(N:List Str)(names names':List (Str×NameKind)):Bool :=
 (N'.length == caps.length)&&(N'.zip caps).all (λp=>match p.2 with
  | none=>true
  | some j=>N[j]? == some p.1&&names'.lookup p.1 == some .free) &&
 names'.all (λp=>p.2 != NameKind.cell&&(p.2 != NameKind.free || names.lookup p.1 == some .cell || names.lookup p.1 == some .free)&&(p.2 != NameKind.local || names'.lookup p.1 == some .local))
def capSt (caps:List (Option Nat))(σ:St):St:=caps.map λo=>match o with
 | none=>none
 | some j=>(σ[j]?).join
theorem relabel_free {env:Env}:∀ {names:List (Str×NameKind)} {x:Str},names.lookup x=some .free ->
  (names.map λ(n,k)=>if (k == NameKind.free&&env.scope.kind == .function&&env.kindOf n == some .cell) then (n,NameKind.cell) else (n,k)).lookup x=some .cell \/
  (names.map λ(n,k)=>if (k == NameKind.free&&env.scope.kind == .function&&env.kindOf n == some .cell) then (n,NameKind.cell) else (n,k)).lookup x=some .free
 | (n,k)::r,x,h=>by
  have ih:=@relabel_free env r x
  show List.lookup x ((if (k == NameKind.free&&env.scope.kind == .function&&env.kindOf n == some .cell)=true then (n,NameKind.cell) else (n,k))::_)=_ \/
   List.lookup x ((if (k == NameKind.free&&env.scope.kind == .function&&env.kindOf n == some .cell)=true then (n,NameKind.cell) else (n,k))::_)=_
  cases hx:x == n with
  | true =>
   simp only[List.lookup_cons,hx] at h
   cases h
   by_cases hc:(NameKind.free == NameKind.free&&env.scope.kind == .function&&env.kindOf n == some .cell)=true
   ·rw[if_pos hc];simp[List.lookup_cons,hx]
   ·rw[if_neg hc];simp[List.lookup_cons,hx]
  | false =>
   simp only[List.lookup_cons,hx] at h
   by_cases hc:(k == NameKind.free&&env.scope.kind == .function&&env.kindOf n == some .cell)=true
   ·rw[if_pos hc];simp only[List.lookup_cons,hx];exact ih h
   ·rw[if_neg hc];simp only[List.lookup_cons,hx];exact ih h
theorem relabel_back {env : Env} : ∀ {names : List (Str × NameKind)} {x : Str}, (∀ p ∈ names, p.2 ≠ .cell) →
    ((names.map fun (n, k) => if (k == NameKind.free && env.scope.kind == .function && env.kindOf n == some .cell) then (n, NameKind.cell) else (n, k)).lookup x = some .cell ∨
     (names.map fun (n, k) => if (k == NameKind.free && env.scope.kind == .function && env.kindOf n == some .cell) then (n, NameKind.cell) else (n, k)).lookup x = some .free) → (x, NameKind.free) ∈ names
  | [], x, _, h => by simp at h
  | (n, k) :: r, x, hc0, h => by
    have ih := @relabel_back env r x (fun p hp => hc0 p (List.mem_cons_of_mem _ hp))
    have hk0 : k ≠ .cell := hc0 (n, k) List.mem_cons_self
    rw [List.map_cons] at h
    generalize (r.map fun (x : Str × NameKind) => match x with | (n, k) => if (k == NameKind.free && env.scope.kind == ScopeKind.function && env.kindOf n == some NameKind.cell) = true then (n, NameKind.cell) else (n, k)) = R at h ih
    dsimp only at h
    by_cases hc : (k == NameKind.free && env.scope.kind == .function && env.kindOf n == some .cell) = true
    · rw [if_pos hc] at h
      cases hx : x == n with
      | true =>
        have hkf : k = .free := by
          rw [Bool.and_eq_true, Bool.and_eq_true] at hc
          exact eq_of_beq hc.1.1
        rw [eq_of_beq hx, hkf]; exact List.mem_cons_self
      | false =>
        rw [List.lookup_cons, hx] at h
        exact List.mem_cons_of_mem _ (ih h)
    · rw [if_neg hc] at h
      cases hx : x == n with
      | true =>
        rw [List.lookup_cons, hx] at h
        rcases h with h | h
        · exact absurd (Option.some.inj h) hk0
        · rw [eq_of_beq hx, Option.some.inj h]; exact List.mem_cons_self
      | false =>
        rw [List.lookup_cons, hx] at h
        exact List.mem_cons_of_mem _ (ih h)
section
variable {X:Cx}{pins:List (Addr×Obj)}{σ:St}{H:Hp}{s:Shared}
theorem comp_start {N':List Str}{caps:List (Option Nat)}{scope:Scope}{cl:List (Str×Addr)}{fp:List Addr}{h1:Heap}{tk:Nat}(I:Inv X pins σ H s)(hfp:∀ b∈fp,FpOk X pins H b)(hfo:∀ b∈fp,∃ o,s.heap.get? b=some o)
  (hcap:capOk N' caps X.N X.env.scope.names scope.names=true) (hkind:scope.kind=.function) (hC:Clo scope X.env cl)
  (hns:h1.Ns (s.heap.objs.size+1) λ_=>none) (hsb:Heap.SameBut (s.heap.objs.size+1) ((s.heap.push { cls:=.type "list",data:=.seq #[] }).push { cls:=.type "dict",data:=.dict #[] }) h1) :
  Inv (cxComp X pins N' scope cl (s.heap.objs.size+1) { s with heap:=s.heap.push { cls:=.type "list",data:=.seq #[] } } (upd H s.heap.objs.size (.lst [])) fp) [] (capSt caps σ) (upd H s.heap.objs.size (.lst [])) { s with heap:=h1,toks:=tk }:=by
 have hn:H s.heap.objs.size=none:=I.hok.fresh (Nat.le_refl _)
 have hz:(s.heap.push { cls:=.type "list",data:=.seq #[] }).objs.size=s.heap.objs.size+1:=Heap.size_push ..
 have up1:∀ b o,s.heap.get? b=some o->(s.heap.push { cls:=.type "list",data:=.seq #[] }).get? b=some o:=λb o e=>Heap.get?_push_of_some _ e
 have up2:∀ b o,(s.heap.push { cls:=.type "list",data:=.seq #[] }).get? b=some o->h1.get? b=some o:=λb o e=>by
  have hb:b<s.heap.objs.size+1:=by rw[<- hz];exact Heap.lt_size e
  exact hsb.extBut b o (Nat.ne_of_lt hb) (Heap.get?_push_of_some _ e)
 have I1:Inv X pins σ (upd H s.heap.objs.size (.lst [])) { s with heap:=s.heap.push { cls:=.type "list",data:=.seq #[] },toks:=s.toks } :=
  I.laid (t':=s.toks) up1 (Nat.le_refl _) (show ObjOk X.prog X.w _ _ _ (.lst []) from ⟨Nat.zero_le _,[],0,.nil,Heap.get?_push_size _ rfl⟩)
 obtain⟨hcap1,hcap3⟩:=Bool.and_eq_true_iff.mp hcap
 obtain⟨hcap1,hcap2⟩:=Bool.and_eq_true_iff.mp hcap1
 have hlen:N'.length=caps.length:=by simpa using hcap1
 have hcap3':=List.all_eq_true.mp hcap3
 have nocell:∀ p∈scope.names,p.2≠NameKind.cell:=λp hp=>by
  have:=hcap3' p hp
  simp only[Bool.and_eq_true,bne_iff_ne] at this
  exact this.1.1
 have hsub:=I.stkSub
 have ltS:∀ b o,s.heap.get? b=some o->b<s.heap.objs.size:=λb o e=>Heap.lt_size e
 refine⟨⟨I.ok.mod,hkind,I.ok.glob,I.ok.blt,Nat.le_of_eq hz,λx y c e1 e2=>I.ok.inj x y c (hC.sub x c e1) (hC.sub y c e2),λx hx=>?_,λx c hf=>absurd (show false=true from hf) Bool.false_ne_true,I.ok.hd,I.ok.frames,.inl rfl,λb hb=>?_,λb o e=>?_,?_,λb o e hb=>?_,λb hb hf=>?_,?_,λb hb=>?_⟩,
  rfl,I.bare,Un.kept up2,⟨_,hns,λi x v e1 e2 e3=>?_⟩,λx c e=>?_,?_,λx c e=>?_,λp hp=>?_,I1.hok.kept up2,?_⟩
 ·exact hC.has x (relabel_back nocell hx)
 ·obtain⟨o,ho⟩:=hfo b hb
  obtain⟨f0,f1,f2,f3,f4,f5⟩:=hfp b hb
  exact⟨Nat.ne_of_lt (Nat.lt_succ_of_lt (ltS b o ho)),λx c e=>f4 x c (hC.sub x c e)⟩
 ·have q:=I1.bs b o e
  exact q
 ·show X.base.objs.size<=(s.heap.push _).objs.size
  rw[hz]
  exact Nat.le_trans (Nat.le_trans I.ok.bsz I.sz) (Nat.le_succ _)
 ·obtain⟨f0,f1,f2,f3,f4,f5⟩:=hfp b hb
  rcases f3 with f3 | f3
  ·exact I.ok.noex b o e f3
  ·exact absurd (Nat.lt_of_lt_of_le (Heap.lt_size e) (Nat.le_trans I.ok.bsz f3)) (Nat.lt_irrefl _)
 ·obtain⟨f0,f1,f2,f3,f4,f5⟩:=hfp b hb
  rcases List.mem_cons.mp (hsub b hf) with z | z
  ·exact f1 z
  ·exact f2 z
 ·exact I1.stack
 ·exact I1.stkFree b hb
 ·
  have e2':∃ o,caps[i]?=some o/\(match o with | none=>none | some j=>(σ[j]?).join)=some v:=by
   unfold capSt at e2
   rw[List.getElem?_map] at e2
   cases q:caps[i]? with
   | none=>rw[q] at e2;cases e2
   | some o=>rw[q] at e2;exact⟨o,rfl,Option.some.inj e2⟩
  obtain⟨o,ho,hv⟩:=e2'
  cases o with
  | none=>cases hv
  | some j =>
   have hv':(σ[j]?).join=some v:=hv
   have hσ:σ[j]?=some (some v):=by
    cases q:σ[j]? with
    | none=>rw[q] at hv';cases hv'
    | some w=>rw[q] at hv';rw[show w=some v from hv']
   have hzip:(x,some j)∈N'.zip caps:=by
    refine List.mem_iff_getElem?.mpr ⟨i,?_⟩
    rw[List.getElem?_zip_eq_some]
    exact⟨e1,ho⟩
   have q:=List.all_eq_true.mp hcap2 _ hzip
   simp only[Bool.and_eq_true,beq_iff_eq] at q
   obtain⟨q1,q2⟩:=q
   have q3:=hcap3' _ (find_names q2)
   have q4:X.env.scope.names.lookup x=some .cell\/X.env.scope.names.lookup x=some .free:=by
    simp only[bne_self_eq_false,Bool.false_or,Bool.and_eq_true,Bool.or_eq_true,beq_iff_eq] at q3
    exact q3.1.2
   obtain⟨m,_,hl⟩:=I.loc
   obtain⟨u,ru,lk⟩:=hl j x v q1 hσ (.inr q4)
   refine⟨u,ru,.inr ⟨relabel_free q2,?_⟩⟩
   have q5:X.env.kindOf x=some .cell\/X.env.kindOf x=some .free:=q4
   rcases lk with ⟨k,_⟩ | ⟨_,c,ec,hc⟩
   ·rcases q5 with q5 | q5<;>(rw[q5] at k;cases k)
   ·obtain⟨c',ec'⟩:=hC.has x (find_names q2)
    have:=hC.sub x c' ec'
    rw[ec] at this
    cases this
    obtain⟨oc,hoc,hdc⟩:=hc
    exact⟨c,ec',oc,up2 _ _ (up1 _ _ hoc),hdc⟩
 ·obtain⟨v,oc,hoc,hdc⟩:=I.cell x c (hC.sub x c e)
  exact⟨v,oc,up2 _ _ (up1 _ _ hoc),hdc⟩
 ·show upd H _ _ (s.heap.objs.size+1)=none
  rw[upd_ne (Nat.ne_of_gt (Nat.lt_succ_self _))]
  exact I.hok.fresh (Nat.le_succ _)
 ·exact I1.freeC x c (hC.sub x c e)
 ·have hp':p∈X.pn++pins:=by simpa using hp
  obtain⟨a1,a2,a3,a4,a5⟩:=I1.pin p hp'
  obtain⟨b1,_,_,_,_⟩:=I.pin p hp'
  refine⟨up2 _ _ a1,a2,Nat.ne_of_lt (Nat.lt_succ_of_lt (ltS _ _ b1)),λhf=>?_,a5⟩
  rcases List.mem_cons.mp (hsub p.1 hf) with z | z
  ·exact a3 z
  ·exact a4 z
 ·show (capSt caps σ).length=N'.length
  unfold capSt
  rw[List.length_map,hlen]
theorem comp_back {N':List Str}{scope:Scope}{cl:List (Str×Addr)}{fp:List Addr}{C:Addr}{pins':List (Addr×Obj)}{σ':St}{H':Hp}{s':Shared}(I:Inv X pins σ H s)(hfp:∀ b∈fp,FpOk X pins H b)
  (J:Inv (cxComp X pins N' scope cl C { s with heap:=s.heap.push { cls:=.type "list",data:=.seq #[] } } (upd H s.heap.objs.size (.lst [])) fp) pins' σ' H' s'):Inv X pins σ H' s':=by
 have hn:H s.heap.objs.size=none:=I.hok.fresh (Nat.le_refl _)
 refine I.call' (ch:=fp) J.os ?_ J.hok J.bare λb hb=>?_
 ·exact(Un.laid (λb o e=>Heap.get?_push_of_some _ e) (Nat.le_refl _) hn).trans J.base
 ·obtain⟨f0,f1,f2,f3,f4,f5⟩:=hfp b hb
  exact⟨f3,f1,f4,f5⟩
end
end L2
namespace L2
open PySem PySem.Spec PyProof.Rows
def PIfs (X:Cx)(ifs:List Expr)(t:TT):Prop :=
 ∀ (pins:List (Addr×Obj)) (s:Shared) (σ:St) (H:Hp) (Q:Bool->Hp->Prop),Inv X pins σ H s->t σ H Q ->
  wpAny (model X.prog X.w) X.A (forIn ifs true λc r=>if r=true then do let ok <- isTrue c X.env (eval c X.env);pure (ForInStep.yield ok) else pure (ForInStep.yield r)) (TP X pins σ Q) X.xe s
def tYes:TT:=λ_ H Q=>Q true H
theorem pifs_nil {X:Cx}:PIfs X [] tYes:=λ_ _ _ H _ I h=>wpAny_tests_nil ⟨H,I,h⟩
def compRead (J:It)(D:Addr)(g:TG)(tt:TT)(te:TE)(σ0:St)(H0:Hp)(Q:Hp->Prop):Prop :=
 ∃ W:Nat->Nat->St->Hp->Prop,(∃ m,W 0 m σ0 H0)/\∀ i m σ' H',W i m σ' H' ->
  (J.stop i H'/\Q H')\/(J.go i H'/\∃ N:St->Hp->Prop,(∀ σ' H',N σ' H'->∃ m',m'<m/\W (i+1) m' σ' H')/\∀ x H2,J.yld i H' x H2->g x σ' H2 λσ2 H3=>tt σ2 H3 λb H4 =>
   if b=true then te σ2 H4 λv H5=>∃ ys,H5 D=some (.lst ys)/\ys.length<sizeLine/\N σ2 (upd H5 D (.lst (ys++[v]))) else N σ2 H4)
def tComp (caps:List (Option Nat))(wi:TI)(g:TG)(tt:TT)(te:TE):TE:=λσ H Q=>wi σ H λJ H1=>∀ D,H1 D=none->compRead J D g tt te (capSt caps σ) (upd H1 D (.lst [])) λH2=>Q (.ref D) H2
section
variable {X:Cx}{tg elt iter:Expr}{ifs:List Expr}{scope:Scope}{pos:Pos}
theorem comp_loop {X':Cx}{fp:List Addr}{it D:Addr}{tn:Nat->Heap->Prop}{J:It}{g:TG}{tt:TT}{te:TE}{σ0:St}{H0:Hp}{s:Shared}{R:Result->Shared->Prop}{Qe:Hp->Prop}(hc:X'.calm=true)(hxe:X'.xe=λ_ _=>False)
  (T:Turn X'.prog X'.w X'.K tg J fp it tn) (hg:PG X' tg g) (ht:PIfs X' ifs tt) (he:PE X' elt te) (I:Inv X' [] σ0 H0 s) (hf:∀ b∈fp,FpOk X' [] H0 b) (st:tn 0 s.heap) (q:compRead J D g tt te σ0 H0 Qe)
  (hR:∀ s' σ' H',Inv X' [] σ' H' s'->Qe H'->R (.ok .next) s') :
  codeAny (model X'.prog X'.w) X'.A (.compLoop (.ListComp elt [⟨tg,iter,ifs,0⟩] scope pos) 0 (.ref it) (.ref D) X'.env) R s:=by
 obtain⟨W,⟨m0,w0⟩,turn⟩:=q
 have stat:∀ {H':Hp},(∀ b∈fp,H' b=none)->∀ b∈fp,FpOk X' [] H' b:=λhn b hb=>⟨hn b hb,(hf b hb).2⟩
 refine codeAny_loop rfl (λn s'=>∃ i σ' H',Inv X' [] σ' H' s'/\tn i s'.heap/\(∀ b∈fp,H' b=none)/\W i n σ' H') ?_ m0 ⟨0,σ0,H0,I,st,λb hb=>(hf b hb).1,w0⟩
 rintro n s3 ⟨i,σ3,H3,I3,st3,fr3,w3⟩
 show wpAny _ X'.A ((compTurn (.ListComp elt [⟨tg,iter,ifs,0⟩] scope pos) 0 (.ref it) (.ref D) X'.env).onRaise (λx=>do noteFrame x X'.env;theTreesLotGoes x)) _ _ s3
 refine wpAny_noted ?_
 rw[compTurn_list]
 have no:∀ {α:Type} {t:Sem α} {Q:α->Shared->Prop} {s':Shared} {E':Value->Shared->Prop},wpAny (model X'.prog X'.w) X'.A t Q X'.xe s'->wpAny (model X'.prog X'.w) X'.A t Q E' s':=λh=>wpAny_mono h (λ_ _ x=>x) λ_ _ x=>by rw[hxe] at x;exact x.elim
 refine wpAny_bind (wpAny_standAt ?_)
 rcases turn i n σ3 H3 w3 with ⟨stop,qn⟩ | ⟨go,N,hN,step⟩
 ·refine wpAny_bind (thn (T.done X' rfl rfl rfl hc i [] s3 σ3 H3 _ I3 (stat fr3) st3 stop) λr s4 ⟨hr,I4⟩=>?_)
  subst hr
  exact wpAny_pure (hR _ _ _ I4 qn)
 ·refine wpAny_bind (thn (T.item X' rfl rfl rfl hc i [] s3 σ3 H3 _ I3 (stat fr3) st3 go) λr s4 ⟨u,hr,h4⟩=>?_)
  subst hr
  refine wpAny_bind (thn h4 λ_ s5 ⟨x,H5,I5,r5,y5,st5,fr5⟩=>?_)
  have I5':=I5.pinned (stat fr5) (T.obj _ _ st5)
  have again:∀ {σ7:St} {H7:Hp} {s7:Shared},Inv X' ([]++pinsAt fp s5.heap) σ7 H7 s7->N σ7 H7->∃ m,m<n/\∃ i σ' H',Inv X' [] σ' H' s7/\tn i s7.heap/\(∀ b∈fp,H' b=none)/\W i m σ' H':=λ{σ7 H7 s7} I7 n7=>by
   obtain⟨m',hm,w7⟩:=hN σ7 H7 n7
   refine⟨m',hm,i+1,σ7,H7,I7.unpinned,T.keep _ _ _ st5 λb hb o e=>(I7.pin (b,o) (List.mem_append_right _ (List.mem_append_right _ (mem_pinsAt hb e)))).1,λb hb=>?_,w7⟩
   obtain⟨o,e,d⟩:=T.obj _ _ st5 b hb
   exact(I7.pin (b,o) (List.mem_append_right _ (List.mem_append_right _ (mem_pinsAt hb e)))).2.1
  refine wpAny_bind (thn (no (hg _ s5 σ3 H5 x u _ I5' r5 (step x H5 y5))) λ_ s6 ⟨σ6,H6,I6,q6⟩=>?_)
  refine wpAny_bind (thn (no (ht _ s6 σ6 H6 _ I6 q6)) λb s7 ⟨H7,I7,q7⟩=>?_)
  cases b with
  | false=>exact wpAny_pure ⟨rfl,again I7 q7⟩
  | true =>
   refine wpAny_bind (wpAny_bind (thn (no (he _ s7 σ6 H7 _ I7 q7)) λv s8 ⟨y,H8,I8,r8,q8⟩=>?_))
   obtain⟨ys,hD,hsz,q8⟩:=q8
   refine wpAny_bind (thn (no (mt_append (X:=X') _ s8 σ6 H8 (.ref D) [y] (Value.ref D) [v] (λ_ H9=>N σ6 H9) I8 rfl (.cons r8 .nil) ⟨D,ys,y,rfl,rfl,hD,hsz,q8⟩)) λ_ s9 ⟨z,H9,I9,_,q9⟩=>?_)
   exact wpAny_pure (wpAny_pure ⟨rfl,again I9 q9⟩)
theorem vis_free {N':List Str}{caps:List (Option Nat)}{N:List Str}{names names':List (Str×NameKind)}(h:capOk N' caps N names names'=true):(∀ p∈names',p.2≠NameKind.cell)/\(∀ x,(x,NameKind.free)∈names'->names.lookup x=some .cell\/names.lookup x=some .free)/\∀ p∈names',p.2=.local->names'.lookup p.1=some .local:=by
 have h3:=List.all_eq_true.mp (Bool.and_eq_true_iff.mp h).2
 refine⟨λp hp=>?_,λx hx=>?_,λp hp hl=>?_⟩
 ·have:=h3 p hp
  simp only[Bool.and_eq_true,bne_iff_ne] at this
  exact this.1.1
 ·have:=h3 _ hx
  simp only[bne_self_eq_false,Bool.false_or,Bool.and_eq_true,Bool.or_eq_true,beq_iff_eq] at this
  exact this.1.2
 ·have:=h3 p hp
  rw[hl] at this
  simp only[bne_self_eq_false,Bool.false_or,Bool.and_eq_true,beq_iff_eq] at this
  exact this.2
theorem comp_block {N':List Str}{caps:List (Option Nat)}{pins:List (Addr×Obj)}{σ:St}{H:Hp}{s:Shared}{J:It}{fp:List Addr}{it:Addr}{tn:Nat->Heap->Prop}{g:TG}{tt:TT}{te:TE}{cl:List (Str×Addr)}{RR:Value->Addr->Result->Shared->Prop}{Qe:Addr->Hp->Prop}
  (hc:X.calm=true) (hcap:capOk N' caps X.N X.env.scope.names scope.names=true) (hkind:scope.kind=.function) (hC:Clo scope X.env cl)
  (hg:∀ C s0 H0 fp,PG (cxComp X pins N' scope cl C s0 H0 fp) tg g) (ht:∀ C s0 H0 fp,PIfs (cxComp X pins N' scope cl C s0 H0 fp) ifs tt) (he:∀ C s0 H0 fp,PE (cxComp X pins N' scope cl C s0 H0 fp) elt te)
  (I:Inv X pins σ H s) (T:Turn X.prog X.w X.K tg J fp it tn) (st:tn 0 s.heap) (hf:∀ b∈fp,FpOk X pins H b) (q:∀ D,H D=none->compRead J D g tt te (capSt caps σ) (upd H D (.lst [])) (Qe D))
  (hR:∀ (D C:Addr) (s':Shared) (H':Hp),Inv X pins σ H' s'->Qe D H'->D≠C->(∃ o m,s'.heap.get? C=some o/\(∀ v,o.data≠.cell v)/\(∀ h2:Heap,h2.get? C=some o->h2.Ns C m))->H' C=none->s.heap.objs.size<=C->RR (.ref D) C (.ok .next) s') :
  wpAny (model X.prog X.w) X.A (newList []) (λacc s₃=>wpAny (model X.prog X.w) X.A (newFunctionEnv scope X.env.globals cl [] X.env.qual none .none (some X.env)) (λcenv s₄ =>
   codeAny (model X.prog X.w) X.A (.compStart (.ListComp elt [⟨tg,iter,ifs,0⟩] scope pos) 0 (.ref it) acc { cenv with scope:=relabel scope X.env }) (RR acc cenv.locals) s₄) X.xe s₃) X.xe s:=by
 refine wpAny_newObj_type (wpAny_newFunctionEnv (vis_free hcap).1 (by intro y hy;simp at hy) (λh₁ hns₁ hsb₁=>?_) hkind)
 have hz:(s.heap.push { cls:=.type "list",data:=.seq #[] }).objs.size=s.heap.objs.size+1:=Heap.size_push ..
 have hns:h₁.Ns (s.heap.objs.size+1) λ_=>none:=by rw[<- hz];exact hns₁
 have hsb:Heap.SameBut (s.heap.objs.size+1) ((s.heap.push { cls:=.type "list",data:=.seq #[] }).push { cls:=.type "dict",data:=.dict #[] }) h₁:=by rw[<- hz];exact hsb₁
 have hfo:∀ b∈fp,∃ o,s.heap.get? b=some o:=λb hb=>let ⟨o,e,_⟩:=T.obj 0 _ st b hb;⟨o,e⟩
 have I1:=comp_start (tk:=s.toks+([]:List (Str×Value)).length) I hf hfo hcap hkind hC hns hsb
 have hn:H s.heap.objs.size=none:=I.hok.fresh (Nat.le_refl _)
 have up:∀ b o,s.heap.get? b=some o->h₁.get? b=some o:=λb o e =>
  hsb.extBut b o (Nat.ne_of_lt (Nat.lt_succ_of_lt (Heap.lt_size e))) (Heap.get?_push_of_some _ (Heap.get?_push_of_some _ e))
 have st1:tn 0 h₁:=T.keep _ _ _ st λb _ o e=>up b o e
 have f1:∀ b∈fp,FpOk (cxComp X pins N' scope cl (s.heap.objs.size+1) { s with heap:=s.heap.push { cls:=.type "list",data:=.seq #[] } } (upd H s.heap.objs.size (.lst [])) fp) [] (upd H s.heap.objs.size (.lst [])) b:=λb hb=>by
  obtain⟨a0,a1,a2,a3,a4,a5⟩:=hf b hb
  obtain⟨o,ho⟩:=hfo b hb
  have hlt:=Heap.lt_size ho
  refine⟨by rw[upd_ne (Nat.ne_of_lt hlt)];exact a0,Nat.ne_of_lt (Nat.lt_succ_of_lt hlt),λz=>?_,.inl hb,λx c e=>a4 x c (hC.sub x c e),λp hp=>a5 p (by simpa using hp)⟩
  rcases List.mem_cons.mp (I.stkSub b z) with z | z
  ·exact a1 z
  ·exact a2 z
 have loop:codeAny (model X.prog X.w) X.A (.compLoop (.ListComp elt [⟨tg,iter,ifs,0⟩] scope pos) 0 (.ref it) (.ref s.heap.objs.size) (compEnvC scope cl (s.heap.objs.size+1) X.env))
   (RR (.ref s.heap.objs.size) (s.heap.objs.size+1)) { s with heap:=h₁,toks:=s.toks+([]:List (Str×Value)).length }:=by
  refine comp_loop (X':=cxComp X pins N' scope cl (s.heap.objs.size+1) { s with heap:=s.heap.push { cls:=.type "list",data:=.seq #[] } } (upd H s.heap.objs.size (.lst [])) fp) hc rfl T (hg _ _ _ _) (ht _ _ _ _) (he _ _ _ _) I1 f1 st1 (q _ hn) λs' σ' H' J' qe=>?_
  have B:=comp_back I hf J'
  obtain⟨m,hnC,_⟩:=J'.loc
  obtain⟨o,es,ep,ho,hd,r⟩:=id hnC
  exact hR _ _ s' H' B qe (Nat.ne_of_lt (Nat.lt_succ_self _)) ⟨o,m,ho,(λv z=>by rw[hd] at z;cases z),λh2 e2=>⟨o,es,ep,e2,hd,r⟩⟩ J'.free (Nat.le_succ _)
 have fin:=codeAny_compStart_list loop (T.self _ _ _ _ _ st1 loop)
 have hz2:(s.heap.push { cls:=.type "list",dict:=none,data:=.seq ([]:List Value).toArray }).objs.size=s.heap.objs.size+1:=hz
 show codeAny _ _ (.compStart _ 0 _ _ { (newEnv scope (s.heap.push { cls:=.type "list",dict:=none,data:=.seq ([]:List Value).toArray }).objs.size X.env.globals cl X.env.qual none .none (some X.env) _) with scope:=relabel scope X.env }) (RR _ (s.heap.push { cls:=.type "list",dict:=none,data:=.seq ([]:List Value).toArray }).objs.size) _
 rw[hz2]
 exact fin
theorem clo_of {N':List Str}{caps:List (Option Nat)}{pins:List (Addr×Obj)}{σ:St}{H:Hp}{s:Shared}(I:Inv X pins σ H s)(hcap:capOk N' caps X.N X.env.scope.names scope.names=true):∃ cl,Clo scope X.env cl :=
 clo_mk λx hx=>I.ok.has x ((vis_free hcap).2.1 x hx)
theorem pe_comp (N':List Str)(caps:List (Option Nat)){wi:TI}{g:TG}{tt:TT}{te:TE}(hc:X.calm=true)(hi:PI X tg iter wi)
  (hg:∀ pins cl C s0 H0 fp,PG (cxComp X pins N' scope cl C s0 H0 fp) tg g) (ht:∀ pins cl C s0 H0 fp,PIfs (cxComp X pins N' scope cl C s0 H0 fp) ifs tt) (he:∀ pins cl C s0 H0 fp,PE (cxComp X pins N' scope cl C s0 H0 fp) elt te)
  (hcap:capOk N' caps X.N X.env.scope.names scope.names=true:=by rfl) (hkind:scope.kind=.function:=by rfl) (hs:∀ x,foldedSetIterable iter X.env x=pure x:=by intro _;rfl) :
  PE X (.ListComp elt [⟨tg,iter,ifs,0⟩] scope pos) (tComp caps wi g tt te):=by
 intro pins s σ H Q I h
 obtain⟨cl,hC⟩:=clo_of I hcap
 rw[eval_ListComp]
 refine wpAny_comprehension_free (use:=none) rfl hs hC.eq hkind (vis_free hcap).2.2 (thn (hi pins s σ H _ I h) λv s1 h1=>thn h1 λitv s2 h2=>?_)
 obtain⟨it,fp,tn,J,H2,e,I2,T,st2,f2,q2⟩:=h2
 subst e
 refine comp_block (RR:=λacc C=>compPost (model X.prog X.w) X.A X.xe none (EP X pins σ Q) acc C) (Qe:=λD H'=>Q (.ref D) H') hc hcap hkind hC (hg pins cl) (ht pins cl) (he pins cl) I2 T st2 f2 q2 λD C s' H' I' q' hDC hCo hCn hCs=>?_
 obtain⟨o,m,ho,hd,hns⟩:=hCo
 refine⟨m,hns _ ho,λh' hsb=>⟨.ref D,H',?_,rfl,q'⟩⟩
 obtain⟨hp',g',d',t',os'⟩:=s'
 have hC0:X.s₀.heap.objs.size<=C:=Nat.le_trans I2.sz hCs
 exact I'.turned (t':=t') (it:=C) (λb o hb e=>hsb.extBut b o hb e) hCn (λz=>by
  have:=I2.lt;rw[<- z] at this;exact absurd (Nat.lt_of_lt_of_le this hCs) (Nat.lt_irrefl _)) (.inr hC0) (λx c e z=>by
  obtain⟨v,q⟩:=I2.cell x c e
  exact absurd (Nat.lt_of_lt_of_le q.lt (by rw[z];exact hCs)) (Nat.lt_irrefl _)) (λp hp z=>by
  exact absurd (Nat.lt_of_lt_of_le (Heap.lt_size (I2.pin p hp).1) (by rw[z];exact hCs)) (Nat.lt_irrefl _))
end
end L2
namespace L2
open PySem PySem.Spec PyProof.Rows
section
variable {X:Cx}
def isTy (t:String)(c:String):Bool:=t == c || (t == "bool"&&c == "int")
theorem kit_ty {K:W.Frag}(t c:String)(ht:t∈["NoneType","bool","int","str","list","tuple","dict"])(hc:c∈["bool","int","str","list","tuple","dict"]):W.kitOne K (.type t) (.type c)=some (isTy t c):=by
 simp only[List.mem_cons,List.not_mem_nil,or_false] at ht hc
 rcases ht with rfl | rfl | rfl | rfl | rfl | rfl | rfl<;>rcases hc with rfl | rfl | rfl | rfl | rfl | rfl<;>rfl
theorem call_isinstance:CallR X (.builtin "isinstance") (λxs H Q=>∃ x t c,xs=[x,.ty c]/\TyOf X.K H x (.type t)/\t∈["NoneType","bool","int","str","list","tuple","dict"]/\c∈["bool","int","str","list","tuple","dict"]/\Q (.bl (isTy t c)) H):=by
 intro pins s σ H xs us Q I r h
 obtain⟨x,t,c,rfl,ty,ht,hc,q⟩:=h
 obtain⟨u,w',rfl,rx,ry⟩:=vals2 r
 cases ry
 exact isinst_ok I rx ty (kit_ty t c ht hc) λtk=>⟨.bl _,H,I.tok tk,rfl,q⟩
theorem pe_tyn {x:Str}{T:String}{pos:Pos}(hg:Gl X x)(hm:X.mg x=none)(hv:bootBuiltins x=some (.type T))(hn:x≠"__name__":=by decide)(hd:(x == ("__debug__":Str))=false:=by decide):PE X (.Name x pos) (tC (.ty T)) :=
 pe_bltn hg hm hv rfl hn hd
end
end L2
namespace L2
open PySem PySem.Spec PyProof.Rows
section
variable {X:Cx}
theorem all_range_eq:∀ (ns ms:List Int),ns.length=ms.length->((List.range ns.length).all λj=>decide (ns.getD j 0=ms.getD j 0))=decide (ns=ms):=by
 intro ns ms hl
 by_cases h:ns=ms
 ·subst h;simp
 ·rw[decide_eq_false h]
  cases hc:((List.range ns.length).all λj=>decide (ns.getD j 0=ms.getD j 0)) with
  | false=>rfl
  | true =>
   exfalso
   apply h
   rw[List.all_eq_true] at hc
   apply List.ext_getElem hl
   intro i h1 h2
   have:=hc i (List.mem_range.mpr h1)
   have e:=of_decide_eq_true this
   rw[List.getD_eq_getElem?_getD,List.getD_eq_getElem?_getD,List.getElem?_eq_getElem h1,List.getElem?_eq_getElem h2] at e
   exact e
theorem ints_at {ns:List Int}:∀ {us:List Value},IntsAre us ns->∀ (j:Nat) (h:j<us.toArray.size),∃ t,us.toArray[j]=.int (ns.getD j 0) t:=by
 induction ns with
 | nil=>intro us h j hj;cases h;simp at hj
 | cons n ns ih =>
  intro us h j hj
  cases h with
  | cons _ t h =>
   cases j with
   | zero=>exact⟨t,by simp⟩
   | succ j =>
    obtain⟨t',e⟩:=ih h j (by simpa using hj)
    exact⟨t',by simpa using e⟩
def rEqI (K:W.Frag)(neg:Bool):R2:=λx y H Q=>∃ (p q:Addr) (ns ms:List Int),x=.ref p/\y=.ref q/\SqL K H p (ns.map V.int)/\SqL K H q (ms.map V.int)/\Q (.bl (if neg then !decide (ns=ms) else decide (ns=ms))) H
theorem op_eqI {k:Nat}(hr:Room k X.A):OpR X (compareOp .Eq) (rEqI X.K false):=by
 intro pins s σ H x y v u Q I rx ry h
 obtain⟨p,q,ns,ms,rfl,rfl,h1,h2,qq⟩:=h
 cases rx;cases ry
 obtain⟨its,r1,p1,_⟩:=I.list h1
 obtain⟨its2,r2,p2,_⟩:=I.list h2
 have i1:=intsAre_of r1
 have i2:=intsAre_of r2
 have l1:=r1.length
 have l2:=r2.length
 rw[List.length_map] at l1 l2
 by_cases hl:ns.length=ms.length
 ·refine SeqAt.eq_listAt (e:=λj=>decide (ns.getD j 0=ms.getD j 0)) p1.isList p2.isList (by simp only[List.size_toArray];omega) hr.units0 (λj a1 a2=>?_) ?_
  ·obtain⟨t1,e1⟩:=ints_at i1 j a1
   obtain⟨t2,e2⟩:=ints_at i2 j a2
   rw[e1,e2]
   have:=SeqAt.EqAt.int_int (A:=X.A.in1) (s:=s) (ns.getD j 0) t1 (ms.getD j 0) t2
   rw[Bool.beq_eq_decide_eq] at this
   exact this
  ·rw[show its.toArray.size=ns.length by simp only[List.size_toArray];omega,all_range_eq ns ms hl]
   exact⟨.bl _,H,I,rfl,qq⟩
 ·refine SeqAt.eq_list_lengthsAt p1.isList p2.isList (by simp only[List.size_toArray,bne_iff_ne];omega) hr.units0 ⟨.bl false,H,I,rfl,?_⟩
  have:decide (ns=ms)=false:=decide_eq_false λe=>hl (by rw[e])
  rw[this] at qq
  exact qq
def Itd (hi:Int)(n:Nat):It:=⟨λi _=>i<n,λi H x H'=>H'=H/\x=.int (hi-i),λi _=>n<=i⟩
theorem turn_down {P:Program}{w:World}{K:PySem.W.Frag}{tg:Expr}(it:Addr)(hi:Int)(n:Nat):Turn P w K tg (Itd hi n) [it] it (λi h=>IsRangeIter h it (hi+(i:Nat)*-1) ((n:Int)-(i:Nat)) (-1)) where
 mem:=by simp
 obj:=λi h st b hb=>by
  have e:b=it:=by simpa using hb
  subst e
  exact⟨_,st,λv z=>by
   have z':Data.fields _=Data.cell v:=z
   cases z'⟩
 keep:=λi h h' st k=>k it (by simp) _ st
 item:=by
  intro X hP hw hK hc i pins s σ H E I hf st hg
  subst hP hw hK
  obtain⟨f0,f1,f2,f3,f4,f5⟩:=hf it (by simp)
  have W:=Walks.range (prog:=X.prog) (w:=X.w) (I.ok.hd hc) it hi (-1) n
  refine W.item i s _ _ hg st λv h' tk hv st' kk=>?_
  obtain⟨t,rfl⟩:=hv
  have I1:Inv X pins σ H { s with heap:=h',toks:=tk }:=I.turned (λb o hb e=>kk b o (by simpa using hb) e) f0 f1 f3 f4 f5
  refine⟨_,rfl,go_of (s:={ s with heap:=h',toks:=tk }) (n:="range_iterator") st' rfl rfl (by decide) ⟨.int (hi-i),H,I1,⟨t,?_⟩,⟨rfl,rfl⟩,st',λb hb=>(hf b hb).1⟩⟩
  congr 1;omega
 done:=by
  intro X hP hw hK hc i pins s σ H E I hf st hg
  subst hP hw hK
  obtain⟨f0,f1,f2,f3,f4,f5⟩:=hf it (by simp)
  exact wpAny_pyNext_range_end (I.ok.hd hc) st (by have:n<=i:=hg;omega) λh' eb=>⟨rfl,I.turned (t':=s.toks) (λb o hb e=>eb b o hb e) f0 f1 f3 f4 f5⟩
 self:=λ_ _ _ _ _ st h=>wpAny_pyIter_rangeiter st h
theorem rangeSize_down (a b:Int):Builtin.Range.rangeSize a b (-1)=if b<a then a-b else 0:=by
 unfold Builtin.Range.rangeSize
 simp only[show ¬ ((-1:Int) > 0) by decide,if_false]
 rw[show (- -1:Int)=1 by decide,Int.ediv_one]
 split<;>omega
theorem small_down {a b:Int}(ha:-(2 ^ 61)<=a)(ha':a<2 ^ 61)(hb:-(2 ^ 61)<=b)(hb':b<2 ^ 61):Builtin.Range.small a b (-1)=true:=by
 unfold Builtin.Range.small
 rw[rangeSize_down]
 simp only[Builtin.Range.rangeFitsLong,Bool.and_eq_true,Bool.or_eq_true,decide_eq_true_eq,beq_iff_eq,show ¬ ((-1:Int) > 0) by decide,if_false]
 split<;>omega
def iRngD (ta:TA):TI:=λσ H R=>ta σ H λvs H1=>∃ i j:Int,vs=[.int i,.int j,.int (-1)]/\(-(2 ^ 61)<=i/\i<2 ^ 61/\-(2 ^ 61)<=j/\j<2 ^ 61)/\R (Itd i (i-j).toNat) H1
theorem pi_down {tg a b c:Expr}{ta:TA}{p pos:Pos}(hg:Gl X "range")(hm:X.mg "range"=none)(ha:PA X [a,b,c] ta)(hs:starEach [a,b,c] X.env=[(false,eval a X.env),(false,eval b X.env),(false,eval c X.env)]:=by rfl)(hs2:starEach [b,c] X.env=[(false,eval b X.env),(false,eval c X.env)]:=by rfl) :
  PI X tg (.Call (.Name "range" p) [a,b,c] [] pos) (iRngD ta):=by
 intro pins s σ H R I h
 refine Call_ (ld_blt I hg hm boot_range (PyProof.Rows.callWith_type1 (thn (ha pos pins s σ H _ I h) λus s1 ⟨vs,H1,I1,r1,q1⟩=>?_) (by rw[hs,hs2]) (by rw[hs2];rfl)))
 obtain⟨i,j,e,⟨q1,q2,q3,q4⟩,q⟩:=q1
 subst e
 cases r1 with
 | cons r rr =>
  cases rr with
  | cons r' rr =>
   cases rr with
   | cons r'' rr =>
    cases rr
    obtain⟨t,rfl⟩:=r
    obtain⟨t',rfl⟩:=r'
    obtain⟨t'',rfl⟩:=r''
    refine call_range_3 (by decide) ?_ (.inl (PyProof.noPylong_small (by decide)))
    refine wpAny_pyIter_range (IsRange.new ..) (small_down q1 q2 q3 q4) ?_
    have I2:Inv X pins σ H1 { s1 with heap:=s1.heap.push { cls:=.type "range",data:=.fields #[.int i t,.int j t',.int (-1) t''] },toks:=s1.toks }:=I1.kept λb o e=>Heap.get?_push_of_some _ e
    refine⟨(s1.heap.push { cls:=.type "range",data:=.fields #[.int i t,.int j t',.int (-1) t''] }).objs.size,[(s1.heap.push { cls:=.type "range",data:=.fields #[.int i t,.int j t',.int (-1) t''] }).objs.size],_,_,H1,rfl,
     I2.kept (t':=s1.toks) λb o e=>Heap.get?_push_of_some _ e,turn_down _ i (i-j).toNat,?_,λb hb=>?_,q⟩
    ·have e1:i+((0:Nat):Int)*-1=i:=by simp
     have e2:(((i-j).toNat:Nat):Int)-((0:Nat):Int)=Builtin.Range.rangeSize i j (-1):=by rw[rangeSize_down];split<;>omega
     show IsRangeIter _ _ (i+((0:Nat):Int)*-1) ((((i-j).toNat:Nat):Int)-((0:Nat):Int)) (-1)
     rw[e1,e2]
     exact Heap.get?_push_size _ rfl
    ·have e:b=(s1.heap.push { cls:=.type "range",data:=.fields #[.int i t,.int j t',.int (-1) t''] }).objs.size:=by simpa using hb
     subst e
     exact I2.fpOk (Nat.le_refl _) (I2.hok.fresh (Nat.le_refl _))
theorem for_down {hi:Int}{n:Nat}{g:TG}{tb:TS}{D:Ends}{σ:St}{H:Hp}(Pv:Nat->St->Hp->Prop)(h0:Pv 0 σ H)
  (hs:∀ i σ H,i<n->Pv i σ H->g (.int (hi-i)) σ H λσ2 H2=>tb { D with nx:=Pv (i+1),ct:=Pv (i+1),bk:=D.nx } σ2 H2) (hd:∀ σ H,Pv n σ H->D.nx σ H) :
  ∃ W:Nat->Nat->St->Hp->Prop,(∃ m,W 0 m σ H)/\∀ i m σ H,W i m σ H ->
   ((Itd hi n).stop i H/\D.nx σ H)\/((Itd hi n).go i H/\∃ N:St->Hp->Prop,(∀ σ' H',N σ' H'->∃ m',m'<m/\W (i+1) m' σ' H')/\∀ x H',(Itd hi n).yld i H x H'->g x σ H' λσ2 H2=>tb { D with nx:=N,ct:=N,bk:=D.nx } σ2 H2):=by
 refine⟨λi m σ H=>m=n-i/\i<=n/\Pv i σ H,⟨n,by simp,Nat.zero_le _,h0⟩,?_⟩
 rintro i m σ H ⟨rfl,hi,p⟩
 by_cases hlt:i<n
 ·refine .inr ⟨hlt,Pv (i+1),λσ' H' p'=>⟨n-(i+1),by omega,rfl,hlt,p'⟩,λx H' y=>?_⟩
  obtain⟨e,y⟩:=y
  subst e y
  exact hs i σ _ hlt p
 ·have e:i=n:=by omega
  subst e
  exact .inl ⟨Nat.le_refl _,hd σ H p⟩
theorem comp_range {lo:Int}{n:Nat}{D:Addr}{g:TG}{tt:TT}{te:TE}{σ0:St}{H0:Hp}{Q:Hp->Prop}(Pv:Nat->St->Hp->Prop)(h0:Pv 0 σ0 H0)
  (hs:∀ i σ H,i<n->Pv i σ H->g (.int (lo+i)) σ H λσ2 H3=>tt σ2 H3 λb H4=>if b=true then te σ2 H4 λv H5=>∃ ys,H5 D=some (.lst ys)/\ys.length<sizeLine/\Pv (i+1) σ2 (upd H5 D (.lst (ys++[v]))) else Pv (i+1) σ2 H4)
  (hd:∀ σ H,Pv n σ H->Q H):compRead (Itr lo n) D g tt te σ0 H0 Q:=by
 refine⟨λi m σ H=>m=n-i/\i<=n/\Pv i σ H,⟨n,by simp,Nat.zero_le _,h0⟩,?_⟩
 rintro i m σ H ⟨rfl,hi,p⟩
 by_cases hlt:i<n
 ·refine .inr ⟨hlt,Pv (i+1),λσ' H' p'=>⟨n-(i+1),by omega,rfl,hlt,p'⟩,λx H' y=>?_⟩
  obtain⟨e,y⟩:=y
  subst e y
  exact hs i σ _ hlt p
 ·have e:i=n:=by omega
  subst e
  exact .inl ⟨Nat.le_refl _,hd σ H p⟩
theorem comp_list {K:W.Frag}{a:Addr}{xs:List V}{D:Addr}{g:TG}{tt:TT}{te:TE}{σ0:St}{H0:Hp}{Q:Hp->Prop}(Pv:Nat->St->Hp->Prop)(h0:Pv 0 σ0 H0)(hl:∀ i σ H,i<=xs.length->Pv i σ H->SqL K H a xs)
  (hs:∀ i x σ H,xs[i]?=some x->Pv i σ H->g x σ H λσ2 H3=>tt σ2 H3 λb H4=>if b=true then te σ2 H4 λv H5=>∃ ys,H5 D=some (.lst ys)/\ys.length<sizeLine/\Pv (i+1) σ2 (upd H5 D (.lst (ys++[v]))) else Pv (i+1) σ2 H4)
  (hd:∀ σ H,Pv xs.length σ H->Q H):compRead (Itl K a) D g tt te σ0 H0 Q:=by
 refine⟨λi m σ H=>m=xs.length-i/\i<=xs.length/\Pv i σ H,⟨xs.length,by simp,Nat.zero_le _,h0⟩,?_⟩
 rintro i m σ H ⟨rfl,hi,p⟩
 have q:=hl i σ H hi p
 by_cases hlt:i<xs.length
 ·refine .inr ⟨⟨xs,xs[i],q,by simp[hlt]⟩,Pv (i+1),λσ' H' p'=>⟨xs.length-(i+1),by omega,rfl,hlt,p'⟩,λx H' y=>?_⟩
  obtain⟨e,y⟩:=y
  subst e
  exact hs i x σ _ (y xs q) p
 ·have e:i=xs.length:=by omega
  subst e
  exact .inl ⟨⟨xs,q,Nat.le_refl _⟩,hd σ H p⟩
end
end L2
namespace L2
open PySem PySem.Spec PyProof.Rows
def Ite (K : PySem.W.Frag) (a : Addr) : It :=
  ⟨fun i H => ∃ xs x, SqL K H a xs ∧ xs[i]? = some x,
   fun i H x H' => ∃ (T : Addr) (v : V), H T = none ∧ x = .ref T ∧ H' = upd H T (.tup [.int i, v]) ∧ ∀ xs, SqL K H a xs → xs[i]? = some v,
   fun i H => ∃ xs, SqL K H a xs ∧ xs.length ≤ i⟩
theorem turn_enum {P:Program}{w:World}{K:W.Frag}{elts:List Expr}{x1:Nat}{pos:Pos}(a e it:Addr)(hne:e≠it) :
  Turn P w K (.Tuple elts x1 pos) (Ite K a) [e,it] e (λi h=>(∃ old,IsEnum h e it i old)/\h.IsListIter it a i) where
 mem:=by simp
 obj:=λi h st b hb=>by
  rcases List.mem_cons.mp hb with rfl | hb
  ·obtain⟨⟨old,q⟩,_⟩:=st
   exact⟨_,q,λv z=>by
    have z':Data.fields _=Data.cell v:=z
    cases z'⟩
  ·have e':b=it:=by simpa using hb
   subst e'
   obtain⟨_,o,q,c,d⟩:=st
   exact⟨o,q,λv z=>by rw[d] at z;cases z⟩
 keep:=λi h h' st k=>by
  obtain⟨⟨old,q⟩,st⟩:=st
  exact⟨⟨old,k e (by simp) _ q⟩,st.at λo e=>k it (by simp) o e⟩
 item:=by
  intro X hP hw hK hc i pins s σ H E I hf st hg
  subst hP hw hK
  obtain⟨⟨old,he⟩,hit⟩:=st
  obtain⟨xs,x,hq,hx⟩:=hg
  obtain⟨its,rv,p,hz⟩:=I.list hq
  obtain⟨u,hu,ru⟩:=rv.get hx
  obtain⟨f0,f1,f2,f3,f4,f5⟩:=hf e (by simp)
  obtain⟨g0,g1,g2,g3,g4,g5⟩:=hf it (by simp)
  refine wpAny_pyNext_enum_item he hit p.isList (x:=u) (by simpa using hu) hne λh₁ heo hit₁ ht₁ hz₁ hk₁=>?_
  refine⟨_,rfl,wpAny_letOwnedTupleGo_enum heo λh₂ he₂ hs₂=>?_⟩
  replace hs₂:Heap.SameBut e h₁ h₂:=hs₂
  have hel:e<s.heap.objs.size:=Heap.lt_size he
  have hT:H s.heap.objs.size=none:=I.hok.fresh (Nat.le_refl _)
  have ht₂:h₂.get? s.heap.objs.size=some { cls:=.type "tuple",data:=.seq #[.int i s.toks,u] }:=(hs₂.2 _ (Nat.ne_of_gt hel)).trans ht₁
  have kk:∀ b o,b≠e->b≠it->s.heap.get? b=some o->h₂.get? b=some o:=λb o h1 h2 q=>(hs₂.2 b h1).trans (hk₁ b o h1 h2 q)
  have nT:∀ b o,s.heap.get? b=some o->b≠s.heap.objs.size:=λb o q=>Nat.ne_of_lt (Heap.lt_size q)
  have nch:∀ b,b∉[e,it]->b≠e/\b≠it:=λb hb=>⟨λz=>hb (by simp[z]),λz=>hb (by simp[z])⟩
  have nE:∀ b o,H b=some o->b≠e/\b≠it:=λb o q=>⟨λz=>(by rw[z,f0] at q;cases q),λz=>(by rw[z,g0] at q;cases q)⟩
  have I1:Inv X pins σ (upd H s.heap.objs.size (.tup [.int i,x])) { s with heap:=h₂,gens:=s.gens,drawn:=s.drawn,toks:=s.toks+1 }:=by
   refine I.step (ch:=[e,it]) (λb hb=>?_) (λb o _ _ hc q _=>kk b o (nch b hc).1 (nch b hc).2 q) (λb o _ _ hc q _=>⟨o.slots,kk b o (nch b hc).1 (nch b hc).2 q⟩) (λb o _ q n=>by rw[upd_ne (nT b o q)];exact n)
    (λb o hc q=>⟨o,kk b o (nch b hc).1 (nch b hc).2 q⟩) (λb ys q=>by rw[upd_ne (ne_of_none q hT)];exact q) (λb o z q=>by rw[upd_ne (ne_of_none q hT)];exact q) (λb ps q=>⟨#[],by rw[upd_ne (ne_of_none q hT),q];simp⟩) (λm hm=>?_) (λb z q=>?_) I.bare
   ·rcases List.mem_cons.mp hb with rfl | hb
    ·exact⟨f3,f1,f4,f5⟩
    ·have e':b=it:=by simpa using hb
     subst e'
     exact⟨g3,g1,g4,g5⟩
   ·obtain⟨o,es,ep,ho,r⟩:=hm
    exact⟨o,es,ep,kk _ o (Ne.symm f1) (Ne.symm g1) ho,r⟩
   ·by_cases hb:b=s.heap.objs.size
    ·subst hb
     rw[upd_same] at q
     cases q
     exact⟨(by show 2<=sizeLine;rw[sizeLine_eq];decide),[.int i s.toks,u],.cons ⟨_,rfl⟩ (.cons ru .nil),_,ht₂,rfl,0,rfl⟩
    ·rw[upd_ne hb] at q
     refine(I.hok b z q).stay (λc v hc q'=>?_) (λc q'=>by rw[upd_ne (ne_of_none q' hT)];exact q') λc ys q'=>by rw[upd_ne (ne_of_none q' hT)];exact q'
     rcases hc with rfl | hc
     ·exact kk c v (nE c z q).1 (nE c z q).2 q'
     ·exact kk c v (nE c _ hc).1 (nE c _ hc).2 q'
  refine⟨.ref s.heap.objs.size,_,I1,rfl,⟨s.heap.objs.size,x,hT,rfl,rfl,λys hy=>by rw[I.list_inj hy hq];exact hx⟩,⟨⟨u,?_⟩,?_⟩,λb hb=>?_⟩
  ·have:((i+1:Nat):Int)=(i:Int)+1:=by push_cast;rfl
   rw[this];exact he₂
  ·exact hit₁.extBut hs₂.extBut (Ne.symm hne)
  ·have hbl:b<s.heap.objs.size:=by
    rcases List.mem_cons.mp hb with rfl | hb
    ·exact hel
    ·have e':b=it:=by simpa using hb
     subst e'
     obtain⟨o,q,_⟩:=hit
     exact Heap.lt_size q
   rw[upd_ne (Nat.ne_of_lt hbl)]
   exact(hf b hb).1
 done:=by
  intro X hP hw hK hc i pins s σ H E I hf st hg
  subst hP hw hK
  obtain⟨⟨old,he⟩,hit⟩:=st
  obtain⟨xs,hq,hx⟩:=hg
  obtain⟨its,rv,p,hz⟩:=I.list hq
  obtain⟨g0,g1,g2,g3,g4,g5⟩:=hf it (by simp)
  have hl:=rv.length
  exact wpAny_pyNext_enum_end (I.ok.hd hc) he hit p.isList (by simp;omega) λh' eb=>⟨rfl,I.turned (t':=s.toks) (λb o hb e=>eb b o hb e) g0 g1 g3 g4 g5⟩
 self:=λA i s Q E st h=>by
  obtain⟨⟨old,he⟩,_⟩:=st
  exact wpAny_pyIter_enum he h
section
variable {X:Cx}
def iEnum (K:W.Frag)(ta:TA):TI:=λσ H R=>ta σ H λvs H1=>∃ a,vs=[.ref a]/\(∃ xs,SqL K H1 a xs)/\R (Ite K a) H1
theorem boot_enum:bootBuiltins "enumerate"=some (.type "enumerate"):=by decide +kernel
theorem pi_enum {elts:List Expr}{x1:Nat}{tpos:Pos}{l:Expr}{ta:TA}{p pos:Pos}(hg:Gl X "enumerate")(hm:X.mg "enumerate"=none)(ha:PA X [l] ta)(hs:starEach [l] X.env=[(false,eval l X.env)]:=by rfl):PI X (.Tuple elts x1 tpos) (.Call (.Name "enumerate" p) [l] [] pos) (iEnum X.K ta):=by
 intro pins s σ H R I h
 refine Call_ (ld_blt I hg hm boot_enum (PyProof.Rows.callWith_type1 (thn (ha pos pins s σ H _ I h) λus s1 ⟨vs,H1,I1,r1,q1⟩=>?_) hs rfl))
 obtain⟨a,e,⟨xs,hxs⟩,q⟩:=q1
 subst e
 obtain⟨u,rfl,ru⟩:=vals1 r1
 cases ru
 obtain⟨its,rv,pl,hz⟩:=I1.list hxs
 refine call_enumerate_list pl.isList λh' he hit hsz hk=>?_
 have I2:Inv X pins σ H1 { s1 with heap:=h' }:=I1.kept (t':=s1.toks) hk
 refine wpAny_pyIter_enum he ⟨s1.heap.objs.size+1,[s1.heap.objs.size+1,s1.heap.objs.size],_,Ite X.K a,H1,rfl,I2,turn_enum a _ _ (Nat.ne_of_gt (Nat.lt_succ_self _)),⟨⟨_,he⟩,hit⟩,λb hb=>?_,q⟩
 rcases List.mem_cons.mp hb with rfl | hb
 ·exact I1.fpOk (Nat.le_succ _) (I1.hok.fresh (Nat.le_succ _))
 ·have e':b=s1.heap.objs.size:=by simpa using hb
  subst e'
  exact I1.fpOk (Nat.le_refl _) (I1.hok.fresh (Nat.le_refl _))
theorem for_enum {K:PySem.W.Frag}{a:Addr}{xs:List V}{g:TG}{tb:TS}{D:Ends}{σ:St}{H:Hp}(Pv:Nat->St->Hp->Prop)(h0:Pv 0 σ H)(hl:∀ i σ H,i<=xs.length->Pv i σ H->SqL K H a xs)
  (hs:∀ i x σ H T,xs[i]?=some x->Pv i σ H->H T=none->g (.ref T) σ (upd H T (.tup [.int i,x])) λσ2 H2=>tb { D with nx:=Pv (i+1),ct:=Pv (i+1),bk:=D.nx } σ2 H2) (hd:∀ σ H,Pv xs.length σ H->D.nx σ H) :
  ∃ W:Nat->Nat->St->Hp->Prop,(∃ m,W 0 m σ H)/\∀ i m σ H,W i m σ H ->
   ((Ite K a).stop i H/\D.nx σ H)\/((Ite K a).go i H/\∃ N:St->Hp->Prop,(∀ σ' H',N σ' H'->∃ m',m'<m/\W (i+1) m' σ' H')/\∀ x H',(Ite K a).yld i H x H'->g x σ H' λσ2 H2=>tb { D with nx:=N,ct:=N,bk:=D.nx } σ2 H2):=by
 refine⟨λi m σ H=>m=xs.length-i/\i<=xs.length/\Pv i σ H,⟨xs.length,by simp,Nat.zero_le _,h0⟩,?_⟩
 rintro i m σ H ⟨rfl,hi,p⟩
 have q:=hl i σ H hi p
 by_cases hlt:i<xs.length
 ·refine .inr ⟨⟨xs,xs[i],q,by simp[hlt]⟩,Pv (i+1),λσ' H' p'=>⟨xs.length-(i+1),by omega,rfl,hlt,p'⟩,λx H' y=>?_⟩
  obtain⟨T,v,hT,rfl,rfl,y⟩:=y
  exact hs i v σ H T (y xs q) p hT
 ·have e:i=xs.length:=by omega
  subst e
  exact .inl ⟨⟨xs,q,Nat.le_refl _⟩,hd σ H p⟩
end
end L2
namespace L2
open PySem PySem.Spec PyProof.Rows
section
variable {prog:Program}{w:World}{A:Around}{E:Value->Shared->Prop}{s:Shared}
end
end L2
namespace L2
open PySem PySem.Spec PyProof.Rows
section
variable {prog:Program}{w:World}{A:Around}{s:Shared}{R:Result->Shared->Prop}
end
section
variable {prog:Program}{w:World}{A:Around}{E:Value->Shared->Prop}{s:Shared}
end
end L2
namespace L2
open PySem PySem.Spec PyProof.Rows
section
variable {X:Cx}{pins:List (Addr×Obj)}{σ:St}{H H':Hp}{s:Shared}{h':Heap}
end
section
variable {X:Cx}
def plainE:Expr->Bool
 | .Starred ..=>false
 | _=>true
theorem star_plain {e:Expr}{es:List Expr}{env:Env}(h:plainE e=true):starEach (e::es) env=(false,eval e env)::starEach es env:=by
 cases e<;>first | rfl | cases h
theorem pac {e:Expr}{es:List Expr}{te:TE}{t:TA}(ha:PE X e te)(hr:PA X es t)(hp:plainE e=true:=by rfl):PA X (e::es) (tCons te t):=pa_cons ha hr (star_plain hp)
end
end L2
namespace L2
open PySem PySem.Spec PyProof.Rows
def Kp (S:List Addr)(H H':Hp):Prop:=∀ b o,b∉S->H b=some o->H' b=some o
theorem Kp.refl (S:List Addr)(H:Hp):Kp S H H:=λ_ _ _ q=>q
theorem Kp.trans {S:List Addr}{H H1 H2:Hp}(a:Kp S H H1)(b:Kp S H1 H2):Kp S H H2:=λc o n q=>b c o n (a c o n q)
theorem Same.kp {S:List Addr}{H H':Hp}(a:Same H H'):Kp S H H':=λb o _ q=>a b o q
theorem Kp.one {x b:Addr}{H H':Hp}{o:HO}(a:Kp [x] H H')(n:b≠x)(q:H b=some o):H' b=some o:=a b o (by simp[n]) q
theorem same_upd {H:Hp}{p:Addr}{o:HO}(h:H p=none):Same H (upd H p o):=λc u z=>by rw[upd_ne (ne_of_none z h)];exact z
theorem kp_upd {H:Hp}{p:Addr}{o:HO}:Kp [p] H (upd H p o):=λc u n z=>by rw[upd_ne (by simpa using n)];exact z
theorem Kp.free {H H':Hp}{S:List Addr}(a:Kp S H H'){p:Addr}(n:p∉S)(h:H' p=none):H p=none:=by
 cases q:H p with
 | none=>rfl
 | some o=>rw[a p o n q] at h;cases h
section
variable {X:Cx}
theorem PE.imp {e:Expr}{t t':TE}(h:PE X e t)(i:∀ σ H Q,t' σ H Q->t σ H Q):PE X e t':=λpins s σ H Q I w=>h pins s σ H Q I (i σ H Q w)
theorem PI.imp {tg e:Expr}{t t':TI}(h:PI X tg e t)(i:∀ σ H Q,t' σ H Q->t σ H Q):PI X tg e t':=λpins s σ H Q I w=>h pins s σ H Q I (i σ H Q w)
theorem CallR.imp {f:Value}{r r':List V->Hp->VK->Prop}(h:CallR X f r)(i:∀ xs H Q,r' xs H Q->r xs H Q):CallR X f r':=λpins s σ H xs us Q I rx w=>h pins s σ H xs us Q I rx (i xs H Q w)
theorem PS.imp {e:Stmt}{t t':TS}(h:PS X e t)(i:∀ D σ H,t' D σ H->t D σ H):PS X e t':=λpins s σ H D I w=>h pins s σ H D I (i D σ H w)
def gt:St->Nat->Option V
 | [],_=>none
 | o::_,0=>o
 | _::r,n+1=>gt r n
theorem gt_some:∀ {σ:St} {i:Nat} {v:V},gt σ i=some v->σ[i]?=some (some v)
 | [],_,_,h=>by simp[gt] at h
 | o::_,0,_,h=>by simp[gt] at h;simp[h]
 | _::r,n+1,_,h=>by simp[gt] at h;simpa using gt_some h
def mVar (i:Nat):TE:=λσ H Q=>match gt σ i with
 | some v=>Q v H
 | none=>False
theorem mVar_imp {i:Nat}{σ:St}{H:Hp}{Q:VK}(h:mVar i σ H Q):tVar i σ H Q:=by
 unfold mVar at h
 cases e:gt σ i with
 | none=>rw[e] at h;exact h.elim
 | some v=>rw[e] at h;exact⟨v,gt_some e,h⟩
theorem mv (i:Nat){x:Str}{pos:Pos}(hN:X.N[i]?=some x:=by rfl)(hv:Vis X.env.scope x:=by first | exact Or.inl rfl | exact Or.inr (Or.inl rfl) | exact Or.inr (Or.inr rfl))(hd:(x == ("__debug__":Str))=false:=by decide)
  (hcd:(x == ("__classdict__":Str))=false:=by decide):PE X (.Name x pos) (mVar i):=(pe_var hN hv hd hcd).imp λ_ _ _=>mVar_imp
@[irreducible] def hNewL (xs:List V)(H:Hp)(Q:VK):Prop:=xs.length<=sizeLine/\∀ p,H p=none->Q (.ref p) (upd H p (.lst xs))
@[irreducible] def hNewT (xs:List V)(H:Hp)(Q:VK):Prop:=xs.length<=sizeLine/\∀ p,H p=none->Q (.ref p) (upd H p (.tup xs))
@[irreducible] def hCat (a b:Addr)(H:Hp)(Q:VK):Prop:=∃ xs ys,H a=some (.lst xs)/\H b=some (.lst ys)/\xs.length+ys.length<=sizeLine/\∀ p,H p=none->Q (.ref p) (upd H p (.lst (xs++ys)))
@[irreducible] def hRep (a:Addr)(k:Int)(H:Hp)(Q:VK):Prop:=∃ xs,H a=some (.lst xs)/\-(2 ^ 63)<=k/\k<2 ^ 63/\xs.length*k.toNat<=sizeLine/\∀ p,H p=none->Q (.ref p) (upd H p (.lst (List.replicate k.toNat xs).flatten))
@[irreducible] def hIx (K:W.Frag)(a:Addr)(i:Int)(H:Hp)(Q:VK):Prop:=∃ xs v,(SqL K H a xs\/SqT K H a xs)/\atI xs i=some v/\Q v H
@[irreducible] def hSl (K:W.Frag)(a:Addr)(lo hi:Option Int)(H:Hp)(Q:VK):Prop:=∃ xs,SqL K H a xs/\∀ p,H p=none->Q (.ref p) (upd H p (.lst (cutV xs lo hi)))
@[irreducible] def hApp (a:Addr)(y:V)(H:Hp)(Q:VK):Prop:=∃ xs,H a=some (.lst xs)/\xs.length<sizeLine/\Q .non (upd H a (.lst (xs++[y])))
@[irreducible] def hClr (a:Addr)(H:Hp)(Q:VK):Prop:=∃ xs,H a=some (.lst xs)/\Q .non (upd H a (.lst []))
@[irreducible] def hEqL (K:W.Frag)(a b:Addr)(H:Hp)(Q:Bool->Hp->Prop):Prop:=∃ ns ms:List Int,SqL K H a (ns.map V.int)/\SqL K H b (ms.map V.int)/\Q (decide (ns=ms)) H
@[irreducible] def hSum (K:W.Frag)(a:Addr)(H:Hp)(Q:VK):Prop:=∃ ns:List Int,SqL K H a (ns.map V.int)/\Q (.int ns.sum) H
@[irreducible] def hMax (K:W.Frag)(a:Addr)(H:Hp)(Q:VK):Prop:=∃ ns:List Int,SqL K H a (ns.map V.int)/\ns≠[]/\∀ M,M∈ns->(∀ a,a∈ns->a<=M)->Q (.int M) H
@[irreducible] def hMin (K:W.Frag)(a:Addr)(H:Hp)(Q:VK):Prop:=∃ ns:List Int,SqL K H a (ns.map V.int)/\ns≠[]/\∀ M,M∈ns->(∀ a,a∈ns->M<=a)->Q (.int M) H
@[irreducible] def hSorted (K:W.Frag)(a:Addr)(H:Hp)(Q:VK):Prop:=∃ ns:List Int,SqL K H a (ns.map V.int)/\ns.length<=1000/\∀ (l:Addr) (ns':List Int),H l=none->ns'.Perm ns->ns'.Pairwise (·<=·)->Q (.ref l) (upd H l (.lst (ns'.map V.int)))
@[irreducible] def hLen (K:W.Frag)(a:Addr)(H:Hp)(Q:VK):Prop:=∃ ys,(SqL K H a ys\/SqT K H a ys)/\Q (.int ys.length) H
@[irreducible] def hCopy (K:W.Frag)(a:Addr)(H:Hp)(Q:VK):Prop:=∃ ys,(SqL K H a ys\/SqT K H a ys)/\∀ l,H l=none->Q (.ref l) (upd H l (.lst ys))
@[irreducible] def hIsi (K:W.Frag)(x:V)(c:String)(H:Hp)(Q:VK):Prop:=∃ t,TyOf K H x (.type t)/\t∈["NoneType","bool","int","str","list","tuple","dict"]/\c∈["bool","int","str","list","tuple","dict"]/\Q (.bl (isTy t c)) H
section
variable {H:Hp}{Q:VK}{K:W.Frag}{a b:Addr}
theorem i_newL {xs:List V}(h:xs.length<=sizeLine)(q:∀ p H',H p=none->Same H H'->H' p=some (.lst xs)->Q (.ref p) H'):hNewL xs H Q:=by
 unfold hNewL;exact⟨h,λp hp=>q p _ hp (same_upd hp) upd_same⟩
theorem i_newT {xs:List V}(h:xs.length<=sizeLine)(q:∀ p H',H p=none->Same H H'->H' p=some (.tup xs)->Q (.ref p) H'):hNewT xs H Q:=by
 unfold hNewT;exact⟨h,λp hp=>q p _ hp (same_upd hp) upd_same⟩
theorem i_cat {xs ys:List V}(h1:H a=some (.lst xs))(h2:H b=some (.lst ys))(hl:xs.length+ys.length<=sizeLine)(q:∀ p H',H p=none->Same H H'->H' p=some (.lst (xs++ys))->Q (.ref p) H'):hCat a b H Q:=by
 unfold hCat;exact⟨xs,ys,h1,h2,hl,λp hp=>q p _ hp (same_upd hp) upd_same⟩
theorem i_ix {xs:List V}{i:Int}{v:V}(h:SqL K H a xs\/SqT K H a xs)(e:atI xs i=some v)(q:Q v H):hIx K a i H Q:=by unfold hIx;exact⟨xs,v,h,e,q⟩
theorem i_ixN {xs:List V}{i:Int}{v:V}(k:Nat)(h:H a=some (.lst xs))(hi:i=k)(e:xs[k]?=some v)(q:Q v H):hIx K a i H Q:=by
 subst hi;exact i_ix (.inl (SqL.of h)) (atI_nat e) q
theorem i_ixT {xs:List V}{i:Int}{v:V}(k:Nat)(h:H a=some (.tup xs))(hi:i=k)(e:xs[k]?=some v)(q:Q v H):hIx K a i H Q:=by
 subst hi;exact i_ix (.inr (SqT.of h)) (atI_nat e) q
theorem i_ixI {ns:List Int}{i:Int}(h:H a=some (.lst (ns.map V.int)))(h0:0<=i)(h1:i<ns.length)(q:Q (.int (ns.getD i.toNat 0)) H):hIx K a i H Q:=by
 have e:i=((i.toNat:Nat):Int):=by omega
 refine i_ixN i.toNat h e (v:=.int (ns.getD i.toNat 0)) ?_ q
 have hk:i.toNat<ns.length:=by omega
 rw[List.getElem?_map,List.getElem?_eq_getElem hk,List.getD_eq_getElem?_getD,List.getElem?_eq_getElem hk];rfl
theorem i_len {ys:List V}(h:SqL K H a ys\/SqT K H a ys)(q:Q (.int ys.length) H):hLen K a H Q:=by unfold hLen;exact⟨ys,h,q⟩
theorem i_lenI {ns:List Int}(h:H a=some (.lst (ns.map V.int)))(q:Q (.int ns.length) H):hLen K a H Q:=i_len (.inl (SqL.of h)) (by rw[List.length_map];exact q)
theorem i_lenL {xs:List V}(h:H a=some (.lst xs))(q:Q (.int xs.length) H):hLen K a H Q:=i_len (.inl (SqL.of h)) q
theorem i_copy {ys:List V}(h:H a=some (.lst ys))(q:∀ p H',H p=none->Same H H'->H' p=some (.lst ys)->Q (.ref p) H'):hCopy K a H Q:=by
 unfold hCopy;exact⟨ys,.inl (SqL.of h),λp hp=>q p _ hp (same_upd hp) upd_same⟩
theorem i_sum {ns:List Int}(h:SqL K H a (ns.map V.int))(q:Q (.int ns.sum) H):hSum K a H Q:=by unfold hSum;exact⟨ns,h,q⟩
theorem i_max {ns:List Int}(h:SqL K H a (ns.map V.int))(hn:ns≠[])(q:∀ M,M∈ns->(∀ a,a∈ns->a<=M)->Q (.int M) H):hMax K a H Q:=by unfold hMax;exact⟨ns,h,hn,q⟩
theorem i_sorted {ns:List Int}(h:SqL K H a (ns.map V.int))(hn:ns.length<=1000)(q:∀ p H' (ns':List Int),ns'.Perm ns->H p=none->Same H H'->H' p=some (.lst (ns'.map V.int))->Q (.ref p) H'):hSorted K a H Q:=by
 unfold hSorted;exact⟨ns,h,hn,λl ns' hl hp _=>q l _ ns' hp hl (same_upd hl) upd_same⟩
theorem i_eqL {Q:Bool->Hp->Prop}{ns ms:List Int}(h1:SqL K H a (ns.map V.int))(h2:SqL K H b (ms.map V.int))(q:Q (decide (ns=ms)) H):hEqL K a b H Q:=by unfold hEqL;exact⟨ns,ms,h1,h2,q⟩
theorem i_app {xs:List V}{y:V}(h:H a=some (.lst xs))(hl:xs.length<sizeLine)(q:∀ H',Kp [a] H H'->H' a=some (.lst (xs++[y]))->Q .non H'):hApp a y H Q:=by
 unfold hApp;exact⟨xs,h,hl,q _ kp_upd upd_same⟩
theorem i_appI {ns:List Int}{z:Int}(h:H a=some (.lst (ns.map V.int)))(hl:ns.length<100000)(q:∀ H',Kp [a] H H'->H' a=some (.lst ((ns++[z]).map V.int))->Q .non H'):hApp a (.int z) H Q :=
 i_app h (by rw[List.length_map,sizeLine_eq];omega) λH' k e=>q H' k (by rw[e,List.map_append];rfl)
theorem i_sl {xs:List V}{lo hi:Option Int}(h:SqL K H a xs)(q:∀ p H',H p=none->Same H H'->H' p=some (.lst (cutV xs lo hi))->Q (.ref p) H'):hSl K a lo hi H Q:=by
 unfold hSl;exact⟨xs,h,λp hp=>q p _ hp (same_upd hp) upd_same⟩
end
def vAdd:R2:=λx y H Q=>match x,y with
 | .int i,.int j=>Q (.int (i+j)) H
 | .ref a,.ref b=>hCat a b H Q
 | .str i,.str j=>i.length+j.length<=sizeLine/\Q (.str (i++j)) H
 | _,_=>False
theorem opAdd:OpR X (binaryOp .Add) vAdd:=by
 intro pins s σ H x y v u Q I rx ry h
 cases x<;>cases y<;>first
  | exact(show False from h).elim
  | exact op_add pins s σ H _ _ v u Q I rx ry ⟨_,_,rfl,rfl,h⟩
  | (obtain⟨h1,h2⟩:=(show _/\_ from h);exact op_add_str pins s σ H _ _ v u Q I rx ry ⟨_,_,rfl,rfl,h1,h2⟩)
  | (have h:=(show hCat _ _ H Q from h);unfold hCat at h;obtain⟨xs,ys,h1,h2,h3,h4⟩:=h;exact op_cat pins s σ H _ _ v u Q I rx ry ⟨_,_,xs,ys,rfl,rfl,h1,h2,h3,h4⟩)
def vSub:R2:=λx y H Q=>match x,y with
 | .int i,.int j=>Q (.int (i-j)) H
 | _,_=>False
theorem opSub:OpR X (binaryOp .Sub) vSub:=by
 intro pins s σ H x y v u Q I rx ry h
 cases x<;>cases y<;>first
  | exact(show False from h).elim
  | exact op_sub pins s σ H _ _ v u Q I rx ry ⟨_,_,rfl,rfl,h⟩
def vMul:R2:=λx y H Q=>match x,y with
 | .int i,.int j=>CMul i j/\Q (.int (i*j)) H
 | .ref a,.int k=>hRep a k H Q
 | _,_=>False
theorem opMul:OpR X (binaryOp .Mult) vMul:=by
 intro pins s σ H x y v u Q I rx ry h
 cases x<;>cases y<;>first
  | exact(show False from h).elim
  | (obtain⟨h1,h2⟩:=(show CMul _ _/\_ from h);exact op_mul pins s σ H _ _ v u Q I rx ry ⟨_,_,rfl,rfl,h1,h2⟩)
  | (have h:=(show hRep _ _ H Q from h);unfold hRep at h;obtain⟨xs,h1,h2,h3,h4,h5⟩:=h;exact op_rep pins s σ H _ _ v u Q I rx ry ⟨_,_,xs,rfl,rfl,h1,h2,h3,h4,h5⟩)
def vMod:R2:=λx y H Q=>match x,y with
 | .int i,.int j=>0<j/\Q (.int (i % j)) H
 | _,_=>False
theorem opMod:OpR X (binaryOp .Mod) vMod:=by
 intro pins s σ H x y v u Q I rx ry h
 cases x<;>cases y<;>first
  | exact(show False from h).elim
  | (obtain⟨h1,h2⟩:=(show (0:Int)<_/\_ from h);exact op_mod pins s σ H _ _ v u Q I rx ry ⟨_,_,rfl,rfl,h1,h2⟩)
def vFdiv:R2:=λx y H Q=>match x,y with
 | .int i,.int j=>(0<j/\j<2 ^ 200)/\Q (.int (i / j)) H
 | _,_=>False
theorem opFdiv:OpR X (binaryOp .FloorDiv) vFdiv:=by
 intro pins s σ H x y v u Q I rx ry h
 cases x<;>cases y<;>first
  | exact(show False from h).elim
  | (obtain⟨h1,h2⟩:=(show ((0:Int)<_/\_)/\_ from h);exact op_fdivL pins s σ H _ _ v u Q I rx ry ⟨_,_,rfl,rfl,h1,h2⟩)
def vPow:R2:=λx y H Q=>match x,y with
 | .int i,.int j=>CPow i j/\Q (.int (i ^ j.toNat)) H
 | _,_=>False
theorem opPow:OpR X (binaryOp .Pow) vPow:=by
 intro pins s σ H x y v u Q I rx ry h
 cases x<;>cases y<;>first
  | exact(show False from h).elim
  | (obtain⟨h1,h2⟩:=(show CPow _ _/\_ from h);exact op_pow pins s σ H _ _ v u Q I rx ry ⟨_,_,rfl,rfl,h1,h2⟩)
def vLt (p:Int->Int->Bool):R2:=λx y H Q=>match x,y with
 | .int i,.int j=>Q (.bl (p i j)) H
 | _,_=>False
theorem opCmp {op:CmpOp}{p:Int->Int->Bool}(h0:OpR X (compareOp op) (rI0 λi j=>.bl (p i j))):OpR X (compareOp op) (vLt p):=by
 intro pins s σ H x y v u Q I rx ry h
 cases x<;>cases y<;>first
  | exact(show False from h).elim
  | exact h0 pins s σ H _ _ v u Q I rx ry ⟨_,_,rfl,rfl,h⟩
theorem opLt:OpR X (compareOp .Lt) (vLt λi j=>decide (i<j)):=opCmp op_lt
theorem opLe:OpR X (compareOp .LtE) (vLt λi j=>decide (i<=j)):=opCmp op_le
theorem opGt:OpR X (compareOp .Gt) (vLt λi j=>decide (j<i)):=opCmp op_gt
theorem opGe:OpR X (compareOp .GtE) (vLt λi j=>decide (j<=i)):=opCmp op_ge
theorem dI {i j:Int}:decide (V.int i=V.int j)=decide (i=j):=by simp
theorem dS {i j:Str}:decide (V.str i=V.str j)=decide (i=j):=by simp
theorem dB {i j:Bool}:decide (V.bl i=V.bl j)=decide (i=j):=by simp
def vIsN (n:Bool->Bool):R2:=λx y H Q=>match y with
 | .non=>match x with
  | .non=>Q (.bl (n true)) H
  | .int _=>Q (.bl (n false)) H
  | .ref _=>Q (.bl (n false)) H
  | .bl _=>Q (.bl (n false)) H
  | .str _=>Q (.bl (n false)) H
  | _=>False
 | _=>False
theorem opIs:OpR X (compareOp .Is) (vIsN id):=by
 intro pins s σ H x y v u Q I rx ry h
 cases y<;>first
  | exact(show False from h).elim
  | (cases x<;>first
   | exact(show False from h).elim
   | exact op_isN pins s σ H _ _ v u Q I rx ry ⟨rfl,h⟩)
def vNeg:V->Hp->VK->Prop:=λx H Q=>match x with
 | .int i=>Q (.int (-i)) H
 | _=>False
theorem unNeg:UnR X (unaryOp .USub) vNeg:=by
 intro pins s σ H x v Q I rx h
 cases x<;>first
  | exact(show False from h).elim
  | exact un_neg pins s σ H _ v Q I rx ⟨_,rfl,h⟩
def vIx (K:W.Frag):R2:=λx y H Q=>match x,y with
 | .ref a,.int i=>hIx K a i H Q
 | _,_=>False
theorem ixM : IxR X (vIx X.K) := by
  intro value slice pins s σ H x y v u Q I rx ry h
  cases x <;> cases y <;> first
    | exact (show False from h).elim
    | (have h := (show hIx _ _ _ H Q from h)
       unfold hIx at h
       obtain ⟨xs, w, h1 | h1, h2, h3⟩ := h
       · exact ix_list value slice pins s σ H _ _ v u Q I rx ry ⟨_, xs, _, w, rfl, rfl, h1, h2, h3⟩
       · exact ix_tup value slice pins s σ H _ _ v u Q I rx ry ⟨_, xs, _, w, rfl, rfl, h1, h2, h3⟩)
def vSl (K:W.Frag):V->Option Int->Option Int->Hp->VK->Prop:=λx lo hi H Q=>match x with
 | .ref a=>hSl K a lo hi H Q
 | _=>False
theorem slM : SlR X (vSl X.K) := by
  intro pins s σ H x v vl vu lo hi sl Q I rx hs pl pu h
  cases x <;> first
    | exact (show False from h).elim
    | (have h := (show hSl _ _ _ _ H Q from h)
       unfold hSl at h
       obtain ⟨xs, h1, h2⟩ := h
       exact sl_list pins s σ H _ v vl vu lo hi sl Q I rx hs pl pu ⟨_, xs, rfl, h1, h2⟩)
def mPart (t:TE):TO:=λσ H Q=>t σ H λx H1=>match x with
 | .int i=>Q (some i) H1
 | _=>False
theorem po_m {e:Expr}{te:TE}(h:PE X e te):PO X (some e) (mPart te):=by
 intro pins s σ H Q I hw
 rw[evalPart_some]
 refine thn (h pins s σ H _ I hw) λu s1 ⟨x,H1,I1,r1,q1⟩=>?_
 cases x<;>first
  | exact(show False from q1).elim
  | (obtain⟨t,rfl⟩:=r1;exact⟨some _,H1,I1,.int _ t,q1⟩)
@[irreducible] def hTru (K:W.Frag)(a:Addr)(H:Hp)(Q:Bool->Hp->Prop):Prop:=∃ xs,(SqL K H a xs\/SqT K H a xs)/\Q (!xs.isEmpty) H
def vTru (K:W.Frag)(x:V)(H:Hp)(Q:Bool->Hp->Prop):Prop:=match x with
 | .bl b=>Q b H
 | .int i=>Q (i != 0) H
 | .non=>Q false H
 | .ref a=>hTru K a H Q
 | _=>False
theorem vTru_imp {K : PySem.W.Frag} {x : V} {H : Hp} {Q : Bool → Hp → Prop} (h : vTru K x H Q) : ∃ k, TruV K x H k ∧ Q k H := by
  cases x <;> first
    | exact (show False from h).elim
    | exact ⟨_, rfl, h⟩
    | (have h := (show hTru _ _ H Q from h)
       unfold hTru at h
       obtain ⟨xs, h1 | h1, h2⟩ := h
       · exact ⟨_, .inl ⟨xs, h1, rfl⟩, h2⟩
       · exact ⟨_, .inr (.inl ⟨xs, h1, rfl⟩), h2⟩)
theorem tru_m {pins:List (Addr×Obj)}{s:Shared}{σ:St}{H:Hp}{x:V}{v:Value}{Q:Bool->Hp->Prop}(I:Inv X pins σ H s)(r:RelV x v)(h:vTru X.K x H Q):wpAny (model X.prog X.w) X.A (truthy v) (TP X pins σ Q) X.xe s :=
 tru_ok pins s σ H x v Q I r (vTru_imp h)
def mT (K:W.Frag)(t:TE):TT:=λσ H Q=>t σ H λx H'=>vTru K x H' Q
theorem pt_m {a:Expr}{ta:TE}(ha:PE X a ta)(he:∀ whole,isTrue a X.env whole=(do let v <- whole;standAt a.pos;holding [v] (truthy v)):=by intro _;rfl):PT X a (mT X.K ta):=by
 intro pins s σ H Q I h
 exact isTrue_plain (thn (ha pins s σ H _ I h) λv s1 ⟨x,H1,I1,r1,q1⟩=>tru_m I1 r1 q1) (he _)
def mB (t:TE):TT:=λσ H Q=>t σ H λx H'=>match x with
 | .bl k=>Q k H'
 | _=>False
section
variable {a b c:Expr}{ta tb tc:TE}{pos:Pos}{tA tB':TT}{rest:List Expr}
theorem pt_cm {op:CmpOp}{r:R2}(ho:OpR X (compareOp op) r)(ha:PE X a ta)(hb:PE X b tb)(hm:behindInMarks op b=false):PT X (.Compare a [op] [b] pos) (mB (tOp r ta tb)):=by
 intro pins s σ H Q I h
 refine wpAny_isTrue_Compare1 (thn (ha pins s σ H _ I h) λv s1 ⟨x,H1,I1,r1,q1⟩=>thn (hb pins s1 σ H1 _ I1 q1) λu s2 ⟨y,H2,I2,r2,q2⟩ =>
  thn (ho pins s2 σ H2 x y v u _ I2 r1 r2 q2) λc s3 ⟨z,H3,I3,r3,q3⟩=>?_) hm
 cases z<;>first
  | exact(show False from q3).elim
  | (cases r3;exact wpAny_truthy_bool ⟨H3,I3,q3⟩)
def mChain (r r':R2)(ta tb tc:TE):TE:=λσ H Q=>ta σ H λx H1=>tb σ H1 λy H2=>r x y H2 λz H3=>match z with
 | .bl k=>(k=true->tc σ H3 λw' H4=>r' y w' H4 Q)/\(k=false->Q (.bl false) H3)
 | _=>False
theorem pe_chm {op op':CmpOp}{r r':R2}(ho:OpR X (compareOp op) r)(ho':OpR X (compareOp op') r')(ha:PE X a ta)(hb:PE X b tb)(hc:PE X c tc)
  (hm:lastMarks [op,op'] [b,c]=false:=by with_unfolding_all rfl):PE X (.Compare a [op,op'] [b,c] pos) (mChain r r' ta tb tc):=by
 intro pins s σ H Q I h
 refine Compare_chain (thn (ha pins s σ H _ I h) λv s1 ⟨x,H1,I1,r1,q1⟩=>chain_link (thn (hb pins s1 σ H1 _ I1 q1) λu s2 ⟨y,H2,I2,r2,q2⟩ =>
  thn (ho pins s2 σ H2 x y v u _ I2 r1 r2 q2) λd s3 ⟨z,H3,I3,r3,q3⟩=>?_)) hm
 cases z<;>first
  | exact(show False from q3).elim
  | skip
 rename_i k
 cases r3
 refine wpAny_truthy_bool ?_
 cases k with
 | false=>exact ite_ff ⟨.bl false,H3,I3,rfl,q3.2 rfl⟩
 | true=>exact ite_tt (chain_last (thn (hc pins s3 σ H3 _ I3 (q3.1 rfl)) λw' s4 ⟨z',H4,I4,r4,q4⟩=>ho' pins s4 σ H4 y z' u w' Q I4 r2 r4 q4))
def mAnd (t u:TT):TT:=λσ H Q=>t σ H λc H1=>(c=true->u σ H1 Q)/\(c=false->Q false H1)
def mOr (t u:TT):TT:=λσ H Q=>t σ H λc H1=>(c=true->Q true H1)/\(c=false->u σ H1 Q)
theorem pw_am (ha:PT X a tA)(hb:PW X (.BoolOp .And (b::rest) pos) tB'):PW X (.BoolOp .And (a::b::rest) pos) (mAnd tA tB'):=by
 intro wh pins s σ H Q I h
 refine isTrue_and (thn (ha pins s σ H _ I h) λc s1 ⟨H1,I1,q1⟩=>?_)
 cases c with
 | true=>exact hb wh pins s1 σ H1 Q I1 (q1.1 rfl)
 | false=>exact⟨H1,I1,q1.2 rfl⟩
theorem pw_om (ha:PT X a tA)(hb:PW X (.BoolOp .Or (b::rest) pos) tB'):PW X (.BoolOp .Or (a::b::rest) pos) (mOr tA tB'):=by
 intro wh pins s σ H Q I h
 refine isTrue_or (thn (ha pins s σ H _ I h) λc s1 ⟨H1,I1,q1⟩=>?_)
 cases c with
 | true=>exact⟨H1,I1,q1.1 rfl⟩
 | false=>exact hb wh pins s1 σ H1 Q I1 (q1.2 rfl)
def mAndV (K:W.Frag)(ta tb:TE):TE:=λσ H Q=>ta σ H λx H1=>vTru K x H1 λc H2=>(c=true->tb σ H2 Q)/\(c=false->Q x H2)
def mNotV (K:W.Frag)(ta:TE):TE:=λσ H Q=>ta σ H λx H1=>vTru K x H1 λc H2=>Q (.bl (!c)) H2
theorem pe_am (ha:PE X a ta)(hb:PE X (.BoolOp .And (b::rest) pos) tb):PE X (.BoolOp .And (a::b::rest) pos) (mAndV X.K ta tb):=by
 intro pins s σ H Q I h
 refine BoolOp_and (thn (ha pins s σ H _ I h) λv s1 ⟨x,H1,I1,r1,q1⟩=>?_)
 refine thn (tru_m I1 r1 q1) λc s2 ⟨H2,I2,q2⟩=>?_
 cases c with
 | true=>exact hb pins s2 σ H2 Q I2 (q2.1 rfl)
 | false=>exact⟨x,H2,I2,r1,q2.2 rfl⟩
theorem pe_nm (ha:PE X a ta):PE X (.UnaryOp .Not a pos) (mNotV X.K ta):=by
 intro pins s σ H Q I h
 refine UnaryOp_ (thn (ha pins s σ H _ I h) λv s1 ⟨x,H1,I1,r1,q1⟩=>?_)
 exact not_of (thn (tru_m I1 r1 q1) λc s2 ⟨H2,I2,q2⟩=>⟨.bl (!c),H2,I2,rfl,q2⟩)
end
section
variable {st:Stmt}{rest:List Stmt}{t u:TS}{e:Expr}{te:TE}{pos:Pos}
def mIfS (c:TT)(t u:TS):TS:=λD σ H=>c σ H λb H1=>(b=true->t D σ H1)/\(b=false->u D σ H1)
theorem ps_ifm {c:Expr}{a b:List Stmt}{tc:TT}(hc:PT X c tc)(ha:PSs X a t)(hb:PSs X b u):PS X (.If c a b pos) (mIfS tc t u):=by
 intro pins s σ H D I h
 refine wpAny_If (thn (hc pins s σ H _ I h) λd s1 ⟨H1,I1,q1⟩=>?_)
 cases d with
 | true=>exact ha pins s1 σ H1 D I1 (q1.1 rfl)
 | false=>exact hb pins s1 σ H1 D I1 (q1.2 rfl)
def mMid (t u:TS):TS:=λD σ H=>∃ M:St->Hp->Prop,t { D with nx:=M } σ H/\∀ σ' H',M σ' H'->u D σ' H'
theorem pss_mid (h1:PS X st t)(h2:PSs X rest u):PSs X (st::rest) (mMid t u):=by
 intro pins s σ H D I h
 obtain⟨M,h,hM⟩:=h
 refine wpAny_execs_cons (thn (h1 pins s σ H { D with nx:=M } I h) λf s1 q=>?_)
 cases f with
 | next =>
  obtain⟨σ',H',I',q⟩:=q
  exact h2 pins s1 σ' H' D I' (hM _ _ q)
 | ret v=>exact q
 | brk=>exact q
 | cont=>exact q
def mWhile (c:TT)(tb:TS):TS:=λD σ H=>∃ W:Nat->St->Hp->Prop,(∃ m,W m σ H)/\∀ m σ H,W m σ H ->
 c σ H λb H1=>(b=true->tb { D with nx:=λσ' H'=>∃ m',m'<m/\W m' σ' H',ct:=λσ' H'=>∃ m',m'<m/\W m' σ' H',bk:=D.nx } σ H1)/\(b=false->D.nx σ H1)
theorem ps_whm {c:Expr}{body:List Stmt}{tc:TT}{tb:TS}(hp:PassesOwn (model X.prog X.w) X.A X.env X.xe)(hc:PT X c tc)(hb:PSs X body tb):PS X (.While c body [] pos) (mWhile tc tb):=by
 intro pins s σ H D I h
 obtain⟨W,⟨m0,w0⟩,turn⟩:=h
 refine wpAny_While (codeAny_whileLoop (λn s'=>∃ σ' H',Inv X pins σ' H' s'/\W n σ' H') ?_ m0 ⟨σ,H,I,w0⟩)
 rintro n s1 ⟨σ1,H1,I1,w1⟩
 refine wpAny_passesOwn hp (thn (hc pins s1 σ1 H1 _ I1 (turn n σ1 H1 w1)) λb s2 ⟨H2,I2,q2⟩=>?_)
 cases b with
 | true =>
  rw[if_pos rfl]
  refine wpAny_passesOwn hp (thn (hb pins s2 σ1 H2 _ I2 (q2.1 rfl)) λf s3 q3=>?_)
  cases f with
  | next =>
   obtain⟨σ3,H3,I3,m',hm,w3⟩:=q3
   exact⟨m',hm,σ3,H3,I3,w3⟩
  | cont =>
   obtain⟨σ3,H3,I3,m',hm,w3⟩:=q3
   exact⟨m',hm,σ3,H3,I3,w3⟩
  | brk=>exact q3
  | ret v=>exact q3
 | false =>
  rw[if_neg Bool.false_ne_true]
  exact wpAny_execs_nil ⟨σ1,H2,I2,q2.2 rfl⟩
theorem while_m {c:TT}{tb:TS}{D:Ends}{σ:St}{H:Hp}(W:Nat->St->Hp->Prop)(m:Nat)(h0:W m σ H)
  (hs:∀ m σ H,W m σ H->c σ H λb H1=>(b=true->tb { D with nx:=λσ' H'=>∃ m',m'<m/\W m' σ' H',ct:=λσ' H'=>∃ m',m'<m/\W m' σ' H',bk:=D.nx } σ H1)/\(b=false->D.nx σ H1)):mWhile c tb D σ H:=⟨W,⟨m,h0⟩,hs⟩
def mAug (i:Nat)(te:TE)(ti:TIp):TS:=λD σ H=>match gt σ i with
 | some x=>te σ H λy H1=>ti x y H1 λz H2=>D.nx (σ.set i (some z)) H2
 | none=>False
theorem ps_augm {i:Nat}{x:Str}{e:Expr}{te:TE}{op:Operator}{ti:TIp}{pos':Pos}(hN:X.N.Nodup)(hi:X.N[i]?=some x)(hx:Loc X.env.scope x)(he:PE X e te)(ho:PIp X op ti)(hf:X.fn x=true\/X.env.scope.names.lookup x=some .local:=by first | exact .inl rfl | exact .inr rfl | assumption) :
  PS X (.AugAssign (.Name x pos') op e pos) (mAug i te ti):=(ps_aug hN hi hx he ho hf).imp λD σ H h=>by
 unfold mAug at h
 cases e:gt σ i with
 | none=>rw[e] at h;exact h.elim
 | some v=>rw[e] at h;exact⟨v,gt_some e,h⟩
def vIpI (f:Int->Int->Int):TIp:=λx y H Q=>match x,y with
 | .int i,.int j=>Q (.int (f i j)) H
 | _,_=>False
theorem ipAdd:PIp X .Add (vIpI λi j=>i+j):=by
 intro pins s σ H x y v u Q I r1 r2 h
 cases x<;>cases y<;>first
  | exact(show False from h).elim
  | exact ip_add pins s σ H _ _ v u Q I r1 r2 ⟨_,_,rfl,rfl,h⟩
theorem ipSub:PIp X .Sub (vIpI λi j=>i-j):=by
 intro pins s σ H x y v u Q I r1 r2 h
 cases x<;>cases y<;>first
  | exact(show False from h).elim
  | exact ip_sub pins s σ H _ _ v u Q I r1 r2 ⟨_,_,rfl,rfl,h⟩
end
def mLst (t:TA):TE:=λσ H Q=>t σ H λxs H1=>hNewL xs H1 Q
def mTup (t:TA):TE:=λσ H Q=>t σ H λxs H1=>hNewT xs H1 Q
theorem pe_lm {es:List Expr}{t:TA}{pos:Pos}(h:PA X es t):PE X (.List es pos) (mLst t):=by
 intro pins s σ H Q I w
 refine pe_lst (t:=λσ H Q=>t σ H Q) h pins s σ H Q I ?_
 have w':t σ H λxs H1=>hNewL xs H1 Q:=w
 unfold hNewL at w'
 exact w'
theorem pe_tm {x1:Nat}{es:List Expr}{t:TA}{pos:Pos}(h:PA X es t):PE X (.Tuple es x1 pos) (mTup t):=by
 intro pins s σ H Q I w
 refine pe_tup (t:=λσ H Q=>t σ H Q) h pins s σ H Q I ?_
 have w':t σ H λxs H1=>hNewT xs H1 Q:=w
 unfold hNewT at w'
 exact w'
def vApp:V->List V->Hp->VK->Prop:=λx vs H Q=>match x,vs with
 | .ref a,[y]=>hApp a y H Q
 | _,_=>False
theorem mtApp:MtM X "list.append" vApp:=by
 intro pins s σ H x vs v us Q I rx rv h
 unfold vApp at h
 split at h
 ·unfold hApp at h;obtain⟨xs,h1,h2,h3⟩:=h;exact mt_append pins s σ H _ _ v us Q I rx rv ⟨_,xs,_,rfl,rfl,h1,h2,h3⟩
 ·exact h.elim
theorem i_tyL {K:W.Frag}{H:Hp}{a:Addr}{xs:List V}(h:H a=some (.lst xs)):tyV K "list" (.ref a) H:=.inl ⟨rfl,_,SqL.of h⟩
def vSum (K:W.Frag):List V->Hp->VK->Prop:=λxs H Q=>match xs with
 | [.ref a]=>hSum K a H Q
 | _=>False
theorem callSum (hc:X.calm=true):CallR X (.builtin "sum") (vSum X.K):=(call_sum hc).imp λxs H Q h=>by
 unfold vSum at h;split at h
 ·unfold hSum at h;obtain⟨ns,h1,h2⟩:=h;exact⟨_,ns,rfl,h1,h2⟩
 ·exact h.elim
def vMax (K:W.Frag):List V->Hp->VK->Prop:=λxs H Q=>match xs with
 | [.ref a]=>hMax K a H Q
 | [.int i,.int j]=>Q (.int (max i j)) H
 | _=>False
theorem callMax (hc:X.calm=true):CallR X (.builtin "max") (vMax X.K):=((call_max hc).or (call_max2 hc)).imp λxs H Q h=>by
 unfold vMax at h;split at h
 ·unfold hMax at h;obtain⟨ns,h1,h2⟩:=h;exact .inl ⟨_,ns,rfl,h1,h2⟩
 ·refine .inr ⟨_,_,rfl,?_⟩
  rename_i i j
  have e:(if j > i then j else i)=max i j:=by split<;>omega
  rw[e];exact h
 ·exact h.elim
def vMin (K:W.Frag):List V->Hp->VK->Prop:=λxs H Q=>match xs with
 | [.ref a]=>hMin K a H Q
 | [.int i,.int j]=>Q (.int (min i j)) H
 | _=>False
theorem callMin (hc:X.calm=true):CallR X (.builtin "min") (vMin X.K):=((call_min hc).or (call_min2 hc)).imp λxs H Q h=>by
 unfold vMin at h;split at h
 ·unfold hMin at h;obtain⟨ns,h1,h2⟩:=h;exact .inl ⟨_,ns,rfl,h1,h2⟩
 ·refine .inr ⟨_,_,rfl,?_⟩
  rename_i i j
  have e:(if j<i then j else i)=min i j:=by split<;>omega
  rw[e];exact h
 ·exact h.elim
def vLen (K:W.Frag):List V->Hp->VK->Prop:=λxs H Q=>match xs with
 | [.ref a]=>hLen K a H Q
 | _=>False
theorem callLen:CallR X (.builtin "len") (vLen X.K):=call_len_seq.imp λxs H Q h=>by
 unfold vLen at h;split at h
 ·unfold hLen at h;obtain⟨ys,h1,h2⟩:=h;exact⟨_,ys,rfl,h1,h2⟩
 ·exact h.elim
def vCopy (K:W.Frag):List V->Hp->VK->Prop:=λxs H Q=>match xs with
 | [.ref a]=>hCopy K a H Q
 | _=>False
theorem callList:CallR X (.type "list") (vCopy X.K):=call_list_of.imp λxs H Q h=>by
 unfold vCopy at h;split at h
 ·unfold hCopy at h;obtain⟨ys,h1,h2⟩:=h;exact⟨_,ys,rfl,h1,h2⟩
 ·exact h.elim
def vSorted (K:W.Frag):List V->Hp->VK->Prop:=λxs H Q=>match xs with
 | [.ref a]=>hSorted K a H Q
 | _=>False
theorem callSorted:CallR X (.builtin "sorted") (vSorted X.K):=call_sorted.imp λxs H Q h=>by
 unfold vSorted at h;split at h
 ·unfold hSorted at h;obtain⟨ys,h1,h2⟩:=h;exact⟨_,ys,rfl,h1,h2⟩
 ·exact h.elim
def vInt:List V->Hp->VK->Prop:=λxs H Q=>match xs with
 | [.int i]=>Q (.int i) H
 | [.bl k]=>Q (.int (if k then 1 else 0)) H
 | _=>False
theorem callInt:CallR X (.type "int") vInt:=call_int1.imp λxs H Q h=>by
 unfold vInt at h;split at h
 ·exact .inl ⟨_,rfl,h⟩
 ·exact .inr ⟨_,rfl,h⟩
 ·exact h.elim
def vIsi (K:W.Frag):List V->Hp->VK->Prop:=λxs H Q=>match xs with
 | [x,.ty c]=>hIsi K x c H Q
 | _=>False
theorem callIsi:CallR X (.builtin "isinstance") (vIsi X.K):=call_isinstance.imp λxs H Q h=>by
 unfold vIsi at h;split at h
 ·unfold hIsi at h;obtain⟨t,h1,h2⟩:=h;exact⟨_,t,_,rfl,h1,h2⟩
 ·exact h.elim
end
section
variable {X:Cx}{tg:Expr}
def mItL (K:W.Frag)(tl:TE):TI:=λσ H R=>tl σ H λx H1=>match x with
 | .ref a=>(∃ xs,SqL K H1 a xs)/\R (Itl K a) H1
 | _=>False
theorem pi_lm {l:Expr}{tl:TE}(hl:PE X l tl):PI X tg l (mItL X.K tl):=by
 intro pins s σ H R I h
 refine thn (hl pins s σ H _ I h) λv s1 ⟨x,H1,I1,r1,q1⟩=>?_
 cases x<;>first
  | exact(show False from q1).elim
  | skip
 rename_i a
 obtain⟨⟨xs,hq⟩,q⟩:=(show (∃ xs,SqL X.K H1 a xs)/\R (Itl X.K a) H1 from q1)
 cases r1
 obtain⟨its,rv,p,hz⟩:=I1.list hq
 refine wpAny_pyIter_list p.isList ?_
 refine⟨s1.heap.objs.size,[s1.heap.objs.size],_,_,H1,rfl,I1.kept (t':=s1.toks) λb o e=>Heap.get?_push_of_some _ e,turn_list a _,⟨_,Heap.get?_push_size _ rfl,rfl,rfl⟩,λb hb=>?_,q⟩
 have e:b=s1.heap.objs.size:=by simpa using hb
 subst e
 exact I1.fpOk (Nat.le_refl _) (I1.hok.fresh (Nat.le_refl _))
def upA (t:TA):TA:=λσ H Q=>∃ P:List V->Hp->Prop,t σ H P/\∀ vs H1,P vs H1->Q vs H1
theorem PA.up {es:List Expr}{t:TA}(h:PA X es t):PA X es (upA t):=by
 intro pos pins s σ H Q I w
 obtain⟨P,w,hP⟩:=w
 exact thn (h pos pins s σ H P I w) λus s1 ⟨vs,H1,I1,r1,q1⟩=>⟨vs,H1,I1,r1,hP _ _ q1⟩
def mRng1 (ta:TA):TI:=λσ H R=>ta σ H λvs H1=>match vs with
 | [.int j]=>(-(2 ^ 62)<=j/\j<2 ^ 62)/\R (Itr 0 j.toNat) H1
 | _=>False
def mRngD (ta:TA):TI:=λσ H R=>ta σ H λvs H1=>match vs with
 | [.int i,.int j,.int k]=>k=-1/\(-(2 ^ 61)<=i/\i<2 ^ 61/\-(2 ^ 61)<=j/\j<2 ^ 61)/\R (Itd i (i-j).toNat) H1
 | _=>False
def mEnum (K:W.Frag)(ta:TA):TI:=λσ H R=>ta σ H λvs H1=>match vs with
 | [.ref a]=>(∃ xs,SqL K H1 a xs)/\R (Ite K a) H1
 | _=>False
theorem pi_r1 {a:Expr}{ta:TA}{p pos:Pos}(hg:Gl X "range")(hm:X.mg "range"=none)(ha:PA X [a] ta)(hs:starEach [a] X.env=[(false,eval a X.env)]:=by rfl):PI X tg (.Call (.Name "range" p) [a] [] pos) (mRng1 ta) :=
 (pi_range1 hg hm ha.up hs).imp λσ H R h=>⟨_,h,λvs H1 q=>by
  split at q
  ·exact⟨_,rfl,q.1.1,q.1.2,q.2⟩
  ·exact q.elim⟩
theorem pi_rd {a b c:Expr}{ta:TA}{p pos:Pos}(hg:Gl X "range")(hm:X.mg "range"=none)(ha:PA X [a,b,c] ta)(hs:starEach [a,b,c] X.env=[(false,eval a X.env),(false,eval b X.env),(false,eval c X.env)]:=by rfl)(hs2:starEach [b,c] X.env=[(false,eval b X.env),(false,eval c X.env)]:=by rfl) :
  PI X tg (.Call (.Name "range" p) [a,b,c] [] pos) (mRngD ta):=(pi_down hg hm ha.up hs hs2).imp λσ H R h=>⟨_,h,λvs H1 q=>by
  split at q
  ·obtain⟨rfl,q1,q2⟩:=q;exact⟨_,_,rfl,q1,q2⟩
  ·exact q.elim⟩
theorem pi_en {elts:List Expr}{x1:Nat}{tpos:Pos}{l:Expr}{ta:TA}{p pos:Pos}(hg:Gl X "enumerate")(hm:X.mg "enumerate"=none)(ha:PA X [l] ta)(hs:starEach [l] X.env=[(false,eval l X.env)]:=by rfl):PI X (.Tuple elts x1 tpos) (.Call (.Name "enumerate" p) [l] [] pos) (mEnum X.K ta) :=
 (pi_enum hg hm ha.up hs).imp λσ H R h=>⟨_,h,λvs H1 q=>by
  split at q
  ·exact⟨_,rfl,q.1,q.2⟩
  ·exact q.elim⟩
@[irreducible] def hUnp (K:W.Frag)(a:Addr)(n:Nat)(H:Hp)(Q:List V->Prop):Prop:=∃ xs,SqT K H a xs/\xs.length=n/\Q xs
theorem i_unp {K:W.Frag}{a:Addr}{n:Nat}{H:Hp}{Q:List V->Prop}{xs:List V}(h:H a=some (.tup xs))(hl:xs.length=n)(q:Q xs):hUnp K a n H Q:=by unfold hUnp;exact⟨xs,SqT.of h,hl,q⟩
def gTm (K:W.Frag)(n:Nat)(t:TGs):TG:=λv σ H Q=>match v with
 | .ref a=>hUnp K a n H λxs=>t xs σ H Q
 | _=>False
theorem pg_tm {es:List Expr}{k:Nat}{t:TGs}{n:Nat}{pos:Pos}(hc:X.calm=true)(h:PGs X es t)
  (hn:(assignEach es X.env).length=n:=by rfl) (hst:(assignEach es X.env).findIdx? (·.1)=none:=by rfl):PG X (.Tuple es k pos) (gTm X.K n t):=by
 intro pins s σ H v u Q I r hw
 cases v<;>first
  | exact(show False from hw).elim
  | skip
 rename_i a
 have hw:=(show hUnp X.K a n H _ from hw)
 unfold hUnp at hw
 obtain⟨xs,h1,h2,h3⟩:=hw
 exact pg_tup hc h hn hst pins s σ H _ u Q I r ⟨a,xs,rfl,h1,h2,h3⟩
def gNm:TGs:=λvs σ H Q=>match vs with
 | []=>Q σ H
 | _=>False
def gCm (t:TG)(u:TGs):TGs:=λvs σ H Q=>match vs with
 | v::r=>t v σ H λσ' H'=>u r σ' H' Q
 | []=>False
theorem pgs_nm:PGs X [] gNm:=by
 intro pins s σ H vs us Q I r h
 cases vs with
 | nil=>exact pgs_nil pins s σ H _ us Q I r ⟨rfl,h⟩
 | cons v vs=>exact(show False from h).elim
theorem pgs_cm {e:Expr}{es:List Expr}{t:TG}{u:TGs}(h1:PG X e t)(h2:PGs X es u)
  (hs:(assignEach (e::es) X.env).map (·.2)=assign e X.env::(assignEach es X.env).map (·.2):=by rfl):PGs X (e::es) (gCm t u):=by
 intro pins s σ H vs us Q I r h
 cases vs with
 | nil=>exact(show False from h).elim
 | cons v vs=>exact pgs_cons h1 h2 hs pins s σ H _ us Q I r ⟨v,vs,rfl,h⟩
end
theorem dec2 {p A B:Prop}[Decidable p](h1:p->A)(h2:¬ p->B):(decide p=true->A)/\(decide p=false->B):=⟨λh=>h1 (of_decide_eq_true h),λh=>h2 (of_decide_eq_false h)⟩
theorem ndec2 {p A B:Prop}[Decidable p](h1:¬ p->A)(h2:p->B):((!decide p)=true->A)/\((!decide p)=false->B):=⟨λh=>h1 (by simpa using h),λh=>h2 (by simpa using h)⟩
theorem bT {A B:Prop}(h:A):(true=true->A)/\(true=false->B):=⟨λ_=>h,λz=>nomatch z⟩
theorem bF {A B:Prop}(h:B):(false=true->A)/\(false=false->B):=⟨λz=>(nomatch z),λ_=>h⟩
theorem b2 {b:Bool}{A B:Prop}(h1:b=true->A)(h2:b=false->B):(b=true->A)/\(b=false->B):=⟨h1,h2⟩
theorem bIs {b:Bool}{A B:Prop}(hb:b=true)(h:A):(b=true->A)/\(b=false->B):=⟨λ_=>h,λz=>by rw[hb] at z;cases z⟩
theorem bNo {b:Bool}{A B:Prop}(hb:b=false)(h:B):(b=true->A)/\(b=false->B):=⟨λz=>(by rw[hb] at z;cases z),λ_=>h⟩
end L2
namespace L2
open PySem PySem.Spec PyProof.Rows
section
variable {X:Cx}
theorem any_plain {pos:Pos}{env:Env}:∀ {es:List Expr},es.all plainE=true->(backTo pos (starEach es env)).any (·.1)=false
 | [],_=>rfl
 | e::es,h=>by
  rw[List.all_cons,Bool.and_eq_true] at h
  rw[star_plain h.1]
  have:=any_plain (pos:=pos) (env:=env) h.2
  simp only[backTo,List.map_cons,List.any_cons] at this ⊢
  rw[this];rfl
theorem star_plains {env:Env}:∀ {es:List Expr},es.all plainE=true->starEach es env=es.map λe=>(false,eval e env)
 | [],_=>rfl
 | e::es,h=>by
  rw[List.all_cons,Bool.and_eq_true] at h
  rw[star_plain h.1,star_plains h.2];rfl
def noComp:Expr->Bool
 | .ListComp ..=>false
 | .SetComp ..=>false
 | .DictComp ..=>false
 | _=>true
theorem swaps_plain {e:Expr}{t:Option Expr}{n:Nat}{env:Env}(h:noComp e=true):swapsWith e t n env=pure false:=by
 cases e<;>first | rfl | cases h
theorem ps_st {i:Nat}{x:Str}{e:Expr}{te:TE}{pos pos':Pos}(hN:X.N.Nodup)(hi:X.N[i]?=some x)(hx:Loc X.env.scope x)(he:PE X e te)(hs:noComp e=true:=by rfl)(hf:X.fn x=true\/X.env.scope.names.lookup x=some .local:=by first | exact .inl rfl | exact .inr rfl | assumption) :
  PS X (.Assign [.Name x pos'] e pos) (tAsg te (gName i)):=ps_set hN hi hx he (swaps_plain hs) hf
theorem ps_ex {e:Expr}{te:TE}{pos:Pos}(he:PE X e te)(hs:noComp e=true:=by rfl):PS X (.Expr e pos) (tDrop te):=ps_expr he (swaps_plain hs)
structure Def (P:Program)(w:World)(K:W.Frag)(mg:Str->Option Value)(base:Heap)(k:Nat)(x:Str)(ps:List Str)(sp:Sp):Prop where
 ex:∃ f fd,FnOk P w K mg base CX0 k f fd ps sp/\Binds K fd ps []/\W.keepIn K (.ref f)=true/\mg x=some (.ref f)
theorem Def.imp {P:Program}{w:World}{K:W.Frag}{mg:Str->Option Value}{base:Heap}{k:Nat}{x:Str}{ps:List Str}{sp sp':Sp}(D:Def P w K mg base k x ps sp)(h:∀ vs H Q E,sp' vs H Q E->sp vs H Q E):Def P w K mg base k x ps sp':=by
 obtain⟨f,fd,F,b,kp,m⟩:=D.ex
 exact⟨f,fd,F.imp h,b,kp,m⟩
theorem pe_def {k j:Nat}{x:Str}{ps:List Str}{sp:Sp}{e:Expr}{es:List Expr}{t:TA}{p pos:Pos}(D:Def X.prog X.w X.K X.mg X.base k x ps sp)(hr:Room j X.A)(hj:k<=j)(hg:Gl X x)(ha:PA X (e::es) t)(hp:(e::es).all plainE=true:=by rfl)(hdb:(x == ("__debug__":Str))=false:=by decide) :
  PE X (.Call (.Name x p) (e::es) [] pos) (tCall sp [] E0 t):=by
 obtain⟨f,fd,F,b,kp,m⟩:=D.ex
 rw[List.all_cons,Bool.and_eq_true] at hp
 exact pe_call F (hr.mono hj) hg m kp b .nil pass0 ha (hdb:=hdb) (he:=star_plain hp.1) (hpl:=any_plain hp.2)
theorem pe_cB {x:Str}{id:String}{r:List V->Hp->VK->Prop}{e:Expr}{es:List Expr}{t:TA}{p pos:Pos}(hc:CallR X (.builtin id) r)(hg:Gl X x)(hm:X.mg x=none)(hv:bootBuiltins x=some (.builtin id))(ha:PA X (e::es) t)(hp:(e::es).all plainE=true:=by rfl)(hn:x≠"__name__":=by decide)(hdb:(x == ("__debug__":Str))=false:=by decide) :
  PE X (.Call (.Name x p) (e::es) [] pos) (tCB r t):=by
 rw[List.all_cons,Bool.and_eq_true] at hp
 exact pe_callB hc hg hm hv ha hn hdb (star_plain hp.1) (any_plain hp.2)
theorem pe_cT {x:Str}{T:String}{r:List V->Hp->VK->Prop}{e:Expr}{es:List Expr}{t:TA}{p pos:Pos}(hc:CallR X (.type T) r)(hg:Gl X x)(hm:X.mg x=none)(hv:bootBuiltins x=some (.type T))(ha:PA X (e::es) t)(hp:(e::es).all plainE=true:=by rfl)(hn:x≠"__name__":=by decide)(hdb:(x == ("__debug__":Str))=false:=by decide) :
  PE X (.Call (.Name x p) (e::es) [] pos) (tCB r t):=by
 rw[List.all_cons,Bool.and_eq_true] at hp
 exact pe_callTy hc hg hm hv ha hn hdb (star_plain hp.1) (any_plain hp.2)
theorem few_plain {cpos : Pos} {e : Expr} {env : Env} (hp : plainE e = true) : ((backTo cpos (starEach [e] env)).all (fun x => !x.1) && (backToKw cpos (keywordEach [] env)).all (fun x => x.1.isSome)
      && decide (([e]:List Expr).length+([]:List Keyword).length+(if ([]:List Keyword).isEmpty then 0 else 1)<30))=true:=by
  rw[star_plain hp];rfl
theorem pe_m1 {o e:Expr}{to te:TE}{name:Str}{apos cpos:Pos}{T id:String}{r:V->List V->Hp->VK->Prop}(pa:PlainAttrs T)(slot:Slot T name id)(hty:typeOf (.builtin id)=pure (.type "method_descriptor"))(hm:MtR X id r)(ho:PE X o to)(ha:PE X e te)
  (hp:plainE e=true:=by rfl) (hbase:attributeBase o name X.env (eval o X.env)=eval o X.env:=by rfl) (hline:(apos.endLine == cpos.line)=true:=by rfl) :
  PE X (.Call (.Attribute o name apos) [e] [] cpos) (tBM X.K T r to (tCons te tNil)) :=
 pe_bm pa slot hty hm ho (pac ha pa_nil hp) hbase (few_plain hp) hline (star_plain hp) rfl
theorem pi_k1 {tg a:Expr}{ta:TA}{p pos:Pos}(hg:Gl X "range")(hm:X.mg "range"=none)(ha:PA X [a] ta)(hp:plainE a=true:=by rfl):PI X tg (.Call (.Name "range" p) [a] [] pos) (mRng1 ta):=pi_r1 hg hm ha (star_plain hp)
theorem pi_k3 {tg a b c:Expr}{ta:TA}{p pos:Pos}(hg:Gl X "range")(hm:X.mg "range"=none)(ha:PA X [a,b,c] ta)(hp:[a,b,c].all plainE=true:=by rfl):PI X tg (.Call (.Name "range" p) [a,b,c] [] pos) (mRngD ta):=by
 have h2:[b,c].all plainE=true:=by simp only[List.all_cons,List.all_nil,Bool.and_true,Bool.and_eq_true] at hp ⊢;exact hp.2
 exact pi_rd hg hm ha (star_plains hp) (star_plains h2)
theorem pi_ke {elts:List Expr}{x1:Nat}{tpos:Pos}{l:Expr}{ta:TA}{p pos:Pos}(hg:Gl X "enumerate")(hm:X.mg "enumerate"=none)(ha:PA X [l] ta)(hp:plainE l=true:=by rfl):PI X (.Tuple elts x1 tpos) (.Call (.Name "enumerate" p) [l] [] pos) (mEnum X.K ta):=pi_en hg hm ha (star_plain hp)
def noSet:Expr->Bool
 | .Set ..=>false
 | _=>true
theorem fold_plain {e:Expr}{env:Env}(h:noSet e=true):∀ x,foldedSetIterable e env x=pure x:=by
 intro x;cases e<;>first | rfl | cases h
theorem ps_fr {tg iter:Expr}{body:List Stmt}{wi:TI}{g:TG}{tb:TS}{pos:Pos}(hp:PassesOwn (model X.prog X.w) X.A X.env X.xe)(hc:X.calm=true)(hi:PI X tg iter wi)(hg:PG X tg g)(hb:PSs X body tb)
  (hs:noSet iter=true:=by rfl):PS X (.For tg iter body [] pos) (tFor wi g tb):=ps_for hp hc hi hg hb (fold_plain hs)
def plainG:Expr->Bool
 | .Starred ..=>false
 | _=>true
theorem assign_plain {e:Expr}{es:List Expr}{env:Env}(h:plainG e=true):assignEach (e::es) env=(false,assign e env)::assignEach es env:=by
 cases e<;>first | rfl | cases h
theorem pgs_c {e:Expr}{es:List Expr}{t:TG}{u:TGs}(h1:PG X e t)(h2:PGs X es u)(hp:plainG e=true:=by rfl):PGs X (e::es) (gCm t u):=pgs_cm h1 h2 (by rw[assign_plain hp];rfl)
theorem assign_plains {env:Env}:∀ {es:List Expr},es.all plainG=true->(assignEach es env).length=es.length/\(assignEach es env).findIdx? (·.1)=none
 | [],_=>⟨rfl,rfl⟩
 | e::es,h=>by
  rw[List.all_cons,Bool.and_eq_true] at h
  obtain⟨h1,h2⟩:=assign_plains (env:=env) h.2
  rw[assign_plain h.1]
  refine⟨by rw[List.length_cons,h1,List.length_cons],?_⟩
  rw[List.findIdx?_cons,h2];rfl
theorem pg_t {es:List Expr}{k:Nat}{t:TGs}{pos:Pos}(hc:X.calm=true)(h:PGs X es t)(hp:es.all plainG=true:=by rfl):PG X (.Tuple es k pos) (gTm X.K es.length t):=pg_tm hc h (assign_plains hp).1 (assign_plains hp).2
end
end L2
namespace L2
open PySem PySem.Spec PyProof.Rows
structure QE (X:Cx)(e:Expr)(t:TE):Prop where
 h:PE X e t
structure QT (X:Cx)(e:Expr)(t:TT):Prop where
 h:PT X e t
structure QW (X:Cx)(e:Expr)(t:TT):Prop where
 h:PW X e t
structure QA (X:Cx)(es:List Expr)(t:TA):Prop where
 h:PA X es t
 p:es.all plainE=true
structure QS (X:Cx)(st:Stmt)(t:TS):Prop where
 h:PS X st t
structure QB (X:Cx)(st:List Stmt)(t:TS):Prop where
 h:PSs X st t
structure QG (X:Cx)(e:Expr)(t:TG):Prop where
 h:PG X e t
structure QGs (X:Cx)(es:List Expr)(t:TGs):Prop where
 h:PGs X es t
 p:es.all plainG=true
structure QI (X:Cx)(tg e:Expr)(t:TI):Prop where
 h:PI X tg e t
structure QIf (X:Cx)(es:List Expr)(t:TT):Prop where
 h:PIfs X es t
structure QO (X:Cx)(e:Option Expr)(t:TO):Prop where
 h:PO X e t
section
variable {X:Cx}{e a b c o tg:Expr}{es rest:List Expr}{te ta tb tc to:TE}{t:TA}{pos p p2:Pos}{st:Stmt}{sts:List Stmt}{x:Str}
theorem qb_nil:QB X [] tNext:=⟨pss_nil⟩
theorem qb_one {u:TS}(h:QS X st u):QB X [st] u:=⟨pss_one h.h⟩
theorem qb_cons {u v:TS}(h1:QS X st u)(h2:QB X sts v):QB X (st::sts) (tSeq u v):=⟨pss_cons h1.h h2.h⟩
theorem qb_mid {u v:TS}(h1:QS X st u)(h2:QB X sts v):QB X (st::sts) (mMid u v):=⟨pss_mid h1.h h2.h⟩
theorem qs_ret (h:QE X e te):QS X (.Return (some e) pos) (tRet te):=⟨ps_ret h.h⟩
theorem qs_ex (h:QE X e te)(hs:noComp e=true:=by rfl):QS X (.Expr e pos) (tDrop te):=⟨ps_ex h.h hs⟩
theorem qs_set {i:Nat}(hN:X.N.Nodup)(hi:X.N[i]?=some x)(hx:Loc X.env.scope x)(hf:X.fn x=true\/X.env.scope.names.lookup x=some .local)(he:QE X e te)(hs:noComp e=true:=by rfl) :
  QS X (.Assign [.Name x p] e pos) (tAsg te (gName i)):=⟨ps_st hN hi hx he.h hs hf⟩
theorem qs_asg {g:TG}(he:QE X e te)(hg:QG X tg g)(hs:noComp e=true:=by rfl)(hw:swappedStores [tg] e X.env=pure none:=by rfl)(hp:plainG tg=true:=by rfl):QS X (.Assign [tg] e pos) (tAsg te g) :=
 ⟨ps_asg he.h hg.h (swaps_plain hs) hw (by rw[assign_plain hp];rfl)⟩
theorem qs_aug {i:Nat}{op:Operator}{ti:TIp}(hN:X.N.Nodup)(hi:X.N[i]?=some x)(hx:Loc X.env.scope x)(hf:X.fn x=true\/X.env.scope.names.lookup x=some .local)(he:QE X e te)(ho:PIp X op ti):QS X (.AugAssign (.Name x p) op e pos) (mAug i te ti) :=
 ⟨ps_augm hN hi hx he.h ho hf⟩
theorem qs_if {s1 s2:List Stmt}{tc:TT}{u v:TS}(hc:QT X c tc)(ha:QB X s1 u)(hb:QB X s2 v):QS X (.If c s1 s2 pos) (mIfS tc u v):=⟨ps_ifm hc.h ha.h hb.h⟩
theorem qs_while {tc:TT}{u:TS}(hp:PassesOwn (model X.prog X.w) X.A X.env X.xe)(hc:QT X c tc)(hb:QB X sts u):QS X (.While c sts [] pos) (mWhile tc u):=⟨ps_whm hp hc.h hb.h⟩
theorem qs_for {wi:TI}{g:TG}{u:TS}(hp:PassesOwn (model X.prog X.w) X.A X.env X.xe)(hc:X.calm=true)(hi:QI X tg e wi)(hg:QG X tg g)(hb:QB X sts u)(hs:noSet e=true:=by rfl):QS X (.For tg e sts [] pos) (tFor wi g u):=⟨ps_fr hp hc hi.h hg.h hb.h hs⟩
theorem qg_name {i:Nat}(hN:X.N.Nodup)(hi:X.N[i]?=some x)(hx:Loc X.env.scope x)(hf:X.fn x=true\/X.env.scope.names.lookup x=some .local):QG X (.Name x pos) (gName i):=⟨pg_name hN hi hx hf⟩
theorem qgs_nil:QGs X [] gNm:=⟨pgs_nm,rfl⟩
theorem qgs_cons {g:TG}{u:TGs}(h1:QG X e g)(h2:QGs X es u)(hp:plainG e=true:=by rfl):QGs X (e::es) (gCm g u):=⟨pgs_c h1.h h2.h hp,by rw[List.all_cons,hp,h2.p];rfl⟩
theorem qg_tup {k:Nat}{u:TGs}(hc:X.calm=true)(h:QGs X es u):QG X (.Tuple es k pos) (gTm X.K es.length u):=⟨pg_t hc h.h h.p⟩
theorem qi_list (h:QE X e te):QI X tg e (mItL X.K te):=⟨pi_lm h.h⟩
theorem qi_r1 (hg:Gl X "range")(hm:X.mg "range"=none)(h:QA X [a] t):QI X tg (.Call (.Name "range" p) [a] [] pos) (mRng1 t):=⟨pi_k1 hg hm h.h (by have:=h.p;simpa using this)⟩
theorem qi_r3 (hg:Gl X "range")(hm:X.mg "range"=none)(h:QA X [a,b,c] t):QI X tg (.Call (.Name "range" p) [a,b,c] [] pos) (mRngD t):=⟨pi_k3 hg hm h.h h.p⟩
theorem qi_enum {k:Nat}(hg:Gl X "enumerate")(hm:X.mg "enumerate"=none)(h:QA X [a] t):QI X (.Tuple es k p2) (.Call (.Name "enumerate" p) [a] [] pos) (mEnum X.K t):=⟨pi_ke hg hm h.h (by have:=h.p;simpa using this)⟩
theorem qa_nil:QA X [] tNil:=⟨pa_nil,rfl⟩
theorem qa_cons (h1:QE X e te)(h2:QA X es t)(hp:plainE e=true:=by rfl):QA X (e::es) (tCons te t):=⟨pac h1.h h2.h hp,by rw[List.all_cons,hp,h2.p];rfl⟩
theorem qv (i:Nat)(hN:X.N[i]?=some x)(hv:Vis X.env.scope x)(hd:(x == ("__debug__":Str))=false:=by decide)(hcd:(x == ("__classdict__":Str))=false:=by decide):QE X (.Name x pos) (mVar i):=⟨mv i hN hv hd hcd⟩
theorem qe_int {i:Int}{j:Nat}:QE X (.Constant (.int i) j pos) (tC (.int i)):=⟨pe_int⟩
theorem qe_bl {i:Bool}{j:Nat}:QE X (.Constant (.bool i) j pos) (tC (.bl i)):=⟨pe_bl⟩
theorem qe_non {j:Nat}:QE X (.Constant .none j pos) (tC .non):=⟨pe_non⟩
theorem qe_str {i:Str}{j:Nat}:QE X (.Constant (.str i) j pos) (tC (.str i)):=⟨pe_str⟩
theorem qe_ty {T:String}(hg:Gl X x)(hm:X.mg x=none)(hv:bootBuiltins x=some (.type T))(hn:x≠"__name__":=by decide)(hd:(x == ("__debug__":Str))=false:=by decide):QE X (.Name x pos) (tC (.ty T)):=⟨pe_tyn hg hm hv hn hd⟩
theorem qe_op {op:Operator}{r:R2}(ho:OpR X (binaryOp op) r)(ha:QE X a ta)(hb:QE X b tb):QE X (.BinOp a op b pos) (tOp r ta tb):=⟨pe_op ho ha.h hb.h⟩
theorem qe_un {op:UnaryOp}{r:V->Hp->VK->Prop}(ho:UnR X (unaryOp op) r)(ha:QE X a ta):QE X (.UnaryOp op a pos) (tUn r ta):=⟨pe_un ho ha.h⟩
theorem qe_not (ha:QE X a ta):QE X (.UnaryOp .Not a pos) (mNotV X.K ta):=⟨pe_nm ha.h⟩
theorem qe_cmp {op:CmpOp}{r:R2}(ho:OpR X (compareOp op) r)(ha:QE X a ta)(hb:QE X b tb)(h1:op≠.In:=by decide)(h2:op≠.NotIn:=by decide):QE X (.Compare a [op] [b] pos) (tOp r ta tb):=⟨pe_cmpR ho ha.h hb.h (nomark b h1 h2)⟩
theorem qe_chain {op op':CmpOp}{r r':R2}(ho:OpR X (compareOp op) r)(ho':OpR X (compareOp op') r')(ha:QE X a ta)(hb:QE X b tb)(hc:QE X c tc)(hm:lastMarks [op,op'] [b,c]=false:=by with_unfolding_all rfl):QE X (.Compare a [op,op'] [b,c] pos) (mChain r r' ta tb tc):=⟨pe_chm ho ho' ha.h hb.h hc.h hm⟩
theorem qe_one {op:BoolOp}(h:QE X a ta):QE X (.BoolOp op [a] pos) ta:=⟨pe_one h.h⟩
theorem qe_and (ha:QE X a ta)(hb:QE X (.BoolOp .And (b::rest) pos) tb):QE X (.BoolOp .And (a::b::rest) pos) (mAndV X.K ta tb):=⟨pe_am ha.h hb.h⟩
theorem qe_lst (h:QA X es t):QE X (.List es pos) (mLst t):=⟨pe_lm h.h⟩
theorem qe_tup {k:Nat}(h:QA X es t):QE X (.Tuple es k pos) (mTup t):=⟨pe_tm h.h⟩
theorem qo_none:QO X none tNoPart:=⟨po_none⟩
theorem qo_some (h:QE X e te):QO X (some e) (mPart te):=⟨po_m h.h⟩
theorem qe_slice {lo hi:Option Expr}{tl th:TO}(he:QE X e te)(hl:QO X lo tl)(hu:QO X hi th):QE X (.Subscript e (.Slice lo hi none p2) pos) (tSl (vSl X.K) te tl th):=⟨pe_slice slM he.h hl.h hu.h⟩
theorem qe_ix (ha:QE X a ta)(hb:QE X b tb)(hs:PlainIx b):QE X (.Subscript a b pos) (tOp (vIx X.K) ta tb):=⟨pe_ix ixM ha.h hb.h hs⟩
theorem qe_def {k j:Nat}{ps:List Str}{sp:Sp}(D:Def X.prog X.w X.K X.mg X.base k x ps sp)(hr:Room j X.A)(hj:k<=j)(hg:Gl X x)(ha:QA X (e::es) t)(hdb:(x == ("__debug__":Str))=false:=by decide):QE X (.Call (.Name x p) (e::es) [] pos) (tCall sp [] E0 t):=⟨pe_def D hr hj hg ha.h ha.p hdb⟩
theorem qe_cB {id:String}{r:List V->Hp->VK->Prop}(hc:CallR X (.builtin id) r)(hg:Gl X x)(hm:X.mg x=none)(hv:bootBuiltins x=some (.builtin id))(ha:QA X (e::es) t)(hn:x≠"__name__":=by decide)(hdb:(x == ("__debug__":Str))=false:=by decide):QE X (.Call (.Name x p) (e::es) [] pos) (tCB r t):=⟨pe_cB hc hg hm hv ha.h ha.p hn hdb⟩
theorem qe_cT {T:String}{r:List V->Hp->VK->Prop}(hc:CallR X (.type T) r)(hg:Gl X x)(hm:X.mg x=none)(hv:bootBuiltins x=some (.type T))(ha:QA X (e::es) t)(hn:x≠"__name__":=by decide)(hdb:(x == ("__debug__":Str))=false:=by decide):QE X (.Call (.Name x p) (e::es) [] pos) (tCB r t):=⟨pe_cT hc hg hm hv ha.h ha.p hn hdb⟩
theorem qe_m1 {name:Str}{T id:String}{r:V->List V->Hp->VK->Prop}(pa:PlainAttrs T)(slot:Slot T name id)(hty:typeOf (.builtin id)=pure (.type "method_descriptor"))(hm:MtR X id r)(ho:QE X o to)(ha:QE X e te)
  (hp:plainE e=true:=by rfl) (hbase:attributeBase o name X.env (eval o X.env)=eval o X.env:=by rfl) (hline:(p.endLine == pos.line)=true:=by rfl):QE X (.Call (.Attribute o name p) [e] [] pos) (tBM X.K T r to (tCons te tNil)):=⟨pe_m1 pa slot hty hm ho.h ha.h hp hbase hline⟩
theorem qt_cmp {op:CmpOp}{r:R2}(ho:OpR X (compareOp op) r)(ha:QE X a ta)(hb:QE X b tb)(h1:op≠.In:=by decide)(h2:op≠.NotIn:=by decide):QT X (.Compare a [op] [b] pos) (mB (tOp r ta tb)):=⟨pt_cm ho ha.h hb.h (nomark b h1 h2)⟩
theorem qw_and1 {tA:TT}(ha:QT X a tA):QW X (.BoolOp .And [a] pos) tA:=⟨pw_and1 ha.h⟩
theorem qw_or1 {tA:TT}(ha:QT X a tA):QW X (.BoolOp .Or [a] pos) tA:=⟨pw_or1 ha.h⟩
theorem qw_and {tA tB':TT}(ha:QT X a tA)(hb:QW X (.BoolOp .And (b::rest) pos) tB'):QW X (.BoolOp .And (a::b::rest) pos) (mAnd tA tB'):=⟨pw_am ha.h hb.h⟩
theorem qw_or {tA tB':TT}(ha:QT X a tA)(hb:QW X (.BoolOp .Or (b::rest) pos) tB'):QW X (.BoolOp .Or (a::b::rest) pos) (mOr tA tB'):=⟨pw_om ha.h hb.h⟩
theorem QW.pt {tA:TT}(h:QW X a tA):QT X a tA:=⟨h.h.pt⟩
theorem qt_not {tA:TT}(ha:QT X a tA):QT X (.UnaryOp .Not a pos) (tNot tA):=⟨pt_not ha.h⟩
theorem qt_val (ha:QE X a ta)(he:∀ whole,isTrue a X.env whole=(do let v <- whole;standAt a.pos;holding [v] (truthy v)):=by intro _;rfl):QT X a (mT X.K ta):=⟨pt_m ha.h he⟩
theorem qif_nil:QIf X [] tYes:=⟨pifs_nil⟩
theorem qe_comp (N':List Str)(caps:List (Option Nat)){elt iter:Expr}{ifs:List Expr}{scope:Scope}{wi:TI}{g:TG}{tt:TT}(hc:X.calm=true)(hi:QI X tg iter wi)
  (hg:∀ pins cl C s0 H0 fp,QG (cxComp X pins N' scope cl C s0 H0 fp) tg g) (ht:∀ pins cl C s0 H0 fp,QIf (cxComp X pins N' scope cl C s0 H0 fp) ifs tt) (he:∀ pins cl C s0 H0 fp,QE (cxComp X pins N' scope cl C s0 H0 fp) elt te)
  (hcap:capOk N' caps X.N X.env.scope.names scope.names=true:=by kernel_rfl) (hkind:scope.kind=.function:=by rfl) (hs:noSet iter=true:=by rfl) :
  QE X (.ListComp elt [⟨tg,iter,ifs,0⟩] scope pos) (tComp caps wi g tt te) :=
 ⟨pe_comp N' caps hc hi.h (λa b c d e f=>(hg a b c d e f).h) (λa b c d e f=>(ht a b c d e f).h) (λa b c d e f=>(he a b c d e f).h) hcap hkind (fold_plain hs)⟩
end
theorem Fun.okq {P:Program}{w:World}{K:W.Frag}{mg:Str->Option Value}{base:Heap}{x qual:Str}{st:Stmt}{f:Addr}{fd:FuncData}{N ps:List Str}{k:Nat}{sp:Sp}(F:Fun K x qual st f fd)(S:FnScope N ps (defScope st))(len:∀ vs H Q E,sp vs H Q E->vs.length=ps.length)
  (hbody:∀ (cdv:Value) (A:Around) (outer:List Env) (s:Shared) (H:Hp) (vs:List V) (Q:VK) (E:XK),Room k (A.deeper (envOfC qual (defScope st) s.heap.objs.size f cdv))->sp vs H Q E ->
   ∃ T:{ t:TS // QB (cxOf CX0 P w K mg base N qual (defScope st) f cdv A outer s H E).nox (defBody st) t },T.1 { nx:=λ_ H'=>Q .non H',rt:=Q } (start N vs) H):FnOk P w K mg base CX0 (k+1) f fd ps sp :=
 F.ok S len λcdv A outer s H vs Q E hr h=>let ⟨T,q⟩:=hbody cdv A outer s H vs Q E hr h;⟨T.1,T.2.h,q⟩
end L2
namespace L2
open PySem PySem.Spec PyProof.Rows
def upE (t:TE):TE:=λσ H Q=>∃ P:VK,t σ H P/\∀ v H1,P v H1->Q v H1
def upT (t:TT):TT:=λσ H Q=>∃ P:Bool->Hp->Prop,t σ H P/\∀ v H1,P v H1->Q v H1
def upG (t:TG):TG:=λv σ H Q=>∃ P:St->Hp->Prop,t v σ H P/\∀ σ1 H1,P σ1 H1->Q σ1 H1
section
variable {X:Cx}{e a b c tg:Expr}{te:TE}{pos p p2:Pos}{x:Str}
theorem QE.up (h:QE X e te):QE X e (upE te):=⟨by
 intro pins s σ H Q I w
 obtain⟨P,w,hP⟩:=w
 exact thn (h.h pins s σ H P I w) λu s1 ⟨v,H1,I1,r1,q1⟩=>⟨v,H1,I1,r1,hP _ _ q1⟩⟩
theorem QIf.up {es:List Expr}{tt:TT}(h:QIf X es tt):QIf X es (upT tt):=⟨by
 intro pins s σ H Q I w
 obtain⟨P,w,hP⟩:=w
 exact thn (h.h pins s σ H P I w) λu s1 ⟨H1,I1,q1⟩=>⟨H1,I1,hP _ _ q1⟩⟩
theorem QG.up {g:TG}(h:QG X e g):QG X e (upG g):=⟨by
 intro pins s σ H v u Q I r w
 obtain⟨P,w,hP⟩:=w
 exact thn (h.h pins s σ H v u P I r w) λu s1 ⟨σ1,H1,I1,q1⟩=>⟨σ1,H1,I1,hP _ _ q1⟩⟩
theorem qe_cp (N':List Str)(caps:List (Option Nat)){elt iter:Expr}{ifs:List Expr}{scope:Scope}{wi:TI}{g:TG}{tt:TT}(hc:X.calm=true)(hi:QI X tg iter wi)
  (hg:∀ pins cl C s0 H0 fp,QG (cxComp X pins N' scope cl C s0 H0 fp) tg g) (ht:∀ pins cl C s0 H0 fp,QIf (cxComp X pins N' scope cl C s0 H0 fp) ifs tt) (he:∀ pins cl C s0 H0 fp,QE (cxComp X pins N' scope cl C s0 H0 fp) elt te)
  (hcap:capOk N' caps X.N X.env.scope.names scope.names=true:=by kernel_rfl) (hkind:scope.kind=.function:=by rfl) (hs:noSet iter=true:=by rfl) :
  QE X (.ListComp elt [⟨tg,iter,ifs,0⟩] scope pos) (tComp caps wi (upG g) (upT tt) (upE te)) :=
 qe_comp N' caps hc hi (λa b c d e f=>(hg a b c d e f).up) (λa b c d e f=>(ht a b c d e f).up) (λa b c d e f=>(he a b c d e f).up) hcap hkind hs
end
def Turn1 (g:TG)(tt:TT)(te:TE)(D:Addr)(ys:List V)(x:V)(σ:St)(H:Hp)(N:St->Hp->List V->Prop):Prop :=
 g x σ H λσ2 H3=>tt σ2 H3 λb H4=>(b=true->te σ2 H4 λv H5=>H5 D=some (.lst ys)/\ys.length<sizeLine/\∀ H6,Kp [D] H5 H6->H6 D=some (.lst (ys++[v]))->N σ2 H6 (ys++[v]))/\(b=false->H4 D=some (.lst ys)/\N σ2 H4 ys)
theorem turn1_ok {g:TG}{tt:TT}{te:TE}{D:Addr}{ys:List V}{x:V}{σ:St}{H:Hp}{N:St->Hp->List V->Prop}{M:St->Hp->Prop}(h:Turn1 g tt te D ys x σ H N)(hM:∀ σ H ys,H D=some (.lst ys)->N σ H ys->M σ H) :
  upG g x σ H λσ2 H3=>upT tt σ2 H3 λb H4=>if b=true then upE te σ2 H4 λv H5=>∃ ys,H5 D=some (.lst ys)/\ys.length<sizeLine/\M σ2 (upd H5 D (.lst (ys++[v]))) else M σ2 H4:=by
 refine⟨_,h,λσ2 H3 h=>⟨_,h,λb H4 h=>?_⟩⟩
 cases b with
 | true=>exact iteT ⟨_,h.1 rfl,λv H5 q=>⟨ys,q.1,q.2.1,hM _ _ _ upd_same (q.2.2 _ kp_upd upd_same)⟩⟩
 | false=>exact iteF (hM _ _ _ (h.2 rfl).1 (h.2 rfl).2)
section
variable {g:TG}{tt:TT}{te:TE}{σ0:St}{H1:Hp}{Q:Addr->Hp->Prop}{K:W.Frag}
theorem comp_rng {lo:Int}{n:Nat}(R:Nat->Addr->St->Hp->List V->Prop)
  (h0:∀ D H',H1 D=none->Same H1 H'->H' D=some (.lst [])->R 0 D σ0 H' [])
  (hs:∀ i D σ H ys,i<n->H1 D=none->R i D σ H ys->H D=some (.lst ys)->Turn1 g tt te D ys (.int (lo+i)) σ H (R (i+1) D))
  (hd:∀ D σ H ys,H1 D=none->R n D σ H ys->H D=some (.lst ys)->Q D H):∀ D,H1 D=none->compRead (Itr lo n) D (upG g) (upT tt) (upE te) σ0 (upd H1 D (.lst [])) λH2=>Q D H2:=by
 intro D hD
 refine comp_range (λi σ H=>∃ ys,H D=some (.lst ys)/\R i D σ H ys) ⟨[],upd_same,h0 D _ hD (same_upd hD) upd_same⟩ ?_ ?_
 ·rintro i σ H hi ⟨ys,e,r⟩
  exact turn1_ok (hs i D σ H ys hi hD r e) λσ H ys e r=>⟨ys,e,r⟩
 ·rintro σ H ⟨ys,e,r⟩
  exact hd D σ H ys hD r e
theorem comp_lst {a:Addr}(xs:List V)(R:Nat->Addr->St->Hp->List V->Prop)
  (h0:∀ D H',H1 D=none->Same H1 H'->H' D=some (.lst [])->R 0 D σ0 H' [])
  (hl:∀ i D σ H ys,H1 D=none->R i D σ H ys->SqL K H a xs)
  (hs:∀ i x D σ H ys,xs[i]?=some x->H1 D=none->R i D σ H ys->H D=some (.lst ys)->Turn1 g tt te D ys x σ H (R (i+1) D))
  (hd:∀ D σ H ys,H1 D=none->R xs.length D σ H ys->H D=some (.lst ys)->Q D H):∀ D,H1 D=none->compRead (Itl K a) D (upG g) (upT tt) (upE te) σ0 (upd H1 D (.lst [])) λH2=>Q D H2:=by
 intro D hD
 refine comp_list (xs:=xs) (λi σ H=>∃ ys,H D=some (.lst ys)/\R i D σ H ys) ⟨[],upd_same,h0 D _ hD (same_upd hD) upd_same⟩ ?_ ?_ ?_
 ·rintro i σ H _ ⟨ys,e,r⟩
  exact hl i D σ H ys hD r
 ·rintro i x σ H hi ⟨ys,e,r⟩
  exact turn1_ok (hs i x D σ H ys hi hD r e) λσ H ys e r=>⟨ys,e,r⟩
 ·rintro σ H ⟨ys,e,r⟩
  exact hd D σ H ys hD r e
end
end L2
namespace L2
open PySem
theorem Kp.new {S:List Addr}{H H5 H6:Hp}{D:Addr}(k:Kp S H H5)(k6:Kp [D] H5 H6)(hD:H D=none):Kp S H H6:=λb o n q=>k6.one (ne_of_none q hD) (k b o n q)
theorem Same.new {H H5 H6:Hp}{D:Addr}(k:Same H H5)(k6:Kp [D] H5 H6)(hD:H D=none):Same H H6:=λb o q=>k6.one (ne_of_none q hD) (k b o q)
theorem Kp.same {S:List Addr}{H H5 H6:Hp}(k:Kp S H H5)(s:Same H5 H6):Kp S H H6:=λb o n q=>s b o (k b o n q)
theorem sz_of {n:Nat}(h:n<=100000):n<=sizeLine:=by rw[sizeLine_eq];omega
theorem sz_lt {n:Nat}(h:n<=100000):n<sizeLine:=by rw[sizeLine_eq];omega
theorem map_snoc (zs:List Int)(z:Int):zs.map V.int++[V.int z]=(zs++[z]).map V.int:=by rw[List.map_append];rfl
theorem vints_at {zs:List Int}{i:Nat}{x:V}(h:(zs.map V.int)[i]?=some x):∃ z,x=.int z/\zs[i]?=some z/\z∈zs:=by
 rw[List.getElem?_map] at h
 cases e:zs[i]? with
 | none=>rw[e] at h;cases h
 | some z =>
  rw[e] at h
  exact⟨z,(Option.some.inj h).symm,rfl,List.mem_of_getElem? e⟩
end L2
namespace L2
open PySem PySem.Spec PyProof.Rows
def intsD (ns:List Int):PyData:=.list (ns.map PyData.int)
theorem paired_ints {H:Hp}(n:Nat):∀ ns:List Int,Paired (RV n H) (ns.map V.int) (ns.map PyData.int)
 | []=>.nil
 | k::ns=>.cons (by cases n<;>rfl) (paired_ints n ns)
theorem log2_of {i:Int}(h:i.natAbs<10 ^ 40):i.natAbs.log2<1920:=by
 by_cases h0:i.natAbs=0
 ·rw[h0];decide
 ·exact(Nat.log2_lt h0).mpr (Nat.lt_of_lt_of_le h (by decide +kernel))
theorem shown_int_len {i:Int}(h:i.natAbs<10 ^ 40):(PyData.shown (.int i)).length<=41:=by
 have e:=int_text_length_le10 (k:=40) (by decide) h
 show (Str.ofString (toString i)).length<=41
 rw[PySem.ofString_length];exact e
section
variable {g:TG}{tb:TS}{D:Ends}{σ:St}{H:Hp}{K:W.Frag}
theorem for_en {a:Addr}(xs:List V)(Pv:Nat->St->Hp->Prop)(h0:Pv 0 σ H)(hl:∀ i σ H,i<=xs.length->Pv i σ H->SqL K H a xs)
  (hs:∀ i x σ H T H',xs[i]?=some x->Pv i σ H->H T=none->Same H H'->H' T=some (.tup [.int i,x])->g (.ref T) σ H' λσ2 H2=>tb { D with nx:=Pv (i+1),ct:=Pv (i+1),bk:=D.nx } σ2 H2) (hd:∀ σ H,Pv xs.length σ H->D.nx σ H) :
  ∃ W:Nat->Nat->St->Hp->Prop,(∃ m,W 0 m σ H)/\∀ i m σ H,W i m σ H ->
   ((Ite K a).stop i H/\D.nx σ H)\/((Ite K a).go i H/\∃ N:St->Hp->Prop,(∀ σ' H',N σ' H'->∃ m',m'<m/\W (i+1) m' σ' H')/\∀ x H',(Ite K a).yld i H x H'->g x σ H' λσ2 H2=>tb { D with nx:=N,ct:=N,bk:=D.nx } σ2 H2) :=
 for_enum (xs:=xs) Pv h0 hl (λi x σ H T hx p hT=>hs i x σ H T _ hx p hT (same_upd hT) upd_same) hd
end
theorem take_snoc {α:Type}{l:List α}{i:Nat}{x:α}(h:l[i]?=some x):l.take (i+1)=l.take i++[x]:=by rw[List.take_add_one,h];rfl
theorem i_isi {K:W.Frag}{H:Hp}{Q:VK}{x:V}{t c:String}(ty:TyOf K H x (.type t))(ht:t∈["NoneType","bool","int","str","list","tuple","dict"])(hc:c∈["bool","int","str","list","tuple","dict"])(q:Q (.bl (isTy t c)) H):hIsi K x c H Q:=by
 unfold hIsi;exact⟨t,ty,ht,hc,q⟩
end L2
namespace L2
open PySem PySem.Spec PyProof.Rows
def Itz (K : PySem.W.Frag) (a b : Addr) : It :=
  ⟨fun i H => ∃ xs ys x y, SqL K H a xs ∧ SqL K H b ys ∧ xs[i]? = some x ∧ ys[i]? = some y,
   fun i H v H' => ∃ (T : Addr) (x y : V), H T = none ∧ v = .ref T ∧ H' = upd H T (.tup [x, y]) ∧ (∀ xs, SqL K H a xs → xs[i]? = some x) ∧ ∀ ys, SqL K H b ys → ys[i]? = some y,
   fun i H => ∃ xs ys, SqL K H a xs ∧ SqL K H b ys ∧ (xs.length ≤ i ∨ ys.length ≤ i)⟩
theorem turn_zip {P:Program}{w:World}{K:W.Frag}{elts:List Expr}{x1:Nat}{pos:Pos}(a b z TI TO i1 i2:Addr)(D:ZipApart z TI TO i1 i2 a b) :
  Turn P w K (.Tuple elts x1 pos) (Itz K a b) [z,TI,TO,i1,i2] z (λi h=>IsZip h z TI TO .none/\IsPair h TI (.ref i1) (.ref i2)/\(∃ p q,IsPair h TO p q)/\h.IsListIter i1 a i/\h.IsListIter i2 b i) where
 mem:=by simp
 obj:=λi h st c hc=>by
  obtain⟨hz,hTI,⟨p,q,hTO⟩,h1,h2⟩:=st
  simp only[List.mem_cons,List.not_mem_nil,or_false] at hc
  rcases hc with rfl | rfl | rfl | rfl | rfl
  ·exact⟨_,hz,λv x=>by have x':Data.fields _=Data.cell v:=x;cases x'⟩
  ·exact⟨_,hTI,λv x=>by have x':Data.seq _ _=Data.cell v:=x;cases x'⟩
  ·exact⟨_,hTO,λv x=>by have x':Data.seq _ _=Data.cell v:=x;cases x'⟩
  ·obtain⟨o,q,_,d⟩:=h1;exact⟨o,q,λv x=>by rw[d] at x;cases x⟩
  ·obtain⟨o,q,_,d⟩:=h2;exact⟨o,q,λv x=>by rw[d] at x;cases x⟩
 keep:=λi h h' st k=>by
  obtain⟨hz,hTI,⟨p,q,hTO⟩,h1,h2⟩:=st
  exact⟨k z (by simp) _ hz,k TI (by simp) _ hTI,⟨p,q,k TO (by simp) _ hTO⟩,h1.at λo e=>k i1 (by simp) o e,h2.at λo e=>k i2 (by simp) o e⟩
 item:=by
  intro X hP hw hK hc i pins s σ H E I hf st hg
  subst hP hw hK
  obtain⟨hz,hTI,⟨p,q,hTO⟩,h1,h2⟩:=st
  obtain⟨xs,ys,x,y,hqx,hqy,hx,hy⟩:=hg
  obtain⟨its,rv,pl,hsz⟩:=I.list hqx
  obtain⟨jts,rw',ql,hsz'⟩:=I.list hqy
  obtain⟨u,hu,ru⟩:=rv.get hx
  obtain⟨t,ht,rt⟩:=rw'.get hy
  refine wpAny_pyNext_zip_item D hz hTI hTO h1 h2 pl.isList ql.isList (x:=u) (y:=t) (by simpa using hu) (by simpa using ht) λh₁ a1 a2 a3 a4 a5 a6 hk₁=>?_
  refine⟨_,rfl,wpAny_letOwnedTupleGo_zip a1 λh₂ hz₂ hs₂=>?_⟩
  replace hs₂:Heap.SameBut z h₁ h₂:=hs₂
  have hT:H s.heap.objs.size=none:=I.hok.fresh (Nat.le_refl _)
  have lt:∀ {c o},s.heap.get? c=some o->c≠s.heap.objs.size:=λe=>Nat.ne_of_lt (Heap.lt_size e)
  have ht₂:h₂.get? s.heap.objs.size=some { cls:=.type "tuple",data:=.seq #[u,t] }:=(hs₂.2 _ (Ne.symm (lt hz))).trans a5
  have nch:∀ c,c∉[z,TI,TO,i1,i2]->c≠z/\c≠TI/\c≠TO/\c≠i1/\c≠i2:=λc hc=>by simpa using hc
  have kk:∀ c o,c∉[z,TI,TO,i1,i2]->s.heap.get? c=some o->h₂.get? c=some o:=λc o hc e=>by
   obtain⟨n1,n2,n3,n4,n5⟩:=nch c hc
   exact(hs₂.2 c n1).trans (hk₁ c o n1 n3 n4 n5 e)
  have nE:∀ c o,H c=some o->c∉[z,TI,TO,i1,i2]:=λc o e hc=>by rw[(hf c hc).1] at e;cases e
  have I1:Inv X pins σ (upd H s.heap.objs.size (.tup [x,y])) { s with heap:=h₂,gens:=s.gens,drawn:=s.drawn,toks:=s.toks }:=by
   refine I.step (ch:=[z,TI,TO,i1,i2]) (λc hc=>?_) (λc o _ _ hc e _=>kk c o hc e) (λc o _ _ hc e _=>⟨o.slots,kk c o hc e⟩) (λc o _ e n=>by rw[upd_ne (lt e)];exact n)
    (λc o hc e=>⟨o,kk c o hc e⟩) (λc zs e=>by rw[upd_ne (ne_of_none e hT)];exact e) (λc o u e=>by rw[upd_ne (ne_of_none e hT)];exact e) (λc ps e=>⟨#[],by rw[upd_ne (ne_of_none e hT),e];simp⟩) (λm hm=>?_) (λc v e=>?_) I.bare
   ·obtain⟨f0,f1,f2,f3,f4,f5⟩:=hf c hc;exact⟨f3,f1,f4,f5⟩
   ·obtain⟨o,es,ep,ho,r⟩:=hm
    exact⟨o,es,ep,kk _ o (λhc=>(hf _ hc).2.1 rfl) ho,r⟩
   ·by_cases hb:c=s.heap.objs.size
    ·subst hb
     rw[upd_same] at e
     cases e
     exact⟨(by show 2<=sizeLine;rw[sizeLine_eq];decide),[u,t],.cons ru (.cons rt .nil),_,ht₂,rfl,0,rfl⟩
    ·rw[upd_ne hb] at e
     refine(I.hok c v e).stay (λd o hd q'=>?_) (λd q'=>by rw[upd_ne (ne_of_none q' hT)];exact q') λd zs q'=>by rw[upd_ne (ne_of_none q' hT)];exact q'
     rcases hd with rfl | hd
     ·exact kk d o (nE d v e) q'
     ·exact kk d o (nE d _ hd) q'
  refine⟨.ref s.heap.objs.size,_,I1,rfl,⟨s.heap.objs.size,x,y,hT,rfl,rfl,λzs hz=>by rw[I.list_inj hz hqx];exact hx,λzs hz=>by rw[I.list_inj hz hqy];exact hy⟩,⟨hz₂,?_,⟨u,t,?_⟩,?_,?_⟩,λc hc=>?_⟩
  ·exact hs₂.extBut _ _ D.TIz (hk₁ _ _ D.TIz D.TITO D.TIi1 D.TIi2 hTI)
  ·exact hs₂.extBut _ _ D.TOz a2
  ·exact a3.extBut hs₂.extBut D.i1z
  ·exact a4.extBut hs₂.extBut D.i2z
  ·have hcl:c<s.heap.objs.size:=by
    simp only[List.mem_cons,List.not_mem_nil,or_false] at hc
    rcases hc with rfl | rfl | rfl | rfl | rfl
    ·exact Heap.lt_size hz
    ·exact Heap.lt_size hTI
    ·exact Heap.lt_size hTO
    ·obtain⟨o,e,_⟩:=h1;exact Heap.lt_size e
    ·obtain⟨o,e,_⟩:=h2;exact Heap.lt_size e
   rw[upd_ne (Nat.ne_of_lt hcl)]
   exact(hf c hc).1
 done:=by
  intro X hP hw hK hc i pins s σ H E I hf st hg
  subst hP hw hK
  obtain⟨hz,hTI,⟨p,q,hTO⟩,h1,h2⟩:=st
  obtain⟨xs,ys,hqx,hqy,hx⟩:=hg
  obtain⟨its,rv,pl,hsz⟩:=I.list hqx
  obtain⟨jts,rw',ql,hsz'⟩:=I.list hqy
  have hl:=rv.length
  have hl':=rw'.length
  refine wpAny_pyNext_zip_end (I.ok.hd hc) D hz hTI hTO h1 h2 pl.isList ql.isList (by simp;omega) λh' hk=>⟨rfl,?_⟩
  have kk:∀ c o,c∉[z,TI,TO,i1,i2]->s.heap.get? c=some o->h'.get? c=some o:=λc o hc e=>by
   obtain⟨n1,n2,n3,n4,n5⟩:c≠z/\c≠TI/\c≠TO/\c≠i1/\c≠i2:=by simpa using hc
   exact hk c o n1 n3 n4 n5 e
  have nE:∀ c o,H c=some o->c∉[z,TI,TO,i1,i2]:=λc o e hc=>by rw[(hf c hc).1] at e;cases e
  refine I.step (g':=s.gens) (d':=s.drawn) (t':=s.toks) (ch:=[z,TI,TO,i1,i2]) (λc hc=>?_) (λc o _ _ hc e _=>kk c o hc e) (λc o _ _ hc e _=>⟨o.slots,kk c o hc e⟩) (λc o _ e n=>n)
    (λc o hc e=>⟨o,kk c o hc e⟩) (λc zs e=>e) (λc o u e=>e) (λc ps e=>⟨#[],by rw[e];simp⟩) (λm hm=>?_) (λc v e=>?_) I.bare
  ·obtain⟨f0,f1,f2,f3,f4,f5⟩:=hf c hc;exact⟨f3,f1,f4,f5⟩
  ·obtain⟨o,es,ep,ho,r⟩:=hm
   exact⟨o,es,ep,kk _ o (λhc=>(hf _ hc).2.1 rfl) ho,r⟩
  ·refine(I.hok c v e).stay (λd o hd q'=>?_) (λd q'=>q') λd zs q'=>q'
   rcases hd with rfl | hd
   ·exact kk d o (nE d v e) q'
   ·exact kk d o (nE d _ hd) q'
 self:=λA i s Q E st h=>wpAny_pyIter_zip st.1 h
theorem zip_apart (n a b : Nat) (ha : a < n) (hb : b < n) : ZipApart (n + 4) (n + 2) (n + 3) n (n + 1) a b :=
  ⟨show (n + 2 : Nat) ≠ n + 4 by omega, show (n + 3 : Nat) ≠ n + 4 by omega, show (n : Nat) ≠ n + 4 by omega, show (n + 1 : Nat) ≠ n + 4 by omega, show (n + 2 : Nat) ≠ n + 3 by omega, show (n + 2 : Nat) ≠ n by omega, show (n + 2 : Nat) ≠ n + 1 by omega, show (n + 3 : Nat) ≠ n by omega, show (n + 3 : Nat) ≠ n + 1 by omega, show (n : Nat) ≠ n + 1 by omega,
   show (a : Nat) ≠ n + 4 by omega, show (a : Nat) ≠ n + 3 by omega, show (a : Nat) ≠ n by omega, show (a : Nat) ≠ n + 1 by omega, show (b : Nat) ≠ n + 4 by omega, show (b : Nat) ≠ n + 3 by omega, show (b : Nat) ≠ n by omega, show (b : Nat) ≠ n + 1 by omega⟩
theorem boot_zip:bootBuiltins "zip"=some (.type "zip"):=by decide +kernel
section
variable {X:Cx}
def mZip (K:W.Frag)(ta:TA):TI:=λσ H R=>ta σ H λvs H1=>match vs with
 | [.ref a,.ref b]=>(∃ xs,SqL K H1 a xs)/\(∃ ys,SqL K H1 b ys)/\R (Itz K a b) H1
 | _=>False
theorem qi_zip {es:List Expr}{k:Nat}{tpos:Pos}{l m:Expr}{ta:TA}{p pos:Pos}(hg:Gl X "zip")(hm:X.mg "zip"=none)(ha:QA X [l,m] ta):QI X (.Tuple es k tpos) (.Call (.Name "zip" p) [l,m] [] pos) (mZip X.K ta):=⟨by
 intro pins s σ H R I h
 have hp:=ha.p
 have h2:[m].all plainE=true:=by simp only[List.all_cons,List.all_nil,Bool.and_true,Bool.and_eq_true] at hp ⊢;exact hp.2
 have h1:plainE l=true:=by simp only[List.all_cons,List.all_nil,Bool.and_true,Bool.and_eq_true] at hp;exact hp.1
 refine Call_ (ld_blt I hg hm boot_zip (PyProof.Rows.callWith_type1 (thn (ha.h pos pins s σ H _ I h) λus s1 ⟨vs,H1,I1,r1,q1⟩=>?_) (star_plain h1) (any_plain h2)))
 dsimp only at q1
 split at q1
 ·rename_i a b
  obtain⟨⟨xs,hxs⟩,⟨ys,hys⟩,q⟩:=q1
  cases r1 with
  | cons ra rr =>
   cases rr with
   | cons rb rr =>
    cases rr
    cases ra
    cases rb
    obtain⟨its,rv,pl,hz⟩:=I1.list hxs
    obtain⟨jts,rw',ql,hz'⟩:=I1.list hys
    refine call_zip_2 pl.isList ql.isList λh' a1 a2 a3 a4 a5 a6 hk=>?_
    have I2:Inv X pins σ H1 { s1 with heap:=h' }:=I1.kept (t':=s1.toks) hk
    have la:a<s1.heap.objs.size:=by obtain⟨o,e,_⟩:=pl.isList;exact Heap.lt_size e
    have lb:b<s1.heap.objs.size:=by obtain⟨o,e,_⟩:=ql.isList;exact Heap.lt_size e
    have D:ZipApart (s1.heap.objs.size+4) (s1.heap.objs.size+2) (s1.heap.objs.size+3) s1.heap.objs.size (s1.heap.objs.size+1) a b:=by
     exact zip_apart _ a b la lb
    refine wpAny_pyIter_zip a1 ⟨s1.heap.objs.size+4,_,_,Itz X.K a b,H1,rfl,I2,turn_zip a b _ _ _ _ _ D,⟨a1,a2,⟨_,_,a3⟩,a4,a5⟩,λc hc=>?_,q⟩
    have hc':s1.heap.objs.size<=c:=by
     simp only[List.mem_cons,List.not_mem_nil,or_false] at hc
     rcases hc with rfl | rfl | rfl | rfl | rfl
     ·exact Nat.le_add_right _ _
     ·exact Nat.le_add_right _ _
     ·exact Nat.le_add_right _ _
     ·exact Nat.le_refl _
     ·exact Nat.le_add_right _ _
    exact I1.fpOk hc' (I1.hok.fresh hc')
 ·exact q1.elim⟩
end
section
variable {g:TG}{tt:TT}{te:TE}{σ0:St}{H1:Hp}{Q:Addr->Hp->Prop}{K:W.Frag}
theorem comp_zip {a b:Addr}(xs ys:List V)(hlen:xs.length=ys.length)(R:Nat->Addr->St->Hp->List V->Prop)
  (h0:∀ D H',H1 D=none->Same H1 H'->H' D=some (.lst [])->R 0 D σ0 H' [])
  (hl:∀ i D σ H zs,H1 D=none->R i D σ H zs->SqL K H a xs/\SqL K H b ys)
  (hs:∀ i x y T D σ H H' zs,xs[i]?=some x->ys[i]?=some y->H1 D=none->R i D σ H zs->H D=some (.lst zs)->H T=none->Same H H'->H' T=some (.tup [x,y])->Turn1 g tt te D zs (.ref T) σ H' (R (i+1) D))
  (hd:∀ D σ H zs,H1 D=none->R xs.length D σ H zs->H D=some (.lst zs)->Q D H):∀ D,H1 D=none->compRead (Itz K a b) D (upG g) (upT tt) (upE te) σ0 (upd H1 D (.lst [])) λH2=>Q D H2:=by
 intro D hD
 refine⟨λi m σ H=>m=xs.length-i/\i<=xs.length/\∃ zs,H D=some (.lst zs)/\R i D σ H zs,⟨xs.length,by simp,Nat.zero_le _,[],upd_same,h0 D _ hD (same_upd hD) upd_same⟩,?_⟩
 rintro i m σ H ⟨rfl,hi,zs,e,r⟩
 obtain⟨q1,q2⟩:=hl i D σ H zs hD r
 by_cases hlt:i<xs.length
 ·have hlt2:i<ys.length:=by omega
  refine .inr ⟨⟨xs,ys,xs[i],ys[i],q1,q2,by simp[hlt],by simp[hlt2]⟩,λσ H=>∃ zs,H D=some (.lst zs)/\R (i+1) D σ H zs,λσ' H' p'=>⟨xs.length-(i+1),by omega,rfl,hlt,p'⟩,λx H' y=>?_⟩
  obtain⟨T,v,w',hT,rfl,rfl,y1,y2⟩:=y
  exact turn1_ok (hs i v w' T D σ H _ zs (y1 xs q1) (y2 ys q2) hD r e hT (same_upd hT) upd_same) λσ H zs e r=>⟨zs,e,r⟩
 ·have ei:i=xs.length:=by omega
  subst ei
  exact .inl ⟨⟨xs,ys,q1,q2,.inl (Nat.le_refl _)⟩,hd D σ H zs hD r e⟩
end
end L2
namespace L2
open PySem PySem.Spec PyProof.Rows
section
variable {X:Cx}{K:W.Frag}{e a b c o tg:Expr}{es rest:List Expr}{te ta tb tc to:TE}{t:TA}{pos p p2:Pos}{x:Str}
theorem kg_tup {k:Nat}{u:TGs}(hK:X.K=K)(hc:X.calm=true)(h:QGs X es u):QG X (.Tuple es k pos) (gTm K es.length u):=hK▸qg_tup hc h
theorem ki_list (hK:X.K=K)(h:QE X e te):QI X tg e (mItL K te):=hK▸qi_list h
theorem ki_enum {k:Nat}(hK:X.K=K)(hg:Gl X "enumerate")(hm:X.mg "enumerate"=none)(h:QA X [a] t):QI X (.Tuple es k p2) (.Call (.Name "enumerate" p) [a] [] pos) (mEnum K t):=hK▸qi_enum hg hm h
theorem ki_zip {k:Nat}(hK:X.K=K)(hg:Gl X "zip")(hm:X.mg "zip"=none)(h:QA X [a,b] t):QI X (.Tuple es k p2) (.Call (.Name "zip" p) [a,b] [] pos) (mZip K t):=hK▸qi_zip hg hm h
theorem ke_not (hK:X.K=K)(ha:QE X a ta):QE X (.UnaryOp .Not a pos) (mNotV K ta):=hK▸qe_not ha
theorem ke_and (hK:X.K=K)(ha:QE X a ta)(hb:QE X (.BoolOp .And (b::rest) pos) tb):QE X (.BoolOp .And (a::b::rest) pos) (mAndV K ta tb):=hK▸qe_and ha hb
theorem ke_slice {lo hi:Option Expr}{tl th:TO}(hK:X.K=K)(he:QE X e te)(hl:QO X lo tl)(hu:QO X hi th):QE X (.Subscript e (.Slice lo hi none p2) pos) (tSl (vSl K) te tl th):=hK▸qe_slice he hl hu
theorem ke_ix (hK:X.K=K)(ha:QE X a ta)(hb:QE X b tb)(hs:PlainIx b):QE X (.Subscript a b pos) (tOp (vIx K) ta tb):=hK▸qe_ix ha hb hs
theorem ke_m1 {name:Str}{T id:String}{r:V->List V->Hp->VK->Prop}(hK:X.K=K)(pa:PlainAttrs T)(slot:Slot T name id)(hty:typeOf (.builtin id)=pure (.type "method_descriptor"))(hm:MtR X id r)(ho:QE X o to)(ha:QE X e te)
  (hp:plainE e=true:=by rfl) (hbase:attributeBase o name X.env (eval o X.env)=eval o X.env:=by rfl) (hline:(p.endLine == pos.line)=true:=by rfl):QE X (.Call (.Attribute o name p) [e] [] pos) (tBM K T r to (tCons te tNil)):=hK▸qe_m1 pa slot hty hm ho ha hp hbase hline
theorem kt_val (hK:X.K=K)(ha:QE X a ta)(he:∀ whole,isTrue a X.env whole=(do let v <- whole;standAt a.pos;holding [v] (truthy v)):=by intro _;rfl):QT X a (mT K ta):=hK▸qt_val ha he
theorem kSum (hK:X.K=K)(hc:X.calm=true):CallR X (.builtin "sum") (vSum K):=hK▸callSum hc
theorem kMax (hK:X.K=K)(hc:X.calm=true):CallR X (.builtin "max") (vMax K):=hK▸callMax hc
theorem kMin (hK:X.K=K)(hc:X.calm=true):CallR X (.builtin "min") (vMin K):=hK▸callMin hc
theorem kLen (hK:X.K=K):CallR X (.builtin "len") (vLen K):=hK▸callLen
theorem kList (hK:X.K=K):CallR X (.type "list") (vCopy K):=hK▸callList
theorem kSorted (hK:X.K=K):CallR X (.builtin "sorted") (vSorted K):=hK▸callSorted
def vClr:V->List V->Hp->VK->Prop:=λx vs H Q=>match x,vs with
 | .ref a,[]=>hClr a H Q
 | _,_=>False
end
section
variable {X:Cx}
theorem paired_at {α β:Type}{R:α->β->Prop}:∀ {xs:List α} {ys:List β},Paired R xs ys->∀ (j:Nat) {x:α} {y:β},xs[j]?=some x->ys[j]?=some y->R x y
 | _,_,.nil,j,_,_,h,_=>by simp at h
 | _,_,.cons r t,0,_,_,h1,h2=>by simp at h1 h2;subst h1;subst h2;exact r
 | _,_,.cons r t,j+1,_,_,h1,h2=>paired_at t j (by simpa using h1) (by simpa using h2)
theorem all_true (n:Nat):((List.range n).all λ_=>true)=true:=by simp
theorem seq_same {pins:List (Addr×Obj)}{σ:St}{H:Hp}{s:Shared}{n:Nat}{A:Around}{xs ys:List V}{us vs:List Value}{ds:List PyData}
  (ih:∀ (x y:V) (u v:Value) (d:PyData),RV n H x d->RV n H y d->RelV x u->RelV y v->SeqAt.EqAt A s u v true) (p1:Paired (RV n H) xs ds) (p2:Paired (RV n H) ys ds) (r1:Vals xs us) (r2:Vals ys vs) :
  us.toArray.size=vs.toArray.size/\∀ j (h1:j<us.toArray.size) (h2:j<vs.toArray.size),SeqAt.EqAt A s us.toArray[j] vs.toArray[j] ((λ_=>true) j):=by
 have l1:=Paired.length p1
 have l2:=Paired.length p2
 have l3:=Paired.length r1
 have l4:=Paired.length r2
 refine⟨by simp only[List.size_toArray];omega,λj h1 h2=>?_⟩
 have h1':j<us.length:=by simpa using h1
 have h2':j<vs.length:=by simpa using h2
 have hx:j<xs.length:=by omega
 have hy:j<ys.length:=by omega
 have hd:j<ds.length:=by omega
 exact ih xs[j] ys[j] _ _ ds[j] (paired_at p1 j (List.getElem?_eq_getElem hx) (List.getElem?_eq_getElem hd)) (paired_at p2 j (List.getElem?_eq_getElem hy) (List.getElem?_eq_getElem hd))
  (paired_at r1 j (List.getElem?_eq_getElem hx) (by simp[h1'])) (paired_at r2 j (List.getElem?_eq_getElem hy) (by simp[h2']))
inductive RdP (n:Nat)(H:Hp)(h:Heap)(a:Addr):PyData->Prop where
 | lst {xs:List V} {us:List Value} {ds:List PyData} (p:Paired (RV n H) xs ds) (r:Vals xs us) (l:h.IsList a us.toArray):RdP n H h a (.list ds)
 | tup {xs:List V} {us:List Value} {ds:List PyData} (p:Paired (RV n H) xs ds) (r:Vals xs us) (l:h.IsTuple a us.toArray):RdP n H h a (.tuple ds)
theorem rdP_of {pins:List (Addr×Obj)}{σ:St}{H:Hp}{s:Shared}(I:Inv X pins σ H s){n:Nat}{a:Addr}{d:PyData}(h:RV (n+1) H (.ref a) d):RdP n H s.heap a d:=by
 rcases (show (∃ xs ds,Rd H a (.lst xs)/\d=.list ds/\Paired (RV n H) xs ds)\/∃ xs ds,Rd H a (.tup xs)/\d=.tuple ds/\Paired (RV n H) xs ds from h) with ⟨xs,ds,h1,rfl,h3⟩ | ⟨xs,ds,h1,rfl,h3⟩
 ·obtain⟨us,r,p,_⟩:=I.list (.inl h1)
  exact .lst h3 r p.isList
 ·obtain⟨us,r,p,_⟩:=I.tuple (.inl h1)
  exact .tup h3 r p
def flatD:V->Option PyData
 | .non=>some .none
 | .bl b=>some (.bool b)
 | .int i=>some (.int i)
 | .str x=>some (.str x)
 | _=>none
theorem rv_scal {n : Nat} {H : Hp} {x : V} {d : PyData} (h : RV n H x d) (hx : ∀ a, x ≠ .ref a) : flatD x = some d := by
  cases x with
  | non => have e : d = .none := by cases n <;> exact h
           rw [e]; rfl
  | bl b => have e : d = .bool b := by cases n <;> exact h
            rw [e]; rfl
  | int i => have e : d = .int i := by cases n <;> exact h
             rw [e]; rfl
  | str i => have e : d = .str i := by cases n <;> exact h
             rw [e]; rfl
  | ref a => exact absurd rfl (hx a)
  | byt b => cases n <;> exact (show False from h).elim
  | flt b => cases n <;> exact (show False from h).elim
  | ty b => cases n <;> exact (show False from h).elim
theorem rv_ref {n:Nat}{H:Hp}{a:Addr}{d:PyData}(h:RV n H (.ref a) d):(∃ ds,d=.list ds)\/∃ ds,d=.tuple ds:=by
 cases n with
 | zero=>exact(show False from h).elim
 | succ n =>
  rcases (show (∃ xs ds,Rd H a (.lst xs)/\d=.list ds/\Paired (RV n H) xs ds)\/∃ xs ds,Rd H a (.tup xs)/\d=.tuple ds/\Paired (RV n H) xs ds from h) with ⟨xs,ds,_,e,_⟩ | ⟨xs,ds,_,e,_⟩
  ·exact .inl ⟨ds,e⟩
  ·exact .inr ⟨ds,e⟩
theorem flat_no {x:V}{d:PyData}(h:flatD x=some d):(∀ ds,d≠.list ds)/\∀ ds,d≠.tuple ds:=by
 cases x<;>simp[flatD] at h<;>subst h<;>exact⟨λds e=>(by cases e),λds e=>(by cases e)⟩
theorem flat_inj {x y:V}{d:PyData}(h1:flatD x=some d)(h2:flatD y=some d):x=y:=by
 cases x<;>simp[flatD] at h1<;>subst h1<;>cases y<;>simp[flatD] at h2<;>first | rfl | (subst h2;rfl)
theorem both_flat {n:Nat}{H:Hp}{x y:V}{d:PyData}(h1:RV n H x d)(h2:RV n H y d)(hx:∀ a,x≠.ref a):x=y:=by
 have f1:=rv_scal h1 hx
 refine flat_inj f1 (rv_scal h2 λb e=>?_)
 subst e
 rcases rv_ref h2 with ⟨ds,e⟩ | ⟨ds,e⟩
 ·exact(flat_no f1).1 ds e
 ·exact(flat_no f1).2 ds e
theorem rel_same {x:V}{u v:Value}{d:PyData}{A:Around}{s:Shared}(hf:flatD x=some d)(r1:RelV x u)(r2:RelV x v):SeqAt.EqAt A s u v true:=by
 cases x with
 | non=>cases r1;cases r2;exact SeqAt.EqAt.same _
 | bl b=>cases r1;cases r2;exact SeqAt.EqAt.same _
 | int i =>
  obtain⟨t,rfl⟩:=r1
  obtain⟨t',rfl⟩:=r2
  have:=SeqAt.EqAt.int_int (A:=A) (s:=s) i t i t'
  rw[beq_self_eq_true] at this
  exact this
 | str i =>
  obtain⟨t,rfl⟩:=r1
  obtain⟨t',rfl⟩:=r2
  have:=SeqAt.EqAt.str_str (A:=A) (s:=s) i t i t'
  rw[beq_self_eq_true] at this
  exact this
 | _=>cases hf
theorem rv_flat {n:Nat}{H:Hp}{x y:V}{u v:Value}{d:PyData}{A:Around}{s:Shared}(h1:RV n H x d)(h2:RV n H y d)(r1:RelV x u)(r2:RelV y v)(hx:∀ a,x≠.ref a):SeqAt.EqAt A s u v true:=by
 have e:=both_flat h1 h2 hx
 subst e
 exact rel_same (rv_scal h1 hx) r1 r2
theorem eqAt_rv {pins:List (Addr×Obj)}{σ:St}{H:Hp}{s:Shared}(I:Inv X pins σ H s):∀ (n:Nat) (A:Around),A.units+n<cLine->∀ (x y:V) (u v:Value) (d:PyData),RV n H x d->RV n H y d->RelV x u->RelV y v->SeqAt.EqAt A s u v true:=by
 intro n
 induction n with
 | zero =>
  intro A hA x y u v d h1 h2 r1 r2
  refine rv_flat h1 h2 r1 r2 λa e=>?_
  subst e
  exact(show False from h1)
 | succ n ih =>
  intro A hA x y u v d h1 h2 r1 r2
  by_cases hx:∃ a,x=.ref a
  ·obtain⟨a,rfl⟩:=hx
   by_cases hy:∃ b,y=.ref b
   ·obtain⟨b,rfl⟩:=hy
    cases r1
    cases r2
    by_cases hab:a=b
    ·subst hab;exact SeqAt.EqAt.same _
    have ih':=ih A.in1 (by show A.units+1+n<cLine;omega)
    have hu:A.units<cLine:=by omega
    cases rdP_of I h1 with
    | lst p1 q1 l1 =>
     cases rdP_of I h2 with
     | lst p2 q2 l2 =>
      obtain⟨z1,z2⟩:=seq_same (pins:=pins) (σ:=σ) ih' p1 p2 q1 q2
      have:=SeqAt.RcAt.lists (A:=A) l1 l2 z1 hu z2
      rw[all_true] at this
      exact SeqAt.EqAt.of_refs hab this
    | tup p1 q1 l1 =>
     cases rdP_of I h2 with
     | tup p2 q2 l2 =>
      obtain⟨z1,z2⟩:=seq_same (pins:=pins) (σ:=σ) ih' p1 p2 q1 q2
      have:=SeqAt.RcAt.tuples (A:=A) l1 l2 hu z2
      rw[all_true,z1,beq_self_eq_true] at this
      exact SeqAt.EqAt.of_refs hab this
   ·exact absurd ⟨a,(both_flat h2 h1 λb e=>hy ⟨b,e⟩)⟩ hy
  ·exact rv_flat h1 h2 r1 r2 λa e=>hx ⟨a,e⟩
@[irreducible] def hEqR (K:W.Frag)(a b:Addr)(H:Hp)(Q:Bool->Hp->Prop):Prop:=hEqL K a b H Q\/∃ n d,n<=20/\RV (n+1) H (.ref a) d/\RV (n+1) H (.ref b) d/\Q true H
theorem i_eqD {K:W.Frag}{a b:Addr}{H:Hp}{Q:Bool->Hp->Prop}{d:PyData}(n:Nat)(hn:n<=20)(h1:RV (n+1) H (.ref a) d)(h2:RV (n+1) H (.ref b) d)(q:Q true H):hEqR K a b H Q:=by unfold hEqR;exact .inr ⟨n,d,hn,h1,h2,q⟩
theorem i_eqI {K:W.Frag}{a b:Addr}{H:Hp}{Q:Bool->Hp->Prop}{ns ms:List Int}(h1:SqL K H a (ns.map V.int))(h2:SqL K H b (ms.map V.int))(q:Q (decide (ns=ms)) H):hEqR K a b H Q:=by unfold hEqR;exact .inl (i_eqL h1 h2 q)
def vEqG (K:W.Frag)(n:Bool->Bool):R2:=λx y H Q=>match x,y with
 | .int i,.int j=>Q (.bl (n (decide (i=j)))) H
 | .str i,.str j=>Q (.bl (n (decide (i=j)))) H
 | .bl i,.bl j=>Q (.bl (n (decide (i=j)))) H
 | .non,.non=>Q (.bl (n true)) H
 | .non,.int _=>Q (.bl (n false)) H
 | .int _,.non=>Q (.bl (n false)) H
 | .non,.bl _=>Q (.bl (n false)) H
 | .bl _,.non=>Q (.bl (n false)) H
 | .ref a,.ref b=>hEqR K a b H λr H'=>Q (.bl (n r)) H'
 | _,_=>False
theorem kEqG {K:W.Frag}{k:Nat}(hK:X.K=K)(hr:Room k X.A):OpR X (compareOp .Eq) (vEqG K id):=by
 subst hK
 intro pins s σ H x y v u Q I rx ry h
 cases x<;>cases y<;>first
  | exact(show False from h).elim
  | exact op_eq pins s σ H _ _ v u Q I rx ry ⟨rfl,by rw[dI];exact h⟩
  | exact op_eq pins s σ H _ _ v u Q I rx ry ⟨rfl,by rw[dS];exact h⟩
  | exact op_eq pins s σ H _ _ v u Q I rx ry ⟨rfl,by rw[dB];exact h⟩
  | exact op_eq pins s σ H _ _ v u Q I rx ry ⟨rfl,h⟩
  | skip
 rename_i a b
 have h:=(show hEqR X.K a b H _ from h)
 unfold hEqR at h
 rcases h with h | ⟨n,d,hn,h1,h2,q⟩
 ·unfold hEqL at h;obtain⟨xs,ys,h1,h2,h3⟩:=h;exact op_eqI hr pins s σ H _ _ v u Q I rx ry ⟨_,_,xs,ys,rfl,rfl,h1,h2,h3⟩
 ·cases rx
  cases ry
  have hu:=hr.units
  have ih:=eqAt_rv I n X.A.in1 (by show X.A.units+1+n<cLine;omega)
  cases rdP_of I h1 with
  | lst p1 q1 l1 =>
   cases rdP_of I h2 with
   | lst p2 q2 l2 =>
    obtain⟨z1,z2⟩:=seq_same (pins:=pins) (σ:=σ) ih p1 p2 q1 q2
    exact SeqAt.eq_listAt l1 l2 z1 (by omega) z2 (by rw[all_true];exact⟨.bl true,H,I,rfl,q⟩)
  | tup p1 q1 l1 =>
   cases rdP_of I h2 with
   | tup p2 q2 l2 =>
    obtain⟨z1,z2⟩:=seq_same (pins:=pins) (σ:=σ) ih p1 p2 q1 q2
    exact SeqAt.eq_tupleAt l1 l2 (by omega) z2 (by rw[all_true,z1,beq_self_eq_true];exact⟨.bl true,H,I,rfl,q⟩)
theorem kNeG {K:W.Frag}{k:Nat}(hK:X.K=K)(hr:Room k X.A):OpR X (compareOp .NotEq) (vEqG K not):=by
 subst hK
 intro pins s σ H x y v u Q I rx ry h
 cases x<;>cases y<;>first
  | exact(show False from h).elim
  | exact op_ne pins s σ H _ _ v u Q I rx ry ⟨rfl,by rw[dI];exact h⟩
  | exact op_ne pins s σ H _ _ v u Q I rx ry ⟨rfl,by rw[dS];exact h⟩
  | exact op_ne pins s σ H _ _ v u Q I rx ry ⟨rfl,by rw[dB];exact h⟩
  | exact op_ne pins s σ H _ _ v u Q I rx ry ⟨rfl,h⟩
  | skip
 rename_i a b
 have h:=(show hEqR X.K a b H _ from h)
 unfold hEqR at h
 have hu:=hr.units
 rcases h with h | ⟨n,d,hn,h1,h2,q⟩
 ·unfold hEqL at h
  obtain⟨ns,ms,h1,h2,qq⟩:=h
  cases rx;cases ry
  obtain⟨its,r1,p1,_⟩:=I.list h1
  obtain⟨its2,r2,p2,_⟩:=I.list h2
  have i1:=intsAre_of r1
  have i2:=intsAre_of r2
  have l1:=r1.length
  have l2:=r2.length
  rw[List.length_map] at l1 l2
  by_cases hl:ns.length=ms.length
  ·refine SeqAt.RcNeAt.lists (e:=λj=>decide (ns.getD j 0=ms.getD j 0)) p1.isList p2.isList (by simp only[List.size_toArray];omega) hr.units0 (λj a1 a2=>?_) _ _ _ _ ?_
   ·obtain⟨t1,e1⟩:=ints_at i1 j a1
    obtain⟨t2,e2⟩:=ints_at i2 j a2
    rw[e1,e2]
    have:=SeqAt.EqAt.int_int (A:=X.A.in1) (s:=s) (ns.getD j 0) t1 (ms.getD j 0) t2
    rw[Bool.beq_eq_decide_eq] at this
    exact this
   ·rw[show its.toArray.size=ns.length by simp only[List.size_toArray];omega,all_range_eq ns ms hl]
    exact⟨.bl _,H,I,rfl,qq⟩
  ·refine SeqAt.RcNeAt.lists_lengths p1.isList p2.isList (by simp only[List.size_toArray,bne_iff_ne];omega) hr.units0 _ _ _ _ ⟨.bl true,H,I,rfl,?_⟩
   have:decide (ns=ms)=false:=decide_eq_false λe=>hl (by rw[e])
   rw[this] at qq
   exact qq
 ·cases rx
  cases ry
  have ih:=eqAt_rv I n X.A.in1 (by show X.A.units+1+n<cLine;omega)
  cases rdP_of I h1 with
  | lst p1 q1 l1 =>
   cases rdP_of I h2 with
   | lst p2 q2 l2 =>
    obtain⟨z1,z2⟩:=seq_same (pins:=pins) (σ:=σ) ih p1 p2 q1 q2
    exact SeqAt.RcNeAt.lists l1 l2 z1 (by omega) z2 _ _ _ _ (by rw[all_true];exact⟨.bl false,H,I,rfl,q⟩)
  | tup p1 q1 l1 =>
   cases rdP_of I h2 with
   | tup p2 q2 l2 =>
    obtain⟨z1,z2⟩:=seq_same (pins:=pins) (σ:=σ) ih p1 p2 q1 q2
    exact SeqAt.RcNeAt.tuples l1 l2 (by omega) z2 _ _ _ _ (by rw[all_true,z1,beq_self_eq_true];exact⟨.bl false,H,I,rfl,q⟩)
end
end L2
namespace L2
open PySem PySem.Spec PyProof.Rows
section
variable {X:Cx}
end
end L2
namespace L2
open PySem PySem.Spec PyProof.Rows
section
variable {X:Cx}{e st:Expr}{te:TE}{ts:TO}{p2 pos:Pos}{K:W.Frag}
@[irreducible] def hRev (K:W.Frag)(a:Addr)(H:Hp)(Q:VK):Prop:=∃ xs,SqL K H a xs/\∀ p,H p=none->Q (.ref p) (upd H p (.lst xs.reverse))
theorem i_rev {a:Addr}{H:Hp}{Q:VK}{xs:List V}(h:SqL K H a xs)(q:∀ p H',H p=none->Same H H'->H' p=some (.lst xs.reverse)->Q (.ref p) H'):hRev K a H Q:=by
 unfold hRev;exact⟨xs,h,λp hp=>q p _ hp (same_upd hp) upd_same⟩
def mRev (K:W.Frag)(te:TE)(ts:TO):TE:=λσ H Q=>te σ H λx H1=>ts σ H1 λs H2=>match x,s with
 | .ref a,some k=>k=-1/\hRev K a H2 Q
 | _,_=>False
theorem Vals.rev:∀ {xs:List V} {us:List Value},Vals xs us->Vals xs.reverse us.reverse
 | _,_,.nil=>.nil
 | _,_,.cons r t=>by rw[List.reverse_cons,List.reverse_cons];exact(Vals.rev t).append (.cons r .nil)
theorem qe_rev (hK:X.K=K)(he:QE X e te)(hs:QO X (some st) ts)(hsub:∀ v sl,subscripted (.Slice none none (some st) p2) false v sl=operate [v,sl] (getItem v sl):=by intro _ _;rfl):QE X (.Subscript e (.Slice none none (some st) p2) pos) (mRev K te ts):=⟨by
 subst hK
 intro pins s σ H Q I h
 refine Subscript_ (thn (he.h pins s σ H _ I h) λv s1 ⟨x,H1,I1,r1,q1⟩=>?_)
 refine wpAny_Slice ?_
 rw[evalPart_none]
 refine wpAny_pure ?_
 refine wpAny_pure ?_
 refine thn (hs.h pins s1 σ H1 _ I1 q1) λvk s2 ⟨k,H2,I2,pk,q2⟩=>?_
 have I3:Inv X pins σ H2 { s2 with heap:=s2.heap.push { cls:=.type "slice",data:=.fields #[.none,.none,vk] } }:=I2.kept (t':=s2.toks) λb ob q=>Heap.get?_push_of_some _ q
 cases x with
 | ref a =>
  cases k with
  | none=>exact(show False from q2).elim
  | some k =>
   obtain⟨rfl,q⟩:=(show k=-1/\hRev X.K a H2 Q from q2)
   unfold hRev at q
   obtain⟨xs,hx,q⟩:=q
   cases r1
   obtain⟨its,r,ht,hz⟩:=I3.list hx
   have hlen:=r.length
   have hg:wpAny (model X.prog X.w) X.A (getItem (.ref a) (.ref s2.heap.objs.size)) (EP X pins σ Q) X.xe { s2 with heap:=s2.heap.push { cls:=.type "slice",data:=.fields #[.none,.none,vk] } }:=by
    refine wpAny_getItem_list_slice ht.isList (Heap.IsSliceOf.new ..) .none .none pk (by decide) ?_ (by rw[List.size_toArray];omega)
    rw[W.krv_pick]
    refine⟨.ref _,_,I3.laid (t':=s2.toks) (o:=.lst xs.reverse) (λb ob q=>Heap.get?_push_of_some _ q) (Nat.le_refl _) ?_,rfl,q _ (I3.hok.fresh (Nat.le_refl _))⟩
    exact⟨by rw[List.length_reverse];exact hz,_,0,Vals.rev r,Heap.get?_push_size _ rfl⟩
   exact tail_any (ops:=[.ref a,.ref s2.heap.objs.size]) (ht.isList.typeIs) slot_list_getitem.lookup hg (hsub _ _)
 | _=>exact(show False from q2).elim⟩
end
end L2
namespace L2
open PySem PySem.Spec PyProof.Rows
section
variable {X:Cx}{K:W.Frag}{e t1 t2:Expr}{es:List Expr}{te:TE}{pos p p2:Pos}
end
end L2
namespace L2
open PySem PySem.Spec PyProof.Rows
section
variable {X:Cx}
@[irreducible] def hPopAt (a:Addr)(i:Int)(H:Hp)(Q:VK):Prop:=∃ xs k y,H a=some (.lst xs)/\-(2 ^ 63)<=i/\i<2 ^ 63/\seqIndex? i xs.length=some k/\xs[k]?=some y/\Q y (upd H a (.lst (xs.eraseIdx k)))
def vPopAt:V->List V->Hp->VK->Prop:=λx vs H Q=>match x,vs with
 | .ref a,[.int i]=>hPopAt a i H Q
 | _,_=>False
theorem mtPopAt:MtM X "list.pop" vPopAt:=by
 intro pins s σ H x vs v us Q I rx rv h
 unfold vPopAt at h
 split at h
 ·unfold hPopAt at h;obtain⟨xs,k,y,h1,h2,h3,h4,h5,h6⟩:=h;exact mt_popAt pins s σ H _ _ v us Q I rx rv ⟨_,xs,_,k,y,rfl,rfl,h1,h2,h3,h4,h5,h6⟩
 ·exact h.elim
theorem i_popAt {a:Addr}{i:Int}{H:Hp}{Q:VK}{xs:List V}{y:V}(k:Nat)(h:H a=some (.lst xs))(hi:i=k)(hk:k<1000000)(e:xs[k]?=some y)(q:∀ H',Kp [a] H H'->H' a=some (.lst (xs.eraseIdx k))->Q y H'):hPopAt a i H Q:=by
 have hl:k<xs.length:=(List.getElem?_eq_some_iff.mp e).1
 subst hi
 unfold hPopAt
 refine⟨xs,k,y,h,by omega,by omega,?_,e,q _ kp_upd upd_same⟩
 unfold seqIndex?
 have e1:¬ ((k:Int)<0):=by omega
 simp only[if_neg e1]
 rw[if_pos (by simp;omega)]
 simp
def vAbs:List V->Hp->VK->Prop:=λxs H Q=>match xs with
 | [.int i]=>Q (.int (if i<0 then -i else i)) H
 | _=>False
theorem callAbs:CallR X (.builtin "abs") vAbs:=call_abs.imp λxs H Q h=>by
 unfold vAbs at h;split at h
 ·exact⟨_,rfl,h⟩
 ·exact h.elim
end
end L2
namespace L2
open PySem PySem.Spec PyProof.Rows
section
variable {g:TG}{tt:TT}{te:TE}{σ0:St}{H1:Hp}{Q:Addr->Hp->Prop}{K:W.Frag}
end
end L2
namespace L2
open PySem PySem.Spec PyProof.Rows
section
variable {X:Cx}
@[irreducible] def hIndex (a:Addr)(z:Int)(H:Hp)(Q:VK):Prop:=∃ (ns:List Int) (j:Nat),H a=some (.lst (ns.map V.int))/\ns[j]?=some z/\(∀ i,i<j->ns[i]?≠some z)/\Q (.int j) H
def vIndex:V->List V->Hp->VK->Prop:=λx vs H Q=>match x,vs with
 | .ref a,[.int z]=>hIndex a z H Q
 | _,_=>False
def isInt (z:Int):Value->Bool
 | .int a _=>a == z
 | _=>false
theorem mtIndex:MtM X "list.index" vIndex:=by
 intro pins s σ H x vs v us Q I rx rv h
 unfold vIndex at h
 split at h
 ·rename_i a z
  unfold hIndex at h
  obtain⟨ns,j,hH,hj,hno,q⟩:=h
  cases rx
  obtain⟨u,rfl,ru⟩:=rv.one
  obtain⟨t,rfl⟩:=ru
  obtain⟨zl,its,n,r,hl,e⟩:=I.lstM hH
  rw[List.length_map] at hl zl
  have it:∀ (i:Nat) (w:Value),its[i]?=some w->∃ (y:Int) (tk:Tok),ns[i]?=some y/\w=.int y tk:=λi w hw=>by
   have hi:i<its.length:=(List.getElem?_eq_some_iff.mp hw).1
   have hi2:i<ns.length:=by omega
   have hx:(ns.map V.int)[i]?=some (.int ns[i]):=by rw[List.getElem?_map,List.getElem?_eq_getElem hi2];rfl
   obtain⟨w',hw',rw'⟩:=r.get hx
   rw[hw] at hw'
   cases hw'
   obtain⟨tk,rfl⟩:=rw'
   exact⟨ns[i],tk,List.getElem?_eq_getElem hi2,rfl⟩
  have hj2:j<its.length:=by have:=(List.getElem?_eq_some_iff.mp hj).1;omega
  have sl:sizeLine<2 ^ 62:=by rw[sizeLine_eq];decide
  refine call_meets F.slot_list_index ⟨_,e,rfl⟩ F.entry_list_index (F.args_list_index_2 _ _)
   (MeetsSeq.list_index a its.toArray n (.int z t) (isInt z) (λy hy=>?_) j (by simpa using hj2) (by omega) ?_ (λm hm hmj=>?_)) ⟨e,?_⟩
  ·have hy':y∈its:=by simpa using hy
   obtain⟨i,hi⟩:=List.mem_iff_getElem?.mp hy'
   obtain⟨w,tk,_,rfl⟩:=it i y hi
   exact MeetsSeq.EqGives.int w z tk t
  ·obtain⟨w,tk,h1,h2⟩:=it j its[j] (List.getElem?_eq_getElem hj2)
   rw[hj] at h1
   cases h1
   show isInt z its[j]=true
   rw[h2];simp[isInt]
  ·have hm':m<its.length:=by simpa using hm
   obtain⟨w,tk,h1,h2⟩:=it m its[m] (List.getElem?_eq_getElem hm')
   show isInt z its[m]=false
   rw[h2]
   have:w≠z:=λq=>hno m hmj (q▸h1)
   simpa [isInt] using this
  ·exact⟨.int j,H,I.tok _,⟨_,rfl⟩,q⟩
 ·exact h.elim
end
end L2
namespace L2
open PySem PySem.Spec PyProof.Rows
section
variable {X:Cx}{K:W.Frag}{e o value:Expr}{es:List Expr}{te ta tv to:TE}{t:TA}{pos p p2 pos' apos:Pos}{f m x:Str}{C:Addr}
structure Mth (P:Program)(w:World)(K:W.Frag)(mg:Str->Option Value)(base:Heap)(k:Nat)(C:Addr)(m:Str)(ps:List Str)(sp:Sp):Prop where
 cl:Cls K C
 ex:∃ f fd,FnOk P w K mg base CX0 k f fd ps sp/\Binds K fd ps []/\Meth K C m f
structure Mkd (P:Program)(w:World)(K:W.Frag)(mg:Str->Option Value)(base:Heap)(k:Nat)(C:Addr)(x:Str)(ps:List Str)(sp:Sp):Prop where
 ex:∃ f fd,FnOk P w K mg base CX0 k f fd ps sp/\Binds K fd ps []/\Mk K C f/\mg x=some (.ref C)
structure KNum (mg:Str->Option Value)(x:Str)(n:Int):Prop where
 ex:∃ t,mg x=some (.int n t)
end
end L2
namespace L2
open PySem
section
variable {X:Cx}{K:W.Frag}
end
end L2
namespace L2
open PySem PySem.Spec PyProof.Rows
def nt (n:Int):Str:=Str.ofString (toString n)
section
variable {X:Cx}{K:W.Frag}{a b e:Expr}{ta tb te:TE}{pos p p2:Pos}{x:Str}
def vStr:List V->Hp->VK->Prop:=λxs H Q=>match xs with
 | [.int i]=>i.natAbs<10 ^ 40/\Q (.str (nt i)) H
 | _=>False
theorem callStr:CallR X (.type "str") vStr:=call_str_int.imp λxs H Q h=>by
 unfold vStr at h;split at h
 ·exact⟨_,rfl,log2_of h.1,h.2⟩
 ·exact h.elim
structure KTxt (mg:Str->Option Value)(x:Str)(z:Str):Prop where
 ex:∃ t,mg x=some (.str z t)
end
section
variable {X:Cx}{tg e:Expr}{te:TE}
end
end L2
namespace L2
open PySem PySem.Spec PyProof.Rows
theorem ObjOk.has {P:Program}{w:World}{H:Hp}{h:Heap}{a:Addr}{o:HO}(x:ObjOk P w H h a o):∃ ob,h.get? a=some ob:=by
 cases o with
 | lst xs=>obtain⟨_,_,_,_,e⟩:=x;exact⟨_,e⟩
 | tup xs=>obtain⟨_,_,_,ob,e,_⟩:=x;exact⟨_,e⟩
 | dK kvs=>obtain⟨_,_,_,_,o,_,_,e,_⟩:=x;exact⟨_,e⟩
 | dT kvs=>obtain⟨_,_,_,_,o,_,_,e,_⟩:=x;exact⟨_,e⟩
 | set S n=>obtain⟨o,_,_,_,e,_⟩:=x;exact⟨_,e⟩
 | ins C dx fs=>obtain⟨_,_,_,e,_⟩:=x;exact⟨_,e⟩
 | own y=>obtain⟨_,e⟩:=x;exact⟨_,e⟩
 | xd fs=>obtain⟨_,⟨_,_,_,e,_⟩,_⟩:=x;exact⟨_,e⟩
 | rng lo hi=>obtain⟨_,_,_,e⟩:=x;exact⟨_,e⟩
 | frz ob u=>obtain⟨e,_⟩:=x;exact⟨_,e⟩
 | tbl ps=>exact⟨_,show h.get? a=some _ from x⟩
 | met f y=>exact⟨_,show h.get? a=some _ from x⟩
 | ext φ=>obtain⟨_,⟨_,e⟩,_⟩:=x;exact⟨_,e⟩
structure Flies (P:Program)(w:World)(l:List Env)(H:Hp)(h0:Heap)(e:Addr)(cls:Value)(H':Hp)(h:Heap):Prop where
 un:Un (frs l) [] H H' h0 h
 hok:HOk P w H' h
 ex:∃ B t,Heap.FlyingW B l e cls (.ref t) h/\(∀ b o,H' b≠none->h.get? b=some o->B.get? b=some o)/\(∀ b o,h0.get? b=some o->H b=none->b∉frs l->B.get? b=some o) /\
  ∀ b o,h0.get? b=some o->b∉frs l->∃ o',B.get? b=some o'
 en:H' e=none
 new:h0.get? e=none
def CXe (P:Program)(w:World):CXT:=λl H s E ev s'=>∃ (e:Addr) (cls:Value) (H':Hp),ev=.ref e/\s'.os=s.os/\AllBare s'.gens/\Flies P w l H s.heap e cls H' s'.heap/\E cls none H'
section
variable {P:Program}{w:World}{K:W.Frag}{mg:Str->Option Value}{base:Heap}{N:List Str}{qual:Str}{scope:Scope}{f:Addr}{cd:Value}{A:Around}{outer:List Env}{s0:Shared}{H0:Hp}{E:XK}
abbrev cxE (P:Program)(w:World)(K:W.Frag)(mg:Str->Option Value)(base:Heap)(N:List Str)(qual:Str)(scope:Scope)(f:Addr)(cd:Value)(A:Around)(outer:List Env)(s0:Shared)(H0:Hp)(E:XK):Cx:=cxOf (CXe P w) P w K mg base N qual scope f cd A outer s0 H0 E
def Raises (X:Cx)(E:XK):Prop:=∀ (pins:List (Addr×Obj)) (σ:St) (H:Hp) (s:Shared) (C e:Addr) (vs:List Value) (h':Heap),Inv X pins σ H s->Heap.MadeExcOf s.heap h' e (.ref C) vs->E (.ref C) none H->X.xe (.ref e) { s with heap:=h' }
theorem frs_cons {env:Env}{l:List Env}{L:Addr}(hf:env.frame=some L){b:Addr}(h:b∈frs (env::l)):b=L\/b∈frs l:=by
 unfold frs at h
 rw[List.filterMap_cons,hf] at h
 exact List.mem_cons.mp h
theorem frs_sub {env:Env}{l:List Env}{b:Addr}(h:b∈frs l):b∈frs (env::l):=by
 obtain⟨v,hv,e⟩:=List.mem_filterMap.mp h
 exact List.mem_filterMap.mpr ⟨v,List.mem_cons_of_mem _ hv,e⟩
theorem raises_cxE:Raises (cxE P w K mg base N qual scope f cd A outer s0 H0 E) E:=by
 intro pins σ H s C e vs h' I hx hE
 let env:=envOfC qual scope s0.heap.objs.size f cd
 have hfr:(A.deeper env).frames=some (env::outer):=I.ok.frames
 have hstk:s.heap.FunFrames base (env::outer):=I.stack
 have hin:∀ v∈env::outer,∀ b,v.frame=some b->b∈frs (env::outer):=λv hv b hb=>List.mem_filterMap.mpr ⟨v,hv,hb⟩
 have hL:env.frame=some s0.heap.objs.size:=rfl
 show wpAny (model P w) (A.deeper env) (leaving env (.ref e)) _ _ _
 refine wpAny_leaves_madeW (base:=W.hideAll s.heap (frs (env::outer))) (h:=s.heap) hfr hL (λb o q=>W.of_hideAll _ q) (W.funFrames_hide hstk hin) hx λh2 t x1 x2 x3 x4=>?_
 have inB:∀ b o,s.heap.get? b=some o->b∉frs (env::outer)->(W.hideAll s.heap (frs (env::outer))).get? b=some o:=λb o q n=>W.hideAll_get _ q n
 have ups:s.heap.UpToSlots h2:=(Heap.UpToSlots.of_keeps hx.keeps).trans x4
 have nfr:∀ b,H b≠none->b∉frs (env::outer):=λb n m=>n (I.stkFree b m)
 have old:∀ b o,s0.heap.get? b=some o->b∉frs outer->b∉frs (env::outer):=λb o q n m=>by
  rcases frs_cons hL m with e | m
  ·exact absurd (Heap.lt_size q) (by rw[e];exact Nat.lt_irrefl _)
  ·exact n m
 have slotB:∀ b o,s.heap.get? b=some o->b∈frs (env::outer)->∃ sl,h2.get? b=some { o with slots:=sl }:=λb o q m=>by
  obtain⟨_,o',q',d⟩:=hstk.mem m
  rw[q] at q';cases q'
  exact ups b o q d
 have hbase:=I.base
 refine⟨e,.ref C,H,rfl,I.os,I.bare,⟨⟨?_,?_,?_,?_,hbase.tups,hbase.frzs,hbase.tbls⟩,?_,⟨_,t,x1,?_,?_,?_⟩,?_,?_⟩,hE⟩
 ·exact λb o q n hb he=>x1.1 _ _ (inB b o (hbase.keep b o q n hb he) (old b o q hb))
 ·intro b o q n hb he
  obtain⟨sl,e1⟩:=hbase.slot b o q n hb he
  obtain⟨sl',e2⟩:=slotB b _ e1 (frs_sub hb)
  exact⟨sl',e2⟩
 ·exact hbase.free
 ·intro b o q he
  obtain⟨o',e1⟩:=hbase.there b o q he
  by_cases m:b∈frs (env::outer)
  ·obtain⟨sl,e2⟩:=slotB b _ e1 m;exact⟨_,e2⟩
  ·exact⟨_,x1.1 _ _ (inB b _ e1 m)⟩
 ·intro a o q
  refine(I.hok a o q).stay (λb u hb q2=>x1.1 _ _ (inB b u q2 (nfr b ?_))) (λ_ z=>z) (λ_ _ z=>z)
  rcases hb with rfl | hb
  ·rw[q];exact λz=>nomatch z
  ·rw[hb];exact λz=>nomatch z
 ·intro b o n q
  cases hb:H b with
  | none=>exact absurd hb n
  | some u =>
   obtain⟨ob,e1⟩:=(I.hok b u hb).has
   have e2:=inB b ob e1 (nfr b n)
   have e3:=x1.1 _ _ e2
   rw[q] at e3;cases e3
   exact e2
 ·exact λb o q n hb=>inB b o (hbase.keep b o q n hb (λz=>nomatch z)) (old b o q hb)
 ·intro b o q hb
  obtain⟨o',e1⟩:=hbase.there b o q (λz=>nomatch z)
  exact⟨o',inB b o' e1 (old b o q hb)⟩
 ·cases hb:H e with
  | none=>rfl
  | some u =>
   obtain⟨ob,e1⟩:=(I.hok e u hb).has
   rw[hx.new] at e1;cases e1
 ·cases q:s0.heap.get? e with
  | none=>rfl
  | some o =>
   obtain⟨o',e1⟩:=hbase.there e o q (λz=>nomatch z)
   rw[hx.new] at e1;cases e1
theorem passes_cxE:Passes (CXe P w) (cxE P w K mg base N qual scope f cd A outer s0 H0 E) E:=by
 rintro pins σ H s ev s' I ⟨e,cls,H',rfl,os,bare,⟨un,hok,⟨B,t,fly,c1,c2,c3⟩,en,new⟩,hE⟩
 let env:=envOfC qual scope s0.heap.objs.size f cd
 have hfr:(A.deeper env).frames=some (env::outer):=I.ok.frames
 have hL:env.frame=some s0.heap.objs.size:=rfl
 have hstk:s.heap.FunFrames base (env::outer):=I.stack
 have fly:Heap.FlyingW B (env::outer) e cls (.ref t) s'.heap:=fly
 show wpAny (model P w) (A.deeper env) (leaving env (.ref e)) _ _ _
 refine wpAny_leaves_onW hfr hL fly λh2 f1 f2=>?_
 have old:∀ b o,s0.heap.get? b=some o->b∉frs outer->b∉frs (env::outer):=λb o q n m=>by
  rcases frs_cons hL m with e | m
  ·exact absurd (Heap.lt_size q) (by rw[e];exact Nat.lt_irrefl _)
  ·exact n m
 have hbase:=I.base
 have slotB:∀ b o,s0.heap.get? b=some o->H0 b=none->b∈frs outer->∃ sl,h2.get? b=some { o with slots:=sl }:=λb o q n m=>by
  obtain⟨sl,e1⟩:=hbase.slot b o q n m (λz=>nomatch z)
  obtain⟨sl',e2⟩:=un.slot b _ e1 (hbase.free b o q n (λz=>nomatch z)) (frs_sub m) (λz=>nomatch z)
  obtain⟨_,o',q',d⟩:=hstk.mem (frs_sub (env:=env) m)
  rw[e1] at q';cases q'
  obtain⟨sl2,e3⟩:=f2 b _ e2 d
  exact⟨sl2,e3⟩
 refine⟨e,cls,H',rfl,os.trans I.os,bare,⟨⟨?_,?_,?_,?_,?_,?_,?_⟩,?_,⟨B,t,f1,?_,?_,?_⟩,en,?_⟩,hE⟩
 ·exact λb o q n hb he=>f1.1 _ _ (c2 b o (hbase.keep b o q n hb he) (hbase.free b o q n he) (old b o q hb))
 ·exact λb o q n hb he=>slotB b o q n hb
 ·intro b o q n he
  obtain⟨o',e1⟩:=hbase.there b o q he
  exact un.free b o' e1 (hbase.free b o q n he) (λz=>nomatch z)
 ·intro b o q he
  by_cases m:b∈frs outer
  ·obtain⟨sl,e2⟩:=slotB b o q (I.ok.frf b m) m;exact⟨_,e2⟩
  ·obtain⟨o',e1⟩:=hbase.there b o q he
   obtain⟨o2,e2⟩:=c3 b o' e1 (old b o q m)
   exact⟨o2,f1.1 _ _ e2⟩
 ·exact λb xs q=>un.tups b xs (hbase.tups b xs q)
 ·exact λb o u q=>un.frzs b o u (hbase.frzs b o u q)
 ·intro b ps q
  obtain⟨m1,e1⟩:=hbase.tbls b ps q
  obtain⟨m2,e2⟩:=un.tbls b _ e1
  exact⟨m1++m2,by rw[e2,Array.append_assoc]⟩
 ·intro a o q
  refine(hok a o q).stay (λb u hb q2=>f1.1 _ _ (c1 b u ?_ q2)) (λ_ z=>z) (λ_ _ z=>z)
  rcases hb with rfl | hb
  ·rw[q];exact λz=>nomatch z
  ·rw[hb];exact λz=>nomatch z
 ·intro b o n q
  cases hb:H' b with
  | none=>exact absurd hb n
  | some u =>
   obtain⟨ob,e1⟩:=(hok b u hb).has
   have e2:=c1 b ob n e1
   have e3:=f1.1 _ _ e2
   rw[q] at e3;cases e3
   exact e2
 ·exact λb o q n hb=>c2 b o (hbase.keep b o q n hb (λz=>nomatch z)) (hbase.free b o q n (λz=>nomatch z)) (old b o q hb)
 ·intro b o q hb
  obtain⟨o',e1⟩:=hbase.there b o q (λz=>nomatch z)
  exact c3 b o' e1 (old b o q hb)
 ·cases q:s0.heap.get? e with
  | none=>rfl
  | some o =>
   obtain⟨o',e1⟩:=hbase.there e o q (λz=>nomatch z)
   rw[new] at e1;cases e1
end
end L2
namespace L2
open PySem PySem.Spec PyProof.Rows
abbrev bmV:List Value:=[.type "ValueError",.type "Exception",.type "BaseException",.type "object"]
structure ExC (K:W.Frag)(mg:Str->Option Value)(x:Str)(C:Addr):Prop where
 bound:mg x=some (.ref C)
 cls:W.excIn K C bmV "ValueError.__new__"=true
def OwnAt (h:Heap)(C:Addr):Prop:=∃ (bm:List Value) (N:Addr) (nm qn:Str) (bs:List Value) (hd:Bool) (sn:List Str) (sub:List Value) (ab:Bool) (col:Option Bool) (dd:Option Addr) (a0 a1 a2 a3 a5:Option Value) (mN:Str->Option Value),
 h.get? C=some (excClassObj nm qn C N bs bm hd sn sub ab col dd a0 a1 a2 a3 a5 "ValueError.__new__")/\h.Ns N mN/\mN "__init__"=none/\OwnTail h bmV bm
theorem own_at {K:W.Frag}{h:Heap}{C:Addr}(hK:K.In h)(hc:W.excIn K C bmV "ValueError.__new__"=true):OwnAt h C:=by
 unfold W.excIn at hc
 cases hl:K.lookup C with
 | none=>rw[hl] at hc;cases hc
 | some ob =>
  rw[hl] at hc
  have hob:=hK _ _ hl
  split at hc
  ·rename_i heq
   cases heq
   split at hc
   ·rename_i hmro hslots
    simp only[Bool.and_eq_true,beq_iff_eq,Bool.not_eq_true'] at hc
    obtain⟨⟨⟨⟨⟨z1,z2⟩,z3⟩,z4⟩,z5⟩,z6⟩:=hc
    subst z1
    subst z2
    rename ClassData=>cdt
    rename Array (Option Value)=>slots
    cases cdt
    cases slots
    dsimp only at hmro hslots z3 z5 z6
    subst hmro
    subst z3
    subst hslots
    exact⟨_,_,_,_,_,_,_,_,_,_,_,_,_,_,_,_,_,hob,.of_isNs (W.isNs_of_in hK z5),W.nsMap_none_of_in hK z5 z6,W.tail_of_in hK z4⟩
   ·cases hc
  ·cases hc
def mRaise (C:Addr)(t:TA)(E:XK):TS:=λD σ H=>t σ H λvs H1=>vs.length<=100/\E (.ref C) none H1
section
variable {X:Cx}{e:Expr}{es:List Expr}{t:TA}{x:Str}{C:Addr}{np cpos pos p:Pos}{E:XK}
theorem qs_raise (hr:Raises X E)(hcalm:X.calm=true)(hg:Gl X x)(hx:ExC X.K X.mg x C)(ha:QA X (e::es) t)(hd:(x == ("__debug__":Str))=false:=by decide) :
  QS X (.Raise (some (.Call (.Name x np) (e::es) [] cpos)) none pos) (mRaise C t E):=⟨by
 intro pins s σ H D I h
 obtain⟨bm,N,nm,qn,bs,hdd,sn,sub,ab,col,dd,a0,a1,a2,a3,a5,mN,hC,hN,hni,T⟩:=own_at I.ok.mod.kin hx.cls
 have hp:=ha.p
 rw[List.all_cons,Bool.and_eq_true] at hp
 have he:=star_plain (env:=X.env) (es:=es) hp.1
 have hpl:(backTo cpos (starEach (e::es) X.env)).any (·.1)=false:=by rw[he];show (false || (backTo cpos (starEach es X.env)).any (·.1))=false;rw[any_plain hp.2];rfl
 refine wpAny_Raise_call_subT (C:=C) (nm:=nm) (q:=qn) (N:=N) (bs:=bs) (bm:=bm) (hdct:=hdd) (sn:=sn) (sub:=sub) (ab:=ab) (col:=col) (dd:=dd) (k0:=a0) (k1:=a1) (k2:=a2) (k3:=a3) (k5:=a5)
  PySem.F.excBase_ValueError (mN:=mN) (T.hasType PySem.F.excBase_ValueError.hasBase) (I.ok.hd hcalm) hpl hni (ld_glob I hg hx.bound ⟨rfl,?_⟩ hd)
 have ht:=ha.h cpos pins s σ H _ I h
 rw[he] at ht ⊢
 refine Calls.evalArgs_plain (thn ht λus s1 ⟨vs,H1,I1,rv,z,q⟩=>?_)
 have hl:=rv.length
 exact⟨rfl,sz_of (by show us.length<=100000;omega),I1.bk _ _ hC,hN.keeps I1.bk,T.keeps I1.bk,λh' e' made=>hr pins σ H1 s1 C e' us h' I1 made q⟩⟩
end
structure DefX (P:Program)(w:World)(K:W.Frag)(mg:Str->Option Value)(base:Heap)(k:Nat)(x:Str)(ps:List Str)(sp:Sp):Prop where
 ex:∃ f fd,FnOk P w K mg base (CXe P w) k f fd ps sp/\Binds K fd ps []/\W.keepIn K (.ref f)=true/\mg x=some (.ref f)
theorem qe_defX {X:Cx}{k j:Nat}{x:Str}{ps:List Str}{sp:Sp}{e:Expr}{es:List Expr}{t:TA}{p pos:Pos}{E:XK}(D:DefX X.prog X.w X.K X.mg X.base k x ps sp)(hx:Passes (CXe X.prog X.w) X E)(hr:Room j X.A)(hj:k<=j)(hg:Gl X x)(ha:QA X (e::es) t)
  (hdb:(x == ("__debug__":Str))=false:=by decide):QE X (.Call (.Name x p) (e::es) [] pos) (tCall sp [] E t):=⟨by
 obtain⟨f,fd,F,b,kp,m⟩:=D.ex
 have hp:=ha.p
 rw[List.all_cons,Bool.and_eq_true] at hp
 exact pe_call F (hr.mono hj) hg m kp b .nil hx ha.h (hdb:=hdb) (he:=star_plain hp.1) (hpl:=any_plain hp.2)⟩
theorem Fun.okx {P:Program}{w:World}{K:W.Frag}{mg:Str->Option Value}{base:Heap}{x qual:Str}{st:Stmt}{f:Addr}{fd:FuncData}{N ps:List Str}{k:Nat}{sp:Sp}(F:Fun K x qual st f fd)(S:FnScope N ps (defScope st))(len:∀ vs H Q E,sp vs H Q E->vs.length=ps.length)
  (hbody:∀ (cdv:Value) (A:Around) (outer:List Env) (s:Shared) (H:Hp) (vs:List V) (Q:VK) (E:XK),Room k (A.deeper (envOfC qual (defScope st) s.heap.objs.size f cdv))->sp vs H Q E ->
   ∃ T:{ t:TS // QB (cxE P w K mg base N qual (defScope st) f cdv A outer s H E) (defBody st) t },T.1 { nx:=λ_ H'=>Q .non H',rt:=Q } (start N vs) H):FnOk P w K mg base (CXe P w) (k+1) f fd ps sp:=by
 obtain⟨oc,od,kV,doc,pm,an,cdv,ct,osl,rfl,lk,hcd⟩:=F.ex
 refine fn_of lk hcd S len λA outer s H vs Q E hr hsp=>?_
 obtain⟨T,q⟩:=hbody cdv A outer s H vs Q E hr hsp
 exact⟨T.1,T.2.h,q⟩
end L2
namespace L2
open PySem PySem.Spec PyProof.Rows
def exo (cls:Value)(e:Addr):HO:=.ext λh=>∃ ob,h.get? e=some ob/\ob.cls=cls
abbrev Cx.caught (X:Cx)(e:Addr):Cx:={ X with A:=X.A.mark (some (.ref e)),calm:=false,xe:=λ_ _=>False }
section
variable {X:Cx}{pins:List (Addr×Obj)}{σ:St}{H H':Hp}{s s':Shared}{e:Addr}{cls:Value}
theorem Cx.Ok.caught (ok:X.Ok)(e:Addr):(X.caught e).Ok :=
 ⟨ok.mod,ok.kind,ok.glob,ok.blt,ok.above,ok.inj,ok.has,ok.cab,(λz=>by cases z),ok.frames,ok.stk,ok.exf,ok.bs,ok.bsz,ok.noex,ok.exfs,ok.funs,ok.frf⟩
theorem Inv.caught (I:Inv X pins σ H s)(e:Addr):Inv (X.caught e) pins σ H s:=⟨I.ok.caught e,I.os,I.bare,I.base,I.loc,I.cell,I.free,I.freeC,I.pin,I.hok,I.len⟩
theorem Inv.uncaught (I:Inv (X.caught e) pins σ H s)(ok:X.Ok):Inv X pins σ H s:=⟨ok,I.os,I.bare,I.base,I.loc,I.cell,I.free,I.freeC,I.pin,I.hok,I.len⟩
theorem landed {B:Heap}{t:Addr}{h2:Heap}{tk:Nat}(I:Inv X pins σ H s)(os:s'.os=s.os)(bare:AllBare s'.gens)(un:Un (frs X.stack) [] H H' s.heap s'.heap)(hok:HOk X.prog X.w H' s'.heap)
  (c1:∀ b o,H' b≠none->s'.heap.get? b=some o->B.get? b=some o) (c2:∀ b o,s.heap.get? b=some o->H b=none->b∉frs X.stack->B.get? b=some o)
  (c3:∀ b o,s.heap.get? b=some o->b∉frs X.stack->∃ o',B.get? b=some o') (en:H' e=none) (new:s.heap.get? e=none) (fly:Heap.FlyingW B X.stack e cls (.ref t) h2) (ups:s'.heap.UpToSlots h2) :
  Inv X pins σ (upd H' e (exo cls e)) { s' with heap:=h2,toks:=tk }:=by
 have slotB:∀ b o,s.heap.get? b=some o->b∈frs X.stack->∃ sl,h2.get? b=some { o with slots:=sl }:=λb o q m=>by
  obtain⟨sl,e2⟩:=un.slot b o q (I.stkFree b m) m (λz=>nomatch z)
  obtain⟨_,o',q',d⟩:=I.stack.mem m
  rw[q] at q';cases q'
  obtain⟨sl2,e3⟩:=ups b _ e2 d
  exact⟨sl2,e3⟩
 have ne:∀ b u,H' b=some u->b≠e:=λb u q z=>by subst z;rw[en] at q;cases q
 refine I.call' (s':={ s' with heap:=h2,toks:=tk }) (ch:=[]) os ⟨?_,?_,?_,?_,?_,?_,?_⟩ ?_ bare (λ_ z=>nomatch z)
 ·exact λb o q n hb he=>fly.1 _ _ (c2 b o q n hb)
 ·exact λb o q n hb he=>slotB b o q hb
 ·intro b o q n he
  rw[upd_ne (λz=>by subst z;rw[new] at q;cases q)]
  exact un.free b o q n he
 ·intro b o q he
  by_cases m:b∈frs X.stack
  ·obtain⟨sl,e2⟩:=slotB b o q m;exact⟨_,e2⟩
  ·obtain⟨o2,e2⟩:=c3 b o q m;exact⟨o2,fly.1 _ _ e2⟩
 ·intro b xs q
  have:=un.tups b xs q
  rw[upd_ne (ne b _ this)];exact this
 ·intro b o u q
  have:=un.frzs b o u q
  rw[upd_ne (ne b _ this)];exact this
 ·intro b ps q
  obtain⟨m,e2⟩:=un.tbls b ps q
  exact⟨m,by rw[upd_ne (ne b _ e2)];exact e2⟩
 ·intro a o q
  by_cases ha:a=e
  ·subst ha
   rw[upd_same] at q;cases q
   obtain⟨ob,e1,e2⟩:=fly.there
   exact⟨⟨ob,e1,e2⟩,⟨ob,e1⟩,λh1 h2 ⟨ob,x1,x2⟩ k=>⟨ob,k _ x1,x2⟩⟩
  ·rw[upd_ne ha] at q
   refine(hok a o q).stay (λb u hb q2=>fly.1 _ _ (c1 b u ?_ q2)) (λb z=>by rw[upd_ne (ne b _ z)];exact z) (λb _ z=>by rw[upd_ne (ne b _ z)];exact z)
   rcases hb with rfl | hb
   ·rw[q];exact λz=>nomatch z
   ·rw[hb];exact λz=>nomatch z
theorem gone_ok {M:Model}{A:Around}{E:Value->Shared->Prop}{i:Nat}{x:Str}{pos:Pos}{Q:Unit->Shared->Prop}(I:Inv X pins σ H s)(hN:X.N.Nodup)(hi:X.N[i]?=some x)(hk:X.env.kindOf x=some .local)
  (h:∀ s',Inv X pins (σ.set i none) H s'->Q () s'):wpAny M A (do bindName X.env x .none;unbindBehindTheSuite X.env x pos) Q E s:=by
 obtain⟨m,hn,hl⟩:=id I.loc
 have hcls:(X.env.scope.kind == .class || (X.env.scope.kind == .module&&X.env.locals != X.env.globals))=false:=by rw[I.ok.kind];rfl
 refine wpAny_nameGoes_keeps hk hn hcls λh2 v2 hn2 hs=>?_
 obtain⟨oL,_,_,hoL,_⟩:=id hn
 have young:∀ b o,X.s₀.heap.get? b=some o->b≠X.env.locals:=λb o q=>Nat.ne_of_lt (Nat.lt_of_lt_of_le (Heap.lt_size q) I.ok.above)
 refine h _ ⟨I.ok,I.os,I.bare,⟨λb o q n hb hx=>(hs.2 b (young b o q)).trans (I.base.keep b o q n hb hx),λb o q n hb hx=>?_,I.base.free,λb o q hx=>?_,I.base.tups,I.base.frzs,I.base.tbls⟩,
  ⟨_,hn2,λj y v q1 q2 q3=>?_⟩,λy c q=>?_,I.free,I.freeC,λp hp=>?_,λb ob q=>?_,by rw[List.length_set];exact I.len⟩
 ·obtain⟨sl,e1⟩:=I.base.slot b o q n hb hx
  exact⟨sl,(hs.2 b (young b o q)).trans e1⟩
 ·obtain⟨o',e1⟩:=I.base.there b o q hx
  exact⟨o',(hs.2 b (young b o q)).trans e1⟩
 ·by_cases hj:j=i
  ·subst hj
   have hlt:j<σ.length:=by rw[I.len];exact(List.getElem?_eq_some_iff.mp q1).1
   rw[List.getElem?_set_self hlt] at q2
   cases q2
  ·rw[List.getElem?_set_ne (Ne.symm hj)] at q2
   obtain⟨u,r,z⟩:=hl j y v q1 q2 q3
   refine⟨u,r,?_⟩
   rcases z with ⟨k,z⟩ | ⟨k,c,z1,z2⟩
   ·have hne:y≠x:=λz=>hj (nodup_ix hN q1 (z▸hi))
    exact .inl ⟨k,by show (if y=x then v2 else m y)=some u;rw[if_neg hne];exact z⟩
   ·exact .inr ⟨k,c,z1,z2.sameBut hs (I.cne y c z1)⟩
 ·obtain⟨v,z⟩:=I.cell y c q
  exact⟨v,z.sameBut hs (I.cne y c q)⟩
 ·obtain⟨z1,z2,z3,z4,z5⟩:=I.pin p hp
  exact⟨(hs.2 p.1 z3).trans z1,z2,z3,z4,z5⟩
 ·refine(I.hok b ob q).stay (λc u hc z=>(hs.2 c ?_).trans z) (λ_ z=>z) (λ_ _ z=>z)
  rintro rfl
  rcases hc with rfl | hc
  ·rw[I.free] at q;cases q
  ·rw[I.free] at hc;cases hc
end
end L2
namespace L2
open PySem PySem.Spec PyProof.Rows
def Dx (j:Nat)(D:Ends):Ends:={ nx:=λσ H=>D.nx (σ.set j none) H,rt:=D.rt,bk:=λσ H=>D.bk (σ.set j none) H,ct:=λσ H=>D.ct (σ.set j none) H }
section
variable {X:Cx}{pins:List (Addr×Obj)}{σ:St}{H H1:Hp}{s s1 s':Shared}{Q:VK}{Ex:XK}{x y n:Str}{e:Expr}{es:List Expr}{t:TA}{p pos np hpos cpos apos p1 tpos:Pos}{ps:List Str}{sp:Sp}{k k2 j:Nat}{C:Addr}{b0:Stmt}{suite:List Stmt}{su:TS}{D:Ends}{ev:Value}
theorem eval_callX (hnx:∀ v s,¬ X.xe v s)(F:DefX X.prog X.w X.K X.mg X.base k x ps sp)(hr:Room k2 X.A)(hj:k<=k2)(hg:Gl X x)(ha:QA X (e::es) t)(hdb:(x == ("__debug__":Str))=false)(I:Inv X pins σ H s)
  (h:t σ H λvs H1=>sp (vs++[]) H1 Q Ex) :
  wpAny (model X.prog X.w) X.A (eval (.Call (.Name x p) (e::es) [] pos) X.env) (EP X pins σ Q) (λev s'=>∃ H1 s1,Inv X pins σ H1 s1/\CXe X.prog X.w X.stack H1 s1 Ex ev s') s:=by
 obtain⟨f,fd,F,hb,kp,m⟩:=F.ex
 have hp:=ha.p
 rw[List.all_cons,Bool.and_eq_true] at hp
 refine wpAny_Call_Name_kw (ld_glob I hg m ?_ hdb)
 refine W.callWith_K (h₀:=X.base) I.ok.mod.kin kp (wpAny_mono (ha.h pos pins s σ H _ I h) (λus s1 ⟨vs,H1,I1,r,q⟩=>⟨I1.kIn,?_⟩) (λ_ _ z=>(hnx _ _ z).elim)) (star_plain hp.1) (any_plain hp.2)
 have r2:Vals (vs++[]) (us++[]):=r.append .nil
 have hl:(us++[]).length=ps.length:=by rw[<- r2.length];exact F.len _ _ _ _ q
 refine wpAny_call (codeAny_mono (F.run X.A X.stack s1 H1 ⟨us,[]⟩ (us++[]) (vs++[]) Q Ex (hr.mono hj) I1.env0 (hb s1 us I1.kIn hl) r2 q) λr s' hq=>?_)
 cases r with
 | error ev=>exact⟨H1,s1,I1,hq⟩
 | ok fl =>
  cases fl with
  | ret u=>exact I1.after hq
  | next=>exact False.elim hq
  | brk=>exact False.elim hq
  | cont=>exact False.elim hq
theorem handled_ok (hst:X.stack=X.env::X.outer)(hfm:X.env.frame=some X.env.locals)(I:Inv X pins σ H1 s1)(c:CXe X.prog X.w X.stack H1 s1 Ex ev s')(hy:Gl X y)(my:X.mg y=some (.ref C))
  (hN:X.N.Nodup) (hj:X.N[j]?=some n) (hk:X.env.scope.names.lookup n=some .local) (hd:(y == ("__debug__":Str))=false) (hsu:∀ a,QB (X.caught a) (b0::suite) su)
  (hE:∀ cls H2,Ex cls none H2->W.exmOne X.K cls (.ref C)=some true/\∀ a,H2 a=none->su (Dx j D) (σ.set j (some (.ref a))) (upd H2 a (exo cls a))) :
  wpAny (model X.prog X.w) X.A (noteFrame ev X.env) (λ_ s2=>wpAny (model X.prog X.w) X.A (setFlight ev none) (λ_ s3=>wpAny (model X.prog X.w) X.A (handleBy ev X.env [.ExceptHandler (some (.Name y np)) (some n) (b0::suite) hpos]) (SP X pins D) X.xe s3) X.xe s2) X.xe s':=by
 obtain⟨a,cls,H2,rfl,os,bare,⟨un,hok,⟨B,t,fly,c1,c2,c3⟩,en,new⟩,hx⟩:=c
 obtain⟨hm,hsuite⟩:=hE cls H2 hx
 have fly':Heap.FlyingW B (X.env::X.outer) a cls (.ref t) s'.heap:=hst▸fly
 have hfr:X.A.frames=some (X.env::X.outer):=hst▸I.ok.frames
 refine wpAny_looks_onW hfr hfm fly' λh4 held4 u4=>?_
 refine wpAny_landsW held4 λh5 fly5 u5=>?_
 have u15:=u4.trans u5
 have I5:=(landed (tk:=s'.toks) I os bare un hok c1 c2 c3 en new (hst.symm▸fly5) u15).caught a
 refine wpAny_handleBy_cons (codeAny_handlers_test (ld_glob I5 hy my ?_ hd)) (by intro q;cases q)
 have LT:W.Looks (model X.prog X.w) h5 (typeOf (.ref a)) cls:=by
  obtain⟨ob,z,rfl⟩:=fly5.there
  exact(W.Looks.ld z).andThen .now
 refine W.exm_one I5.kIn LT hm _ _ _ _ (λ_ _ z=>z) ?_
 refine codeAny_handlers_suite_as (lands_againW fly5 λh6 fly6 u6=>?_)
 have I6:=(landed (tk:=s'.toks) I os bare un hok c1 c2 c3 en new (hst.symm▸fly6) (u15.trans u6)).caught a
 refine store_ok (X:=X.caught a) (v:=.ref a) I6 hN hj (.inl hk) rfl (λs7 I7=>?_) (.inr hk)
 refine wpAny_mono ((hsu a).h pins s7 _ _ (Dx j D) I7 (hsuite a en)) (λf s8 q=>?_) (λ_ _ z=>z.elim)
 cases f with
 | next=>obtain⟨σ',H3,I8,q⟩:=q;exact gone_ok (I8.uncaught I.ok) hN hj hk λs9 I9=>⟨_,H3,I9,q⟩
 | brk=>obtain⟨σ',H3,I8,q⟩:=q;exact gone_ok (I8.uncaught I.ok) hN hj hk λs9 I9=>⟨_,H3,I9,q⟩
 | cont=>obtain⟨σ',H3,I8,q⟩:=q;exact gone_ok (I8.uncaught I.ok) hN hj hk λs9 I9=>⟨_,H3,I9,q⟩
 | ret u=>obtain⟨v,σ',H3,I8,r,q⟩:=q;exact gone_ok (I8.uncaught I.ok) hN hj hk λs9 I9=>⟨v,_,H3,I9,r,q⟩
def mTryA (K:W.Frag)(C:Addr)(i j:Nat)(sp:Sp)(t:TA)(su:TS):TS:=λD σ H=>t σ H λvs H1=>sp (vs++[]) H1 (λv H2=>D.nx (σ.set i (some v)) H2)
 λcls _ H2=>W.exmOne K cls (.ref C)=some true/\∀ a,H2 a=none->su (Dx j D) (σ.set j (some (.ref a))) (upd H2 a (exo cls a))
theorem ks_tryA {K:W.Frag}{i:Nat}{z:Str}(hK:X.K=K)(hnx:∀ v s,¬ X.xe v s)(hst:X.stack=X.env::X.outer)(hfm:X.env.frame=some X.env.locals)(F:DefX X.prog X.w X.K X.mg X.base k x ps sp)(hr:Room k2 X.A)(hkk:k<=k2)(hg:Gl X x)(ha:QA X (e::es) t)
  (hN:X.N.Nodup) (hi:X.N[i]?=some z) (hz:Loc X.env.scope z) (hzf:X.fn z=true\/X.env.scope.names.lookup z=some .local) (hy:Gl X y) (my:X.mg y=some (.ref C)) (hj:X.N[j]?=some n) (hk:X.env.scope.names.lookup n=some .local) (hsu:∀ a,QB (X.caught a) (b0::suite) su)
  (hdb:(x == ("__debug__":Str))=false:=by decide) (hd:(y == ("__debug__":Str))=false:=by decide) (hs:swapsWith (.Call (.Name x p) (e::es) [] cpos) (some (.Name z p1)) apos.line X.env=pure false:=by rfl) :
  QS X (.Try [.Assign [.Name z p1] (.Call (.Name x p) (e::es) [] cpos) apos] [.ExceptHandler (some (.Name y np)) (some n) (b0::suite) hpos] [] [] pos) (mTryA K C i j sp t su):=⟨by
 subst hK
 intro pins s σ H D I h
 rw[arm_exec_Try]
 refine wpAny_bind (wpAny_standAt (wpAny_tryStmt_except ?_))
 have hc:=eval_callX (p:=p) (pos:=cpos) hnx F hr hkk hg ha hdb I h
 have hb:wpAny (model X.prog X.w) X.A (exec (.Assign [.Name z p1] (.Call (.Name x p) (e::es) [] cpos) apos) X.env) (λf s3=>f=.next/\SP X pins D .next s3) (λev s'=>∃ H1 s1,Inv X pins σ H1 s1/\CXe X.prog X.w X.stack H1 s1 _ ev s') s :=
  wpAny_Assign_Name (wpAny_mono hc (λv s2 ⟨w,H2,I2,r2,q2⟩=>store_ok I2 hN hi hz r2 (λs3 I3=>⟨rfl,_,H2,I3,q2⟩) hzf) (λ_ _ z=>z)) hs
 refine wpAny_execs_cons (wpAny_mono hb (λf s3 ⟨hf,q⟩=>?_) (λev s3 ⟨H1,s1,I1,c⟩=>handled_ok hst hfm I1 c hy my hN hj hk hd hsu λcls H2 q=>q))
 subst hf
 exact wpAny_execs_nil (wpAny_execs_nil q)⟩
def mTryE (K:W.Frag)(C:Addr)(j:Nat)(sp:Sp)(t:TA)(su:TS):TS:=λD σ H=>t σ H λvs H1=>sp (vs++[]) H1 (λ_ H2=>D.nx σ H2)
 λcls _ H2=>W.exmOne K cls (.ref C)=some true/\∀ a,H2 a=none->su (Dx j D) (σ.set j (some (.ref a))) (upd H2 a (exo cls a))
theorem ks_tryE {K:W.Frag}(hK:X.K=K)(hnx:∀ v s,¬ X.xe v s)(hst:X.stack=X.env::X.outer)(hfm:X.env.frame=some X.env.locals)(F:DefX X.prog X.w X.K X.mg X.base k x ps sp)(hr:Room k2 X.A)(hkk:k<=k2)(hg:Gl X x)(ha:QA X (e::es) t)
  (hN:X.N.Nodup) (hy:Gl X y) (my:X.mg y=some (.ref C)) (hj:X.N[j]?=some n) (hk:X.env.scope.names.lookup n=some .local) (hsu:∀ a,QB (X.caught a) (b0::suite) su)
  (hdb:(x == ("__debug__":Str))=false:=by decide) (hd:(y == ("__debug__":Str))=false:=by decide) (hs:swapsWith (.Call (.Name x p) (e::es) [] cpos) none apos.line X.env=pure false:=by rfl) :
  QS X (.Try [.Expr (.Call (.Name x p) (e::es) [] cpos) apos] [.ExceptHandler (some (.Name y np)) (some n) (b0::suite) hpos] [] [] pos) (mTryE K C j sp t su):=⟨by
 subst hK
 intro pins s σ H D I h
 rw[arm_exec_Try]
 refine wpAny_bind (wpAny_standAt (wpAny_tryStmt_except ?_))
 have hc:=eval_callX (p:=p) (pos:=cpos) hnx F hr hkk hg ha hdb I h
 have hb:wpAny (model X.prog X.w) X.A (exec (.Expr (.Call (.Name x p) (e::es) [] cpos) apos) X.env) (λf s3=>f=.next/\SP X pins D .next s3) (λev s'=>∃ H1 s1,Inv X pins σ H1 s1/\CXe X.prog X.w X.stack H1 s1 _ ev s') s :=
  wpAny_Expr_any (wpAny_mono hc (λv s2 ⟨w,H2,I2,r2,q2⟩=>⟨rfl,σ,H2,I2,q2⟩) (λ_ _ z=>z)) I.quiet hs
 refine wpAny_execs_cons (wpAny_mono hb (λf s3 ⟨hf,q⟩=>?_) (λev s3 ⟨H1,s1,I1,c⟩=>handled_ok hst hfm I1 c hy my hN hj hk hd hsu λcls H2 q=>q))
 subst hf
 exact wpAny_execs_nil (wpAny_execs_nil q)⟩
end
end L2
set_option maxHeartbeats 2000000
namespace L2
open PySem PySem.Spec PyProof.Rows PySem.W
structure ExI (K:Frag)(C:Addr):Prop where
 own:excIn K C bmV "ValueError.__new__"=true
 cl:findIn K (.ref C) "__class__"=some (some (.builtin "object.__class__"))
 ob:mroIn K C (.type "object")=some true
 be:mroIn K C (.type "BaseException")=some true
 ga:findIn K (.ref C) "__getattribute__"=some (some (.builtin "BaseException.__getattribute__"))
 gn:findIn K (.ref C) "__getattr__"=some none
def ExAt (h:Heap)(a C:Addr):Prop:=∃ o,h.get? a=some o/\o.cls=.ref C
section
variable {prog:Program}{w:World}{A:Around}{E:Value->Shared->Prop}{K:Frag}{h:Heap}{g:Array GenState}{d:Drawn}{t:Nat}{os:OsState}{a C:Addr}
theorem exc_get {R:Result->Shared->Prop}{tp:Value}(hK:K.In h)(hx:ExAt h a C)(i:ExI K C)(hq:R (.ok (.ret (.ref C))) ⟨h,g,d,t,os⟩) :
  codeAny (model prog w) A (.call (.builtin "getset_descriptor.__get__") ⟨[.builtin "object.__class__",.ref a,tp],[]⟩) R ⟨h,g,d,t,os⟩:=by
 obtain⟨o,ho,hc⟩:=hx
 have Lm:=looks_mroIn (M:=model prog w) hK i.ob
 have Lt:Looks (model prog w) h (typeOf (.ref a)) (.ref C):=hc▸(Looks.ld ho).andThen .now
 refine codeAny_call_builtin (W.KF.slot_gs).plain (W.KF.entry_gs) ?_
 refine(W.KF.slot_gs).check _ _ _ _ _ _ _ _ (W.KF.type_class) (W.KF.args_gs _ _ _) ?_
 repeat (any_goals (first | assumption | (with_reducible refine wpAny_loadPart_at ho ?_;rw[hc]) | (with_reducible refine Lm.at ?_) | wp_step))
 have ow:".".intercalate ("object.__class__".cutAt '.').dropLast="object":=by decide +kernel
 rw[ow]
 repeat (any_goals (first | assumption | (with_reducible refine Lm.at ?_) | wp_step))
 constructor
 ·exact Code.quiet_builtin _ (by decide +kernel)
 refine codeAny_builtin (W.KF.entry_class) ?_
 unfold Builtin.«object.__class__» shownTypeOf
 repeat (any_goals (first | assumption | (with_reducible refine wpAny_loadPart_at ho ?_;rw[hc]) | wp_step))
theorem exc_call {tk:Tok}{R:Result->Shared->Prop}(hK:K.In h)(hx:ExAt h a C)(i:ExI K C)(hq:R (.ok (.ret (.ref C))) ⟨h,g,d,t,os⟩) :
  codeAny (model prog w) A (.call (.builtin "BaseException.__getattribute__") ⟨[.ref a,.str "__class__" tk],[]⟩) R ⟨h,g,d,t,os⟩:=by
 refine codeAny_call_builtin (by decide +kernel) PySem.F.entry_bexc_ga ?_
 have kA:builtinKind "BaseException.__getattribute__"=some .slot:=by decide +kernel
 have sA:splitId "BaseException.__getattribute__"=some ("BaseException","__getattribute__"):=by decide +kernel
 have aA:=PySem.F.args_bexc_ga (.ref a) (.str "__class__" tk)
 have L1:=looks_mroIn (M:=model prog w) hK i.be
 have Lc:=looks_findIn (M:=model prog w) hK i.cl
 obtain⟨o,ho,hc⟩:=id hx
 simp only[checkBuiltinCall,kA,sA]
 refine wpAny_bind ?_
 unfold isInstance
 have g5:typeOf (.builtin "object.__class__")=pure (.type "getset_descriptor"):=by show builtinType _=_;rw[builtinType_eq_fast];kernel_rfl
 have g6:=PySem.F.slot_gs_get.lookup
 have g7:=PySem.F.slot_gs_set.lookup
 repeat (any_goals (first | assumption | (with_reducible refine wpAny_loadPart_at ho ?_;rw[hc]) | (with_reducible refine L1.at ?_) | (with_reducible refine Lc.at ?_) | wp_step))
 refine exc_get hK hx i ?_
 repeat (any_goals (first | assumption | wp_step))
theorem exc_class {Q:Option Value->Shared->Prop}(hK:K.In h)(hx:ExAt h a C)(i:ExI K C)(hq:Q (some (.ref C)) ⟨h,g,d,t+1,os⟩):wpAny (model prog w) A (getAttr? (.ref a) "__class__") Q E ⟨h,g,d,t,os⟩:=by
 have L1:=looks_findIn (M:=model prog w) hK i.ga
 have L2:=looks_findIn (M:=model prog w) hK i.gn
 obtain⟨o,ho,hc⟩:=id hx
 have n2:(Value.builtin "BaseException.__getattribute__" == Value.builtin "object.__getattribute__")=false:=by decide +kernel
 have n1:(onTheHeap (Value.ref C)&&Value.builtin "BaseException.__getattribute__" == Value.builtin "object.__getattribute__")=false:=by rw[n2];rfl
 unfold getAttr? getAttrBy? getAttrBy
 repeat (any_goals (first | assumption | (with_reducible refine wpAny_loadPart_at ho ?_;rw[hc]) | (with_reducible refine L1.at ?_) | (with_reducible refine L2.at ?_) | wp_step))
 have b3:=PySem.F.attr_ValueError.ga.bind (.ref a)
 repeat (any_goals (first | assumption | wp_step))
 refine exc_call hK hx i ?_
 repeat (any_goals (first | assumption | wp_step))
theorem kitx_exc (i:ExI K C):KitX K (.ref a) (.ref C) (λh=>ExAt h a C) where
 ty:=λM h _ ⟨o,ho,hc⟩=>hc▸(Looks.ld ho).andThen .now
 it:=λM h hK _=>by
  obtain⟨bm,N,nm,qn,bs,hd,sn,sub,ab,col,dd,a0,a1,a2,a3,a5,mN,hC,_⟩:=own_at hK i.own
  intro A2 Q2 E2 s2 k q
  unfold isType loadHead
  exact wpAny_bind (wpAny_loadPart (k _ _ hC) (wpAny_pure q))
 ne:=λh tp dd its n sl hK htp=>by
  obtain⟨bm,N,nm,qn,bs,hd,sn,sub,ab,col,dd2,a0,a1,a2,a3,a5,mN,hC,_⟩:=own_at hK i.own
  refine Bool.eq_false_iff.mpr λq=>?_
  have e:C=tp:=Value.ref.inj (beq_iff_eq.mp q)
  subst e
  rw[hC] at htp
  have z:=congrArg Obj.data (Option.some.inj htp)
  simp[excClassObj] at z
 ca:=λ{prog w A E Q s} hK hx k=>by
  obtain⟨hh,g,d,t,os⟩:=s
  exact exc_class hK hx i k
end
end L2
namespace L2
open PySem PySem.Spec PyProof.Rows
def clsV:V->Option Value
 | .ref D=>some (.ref D)
 | .ty n=>some (.type n)
 | _=>none
theorem clsV_rel {c:V}{u cv:Value}(h:clsV c=some cv)(r:RelV c u):u=cv:=by
 cases c<;>simp[clsV] at h<;>subst h<;>exact r
@[irreducible] def hIsx (K:W.Frag)(a:Addr)(c:V)(H:Hp)(Q:VK):Prop:=∃ C cv b,H a=some (exo (.ref C) a)/\ExI K C/\clsV c=some cv/\W.kitOne K (.ref C) cv=some b/\Q (.bl b) H
theorem i_isx {K:W.Frag}{a C:Addr}{c:V}{cv:Value}{b:Bool}{H:Hp}{Q:VK}(h:H a=some (exo (.ref C) a))(i:ExI K C)(hc:clsV c=some cv)(e:W.kitOne K (.ref C) cv=some b)(q:Q (.bl b) H):hIsx K a c H Q:=by
 unfold hIsx;exact⟨C,cv,b,h,i,hc,e,q⟩
def vIsx (K:W.Frag):List V->Hp->VK->Prop:=λxs H Q=>match xs with
 | [.ref a,c]=>hIsx K a c H Q
 | _=>False
section
variable {X:Cx}{K:W.Frag}{x:Str}{C:Addr}{pos:Pos}
theorem kIsx (hK:X.K=K):CallR X (.builtin "isinstance") (vIsx K):=by
 subst hK
 intro pins s σ H xs us Q I rv h
 unfold vIsx at h;split at h
 ·unfold hIsx at h
  obtain⟨C,cv,b,h1,h2,h3,h4,q⟩:=h
  obtain⟨u,v,rfl,ru,rw2⟩:=rv.two
  cases ru
  have e:=clsV_rel h3 rw2
  subst e
  obtain⟨p,_,_⟩:=(show ObjOk X.prog X.w H s.heap _ (exo (.ref C) _) from I.hok _ _ h1)
  exact W.kia_one (kitx_exc h2) I.kIn p h4 (λz=>nomatch z) λtk=>⟨.bl b,H,I.tok _,rfl,q⟩
 ·exact h.elim
@[irreducible] def hIsxT (K:W.Frag)(a tp:Addr)(H:Hp)(Q:VK):Prop:=∃ C cs vs b,H a=some (exo (.ref C) a)/\ExI K C/\H tp=some (.tup cs)/\Paired (λc v=>clsV c=some v) cs vs/\W.kitAny K (.ref C) vs=some b/\Q (.bl b) H
theorem i_isxT {a tp:Addr}{cs:List V}{vs:List Value}{b:Bool}{H:Hp}{Q:VK}(h:H a=some (exo (.ref C) a))(i:ExI K C)(ht:H tp=some (.tup cs))(p:Paired (λc v=>clsV c=some v) cs vs)(e:W.kitAny K (.ref C) vs=some b)(q:Q (.bl b) H):hIsxT K a tp H Q:=by
 unfold hIsxT;exact⟨C,cs,vs,b,h,i,ht,p,e,q⟩
theorem clsV_all:∀ {cs:List V} {vs us:List Value},Paired (λc v=>clsV c=some v) cs vs->Vals cs us->us=vs
 | _,_,_,.nil,.nil=>rfl
 | _,_,_,.cons h p,.cons r q=>by rw[clsV_rel h r,clsV_all p q]
def vIsxT (K:W.Frag):List V->Hp->VK->Prop:=λxs H Q=>match xs with
 | [.ref a,.ref tp]=>hIsxT K a tp H Q
 | _=>False
theorem kIsxT (hK:X.K=K):CallR X (.builtin "isinstance") (vIsxT K):=by
 subst hK
 intro pins s σ H xs us Q I rv h
 unfold vIsxT at h;split at h
 ·unfold hIsxT at h
  obtain⟨C,cs,vs,b,h1,h2,h3,h4,h5,q⟩:=h
  obtain⟨u,v,rfl,ru,rw2⟩:=rv.two
  cases ru
  cases rw2
  obtain⟨p,_,_⟩:=(show ObjOk X.prog X.w H s.heap _ (exo (.ref C) _) from I.hok _ _ h1)
  obtain⟨_,its,r,ob,e1,e2⟩:=(show ObjOk X.prog X.w H s.heap _ (.tup cs) from I.hok _ _ h3)
  have e:=clsV_all h4 r
  subst e
  obtain⟨c0,d0,da,sl⟩:=ob
  obtain⟨z1,n,z2⟩:=e2
  dsimp only at z1 z2
  subst z1
  subst z2
  exact W.kia_tup (kitx_exc h2) I.kIn p e1 h5 (λz=>nomatch z) λtk=>⟨.bl b,H,I.tok _,rfl,q⟩
 ·exact h.elim
theorem qe_clsN (hg:Gl X x)(hm:X.mg x=some (.ref C))(hd:(x == ("__debug__":Str))=false:=by decide):QE X (.Name x pos) (tC (.ref C)):=⟨pe_glob (v:=.ref C) hg hm rfl hd⟩
end
end L2
namespace L2
open PySem PySem.Spec PyProof.Rows
section
variable {X:Cx}{a b:Expr}{ta tb:TE}{pos:Pos}
end
end L2
namespace L2
open PySem PySem.Spec PyProof.Rows
section
variable {X:Cx}{e:Expr}{te:TE}{pos p2:Pos}
end
end L2
namespace L2
open PySem PySem.Spec PyProof.Rows
section
variable {X:Cx}
end
end L2
namespace L2
open PySem PySem.Spec PyProof.Rows
end L2
namespace L2
open PySem PySem.Spec PyProof.Rows
section
variable {X:Cx}{K:W.Frag}
end
end L2
set_option maxHeartbeats 4000000
namespace L2
open PySem PySem.Spec PyProof.Rows
section
variable {X:Cx}
theorem qs_nox {st:Stmt}{t:TS}(h:QS X.nox st t):QS X st t:=⟨λpins s σ H D I hw=>wpAny_mono (h.h pins s σ H D (I.wish _) hw) (λ_ _ q=>q.unwish) λ_ _ z=>False.elim z⟩
end
def spP (sp:Sp):Sp:=λvs H Q _=>sp vs H Q E0
theorem FnOk.plain {P:Program}{w:World}{K:W.Frag}{mg:Str->Option Value}{base:Heap}{k:Nat}{f:Addr}{fd:FuncData}{ps:List Str}{sp:Sp}(F:FnOk P w K mg base (CXe P w) k f fd ps sp):FnOk P w K mg base CX0 k f fd ps (spP sp) :=
 ⟨λvs H Q E q=>F.len vs H Q E0 q,λA outer s H args us vs Q E hr he hb hv hs=>codeAny_mono (F.run A outer s H args us vs Q E0 hr he hb hv hs) λr s' q=>by
  cases r with
  | error e=>obtain⟨_,_,_,_,_,_,_,z⟩:=q;exact z.elim
  | ok fl=>cases fl<;>exact q⟩
theorem DefX.plain {P:Program}{w:World}{K:W.Frag}{mg:Str->Option Value}{base:Heap}{k:Nat}{x:Str}{ps:List Str}{sp:Sp}(D:DefX P w K mg base k x ps sp):Def P w K mg base k x ps (spP sp):=by
 obtain⟨f,fd,F,b,kp,m⟩:=D.ex
 exact⟨f,fd,F.plain,b,kp,m⟩
structure MthX (P:Program)(w:World)(K:W.Frag)(mg:Str->Option Value)(base:Heap)(k:Nat)(C:Addr)(m:Str)(ps:List Str)(sp:Sp):Prop where
 cl:Cls K C
 ex:∃ f fd,FnOk P w K mg base (CXe P w) k f fd ps sp/\Binds K fd ps []/\Meth K C m f
section
variable {X:Cx}{C:Addr}{m:Str}{e o:Expr}{es:List Expr}{to:TE}{t:TA}{pos apos:Pos}{E:XK}
end
section
variable {X:Cx}{pins:List (Addr×Obj)}{σ:St}{H H1:Hp}{s s1 s':Shared}{Q:VK}{Ex:XK}{x y n m:Str}{e o:Expr}{es:List Expr}{t:TA}{to:TE}{p pos np hpos cpos apos p1 tpos:Pos}{ps:List Str}{sp:Sp}{k k2 j:Nat}{C:Addr}{b0:Stmt}{suite:List Stmt}{su:TS}{D:Ends}{ev:Value}
end
end L2
namespace L2
open PySem PySem.Spec PyProof.Rows
section
variable {g:TG}{tt:TT}{te:TE}{σ0:St}{H1:Hp}{Q:Addr->Hp->Prop}{K:W.Frag}
end
end L2
namespace L2
open PySem PySem.Spec PyProof.Rows PySem.W
section
variable {prog:Program}{w:World}{A:Around}{E:Value->Shared->Prop}{h:Heap}{g:Array GenState}{d:Drawn}{t:Nat}{os:OsState}{a:Addr}{o:Obj}{K:Frag}
theorem ve_get {R:Result->Shared->Prop}(hx:h.get? a=some o)(hc:o.cls=.type "ValueError")(hq:R (.ok (.ret (.type "ValueError"))) ⟨h,g,d,t,os⟩) :
  codeAny (model prog w) A (.call (.builtin "getset_descriptor.__get__") ⟨[.builtin "object.__class__",.ref a,.type "ValueError"],[]⟩) R ⟨h,g,d,t,os⟩:=by
 have hT:(⟨h,g,d,t,os⟩:Shared).TypeIs (.ref a) "ValueError":=⟨_,hx,hc⟩
 have f8:isSubtype (.type "ValueError") (.type (".".intercalate ("object.__class__".cutAt '.').dropLast))=pure true:=by
  have ow:".".intercalate ("object.__class__".cutAt '.').dropLast="object":=by decide +kernel
  rw[ow,isSubtype_type];kernel_rfl
 refine codeAny_call_builtin (W.KF.slot_gs).plain (W.KF.entry_gs) ((W.KF.slot_gs).check _ _ _ _ _ _ _ _ (W.KF.type_class) (W.KF.args_gs _ _ _) ?_)
 repeat (any_goals (first | assumption | wp_step))
 constructor
 ·exact Code.quiet_builtin _ (by decide +kernel)
 refine codeAny_builtin (W.KF.entry_class) ?_
 unfold Builtin.«object.__class__» shownTypeOf
 repeat (any_goals (first | assumption | wp_step))
theorem ve_call {tk:Tok}{R:Result->Shared->Prop}(hx:h.get? a=some o)(hc:o.cls=.type "ValueError")(hq:R (.ok (.ret (.type "ValueError"))) ⟨h,g,d,t,os⟩) :
  codeAny (model prog w) A (.call (.builtin "BaseException.__getattribute__") ⟨[.ref a,.str "__class__" tk],[]⟩) R ⟨h,g,d,t,os⟩:=by
 have hT:(⟨h,g,d,t,os⟩:Shared).TypeIs (.ref a) "ValueError":=⟨_,hx,hc⟩
 have g5:typeOf (.builtin "object.__class__")=pure (.type "getset_descriptor"):=by show builtinType _=_;rw[builtinType_eq_fast];kernel_rfl
 have g6:=PySem.F.slot_gs_get.lookup
 have g7:=PySem.F.slot_gs_set.lookup
 have l1:typeLookup (.type "ValueError") "__class__"=pure (some (.builtin "object.__class__")):=by rw[typeLookup_type,builtinLookup_eq_fast];kernel_rfl
 refine codeAny_call_builtin PySem.F.attr_ValueError.ga.plain PySem.F.entry_bexc_ga (PySem.F.attr_ValueError.ga.check _ _ _ _ _ _ _ _ hT (PySem.F.args_bexc_ga _ _) ?_)
 repeat (any_goals (first | assumption | wp_step))
 refine ve_get hx hc ?_
 repeat (any_goals (first | assumption | wp_step))
theorem class_attr_ve {Q:Option Value->Shared->Prop}(hx:h.get? a=some o)(hc:o.cls=.type "ValueError")(hq:Q (some (.type "ValueError")) ⟨h,g,d,t+1,os⟩):wpAny (model prog w) A (getAttr? (.ref a) "__class__") Q E ⟨h,g,d,t,os⟩:=by
 have hT:(⟨h,g,d,t+1,os⟩:Shared).TypeIs (.ref a) "ValueError":=⟨_,hx,hc⟩
 have vc:∀ {A:Around} {tk:Tok} {R:Result->Shared->Prop},R (.ok (.ret (.type "ValueError"))) ⟨h,g,d,t+1,os⟩->codeAny (model prog w) A (.call (.builtin "BaseException.__getattribute__") ⟨[.ref a,.str "__class__" tk],[]⟩) R ⟨h,g,d,t+1,os⟩:=λhq=>ve_call hx hc hq
 obtain⟨oc,od,oda,osl⟩:=o
 dsimp only at hc
 subst hc
 have l1:=PySem.F.attr_ValueError.ga.lookup
 have l2:typeLookup (.type "ValueError") "__getattr__"=pure none:=by rw[typeLookup_type,builtinLookup_eq_fast];kernel_rfl
 have n2:(Value.builtin "BaseException.__getattribute__" == Value.builtin "object.__getattribute__")=false:=by decide +kernel
 have b3:=PySem.F.attr_ValueError.ga.bind (.ref a)
 unfold getAttr? getAttrBy? getAttrBy
 repeat (any_goals (first | assumption | wp_step))
 refine vc ?_
 repeat (any_goals (first | assumption | wp_step))
theorem kitx_ve:KitX K (.ref a) (.type "ValueError") (KitAt a "ValueError"):=kitx_of kitAt_ty (λ{_ _ _ _ _ s} p k=>by obtain⟨h,g,d,t,os⟩:=s;obtain⟨o,h1,h2⟩:=p;exact class_attr_ve h1 h2 k)
end
section
variable {X:Cx}{pins:List (Addr×Obj)}{σ:St}{H:Hp}{s:Shared}{h':Heap}{e:Addr}{cls:Value}{K:Frag}
@[irreducible] def hIsiG (K:Frag)(x:V)(c:String)(H:Hp)(Q:VK):Prop:=hIsi K x c H Q\/∃ a T,x=.ref a/\H a=some (exo (.type T) a)/\(T="dict"\/T="ValueError")/\(c="int"\/c="bool"\/c="list"\/c="str"\/c="tuple")/\Q (.bl false) H
theorem i_isiG {K:Frag}{x:V}{c:String}{H:Hp}{Q:VK}(h:hIsi K x c H Q):hIsiG K x c H Q:=by unfold hIsiG;exact .inl h
theorem i_isiE {K:Frag}{a:Addr}{c T:String}{H:Hp}{Q:VK}(h:H a=some (exo (.type T) a))(ht:T="dict"\/T="ValueError")(hc:c="int"\/c="bool"\/c="list"\/c="str"\/c="tuple")(q:Q (.bl false) H):hIsiG K (.ref a) c H Q:=by unfold hIsiG;exact .inr ⟨a,T,rfl,h,ht,hc,q⟩
def vIsiG (K:Frag):List V->Hp->VK->Prop:=λxs H Q=>match xs with
 | [x,.ty c]=>hIsiG K x c H Q
 | _=>False
theorem kIsiG (hK:X.K=K):CallR X (.builtin "isinstance") (vIsiG K):=by
 subst hK
 intro pins s σ H xs us Q I rv h
 unfold vIsiG at h;split at h
 ·rename_i x c
  unfold hIsiG at h
  rcases h with h | ⟨a,T,rfl,ha,ht,hc,q⟩
  ·exact callIsi pins s σ H _ us Q I rv h
  ·obtain⟨u,v,rfl,ru,rw2⟩:=rv.two
   cases ru
   cases rw2
   obtain⟨⟨ob,p1,p2⟩,_,_⟩:=(show ObjOk X.prog X.w H s.heap _ (exo (.type T) a) from I.hok _ _ ha)
   rcases ht with rfl | rfl
   ·exact W.kia_one W.kitx_dict I.kIn ⟨ob,p1,p2⟩ (show kitOne X.K (.type "dict") (.type c)=some false by rcases hc with rfl | rfl | rfl | rfl | rfl<;>rfl) (λz=>nomatch z) λtk=>⟨.bl false,H,I.tok _,rfl,q⟩
   ·exact W.kia_one kitx_ve I.kIn ⟨ob,p1,p2⟩ (show kitOne X.K (.type "ValueError") (.type c)=some false by rcases hc with rfl | rfl | rfl | rfl | rfl<;>rfl) (λz=>nomatch z) λtk=>⟨.bl false,H,I.tok _,rfl,q⟩
 ·exact h.elim
end
inductive Odd (H:Hp):V->Prop where
 | non:Odd H .non
 | bl (b:Bool):Odd H (.bl b)
 | str (z:Str):Odd H (.str z)
 | lst {a:Addr} {xs:List V} (h:H a=some (.lst xs)):Odd H (.ref a)
 | tup {a:Addr} {xs:List V} (h:H a=some (.tup xs)):Odd H (.ref a)
 | dct {a:Addr} (h:H a=some (exo (.type "dict") a)):Odd H (.ref a)
 | exc {a:Addr} (h:H a=some (exo (.type "ValueError") a)):Odd H (.ref a)
theorem Odd.same {H H':Hp}{x:V}(s:Same H H')(o:Odd H x):Odd H' x:=by
 cases o with
 | non=>exact .non
 | bl b=>exact .bl b
 | str z=>exact .str z
 | lst h=>exact .lst (s _ _ h)
 | tup h=>exact .tup (s _ _ h)
 | dct h=>exact .dct (s _ _ h)
 | exc h=>exact .exc (s _ _ h)
end L2
namespace L2
open PySem PySem.Spec PyProof.Rows PySem.SeqAt PySem.MeetsSeq3
open PySem.AutoSeq1 (wpAny_loadPart')
def LessAt (A:Around)(s:Shared)(x y:Value)(r:Bool):Prop :=
 ∀ (p:Program) (w:World) (E Q:Value->Shared->Prop),Q (.bool r) s->wpAny (model p w) A (richCompare .Lt x y) Q E s
inductive Lesser (A:Around)(s:Shared):List Value->List Value->Bool->Prop where
 | both:Lesser A s [] [] false
 | short {y:Value} {ys:List Value}:Lesser A s [] (y::ys) true
 | long {x:Value} {xs:List Value}:Lesser A s (x::xs) [] false
 | on {x y:Value} {xs ys:List Value} {r:Bool} (h:EqAt A s x y true) (t:Lesser A s xs ys r):Lesser A s (x::xs) (y::ys) r
 | off {x y:Value} {xs ys:List Value} {r:Bool} (h:EqAt A s x y false) (t:LessAt A s x y r):Lesser A s (x::xs) (y::ys) r
def SObj (h:Heap)(c:String)(a:Addr)(d:Option Addr)(vs:Array Value)(n:Nat)(sl:Array (Option Value)):Prop:=h.get? a=some { cls:=.type c,dict:=d,data:=.seq vs n,slots:=sl }
theorem less_loop {a b:Addr}{vs us:Array Value}{n m:Nat}{da db:Option Addr}{sa sb:Array (Option Value)}{r:Bool}:∀ (k i:Nat),vs.size-i=k ->
  Meets (Builtin.«list.__eq__.loop» ⟨[.ref a,.ref b,rawInt i,rawInt 0],[]⟩) λA R s=>SObj s.heap "list" a da vs n sa/\SObj s.heap "list" b db us m sb /\
   Lesser A.in1 s (vs.toList.drop i) (us.toList.drop i) r/\i<=vs.size/\i<=us.size/\R (.ok (.ret (.bool r))) s
 | 0,i,hk=>by
  intro prog w A R s ⟨ha,hb,hl,hi1,hi2,q⟩
  obtain⟨hp,gl,dr,tk,os⟩:=s
  unfold SObj at ha hb
  have d1:vs.toList.drop i=[]:=List.drop_eq_nil_of_le (by simp;omega)
  rw[d1] at hl
  wp_walk using wpAny_loadPart' ha,wpAny_loadPart' hb
  have v1:vs[((i:Nat):Int).toNat]?=none:=by simp;omega
  rw[v1]
  wp_walk using wpAny_loadPart' ha,wpAny_loadPart' hb
  show R (.ok (.ret (.bool (decide (vs.size<us.size))))) _
  have z:decide (vs.size<us.size)=r:=by
   generalize hd:us.toList.drop i=us' at hl
   cases hl with
   | both =>
    have:=congrArg List.length hd
    simp at this
    exact decide_eq_false (by omega)
   | short =>
    have:=congrArg List.length hd
    simp at this
    exact decide_eq_true (by omega)
  rw[z];exact q
 | k+1,i,hk=>by
  intro prog w A R s ⟨ha,hb,hl,hi1,hi2,q⟩
  obtain⟨hp,gl,dr,tk,os⟩:=s
  unfold SObj at ha hb
  have i1:i<vs.size:=by omega
  have d1:vs.toList.drop i=vs[i]::vs.toList.drop (i+1):=by rw[List.drop_eq_getElem_cons (by simpa using i1)];simp
  rw[d1] at hl
  wp_walk using wpAny_loadPart' ha,wpAny_loadPart' hb
  have v1:vs[((i:Nat):Int).toNat]?=some vs[i]:=by rw[Int.toNat_natCast];exact Array.getElem?_eq_getElem i1
  rw[v1]
  by_cases i2:i<us.size
  ·have d2:us.toList.drop i=us[i]::us.toList.drop (i+1):=by rw[List.drop_eq_getElem_cons (by simpa using i2)];simp
   rw[d2] at hl
   have v2:us[((i:Nat):Int).toNat]?=some us[i]:=by rw[Int.toNat_natCast];exact Array.getElem?_eq_getElem i2
   rw[v2]
   cases hl with
   | on he ht =>
    refine wpAny_bind (he prog w _ _ ?_)
    wp_walk
    rw[show ((i:Int)+1)=((i+1:Nat):Int) by omega]
    refine⟨plainId_quiet plain_eq_loop _,codeAny_builtin entry_eq_loop ?_⟩
    rw[Around.under_plainId plain_eq_loop _]
    exact less_loop k (i+1) (by omega) prog w A R _ ⟨ha,hb,ht,by omega,by omega,q⟩
   | off he ht =>
    refine wpAny_bind (he prog w _ _ ?_)
    wp_walk using wpAny_loadPart' ha,wpAny_loadPart' hb
    rw[v1,v2]
    refine wpAny_bind (ht prog w _ _ ?_)
    wp_walk
    exact q
  ·have d2:us.toList.drop i=[]:=List.drop_eq_nil_of_le (by simp;omega)
   rw[d2] at hl
   cases hl with
   | long =>
    have v2:us[((i:Nat):Int).toNat]?=none:=by simp;omega
    rw[v2]
    wp_walk using wpAny_loadPart' ha,wpAny_loadPart' hb
    have z:decide (vs.size<us.size)=false:=decide_eq_false (by omega)
    show R (.ok (.ret (.bool (decide (vs.size<us.size))))) _
    rw[z];exact q
theorem list_less {a b:Addr}{vs us:Array Value}{n m:Nat}{da db:Option Addr}{sa sb:Array (Option Value)}{r:Bool} :
  Meets (Builtin.«list.__lt__» ⟨[.ref a,.ref b],[]⟩) λA R s=>SObj s.heap "list" a da vs n sa/\SObj s.heap "list" b db us m sb/\Lesser A.in1 s vs.toList us.toList r/\R (.ok (.ret (.bool r))) s:=by
 intro prog w A R s ⟨ha,hb,hl,q⟩
 obtain⟨hp,gl,dr,tk,os⟩:=s
 unfold SObj at ha hb
 have sub:=AutoSeq1.sub_list_list
 wp_walk using wpAny_loadPart' ha,wpAny_loadPart' hb
 refine⟨plainId_quiet plain_eq_loop _,codeAny_builtin entry_eq_loop ?_⟩
 rw[Around.under_plainId plain_eq_loop _]
 exact less_loop vs.size 0 rfl prog w A R _ ⟨ha,hb,by simpa using hl,by omega,by omega,q⟩
theorem tuple_less {a b:Addr}{vs us:Array Value}{n m:Nat}{da db:Option Addr}{sa sb:Array (Option Value)}{r:Bool} :
  Meets (Builtin.«tuple.__lt__» ⟨[.ref a,.ref b],[]⟩) λA R s=>SObj s.heap "tuple" a da vs n sa/\SObj s.heap "tuple" b db us m sb/\Lesser A.in1 s vs.toList us.toList r/\R (.ok (.ret (.bool r))) s:=by
 refine .of_wp λprog w A R s h=>?_
 obtain⟨hp,gl,dr,tk,os⟩:=s
 obtain⟨ha,hb,hl,q⟩:=h
 unfold SObj at ha hb
 have sub:=AutoSeq1.sub_tuple_tuple
 have key:∀ {xs ys:List Value},Lesser A.in1 ⟨hp,gl,dr,tk,os⟩ xs ys r->xs.zip ys=[]->r=decide (xs.length<ys.length):=by
  intro xs ys h z
  cases h with
  | both=>rfl
  | short=>rfl
  | long=>rfl
  | on=>cases z
  | off=>cases z
 wp_walk using wpAny_loadPart' ha,wpAny_loadPart' hb,wpAny_forIn_list _ (λrest c s'=>c.1=none/\s'=⟨hp,gl,dr,tk,os⟩/\∃ xs ys:List Value,rest=xs.zip ys/\xs.length+us.size=ys.length+vs.size/\Lesser A.in1 ⟨hp,gl,dr,tk,os⟩ xs ys r) _
 case turn =>
  rintro⟨x,y⟩ rest c s' ⟨hc,rfl,xs,ys,hz,hlen,hl⟩
  cases hl with
  | both=>cases hz
  | short=>cases hz
  | long=>cases hz
  | on he ht =>
   rw[List.zip_cons_cons] at hz
   cases hz
   refine wpAny_bind (he prog w _ _ ?_)
   wp_walk
   exact⟨rfl,rfl,_,_,rfl,by simp only[List.length_cons] at hlen;omega,ht⟩
  | off he ht =>
   rw[List.zip_cons_cons] at hz
   cases hz
   refine wpAny_bind (he prog w _ _ ?_)
   have ht':=ht prog w
   wp_walk using ht'
   exact⟨_,rfl,q⟩
 case fin =>
  rintro⟨c1,c2⟩ s' ⟨hc,rfl,xs,ys,hz,hlen,hl⟩
  simp only at hc
  subst hc
  have e:=key hl hz.symm
  have e2:decide (xs.length<ys.length)=decide (vs.size<us.size):=decide_eq_decide.mpr (by omega)
  rw[e,e2] at q
  wp_walk
  exact⟨_,rfl,by simpa [Builtin.Tuple.tupleCompareSizes] using q⟩
 case h =>
  exact⟨rfl,rfl,vs.toList,us.toList,rfl,by simp;omega,hl⟩
theorem less_lists {A:Around}{s:Shared}{a b:Addr}{vs us:Array Value}{r:Bool}(ha:s.heap.IsList a vs)(hb:s.heap.IsList b us)(hu:A.units<cLine)(h:Lesser A.in1 s vs.toList us.toList r):LessAt A s (.ref a) (.ref b) r:=λp w E Q q=>by
 obtain⟨⟨c1,d1,x1,l1⟩,o1,hc1,n1,hd1⟩:=id ha
 obtain⟨⟨c2,d2,x2,l2⟩,o2,hc2,n2,hd2⟩:=id hb
 cases hc1;cases hd1;cases hc2;cases hd2
 exact richCompare_meets_room (op:=.Lt) ⟨_,o1,rfl⟩ ⟨_,o2,rfl⟩ F.slot_list_lt F.entry_list_lt (F.args_list_lt_2 _ _) list_less ⟨o1,o2,h,show Value.bool _≠Value.notImplemented/\Q _ s from ⟨(λx=>nomatch x),q⟩⟩ hu
theorem less_tuples {A:Around}{s:Shared}{a b:Addr}{vs us:Array Value}{r:Bool}(ha:s.heap.IsTuple a vs)(hb:s.heap.IsTuple b us)(hu:A.units<cLine)(h:Lesser A.in1 s vs.toList us.toList r):LessAt A s (.ref a) (.ref b) r:=λp w E Q q=>by
 obtain⟨⟨c1,d1,x1,l1⟩,o1,hc1,n1,hd1⟩:=id ha
 obtain⟨⟨c2,d2,x2,l2⟩,o2,hc2,n2,hd2⟩:=id hb
 cases hc1;cases hd1;cases hc2;cases hd2
 exact richCompare_meets_room (op:=.Lt) ⟨_,o1,rfl⟩ ⟨_,o2,rfl⟩ PySem.F.slot_tuple_lt PySem.F.entry_tuple_lt (PySem.F.args_tuple_lt_2 _ _) tuple_less ⟨o1,o2,h,show Value.bool _≠Value.notImplemented/\Q _ s from ⟨(λx=>nomatch x),q⟩⟩ hu
end L2
namespace L2
open PySem PySem.Spec PyProof.Rows PySem.SeqAt
section
variable {p:Program}{w:World}{A:Around}{s0:Shared}
def KeptBy (h h':Heap):Prop:=∀ b o,h.get? b=some o->h'.get? b=some o
def LessBy (A:Around)(s:Shared)(us:List Value)(lt:Nat->Nat->Bool):Prop :=
 ∀ i j (x y:Value),i≠j->us[i]?=some x->us[j]?=some y->∀ (h:Heap) (t:Nat),KeptBy s.heap h->LessAt A { s with heap:=h,toks:=t } x y (lt i j)
def firstLow (lt:Nat->Nat->Bool):Nat->Nat
 | 0=>0
 | k+1=>if lt (k+1) (firstLow lt k) then k+1 else firstLow lt k
theorem firstLow_le (lt:Nat->Nat->Bool):∀ k,firstLow lt k<=k
 | 0=>Nat.le_refl _
 | k+1=>by unfold firstLow;have:=firstLow_le lt k;split<;>omega
def PairObj (x:Value)(c:Nat):Obj:={ cls:=.type "list",dict:=none,data:=.seq #[x,x] c,slots:=#[] }
theorem low_loop {I S l:Addr}{us:List Value}{lt:Nat->Nat->Bool}{R:Result->Shared->Prop}(hh:A.handled=none)(hl:s0.heap.IsList l us.toArray)(hI:s0.heap.get? I=none)(hS:s0.heap.get? S=none)(hSI:S≠I)(hlt:LessBy A.in1 s0 us lt)
  (hR:∀ v h t,us[firstLow lt (us.length-1)]?=some v->KeptBy s0.heap h->R (.ok (.ret v)) { s0 with heap:=h,toks:=t }) :
  ∀ (k j:Nat) (h:Heap) (t:Nat) (x:Value) (c:Nat),us.length-(j+1)=k->j+1<=us.length->KeptBy s0.heap h->h.IsListIter I l (j+1)->h.get? S=some (PairObj x c)->us[firstLow lt j]?=some x ->
   codeAny (model p w) A (.builtin "min.loop" ⟨[.ref I,.none,.ref S],[]⟩) R { s0 with heap:=h,toks:=t }:=by
 have nm:(toString "min"++toString ".loop":String)="min.loop":=by decide
 have nlI:l≠I:=λe=>by obtain⟨o,q,_⟩:=hl;rw[e,hI] at q;cases q
 have W:=Walks.list (prog:=p) (w:=w) (A:=A.in1) hh I l nlI us.toArray
 have z:us.toArray.size=us.length:=List.size_toArray ..
 have old:∀ {h h':Heap},KeptBy s0.heap h->(∀ b o,b∉[I]->h.get? b=some o->h'.get? b=some o)->KeptBy s0.heap h':=λk1 k2 b o e=>k2 b o (λhm=>by
  have:b=I:=by simpa using hm
  rw[this,hI] at e;cases e) (k1 b o e)
 have oldS:∀ {h:Heap} {f:Obj->Obj},KeptBy s0.heap h->KeptBy s0.heap (h.update S f):=λk1 b o e=>(Heap.get?_update_other _ _ (λq=>by rw[<- q,hS] at e;cases e)).trans (k1 b o e)
 have isl:∀ {h:Heap},KeptBy s0.heap h->h.IsList l us.toArray:=λk1=>hl.at λo e=>k1 l o e
 intro k
 induction k with
 | zero =>
  intro j h t x c hk hj kb it eS ex
  have jn:j+1=us.length:=by omega
  refine codeAny_builtin PySem.F.entry_min_loop ?_
  rw[Around.under_plainId PySem.F.plain_min_loop _]
  refine wpAny_bind (wpAny_seqItems eS rfl ?_)
  refine wpAny_bind (wpAny_tryCatch (W.done _ _ _ ⟨by rw[z,<- jn];exact it,isl kb⟩ λh' tk hk'=>?_))
  have eS':=hk' S _ (by simpa using hSI) eS
  refine wpAny_bind ?_
  refine wpAny_updateSeq eS' rfl (wpAny_bind (wpAny_letGo (wpAny_pure ?_)))
  exact hR x _ tk (by rw[<- jn];exact ex) (oldS (old kb hk'))
 | succ k ih =>
  intro j h t x c hk hj kb it eS ex
  have jn:j+1<us.length:=by omega
  refine codeAny_builtin PySem.F.entry_min_loop ?_
  rw[Around.under_plainId PySem.F.plain_min_loop _]
  refine wpAny_bind (wpAny_seqItems eS rfl ?_)
  refine wpAny_bind (wpAny_tryCatch (W.item (j+1) _ _ _ (by rw[z];exact jn) ⟨it,isl kb⟩ λv h' tk ev st hk'=>?_))
  have eS':=hk' S _ (by simpa using hSI) eS
  have kb':=old kb hk'
  have ev':us[j+1]?=some v:=by simpa using ev
  have fl:=firstLow_le lt j
  show wpAny (model p w) A.in1 (tryCatch (holding [v,v] (richCompare .Lt v x >>= _)) _ >>= _) _ _ _
  refine wpAny_bind (wpAny_tryCatch (wpAny_holding (wpAny_bind (hlt (j+1) (firstLow lt j) v x (by omega) ev' ex h' tk kb' p w _ _ ?_))))
  refine wpAny_bind (wpAny_holding (wpAny_truthy_bool ?_))
  refine wpAny_bind (wpAny_letGo (wpAny_pure ?_))
  cases hb:lt (j+1) (firstLow lt j) with
  | true =>
   simp only[if_true]
   refine wpAny_bind ?_
   refine wpAny_updateSeq eS' rfl (wpAny_bind (wpAny_letGo ?_))
   rw[nm]
   refine wpAny_pure ⟨plainId_quiet PySem.F.plain_min_loop _,ih (j+1) _ tk v _ (by omega) (by omega) (oldS kb') (st.1.at λo e=>(Heap.get?_update_other _ _ hSI).trans e) (Heap.get?_update_self _ eS' rfl) (by simp only[firstLow,hb,if_true];exact ev')⟩
  | false =>
   simp only[Bool.false_eq_true,if_false]
   refine wpAny_bind (wpAny_letGo ?_)
   rw[nm]
   exact wpAny_pure ⟨plainId_quiet PySem.F.plain_min_loop _,ih (j+1) _ tk x c (by omega) (by omega) kb' st.1 eS' (by simp only[firstLow,hb,Bool.false_eq_true,if_false];exact ex)⟩
theorem low_call {l:Addr}{us:List Value}{lt:Nat->Nat->Bool}{Q E:Value->Shared->Prop}(hh:A.handled=none)(hl:s0.heap.IsList l us.toArray)(hne:0<us.length)(hlt:LessBy A.in1 s0 us lt)
  (hQ:∀ v h t,us[firstLow lt (us.length-1)]?=some v->KeptBy s0.heap h->Q v { s0 with heap:=h,toks:=t }):wpAny (model p w) A (call (.builtin "min") [.ref l]) Q E s0:=by
 have nm:(toString "min"++toString ".loop":String)="min.loop":=by decide
 refine call_function_tree PySem.F.kind_min PySem.F.plain_min PySem.F.entry_min (PySem.F.args_min1 _) ?_
 refine wpAny_bind (wpAny_of_eq (show Builtin.Builtins.bindParams "min" ["key","default"] 0 ⟨[],[]⟩=pure [none,none] from rfl) ?_)
 refine wpAny_bind (wpAny_pure ?_)
 refine wpAny_bind (wpAny_pyIter_list hl ?_)
 refine wpAny_bind (wpAny_newObj_type ?_)
 rw[nm]
 refine wpAny_pure ⟨plainId_quiet PySem.F.plain_min_loop _,?_⟩
 have hlt0:l<s0.heap.objs.size:=by obtain⟨_,e,_⟩:=hl;exact Heap.lt_size e
 generalize hob:({ cls:=.type "list_iterator",data:=.fields #[.ref l,.int 0 0] }:Obj)=ob
 have fI:(s0.heap.push ob).get? s0.heap.objs.size=some ob:=by subst hob;exact Heap.get?_push_size _ rfl
 have nI:s0.heap.get? s0.heap.objs.size=none:=by
  cases e:s0.heap.get? s0.heap.objs.size with
  | none=>rfl
  | some o=>exact absurd (Heap.lt_size e) (Nat.lt_irrefl _)
 generalize hob2:({ cls:=.type "list",data:=.seq #[] }:Obj)=ob2
 have zI:(s0.heap.push ob).objs.size=s0.heap.objs.size+1:=Heap.size_push ..
 have nSI:(s0.heap.push ob).objs.size≠s0.heap.objs.size:=by rw[zI];omega
 have nS:¬ (s0.heap.push ob).objs.size<s0.heap.objs.size:=by rw[zI];omega
 generalize hS:(s0.heap.push ob).objs.size=S at *
 have e2:((s0.heap.push ob).push ob2).get? S=some ob2:=by subst hS;subst hob2;exact Heap.get?_push_size _ rfl
 have fS:s0.heap.get? S=none:=by
  cases e:s0.heap.get? S with
  | none=>rfl
  | some o=>exact absurd (Heap.lt_size e) nS
 have kb2:KeptBy s0.heap ((s0.heap.push ob).push ob2):=λb o e=>Heap.get?_push_of_some _ (Heap.get?_push_of_some _ e)
 have nlI:l≠s0.heap.objs.size:=Nat.ne_of_lt hlt0
 have W:=Walks.list (prog:=p) (w:=w) (A:=A.in1) hh s0.heap.objs.size l nlI us.toArray
 have z:us.toArray.size=us.length:=List.size_toArray ..
 have it0:((s0.heap.push ob).push ob2).IsListIter s0.heap.objs.size l 0:=⟨ob,Heap.get?_push_of_some _ fI,by rw[<- hob],by rw[<- hob];rfl⟩
 refine codeAny_builtin PySem.F.entry_min_loop ?_
 rw[Around.under_plainId PySem.F.plain_min_loop _]
 subst hob2
 refine wpAny_bind (wpAny_seqItems e2 rfl ?_)
 refine wpAny_bind (wpAny_tryCatch (W.item 0 _ _ _ (by rw[z];exact hne) ⟨it0,hl.at λo e=>kb2 l o e⟩ λv h' tk ev st hk'=>?_))
 have eS':=hk' S _ (by simpa using nSI) e2
 have kb':KeptBy s0.heap h':=λb o e=>hk' b o (λhm=>by
  have:b=s0.heap.objs.size:=by simpa using hm
  rw[this,nI] at e;cases e) (kb2 b o e)
 show wpAny (model p w) A.in1 (updateSeq S (λ_=>#[v,v]) >>= _) _ _ _
 refine wpAny_bind ?_
 refine wpAny_updateSeq eS' rfl ?_
 rw[nm]
 have oldS:∀ {f:Obj->Obj},KeptBy s0.heap (h'.update S f):=λb o e=>(Heap.get?_update_other _ _ (λq=>by rw[<- q,fS] at e;cases e)).trans (kb' b o e)
 refine wpAny_pure ⟨plainId_quiet PySem.F.plain_min_loop _,?_⟩
 exact low_loop (s0:=s0) hh hl nI fS nSI hlt hQ _ 0 _ tk v _ rfl hne oldS (st.1.at λo e=>(Heap.get?_update_other _ _ nSI).trans e) (Heap.get?_update_self _ eS' rfl) (by simpa [firstLow] using ev)
end
end L2
namespace L2
open PySem PySem.Spec PyProof.Rows PySem.SeqAt
structure Ord {α:Type}(lt:α->α->Bool):Prop where
 irr:∀ x,lt x x=false
 tr:∀ x y z,lt x y=true->lt y z=true->lt x z=true
 tot:∀ x y,x≠y->lt x y=true\/lt y x=true
def lexB {α:Type}[DecidableEq α](lt:α->α->Bool):List α->List α->Bool
 | [],[]=>false
 | [],_::_=>true
 | _::_,[]=>false
 | x::xs,y::ys=>if x=y then lexB lt xs ys else lt x y
section
variable {α:Type}[DecidableEq α]{lt:α->α->Bool}
theorem lexB_irr:∀ xs:List α,lexB lt xs xs=false
 | []=>rfl
 | x::xs=>by simp only[lexB,if_true];exact lexB_irr xs
theorem lexB_tr (o:Ord lt):∀ xs ys zs:List α,lexB lt xs ys=true->lexB lt ys zs=true->lexB lt xs zs=true
 | [],[],_,h,_=>nomatch h
 | [],_::_,[],_,h=>nomatch h
 | [],_::_,_::_,_,_=>rfl
 | _::_,[],_,h,_=>nomatch h
 | _::_,_::_,[],_,h=>nomatch h
 | x::xs,y::ys,z::zs,h1,h2=>by
  simp only[lexB] at h1 h2 ⊢
  by_cases e1:x=y
  ·subst e1
   rw[if_pos rfl] at h1
   by_cases e2:x=z
   ·subst e2
    rw[if_pos rfl] at h2 ⊢
    exact lexB_tr o xs ys zs h1 h2
   ·rw[if_neg e2] at h2 ⊢;exact h2
  ·rw[if_neg e1] at h1
   by_cases e2:y=z
   ·subst e2
    rw[if_neg e1];exact h1
   ·rw[if_neg e2] at h2
    have h3:=o.tr x y z h1 h2
    by_cases e3:x=z
    ·subst e3
     rw[o.irr] at h3;cases h3
    ·rw[if_neg e3];exact h3
theorem lexB_tot (o:Ord lt):∀ xs ys:List α,xs≠ys->lexB lt xs ys=true\/lexB lt ys xs=true
 | [],[],h=>absurd rfl h
 | [],_::_,_=>.inl rfl
 | _::_,[],_=>.inr rfl
 | x::xs,y::ys,h=>by
  simp only[lexB]
  by_cases e:x=y
  ·subst e
   rw[if_pos rfl,if_pos rfl]
   exact lexB_tot o xs ys λq=>h (by rw[q])
  ·rw[if_neg e,if_neg λq=>e q.symm]
   exact o.tot x y e
theorem lexB_ord (o:Ord lt):Ord (lexB lt):=⟨lexB_irr,lexB_tr o,lexB_tot o⟩
end
theorem int_ord:Ord (λa b:Int=>decide (a<b)):=⟨λx=>by simp,λx y z h1 h2=>by simp at *;omega,λx y h=>by simp;omega⟩
def ltI:List Int->List Int->Bool:=lexB λa b:Int=>decide (a<b)
theorem ltI_ord:Ord ltI:=lexB_ord int_ord
inductive CV where
 | n (i:Int)
 | s (l:List Int)
deriving DecidableEq
def CV.lt:CV->CV->Bool
 | .n a,.n b=>decide (a<b)
 | .s a,.s b=>ltI a b
 | .n _,.s _=>true
 | .s _,.n _=>false
theorem cv_ord:Ord CV.lt:=by
 refine⟨λx=>?_,λx y z h1 h2=>?_,λx y h=>?_⟩
 ·cases x with
  | n i=>exact int_ord.irr i
  | s l=>exact ltI_ord.irr l
 ·cases x<;>cases y<;>cases z<;>first
   | exact int_ord.tr _ _ _ h1 h2
   | exact ltI_ord.tr _ _ _ h1 h2
   | rfl
   | (have q:=h1;simp[CV.lt] at q;done)
   | (have q:=h2;simp[CV.lt] at q;done)
 ·cases x<;>cases y<;>first
   | exact int_ord.tot _ _ λq=>h (by rw[q])
   | exact ltI_ord.tot _ _ λq=>h (by rw[q])
   | exact .inl rfl
   | exact .inr rfl
def ltT:List CV->List CV->Bool:=lexB CV.lt
theorem ltT_ord:Ord ltT:=lexB_ord cv_ord
theorem firstLow_min {cs:Nat->List CV}:∀ (n i:Nat),i<=n->ltT (cs i) (cs (firstLow (λi j=>ltT (cs i) (cs j)) n))=false
 | 0,i,h=>by
  have:i=0:=by omega
  subst this
  exact ltT_ord.irr _
 | n+1,i,h=>by
  have ih:=firstLow_min (cs:=cs) n
  simp only[firstLow]
  by_cases hb:ltT (cs (n+1)) (cs (firstLow (λi j=>ltT (cs i) (cs j)) n))=true
  case neg =>
   rw[if_neg hb]
   have hb:=(Bool.not_eq_true _).mp hb
   by_cases e:i=n+1
   ·subst e;exact hb
   ·exact ih i (by omega)
  case pos =>
   rw[if_pos hb]
   by_cases e:i=n+1
   ·subst e;exact ltT_ord.irr _
   ·have h1:=ih i (by omega)
    cases h2:ltT (cs i) (cs (n+1)) with
    | false=>rfl
    | true=>rw[ltT_ord.tr _ _ _ h2 hb] at h1;cases h1
def RC (H:Hp)(x:V)(c:CV):Prop:=match c with
 | .n i=>x=.int i
 | .s l=>∃ a,x=.ref a/\H a=some (.lst (l.map V.int))
def Kin:CV->CV->Prop
 | .n _,.n _=>True
 | .s _,.s _=>True
 | _,_=>False
def Kins:List CV->List CV->Prop
 | [],_=>True
 | _::_,[]=>True
 | x::xs,y::ys=>Kin x y/\(x=y->Kins xs ys)
theorem map_int_inj {l m:List Int}(h:l.map V.int=m.map V.int):l=m:=by
 have:Function.Injective V.int:=λa b e=>by injection e
 exact List.map_inj_right (λa b e=>this e) |>.mp h
section
variable {X:Cx}{pins:List (Addr×Obj)}{σ:St}{H:Hp}{s:Shared}
theorem all_eq {l m:List Int}(h:l.length=m.length):(List.range l.length).all (λj=>decide (l.getD j 0=m.getD j 0))=decide (l=m):=by
 by_cases e:l=m
 ·subst e;simp
 ·rw[decide_eq_false e,List.all_eq_false]
  obtain⟨i,hi⟩:∃ i,l[i]?≠m[i]?:=Classical.byContradiction λq=>e (List.ext_getElem? λi=>Classical.byContradiction λz=>q ⟨i,z⟩)
  have hl:i<l.length:=Classical.byContradiction λq=>hi (by rw[List.getElem?_eq_none (by omega),List.getElem?_eq_none (by omega)])
  refine⟨i,List.mem_range.mpr hl,?_⟩
  simp only[decide_eq_true_eq]
  intro q
  have hm:i<m.length:=by omega
  rw[List.getD_eq_getElem?_getD,List.getD_eq_getElem?_getD,List.getElem?_eq_getElem hl,List.getElem?_eq_getElem hm] at q
  exact hi (by rw[List.getElem?_eq_getElem hl,List.getElem?_eq_getElem hm];simpa using q)
theorem eq_cv (I:Inv X pins σ H s){A:Around}(hA:A.units+1<cLine){x y:V}{u v:Value}{c d:CV}(h1:RC H x c)(h2:RC H y d)(hk:Kin c d)(r1:RelV x u)(r2:RelV y v):EqAt A s u v (decide (c=d)):=by
 cases c with
 | n i =>
  cases d with
  | s m=>exact hk.elim
  | n j =>
   cases (show x=.int i from h1)
   cases (show y=.int j from h2)
   obtain⟨t,rfl⟩:=r1
   obtain⟨t',rfl⟩:=r2
   have e:decide (CV.n i=CV.n j)=(i == j):=by
    rw[Bool.beq_eq_decide_eq];exact decide_eq_decide.mpr ⟨λq=>by injection q,λq=>by rw[q]⟩
   rw[e]
   exact EqAt.int_int i t j t'
 | s l =>
  cases d with
  | n j=>exact hk.elim
  | s m =>
   obtain⟨a,rfl,ha⟩:=h1
   obtain⟨b,rfl,hb⟩:=h2
   cases r1
   cases r2
   have e:decide (CV.s l=CV.s m)=decide (l=m):=decide_eq_decide.mpr ⟨λq=>by injection q,λq=>by rw[q]⟩
   rw[e]
   by_cases hab:a=b
   ·subst hab
    rw[ha] at hb
    have:l=m:=map_int_inj (by injection hb with q;injection q)
    rw[decide_eq_true this]
    exact EqAt.same _
   ·obtain⟨us,q1,p1,_⟩:=I.list (SqL.of ha)
    obtain⟨vs,q2,p2,_⟩:=I.list (SqL.of hb)
    have i1:=intsAre_of q1
    have i2:=intsAre_of q2
    have l1:=q1.length
    have l2:=q2.length
    rw[List.length_map] at l1 l2
    by_cases hl:l.length=m.length
    ·refine EqAt.of_refs hab ?_
     have:=RcAt.lists (A:=A) (e:=λj=>decide (l.getD j 0=m.getD j 0)) p1.isList p2.isList (by simp only[List.size_toArray];omega) (by omega) λj a1 a2=>by
      obtain⟨t1,e1⟩:=ints_at i1 j a1
      obtain⟨t2,e2⟩:=ints_at i2 j a2
      rw[e1,e2,<- Bool.beq_eq_decide_eq]
      exact EqAt.int_int (A:=A.in1) (s:=s) (l.getD j 0) t1 (m.getD j 0) t2
     rwa [show us.toArray.size=l.length by simp only[List.size_toArray];omega,all_eq hl] at this
    ·rw[decide_eq_false λq=>hl (by rw[q])]
     exact EqAt.of_refs hab (RcAt.lists_lengths p1.isList p2.isList (by simp only[List.size_toArray,bne_iff_ne];omega) (by omega))
theorem less_ints {A:Around}:∀ {us vs:List Value} {l m:List Int},IntsAre us l->IntsAre vs m->Lesser A s us vs (ltI l m)
 | _,_,_,_,.nil,.nil=>.both
 | _,_,_,_,.nil,.cons _ _ _=>.short
 | _,_,_,_,.cons _ _ _,.nil=>.long
 | _,_,_,_,.cons a t h1,.cons b t' h2=>by
  have e:=EqAt.int_int (A:=A) (s:=s) a t b t'
  unfold ltI
  simp only[lexB]
  by_cases z:a=b
  ·rw[if_pos z]
   rw[beq_iff_eq.mpr z] at e
   exact .on e (less_ints h1 h2)
  ·rw[if_neg z]
   rw[beq_eq_false_iff_ne.mpr z] at e
   exact .off e λp w E Q q=>lt_int q
theorem less_cv (I:Inv X pins σ H s){A:Around}(hA:A.units+1<cLine){x y:V}{u v:Value}{c d:CV}(h1:RC H x c)(h2:RC H y d)(hk:Kin c d)(r1:RelV x u)(r2:RelV y v):LessAt A s u v (CV.lt c d):=by
 cases c with
 | n i =>
  cases d with
  | s m=>exact hk.elim
  | n j =>
   cases (show x=.int i from h1)
   cases (show y=.int j from h2)
   obtain⟨t,rfl⟩:=r1
   obtain⟨t',rfl⟩:=r2
   exact λp w E Q q=>lt_int q
 | s l =>
  cases d with
  | n j=>exact hk.elim
  | s m =>
   obtain⟨a,rfl,ha⟩:=h1
   obtain⟨b,rfl,hb⟩:=h2
   cases r1
   cases r2
   obtain⟨us,q1,p1,_⟩:=I.list (SqL.of ha)
   obtain⟨vs,q2,p2,_⟩:=I.list (SqL.of hb)
   exact less_lists p1.isList p2.isList (by omega) (less_ints (by simpa using intsAre_of q1) (by simpa using intsAre_of q2))
theorem less_cvs (I:Inv X pins σ H s){A:Around}(hA:A.units+1<cLine):∀ {xs ys:List V} {us vs:List Value} {cs ds:List CV},Paired (RC H) xs cs->Paired (RC H) ys ds->Kins cs ds->Vals xs us->Vals ys vs->Lesser A s us vs (ltT cs ds)
 | _,_,_,_,_,_,.nil,.nil,_,.nil,.nil=>.both
 | _,_,_,_,_,_,.nil,.cons _ _,_,.nil,.cons _ _=>.short
 | _,_,_,_,_,_,.cons _ _,.nil,_,.cons _ _,.nil=>.long
 | _,_,_,_,_,_,.cons (b:=c) h1 t1,.cons (b:=d) h2 t2,hk,.cons r1 q1,.cons r2 q2=>by
  have e:=eq_cv I hA h1 h2 hk.1 r1 r2
  unfold ltT
  simp only[lexB]
  by_cases z:c=d
  ·rw[if_pos z]
   rw[decide_eq_true z] at e
   exact .on e (less_cvs I hA t1 t2 (hk.2 z) q1 q2)
  ·rw[if_neg z]
   rw[decide_eq_false z] at e
   exact .off e (less_cv I hA h1 h2 hk.1 r1 r2)
end
end L2
namespace L2
open PySem PySem.Spec PyProof.Rows PySem.SeqAt
section
variable {X:Cx}
@[irreducible] def hMinT (a:Addr)(H:Hp)(Q:VK):Prop:=∃ (as:List Addr) (cs:Nat->List CV),H a=some (.lst (as.map V.ref))/\as≠[]/\(∀ (i:Nat) b,as[i]?=some b->∃ xs,H b=some (.tup xs)/\Paired (RC H) xs (cs i))/\(∀ i j,i≠j->i<as.length->j<as.length->Kins (cs i) (cs j)) /\
 ∀ (k:Nat) b,as[k]?=some b->(∀ i,i<as.length->ltT (cs i) (cs k)=false)->Q (.ref b) H
def vMinT:List V->Hp->VK->Prop:=λxs H Q=>match xs with
 | [.ref a]=>hMinT a H Q
 | _=>False
theorem kMinT {n:Nat}(hr:Room n X.A)(hc:X.calm=true):CallR X (.builtin "min") vMinT:=by
 intro pins s σ H xs us Q I r h
 unfold vMinT at h
 split at h
 ·rename_i a
  unfold hMinT at h
  obtain⟨as,cs,ha,hne,hit,hk,q⟩:=h
  obtain⟨u,rfl,rx⟩:=vals1 r
  cases rx
  obtain⟨its,r',pl,_⟩:=I.list (SqL.of ha)
  have hl:=r'.length
  rw[List.length_map] at hl
  have hpos:0<as.length:=List.length_pos_iff.mpr hne
  have its_at:∀ (i:Nat) (v:Value),its[i]?=some v->∃ b,as[i]?=some b/\v=.ref b:=λi v hv=>by
   have hi:i<as.length:=by have:=(List.getElem?_eq_some_iff.mp hv).1;omega
   have e:(as.map V.ref)[i]?=some (.ref as[i]):=by rw[List.getElem?_map,List.getElem?_eq_getElem hi];rfl
   exact⟨as[i],List.getElem?_eq_getElem hi,paired_at r' i e hv⟩
  have hu:=hr.units
  refine low_call (lt:=λi j=>ltT (cs i) (cs j)) (I.ok.hd hc) pl.isList (by omega) (λi j x y nij hx hy h' t kb=>?_) λv h' t hv kb=>?_
  ·obtain⟨b1,g1,rfl⟩:=its_at i x hx
   obtain⟨b2,g2,rfl⟩:=its_at j y hy
   have I':Inv X pins σ H { s with heap:=h',toks:=t }:=I.kept (t':=t) kb
   obtain⟨xs1,f1,p1⟩:=hit i b1 g1
   obtain⟨xs2,f2,p2⟩:=hit j b2 g2
   obtain⟨us1,v1,t1,_⟩:=I'.tuple (SqT.of f1)
   obtain⟨us2,v2,t2,_⟩:=I'.tuple (SqT.of f2)
   refine less_tuples t1 t2 (by show X.A.units+1<cLine;omega) ?_
   exact less_cvs I' (by show X.A.units+1+1+1<cLine;omega) p1 p2 (hk i j nij (List.getElem?_eq_some_iff.mp g1).1 (List.getElem?_eq_some_iff.mp g2).1) (by simpa using v1) (by simpa using v2)
  ·obtain⟨b,hb,rfl⟩:=its_at _ v hv
   refine⟨.ref b,H,I.kept kb,rfl,q _ b hb λi hi=>?_⟩
   exact firstLow_min (cs:=cs) (its.length-1) i (by omega)
 ·exact h.elim
theorem i_minT {a:Addr}{H:Hp}{Q:VK}{as:List Addr}(cs:Nat->List CV)(ha:H a=some (.lst (as.map V.ref)))(hne:as≠[])(hit:∀ (i:Nat) b,as[i]?=some b->∃ xs,H b=some (.tup xs)/\Paired (RC H) xs (cs i))(hk:∀ i j,i≠j->i<as.length->j<as.length->Kins (cs i) (cs j))
  (q:∀ (k:Nat) b,as[k]?=some b->(∀ i,i<as.length->ltT (cs i) (cs k)=false)->Q (.ref b) H):hMinT a H Q:=by unfold hMinT;exact⟨as,cs,ha,hne,hit,hk,q⟩
end
end L2
namespace L2
open PySem PySem.Spec PyProof.Rows
section
variable {κ:Type}[DecidableEq κ]
end
abbrev KT (H:Hp):List (List Key×V)->List (List Key×Addr×Value)->Prop:=Paired λp q=>p.1=q.1/\H q.2.1=some (.tup (p.1.map kV))/\RelV p.2 q.2.2
section
variable {P:Program}{w:World}{H:Hp}{h:Heap}{a:Addr}
end
section
variable {X:Cx}{pins:List (Addr×Obj)}{σ:St}{H:Hp}{s:Shared}{a:Addr}{y v:V}{u r:Value}{o:Option V}{A:Around}{E:Value->Shared->Prop}
theorem Inv.big (I:Inv X pins σ H s):sysModules<s.heap.objs.size:=by
 have h:mainGlobals<s.heap.objs.size:=(I.mod.glob.keeps I.bk).lt
 exact Nat.lt_trans (by decide) h
end
section
variable {X:Cx}{pins:List (Addr×Obj)}{σ:St}{H:Hp}{s:Shared}{a:Addr}{kvs:List (Key×V)}{k:Key}{u:Value}{A:Around}{E:Value->Shared->Prop}
end
section
variable {X:Cx}{o i e value:Expr}{pos pos' tpos:Pos}{td ty tv:TE}
end
theorem dk_empty {P:Program}{w:World}{H:Hp}(h:Heap)(hb:sysModules<h.objs.size):ObjOk P w H (h.push { cls:=.type "dict",data:=.dict #[] }) h.objs.size (.dK []) :=
 ⟨Nat.zero_le _,beq_eq_false_iff_ne.mpr (Ne.symm (Nat.ne_of_lt hb)),[],.nil,Heap.DictOf.new h⟩
def tDNewK:TE:=λ_ H Q=>∀ p,H p=none->Q (.ref p) (upd H p (.dK []))
section
variable {X:Cx}{pos:Pos}
theorem pe_dnewK:PE X (.Dict [] [] pos) tDNewK:=λpins s σ H Q I h =>
 wpAny_Dict_empty ⟨.ref s.heap.objs.size,_,I.laid (a:=s.heap.objs.size) (o:=.dK []) (t':=s.toks) (λ_ _ q=>Heap.get?_push_of_some _ q) (Nat.le_refl _) (dk_empty s.heap I.big),rfl,h _ (I.hok.fresh (Nat.le_refl _))⟩
end
abbrev VV:List (V×V)->List (Value×Value)->Prop:=Paired λp q=>RelV p.1 q.1/\RelV p.2 q.2
structure M1 (X:Cx)(o:Expr)(m:Str)(apos:Pos)(e:Expr)(cpos:Pos):Prop where
 base:attributeBase o m X.env (eval o X.env)=eval o X.env
 few:((backTo cpos (starEach [e] X.env)).all (λx=>!x.1)&&(backToKw cpos (keywordEach [] X.env)).all (λx=>x.1.isSome)
  && decide (([e]:List Expr).length+([]:List Keyword).length+(if ([]:List Keyword).isEmpty then 0 else 1)<30))=true
 line:(apos.endLine == cpos.line)=true
 trees:backTo cpos (starEach [e] X.env)=[(false,eval e X.env)]
structure M2 (X:Cx)(o:Expr)(m:Str)(apos:Pos)(e f:Expr)(cpos:Pos):Prop where
 base:attributeBase o m X.env (eval o X.env)=eval o X.env
 few:((backTo cpos (starEach [e,f] X.env)).all (λx=>!x.1)&&(backToKw cpos (keywordEach [] X.env)).all (λx=>x.1.isSome)
  && decide (([e,f]:List Expr).length+([]:List Keyword).length+(if ([]:List Keyword).isEmpty then 0 else 1)<30))=true
 line:(apos.endLine == cpos.line)=true
 trees:backTo cpos (starEach [e,f] X.env)=[(false,eval e X.env),(false,eval f X.env)]
section
variable {X:Cx}{pins:List (Addr×Obj)}{σ:St}{H:Hp}{s:Shared}{a:Addr}{y d:V}{u r:Value}{o:Option V}{A:Around}{E:Value->Shared->Prop}
end
section
variable {X:Cx}{o e f:Expr}{apos cpos:Pos}{td ty tx:TE}
end
section
variable {X:Cx}{pins:List (Addr×Obj)}{σ:St}{H:Hp}{s:Shared}{a:Addr}{kvs:List (Key×V)}{A:Around}{E:Value->Shared->Prop}
end
section
variable {X:Cx}{pins:List (Addr×Obj)}{σ:St}{H:Hp}{s:Shared}{a:Addr}{y:V}{u:Value}{A:Around}{E:Value->Shared->Prop}
end
end L2
namespace L2
open PySem PySem.Spec PyProof.Rows
def kD:Key->PyData
 | .inl i=>.int i
 | .inr x=>.str x
def RD (S:List Addr):Nat->Hp->V->PyData->Prop
 | _,_,.non,d=>d=.none
 | _,_,.bl b,d=>d=.bool b
 | _,_,.int i,d=>d=.int i
 | _,_,.str x,d=>d=.str x
 | n+1,H,.ref a,d=>a∉S/\((∃ xs ds,H a=some (.lst xs)/\d=.list ds/\Paired (RD S n H) xs ds)\/(∃ xs ds,H a=some (.tup xs)/\d=.tuple ds/\Paired (RD S n H) xs ds) \/
   ∃ kvs ds,H a=some (.dK kvs)/\d=.dict ds/\Paired (λp q=>q.1=kD p.1/\RD S n H p.2 q.2) kvs ds)
 | _,_,_,_=>False
section
variable {X:Cx}{P:Program}{w:World}{h:Heap}
def Sh (P:Program)(w:World)(h:Heap)(u:Value)(d:PyData):Prop:=(∃ as,Reads h u d as)/\∃ bs,ReadAtMost h d.depth bs/\ReprK P w bs h d.depth u d.shown
theorem sh_all:∀ {us:List Value} {ds:List PyData},Paired (Sh P w h) us ds->(∃ as,ReadsAll h us ds as)/\∃ bs,ReadAtMost h (PyData.depthAll ds) bs/\ReprAllK P w bs h (PyData.depthAll ds) us (PyData.shownAll ds)
 | _,_,.nil=>⟨⟨_,.nil⟩,[],(λ_ z=>nomatch z),by simp only[PyData.shownAll];exact .nil⟩
 | _,_,.cons ⟨⟨a1,r1⟩,b1,m1,k1⟩ t=>by
  obtain⟨⟨a2,r2⟩,b2,m2,k2⟩:=sh_all t
  refine⟨⟨_,.cons r1 r2⟩,b1++b2,?_,?_⟩
  ·simp only[PyData.depthAll]
   exact(m1.mono (Nat.le_max_left _ _)).append (m2.mono (Nat.le_max_right _ _))
  ·simp only[PyData.depthAll,PyData.shownAll]
   refine .cons ((k1.more λb z=>?_).level_le (Nat.le_max_left _ _)) (k2.more_le (λb z=>?_) (Nat.le_max_right _ _))
   ·exact List.mem_append_left _ z
   ·exact List.mem_append_right _ z
theorem sh_lst {a:Addr}{o:Obj}{vs:List Value}{n:Nat}{ds:List PyData}(h1:h.get? a=some o)(h2:o.cls=.type "list")(h3:o.data=.seq vs.toArray n)(p:Paired (Sh P w h) vs ds):Sh P w h (.ref a) (.list ds):=by
 obtain⟨⟨as,ra⟩,bs,m,k⟩:=sh_all p
 have r:Reads h (.ref a) (.list ds) _:=.list h1 h2 h3 (by simpa using ra)
 have na:a∉bs:=not_mem_of_deeper r (by simp only[PyData.depth];omega) m
 refine⟨⟨_,r⟩,a::bs,m.cons r (by simp only[PyData.depth];omega),?_⟩
 simp only[PyData.depth,PyData.shown]
 cases vs with
 | nil=>cases p;simp only[PyData.shownAll,listText_nil];exact ReprK.listEmpty h1 h2 h3
 | cons x l=>exact ReprK.list h1 h2 h3 na (by simpa using k.length_eq) λi y e=>k.item i y (by simpa using e)
theorem sh_tup {a:Addr}{o:Obj}{vs:List Value}{n:Nat}{ds:List PyData}(h1:h.get? a=some o)(h2:o.cls=.type "tuple")(h3:o.data=.seq vs.toArray n)(p:Paired (Sh P w h) vs ds):Sh P w h (.ref a) (.tuple ds):=by
 obtain⟨⟨as,ra⟩,bs,m,k⟩:=sh_all p
 have r:Reads h (.ref a) (.tuple ds) _:=.tuple h1 h2 h3 (by simpa using ra)
 have na:a∉bs:=not_mem_of_deeper r (by simp only[PyData.depth];omega) m
 refine⟨⟨_,r⟩,a::bs,m.cons r (by simp only[PyData.depth];omega),?_⟩
 simp only[PyData.depth,PyData.shown]
 exact ReprK.tuple h1 h2 h3 na (by simpa using k)
theorem sh_dct {a:Addr}{o:Obj}{es:Array DictEntry}{n:Nat}{ds:List (PyData×PyData)}(h1:h.get? a=some o)(h2:o.cls=.type "dict")(h3:o.data=.dict es n)(hs:(a == sysModules)=false)(pk:Paired (Sh P w h) (es.toList.map (·.key)) (ds.map (·.1)))(pv:Paired (Sh P w h) (es.toList.map (·.val)) (ds.map (·.2))):Sh P w h (.ref a) (.dict ds):=by
 obtain⟨⟨a1,r1⟩,b1,m1,k1⟩:=sh_all pk
 obtain⟨⟨a2,r2⟩,b2,m2,k2⟩:=sh_all pv
 have r:Reads h (.ref a) (.dict ds) _:=.dict h1 h2 h3 r1 r2
 have m:ReadAtMost h (PyData.depthKv ds) (b1++b2):=(m1.mono (PyData.depthAll_keys_le ds)).append (m2.mono (PyData.depthAll_vals_le ds))
 have na:a∉b1++b2:=not_mem_of_deeper r (by simp only[PyData.depth];omega) m
 refine⟨⟨_,r⟩,a::(b1++b2),m.cons r (by simp only[PyData.depth];omega),?_⟩
 simp only[PyData.depth,PyData.shown,PyData.shownKv_eq]
 refine ReprK.dict h1 h2 h3 hs na (.of_two es.toList _ _ (k1.more_le ?_ (PyData.depthAll_keys_le ds)) (k2.more_le ?_ (PyData.depthAll_vals_le ds)))
 ·exact λb z=>List.mem_append_left _ z
 ·exact λb z=>List.mem_append_right _ z
structure Fit (B:Nat)(d:PyData):Prop where
 sh:d.showable=true
 lf:d.leavesShort 50=true
 bk:d.bulk<=B
theorem Fit.len {B:Nat}{d:PyData}(f:Fit B d)(h:B<=320000):d.shown.length<=sizeLine:=by
 have h1:=PyData.shown_le_bulk 50 (by decide) d f.lf
 have h2:=f.bk
 rw[sizeLine_eq];omega
theorem fit_list {B:Nat}:∀ {ds:List PyData},(∀ d∈ds,Fit B d)->PyData.showableAll ds=true/\PyData.leavesShortAll 50 ds=true/\PyData.bulkAll ds<=(B+1)*ds.length
 | [],_=>⟨rfl,rfl,Nat.zero_le _⟩
 | d::ds,h=>by
  obtain⟨h1,h2,h3⟩:=fit_list λd z=>h d (List.mem_cons_of_mem _ z)
  have f:=h d List.mem_cons_self
  refine⟨by simp only[PyData.showableAll,f.sh,h1];rfl,by simp only[PyData.leavesShortAll,f.lf,h2];rfl,?_⟩
  have:=f.bk
  simp only[PyData.bulkAll,List.length_cons,Nat.mul_add,Nat.mul_one]
  omega
theorem fit_kv {B:Nat}:∀ {ds:List (PyData×PyData)},(∀ d∈ds,Fit B d.1/\Fit B d.2)->PyData.showableKv ds=true/\PyData.leavesShortKv 50 ds=true/\PyData.bulkKv ds<=(2*B+2)*ds.length
 | [],_=>⟨rfl,rfl,Nat.zero_le _⟩
 | (k,d)::ds,h=>by
  obtain⟨h1,h2,h3⟩:=fit_kv λd z=>h d (List.mem_cons_of_mem _ z)
  obtain⟨f,g⟩:=h _ List.mem_cons_self
  have f:Fit B k:=f
  have g:Fit B d:=g
  refine⟨by simp only[PyData.showableKv,f.sh,g.sh,h1];rfl,by simp only[PyData.leavesShortKv,f.lf,g.lf,h2];rfl,?_⟩
  have:=f.bk
  have:=g.bk
  simp only[PyData.bulkKv,List.length_cons,Nat.mul_add,Nat.mul_one]
  omega
end
theorem paired_of {α β:Type}{F:α->β->Prop}{P:β->Prop}:∀ {l:List α},(∀ a∈l,∃ b,F a b/\P b)->∃ m,Paired F l m/\(∀ b∈m,P b)/\m.length=l.length
 | [],_=>⟨[],.nil,(λ_ z=>nomatch z),rfl⟩
 | a::l,h=>by
  obtain⟨b,f,g⟩:=h a List.mem_cons_self
  obtain⟨m,h1,h2,h3⟩:=paired_of λa z=>h a (List.mem_cons_of_mem _ z)
  refine⟨b::m,.cons f h1,λc z=>?_,by simp[h3]⟩
  rcases List.mem_cons.mp z with rfl | z
  ·exact g
  ·exact h2 c z
theorem RD.kp {S:List Addr}{H H':Hp}(k:Kp S H H'):∀ (n:Nat) (x:V) (d:PyData),RD S n H x d->RD S n H' x d
 | n,.non,d,h=>by cases n<;>exact h
 | n,.bl b,d,h=>by cases n<;>exact h
 | n,.int i,d,h=>by cases n<;>exact h
 | n,.str x,d,h=>by cases n<;>exact h
 | 0,.ref a,d,h=>(show False from h).elim
 | n+1,.ref a,d,h=>by
  obtain⟨hn,h⟩:=h
  refine⟨hn,?_⟩
  rcases h with ⟨xs,ds,h1,h2,h3⟩ | ⟨xs,ds,h1,h2,h3⟩ | ⟨xs,ds,h1,h2,h3⟩
  ·exact .inl ⟨xs,ds,k _ _ hn h1,h2,Paired.imp' (λa b z=>RD.kp k n a b z) h3⟩
  ·exact .inr (.inl ⟨xs,ds,k _ _ hn h1,h2,Paired.imp' (λa b z=>RD.kp k n a b z) h3⟩)
  ·exact .inr (.inr ⟨xs,ds,k _ _ hn h1,h2,Paired.imp' (λa b z=>⟨z.1,RD.kp k n _ _ z.2⟩) h3⟩)
 | 0,.flt _,_,h | 0,.ty _,_,h | 0,.byt _,_,h=>(show False from h).elim
 | n+1,.flt _,_,h | n+1,.ty _,_,h | n+1,.byt _,_,h=>(show False from h).elim
theorem RD.more {S:List Addr}{H:Hp}:∀ (n:Nat) (x:V) (d:PyData),RD S n H x d->RD S (n+1) H x d
 | n,.non,d,h=>by cases n<;>exact h
 | n,.bl b,d,h=>by cases n<;>exact h
 | n,.int i,d,h=>by cases n<;>exact h
 | n,.str x,d,h=>by cases n<;>exact h
 | 0,.ref a,d,h=>(show False from h).elim
 | n+1,.ref a,d,h=>by
  obtain⟨hn,h⟩:=h
  refine⟨hn,?_⟩
  rcases h with ⟨xs,ds,h1,h2,h3⟩ | ⟨xs,ds,h1,h2,h3⟩ | ⟨xs,ds,h1,h2,h3⟩
  ·exact .inl ⟨xs,ds,h1,h2,Paired.imp' (λa b z=>RD.more n a b z) h3⟩
  ·exact .inr (.inl ⟨xs,ds,h1,h2,Paired.imp' (λa b z=>RD.more n a b z) h3⟩)
  ·exact .inr (.inr ⟨xs,ds,h1,h2,Paired.imp' (λa b z=>⟨z.1,RD.more n _ _ z.2⟩) h3⟩)
 | 0,.flt _,_,h | 0,.ty _,_,h | 0,.byt _,_,h=>(show False from h).elim
 | n+1,.flt _,_,h | n+1,.ty _,_,h | n+1,.byt _,_,h=>(show False from h).elim
theorem rd_non {S:List Addr}{H:Hp}{n:Nat}{d:PyData}(h:RD S n H .non d):d=.none:=by cases n<;>exact h
theorem rd_bl {S:List Addr}{H:Hp}{n:Nat}{d:PyData}{b:Bool}(h:RD S n H (.bl b) d):d=.bool b:=by cases n<;>exact h
theorem rd_int {S:List Addr}{H:Hp}{n:Nat}{d:PyData}{b:Int}(h:RD S n H (.int b) d):d=.int b:=by cases n<;>exact h
theorem rd_str {S:List Addr}{H:Hp}{n:Nat}{d:PyData}{b:Str}(h:RD S n H (.str b) d):d=.str b:=by cases n<;>exact h
def Tg (S:List Addr)(n B:Nat)(H:Hp)(x:V):Prop:=∃ d,RD S n H x d/\Fit B d
theorem Tg.le {S:List Addr}{n B n' B':Nat}{H:Hp}{x:V}(h:Tg S n B H x)(hn:n<=n')(hB:B<=B'):Tg S n' B' H x:=by
 obtain⟨d,h1,h2⟩:=h
 refine⟨d,?_,h2.sh,h2.lf,Nat.le_trans h2.bk hB⟩
 induction hn with
 | refl=>exact h1
 | step _ ih=>exact ih.more
theorem tg_non {S:List Addr}{n B:Nat}{H:Hp}:Tg S n B H .non:=⟨.none,by cases n<;>rfl,rfl,rfl,Nat.zero_le _⟩
theorem tg_int {S:List Addr}{n B:Nat}{H:Hp}{i:Int}(h:i.natAbs<10 ^ 40):Tg S n B H (.int i):=⟨.int i,by cases n<;>rfl,by simp only[PyData.showable,decide_eq_true_eq];exact log2_of h,by
 simp only[PyData.leavesShort,decide_eq_true_eq];exact Nat.le_trans (shown_int_len h) (by decide),Nat.zero_le _⟩
theorem tg_str {S:List Addr}{n B:Nat}{H:Hp}{x:Str}(h:(x.cps.toList.all λc=>decide (c<16 ^ 8))=true)(hB:x.cps.size<=B):Tg S n B H (.str x):=⟨.str x,by cases n<;>rfl,rfl,h,hB⟩
theorem tg_lst {S:List Addr}{n B:Nat}{H:Hp}{a:Addr}{xs:List V}(hs:a∉S)(h:H a=some (.lst xs))(hx:∀ x∈xs,Tg S n B H x):Tg S (n+1) ((B+1)*xs.length) H (.ref a):=by
 obtain⟨ds,h1,h2,h3⟩:=paired_of hx
 obtain⟨f1,f2,f3⟩:=fit_list h2
 exact⟨.list ds,⟨hs,.inl ⟨xs,ds,h,rfl,h1⟩⟩,f1,f2,by rw[<- h3];exact f3⟩
theorem tg_tup {S:List Addr}{n B:Nat}{H:Hp}{a:Addr}{xs:List V}(hs:a∉S)(h:H a=some (.tup xs))(hx:∀ x∈xs,Tg S n B H x):Tg S (n+1) ((B+1)*xs.length) H (.ref a):=by
 obtain⟨ds,h1,h2,h3⟩:=paired_of hx
 obtain⟨f1,f2,f3⟩:=fit_list h2
 exact⟨.tuple ds,⟨hs,.inr (.inl ⟨xs,ds,h,rfl,h1⟩)⟩,f1,f2,by rw[<- h3];exact f3⟩
theorem tg_dct {S:List Addr}{n B:Nat}{H:Hp}{a:Addr}{kvs:List (Key×V)}(hs:a∉S)(h:H a=some (.dK kvs))(hx:∀ p∈kvs,(∃ i:Int,p.1=.inl i/\i.natAbs<10 ^ 40)/\Tg S n B H p.2):Tg S (n+1) ((2*B+2)*kvs.length) H (.ref a):=by
 obtain⟨ds,h1,h2,h3⟩:=paired_of (α:=Key×V) (β:=PyData×PyData) (F:=λp q=>q.1=kD p.1/\RD S n H p.2 q.2) (P:=λq=>Fit B q.1/\Fit B q.2) (l:=kvs) λp hp=>by
  obtain⟨⟨i,e,hi⟩,d,q1,q2⟩:=hx p hp
  obtain⟨_,e2,f2⟩:=tg_int (S:=S) (n:=0) (B:=B) (H:=H) hi
  cases e2
  exact⟨(kD p.1,d),⟨rfl,q1⟩,by rw[e];exact f2,q2⟩
 obtain⟨f1,f2,f3⟩:=fit_kv h2
 exact⟨.dict ds,⟨hs,.inr (.inr ⟨kvs,ds,h,rfl,h1⟩)⟩,f1,f2,by rw[<- h3];exact f3⟩
section
variable {X:Cx}
theorem shs_of {P:Program}{w:World}{h:Heap}{F:V->PyData->Prop}(hF:∀ x u d,F x d->RelV x u->d.showable=true->d.shown.length<=sizeLine->Sh P w h u d):∀ {xs:List V} {us:List Value} {ds:List PyData},Vals xs us->Paired F xs ds->PyData.showableAll ds=true->(∀ t∈PyData.shownAll ds,t.length<=sizeLine)->Paired (Sh P w h) us ds
 | _,_,_,.nil,.nil,_,_=>.nil
 | _,_,_,.cons r t,.cons (b:=d) f g,hs,hz=>by
  simp only[PyData.showableAll,Bool.and_eq_true] at hs
  have hs':=hs
  refine .cons (hF _ _ _ f r hs'.1 (hz _ (by simp only[PyData.shownAll];exact List.mem_cons_self))) (shs_of hF t g hs'.2 λt z=>hz t (by simp only[PyData.shownAll];exact List.mem_cons_of_mem _ z))
theorem kvs_of {P:Program}{w:World}{h:Heap}{F:V->PyData->Prop}(hF:∀ x u d,F x d->RelV x u->d.showable=true->d.shown.length<=sizeLine->Sh P w h u d):∀ {es:List DictEntry} {vs:List (Key×Value)} {kvs:List (Key×V)} {ds:List (PyData×PyData)},Pairs (mixKind P w) es vs->KV kvs vs->Paired (λp q=>q.1=kD p.1/\F p.2 q.2) kvs ds->PyData.showableKv ds=true->(∀ t∈PyData.shownKv ds,t.length<=sizeLine) ->
  Paired (Sh P w h) (es.map (·.key)) (ds.map (·.1))/\Paired (Sh P w h) (es.map (·.val)) (ds.map (·.2))
 | _,_,_,_,.nil,.nil,.nil,_,_=>⟨.nil,.nil⟩
 | _,_,_,_,.cons k1 k2 t,.cons (a:=p) r r',.cons (b:=q) f g,hs,hz=>by
  obtain⟨qk,qv⟩:=q
  obtain⟨e1,f⟩:=f
  have e1:qk=kD p.1:=e1
  subst e1
  simp only[PyData.showableKv,Bool.and_eq_true] at hs
  have hs':=hs
  have hz1:=hz _ (by simp only[PyData.shownKv];exact List.mem_cons_self)
  rw[strLen_append,strLen_append] at hz1
  obtain⟨u1,u2⟩:=kvs_of hF t r' g hs'.2 λt z=>hz t (by simp only[PyData.shownKv];exact List.mem_cons_of_mem _ z)
  have k2':RelV p.2 _:=r.2
  rw[<- k2] at k2'
  have hz2:qv.shown.length<=sizeLine:=by omega
  refine⟨.cons ?_ u1,.cons (hF _ _ _ f k2' hs'.1.2 hz2) u2⟩
  show Sh P w h _ (kD p.1)
  rw[<- r.1] at k1
  rcases keyIs_shape k1 with ⟨i,tk,e1,e2⟩ | ⟨x,tk,e1,e2⟩
  ·rw[e1] at hs' hz1 ⊢
   show Sh P w h (DictEntry.key _) _
   rw[e2]
   exact⟨⟨_,.int _ _⟩,ReprK.of_reads (.int _ _) hs'.1.1 (PyData.noDict_hsm rfl) (by simp only[kD] at hz1 ⊢;omega)⟩
  ·rw[e1] at hs' hz1 ⊢
   show Sh P w h (DictEntry.key _) _
   rw[e2]
   exact⟨⟨_,.str _ _⟩,ReprK.of_reads (.str _ _) hs'.1.1 (PyData.noDict_hsm rfl) (by simp only[kD] at hz1 ⊢;omega)⟩
theorem rd_sh {S:List Addr}{pins:List (Addr×Obj)}{σ:St}{H:Hp}{s:Shared}(I:Inv X pins σ H s):∀ (n:Nat) (x:V) (u:Value) (d:PyData),RD S n H x d->RelV x u->d.showable=true->d.shown.length<=sizeLine->Sh X.prog X.w s.heap u d
 | n,.non,u,d,h,r,hs,hz=>by have h:=rd_non h;subst h;cases r;exact⟨⟨_,.none⟩,ReprK.of_reads .none hs (PyData.noDict_hsm rfl) hz⟩
 | n,.bl b,u,d,h,r,hs,hz=>by have h:=rd_bl h;subst h;cases r;exact⟨⟨_,.bool _⟩,ReprK.of_reads (.bool _) hs (PyData.noDict_hsm rfl) hz⟩
 | n,.int i,u,d,h,r,hs,hz=>by have h:=rd_int h;subst h;obtain⟨t,rfl⟩:=r;exact⟨⟨_,.int _ _⟩,ReprK.of_reads (.int _ _) hs (PyData.noDict_hsm rfl) hz⟩
 | n,.str x,u,d,h,r,hs,hz=>by have h:=rd_str h;subst h;obtain⟨t,rfl⟩:=r;exact⟨⟨_,.str _ _⟩,ReprK.of_reads (.str _ _) hs (PyData.noDict_hsm rfl) hz⟩
 | 0,.ref a,_,d,h,_,_,_=>(show False from h).elim
 | n+1,.ref a,u,d,h,r,hs,hz=>by
  cases r
  obtain⟨hn,h⟩:=h
  rcases h with ⟨xs,ds,h1,rfl,h3⟩ | ⟨xs,ds,h1,rfl,h3⟩ | ⟨kvs,ds,h1,rfl,h3⟩
  ·obtain⟨_,its,k,rr,e⟩:=(show ObjOk X.prog X.w H s.heap a (.lst xs) from I.hok _ _ h1)
   exact sh_lst e rfl rfl (shs_of (λx u d a b c e=>rd_sh I n x u d a b c e) rr h3 (by simpa [PyData.showable] using hs) λt ht=>Nat.le_trans (listText_mem_le ht) (by simpa only [PyData.shown] using hz))
  ·obtain⟨_,its,rr,o,e,c,k,dd⟩:=(show ObjOk X.prog X.w H s.heap a (.tup xs) from I.hok _ _ h1)
   exact sh_tup e c dd (shs_of (λx u d a b c e=>rd_sh I n x u d a b c e) rr h3 (by simpa [PyData.showable] using hs) λt ht=>Nat.le_trans (tupleText_mem_le ht) (by simpa only [PyData.shown] using hz))
  ·obtain⟨_,hm,vs,kv,o,es,ep,e1,e2,e3,_,e5,_⟩:=(show ObjOk X.prog X.w H s.heap a (.dK kvs) from I.hok _ _ h1)
   obtain⟨u1,u2⟩:=kvs_of (P:=X.prog) (w:=X.w) (λx u d a b c e=>rd_sh I n x u d a b c e) e5 kv h3 (by simpa [PyData.showable] using hs) λt ht=>Nat.le_trans (dictText_mem_le ht) (by simpa only [PyData.shown] using hz)
   exact sh_dct e1 e2.1 e3 hm u1 u2
 | 0,.flt _,_,_,h,_,_,_ | 0,.ty _,_,_,h,_,_,_ | 0,.byt _,_,_,h,_,_,_=>(show False from h).elim
 | n+1,.flt _,_,_,h,_,_,_ | n+1,.ty _,_,_,h,_,_,_ | n+1,.byt _,_,_,h,_,_,_=>(show False from h).elim
theorem rd_depth {S:List Addr}{H:Hp}:∀ (n:Nat) (x:V) (d:PyData),RD S n H x d->d.depth<=n:=by
 intro n
 induction n with
 | zero =>
  intro x d h
  cases x<;>first | (cases h;simp[PyData.depth]) | exact(show False from h).elim
 | succ n ih =>
  have all:∀ {xs:List V} {ds:List PyData},Paired (RD S n H) xs ds->PyData.depthAll ds<=n:=by
   intro xs ds p
   induction p with
   | nil=>simp[PyData.depthAll]
   | cons f g i2=>simp only[PyData.depthAll];exact Nat.max_le.mpr ⟨ih _ _ f,i2⟩
  have kv:∀ {xs:List (Key×V)} {ds:List (PyData×PyData)},Paired (λp q=>q.1=kD p.1/\RD S n H p.2 q.2) xs ds->PyData.depthKv ds<=n:=by
   intro xs ds p
   induction p with
   | nil=>simp[PyData.depthKv]
   | @cons a b _ _ f g i2 =>
    obtain⟨k,v⟩:=b
    obtain⟨e,f⟩:=f
    have e:k=kD a.1:=e
    simp only[PyData.depthKv]
    refine Nat.max_le.mpr ⟨Nat.max_le.mpr ⟨?_,ih _ _ f⟩,i2⟩
    rw[e]
    cases a.1<;>simp[kD,PyData.depth]
  intro x d h
  cases x with
  | ref a =>
   obtain⟨_,h⟩:=h
   rcases h with ⟨xs,ds,h1,rfl,h3⟩ | ⟨xs,ds,h1,rfl,h3⟩ | ⟨kvs,ds,h1,rfl,h3⟩
   ·simp only[PyData.depth];exact Nat.succ_le_succ (all h3)
   ·simp only[PyData.depth];exact Nat.succ_le_succ (all h3)
   ·simp only[PyData.depth];exact Nat.succ_le_succ (kv h3)
  | _=>first | (cases h;simp[PyData.depth]) | exact(show False from h).elim
@[irreducible] def hReprD (x:V)(H:Hp)(Q:VK):Prop:=∃ (S:List Addr) (n B:Nat) (d:PyData),RD S n H x d/\Fit B d/\n<=30/\B<=320000/\Q (.str d.shown) H
theorem i_reprD {x:V}{H:Hp}{Q:VK}{S:List Addr}{n B:Nat}{d:PyData}(h:RD S n H x d)(f:Fit B d)(hn:n<=30)(hB:B<=320000)(q:Q (.str d.shown) H):hReprD x H Q:=by unfold hReprD;exact⟨S,n,B,d,h,f,hn,hB,q⟩
def vReprD:List V->Hp->VK->Prop:=λxs H Q=>match xs with
 | [x]=>hReprD x H Q
 | _=>False
theorem callReprD {k:Nat}(hr:Room k X.A):CallR X (.builtin "repr") vReprD:=by
 intro pins s σ H xs us Q I r h
 unfold vReprD at h;split at h
 case h_2=>exact h.elim
 rename_i x
 unfold hReprD at h
 obtain⟨S,n,B,d,hv,hf,hn,hB,q⟩:=h
 obtain⟨u,rfl,rx⟩:=vals1 r
 have hz:=hf.len hB
 have hd:=rd_depth n x d hv
 have flat:∀ {z:Str},z=d.shown->∀ tk,EP X pins σ Q (.str z tk) { s with toks:=s.toks+1 }:=λe tk=>⟨.str d.shown,H,I.tok _,⟨tk,by rw[e]⟩,q⟩
 have fin:∀ h' u tk,(∀ b o,s.heap.get? b=some o->h'.get? b=some o)->∃ x t,Value.str d.shown u=.str x t/\EP X pins σ Q (.str d.shown u) { s with heap:=h',toks:=tk }:=λh' u tk hk=>⟨_,_,rfl,.str _,H,I.kept hk,⟨u,rfl⟩,q⟩
 have hu:=hr.units
 have hg:=hr.gd
 cases x with
 | non=>have e:=rd_non hv;subst e;cases rx;exact PySem.P.repr_of_none (flat (by rw[PyData.shown_none]) _)
 | bl b=>have e:=rd_bl hv;subst e;cases rx;exact PySem.P.repr_of_bool (flat (by rw[PyData.shown_bool]) _)
 | int i=>have e:=rd_int hv;subst e;obtain⟨t,rfl⟩:=rx;exact PySem.P.repr_of_int (by simpa [PyData.showable] using hf.sh) (flat (by rw[PyData.shown_int]) _)
 | str z=>have e:=rd_str hv;subst e;obtain⟨t,rfl⟩:=rx;exact PySem.P.repr_of_str (flat (by rw[PyData.shown_str]) _) (by rw[PyData.shown_str] at hz;exact hz)
 | ref a =>
  cases rx
  cases n with
  | zero=>exact(show False from hv).elim
  | succ n =>
  obtain⟨hn,h⟩:=hv
  have ih:=λx u d a b c e=>rd_sh I n x u d a b c (S:=S) e
  rcases h with ⟨xs,ds,h1,rfl,h3⟩ | ⟨xs,ds,h1,rfl,h3⟩ | ⟨kvs,ds,h1,rfl,h3⟩
  ·obtain⟨_,its,k,rr,e⟩:=(show ObjOk X.prog X.w H s.heap a (.lst xs) from I.hok _ _ h1)
   have hz':(listText (PyData.shownAll ds)).length<=sizeLine:=by simpa only [PyData.shown] using hz
   have p:=shs_of ih rr h3 (by simpa [PyData.showable] using hf.sh) λt ht=>Nat.le_trans (listText_mem_le ht) hz'
   obtain⟨⟨as,ra⟩,bs,m,kk⟩:=sh_all p
   have r:Reads s.heap (.ref a) (.list ds) _:=.list e rfl rfl (by simpa using ra)
   have na:a∉bs:=not_mem_of_deeper r (by simp only[PyData.depth];omega) m
   simp only[PyData.depth,PyData.shown] at hd fin
   refine call_repr_slot (by omega) ⟨_,e,rfl⟩ F.slot_list_repr.toG ?_
   cases its with
   | nil=>cases p;simp only[PyData.shownAll,listText_nil] at fin;exact call_list_repr_empty ⟨_,e,rfl⟩ e rfl (fin _ _ _ λ_ _ e=>e)
   | cons x l=>exact call_list_reprK e rfl rfl na (by simpa using kk.length_eq) (λi y e=>kk.item i y (by simpa using e)) hg (λb _=>Clear.nil b) (by show X.A.units+1+_<cLine;omega) (λ_ _ e=>e) fin hz'
  ·obtain⟨_,its,rr,o,e,c,k,dd⟩:=(show ObjOk X.prog X.w H s.heap a (.tup xs) from I.hok _ _ h1)
   have hz':(tupleText (PyData.shownAll ds)).length<=sizeLine:=by simpa only [PyData.shown] using hz
   have p:=shs_of ih rr h3 (by simpa [PyData.showable] using hf.sh) λt ht=>Nat.le_trans (tupleText_mem_le ht) hz'
   obtain⟨⟨as,ra⟩,bs,m,kk⟩:=sh_all p
   have r:Reads s.heap (.ref a) (.tuple ds) _:=.tuple e c dd (by simpa using ra)
   have na:a∉bs:=not_mem_of_deeper r (by simp only[PyData.depth];omega) m
   simp only[PyData.depth,PyData.shown] at hd fin
   refine call_repr_slot (by omega) ⟨_,e,c⟩ F.slot_tuple_repr ?_
   exact call_tuple_reprK e c dd na (by simpa using kk) hg (λb _=>Clear.nil b) (by show X.A.units+1+_<cLine;omega) (λ_ _ e=>e) fin hz'
  ·obtain⟨_,hm,vs,kv,o,es,ep,e1,e2,e3,_,e5,_⟩:=(show ObjOk X.prog X.w H s.heap a (.dK kvs) from I.hok _ _ h1)
   have hz':(dictText (PyData.shownKv ds)).length<=sizeLine:=by simpa only [PyData.shown] using hz
   obtain⟨pk,pv⟩:=kvs_of (P:=X.prog) (w:=X.w) ih e5 kv h3 (by simpa [PyData.showable] using hf.sh) λt ht=>Nat.le_trans (dictText_mem_le ht) hz'
   obtain⟨⟨a1,r1⟩,b1,m1,k1⟩:=sh_all pk
   obtain⟨⟨a2,r2⟩,b2,m2,k2⟩:=sh_all pv
   have r:Reads s.heap (.ref a) (.dict ds) _:=.dict e1 e2.1 e3 r1 r2
   have m:ReadAtMost s.heap (PyData.depthKv ds) (b1++b2):=(m1.mono (PyData.depthAll_keys_le ds)).append (m2.mono (PyData.depthAll_vals_le ds))
   have na:a∉b1++b2:=not_mem_of_deeper r (by simp only[PyData.depth];omega) m
   simp only[PyData.depth,PyData.shown,PyData.shownKv_eq] at hd fin
   refine call_repr_slot (by omega) ⟨_,e1,e2.1⟩ F.slot_dict_repr ?_
   refine call_dict_reprK e1 e2.1 e3 hm na (.of_two es.toList _ _ (k1.more_le ?_ (PyData.depthAll_keys_le ds)) (k2.more_le ?_ (PyData.depthAll_vals_le ds))) hg (λb _=>Clear.nil b) (by show X.A.units+1+_<cLine;omega) (λ_ _ e=>e) fin (by rw[<- PyData.shownKv_eq];exact hz')
   ·exact λb z=>List.mem_append_left _ z
   ·exact λb z=>List.mem_append_right _ z
 | _=>cases n<;>exact(show False from hv).elim
end
end L2
namespace L2
open PySem PySem.Spec PyProof.Rows
section
variable {prog:Program}{w:World}{A:Around}{s:Shared}{R:Result->Shared->Prop}
end
section
variable {prog:Program}{w:World}{A:Around}{E:Value->Shared->Prop}{s:Shared}
end
section
variable {X:Cx}{K:W.Frag}{a e:Expr}{t:TA}{p p2 pos pos2:Pos}
@[irreducible] def hDNew (H:Hp)(kvs:List (Key×V))(Q:VK):Prop:=∀ p,H p=none->Q (.ref p) (upd H p (.dK kvs))
theorem i_dnew {H:Hp}{kvs:List (Key×V)}{Q:VK}(q:∀ p H',H p=none->Same H H'->H' p=some (.dK kvs)->Q (.ref p) H'):hDNew H kvs Q:=by unfold hDNew;exact λp hp=>q p _ hp (same_upd hp) upd_same
def mDNew (kvs:List (Key×V)):TE:=λ_ H Q=>hDNew H kvs Q
theorem qe_dnew {pos:Pos}:QE X (.Dict [] [] pos) (mDNew []):=⟨λpins s σ H Q I h=>pe_dnewK pins s σ H Q I (by have h:=(show hDNew H [] Q from h);unfold hDNew at h;exact h)⟩
end
end L2
namespace L2
open PySem PySem.Spec PyProof.Rows
section
variable {X:Cx}
end
end L2
namespace M3
def pcs (ns:List Int):Nat->List Nat->List (List Int)
 | b,[]=>[ns.drop b]
 | b,c::cs=>(ns.drop b).take (c-b)::pcs ns c cs
structure CutN (cs:List Nat)(n:Nat):Prop where
 up:cs.Pairwise (·<·)
 lo:∀ c∈cs,1<=c
 hi:∀ c∈cs,c<n
theorem cut_len {cs:List Nat}{n:Nat}(h:CutN cs n):cs.length<=n:=by
 have h1:∀ (cs:List Nat) (b:Nat),cs.Pairwise (·<·)->(∀ c∈cs,b<=c/\c<n)->b<=n->cs.length+b<=n:=by
  intro cs
  induction cs with
  | nil=>intro b _ _ h;simpa using h
  | cons c cs ih =>
   intro b hp hb hbn
   obtain⟨p1,p2⟩:=List.pairwise_cons.mp hp
   have hc:=hb c List.mem_cons_self
   have:=ih (c+1) p2 (λd hd=>⟨p1 d hd,(hb d (List.mem_cons_of_mem _ hd)).2⟩) (by omega)
   rw[List.length_cons];omega
 have:=h1 cs 0 h.up (λc hc=>⟨Nat.zero_le _,h.hi c hc⟩) (Nat.zero_le _)
 omega
end M3
namespace M3
end M3
namespace M5
def lcut (b:Int):Nat->Int->List Int->List Int
 | _,_,[]=>[]
 | i,tot,n::r=>if tot+n > b then (i:Int)::lcut b (i+1) n r else lcut b (i+1) (tot+n) r
def ltot (b:Int):Int->List Int->Int
 | tot,[]=>tot
 | tot,n::r=>if tot+n > b then ltot b n r else ltot b (tot+n) r
theorem lcut_app (b:Int):∀ (xs ys:List Int) (i:Nat) (tot:Int),lcut b i tot (xs++ys)=lcut b i tot xs++lcut b (i+xs.length) (ltot b tot xs) ys
 | [],ys,i,tot=>by simp[lcut,ltot]
 | x::xs,ys,i,tot=>by
  by_cases h:tot+x > b
  ·simp only[List.cons_append,lcut,ltot,h,if_true,lcut_app b xs ys (i+1) x,List.length_cons]
   rw[show i+1+xs.length=i+(xs.length+1) by omega]
  ·simp only[List.cons_append,lcut,ltot,h,if_false,lcut_app b xs ys (i+1) (tot+x),List.length_cons]
   rw[show i+1+xs.length=i+(xs.length+1) by omega]
theorem ltot_app (b:Int):∀ (xs ys:List Int) (tot:Int),ltot b tot (xs++ys)=ltot b (ltot b tot xs) ys
 | [],ys,tot=>rfl
 | x::xs,ys,tot=>by
  by_cases h:tot+x > b
  ·simp only[List.cons_append,ltot,h,if_true];exact ltot_app b xs ys x
  ·simp only[List.cons_append,ltot,h,if_false];exact ltot_app b xs ys (tot+x)
theorem sum_nn:∀ (ys:List Int),(∀ y∈ys,0<=y)->0<=ys.sum
 | [],_=>by simp
 | y::ys,h=>by
  rw[List.sum_cons]
  have:=sum_nn ys λz hz=>h z (List.mem_cons_of_mem _ hz)
  have:=h y List.mem_cons_self
  omega
theorem lcut_nil {b:Int}:∀ (ys:List Int) (i:Nat) (tot:Int),(∀ y∈ys,0<=y)->tot+ys.sum<=b->lcut b i tot ys=[]
 | [],_,_,_,_=>rfl
 | y::ys,i,tot,h,hs=>by
  rw[List.sum_cons] at hs
  have hp:0<=ys.sum:=sum_nn ys λz hz=>h z (List.mem_cons_of_mem _ hz)
  have:¬ tot+y > b:=by omega
  simp only[lcut,this,if_false]
  exact lcut_nil ys (i+1) (tot+y) (λz hz=>h z (List.mem_cons_of_mem _ hz)) (by omega)
theorem mem_le_sum:∀ {ys:List Int},(∀ y∈ys,0<=y)->∀ y∈ys,y<=ys.sum
 | x::ys,h,y,hy=>by
  rw[List.sum_cons]
  have h0:=sum_nn ys λz hz=>h z (List.mem_cons_of_mem _ hz)
  have hx:=h x List.mem_cons_self
  rcases List.mem_cons.mp hy with rfl | hy
  ·omega
  ·have:=mem_le_sum (λz hz=>h z (List.mem_cons_of_mem _ hz)) y hy
   omega
theorem lcut_one {b:Int}:∀ (ys:List Int) (i:Nat) (tot:Int),(∀ y∈ys,0<=y)->ys.sum<=b->(lcut b i tot ys).length<=1
 | [],_,_,_,_=>Nat.zero_le _
 | y::ys,i,tot,h,hs=>by
  rw[List.sum_cons] at hs
  have hy:=h y List.mem_cons_self
  have ht:∀ z∈ys,0<=z:=λz hz=>h z (List.mem_cons_of_mem _ hz)
  by_cases hc:tot+y > b
  ·simp only[lcut,hc,if_true,lcut_nil ys (i+1) y ht hs,List.length_cons,List.length_nil];omega
  ·simp only[lcut,hc,if_false]
   exact lcut_one ys (i+1) (tot+y) ht (by omega)
def gp (b:Int)(ns:List Int):Nat:=if ns=[] then 0 else (lcut b 0 0 ns).length+1
theorem gp_add {b:Int}{xs ys:List Int}(h:∀ y∈ys,0<=y)(hs:ys.sum<=b):gp b (xs++ys)<=gp b xs+1:=by
 unfold gp
 by_cases hx:xs=[]
 ·subst hx
  rw[List.nil_append,lcut_nil ys 0 0 h (by omega)]
  split<;>simp
 ·rw[if_neg hx,if_neg (by simp[hx]),lcut_app,List.length_append]
  have:=lcut_one ys (0+xs.length) (ltot b 0 xs) h hs
  omega
theorem gp_last {b:Int}:∀ (m:Nat) (xs:List Int),xs.length=m->xs≠[]->(∀ x∈xs,0<=x)->(∀ x∈xs,x<=b)->∃ pre seg,xs=pre++seg/\seg≠[]/\seg.sum=ltot b 0 xs/\ltot b 0 xs<=b/\gp b xs=gp b pre+1
 | 0,xs,hl,hne,_,_=>absurd (List.length_eq_zero_iff.mp hl) hne
 | m+1,xs,hl,hne,h0,h1=>by
  obtain⟨ys,n,rfl⟩:∃ ys n,xs=ys++[n]:=⟨xs.dropLast,xs.getLast hne,(List.dropLast_concat_getLast hne).symm⟩
  have hn:n<=b:=h1 n (by simp)
  by_cases hy:ys=[]
  ·subst hy
   have e:¬ (0:Int)+n > b:=by omega
   refine⟨[],[n],rfl,by simp,?_,?_,?_⟩
   ·simp[ltot,e]
   ·simp only[List.nil_append,ltot,e,if_false];omega
   ·simp[gp,lcut,hn]
  ·rw[ltot_app]
   by_cases hc:ltot b 0 ys+n > b
   ·refine⟨ys,[n],rfl,by simp,?_,?_,?_⟩
    ·simp[ltot,hc]
    ·simp only[ltot,hc,if_true];exact hn
    ·unfold gp
     rw[if_neg hy,if_neg (by simp),lcut_app]
     simp[lcut,hc]
   ·obtain⟨pre,seg,e1,e2,e3,e4,e5⟩:=gp_last m ys (by simp at hl;exact hl) hy (λx hx=>h0 x (by simp[hx])) (λx hx=>h1 x (by simp[hx]))
    refine⟨pre,seg++[n],by rw[e1];simp,by simp,?_,?_,?_⟩
    ·simp only[List.sum_append,List.sum_cons,List.sum_nil,ltot,hc,if_false];omega
    ·simp only[ltot,hc,if_false];omega
    ·rw[<- e5]
     unfold gp
     rw[if_neg hy,if_neg (by simp),lcut_app]
     simp[lcut,hc]
end M5
namespace M5
theorem lcut_len (b:Int):∀ (xs:List Int) (i:Nat) (tot:Int),(lcut b i tot xs).length<=xs.length
 | [],_,_=>Nat.le_refl _
 | x::xs,i,tot=>by
  simp only[lcut]
  split
  ·have:=lcut_len b xs (i+1) x;simp only[List.length_cons];omega
  ·have:=lcut_len b xs (i+1) (tot+x);simp only[List.length_cons];omega
end M5
namespace M5
def fv (b:Int)(ns:List Int)(i:Nat):Option Int:=if (ns.take i).all (λn=>decide (n<=b))=true then some ((gp b (ns.take i):Nat):Int) else none
def seg (ns:List Int)(k e:Nat):Int:=((ns.take e).drop k).sum
theorem seg_self (ns:List Int)(e:Nat):seg ns e e=0:=by
 unfold seg;rw[List.drop_eq_nil_of_le (by rw[List.length_take];omega)];rfl
theorem seg_step {ns:List Int}{k e:Nat}(hk:k<e)(he:e<=ns.length):seg ns k e=ns.getD k 0+seg ns (k+1) e:=by
 unfold seg
 have h:k<(ns.take e).length:=by rw[List.length_take];omega
 rw[List.drop_eq_getElem_cons h,List.sum_cons,List.getElem_take,List.getD_eq_getElem?_getD,List.getElem?_eq_getElem (by omega)];rfl
structure Best (b:Int)(ns:List Int)(e lo:Nat)(best:Option Int):Prop where
 ub:∀ k,lo<=k->k<e->seg ns k e<=b->∀ v,fv b ns k=some v->∃ w,best=some w/\w<=v+1
 ex:∀ w,best=some w->∃ k,lo<=k/\k<e/\seg ns k e<=b/\fv b ns k=some (w-1)
end M5
namespace M5
theorem take_split {ns:List Int}{i e:Nat}(h:i<=e):ns.take e=ns.take i++(ns.take e).drop i:=by
 conv=>lhs;rw[<- List.take_append_drop i (ns.take e)]
 rw[List.take_take,Nat.min_eq_left h]
end M5
namespace M10
open M5
def sends (b:Int):Nat->Int->List Int->List Int
 | _,_,[]=>[]
 | i,tot,n::r=>if tot+n>=b then ((i+1:Nat):Int)::sends b (i+1) 0 r else sends b (i+1) (tot+n) r
def stot (b:Int):Int->List Int->Int
 | tot,[]=>tot
 | tot,n::r=>if tot+n>=b then stot b 0 r else stot b (tot+n) r
theorem sends_app (b:Int):∀ (xs ys:List Int) (i:Nat) (tot:Int),sends b i tot (xs++ys)=sends b i tot xs++sends b (i+xs.length) (stot b tot xs) ys
 | [],ys,i,tot=>by simp[sends,stot]
 | x::xs,ys,i,tot=>by
  by_cases h:tot+x>=b
  ·simp only[List.cons_append,sends,stot,h,if_true,sends_app b xs ys (i+1) 0,List.length_cons]
   rw[show i+1+xs.length=i+(xs.length+1) by omega]
  ·simp only[List.cons_append,sends,stot,h,if_false,sends_app b xs ys (i+1) (tot+x),List.length_cons]
   rw[show i+1+xs.length=i+(xs.length+1) by omega]
theorem stot_app (b:Int):∀ (xs ys:List Int) (tot:Int),stot b tot (xs++ys)=stot b (stot b tot xs) ys
 | [],ys,tot=>rfl
 | x::xs,ys,tot=>by
  by_cases h:tot+x>=b
  ·simp only[List.cons_append,stot,h,if_true];exact stot_app b xs ys 0
  ·simp only[List.cons_append,stot,h,if_false];exact stot_app b xs ys (tot+x)
theorem sends_len (b:Int):∀ (xs:List Int) (i:Nat) (tot:Int),(sends b i tot xs).length<=xs.length
 | [],_,_=>Nat.le_refl _
 | x::xs,i,tot=>by
  simp only[sends]
  split
  ·have:=sends_len b xs (i+1) 0;simp only[List.length_cons];omega
  ·have:=sends_len b xs (i+1) (tot+x);simp only[List.length_cons];omega
theorem sends_cases (b:Int):∀ (xs:List Int) (i:Nat) (tot:Int),
  (sends b i tot xs=[]/\∀ j,1<=j->j<=xs.length->tot+(xs.take j).sum<b) \/
  ∃ j,1<=j/\j<=xs.length/\tot+(xs.take j).sum>=b/\(∀ k,1<=k->k<j->tot+(xs.take k).sum<b)/\sends b i tot xs=((i+j:Nat):Int)::sends b (i+j) 0 (xs.drop j)
 | [],i,tot=>.inl ⟨rfl,λj h1 h2=>by simp at h2;omega⟩
 | x::xs,i,tot=>by
  by_cases h:tot+x>=b
  ·refine .inr ⟨1,Nat.le_refl _,by simp,by simpa using h,λk h1 h2=>by omega,?_⟩
   simp only[sends,h,if_true,List.drop_succ_cons,List.drop_zero]
  ·rcases sends_cases b xs (i+1) (tot+x) with ⟨e,hl⟩ | ⟨j,h1,h2,h3,h4,h5⟩
   ·refine .inl ⟨by simp only[sends,h,if_false,e],λj h1 h2=>?_⟩
    cases j with
    | zero=>omega
    | succ j =>
     rw[List.take_succ_cons,List.sum_cons]
     cases j with
     | zero=>simp;omega
     | succ j=>have:=hl (j+1) (by omega) (by simp at h2;omega);omega
   ·refine .inr ⟨j+1,by omega,by simp;omega,?_,λk hk1 hk2=>?_,?_⟩
    ·rw[List.take_succ_cons,List.sum_cons];omega
    ·cases k with
     | zero=>omega
     | succ k =>
      rw[List.take_succ_cons,List.sum_cons]
      cases k with
      | zero=>simp;omega
      | succ k=>have:=h4 (k+1) (by omega) (by omega);omega
    ·simp only[sends,h,if_false,h5,List.drop_succ_cons]
     rw[show i+1+j=i+(j+1) by omega]
def cnt (b:Int)(tot:Int)(xs:List Int):Nat:=(sends b 0 tot xs).length
theorem len_any (b:Int):∀ (xs:List Int) (i j:Nat) (tot:Int),(sends b i tot xs).length=(sends b j tot xs).length
 | [],_,_,_=>rfl
 | x::xs,i,j,tot=>by
  simp only[sends]
  split
  ·simp only[List.length_cons];rw[len_any b xs (i+1) (j+1) 0]
  ·exact len_any b xs (i+1) (j+1) (tot+x)
theorem cnt_cons (b tot x:Int)(xs:List Int):cnt b tot (x::xs)=if tot+x>=b then cnt b 0 xs+1 else cnt b (tot+x) xs:=by
 unfold cnt
 simp only[sends]
 split
 ·rw[List.length_cons,len_any b xs 1 0]
 ·rw[len_any b xs 1 0]
theorem cnt_both (b:Int):∀ (xs:List Int),(∀ x∈xs,0<=x)->(∀ t u,0<=t->t<=u->cnt b t xs<=cnt b u xs)/\∀ t,0<=t->cnt b t xs<=cnt b 0 xs+1
 | [],_=>⟨λt u _ _=>by simp[cnt,sends],λt _=>by simp[cnt,sends]⟩
 | x::xs,h=>by
  obtain⟨h1,h2⟩:=cnt_both b xs λy hy=>h y (List.mem_cons_of_mem _ hy)
  have hx:=h x List.mem_cons_self
  have h3:∀ t,0<=t->cnt b 0 xs<=cnt b t (x::xs):=λt ht=>by
   rw[cnt_cons];split
   ·omega
   ·exact h1 0 (t+x) (Int.le_refl 0) (by omega)
  refine⟨λt u ht htu=>?_,λt ht=>?_⟩
  ·rw[cnt_cons,cnt_cons]
   by_cases c1:t+x>=b
   ·rw[if_pos c1,if_pos (by omega)];exact Nat.le_refl _
   ·rw[if_neg c1]
    split
    ·exact h2 (t+x) (by omega)
    ·exact h1 _ _ (by omega) (by omega)
  ·have h4:=h3 0 (Int.le_refl 0)
   rw[cnt_cons b t]
   split
   ·omega
   ·have:=h2 (t+x) (by omega);omega
theorem cnt_tail {b:Int}{x:Int}{xs:List Int}(h:∀ y∈x::xs,0<=y):cnt b 0 xs<=cnt b 0 (x::xs):=by
 obtain⟨h1,h2⟩:=cnt_both b xs λy hy=>h y (List.mem_cons_of_mem _ hy)
 have hx:=h x List.mem_cons_self
 rw[cnt_cons];split
 ·omega
 ·exact h1 0 (0+x) (Int.le_refl 0) (by omega)
def G (b:Int)(ns:List Int)(k:Nat):Nat:=cnt b 0 (ns.drop k)
theorem G_mono {b:Int}{ns:List Int}(h:∀ n∈ns,0<=n):∀ (d k:Nat),G b ns (k+d)<=G b ns k
 | 0,k=>Nat.le_refl _
 | d+1,k=>by
  refine Nat.le_trans ?_ (G_mono h d k)
  unfold G
  by_cases hl:k+d<ns.length
  ·rw[List.drop_eq_getElem_cons hl]
   exact cnt_tail λy hy=>h y (by
    have:y∈ns.drop (k+d):=by rw[List.drop_eq_getElem_cons hl];exact hy
    exact List.mem_of_mem_drop this)
  ·rw[List.drop_eq_nil_of_le (by omega)];simp[cnt,sends]
theorem seg_take {ns:List Int}{k j:Nat}:((ns.drop k).take j).sum=seg ns k (k+j):=by
 unfold seg;rw[List.drop_take];congr 2;omega
theorem G_cases (b:Int)(ns:List Int)(k:Nat)(hk:k<=ns.length) :
  (G b ns k=0/\sends b k 0 (ns.drop k)=[]/\∀ e,k<e->e<=ns.length->seg ns k e<b) \/
  ∃ e,k<e/\e<=ns.length/\seg ns k e>=b/\(∀ j,k<j->j<e->seg ns k j<b)/\G b ns k=G b ns e+1/\sends b k 0 (ns.drop k)=(e:Int)::sends b e 0 (ns.drop e):=by
 have hlen:(ns.drop k).length=ns.length-k:=List.length_drop
 rcases sends_cases b (ns.drop k) k 0 with ⟨e,h⟩ | ⟨j,h1,h2,h3,h4,h5⟩
 ·refine .inl ⟨?_,e,λe' h1 h2=>?_⟩
  ·unfold G cnt;rw[len_any b _ 0 k,e];rfl
  ·have:=h (e'-k) (by omega) (by omega)
   rw[seg_take,show k+(e'-k)=e' by omega] at this;omega
 ·rw[seg_take] at h3
  refine .inr ⟨k+j,by omega,by omega,by omega,λi h6 h7=>?_,?_,?_⟩
  ·have:=h4 (i-k) (by omega) (by omega)
   rw[seg_take,show k+(i-k)=i by omega] at this;omega
  ·unfold G cnt;rw[len_any b _ 0 k,h5,List.length_cons,List.drop_drop,len_any b _ (k+j) 0]
  ·rw[h5,List.drop_drop]
def M (b:Int)(ns:List Int)(k:Nat):Option Int:=if k=ns.length then some 0 else if G b ns k=0 then none else some ((G b ns k:Nat):Int)
structure Top (b:Int)(ns:List Int)(k hi:Nat)(best:Option Int):Prop where
 ub:∀ e,k<e->e<=hi->seg ns k e>=b->∀ v,M b ns e=some v->∃ w,best=some w/\v+1<=w
 ex:∀ w,best=some w->∃ e,k<e/\e<=hi/\seg ns k e>=b/\M b ns e=some (w-1)
end M10
namespace M11
open M5 M10
def pick (w:Nat)(x y:Int):Int:=if w=0 then min x y else max x y
def both (w:Nat)(x y:Int):Int:=if w=0 then max x y else min x y
def Le (w:Nat)(x y:Int):Prop:=if w=0 then x<=y else y<=x
theorem Le.refl (w:Nat)(x:Int):Le w x x:=by unfold Le;split<;>omega
theorem Le.trans {w:Nat}{x y z:Int}(a:Le w x y)(b:Le w y z):Le w x z:=by unfold Le at *;split at a<;>simp_all<;>omega
theorem pick_or (w:Nat)(x y:Int):pick w x y=x\/pick w x y=y:=by unfold pick;split<;>omega
theorem pick_l (w:Nat)(x y:Int):Le w (pick w x y) x:=by unfold pick Le;split<;>omega
theorem pick_r (w:Nat)(x y:Int):Le w (pick w x y) y:=by unfold pick Le;split<;>omega
structure IsBest (w:Nat)(l:List Int)(v:Int):Prop where
 mem:v∈l
 le:∀ a∈l,Le w v a
def lbest (w:Nat):List Int->Option Int
 | []=>none
 | a::l=>some (l.foldl (pick w) a)
theorem fold_best (w:Nat):∀ (l:List Int) (a:Int),IsBest w (a::l) (l.foldl (pick w) a)
 | [],a=>⟨by simp,λx hx=>by simp at hx;subst hx;exact Le.refl w _⟩
 | b::l,a=>by
  have ih:=fold_best w l (pick w a b)
  rw[List.foldl_cons]
  refine⟨?_,λx hx=>?_⟩
  ·rcases List.mem_cons.mp ih.mem with h | h
   ·rw[h];rcases pick_or w a b with e | e<;>rw[e]<;>simp
   ·exact List.mem_cons_of_mem _ (List.mem_cons_of_mem _ h)
  ·have h0:=ih.le _ List.mem_cons_self
   rcases List.mem_cons.mp hx with rfl | hx
   ·exact h0.trans (pick_l w _ _)
   ·rcases List.mem_cons.mp hx with rfl | hx
    ·exact h0.trans (pick_r w _ _)
    ·exact ih.le x (List.mem_cons_of_mem _ hx)
theorem lbest_is {w:Nat}{l:List Int}{v:Int}(h:lbest w l=some v):IsBest w l v:=by
 cases l with
 | nil=>cases h
 | cons a l=>have:=fold_best w l a;simp only[lbest,Option.some.injEq] at h;rw[<- h];exact this
def T (w:Nat)(ns:List Int):Nat->Nat->Option Int
 | 0,i=>if i<ns.length then some (seg ns i ns.length) else none
 | k+1,i=>lbest w ((List.range (ns.length-(k+1)-i)).map λj=>both w (seg ns i (i+1+j)) ((T w ns k (i+1+j)).getD 0))
theorem T_some {w:Nat}{ns:List Int}:∀ {k i:Nat},i+k<ns.length->∃ v,T w ns k i=some v
 | 0,i,h=>⟨_,by simp only[T];rw[if_pos (by omega)]⟩
 | k+1,i,h=>by
  simp only[T]
  obtain⟨n,hn⟩:∃ n,ns.length-(k+1)-i=n+1:=⟨ns.length-(k+1)-i-1,by omega⟩
  rw[hn,List.range_succ_eq_map,List.map_cons]
  exact⟨_,rfl⟩
theorem T_mem {w:Nat}{ns:List Int}{k i:Nat}{t:Int}(h:T w ns (k+1) i=some t):(∃ e v,i<e/\e+k<ns.length/\T w ns k e=some v/\t=both w (seg ns i e) v)/\∀ e v,i<e->e+k<ns.length->T w ns k e=some v->Le w t (both w (seg ns i e) v):=by
 have hb:=lbest_is h
 refine⟨?_,λe v h1 h2 hv=>?_⟩
 ·obtain⟨j,hj,e⟩:=List.mem_map.mp hb.mem
  have hj':=List.mem_range.mp hj
  obtain⟨v,hv⟩:=T_some (w:=w) (ns:=ns) (k:=k) (i:=i+1+j) (by omega)
  refine⟨i+1+j,v,by omega,by omega,hv,?_⟩
  rw[<- e,hv];rfl
 ·refine hb.le _ (List.mem_map.mpr ⟨e-(i+1),List.mem_range.mpr (by omega),?_⟩)
  rw[show i+1+(e-(i+1))=e by omega,hv];rfl
theorem G_le {b:Int}{ns:List Int}{i:Nat}:G b ns i<=ns.length-i:=by
 have:=sends_len b (ns.drop i) 0 0
 rw[List.length_drop] at this;exact this
theorem seg_split {ns:List Int}{i e n:Nat}(h1:i<=e)(h2:e<=n)(h3:n<=ns.length):seg ns i n=seg ns i e+seg ns e n:=by
 unfold seg
 have:(ns.take n).drop i=(ns.take e).drop i++(ns.take n).drop e:=by
  have h:ns.take n=ns.take e++(ns.take n).drop e:=take_split h2
  conv=>lhs;rw[h]
  rw[List.drop_append_of_le_length (by rw[List.length_take];omega)]
 rw[this,List.sum_append]
theorem seg_nn {ns:List Int}(hnn:∀ n∈ns,0<=n)(i e:Nat):0<=seg ns i e:=sum_nn _ λy hy=>hnn y (List.mem_of_mem_take (List.mem_of_mem_drop hy))
theorem T_iff {ns:List Int}(hnn:∀ n∈ns,0<=n)(b:Int):∀ {k i:Nat} {t:Int},i+k<ns.length->T 1 ns k i=some t->(b<=t↔k+1<=G b ns i)
 | 0,i,t,h,ht=>by
  simp only[T] at ht
  rw[if_pos (by omega)] at ht
  have ht:=Option.some.inj ht
  rcases G_cases b ns i (by omega) with ⟨g0,_,hall⟩ | ⟨e,h1,h2,h3,h4,h5,_⟩
  ·have:=hall ns.length (by omega) (Nat.le_refl _)
   constructor<;>intro z<;>omega
  ·have h6:=seg_split (ns:=ns) (Nat.le_of_lt h1) h2 (Nat.le_refl _)
   have h7:=seg_nn hnn e ns.length
   constructor<;>intro z<;>omega
 | k+1,i,t,h,ht=>by
  obtain⟨⟨e,v,he1,he2,hv,htv⟩,hle⟩:=T_mem ht
  constructor
  ·intro hb
   have hs:b<=seg ns i e/\b<=v:=by
    rw[htv] at hb;unfold both at hb;rw[if_neg (by decide)] at hb;omega
   have hG:=(T_iff hnn b he2 hv).mp hs.2
   rcases G_cases b ns i (by omega) with ⟨g0,_,hall⟩ | ⟨e0,h1,h2,h3,h4,h5,_⟩
   ·have:=hall e he1 (by omega);omega
   ·have hee:e0<=e:=by
     refine Classical.byContradiction λz=>?_
     have:=h4 e he1 (by omega);omega
    have hm:=G_mono (b:=b) hnn (e-e0) e0
    rw[show e0+(e-e0)=e by omega] at hm
    omega
  ·intro hG
   rcases G_cases b ns i (by omega) with ⟨g0,_,hall⟩ | ⟨e0,h1,h2,h3,h4,h5,_⟩
   ·omega
   ·have hl:=G_le (b:=b) (ns:=ns) (i:=e0)
    have he0:e0+k<ns.length:=by omega
    obtain⟨v0,hv0⟩:=T_some (w:=1) he0
    have h6:=(T_iff hnn b he0 hv0).mpr (by omega)
    have h7:=hle e0 v0 h1 he0 hv0
    unfold Le both at h7
    rw[if_neg (by decide),if_neg (by decide)] at h7
    omega
theorem G_sum {ns:List Int}(hnn:∀ n∈ns,0<=n){b:Int}(hb:0<=b):∀ (d i:Nat),ns.length-i=d->i<=ns.length->b*(G b ns i:Int)<=seg ns i ns.length:=by
 intro d
 induction d using Nat.strongRecOn with
 | ind d ih =>
  intro i hd hi
  rcases G_cases b ns i hi with ⟨g0,_,_⟩ | ⟨e,h1,h2,h3,h4,h5,_⟩
  ·rw[g0];have:=seg_nn hnn i ns.length;simp;omega
  ·have:=ih (ns.length-e) (by omega) e rfl h2
   rw[h5,seg_split (ns:=ns) (Nat.le_of_lt h1) h2 (Nat.le_refl _)]
   push_cast
   rw[Int.mul_add,Int.mul_one]
   omega
theorem cnt_zero:∀ (xs:List Int) (t:Int),(∀ x∈xs,0<=x)->0<=t->cnt 0 t xs=xs.length
 | [],t,_,_=>rfl
 | x::xs,t,h,ht=>by
  have hx:=h x List.mem_cons_self
  rw[cnt_cons,if_pos (by omega),cnt_zero xs 0 (λy hy=>h y (List.mem_cons_of_mem _ hy)) (Int.le_refl 0),List.length_cons]
theorem G_zero {ns:List Int}(hnn:∀ n∈ns,0<=n):G 0 ns 0=ns.length:=by
 unfold G;rw[List.drop_zero];exact cnt_zero ns 0 hnn (Int.le_refl 0)
end M11
namespace M7
open M5 M10 M11
theorem gp_le {b:Int}:∀ (n:Nat) (ps:List (List Int)),ps.length=n->(∀ p∈ps,∀ x∈p,0<=x)->(∀ p∈ps,p.sum<=b)->gp b ps.flatten<=ps.length
 | 0,ps,h,_,_=>by
  have:ps=[]:=List.length_eq_zero_iff.mp h
  subst this;simp[gp]
 | n+1,ps,h,h0,h1=>by
  have hne:ps≠[]:=λz=>by rw[z] at h;cases h
  have e:ps=ps.dropLast++[ps.getLast hne]:=(List.dropLast_concat_getLast hne).symm
  have hl:ps.dropLast.length=n:=by rw[List.length_dropLast,h];rfl
  have hm:∀ p∈ps.dropLast,p∈ps:=λp hp=>by rw[e];exact List.mem_append_left _ hp
  have ih:=gp_le n ps.dropLast hl (λp hp=>h0 p (hm p hp)) λp hp=>h1 p (hm p hp)
  have hlast:=List.getLast_mem hne
  have:=gp_add (b:=b) (xs:=ps.dropLast.flatten) (h0 _ hlast) (h1 _ hlast)
  rw[e,List.flatten_append,List.flatten_singleton,List.length_append]
  simp only[List.length_cons,List.length_nil]
  omega
theorem decomp {b:Int}:∀ (n:Nat) (xs:List Int),xs.length=n->(∀ x∈xs,0<=x)->(∀ x∈xs,x<=b)->∃ ps:List (List Int),ps.flatten=xs/\(∀ p∈ps,p≠[]/\p.sum<=b)/\ps.length=gp b xs:=by
 intro n
 induction n using Nat.strongRecOn with
 | ind n ih =>
  intro xs hl h0 h1
  by_cases hx:xs=[]
  ·subst hx;exact⟨[],rfl,by simp,by simp[gp]⟩
  ·obtain⟨pre,sg,e1,e2,e3,e4,e5⟩:=gp_last xs.length xs rfl hx h0 h1
   have hs:0<sg.length:=List.length_pos_iff.mpr e2
   have hpl:pre.length<n:=by rw[<- hl,e1,List.length_append];omega
   obtain⟨ps,p1,p2,p3⟩:=ih pre.length hpl pre rfl (λx hx=>h0 x (by rw[e1];exact List.mem_append_left _ hx)) λx hx=>h1 x (by rw[e1];exact List.mem_append_left _ hx)
   refine⟨ps++[sg],by rw[List.flatten_append,p1,List.flatten_singleton,<- e1],λp hp=>?_,by rw[List.length_append,p3,e5];rfl⟩
   rcases List.mem_append.mp hp with hp | hp
   ·exact p2 p hp
   ·have:p=sg:=by simpa using hp
    subst this;exact⟨e2,by omega⟩
theorem gp_len {b:Int}{xs:List Int}(h:∀ x∈xs,x<=b):gp b xs<=xs.length:=by
 unfold gp
 split
 ·omega
 ·rename_i hne
  cases xs with
  | nil=>exact absurd rfl hne
  | cons x xs =>
   have hx:=h x List.mem_cons_self
   have c:¬ (0+x > b):=by omega
   have:=lcut_len b xs (0+1) (0+x)
   simp only[lcut,c,if_false,List.length_cons]
   omega
theorem nil_sum {b:Int}:∀ (xs:List Int) (i:Nat) (tot:Int),tot<=b->lcut b i tot xs=[]->tot+xs.sum<=b
 | [],_,tot,h,_=>by simpa using h
 | x::xs,i,tot,h,hl=>by
  simp only[lcut] at hl
  split at hl
  ·cases hl
  ·rename_i c
   have:=nil_sum xs (i+1) (tot+x) (by omega) hl
   rw[List.sum_cons];omega
theorem drop_seg {ns:List Int}{i e:Nat}(h:i<=e):ns.drop i=(ns.take e).drop i++ns.drop e:=by
 by_cases he:e<=ns.length
 ·conv=>lhs;rw[<- List.take_append_drop e ns]
  rw[List.drop_append_of_le_length (by rw[List.length_take];omega)]
 ·rw[List.take_of_length_le (by omega),List.drop_eq_nil_of_le (as:=ns) (i:=e) (by omega),List.append_nil]
theorem seg_all {ns:List Int}{i:Nat}:seg ns i ns.length=(ns.drop i).sum:=by unfold seg;rw[List.take_length]
theorem T_iff0 {ns:List Int}(hnn:∀ n∈ns,0<=n)(b:Int):∀ {k i:Nat} {t:Int},i+k<ns.length->T 0 ns k i=some t->(t<=b↔(∀ x∈ns.drop i,x<=b)/\gp b (ns.drop i)<=k+1)
 | 0,i,t,h,ht=>by
  simp only[T] at ht
  rw[if_pos (by omega)] at ht
  have ht:=Option.some.inj ht
  rw[seg_all] at ht
  have hd:∀ x∈ns.drop i,0<=x:=λx hx=>hnn x (List.mem_of_mem_drop hx)
  have hne:ns.drop i≠[]:=λz=>by have:=congrArg List.length z;rw[List.length_drop,List.length_nil] at this;omega
  constructor
  ·intro hb
   refine⟨λx hx=>Int.le_trans (mem_le_sum hd x hx) (by omega),?_⟩
   unfold gp
   rw[if_neg hne,lcut_nil _ 0 0 hd (by omega)];simp
  ·rintro⟨ha,hg⟩
   unfold gp at hg
   rw[if_neg hne] at hg
   have hl:lcut b 0 0 (ns.drop i)=[]:=List.length_eq_zero_iff.mp (by omega)
   have h0:(0:Int)<=b:=by
    cases hx:ns.drop i with
    | nil=>exact absurd hx hne
    | cons x xs=>have h1:=ha x (by rw[hx];simp);have h2:=hd x (by rw[hx];simp);omega
   have:=nil_sum _ 0 0 h0 hl
   omega
 | k+1,i,t,h,ht=>by
  obtain⟨⟨e,v,he1,he2,hv,htv⟩,hle⟩:=T_mem ht
  have hd:∀ x∈ns.drop i,0<=x:=λx hx=>hnn x (List.mem_of_mem_drop hx)
  constructor
  ·intro hb
   have hs:seg ns i e<=b/\v<=b:=by
    rw[htv] at hb;unfold both at hb;rw[if_pos rfl] at hb;omega
   obtain⟨ha,hg⟩:=(T_iff0 hnn b he2 hv).mp hs.2
   have hsplit:=drop_seg (ns:=ns) (Nat.le_of_lt he1)
   have hsn:∀ x∈(ns.take e).drop i,0<=x:=λx hx=>hnn x (List.mem_of_mem_take (List.mem_of_mem_drop hx))
   have hall:∀ x∈ns.drop i,x<=b:=λx hx=>by
    rw[hsplit] at hx
    rcases List.mem_append.mp hx with hx | hx
    ·exact Int.le_trans (mem_le_sum hsn x hx) hs.1
    ·exact ha x hx
   refine⟨hall,?_⟩
   obtain⟨ps,p1,p2,p3⟩:=decomp (b:=b) _ (ns.drop e) rfl (λx hx=>hnn x (List.mem_of_mem_drop hx)) ha
   have:=gp_le (b:=b) _ ((ns.take e).drop i::ps) rfl (λp hp x hx=>by
    rcases List.mem_cons.mp hp with rfl | hp
    ·exact hsn x hx
    ·refine hnn x (List.mem_of_mem_drop (i:=e) ?_)
     rw[<- p1];exact List.mem_flatten.mpr ⟨p,hp,hx⟩) λp hp=>by
    rcases List.mem_cons.mp hp with rfl | hp
    ·exact hs.1
    ·exact(p2 p hp).2
   rw[List.flatten_cons,p1,<- hsplit,List.length_cons,p3] at this
   omega
  ·rintro⟨ha,hg⟩
   obtain⟨ps,p1,p2,p3⟩:=decomp (b:=b) _ (ns.drop i) rfl hd ha
   cases ps with
   | nil =>
    have:=congrArg List.length p1
    rw[List.flatten_nil,List.length_nil,List.length_drop] at this;omega
   | cons p ps =>
    rw[List.flatten_cons] at p1
    rw[List.length_cons] at p3
    obtain⟨hpne,hpb⟩:=p2 p List.mem_cons_self
    have hp1:0<p.length:=List.length_pos_iff.mpr hpne
    have hlen:p.length+ps.flatten.length=ns.length-i:=by
     have:=congrArg List.length p1
     rw[List.length_append,List.length_drop] at this;exact this
    let e0:=min (i+p.length) (ns.length-k-1)
    have he0:e0<=i+p.length/\e0<=ns.length-k-1/\i<e0:=by simp only[e0];omega
    have hseg0:seg ns i (i+p.length)=p.sum:=by
     unfold seg
     rw[List.drop_take,show i+p.length-i=p.length by omega,<- p1,List.take_left' rfl]
    have hsegle:seg ns i e0<=b:=by
     have h1:=seg_split (ns:=ns) (i:=i) (e:=e0) (n:=i+p.length) (by omega) he0.1 (by omega)
     have h2:=seg_nn hnn e0 (i+p.length)
     omega
    obtain⟨v0,hv0⟩:=T_some (w:=0) (ns:=ns) (k:=k) (i:=e0) (by omega)
    have hall0:∀ x∈ns.drop e0,x<=b:=λx hx=>ha x (by rw[drop_seg (ns:=ns) (Nat.le_of_lt he0.2.2)];exact List.mem_append_right _ hx)
    have hg0:gp b (ns.drop e0)<=k+1:=by
     by_cases c:i+p.length<=ns.length-k-1
     ·have ee:e0=i+p.length:=by simp only[e0];omega
      have ed:ns.drop e0=ps.flatten:=by
       rw[ee,<- List.drop_drop,<- p1,List.drop_left' rfl]
      rw[ed]
      have:=gp_le (b:=b) _ ps rfl (λq hq x hx=>hd x (by rw[<- p1];exact List.mem_append_right _ (List.mem_flatten.mpr ⟨q,hq,hx⟩))) λq hq=>(p2 q (List.mem_cons_of_mem _ hq)).2
      omega
     ·have ee:e0=ns.length-k-1:=by simp only[e0];omega
      have hgl:=gp_len hall0
      rw[List.length_drop] at hgl
      omega
    have h6:=(T_iff0 hnn b (by omega) hv0).mpr ⟨hall0,hg0⟩
    have h7:=hle e0 v0 he0.2.2 (by omega) hv0
    unfold Le both at h7
    rw[if_pos rfl,if_pos rfl] at h7
    omega
structure Back (ns:List Int)(t:Int)(m l x:Nat):Prop where
 le:x+l<=ns.length
 ge:1<=l->m-l<=x
 at0:l=0->x=ns.length
 fit:∀ j,l=j+1->∃ v,T 0 ns j x=some v/\v<=t
 no:∀ j,l=j+1->∀ i,m-l<=i->i<x->∀ v,T 0 ns j i=some v->t<v
theorem Back.start (ns:List Int)(t:Int)(m:Nat):Back ns t m 0 ns.length:=⟨by omega,λh=>by omega,λ_=>rfl,λj h=>by omega,λj h=>by omega⟩
theorem seg_mono {ns:List Int}(hnn:∀ n∈ns,0<=n){i j e:Nat}(h1:i<=j)(h2:j<=e)(h3:e<=ns.length):seg ns j e<=seg ns i e:=by
 have:=seg_split (ns:=ns) h1 h2 h3
 have:=seg_nn hnn i j
 omega
theorem seg_mono' {ns:List Int}(hnn:∀ n∈ns,0<=n){i e f:Nat}(h1:i<=e)(h2:e<=f)(h3:f<=ns.length):seg ns i e<=seg ns i f:=by
 have:=seg_split (ns:=ns) h1 h2 h3
 have:=seg_nn hnn e f
 omega
theorem Back.step {ns:List Int}(hnn:∀ n∈ns,0<=n){t:Int}{m l x y:Nat}(h:Back ns t m l x)(hl:l+1<m)(hm:m<=ns.length)(h1:m-l-1<=y)(h2:y<x)(h3:seg ns y x<=t)(h4:y=m-l-1\/(1<=y/\t<seg ns (y-1) x)):Back ns t m (l+1) y:=by
 have hx:=h.le
 refine⟨by omega,λ_=>by omega,λz=>by omega,λj hj=>?_,λj hj i hi1 hi2 v hv=>?_⟩
 ·have:j=l:=by omega
  subst this
  cases j with
  | zero =>
   have:=h.at0 rfl
   subst this
   exact⟨seg ns y ns.length,by simp only[T];rw[if_pos h2],h3⟩
  | succ j =>
   obtain⟨v,hv,hvt⟩:=h.fit j rfl
   obtain⟨u,hu⟩:=T_some (w:=0) (ns:=ns) (k:=j+1) (i:=y) (by omega)
   have:=(T_mem hu).2 x v h2 (by omega) hv
   unfold Le both at this
   rw[if_pos rfl,if_pos rfl] at this
   exact⟨u,hu,by omega⟩
 ·have:j=l:=by omega
  subst this
  have hy:1<=y/\t<seg ns (y-1) x:=by
   rcases h4 with z | z
   ·omega
   ·exact z
  have hge:seg ns (y-1) x<=seg ns i x:=seg_mono hnn (by omega) (by omega) (by omega)
  cases j with
  | zero =>
   have:=h.at0 rfl
   subst this
   simp only[T] at hv
   rw[if_pos (by omega)] at hv
   have:=Option.some.inj hv
   omega
  | succ j =>
   refine Classical.byContradiction λhn=>?_
   obtain⟨⟨e,u,he1,he2,hu,hvu⟩,_⟩:=T_mem hv
   unfold both at hvu
   rw[if_pos rfl] at hvu
   have hxe:x<=e:=by
    refine Classical.byContradiction λz=>?_
    have:=h.no j rfl e (by omega) (by omega) u hu
    omega
   have:=seg_mono' hnn (i:=i) (e:=x) (f:=e) (by omega) hxe (by omega)
   omega
theorem Back.top {ns:List Int}(hnn:∀ n∈ns,0<=n){t:Int}{m x:Nat}(h:Back ns t m (m-1) x)(hm:2<=m)(hmn:m<=ns.length)(hT:T 0 ns (m-1) 0=some t):0<x/\seg ns 0 x<=t:=by
 obtain⟨j,hj⟩:∃ j,m-1=j+1:=⟨m-2,by omega⟩
 have hg:=h.ge (by omega)
 rw[hj] at hT
 obtain⟨⟨e,u,he1,he2,hu,hvu⟩,_⟩:=T_mem hT
 unfold both at hvu
 rw[if_pos rfl] at hvu
 have hxe:x<=e:=by
  refine Classical.byContradiction λz=>?_
  have:=h.no j hj e (by omega) (by omega) u hu
  omega
 have:=seg_mono' hnn (i:=0) (e:=x) (f:=e) (by omega) hxe (by omega)
 exact⟨by omega,by omega⟩
end M7
namespace M34
open M5 M10 M11
theorem slice_seg {ns:List Int}{x y:Nat}(h:x<=y):((ns.drop x).take (y-x)).sum=seg ns x y:=by
 rw[seg_take,show x+(y-x)=y by omega]
def gaps (ns:List Int):Nat->List Nat->List Int
 | b,[]=>[seg ns b ns.length]
 | b,p::ps=>seg ns b p::gaps ns (p+1) ps
theorem gaps_len (ns:List Int):∀ (ps:List Nat) (b:Nat),(gaps ns b ps).length=ps.length+1
 | [],_=>rfl
 | p::ps,b=>by simp only[gaps,List.length_cons,gaps_len ns ps]
theorem gaps_ne (ns:List Int)(ps:List Nat)(b:Nat):gaps ns b ps≠[]:=λz=>by have:=gaps_len ns ps b;rw[z] at this;simp at this
theorem gaps_at (ns:List Int):∀ (ps:List Nat) (b j x y:Nat),(b::ps.map (·+1))[j]?=some x->(ps++[ns.length])[j]?=some y->(gaps ns b ps)[j]?=some (seg ns x y)
 | [],b,0,x,y,h1,h2=>by simp at h1 h2;subst h1;subst h2;rfl
 | [],b,j+1,x,y,h1,h2=>by simp at h1
 | p::ps,b,0,x,y,h1,h2=>by simp at h1 h2;subst h1;subst h2;rfl
 | p::ps,b,j+1,x,y,h1,h2=>by
  simp only[List.map_cons,List.getElem?_cons_succ] at h1
  simp only[List.cons_append,List.getElem?_cons_succ] at h2
  simp only[gaps,List.getElem?_cons_succ]
  exact gaps_at ns ps (p+1) j x y h1 h2
structure PlN (qs:List Nat)(n:Nat):Prop where
 up:qs.Pairwise (·<·)
 hi:∀ q∈qs,q<n
theorem pl_le {qs:List Nat}{n j x y:Nat}(h:PlN qs n)(hx:(0::qs.map (·+1))[j]?=some x)(hy:(qs++[n])[j]?=some y):x<=y:=by
 cases j with
 | zero=>simp at hx;omega
 | succ j =>
  rw[List.getElem?_cons_succ,List.getElem?_map] at hx
  cases e:qs[j]? with
  | none=>rw[e] at hx;cases hx
  | some q =>
   rw[e] at hx;cases hx
   have hj:j<qs.length:=(List.getElem?_eq_some_iff.mp e).1
   have eq:qs[j]=q:=by rw[List.getElem?_eq_getElem hj] at e;exact Option.some.inj e
   by_cases z:j+1<qs.length
   ·rw[List.getElem?_append_left z,List.getElem?_eq_getElem z] at hy
    cases hy
    have:=List.pairwise_iff_getElem.mp h.up j (j+1) hj z (by omega)
    show q+1<=_
    omega
   ·rw[List.getElem?_append_right (by omega),show j+1-qs.length=0 by omega] at hy
    simp at hy
    have:=h.hi q (List.mem_of_getElem? e)
    show q+1<=_
    omega
end M34
namespace M25
def S (ns:List Int)(i:Nat):Int:=(ns.take i).sum
theorem S_zero (ns:List Int):S ns 0=0:=by simp[S]
theorem S_succ {ns:List Int}{i:Nat}{x:Int}(h:ns[i]?=some x):S ns (i+1)=S ns i+x:=by
 unfold S
 rw[List.take_add_one,h,List.sum_append];simp
theorem S_bd {ns:List Int}(h0:∀ n∈ns,0<=n)(h1:∀ n∈ns,n<=1000000000000):∀ i,0<=S ns i/\S ns i<=1000000000000*i
 | 0=>by rw[S_zero];omega
 | i+1=>by
  have ih:=S_bd h0 h1 i
  cases e:ns[i]? with
  | some x =>
   rw[S_succ e]
   have:=h0 x (List.mem_of_getElem? e);have:=h1 x (List.mem_of_getElem? e)
   omega
  | none =>
   have hl:ns.length<=i:=List.getElem?_eq_none_iff.mp e
   have:S ns (i+1)=S ns i:=by unfold S;rw[List.take_of_length_le (by omega),List.take_of_length_le hl]
   rw[this];omega
def Path (w:Nat->Nat->Int):Nat->Nat->Nat->Int->Prop
 | 0,b,e,c=>b=e/\c=0
 | k+1,b,e,c=>∃ m c',b<m/\Path w k m e c'/\c=w b m+c'
section
variable {w:Nat->Nat->Int}
def Least (w:Nat->Nat->Int)(k b e:Nat)(v:Int):Prop:=Path w k b e v/\∀ c,Path w k b e c->v<=c
end
def sq (ns:List Int)(b e:Nat):Int:=(S ns e-S ns b) ^ 2
structure Some_ (ns l:List Int)(i t upto:Nat)(vs:List Int):Prop where
 a:∀ v∈vs,∃ m,i<=m/\m<upto/\0<=l.getD m 0/\v=l.getD m 0+sq ns m t
 b:∀ m,i<=m->m<upto->0<=l.getD m 0->l.getD m 0+sq ns m t∈vs
end M25
namespace M25
section
variable {w:Nat->Nat->Int}
def Hit (w:Nat->Nat->Int)(n k b e:Nat):Prop:=∃ v u,Least w (k-1) e n v/\Least w k b n u/\w b e+v=u
def Step (w:Nat->Nat->Int)(n k b e:Nat):Prop:=b<e/\Hit w n k b e/\∀ e',b<e'->e'<e->¬ Hit w n k b e'
inductive Chain (w:Nat->Nat->Int)(n m:Nat):Nat->List Nat->Nat->Prop where
 | nil:Chain w n m 0 [] 0
 | snoc {i b e:Nat} {cs:List Nat} (h:Chain w n m i cs b) (s:Step w n (m-i) b e):Chain w n m (i+1) (cs++[e]) e
end
end M25
namespace M25
section
variable {w:Nat->Nat->Int}
end
theorem slice_S {ns:List Int}{b c:Nat}(h:b<=c):((ns.drop b).take (c-b)).sum=S ns c-S ns b:=by
 unfold S
 have e:ns.take c=ns.take b++(ns.drop b).take (c-b):=by
  have:=List.take_append_drop b (ns.take c)
  rw[List.take_take,Nat.min_eq_left h,List.drop_take] at this
  exact this.symm
 rw[e,List.sum_append];omega
end M25
namespace M39
open M3
structure PlR (qs:List Nat)(n:Nat):Prop where
 up:qs.Pairwise (·<·)
 hi:∀ q∈qs,q<n
 ne:1<=qs.length
end M39
namespace M40
open M3 M25 M39
def Kr (s:Nat->Int)(t u:Int):Nat->List Nat->Prop
 | b,[]=>t-s b<=u
 | b,c::cs=>s c-s b<=u/\Kr s t u c cs
section
variable {s s':Nat->Int}{t t' u:Int}
theorem kr_congr:∀ {cs:List Nat} {b:Nat},(∀ c∈b::cs,s c=s' c)->(Kr s t u b cs↔Kr s' t u b cs)
 | [],b,h=>by simp only[Kr];rw[h b (by simp)]
 | c::cs,b,h=>by
  simp only[Kr]
  rw[h b (by simp),h c (by simp),kr_congr λx hx=>h x (List.mem_cons_of_mem _ hx)]
theorem kr_shift (f:Nat)(d:Int):∀ {cs:List Nat} {b:Nat},Kr (λc=>s (f+c)-d) (t-d) u b cs↔Kr s t u (f+b) (cs.map (f+·))
 | [],b=>by simp only[Kr,List.map_nil];omega
 | c::cs,b=>by
  simp only[Kr,List.map_cons]
  rw[kr_shift f d]
  constructor<;>rintro⟨h1,h2⟩<;>exact⟨by omega,h2⟩
end
section
variable {ns:List Int}{u:Int}
theorem pcs_kr:∀ (cs:List Nat) (b:Nat),cs.Pairwise (·<·)->(∀ c∈cs,b<=c/\c<=ns.length)->b<=ns.length->((∀ p∈pcs ns b cs,p.sum<=u)↔Kr (S ns) (S ns ns.length) u b cs)
 | [],b,_,_,hb=>by
  have e:(ns.drop b).sum=S ns ns.length-S ns b:=by
   have:=slice_S (ns:=ns) hb
   rw[List.take_of_length_le (by simp)] at this
   exact this
  simp only[pcs,List.mem_singleton,forall_eq,Kr,e]
 | c::cs,b,hp,hc,hb=>by
  have h1:=hc c List.mem_cons_self
  have ih:=pcs_kr cs c (List.pairwise_cons.mp hp).2 (λx hx=>⟨Nat.le_of_lt ((List.pairwise_cons.mp hp).1 x hx),(hc x (List.mem_cons_of_mem _ hx)).2⟩) h1.2
  simp only[pcs,List.mem_cons,forall_eq_or_imp,Kr,slice_S h1.1,ih]
def RK (ns:List Int)(u:Int):List Nat->Prop
 | []=>False
 | f::rest=>Kr (S ns) (S ns ns.length+S ns f) u f rest
theorem S_all (ns:List Int):S ns ns.length=ns.sum:=by unfold S;rw[List.take_length]
def opn (ns:List Int)(f:Nat):List Int:=(ns.drop f).dropLast++[ns.getLastD 0+S ns f]
theorem opn_len {f:Nat}(hf:f<ns.length):(opn ns f).length=ns.length-f:=by
 unfold opn
 rw[List.length_append,List.length_dropLast,List.length_drop]
 simp;omega
theorem S_opn {f c:Nat}(hf:f<ns.length)(hc:c<ns.length-f):S (opn ns f) c=S ns (f+c)-S ns f:=by
 rw[<- slice_S (Nat.le_add_right f c)]
 unfold S opn
 rw[List.take_append_of_le_length (by rw[List.length_dropLast,List.length_drop];omega),show f+c-f=c by omega,List.dropLast_eq_take,List.take_take,Nat.min_eq_left (by rw[List.length_drop];omega)]
theorem drop_last {f:Nat}(hf:f<ns.length):(ns.drop f).dropLast++[ns.getLastD 0]=ns.drop f:=by
 have hne:ns.drop f≠[]:=λz=>by have:=congrArg List.length z;rw[List.length_drop,List.length_nil] at this;omega
 have e:ns.getLastD 0=(ns.drop f).getLast hne:=by
  rw[List.getLast_drop]
  have hn:ns≠[]:=λz=>by rw[z] at hf;simp at hf
  rw[List.getLastD_eq_getLast?,List.getLast?_eq_some_getLast hn];rfl
 rw[e,List.dropLast_concat_getLast]
theorem S_opn_all {f:Nat}(hf:f<ns.length):S (opn ns f) (opn ns f).length=S ns ns.length:=by
 rw[S_all]
 have h1:=congrArg List.sum (drop_last hf)
 rw[List.sum_append] at h1
 unfold opn
 rw[List.sum_append]
 have h2:=slice_S (ns:=ns) (Nat.le_of_lt hf)
 rw[List.take_of_length_le (by rw[List.length_drop];omega)] at h2
 simp only[List.sum_cons,List.sum_nil] at h1 ⊢
 omega
theorem opn_rk {f:Nat}(hf:f<ns.length){cs:List Nat}(hc:CutN cs (ns.length-f)):(∀ p∈pcs (opn ns f) 0 cs,p.sum<=u)↔RK ns u (f::cs.map (f+·)):=by
 have hl:=opn_len hf
 rw[pcs_kr _ _ hc.up (λc h=>⟨Nat.zero_le _,by rw[hl];exact Nat.le_of_lt (hc.hi c h)⟩) (Nat.zero_le _),S_opn_all hf]
 have e3:S ns ns.length=(S ns ns.length+S ns f)-S ns f:=by omega
 rw[kr_congr (s':=λc=>S ns (f+c)-S ns f) λc h=>S_opn hf ?_,e3,kr_shift f (S ns f)]
 ·simp only[RK,Nat.add_zero,Int.sub_add_cancel]
 ·rcases List.mem_cons.mp h with rfl | h
  ·omega
  ·exact hc.hi c h
end
def Ahead:List Nat->List Nat->Prop
 | x::xs,y::ys=>x<y\/x=y/\Ahead xs ys
 | _,_=>False
theorem ahead_tr:∀ {a b c:List Nat},Ahead a b->Ahead b c->Ahead a c
 | x::a,y::b,z::c,h1,h2=>by
  rcases h1 with h1 | ⟨rfl,h1⟩
  ·rcases h2 with h2 | ⟨rfl,h2⟩
   ·exact .inl (by omega)
   ·exact .inl h1
  ·rcases h2 with h2 | ⟨rfl,h2⟩
   ·exact .inl h2
   ·exact .inr ⟨rfl,ahead_tr h1 h2⟩
 | [],_,_,h,_=>h.elim
 | _::_,[],_,h,_=>h.elim
 | _::_,_::_,[],_,h=>h.elim
theorem ahead_tot:∀ {a b:List Nat},a.length=b.length->Ahead a b\/a=b\/Ahead b a
 | [],[],_=>.inr (.inl rfl)
 | x::a,y::b,h=>by
  rcases Nat.lt_trichotomy x y with z | rfl | z
  ·exact .inl (.inl z)
  ·rcases ahead_tot (a:=a) (b:=b) (by simpa using h) with q | rfl | q
   ·exact .inl (.inr ⟨rfl,q⟩)
   ·exact .inr (.inl rfl)
   ·exact .inr (.inr (.inr ⟨rfl,q⟩))
  ·exact .inr (.inr (.inl z))
theorem ahead_map {g:Nat->Nat}(hg:∀ x y,x<y->g x<g y):∀ {a b:List Nat},Ahead (a.map g) (b.map g)->Ahead a b
 | x::a,y::b,h=>by
  rcases h with h | ⟨e,h⟩
  ·rcases Nat.lt_trichotomy x y with z | rfl | z
   ·exact .inl z
   ·omega
   ·have:=hg y x z;omega
  ·rcases Nat.lt_trichotomy x y with z | rfl | z
   ·have:=hg x y z;omega
   ·exact .inr ⟨rfl,ahead_map hg h⟩
   ·have:=hg y x z;omega
structure RB (ns:List Int)(m:Nat)(v:Int)(qs:List Nat):Prop where
 pl:PlR qs ns.length
 len:qs.length=m
 keep:RK ns v qs
 least:∀ qs' u,PlR qs' ns.length->qs'.length=m->RK ns u qs'->v<=u
 first:∀ qs',PlR qs' ns.length->qs'.length=m->RK ns v qs'->¬ Ahead qs' qs
theorem RB.uniq {ns:List Int}{m:Nat}{v v':Int}{qs qs':List Nat}(h:RB ns m v qs)(h':RB ns m v' qs'):v=v'/\qs=qs':=by
 have e:v=v':=Int.le_antisymm (h.least qs' v' h'.pl h'.len h'.keep) (h'.least qs v h.pl h.len h.keep)
 subst e
 refine⟨rfl,?_⟩
 rcases ahead_tot (a:=qs) (b:=qs') (by rw[h.len,h'.len]) with z | z | z
 ·exact absurd z (h'.first qs h.pl h.len h.keep)
 ·exact z
 ·exact absurd z (h.first qs' h'.pl h'.len h'.keep)
theorem row_room {n:Nat}:∀ (cs:List Nat) (b:Nat),(b::cs).Pairwise (·<·)->(∀ c∈b::cs,c<n)->b+cs.length+1<=n
 | [],b,_,h=>by have:=h b (by simp);simp;omega
 | c::cs,b,hp,h=>by
  obtain⟨p1,p2⟩:=List.pairwise_cons.mp hp
  have:=row_room cs c p2 λx hx=>h x (List.mem_cons_of_mem _ hx)
  have:=p1 c (by simp)
  rw[List.length_cons];omega
theorem pl_cut {qs:List Nat}{n:Nat}(h:PlR qs n):∃ f cs,qs=f::cs.map (f+·)/\CutN cs (n-f)/\f<n/\f+qs.length<=n:=by
 obtain⟨f,rest,rfl⟩:∃ f r,qs=f::r:=by
  cases qs with
  | nil=>have:=h.ne;simp at this
  | cons f r=>exact⟨f,r,rfl⟩
 have hf:=h.hi f List.mem_cons_self
 obtain⟨hlt,hup⟩:=List.pairwise_cons.mp h.up
 have e2:rest=(rest.map (·-f)).map (f+·):=by
  rw[List.map_map]
  conv=>lhs;rw[<- List.map_id rest]
  refine List.map_congr_left λx hx=>?_
  have:=hlt x hx
  show x=f+(x-f)
  omega
 have hc:CutN (rest.map (·-f)) (n-f):=⟨by
  rw[List.pairwise_map]
  exact List.Pairwise.imp_of_mem (λ{a b} ha hb hab=>by have:=hlt a ha;have:=hlt b hb;omega) hup,λc hc=>by
  obtain⟨x,hx,rfl⟩:=List.mem_map.mp hc
  have:=hlt x hx;omega,λc hc=>by
  obtain⟨x,hx,rfl⟩:=List.mem_map.mp hc
  have:=hlt x hx
  have:=h.hi x (List.mem_cons_of_mem _ hx)
  omega⟩
 have hl:=row_room rest f h.up h.hi
 exact⟨f,rest.map (·-f),by rw[<- e2],hc,hf,by rw[List.length_cons];omega⟩
theorem cut_pl {f n:Nat}{cs:List Nat}(hf:f<n)(h:CutN cs (n-f)):PlR (f::cs.map (f+·)) n:=by
 refine⟨List.pairwise_cons.mpr ⟨λx hx=>?_,?_⟩,λx hx=>?_,by simp⟩
 ·obtain⟨c,hc,rfl⟩:=List.mem_map.mp hx
  have:=h.lo c hc;omega
 ·rw[List.pairwise_map]
  exact h.up.imp λa=>by omega
 ·rcases List.mem_cons.mp hx with rfl | hx
  ·exact hf
  ·obtain⟨c,hc,rfl⟩:=List.mem_map.mp hx
   have:=h.hi c hc;omega
end M40
namespace M40
open M3 M25 M39
theorem T_le {ns:List Int}{u:Int}:∀ (k i:Nat) (cs:List Nat),cs.length=k->cs.Pairwise (·<·)->(∀ c∈cs,i<c/\c<ns.length)->i<ns.length->(∀ p∈pcs ns i cs,p.sum<=u)->∃ v,M11.T 0 ns k i=some v/\v<=u
 | 0,i,cs,hl,_,_,hi,h=>by
  have:cs=[]:=List.length_eq_zero_iff.mp hl
  subst this
  refine⟨M5.seg ns i ns.length,by simp only[M11.T];rw[if_pos hi],?_⟩
  rw[M7.seg_all]
  exact h _ (by simp[pcs])
 | k+1,i,cs,hl,hp,hc,hi,h=>by
  cases cs with
  | nil=>simp at hl
  | cons c cs =>
   obtain⟨p1,p2⟩:=List.pairwise_cons.mp hp
   have hc0:=hc c List.mem_cons_self
   obtain⟨v,hv,hvu⟩:=T_le k c cs (by simpa using hl) p2 (λx hx=>⟨p1 x hx,(hc x (List.mem_cons_of_mem _ hx)).2⟩) hc0.2 λp hp=>h p (by simp only[pcs];exact List.mem_cons_of_mem _ hp)
   have hroom:=row_room cs c hp λx hx=>(hc x hx).2
   have hl':cs.length=k:=by simpa using hl
   obtain⟨t,ht⟩:=M11.T_some (w:=0) (ns:=ns) (k:=k+1) (i:=i) (by omega)
   have hle:=(M11.T_mem ht).2 c v hc0.1 (by omega) hv
   have h1:=h ((ns.drop i).take (c-i)) (by simp[pcs])
   rw[M34.slice_seg (by omega)] at h1
   refine⟨t,ht,?_⟩
   unfold M11.Le M11.both at hle
   simp only[if_true] at hle
   omega
structure FB (ns:List Int)(m f:Nat)(v:Int)(qs:List Nat):Prop where
 pl:PlR qs ns.length
 len:qs.length=m
 keep:RK ns v qs
 least:∀ cs u,CutN cs (ns.length-f)->cs.length+1=m->RK ns u (f::cs.map (f+·))->v<=u
 first:∀ cs,CutN cs (ns.length-f)->cs.length+1=m->RK ns v (f::cs.map (f+·))->¬ Ahead (f::cs.map (f+·)) qs
theorem rb_of {ns:List Int}{m f0:Nat}{v:Int}{qs:List Nat}(h:FB ns m f0 v qs)(hF:∀ f,f+m<=ns.length->∃ vf qf,FB ns m f vf qf/\v<=vf/\(vf=v->¬ Ahead qf qs)):RB ns m v qs:=by
 refine⟨h.pl,h.len,h.keep,λqs' u h1 h2 h3=>?_,λqs' h1 h2 h3 hah=>?_⟩
 ·obtain⟨f,cs,rfl,hc,hf,hr⟩:=pl_cut h1
  have hl:cs.length+1=m:=by simpa using h2
  obtain⟨vf,qf,g1,g2,_⟩:=hF f (by rw[h2] at hr;exact hr)
  have:=g1.least cs u hc hl h3
  omega
 ·obtain⟨f,cs,rfl,hc,hf,hr⟩:=pl_cut h1
  have hl:cs.length+1=m:=by simpa using h2
  obtain⟨vf,qf,g1,g2,g3⟩:=hF f (by rw[h2] at hr;exact hr)
  have e:vf=v:=Int.le_antisymm (g1.least cs v hc hl h3) g2
  have n1:=g3 e
  subst e
  have n2:=g1.first cs hc hl h3
  rcases ahead_tot (a:=f::cs.map (f+·)) (b:=qf) (by rw[h2,g1.len]) with z | z | z
  ·exact n2 z
  ·exact n1 (z▸hah)
  ·exact n1 (ahead_tr z hah)
section
variable {ns:List Int}{u:Int}
end
end M40
namespace M40
open M3 M25 M39
section
variable {ns:List Int}{u:Int}
end
end M40
namespace M40
open M3 M25 M39
section
variable {ns:List Int}{u:Int}
end
end M40
namespace L2
open PySem PySem.Spec PyProof.Rows
structure Bl (mg:Str->Option Value):Prop where
 list:mg "list"=none
 enumerate:mg "enumerate"=none
 int:mg "int"=none
 sum:mg "sum"=none
 range:mg "range"=none
 sorted:mg "sorted"=none
 max:mg "max"=none
 min:mg "min"=none
 len:mg "len"=none
 repr:mg "repr"=none
 isinstance:mg "isinstance"=none
 zip:mg "zip"=none
 bool:mg "bool"=none
 tuple:mg "tuple"=none
 str:mg "str"=none
 dict:mg "dict"=none
 abs:mg "abs"=none
theorem boot_int:bootBuiltins "int"=some (.type "int"):=by decide +kernel
theorem boot_list:bootBuiltins "list"=some (.type "list"):=by decide +kernel
theorem boot_bool:bootBuiltins "bool"=some (.type "bool"):=by decide +kernel
theorem boot_tuple:bootBuiltins "tuple"=some (.type "tuple"):=by decide +kernel
theorem boot_str:bootBuiltins "str"=some (.type "str"):=by decide +kernel
theorem boot_sum':bootBuiltins "sum"=some (.builtin "sum"):=by decide +kernel
theorem boot_max':bootBuiltins "max"=some (.builtin "max"):=by decide +kernel
theorem boot_min':bootBuiltins "min"=some (.builtin "min"):=by decide +kernel
theorem boot_len':bootBuiltins "len"=some (.builtin "len"):=by decide +kernel
theorem boot_sorted':bootBuiltins "sorted"=some (.builtin "sorted"):=by decide +kernel
theorem boot_repr':bootBuiltins "repr"=some (.builtin "repr"):=by decide +kernel
theorem boot_abs':bootBuiltins "abs"=some (.builtin "abs"):=by decide +kernel
theorem boot_isinstance':bootBuiltins "isinstance"=some (.builtin "isinstance"):=by decide +kernel
def DrawsAt (H:Hp)(d:Addr):Prop:=∃ ds:List Int,H d=some (.lst (ds.map V.int))/\(∀ x∈ds,0<=x)/\ds.length<=1000
theorem DrawsAt.same {H H':Hp}{d:Addr}(s:Same H H')(x:DrawsAt H d):DrawsAt H' d:=let ⟨ds,q,z⟩:=x;⟨ds,s _ _ q,z⟩
theorem DrawsAt.kp {H H':Hp}{d:Addr}{S:List Addr}(s:Kp S H H')(n:d∉S)(x:DrawsAt H d):DrawsAt H' d:=let ⟨ds,q,z⟩:=x;⟨ds,s _ _ n q,z⟩
theorem DrawsAt.ne {H:Hp}{d p:Addr}(x:DrawsAt H d)(hp:H p=none):d≠p:=let ⟨_,q,_⟩:=x;ne_of_none q hp
def zq4f (K:W.Frag):Sp:=λvs H Q _=>∃ (a:Addr) (ns:List Int),vs=[.ref a]/\SqL K H a (ns.map V.int)/\ns.length<=63/\∀ p H',H p=none->Same H H'->DrawsAt H' p->Q (.ref p) H'
def zq15:Sp:=λvs H Q _=>∃ (d:Addr) (lim:Int),vs=[.ref d,.int lim]/\DrawsAt H d/\0<lim/\∀ g H',0<=g->g<lim->DrawsAt H' d->Kp [d] H H'->Q (.int g) H'
structure RowN (ns:List Int):Prop where
 ne:1<=ns.length
 le:ns.length<=120
 nn:∀ n∈ns,0<=n
 ub:∀ n∈ns,n<=1000000000000000
structure RowM (ns:List Int):Prop where
 ne:1<=ns.length
 le:ns.length<=120
 nn:∀ n∈ns,0<=n
 ub:∀ n∈ns,n<=1000000000000
theorem RowM.row {ns:List Int}(h:RowM ns):RowN ns:=⟨h.ne,h.le,h.nn,λn hn=>by have:=h.ub n hn;omega⟩
def zq66:Sp:=λvs H Q _=>∃ (d:Addr) (most:Int),vs=[.ref d,.int most]/\DrawsAt H d/\1<=most/\most<=120/\∀ (p:Addr) (ns:List Int) (H':Hp),RowM ns->(ns.length:Int)<=most->DrawsAt H' d->Kp [d] H H'->H' p=some (.lst (ns.map V.int))->p≠d->H p=none->Q (.ref p) H'
def zq3v:Sp:=λvs H Q _=>∃ (d r:Addr) (ns:List Int),vs=[.ref d,.ref r]/\DrawsAt H d/\H r=some (.lst (ns.map V.int))/\r≠d/\1<=ns.length/\ns.length<=1000/\∀ (m:Nat) (H':Hp),1<=m->m<=ns.length->DrawsAt H' d->Kp [d] H H'->Q (.int m) H'
end L2
namespace K
open PySem L2
structure Ecl where
 CutError:Addr
 NoMany:Addr
 NoPlace:Addr
 NoNumber:Addr
 NoText:Addr
 NoCommand:Addr
structure ErrT (K:W.Frag)(mg:Str->Option Value)(Z:Ecl):Prop where
 x_CutError:ExC K mg "CutError" Z.CutError
 x_NoMany:ExC K mg "NoMany" Z.NoMany
 x_NoPlace:ExC K mg "NoPlace" Z.NoPlace
 x_NoNumber:ExC K mg "NoNumber" Z.NoNumber
 x_NoText:ExC K mg "NoText" Z.NoText
 x_NoCommand:ExC K mg "NoCommand" Z.NoCommand
 b_ValueError:mg "ValueError"=none
 i_NoMany_own:W.excIn K Z.NoMany bmV "ValueError.__new__"=true
 i_NoMany_cl:W.findIn K (.ref Z.NoMany) "__class__"=some (some (.builtin "object.__class__"))
 i_NoMany_ob:W.mroIn K Z.NoMany (.type "object")=some true
 i_NoMany_be:W.mroIn K Z.NoMany (.type "BaseException")=some true
 i_NoMany_ga:W.findIn K (.ref Z.NoMany) "__getattribute__"=some (some (.builtin "BaseException.__getattribute__"))
 i_NoMany_gn:W.findIn K (.ref Z.NoMany) "__getattr__"=some none
 m_NoMany_CutError:W.exmOne K (.ref Z.NoMany) (.ref Z.CutError)=some true
 k_NoMany_NoMany:W.kitOne K (.ref Z.NoMany) (.ref Z.NoMany)=some true
 k_NoMany_ValueError:W.kitOne K (.ref Z.NoMany) (.type "ValueError")=some true
 k_NoMany_NoCommand:W.kitOne K (.ref Z.NoMany) (.ref Z.NoCommand)=some false
 k_NoMany_NoNumber:W.kitOne K (.ref Z.NoMany) (.ref Z.NoNumber)=some false
 k_NoMany_NoPlace:W.kitOne K (.ref Z.NoMany) (.ref Z.NoPlace)=some false
 k_NoMany_NoText:W.kitOne K (.ref Z.NoMany) (.ref Z.NoText)=some false
theorem ErrT.i_NoMany {K:W.Frag}{mg:Str->Option Value}{Z:Ecl}(Y:ErrT K mg Z):ExI K Z.NoMany:=⟨Y.i_NoMany_own,Y.i_NoMany_cl,Y.i_NoMany_ob,Y.i_NoMany_be,Y.i_NoMany_ga,Y.i_NoMany_gn⟩
theorem boot_ValueError:bootBuiltins "ValueError"=some (.type "ValueError"):=by decide +kernel
end K
namespace K
open PySem L2
def top (i:Nat):Stmt:=PySem.Challenge.pw_piecebounds_k37_no_such_many.main.body.getD i (.Pass ⟨0,0,0,0⟩)
end K
namespace K
open PySem L2
section
variable {C:Addr}{Z:Ecl}{P:Program}{w:World}{K:W.Frag}{mg:Str->Option Value}{base:Heap}{f:Addr}{fd:FuncData}
abbrev zqd:Stmt:=top 34
theorem zqz:FnScope ["script","draws","k","rest","stir","many"] ["script"] (defScope zqd):=⟨rfl,rfl,rfl,by decide +kernel,rfl,by decide +kernel,by decide +kernel⟩
theorem zq9b:Loc (defScope zqd) "draws":=Or.inl (by kernel_rfl)
theorem zqbt:Loc (defScope zqd) "k":=Or.inl (by kernel_rfl)
theorem zq6d:Loc (defScope zqd) "many":=Or.inl (by kernel_rfl)
theorem zq6e:Loc (defScope zqd) "rest":=Or.inl (by kernel_rfl)
theorem zq40:Loc (defScope zqd) "stir":=Or.inl (by kernel_rfl)
theorem zq1j:Vis (defScope zqd) "draws":=Or.inl (by kernel_rfl)
theorem zq5r:Vis (defScope zqd) "k":=Or.inl (by kernel_rfl)
theorem zq6f:Vis (defScope zqd) "many":=Or.inl (by kernel_rfl)
theorem zq1r:Vis (defScope zqd) "rest":=Or.inl (by kernel_rfl)
theorem zq57:Vis (defScope zqd) "script":=Or.inl (by kernel_rfl)
theorem zq11:Vis (defScope zqd) "stir":=Or.inl (by kernel_rfl)
theorem zqan:(defScope zqd).names.lookup ("abs":Str)=some NameKind.globalImplicit:=by kernel_rfl
theorem zqao:(defScope zqd).names.lookup ("len":Str)=some NameKind.globalImplicit:=by kernel_rfl
theorem zqap:(defScope zqd).names.lookup ("min":Str)=some NameKind.globalImplicit:=by kernel_rfl
theorem zq9c:(defScope zqd).names.lookup ("range":Str)=some NameKind.globalImplicit:=by kernel_rfl
def zqcr {cdv:Value}{A:Around}{outer:List Env}{s:Shared}{H:Hp}{E:XK}(B:Bl mg)(hr:Room 0 (A.deeper (PyProof.Rows.envOfC "_law_draws" (defScope zqd) s.heap.objs.size f cdv))) :
  { t:TS // QB (cxOf CX0 P w K mg base ["script","draws","k","rest","stir","many"] "_law_draws" (defScope zqd) f cdv A outer s H E).nox (defBody zqd) t } :=
 ⟨_,(qb_cons (qs_set (i:=1) zqz.nd rfl zq9b (.inl rfl) (qe_lst qa_nil))
  (qb_mid (qs_for PassesOwn.never rfl (qi_r1 zq9c B.range (qa_cons (qe_cB (kMin (K:=K) rfl rfl) zqap B.min boot_min' (qa_cons (qe_cB (kLen (K:=K) rfl) zqao B.len boot_len' (qa_cons (qv 0 rfl zq57) qa_nil)) (qa_cons qe_int qa_nil))) qa_nil)) (qg_name (i:=2) zqz.nd rfl zqbt (.inl rfl)) (qb_cons (qs_set (i:=3) zqz.nd rfl zq6e (.inl rfl) (qe_cB (callAbs) zqan B.abs boot_abs' (qa_cons (ke_ix (K:=K) rfl (qv 0 rfl zq57) (qv 2 rfl zq5r) (λ_ _=>rfl)) qa_nil)))
  (qb_one (qs_if (qt_cmp opLt (qv 3 rfl zq1r) (qe_op opPow qe_int qe_int)) (qb_cons (qs_set (i:=4) zqz.nd rfl zq40 (.inl rfl) (qe_op opMod (qe_op opMul (qe_op opMod (qe_op opAdd (qe_op opAdd (qv 3 rfl zq1r) (qe_op opMul qe_int (qv 2 rfl zq5r))) qe_int) qe_int) qe_int) qe_int))
  (qb_cons (qs_set (i:=4) zqz.nd rfl zq40 (.inl rfl) (qe_op opMod (qe_op opMul (qv 4 rfl zq11) (qv 4 rfl zq11)) qe_int))
  (qb_cons (qs_ex (ke_m1 (K:=K) rfl PySem.F.plainAttrs_list PySem.F.slot_list_append PySem.F.type_list_append mtApp (qv 1 rfl zq1j) (qe_op opMod (qe_op opFdiv (qv 4 rfl zq11) qe_int) qe_int)))
  (qb_cons (qs_ex (ke_m1 (K:=K) rfl PySem.F.plainAttrs_list PySem.F.slot_list_append PySem.F.type_list_append mtApp (qv 1 rfl zq1j) (qe_op opMod (qe_op opFdiv (qv 4 rfl zq11) qe_int) qe_int)))
  (qb_cons (qs_set (i:=4) zqz.nd rfl zq40 (.inl rfl) (qe_op opMod (qe_op opAdd (qv 4 rfl zq11) (qe_op opMul qe_int (qe_op opAdd (qv 2 rfl zq5r) qe_int))) qe_int))
  (qb_one (qs_ex (ke_m1 (K:=K) rfl PySem.F.plainAttrs_list PySem.F.slot_list_append PySem.F.type_list_append mtApp (qv 1 rfl zq1j) (qe_op opMod (qe_op opFdiv (qe_op opMod (qe_op opMul (qv 4 rfl zq11) (qv 4 rfl zq11)) qe_int) qe_int) qe_int))))))))) (qb_cons (qs_set (i:=5) zqz.nd rfl zq6d (.inl rfl) qe_int)
  (qb_one (qs_while PassesOwn.never (QW.pt (qw_and (qt_cmp opGe (qv 3 rfl zq1r) qe_int) (qw_and1 (qt_cmp opLt (qv 5 rfl zq6f) qe_int)))) (qb_cons (qs_ex (ke_m1 (K:=K) rfl PySem.F.plainAttrs_list PySem.F.slot_list_append PySem.F.type_list_append mtApp (qv 1 rfl zq1j) (qe_op opMod (qv 3 rfl zq1r) qe_int)))
  (qb_cons (qs_set (i:=3) zqz.nd rfl zq6e (.inl rfl) (qe_op opFdiv (qv 3 rfl zq1r) qe_int))
  (qb_one (qs_set (i:=5) zqz.nd rfl zq6d (.inl rfl) (qe_op opAdd (qv 5 rfl zq6f) qe_int))))))))))))
  (qb_one (qs_ret (ke_slice (K:=K) rfl (qv 1 rfl zq1j) qo_none (qo_some qe_int))))))⟩
abbrev zq16:Stmt:=top 35
theorem zqcs:FnScope ["draws","many"] ["draws","many"] (defScope zq16):=⟨rfl,rfl,rfl,by decide +kernel,rfl,by decide +kernel,by decide +kernel⟩
theorem zq6g:Vis (defScope zq16) "draws":=Or.inl (by kernel_rfl)
theorem zqaq:Vis (defScope zq16) "many":=Or.inl (by kernel_rfl)
def zqd8 {cdv:Value}{A:Around}{outer:List Env}{s:Shared}{H:Hp}{E:XK}(B:Bl mg)(hr:Room 0 (A.deeper (PyProof.Rows.envOfC "_law_take" (defScope zq16) s.heap.objs.size f cdv))) :
  { t:TS // QB (cxOf CX0 P w K mg base ["draws","many"] "_law_take" (defScope zq16) f cdv A outer s H E).nox (defBody zq16) t } :=
 ⟨_,(qb_cons (qs_if (qt_cmp (kEqG (K:=K) rfl hr) (qv 0 rfl zq6g) (qe_lst qa_nil)) (qb_one (qs_ret qe_int)) qb_nil)
  (qb_one (qs_ret (qe_op opMod (ke_m1 (K:=K) rfl PySem.F.plainAttrs_list PySem.F.slot_list_pop PySem.F.type_list_pop mtPopAt (qv 0 rfl zq6g) qe_int) (qv 1 rfl zqaq)))))⟩
theorem cutV_ints (ns:List Int)(lo hi:Option Int):cutV (ns.map V.int) lo hi=((ns.drop (HT.sIx ns.length 0 lo)).take (HT.sIx ns.length ns.length hi-HT.sIx ns.length 0 lo)).map V.int:=by
 unfold cutV
 rw[List.length_map,List.map_take,List.map_drop]
theorem mod_nn (x:Int){y:Int}(h:0<y):0<=x % y:=Int.emod_nonneg _ (by omega)
def MoreAt (H:Hp)(d:Addr)(n:Nat):Prop:=∃ ds:List Int,H d=some (.lst (ds.map V.int))/\(∀ x∈ds,0<=x)/\ds.length<=n
theorem more_app {H:Hp}{d:Addr}{n:Nat}{z:Int}{Q:VK}(h:MoreAt H d n)(hn:n<50000)(hz:0<=z)(q:∀ H',Kp [d] H H'->MoreAt H' d (n+1)->Q .non H'):hApp d (.int z) H Q:=by
 obtain⟨ds,e,h0,hl⟩:=h
 refine i_appI e (by omega) λH' k e'=>q H' k ⟨ds++[z],e',λx hx=>?_,by simp;omega⟩
 rcases List.mem_append.mp hx with hx | hx
 ·exact h0 x hx
 ·have:x=z:=by simpa using hx
  subst this;exact hz
theorem more_ty {K:W.Frag}{H:Hp}{d:Addr}{n:Nat}(h:MoreAt H d n):tyV K "list" (.ref d) H:=let ⟨_,e,_⟩:=h;i_tyL e
theorem MoreAt.le {H:Hp}{d:Addr}{n m:Nat}(h:MoreAt H d n)(l:n<=m):MoreAt H d m:=let ⟨ds,e,a,b⟩:=h;⟨ds,e,a,by omega⟩
theorem zqc9 (B:Bl mg)(F:Fun K "_law_draws" "_law_draws" zqd f fd):FnOk P w K mg base CX0 1 f fd ["script"] (zq4f K):=by
 refine F.okq zqz (λvs H Q E h=>?_) (λcdv A outer s H vs Q E hr h=>?_)
 ·obtain⟨a,ns,rfl,_⟩:=h;rfl
 obtain⟨a,ns,rfl,hS,h63,q⟩:=h
 refine⟨zqcr B  hr,?_⟩
 refine i_newL (by show 0<=sizeLine;decide) λd H1 hd s1 e1=>?_
 refine⟨λσ H'=>Same H H'/\MoreAt H' d 5000/\∃ o2 o3 o4 o5,σ=[some (.ref a),some (.ref d),o2,o3,o4,o5],?_,?_⟩
 ·refine i_len (.inl (s1.seq hS)) ?_
  rw[List.length_map]
  refine⟨⟨by omega,by omega⟩,for_range (λi σ H'=>Same H H'/\MoreAt H' d (60*i)/\∃ o2 o3 o4 o5,σ=[some (.ref a),some (.ref d),o2,o3,o4,o5]) ?_ ?_ ?_⟩
  ·exact⟨s1,⟨[],e1,by simp,by simp⟩,_,_,_,_,rfl⟩
  ·rintro i σ H2 hi ⟨s2,m2,o2,o3,o4,o5,rfl⟩
   have hi':i<ns.length:=by omega
   have hx:(ns.map V.int)[i]?=some (.int ns[i]):=by rw[List.getElem?_map,List.getElem?_eq_getElem hi'];rfl
   refine i_ix (.inl (s2.seq hS)) (v:=.int ns[i]) (by rw[show (0+(i:Int))=((i:Nat):Int) by omega];exact atI_nat hx) ?_
   have hab:0<=(if ns[i]<0 then -ns[i] else ns[i]):=by split<;>omega
   refine⟨⟨by decide,by decide,by decide⟩,dec2 (λc=>?_) (λc=>?_)⟩
   ·refine⟨.inl ⟨by decide,by decide⟩,by decide,.inr ⟨by decide,by decide⟩,by decide,?_⟩
    have b1:=Int.emod_lt_of_pos (((if ns[i]<0 then -ns[i] else ns[i])+7919*(0+(i:Int))+3) % 2147483647*48271) (show (0:Int)<2147483647 by decide)
    have b0:=mod_nn (((if ns[i]<0 then -ns[i] else ns[i])+7919*(0+(i:Int))+3) % 2147483647*48271) (show (0:Int)<2147483647 by decide)
    generalize ((if ns[i]<0 then -ns[i] else ns[i])+7919*(0+(i:Int))+3) % 2147483647*48271 % 2147483647=st at b1 b0
    refine⟨.inl ⟨by omega,by omega⟩,by decide,?_⟩
    have c1:=Int.emod_lt_of_pos (st*st) (show (0:Int)<2147483629 by decide)
    have c0:=mod_nn (st*st) (show (0:Int)<2147483629 by decide)
    generalize st*st % 2147483629=st at c1 c0
    refine⟨more_ty m2,⟨by decide,by decide⟩,by decide,more_app m2 (by omega) (mod_nn _ (by decide)) λH3 k3 m3=>?_⟩
    refine⟨more_ty m3,⟨by decide,by decide⟩,by decide,more_app m3 (by omega) (mod_nn _ (by decide)) λH4 k4 m4=>?_⟩
    refine⟨.inl ⟨by decide,by decide⟩,by decide,?_⟩
    have d1:=Int.emod_lt_of_pos (st+40692*(0+(i:Int)+7)) (show (0:Int)<2147483587 by decide)
    have d0:=mod_nn (st+40692*(0+(i:Int)+7)) (show (0:Int)<2147483587 by decide)
    generalize (st+40692*(0+(i:Int)+7)) % 2147483587=st at d1 d0
    refine⟨more_ty m4,.inl ⟨by omega,by omega⟩,by decide,⟨by decide,by decide⟩,by decide,more_app m4 (by omega) (mod_nn _ (by decide)) λH5 k5 m5=>?_⟩
    exact⟨((s2.new k3 hd).new k4 hd).new k5 hd,m5.le (by omega),_,_,_,_,rfl⟩
   ·refine while_m (λmm σ H'=>Same H H'/\∃ (rest:Int) (many:Nat),0<=rest/\many<=60/\mm=60-many/\MoreAt H' d (60*i+many)/\σ=[some (.ref a),some (.ref d),some (.int (0+(i:Int))),some (.int rest),o4,some (.int many)]) 60 ⟨s2,(if ns[i]<0 then -ns[i] else ns[i]),0,hab,by omega,rfl,m2,rfl⟩ ?_
    rintro mm σ H3 ⟨s3,rest,many,hr0,hm60,hmm,m3,rfl⟩
    refine dec2 (λc1=>dec2 (λc2=>?_) (λc2=>?_)) (λc1=>bF ?_)
    ·refine⟨more_ty m3,by decide,more_app m3 (by omega) (mod_nn _ (by decide)) λH4 k4 m4=>?_⟩
     refine⟨⟨by decide,by decide⟩,?_⟩
     refine⟨60-(many+1),by omega,s3.new k4 hd,rest / 1000,many+1,by omega,by omega,rfl,m4,rfl⟩
    ·exact⟨s3,m3.le (by omega),_,_,_,_,rfl⟩
    ·exact⟨s3,m3.le (by omega),_,_,_,_,rfl⟩
  ·rintro σ H' ⟨h1,h2,o⟩
   refine⟨h1,h2.le ?_,o⟩
   omega
 ·rintro σ H' ⟨s',⟨ds,e,h0,hl⟩,o2,o3,o4,o5,rfl⟩
  refine i_sl (SqL.of e) λp H2 hp s2 e2=>?_
  rw[cutV_ints] at e2
  refine q p H2 (s'.free hp) (s'.trans s2) ⟨_,e2,λx hx=>h0 x (List.mem_of_mem_drop (List.mem_of_mem_take hx)),?_⟩
  have e240:HT.sIx ds.length ds.length (some 240)=min 240 ds.length:=HT.sIx_nat ..
  rw[List.length_take,e240];omega
theorem zqct (B:Bl mg)(F:Fun K "_law_take" "_law_take" zq16 f fd):FnOk P w K mg base CX0 1 f fd ["draws","many"] zq15:=by
 refine F.okq zqcs (λvs H Q E h=>?_) (λcdv A outer s H vs Q E hr h=>?_)
 ·obtain⟨d,lim,rfl,_⟩:=h;rfl
 obtain⟨d,lim,rfl,⟨ds,e,h0,hl⟩,l0,q⟩:=h
 refine⟨zqd8 B  hr,?_⟩
 refine i_newL (by show 0<=sizeLine;decide) λp H1 hp s1 e1=>?_
 refine i_eqI (ns:=ds) (ms:=[]) (SqL.of (s1 _ _ e)) (SqL.of e1) (dec2 (λc=>?_) (λc=>?_))
 ·exact q 0 H1 (by omega) l0 ⟨ds,s1 _ _ e,h0,hl⟩ s1.kp
 ·cases ds with
  | nil=>exact absurd rfl c
  | cons x ds =>
  refine⟨i_tyL (s1 _ _ e),i_popAt 0 (s1 _ _ e) rfl (by decide) rfl λH2 k2 e2=>⟨l0,?_⟩⟩
  refine q _ H2 (mod_nn _ l0) (Int.emod_lt_of_pos _ l0) ⟨ds,e2,λy hy=>h0 y (List.mem_cons_of_mem _ hy),by simp at hl;omega⟩ (s1.kp.trans k2)
abbrev zq0:Stmt:=top 36
theorem zqr:FnScope ["draws","most","many","bases","base","mixed","one","other","third","free","likes","found","k","at","turn","number","shape"] ["draws","most"] (defScope zq0):=⟨rfl,rfl,rfl,by decide +kernel,rfl,by decide +kernel,by decide +kernel⟩
theorem zqca:Loc (defScope zq0) "at":=Or.inl (by kernel_rfl)
theorem zq7g:Loc (defScope zq0) "base":=Or.inl (by kernel_rfl)
theorem zqar:Loc (defScope zq0) "bases":=Or.inl (by kernel_rfl)
theorem zqas:Loc (defScope zq0) "found":=Or.inr (by kernel_rfl)
theorem zqbi:Loc (defScope zq0) "free":=Or.inl (by kernel_rfl)
theorem zqcu:Loc (defScope zq0) "k":=Or.inl (by kernel_rfl)
theorem zqat:Loc (defScope zq0) "likes":=Or.inl (by kernel_rfl)
theorem zq7h:Loc (defScope zq0) "many":=Or.inl (by kernel_rfl)
theorem zqau:Loc (defScope zq0) "mixed":=Or.inl (by kernel_rfl)
theorem zq9y:Loc (defScope zq0) "number":=Or.inl (by kernel_rfl)
theorem zqbu:Loc (defScope zq0) "one":=Or.inl (by kernel_rfl)
theorem zqav:Loc (defScope zq0) "other":=Or.inl (by kernel_rfl)
theorem zqaw:Loc (defScope zq0) "shape":=Or.inl (by kernel_rfl)
theorem zqax:Loc (defScope zq0) "third":=Or.inl (by kernel_rfl)
theorem zq7i:Loc (defScope zq0) "turn":=Or.inl (by kernel_rfl)
theorem zq2d:Vis (defScope zq0) "at":=Or.inl (by kernel_rfl)
theorem zq3b:Vis (defScope zq0) "base":=Or.inl (by kernel_rfl)
theorem zq70:Vis (defScope zq0) "bases":=Or.inl (by kernel_rfl)
theorem zqk:Vis (defScope zq0) "draws":=Or.inl (by kernel_rfl)
theorem zq20:Vis (defScope zq0) "found":=Or.inr (Or.inl (by kernel_rfl))
theorem zqbj:Vis (defScope zq0) "free":=Or.inl (by kernel_rfl)
theorem zqcv:Vis (defScope zq0) "k":=Or.inl (by kernel_rfl)
theorem zqay:Vis (defScope zq0) "likes":=Or.inl (by kernel_rfl)
theorem zq7j:Vis (defScope zq0) "many":=Or.inl (by kernel_rfl)
theorem zqaz:Vis (defScope zq0) "mixed":=Or.inl (by kernel_rfl)
theorem zq4z:Vis (defScope zq0) "most":=Or.inl (by kernel_rfl)
theorem zq9z:Vis (defScope zq0) "number":=Or.inl (by kernel_rfl)
theorem zqbv:Vis (defScope zq0) "one":=Or.inl (by kernel_rfl)
theorem zqb0:Vis (defScope zq0) "other":=Or.inl (by kernel_rfl)
theorem zq4g:Vis (defScope zq0) "shape":=Or.inl (by kernel_rfl)
theorem zqb1:Vis (defScope zq0) "third":=Or.inl (by kernel_rfl)
theorem zq2e:Vis (defScope zq0) "turn":=Or.inl (by kernel_rfl)
theorem zqb:(defScope zq0).names.lookup ("_law_take":Str)=some NameKind.globalImplicit:=by kernel_rfl
theorem zq8d:(defScope zq0).names.lookup ("int":Str)=some NameKind.globalImplicit:=by kernel_rfl
theorem zqbw:(defScope zq0).names.lookup ("len":Str)=some NameKind.globalImplicit:=by kernel_rfl
theorem zqbx:(defScope zq0).names.lookup ("min":Str)=some NameKind.globalImplicit:=by kernel_rfl
theorem zqb2:(defScope zq0).names.lookup ("range":Str)=some NameKind.globalImplicit:=by kernel_rfl
theorem zq6h:(defScope zq0).names.lookup ("sorted":Str)=some NameKind.globalImplicit:=by kernel_rfl
def zqdn {cdv:Value}{A:Around}{outer:List Env}{s:Shared}{H:Hp}{E:XK}(B:Bl mg)(zq1:Def P w K mg base 1 "_law_take" ["draws","many"] zq15)(hr:Room 1 (A.deeper (PyProof.Rows.envOfC "_law_row" (defScope zq0) s.heap.objs.size f cdv))) :
  { t:TS // QB (cxOf CX0 P w K mg base ["draws","most","many","bases","base","mixed","one","other","third","free","likes","found","k","at","turn","number","shape"] "_law_row" (defScope zq0) f cdv A outer s H E).nox (defBody zq0) t } :=
 ⟨_,(qb_cons (qs_set (i:=2) zqr.nd rfl zq7h (.inl rfl) (qe_cB (kMin (K:=K) rfl rfl) zqbx B.min boot_min' (qa_cons (qv 1 rfl zq4z) (qa_cons (qe_op opAdd qe_int (qe_def zq1 hr (by decide) zqb (qa_cons (qv 0 rfl zqk) (qa_cons qe_int qa_nil)))) qa_nil))))
  (qb_mid (qs_if (qt_cmp (kEqG (K:=K) rfl hr) (qe_def zq1 hr (by decide) zqb (qa_cons (qv 0 rfl zqk) (qa_cons qe_int qa_nil))) qe_int) (qb_one (qs_set (i:=2) zqr.nd rfl zq7h (.inl rfl) (ke_ix (K:=K) rfl (qe_lst (qa_cons (qv 1 rfl zq4z) (qa_cons (qe_op opAdd qe_int (qe_def zq1 hr (by decide) zqb (qa_cons (qv 0 rfl zqk) (qa_cons (qv 1 rfl zq4z) qa_nil)))) qa_nil))) (qe_def zq1 hr (by decide) zqb (qa_cons (qv 0 rfl zqk) (qa_cons qe_int qa_nil))) (λ_ _=>rfl)))) qb_nil)
  (qb_cons (qs_set (i:=3) zqr.nd rfl zqar (.inl rfl) (qe_lst (qa_cons qe_int (qa_cons qe_int (qa_cons qe_int (qa_cons qe_int (qa_cons qe_int (qa_cons (qe_op opPow qe_int qe_int) (qa_cons (qe_op opPow qe_int qe_int) (qa_cons (qe_op opAdd (qe_op opPow qe_int qe_int) qe_int) qa_nil))))))))))
  (qb_cons (qs_set (i:=4) zqr.nd rfl zq7g (.inl rfl) (ke_ix (K:=K) rfl (qv 3 rfl zq70) (qe_def zq1 hr (by decide) zqb (qa_cons (qv 0 rfl zqk) (qa_cons qe_int qa_nil))) (λ_ _=>rfl)))
  (qb_cons (qs_set (i:=5) zqr.nd rfl zqau (.inl rfl) (qe_cmp (kEqG (K:=K) rfl hr) (qe_def zq1 hr (by decide) zqb (qa_cons (qv 0 rfl zqk) (qa_cons qe_int qa_nil))) qe_int))
  (qb_cons (qs_set (i:=6) zqr.nd rfl zqbu (.inl rfl) (qe_def zq1 hr (by decide) zqb (qa_cons (qv 0 rfl zqk) (qa_cons qe_int qa_nil))))
  (qb_cons (qs_set (i:=7) zqr.nd rfl zqav (.inl rfl) (qe_op opAdd qe_int (qe_def zq1 hr (by decide) zqb (qa_cons (qv 0 rfl zqk) (qa_cons qe_int qa_nil)))))
  (qb_cons (qs_set (i:=8) zqr.nd rfl zqax (.inl rfl) (qe_def zq1 hr (by decide) zqb (qa_cons (qv 0 rfl zqk) (qa_cons qe_int qa_nil))))
  (qb_cons (qs_set (i:=9) zqr.nd rfl zqbi (.inl rfl) (qe_cmp (kEqG (K:=K) rfl hr) (qe_def zq1 hr (by decide) zqb (qa_cons (qv 0 rfl zqk) (qa_cons qe_int qa_nil))) qe_int))
  (qb_cons (qs_set (i:=10) zqr.nd rfl zqat (.inl rfl) (ke_ix (K:=K) rfl (qe_lst (qa_cons qe_int (qa_cons qe_int (qa_cons (qe_op opAdd qe_int (qe_def zq1 hr (by decide) zqb (qa_cons (qv 0 rfl zqk) (qa_cons qe_int qa_nil)))) qa_nil)))) (qe_def zq1 hr (by decide) zqb (qa_cons (qv 0 rfl zqk) (qa_cons qe_int qa_nil))) (λ_ _=>rfl)))
  (qb_cons (qs_set (i:=11) zqr.nd rfl zqas (.inl rfl) (qe_lst qa_nil))
  (qb_mid (qs_for PassesOwn.never rfl (qi_r1 zqb2 B.range (qa_cons (qv 2 rfl zq7j) qa_nil)) (qg_name (i:=12) zqr.nd rfl zqcu (.inl rfl)) (qb_cons (qs_set (i:=13) zqr.nd rfl zqca (.inl rfl) (qe_op opFdiv (qv 12 rfl zqcv) (qv 10 rfl zqay)))
  (qb_cons (qs_set (i:=14) zqr.nd rfl zq7i (.inl rfl) (qe_op opMod (qe_op opAdd (qe_op opAdd (qe_op opAdd (qe_op opMul (qe_op opMul (qv 13 rfl zq2d) (qv 13 rfl zq2d)) (qv 6 rfl zqbv)) (qe_op opMul (qv 13 rfl zq2d) (qv 7 rfl zqb0))) (qe_op opMul (qe_op opFdiv (qv 13 rfl zq2d) qe_int) qe_int)) (qv 8 rfl zqb1)) qe_int))
  (qb_mid (qs_if (kt_val (K:=K) rfl (qv 5 rfl zqaz)) (qb_one (qs_set (i:=4) zqr.nd rfl zq7g (.inl rfl) (ke_ix (K:=K) rfl (qv 3 rfl zq70) (qe_op opMod (qe_op opAdd (qv 14 rfl zq2e) (qe_op opMul (qv 13 rfl zq2d) (qv 13 rfl zq2d))) qe_int) (λ_ _=>rfl)))) qb_nil)
  (qb_mid (qs_if (QW.pt (qw_or (qt_cmp opLt (qv 2 rfl zq7j) qe_int) (qw_or1 (QW.pt (qw_and (kt_val (K:=K) rfl (qv 9 rfl zqbj)) (qw_and1 (qt_cmp opGt (qe_cB (kLen (K:=K) rfl) zqbw B.len boot_len' (qa_cons (qv 0 rfl zqk) qa_nil)) qe_int))))))) (qb_one (qs_set (i:=14) zqr.nd rfl zq7i (.inl rfl) (qe_def zq1 hr (by decide) zqb (qa_cons (qv 0 rfl zqk) (qa_cons qe_int qa_nil))))) qb_nil)
  (qb_cons (qs_set (i:=15) zqr.nd rfl zq9y (.inl rfl) (ke_ix (K:=K) rfl (qe_lst (qa_cons (qe_op opMod (qv 14 rfl zq2e) (qv 4 rfl zq3b)) (qa_cons (qe_op opAdd (qe_op opMul (qv 14 rfl zq2e) (qe_op opFdiv (qv 4 rfl zq3b) qe_int)) (qe_op opMod (qv 14 rfl zq2e) qe_int)) qa_nil))) (qe_cT callInt zq8d B.int boot_int (qa_cons (qe_cmp opGt (qv 4 rfl zq3b) qe_int) qa_nil)) (λ_ _=>rfl)))
  (qb_one (qs_ex (ke_m1 (K:=K) rfl PySem.F.plainAttrs_list PySem.F.slot_list_append PySem.F.type_list_append mtApp (qv 11 rfl zq20) (ke_ix (K:=K) rfl (qe_lst (qa_cons (qv 15 rfl zq9z) (qa_cons (qe_op opPow qe_int qe_int) qa_nil))) (qe_cT callInt zq8d B.int boot_int (qa_cons (ke_and (K:=K) rfl (qe_cmp opGt (qv 4 rfl zq3b) (qe_op opPow qe_int qe_int)) (qe_one (qe_cmp (kEqG (K:=K) rfl hr) (qe_op opMod (qv 14 rfl zq2e) qe_int) qe_int))) qa_nil)) (λ_ _=>rfl)))))))))))
  (qb_cons (qs_set (i:=16) zqr.nd rfl zqaw (.inl rfl) (qe_def zq1 hr (by decide) zqb (qa_cons (qv 0 rfl zqk) (qa_cons qe_int qa_nil))))
  (qb_cons (qs_if (qt_cmp (kEqG (K:=K) rfl hr) (qv 16 rfl zq4g) qe_int) (qb_one (qs_ret (qe_cB (kSorted (K:=K) rfl) zq6h B.sorted boot_sorted' (qa_cons (qv 11 rfl zq20) qa_nil)))) qb_nil)
  (qb_cons (qs_if (qt_cmp (kEqG (K:=K) rfl hr) (qv 16 rfl zq4g) qe_int) (qb_one (qs_ret (qe_rev (K:=K) rfl (qe_cB (kSorted (K:=K) rfl) zq6h B.sorted boot_sorted' (qa_cons (qv 11 rfl zq20) qa_nil)) (qo_some (qe_un unNeg qe_int))))) qb_nil)
  (qb_cons (qs_if (qt_cmp (kEqG (K:=K) rfl hr) (qv 16 rfl zq4g) qe_int) (qb_one (qs_ret (qe_cp ["number","found"] [none,some 11] rfl (ki_list (K:=K) rfl (qv 11 rfl zq20)) (λ_ _ _ _ _ _=>(qg_name (i:=0) (show (["number","found"]:List Str).Nodup by decide +kernel) rfl (by first | exact Or.inl rfl | exact Or.inr rfl) (by first | exact .inl rfl | exact .inr rfl))) (λ_ _ _ _ _ _=>qif_nil) (λ_ _ _ _ _ _=>(ke_ix (K:=K) rfl (qe_lst (qa_cons qe_int (qa_cons (qv 0 rfl (by first | exact Or.inl rfl | exact Or.inr (Or.inl rfl) | exact Or.inr (Or.inr rfl))) qa_nil))) (qe_cT callInt rfl B.int boot_int (qa_cons (qe_cmp (kEqG (K:=K) rfl hr) (qv 0 rfl (by first | exact Or.inl rfl | exact Or.inr (Or.inl rfl) | exact Or.inr (Or.inr rfl))) (qe_cB (kMax (K:=K) rfl rfl) rfl B.max boot_max' (qa_cons (qv 1 rfl (by first | exact Or.inl rfl | exact Or.inr (Or.inl rfl) | exact Or.inr (Or.inr rfl))) qa_nil))) qa_nil)) (λ_ _=>rfl)))))) qb_nil)
  (qb_one (qs_ret (qv 11 rfl zq20)))))))))))))))))))⟩
theorem atInts {ns:List Int}{g:Int}(h0:0<=g)(h1:g<ns.length):ns.getD g.toNat 0∈ns:=by
 have hk:g.toNat<ns.length:=by omega
 rw[List.getD_eq_getElem?_getD,List.getElem?_eq_getElem hk]
 exact List.getElem_mem hk
theorem at2 {x y:V}{g:Int}(h0:0<=g)(h1:g<2):atI [x,y] g=some (if g=0 then x else y):=by
 have:g=0\/g=1:=by omega
 rcases this with rfl | rfl<;>rfl
theorem at3 {x y z:V}{g:Int}(h0:0<=g)(h1:g<3):atI [x,y,z] g=some (if g=0 then x else if g=1 then y else z):=by
 have:g=0\/g=1\/g=2:=by omega
 rcases this with rfl | rfl | rfl<;>rfl
def bsL:List Int:=[1,2,3,10,100,10 ^ Int.toNat 5,10 ^ Int.toNat 9,10 ^ Int.toNat 12+1]
theorem bsL_ok:∀ z∈bsL,1<=z/\z<=1000000000001:=by decide
theorem bsL_at {g:Int}(h0:0<=g)(h1:g<8):1<=bsL.getD g.toNat 0/\bsL.getD g.toNat 0<=1000000000001:=bsL_ok _ (atInts h0 h1)
theorem num_ok {turn base:Int}(t0:0<=turn)(t1:turn<9973)(b0:1<=base)(b1:base<=1000000000001):(0<=turn % base/\(¬ 1000<base->turn % base<=1000))/\0<=turn*(base / 9973)+turn % 7/\turn*(base / 9973)+turn % 7<=1000000000000:=by
 have q0:0<=base / 9973:=by omega
 have q1:base / 9973<=100270731:=by omega
 have m0:0<=turn*(base / 9973):=Int.mul_nonneg t0 q0
 have m1:turn*(base / 9973)<=9972*100270731:=Int.mul_le_mul (by omega) q1 q0 (by decide)
 have h7:0<=turn % 7/\turn % 7<7:=by omega
 have e1:=Int.emod_nonneg turn (show base≠0 by omega)
 have e2:=Int.emod_lt_of_pos turn (show 0<base by omega)
 refine⟨⟨e1,λh=>by omega⟩,by omega,by omega⟩
theorem zqd9 (B:Bl mg)(zq1:Def P w K mg base 1 "_law_take" ["draws","many"] zq15)(F:Fun K "_law_row" "_law_row" zq0 f fd):FnOk P w K mg base CX0 2 f fd ["draws","most"] zq66:=by
 refine F.okq zqr (λvs H Q E h=>?_) (λcdv A outer s H vs Q E hr h=>?_)
 ·obtain⟨d,most,rfl,_⟩:=h;rfl
 obtain⟨d,most,rfl,hd,m1,m2,q⟩:=h
 refine⟨zqdn B zq1 hr,?_⟩
 refine⟨d,12,rfl,hd,by decide,λg1 H1 g10 g11 hd1 k1=>?_⟩
 refine⟨λσ H'=>∃ many:Int,1<=many/\many<=most/\DrawsAt H' d/\Kp [d] H H'/\σ=[some (.ref d),some (.int most),some (.int many),none,none,none,none,none,none,none,none,none,none,none,none,none,none],?_,?_⟩
 ·refine⟨d,8,rfl,hd1,by decide,λg2 H2 g20 g21 hd2 k2=>dec2 (λc=>?_) (λc=>?_)⟩
  ·refine⟨d,most,rfl,hd2,by omega,λg3 H3 g30 g31 hd3 k3=>?_⟩
   refine i_newL (by show 2<=sizeLine;decide) λp4 H4 hp4 s4 e4=>?_
   refine⟨d,2,rfl,hd3.same s4,by decide,λg5 H5 g50 g51 hd5 k5=>?_⟩
   have n4:p4≠d:=(hd3.ne hp4).symm
   refine i_ix (.inl (SqL.of (k5.one n4 e4))) (at2 g50 g51) ?_
   refine⟨if g5=0 then most else 1+g3,by split<;>omega,by split<;>omega,hd5,((k1.trans k2).trans k3).trans (s4.kp.trans k5),?_⟩
   by_cases z:g5=0
   ·rw[if_pos z,if_pos z];rfl
   ·rw[if_neg z,if_neg z];rfl
  ·exact⟨min most (1+g1),by omega,by omega,hd2,k1.trans k2,rfl⟩
 rintro σ H2 ⟨many,mn1,mn2,hd2,k2,rfl⟩
 refine⟨⟨by decide,by decide,by decide⟩,⟨by decide,by decide,by decide⟩,⟨by decide,by decide,by decide⟩,?_⟩
 refine i_newL (by show 8<=sizeLine;decide) λbs H3 hbs s3 e3=>?_
 have nbs:bs≠d:=(hd2.ne hbs).symm
 have e3':H3 bs=some (.lst (bsL.map V.int)):=e3
 refine⟨d,8,rfl,hd2.same s3,by decide,λg4 H4 g40 g41 hd4 k4=>?_⟩
 refine i_ixI (k4.one nbs e3') g40 g41 ?_
 have bb0:=bsL_at g40 g41
 generalize hb0:bsL.getD g4.toNat 0=b0 at bb0
 have k34:Kp [d] H H4:=(k2.same s3).trans k4
 have eb4:=k4.one nbs e3'
 refine⟨d,4,rfl,hd4,by decide,λg5 H5 g50 g51 hd5 k5=>?_⟩
 refine⟨d,1000,rfl,hd5,by decide,λone H6 on0 on1 hd6 k6=>?_⟩
 refine⟨d,1000,rfl,hd6,by decide,λot H7 ot0 ot1 hd7 k7=>?_⟩
 refine⟨d,1000,rfl,hd7,by decide,λth H8 th0 th1 hd8 k8=>?_⟩
 refine⟨d,3,rfl,hd8,by decide,λfr H9 fr0 fr1 hd9 k9=>?_⟩
 refine⟨d,20,rfl,hd9,by decide,λlk H10 lk0 lk1 hd10 k10=>?_⟩
 refine i_newL (by show 3<=sizeLine;decide) λp11 H11 hp11 s11 e11=>?_
 refine⟨d,3,rfl,hd10.same s11,by decide,λg12 H12 g120 g121 hd12 k12=>?_⟩
 have n11:p11≠d:=(hd10.ne hp11).symm
 have hlk:∃ l:Int,(if g12=0 then V.int 1 else if g12=1 then V.int 1 else V.int (1+lk))=V.int l/\1<=l/\l<=20:=by
  by_cases z:g12=0
  ·exact⟨1,by rw[if_pos z],by decide,by decide⟩
  ·by_cases z1:g12=1
   ·exact⟨1,by rw[if_neg z,if_pos z1],by decide,by decide⟩
   ·exact⟨1+lk,by rw[if_neg z,if_neg z1],by omega,by omega⟩
 obtain⟨likes,el,l0,l1⟩:=hlk
 refine i_ix (.inl (SqL.of (k12.one n11 e11))) ((at3 g120 g121).trans (congrArg some el)) ?_
 have kA:Kp [d] H4 H10:=((((k5.trans k6).trans k7).trans k8).trans k9).trans k10
 have kB:Kp [d] H4 H12:=(kA.same s11).trans k12
 have k12':Kp [d] H H12:=k34.trans kB
 have eb12:=kB.one nbs eb4
 generalize hmx:decide (g5=1)=mixed
 generalize hfr:decide (fr=1)=free
 refine i_newL (by show 0<=sizeLine;decide) λfo H13 hfo s13 e13=>?_
 have nfo:fo≠d:=(hd12.ne hfo).symm
 have nfb:bs≠fo:=ne_of_none eb12 hfo
 have hfo0:H fo=none:=k12'.free (by simpa using nfo) hfo
 refine⟨λσ H'=>∃ (base:Int) (ns:List Int) (o12 o13 o14 o15:Option V),(ns.length:Int)=many/\(∀ z∈ns,0<=z/\z<=1000000000000)/\DrawsAt H' d/\Kp [d] H H'/\H' fo=some (.lst (ns.map V.int))/\σ=[some (.ref d),some (.int most),some (.int many),some (.ref bs),some (.int base),some (.bl mixed),some (.int one),some (.int (1+ot)),some (.int th),some (.bl free),some (.int likes),some (.ref fo),o12,o13,o14,o15,none],?_,?_⟩
 ·refine⟨⟨by omega,by omega⟩,for_range (λi σ H'=>∃ (base:Int) (ns:List Int) (o12 o13 o14 o15:Option V),1<=base/\base<=1000000000001/\ns.length=i/\(∀ z∈ns,0<=z/\z<=1000000000000)/\DrawsAt H' d/\Kp [d] H H'/\H' bs=some (.lst (bsL.map V.int))/\H' fo=some (.lst (ns.map V.int))/\σ=[some (.ref d),some (.int most),some (.int many),some (.ref bs),some (.int base),some (.bl mixed),some (.int one),some (.int (1+ot)),some (.int th),some (.bl free),some (.int likes),some (.ref fo),o12,o13,o14,o15,none]) ?_ ?_ ?_⟩
  ·exact⟨b0,[],_,_,_,_,bb0.1,bb0.2,rfl,by simp,hd12.same s13,k12'.same s13,s13 _ _ eb12,e13,by first | rfl | (subst hmx;subst hfr;rfl) | (subst hmx;subst hfr;subst hb0;rfl)⟩
  ·rintro i σ H14 hi ⟨base,ns,o12,o13,o14,o15,ba0,ba1,hl,hz,hd14,k14,eb14,ef14,rfl⟩
   have hi':(i:Int)<many:=by omega
   refine⟨⟨by omega,by omega⟩,?_⟩
   have at0:0<=(0+(i:Int)) / likes:=Int.ediv_nonneg (by omega) (by omega)
   have at1:(0+(i:Int)) / likes<=120:=by
    have:=Int.ediv_le_self likes (show 0<=(0+(i:Int)) by omega)
    omega
   generalize (0+(i:Int)) / likes=at_ at at0 at1
   refine⟨.inl ⟨by omega,by omega⟩,.inr ⟨by omega,by omega⟩,.inl ⟨by omega,by omega⟩,⟨by decide,by decide⟩,.inr ⟨by decide,by decide⟩,by decide,?_⟩
   have tn1:=Int.emod_lt_of_pos (at_*at_*one+at_*(1+ot)+at_ / 7*31+th) (show (0:Int)<9973 by decide)
   have tn0:=Int.emod_nonneg (at_*at_*one+at_*(1+ot)+at_ / 7*31+th) (show (9973:Int)≠0 by decide)
   generalize (at_*at_*one+at_*(1+ot)+at_ / 7*31+th) % 9973=turn at tn1 tn0
   refine⟨λσ H'=>∃ base:Int,1<=base/\base<=1000000000001/\H'=H14/\σ=[some (.ref d),some (.int most),some (.int many),some (.ref bs),some (.int base),some (.bl mixed),some (.int one),some (.int (1+ot)),some (.int th),some (.bl free),some (.int likes),some (.ref fo),some (.int (0+(i:Int))),some (.int at_),some (.int turn),o15,none],?_,?_⟩
   ·refine b2 (λc=>?_) (λc=>?_)
    ·refine⟨.inl ⟨by omega,by omega⟩,by decide,?_⟩
     have x0:=Int.emod_nonneg (turn+at_*at_) (show (8:Int)≠0 by decide)
     have x1:=Int.emod_lt_of_pos (turn+at_*at_) (show (0:Int)<8 by decide)
     have:=bsL_at x0 x1
     exact i_ixI eb14 x0 x1 ⟨_,this.1,this.2,rfl,rfl⟩
    ·exact⟨base,ba0,ba1,rfl,rfl⟩
   rintro σ H' ⟨base,ba0,ba1,rfl,rfl⟩
   refine⟨λσ H15=>∃ turn:Int,0<=turn/\turn<9973/\DrawsAt H15 d/\Kp [d] H' H15/\σ=[some (.ref d),some (.int most),some (.int many),some (.ref bs),some (.int base),some (.bl mixed),some (.int one),some (.int (1+ot)),some (.int th),some (.bl free),some (.int likes),some (.ref fo),some (.int (0+(i:Int))),some (.int at_),some (.int turn),o15,none],?_,?_⟩
   ·have tk:∀ (D:Ends) (σ:St),True:=λ_ _=>trivial
    refine dec2 (λc=>bT ?_) (λc=>b2 (λc1=>?_) (λc1=>bF ?_))
    ·exact⟨d,1000,rfl,hd14,by decide,λg H15 g0 g1 hd15 k15=>⟨g,g0,by omega,hd15,k15,rfl⟩⟩
    ·obtain⟨ds,ed,hd0,hdl⟩:=hd14
     refine i_lenI ed (dec2 (λc2=>?_) (λc2=>?_))
     ·exact⟨d,1000,rfl,⟨ds,ed,hd0,hdl⟩,by decide,λg H15 g0 g1 hd15 k15=>⟨g,g0,by omega,hd15,k15,rfl⟩⟩
     ·exact⟨turn,tn0,tn1,⟨ds,ed,hd0,hdl⟩,Kp.refl _ _,rfl⟩
    ·exact⟨turn,tn0,tn1,hd14,Kp.refl _ _,rfl⟩
   rintro σ H15 ⟨turn,tn0,tn1,hd15,k15,rfl⟩
   obtain⟨⟨na,nb⟩,nc,nd⟩:=num_ok tn0 tn1 ba0 ba1
   refine⟨by omega,⟨by decide,by decide⟩,.inl ⟨by omega,by omega⟩,by decide,?_⟩
   refine i_newL (by show 2<=sizeLine;decide) λp16 H16 hp16 s16 e16=>?_
   have hnum:∃ number:Int,atI [V.int (turn % base),V.int (turn*(base / 9973)+turn % 7)] (if decide (1000<base)=true then 1 else 0)=some (.int number)/\0<=number/\number<=1000000000000:=by
    by_cases z:1000<base
    ·exact⟨_,by rw[decide_eq_true z,if_pos rfl];rfl,nc,nd⟩
    ·exact⟨_,by rw[decide_eq_false z,if_neg (by decide)];rfl,na,by have:=nb z;omega⟩
   obtain⟨number,enu,nu0,nu1⟩:=hnum
   refine i_ix (.inl (SqL.of e16)) enu ?_
   have hp16':=hp16
   have ef16:=s16 _ _ (k15.one nfo ef14)
   have eb16:=s16 _ _ (k15.one nbs eb14)
   have kk16:Kp [d] H H16:=(k14.trans k15).same s16
   refine⟨i_tyL ef16,⟨by decide,by decide,by decide⟩,?_⟩
   refine i_newL (by show 2<=sizeLine;decide) λp17 H17 hp17 s17 e17=>?_
   have pick:∀ bb:Bool,∃ z:Int,atI [V.int number,V.int (10 ^ Int.toNat 12)] (if bb=true then 1 else 0)=some (.int z)/\0<=z/\z<=1000000000000:=λbb=>by
    cases bb
    ·exact⟨number,rfl,nu0,nu1⟩
    ·exact⟨10 ^ Int.toNat 12,rfl,by decide,by decide⟩
   have put:∀ (bb:Bool) (Q':VK),(∀ (z:Int) (H':Hp),0<=z->z<=1000000000000->Kp [fo] H17 H'->H' fo=some (.lst ((ns++[z]).map V.int))->Q' .non H')->hIx K p17 (if bb=true then 1 else 0) H17 (λy H1=>hApp fo y H1 Q'):=λbb Q' hq=>by
    obtain⟨z,ez,z0,z1⟩:=pick bb
    exact i_ix (.inl (SqL.of e17)) ez (i_appI (s17 _ _ ef16) (by omega) λH18 k18 e18=>hq z H18 z0 z1 k18 e18)
   have fin:∀ (z:Int) (H18:Hp),0<=z->z<=1000000000000->Kp [fo] H17 H18->H18 fo=some (.lst ((ns++[z]).map V.int))->∀ σ:St,σ=[some (.ref d),some (.int most),some (.int many),some (.ref bs),some (.int base),some (.bl mixed),some (.int one),some (.int (1+ot)),some (.int th),some (.bl free),some (.int likes),some (.ref fo),some (.int (0+(i:Int))),some (.int at_),some (.int turn),some (.int number),none]->∃ (base:Int) (ns':List Int) (o12 o13 o14 o15:Option V),1<=base/\base<=1000000000001/\ns'.length=i+1/\(∀ z∈ns',0<=z/\z<=1000000000000)/\DrawsAt H18 d/\Kp [d] H H18/\H18 bs=some (.lst (bsL.map V.int))/\H18 fo=some (.lst (ns'.map V.int))/\σ=[some (.ref d),some (.int most),some (.int many),some (.ref bs),some (.int base),some (.bl mixed),some (.int one),some (.int (1+ot)),some (.int th),some (.bl free),some (.int likes),some (.ref fo),o12,o13,o14,o15,none]:=λz H18 z0 z1 k18 e18 σ hσ =>
    ⟨base,ns++[z],_,_,_,_,ba0,ba1,by simp[hl],λy hy=>by
     rcases List.mem_append.mp hy with hy | hy
     ·exact hz y hy
     ·have:y=z:=by simpa using hy
      subst this;exact⟨z0,z1⟩,((hd15.same s16).same s17).kp k18 (by simpa using Ne.symm nfo),(kk16.same s17).new k18 hfo0,k18.one nfb (s17 _ _ eb16),e18,hσ⟩
   refine⟨⟨by decide,by decide,by decide⟩,dec2 (λc=>⟨by decide,?_⟩) (λc=>?_)⟩
   ·exact put _ _ λz H18 z0 z1 k18 e18=>fin z H18 z0 z1 k18 e18 _ rfl
   ·refine put _ _ λz H18 z0 z1 k18 e18=>?_
    exact fin z H18 z0 z1 k18 e18 _ rfl
  ·rintro σ H' ⟨base,ns,o12,o13,o14,o15,_,_,h1,h2,h3,h4,_,h5,rfl⟩
   exact⟨base,ns,o12,o13,o14,o15,by omega,h2,h3,h4,h5,rfl⟩
 rintro σ H14 ⟨base,ns,o12,o13,o14,o15,hl,hz,hd14,k14,e14,rfl⟩
 refine⟨d,8,rfl,hd14,by decide,λsh H15 sh0 sh1 hd15 k15=>?_⟩
 have e15:=k15.one nfo e14
 have kk15:=k14.trans k15
 have rowN:∀ ms:List Int,ms.length=ns.length->(∀ z∈ms,0<=z/\z<=1000000000000)->RowM ms:=λms h1 h2=>⟨by omega,by omega,λn hn=>(h2 n hn).1,λn hn=>(h2 n hn).2⟩
 refine dec2 (λc=>?_) (λc=>?_)
 ·refine i_sorted (SqL.of e15) (by omega) λp16 H16 ns' hperm hp16 s16 e16=>?_
  have n16:p16≠d:=(hd15.ne hp16).symm
  exact q p16 ns' H16 (rowN _ hperm.length_eq λz hz'=>hz z (hperm.mem_iff.mp hz')) (by rw[hperm.length_eq];omega) (hd15.same s16) (kk15.same s16) e16 n16 (kk15.free (by simpa using n16) hp16)
 refine dec2 (λc=>?_) (λc=>?_)
 ·refine i_sorted (SqL.of e15) (by omega) λp16 H16 ns' hperm hp16 s16 e16=>?_
  refine⟨rfl,i_rev (SqL.of e16) λp17 H17 hp17 s17 e17=>?_⟩
  have n17:p17≠d:=((hd15.same s16).ne hp17).symm
  have e17':H17 p17=some (.lst (ns'.reverse.map V.int)):=by rw[e17,List.map_reverse]
  exact q p17 ns'.reverse H17 (rowN _ (by rw[List.length_reverse];exact hperm.length_eq) λz hz'=>hz z (hperm.mem_iff.mp (List.mem_reverse.mp hz'))) (by rw[List.length_reverse,hperm.length_eq];omega) ((hd15.same s16).same s17) ((kk15.same s16).same s17) e17' n17 ((kk15.same s16).free (by simpa using n17) hp17)
 refine dec2 (λc=>?_) (λc=>?_)
 ·have hne:ns≠[]:=λz=>by rw[z] at hl;simp at hl;omega
  refine⟨⟨_,SqL.of e15⟩,comp_lst (ns.map V.int) (λi D σ H' ys=>∃ ws:List Int,ys=ws.map V.int/\ws.length=i/\(∀ z∈ws,0<=z/\z<=1000000000000)/\Same H15 H'/\∃ o,σ=[o,some (.ref fo)]) ?_ ?_ ?_ ?_⟩
  ·intro D H' hD s' e'
   exact⟨[],rfl,rfl,by simp,s',_,rfl⟩
  ·rintro i D σ H' ys hD ⟨_,_,_,_,s',_⟩
   exact SqL.of (s' _ _ e15)
  ·rintro i x D σ H' ys hx hD ⟨ws,rfl,hlw,hw,s',o,rfl⟩ eD
   obtain⟨z,rfl,hz1,hz2⟩:=vints_at hx
   have hi:i<ns.length:=(List.getElem?_eq_some_iff.mp hz1).1
   refine bT (i_newL (by show 2<=sizeLine;decide) λp17 H17 hp17 s17 e17=>?_)
   refine i_max (SqL.of (s17 _ _ (s' _ _ e15))) hne λM hM hmax=>?_
   have pick:∀ bb:Bool,∃ y:Int,atI [V.int 0,V.int z] (if bb=true then 1 else 0)=some (.int y)/\0<=y/\y<=1000000000000:=λbb=>by
    cases bb
    ·exact⟨0,rfl,by decide,by decide⟩
    ·exact⟨z,rfl,(hz z hz2).1,(hz z hz2).2⟩
   obtain⟨y,ey,y0,y1⟩:=pick (decide (z=M))
   refine i_ix (.inl (SqL.of e17)) ey ?_
   refine⟨s17 _ _ eD,sz_lt (by rw[List.length_map];omega),λH18 k18 e18=>⟨ws++[y],map_snoc ws _,by simp[hlw],λv hv=>?_,(s'.trans s17).new k18 hD,_,rfl⟩⟩
   rcases List.mem_append.mp hv with hv | hv
   ·exact hw v hv
   ·have:v=y:=by simpa using hv
    subst this;exact⟨y0,y1⟩
  ·rintro D σ H' ys hD ⟨ws,rfl,hlw,hw,s',_⟩ eD
   rw[List.length_map] at hlw
   have nD:D≠d:=(hd15.ne hD).symm
   exact q D ws H' (rowN _ hlw hw) (by rw[hlw];omega) (hd15.same s') (kk15.same s') eD nD (kk15.free (by simpa using nD) hD)
 ·exact q fo ns H15 (rowN _ rfl hz) (by omega) hd15 kk15 e15 nfo hfo0
abbrev zqq:Stmt:=top 37
theorem zq8e:FnScope ["draws","row","some"] ["draws","row"] (defScope zqq):=⟨rfl,rfl,rfl,by decide +kernel,rfl,by decide +kernel,by decide +kernel⟩
theorem zq9d:Loc (defScope zqq) "some":=Or.inl (by kernel_rfl)
theorem zq34:Vis (defScope zqq) "draws":=Or.inl (by kernel_rfl)
theorem zq41:Vis (defScope zqq) "row":=Or.inl (by kernel_rfl)
theorem zq9e:Vis (defScope zqq) "some":=Or.inl (by kernel_rfl)
theorem zq27:(defScope zqq).names.lookup ("_law_take":Str)=some NameKind.globalImplicit:=by kernel_rfl
theorem zq42:(defScope zqq).names.lookup ("len":Str)=some NameKind.globalImplicit:=by kernel_rfl
theorem zqa0:(defScope zqq).names.lookup ("min":Str)=some NameKind.globalImplicit:=by kernel_rfl
def zqcb {cdv:Value}{A:Around}{outer:List Env}{s:Shared}{H:Hp}{E:XK}(B:Bl mg)(zq1:Def P w K mg base 1 "_law_take" ["draws","many"] zq15)(hr:Room 1 (A.deeper (PyProof.Rows.envOfC "_law_pieces" (defScope zqq) s.heap.objs.size f cdv))) :
  { t:TS // QB (cxOf CX0 P w K mg base ["draws","row","some"] "_law_pieces" (defScope zqq) f cdv A outer s H E).nox (defBody zqq) t } :=
 ⟨_,(qb_cons (qs_set (i:=2) zq8e.nd rfl zq9d (.inl rfl) (qe_lst (qa_cons qe_int (qa_cons (qe_cB (kLen (K:=K) rfl) zq42 B.len boot_len' (qa_cons (qv 1 rfl zq41) qa_nil)) (qa_cons (qe_cB (kMin (K:=K) rfl rfl) zqa0 B.min boot_min' (qa_cons (qe_cB (kLen (K:=K) rfl) zq42 B.len boot_len' (qa_cons (qv 1 rfl zq41) qa_nil)) (qa_cons (qe_op opAdd qe_int (qe_def zq1 hr (by decide) zq27 (qa_cons (qv 0 rfl zq34) (qa_cons qe_int qa_nil)))) qa_nil))) (qa_cons (qe_op opAdd qe_int (qe_op opMod (qe_def zq1 hr (by decide) zq27 (qa_cons (qv 0 rfl zq34) (qa_cons qe_int qa_nil))) (qe_cB (kLen (K:=K) rfl) zq42 B.len boot_len' (qa_cons (qv 1 rfl zq41) qa_nil)))) qa_nil))))))
  (qb_one (qs_ret (ke_ix (K:=K) rfl (qv 2 rfl zq9e) (ke_ix (K:=K) rfl (qe_lst (qa_cons qe_int (qa_cons qe_int (qa_cons qe_int (qa_cons qe_int (qa_cons qe_int (qa_cons qe_int (qa_cons qe_int qa_nil)))))))) (qe_def zq1 hr (by decide) zq27 (qa_cons (qv 0 rfl zq34) (qa_cons qe_int qa_nil))) (λ_ _=>rfl)) (λ_ _=>rfl)))))⟩
theorem zqby (B:Bl mg)(zq1:Def P w K mg base 1 "_law_take" ["draws","many"] zq15)(F:Fun K "_law_pieces" "_law_pieces" zqq f fd):FnOk P w K mg base CX0 2 f fd ["draws","row"] zq3v:=by
 refine F.okq zq8e (λvs H Q E h=>?_) (λcdv A outer s H vs Q E hr h=>?_)
 ·obtain⟨d,r,ns,rfl,_⟩:=h;rfl
 obtain⟨d,r,ns,rfl,hd,hr0,nrd,n1,n2,q⟩:=h
 refine⟨zqcb B zq1 hr,?_⟩
 refine i_lenI hr0 (i_lenI hr0 ⟨d,4,rfl,hd,by decide,λg H1 g0 g1 hd1 k1=>?_⟩)
 refine⟨d,1000,rfl,hd1,by decide,λg' H2 g0' g1' hd2 k2=>?_⟩
 have er2:=k2.one nrd (k1.one nrd hr0)
 refine i_lenI er2 ⟨by omega,i_newL (by show 4<=sizeLine;decide) λp3 H3 hp3 s3 e3=>?_⟩
 refine i_newL (by show 7<=sizeLine;decide) λp4 H4 hp4 s4 e4=>?_
 refine⟨d,7,rfl,(hd2.same s3).same s4,by decide,λg5 H5 g50 g51 hd5 k5=>?_⟩
 have n3:p3≠d:=(hd2.ne hp3).symm
 have n4:p4≠d:=((hd2.same s3).ne hp4).symm
 have e4':H5 p4=some (.lst (([0,1,2,2,3,3,3]:List Int).map V.int)):=k5.one n4 e4
 refine i_ixI e4' g50 (by simpa using g51) ?_
 have hm:=atInts (ns:=[0,1,2,2,3,3,3]) g50 (by simpa using g51)
 generalize ([0,1,2,2,3,3,3]:List Int).getD g5.toNat 0=j at hm
 have hj:0<=j/\j<4:=by
  simp only[List.mem_cons,List.not_mem_nil,or_false] at hm
  omega
 have b0:=Int.emod_nonneg g' (show (ns.length:Int)≠0 by omega)
 have b1:=Int.emod_lt_of_pos g' (show (0:Int)<ns.length by omega)
 have e3':H5 p3=some (.lst (([1,(ns.length:Int),min (ns.length:Int) (2+g),1+g' % (ns.length:Int)]:List Int).map V.int)):=k5.one n3 (s4 _ _ e3)
 refine i_ixI e3' hj.1 (by simpa using hj.2) ?_
 have hm2:=atInts (ns:=[1,(ns.length:Int),min (ns.length:Int) (2+g),1+g' % (ns.length:Int)]) hj.1 (by simpa using hj.2)
 generalize ([1,(ns.length:Int),min (ns.length:Int) (2+g),1+g' % (ns.length:Int)]:List Int).getD j.toNat 0=z at hm2
 have hz:1<=z/\z<=ns.length:=by
  simp only[List.mem_cons,List.not_mem_nil,or_false] at hm2
  omega
 have ez:z=((z.toNat:Nat):Int):=by omega
 rw[ez]
 exact q _ H5 (by omega) (by omega) hd5 ((((k1.trans k2).same s3).same s4).trans k5)
abbrev zqy:Stmt:=top 8
theorem zqcw:FnScope ["thing"] ["thing"] (defScope zqy):=⟨rfl,rfl,rfl,by decide +kernel,rfl,by decide +kernel,by decide +kernel⟩
theorem zq6i:Vis (defScope zqy) "thing":=Or.inl (by kernel_rfl)
theorem zqb3:(defScope zqy).names.lookup ("bool":Str)=some NameKind.globalImplicit:=by kernel_rfl
theorem zqbk:(defScope zqy).names.lookup ("int":Str)=some NameKind.globalImplicit:=by kernel_rfl
theorem zq47:(defScope zqy).names.lookup ("isinstance":Str)=some NameKind.globalImplicit:=by kernel_rfl
def zqda {cdv:Value}{A:Around}{outer:List Env}{s:Shared}{H:Hp}{E:XK}(B:Bl mg)(hr:Room 0 (A.deeper (PyProof.Rows.envOfC "is_whole" (defScope zqy) s.heap.objs.size f cdv))) :
  { t:TS // QB (cxOf CX0 P w K mg base ["thing"] "is_whole" (defScope zqy) f cdv A outer s H E).nox (defBody zqy) t } :=
 ⟨_,(qb_one (qs_ret (ke_and (K:=K) rfl (qe_cB (kIsiG (K:=K) rfl) zq47 B.isinstance boot_isinstance' (qa_cons (qv 0 rfl zq6i) (qa_cons (qe_ty zqbk B.int boot_int) qa_nil))) (qe_one (ke_not (K:=K) rfl (qe_cB (kIsiG (K:=K) rfl) zq47 B.isinstance boot_isinstance' (qa_cons (qv 0 rfl zq6i) (qa_cons (qe_ty zqb3 B.bool boot_bool) qa_nil))))))))⟩
inductive An (H:Hp):V->Prop where
 | int (i:Int):An H (.int i)
 | odd {x:V} (o:Odd H x):An H x
 | dK {a:Addr} {kvs:List (Key×V)} (h:H a=some (.dK kvs)):An H (.ref a)
theorem An.same {H H':Hp}{x:V}(s:Same H H')(o:An H x):An H' x:=by
 cases o with
 | int i=>exact .int i
 | odd o=>exact .odd (o.same s)
 | dK h=>exact .dK (s _ _ h)
def isI:V->Bool
 | .int _=>true
 | _=>false
def isB:V->Bool
 | .bl _=>true
 | _=>false
theorem An.isInt {x:V}{H:Hp}{Q:VK}(o:An H x)(q:Q (.bl (isI x || isB x)) H):hIsiG K x "int" H Q:=by
 cases o with
 | int i=>exact i_isiG (i_isi (.int i) (by simp) (by simp) q)
 | odd o=>cases o with
  | non=>exact i_isiG (i_isi .non (by simp) (by simp) q)
  | bl b=>exact i_isiG (i_isi (.bl b) (by simp) (by simp) q)
  | str z=>exact i_isiG (i_isi (.str z) (by simp) (by simp) q)
  | lst h=>exact i_isiG (i_isi (.lst h) (by simp) (by simp) q)
  | tup h=>exact i_isiG (i_isi (.tup h) (by simp) (by simp) q)
  | dct h=>exact i_isiE h (.inl rfl) (.inl rfl) q
  | exc h=>exact i_isiE h (.inr rfl) (.inl rfl) q
 | dK h=>exact i_isiG (i_isi (.dK h) (by simp) (by simp) q)
theorem An.isBool {x:V}{H:Hp}{Q:VK}(o:An H x)(q:Q (.bl (isB x)) H):hIsiG K x "bool" H Q:=by
 cases o with
 | int i=>exact i_isiG (i_isi (.int i) (by simp) (by simp) q)
 | odd o=>cases o with
  | non=>exact i_isiG (i_isi .non (by simp) (by simp) q)
  | bl b=>exact i_isiG (i_isi (.bl b) (by simp) (by simp) q)
  | str z=>exact i_isiG (i_isi (.str z) (by simp) (by simp) q)
  | lst h=>exact i_isiG (i_isi (.lst h) (by simp) (by simp) q)
  | tup h=>exact i_isiG (i_isi (.tup h) (by simp) (by simp) q)
  | dct h=>exact i_isiE h (.inl rfl) (.inr (.inl rfl)) q
  | exc h=>exact i_isiE h (.inr rfl) (.inr (.inl rfl)) q
 | dK h=>exact i_isiG (i_isi (.dK h) (by simp) (by simp) q)
def lsOf (H:Hp):V->Option (List V)
 | .ref a=>match H a with
  | some (.lst xs)=>some xs
  | _=>none
 | _=>none
theorem lsOf_lst {H:Hp}{a:Addr}{xs:List V}(h:H a=some (.lst xs)):lsOf H (.ref a)=some xs:=by simp[lsOf,h]
theorem lsOf_some {H:Hp}{x:V}{xs:List V}(h:lsOf H x=some xs):∃ a,x=.ref a/\H a=some (.lst xs):=by
 cases x with
 | ref a =>
  refine⟨a,rfl,?_⟩
  simp only[lsOf] at h
  split at h
  ·rename_i e;cases h;exact e
  ·cases h
 | _=>cases h
theorem An.isList {x:V}{H:Hp}{Q:VK}(o:An H x)(q:Q (.bl (lsOf H x).isSome) H):hIsiG K x "list" H Q:=by
 cases o with
 | int i=>exact i_isiG (i_isi (.int i) (by simp) (by simp) q)
 | odd o=>cases o with
  | non=>exact i_isiG (i_isi .non (by simp) (by simp) q)
  | bl b=>exact i_isiG (i_isi (.bl b) (by simp) (by simp) q)
  | str z=>exact i_isiG (i_isi (.str z) (by simp) (by simp) q)
  | lst h=>exact i_isiG (i_isi (.lst h) (by simp) (by simp) (by rw[lsOf_lst h] at q;exact q))
  | tup h=>exact i_isiG (i_isi (.tup h) (by simp) (by simp) (by simp only[lsOf,h] at q;exact q))
  | dct h=>exact i_isiE h (.inl rfl) (.inr (.inr (.inl rfl))) (by simp only[lsOf,h,exo] at q;exact q)
  | exc h=>exact i_isiE h (.inr rfl) (.inr (.inr (.inl rfl))) (by simp only[lsOf,h,exo] at q;exact q)
 | dK h=>exact i_isiG (i_isi (.dK h) (by simp) (by simp) (by simp only[lsOf,h] at q;exact q))
def AnL (H:Hp)(x:V):Prop:=An H x/\∀ xs,lsOf H x=some xs->∀ y∈xs,An H y
def zq54:Sp:=λvs H Q _=>∃ x,vs=[x]/\An H x/\Q (.bl (isI x)) H
theorem zqcx (B:Bl mg)(F:Fun K "is_whole" "is_whole" zqy f fd):FnOk P w K mg base CX0 1 f fd ["thing"] zq54:=by
 refine F.okq zqcw (λvs H Q E h=>?_) (λcdv A outer s H vs Q E hr h=>?_)
 ·obtain⟨i,rfl,_⟩:=h;rfl
 obtain⟨x,rfl,h,q⟩:=h
 refine⟨zqda B  hr,?_⟩
 refine h.isInt ?_
 cases x with
 | int i=>exact bT (h.isBool q)
 | bl b=>exact bT (h.isBool q)
 | _=>exact bF q
def tpOf (H:Hp):V->Option (List V)
 | .ref a=>match H a with
  | some (.tup xs)=>some xs
  | _=>none
 | _=>none
theorem tpOf_tup {H:Hp}{a:Addr}{xs:List V}(h:H a=some (.tup xs)):tpOf H (.ref a)=some xs:=by simp[tpOf,h]
def isS:V->Bool
 | .str _=>true
 | _=>false
theorem An.isTup {x:V}{H:Hp}{Q:VK}(o:An H x)(q:Q (.bl (tpOf H x).isSome) H):hIsiG K x "tuple" H Q:=by
 cases o with
 | int i=>exact i_isiG (i_isi (.int i) (by simp) (by simp) q)
 | odd o=>cases o with
  | non=>exact i_isiG (i_isi .non (by simp) (by simp) q)
  | bl b=>exact i_isiG (i_isi (.bl b) (by simp) (by simp) q)
  | str z=>exact i_isiG (i_isi (.str z) (by simp) (by simp) q)
  | lst h=>exact i_isiG (i_isi (.lst h) (by simp) (by simp) (by simp only[tpOf,h] at q;exact q))
  | tup h=>exact i_isiG (i_isi (.tup h) (by simp) (by simp) (by rw[tpOf_tup h] at q;exact q))
  | dct h=>exact i_isiE h (.inl rfl) (.inr (.inr (.inr (.inr rfl)))) (by simp only[tpOf,h,exo] at q;exact q)
  | exc h=>exact i_isiE h (.inr rfl) (.inr (.inr (.inr (.inr rfl)))) (by simp only[tpOf,h,exo] at q;exact q)
 | dK h=>exact i_isiG (i_isi (.dK h) (by simp) (by simp) (by simp only[tpOf,h] at q;exact q))
theorem An.isStr {x:V}{H:Hp}{Q:VK}(o:An H x)(q:Q (.bl (isS x)) H):hIsiG K x "str" H Q:=by
 cases o with
 | int i=>exact i_isiG (i_isi (.int i) (by simp) (by simp) q)
 | odd o=>cases o with
  | non=>exact i_isiG (i_isi .non (by simp) (by simp) q)
  | bl b=>exact i_isiG (i_isi (.bl b) (by simp) (by simp) q)
  | str z=>exact i_isiG (i_isi (.str z) (by simp) (by simp) q)
  | lst h=>exact i_isiG (i_isi (.lst h) (by simp) (by simp) q)
  | tup h=>exact i_isiG (i_isi (.tup h) (by simp) (by simp) q)
  | dct h=>exact i_isiE h (.inl rfl) (.inr (.inr (.inr (.inl rfl)))) q
  | exc h=>exact i_isiE h (.inr rfl) (.inr (.inr (.inr (.inl rfl)))) q
 | dK h=>exact i_isiG (i_isi (.dK h) (by simp) (by simp) q)
theorem i_lenT {H:Hp}{a:Addr}{Q:VK}{xs:List V}(h:H a=some (.tup xs))(q:Q (.int xs.length) H):hLen K a H Q:=i_len (.inr (SqT.of h)) q
abbrev zqw:Stmt:=top 9
theorem zqcc:FnScope ["thing","low","high"] ["thing","low","high"] (defScope zqw):=⟨rfl,rfl,rfl,by decide +kernel,rfl,by decide +kernel,by decide +kernel⟩
theorem zqa1:Vis (defScope zqw) "high":=Or.inl (by kernel_rfl)
theorem zqb4:Vis (defScope zqw) "low":=Or.inl (by kernel_rfl)
theorem zq5x:Vis (defScope zqw) "thing":=Or.inl (by kernel_rfl)
theorem zq7v:(defScope zqw).names.lookup ("is_whole":Str)=some NameKind.globalImplicit:=by kernel_rfl
def zqcy {cdv:Value}{A:Around}{outer:List Env}{s:Shared}{H:Hp}{E:XK}(B:Bl mg)(zq4h:Def P w K mg base 1 "is_whole" ["thing"] zq54)(hr:Room 1 (A.deeper (PyProof.Rows.envOfC "is_within" (defScope zqw) s.heap.objs.size f cdv))) :
  { t:TS // QB (cxOf CX0 P w K mg base ["thing","low","high"] "is_within" (defScope zqw) f cdv A outer s H E).nox (defBody zqw) t } :=
 ⟨_,(qb_one (qs_ret (ke_and (K:=K) rfl (qe_def zq4h hr (by decide) zq7v (qa_cons (qv 0 rfl zq5x) qa_nil)) (qe_one (qe_chain opLe opLe (qv 1 rfl zqb4) (qv 0 rfl zq5x) (qv 2 rfl zqa1))))))⟩
abbrev zqi:Stmt:=top 10
theorem zq3w:FnScope ["row","thing","first","least","place"] ["row","thing","first"] (defScope zqi):=⟨rfl,rfl,rfl,by decide +kernel,rfl,by decide +kernel,by decide +kernel⟩
theorem zq58:Loc (defScope zqi) "least":=Or.inl (by kernel_rfl)
theorem zq8x:Loc (defScope zqi) "place":=Or.inl (by kernel_rfl)
theorem zq8y:Vis (defScope zqi) "first":=Or.inl (by kernel_rfl)
theorem zq8z:Vis (defScope zqi) "least":=Or.inl (by kernel_rfl)
theorem zq59:Vis (defScope zqi) "place":=Or.inl (by kernel_rfl)
theorem zqa2:Vis (defScope zqi) "row":=Or.inl (by kernel_rfl)
theorem zq5a:Vis (defScope zqi) "thing":=Or.inl (by kernel_rfl)
theorem zq72:(defScope zqi).names.lookup ("is_within":Str)=some NameKind.globalImplicit:=by kernel_rfl
theorem zq6s:(defScope zqi).names.lookup ("isinstance":Str)=some NameKind.globalImplicit:=by kernel_rfl
theorem zqa3:(defScope zqi).names.lookup ("len":Str)=some NameKind.globalImplicit:=by kernel_rfl
theorem zq9f:(defScope zqi).names.lookup ("list":Str)=some NameKind.globalImplicit:=by kernel_rfl
def zqcd {cdv:Value}{A:Around}{outer:List Env}{s:Shared}{H:Hp}{E:XK}(B:Bl mg)(zqs:Def P w K mg base 2 "is_within" ["thing","low","high"] zq17)(hr:Room 2 (A.deeper (PyProof.Rows.envOfC "are_places" (defScope zqi) s.heap.objs.size f cdv))) :
  { t:TS // QB (cxOf CX0 P w K mg base ["row","thing","first","least","place"] "are_places" (defScope zqi) f cdv A outer s H E).nox (defBody zqi) t } :=
 ⟨_,(qb_cons (qs_if (qt_not (kt_val (K:=K) rfl (qe_cB (kIsiG (K:=K) rfl) zq6s B.isinstance boot_isinstance' (qa_cons (qv 1 rfl zq5a) (qa_cons (qe_ty zq9f B.list boot_list) qa_nil))))) (qb_one (qs_ret qe_bl)) qb_nil)
  (qb_cons (qs_set (i:=3) zq3w.nd rfl zq58 (.inl rfl) (qv 2 rfl zq8y))
  (qb_mid (qs_for PassesOwn.never rfl (ki_list (K:=K) rfl (qv 1 rfl zq5a)) (qg_name (i:=4) zq3w.nd rfl zq8x (.inl rfl)) (qb_cons (qs_if (qt_not (kt_val (K:=K) rfl (qe_def zqs hr (by decide) zq72 (qa_cons (qv 4 rfl zq59) (qa_cons (qv 3 rfl zq8z) (qa_cons (qe_op opSub (qe_cB (kLen (K:=K) rfl) zqa3 B.len boot_len' (qa_cons (qv 0 rfl zqa2) qa_nil)) qe_int) qa_nil)))))) (qb_one (qs_ret qe_bl)) qb_nil)
  (qb_one (qs_set (i:=3) zq3w.nd rfl zq58 (.inl rfl) (qe_op opAdd (qv 4 rfl zq59) qe_int)))))
  (qb_one (qs_ret qe_bl)))))⟩
def inW (x:V)(l u:Int):Bool:=match x with
 | .int i=>decide (l<=i/\i<=u)
 | _=>false
def zq17:Sp:=λvs H Q _=>∃ (x:V) (l u:Int),vs=[x,.int l,.int u]/\An H x/\Q (.bl (inW x l u)) H
theorem zqce (B:Bl mg)(zq4h:Def P w K mg base 1 "is_whole" ["thing"] zq54)(F:Fun K "is_within" "is_within" zqw f fd):FnOk P w K mg base CX0 2 f fd ["thing","low","high"] zq17:=by
 refine F.okq zqcc (λvs H Q E h=>?_) (λcdv A outer s H vs Q E hr h=>?_)
 ·obtain⟨x,l,u,rfl,_⟩:=h;rfl
 obtain⟨x,l,u,rfl,h,q⟩:=h
 refine⟨zqcy B zq4h hr,?_⟩
 refine⟨_,rfl,h,?_⟩
 cases x with
 | int i =>
  refine bT (dec2 (λc=>?_) (λc=>?_))
  ·have e:inW (.int i) l u=decide (i<=u):=by simp[inW,c]
   rw[e] at q;exact q
  ·have e:inW (.int i) l u=false:=by simp[inW,c]
   rw[e] at q;exact q
 | _=>exact bF q
def cutB (lo hi:Int):List V->Bool
 | []=>true
 | .int i::xs=>decide (lo<=i/\i<=hi)&&cutB (i+1) hi xs
 | _::_=>false
theorem cutB_step {lo hi:Int}{x:V}{xs:List V}:cutB lo hi (x::xs)=(inW x lo hi&&match x with | .int i=>cutB (i+1) hi xs | _=>false):=by cases x<;>simp[cutB,inW]
def cutOf (H:Hp)(lo hi:Int)(x:V):Bool:=match lsOf H x with
 | some xs=>cutB lo hi xs
 | none=>false
theorem cutOf_some {H:Hp}{lo hi:Int}{x:V}{xs:List V}(h:lsOf H x=some xs):cutOf H lo hi x=cutB lo hi xs:=by simp[cutOf,h]
theorem cutOf_none {H:Hp}{lo hi:Int}{x:V}(h:lsOf H x=none):cutOf H lo hi x=false:=by simp[cutOf,h]
theorem drop_at {xs:List V}{i:Nat}{x:V}(h:xs[i]?=some x):xs.drop i=x::xs.drop (i+1):=by
 obtain⟨hi,e⟩:=List.getElem?_eq_some_iff.mp h
 rw[List.drop_eq_getElem_cons hi,e]
def zq3x:Sp:=λvs H Q _=>∃ (r:Addr) (x:V) (lo:Int) (ys:List V),vs=[.ref r,x,.int lo]/\H r=some (.lst ys)/\AnL H x/\Q (.bl (cutOf H lo ((ys.length:Int)-1) x)) H
theorem zqbz (B:Bl mg)(zqs:Def P w K mg base 2 "is_within" ["thing","low","high"] zq17)(F:Fun K "are_places" "are_places" zqi f fd):FnOk P w K mg base CX0 3 f fd ["row","thing","first"] zq3x:=by
 refine F.okq zq3w (λvs H Q E h=>?_) (λcdv A outer s H vs Q E hr h=>?_)
 ·obtain⟨r,x,lo,ys,rfl,_⟩:=h;rfl
 obtain⟨r,x,lo,ys,rfl,er,hx,q⟩:=h
 refine⟨zqcd B zqs hr,?_⟩
 refine hx.1.isList ?_
 cases hl:lsOf H x with
 | none=>rw[cutOf_none hl] at q;exact bT q
 | some xs =>
  rw[cutOf_some hl] at q
  obtain⟨a,rfl,e⟩:=lsOf_some hl
  have hall:=hx.2 xs hl
  refine bF ?_
  refine⟨λσ H'=>H'=H/\cutB lo ((ys.length:Int)-1) xs=true,?_,?_⟩
  ·refine⟨⟨_,SqL.of e⟩,for_list (xs:=xs) (λi σ H'=>H'=H/\∃ (l:Int) (o:Option V),cutB l ((ys.length:Int)-1) (xs.drop i)=cutB lo ((ys.length:Int)-1) xs/\σ=[some (.ref r),some (.ref a),some (.int lo),some (.int l),o]) ?_ ?_ ?_ ?_⟩
   ·exact⟨rfl,lo,_,rfl,rfl⟩
   ·rintro i σ H' _ ⟨rfl,_⟩
    exact SqL.of e
   ·rintro i y σ H' hy ⟨rfl,l,o,hc,rfl⟩
    refine i_lenL er ⟨y,l,_,rfl,hall y (List.mem_of_getElem? hy),?_⟩
    rw[drop_at hy,cutB_step] at hc
    cases hw:inW y l ((ys.length:Int)-1) with
    | false=>rw[hw,Bool.false_and] at hc;rw[<- hc] at q;exact bT q
    | true =>
     rw[hw,Bool.true_and] at hc
     cases y with
     | int z=>exact bF ⟨rfl,z+1,_,hc,rfl⟩
     | _=>cases hw
   ·rintro σ H' ⟨rfl,l,o,hc,_⟩
    rw[List.drop_length] at hc
    exact⟨rfl,hc.symm⟩
  ·rintro σ H' ⟨rfl,hc⟩
   rw[hc] at q
   exact q
abbrev zqv:Stmt:=top 11
theorem zqc0:FnScope ["row","many"] ["row","many"] (defScope zqv):=⟨rfl,rfl,rfl,by decide +kernel,rfl,by decide +kernel,by decide +kernel⟩
theorem zq9g:Vis (defScope zqv) "many":=Or.inl (by kernel_rfl)
theorem zqa4:Vis (defScope zqv) "row":=Or.inl (by kernel_rfl)
theorem zq8h:(defScope zqv).names.lookup ("NoMany":Str)=some NameKind.globalImplicit:=by kernel_rfl
theorem zq73:(defScope zqv).names.lookup ("is_within":Str)=some NameKind.globalImplicit:=by kernel_rfl
theorem zqa5:(defScope zqv).names.lookup ("len":Str)=some NameKind.globalImplicit:=by kernel_rfl
def zqcf {cdv:Value}{A:Around}{outer:List Env}{s:Shared}{H:Hp}{E:XK}(B:Bl mg)(Y:ErrT K mg Z)(zqs:Def P w K mg base 2 "is_within" ["thing","low","high"] zq17)(hr:Room 2 (A.deeper (PyProof.Rows.envOfC "check_many" (defScope zqv) s.heap.objs.size f cdv))) :
  { t:TS // QB (cxE P w K mg base ["row","many"] "check_many" (defScope zqv) f cdv A outer s H E) (defBody zqv) t } :=
 ⟨_,(qb_one (qs_if (qt_not (kt_val (K:=K) rfl (qe_def zqs hr (by decide) zq73 (qa_cons (qv 1 rfl zq9g) (qa_cons qe_int (qa_cons (qe_cB (kLen (K:=K) rfl) zqa5 B.len boot_len' (qa_cons (qv 0 rfl zqa4) qa_nil)) qa_nil)))))) (qb_one (qs_raise raises_cxE rfl zq8h Y.x_NoMany (qa_cons qe_str qa_nil))) qb_nil))⟩
def NoM (H:Hp)(n:Nat)(x:V):Prop:=An H x/\inW x 1 n=false
theorem NoM.same {H H':Hp}{n:Nat}{x:V}(s:Same H H')(h:NoM H n x):NoM H' n x:=⟨h.1.same s,h.2⟩
def spX_check_many (Z:Ecl):Sp:=λvs H Q E=>∃ (r:Addr) (x:V) (xs:List V),vs=[.ref r,x]/\H r=some (.lst xs)/\((∃ m:Int,x=.int m/\1<=m/\m<=xs.length/\Q .non H)\/(NoM H xs.length x/\E (.ref Z.NoMany) none H))
def zq8f:Sp:=λvs H Q _=>∃ (r:Addr) (m:Int) (xs:List V),vs=[.ref r,.int m]/\H r=some (.lst xs)/\1<=m/\m<=xs.length/\Q .non H
theorem pl_check_many {Z:Ecl}{vs:List V}{H:Hp}{Q:VK}{E:XK}(h:zq8f vs H Q E):spP (spX_check_many Z) vs H Q E:=let ⟨r,m,xs,e,h0,h1,h2,q⟩:=h;⟨r,_,xs,e,h0,.inl ⟨m,rfl,h1,h2,q⟩⟩
theorem zqc1 (B:Bl mg)(Y:ErrT K mg Z)(zqs:Def P w K mg base 2 "is_within" ["thing","low","high"] zq17)(F:Fun K "check_many" "check_many" zqv f fd):FnOk P w K mg base (CXe P w) 3 f fd ["row","many"] (spX_check_many Z):=by
 refine F.okx zqc0 (λvs H Q E h=>?_) (λcdv A outer s H vs Q E hr h=>?_)
 ·obtain⟨r,x,xs,rfl,_⟩:=h;rfl
 obtain⟨r,x,xs,rfl,hr0,h⟩:=h
 refine⟨zqcf B Y zqs hr,?_⟩
 rcases h with ⟨m,rfl,h1,h2,q⟩ | ⟨hx,q⟩
 ·refine i_lenL hr0 ⟨_,1,_,rfl,.int m,?_⟩
  have e:inW (.int m) 1 (xs.length:Int)=true:=decide_eq_true ⟨h1,h2⟩
  rw[e]
  exact bF q
 ·refine i_lenL hr0 ⟨_,1,_,rfl,hx.1,?_⟩
  rw[hx.2]
  exact bT ⟨by decide,q⟩
def spB (Z:Ecl):List V->Hp->XK->Prop:=λvs H E=>∃ (r:Addr) (x:V) (ns:List Int),vs=[.ref r,x]/\H r=some (.lst (ns.map V.int))/\NoM H ns.length x/\E (.ref Z.NoMany) none H
abbrev zqp:Stmt:=top 13
theorem zq28:FnScope ["row","bound","cut","total","place","number"] ["row","bound"] (defScope zqp):=⟨rfl,rfl,rfl,by decide +kernel,rfl,by decide +kernel,by decide +kernel⟩
theorem zqbl:Loc (defScope zqp) "cut":=Or.inl (by kernel_rfl)
theorem zq9h:Loc (defScope zqp) "number":=Or.inl (by kernel_rfl)
theorem zqa6:Loc (defScope zqp) "place":=Or.inl (by kernel_rfl)
theorem zq43:Loc (defScope zqp) "total":=Or.inl (by kernel_rfl)
theorem zq6j:Vis (defScope zqp) "bound":=Or.inl (by kernel_rfl)
theorem zq7k:Vis (defScope zqp) "cut":=Or.inl (by kernel_rfl)
theorem zq5y:Vis (defScope zqp) "number":=Or.inl (by kernel_rfl)
theorem zqa7:Vis (defScope zqp) "place":=Or.inl (by kernel_rfl)
theorem zq7l:Vis (defScope zqp) "row":=Or.inl (by kernel_rfl)
theorem zqa8:Vis (defScope zqp) "total":=Or.inl (by kernel_rfl)
theorem zq7w:(defScope zqp).names.lookup ("enumerate":Str)=some NameKind.globalImplicit:=by kernel_rfl
theorem zqbm:(defScope zqp).names.lookup ("max":Str)=some NameKind.globalImplicit:=by kernel_rfl
def zqdb {cdv:Value}{A:Around}{outer:List Env}{s:Shared}{H:Hp}{E:XK}(B:Bl mg)(hr:Room 0 (A.deeper (PyProof.Rows.envOfC "long_cut" (defScope zqp) s.heap.objs.size f cdv))) :
  { t:TS // QB (cxOf CX0 P w K mg base ["row","bound","cut","total","place","number"] "long_cut" (defScope zqp) f cdv A outer s H E).nox (defBody zqp) t } :=
 ⟨_,(qb_cons (qs_if (qt_cmp opGt (qe_cB (kMax (K:=K) rfl rfl) zqbm B.max boot_max' (qa_cons (qv 0 rfl zq7l) qa_nil)) (qv 1 rfl zq6j)) (qb_one (qs_ret qe_non)) qb_nil)
  (qb_cons (qs_set (i:=2) zq28.nd rfl zqbl (.inl rfl) (qe_lst qa_nil))
  (qb_cons (qs_set (i:=3) zq28.nd rfl zq43 (.inl rfl) qe_int)
  (qb_mid (qs_for PassesOwn.never rfl (ki_enum (K:=K) rfl zq7w B.enumerate (qa_cons (qv 0 rfl zq7l) qa_nil)) (kg_tup (K:=K) rfl rfl (qgs_cons (qg_name (i:=4) zq28.nd rfl zqa6 (.inl rfl)) (qgs_cons (qg_name (i:=5) zq28.nd rfl zq9h (.inl rfl)) qgs_nil))) (qb_mid (qs_if (qt_cmp opGt (qe_op opAdd (qv 3 rfl zqa8) (qv 5 rfl zq5y)) (qv 1 rfl zq6j)) (qb_cons (qs_ex (ke_m1 (K:=K) rfl PySem.F.plainAttrs_list PySem.F.slot_list_append PySem.F.type_list_append mtApp (qv 2 rfl zq7k) (qv 4 rfl zqa7)))
  (qb_one (qs_set (i:=3) zq28.nd rfl zq43 (.inl rfl) qe_int))) qb_nil)
  (qb_one (qs_aug (i:=3) zq28.nd rfl zq43 (.inl rfl) (qv 5 rfl zq5y) ipAdd))))
  (qb_one (qs_ret (qv 2 rfl zq7k)))))))⟩
open M5 in
def zq30:Sp:=λvs H Q _=>∃ (r:Addr) (b:Int) (ns:List Int),vs=[.ref r,.int b]/\H r=some (.lst (ns.map V.int))/\ns≠[]/\ns.length<=1000/\((∃ n∈ns,b<n)->Q .non H) /\
 ((∀ n∈ns,n<=b)->∀ p H',H p=none->Same H H'->H' p=some (.lst ((lcut b 0 0 ns).map V.int))->Q (.ref p) H')
open M5 in
theorem zqcz (B:Bl mg)(F:Fun K "long_cut" "long_cut" zqp f fd):FnOk P w K mg base CX0 1 f fd ["row","bound"] zq30:=by
 refine F.okq zq28 (λvs H Q E h=>?_) (λcdv A outer s H vs Q E hr h=>?_)
 ·obtain⟨r,b,ns,rfl,_⟩:=h;rfl
 obtain⟨r,b,ns,rfl,hr0,hne,hle,q1,q2⟩:=h
 refine⟨zqdb B hr,?_⟩
 refine i_max (SqL.of hr0) hne λM hM hmax=>dec2 (λc=>q1 ⟨M,hM,c⟩) (λc=>?_)
 have hb:∀ n∈ns,n<=b:=λn hn=>by have:=hmax n hn;omega
 refine i_newL (by show 0<=sizeLine;decide) λp H1 hp s1 e1=>?_
 refine⟨λσ H'=>Same H H'/\H' p=some (.lst ((lcut b 0 0 ns).map V.int))/\gt σ 2=some (.ref p),?_,?_⟩
 ·refine⟨⟨_,SqL.of (s1 _ _ hr0)⟩,for_en (ns.map V.int) (λi σ H'=>∃ o1 o2,σ=[some (.ref r),some (.int b),some (.ref p),some (.int (ltot b 0 (ns.take i))),o1,o2]/\Same H H'/\H' p=some (.lst ((lcut b 0 0 (ns.take i)).map V.int))) ?_ ?_ ?_ ?_⟩
  ·exact⟨none,none,rfl,s1,e1⟩
  ·rintro i σ H' _ ⟨o1,o2,rfl,s',e'⟩
   exact SqL.of (s' _ _ hr0)
  ·rintro i x σ H' T H2 hx ⟨o1,o2,rfl,s',e'⟩ hT s2 e2
   obtain⟨z,rfl,hz,_⟩:=vints_at hx
   have hi:i<ns.length:=(List.getElem?_eq_some_iff.mp hz).1
   have hlen:(ns.take i).length=i:=by rw[List.length_take];omega
   have et:=take_snoc hz
   have e3:=s2 _ _ e'
   refine i_unp e2 rfl ?_
   refine⟨λσ H'=>σ=[some (.ref r),some (.int b),some (.ref p),some (.int (if ltot b 0 (ns.take i)+z > b then 0 else ltot b 0 (ns.take i))),some (.int i),some (.int z)]/\Same H H'/\H' p=some (.lst ((lcut b 0 0 (ns.take (i+1))).map V.int)),?_,?_⟩
   ·have el:lcut b 0 0 (ns.take (i+1))=lcut b 0 0 (ns.take i)++(if ltot b 0 (ns.take i)+z > b then [(i:Int)] else []):=by
     rw[et,lcut_app,hlen,Nat.zero_add]
     simp only[lcut]
    have ll:(lcut b 0 0 (ns.take i)).length<=1000:=by
     have:=lcut_len b (ns.take i) 0 0;omega
    refine dec2 (λc=>?_) (λc=>?_)
    ·refine⟨i_tyL e3,i_appI e3 (by omega) λH4 k4 e4=>?_⟩
     have c':ltot b 0 (ns.take i)+z > b:=c
     refine⟨by rw[if_pos c'];rfl,(s'.trans s2).new k4 hp,by rw[e4,el,if_pos c']⟩
    ·have c':¬ ltot b 0 (ns.take i)+z > b:=c
     refine⟨by rw[if_neg c'];rfl,s'.trans s2,by rw[e3,el,if_neg c',List.append_nil]⟩
   ·rintro σ H4 ⟨rfl,s4,e4⟩
    refine⟨some (.int i),some (.int z),?_,s4,e4⟩
    rw[et,ltot_app]
    simp only[ltot]
    by_cases c:ltot b 0 (ns.take i)+z > b
    ·simp[c]
    ·simp[c]
  ·rintro σ H' ⟨o1,o2,rfl,s',e'⟩
   rw[List.length_map,List.take_length] at e'
   exact⟨s',e',rfl⟩
 ·rintro σ H' ⟨s',e',hg⟩
  show mVar 2 σ H' Q
  unfold mVar
  rw[hg]
  exact q2 hb p H' hp s' e'
abbrev zql:Stmt:=top 14
theorem zq6k:FnScope ["row","bound","cut"] ["row","bound"] (defScope zql):=⟨rfl,rfl,rfl,by decide +kernel,rfl,by decide +kernel,by decide +kernel⟩
theorem zq8i:Loc (defScope zql) "cut":=Or.inl (by kernel_rfl)
theorem zq7m:Vis (defScope zql) "bound":=Or.inl (by kernel_rfl)
theorem zq4w:Vis (defScope zql) "cut":=Or.inl (by kernel_rfl)
theorem zq8j:Vis (defScope zql) "row":=Or.inl (by kernel_rfl)
theorem zq8k:(defScope zql).names.lookup ("len":Str)=some NameKind.globalImplicit:=by kernel_rfl
theorem zq6l:(defScope zql).names.lookup ("long_cut":Str)=some NameKind.globalImplicit:=by kernel_rfl
def zqb5 {cdv:Value}{A:Around}{outer:List Env}{s:Shared}{H:Hp}{E:XK}(B:Bl mg)(zq1d:Def P w K mg base 1 "long_cut" ["row","bound"] zq30)(hr:Room 1 (A.deeper (PyProof.Rows.envOfC "fewest_pieces" (defScope zql) s.heap.objs.size f cdv))) :
  { t:TS // QB (cxOf CX0 P w K mg base ["row","bound","cut"] "fewest_pieces" (defScope zql) f cdv A outer s H E).nox (defBody zql) t } :=
 ⟨_,(qb_cons (qs_set (i:=2) zq6k.nd rfl zq8i (.inl rfl) (qe_def zq1d hr (by decide) zq6l (qa_cons (qv 0 rfl zq8j) (qa_cons (qv 1 rfl zq7m) qa_nil))))
  (qb_cons (qs_if (qt_cmp opIs (qv 2 rfl zq4w) qe_non) (qb_one (qs_ret qe_non)) qb_nil)
  (qb_one (qs_ret (qe_op opAdd (qe_cB (kLen (K:=K) rfl) zq8k B.len boot_len' (qa_cons (qv 2 rfl zq4w) qa_nil)) qe_int)))))⟩
open M5 in
def fewV (b:Int)(ns:List Int):V:=if ns.all (λn=>decide (n<=b))=true then .int ((lcut b 0 0 ns).length+1) else .non
theorem fewV_ok {b:Int}{ns:List Int}(h:∀ n∈ns,n<=b):fewV b ns=.int ((M5.lcut b 0 0 ns).length+1):=by
 unfold fewV;rw[if_pos];rw[List.all_eq_true];intro n hn;exact decide_eq_true (h n hn)
theorem fewV_no {b:Int}{ns:List Int}(h:∃ n∈ns,b<n):fewV b ns=.non:=by
 obtain⟨n,hn,hb⟩:=h
 unfold fewV;rw[if_neg];rw[List.all_eq_true];intro h;have:=of_decide_eq_true (h n hn);omega
def zq2l:Sp:=λvs H Q _=>∃ (r:Addr) (b:Int) (ns:List Int),vs=[.ref r,.int b]/\H r=some (.lst (ns.map V.int))/\ns≠[]/\ns.length<=1000/\∀ H',Same H H'->Q (fewV b ns) H'
theorem zqa9 (B:Bl mg)(zq1d:Def P w K mg base 1 "long_cut" ["row","bound"] zq30)(F:Fun K "fewest_pieces" "fewest_pieces" zql f fd):FnOk P w K mg base CX0 2 f fd ["row","bound"] zq2l:=by
 refine F.okq zq6k (λvs H Q E h=>?_) (λcdv A outer s H vs Q E hr h=>?_)
 ·obtain⟨r,b,ns,rfl,_⟩:=h;rfl
 obtain⟨r,b,ns,rfl,hr0,hne,hle,q⟩:=h
 refine⟨zqb5 B zq1d hr,?_⟩
 refine⟨r,b,ns,rfl,hr0,hne,hle,λh=>?_,λh p H1 hp s1 e1=>?_⟩
 ·refine bT ?_
  have:=q H (Same.refl H)
  rw[fewV_no h] at this;exact this
 ·refine bF (i_lenI e1 ?_)
  have:=q H1 s1
  rw[fewV_ok h] at this;exact this
abbrev zqe:Stmt:=top 16
theorem zq1q:FnScope ["row","many","low","high","middle"] ["row","many"] (defScope zqe):=⟨rfl,rfl,rfl,by decide +kernel,rfl,by decide +kernel,by decide +kernel⟩
theorem zq5b:Loc (defScope zqe) "high":=Or.inl (by kernel_rfl)
theorem zq5z:Loc (defScope zqe) "low":=Or.inl (by kernel_rfl)
theorem zq7x:Loc (defScope zqe) "middle":=Or.inl (by kernel_rfl)
theorem zq5c:Vis (defScope zqe) "high":=Or.inl (by kernel_rfl)
theorem zq3j:Vis (defScope zqe) "low":=Or.inl (by kernel_rfl)
theorem zq90:Vis (defScope zqe) "many":=Or.inl (by kernel_rfl)
theorem zq2m:Vis (defScope zqe) "middle":=Or.inl (by kernel_rfl)
theorem zq3k:Vis (defScope zqe) "row":=Or.inl (by kernel_rfl)
theorem zq5d:(defScope zqe).names.lookup ("fewest_pieces":Str)=some NameKind.globalImplicit:=by kernel_rfl
theorem zq9i:(defScope zqe).names.lookup ("max":Str)=some NameKind.globalImplicit:=by kernel_rfl
theorem zq9j:(defScope zqe).names.lookup ("sum":Str)=some NameKind.globalImplicit:=by kernel_rfl
def zqc2 {cdv:Value}{A:Around}{outer:List Env}{s:Shared}{H:Hp}{E:XK}(B:Bl mg)(zq21:Def P w K mg base 2 "fewest_pieces" ["row","bound"] zq2l)(hr:Room 2 (A.deeper (PyProof.Rows.envOfC "least_bound" (defScope zqe) s.heap.objs.size f cdv))) :
  { t:TS // QB (cxOf CX0 P w K mg base ["row","many","low","high","middle"] "least_bound" (defScope zqe) f cdv A outer s H E).nox (defBody zqe) t } :=
 ⟨_,(qb_cons (qs_set (i:=2) zq1q.nd rfl zq5z (.inl rfl) (qe_cB (kMax (K:=K) rfl rfl) zq9i B.max boot_max' (qa_cons (qv 0 rfl zq3k) qa_nil)))
  (qb_cons (qs_set (i:=3) zq1q.nd rfl zq5b (.inl rfl) (qe_cB (kSum (K:=K) rfl rfl) zq9j B.sum boot_sum' (qa_cons (qv 0 rfl zq3k) qa_nil)))
  (qb_mid (qs_while PassesOwn.never (qt_cmp opLt (qv 2 rfl zq3j) (qv 3 rfl zq5c)) (qb_cons (qs_set (i:=4) zq1q.nd rfl zq7x (.inl rfl) (qe_op opFdiv (qe_op opAdd (qv 2 rfl zq3j) (qv 3 rfl zq5c)) qe_int))
  (qb_one (qs_if (qt_cmp opLe (qe_def zq21 hr (by decide) zq5d (qa_cons (qv 0 rfl zq3k) (qa_cons (qv 4 rfl zq2m) qa_nil))) (qv 1 rfl zq90)) (qb_one (qs_set (i:=3) zq1q.nd rfl zq5b (.inl rfl) (qv 4 rfl zq2m))) (qb_one (qs_set (i:=2) zq1q.nd rfl zq5z (.inl rfl) (qe_op opAdd (qv 4 rfl zq2m) qe_int)))))))
  (qb_one (qs_ret (qv 2 rfl zq3j))))))⟩
open M5 M10 M11 M7
theorem row_sum' {ns:List Int}(h:RowN ns):0<=ns.sum/\ns.sum<=120000000000000000:=by
 have key:∀ l:List Int,(∀ n∈l,0<=n)->(∀ n∈l,n<=1000000000000000)->0<=l.sum/\l.sum<=1000000000000000*l.length:=by
  intro l
  induction l with
  | nil=>intro _ _;simp
  | cons x l ih =>
   intro h0 h1
   obtain⟨a,b⟩:=ih (λn hn=>h0 n (List.mem_cons_of_mem _ hn)) λn hn=>h1 n (List.mem_cons_of_mem _ hn)
   have:=h0 x List.mem_cons_self
   have:=h1 x List.mem_cons_self
   rw[List.sum_cons,List.length_cons]
   omega
 have:=key ns h.nn h.ub
 have:=h.le
 omega
def zq3c:Sp:=λvs H Q _=>∃ (r:Addr) (m:Nat) (ns:List Int) (t:Int),vs=[.ref r,.int m]/\H r=some (.lst (ns.map V.int))/\RowN ns/\1<=m/\m<=ns.length/\T 0 ns (m-1) 0=some t/\∀ H',Same H H'->0<=t->t<=120000000000000000->(∀ n∈ns,n<=t)->Q (.int t) H'
theorem zqbn (B:Bl mg)(zq21:Def P w K mg base 2 "fewest_pieces" ["row","bound"] zq2l)(F:Fun K "least_bound" "least_bound" zqe f fd):FnOk P w K mg base CX0 3 f fd ["row","many"] zq3c:=by
 refine F.okq zq1q (λvs H Q E h=>?_) (λcdv A outer s H vs Q E hr h=>?_)
 ·obtain⟨r,m,ns,t,rfl,_⟩:=h;rfl
 obtain⟨r,m,ns,t,rfl,hr0,rn,hm1,hmn,hT,q⟩:=h
 refine⟨zqc2 B zq21 hr,?_⟩
 have hnn:=rn.nn
 have hle:ns.length<=1000:=by have:=rn.le;omega
 have hne:ns≠[]:=λz=>by have:=rn.ne;rw[z] at this;simp at this
 have hiff:∀ b,t<=b↔(∀ x∈ns,x<=b)/\gp b ns<=m:=λb=>by
  have:=T_iff0 hnn b (k:=m-1) (i:=0) (by omega) hT
  rw[show m-1+1=m by omega,List.drop_zero] at this;exact this
 have hall:=((hiff t).mp (Int.le_refl t)).1
 have hsum:=row_sum' rn
 have hts:t<=ns.sum:=by
  refine(hiff _).mpr ⟨λx hx=>mem_le_sum hnn x hx,?_⟩
  unfold gp
  rw[if_neg hne,lcut_nil _ 0 0 hnn (by omega)]
  simp;omega
 refine i_max (SqL.of hr0) hne λM hM hmax=>i_sum (SqL.of hr0) ?_
 have hMt:M<=t:=hall M hM
 have hM0:=hnn M hM
 refine⟨λσ H'=>Same H H'/\∃ o3 o4,σ=[some (.ref r),some (.int m),some (.int t),o3,o4],?_,?_⟩
 ·refine while_m (λmm σ H'=>∃ lo hi:Int,∃ o4,M<=lo/\lo<=t/\t<=hi/\hi<=ns.sum/\mm=(hi-lo).toNat/\Same H H'/\σ=[some (.ref r),some (.int m),some (.int lo),some (.int hi),o4]) _ ⟨M,ns.sum,_,Int.le_refl M,hMt,hts,Int.le_refl _,rfl,Same.refl H,rfl⟩ ?_
  rintro mm σ H1 ⟨lo,hi,o4,h1,h2,h3,h4,rfl,s1,rfl⟩
  refine dec2 (λc=>?_) (λc=>?_)
  ·refine⟨⟨by decide,by decide⟩,r,(lo+hi) / 2,ns,rfl,s1 _ _ hr0,hne,hle,λH2 s2=>?_⟩
   have hmid:∀ n∈ns,n<=(lo+hi) / 2:=λn hn=>by have:=hmax n hn;omega
   have hi2:=hiff ((lo+hi) / 2)
   have hgp:gp ((lo+hi) / 2) ns=(lcut ((lo+hi) / 2) 0 0 ns).length+1:=by unfold gp;rw[if_neg hne]
   rw[fewV_ok hmid]
   refine dec2 (λc2=>?_) (λc2=>?_)
   ·have:=hi2.mpr ⟨hmid,by omega⟩
    exact⟨((lo+hi) / 2-lo).toNat,by omega,lo,(lo+hi) / 2,_,h1,h2,this,by omega,rfl,s1.trans s2,rfl⟩
   ·have:¬ t<=(lo+hi) / 2:=λz=>c2 (by have:=(hi2.mp z).2;omega)
    exact⟨(hi-((lo+hi) / 2+1)).toNat,by omega,(lo+hi) / 2+1,hi,_,by omega,by omega,h3,h4,rfl,s1.trans s2,rfl⟩
  ·have:lo=t:=by omega
   subst this
   exact⟨s1,_,_,rfl⟩
 ·rintro σ H1 ⟨s1,o3,o4,rfl⟩
  exact q H1 s1 (by omega) (by omega) hall
abbrev zqa:Stmt:=top 18
theorem zq1k:FnScope ["row","ahead","end","bound","begin","total"] ["row","ahead","end","bound"] (defScope zqa):=⟨rfl,rfl,rfl,by decide +kernel,rfl,by decide +kernel,by decide +kernel⟩
theorem zq3o:Loc (defScope zqa) "begin":=Or.inl (by kernel_rfl)
theorem zq3p:Loc (defScope zqa) "total":=Or.inl (by kernel_rfl)
theorem zq74:Vis (defScope zqa) "ahead":=Or.inl (by kernel_rfl)
theorem zq10:Vis (defScope zqa) "begin":=Or.inl (by kernel_rfl)
theorem zq75:Vis (defScope zqa) "bound":=Or.inl (by kernel_rfl)
theorem zq7y:Vis (defScope zqa) "end":=Or.inl (by kernel_rfl)
theorem zq2n:Vis (defScope zqa) "row":=Or.inl (by kernel_rfl)
theorem zq76:Vis (defScope zqa) "total":=Or.inl (by kernel_rfl)
def zqaa {cdv:Value}{A:Around}{outer:List Env}{s:Shared}{H:Hp}{E:XK}(B:Bl mg)(hr:Room 0 (A.deeper (PyProof.Rows.envOfC "earliest_begin" (defScope zqa) s.heap.objs.size f cdv))) :
  { t:TS // QB (cxOf CX0 P w K mg base ["row","ahead","end","bound","begin","total"] "earliest_begin" (defScope zqa) f cdv A outer s H E).nox (defBody zqa) t } :=
 ⟨_,(qb_cons (qs_set (i:=4) zq1k.nd rfl zq3o (.inl rfl) (qe_op opSub (qv 2 rfl zq7y) qe_int))
  (qb_cons (qs_set (i:=5) zq1k.nd rfl zq3p (.inl rfl) (ke_ix (K:=K) rfl (qv 0 rfl zq2n) (qv 4 rfl zq10) (λ_ _=>rfl)))
  (qb_mid (qs_while PassesOwn.never (QW.pt (qw_and (qt_cmp opGt (qv 4 rfl zq10) (qv 1 rfl zq74)) (qw_and1 (qt_cmp opLe (qe_op opAdd (qv 5 rfl zq76) (ke_ix (K:=K) rfl (qv 0 rfl zq2n) (qe_op opSub (qv 4 rfl zq10) qe_int) (λ_ _=>rfl))) (qv 3 rfl zq75))))) (qb_cons (qs_aug (i:=4) zq1k.nd rfl zq3o (.inl rfl) qe_int ipSub)
  (qb_one (qs_aug (i:=5) zq1k.nd rfl zq3p (.inl rfl) (ke_ix (K:=K) rfl (qv 0 rfl zq2n) (qv 4 rfl zq10) (λ_ _=>rfl)) ipAdd))))
  (qb_one (qs_ret (qv 4 rfl zq10))))))⟩
def zq2a:Sp:=λvs H Q _=>∃ (r:Addr) (a e:Nat) (b:Int) (ns:List Int),vs=[.ref r,.int a,.int e,.int b]/\H r=some (.lst (ns.map V.int))/\a<e/\e<=ns.length/\(∀ n∈ns,n<=b) /\
 ∀ y:Nat,a<=y->y<e->seg ns y e<=b->(y=a\/(1<=y/\b<seg ns (y-1) e))->Q (.int y) H
theorem zq9k (B:Bl mg)(F:Fun K "earliest_begin" "earliest_begin" zqa f fd):FnOk P w K mg base CX0 1 f fd ["row","ahead","end","bound"] zq2a:=by
 refine F.okq zq1k (λvs H Q E h=>?_) (λcdv A outer s H vs Q E hr h=>?_)
 ·obtain⟨r,a,e,b,ns,rfl,_⟩:=h;rfl
 obtain⟨r,a,e,b,ns,rfl,hr0,hae,hen,hall,q⟩:=h
 refine⟨zqaa B hr,?_⟩
 have e1:(((e:Int)-1)).toNat=e-1:=by omega
 refine i_ixI hr0 (by omega) (by omega) ?_
 rw[e1]
 have hs1:seg ns (e-1) e=ns.getD (e-1) 0:=by
  rw[seg_step (show e-1<e by omega) hen,show e-1+1=e by omega,seg_self];omega
 have hin:ns.getD (e-1) 0<=b:=by
  refine hall _ ?_
  rw[List.getD_eq_getElem?_getD,List.getElem?_eq_getElem (show e-1<ns.length by omega)]
  exact List.getElem_mem _
 refine⟨λσ H'=>H'=H/\∃ y:Nat,a<=y/\y<e/\seg ns y e<=b/\(y=a\/(1<=y/\b<seg ns (y-1) e))/\∃ o5,σ=[some (.ref r),some (.int a),some (.int e),some (.int b),some (.int y),o5],?_,?_⟩
 ·refine while_m (λmm σ H'=>H'=H/\∃ y:Nat,a<=y/\y<e/\mm=y/\seg ns y e<=b/\σ=[some (.ref r),some (.int a),some (.int e),some (.int b),some (.int y),some (.int (seg ns y e))]) (e-1) ⟨rfl,e-1,by omega,by omega,rfl,by omega,by rw[hs1,show ((e-1:Nat):Int)=(e:Int)-1 by omega];rfl⟩ ?_
  rintro mm σ H' ⟨rfl,y,h1,h2,hmm,h3,rfl⟩
  refine dec2 (λc=>?_) (λc=>?_)
  ·have hst:=seg_step (ns:=ns) (k:=y-1) (e:=e) (by omega) hen
   rw[show y-1+1=y by omega] at hst
   have ey:((y:Int)-1).toNat=y-1:=by omega
   refine i_ixI hr0 (by omega) (by omega) ?_
   rw[ey]
   refine dec2 (λc2=>?_) (λc2=>?_)
   ·refine i_ixI (i:=(y:Int)-1) hr0 (by omega) (by omega) ?_
    rw[ey]
    have e2:((y-1:Nat):Int)=(y:Int)-1:=by omega
    have hfin:seg ns (y-1) e=seg ns y e+ns.getD (y-1) 0:=by omega
    refine⟨y-1,by omega,rfl,y-1,by omega,by omega,rfl,?_,?_⟩
    ·have c2':seg ns y e+ns.getD (y-1) 0<=b:=c2
     omega
    ·rw[e2,hfin];rfl
   ·have c2':¬ seg ns y e+ns.getD (y-1) 0<=b:=c2
    exact⟨rfl,y,h1,h2,h3,.inr ⟨by omega,by omega⟩,_,rfl⟩
  ·exact bF ⟨rfl,y,h1,h2,h3,.inl (by omega),_,rfl⟩
 ·rintro σ H' ⟨rfl,y,h1,h2,h3,h4,o5,rfl⟩
  exact q y h1 h2 h3 h4
def worse (w:Nat)(o:Option Int)(b:Int):Bool:=match o with
 | none=>true
 | some t=>if w=0 then decide (b<t) else decide (t<b)
open M5 M10 M11
inductive FirstCut (w:Nat)(ns:List Int)(t:Int):Nat->Nat->List Int->Prop where
 | nil (i:Nat):FirstCut w ns t 0 i []
 | step {l i e:Nat} {c:List Int} (h1:i<e) (h2:e<ns.length) (h3:worse w (some (seg ns i e)) t=false) (h4:worse w (T w ns l e) t=false)
   (h5:∀ j,i<j->j<e->worse w (some (seg ns i j)) t=true\/worse w (T w ns l j) t=true) (h6:FirstCut w ns t l e c):FirstCut w ns t (l+1) i ((e:Int)::c)
theorem FirstCut.len {w:Nat}{ns:List Int}{t:Int}{l i:Nat}{c:List Int}(h:FirstCut w ns t l i c):c.length=l:=by
 induction h with
 | nil=>rfl
 | step _ _ _ _ _ _ ih=>rw[List.length_cons,ih]
abbrev zq9:Stmt:=top 17
theorem zq22:FnScope ["row","many","bound","places","end","ahead"] ["row","many","bound"] (defScope zq9):=⟨rfl,rfl,rfl,by decide +kernel,rfl,by decide +kernel,by decide +kernel⟩
theorem zq7z:Loc (defScope zq9) "ahead":=Or.inl (by kernel_rfl)
theorem zq5e:Loc (defScope zq9) "end":=Or.inl (by kernel_rfl)
theorem zq7n:Loc (defScope zq9) "places":=Or.inl (by kernel_rfl)
theorem zq80:Vis (defScope zq9) "ahead":=Or.inl (by kernel_rfl)
theorem zq81:Vis (defScope zq9) "bound":=Or.inl (by kernel_rfl)
theorem zq5f:Vis (defScope zq9) "end":=Or.inl (by kernel_rfl)
theorem zq8l:Vis (defScope zq9) "many":=Or.inl (by kernel_rfl)
theorem zq48:Vis (defScope zq9) "places":=Or.inl (by kernel_rfl)
theorem zq5g:Vis (defScope zq9) "row":=Or.inl (by kernel_rfl)
theorem zq4t:(defScope zq9).names.lookup ("earliest_begin":Str)=some NameKind.globalImplicit:=by kernel_rfl
theorem zq91:(defScope zq9).names.lookup ("len":Str)=some NameKind.globalImplicit:=by kernel_rfl
theorem zq82:(defScope zq9).names.lookup ("range":Str)=some NameKind.globalImplicit:=by kernel_rfl
def zqbo {cdv:Value}{A:Around}{outer:List Env}{s:Shared}{H:Hp}{E:XK}(B:Bl mg)(zq1s:Def P w K mg base 1 "earliest_begin" ["row","ahead","end","bound"] zq2a)(hr:Room 1 (A.deeper (PyProof.Rows.envOfC "earliest_cut" (defScope zq9) s.heap.objs.size f cdv))) :
  { t:TS // QB (cxOf CX0 P w K mg base ["row","many","bound","places","end","ahead"] "earliest_cut" (defScope zq9) f cdv A outer s H E).nox (defBody zq9) t } :=
 ⟨_,(qb_cons (qs_set (i:=3) zq22.nd rfl zq7n (.inl rfl) (qe_lst qa_nil))
  (qb_cons (qs_set (i:=4) zq22.nd rfl zq5e (.inl rfl) (qe_cB (kLen (K:=K) rfl) zq91 B.len boot_len' (qa_cons (qv 0 rfl zq5g) qa_nil)))
  (qb_mid (qs_for PassesOwn.never rfl (qi_r3 zq82 B.range (qa_cons (qe_op opSub (qv 1 rfl zq8l) qe_int) (qa_cons qe_int (qa_cons (qe_un unNeg qe_int) qa_nil)))) (qg_name (i:=5) zq22.nd rfl zq7z (.inl rfl)) (qb_cons (qs_set (i:=4) zq22.nd rfl zq5e (.inl rfl) (qe_def zq1s hr (by decide) zq4t (qa_cons (qv 0 rfl zq5g) (qa_cons (qv 5 rfl zq80) (qa_cons (qv 4 rfl zq5f) (qa_cons (qv 2 rfl zq81) qa_nil))))))
  (qb_one (qs_ex (ke_m1 (K:=K) rfl PySem.F.plainAttrs_list PySem.F.slot_list_append PySem.F.type_list_append mtApp (qv 3 rfl zq48) (qv 4 rfl zq5f))))))
  (qb_one (qs_ret (qe_rev (K:=K) rfl (qv 3 rfl zq48) (qo_some (qe_un unNeg qe_int))))))))⟩
open M5 M10 M11 M7
def zq32:Sp:=λvs H Q _=>∃ (r:Addr) (m:Nat) (ns:List Int) (t:Int),vs=[.ref r,.int m,.int t]/\H r=some (.lst (ns.map V.int))/\(∀ n∈ns,0<=n)/\ns.length<=1000/\(∀ n∈ns,n<=t)/\1<=m/\m<=ns.length/\T 0 ns (m-1) 0=some t /\
 ∀ p c H',FirstCut 0 ns t (m-1) 0 c->(∀ n∈c,0<=n/\n<=1000)->H p=none->Same H H'->H' p=some (.lst (c.map V.int))->Q (.ref p) H'
theorem zqb6 (B:Bl mg)(zq1s:Def P w K mg base 1 "earliest_begin" ["row","ahead","end","bound"] zq2a)(F:Fun K "earliest_cut" "earliest_cut" zq9 f fd):FnOk P w K mg base CX0 2 f fd ["row","many","bound"] zq32:=by
 refine F.okq zq22 (λvs H Q E h=>?_) (λcdv A outer s H vs Q E hr h=>?_)
 ·obtain⟨r,m,ns,t,rfl,_⟩:=h;rfl
 obtain⟨r,m,ns,t,rfl,hr0,hnn,hle,hall,hm1,hmn,hT,q⟩:=h
 refine⟨zqbo B zq1s hr,?_⟩
 refine i_newL (by show 0<=sizeLine;decide) λp H1 hp s1 e1=>?_
 refine i_lenI (s1 _ _ hr0) ?_
 refine⟨λσ H'=>Same H H'/\∃ (c:List Int),FirstCut 0 ns t (m-1) 0 c.reverse/\(∀ n∈c,0<=n/\n<=1000)/\H' p=some (.lst (c.map V.int))/\∃ o4 o5,σ=[some (.ref r),some (.int m),some (.int t),some (.ref p),o4,o5],?_,?_⟩
 ·refine⟨rfl,⟨by omega,by omega,by omega,by omega⟩,for_down (λl σ H'=>Same H H'/\l<=m-1/\∃ (x:Nat) (c:List Int),Back ns t m l x/\c.length=l/\(∀ n∈c,0<=n/\n<=1000)/\(∀ i,(l=0\/(m-l-1<=i/\i<x/\seg ns i x<=t))->FirstCut 0 ns t l i c.reverse)/\H' p=some (.lst (c.map V.int))/\∃ o5,σ=[some (.ref r),some (.int m),some (.int t),some (.ref p),some (.int x),o5]) ?_ ?_ ?_⟩
  ·exact⟨s1,Nat.zero_le _,ns.length,[],Back.start ns t m,rfl,by simp,λi _=>FirstCut.nil i,e1,_,rfl⟩
  ·rintro l σ H2 hl ⟨s2,_,x,c,hb,hcl,hc1,hF,e2,o5,rfl⟩
   have hl':l+1<m:=by omega
   have hxl:=hb.le
   have hxge:m-l-1<x:=by
    by_cases z:l=0
    ·have:=hb.at0 z;omega
    ·have:=hb.ge (by omega);omega
   have ea:((m:Int)-1-l)=((m-l-1:Nat):Int):=by omega
   rw[ea]
   refine⟨r,m-l-1,x,t,ns,rfl,s2 _ _ hr0,hxge,by omega,hall,λy h1 h2 h3 h4=>?_⟩
   have hb':=hb.step hnn hl' hmn h1 h2 h3 h4
   refine⟨i_tyL e2,i_appI e2 (by omega) λH3 k3 e3=>?_⟩
   refine⟨s2.new k3 hp,by omega,y,c++[(y:Int)],hb',by simp[hcl],λn hn=>?_,λi hi=>?_,e3,_,rfl⟩
   ·rcases List.mem_append.mp hn with hn | hn
    ·exact hc1 n hn
    ·have:n=(y:Int):=by simpa using hn
     omega
   ·rcases hi with z | ⟨i1,i2,i3⟩
    ·omega
    rw[List.reverse_append,List.reverse_singleton,List.singleton_append]
    obtain⟨v,hv,hvt⟩:=hb'.fit l rfl
    refine FirstCut.step i2 (by omega) ?_ ?_ (λj hj1 hj2=>.inr ?_) (hF y ?_)
    ·simp only[worse];rw[if_pos trivial];exact decide_eq_false (by omega)
    ·rw[hv];simp only[worse];rw[if_pos trivial];exact decide_eq_false (by omega)
    ·cases hTj:T 0 ns l j with
     | none=>rfl
     | some u =>
      have:=hb'.no l rfl j (by omega) hj2 u hTj
      simp only[worse];rw[if_pos trivial];exact decide_eq_true this
    ·by_cases z:l=0
     ·exact .inl z
     ·exact .inr ⟨h1,h2,h3⟩
  ·rintro σ H2 ⟨s2,_,x,c,hb,hcl,hc1,hF,e2,o5,rfl⟩
   have en:((m:Int)-1-0).toNat=m-1:=by omega
   rw[en] at hb hF hcl
   refine⟨s2,c,hF 0 ?_,hc1,e2,_,_,rfl⟩
   by_cases z:m=1
   ·exact .inl (by omega)
   ·obtain⟨h1,h2⟩:=hb.top hnn (by omega) hmn hT
    exact .inr ⟨by omega,h1,h2⟩
 ·rintro σ H2 ⟨s2,c,hF,hc1,e2,o4,o5,rfl⟩
  refine⟨rfl,i_rev (SqL.of e2) λp3 H3 hp3 s3 e3=>q p3 c.reverse H3 hF (λn hn=>hc1 n (by simpa using hn)) (s2.free hp3) (s2.trans s3) ?_⟩
  rw[e3,List.map_reverse]
abbrev zqf:Stmt:=top 15
theorem zq60:FnScope ["row","many","bound"] ["row","many"] (defScope zqf):=⟨rfl,rfl,rfl,by decide +kernel,rfl,by decide +kernel,by decide +kernel⟩
theorem zq77:Loc (defScope zqf) "bound":=Or.inl (by kernel_rfl)
theorem zq3q:Vis (defScope zqf) "bound":=Or.inl (by kernel_rfl)
theorem zq2f:Vis (defScope zqf) "many":=Or.inl (by kernel_rfl)
theorem zq2o:Vis (defScope zqf) "row":=Or.inl (by kernel_rfl)
theorem zq5h:(defScope zqf).names.lookup ("check_many":Str)=some NameKind.globalImplicit:=by kernel_rfl
theorem zq4u:(defScope zqf).names.lookup ("earliest_cut":Str)=some NameKind.globalImplicit:=by kernel_rfl
theorem zq50:(defScope zqf).names.lookup ("least_bound":Str)=some NameKind.globalImplicit:=by kernel_rfl
def zqab {cdv:Value}{A:Around}{outer:List Env}{s:Shared}{H:Hp}{E:XK}(B:Bl mg)(zq2:DefX P w K mg base 3 "check_many" ["row","many"] (spX_check_many Z))(zq2w:Def P w K mg base 3 "least_bound" ["row","many"] zq3c)(zq2g:Def P w K mg base 2 "earliest_cut" ["row","many","bound"] zq32)(hr:Room 3 (A.deeper (PyProof.Rows.envOfC "least_greatest" (defScope zqf) s.heap.objs.size f cdv))) :
  { t:TS // QB (cxE P w K mg base ["row","many","bound"] "least_greatest" (defScope zqf) f cdv A outer s H E) (defBody zqf) t } :=
 ⟨_,(qb_cons (qs_ex (qe_defX zq2 passes_cxE hr (by decide) zq5h (qa_cons (qv 0 rfl zq2o) (qa_cons (qv 1 rfl zq2f) qa_nil))))
  (qb_cons (qs_nox (qs_set (i:=2) zq60.nd rfl zq77 (.inl rfl) (qe_def zq2w hr (by decide) zq50 (qa_cons (qv 0 rfl zq2o) (qa_cons (qv 1 rfl zq2f) qa_nil)))))
  (qb_one (qs_nox (qs_ret (qe_tup (qa_cons (qv 2 rfl zq3q) (qa_cons (qe_def zq2g hr (by decide) zq4u (qa_cons (qv 0 rfl zq2o) (qa_cons (qv 1 rfl zq2f) (qa_cons (qv 2 rfl zq3q) qa_nil)))) qa_nil))))))))⟩
open M5 M10 M11 M7
def zq1l:Sp:=λvs H Q _=>∃ (r:Addr) (m:Nat) (ns:List Int) (t:Int),vs=[.ref r,.int m]/\H r=some (.lst (ns.map V.int))/\RowN ns/\1<=m/\m<=ns.length/\T 0 ns (m-1) 0=some t /\
 ∀ p pc c H',0<=t->t<=120000000000000000->FirstCut 0 ns t (m-1) 0 c->(∀ n∈c,0<=n/\n<=1000)->H p=none->H pc=none->Same H H'->H' p=some (.tup [.int t,.ref pc])->H' pc=some (.lst (c.map V.int))->Q (.ref p) H'
def spX_least_greatest (Z:Ecl):Sp:=λvs H Q E=>zq1l vs H Q E\/spB Z vs H E
theorem pl_least_greatest {Z:Ecl}{vs:List V}{H:Hp}{Q:VK}{E:XK}(h:zq1l vs H Q E):spP (spX_least_greatest Z) vs H Q E:=.inl h
theorem zq9l (B:Bl mg)(zq2:DefX P w K mg base 3 "check_many" ["row","many"] (spX_check_many Z))(zq2w:Def P w K mg base 3 "least_bound" ["row","many"] zq3c)(zq2g:Def P w K mg base 2 "earliest_cut" ["row","many","bound"] zq32)(F:Fun K "least_greatest" "least_greatest" zqf f fd):FnOk P w K mg base (CXe P w) 4 f fd ["row","many"] (spX_least_greatest Z):=by
 refine F.okx zq60 (λvs H Q E h=>?_) (λcdv A outer s H vs Q E hr h=>?_)
 ·rcases h with ⟨r,m,ns,t,rfl,_⟩ | ⟨r,x,ns,rfl,_⟩<;>rfl
 refine⟨zqab B zq2 zq2w zq2g hr,?_⟩
 rcases h with ⟨r,m,ns,t,rfl,hr0,rn,hm1,hmn,hT,q⟩ | ⟨r,x,ns,rfl,hr0,hx,q⟩
 rotate_left
 ·exact⟨r,_,_,rfl,hr0,.inr ⟨by rw[List.length_map];exact hx,q⟩⟩
 have hle:ns.length<=1000:=by have:=rn.le;omega
 refine⟨r,_,_,rfl,hr0,.inl ⟨m,rfl,by omega,by rw[List.length_map];omega,?_⟩⟩
 refine⟨r,m,ns,t,rfl,hr0,rn,hm1,hmn,hT,λH1 s1 ht0 htb hall=>?_⟩
 refine⟨r,m,ns,t,rfl,s1 _ _ hr0,rn.nn,hle,hall,hm1,hmn,hT,λpc c H2 hF hc hpc s2 e2=>?_⟩
 refine i_newT (by show 2<=sizeLine;decide) λp H3 hp s3 e3=>?_
 exact q p pc c H3 ht0 htb hF hc ((s1.trans s2).free hp) (s1.free hpc) (s1.trans (s2.trans s3)) e3 (s3 _ _ e2)
abbrev zqj:Stmt:=top 20
theorem zq1i:FnScope ["row","bound","ends","total","place","number"] ["row","bound"] (defScope zqj):=⟨rfl,rfl,rfl,by decide +kernel,rfl,by decide +kernel,by decide +kernel⟩
theorem zq9m:Loc (defScope zqj) "ends":=Or.inl (by kernel_rfl)
theorem zq8m:Loc (defScope zqj) "number":=Or.inl (by kernel_rfl)
theorem zq92:Loc (defScope zqj) "place":=Or.inl (by kernel_rfl)
theorem zq35:Loc (defScope zqj) "total":=Or.inl (by kernel_rfl)
theorem zq93:Vis (defScope zqj) "bound":=Or.inl (by kernel_rfl)
theorem zq61:Vis (defScope zqj) "ends":=Or.inl (by kernel_rfl)
theorem zq8n:Vis (defScope zqj) "number":=Or.inl (by kernel_rfl)
theorem zq94:Vis (defScope zqj) "place":=Or.inl (by kernel_rfl)
theorem zqac:Vis (defScope zqj) "row":=Or.inl (by kernel_rfl)
theorem zq95:Vis (defScope zqj) "total":=Or.inl (by kernel_rfl)
theorem zq78:(defScope zqj).names.lookup ("enumerate":Str)=some NameKind.globalImplicit:=by kernel_rfl
def zqcg {cdv:Value}{A:Around}{outer:List Env}{s:Shared}{H:Hp}{E:XK}(B:Bl mg)(hr:Room 0 (A.deeper (PyProof.Rows.envOfC "short_ends" (defScope zqj) s.heap.objs.size f cdv))) :
  { t:TS // QB (cxOf CX0 P w K mg base ["row","bound","ends","total","place","number"] "short_ends" (defScope zqj) f cdv A outer s H E).nox (defBody zqj) t } :=
 ⟨_,(qb_cons (qs_set (i:=2) zq1i.nd rfl zq9m (.inl rfl) (qe_lst qa_nil))
  (qb_cons (qs_set (i:=3) zq1i.nd rfl zq35 (.inl rfl) qe_int)
  (qb_mid (qs_for PassesOwn.never rfl (ki_enum (K:=K) rfl zq78 B.enumerate (qa_cons (qv 0 rfl zqac) qa_nil)) (kg_tup (K:=K) rfl rfl (qgs_cons (qg_name (i:=4) zq1i.nd rfl zq92 (.inl rfl)) (qgs_cons (qg_name (i:=5) zq1i.nd rfl zq8m (.inl rfl)) qgs_nil))) (qb_cons (qs_aug (i:=3) zq1i.nd rfl zq35 (.inl rfl) (qv 5 rfl zq8n) ipAdd)
  (qb_one (qs_if (qt_cmp opGe (qv 3 rfl zq95) (qv 1 rfl zq93)) (qb_cons (qs_ex (ke_m1 (K:=K) rfl PySem.F.plainAttrs_list PySem.F.slot_list_append PySem.F.type_list_append mtApp (qv 2 rfl zq61) (qe_op opAdd (qv 4 rfl zq94) qe_int)))
  (qb_one (qs_set (i:=3) zq1i.nd rfl zq35 (.inl rfl) qe_int))) qb_nil))))
  (qb_one (qs_ret (qv 2 rfl zq61))))))⟩
open M10 in
def zq1a:Sp:=λvs H Q _=>∃ (r:Addr) (b:Int) (ns:List Int),vs=[.ref r,.int b]/\H r=some (.lst (ns.map V.int))/\ns.length<=1000 /\
 ∀ p H',H p=none->Same H H'->H' p=some (.lst ((sends b 0 0 ns).map V.int))->Q (.ref p) H'
open M10 in
theorem zqc3 (B:Bl mg)(F:Fun K "short_ends" "short_ends" zqj f fd):FnOk P w K mg base CX0 1 f fd ["row","bound"] zq1a:=by
 refine F.okq zq1i (λvs H Q E h=>?_) (λcdv A outer s H vs Q E hr h=>?_)
 ·obtain⟨r,b,ns,rfl,_⟩:=h;rfl
 obtain⟨r,b,ns,rfl,hr0,hle,q⟩:=h
 refine⟨zqcg B hr,?_⟩
 refine i_newL (by show 0<=sizeLine;decide) λp H1 hp s1 e1=>?_
 refine⟨λσ H'=>Same H H'/\H' p=some (.lst ((sends b 0 0 ns).map V.int))/\∃ o3 o4 o5,σ=[some (.ref r),some (.int b),some (.ref p),o3,o4,o5],?_,?_⟩
 ·refine⟨⟨_,SqL.of (s1 _ _ hr0)⟩,for_en (ns.map V.int) (λi σ H'=>∃ o1 o2,σ=[some (.ref r),some (.int b),some (.ref p),some (.int (stot b 0 (ns.take i))),o1,o2]/\Same H H'/\H' p=some (.lst ((sends b 0 0 (ns.take i)).map V.int))) ?_ ?_ ?_ ?_⟩
  ·exact⟨none,none,rfl,s1,e1⟩
  ·rintro i σ H' _ ⟨o1,o2,rfl,s',e'⟩
   exact SqL.of (s' _ _ hr0)
  ·rintro i x σ H' T H2 hx ⟨o1,o2,rfl,s',e'⟩ hT s2 e2
   obtain⟨z,rfl,hz,_⟩:=vints_at hx
   have hi:i<ns.length:=(List.getElem?_eq_some_iff.mp hz).1
   have hlen:(ns.take i).length=i:=by rw[List.length_take];omega
   have et:=take_snoc hz
   have e3:=s2 _ _ e'
   have ll:(sends b 0 0 (ns.take i)).length<=1000:=by have:=sends_len b (ns.take i) 0 0;omega
   have el:sends b 0 0 (ns.take (i+1))=sends b 0 0 (ns.take i)++(if stot b 0 (ns.take i)+z>=b then [((i+1:Nat):Int)] else []):=by
    rw[et,sends_app,hlen,Nat.zero_add]
    simp only[sends]
   have es:stot b 0 (ns.take (i+1))=if stot b 0 (ns.take i)+z>=b then 0 else stot b 0 (ns.take i)+z:=by
    rw[et,stot_app]
    simp only[stot]
   refine i_unp e2 rfl ?_
   refine dec2 (λc=>?_) (λc=>?_)
   ·have c':stot b 0 (ns.take i)+z>=b:=c
    refine⟨i_tyL e3,i_appI e3 (by omega) λH4 k4 e4=>?_⟩
    refine⟨some (.int i),some (.int z),by rw[es,if_pos c'];rfl,(s'.trans s2).new k4 hp,?_⟩
    rw[e4,el,if_pos c'];rfl
   ·have c':¬ stot b 0 (ns.take i)+z>=b:=c
    refine⟨some (.int i),some (.int z),by rw[es,if_neg c'];rfl,s'.trans s2,?_⟩
    rw[e3,el,if_neg c',List.append_nil]
  ·rintro σ H' ⟨o1,o2,rfl,s',e'⟩
   rw[List.length_map,List.take_length] at e'
   exact⟨s',e',_,_,_,rfl⟩
 ·rintro σ H' ⟨s',e',o3,o4,o5,rfl⟩
  exact q p H' hp s' e'
abbrev zq6:Stmt:=top 22
theorem zq19:FnScope ["row","many","low","high","middle"] ["row","many"] (defScope zq6):=⟨rfl,rfl,rfl,by decide +kernel,rfl,by decide +kernel,by decide +kernel⟩
theorem zq49:Loc (defScope zq6) "high":=Or.inl (by kernel_rfl)
theorem zq4i:Loc (defScope zq6) "low":=Or.inl (by kernel_rfl)
theorem zq6t:Loc (defScope zq6) "middle":=Or.inl (by kernel_rfl)
theorem zq4a:Vis (defScope zq6) "high":=Or.inl (by kernel_rfl)
theorem zq2p:Vis (defScope zq6) "low":=Or.inl (by kernel_rfl)
theorem zq4b:Vis (defScope zq6) "many":=Or.inl (by kernel_rfl)
theorem zq1y:Vis (defScope zq6) "middle":=Or.inl (by kernel_rfl)
theorem zq4j:Vis (defScope zq6) "row":=Or.inl (by kernel_rfl)
theorem zq83:(defScope zq6).names.lookup ("len":Str)=some NameKind.globalImplicit:=by kernel_rfl
theorem zq5i:(defScope zq6).names.lookup ("short_ends":Str)=some NameKind.globalImplicit:=by kernel_rfl
theorem zq84:(defScope zq6).names.lookup ("sum":Str)=some NameKind.globalImplicit:=by kernel_rfl
def zqad {cdv:Value}{A:Around}{outer:List Env}{s:Shared}{H:Hp}{E:XK}(B:Bl mg)(zqt:Def P w K mg base 1 "short_ends" ["row","bound"] zq1a)(hr:Room 1 (A.deeper (PyProof.Rows.envOfC "greatest_bound" (defScope zq6) s.heap.objs.size f cdv))) :
  { t:TS // QB (cxOf CX0 P w K mg base ["row","many","low","high","middle"] "greatest_bound" (defScope zq6) f cdv A outer s H E).nox (defBody zq6) t } :=
 ⟨_,(qb_cons (qs_set (i:=2) zq19.nd rfl zq4i (.inl rfl) qe_int)
  (qb_cons (qs_set (i:=3) zq19.nd rfl zq49 (.inl rfl) (qe_op opFdiv (qe_cB (kSum (K:=K) rfl rfl) zq84 B.sum boot_sum' (qa_cons (qv 0 rfl zq4j) qa_nil)) (qv 1 rfl zq4b)))
  (qb_mid (qs_while PassesOwn.never (qt_cmp opLt (qv 2 rfl zq2p) (qv 3 rfl zq4a)) (qb_cons (qs_set (i:=4) zq19.nd rfl zq6t (.inl rfl) (qe_op opFdiv (qe_op opAdd (qe_op opAdd (qv 2 rfl zq2p) (qv 3 rfl zq4a)) qe_int) qe_int))
  (qb_one (qs_if (qt_cmp opGe (qe_cB (kLen (K:=K) rfl) zq83 B.len boot_len' (qa_cons (qe_def zqt hr (by decide) zq5i (qa_cons (qv 0 rfl zq4j) (qa_cons (qv 4 rfl zq1y) qa_nil))) qa_nil)) (qv 1 rfl zq4b)) (qb_one (qs_set (i:=2) zq19.nd rfl zq4i (.inl rfl) (qv 4 rfl zq1y))) (qb_one (qs_set (i:=3) zq19.nd rfl zq49 (.inl rfl) (qe_op opSub (qv 4 rfl zq1y) qe_int)))))))
  (qb_one (qs_ret (qv 2 rfl zq2p))))))⟩
open M5 M10 M11
theorem sum_seg0 (ns:List Int):ns.sum=seg ns 0 ns.length:=by unfold seg;rw[List.take_length,List.drop_zero]
theorem G_len0 (b:Int)(ns:List Int):(sends b 0 0 ns).length=G b ns 0:=by unfold G cnt;rw[List.drop_zero]
def zq2b:Sp:=λvs H Q _=>∃ (r:Addr) (m:Nat) (ns:List Int) (t:Int),vs=[.ref r,.int m]/\H r=some (.lst (ns.map V.int))/\RowN ns/\1<=m/\m<=ns.length/\T 1 ns (m-1) 0=some t/\∀ H',Same H H'->0<=t->t<=120000000000000000->Q (.int t) H'
theorem zq9n (B:Bl mg)(zqt:Def P w K mg base 1 "short_ends" ["row","bound"] zq1a)(F:Fun K "greatest_bound" "greatest_bound" zq6 f fd):FnOk P w K mg base CX0 2 f fd ["row","many"] zq2b:=by
 refine F.okq zq19 (λvs H Q E h=>?_) (λcdv A outer s H vs Q E hr h=>?_)
 ·obtain⟨r,m,ns,t,rfl,_⟩:=h;rfl
 obtain⟨r,m,ns,t,rfl,hr0,rn,hm1,hmn,hT,q⟩:=h
 refine⟨zqad B zqt hr,?_⟩
 have hnn:=rn.nn
 have hle:ns.length<=1000:=by have:=rn.le;omega
 have hiff:∀ b,b<=t↔m<=G b ns 0:=λb=>by
  have:=T_iff hnn b (k:=m-1) (i:=0) (by omega) hT
  rw[show m-1+1=m by omega] at this;exact this
 have ht0:0<=t:=(hiff 0).mpr (by rw[G_zero hnn];exact hmn)
 have hsum:=row_sum' rn
 have htm:t<=ns.sum / m:=by
  rw[Int.le_ediv_iff_mul_le (by omega)]
  have h1:=G_sum hnn ht0 ns.length 0 (by omega) (by omega)
  have h2:=(hiff t).mp (Int.le_refl t)
  rw[<- sum_seg0] at h1
  have h3:t*(m:Int)<=t*(G t ns 0:Int):=Int.mul_le_mul_of_nonneg_left (by omega) ht0
  omega
 have htb:t<=120000000000000000:=by
  have h1:=G_sum hnn ht0 ns.length 0 (by omega) (by omega)
  have h2:=(hiff t).mp (Int.le_refl t)
  rw[<- sum_seg0] at h1
  have h3:t*1<=t*(G t ns 0:Int):=Int.mul_le_mul_of_nonneg_left (by omega) ht0
  omega
 have hmI:(0:Int)<m:=by omega
 refine i_sum (SqL.of hr0) ⟨⟨by omega,by omega⟩,?_⟩
 have hhi:ns.sum / (m:Int)<=120000000000000000:=by
  have:=Int.ediv_le_self (a:=ns.sum) (m:Int) hsum.1
  omega
 refine⟨λσ H'=>Same H H'/\∃ o3 o4,σ=[some (.ref r),some (.int m),some (.int t),o3,o4],?_,?_⟩
 ·refine while_m (λmm σ H'=>∃ lo hi:Int,∃ o4,0<=lo/\lo<=t/\t<=hi/\hi<=120000000000000000/\mm=(hi-lo).toNat/\Same H H'/\σ=[some (.ref r),some (.int m),some (.int lo),some (.int hi),o4]) _ ⟨0,ns.sum / m,_,Int.le_refl 0,ht0,htm,hhi,rfl,Same.refl H,rfl⟩ ?_
  rintro mm σ H1 ⟨lo,hi,o4,h1,h2,h3,h4,rfl,s1,rfl⟩
  refine dec2 (λc=>?_) (λc=>?_)
  ·refine⟨⟨by decide,by decide⟩,r,(lo+hi+1) / 2,ns,rfl,s1 _ _ hr0,hle,λp H2 hp s2 e2=>?_⟩
   refine i_lenI e2 ?_
   rw[G_len0]
   have hi2:=hiff ((lo+hi+1) / 2)
   refine dec2 (λc2=>?_) (λc2=>?_)
   ·have:=hi2.mpr (by omega)
    exact⟨(hi-(lo+hi+1) / 2).toNat,by omega,(lo+hi+1) / 2,hi,_,by omega,this,h3,h4,rfl,s1.trans s2,rfl⟩
   ·have:¬ (lo+hi+1) / 2<=t:=λz=>c2 (by have:=hi2.mp z;omega)
    exact⟨((lo+hi+1) / 2-1-lo).toNat,by omega,lo,(lo+hi+1) / 2-1,_,h1,h2,by omega,by omega,rfl,s1.trans s2,rfl⟩
  ·have:lo=t:=by omega
   subst this
   exact⟨s1,_,_,rfl⟩
 ·rintro σ H1 ⟨s1,o3,o4,rfl⟩
  exact q H1 s1 ht0 htb
abbrev zqg:Stmt:=top 21
theorem zq62:FnScope ["row","many","bound"] ["row","many"] (defScope zqg):=⟨rfl,rfl,rfl,by decide +kernel,rfl,by decide +kernel,by decide +kernel⟩
theorem zq79:Loc (defScope zqg) "bound":=Or.inl (by kernel_rfl)
theorem zq3r:Vis (defScope zqg) "bound":=Or.inl (by kernel_rfl)
theorem zq2h:Vis (defScope zqg) "many":=Or.inl (by kernel_rfl)
theorem zq2q:Vis (defScope zqg) "row":=Or.inl (by kernel_rfl)
theorem zq5j:(defScope zqg).names.lookup ("check_many":Str)=some NameKind.globalImplicit:=by kernel_rfl
theorem zq4d:(defScope zqg).names.lookup ("greatest_bound":Str)=some NameKind.globalImplicit:=by kernel_rfl
theorem zq5k:(defScope zqg).names.lookup ("short_ends":Str)=some NameKind.globalImplicit:=by kernel_rfl
def zqae {cdv:Value}{A:Around}{outer:List Env}{s:Shared}{H:Hp}{E:XK}(B:Bl mg)(zq2:DefX P w K mg base 3 "check_many" ["row","many"] (spX_check_many Z))(zq1t:Def P w K mg base 2 "greatest_bound" ["row","many"] zq2b)(zqt:Def P w K mg base 1 "short_ends" ["row","bound"] zq1a)(hr:Room 3 (A.deeper (PyProof.Rows.envOfC "greatest_least" (defScope zqg) s.heap.objs.size f cdv))) :
  { t:TS // QB (cxE P w K mg base ["row","many","bound"] "greatest_least" (defScope zqg) f cdv A outer s H E) (defBody zqg) t } :=
 ⟨_,(qb_cons (qs_ex (qe_defX zq2 passes_cxE hr (by decide) zq5j (qa_cons (qv 0 rfl zq2q) (qa_cons (qv 1 rfl zq2h) qa_nil))))
  (qb_cons (qs_nox (qs_set (i:=2) zq62.nd rfl zq79 (.inl rfl) (qe_def zq1t hr (by decide) zq4d (qa_cons (qv 0 rfl zq2q) (qa_cons (qv 1 rfl zq2h) qa_nil)))))
  (qb_one (qs_nox (qs_ret (qe_tup (qa_cons (qv 2 rfl zq3r) (qa_cons (ke_slice (K:=K) rfl (qe_def zqt hr (by decide) zq5k (qa_cons (qv 0 rfl zq2q) (qa_cons (qv 2 rfl zq3r) qa_nil))) qo_none (qo_some (qe_op opSub (qv 1 rfl zq2h) qe_int))) qa_nil))))))))⟩
open M5 M10 M11
def zq3l:Sp:=λvs H Q _=>∃ (r:Addr) (m:Nat) (ns:List Int) (t:Int),vs=[.ref r,.int m]/\H r=some (.lst (ns.map V.int))/\RowN ns/\1<=m/\m<=ns.length/\T 1 ns (m-1) 0=some t /\
 ∀ p pc H',0<=t->t<=120000000000000000->Same H H'->H' p=some (.tup [.int t,.ref pc])->Q (.ref p) H'
def spX_greatest_least (Z:Ecl):Sp:=λvs H Q E=>zq3l vs H Q E\/spB Z vs H E
theorem pl_greatest_least {Z:Ecl}{vs:List V}{H:Hp}{Q:VK}{E:XK}(h:zq3l vs H Q E):spP (spX_greatest_least Z) vs H Q E:=.inl h
theorem zq9o (B:Bl mg)(zq2:DefX P w K mg base 3 "check_many" ["row","many"] (spX_check_many Z))(zq1t:Def P w K mg base 2 "greatest_bound" ["row","many"] zq2b)(zqt:Def P w K mg base 1 "short_ends" ["row","bound"] zq1a)(F:Fun K "greatest_least" "greatest_least" zqg f fd):FnOk P w K mg base (CXe P w) 4 f fd ["row","many"] (spX_greatest_least Z):=by
 refine F.okx zq62 (λvs H Q E h=>?_) (λcdv A outer s H vs Q E hr h=>?_)
 ·rcases h with ⟨r,m,ns,t,rfl,_⟩ | ⟨r,x,ns,rfl,_⟩<;>rfl
 refine⟨zqae B zq2 zq1t zqt hr,?_⟩
 rcases h with ⟨r,m,ns,t,rfl,hr0,rn,hm1,hmn,hT,q⟩ | ⟨r,x,ns,rfl,hr0,hx,q⟩
 rotate_left
 ·exact⟨r,_,_,rfl,hr0,.inr ⟨by rw[List.length_map];exact hx,q⟩⟩
 have hle:ns.length<=1000:=by have:=rn.le;omega
 refine⟨r,_,_,rfl,hr0,.inl ⟨m,rfl,by omega,by rw[List.length_map];omega,?_⟩⟩
 refine⟨r,m,ns,t,rfl,hr0,rn,hm1,hmn,hT,λH1 s1 ht0 htb=>?_⟩
 refine⟨r,t,ns,rfl,s1 _ _ hr0,hle,λp2 H2 hp2 s2 e2=>?_⟩
 refine i_sl (SqL.of e2) λpc H3 hpc s3 e3=>?_
 refine i_newT (by show 2<=sizeLine;decide) λp H4 hp s4 e4=>?_
 exact q p pc H4 ht0 htb (s1.trans (s2.trans (s3.trans s4))) e4
def RVx (S:List Addr)(n:Nat)(H:Hp)(x:V)(d:PyData):Prop:=∀ H':Hp,(∀ a o,a∉S->H a=some o->H' a=some o)->RV n H' x d
theorem RVx.kp {S T:List Addr}{n:Nat}{H H':Hp}{x:V}{d:PyData}(k:Kp T H H')(hs:∀ a∈T,a∈S)(h:RVx S n H x d):RVx S n H' x d:=λH'' g=>h H'' λa o ha ho=>g a o ha (k a o (λz=>ha (hs a z)) ho)
theorem RVx.same {S:List Addr}{n:Nat}{H H':Hp}{x:V}{d:PyData}(s:Same H H')(h:RVx S n H x d):RVx S n H' x d:=h.kp (T:=[]) s.kp (by simp)
theorem RVx.now {S:List Addr}{n:Nat}{H:Hp}{x:V}{d:PyData}(h:RVx S n H x d):RV n H x d:=h H λ_ _ _ z=>z
theorem rvx_list {S:List Addr}{n:Nat}{H:Hp}{a:Addr}{xs:List V}{ds:List PyData}(ha:a∉S)(e:H a=some (.lst xs))(h:∀ H',(∀ a o,a∉S->H a=some o->H' a=some o)->Paired (RV n H') xs ds):RVx S (n+1) H (.ref a) (.list ds):=λH' g=>.inl ⟨_,_,.inl (g a _ ha e),rfl,h H' g⟩
theorem rvx_tup {S:List Addr}{n:Nat}{H:Hp}{a:Addr}{xs:List V}{ds:List PyData}(ha:a∉S)(e:H a=some (.tup xs))(h:∀ H',(∀ a o,a∉S->H a=some o->H' a=some o)->Paired (RV n H') xs ds):RVx S (n+1) H (.ref a) (.tuple ds):=λH' g=>.inr ⟨_,_,.inl (g a _ ha e),rfl,h H' g⟩
theorem not_in {S:List Addr}{H:Hp}(h:∀ a∈S,∃ o,H a=some o){a:Addr}(ha:H a=none):a∉S:=λz=>by obtain⟨o,ho⟩:=h a z;rw[ha] at ho;cases ho
theorem paired_snoc {α β:Type}{R:α->β->Prop}{xs:List α}{ys:List β}{x:α}{y:β}(h:Paired R xs ys)(hxy:R x y):Paired R (xs++[x]) (ys++[y]):=by
 induction h with
 | nil=>exact .cons hxy .nil
 | cons h _ ih=>exact .cons h ih
def PairS (S:List Addr)(n:Nat)(H:Hp)(ys:List V)(ds:List PyData):Prop:=∀ H':Hp,(∀ a o,a∉S->H a=some o->H' a=some o)->Paired (RV n H') ys ds
theorem PairS.kp {S T:List Addr}{n:Nat}{H H':Hp}{ys:List V}{ds:List PyData}(k:Kp T H H')(hs:∀ a∈T,a∈S)(h:PairS S n H ys ds):PairS S n H' ys ds:=λH'' g=>h H'' λa o ha ho=>g a o ha (k a o (λz=>ha (hs a z)) ho)
theorem PairS.same {S:List Addr}{n:Nat}{H H':Hp}{ys:List V}{ds:List PyData}(s:Same H H')(h:PairS S n H ys ds):PairS S n H' ys ds:=h.kp (T:=[]) s.kp (by simp)
theorem PairS.snoc {S:List Addr}{n:Nat}{H:Hp}{ys:List V}{ds:List PyData}{v:V}{d:PyData}(h:PairS S n H ys ds)(hv:RVx S n H v d):PairS S n H (ys++[v]) (ds++[d]):=λH' g=>paired_snoc (h H' g) (hv H' g)
theorem PairS.list {S:List Addr}{n:Nat}{H:Hp}{ys:List V}{ds:List PyData}{a:Addr}(h:PairS (a::S) n H ys ds)(ha:a∉S)(e:H a=some (.lst ys)):RVx S (n+1) H (.ref a) (.list ds):=rvx_list ha e λH' g=>h H' λb o hb ho=>g b o (λz=>hb (List.mem_cons_of_mem _ z)) ho
def Alive (S:List Addr)(H:Hp):Prop:=∀ a∈S,∃ o,H a=some o
theorem Alive.same {S:List Addr}{H H':Hp}(s:Same H H')(h:Alive S H):Alive S H':=λa ha=>let ⟨o,ho⟩:=h a ha;⟨o,s _ _ ho⟩
theorem Alive.cons {S:List Addr}{H:Hp}{a:Addr}{o:HO}(h:Alive S H)(e:H a=some o):Alive (a::S) H:=λb hb=>by
 rcases List.mem_cons.mp hb with rfl | hb
 ·exact⟨o,e⟩
 ·exact h b hb
abbrev zq4:Stmt:=top 24
theorem zq2r:FnScope ["row","many","bound","begins"] ["row","many"] (defScope zq4):=⟨rfl,rfl,rfl,by decide +kernel,rfl,by decide +kernel,by decide +kernel⟩
theorem zq5s:Loc (defScope zq4) "begins":=Or.inr (by kernel_rfl)
theorem zq67:Loc (defScope zq4) "bound":=Or.inl (by kernel_rfl)
theorem zq1n:Vis (defScope zq4) "bound":=Or.inl (by kernel_rfl)
theorem zq36:Vis (defScope zq4) "many":=Or.inl (by kernel_rfl)
theorem zq1b:Vis (defScope zq4) "row":=Or.inl (by kernel_rfl)
theorem zq3m:(defScope zq4).names.lookup ("least_greatest":Str)=some NameKind.globalImplicit:=by kernel_rfl
theorem zq51:(defScope zq4).names.lookup ("long_cut":Str)=some NameKind.globalImplicit:=by kernel_rfl
theorem zq6u:(defScope zq4).names.lookup ("max":Str)=some NameKind.globalImplicit:=by kernel_rfl
theorem zq68:(defScope zq4).names.lookup ("range":Str)=some NameKind.globalImplicit:=by kernel_rfl
def zq8o {cdv:Value}{A:Around}{outer:List Env}{s:Shared}{H:Hp}{E:XK}(B:Bl mg)(zq12:DefX P w K mg base 4 "least_greatest" ["row","many"] (spX_least_greatest Z))(zq1d:Def P w K mg base 1 "long_cut" ["row","bound"] zq30)(hr:Room 4 (A.deeper (PyProof.Rows.envOfC "paper_of_greatest" (defScope zq4) s.heap.objs.size f cdv))) :
  { t:TS // QB (cxE P w K mg base ["row","many","bound","begins"] "paper_of_greatest" (defScope zq4) f cdv A outer s H E) (defBody zq4) t } :=
 ⟨_,(qb_cons (qs_set (i:=2) zq2r.nd rfl zq67 (.inl rfl) (ke_ix (K:=K) rfl (qe_defX zq12 passes_cxE hr (by decide) zq3m (qa_cons (qv 0 rfl zq1b) (qa_cons (qv 1 rfl zq36) qa_nil))) qe_int (λ_ _=>rfl)))
  (qb_cons (qs_nox (qs_if (qt_cmp (kEqG (K:=K) rfl hr) (qv 2 rfl zq1n) (qe_cB (kMax (K:=K) rfl rfl) zq6u B.max boot_max' (qa_cons (qv 0 rfl zq1b) qa_nil))) (qb_one (qs_ret (qe_tup (qa_cons qe_str (qa_cons (ke_m1 (K:=K) rfl PySem.F.plainAttrs_list PySem.F.slot_list_index PySem.F.type_list_index mtIndex (qv 0 rfl zq1b) (qv 2 rfl zq1n)) qa_nil))))) qb_nil))
  (qb_cons (qs_nox (qs_set (i:=3) zq2r.nd rfl zq5s (.inl rfl) (qe_op opAdd (qe_lst (qa_cons qe_int qa_nil)) (qe_def zq1d hr (by decide) zq51 (qa_cons (qv 0 rfl zq1b) (qa_cons (qe_op opSub (qv 2 rfl zq1n) qe_int) qa_nil))))))
  (qb_one (qs_nox (qs_ret (qe_tup (qa_cons qe_str (qa_cons (qe_cp ["at","begins"] [none,some 3] rfl (qi_r1 zq68 B.range (qa_cons (qv 1 rfl zq36) qa_nil)) (λ_ _ _ _ _ _=>(qg_name (i:=0) (show (["at","begins"]:List Str).Nodup by decide +kernel) rfl (by first | exact Or.inl rfl | exact Or.inr rfl) (by first | exact .inl rfl | exact .inr rfl))) (λ_ _ _ _ _ _=>qif_nil) (λ_ _ _ _ _ _=>(qe_tup (qa_cons (ke_ix (K:=K) rfl (qv 1 rfl (by first | exact Or.inl rfl | exact Or.inr (Or.inl rfl) | exact Or.inr (Or.inr rfl))) (qv 0 rfl (by first | exact Or.inl rfl | exact Or.inr (Or.inl rfl) | exact Or.inr (Or.inr rfl))) (λ_ _=>rfl)) (qa_cons (qe_op opAdd (ke_ix (K:=K) rfl (qv 1 rfl (by first | exact Or.inl rfl | exact Or.inr (Or.inl rfl) | exact Or.inr (Or.inr rfl))) (qe_op opAdd (qv 0 rfl (by first | exact Or.inl rfl | exact Or.inr (Or.inl rfl) | exact Or.inr (Or.inr rfl))) qe_int) (λ_ _=>rfl)) qe_int) qa_nil))))) qa_nil)))))))))⟩
open M5 M10 M11 M7 M34
theorem great_iff {ns:List Int}{m:Nat}{t:Int}(rn:RowN ns)(hm1:1<=m)(hmn:m<=ns.length)(hT:T 0 ns (m-1) 0=some t):(∀ b,t<=b↔(∀ x∈ns,x<=b)/\gp b ns<=m)/\0<=t/\t<=ns.sum:=by
 have hnn:=rn.nn
 have hne:ns≠[]:=λz=>by have:=rn.ne;rw[z] at this;simp at this
 have hiff:∀ b,t<=b↔(∀ x∈ns,x<=b)/\gp b ns<=m:=λb=>by
  have:=T_iff0 hnn b (k:=m-1) (i:=0) (by omega) hT
  rw[show m-1+1=m by omega,List.drop_zero] at this;exact this
 have hall:=((hiff t).mp (Int.le_refl t)).1
 refine⟨hiff,?_,?_⟩
 ·cases ns with
  | nil=>exact absurd rfl hne
  | cons x xs=>have:=hnn x List.mem_cons_self;have:=hall x List.mem_cons_self;omega
 ·refine(hiff _).mpr ⟨λx hx=>mem_le_sum hnn x hx,?_⟩
  unfold gp
  rw[if_neg hne,lcut_nil _ 0 0 hnn (by omega)]
  simp;omega
theorem i_indexF {a:Addr}{z:Int}{H:Hp}{Q:VK}{ns:List Int}(h:H a=some (.lst (ns.map V.int)))(hz:z∈ns)(q:∀ j:Nat,ns[j]?=some z->(∀ i:Nat,i<j->ns[i]?≠some z)->Q (.int j) H):hIndex a z H Q:=by
 have key:∀ n:Nat,(∃ j:Nat,j<n/\ns[j]?=some z)->∃ j:Nat,ns[j]?=some z/\∀ i:Nat,i<j->ns[i]?≠some z:=by
  intro n
  induction n with
  | zero=>rintro⟨j,h,_⟩;omega
  | succ n ih =>
   rintro⟨j,h1,h2⟩
   by_cases c:∃ j:Nat,j<n/\ns[j]?=some z
   ·exact ih c
   ·exact⟨j,h2,λi hi hz=>c ⟨i,by omega,hz⟩⟩
 obtain⟨j,hj⟩:=List.mem_iff_getElem?.mp hz
 obtain⟨j,h1,h2⟩:=key (j+1) ⟨j,by omega,hj⟩
 unfold hIndex
 exact⟨ns,j,h,h1,h2,q j h1 h2⟩
def strD (bs:List Int)(k:Nat):PyData:=.tuple [.int (bs.getD k 0),.int (bs.getD (k+1) 0+1)]
def PapD (ns:List Int)(m:Nat)(t:Int)(d:PyData):Prop:=(∃ j:Nat,ns[j]?=some t/\(∀ i:Nat,i<j->ns[i]?≠some t)/\d=.tuple [.str "number",.int j])\/(t∉ns/\d=.tuple [.str "stretches",.list ((List.range m).map (strD (0::lcut (t-1) 0 0 ns)))])
theorem PapD.uniq {ns:List Int}{m:Nat}{t:Int}{d d':PyData}(h:PapD ns m t d)(h':PapD ns m t d'):d=d':=by
 rcases h with ⟨j,h1,h2,rfl⟩ | ⟨h1,rfl⟩
 ·rcases h' with ⟨i,g1,g2,rfl⟩ | ⟨g1,rfl⟩
  ·have:i=j:=by
    rcases Nat.lt_trichotomy i j with z | z | z
    ·exact absurd g1 (h2 i z)
    ·exact z
    ·exact absurd h1 (g2 j z)
   rw[this]
  ·exact absurd (List.mem_of_getElem? h1) g1
 ·rcases h' with ⟨i,g1,g2,rfl⟩ | ⟨g1,rfl⟩
  ·exact absurd (List.mem_of_getElem? g1) h1
  ·rfl
def spG_paper_of_greatest:Sp:=λvs H Q _=>∃ (r:Addr) (m:Nat) (ns:List Int) (t:Int),vs=[.ref r,.int m]/\H r=some (.lst (ns.map V.int))/\RowN ns/\1<=m/\m<=ns.length/\T 0 ns (m-1) 0=some t /\
 ∀ v d H',Same H H'->PapD ns m t d->(∀ S,Alive S H->RVx S 3 H' v d)->Q v H'
def zq1o (Z:Ecl):Sp:=λvs H Q E=>spG_paper_of_greatest vs H Q E\/spB Z vs H E
theorem zq85 (B:Bl mg)(zq12:DefX P w K mg base 4 "least_greatest" ["row","many"] (spX_least_greatest Z))(zq1d:Def P w K mg base 1 "long_cut" ["row","bound"] zq30)(F:Fun K "paper_of_greatest" "paper_of_greatest" zq4 f fd):FnOk P w K mg base (CXe P w) 5 f fd ["row","many"] (zq1o Z):=by
 refine F.okx zq2r (λvs H Q E h=>?_) (λcdv A outer s H vs Q E hr h=>?_)
 ·rcases h with ⟨r,m,ns,t,rfl,_⟩ | ⟨r,x,ns,rfl,_⟩<;>rfl
 refine⟨zq8o B zq12 zq1d hr,?_⟩
 rcases h with ⟨r,m,ns,t,rfl,hr0,rn,hm1,hmn,hT,q⟩ | ⟨r,x,ns,rfl,hr0,hx,q⟩
 rotate_left
 ·exact .inr ⟨r,x,ns,rfl,hr0,hx,q⟩
 have hle:ns.length<=1000:=by have:=rn.le;omega
 have hne:ns≠[]:=λz=>by have:=rn.ne;rw[z] at this;simp at this
 obtain⟨hiff,ht0,hts⟩:=great_iff rn hm1 hmn hT
 refine .inl ⟨r,m,ns,t,rfl,hr0,rn,hm1,hmn,hT,λp0 pc c H1 _ _ _ _ hp0 hpc s1 e1 _=>?_⟩
 refine i_ixT 0 e1 rfl rfl ?_
 have er1:=s1 _ _ hr0
 have hall:=((hiff t).mp (Int.le_refl t)).1
 refine i_max (SqL.of er1) hne λM hM hmax=>dec2 (λc=>?_) (λc=>?_)
 ·have c':t=M:=c
  refine⟨i_tyL er1,i_indexF er1 (by rw[c'];exact hM) λj hj hf=>?_⟩
  exact i_newT (by show 2<=sizeLine;decide) λp H2 hp s2 e2=>q (.ref p) _ H2 (s1.trans s2) (.inl ⟨j,hj,hf,rfl⟩) λS hS=>rvx_tup (not_in hS (s1.free hp)) e2 λH'' g=>.cons rfl (.cons rfl .nil)
 ·have c':¬ t=M:=c
  have hb:∀ n∈ns,n<=t-1:=λn hn=>by have:=hmax n hn;have:=hall M hM;omega
  have hnt:t∉ns:=λz=>by have:=hb t z;omega
  refine i_newL (by show 1<=sizeLine;decide) λp2 H2 hp2 s2 e2=>?_
  refine⟨r,t-1,ns,rfl,s2 _ _ er1,hne,hle,λ⟨n,hn,hlt⟩=>(by have:=hb n hn;omega),λ_ lc H3 hlc s3 e3=>?_⟩
  refine i_cat (s3 _ _ e2) e3 (sz_of (by simp;have:=lcut_len (t-1) ns 0 0;omega)) λbg H4 hbg s4 e4=>?_
  have e4':H4 bg=some (.lst (((0:Int)::lcut (t-1) 0 0 ns).map V.int)):=e4
  have hgp:m<gp (t-1) ns:=by
   have:=hiff (t-1)
   rcases Nat.lt_or_ge m (gp (t-1) ns) with z | z
   ·exact z
   ·have:=this.mpr ⟨hb,z⟩;omega
  have hgl:gp (t-1) ns=(lcut (t-1) 0 0 ns).length+1:=by unfold gp;rw[if_neg hne]
  have hbl:m+1<=((0:Int)::lcut (t-1) 0 0 ns).length:=by simp;omega
  have s14:=s1.trans (s2.trans (s3.trans s4))
  have hpd:∀ d,d=.tuple [.str "stretches",.list ((List.range m).map (strD (0::lcut (t-1) 0 0 ns)))]->PapD ns m t d:=λd e=>.inr ⟨hnt,e⟩
  generalize ((0:Int)::lcut (t-1) 0 0 ns)=bs at e4' hbl hpd
  refine⟨⟨by omega,by omega⟩,comp_rng (λi D σ H' ys=>Same H4 H'/\ys.length=i/\(∀ S,Alive S H4->PairS (D::S) 1 H' ys ((List.range i).map (strD bs)))/\∃ o,σ=[o,some (.ref bg)]) ?_ ?_ ?_⟩
  ·intro D H' hD s' e'
   exact⟨s',rfl,λS _ H'' g=>.nil,_,rfl⟩
  ·rintro i D σ H' ys hi hD ⟨s',hyl,hpr,o,rfl⟩ eD
   have ebg:=s' _ _ e4'
   have hx:∀ k:Nat,k<=m->(bs.map V.int)[k]?=some (.int (bs.getD k 0)):=λk hk=>by
    rw[List.getElem?_map,List.getElem?_eq_getElem (by omega)]
    simp[List.getD_eq_getElem?_getD,List.getElem?_eq_getElem (show k<bs.length by omega)]
   refine bT (i_ixN (v:=.int (bs.getD i 0)) i ebg (by omega) (hx i (by omega)) (i_ixN (v:=.int (bs.getD (i+1) 0)) (i+1) ebg (by omega) (hx (i+1) (by omega)) ?_))
   refine i_newT (by show 2<=sizeLine;decide) λtu H6 htu s6 e6=>?_
   refine⟨s6 _ _ eD,sz_lt (by omega),λH7 k7 e7=>⟨(s'.trans s6).new k7 hD,by simp[hyl],λS hS=>?_,_,rfl⟩⟩
   rw[List.range_succ,List.map_append]
   refine(((hpr S hS).same s6).kp k7 (by simp)).snoc ?_
   exact(show RVx (D::S) 1 H6 (.ref tu) (strD bs i) from rvx_tup (not_in ((hS.same s').cons eD) htu) e6 λH'' g=>.cons rfl (.cons rfl .nil)).kp k7 (by simp)
  ·rintro D σ H5 ys hD ⟨s5,hyl,hpr,_⟩ eD
   have em:((m:Int)).toNat=m:=by omega
   rw[em] at hpr
   refine i_newT (by show 2<=sizeLine;decide) λp H6 hp s6 e6=>?_
   refine q (.ref p) _ H6 (s14.trans (s5.trans s6)) (hpd _ rfl) λS hS=>rvx_tup (not_in hS ((s14.trans s5).free hp)) e6 λH'' g=>.cons rfl (.cons ?_ .nil)
   have hS4:=hS.same s14
   exact(((hpr S hS4).list (not_in hS4 hD) eD).same s6) H'' g
abbrev zq2i:Stmt:=top 27
theorem zqc4:FnScope ["row","thing","least","begin","end"] ["row","thing","least"] (defScope zq2i):=⟨rfl,rfl,rfl,by decide +kernel,rfl,by decide +kernel,by decide +kernel⟩
abbrev zq8:Stmt:=top 26
theorem zq2s:FnScope ["row","many","thing","least","stretch"] ["row","many","thing"] (defScope zq8):=⟨rfl,rfl,rfl,by decide +kernel,rfl,by decide +kernel,by decide +kernel⟩
theorem zq4c:Loc (defScope zq8) "least":=Or.inl (by kernel_rfl)
theorem zq6v:Loc (defScope zq8) "stretch":=Or.inl (by kernel_rfl)
theorem zq7o:Vis (defScope zq8) "least":=Or.inl (by kernel_rfl)
theorem zq86:Vis (defScope zq8) "many":=Or.inl (by kernel_rfl)
theorem zq8p:Vis (defScope zq8) "row":=Or.inl (by kernel_rfl)
theorem zq3h:Vis (defScope zq8) "stretch":=Or.inl (by kernel_rfl)
theorem zq2j:Vis (defScope zq8) "thing":=Or.inl (by kernel_rfl)
theorem zq5t:(defScope zq8).names.lookup ("is_stretch":Str)=some NameKind.globalImplicit:=by kernel_rfl
theorem zq5u:(defScope zq8).names.lookup ("isinstance":Str)=some NameKind.globalImplicit:=by kernel_rfl
theorem zq8q:(defScope zq8).names.lookup ("len":Str)=some NameKind.globalImplicit:=by kernel_rfl
theorem zq87:(defScope zq8).names.lookup ("list":Str)=some NameKind.globalImplicit:=by kernel_rfl
def zqb7 {cdv:Value}{A:Around}{outer:List Env}{s:Shared}{H:Hp}{E:XK}(B:Bl mg)(zq37:Def P w K mg base 3 "is_stretch" ["row","thing","least"] zq3y)(hr:Room 3 (A.deeper (PyProof.Rows.envOfC "are_stretches" (defScope zq8) s.heap.objs.size f cdv))) :
  { t:TS // QB (cxOf CX0 P w K mg base ["row","many","thing","least","stretch"] "are_stretches" (defScope zq8) f cdv A outer s H E).nox (defBody zq8) t } :=
 ⟨_,(qb_cons (qs_if (QW.pt (qw_or (qt_not (kt_val (K:=K) rfl (qe_cB (kIsiG (K:=K) rfl) zq5u B.isinstance boot_isinstance' (qa_cons (qv 2 rfl zq2j) (qa_cons (qe_ty zq87 B.list boot_list) qa_nil))))) (qw_or1 (qt_cmp (kNeG (K:=K) rfl hr) (qe_cB (kLen (K:=K) rfl) zq8q B.len boot_len' (qa_cons (qv 2 rfl zq2j) qa_nil)) (qv 1 rfl zq86))))) (qb_one (qs_ret qe_bl)) qb_nil)
  (qb_cons (qs_set (i:=3) zq2s.nd rfl zq4c (.inl rfl) qe_int)
  (qb_mid (qs_for PassesOwn.never rfl (ki_list (K:=K) rfl (qv 2 rfl zq2j)) (qg_name (i:=4) zq2s.nd rfl zq6v (.inl rfl)) (qb_cons (qs_if (qt_not (kt_val (K:=K) rfl (qe_def zq37 hr (by decide) zq5t (qa_cons (qv 0 rfl zq8p) (qa_cons (qv 4 rfl zq3h) (qa_cons (qv 3 rfl zq7o) qa_nil)))))) (qb_one (qs_ret qe_bl)) qb_nil)
  (qb_one (qs_set (i:=3) zq2s.nd rfl zq4c (.inl rfl) (qe_op opSub (ke_ix (K:=K) rfl (qv 4 rfl zq3h) qe_int (λ_ _=>rfl)) qe_int)))))
  (qb_one (qs_ret qe_bl)))))⟩
abbrev zq3:Stmt:=top 25
theorem zq44:FnScope ["row","many","thing","word","shown"] ["row","many","thing"] (defScope zq3):=⟨rfl,rfl,rfl,by decide +kernel,rfl,by decide +kernel,by decide +kernel⟩
theorem zq7p:Loc (defScope zq3) "shown":=Or.inl (by kernel_rfl)
theorem zq88:Loc (defScope zq3) "word":=Or.inl (by kernel_rfl)
theorem zq4k:Vis (defScope zq3) "many":=Or.inl (by kernel_rfl)
theorem zq1x:Vis (defScope zq3) "row":=Or.inr (Or.inl (by kernel_rfl))
theorem zq1g:Vis (defScope zq3) "shown":=Or.inl (by kernel_rfl)
theorem zq1h:Vis (defScope zq3) "thing":=Or.inl (by kernel_rfl)
theorem zq4l:Vis (defScope zq3) "word":=Or.inl (by kernel_rfl)
theorem zq4v:(defScope zq3).names.lookup ("are_stretches":Str)=some NameKind.globalImplicit:=by kernel_rfl
theorem zq5v:(defScope zq3).names.lookup ("check_many":Str)=some NameKind.globalImplicit:=by kernel_rfl
theorem zq69:(defScope zq3).names.lookup ("is_within":Str)=some NameKind.globalImplicit:=by kernel_rfl
theorem zq2x:(defScope zq3).names.lookup ("isinstance":Str)=some NameKind.globalImplicit:=by kernel_rfl
theorem zq4x:(defScope zq3).names.lookup ("len":Str)=some NameKind.globalImplicit:=by kernel_rfl
theorem zq8r:(defScope zq3).names.lookup ("min":Str)=some NameKind.globalImplicit:=by kernel_rfl
theorem zq8s:(defScope zq3).names.lookup ("str":Str)=some NameKind.globalImplicit:=by kernel_rfl
theorem zq7q:(defScope zq3).names.lookup ("tuple":Str)=some NameKind.globalImplicit:=by kernel_rfl
def zqb8 {cdv:Value}{A:Around}{outer:List Env}{s:Shared}{H:Hp}{E:XK}(B:Bl mg)(zq2:DefX P w K mg base 3 "check_many" ["row","many"] (spX_check_many Z))(zqs:Def P w K mg base 2 "is_within" ["thing","low","high"] zq17)(zq23:Def P w K mg base 4 "are_stretches" ["row","many","thing"] zq2t)(hr:Room 4 (A.deeper (PyProof.Rows.envOfC "says_greatest" (defScope zq3) s.heap.objs.size f cdv))) :
  { t:TS // QB (cxE P w K mg base ["row","many","thing","word","shown"] "says_greatest" (defScope zq3) f cdv A outer s H E) (defBody zq3) t } :=
 ⟨_,(qb_cons (qs_ex (qe_defX zq2 passes_cxE hr (by decide) zq5v (qa_cons (qv 0 rfl zq1x) (qa_cons (qv 1 rfl zq4k) qa_nil))))
  (qb_cons (qs_nox (qs_if (QW.pt (qw_or (qt_not (kt_val (K:=K) rfl (qe_cB (kIsiG (K:=K) rfl) zq2x B.isinstance boot_isinstance' (qa_cons (qv 2 rfl zq1h) (qa_cons (qe_ty zq7q B.tuple boot_tuple) qa_nil))))) (qw_or (qt_cmp (kNeG (K:=K) rfl hr) (qe_cB (kLen (K:=K) rfl) zq4x B.len boot_len' (qa_cons (qv 2 rfl zq1h) qa_nil)) qe_int) (qw_or1 (qt_not (kt_val (K:=K) rfl (qe_cB (kIsiG (K:=K) rfl) zq2x B.isinstance boot_isinstance' (qa_cons (ke_ix (K:=K) rfl (qv 2 rfl zq1h) qe_int (λ_ _=>rfl)) (qa_cons (qe_ty zq8s B.str boot_str) qa_nil))))))))) (qb_one (qs_ret qe_non)) qb_nil))
  (qb_cons (qs_nox (qs_asg (qv 2 rfl zq1h) (kg_tup (K:=K) rfl rfl (qgs_cons (qg_name (i:=3) zq44.nd rfl zq88 (.inl rfl)) (qgs_cons (qg_name (i:=4) zq44.nd rfl zq7p (.inl rfl)) qgs_nil)))))
  (qb_cons (qs_nox (qs_if (QW.pt (qw_and (qt_cmp (kEqG (K:=K) rfl hr) (qv 3 rfl zq4l) qe_str) (qw_and1 (kt_val (K:=K) rfl (qe_def zqs hr (by decide) zq69 (qa_cons (qv 4 rfl zq1g) (qa_cons qe_int (qa_cons (qe_op opSub (qe_cB (kLen (K:=K) rfl) zq4x B.len boot_len' (qa_cons (qv 0 rfl zq1x) qa_nil)) qe_int) qa_nil)))))))) (qb_one (qs_ret (ke_ix (K:=K) rfl (qv 0 rfl zq1x) (qv 4 rfl zq1g) (λ_ _=>rfl)))) qb_nil))
  (qb_cons (qs_nox (qs_if (QW.pt (qw_and (qt_cmp (kEqG (K:=K) rfl hr) (qv 3 rfl zq4l) qe_str) (qw_and1 (kt_val (K:=K) rfl (qe_def zq23 hr (by decide) zq4v (qa_cons (qv 0 rfl zq1x) (qa_cons (qv 1 rfl zq4k) (qa_cons (qv 4 rfl zq1g) qa_nil)))))))) (qb_one (qs_ret (qe_cB (kMin (K:=K) rfl rfl) zq8r B.min boot_min' (qa_cons (qe_cp ["begin","end","row"] [none,none,some 0] rfl (ki_list (K:=K) rfl (qv 4 rfl zq1g)) (λ_ _ _ _ _ _=>(kg_tup (K:=K) rfl rfl (qgs_cons (qg_name (i:=0) (show (["begin","end","row"]:List Str).Nodup by decide +kernel) rfl (by first | exact Or.inl rfl | exact Or.inr rfl) (by first | exact .inl rfl | exact .inr rfl)) (qgs_cons (qg_name (i:=1) (show (["begin","end","row"]:List Str).Nodup by decide +kernel) rfl (by first | exact Or.inl rfl | exact Or.inr rfl) (by first | exact .inl rfl | exact .inr rfl)) qgs_nil)))) (λ_ _ _ _ _ _=>qif_nil) (λ_ _ _ _ _ _=>(qe_cB (kSum (K:=K) rfl rfl) rfl B.sum boot_sum' (qa_cons (ke_slice (K:=K) rfl (qv 2 rfl (by first | exact Or.inl rfl | exact Or.inr (Or.inl rfl) | exact Or.inr (Or.inr rfl))) (qo_some (qv 0 rfl (by first | exact Or.inl rfl | exact Or.inr (Or.inl rfl) | exact Or.inr (Or.inr rfl)))) (qo_some (qv 1 rfl (by first | exact Or.inl rfl | exact Or.inr (Or.inl rfl) | exact Or.inr (Or.inr rfl))))) qa_nil)))) qa_nil)))) qb_nil))
  (qb_one (qs_nox (qs_ret qe_non))))))))⟩
open M5 M10 M11 M34
abbrev nzs (cs:List Nat):List Int:=cs.map λ(n:Nat)=>(n:Int)
theorem nzs_at {cs:List Nat}{i:Nat}{x:V}(h:((nzs cs).map V.int)[i]?=some x):∃ n:Nat,x=.int n/\cs[i]?=some n:=by
 rw[List.getElem?_map,List.getElem?_map] at h
 cases e:cs[i]? with
 | none=>rw[e] at h;cases h
 | some n=>rw[e] at h;exact⟨n,(Option.some.inj h).symm,rfl⟩
theorem cut_is:∀ {xs:List V} {lo hi:Int},0<=lo->cutB lo hi xs=true->∃ qs:List Nat,xs=(nzs qs).map V.int/\qs.Pairwise (·<·)/\∀ q∈qs,lo<=(q:Int)/\(q:Int)<=hi
 | [],_,_,_,_=>⟨[],rfl,.nil,λ_ z=>nomatch z⟩
 | .int i::xs,lo,hi,h0,h=>by
  simp only[cutB,Bool.and_eq_true,decide_eq_true_eq] at h
  obtain⟨⟨h1,h2⟩,h3⟩:=h
  obtain⟨qs,e,up,hq⟩:=cut_is (lo:=i+1) (by omega) h3
  refine⟨i.toNat::qs,?_,List.pairwise_cons.mpr ⟨λq z=>?_,up⟩,λq z=>?_⟩
  ·rw[e];simp;omega
  ·have:=(hq q z).1;omega
  ·rcases List.mem_cons.mp z with rfl | z
   ·constructor<;>omega
   ·have:=hq q z;constructor<;>omega
 | .non::_,_,_,_,h | .bl _::_,_,_,_,h | .str _::_,_,_,_,h | .ref _::_,_,_,_,h | .byt _::_,_,_,_,h | .flt _::_,_,_,_,h | .ty _::_,_,_,_,h=>by cases h
theorem cut_of:∀ {qs:List Nat} {lo hi:Int},qs.Pairwise (·<·)->(∀ q∈qs,lo<=(q:Int)/\(q:Int)<=hi)->cutB lo hi ((nzs qs).map V.int)=true
 | [],_,_,_,_=>rfl
 | q::qs,lo,hi,up,h=>by
  obtain⟨u1,u2⟩:=List.pairwise_cons.mp up
  have:=h q List.mem_cons_self
  simp only[nzs,List.map_cons,cutB,Bool.and_eq_true,decide_eq_true_eq]
  refine⟨this,cut_of u2 λp hp=>⟨?_,(h p (List.mem_cons_of_mem _ hp)).2⟩⟩
  have:=u1 p hp;omega
def Pp (H:Hp)(n m:Nat)(x:V)(qs:List Nat):Prop:=lsOf H x=some ((nzs qs).map V.int)/\PlN qs n/\qs.length<m
theorem pl_of {qs:List Nat}{n:Nat}(up:qs.Pairwise (·<·))(h:∀ q∈qs,(0:Int)<=(q:Int)/\(q:Int)<=(n:Int)-1):PlN qs n:=⟨up,λq hq=>by have:=(h q hq).2;omega⟩
theorem tp_lst {H:Hp}{a:Addr}{xs:List V}(e:H a=some (.lst xs)):tpOf H (.ref a)=none:=by simp only[tpOf,e]
theorem tp_dK {H:Hp}{a:Addr}{kvs:List (Key×V)}(e:H a=some (.dK kvs)):tpOf H (.ref a)=none:=by simp only[tpOf,e]
def zq3y:Sp:=λvs _ _ _=>∃ x y z,vs=[x,y,z]/\False
theorem zqc5 (B:Bl mg)(zqs:Def P w K mg base 2 "is_within" ["thing","low","high"] zq17)(F:Fun K "is_stretch" "is_stretch" zq2i f fd):FnOk P w K mg base CX0 3 f fd ["row","thing","least"] zq3y:=by
 refine F.okq zqc4 (λvs H Q E h=>?_) (λcdv A outer s H vs Q E hr h=>?_)
 ·obtain⟨x,y,z,rfl,_⟩:=h;rfl
 obtain⟨x,y,z,rfl,h⟩:=h
 exact h.elim
def zq2t:Sp:=λvs H Q _=>∃ (r a:Addr) (m:Nat),vs=[.ref r,.int m,.ref a]/\H a=some (.lst [])/\1<=m/\Q (.bl false) H
theorem zqaf (B:Bl mg)(zq37:Def P w K mg base 3 "is_stretch" ["row","thing","least"] zq3y)(F:Fun K "are_stretches" "are_stretches" zq8 f fd):FnOk P w K mg base CX0 4 f fd ["row","many","thing"] zq2t:=by
 refine F.okq zq2s (λvs H Q E h=>?_) (λcdv A outer s H vs Q E hr h=>?_)
 ·obtain⟨r,a,m,rfl,_⟩:=h;rfl
 obtain⟨r,a,m,rfl,ea,hm,q⟩:=h
 refine⟨zqb7 B zq37 hr,?_⟩
 refine An.isList (.odd (.lst ea)) ?_
 rw[lsOf_lst ea]
 exact bF (i_lenL ea (ndec2 (λc=>q) (λc=>absurd c (by simp;omega))))
inductive Th (H:Hp):Nat->V->Prop where
 | num {a:Addr} (e:H a=some (.tup [.str "number",.int 0])):Th H 0 (.ref a)
 | nil {a:Addr} (e:H a=some (.lst [])):Th H 1 (.ref a)
 | non:Th H 2 .non
 | one {a:Addr} (e:H a=some (.lst [.int 0])):Th H 3 (.ref a)
 | str {a b:Addr} (e:H a=some (.tup [.str "stretches",.ref b])) (f:H b=some (.lst [])):Th H 4 (.ref a)
 | dct {a:Addr} (e:H a=some (.dK [])):Th H 5 (.ref a)
def lk:Nat->Option (List Nat)
 | 1=>some []
 | 3=>some [0]
 | _=>none
theorem Th.ls {H:Hp}{k:Nat}{x:V}(h:Th H k x):lsOf H x=(lk k).map λqs=>(nzs qs).map V.int:=by
 cases h with
 | num e=>simp only[lsOf,e];rfl
 | nil e=>simp only[lsOf,e];rfl
 | non=>rfl
 | one e=>simp only[lsOf,e];rfl
 | str e f=>simp only[lsOf,e];rfl
 | dct e=>simp only[lsOf,e];rfl
theorem Th.an {H:Hp}{k:Nat}{x:V}(h:Th H k x):An H x:=by
 cases h with
 | num e=>exact .odd (.tup e)
 | nil e=>exact .odd (.lst e)
 | non=>exact .odd .non
 | one e=>exact .odd (.lst e)
 | str e f=>exact .odd (.tup e)
 | dct e=>exact .dK e
theorem Th.anl {H:Hp}{k:Nat}{x:V}(h:Th H k x):AnL H x:=⟨h.an,λxs e y hy=>by
 rw[h.ls] at e
 cases hk:lk k with
 | none=>rw[hk] at e;cases e
 | some qs =>
  rw[hk] at e
  cases e
  obtain⟨i,_,rfl⟩:=List.mem_map.mp hy
  exact .int i⟩
def spG_says_greatest:Sp:=λvs H Q _=>∃ (r:Addr) (x:V) (m k:Nat) (ns:List Int),vs=[.ref r,.int m,x]/\H r=some (.lst (ns.map V.int))/\RowN ns/\1<=m/\m<=ns.length/\Th H k x/\(k=0->Q (.int (ns.getD 0 0)) H)/\(k≠0->Q .non H)
def spB3 (Z:Ecl):List V->Hp->XK->Prop:=λvs H E=>∃ (r:Addr) (x y:V) (ns:List Int),vs=[.ref r,x,y]/\H r=some (.lst (ns.map V.int))/\NoM H ns.length x/\E (.ref Z.NoMany) none H
def zq2u (Z:Ecl):Sp:=λvs H Q E=>spG_says_greatest vs H Q E\/spB3 Z vs H E
theorem zqag (B:Bl mg)(zq2:DefX P w K mg base 3 "check_many" ["row","many"] (spX_check_many Z))(zqs:Def P w K mg base 2 "is_within" ["thing","low","high"] zq17)(zq23:Def P w K mg base 4 "are_stretches" ["row","many","thing"] zq2t)(F:Fun K "says_greatest" "says_greatest" zq3 f fd):FnOk P w K mg base (CXe P w) 5 f fd ["row","many","thing"] (zq2u Z):=by
 refine F.okx zq44 (λvs H Q E h=>?_) (λcdv A outer s H vs Q E hr h=>?_)
 ·rcases h with ⟨r,x,m,k,ns,rfl,_⟩ | ⟨r,x,y,ns,rfl,_⟩<;>rfl
 refine⟨zqb8 B zq2 zqs zq23 hr,?_⟩
 rcases h with ⟨r,x,m,k,ns,rfl,er,rn,hm1,hmn,hx,q0,qn⟩ | ⟨r,x,y,ns,rfl,hr0,hx,q⟩
 rotate_left
 ·exact⟨r,_,_,rfl,hr0,.inr ⟨by rw[List.length_map];exact hx,q⟩⟩
 have hge:=rn.ne
 have hle:=rn.le
 refine⟨r,_,_,rfl,er,.inl ⟨m,rfl,by omega,by rw[List.length_map];omega,?_⟩⟩
 refine hx.an.isTup ?_
 cases hx with
 | num e =>
  rw[tpOf_tup e]
  refine bF (i_lenT e (ndec2 (λc=>absurd rfl c) (λc=>?_)))
  refine i_ixT 0 e rfl rfl (An.isStr (.odd (.str _)) (bF (i_unp e rfl ?_)))
  refine bIs (by simp) (i_lenI er ⟨_,0,_,rfl,.int 0,?_⟩)
  have hw:inW (.int 0) 0 ((ns.length:Int)-1)=true:=decide_eq_true ⟨by decide,by omega⟩
  rw[hw]
  exact bT (i_ixI er (by decide) (by omega) (q0 rfl))
 | str e f =>
  rw[tpOf_tup e]
  refine bF (i_lenT e (ndec2 (λc=>absurd rfl c) (λc=>?_)))
  refine i_ixT 0 e rfl rfl (An.isStr (.odd (.str _)) (bF (i_unp e rfl ?_)))
  have c1:¬ (Str.ofString "stretches"=Str.ofString "number"):=by decide +kernel
  exact bNo (by simp[c1]) (bF (bIs (by simp) ⟨r,_,m,rfl,f,hm1,bF (qn (by decide))⟩))
 | nil e=>rw[tp_lst e];exact bT (bT (qn (by decide)))
 | one e=>rw[tp_lst e];exact bT (bT (qn (by decide)))
 | non=>exact bT (bT (qn (by decide)))
 | dct e=>rw[tp_dK e];exact bT (bT (qn (by decide)))
abbrev zqh:Stmt:=top 28
theorem zq63:FnScope ["row","many","bound"] ["row","many"] (defScope zqh):=⟨rfl,rfl,rfl,by decide +kernel,rfl,by decide +kernel,by decide +kernel⟩
theorem zq7a:Loc (defScope zqh) "bound":=Or.inl (by kernel_rfl)
theorem zq7b:Vis (defScope zqh) "bound":=Or.inl (by kernel_rfl)
theorem zq7r:Vis (defScope zqh) "many":=Or.inl (by kernel_rfl)
theorem zq4m:Vis (defScope zqh) "row":=Or.inl (by kernel_rfl)
theorem zq4e:(defScope zqh).names.lookup ("greatest_least":Str)=some NameKind.globalImplicit:=by kernel_rfl
theorem zq5l:(defScope zqh).names.lookup ("short_ends":Str)=some NameKind.globalImplicit:=by kernel_rfl
def zqah {cdv:Value}{A:Around}{outer:List Env}{s:Shared}{H:Hp}{E:XK}(B:Bl mg)(zq13:DefX P w K mg base 4 "greatest_least" ["row","many"] (spX_greatest_least Z))(zqt:Def P w K mg base 1 "short_ends" ["row","bound"] zq1a)(hr:Room 4 (A.deeper (PyProof.Rows.envOfC "paper_of_least" (defScope zqh) s.heap.objs.size f cdv))) :
  { t:TS // QB (cxE P w K mg base ["row","many","bound"] "paper_of_least" (defScope zqh) f cdv A outer s H E) (defBody zqh) t } :=
 ⟨_,(qb_cons (qs_set (i:=2) zq63.nd rfl zq7a (.inl rfl) (ke_ix (K:=K) rfl (qe_defX zq13 passes_cxE hr (by decide) zq4e (qa_cons (qv 0 rfl zq4m) (qa_cons (qv 1 rfl zq7r) qa_nil))) qe_int (λ_ _=>rfl)))
  (qb_one (qs_nox (qs_ret (qe_cp ["end"] [none] rfl (ki_list (K:=K) rfl (qe_def zqt hr (by decide) zq5l (qa_cons (qv 0 rfl zq4m) (qa_cons (qe_op opAdd (qv 2 rfl zq7b) qe_int) qa_nil)))) (λ_ _ _ _ _ _=>(qg_name (i:=0) (show (["end"]:List Str).Nodup by decide +kernel) rfl (by first | exact Or.inl rfl | exact Or.inr rfl) (by first | exact .inl rfl | exact .inr rfl))) (λ_ _ _ _ _ _=>qif_nil) (λ_ _ _ _ _ _=>(qe_op opSub (qv 0 rfl (by first | exact Or.inl rfl | exact Or.inr (Or.inl rfl) | exact Or.inr (Or.inr rfl))) qe_int)))))))⟩
abbrev zqm:Stmt:=top 29
theorem zq8g:FnScope ["row","many","thing","begins"] ["row","many","thing"] (defScope zqm):=⟨rfl,rfl,rfl,by decide +kernel,rfl,by decide +kernel,by decide +kernel⟩
theorem zq8t:Loc (defScope zqm) "begins":=Or.inl (by kernel_rfl)
theorem zq8u:Vis (defScope zqm) "begins":=Or.inl (by kernel_rfl)
theorem zq64:Vis (defScope zqm) "many":=Or.inl (by kernel_rfl)
theorem zq45:Vis (defScope zqm) "row":=Or.inr (Or.inl (by kernel_rfl))
theorem zq24:Vis (defScope zqm) "thing":=Or.inl (by kernel_rfl)
theorem zq6w:(defScope zqm).names.lookup ("are_places":Str)=some NameKind.globalImplicit:=by kernel_rfl
theorem zq6x:(defScope zqm).names.lookup ("check_many":Str)=some NameKind.globalImplicit:=by kernel_rfl
theorem zq6m:(defScope zqm).names.lookup ("len":Str)=some NameKind.globalImplicit:=by kernel_rfl
theorem zqai:(defScope zqm).names.lookup ("max":Str)=some NameKind.globalImplicit:=by kernel_rfl
theorem zqaj:(defScope zqm).names.lookup ("zip":Str)=some NameKind.globalImplicit:=by kernel_rfl
def zqch {cdv:Value}{A:Around}{outer:List Env}{s:Shared}{H:Hp}{E:XK}(B:Bl mg)(zq2:DefX P w K mg base 3 "check_many" ["row","many"] (spX_check_many Z))(zq38:Def P w K mg base 3 "are_places" ["row","thing","first"] zq3x)(hr:Room 3 (A.deeper (PyProof.Rows.envOfC "says_least" (defScope zqm) s.heap.objs.size f cdv))) :
  { t:TS // QB (cxE P w K mg base ["row","many","thing","begins"] "says_least" (defScope zqm) f cdv A outer s H E) (defBody zqm) t } :=
 ⟨_,(qb_cons (qs_ex (qe_defX zq2 passes_cxE hr (by decide) zq6x (qa_cons (qv 0 rfl zq45) (qa_cons (qv 1 rfl zq64) qa_nil))))
  (qb_cons (qs_nox (qs_if (QW.pt (qw_or (qt_not (kt_val (K:=K) rfl (qe_def zq38 hr (by decide) zq6w (qa_cons (qv 0 rfl zq45) (qa_cons (qv 2 rfl zq24) (qa_cons qe_int qa_nil)))))) (qw_or1 (qt_cmp opGe (qe_cB (kLen (K:=K) rfl) zq6m B.len boot_len' (qa_cons (qv 2 rfl zq24) qa_nil)) (qv 1 rfl zq64))))) (qb_one (qs_ret qe_non)) qb_nil))
  (qb_cons (qs_nox (qs_set (i:=3) zq8g.nd rfl zq8t (.inl rfl) (qe_op opAdd (qe_lst (qa_cons qe_int qa_nil)) (qe_cp ["place"] [none] rfl (ki_list (K:=K) rfl (qv 2 rfl zq24)) (λ_ _ _ _ _ _=>(qg_name (i:=0) (show (["place"]:List Str).Nodup by decide +kernel) rfl (by first | exact Or.inl rfl | exact Or.inr rfl) (by first | exact .inl rfl | exact .inr rfl))) (λ_ _ _ _ _ _=>qif_nil) (λ_ _ _ _ _ _=>(qe_op opAdd (qv 0 rfl (by first | exact Or.inl rfl | exact Or.inr (Or.inl rfl) | exact Or.inr (Or.inr rfl))) qe_int))))))
  (qb_one (qs_nox (qs_ret (qe_cB (kMax (K:=K) rfl rfl) zqai B.max boot_max' (qa_cons (qe_cp ["begin","end","row"] [none,none,some 0] rfl (ki_zip (K:=K) rfl zqaj B.zip (qa_cons (qv 3 rfl zq8u) (qa_cons (qe_op opAdd (qv 2 rfl zq24) (qe_lst (qa_cons (qe_cB (kLen (K:=K) rfl) zq6m B.len boot_len' (qa_cons (qv 0 rfl zq45) qa_nil)) qa_nil))) qa_nil))) (λ_ _ _ _ _ _=>(kg_tup (K:=K) rfl rfl (qgs_cons (qg_name (i:=0) (show (["begin","end","row"]:List Str).Nodup by decide +kernel) rfl (by first | exact Or.inl rfl | exact Or.inr rfl) (by first | exact .inl rfl | exact .inr rfl)) (qgs_cons (qg_name (i:=1) (show (["begin","end","row"]:List Str).Nodup by decide +kernel) rfl (by first | exact Or.inl rfl | exact Or.inr rfl) (by first | exact .inl rfl | exact .inr rfl)) qgs_nil)))) (λ_ _ _ _ _ _=>qif_nil) (λ_ _ _ _ _ _=>(qe_cB (kSum (K:=K) rfl rfl) rfl B.sum boot_sum' (qa_cons (ke_slice (K:=K) rfl (qv 2 rfl (by first | exact Or.inl rfl | exact Or.inr (Or.inl rfl) | exact Or.inr (Or.inr rfl))) (qo_some (qv 0 rfl (by first | exact Or.inl rfl | exact Or.inr (Or.inl rfl) | exact Or.inr (Or.inr rfl)))) (qo_some (qv 1 rfl (by first | exact Or.inl rfl | exact Or.inr (Or.inl rfl) | exact Or.inr (Or.inr rfl))))) qa_nil)))) qa_nil))))))))⟩
open M5 M10 M11 M34
def spG_paper_of_least:Sp:=λvs H Q _=>∃ (r:Addr) (m:Nat) (ns:List Int) (t:Int),vs=[.ref r,.int m]/\H r=some (.lst (ns.map V.int))/\RowN ns/\1<=m/\m<=ns.length/\T 1 ns (m-1) 0=some t /\
 ∀ p H',H p=none->Same H H'->H' p=some (.lst (((sends (t+1) 0 0 ns).map (·-1)).map V.int))->Q (.ref p) H'
def zq2c (Z:Ecl):Sp:=λvs H Q E=>spG_paper_of_least vs H Q E\/spB Z vs H E
theorem zq9p (B:Bl mg)(zq13:DefX P w K mg base 4 "greatest_least" ["row","many"] (spX_greatest_least Z))(zqt:Def P w K mg base 1 "short_ends" ["row","bound"] zq1a)(F:Fun K "paper_of_least" "paper_of_least" zqh f fd):FnOk P w K mg base (CXe P w) 5 f fd ["row","many"] (zq2c Z):=by
 refine F.okx zq63 (λvs H Q E h=>?_) (λcdv A outer s H vs Q E hr h=>?_)
 ·rcases h with ⟨r,m,ns,t,rfl,_⟩ | ⟨r,x,ns,rfl,_⟩<;>rfl
 refine⟨zqah B zq13 zqt hr,?_⟩
 rcases h with ⟨r,m,ns,t,rfl,hr0,rn,hm1,hmn,hT,q⟩ | ⟨r,x,ns,rfl,hr0,hx,q⟩
 rotate_left
 ·exact .inr ⟨r,x,ns,rfl,hr0,hx,q⟩
 have hle:ns.length<=1000:=by have:=rn.le;omega
 refine .inl ⟨r,m,ns,t,rfl,hr0,rn,hm1,hmn,hT,λp pc H1 ht0 htb s1 e1=>?_⟩
 refine i_ixT 0 e1 rfl rfl ?_
 refine⟨r,t+1,ns,rfl,s1 _ _ hr0,hle,λp2 H2 hp2 s2 e2=>?_⟩
 have hsl:=sends_len (t+1) ns 0 0
 refine⟨⟨_,SqL.of e2⟩,comp_lst ((sends (t+1) 0 0 ns).map V.int) (λi D σ H' ys=>ys=(((sends (t+1) 0 0 ns).map (·-1)).take i).map V.int/\Same H2 H'/\∃ o,σ=[o]) ?_ ?_ ?_ ?_⟩
 ·intro D H' hD s' e'
  exact⟨rfl,s',_,rfl⟩
 ·rintro i D σ H' ys hD ⟨_,s',_⟩
  exact SqL.of (s' _ _ e2)
 ·rintro i x D σ H' ys hx hD ⟨rfl,s',o,rfl⟩ eD
  obtain⟨z,rfl,hz,_⟩:=vints_at hx
  refine bT ⟨eD,sz_lt (by rw[List.length_map,List.length_take,List.length_map];omega),λH6 k6 e6=>⟨?_,s'.new k6 hD,_,rfl⟩⟩
  rw[take_snoc (x:=z-1) (by rw[List.getElem?_map,hz];rfl),List.map_append];rfl
 ·rintro D σ H' ys hD ⟨rfl,s',_⟩ eD
  rw[List.take_of_length_le (by simp)] at eD
  exact q D H' ((s1.trans s2).free hD) (s1.trans (s2.trans s')) eD
def spG_says_least:Sp:=λvs H Q _=>∃ (r:Addr) (x:V) (m:Nat) (ns:List Int),vs=[.ref r,.int m,x]/\H r=some (.lst (ns.map V.int))/\RowN ns/\1<=m/\m<=ns.length/\AnL H x /\
 (∀ qs,Pp H ns.length m x qs->∀ M H',M∈gaps ns 0 qs->(∀ g∈gaps ns 0 qs,g<=M)->Same H H'->Q (.int M) H')/\((¬ ∃ qs,Pp H ns.length m x qs)->Q .non H)
def zq3z (Z:Ecl):Sp:=λvs H Q E=>spG_says_least vs H Q E\/spB3 Z vs H E
theorem zqc6 (B:Bl mg)(zq2:DefX P w K mg base 3 "check_many" ["row","many"] (spX_check_many Z))(zq38:Def P w K mg base 3 "are_places" ["row","thing","first"] zq3x)(F:Fun K "says_least" "says_least" zqm f fd):FnOk P w K mg base (CXe P w) 4 f fd ["row","many","thing"] (zq3z Z):=by
 refine F.okx zq8g (λvs H Q E h=>?_) (λcdv A outer s H vs Q E hr h=>?_)
 ·rcases h with ⟨r,x,m,ns,rfl,_⟩ | ⟨r,x,y,ns,rfl,_⟩<;>rfl
 refine⟨zqch B zq2 zq38 hr,?_⟩
 rcases h with ⟨r,x,m,ns,rfl,hr0,rn,hm1,hmn,hx,q,qn⟩ | ⟨r,x,y,ns,rfl,hr0,hx,q⟩
 rotate_left
 ·exact⟨r,_,_,rfl,hr0,.inr ⟨by rw[List.length_map];exact hx,q⟩⟩
 have hle:ns.length<=1000:=by have:=rn.le;omega
 refine⟨r,_,_,rfl,hr0,.inl ⟨m,rfl,by omega,by rw[List.length_map];omega,?_⟩⟩
 refine⟨r,x,0,_,rfl,hr0,hx,?_⟩
 rw[List.length_map]
 have nl:cutOf H 0 ((ns.length:Int)-1) x=false->¬ ∃ qs,Pp H ns.length m x qs:=λhc ⟨qs,e,pl,_⟩=>by
  rw[cutOf_some e,cut_of pl.up λp hp=>⟨by omega,by have:=pl.hi p hp;omega⟩] at hc
  cases hc
 cases hc:cutOf H 0 ((ns.length:Int)-1) x with
 | false=>exact bT (bT (qn (nl hc)))
 | true =>
 cases hl:lsOf H x with
 | none=>rw[cutOf_none hl] at hc;cases hc
 | some xs =>
 rw[cutOf_some hl] at hc
 obtain⟨qs,rfl,up,hq⟩:=cut_is (by decide) hc
 have pl:PlN qs ns.length:=pl_of up hq
 obtain⟨p,rfl,hp0⟩:=lsOf_some hl
 refine bF (i_lenI hp0 (dec2 (λhlm=>?_) (λhlm=>?_)))
 ·refine qn λ⟨qs2,e,_,hl2⟩=>?_
  rw[hl] at e
  have e2:=congrArg List.length (Option.some.inj e)
  simp at e2 hlm
  omega
 replace hlm:qs.length<m:=by simp at hlm;omega
 replace q:=q qs ⟨hl,pl,hlm⟩
 refine i_newL (by show 1<=sizeLine;decide) λp1 H1 hp1 s1 e1=>?_
 have ep1:=s1 _ _ hp0
 refine⟨⟨_,SqL.of ep1⟩,comp_lst ((nzs qs).map V.int) (λi D σ H' ys=>ys=((nzs (qs.map (·+1))).take i).map V.int/\Same H1 H'/\∃ o,σ=[o]) ?_ ?_ ?_ ?_⟩
 ·intro D H' hD s' e'
  exact⟨rfl,s',_,rfl⟩
 ·rintro i D σ H' ys hD ⟨_,s',_⟩
  exact SqL.of (s' _ _ ep1)
 ·rintro i x D σ H' ys hx hD ⟨rfl,s',o,rfl⟩ eD
  obtain⟨n,rfl,hn⟩:=nzs_at hx
  refine bT ⟨eD,sz_lt (by simp;omega),λH6 k6 e6=>⟨?_,s'.new k6 hD,_,rfl⟩⟩
  rw[take_snoc (x:=((n+1:Nat):Int)) (by simp[hn]),List.map_append];rfl
 rintro D σ H2 ys hD ⟨rfl,s2,_⟩ e2
 rw[List.take_of_length_le (by simp)] at e2
 refine i_cat (s2 _ _ e1) e2 (sz_of (by simp;omega)) λbg H3 hbg s3 e3=>?_
 have e3':H3 bg=some (.lst ((nzs (0::qs.map (·+1))).map V.int)):=e3
 have er3:=s3 _ _ (s2 _ _ (s1 _ _ hr0))
 have ep3:=s3 _ _ (s2 _ _ ep1)
 refine i_lenI er3 (i_newL (by show 1<=sizeLine;decide) λp4 H4 hp4 s4 e4=>?_)
 refine i_cat (s4 _ _ ep3) e4 (sz_of (by simp;omega)) λp5 H5 hp5 s5 e5=>?_
 have e5':H5 p5=some (.lst ((nzs (qs++[ns.length])).map V.int)):=by rw[e5];simp
 have e3'':=s5 _ _ (s4 _ _ e3')
 have er5:=s5 _ _ (s4 _ _ er3)
 refine⟨⟨_,SqL.of e3''⟩,⟨_,SqL.of e5'⟩,comp_zip ((nzs (0::qs.map (·+1))).map V.int) ((nzs (qs++[ns.length])).map V.int) (by simp) (λk D σ H' ys=>ys=((gaps ns 0 qs).take k).map V.int/\Same H5 H'/\∃ o1 o2,σ=[o1,o2,some (.ref r)]) ?_ ?_ ?_ ?_⟩
 ·intro D H' hD s' e'
  exact⟨rfl,s',_,_,rfl⟩
 ·rintro k D σ H' ys hD ⟨_,s',_⟩
  exact⟨SqL.of (s' _ _ e3''),SqL.of (s' _ _ e5')⟩
 ·rintro k x y T D σ H' H'' ys hx hy hD ⟨rfl,s',o1,o2,rfl⟩ eD hT sT eT
  obtain⟨x,rfl,hx1⟩:=nzs_at hx
  obtain⟨y,rfl,hy1⟩:=nzs_at hy
  have hyl:y<=ns.length:=by
   rcases List.mem_append.mp (List.mem_of_getElem? hy1) with h | h
   ·exact Nat.le_of_lt (pl.hi y h)
   ·simp at h;omega
  have hxy:x<=y:=pl_le pl hx1 hy1
  refine i_unp eT rfl (bT (i_sl (SqL.of (sT _ _ (s' _ _ er5))) λqa H6 hq s6 e6=>?_))
  rw[cutV_ints,HT.sIx_nat,HT.sIx_nat,Nat.min_eq_left (show x<=ns.length by omega),Nat.min_eq_left hyl] at e6
  refine i_sum (SqL.of e6) ?_
  rw[slice_seg hxy]
  refine⟨s6 _ _ (sT _ _ eD),sz_lt (by rw[List.length_map,List.length_take,gaps_len];omega),λH7 k7 e7=>⟨?_,(s'.trans (sT.trans s6)).new k7 hD,_,_,rfl⟩⟩
  rw[take_snoc (gaps_at ns qs 0 k x y hx1 hy1),List.map_append];rfl
 ·rintro D σ H' ys hD ⟨rfl,s',_⟩ eD
  rw[List.take_of_length_le (by simp[gaps_len])] at eD
  refine i_max (SqL.of eD) (gaps_ne ns qs 0) λM hM hmax=>?_
  exact q M H' hM hmax (s1.trans (s2.trans (s3.trans (s4.trans (s5.trans s')))))
structure LL (H:Hp)(p:Addr)(ps:List Addr)(pss:List (List Int)):Prop where
 at_:H p=some (.lst (ps.map V.ref))
 nd:ps.Nodup
 np:p∉ps
 it:Paired (λa ns=>H a=some (.lst (List.map V.int ns))) ps pss
section
variable {H H':Hp}{p:Addr}{ps S:List Addr}{pss:List (List Int)}
end
abbrev zs (cs:List Nat):List Int:=cs.map λ(n:Nat)=>(n:Int)
theorem zs_at {cs:List Nat}{i:Nat}{x:V}(h:((zs cs).map V.int)[i]?=some x):∃ n:Nat,x=.int n/\cs[i]?=some n:=by
 obtain⟨z,rfl,hz,_⟩:=vints_at h
 rw[List.getElem?_map] at hz
 cases e:cs[i]? with
 | none=>rw[e] at hz;cases hz
 | some n=>rw[e] at hz;cases hz;exact⟨n,rfl,rfl⟩
open M3 M5 M10 M11 M7 M34
theorem first_cut_ok {ns:List Int}{t:Int}{l i:Nat}{c:List Int}(h:FirstCut 0 ns t l i c)(hi:i<ns.length)(hw:worse 0 (T 0 ns l i) t=false):∃ cs:List Nat,c=zs cs/\cs.Pairwise (·<·)/\(∀ x∈cs,i<x/\x<ns.length)/\∀ q∈pcs ns i cs,q.sum<=t:=by
 induction h with
 | nil i =>
  refine⟨[],rfl,.nil,by simp,λq hq=>?_⟩
  simp only[pcs,List.mem_singleton] at hq
  subst hq
  simp only[T,if_pos hi,worse,if_pos] at hw
  rw[<- seg_all]
  have:¬ t<seg ns i ns.length:=of_decide_eq_false hw
  omega
 | step h1 h2 h3 h4 h5 h6 ih =>
  rename_i l i e c
  obtain⟨cs,e1,e2,e3,e4⟩:=ih h2 h4
  refine⟨e::cs,by rw[e1];rfl,List.pairwise_cons.mpr ⟨λx hx=>(e3 x hx).1,e2⟩,λx hx=>?_,λq hq=>?_⟩
  ·rcases List.mem_cons.mp hx with rfl | hx
   ·exact⟨h1,h2⟩
   ·have:=e3 x hx;omega
  ·simp only[pcs] at hq
   rcases List.mem_cons.mp hq with rfl | hq
   ·rw[slice_seg (by omega)]
    simp only[worse,if_pos] at h3
    have:¬ t<seg ns i e:=of_decide_eq_false h3
    omega
   ·exact e4 q hq
open M3 M5 M10 M11 M7 M34 M40
theorem first_lex {ns:List Int}{t:Int}{l i:Nat}{c:List Int}(h:FirstCut 0 ns t l i c):∀ cs:List Nat,c=zs cs->i<ns.length->∀ ds:List Nat,ds.length=l->ds.Pairwise (·<·)->(∀ d∈ds,i<d/\d<ns.length)->(∀ p∈pcs ns i ds,p.sum<=t)->¬ Ahead ds cs:=by
 induction h with
 | nil i =>
  intro cs e _ ds hl _ _ _ ha
  have:ds=[]:=List.length_eq_zero_iff.mp hl
  subst this
  exact ha.elim
 | step h1 h2 h3 h4 h5 h6 ih =>
  rename_i l i e c
  intro cs ec hi ds hl hp hd hk ha
  cases cs with
  | nil=>simp at ec
  | cons e' cs =>
   simp only[zs,List.map_cons,List.cons.injEq] at ec
   obtain⟨e1,e2⟩:=ec
   have e1:e=e':=by omega
   subst e1
   cases ds with
   | nil=>exact ha.elim
   | cons d ds =>
    obtain⟨p1,p2⟩:=List.pairwise_cons.mp hp
    have hd0:=hd d List.mem_cons_self
    have hin:∀ x∈ds,d<x/\x<ns.length:=λx hx=>⟨p1 x hx,(hd x (List.mem_cons_of_mem _ hx)).2⟩
    have hk':∀ p∈pcs ns d ds,p.sum<=t:=λp hp=>hk p (by simp only[pcs];exact List.mem_cons_of_mem _ hp)
    rcases ha with ha | ⟨rfl,ha⟩
    ·rcases h5 d hd0.1 ha with z | z
     ·have:=hk ((ns.drop i).take (d-i)) (by simp[pcs])
      rw[slice_seg (by omega)] at this
      simp only[worse,if_true,decide_eq_true_eq] at z
      omega
     ·obtain⟨v,hv,hvt⟩:=T_le l d ds (by simpa using hl) p2 hin hd0.2 hk'
      rw[hv] at z
      simp only[worse,if_true,decide_eq_true_eq] at z
      omega
    ·exact ih cs e2 h2 ds (by simpa using hl) p2 hin hk' ha
theorem lg_facts {os:List Int}{m:Nat}{t:Int}{c:List Int}(m1:1<=m)(mn:m<=os.length)(hT:T 0 os (m-1) 0=some t)(hF:FirstCut 0 os t (m-1) 0 c) :
  ∃ cs:List Nat,c=zs cs/\CutN cs os.length/\cs.length+1=m/\(∀ p∈pcs os 0 cs,p.sum<=t)/\(∀ (ds:List Nat) (u:Int),CutN ds os.length->ds.length+1=m->(∀ p∈pcs os 0 ds,p.sum<=u)->t<=u)/\∀ ds:List Nat,CutN ds os.length->ds.length+1=m->(∀ p∈pcs os 0 ds,p.sum<=t)->¬ Ahead ds cs:=by
 have hw:worse 0 (T 0 os (m-1) 0) t=false:=by rw[hT];simp[worse]
 obtain⟨cs,e1,e2,e3,e4⟩:=first_cut_ok hF (by omega) hw
 have hl:=hF.len
 have hcl:cs.length=m-1:=by rw[e1] at hl;simpa using hl
 refine⟨cs,e1,⟨e2,λx hx=>(e3 x hx).1,λx hx=>(e3 x hx).2⟩,by omega,e4,λds u h1 h2 h3=>?_,λds h1 h2 h3=>?_⟩
 ·obtain⟨v,hv,hvu⟩:=T_le (m-1) 0 ds (by omega) h1.up (λc hc=>⟨h1.lo c hc,h1.hi c hc⟩) (by omega) h3
  rw[hT] at hv
  cases hv
  exact hvu
 ·exact first_lex hF cs e1 (by omega) ds (by omega) h1.up (λc hc=>⟨h1.lo c hc,h1.hi c hc⟩) h3
abbrev zqo:Stmt:=top 32
theorem zq4n:FnScope ["row","many","first","opened","bound","cut"] ["row","many","first"] (defScope zqo):=⟨rfl,rfl,rfl,by decide +kernel,rfl,by decide +kernel,by decide +kernel⟩
theorem zq9q:Loc (defScope zqo) "bound":=Or.inl (by kernel_rfl)
theorem zqb9:Loc (defScope zqo) "cut":=Or.inl (by kernel_rfl)
theorem zq96:Loc (defScope zqo) "opened":=Or.inl (by kernel_rfl)
theorem zq9r:Vis (defScope zqo) "bound":=Or.inl (by kernel_rfl)
theorem zqba:Vis (defScope zqo) "cut":=Or.inl (by kernel_rfl)
theorem zq3n:Vis (defScope zqo) "first":=Or.inr (Or.inl (by kernel_rfl))
theorem zqak:Vis (defScope zqo) "many":=Or.inl (by kernel_rfl)
theorem zq97:Vis (defScope zqo) "opened":=Or.inl (by kernel_rfl)
theorem zq4o:Vis (defScope zqo) "row":=Or.inl (by kernel_rfl)
theorem zq5w:(defScope zqo).names.lookup ("least_greatest":Str)=some NameKind.globalImplicit:=by kernel_rfl
theorem zqbb:(defScope zqo).names.lookup ("sum":Str)=some NameKind.globalImplicit:=by kernel_rfl
def zqd0 {cdv:Value}{A:Around}{outer:List Env}{s:Shared}{H:Hp}{E:XK}(B:Bl mg)(zq1u:Def P w K mg base 4 "least_greatest" ["row","many"] zq1l)(hr:Room 4 (A.deeper (PyProof.Rows.envOfC "best_from" (defScope zqo) s.heap.objs.size f cdv))) :
  { t:TS // QB (cxOf CX0 P w K mg base ["row","many","first","opened","bound","cut"] "best_from" (defScope zqo) f cdv A outer s H E).nox (defBody zqo) t } :=
 ⟨_,(qb_cons (qs_set (i:=3) zq4n.nd rfl zq96 (.inl rfl) (qe_op opAdd (ke_slice (K:=K) rfl (qv 0 rfl zq4o) (qo_some (qv 2 rfl zq3n)) (qo_some (qe_un unNeg qe_int))) (qe_lst (qa_cons (qe_op opAdd (ke_ix (K:=K) rfl (qv 0 rfl zq4o) (qe_un unNeg qe_int) (λ_ _=>rfl)) (qe_cB (kSum (K:=K) rfl rfl) zqbb B.sum boot_sum' (qa_cons (ke_slice (K:=K) rfl (qv 0 rfl zq4o) qo_none (qo_some (qv 2 rfl zq3n))) qa_nil))) qa_nil))))
  (qb_cons (qs_asg (qe_def zq1u hr (by decide) zq5w (qa_cons (qv 3 rfl zq97) (qa_cons (qv 1 rfl zqak) qa_nil))) (kg_tup (K:=K) rfl rfl (qgs_cons (qg_name (i:=4) zq4n.nd rfl zq9q (.inl rfl)) (qgs_cons (qg_name (i:=5) zq4n.nd rfl zqb9 (.inl rfl)) qgs_nil))))
  (qb_one (qs_ret (qe_tup (qa_cons (qv 4 rfl zq9r) (qa_cons (qe_op opAdd (qe_lst (qa_cons (qv 2 rfl zq3n) qa_nil)) (qe_cp ["place","first"] [none,some 2] rfl (ki_list (K:=K) rfl (qv 5 rfl zqba)) (λ_ _ _ _ _ _=>(qg_name (i:=0) (show (["place","first"]:List Str).Nodup by decide +kernel) rfl (by first | exact Or.inl rfl | exact Or.inr rfl) (by first | exact .inl rfl | exact .inr rfl))) (λ_ _ _ _ _ _=>qif_nil) (λ_ _ _ _ _ _=>(qe_op opAdd (qv 1 rfl (by first | exact Or.inl rfl | exact Or.inr (Or.inl rfl) | exact Or.inr (Or.inr rfl))) (qv 0 rfl (by first | exact Or.inl rfl | exact Or.inr (Or.inl rfl) | exact Or.inr (Or.inr rfl))))))) qa_nil)))))))⟩
open M3 M5 M10 M11 M7 M34 M40 M25 M39
def zq4p:Sp:=λvs H Q _=>∃ (r:Addr) (m f:Nat) (ns:List Int),vs=[.ref r,.int m,.int f]/\H r=some (.lst (ns.map V.int))/\RowM ns/\1<=m/\f+m<=ns.length /\
 ∀ (p pc:Addr) (v:Int) (qs:List Nat) (H':Hp),FB ns m f v qs->0<=v->H p=none->H pc=none->p≠pc->Same H H'->H' p=some (.tup [.int v,.ref pc])->H' pc=some (.lst ((zs qs).map V.int))->Q (.ref p) H'
theorem cutV_mid (ns:List Int){f:Nat}(h:f<ns.length):cutV (ns.map V.int) (some (f:Int)) (some (-1))=((ns.drop f).dropLast).map V.int:=by
 rw[cutV_ints,HT.sIx_nat,Nat.min_eq_left (Nat.le_of_lt h)]
 have e:HT.sIx ns.length ns.length (some (-1))=ns.length-1:=by
  unfold HT.sIx
  simp
  omega
 rw[e,List.dropLast_eq_take,List.length_drop]
 congr 2;omega
theorem opn_row {ns:List Int}(rn:RowM ns){f:Nat}(h:f<ns.length):RowN (opn ns f):=by
 have hl:=opn_len h
 have hle:=rn.le
 have hsum:=S_bd rn.nn rn.ub f
 refine⟨by omega,by omega,λn hn=>?_,λn hn=>?_⟩
 ·unfold opn at hn
  rcases List.mem_append.mp hn with hn | hn
  ·exact rn.nn n (List.mem_of_mem_drop (List.dropLast_sublist _ |>.subset hn))
  ·have hln:ns.getLastD 0∈ns:=by
    have hne:ns≠[]:=λz=>by rw[z] at h;simp at h
    rw[List.getLastD_eq_getLast?,List.getLast?_eq_some_getLast hne];exact List.getLast_mem hne
   have:=rn.nn _ hln
   have:n=ns.getLastD 0+S ns f:=by simpa using hn
   omega
 ·unfold opn at hn
  rcases List.mem_append.mp hn with hn | hn
  ·have:=rn.ub n (List.mem_of_mem_drop (List.dropLast_sublist _ |>.subset hn));omega
  ·have hln:ns.getLastD 0∈ns:=by
    have hne:ns≠[]:=λz=>by rw[z] at h;simp at h
    rw[List.getLastD_eq_getLast?,List.getLast?_eq_some_getLast hne];exact List.getLast_mem hne
   have:=rn.ub _ hln
   have:n=ns.getLastD 0+S ns f:=by simpa using hn
   omega
theorem zqci (B:Bl mg)(zq1u:Def P w K mg base 4 "least_greatest" ["row","many"] zq1l)(F:Fun K "best_from" "best_from" zqo f fd):FnOk P w K mg base CX0 5 f fd ["row","many","first"] zq4p:=by
 refine F.okq zq4n (λvs H Q E h=>?_) (λcdv A outer s H vs Q E hr h=>?_)
 ·obtain⟨r,m,f,ns,rfl,_⟩:=h;rfl
 obtain⟨r,m,f,ns,rfl,hr0,rn,m1,mn,q⟩:=h
 refine⟨zqd0 B zq1u hr,?_⟩
 have hf:f<ns.length:=by omega
 have hle:=rn.le
 refine i_sl (SqL.of hr0) λp1 H1 hp1 s1 e1=>?_
 rw[cutV_mid ns hf] at e1
 have hr1:=s1 _ _ hr0
 have hne:ns≠[]:=λz=>by rw[z] at hf;simp at hf
 have elast:ns.map V.int=ns.dropLast.map V.int++[.int (ns.getLastD 0)]:=by
  have e:ns.getLastD 0=ns.getLast hne:=by rw[List.getLastD_eq_getLast?,List.getLast?_eq_some_getLast hne];rfl
  conv=>lhs;rw[<- List.dropLast_concat_getLast hne]
  rw[List.map_append,e];rfl
 have hr1':=hr1
 rw[elast] at hr1'
 refine i_ix (.inl (SqL.of hr1')) (atI_last _ _) ?_
 refine i_sl (SqL.of hr1) λp2 H2 hp2 s2 e2=>?_
 rw[cutV_ints,HT.sIx_none,HT.sIx_nat,Nat.min_eq_left (Nat.le_of_lt hf),List.drop_zero,Nat.sub_zero] at e2
 refine i_sum (SqL.of e2) ?_
 refine i_newL (by show 1<=sizeLine;decide) λp3 H3 hp3 s3 e3=>?_
 refine i_cat (s3 _ _ (s2 _ _ e1)) e3 (sz_of (by simp;omega)) λpo H4 hpo s4 e4=>?_
 have e4':H4 po=some (.lst ((opn ns f).map V.int)):=by
  rw[e4]
  unfold opn
  rw[List.map_append];rfl
 have s14:=s1.trans (s2.trans (s3.trans s4))
 have ro:=opn_row rn hf
 have hol:=opn_len hf
 obtain⟨t,hT⟩:=T_some (w:=0) (ns:=opn ns f) (k:=m-1) (i:=0) (by omega)
 refine⟨po,m,opn ns f,t,rfl,e4',ro,m1,by omega,hT,λp5 pc5 c H5 t0 _ hF _ hp5 hpc5 s5 e5 ec5=>?_⟩
 obtain⟨cs,rfl,hcut,hcl,hk,hmin,hfst⟩:=lg_facts m1 (by omega) hT hF
 rw[hol] at hcut
 refine i_unp e5 rfl ?_
 refine i_newL (by show 1<=sizeLine;decide) λp6 H6 hp6 s6 e6=>?_
 have ec6:=s6 _ _ ec5
 have hcl1:=cut_len hcut
 refine⟨⟨_,SqL.of ec6⟩,comp_lst ((zs cs).map V.int) (λk D σ H' ys=>ys=((zs (cs.map (f+·))).take k).map V.int/\Same H6 H'/\∃ o,σ=[o,some (.int f)]) ?_ ?_ ?_ ?_⟩
 ·intro D H' hD s' e'
  exact⟨rfl,s',_,rfl⟩
 ·rintro k D σ H' ys hD ⟨_,s',_⟩
  exact SqL.of (s' _ _ ec6)
 ·rintro k x D σ H' ys hx hD ⟨rfl,s',o,rfl⟩ eD
  obtain⟨z,rfl,hz⟩:=zs_at hx
  refine bT ⟨eD,sz_lt (by simp;omega),λH7 k7 e7=>⟨?_,s'.new k7 hD,_,rfl⟩⟩
  have hc:(zs (cs.map (f+·)))[k]?=some ((f:Int)+z):=by
   rw[List.getElem?_map,List.getElem?_map,hz]
   simp
  rw[take_snoc hc,List.map_append];rfl
 ·rintro D σ H7 ys hD ⟨rfl,s7,_⟩ eD
  rw[List.take_of_length_le (by simp)] at eD
  refine i_cat (s7 _ _ e6) eD (sz_of (by simp;omega)) λp8 H8 hp8 s8 e8=>?_
  have e8':H8 p8=some (.lst ((zs (f::cs.map (f+·))).map V.int)):=e8
  refine i_newT (by show 2<=sizeLine;decide) λp9 H9 hp9 s9 e9=>?_
  have s49:=s5.trans (s6.trans (s7.trans s8))
  have fb:FB ns m f t (f::cs.map (f+·)):=by
   refine⟨cut_pl hf hcut,by simp[hcl],(opn_rk hf hcut).mp hk,λds u h1 h2 h3=>hmin ds u (by rw[hol];exact h1) h2 ((opn_rk hf h1).mpr h3),λds h1 h2 h3 ha=>?_⟩
   refine hfst ds (by rw[hol];exact h1) h2 ((opn_rk hf h1).mpr h3) ?_
   rcases ha with ha | ⟨_,ha⟩
   ·exact absurd ha (Nat.lt_irrefl _)
   ·exact ahead_map (λx y h=>by omega) ha
  refine q p9 p8 t _ H9 fb t0 ((s14.trans s49).free hp9) ((s14.trans (s5.trans (s6.trans s7))).free hp8) (ne_of_none e8 hp9).symm (s14.trans (s49.trans s9)) e9 (s9 _ _ e8')
end
end K
namespace K
open PySem L2
section
variable {C:Addr}{Z:Ecl}{P:Program}{w:World}{K:W.Frag}{mg:Str->Option Value}{base:Heap}{f:Addr}{fd:FuncData}
abbrev zq7:Stmt:=top 31
theorem zq7c:FnScope ["row","many"] ["row","many"] (defScope zq7):=⟨rfl,rfl,rfl,by decide +kernel,rfl,by decide +kernel,by decide +kernel⟩
theorem zq2y:Vis (defScope zq7) "many":=Or.inr (Or.inl (by kernel_rfl))
theorem zq33:Vis (defScope zq7) "row":=Or.inr (Or.inl (by kernel_rfl))
theorem zq46:(defScope zq7).names.lookup ("check_many":Str)=some NameKind.globalImplicit:=by kernel_rfl
theorem zq6a:(defScope zq7).names.lookup ("len":Str)=some NameKind.globalImplicit:=by kernel_rfl
theorem zq6b:(defScope zq7).names.lookup ("min":Str)=some NameKind.globalImplicit:=by kernel_rfl
theorem zq5m:(defScope zq7).names.lookup ("range":Str)=some NameKind.globalImplicit:=by kernel_rfl
def zq7s {cdv:Value}{A:Around}{outer:List Env}{s:Shared}{H:Hp}{E:XK}(B:Bl mg)(zq2:DefX P w K mg base 3 "check_many" ["row","many"] (spX_check_many Z))(zq3s:Def P w K mg base 5 "best_from" ["row","many","first"] zq4p)(hr:Room 5 (A.deeper (PyProof.Rows.envOfC "ring_least_greatest" (defScope zq7) s.heap.objs.size f cdv))) :
  { t:TS // QB (cxE P w K mg base ["row","many"] "ring_least_greatest" (defScope zq7) f cdv A outer s H E) (defBody zq7) t } :=
 ⟨_,(qb_cons (qs_ex (qe_defX zq2 passes_cxE hr (by decide) zq46 (qa_cons (qv 0 rfl zq33) (qa_cons (qv 1 rfl zq2y) qa_nil))))
  (qb_one (qs_nox (qs_ret (qe_cB (kMinT hr rfl) zq6b B.min boot_min' (qa_cons (qe_cp ["first","row","many"] [none,some 0,some 1] rfl (qi_r1 zq5m B.range (qa_cons (qe_op opAdd (qe_op opSub (qe_cB (kLen (K:=K) rfl) zq6a B.len boot_len' (qa_cons (qv 0 rfl zq33) qa_nil)) (qv 1 rfl zq2y)) qe_int) qa_nil)) (λ_ _ _ _ _ _=>(qg_name (i:=0) (show (["first","row","many"]:List Str).Nodup by decide +kernel) rfl (by first | exact Or.inl rfl | exact Or.inr rfl) (by first | exact .inl rfl | exact .inr rfl))) (λ_ _ _ _ _ _=>qif_nil) (λ_ _ _ _ _ _=>(qe_def zq3s hr (by decide) rfl (qa_cons (qv 1 rfl (by first | exact Or.inl rfl | exact Or.inr (Or.inl rfl) | exact Or.inr (Or.inr rfl))) (qa_cons (qv 2 rfl (by first | exact Or.inl rfl | exact Or.inr (Or.inl rfl) | exact Or.inr (Or.inr rfl))) (qa_cons (qv 0 rfl (by first | exact Or.inl rfl | exact Or.inr (Or.inl rfl) | exact Or.inr (Or.inr rfl))) qa_nil)))))) qa_nil))))))⟩
open M3 M40 M25 M39
def spG_ring_least_greatest:Sp:=λvs H Q _=>∃ (r:Addr) (m:Nat) (ns:List Int),vs=[.ref r,.int m]/\H r=some (.lst (ns.map V.int))/\RowM ns/\1<=m/\m<=ns.length /\
 ∀ (p pc:Addr) (v:Int) (qs:List Nat) (H':Hp),RB ns m v qs->0<=v->H p=none->H pc=none->Same H H'->H' p=some (.tup [.int v,.ref pc])->H' pc=some (.lst ((zs qs).map V.int))->Q (.ref p) H'
theorem ltI_ahead:∀ {xs ys:List Nat},xs.length=ys.length->Ahead xs ys->ltI (zs xs) (zs ys)=true
 | x::xs,y::ys,hl,h=>by
  unfold ltI
  simp only[zs,List.map_cons,lexB]
  rcases h with h | ⟨rfl,h⟩
  ·rw[if_neg (by omega)]
   simpa using h
  ·rw[if_pos rfl]
   exact ltI_ahead (by simpa using hl) h
def zq1e (Z:Ecl):Sp:=λvs H Q E=>spG_ring_least_greatest vs H Q E\/spB Z vs H E
theorem zq7d (B:Bl mg)(zq2:DefX P w K mg base 3 "check_many" ["row","many"] (spX_check_many Z))(zq3s:Def P w K mg base 5 "best_from" ["row","many","first"] zq4p)(F:Fun K "ring_least_greatest" "ring_least_greatest" zq7 f fd):FnOk P w K mg base (CXe P w) 6 f fd ["row","many"] (zq1e Z):=by
 refine F.okx zq7c (λvs H Q E h=>?_) (λcdv A outer s H vs Q E hr h=>?_)
 ·rcases h with ⟨r,m,ns,rfl,_⟩ | ⟨r,x,ns,rfl,_⟩<;>rfl
 refine⟨zq7s B zq2 zq3s hr,?_⟩
 rcases h with ⟨r,m,ns,rfl,hr0,rn,m1,mn,q⟩ | ⟨r,x,ns,rfl,hr0,hx,q⟩
 rotate_left
 ·exact⟨r,_,_,rfl,hr0,.inr ⟨by rw[List.length_map];exact hx,q⟩⟩
 have hle:=rn.le
 refine⟨r,_,_,rfl,hr0,.inl ⟨m,rfl,by omega,by rw[List.length_map];omega,?_⟩⟩
 refine i_lenI hr0 ⟨⟨by omega,by omega⟩,comp_rng (λi D σ H' ys=>Same H H'/\(∃ ts:List Addr,ys=ts.map V.ref/\ts.length=i/\∀ (j:Nat) t,ts[j]?=some t->t≠D/\H t=none/\∃ (pc:Addr) (v:Int) (qs:List Nat),pc≠D/\H pc=none/\H' t=some (.tup [.int v,.ref pc])/\H' pc=some (.lst ((zs qs).map V.int))/\FB ns m j v qs/\0<=v)/\∃ o,σ=[o,some (.ref r),some (.int m)]) ?_ ?_ ?_⟩
 ·intro D H' hD s' e'
  exact⟨s',⟨[],rfl,rfl,by simp⟩,_,rfl⟩
 ·rintro i D σ H' ys hi hD ⟨s',⟨ts,rfl,htl,hts⟩,o,rfl⟩ eD
  have hi':i+m<=ns.length:=by omega
  refine bT ⟨r,m,i,ns,by rw[Int.zero_add];rfl,s' _ _ hr0,rn,m1,hi',λp pc v qs H1 fb v0 hp hpc npp s1 e1 ec1=>?_⟩
  have npD:p≠D:=(ne_of_none eD hp).symm
  have ncD:pc≠D:=(ne_of_none eD hpc).symm
  refine⟨s1 _ _ eD,sz_lt (by rw[List.length_map];omega),λH6 k6 e6=>⟨(s'.trans s1).new k6 hD,⟨ts++[p],by rw[List.map_append];rfl,by simp[htl],λj t ht=>?_⟩,_,rfl⟩⟩
  by_cases hjt:j<ts.length
  ·rw[List.getElem?_append_left hjt] at ht
   obtain⟨n1,n2,pc1,v1,q1,g1,g2,g3,g4,g5⟩:=hts j t ht
   exact⟨n1,n2,pc1,v1,q1,g1,g2,k6.one n1 (s1 _ _ g3),k6.one g1 (s1 _ _ g4),g5⟩
  ·rw[List.getElem?_append_right (by omega)] at ht
   have hj0:j-ts.length=0:=by
    by_cases h0:j-ts.length=0
    ·exact h0
    ·rw[List.getElem?_eq_none (by simp;omega)] at ht;cases ht
   rw[hj0] at ht
   obtain rfl:p=t:=by simpa using ht
   have ej:j=i:=by omega
   subst ej
   exact⟨npD,s'.free hp,pc,v,qs,ncD,s'.free hpc,k6.one npD e1,k6.one ncD ec1,fb,v0⟩
 rintro D σ H2 ys hD ⟨s2,⟨ts,rfl,htl,hts⟩,_⟩ e2
 have ex:∀ j:Nat,∃ vq:Int×List Nat,∀ t,ts[j]?=some t->∃ (pc:Addr),H t=none/\H pc=none/\H2 t=some (.tup [.int vq.1,.ref pc])/\H2 pc=some (.lst ((zs vq.2).map V.int))/\FB ns m j vq.1 vq.2/\0<=vq.1:=λj=>by
  cases hj:ts[j]? with
  | none=>exact⟨(0,[]),λt h=>nomatch h⟩
  | some t =>
   obtain⟨_,n2,pc,v,qs,_,g2,g3,g4,g5⟩:=hts j t hj
   exact⟨(v,qs),λt' h=>by cases h;exact⟨pc,n2,g2,g3,g4,g5⟩⟩
 obtain⟨f,hf⟩:=Classical.axiomOfChoice ex
 refine i_minT (λj=>[.n (f j).1,.s (zs (f j).2)]) e2 (λz=>by rw[z] at htl;simp at htl;omega) (λj t ht=>?_) (λa b _ _ _=>⟨trivial,λ_=>⟨trivial,λ_=>trivial⟩⟩) λk t ht hmin=>?_
 ·obtain⟨pc,_,_,g2,g3,_⟩:=hf j t ht
  exact⟨_,g2,.cons rfl (.cons ⟨pc,rfl,g3⟩ .nil)⟩
 ·obtain⟨pc,n1,n2,g2,g3,g4,g5⟩:=hf k t ht
  refine q t pc (f k).1 (f k).2 H2 (rb_of g4 λj hj=>?_) g5 n1 n2 s2 g2 g3
  have hjl:j<ts.length:=by omega
  obtain⟨pc',_,_,_,_,k4,_⟩:=hf j _ (List.getElem?_eq_getElem hjl)
  refine⟨(f j).1,(f j).2,k4,?_⟩
  have h:=hmin j hjl
  unfold ltT at h
  simp only[lexB] at h
  by_cases e:(f j).1=(f k).1
  ·rw[if_pos (by rw[e])] at h
   refine⟨by omega,λ_ ha=>?_⟩
   have h2:=ltI_ahead (by rw[k4.len,g4.len]) ha
   by_cases e2:zs (f j).2=zs (f k).2
   ·rw[e2,ltI_ord.irr] at h2;cases h2
   ·rw[if_neg (λz=>e2 (by injection z))] at h
    have h':ltI (zs (f j).2) (zs (f k).2)=false:=h
    rw[h2] at h';cases h'
  ·rw[if_neg (λz=>e (by injection z))] at h
   have h':decide ((f j).1<(f k).1)=false:=h
   simp at h'
   exact⟨h',λz=>absurd z e⟩
abbrev zqu:Stmt:=top 39
theorem zqd1:FnScope ["way","row","many","thing"] ["way","row","many","thing"] (defScope zqu):=⟨rfl,rfl,rfl,by decide +kernel,rfl,by decide +kernel,by decide +kernel⟩
theorem zq25:Vis (defScope zqu) "many":=Or.inl (by kernel_rfl)
theorem zq2k:Vis (defScope zqu) "row":=Or.inl (by kernel_rfl)
theorem zq6n:Vis (defScope zqu) "thing":=Or.inl (by kernel_rfl)
theorem zq3d:Vis (defScope zqu) "way":=Or.inl (by kernel_rfl)
theorem zq52:(defScope zqu).names.lookup ("paper_of_greatest":Str)=some NameKind.globalImplicit:=by kernel_rfl
theorem zq6c:(defScope zqu).names.lookup ("paper_of_least":Str)=some NameKind.globalImplicit:=by kernel_rfl
theorem zq4q:(defScope zqu).names.lookup ("ring_least_greatest":Str)=some NameKind.globalImplicit:=by kernel_rfl
theorem zq6o:(defScope zqu).names.lookup ("says_greatest":Str)=some NameKind.globalImplicit:=by kernel_rfl
theorem zq7t:(defScope zqu).names.lookup ("says_least":Str)=some NameKind.globalImplicit:=by kernel_rfl
def zqdc {cdv:Value}{A:Around}{outer:List Env}{s:Shared}{H:Hp}{E:XK}(B:Bl mg)(zq1c:DefX P w K mg base 5 "paper_of_greatest" ["row","many"] (zq1o Z))(zq26:DefX P w K mg base 5 "says_greatest" ["row","many","thing"] (zq2u Z))(zq1v:DefX P w K mg base 5 "paper_of_least" ["row","many"] (zq2c Z))(zq39:DefX P w K mg base 4 "says_least" ["row","many","thing"] (zq3z Z))(zq14:DefX P w K mg base 6 "ring_least_greatest" ["row","many"] (zq1e Z))(hr:Room 6 (A.deeper (PyProof.Rows.envOfC "_law_told" (defScope zqu) s.heap.objs.size f cdv))) :
  { t:TS // QB (cxE P w K mg base ["way","row","many","thing"] "_law_told" (defScope zqu) f cdv A outer s H E) (defBody zqu) t } :=
 ⟨_,(qb_cons (qs_if (qt_cmp (kEqG (K:=K) rfl hr) (qv 0 rfl zq3d) qe_int) (qb_one (qs_ret (qe_defX zq1c passes_cxE hr (by decide) zq52 (qa_cons (qv 1 rfl zq2k) (qa_cons (qv 2 rfl zq25) qa_nil))))) qb_nil)
  (qb_cons (qs_if (qt_cmp (kEqG (K:=K) rfl hr) (qv 0 rfl zq3d) qe_int) (qb_one (qs_ret (qe_defX zq26 passes_cxE hr (by decide) zq6o (qa_cons (qv 1 rfl zq2k) (qa_cons (qv 2 rfl zq25) (qa_cons (qv 3 rfl zq6n) qa_nil)))))) qb_nil)
  (qb_cons (qs_if (qt_cmp (kEqG (K:=K) rfl hr) (qv 0 rfl zq3d) qe_int) (qb_one (qs_ret (qe_defX zq1v passes_cxE hr (by decide) zq6c (qa_cons (qv 1 rfl zq2k) (qa_cons (qv 2 rfl zq25) qa_nil))))) qb_nil)
  (qb_cons (qs_if (qt_cmp (kEqG (K:=K) rfl hr) (qv 0 rfl zq3d) qe_int) (qb_one (qs_ret (qe_defX zq39 passes_cxE hr (by decide) zq7t (qa_cons (qv 1 rfl zq2k) (qa_cons (qv 2 rfl zq25) (qa_cons (qv 3 rfl zq6n) qa_nil)))))) qb_nil)
  (qb_one (qs_ret (qe_defX zq14 passes_cxE hr (by decide) zq4q (qa_cons (qv 1 rfl zq2k) (qa_cons (qv 2 rfl zq25) qa_nil)))))))))⟩
open M5 M10 M11 M34 M40
theorem nzs_inj {ps qs:List Nat}(h:(nzs ps).map V.int=(nzs qs).map V.int):ps=qs:=by
 apply List.ext_getElem?
 intro i
 have:=congrArg (·[i]?) h
 simp only[List.getElem?_map] at this
 cases hp:ps[i]?<;>cases hq:qs[i]?<;>rw[hp,hq] at this<;>simp at this
 ·exact congrArg some (by omega)
def AskD (w:Nat)(ns:List Int)(m k:Nat)(d:PyData):Prop:=match w with
 | 0=>∃ t,T 0 ns (m-1) 0=some t/\PapD ns m t d
 | 1=>(k=0/\d=.int (ns.getD 0 0))\/(k≠0/\d=.none)
 | 2=>∃ t,T 1 ns (m-1) 0=some t/\d=intsD ((sends (t+1) 0 0 ns).map (·-1))
 | 3=>(∃ qs M,(lk k=some qs/\PlN qs ns.length/\qs.length<m)/\M∈gaps ns 0 qs/\(∀ g∈gaps ns 0 qs,g<=M)/\d=.int M)\/((¬ ∃ qs,lk k=some qs/\PlN qs ns.length/\qs.length<m)/\d=.none)
 | _=>∃ v qs,RB ns m v qs/\d=.tuple [.int v,intsD (zs qs)]
theorem AskD.uniq {w:Nat}{ns:List Int}{m k:Nat}{d d':PyData}(h:AskD w ns m k d)(h':AskD w ns m k d'):d=d':=by
 match w,h,h' with
 | 0,⟨t,h1,h2⟩,⟨t',h1',h2'⟩ =>
  have et:t=t':=Option.some.inj (h1.symm.trans h1')
  subst et
  exact h2.uniq h2'
 | 1,h,h' =>
  rcases h with ⟨c,rfl⟩ | ⟨c,rfl⟩<;>rcases h' with ⟨c',rfl⟩ | ⟨c',rfl⟩<;>first | rfl | exact absurd c c' | exact absurd c' c
 | 2,⟨t,h1,e⟩,⟨t',h1',e'⟩ =>
  have et:t=t':=Option.some.inj (h1.symm.trans h1')
  subst et
  rw[e,e']
 | 3,h,h' =>
  rcases h with ⟨qs,M,c,a1,a2,rfl⟩ | ⟨c,rfl⟩<;>rcases h' with ⟨qs',M',c',b1,b2,rfl⟩ | ⟨c',rfl⟩
  ·have e:qs=qs':=Option.some.inj (c.1.symm.trans c'.1)
   subst e
   have:=a2 M' b1
   have:=b2 M a1
   have:M=M':=by omega
   rw[this]
  ·exact absurd ⟨qs,c⟩ c'
  ·exact absurd ⟨qs',c'⟩ c
  ·rfl
 | w+4,⟨v,qs,h1,e⟩,⟨v',qs',h1',e'⟩ =>
  obtain⟨ev,eq⟩:=h1.uniq h1'
  rw[e,e',ev,eq]
def zq31 (Z:Ecl):Sp:=λvs H Q E=>∃ (w:Nat) (r:Addr) (x y:V) (ns:List Int),vs=[.int w,.ref r,x,y]/\w<5/\H r=some (.lst (ns.map V.int))/\RowM ns /\
 ((∃ m k:Nat,x=.int m/\1<=m/\m<=ns.length/\Th H k y/\∀ v d H',Same H H'->AskD w ns m k d->(∀ S,Alive S H->RVx S 3 H' v d)->Q v H')\/(NoM H ns.length x/\E (.ref Z.NoMany) none H))
theorem zqd2 (B:Bl mg)(zq1c:DefX P w K mg base 5 "paper_of_greatest" ["row","many"] (zq1o Z))(zq26:DefX P w K mg base 5 "says_greatest" ["row","many","thing"] (zq2u Z))(zq1v:DefX P w K mg base 5 "paper_of_least" ["row","many"] (zq2c Z))(zq39:DefX P w K mg base 4 "says_least" ["row","many","thing"] (zq3z Z))(zq14:DefX P w K mg base 6 "ring_least_greatest" ["row","many"] (zq1e Z))(F:Fun K "_law_told" "_law_told" zqu f fd):FnOk P w K mg base (CXe P w) 7 f fd ["way","row","many","thing"] (zq31 Z):=by
 refine F.okx zqd1 (λvs H Q E h=>?_) (λcdv A outer s H vs Q E hr h=>?_)
 ·obtain⟨w,r,x,y,ns,rfl,_⟩:=h;rfl
 obtain⟨w',r,x,y,ns,rfl,hw,hr0,rm,h⟩:=h
 refine⟨zqdc B zq1c zq26 zq1v zq39 zq14 hr,?_⟩
 have rn:=rm.row
 have hw5:w'=0\/w'=1\/w'=2\/w'=3\/w'=4:=by omega
 rcases h with ⟨m,k,rfl,m1,m2,hy,q⟩ | ⟨hx,q⟩
 ·rcases hw5 with rfl | rfl | rfl | rfl | rfl
  ·obtain⟨t,hT⟩:=T_some (w:=0) (ns:=ns) (k:=m-1) (i:=0) (by omega)
   exact bT (.inl ⟨r,m,ns,t,rfl,hr0,rn,m1,m2,hT,λv d H' s1 hd hv=>q v d H' s1 ⟨t,hT,hd⟩ hv⟩)
  ·exact bF (bT (.inl ⟨r,y,m,k,ns,rfl,hr0,rn,m1,m2,hy,λc=>q _ _ H (Same.refl H) (.inl ⟨c,rfl⟩) λS hS H'' g=>rfl,λc=>q _ _ H (Same.refl H) (.inr ⟨c,rfl⟩) λS hS H'' g=>rfl⟩))
  ·obtain⟨t,hT⟩:=T_some (w:=1) (ns:=ns) (k:=m-1) (i:=0) (by omega)
   exact bF (bF (bT (.inl ⟨r,m,ns,t,rfl,hr0,rn,m1,m2,hT,λp H' hp s1 e1=>q _ _ H' s1 ⟨t,hT,rfl⟩ λS hS=>rvx_list (not_in hS hp) e1 λH'' g=>paired_ints 2 _⟩)))
  ·refine bF (bF (bF (bT (.inl ⟨r,y,m,ns,rfl,hr0,rn,m1,m2,hy.anl,λqs P M H' hM hmax s1=>?_,λhn=>?_⟩))))
   ·refine q _ _ H' s1 (.inl ⟨qs,M,⟨?_,P.2⟩,hM,hmax,rfl⟩) λS hS H'' g=>rfl
    have e:=P.1
    rw[hy.ls] at e
    cases hk:lk k with
    | none=>rw[hk] at e;cases e
    | some ps =>
     rw[hk] at e
     rw[nzs_inj (Option.some.inj e)]
   ·refine q _ _ H (Same.refl H) (.inr ⟨λ⟨qs,e,h2⟩=>hn ⟨qs,?_,h2⟩,rfl⟩) λS hS H'' g=>rfl
    rw[hy.ls,e];rfl
  ·exact bF (bF (bF (bF (.inl ⟨r,m,ns,rfl,hr0,rm,m1,m2,λp pc v qs H' hR _ hp hpc s1 e1 e2=>q _ _ H' s1 ⟨v,qs,hR,rfl⟩ λS hS=>rvx_tup (not_in hS hp) e1 λH'' g=>.cons rfl (.cons (.inl ⟨_,_,.inl (g pc _ (not_in hS hpc) e2),rfl,paired_ints 1 _⟩) .nil)⟩))))
 ·rcases hw5 with rfl | rfl | rfl | rfl | rfl
  ·exact bT (.inr ⟨r,x,ns,rfl,hr0,hx,q⟩)
  ·exact bF (bT (.inr ⟨r,x,y,ns,rfl,hr0,hx,q⟩))
  ·exact bF (bF (bT (.inr ⟨r,x,ns,rfl,hr0,hx,q⟩)))
  ·exact bF (bF (bF (bT (.inr ⟨r,x,y,ns,rfl,hr0,hx,q⟩))))
  ·exact bF (bF (bF (bF (.inr ⟨r,x,ns,rfl,hr0,hx,q⟩))))
abbrev zq5:Stmt:=top 40
theorem zq3e:FnScope ["way","row","many","thing","caught","e"] ["way","row","many","thing"] (defScope zq5):=⟨rfl,rfl,rfl,by decide +kernel,rfl,by decide +kernel,by decide +kernel⟩
theorem zq4r:Loc (defScope zq5) "caught":=Or.inl (by kernel_rfl)
theorem zq2v:Vis (defScope zq5) "caught":=Or.inl (by kernel_rfl)
theorem zqbc:Vis (defScope zq5) "e":=Or.inl (by kernel_rfl)
theorem zq98:Vis (defScope zq5) "many":=Or.inl (by kernel_rfl)
theorem zq9s:Vis (defScope zq5) "row":=Or.inl (by kernel_rfl)
theorem zq8v:Vis (defScope zq5) "thing":=Or.inl (by kernel_rfl)
theorem zq9t:Vis (defScope zq5) "way":=Or.inl (by kernel_rfl)
theorem zq7e:(defScope zq5).names.lookup ("CutError":Str)=some NameKind.globalImplicit:=by kernel_rfl
theorem zq6y:(defScope zq5).names.lookup ("NoCommand":Str)=some NameKind.globalImplicit:=by kernel_rfl
theorem zq89:(defScope zq5).names.lookup ("NoMany":Str)=some NameKind.globalImplicit:=by kernel_rfl
theorem zq7f:(defScope zq5).names.lookup ("NoNumber":Str)=some NameKind.globalImplicit:=by kernel_rfl
theorem zq7u:(defScope zq5).names.lookup ("NoPlace":Str)=some NameKind.globalImplicit:=by kernel_rfl
theorem zq8a:(defScope zq5).names.lookup ("NoText":Str)=some NameKind.globalImplicit:=by kernel_rfl
theorem zq6p:(defScope zq5).names.lookup ("ValueError":Str)=some NameKind.globalImplicit:=by kernel_rfl
theorem zq6z:(defScope zq5).names.lookup ("_law_told":Str)=some NameKind.globalImplicit:=by kernel_rfl
theorem zq1w:(defScope zq5).names.lookup ("isinstance":Str)=some NameKind.globalImplicit:=by kernel_rfl
def zqc7 {cdv:Value}{A:Around}{outer:List Env}{s:Shared}{H:Hp}{E:XK}(B:Bl mg)(Y:ErrT K mg Z)(zq18:DefX P w K mg base 7 "_law_told" ["way","row","many","thing"] (zq31 Z))(hr:Room 7 (A.deeper (PyProof.Rows.envOfC "_law_refused" (defScope zq5) s.heap.objs.size f cdv))) :
  { t:TS // QB (cxOf CX0 P w K mg base ["way","row","many","thing","caught","e"] "_law_refused" (defScope zq5) f cdv A outer s H E).nox (defBody zq5) t } :=
 ⟨_,(qb_cons (qs_set (i:=4) zq3e.nd rfl zq4r (.inl rfl) qe_non)
  (qb_mid (ks_tryE (K:=K) (j:=5) rfl (λ_ _ z=>z) rfl rfl zq18 hr (by decide) zq6z (qa_cons (qv 0 rfl zq9t) (qa_cons (qv 1 rfl zq9s) (qa_cons (qv 2 rfl zq98) (qa_cons (qv 3 rfl zq8v) qa_nil)))) zq3e.nd zq7e Y.x_CutError.bound rfl (by kernel_rfl) (λ_=>(qb_one (qs_set (i:=4) zq3e.nd rfl zq4r (.inl rfl) (qv 5 rfl zqbc)))))
  (qb_cons (qs_if (QW.pt (qw_or (qt_not (kt_val (K:=K) rfl (qe_cB (kIsx (K:=K) rfl) zq1w B.isinstance boot_isinstance' (qa_cons (qv 4 rfl zq2v) (qa_cons (qe_clsN zq89 Y.x_NoMany.bound) qa_nil))))) (qw_or1 (qt_not (kt_val (K:=K) rfl (qe_cB (kIsx (K:=K) rfl) zq1w B.isinstance boot_isinstance' (qa_cons (qv 4 rfl zq2v) (qa_cons (qe_ty zq6p Y.b_ValueError boot_ValueError) qa_nil)))))))) (qb_one (qs_ret qe_bl)) qb_nil)
  (qb_one (qs_ret (ke_not (K:=K) rfl (qe_cB (kIsxT (K:=K) rfl) zq1w B.isinstance boot_isinstance' (qa_cons (qv 4 rfl zq2v) (qa_cons (qe_tup (qa_cons (qe_clsN zq6y Y.x_NoCommand.bound) (qa_cons (qe_clsN zq7f Y.x_NoNumber.bound) (qa_cons (qe_clsN zq7u Y.x_NoPlace.bound) (qa_cons (qe_clsN zq8a Y.x_NoText.bound) qa_nil))))) qa_nil)))))))))⟩
def zq3f:Sp:=λvs H Q _=>∃ (w:Nat) (r:Addr) (x y:V) (ns:List Int),vs=[.int w,.ref r,x,y]/\w<5/\H r=some (.lst (ns.map V.int))/\RowM ns/\NoM H ns.length x/\∀ H',Same H H'->Q (.bl true) H'
theorem zqbp (B:Bl mg)(Y:ErrT K mg Z)(zq18:DefX P w K mg base 7 "_law_told" ["way","row","many","thing"] (zq31 Z))(F:Fun K "_law_refused" "_law_refused" zq5 f fd):FnOk P w K mg base CX0 8 f fd ["way","row","many","thing"] zq3f:=by
 refine F.okq zq3e (λvs H Q E h=>?_) (λcdv A outer s H vs Q E hr h=>?_)
 ·obtain⟨w,r,x,y,ns,rfl,_⟩:=h;rfl
 obtain⟨w',r,x,y,ns,rfl,hw,hr0,rn,hx,q⟩:=h
 refine⟨zqc7 B Y zq18 hr,?_⟩
 refine⟨λσ H'=>∃ a,H' a=some (exo (.ref Z.NoMany) a)/\Same H H'/\σ=[some (.int w'),some (.ref r),some x,some y,some (.ref a),none],?_,?_⟩
 ·refine⟨w',r,x,y,ns,rfl,hw,hr0,rn,.inr ⟨hx,Y.m_NoMany_CutError,λa ha=>?_⟩⟩
  exact⟨a,upd_same,same_upd ha,rfl⟩
 ·rintro σ H2 ⟨a,ha,s2,rfl⟩
  refine i_isx ha Y.i_NoMany rfl Y.k_NoMany_NoMany (bF (i_isx ha Y.i_NoMany rfl Y.k_NoMany_ValueError (bF ?_)))
  refine i_newT (by show 4<=sizeLine;decide) λtp H4 htp s4 e4=>?_
  refine i_isxT (s4 _ _ ha) Y.i_NoMany e4 (.cons rfl (.cons rfl (.cons rfl (.cons rfl .nil)))) (b:=false) ?_ ?_
  ·simp only[W.kitAny,Y.k_NoMany_NoCommand,Y.k_NoMany_NoText,Y.k_NoMany_NoNumber,Y.k_NoMany_NoPlace]
  ·exact q _ (s2.trans s4)
abbrev zqx:Stmt:=top 38
theorem zq55:FnScope ["many","found","k"] ["many"] (defScope zqx):=⟨rfl,rfl,rfl,by decide +kernel,rfl,by decide +kernel,by decide +kernel⟩
theorem zq6q:Loc (defScope zqx) "found":=Or.inl (by kernel_rfl)
theorem zqcj:Loc (defScope zqx) "k":=Or.inl (by kernel_rfl)
theorem zq6r:Vis (defScope zqx) "found":=Or.inl (by kernel_rfl)
theorem zqbd:Vis (defScope zqx) "many":=Or.inl (by kernel_rfl)
theorem zqal:(defScope zqx).names.lookup ("range":Str)=some NameKind.globalImplicit:=by kernel_rfl
def zqdd {cdv:Value}{A:Around}{outer:List Env}{s:Shared}{H:Hp}{E:XK}(B:Bl mg)(hr:Room 0 (A.deeper (PyProof.Rows.envOfC "_law_deep" (defScope zqx) s.heap.objs.size f cdv))) :
  { t:TS // QB (cxOf CX0 P w K mg base ["many","found","k"] "_law_deep" (defScope zqx) f cdv A outer s H E).nox (defBody zqx) t } :=
 ⟨_,(qb_cons (qs_set (i:=1) zq55.nd rfl zq6q (.inl rfl) (qe_lst qa_nil))
  (qb_mid (qs_for PassesOwn.never rfl (qi_r1 zqal B.range (qa_cons (qv 0 rfl zqbd) qa_nil)) (qg_name (i:=2) zq55.nd rfl zqcj (.inl rfl)) (qb_one (qs_set (i:=1) zq55.nd rfl zq6q (.inl rfl) (qe_lst (qa_cons (qv 1 rfl zq6r) qa_nil)))))
  (qb_one (qs_ret (qv 1 rfl zq6r)))))⟩
def zq56:Sp:=λvs H Q _=>∃ m:Int,vs=[.int m]/\1<=m/\m<=100000/\∀ p xs H',H p=none->Same H H'->H' p=some (.lst xs)->Q (.ref p) H'
theorem zqd3 (B:Bl mg)(F:Fun K "_law_deep" "_law_deep" zqx f fd):FnOk P w K mg base CX0 1 f fd ["many"] zq56:=by
 refine F.okq zq55 (λvs H Q E h=>?_) (λcdv A outer s H vs Q E hr h=>?_)
 ·obtain⟨m,rfl,_⟩:=h;rfl
 obtain⟨m,rfl,h0,h1,q⟩:=h
 refine⟨zqdd B  hr,?_⟩
 refine i_newL (by show 0<=sizeLine;decide) λp1 H1 hp1 s1 e1=>?_
 refine⟨λσ H'=>∃ p xs,H p=none/\Same H H'/\H' p=some (.lst xs)/\∃ o,σ=[some (.int m),some (.ref p),o],?_,?_⟩
 ·refine⟨⟨by omega,by omega⟩,for_range (λi σ H'=>∃ p xs,H p=none/\Same H H'/\H' p=some (.lst xs)/\∃ o,σ=[some (.int m),some (.ref p),o]) ?_ ?_ ?_⟩
  ·exact⟨p1,_,hp1,s1,e1,_,rfl⟩
  ·rintro i σ H4 hi ⟨p,xs,hp,s4,e4,o,rfl⟩
   refine i_newL (by show 1<=sizeLine;decide) λp5 H5 hp5 s5 e5=>?_
   exact⟨p5,_,s4.free hp5,s4.trans s5,e5,_,rfl⟩
  ·rintro σ H' h
   exact h
 ·rintro σ H' ⟨p,xs,hp,s',e',o,rfl⟩
  exact q p xs H' hp s' e'
abbrev zqn:Stmt:=top 41
theorem zq53:FnScope ["draws","size","far","some"] ["draws","size"] (defScope zqn):=⟨rfl,rfl,rfl,by decide +kernel,rfl,by decide +kernel,by decide +kernel⟩
theorem zq9u:Loc (defScope zqn) "far":=Or.inl (by kernel_rfl)
theorem zq99:Loc (defScope zqn) "some":=Or.inr (by kernel_rfl)
theorem zq4y:Vis (defScope zqn) "draws":=Or.inr (Or.inl (by kernel_rfl))
theorem zq65:Vis (defScope zqn) "far":=Or.inl (by kernel_rfl)
theorem zq1f:Vis (defScope zqn) "size":=Or.inl (by kernel_rfl)
theorem zq3i:(defScope zqn).names.lookup ("_law_take":Str)=some NameKind.globalImplicit:=by kernel_rfl
theorem zq8w:(defScope zqn).names.lookup ("range":Str)=some NameKind.globalImplicit:=by kernel_rfl
theorem zq9v:(defScope zqn).names.lookup ("str":Str)=some NameKind.globalImplicit:=by kernel_rfl
def zqc8 {cdv:Value}{A:Around}{outer:List Env}{s:Shared}{H:Hp}{E:XK}(B:Bl mg)(zq1:Def P w K mg base 1 "_law_take" ["draws","many"] zq15)(hr:Room 1 (A.deeper (PyProof.Rows.envOfC "_law_no_many" (defScope zqn) s.heap.objs.size f cdv))) :
  { t:TS // QB (cxOf CX0 P w K mg base ["draws","size","far","some"] "_law_no_many" (defScope zqn) f cdv A outer s H E).nox (defBody zqn) t } :=
 ⟨_,(qb_cons (qs_set (i:=2) zq53.nd rfl zq9u (.inl rfl) (qe_op opAdd (qe_op opAdd (qv 1 rfl zq1f) qe_int) (qe_op opMul (qe_def zq1 hr (by decide) zq3i (qa_cons (qv 0 rfl zq4y) (qa_cons qe_int qa_nil))) (qe_op opAdd qe_int (qe_def zq1 hr (by decide) zq3i (qa_cons (qv 0 rfl zq4y) (qa_cons qe_int qa_nil)))))))
  (qb_cons (qs_set (i:=3) zq53.nd rfl zq99 (.inl rfl) (qe_lst (qa_cons qe_int (qa_cons (qe_op opAdd (qv 1 rfl zq1f) qe_int) (qa_cons (qv 2 rfl zq65) (qa_cons (qe_un unNeg qe_int) (qa_cons (qe_op opSub qe_int (qv 2 rfl zq65)) (qa_cons (qe_op opSub qe_int (qv 1 rfl zq1f)) (qa_cons (qe_op opPow qe_int qe_int) (qa_cons qe_bl (qa_cons qe_bl (qa_cons qe_non (qa_cons qe_str (qa_cons (qe_cT callStr zq9v B.str boot_str (qa_cons (qv 1 rfl zq1f) qa_nil)) (qa_cons qe_str (qa_cons (qe_lst (qa_cons qe_int qa_nil)) (qa_cons (qe_tup (qa_cons qe_int qa_nil)) (qa_cons qe_dnew (qa_cons (qe_lst qa_nil) qa_nil)))))))))))))))))))
  (qb_one (qs_ret (qe_op opAdd (qe_cp ["k","some","draws"] [none,some 3,some 0] rfl (qi_r1 zq8w B.range (qa_cons qe_int qa_nil)) (λ_ _ _ _ _ _=>(qg_name (i:=0) (show (["k","some","draws"]:List Str).Nodup by decide +kernel) rfl (by first | exact Or.inl rfl | exact Or.inr rfl) (by first | exact .inl rfl | exact .inr rfl))) (λ_ _ _ _ _ _=>qif_nil) (λ_ _ _ _ _ _=>(ke_ix (K:=K) rfl (qv 1 rfl (by first | exact Or.inl rfl | exact Or.inr (Or.inl rfl) | exact Or.inr (Or.inr rfl))) (qe_def zq1 hr (by decide) rfl (qa_cons (qv 2 rfl (by first | exact Or.inl rfl | exact Or.inr (Or.inl rfl) | exact Or.inr (Or.inr rfl))) (qa_cons qe_int qa_nil))) (λ_ _=>rfl)))) (qe_lst (qa_cons qe_int (qa_cons (qe_op opAdd (qv 1 rfl zq1f) qe_int) (qa_cons qe_bl qa_nil)))))))))⟩
def zq3g:Sp:=λvs H Q _=>∃ (d:Addr) (n:Nat),vs=[.ref d,.int n]/\DrawsAt H d/\1<=n/\n<=1000/\∀ p xs H',DrawsAt H' d->Kp [d] H H'->H p=none->p≠d->H' p=some (.lst xs)->xs.length<=10->(∀ x∈xs,NoM H' n x)->Q (.ref p) H'
theorem zqbq (B:Bl mg)(zq1:Def P w K mg base 1 "_law_take" ["draws","many"] zq15)(F:Fun K "_law_no_many" "_law_no_many" zqn f fd):FnOk P w K mg base CX0 2 f fd ["draws","size"] zq3g:=by
 refine F.okq zq53 (λvs H Q E h=>?_) (λcdv A outer s H vs Q E hr h=>?_)
 ·obtain⟨d,n,rfl,_⟩:=h;rfl
 obtain⟨d,n,rfl,hd,n1,n2,q⟩:=h
 refine⟨zqc8 B zq1 hr,?_⟩
 refine⟨d,_,rfl,hd,by decide,λg H1 g0 g1 hd1 k1=>?_⟩
 refine⟨d,_,rfl,hd1,by decide,λg' H2 g0' g1' hd2 k2=>?_⟩
 have hp:=Int.mul_nonneg g0 (show 0<=1+g' by omega)
 refine⟨.inl ⟨by omega,by omega⟩,?_⟩
 generalize g*(1+g')=pr at hp ⊢
 refine⟨⟨by decide,by decide,by decide⟩,⟨by omega,?_⟩⟩
 refine i_newL (by show 1<=sizeLine;decide) λp1 H3 hp1 s3 e3=>i_newT (by show 1<=sizeLine;decide) λp2 H4 hp2 s4 e4=>i_dnew λp3 H5 hp3 s5 e5=>i_newL (by show 0<=sizeLine;decide) λp4 H6 hp4 s6 e6=>i_newL (by show 17<=sizeLine;decide) λps H7 hps s7 e7=>?_
 have s24:=s3.trans s4
 have s25:=s24.trans s5
 have s26:=s25.trans s6
 have s27:=s26.trans s7
 have hd7:=hd2.same s27
 have nn:∀ {X:Hp} {a:Addr},Same H2 X->X a=none->a≠d:=λsx ha=>(((hd2.same sx).ne ha)).symm
 have nps:ps≠d:=nn s26 hps
 generalize hL:[V.int 0,.int ((n:Int)+1),.int ((n:Int)+1+pr),.int (-1),.int (0-((n:Int)+1+pr)),.int (0-(n:Int)),.int (10 ^ Int.toNat 30),.bl true,.bl false,.non,.str "1",.str (nt n),.str "",.ref p1,.ref p2,.ref p3,.ref p4]=L at e7
 have hLl:L.length=17:=by rw[<- hL];rfl
 have e3':=(s4.trans (s5.trans (s6.trans s7))) _ _ e3
 have e4':=(s5.trans (s6.trans s7)) _ _ e4
 have e5':=(s6.trans s7) _ _ e5
 have e6':=s7 _ _ e6
 have hall:∀ X:Hp,Kp [d] H7 X->∀ x∈L,NoM X n x:=λX k x hx=>by
  have t30:(10:Int) ^ Int.toNat 30=1000000000000000000000000000000:=by decide
  have o:∀ {y:V},Odd X y->inW y 1 n=false->NoM X n y:=λo h=>⟨.odd o,h⟩
  have z:∀ {i:Int},¬ (1<=i/\i<=(n:Int))->NoM X n (.int i):=λh=>⟨.int _,decide_eq_false h⟩
  rw[<- hL] at hx
  simp only[List.mem_cons,List.not_mem_nil,or_false] at hx
  rcases hx with rfl | rfl | rfl | rfl | rfl | rfl | rfl | rfl | rfl | rfl | rfl | rfl | rfl | rfl | rfl | rfl | rfl
  ·exact z (by omega)
  ·exact z (by omega)
  ·exact z (by omega)
  ·exact z (by omega)
  ·exact z (by omega)
  ·exact z (by omega)
  ·exact z (by rw[t30];omega)
  ·exact o (.bl _) rfl
  ·exact o (.bl _) rfl
  ·exact o .non rfl
  ·exact o (.str _) rfl
  ·exact o (.str _) rfl
  ·exact o (.str _) rfl
  ·exact o (.lst (k.one (nn (Same.refl H2) hp1) e3')) rfl
  ·exact o (.tup (k.one (nn s3 hp2) e4')) rfl
  ·exact⟨.dK (k.one (nn s24 hp3) e5'),rfl⟩
  ·exact o (.lst (k.one (nn s25 hp4) e6')) rfl
 refine⟨⟨by decide,by decide⟩,comp_rng (λi D σ H' ys=>DrawsAt H' d/\Kp [d] H7 H'/\ys.length=i/\(∀ y∈ys,y∈L)/\∃ o,σ=[o,some (.ref ps),some (.ref d)]) ?_ ?_ ?_⟩
 ·intro D H' hD s' e'
  exact⟨hd7.same s',s'.kp,rfl,(λy z=>nomatch z),_,rfl⟩
 ·rintro i D σ H' ys hi hD ⟨hd',k',hyl,hy,o,rfl⟩ eD
  have nD:D≠d:=(hd7.ne hD).symm
  have hi4:i<4:=hi
  refine bT ⟨d,_,rfl,hd',by decide,λj H8 j0 j1 hd8 k8=>?_⟩
  obtain⟨jn,rfl⟩:∃ jn:Nat,j=(jn:Int):=⟨j.toNat,by omega⟩
  refine i_ixN (v:=L[jn]'(by omega)) jn ((k'.trans k8).one nps e7) rfl (List.getElem?_eq_getElem (by omega)) ?_
  refine⟨k8.one nD eD,sz_lt (by omega),λH9 k9 e9=>⟨hd8.kp k9 (by simp[nD.symm]),(k'.trans k8).new k9 hD,by simp[hyl],λy hy'=>?_,_,rfl⟩⟩
  rcases List.mem_append.mp hy' with hy' | hy'
  ·exact hy y hy'
  ·rw[List.mem_singleton.mp hy'];exact List.getElem_mem _
 ·rintro D σ H8 ys hD ⟨hd8,k8,hyl,hy,_⟩ eD
  have hyl':ys.length=4:=hyl
  have nD:D≠d:=(hd7.ne hD).symm
  refine i_newL (by show 3<=sizeLine;decide) λpa H9 hpa s9 e9=>i_cat (s9 _ _ eD) e9 (sz_of (by simp;omega)) λpb HA hpb sA eA=>?_
  have k9:Kp [d] H H9:=(((k1.trans k2).same s27).trans k8).same s9
  have npb:pb≠d:=((hd8.same s9).ne hpb).symm
  refine q pb _ HA ((hd8.same s9).same sA) (k9.same sA) (k9.free (by simp[npb]) hpb) npb eA (by simp;omega) λx hx=>?_
  have kA:Kp [d] H7 HA:=(k8.same s9).same sA
  refine hall HA kA x ?_
  rcases List.mem_append.mp hx with hx | hx
  ·exact hy x hx
  ·rw[<- hL]
   simp only[List.mem_cons,List.not_mem_nil,or_false] at hx ⊢
   rcases hx with rfl | rfl | rfl
   ·exact .inl rfl
   ·exact .inr (.inl rfl)
   ·simp
abbrev zqc:Stmt:=top 42
theorem zq1m:FnScope ["script","draws","many","row","good","handed","things","ring","way","some","right","thing","told","kept","number"] ["script"] (defScope zqc):=⟨rfl,rfl,rfl,by decide +kernel,rfl,by decide +kernel,by decide +kernel⟩
theorem zqd4:Loc (defScope zqc) "draws":=Or.inl (by kernel_rfl)
theorem zqde:Loc (defScope zqc) "good":=Or.inl (by kernel_rfl)
theorem zqck:Loc (defScope zqc) "handed":=Or.inl (by kernel_rfl)
theorem zqdf:Loc (defScope zqc) "kept":=Or.inl (by kernel_rfl)
theorem zqbe:Loc (defScope zqc) "many":=Or.inl (by kernel_rfl)
theorem zqcl:Loc (defScope zqc) "number":=Or.inl (by kernel_rfl)
theorem zqd5:Loc (defScope zqc) "right":=Or.inl (by kernel_rfl)
theorem zqdg:Loc (defScope zqc) "ring":=Or.inl (by kernel_rfl)
theorem zqdo:Loc (defScope zqc) "row":=Or.inl (by kernel_rfl)
theorem zqdh:Loc (defScope zqc) "some":=Or.inl (by kernel_rfl)
theorem zqd6:Loc (defScope zqc) "thing":=Or.inl (by kernel_rfl)
theorem zqcm:Loc (defScope zqc) "things":=Or.inl (by kernel_rfl)
theorem zqdi:Loc (defScope zqc) "told":=Or.inl (by kernel_rfl)
theorem zqdp:Loc (defScope zqc) "way":=Or.inl (by kernel_rfl)
theorem zq3t:Vis (defScope zqc) "draws":=Or.inl (by kernel_rfl)
theorem zqdj:Vis (defScope zqc) "good":=Or.inl (by kernel_rfl)
theorem zqcn:Vis (defScope zqc) "handed":=Or.inl (by kernel_rfl)
theorem zqbf:Vis (defScope zqc) "kept":=Or.inl (by kernel_rfl)
theorem zq8b:Vis (defScope zqc) "many":=Or.inl (by kernel_rfl)
theorem zqco:Vis (defScope zqc) "number":=Or.inl (by kernel_rfl)
theorem zq9x:Vis (defScope zqc) "right":=Or.inl (by kernel_rfl)
theorem zqdk:Vis (defScope zqc) "ring":=Or.inl (by kernel_rfl)
theorem zq5n:Vis (defScope zqc) "row":=Or.inl (by kernel_rfl)
theorem zqcp:Vis (defScope zqc) "script":=Or.inl (by kernel_rfl)
theorem zq1p:Vis (defScope zqc) "some":=Or.inl (by kernel_rfl)
theorem zq29:Vis (defScope zqc) "thing":=Or.inl (by kernel_rfl)
theorem zqcq:Vis (defScope zqc) "things":=Or.inl (by kernel_rfl)
theorem zqdl:Vis (defScope zqc) "told":=Or.inl (by kernel_rfl)
theorem zq5o:Vis (defScope zqc) "way":=Or.inl (by kernel_rfl)
theorem zqbg:(defScope zqc).names.lookup ("_law_deep":Str)=some NameKind.globalImplicit:=by kernel_rfl
theorem zqam:(defScope zqc).names.lookup ("_law_draws":Str)=some NameKind.globalImplicit:=by kernel_rfl
theorem zq9a:(defScope zqc).names.lookup ("_law_no_many":Str)=some NameKind.globalImplicit:=by kernel_rfl
theorem zq9w:(defScope zqc).names.lookup ("_law_pieces":Str)=some NameKind.globalImplicit:=by kernel_rfl
theorem zq5p:(defScope zqc).names.lookup ("_law_refused":Str)=some NameKind.globalImplicit:=by kernel_rfl
theorem zqbr:(defScope zqc).names.lookup ("_law_row":Str)=some NameKind.globalImplicit:=by kernel_rfl
theorem zqbh:(defScope zqc).names.lookup ("_law_take":Str)=some NameKind.globalImplicit:=by kernel_rfl
theorem zq71:(defScope zqc).names.lookup ("_law_told":Str)=some NameKind.globalImplicit:=by kernel_rfl
theorem zqdq:(defScope zqc).names.lookup ("int":Str)=some NameKind.globalImplicit:=by kernel_rfl
theorem zqbs:(defScope zqc).names.lookup ("len":Str)=some NameKind.globalImplicit:=by kernel_rfl
theorem zqdm:(defScope zqc).names.lookup ("list":Str)=some NameKind.globalImplicit:=by kernel_rfl
theorem zqdr:(defScope zqc).names.lookup ("min":Str)=some NameKind.globalImplicit:=by kernel_rfl
theorem zqd7:(defScope zqc).names.lookup ("range":Str)=some NameKind.globalImplicit:=by kernel_rfl
theorem zq8c:(defScope zqc).names.lookup ("repr":Str)=some NameKind.globalImplicit:=by kernel_rfl
def zqdv {cdv:Value}{A:Around}{outer:List Env}{s:Shared}{H:Hp}{E:XK}(B:Bl mg)(zq3u:Def P w K mg base 1 "_law_draws" ["script"] (zq4f K))(zq5q:Def P w K mg base 2 "_law_row" ["draws","most"] zq66)(zq3a:Def P w K mg base 2 "_law_pieces" ["draws","row"] zq3v)(zq1:Def P w K mg base 1 "_law_take" ["draws","many"] zq15)(zq18:DefX P w K mg base 7 "_law_told" ["way","row","many","thing"] (zq31 Z))(zq2z:Def P w K mg base 2 "_law_no_many" ["draws","size"] zq3g)(zq1z:Def P w K mg base 8 "_law_refused" ["way","row","many","thing"] zq3f)(zq4s:Def P w K mg base 1 "_law_deep" ["many"] zq56)(hr:Room 8 (A.deeper (PyProof.Rows.envOfC "law" (defScope zqc) s.heap.objs.size f cdv))) :
  { t:TS // QB (cxOf CX0 P w K mg base ["script","draws","many","row","good","handed","things","ring","way","some","right","thing","told","kept","number"] "law" (defScope zqc) f cdv A outer s H E).nox (defBody zqc) t } :=
 ⟨_,(qb_cons (qs_set (i:=1) zq1m.nd rfl zqd4 (.inl rfl) (qe_def zq3u hr (by decide) zqam (qa_cons (qv 0 rfl zqcp) qa_nil)))
  (qb_cons (qs_set (i:=2) zq1m.nd rfl zqbe (.inl rfl) qe_int)
  (qb_mid (qs_while PassesOwn.never (QW.pt (qw_or (qt_cmp opLt (qv 2 rfl zq8b) qe_int) (qw_or1 (QW.pt (qw_and (qt_cmp (kNeG (K:=K) rfl hr) (qv 1 rfl zq3t) (qe_lst qa_nil)) (qw_and1 (qt_cmp opLt (qv 2 rfl zq8b) qe_int))))))) (qb_cons (qs_set (i:=3) zq1m.nd rfl zqdo (.inl rfl) (qe_def zq5q hr (by decide) zqbr (qa_cons (qv 1 rfl zq3t) (qa_cons qe_int qa_nil))))
  (qb_cons (qs_set (i:=4) zq1m.nd rfl zqde (.inl rfl) (qe_def zq3a hr (by decide) zq9w (qa_cons (qv 1 rfl zq3t) (qa_cons (qv 3 rfl zq5n) qa_nil))))
  (qb_cons (qs_set (i:=5) zq1m.nd rfl zqck (.inl rfl) (qe_cT (kList (K:=K) rfl) zqdm B.list boot_list (qa_cons (qv 3 rfl zq5n) qa_nil)))
  (qb_cons (qs_set (i:=6) zq1m.nd rfl zqcm (.inl rfl) (qe_lst (qa_cons (qe_tup (qa_cons qe_str (qa_cons qe_int qa_nil))) (qa_cons (qe_lst qa_nil) (qa_cons qe_non (qa_cons (qe_lst (qa_cons qe_int qa_nil)) (qa_cons (qe_tup (qa_cons qe_str (qa_cons (qe_lst qa_nil) qa_nil))) (qa_cons qe_dnew qa_nil))))))))
  (qb_cons (qs_set (i:=7) zq1m.nd rfl zqdg (.inl rfl) (ke_slice (K:=K) rfl (qv 3 rfl zq5n) qo_none (qo_some qe_int)))
  (qb_mid (qs_for PassesOwn.never rfl (qi_r1 zqd7 B.range (qa_cons qe_int qa_nil)) (qg_name (i:=8) zq1m.nd rfl zqdp (.inl rfl)) (qb_cons (qs_set (i:=9) zq1m.nd rfl zqdh (.inl rfl) (ke_ix (K:=K) rfl (qe_lst (qa_cons (qv 3 rfl zq5n) (qa_cons (qv 7 rfl zqdk) qa_nil))) (qe_cT callInt zqdq B.int boot_int (qa_cons (qe_cmp (kEqG (K:=K) rfl hr) (qv 8 rfl zq5o) qe_int) qa_nil)) (λ_ _=>rfl)))
  (qb_cons (qs_set (i:=10) zq1m.nd rfl zqd5 (.inl rfl) (qe_cB (kMin (K:=K) rfl rfl) zqdr B.min boot_min' (qa_cons (qv 4 rfl zqdj) (qa_cons (qe_cB (kLen (K:=K) rfl) zqbs B.len boot_len' (qa_cons (qv 9 rfl zq1p) qa_nil)) qa_nil))))
  (qb_cons (qs_set (i:=11) zq1m.nd rfl zqd6 (.inl rfl) (ke_ix (K:=K) rfl (qv 6 rfl zqcq) (qe_def zq1 hr (by decide) zqbh (qa_cons (qv 1 rfl zq3t) (qa_cons qe_int qa_nil))) (λ_ _=>rfl)))
  (qb_cons (qs_set (i:=12) zq1m.nd rfl zqdi (.inl rfl) (qe_def zq18.plain hr (by decide) zq71 (qa_cons (qv 8 rfl zq5o) (qa_cons (qv 9 rfl zq1p) (qa_cons (qv 10 rfl zq9x) (qa_cons (qv 11 rfl zq29) qa_nil))))))
  (qb_cons (qs_set (i:=13) zq1m.nd rfl zqdf (.inl rfl) (qe_cB (callReprD hr) zq8c B.repr boot_repr' (qa_cons (qe_lst (qa_cons (qv 9 rfl zq1p) (qa_cons (qv 11 rfl zq29) qa_nil))) qa_nil)))
  (qb_mid (qs_for PassesOwn.never rfl (ki_list (K:=K) rfl (qe_def zq2z hr (by decide) zq9a (qa_cons (qv 1 rfl zq3t) (qa_cons (qe_cB (kLen (K:=K) rfl) zqbs B.len boot_len' (qa_cons (qv 9 rfl zq1p) qa_nil)) qa_nil)))) (qg_name (i:=14) zq1m.nd rfl zqcl (.inl rfl)) (qb_one (qs_if (QW.pt (qw_or (qt_not (kt_val (K:=K) rfl (qe_def zq1z hr (by decide) zq5p (qa_cons (qv 8 rfl zq5o) (qa_cons (qv 9 rfl zq1p) (qa_cons (qv 14 rfl zqco) (qa_cons (qv 11 rfl zq29) qa_nil))))))) (qw_or1 (qt_cmp (kNeG (K:=K) rfl hr) (qe_cB (callReprD hr) zq8c B.repr boot_repr' (qa_cons (qe_lst (qa_cons (qv 9 rfl zq1p) (qa_cons (qv 11 rfl zq29) qa_nil))) qa_nil)) (qv 13 rfl zqbf))))) (qb_one (qs_ret qe_bl)) qb_nil)))
  (qb_cons (qs_if (QW.pt (qw_or (qt_not (kt_val (K:=K) rfl (qe_def zq1z hr (by decide) zq5p (qa_cons (qv 8 rfl zq5o) (qa_cons (qv 9 rfl zq1p) (qa_cons (qe_def zq4s hr (by decide) zqbg (qa_cons qe_int qa_nil)) (qa_cons (qv 11 rfl zq29) qa_nil))))))) (qw_or1 (qt_cmp (kNeG (K:=K) rfl hr) (qe_def zq18.plain hr (by decide) zq71 (qa_cons (qv 8 rfl zq5o) (qa_cons (qv 9 rfl zq1p) (qa_cons (qv 10 rfl zq9x) (qa_cons (qv 11 rfl zq29) qa_nil))))) (qv 12 rfl zqdl))))) (qb_one (qs_ret qe_bl)) qb_nil)
  (qb_one (qs_if (QW.pt (qw_or (qt_cmp (kNeG (K:=K) rfl hr) (qe_cB (callReprD hr) zq8c B.repr boot_repr' (qa_cons (qe_lst (qa_cons (qv 9 rfl zq1p) (qa_cons (qv 11 rfl zq29) qa_nil))) qa_nil)) (qv 13 rfl zqbf)) (qw_or1 (qt_cmp (kNeG (K:=K) rfl hr) (qv 3 rfl zq5n) (qv 5 rfl zqcn))))) (qb_one (qs_ret qe_bl)) qb_nil))))))))))
  (qb_one (qs_set (i:=2) zq1m.nd rfl zqbe (.inl rfl) (qe_op opAdd (qv 2 rfl zq8b) qe_int))))))))))
  (qb_one (qs_ret qe_bl)))))⟩
theorem fit_two {B C:Nat}{d1 d2:PyData}(f1:Fit B d1)(f2:Fit C d2):Fit (B+C+2) (.list [d1,d2]):=by
 refine⟨?_,?_,?_⟩
 ·simp only[PyData.showable,PyData.showableAll,f1.sh,f2.sh];rfl
 ·simp only[PyData.leavesShort,PyData.leavesShortAll,f1.lf,f2.lf];rfl
 ·have h1:=f1.bk
  have h2:=f2.bk
  simp only[PyData.bulk,PyData.bulkAll];omega
inductive Im:V->PyData->Prop where
 | non:Im .non .none
 | bl (b:Bool):Im (.bl b) (.bool b)
 | int (i:Int):Im (.int i) (.int i)
 | str (z:Str):Im (.str z) (.str z)
 | lst (a:Addr) (ds:List PyData):Im (.ref a) (.list ds)
 | tup (a:Addr) (ds:List PyData):Im (.ref a) (.tuple ds)
theorem rv_im {n:Nat}{H:Hp}{x:V}{d:PyData}(h:RV (n+1) H x d):Im x d:=by
 cases x with
 | non=>have e:d=.none:=h;subst e;exact .non
 | bl b=>have e:d=.bool b:=h;subst e;exact .bl b
 | int i=>have e:d=.int i:=h;subst e;exact .int i
 | str z=>have e:d=.str z:=h;subst e;exact .str z
 | ref a =>
  rcases h with ⟨_,ds,_,rfl,_⟩ | ⟨_,ds,_,rfl,_⟩
  ·exact .lst a ds
  ·exact .tup a ds
 | _=>exact(show False from h).elim
theorem eqG_rv {K:W.Frag}{H:Hp}{Q:VK}{x y:V}{d:PyData}(h1:RV 3 H x d)(h2:RV 3 H y d)(q:Q (.bl false) H):vEqG K not x y H Q:=by
 cases rv_im h1 with
 | lst a ds=>cases rv_im h2;exact i_eqD 2 (by decide) h1 h2 q
 | tup a ds=>cases rv_im h2;exact i_eqD 2 (by decide) h1 h2 q
 | non=>cases rv_im h2;exact q
 | bl b=>cases rv_im h2;show Q (.bl (not (decide (b=b)))) H;rw[decide_eq_true rfl];exact q
 | int b=>cases rv_im h2;show Q (.bl (not (decide (b=b)))) H;rw[decide_eq_true rfl];exact q
 | str b=>cases rv_im h2;show Q (.bl (not (decide (b=b)))) H;rw[decide_eq_true rfl];exact q
theorem rowm_take {ns:List Int}(h:RowM ns)(k:Nat)(hk:1<=k):RowM (ns.take k):=⟨by rw[List.length_take];have:=h.ne;omega,by rw[List.length_take];have:=h.le;omega,λn hn=>h.nn n (List.mem_of_mem_take hn),λn hn=>h.ub n (List.mem_of_mem_take hn)⟩
def sp_law (K:W.Frag):Sp:=λvs H Q _=>∃ (a:Addr) (ns:List Int),vs=[.ref a]/\SqL K H a (ns.map V.int)/\ns.length<=63/\∀ H',Q (.bl true) H'
theorem zqdt (B:Bl mg)(zq3u:Def P w K mg base 1 "_law_draws" ["script"] (zq4f K))(zq5q:Def P w K mg base 2 "_law_row" ["draws","most"] zq66)(zq3a:Def P w K mg base 2 "_law_pieces" ["draws","row"] zq3v)(zq1:Def P w K mg base 1 "_law_take" ["draws","many"] zq15)(zq18:DefX P w K mg base 7 "_law_told" ["way","row","many","thing"] (zq31 Z))(zq2z:Def P w K mg base 2 "_law_no_many" ["draws","size"] zq3g)(zq1z:Def P w K mg base 8 "_law_refused" ["way","row","many","thing"] zq3f)(zq4s:Def P w K mg base 1 "_law_deep" ["many"] zq56)(F:Fun K "law" "law" zqc f fd):FnOk P w K mg base CX0 9 f fd ["script"] (sp_law K):=by
 refine F.okq zq1m (λvs H Q E h=>?_) (λcdv A outer s H vs Q E hr h=>?_)
 ·obtain⟨a,ns,rfl,_⟩:=h;rfl
 obtain⟨a,sc,rfl,hS,h63,q⟩:=h
 refine⟨zqdv B zq3u zq5q zq3a zq1 zq18 zq2z zq1z zq4s hr,?_⟩
 refine⟨a,sc,rfl,hS,h63,λd H1 hd0 s1 hd1=>?_⟩
 refine⟨λσ H'=>True,?_,λσ H' _=>q H'⟩
 refine while_m (λmm σ H'=>DrawsAt H' d/\∃ (k:Nat) (o3 o4 o5 o6 o7 o8 o9 o10 o11 o12 o13 o14:Option V),k<=6/\mm=6-k/\σ=[some (.ref a),some (.ref d),some (.int k),o3,o4,o5,o6,o7,o8,o9,o10,o11,o12,o13,o14]) 6 ⟨hd1,0,_,_,_,_,_,_,_,_,_,_,_,_,by omega,rfl,rfl⟩ ?_
 rintro mm σ H2 ⟨hd2,k,o3,o4,o5,o6,o7,o8,o9,o10,o11,o12,o13,o14,hk4,hmm,rfl⟩
 obtain⟨ds,ed,hds,hdl⟩:=id hd2
 refine(λ(key:∀ H3,DrawsAt H3 d->k<6->_)=>dec2 (λc=>bT (key H2 hd2 (by omega))) (λc=>i_newL (by show 0<=sizeLine;decide) λp3 H3 hp3 s3 e3=>i_eqI (ns:=ds) (ms:=[]) (SqL.of (s3 _ _ ed)) (SqL.of e3) (ndec2 (λc1=>dec2 (λc2=>key H3 ⟨ds,s3 _ _ ed,hds,hdl⟩ (by omega)) (λc2=>trivial)) (λc1=>bF trivial)))) ?_
 intro H3 hd3 hk6
 refine⟨d,120,rfl,hd3,by decide,by decide,λr ns H4 rm _ hd4 k4 e4 nr hr0=>?_⟩
 have hle:=rm.le
 have hge:=rm.ne
 refine⟨d,r,ns,rfl,hd4,e4,nr,rm.ne,by omega,λm H5 m1 m2 hd5 k5=>?_⟩
 have e5:=k5.one nr e4
 refine i_copy e5 λhd H6 hhd s6 e6=>i_newT (by show 2<=sizeLine;decide) λt0 I0 ht0 u0 f0=>i_newL (by show 0<=sizeLine;decide) λt1 I1 ht1 u1 f1=>i_newL (by show 1<=sizeLine;decide) λt3 I3 ht3 u3 f3=>i_newL (by show 0<=sizeLine;decide) λb4 I4 hb4 u4 f4=>i_newT (by show 2<=sizeLine;decide) λt4 I5 ht4 u5 f5=>i_dnew λt5 I6 ht5 u6 f6=>i_newL (by show 6<=sizeLine;decide) λth I7 hth u7 f7=>?_
 have v0:=s6.trans u0
 have v1:=v0.trans u1
 have v3:=v1.trans u3
 have v4:=v3.trans u4
 have v5:=v4.trans u5
 have v6:=v5.trans u6
 have v7:=v6.trans u7
 have er7:=v7 _ _ e5
 refine i_sl (SqL.of er7) λrg HZ hrg sZ eZ=>?_
 have hms40:∃ ms:List Int,RowM ms/\HZ rg=some (.lst (ms.map V.int)):=by
  refine⟨_,rowm_take rm (min 40 ns.length) (by omega),?_⟩
  rw[eZ,cutV_ints]
  show some (HO.lst ((List.take (HT.sIx ns.length ns.length (some ((40:Nat):Int))-0) (List.drop 0 ns)).map V.int))=_
  rw[HT.sIx_nat,List.drop_zero,Nat.sub_zero]
 obtain⟨m40,rm40,eZ'⟩:=hms40
 have vZ:=v7.trans sZ
 have hdZ:=hd5.same vZ
 have erZ:=sZ _ _ er7
 have nn:∀ {X:Hp} {a:Addr},Same H5 X->X a=none->a≠d:=λsx ha=>(((hd5.same sx).ne ha)).symm
 have nhd:=nn (Same.refl H5) hhd
 have ehZ:=(u0.trans (u1.trans (u3.trans (u4.trans (u5.trans (u6.trans (u7.trans sZ))))))) _ _ e6
 have f0Z:=(u1.trans (u3.trans (u4.trans (u5.trans (u6.trans (u7.trans sZ)))))) _ _ f0
 have f1Z:=(u3.trans (u4.trans (u5.trans (u6.trans (u7.trans sZ))))) _ _ f1
 have f3Z:=(u4.trans (u5.trans (u6.trans (u7.trans sZ)))) _ _ f3
 have f4Z:=(u5.trans (u6.trans (u7.trans sZ))) _ _ f4
 have f5Z:=(u6.trans (u7.trans sZ)) _ _ f5
 have f6Z:=(u7.trans sZ) _ _ f6
 have f7Z:=sZ _ _ f7
 have n0:=nn s6 ht0
 have n1:=nn v0 ht1
 have n3:=nn v1 ht3
 have nb4:=nn v3 hb4
 have n4:=nn v4 ht4
 have n5:=nn v5 ht5
 have nth:=nn v6 hth
 have nrg:=nn v7 hrg
 have hTh:∀ {X:Hp},Kp [d] HZ X->∀ (j:Nat) (x:V),[V.ref t0,.ref t1,.non,.ref t3,.ref t4,.ref t5][j]?=some x->Th X j x:=λk j x hx=>by
  match j,hx with
  | 0,rfl=>exact .num (k.one n0 f0Z)
  | 1,rfl=>exact .nil (k.one n1 f1Z)
  | 2,rfl=>exact .non
  | 3,rfl=>exact .one (k.one n3 f3Z)
  | 4,rfl=>exact .str (k.one n4 f5Z) (k.one nb4 f4Z)
  | 5,rfl=>exact .dct (k.one n5 f6Z)
 have hTg:∀ (j:Nat) (x:V),[V.ref t0,.ref t1,.non,.ref t3,.ref t4,.ref t5][j]?=some x->Tg [d] 2 100 HZ x:=λj x hx=>by
  have tS:Tg [d] 1 20 HZ (.str "stretches"):=tg_str (by decide +kernel) (by decide +kernel)
  have tN:Tg [d] 1 20 HZ (.str "number"):=tg_str (by decide +kernel) (by decide +kernel)
  match j,hx with
  | 0,rfl=>exact(tg_tup (by simpa using n0) f0Z (λy hy=>by simp at hy;rcases hy with rfl | rfl;exact tN;exact tg_int (by decide))).le (by decide) (by decide)
  | 1,rfl=>exact(tg_lst (n:=0) (B:=0) (by simpa using n1) f1Z (λy hy=>nomatch hy)).le (by decide) (by decide)
  | 2,rfl=>exact tg_non
  | 3,rfl=>exact(tg_lst (n:=0) (B:=0) (by simpa using n3) f3Z (λy hy=>by rw[List.mem_singleton.mp hy];exact tg_int (by decide))).le (by decide) (by decide)
  | 4,rfl=>exact(tg_tup (by simpa using n4) f5Z (λy hy=>by simp at hy;rcases hy with rfl | rfl;exact tS;exact(tg_lst (n:=0) (B:=0) (by simpa using nb4) f4Z (λy hy=>nomatch hy)).le (by decide) (by decide))).le (by decide) (by simp)
  | 5,rfl=>exact(tg_dct (n:=0) (B:=0) (by simpa using n5) f6Z (λp z=>nomatch z)).le (by decide) (by decide)
 refine⟨λσ H'=>DrawsAt H' d/\∃ o3 o4 o5 o6 o7 o8 o9 o10 o11 o12 o13 o14,σ=[some (.ref a),some (.ref d),some (.int k),o3,o4,o5,o6,o7,o8,o9,o10,o11,o12,o13,o14],?_,?_⟩
 rotate_left
 ·rintro σ H' ⟨hd',o3,o4,o5,o6,o7,o8,o9,o10,o11,o12,o13,o14,rfl⟩
  exact⟨6-(k+1),by omega,hd',k+1,_,_,_,_,_,_,_,_,_,_,_,_,by omega,rfl,rfl⟩
 refine⟨⟨by decide,by decide⟩,for_range (λw σ H'=>DrawsAt H' d/\Kp [d] HZ H'/\∃ o8 o9 o10 o11 o12 o13 o14,σ=[some (.ref a),some (.ref d),some (.int k),some (.ref r),some (.int m),some (.ref hd),some (.ref th),some (.ref rg),o8,o9,o10,o11,o12,o13,o14]) ?_ ?_ ?_⟩
 ·exact⟨hdZ,Kp.refl _ _,_,_,_,_,_,_,_,rfl⟩
 rotate_left
 ·rintro σ H' ⟨hd',_,o8,o9,o10,o11,o12,o13,o14,rfl⟩
  exact⟨hd',_,_,_,_,_,_,_,_,_,_,_,_,rfl⟩
 rintro w σ HA hw ⟨hdA,kA,o8,o9,o10,o11,o12,o13,o14,rfl⟩
 have hw5:w<5:=hw
 have ew:(0+(w:Int))=(w:Int):=by omega
 obtain⟨sa,ms,esZ,rms,nsa,hix⟩:∃ sa ms,HZ sa=some (.lst (ms.map V.int))/\RowM ms/\sa≠d/\[V.ref r,.ref rg][if w=4 then 1 else 0]?=some (.ref sa):=by
  by_cases h:w=4
  ·exact⟨rg,m40,eZ',rm40,nrg,by rw[if_pos h];rfl⟩
  ·exact⟨r,ns,erZ,rm,nr,by rw[if_neg h];rfl⟩
 have hsl:=rms.le
 have hsg:=rms.ne
 refine i_newL (by show 2<=sizeLine;decide) λp2 HB hp2 sB eB=>i_ixN (v:=.ref sa) (if w=4 then 1 else 0) eB (by rw[ew];by_cases h:w=4<;>simp[h];omega) hix ?_
 have kB:=kA.same sB
 refine i_lenI (kB.one nsa esZ) ⟨d,_,rfl,hdA.same sB,by decide,λj HC j0 j1 hdC kC=>?_⟩
 have hmr:min (m:Int) (ms.length:Int)=((min m ms.length:Nat):Int):=by omega
 obtain⟨jn,rfl⟩:∃ jn:Nat,j=(jn:Int):=⟨j.toNat,by omega⟩
 obtain⟨x,hx⟩:∃ x,[V.ref t0,.ref t1,.non,.ref t3,.ref t4,.ref t5][jn]?=some x:=⟨_,List.getElem?_eq_getElem (show jn<6 by omega)⟩
 have kZC:=kB.trans kC
 refine i_ixN (v:=x) jn (kZC.one nth f7Z) rfl hx ?_
 have args:∀ {v:V},[V.int (0+(w:Int)),.ref sa,v,x]=[V.int (w:Int),.ref sa,v,x]:=by rw[ew];exact rfl
 refine⟨w,sa,_,x,ms,args,hw5,kZC.one nsa esZ,rms,.inl ⟨min m ms.length,jn,congrArg V.int hmr,by omega,by omega,hTh kZC jn x hx,λv dd HD sD hdd hv=>?_⟩⟩
 have kZD:=kZC.same sD
 obtain⟨d1,rd1,ft1⟩:Tg [d] 2 500 HZ (.ref sa):=(tg_lst (n:=1) (B:=0) (by simpa using nsa) esZ (λy hy=>by obtain⟨i,hi,rfl⟩:=List.mem_map.mp hy;have:=rms.nn i hi;have:=rms.ub i hi;exact tg_int (Nat.lt_of_le_of_lt (show i.natAbs<=1000000000000 by omega) (by decide +kernel)))).le (by decide) (by rw[List.length_map];omega)
 obtain⟨d2,rd2,ft2⟩:=hTg jn x hx
 have rep:∀ {X:Hp} {p:Addr} {R:VK},Kp [d] HZ X->p≠d->X p=some (.lst [.ref sa,x])->R (.str (PyData.list [d1,d2]).shown) X->hReprD (.ref p) X R:=λk np e q=>i_reprD (S:=[d]) (n:=3) (B:=602) ⟨by simpa using np,.inl ⟨_,_,e,rfl,.cons (rd1.kp k) (.cons (rd2.kp k) .nil)⟩⟩ (fit_two ft1 ft2) (by decide) (by decide) q
 have hdD:=hdC.same sD
 refine i_newL (by show 2<=sizeLine;decide) λpk HE hpk sE eE=>rep (kZD.same sE) (hdD.ne hpk).symm eE ?_
 have kZE:=kZD.same sE
 have hdE:=hdD.same sE
 have al:Alive [d] HC:=λb hb=>by rw[List.mem_singleton.mp hb];obtain⟨ds,e,_⟩:=hdC;exact⟨_,e⟩
 have vE:RVx [d] 3 HE v dd:=(hv [d] al).same sE
 refine⟨λσ H'=>DrawsAt H' d/\Kp [d] HE H'/\∃ o14,σ=[some (.ref a),some (.ref d),some (.int k),some (.ref r),some (.int m),some (.ref hd),some (.ref th),some (.ref rg),some (.int (0+(w:Int))),some (.ref sa),some (.int (min (m:Int) (ms.length:Int))),some x,some v,some (.str (PyData.list [d1,d2]).shown),o14],?_,?_⟩
 ·refine i_lenI (kZE.one nsa esZ) ⟨d,ms.length,rfl,hdE,by omega,by omega,λpn xs HF hdF kF hpn npn eF hxl hxs=>?_⟩
  have kZF:=kZE.trans kF
  refine⟨⟨_,SqL.of eF⟩,for_list (xs:=xs) (λj σ H'=>Same HF H'/\∃ o14,σ=[some (.ref a),some (.ref d),some (.int k),some (.ref r),some (.int m),some (.ref hd),some (.ref th),some (.ref rg),some (.int (0+(w:Int))),some (.ref sa),some (.int (min (m:Int) (ms.length:Int))),some x,some v,some (.str (PyData.list [d1,d2]).shown),o14]) ?_ ?_ ?_ ?_⟩
  ·exact⟨Same.refl _,_,rfl⟩
  ·rintro j σ H' _ ⟨s',_⟩
   exact SqL.of (s' _ _ eF)
  ·rintro j y σ HG hy ⟨sG,o14,rfl⟩
   refine⟨w,sa,y,x,ms,args,hw5,sG _ _ (kZF.one nsa esZ),rms,(hxs y (List.mem_of_getElem? hy)).same sG,λHH sH=>bF ?_⟩
   have sFH:=sG.trans sH
   exact i_newL (by show 2<=sizeLine;decide) λpz HI hpz sI eI=>rep (kZF.same (sFH.trans sI)) ((hdF.same sFH).ne hpz).symm eI (bNo (by simp) ⟨sFH.trans sI,_,rfl⟩)
  ·rintro σ H' ⟨s',o14,rfl⟩
   exact⟨hdF.same s',kF.same s',_,rfl⟩
 ·rintro σ HF ⟨hdF,kF,o14,rfl⟩
  have kZF:=kZE.trans kF
  refine⟨3000,rfl,by decide,by decide,λp xs HG hp sG eG=>⟨w,sa,_,x,ms,args,hw5,sG _ _ (kZF.one nsa esZ),rms,⟨.odd (.lst eG),rfl⟩,λHH sH=>bF ?_⟩⟩
  have sFH:=sG.trans sH
  have kZH:=kZF.same sFH
  refine⟨w,sa,_,x,ms,args,hw5,kZH.one nsa esZ,rms,.inl ⟨min m ms.length,jn,congrArg V.int hmr,by omega,by omega,hTh kZH jn x hx,λv2 dd2 HI sI hdd2 hv2=>?_⟩⟩
  have ed:=hdd2.uniq hdd
  subst ed
  have sFI:=sFH.trans sI
  dsimp only[mVar]
  have eg:∀ {x8 x9 x10 x11 x13 x14:Option V},gt [some (.ref a),some (.ref d),some (.int k),some (.ref r),some (.int m),some (.ref hd),some (.ref th),some (.ref rg),x8,x9,x10,x11,some v,x13,x14] 12=some v:=rfl
  rw[eg]
  refine eqG_rv (hv2 [] (by intro b hb;simp at hb)).now ((vE.kp kF (by simp)).same sFI).now ?_
  refine bF ?_
  have kZI:=kZF.same sFI
  have hdI:=hdF.same sFI
  refine i_newL (by show 2<=sizeLine;decide) λpz HJ hpz sJ eJ=>rep (kZI.same sJ) (hdI.ne hpz).symm eJ (bNo (by simp) ?_)
  have kZJ:=kZI.same sJ
  refine i_eqI (ns:=ns) (ms:=ns) (SqL.of (kZJ.one nr erZ)) (SqL.of (kZJ.one nhd ehZ)) (bNo (by simp) ?_)
  exact⟨hdI.same sJ,kZJ,_,_,_,_,_,_,_,rfl⟩
end
end K
namespace K
open PySem PySem.Spec PyProof.Rows L2
theorem all_mk {l:W.OpenLaw}{w:World}{K:W.Frag}{h:Heap}{mg:Str->Option Value}{fa f0 f1 f2 f3 f4 f5 f6 f7 f8 f9 f10 f11 f12 f13 f14 f15 f16 f17 f18 f19 f20 f21 f22 f23 f24 f25 f26 f27 f28 f29 z_CutError z_NoMany z_NoPlace z_NoNumber z_NoText z_NoCommand:Addr}(X:K.In h)(G:h.Ns mainGlobals mg)(hfa:mg "law"=some (.ref fa))
  {od0 an0 od1 an1 od2 an2 od3 an3 od4 an4 od5 an5 od6 an6 od7 an7 od8 an8 od9 an9 od10 an10 od11 an11 od12 an12 od13 an13 od14 an14 od15 an15 od16 an16 od17 an17 od18 an18 od19 an19 od20 an20 od21 an21 od22 an22 od23 an23 od24 an24 od25 an25 od26 an26 od27 an27 od28 an28 od29 an29:Option Addr} {sl0 sl1 sl2 sl3 sl4 sl5 sl6 sl7 sl8 sl9 sl10 sl11 sl12 sl13 sl14 sl15 sl16 sl17 sl18 sl19 sl20 sl21 sl22 sl23 sl24 sl25 sl26 sl27 sl28 sl29:Array (Option Value)} {oc0 kV0 dc0 pm0 cd0 ct0 oc1 kV1 dc1 pm1 cd1 ct1 oc2 kV2 dc2 pm2 cd2 ct2 oc3 kV3 dc3 pm3 cd3 ct3 oc4 kV4 dc4 pm4 cd4 ct4 oc5 kV5 dc5 pm5 cd5 ct5 oc6 kV6 dc6 pm6 cd6 ct6 oc7 kV7 dc7 pm7 cd7 ct7 oc8 kV8 dc8 pm8 cd8 ct8 oc9 kV9 dc9 pm9 cd9 ct9 oc10 kV10 dc10 pm10 cd10 ct10 oc11 kV11 dc11 pm11 cd11 ct11 oc12 kV12 dc12 pm12 cd12 ct12 oc13 kV13 dc13 pm13 cd13 ct13 oc14 kV14 dc14 pm14 cd14 ct14 oc15 kV15 dc15 pm15 cd15 ct15 oc16 kV16 dc16 pm16 cd16 ct16 oc17 kV17 dc17 pm17 cd17 ct17 oc18 kV18 dc18 pm18 cd18 ct18 oc19 kV19 dc19 pm19 cd19 ct19 oc20 kV20 dc20 pm20 cd20 ct20 oc21 kV21 dc21 pm21 cd21 ct21 oc22 kV22 dc22 pm22 cd22 ct22 oc23 kV23 dc23 pm23 cd23 ct23 oc24 kV24 dc24 pm24 cd24 ct24 oc25 kV25 dc25 pm25 cd25 ct25 oc26 kV26 dc26 pm26 cd26 ct26 oc27 kV27 dc27 pm27 cd27 ct27 oc28 kV28 dc28 pm28 cd28 ct28 oc29 kV29 dc29 pm29 cd29 ct29:Value}
  (a0:W.nsIn K mainGlobals "_law_draws"=some (some (.ref f0))) (l0:K.lookup f0=some ⟨oc0,od0,.func (W.fnOf "_law_draws" "_law_draws" (defArgs zqd) (defBody zqd) (defScope zqd) .none kV0 dc0 pm0 an0 cd0 ct0),sl0⟩) (c0:W.codeIn K cd0 "_law_draws"=true) (k0:W.keepIn K (.ref f0)=true)
  (a1:W.nsIn K mainGlobals "_law_take"=some (some (.ref f1))) (l1:K.lookup f1=some ⟨oc1,od1,.func (W.fnOf "_law_take" "_law_take" (defArgs zq16) (defBody zq16) (defScope zq16) .none kV1 dc1 pm1 an1 cd1 ct1),sl1⟩) (c1:W.codeIn K cd1 "_law_take"=true) (k1:W.keepIn K (.ref f1)=true)
  (a2:W.nsIn K mainGlobals "_law_row"=some (some (.ref f2))) (l2:K.lookup f2=some ⟨oc2,od2,.func (W.fnOf "_law_row" "_law_row" (defArgs zq0) (defBody zq0) (defScope zq0) .none kV2 dc2 pm2 an2 cd2 ct2),sl2⟩) (c2:W.codeIn K cd2 "_law_row"=true) (k2:W.keepIn K (.ref f2)=true)
  (a3:W.nsIn K mainGlobals "_law_pieces"=some (some (.ref f3))) (l3:K.lookup f3=some ⟨oc3,od3,.func (W.fnOf "_law_pieces" "_law_pieces" (defArgs zqq) (defBody zqq) (defScope zqq) .none kV3 dc3 pm3 an3 cd3 ct3),sl3⟩) (c3:W.codeIn K cd3 "_law_pieces"=true) (k3:W.keepIn K (.ref f3)=true)
  (a4:W.nsIn K mainGlobals "is_whole"=some (some (.ref f4))) (l4:K.lookup f4=some ⟨oc4,od4,.func (W.fnOf "is_whole" "is_whole" (defArgs zqy) (defBody zqy) (defScope zqy) .none kV4 dc4 pm4 an4 cd4 ct4),sl4⟩) (c4:W.codeIn K cd4 "is_whole"=true) (k4:W.keepIn K (.ref f4)=true)
  (a5:W.nsIn K mainGlobals "is_within"=some (some (.ref f5))) (l5:K.lookup f5=some ⟨oc5,od5,.func (W.fnOf "is_within" "is_within" (defArgs zqw) (defBody zqw) (defScope zqw) .none kV5 dc5 pm5 an5 cd5 ct5),sl5⟩) (c5:W.codeIn K cd5 "is_within"=true) (k5:W.keepIn K (.ref f5)=true)
  (a6:W.nsIn K mainGlobals "check_many"=some (some (.ref f6))) (l6:K.lookup f6=some ⟨oc6,od6,.func (W.fnOf "check_many" "check_many" (defArgs zqv) (defBody zqv) (defScope zqv) .none kV6 dc6 pm6 an6 cd6 ct6),sl6⟩) (c6:W.codeIn K cd6 "check_many"=true) (k6:W.keepIn K (.ref f6)=true)
  (a7:W.nsIn K mainGlobals "long_cut"=some (some (.ref f7))) (l7:K.lookup f7=some ⟨oc7,od7,.func (W.fnOf "long_cut" "long_cut" (defArgs zqp) (defBody zqp) (defScope zqp) .none kV7 dc7 pm7 an7 cd7 ct7),sl7⟩) (c7:W.codeIn K cd7 "long_cut"=true) (k7:W.keepIn K (.ref f7)=true)
  (a8:W.nsIn K mainGlobals "fewest_pieces"=some (some (.ref f8))) (l8:K.lookup f8=some ⟨oc8,od8,.func (W.fnOf "fewest_pieces" "fewest_pieces" (defArgs zql) (defBody zql) (defScope zql) .none kV8 dc8 pm8 an8 cd8 ct8),sl8⟩) (c8:W.codeIn K cd8 "fewest_pieces"=true) (k8:W.keepIn K (.ref f8)=true)
  (a9:W.nsIn K mainGlobals "least_bound"=some (some (.ref f9))) (l9:K.lookup f9=some ⟨oc9,od9,.func (W.fnOf "least_bound" "least_bound" (defArgs zqe) (defBody zqe) (defScope zqe) .none kV9 dc9 pm9 an9 cd9 ct9),sl9⟩) (c9:W.codeIn K cd9 "least_bound"=true) (k9:W.keepIn K (.ref f9)=true)
  (a10:W.nsIn K mainGlobals "earliest_begin"=some (some (.ref f10))) (l10:K.lookup f10=some ⟨oc10,od10,.func (W.fnOf "earliest_begin" "earliest_begin" (defArgs zqa) (defBody zqa) (defScope zqa) .none kV10 dc10 pm10 an10 cd10 ct10),sl10⟩) (c10:W.codeIn K cd10 "earliest_begin"=true) (k10:W.keepIn K (.ref f10)=true)
  (a11:W.nsIn K mainGlobals "earliest_cut"=some (some (.ref f11))) (l11:K.lookup f11=some ⟨oc11,od11,.func (W.fnOf "earliest_cut" "earliest_cut" (defArgs zq9) (defBody zq9) (defScope zq9) .none kV11 dc11 pm11 an11 cd11 ct11),sl11⟩) (c11:W.codeIn K cd11 "earliest_cut"=true) (k11:W.keepIn K (.ref f11)=true)
  (a12:W.nsIn K mainGlobals "least_greatest"=some (some (.ref f12))) (l12:K.lookup f12=some ⟨oc12,od12,.func (W.fnOf "least_greatest" "least_greatest" (defArgs zqf) (defBody zqf) (defScope zqf) .none kV12 dc12 pm12 an12 cd12 ct12),sl12⟩) (c12:W.codeIn K cd12 "least_greatest"=true) (k12:W.keepIn K (.ref f12)=true)
  (a13:W.nsIn K mainGlobals "paper_of_greatest"=some (some (.ref f13))) (l13:K.lookup f13=some ⟨oc13,od13,.func (W.fnOf "paper_of_greatest" "paper_of_greatest" (defArgs zq4) (defBody zq4) (defScope zq4) .none kV13 dc13 pm13 an13 cd13 ct13),sl13⟩) (c13:W.codeIn K cd13 "paper_of_greatest"=true) (k13:W.keepIn K (.ref f13)=true)
  (a14:W.nsIn K mainGlobals "is_stretch"=some (some (.ref f14))) (l14:K.lookup f14=some ⟨oc14,od14,.func (W.fnOf "is_stretch" "is_stretch" (defArgs zq2i) (defBody zq2i) (defScope zq2i) .none kV14 dc14 pm14 an14 cd14 ct14),sl14⟩) (c14:W.codeIn K cd14 "is_stretch"=true) (k14:W.keepIn K (.ref f14)=true)
  (a15:W.nsIn K mainGlobals "are_stretches"=some (some (.ref f15))) (l15:K.lookup f15=some ⟨oc15,od15,.func (W.fnOf "are_stretches" "are_stretches" (defArgs zq8) (defBody zq8) (defScope zq8) .none kV15 dc15 pm15 an15 cd15 ct15),sl15⟩) (c15:W.codeIn K cd15 "are_stretches"=true) (k15:W.keepIn K (.ref f15)=true)
  (a16:W.nsIn K mainGlobals "says_greatest"=some (some (.ref f16))) (l16:K.lookup f16=some ⟨oc16,od16,.func (W.fnOf "says_greatest" "says_greatest" (defArgs zq3) (defBody zq3) (defScope zq3) .none kV16 dc16 pm16 an16 cd16 ct16),sl16⟩) (c16:W.codeIn K cd16 "says_greatest"=true) (k16:W.keepIn K (.ref f16)=true)
  (a17:W.nsIn K mainGlobals "short_ends"=some (some (.ref f17))) (l17:K.lookup f17=some ⟨oc17,od17,.func (W.fnOf "short_ends" "short_ends" (defArgs zqj) (defBody zqj) (defScope zqj) .none kV17 dc17 pm17 an17 cd17 ct17),sl17⟩) (c17:W.codeIn K cd17 "short_ends"=true) (k17:W.keepIn K (.ref f17)=true)
  (a18:W.nsIn K mainGlobals "greatest_bound"=some (some (.ref f18))) (l18:K.lookup f18=some ⟨oc18,od18,.func (W.fnOf "greatest_bound" "greatest_bound" (defArgs zq6) (defBody zq6) (defScope zq6) .none kV18 dc18 pm18 an18 cd18 ct18),sl18⟩) (c18:W.codeIn K cd18 "greatest_bound"=true) (k18:W.keepIn K (.ref f18)=true)
  (a19:W.nsIn K mainGlobals "greatest_least"=some (some (.ref f19))) (l19:K.lookup f19=some ⟨oc19,od19,.func (W.fnOf "greatest_least" "greatest_least" (defArgs zqg) (defBody zqg) (defScope zqg) .none kV19 dc19 pm19 an19 cd19 ct19),sl19⟩) (c19:W.codeIn K cd19 "greatest_least"=true) (k19:W.keepIn K (.ref f19)=true)
  (a20:W.nsIn K mainGlobals "paper_of_least"=some (some (.ref f20))) (l20:K.lookup f20=some ⟨oc20,od20,.func (W.fnOf "paper_of_least" "paper_of_least" (defArgs zqh) (defBody zqh) (defScope zqh) .none kV20 dc20 pm20 an20 cd20 ct20),sl20⟩) (c20:W.codeIn K cd20 "paper_of_least"=true) (k20:W.keepIn K (.ref f20)=true)
  (a21:W.nsIn K mainGlobals "are_places"=some (some (.ref f21))) (l21:K.lookup f21=some ⟨oc21,od21,.func (W.fnOf "are_places" "are_places" (defArgs zqi) (defBody zqi) (defScope zqi) .none kV21 dc21 pm21 an21 cd21 ct21),sl21⟩) (c21:W.codeIn K cd21 "are_places"=true) (k21:W.keepIn K (.ref f21)=true)
  (a22:W.nsIn K mainGlobals "says_least"=some (some (.ref f22))) (l22:K.lookup f22=some ⟨oc22,od22,.func (W.fnOf "says_least" "says_least" (defArgs zqm) (defBody zqm) (defScope zqm) .none kV22 dc22 pm22 an22 cd22 ct22),sl22⟩) (c22:W.codeIn K cd22 "says_least"=true) (k22:W.keepIn K (.ref f22)=true)
  (a23:W.nsIn K mainGlobals "best_from"=some (some (.ref f23))) (l23:K.lookup f23=some ⟨oc23,od23,.func (W.fnOf "best_from" "best_from" (defArgs zqo) (defBody zqo) (defScope zqo) .none kV23 dc23 pm23 an23 cd23 ct23),sl23⟩) (c23:W.codeIn K cd23 "best_from"=true) (k23:W.keepIn K (.ref f23)=true)
  (a24:W.nsIn K mainGlobals "ring_least_greatest"=some (some (.ref f24))) (l24:K.lookup f24=some ⟨oc24,od24,.func (W.fnOf "ring_least_greatest" "ring_least_greatest" (defArgs zq7) (defBody zq7) (defScope zq7) .none kV24 dc24 pm24 an24 cd24 ct24),sl24⟩) (c24:W.codeIn K cd24 "ring_least_greatest"=true) (k24:W.keepIn K (.ref f24)=true)
  (a25:W.nsIn K mainGlobals "_law_told"=some (some (.ref f25))) (l25:K.lookup f25=some ⟨oc25,od25,.func (W.fnOf "_law_told" "_law_told" (defArgs zqu) (defBody zqu) (defScope zqu) .none kV25 dc25 pm25 an25 cd25 ct25),sl25⟩) (c25:W.codeIn K cd25 "_law_told"=true) (k25:W.keepIn K (.ref f25)=true)
  (a26:W.nsIn K mainGlobals "_law_no_many"=some (some (.ref f26))) (l26:K.lookup f26=some ⟨oc26,od26,.func (W.fnOf "_law_no_many" "_law_no_many" (defArgs zqn) (defBody zqn) (defScope zqn) .none kV26 dc26 pm26 an26 cd26 ct26),sl26⟩) (c26:W.codeIn K cd26 "_law_no_many"=true) (k26:W.keepIn K (.ref f26)=true)
  (a27:W.nsIn K mainGlobals "_law_refused"=some (some (.ref f27))) (l27:K.lookup f27=some ⟨oc27,od27,.func (W.fnOf "_law_refused" "_law_refused" (defArgs zq5) (defBody zq5) (defScope zq5) .none kV27 dc27 pm27 an27 cd27 ct27),sl27⟩) (c27:W.codeIn K cd27 "_law_refused"=true) (k27:W.keepIn K (.ref f27)=true)
  (a28:W.nsIn K mainGlobals "_law_deep"=some (some (.ref f28))) (l28:K.lookup f28=some ⟨oc28,od28,.func (W.fnOf "_law_deep" "_law_deep" (defArgs zqx) (defBody zqx) (defScope zqx) .none kV28 dc28 pm28 an28 cd28 ct28),sl28⟩) (c28:W.codeIn K cd28 "_law_deep"=true) (k28:W.keepIn K (.ref f28)=true)
  (a29:W.nsIn K mainGlobals "law"=some (some (.ref f29))) (l29:K.lookup f29=some ⟨oc29,od29,.func (W.fnOf "law" "law" (defArgs zqc) (defBody zqc) (defScope zqc) .none kV29 dc29 pm29 an29 cd29 ct29),sl29⟩) (c29:W.codeIn K cd29 "law"=true) (k29:W.keepIn K (.ref f29)=true)
  (e_CutError:W.nsIn K mainGlobals "CutError"=some (some (.ref z_CutError)))
  (e_NoMany:W.nsIn K mainGlobals "NoMany"=some (some (.ref z_NoMany)))
  (e_NoPlace:W.nsIn K mainGlobals "NoPlace"=some (some (.ref z_NoPlace)))
  (e_NoNumber:W.nsIn K mainGlobals "NoNumber"=some (some (.ref z_NoNumber)))
  (e_NoText:W.nsIn K mainGlobals "NoText"=some (some (.ref z_NoText)))
  (e_NoCommand:W.nsIn K mainGlobals "NoCommand"=some (some (.ref z_NoCommand)))
  (w_CutError:W.excIn K z_CutError bmV "ValueError.__new__"=true)
  (w_NoMany:W.excIn K z_NoMany bmV "ValueError.__new__"=true)
  (w_NoPlace:W.excIn K z_NoPlace bmV "ValueError.__new__"=true)
  (w_NoNumber:W.excIn K z_NoNumber bmV "ValueError.__new__"=true)
  (w_NoText:W.excIn K z_NoText bmV "ValueError.__new__"=true)
  (w_NoCommand:W.excIn K z_NoCommand bmV "ValueError.__new__"=true)
  (bVE:W.nsIn K mainGlobals "ValueError"=some none)
  (i_NoMany_own:W.excIn K z_NoMany bmV "ValueError.__new__"=true)
  (i_NoMany_cl:W.findIn K (.ref z_NoMany) "__class__"=some (some (.builtin "object.__class__")))
  (i_NoMany_ob:W.mroIn K z_NoMany (.type "object")=some true)
  (i_NoMany_be:W.mroIn K z_NoMany (.type "BaseException")=some true)
  (i_NoMany_ga:W.findIn K (.ref z_NoMany) "__getattribute__"=some (some (.builtin "BaseException.__getattribute__")))
  (i_NoMany_gn:W.findIn K (.ref z_NoMany) "__getattr__"=some none)
  (m_NoMany_CutError:W.exmOne K (.ref z_NoMany) (.ref z_CutError)=some true)
  (k_NoMany_NoMany:W.kitOne K (.ref z_NoMany) (.ref z_NoMany)=some true)
  (k_NoMany_ValueError:W.kitOne K (.ref z_NoMany) (.type "ValueError")=some true)
  (k_NoMany_NoCommand:W.kitOne K (.ref z_NoMany) (.ref z_NoCommand)=some false)
  (k_NoMany_NoNumber:W.kitOne K (.ref z_NoMany) (.ref z_NoNumber)=some false)
  (k_NoMany_NoPlace:W.kitOne K (.ref z_NoMany) (.ref z_NoPlace)=some false)
  (k_NoMany_NoText:W.kitOne K (.ref z_NoMany) (.ref z_NoText)=some false)
  (z0:W.nsIn K mainGlobals "list"=some none) (z1:W.nsIn K mainGlobals "enumerate"=some none) (z2:W.nsIn K mainGlobals "int"=some none) (z3:W.nsIn K mainGlobals "sum"=some none) (z4:W.nsIn K mainGlobals "range"=some none) (z5:W.nsIn K mainGlobals "sorted"=some none) (z6:W.nsIn K mainGlobals "max"=some none) (z7:W.nsIn K mainGlobals "min"=some none) (z8:W.nsIn K mainGlobals "len"=some none) (z9:W.nsIn K mainGlobals "repr"=some none) (z10:W.nsIn K mainGlobals "isinstance"=some none) (z11:W.nsIn K mainGlobals "zip"=some none) (z12:W.nsIn K mainGlobals "bool"=some none) (z13:W.nsIn K mainGlobals "tuple"=some none) (z14:W.nsIn K mainGlobals "str"=some none) (z15:W.nsIn K mainGlobals "dict"=some none) (z16:W.nsIn K mainGlobals "abs"=some none) :
  ∃ fd:FuncData,(∀ (s:Shared) (v:Value),BindsTo s fd ⟨[v],[]⟩ [("script",v)])/\∀ base:Heap,K.In base->base.Ns mainGlobals mg->FnOk l.prog w K mg base CX0 9 fa fd ["script"] (sp_law K):=by
 have e:=hfa.symm.trans (W.mg_of X G a29)
 cases e
 have Y:ErrT K mg ⟨z_CutError,z_NoMany,z_NoPlace,z_NoNumber,z_NoText,z_NoCommand⟩:=⟨⟨W.mg_of X G e_CutError,w_CutError⟩,⟨W.mg_of X G e_NoMany,w_NoMany⟩,⟨W.mg_of X G e_NoPlace,w_NoPlace⟩,⟨W.mg_of X G e_NoNumber,w_NoNumber⟩,⟨W.mg_of X G e_NoText,w_NoText⟩,⟨W.mg_of X G e_NoCommand,w_NoCommand⟩,W.mg_none_of X G bVE,i_NoMany_own,i_NoMany_cl,i_NoMany_ob,i_NoMany_be,i_NoMany_ga,i_NoMany_gn,m_NoMany_CutError,k_NoMany_NoMany,k_NoMany_ValueError,k_NoMany_NoCommand,k_NoMany_NoNumber,k_NoMany_NoPlace,k_NoMany_NoText⟩
 have F0:=fun_mk (st:=zqd) l0 c0 k0
 have b0:=F0.binds (ps:=["script"]) λ_ _ _ _ _ _ us hl=>match us,hl with | [_],_=>rfl
 have F1:=fun_mk (st:=zq16) l1 c1 k1
 have b1:=F1.binds (ps:=["draws","many"]) λ_ _ _ _ _ _ us hl=>match us,hl with | [_,_],_=>rfl
 have F2:=fun_mk (st:=zq0) l2 c2 k2
 have b2:=F2.binds (ps:=["draws","most"]) λ_ _ _ _ _ _ us hl=>match us,hl with | [_,_],_=>rfl
 have F3:=fun_mk (st:=zqq) l3 c3 k3
 have b3:=F3.binds (ps:=["draws","row"]) λ_ _ _ _ _ _ us hl=>match us,hl with | [_,_],_=>rfl
 have F4:=fun_mk (st:=zqy) l4 c4 k4
 have b4:=F4.binds (ps:=["thing"]) λ_ _ _ _ _ _ us hl=>match us,hl with | [_],_=>rfl
 have F5:=fun_mk (st:=zqw) l5 c5 k5
 have b5:=F5.binds (ps:=["thing","low","high"]) λ_ _ _ _ _ _ us hl=>match us,hl with | [_,_,_],_=>rfl
 have F6:=fun_mk (st:=zqv) l6 c6 k6
 have b6:=F6.binds (ps:=["row","many"]) λ_ _ _ _ _ _ us hl=>match us,hl with | [_,_],_=>rfl
 have F7:=fun_mk (st:=zqp) l7 c7 k7
 have b7:=F7.binds (ps:=["row","bound"]) λ_ _ _ _ _ _ us hl=>match us,hl with | [_,_],_=>rfl
 have F8:=fun_mk (st:=zql) l8 c8 k8
 have b8:=F8.binds (ps:=["row","bound"]) λ_ _ _ _ _ _ us hl=>match us,hl with | [_,_],_=>rfl
 have F9:=fun_mk (st:=zqe) l9 c9 k9
 have b9:=F9.binds (ps:=["row","many"]) λ_ _ _ _ _ _ us hl=>match us,hl with | [_,_],_=>rfl
 have F10:=fun_mk (st:=zqa) l10 c10 k10
 have b10:=F10.binds (ps:=["row","ahead","end","bound"]) λ_ _ _ _ _ _ us hl=>match us,hl with | [_,_,_,_],_=>rfl
 have F11:=fun_mk (st:=zq9) l11 c11 k11
 have b11:=F11.binds (ps:=["row","many","bound"]) λ_ _ _ _ _ _ us hl=>match us,hl with | [_,_,_],_=>rfl
 have F12:=fun_mk (st:=zqf) l12 c12 k12
 have b12:=F12.binds (ps:=["row","many"]) λ_ _ _ _ _ _ us hl=>match us,hl with | [_,_],_=>rfl
 have F13:=fun_mk (st:=zq4) l13 c13 k13
 have b13:=F13.binds (ps:=["row","many"]) λ_ _ _ _ _ _ us hl=>match us,hl with | [_,_],_=>rfl
 have F14:=fun_mk (st:=zq2i) l14 c14 k14
 have b14:=F14.binds (ps:=["row","thing","least"]) λ_ _ _ _ _ _ us hl=>match us,hl with | [_,_,_],_=>rfl
 have F15:=fun_mk (st:=zq8) l15 c15 k15
 have b15:=F15.binds (ps:=["row","many","thing"]) λ_ _ _ _ _ _ us hl=>match us,hl with | [_,_,_],_=>rfl
 have F16:=fun_mk (st:=zq3) l16 c16 k16
 have b16:=F16.binds (ps:=["row","many","thing"]) λ_ _ _ _ _ _ us hl=>match us,hl with | [_,_,_],_=>rfl
 have F17:=fun_mk (st:=zqj) l17 c17 k17
 have b17:=F17.binds (ps:=["row","bound"]) λ_ _ _ _ _ _ us hl=>match us,hl with | [_,_],_=>rfl
 have F18:=fun_mk (st:=zq6) l18 c18 k18
 have b18:=F18.binds (ps:=["row","many"]) λ_ _ _ _ _ _ us hl=>match us,hl with | [_,_],_=>rfl
 have F19:=fun_mk (st:=zqg) l19 c19 k19
 have b19:=F19.binds (ps:=["row","many"]) λ_ _ _ _ _ _ us hl=>match us,hl with | [_,_],_=>rfl
 have F20:=fun_mk (st:=zqh) l20 c20 k20
 have b20:=F20.binds (ps:=["row","many"]) λ_ _ _ _ _ _ us hl=>match us,hl with | [_,_],_=>rfl
 have F21:=fun_mk (st:=zqi) l21 c21 k21
 have b21:=F21.binds (ps:=["row","thing","first"]) λ_ _ _ _ _ _ us hl=>match us,hl with | [_,_,_],_=>rfl
 have F22:=fun_mk (st:=zqm) l22 c22 k22
 have b22:=F22.binds (ps:=["row","many","thing"]) λ_ _ _ _ _ _ us hl=>match us,hl with | [_,_,_],_=>rfl
 have F23:=fun_mk (st:=zqo) l23 c23 k23
 have b23:=F23.binds (ps:=["row","many","first"]) λ_ _ _ _ _ _ us hl=>match us,hl with | [_,_,_],_=>rfl
 have F24:=fun_mk (st:=zq7) l24 c24 k24
 have b24:=F24.binds (ps:=["row","many"]) λ_ _ _ _ _ _ us hl=>match us,hl with | [_,_],_=>rfl
 have F25:=fun_mk (st:=zqu) l25 c25 k25
 have b25:=F25.binds (ps:=["way","row","many","thing"]) λ_ _ _ _ _ _ us hl=>match us,hl with | [_,_,_,_],_=>rfl
 have F26:=fun_mk (st:=zqn) l26 c26 k26
 have b26:=F26.binds (ps:=["draws","size"]) λ_ _ _ _ _ _ us hl=>match us,hl with | [_,_],_=>rfl
 have F27:=fun_mk (st:=zq5) l27 c27 k27
 have b27:=F27.binds (ps:=["way","row","many","thing"]) λ_ _ _ _ _ _ us hl=>match us,hl with | [_,_,_,_],_=>rfl
 have F28:=fun_mk (st:=zqx) l28 c28 k28
 have b28:=F28.binds (ps:=["many"]) λ_ _ _ _ _ _ us hl=>match us,hl with | [_],_=>rfl
 have F29:=fun_mk (st:=zqc) l29 c29 k29
 have b29:=F29.binds (ps:=["script"]) λ_ _ _ _ _ _ us hl=>match us,hl with | [_],_=>rfl
 have B:Bl mg:=⟨W.mg_none_of X G z0,W.mg_none_of X G z1,W.mg_none_of X G z2,W.mg_none_of X G z3,W.mg_none_of X G z4,W.mg_none_of X G z5,W.mg_none_of X G z6,W.mg_none_of X G z7,W.mg_none_of X G z8,W.mg_none_of X G z9,W.mg_none_of X G z10,W.mg_none_of X G z11,W.mg_none_of X G z12,W.mg_none_of X G z13,W.mg_none_of X G z14,W.mg_none_of X G z15,W.mg_none_of X G z16⟩
 refine⟨W.fnOf "law" "law" (defArgs zqc) (defBody zqc) (defScope zqc) .none kV29 dc29 pm29 an29 cd29 ct29,λs v=>.of_eq rfl,λbase _ _=>?_⟩
 have zq3u:Def l.prog w K mg base 1 "_law_draws" ["script"] (zq4f K):=⟨f0,_,zqc9 (P:=l.prog) (w:=w) (base:=base) B  F0,b0,k0,W.mg_of X G a0⟩
 have zq1:Def l.prog w K mg base 1 "_law_take" ["draws","many"] zq15:=⟨f1,_,zqct (P:=l.prog) (w:=w) (base:=base) B  F1,b1,k1,W.mg_of X G a1⟩
 have zq5q:Def l.prog w K mg base 2 "_law_row" ["draws","most"] zq66:=⟨f2,_,zqd9 (P:=l.prog) (w:=w) (base:=base) B zq1 F2,b2,k2,W.mg_of X G a2⟩
 have zq3a:Def l.prog w K mg base 2 "_law_pieces" ["draws","row"] zq3v:=⟨f3,_,zqby (P:=l.prog) (w:=w) (base:=base) B zq1 F3,b3,k3,W.mg_of X G a3⟩
 have zq4h:Def l.prog w K mg base 1 "is_whole" ["thing"] zq54:=⟨f4,_,zqcx (P:=l.prog) (w:=w) (base:=base) B  F4,b4,k4,W.mg_of X G a4⟩
 have zqs:Def l.prog w K mg base 2 "is_within" ["thing","low","high"] zq17:=⟨f5,_,zqce (P:=l.prog) (w:=w) (base:=base) B zq4h F5,b5,k5,W.mg_of X G a5⟩
 have zq2:DefX l.prog w K mg base 3 "check_many" ["row","many"] (spX_check_many ⟨z_CutError,z_NoMany,z_NoPlace,z_NoNumber,z_NoText,z_NoCommand⟩):=⟨f6,_,zqc1 (P:=l.prog) (w:=w) (base:=base) B Y zqs F6,b6,k6,W.mg_of X G a6⟩
 have zqdu:Def l.prog w K mg base 3 "check_many" ["row","many"] zq8f:=Def.imp zq2.plain λ_ _ _ _ h=>pl_check_many h
 have zq1d:Def l.prog w K mg base 1 "long_cut" ["row","bound"] zq30:=⟨f7,_,zqcz (P:=l.prog) (w:=w) (base:=base) B  F7,b7,k7,W.mg_of X G a7⟩
 have zq21:Def l.prog w K mg base 2 "fewest_pieces" ["row","bound"] zq2l:=⟨f8,_,zqa9 (P:=l.prog) (w:=w) (base:=base) B zq1d F8,b8,k8,W.mg_of X G a8⟩
 have zq2w:Def l.prog w K mg base 3 "least_bound" ["row","many"] zq3c:=⟨f9,_,zqbn (P:=l.prog) (w:=w) (base:=base) B zq21 F9,b9,k9,W.mg_of X G a9⟩
 have zq1s:Def l.prog w K mg base 1 "earliest_begin" ["row","ahead","end","bound"] zq2a:=⟨f10,_,zq9k (P:=l.prog) (w:=w) (base:=base) B  F10,b10,k10,W.mg_of X G a10⟩
 have zq2g:Def l.prog w K mg base 2 "earliest_cut" ["row","many","bound"] zq32:=⟨f11,_,zqb6 (P:=l.prog) (w:=w) (base:=base) B zq1s F11,b11,k11,W.mg_of X G a11⟩
 have zq12:DefX l.prog w K mg base 4 "least_greatest" ["row","many"] (spX_least_greatest ⟨z_CutError,z_NoMany,z_NoPlace,z_NoNumber,z_NoText,z_NoCommand⟩):=⟨f12,_,zq9l (P:=l.prog) (w:=w) (base:=base) B zq2 zq2w zq2g F12,b12,k12,W.mg_of X G a12⟩
 have zq1u:Def l.prog w K mg base 4 "least_greatest" ["row","many"] zq1l:=Def.imp zq12.plain λ_ _ _ _ h=>pl_least_greatest h
 have zq1c:DefX l.prog w K mg base 5 "paper_of_greatest" ["row","many"] (zq1o ⟨z_CutError,z_NoMany,z_NoPlace,z_NoNumber,z_NoText,z_NoCommand⟩):=⟨f13,_,zq85 (P:=l.prog) (w:=w) (base:=base) B zq12 zq1d F13,b13,k13,W.mg_of X G a13⟩
 have zq37:Def l.prog w K mg base 3 "is_stretch" ["row","thing","least"] zq3y:=⟨f14,_,zqc5 (P:=l.prog) (w:=w) (base:=base) B zqs F14,b14,k14,W.mg_of X G a14⟩
 have zq23:Def l.prog w K mg base 4 "are_stretches" ["row","many","thing"] zq2t:=⟨f15,_,zqaf (P:=l.prog) (w:=w) (base:=base) B zq37 F15,b15,k15,W.mg_of X G a15⟩
 have zq26:DefX l.prog w K mg base 5 "says_greatest" ["row","many","thing"] (zq2u ⟨z_CutError,z_NoMany,z_NoPlace,z_NoNumber,z_NoText,z_NoCommand⟩):=⟨f16,_,zqag (P:=l.prog) (w:=w) (base:=base) B zq2 zqs zq23 F16,b16,k16,W.mg_of X G a16⟩
 have zqt:Def l.prog w K mg base 1 "short_ends" ["row","bound"] zq1a:=⟨f17,_,zqc3 (P:=l.prog) (w:=w) (base:=base) B  F17,b17,k17,W.mg_of X G a17⟩
 have zq1t:Def l.prog w K mg base 2 "greatest_bound" ["row","many"] zq2b:=⟨f18,_,zq9n (P:=l.prog) (w:=w) (base:=base) B zqt F18,b18,k18,W.mg_of X G a18⟩
 have zq13:DefX l.prog w K mg base 4 "greatest_least" ["row","many"] (spX_greatest_least ⟨z_CutError,z_NoMany,z_NoPlace,z_NoNumber,z_NoText,z_NoCommand⟩):=⟨f19,_,zq9o (P:=l.prog) (w:=w) (base:=base) B zq2 zq1t zqt F19,b19,k19,W.mg_of X G a19⟩
 have zqds:Def l.prog w K mg base 4 "greatest_least" ["row","many"] zq3l:=Def.imp zq13.plain λ_ _ _ _ h=>pl_greatest_least h
 have zq1v:DefX l.prog w K mg base 5 "paper_of_least" ["row","many"] (zq2c ⟨z_CutError,z_NoMany,z_NoPlace,z_NoNumber,z_NoText,z_NoCommand⟩):=⟨f20,_,zq9p (P:=l.prog) (w:=w) (base:=base) B zq13 zqt F20,b20,k20,W.mg_of X G a20⟩
 have zq38:Def l.prog w K mg base 3 "are_places" ["row","thing","first"] zq3x:=⟨f21,_,zqbz (P:=l.prog) (w:=w) (base:=base) B zqs F21,b21,k21,W.mg_of X G a21⟩
 have zq39:DefX l.prog w K mg base 4 "says_least" ["row","many","thing"] (zq3z ⟨z_CutError,z_NoMany,z_NoPlace,z_NoNumber,z_NoText,z_NoCommand⟩):=⟨f22,_,zqc6 (P:=l.prog) (w:=w) (base:=base) B zq2 zq38 F22,b22,k22,W.mg_of X G a22⟩
 have zq3s:Def l.prog w K mg base 5 "best_from" ["row","many","first"] zq4p:=⟨f23,_,zqci (P:=l.prog) (w:=w) (base:=base) B zq1u F23,b23,k23,W.mg_of X G a23⟩
 have zq14:DefX l.prog w K mg base 6 "ring_least_greatest" ["row","many"] (zq1e ⟨z_CutError,z_NoMany,z_NoPlace,z_NoNumber,z_NoText,z_NoCommand⟩):=⟨f24,_,zq7d (P:=l.prog) (w:=w) (base:=base) B zq2 zq3s F24,b24,k24,W.mg_of X G a24⟩
 have zq18:DefX l.prog w K mg base 7 "_law_told" ["way","row","many","thing"] (zq31 ⟨z_CutError,z_NoMany,z_NoPlace,z_NoNumber,z_NoText,z_NoCommand⟩):=⟨f25,_,zqd2 (P:=l.prog) (w:=w) (base:=base) B zq1c zq26 zq1v zq39 zq14 F25,b25,k25,W.mg_of X G a25⟩
 have zq2z:Def l.prog w K mg base 2 "_law_no_many" ["draws","size"] zq3g:=⟨f26,_,zqbq (P:=l.prog) (w:=w) (base:=base) B zq1 F26,b26,k26,W.mg_of X G a26⟩
 have zq1z:Def l.prog w K mg base 8 "_law_refused" ["way","row","many","thing"] zq3f:=⟨f27,_,zqbp (P:=l.prog) (w:=w) (base:=base) B Y zq18 F27,b27,k27,W.mg_of X G a27⟩
 have zq4s:Def l.prog w K mg base 1 "_law_deep" ["many"] zq56:=⟨f28,_,zqd3 (P:=l.prog) (w:=w) (base:=base) B  F28,b28,k28,W.mg_of X G a28⟩
 exact zqdt (P:=l.prog) (w:=w) (base:=base) B zq3u zq5q zq3a zq1 zq18 zq2z zq1z zq4s F29
theorem walk {l:W.OpenLaw}{q:Program}{loose:List Str}{XP:(Str->Option Value)->Heap->Prop}{YP:World->Heap->Prop}{d:DefRec}{K:Params->W.Frag}(hn:l.most=some 63)(hdf:d.params.defaults=[])
  (hY:∀ (w:World) (h:Heap),YP w h->(K w.params).In h)
  (F:∀ (w:World) (mg:Str->Option Value) (fa:Addr) (h:Heap),(K w.params).In h->h.Ns mainGlobals mg->mg d.name=some (.ref fa) ->
   ∃ fd:FuncData,(∀ (s:Shared) (u:Value),BindsTo s fd ⟨[u],[]⟩ [("script",u)])/\∀ base:Heap,(K w.params).In base->base.Ns mainGlobals mg->FnOk l.prog w (K w.params) mg base CX0 9 fa fd ["script"] (sp_law (K w.params))) :
  W.WalkO q loose XP YP l.row.toRowW d [] (λf vs=>PySem.call f vs) :=
 L2.walk_of (n:=63) (k:=9) (x:="script") (CX:=λ_=>CX0) (sp:=λw=>sp_law (K w.params)) hn (by decide) hdf ⟨rfl,by decide,by decide,rfl⟩ hY F (λ_ _ a ns hl _ hS=>⟨a,ns,rfl,hS,hl,λ_=>rfl⟩) λ_ _ _ _ _ z=>z
end K
namespace PySem.W.Fast
def tw10035009421145001938:=0
def tw10058413924029485755:=0
def tw1017275601775415258:=0
def tw10351224985253382789:=0
def tw10364210824949569079:=0
def tw10377236412329737169:=0
def tw10499067127190290772:=0
def tw10533328260962663315:=0
def tw10586743605072245700:=0
def tw10631063458746377504:=0
def tw10671495430416946275:=0
def tw10804388786426925003:=0
def tw1082170593097306846:=0
def tw10855911484405115818:=0
def tw10865761963484624521:=0
def tw10991347205554603882:=0
def tw11010987395589749588:=0
def tw11040089375990834332:=0
def tw11061621379499450592:=0
def tw11157130814477755061:=0
def tw11169659083446259770:=0
def tw11297070685400622624:=0
def tw11310712950828834891:=0
def tw11500965775857580516:=0
def tw11501368241510836292:=0
def tw11600423833954712469:=0
def tw11664334151854751677:=0
def tw11824182171750900796:=0
def tw11839726462958983808:=0
def tw11862893881502165718:=0
def tw12021600063326779447:=0
def tw12055038480868241802:=0
def tw12230018273242418113:=0
def tw12334237045951845941:=0
def tw12343683199284050981:=0
def tw12445400942770974708:=0
def tw12484274324857012322:=0
def tw12495895065613205943:=0
def tw12512314316467593743:=0
def tw12527381985010657046:=0
def tw12648986825734751193:=0
def tw12709241624187766120:=0
def tw12728001530197126334:=0
def tw12757688774785671043:=0
def tw12823685339906445836:=0
def tw12893839247320737953:=0
def tw12957972204524314395:=0
def tw13155435016107562956:=0
def tw13210188886042182357:=0
def tw1322903506146892834:=0
def tw13241268472913722410:=0
def tw132662011230820096:=0
def tw13277359581981670761:=0
def tw13356532469961161469:=0
def tw13483248343233294735:=0
def tw13497567924105699278:=0
def tw13553108366362369526:=0
def tw13685885664404856616:=0
def tw13753960085995188553:=0
def tw13922207750930679274:=0
def tw13943695316741843913:=0
def tw13984897767184420044:=0
def tw14014150700447804883:=0
def tw14028305960654906601:=0
def tw14084031887035676276:=0
def tw14089135723908271967:=0
def tw14167365703879431038:=0
def tw1428913702068148206:=0
def tw14335794656011776451:=0
def tw14386703136470944423:=0
def tw14400597348714150150:=0
def tw14526431007419355739:=0
def tw14647357913229793781:=0
def tw14772445383260886056:=0
def tw14790634075908367824:=0
def tw14861599613465122381:=0
def tw1490276303711048862:=0
def tw14993145568418560741:=0
def tw15032087610887235041:=0
def tw15100466589122414570:=0
def tw15219282145404391664:=0
def tw15219470615206140952:=0
def tw15220414251958684361:=0
def tw15278435855160304580:=0
def tw15292056651921201706:=0
def tw15306148954410583809:=0
def tw15376456484328859438:=0
def tw15385652688284798437:=0
def tw15451797416477894097:=0
def tw1565379011240034326:=0
def tw15661214974179582965:=0
def tw1567280901232610119:=0
def tw15687040167707267491:=0
def tw15688420932466549784:=0
def tw15746327354671478016:=0
def tw15769426916624196808:=0
def tw15818779518079836403:=0
def tw15851886396424489429:=0
def tw15877708707500967879:=0
def tw15924862343672623890:=0
def tw16068829417822716319:=0
def tw16088027558256905659:=0
def tw16214068645344691359:=0
def tw16308811251233625183:=0
def tw16357170903474043221:=0
def tw16493151332872409951:=0
def tw1660368479766417440:=0
def tw16618165339452720140:=0
def tw16721542428229155121:=0
def tw16765811602756388371:=0
def tw16915309693856520554:=0
def tw16918101977712638214:=0
def tw16979021533490898572:=0
def tw17044635656608457164:=0
def tw17067672271698336082:=0
def tw17096640264328696532:=0
def tw17128255285272810884:=0
def tw17314797080611265737:=0
def tw17472707165523907137:=0
def tw17478327657371748120:=0
def tw17597141202815465396:=0
def tw17614806710550676951:=0
def tw17724020607316158975:=0
def tw17750427164360899919:=0
def tw17785249056555440662:=0
def tw17841475565308125970:=0
def tw17903336846764171221:=0
def tw17980217732446844818:=0
def tw17986101037480085727:=0
def tw17998148489485932106:=0
def tw18110125871487340350:=0
def tw18309128008315793135:=0
def tw18390265242639603757:=0
def tw1880301321691820324:=0
def tw1944987503603486241:=0
def tw19650916207968664:=0
def tw1969118278133976359:=0
def tw2006641711538228687:=0
def tw2102937441265377202:=0
def tw2117277347829501581:=0
def tw2216463639520469001:=0
def tw2433841276994864973:=0
def tw2581517675630748971:=0
def tw265505244735673155:=0
def tw2663108697937967515:=0
def tw2675643680409834553:=0
def tw2728256389641812459:=0
def tw2798082709785837472:=0
def tw2831404777470451652:=0
def tw2845993102437299960:=0
def tw290190947380021512:=0
def tw3284168417048393251:=0
def tw329941306839542280:=0
def tw3321149093370727140:=0
def tw3327070381863900694:=0
def tw3342792860316674458:=0
def tw3362054545236910130:=0
def tw3371229306692610639:=0
def tw3462490790993316572:=0
def tw3477019595597173194:=0
def tw3514021173462657382:=0
def tw3527628034456789289:=0
def tw3528017970754178052:=0
def tw3560083694300128464:=0
def tw3601756588183059162:=0
def tw3654179358197088406:=0
def tw3708494526484548689:=0
def tw3733617418740102223:=0
def tw3828782114274547689:=0
def tw3876909802868743742:=0
def tw3942225243149910631:=0
def tw3962101706229123402:=0
def tw4060009893260516296:=0
def tw4078080561975093104:=0
def tw4091096450632656097:=0
def tw410913537840088473:=0
def tw4112503622647787406:=0
def tw4187280620933646825:=0
def tw4226967215746187522:=0
def tw4315260123162562360:=0
def tw4397375353178215305:=0
def tw4470375667641473168:=0
def tw4565349822948479738:=0
def tw4601048113542384884:=0
def tw4611059401260552769:=0
def tw4749817913785048100:=0
def tw485608278671318537:=0
def tw491150459984140308:=0
def tw4911629101878279441:=0
def tw5004432567144217440:=0
def tw5022465807172638081:=0
def tw5049212281856483696:=0
def tw5056680169747641201:=0
def tw510324143153386453:=0
def tw5136352394949759535:=0
def tw5136427919892915775:=0
def tw5143977918365579237:=0
def tw5244744110633481431:=0
def tw5346740188214270659:=0
def tw5401118747969851365:=0
def tw5439452720520256491:=0
def tw5594126971778232593:=0
def tw5597805109252916437:=0
def tw5648362696131048341:=0
def tw5736811827278890652:=0
def tw5775937751992949489:=0
def tw5796948277509913633:=0
def tw580172291130723712:=0
def tw6036412701165230935:=0
def tw6114205537952522678:=0
def tw6137999265311166669:=0
def tw6376069239558421585:=0
def tw639785032011439388:=0
def tw6437725421074288779:=0
def tw6515201227883698409:=0
def tw6602525580842278302:=0
def tw6603001210954084320:=0
def tw6732378709477777474:=0
def tw6774326829718982731:=0
def tw6832090275088062709:=0
def tw6851626365728907452:=0
def tw6878646232750201842:=0
def tw6940581700332386191:=0
def tw6944417395195662479:=0
def tw7037035790248286304:=0
def tw7062747786356597764:=0
def tw7107672236300457203:=0
def tw7212671332992677400:=0
def tw7271576587110674105:=0
def tw7308951868801626379:=0
def tw7434540692007609192:=0
def tw7460721530443075324:=0
def tw7487529070127035273:=0
def tw7526530872775558358:=0
def tw7606368450301472969:=0
def tw7679981295169207677:=0
def tw7694860979433288655:=0
def tw7721351345586050973:=0
def tw7766159712638761857:=0
def tw7885509952370855914:=0
def tw795937718593090004:=0
def tw7993862145455138777:=0
def tw8212120625159651220:=0
def tw8222624174777666002:=0
def tw8256726644569380472:=0
def tw8289090575480090265:=0
def tw8370397051535613998:=0
def tw841770008706868151:=0
def tw8453501049092253340:=0
def tw8475029075347378442:=0
def tw8505986475917209606:=0
def tw8522199010028184615:=0
def tw8529451411228352811:=0
def tw8632569703595076975:=0
def tw8662764551029097551:=0
def tw8682759568654947400:=0
def tw886819723824072406:=0
def tw8894230219454549478:=0
def tw89196945997010637:=0
def tw898016519487245083:=0
def tw8998651176172839997:=0
def tw9006202323102532516:=0
def tw9160750301075177890:=0
def tw959130995872862744:=0
def tw9732596267369443604:=0
def tw9768079250509619251:=0
def tw9781808868941452702:=0
def tw9815896068507766386:=0
def tw9834142552743458768:=0
def tw9835192203827089443:=0
def tw9843037688265411182:=0
def tw9962642233459510862:=0
def tw9982375616767503271:=0
def tw9989179386219410633:=0
end PySem.W.Fast
open PySem PySem.W PyProof.Rows
set_option maxRecDepth 100000 in
set_option maxHeartbeats 0 in
theorem PySem.Challenge.cw_piecebounds_k37_no_such_many_holds : PySem.Challenge.rw_piecebounds_k37_no_such_many.Holds := by
  w_on; o_law; k_head; (case hw => w_witness2)
  k_fill
  refine K.walk (l := PySem.Challenge.rw_piecebounds_k37_no_such_many) rfl rfl (fun w h Y => PySem.W.kIn_of Y) ?F
  case F =>
    intro w mg fa h KX G hmg
    refine' K.all_mk KX G hmg ?a0 ?l0 ?c0 ?k0 ?a1 ?l1 ?c1 ?k1 ?a2 ?l2 ?c2 ?k2 ?a3 ?l3 ?c3 ?k3 ?a4 ?l4 ?c4 ?k4 ?a5 ?l5 ?c5 ?k5 ?a6 ?l6 ?c6 ?k6 ?a7 ?l7 ?c7 ?k7 ?a8 ?l8 ?c8 ?k8 ?a9 ?l9 ?c9 ?k9 ?a10 ?l10 ?c10 ?k10 ?a11 ?l11 ?c11 ?k11 ?a12 ?l12 ?c12 ?k12 ?a13 ?l13 ?c13 ?k13 ?a14 ?l14 ?c14 ?k14 ?a15 ?l15 ?c15 ?k15 ?a16 ?l16 ?c16 ?k16 ?a17 ?l17 ?c17 ?k17 ?a18 ?l18 ?c18 ?k18 ?a19 ?l19 ?c19 ?k19 ?a20 ?l20 ?c20 ?k20 ?a21 ?l21 ?c21 ?k21 ?a22 ?l22 ?c22 ?k22 ?a23 ?l23 ?c23 ?k23 ?a24 ?l24 ?c24 ?k24 ?a25 ?l25 ?c25 ?k25 ?a26 ?l26 ?c26 ?k26 ?a27 ?l27 ?c27 ?k27 ?a28 ?l28 ?c28 ?k28 ?a29 ?l29 ?c29 ?k29 ?e_CutError ?e_NoMany ?e_NoPlace ?e_NoNumber ?e_NoText ?e_NoCommand ?w_CutError ?w_NoMany ?w_NoPlace ?w_NoNumber ?w_NoText ?w_NoCommand ?bVE ?i_NoMany_own ?i_NoMany_cl ?i_NoMany_ob ?i_NoMany_be ?i_NoMany_ga ?i_NoMany_gn ?m_NoMany_CutError ?k_NoMany_NoMany ?k_NoMany_ValueError ?k_NoMany_NoCommand ?k_NoMany_NoNumber ?k_NoMany_NoPlace ?k_NoMany_NoText ?z0 ?z1 ?z2 ?z3 ?z4 ?z5 ?z6 ?z7 ?z8 ?z9 ?z10 ?z11 ?z12 ?z13 ?z14 ?z15 ?z16
    (case e_CutError | e_NoMany | e_NoPlace | e_NoNumber | e_NoText | e_NoCommand | a0 | l0 | c0 | k0 | a1 | l1 | c1 | k1 | a2 | l2 | c2 | k2 | a3 | l3 | c3 | k3 | a4 | l4 | c4 | k4 | a5 | l5 | c5 | k5 | a6 | l6 | c6 | k6 | a7 | l7 | c7 | k7 | a8 | l8 | c8 | k8 | a9 | l9 | c9 | k9 | a10 | l10 | c10 | k10 | a11 | l11 | c11 | k11 | a12 | l12 | c12 | k12 | a13 | l13 | c13 | k13 | a14 | l14 | c14 | k14 | a15 | l15 | c15 | k15 | a16 | l16 | c16 | k16 | a17 | l17 | c17 | k17 | a18 | l18 | c18 | k18 | a19 | l19 | c19 | k19 | a20 | l20 | c20 | k20 | a21 | l21 | c21 | k21 | a22 | l22 | c22 | k22 | a23 | l23 | c23 | k23 | a24 | l24 | c24 | k24 | a25 | l25 | c25 | k25 | a26 | l26 | c26 | k26 | a27 | l27 | c27 | k27 | a28 | l28 | c28 | k28 | a29 | l29 | c29 | k29 => k_is); (case w_CutError => kernel_rfl); (case w_NoMany => kernel_rfl); (case w_NoPlace => kernel_rfl); (case w_NoNumber => kernel_rfl); (case w_NoText => kernel_rfl); (case w_NoCommand => kernel_rfl); (case bVE => k_is); (case i_NoMany_own => kernel_rfl); (case i_NoMany_cl | i_NoMany_ob | i_NoMany_be | i_NoMany_ga | i_NoMany_gn => k_is); (case m_NoMany_CutError => kernel_rfl); (case k_NoMany_NoMany => kernel_rfl); (case k_NoMany_ValueError => kernel_rfl); (case k_NoMany_NoCommand => kernel_rfl); (case k_NoMany_NoNumber => kernel_rfl); (case k_NoMany_NoPlace => kernel_rfl); (case k_NoMany_NoText => kernel_rfl); (case z0 | z1 | z2 | z3 | z4 | z5 | z6 | z7 | z8 | z9 | z10 | z11 | z12 | z13 | z14 | z15 | z16 => k_is)
