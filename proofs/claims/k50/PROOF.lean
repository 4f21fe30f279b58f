import PyProof.Rows.All
import Wide.All
import OpenK.AllK
import Wide.FinOn
import Lean
import PyProof.EqAt
import PyProof.EqKinds
import PyProof.TupleCall
import PySem.Challenge.RW_piecebounds_k50_whole_changes_and_bounds
set_option Elab.async false
set_option linter.all false
set_option maxRecDepth 100000
namespace L2
open PySem PySem.Spec PyProof.Rows
abbrev Key:=Sum Int Str
def keyIs:Key->Value->Bool
 | .inl k,v=>Value.isInt k v
 | .inr x,v=>Value.isStrOf x v
def keyH (w:World):Key->Int
 | .inl k=>hashInt k
 | .inr x=>hashStr w x
theorem keyIs_shape:∀ {k:Key} {v:Value},keyIs k v=true->(∃ i t,k=Sum.inl i/\v=Value.int i t)\/(∃ x t,k=Sum.inr x/\v=Value.str x t)
 | .inl i,v,h=>by
  obtain⟨t,e⟩:=Value.isInt_shape (k:=i) (v:=v) h
  exact .inl ⟨i,t,rfl,e⟩
 | .inr x,v,h=>by
  obtain⟨t,e⟩:=Value.isStrOf_shape (x:=x) (v:=v) h
  exact .inr ⟨x,t,rfl,e⟩
theorem key_ll (a b:Int):decide ((Sum.inl a:Key)=Sum.inl b)=(a == b):=by
 by_cases e:a=b
 ·subst e;simp
 ·have h:¬ (Sum.inl a:Key)=Sum.inl b:=λq=>e (Sum.inl.inj q)
  rw[decide_eq_false h]
  exact(beq_eq_false_iff_ne.mpr e).symm
theorem key_rr (a b:Str):decide ((Sum.inr a:Key)=Sum.inr b)=decide (a=b):=by
 by_cases e:a=b
 ·subst e;simp
 ·have h:¬ (Sum.inr a:Key)=Sum.inr b:=λq=>e (Sum.inr.inj q)
  rw[decide_eq_false h,decide_eq_false e]
theorem key_lr (a:Int)(b:Str):decide ((Sum.inl a:Key)=Sum.inr b)=false:=decide_eq_false (λq=>nomatch q)
theorem key_rl (a:Str)(b:Int):decide ((Sum.inr a:Key)=Sum.inl b)=false:=decide_eq_false (λq=>nomatch q)
def mixKind (prog:Program)(w:World):PySem.KeyKind prog w Key where
 is:=keyIs
 hash:=keyH w
 inj:=λv a b ha hb=>by
  rcases keyIs_shape ha with ⟨i,t,rfl,rfl⟩ | ⟨x,t,rfl,rfl⟩
  ·rcases keyIs_shape hb with ⟨j,u,rfl,e⟩ | ⟨y,u,rfl,e⟩
   ·injection e with e1 _;rw[e1]
   ·exact nomatch e
  ·rcases keyIs_shape hb with ⟨j,u,rfl,e⟩ | ⟨y,u,rfl,e⟩
   ·exact nomatch e
   ·injection e with e1 _;rw[e1]
 byValue:=λk v h=>by
  rcases keyIs_shape h with ⟨i,t,rfl,rfl⟩ | ⟨x,t,rfl,rfl⟩<;>rfl
 pyHash:=λhv h=>by
  rcases keyIs_shape hv with ⟨i,t,rfl,rfl⟩ | ⟨x,t,rfl,rfl⟩
  ·exact wpAny_pyHash_int h
  ·exact wpAny_pyHash_str h
 eqBool:=λhu hv h=>by
  rcases keyIs_shape hu with ⟨i,t,rfl,rfl⟩ | ⟨x,t,rfl,rfl⟩
  ·rcases keyIs_shape hv with ⟨j,u,rfl,rfl⟩ | ⟨y,u,rfl,rfl⟩
   ·rw[key_ll] at h;exact wpAny_eqBool_int h
   ·rw[key_lr] at h;exact SeqAt.EqAt.int_str i t y u _ _ _ _ h
  ·rcases keyIs_shape hv with ⟨j,u,rfl,rfl⟩ | ⟨y,u,rfl,rfl⟩
   ·rw[key_rl] at h;exact SeqAt.EqAt.str_int x t j u _ _ _ _ h
   ·rw[key_rr] at h;exact wpAny_eqBool_str h
 «strs»:=λk x t v h=>by
  rcases keyIs_shape h with ⟨i,u,rfl,e⟩ | ⟨y,u,rfl,e⟩
  ·exact nomatch e
  ·injection e with e1 _
   subst e1
   cases v<;>rfl
end L2
namespace L2
open PySem PySem.Spec PyProof.Rows
inductive V where
 | non | bl (b:Bool) | int (i:Int) | str (x:Str) | byt (b:Array UInt8) | flt (b:UInt64) | ref (a:Addr) | ty (n:String)
 deriving DecidableEq
def RelV:V->Value->Prop
 | .non,u=>u=Value.none
 | .bl b,u=>u=Value.bool b
 | .int i,u=>∃ t,u=Value.int i t
 | .str x,u=>∃ t,u=Value.str x t
 | .byt b,u=>∃ t,u=Value.bytes b t
 | .flt b,u=>∃ t,u=Value.float b t
 | .ref a,u=>u=Value.ref a
 | .ty n,u=>u=Value.type n
abbrev Vals:List V->List Value->Prop:=Paired RelV
theorem Vals.length {xs:List V}{us:List Value}(r:Vals xs us):xs.length=us.length:=Paired.length r
theorem Vals.get:∀ {xs:List V} {us:List Value} {i:Nat} {x:V},Vals xs us->xs[i]?=some x->∃ u,us[i]?=some u/\RelV x u
 | _,_,_,_,.nil,e=>by simp at e
 | _,_,0,_,.cons r _,e=>by simp at e;subst e;exact⟨_,rfl,r⟩
 | _,_,i+1,x,.cons _ t,e=>by
  obtain⟨u,h1,h2⟩:=Vals.get (i:=i) (x:=x) t (by simpa using e)
  exact⟨u,by simpa using h1,h2⟩
theorem Vals.set {x:V}{u:Value}(r:RelV x u):∀ {xs:List V} {us:List Value} (i:Nat),Vals xs us->Vals (xs.set i x) (us.set i u)
 | _,_,_,.nil=>.nil
 | _,_,0,.cons _ t=>.cons r t
 | _,_,i+1,.cons q t=>.cons q (Vals.set r i t)
theorem Vals.append:∀ {xs ys:List V} {us ws:List Value},Vals xs us->Vals ys ws->Vals (xs++ys) (us++ws)
 | _,_,_,_,.nil,s=>s
 | _,_,_,_,.cons r t,s=>.cons r (Vals.append t s)
theorem Vals.take:∀ {xs:List V} {us:List Value} (n:Nat),Vals xs us->Vals (xs.take n) (us.take n)
 | _,_,0,_=>.nil
 | _,_,_+1,.nil=>.nil
 | _,_,n+1,.cons r t=>.cons r (Vals.take n t)
theorem Vals.drop:∀ {xs:List V} {us:List Value} (n:Nat),Vals xs us->Vals (xs.drop n) (us.drop n)
 | _,_,0,r=>r
 | _,_,_+1,.nil=>.nil
 | _,_,n+1,.cons _ t=>Vals.drop n t
def RelO:Option V->Option Value->Prop
 | some v,some u=>RelV v u
 | none,none=>True
 | _,_=>False
def KV {κ:Type}:List (κ×V)->List (κ×Value)->Prop:=Paired λ(p:κ×V) (q:κ×Value)=>p.1=q.1/\RelV p.2 q.2
def kV:Key->V
 | .inl i=>.int i
 | .inr x=>.str x
inductive HO where
  | lst (xs:List V)
  | tup (xs:List V)
  | dK (kvs:List (Key×V)) | dT (kvs:List (List Key×V))
  | set (S:Int->Bool) (n:Nat)
  | ins (C dx:Addr) (fs:List (Str×V))
  | own (x:Addr)
  | xd (fs:List (Str×V))
  | met (f x:Addr)
  | rng (lo hi:Int)
  | frz (o:Obj) (u:HO)
  | tbl (ps:Array Value)
  | ext (φ:Heap->Prop)
abbrev Hp:=Addr->Option HO
def upd (H:Hp)(a:Addr)(o:HO):Hp:=λb=>if b=a then some o else H b
theorem upd_same {H:Hp}{a:Addr}{o:HO}:upd H a o a=some o:=by unfold upd;rw[if_pos rfl]
theorem upd_ne {H:Hp}{a b:Addr}{o:HO}(h:b≠a):upd H a o b=H b:=by unfold upd;rw[if_neg h]
theorem ne_of_none {H:Hp}{a b:Addr}{o:HO}(h:H a=some o)(h':H b=none):a≠b:=by
 intro e;subst e;rw[h] at h';cases h'
section
variable (P:Program)(w:World)
def ObjOk (H:Hp)(h:Heap)(a:Addr):HO->Prop
 | .lst xs=>xs.length<=sizeLine/\∃ (its:List Value) (n:Nat),Vals xs its/\h.get? a=some { cls:=.type "list",data:=.seq its.toArray n }
 | .tup xs=>xs.length<=sizeLine/\∃ its:List Value,Vals xs its/\IsTup h a its.toArray
 | .dK kvs=>kvs.length<=sizeLine/\(a == sysModules)=false/\∃ vs,KV kvs vs/\h.DictOf (mixKind P w) a vs
 | .dT kvs=>kvs.length<=sizeLine/\(a == sysModules)=false/\∃ xs:List (List Key×Addr×Value),
   Paired (λ(p:List Key×V) (q:List Key×Addr×Value)=>p.1=q.1/\H q.2.1=some (.tup (p.1.map kV))/\RelV p.2 q.2.2) kvs xs /\
   ∃ o es ep,h.get? a=some o/\o.ExactDict/\o.data=.dict es ep/\es.toList=xs.map (entryOfKey (tupleKind (mixKind P w)))/\(xs.map (·.1)).Nodup
 | .set S n=>h.SetOf (intKind P w) a S n
 | .ins C dx fs=>H dx=some (.own a)/\fs.length<=1000/\dx≠a/\h.get? a=some (W.instObj C dx) /\
   ∃ mA,h.Ns1 dx mA/\(∀ f,RelO (fs.lookup f) (mA f))/\PySem.Within mA (fs.map (·.1))
 | .own _=>∃ o,h.get? a=some o
 | .xd fs=>∃ mA,h.Ns1 a mA/\∀ f,RelO (fs.lookup f) (mA f)
 | .rng lo hi=>∃ t u v,h.get? a=some { cls:=.type "range",data:=.fields #[.int lo t,.int hi u,.int 1 v] }
 | .frz o u=>h.get? a=some o/\ObjOk H h a u
 | .tbl ps=>h.get? a=some { cls:=.none,data:=.fields ps }
 | .met f x=>h.get? a=some (W.methodObj (.ref f) (.ref x))
 | .ext φ=>φ h/\(∃ o,h.get? a=some o)/\∀ h1 h2:Heap,φ h1->(∀ o,h1.get? a=some o->h2.get? a=some o)->φ h2
def HOk (H:Hp)(h:Heap):Prop:=∀ a o,H a=some o->ObjOk P w H h a o
end
section
variable {P:Program}{w:World}{H H':Hp}{h h':Heap}{a:Addr}{o:HO}
theorem ObjOk.lt (x:ObjOk P w H h a o):a<h.objs.size:=by
 cases o with
 | lst xs=>obtain⟨_,_,_,_,e⟩:=x;exact Heap.lt_size e
 | tup xs=>obtain⟨_,_,_,p⟩:=x;exact p.lt
 | dK kvs=>obtain⟨_,_,_,_,o,_,_,e,_⟩:=x;exact Heap.lt_size e
 | dT kvs=>obtain⟨_,_,_,_,o,_,_,e,_⟩:=x;exact Heap.lt_size e
 | set S n=>obtain⟨o,_,_,_,e,_⟩:=x;exact Heap.lt_size e
 | ins C dx fs=>obtain⟨_,_,_,e,_⟩:=x;exact Heap.lt_size e
 | own y=>obtain⟨_,e⟩:=x;exact Heap.lt_size e
 | xd fs=>obtain⟨_,⟨_,_,_,e,_⟩,_⟩:=x;exact Heap.lt_size e
 | rng lo hi=>obtain⟨_,_,_,e⟩:=x;exact Heap.lt_size e
 | frz ob u=>obtain⟨e,_⟩:=x;exact Heap.lt_size e
 | tbl ps=>exact Heap.lt_size (show h.get? a=some _ from x)
 | met f y=>exact Heap.lt_size (show h.get? a=some _ from x)
 | ext φ=>obtain⟨_,⟨_,e⟩,_⟩:=x;exact Heap.lt_size e
theorem Paired.mapP {α β:Type}{F G:α->β->Prop}:∀ {l₁:List α} {l₂:List β},Paired F l₁ l₂->(∀ a b,F a b->G a b)->Paired G l₁ l₂
 | _,_,.nil,_=>.nil
 | _,_,.cons r t,f=>.cons (f _ _ r) (Paired.mapP t f)
theorem ObjOk.stay (x:ObjOk P w H h a o)(k:∀ b u,(b=a\/H b=some (.own a))->h.get? b=some u->h'.get? b=some u)
  (ho:∀ b,H b=some (.own a)->H' b=some (.own a)) (ht:∀ b xs,H b=some (.tup xs)->H' b=some (.tup xs)):ObjOk P w H' h' a o:=by
 induction o with
 | lst xs=>obtain⟨z,its,n,r,e⟩:=x;exact⟨z,its,n,r,k _ _ (.inl rfl) e⟩
 | tup xs=>obtain⟨z,its,r,ob,e,c⟩:=x;exact⟨z,its,r,ob,k _ _ (.inl rfl) e,c⟩
 | dK kvs=>obtain⟨z,y,vs,r,ob,es,ep,e,c⟩:=x;exact⟨z,y,vs,r,ob,es,ep,k _ _ (.inl rfl) e,c⟩
 | dT kvs =>
  obtain⟨z,y,xs,r,ob,es,ep,e,c⟩:=x
  exact⟨z,y,xs,Paired.mapP r λp q z=>⟨z.1,ht _ _ z.2.1,z.2.2⟩,ob,es,ep,k _ _ (.inl rfl) e,c⟩
 | set S n=>obtain⟨ob,es,ep,t,e,c⟩:=x;exact⟨ob,es,ep,t,k _ _ (.inl rfl) e,c⟩
 | ins C dx fs =>
  obtain⟨d,z,ne,e,mA,⟨od,es,ep,e2,c⟩,r⟩:=x
  exact⟨ho _ d,z,ne,k _ _ (.inl rfl) e,mA,⟨od,es,ep,k _ _ (.inr d) e2,c⟩,r⟩
 | own y=>obtain⟨ob,e⟩:=x;exact⟨ob,k _ _ (.inl rfl) e⟩
 | xd fs=>obtain⟨mA,⟨od,es,ep,e,c⟩,r⟩:=x;exact⟨mA,⟨od,es,ep,k _ _ (.inl rfl) e,c⟩,r⟩
 | rng lo hi=>obtain⟨t,u,v,e⟩:=x;exact⟨t,u,v,k _ _ (.inl rfl) e⟩
 | frz ob u ih=>obtain⟨e,q⟩:=x;exact⟨k _ _ (.inl rfl) e,ih q⟩
 | tbl ps =>
  have e:h.get? a=some { cls:=.none,data:=.fields ps }:=x
  show h'.get? a=some { cls:=.none,data:=.fields ps }
  exact k a _ (.inl rfl) e
 | met f y =>
  have e:h.get? a=some (W.methodObj (.ref f) (.ref y)):=x
  show h'.get? a=some (W.methodObj (.ref f) (.ref y))
  exact k a _ (.inl rfl) e
 | ext φ=>obtain⟨p,⟨o,e⟩,st⟩:=x;exact⟨st _ _ p λo q=>k _ _ (.inl rfl) q,⟨o,k _ _ (.inl rfl) e⟩,st⟩
theorem HOk.lt (x:HOk P w H h)(e:H a=some o):a<h.objs.size:=(x a o e).lt
theorem HOk.fresh (x:HOk P w H h)(e:h.objs.size<=a):H a=none:=by
 cases q:H a with
 | none=>rfl
 | some u=>exact absurd (Nat.lt_of_lt_of_le (x.lt q) e) (Nat.lt_irrefl _)
theorem HOk.kept (x:HOk P w H h)(k:∀ b u,h.get? b=some u->h'.get? b=some u):HOk P w H h':=λa o e =>
 (x a o e).stay (λb u _ q=>k b u q) (λ_ q=>q) λ_ _ q=>q
theorem HOk.laid (x:HOk P w H h)(k:∀ b u,h.get? b=some u->h'.get? b=some u)(hp:h.objs.size<=a)(new:ObjOk P w (upd H a o) h' a o):HOk P w (upd H a o) h':=λb u e=>by
 have hn:=x.fresh hp
 by_cases hb:b=a
 ·subst hb;rw[upd_same] at e;cases e;exact new
 ·rw[upd_ne hb] at e
  exact(x b u e).stay (λc v _ q=>k c v q) (λc q=>by rw[upd_ne (ne_of_none q hn)];exact q) λc xs q=>by rw[upd_ne (ne_of_none q hn)];exact q
end
def Rd (H:Hp)(a:Addr)(u:HO):Prop:=H a=some u\/∃ o,H a=some (.frz o u)
theorem Rd.ok {P:Program}{w:World}{H:Hp}{h:Heap}{a:Addr}{u:HO}(r:Rd H a u)(x:HOk P w H h):ObjOk P w H h a u:=by
 rcases r with r | ⟨o,r⟩
 ·exact x a u r
 ·obtain⟨_,q⟩:=x a _ r
  exact q
def Mut:Option HO->Prop
 | some (.lst _)=>True
 | some (.dK _)=>True
 | some (.dT _)=>True
 | some (.set _ _)=>True
 | some (.ins _ _ _)=>True
 | some (.ext _)=>True
 | _=>False
section
variable {P:Program}{w:World}{H:Hp}{h h':Heap}{x e:Addr}{o':HO}
theorem HOk.write (ok:HOk P w H h)(mu:Mut (H x))(he:e=x\/H e=some (.own x))(k:∀ b u,b≠e->h.get? b=some u->h'.get? b=some u)(heo:∃ u,h'.get? e=some u)
  (new:ObjOk P w (upd H x o') h' x o'):HOk P w (upd H x o') h':=λb u q=>by
 have nown:∀ c y,H c=some (.own y)->c≠x:=λc y r z=>by subst z;rw[r] at mu;exact mu
 have ntup:∀ c xs,H c=some (.tup xs)->c≠x:=λc xs r z=>by subst z;rw[r] at mu;exact mu
 by_cases hb:b=x
 ·subst hb;rw[upd_same] at q;cases q;exact new
 ·rw[upd_ne hb] at q
  by_cases hbe:b=e
  ·have q':H b=some (.own x):=by
    rcases he with z | z
    ·exact absurd (hbe.trans z) hb
    ·rw[hbe];exact z
   rw[q] at q';cases q'
   obtain⟨v,hv⟩:=heo
   exact⟨v,by rw[hbe];exact hv⟩
  ·refine(ok b u q).stay (λc v hc r=>k c v ?_ r) (λc r=>by rw[upd_ne (nown c b r)];exact r) λc xs r=>by rw[upd_ne (ntup c xs r)];exact r
   rcases hc with rfl | hc
   ·exact hbe
   ·rintro rfl
    rcases he with z | z
    ·exact nown c b hc z
    ·rw[hc] at z;cases z;exact hb rfl
end
structure Un (fs ex:List Addr)(H H':Hp)(h h':Heap):Prop where
 keep:∀ b o,h.get? b=some o->H b=none->b∉fs->b∉ex->h'.get? b=some o
 slot:∀ b o,h.get? b=some o->H b=none->b∈fs->b∉ex->∃ sl,h'.get? b=some { o with slots:=sl }
 free:∀ b o,h.get? b=some o->H b=none->b∉ex->H' b=none
 there:∀ b o,h.get? b=some o->b∉ex->∃ o',h'.get? b=some o'
 tups:∀ b xs,H b=some (.tup xs)->H' b=some (.tup xs)
 frzs:∀ b o u,H b=some (.frz o u)->H' b=some (.frz o u)
 tbls:∀ b ps,H b=some (.tbl ps)->∃ more,H' b=some (.tbl (ps++more))
section
variable {fs fs' ex ex':List Addr}{H H1 H2:Hp}{h h1 h2 h':Heap}{a x e:Addr}{o:HO}
theorem Un.any (u:Un fs ex H H1 h h1){b:Addr}{ob:Obj}(q:h.get? b=some ob)(n:H b=none)(hx:b∉ex):∃ sl,h1.get? b=some { ob with slots:=sl }:=by
 by_cases hb:b∈fs
 ·exact u.slot b ob q n hb hx
 ·exact⟨ob.slots,u.keep b ob q n hb hx⟩
theorem Un.trans (a:Un fs ex H H1 h h1)(b:Un fs ex H1 H2 h1 h2):Un fs ex H H2 h h2 where
 keep:=λc ob q n hc hx=>b.keep c ob (a.keep c ob q n hc hx) (a.free c ob q n hx) hc hx
 slot:=λc ob q n hc hx=>by
  obtain⟨sl,e1⟩:=a.slot c ob q n hc hx
  obtain⟨sl',e2⟩:=b.slot c _ e1 (a.free c ob q n hx) hc hx
  exact⟨sl',e2⟩
 free:=λc ob q n hx=>by
  obtain⟨o',e1⟩:=a.there c ob q hx
  exact b.free c o' e1 (a.free c ob q n hx) hx
 there:=λc ob q hx=>by
  obtain⟨o',e1⟩:=a.there c ob q hx
  exact b.there c o' e1 hx
 tups:=λc xs q=>b.tups c xs (a.tups c xs q)
 frzs:=λc ob xs q=>b.frzs c ob xs (a.frzs c ob xs q)
 tbls:=λc ps q=>by
  obtain⟨m1,e1⟩:=a.tbls c ps q
  obtain⟨m2,e2⟩:=b.tbls c _ e1
  exact⟨m1++m2,by rw[e2,Array.append_assoc]⟩
theorem Un.kept (k:∀ b u,h.get? b=some u->h'.get? b=some u):Un fs ex H H h h' :=
 ⟨λb ob q _ _ _=>k b ob q,λb ob q _ _ _=>⟨ob.slots,k b ob q⟩,λ_ _ _ n _=>n,λb ob q _=>⟨ob,k b ob q⟩,λ_ _ q=>q,λ_ _ _ q=>q,λ_ ps q=>⟨#[],by rw[q];simp⟩⟩
theorem Un.refl:Un fs ex H H h h:=Un.kept λ_ _ q=>q
theorem Un.laid (k:∀ b u,h.get? b=some u->h'.get? b=some u)(hp:h.objs.size<=a)(hn:H a=none):Un fs ex H (upd H a o) h h' where
 keep:=λb u q _ _ _=>k b u q
 slot:=λb u q _ _ _=>⟨u.slots,k b u q⟩
 free:=λb u q n _=>by rw[upd_ne (Nat.ne_of_lt (Nat.lt_of_lt_of_le (Heap.lt_size q) hp))];exact n
 there:=λb u q _=>⟨u,k b u q⟩
 tups:=λb xs q=>by rw[upd_ne (ne_of_none q hn)];exact q
 frzs:=λb u xs q=>by rw[upd_ne (ne_of_none q hn)];exact q
 tbls:=λb ps q=>⟨#[],by rw[upd_ne (ne_of_none q hn),q];simp⟩
theorem Un.write (mu:Mut (H x))(he:e=x\/H e=some (.own x))(k:∀ b u,b≠e->h.get? b=some u->h'.get? b=some u)(heo:∃ u,h'.get? e=some u):Un fs ex H (upd H x o) h h':=by
 have hx:∀ b,H b=none->b≠x:=λb n z=>by subst z;rw[n] at mu;exact mu
 have hb:∀ b,H b=none->b≠e:=λb n z=>by
  subst z
  rcases he with r | r
  ·exact hx b n r
  ·rw[n] at r;cases r
 have hm:∀ b u,H b=some u->¬ Mut (some u)->b≠x:=λb u q nm z=>by subst z;rw[q] at mu;exact nm mu
 refine⟨λb u q n _ _=>k b u (hb b n) q,λb u q n _ _=>⟨u.slots,k b u (hb b n) q⟩,λb u q n _=>by rw[upd_ne (hx b n)];exact n,λb u q _=>?_,
  λb xs q=>by rw[upd_ne (hm b _ q λz=>z)];exact q,λb u xs q=>by rw[upd_ne (hm b _ q λz=>z)];exact q,λb ps q=>⟨#[],by rw[upd_ne (hm b _ q λz=>z),q];simp⟩⟩
 by_cases hbe:b=e
 ·subst hbe;exact heo
 ·exact⟨u,k b u hbe q⟩
end
def trk (h:Heap)(H:Hp):List Addr:=(List.range h.objs.size).filter λa=>(H a).isSome
def hidT (h:Heap)(H:Hp):Heap:=W.hideAll h (trk h H)
theorem hidT_size (h:Heap)(H:Hp):(hidT h H).objs.size=h.objs.size:=W.hideAll_size _ _
theorem hidT_get {h:Heap}{H:Hp}{b:Addr}{o:Obj}(e:h.get? b=some o)(n:H b=none):(hidT h H).get? b=some o :=
 W.hideAll_get _ e λhm=>by
  have q:(H b).isSome=true:=(List.mem_filter.mp hm).2
  rw[n] at q;simp at q
theorem of_hidT {h:Heap}{H:Hp}{b:Addr}{o:Obj}(e:(hidT h H).get? b=some o):h.get? b=some o/\H b=none:=by
 have e':h.get? b=some o:=W.of_hideAll (trk h H) e
 refine⟨e',?_⟩
 cases q:H b with
 | none=>rfl
 | some x =>
  have hm:b∈trk h H:=List.mem_filter.mpr ⟨List.mem_range.mpr (Heap.lt_size e'),by simp[q]⟩
  have z:(hidT h H).get? b=none:=W.hideAll_none (trk h H) hm
  rw[z] at e;cases e
end L2
namespace L2
open PySem PySem.Spec PyProof.Rows
structure Mod (K:W.Frag)(mg:Str->Option Value)(base:Heap):Prop where
 kin:K.In base
 glob:base.Ns mainGlobals mg
 blt:∃ mb,base.Ns builtinsNs mb/\∀ x:Str,x≠"__name__"->mb x=bootBuiltins x
 nolimit:base.NoLimit
structure Cx where
 prog:Program
 w:World
 K:W.Frag
 mg:Str->Option Value
 base:Heap
 A:Around
 N:List Str
 s₀:Shared
 H₀:Hp
 env:Env
 outer:List Env
 stack:List Env
 ex:List Addr
 fn:Str->Bool
 calm:Bool
 pn:List (Addr×Obj)
 xe:Value->Shared->Prop
def frs (l:List Env):List Addr:=l.filterMap (·.frame)
abbrev Cx.fs (X:Cx):List Addr:=frs X.outer
def Vis (sc:Scope)(x:Str):Prop:=sc.names.lookup x=some .local\/sc.names.lookup x=some .cell\/sc.names.lookup x=some .free
def Loc (sc:Scope)(x:Str):Prop:=sc.names.lookup x=some .local\/sc.names.lookup x=some .cell
def Look (env:Env)(h:Heap)(m:Str->Option Value)(x:Str)(u:Value):Prop :=
 (env.kindOf x=some .local/\m x=some u)\/((env.kindOf x=some .cell\/env.kindOf x=some .free)/\∃ c,env.cells.lookup x=some c/\h.IsCell c (some u))
structure Cx.Ok (X:Cx):Prop where
 mod:Mod X.K X.mg X.base
 kind:X.env.scope.kind=.function
 glob:X.env.globals=mainGlobals
 blt:X.env.builtins=builtinsNs
 above:X.s₀.heap.objs.size<=X.env.locals
 inj:∀ x y c,X.env.cells.lookup x=some c->X.env.cells.lookup y=some c->x=y
 has:∀ x,(X.env.kindOf x=some .cell\/X.env.kindOf x=some .free)->∃ c,X.env.cells.lookup x=some c
 cab:∀ x c,X.fn x=true->X.env.cells.lookup x=some c->X.s₀.heap.objs.size<=c
 hd:X.calm=true->X.A.handled=none
 frames:X.A.frames=some X.stack
 stk:X.stack=X.outer\/(X.stack=X.env::X.outer/\X.env.frame=some X.env.locals)
 exf:∀ b∈X.ex,b≠X.env.locals/\∀ x c,X.env.cells.lookup x=some c->c≠b
 bs:∀ b o,X.base.get? b=some o->X.s₀.heap.get? b=some o/\X.H₀ b=none
 bsz:X.base.objs.size<=X.s₀.heap.objs.size
 noex:∀ b o,X.base.get? b=some o->b∉X.ex
 exfs:∀ b∈X.ex,b∉X.fs
 funs:X.s₀.heap.FunFrames X.base X.outer
 frf:∀ b∈X.fs,X.H₀ b=none
structure Inv (X:Cx)(pins:List (Addr×Obj))(σ:List (Option V))(H:Hp)(s:Shared):Prop where
 ok:X.Ok
 os:s.os=X.s₀.os
 bare:AllBare s.gens
 base:Un X.fs X.ex X.H₀ H X.s₀.heap s.heap
 loc:∃ m,s.heap.Ns X.env.locals m/\∀ (i:Nat) (x:Str) (v:V),X.N[i]?=some x->σ[i]?=some (some v)->Vis X.env.scope x->∃ u,RelV v u/\Look X.env s.heap m x u
 cell:∀ x c,X.env.cells.lookup x=some c->∃ v,s.heap.IsCell c v
 free:H X.env.locals=none
 freeC:∀ x c,X.env.cells.lookup x=some c->H c=none
 pin:∀ p∈X.pn++pins,s.heap.get? p.1=some p.2/\H p.1=none/\p.1≠X.env.locals/\p.1∉X.fs/\∀ v,p.2.data≠.cell v
 hok:HOk X.prog X.w H s.heap
 len:σ.length=X.N.length
section
variable {X:Cx}{pins:List (Addr×Obj)}{σ:List (Option V)}{H H':Hp}{s:Shared}{h':Heap}
theorem Cx.Ok.nofr (ok:X.Ok){b:Addr}{o:Obj}(e:X.base.get? b=some o):b∉X.fs:=λhb=>by
 have:=(ok.funs.mem hb).1
 rw[e] at this;cases this
theorem Inv.bs (I:Inv X pins σ H s):∀ b o,X.base.get? b=some o->s.heap.get? b=some o/\H b=none:=λb o e =>
 ⟨I.base.keep b o (I.ok.bs b o e).1 (I.ok.bs b o e).2 (I.ok.nofr e) (I.ok.noex b o e),I.base.free b o (I.ok.bs b o e).1 (I.ok.bs b o e).2 (I.ok.noex b o e)⟩
theorem Inv.bk (I:Inv X pins σ H s):∀ b o,X.base.get? b=some o->s.heap.get? b=some o:=λb o e=>(I.bs b o e).1
theorem Inv.mod (I:Inv X pins σ H s):Mod X.K X.mg X.base:=I.ok.mod
theorem Inv.kIn (I:Inv X pins σ H s):X.K.In s.heap:=I.ok.mod.kin.keeps I.bk
theorem Inv.lt (I:Inv X pins σ H s):X.env.locals<s.heap.objs.size:=let ⟨_,hn,_⟩:=I.loc;hn.lt
theorem Inv.sz (I:Inv X pins σ H s):X.s₀.heap.objs.size<=s.heap.objs.size:=Nat.le_trans I.ok.above (Nat.le_of_lt I.lt)
theorem Inv.nofs (I:Inv X pins σ H s){a:Addr}(h:s.heap.objs.size<=a):a∉X.fs:=λhb=>by
 obtain⟨_,o,ho,_⟩:=I.ok.funs.mem hb
 exact absurd (Nat.lt_of_lt_of_le (Heap.lt_size ho) (Nat.le_trans I.sz h)) (Nat.lt_irrefl _)
theorem Inv.cne (I:Inv X pins σ H s):∀ x c,X.env.cells.lookup x=some c->c≠X.env.locals:=λx c e z=>by
 obtain⟨v,o,ho,hd⟩:=I.cell x c e
 obtain⟨m,⟨o',es,ep,ho',hd',_⟩,_⟩:=I.loc
 rw[z,ho'] at ho;cases ho;rw[hd'] at hd;cases hd
theorem Inv.funs (I:Inv X pins σ H s):s.heap.FunFrames X.base X.outer:=by
 have all:∀ (l:List Env),(∀ b∈frs l,b∈X.fs)->X.s₀.heap.FunFrames X.base l->s.heap.FunFrames X.base l:=by
  intro l
  induction l with
  | nil=>intro _ _;trivial
  | cons env r ih =>
   intro hs hl
   obtain⟨hk,⟨L,o,hf,hn,ho,hd⟩,hr⟩:=hl
   have hL:L∈X.fs:=hs L (by unfold frs;rw[List.filterMap_cons,hf];exact List.mem_cons_self)
   obtain⟨sl,e⟩:=I.base.slot L o ho (I.ok.frf L hL) hL λz=>I.ok.exfs L z hL
   exact⟨hk,⟨L,_,hf,hn,e,hd⟩,ih (λb hb=>hs b (by unfold frs;rw[List.filterMap_cons,hf];exact List.mem_cons_of_mem _ hb)) hr⟩
 exact all X.outer (λ_ hb=>hb) I.ok.funs
theorem Inv.stack (I:Inv X pins σ H s):s.heap.FunFrames X.base X.stack:=by
 rcases I.ok.stk with e | ⟨e,hf⟩
 ·rw[e];exact I.funs
 ·rw[e]
  obtain⟨m,hn,_⟩:=I.loc
  refine .cons (by rw[I.ok.kind];decide) hf hn ?_ I.funs
  exact Heap.get?_none_of_le (Nat.le_trans I.ok.bsz I.ok.above)
theorem Inv.stkSub (I:Inv X pins σ H s):∀ b∈frs X.stack,b∈X.env.locals::X.fs:=λb hb=>by
 rcases I.ok.stk with e | ⟨e,hf⟩
 ·rw[e] at hb;exact List.mem_cons_of_mem _ hb
 ·rw[e] at hb
  unfold frs at hb
  rw[List.filterMap_cons,hf] at hb
  exact hb
theorem Inv.stkFree (I:Inv X pins σ H s):∀ b∈frs X.stack,H b=none:=λb hb=>by
 rcases List.mem_cons.mp (I.stkSub b hb) with e | hb
 ·rw[e];exact I.free
 ·obtain⟨_,o,ho,_⟩:=I.ok.funs.mem hb
  exact I.base.free b o ho (I.ok.frf b hb) λz=>I.ok.exfs b z hb
theorem Inv.step {g':Array GenState}{t':Nat}{d':Drawn}{ch:List Addr}(I:Inv X pins σ H s)
  (hch:∀ b∈ch,(b∈X.ex\/X.s₀.heap.objs.size<=b)/\b≠X.env.locals/\(∀ x c,X.env.cells.lookup x=some c->c≠b)/\∀ p∈X.pn++pins,p.1≠b)
  (keep:∀ b o,b≠X.env.locals->b∉X.fs->b∉ch->s.heap.get? b=some o->H b=none->h'.get? b=some o)
  (slot:∀ b o,b≠X.env.locals->b∈X.fs->b∉ch->s.heap.get? b=some o->H b=none->∃ sl,h'.get? b=some { o with slots:=sl }) (free:∀ b o,b∉ch->s.heap.get? b=some o->H b=none->H' b=none)
  (there:∀ b o,b∉ch->s.heap.get? b=some o->∃ o',h'.get? b=some o')
  (tups:∀ b xs,H b=some (.tup xs)->H' b=some (.tup xs)) (frzs:∀ b o u,H b=some (.frz o u)->H' b=some (.frz o u)) (tbls:∀ b ps,H b=some (.tbl ps)->∃ more,H' b=some (.tbl (ps++more)))
  (ns:∀ m,s.heap.Ns X.env.locals m->h'.Ns X.env.locals m) (hok:HOk X.prog X.w H' h') (hg:AllBare g') :
  Inv X pins σ H' { s with heap:=h',gens:=g',drawn:=d',toks:=t' }:=by
 have neL:∀ b o,X.s₀.heap.get? b=some o->b≠X.env.locals:=λb o e=>Nat.ne_of_lt (Nat.lt_of_lt_of_le (Heap.lt_size e) I.ok.above)
 have neC:∀ b o,X.s₀.heap.get? b=some o->b∉X.ex->b∉ch:=λb o e hx hb=>by
  rcases (hch b hb).1 with z | z
  ·exact hx z
  ·exact absurd (Nat.lt_of_lt_of_le (Heap.lt_size e) z) (Nat.lt_irrefl _)
 have cellK:∀ x c,X.env.cells.lookup x=some c->∀ v,s.heap.IsCell c v->h'.IsCell c v:=λx c e v ⟨o,ho,hd⟩=>by
  have nch:c∉ch:=λz=>(hch c z).2.2.1 x c e rfl
  by_cases hc:c∈X.fs
  ·obtain⟨sl,q⟩:=slot c o (I.cne x c e) hc nch ho (I.freeC x c e)
   exact⟨_,q,hd⟩
  ·exact⟨o,keep c o (I.cne x c e) hc nch ho (I.freeC x c e),hd⟩
 refine⟨I.ok,I.os,hg,⟨λb o e n hb hx=>?_,λb o e n hb hx=>?_,λb o e n hx=>?_,λb o e hx=>?_,λb xs e=>tups b xs (I.base.tups b xs e),λb o xs e=>frzs b o xs (I.base.frzs b o xs e),λb ps e=>?_⟩,?_,λx c e=>?_,?_,λx c e=>?_,λp hp=>?_,hok,I.len⟩
 ·exact keep b o (neL b o e) hb (neC b o e hx) (I.base.keep b o e n hb hx) (I.base.free b o e n hx)
 ·obtain⟨sl,e1⟩:=I.base.slot b o e n hb hx
  obtain⟨sl',e2⟩:=slot b _ (neL b o e) hb (neC b o e hx) e1 (I.base.free b o e n hx)
  exact⟨sl',e2⟩
 ·obtain⟨o',e1⟩:=I.base.there b o e hx
  exact free b o' (neC b o e hx) e1 (I.base.free b o e n hx)
 ·obtain⟨o',e1⟩:=I.base.there b o e hx
  exact there b o' (neC b o e hx) e1
 ·obtain⟨m1,e1⟩:=I.base.tbls b ps e
  obtain⟨m2,e2⟩:=tbls b _ e1
  exact⟨m1++m2,by rw[e2,Array.append_assoc]⟩
 ·obtain⟨m,hn,hl⟩:=I.loc
  refine⟨m,ns m hn,λi x v e1 e2 e3=>?_⟩
  obtain⟨u,r,l⟩:=hl i x v e1 e2 e3
  refine⟨u,r,?_⟩
  rcases l with l | ⟨k,c,e,z⟩
  ·exact .inl l
  ·exact .inr ⟨k,c,e,cellK x c e _ z⟩
 ·obtain⟨v,z⟩:=I.cell x c e
  exact⟨v,cellK x c e v z⟩
 ·obtain⟨m,⟨o,_,_,ho,_⟩,_⟩:=I.loc
  exact free _ o (λz=>(hch _ z).2.1 rfl) ho I.free
 ·obtain⟨v,o,ho,hd⟩:=I.cell x c e
  exact free c o (λz=>(hch c z).2.2.1 x c e rfl) ho (I.freeC x c e)
 ·obtain⟨e,n,ne,nf,d⟩:=I.pin p hp
  have nch:p.1∉ch:=λz=>(hch p.1 z).2.2.2 p hp rfl
  exact⟨keep p.1 p.2 ne nf nch e n,free p.1 p.2 nch e n,ne,nf,d⟩
theorem Inv.un {t':Nat}(I:Inv X pins σ H s)(u:Un X.fs [] H H' s.heap h')(hok:HOk X.prog X.w H' h'):Inv X pins σ H' { s with heap:=h',toks:=t' }:=by
 obtain⟨m,⟨o,es,ep,ho,r⟩,_⟩:=id I.loc
 obtain⟨sl,hL⟩:=u.any ho I.free (by simp)
 exact I.step (g':=s.gens) (d':=s.drawn) (ch:=[]) (λ_ z=>nomatch z) (λb o _ hb _ e n=>u.keep b o e n hb (by simp)) (λb o _ hb _ e n=>u.slot b o e n hb (by simp)) (λb o _ e n=>u.free b o e n (by simp)) (λb o _ e=>u.there b o e (by simp)) u.tups u.frzs u.tbls (λm' hm=>by
  obtain⟨o',es',ep',ho',r'⟩:=hm
  rw[ho] at ho';cases ho'
  exact⟨_,es',ep',hL,r'⟩) hok I.bare
theorem Inv.call {g':Array GenState}{t':Nat}{d':Drawn}{ch:List Addr}(I:Inv X pins σ H s)(u:Un (frs X.stack) ch H H' s.heap h')(hok:HOk X.prog X.w H' h')(hg:AllBare g')
  (hch:∀ b∈ch,(b∈X.ex\/X.s₀.heap.objs.size<=b)/\b≠X.env.locals/\(∀ x c,X.env.cells.lookup x=some c->c≠b)/\∀ p∈X.pn++pins,p.1≠b) :
  Inv X pins σ H' { s with heap:=h',gens:=g',drawn:=d',toks:=t' }:=by
 obtain⟨m,⟨o,es,ep,ho,r⟩,_⟩:=id I.loc
 obtain⟨sl,hL⟩:=u.any ho I.free λz=>(hch _ z).2.1 rfl
 exact I.step (ch:=ch) hch (λb o hL hb hc e n=>u.keep b o e n (λz=>(List.mem_cons.mp (I.stkSub b z)).elim hL hb) hc) (λb o _ _ hc e n=>u.any e n hc) (λb o hc e n=>u.free b o e n hc) (λb o hc e=>u.there b o e hc) u.tups u.frzs u.tbls (λm' hm=>by
  obtain⟨o',es',ep',ho',r'⟩:=hm
  rw[ho] at ho';cases ho'
  exact⟨_,es',ep',hL,r'⟩) hok hg
theorem Inv.turned {t':Nat}{it:Addr}(I:Inv X pins σ H s)(k:∀ b o,b≠it->s.heap.get? b=some o->h'.get? b=some o)(hn:H it=none)(hL:it≠X.env.locals)
  (h1:it∈X.ex\/X.s₀.heap.objs.size<=it) (h2:∀ x c,X.env.cells.lookup x=some c->c≠it) (h3:∀ p∈X.pn++pins,p.1≠it):Inv X pins σ H { s with heap:=h',toks:=t' }:=by
 have nit:∀ b u,H b=some u->b≠it:=λb u e z=>by rw[z,hn] at e;cases e
 refine I.step (g':=s.gens) (d':=s.drawn) (ch:=[it]) (λb hb=>?_) (λb o _ _ hc e _=>k b o (λz=>hc (by simp[z])) e) (λb o _ _ hc e _=>⟨o.slots,k b o (λz=>hc (by simp[z])) e⟩) (λ_ _ _ _ n=>n)
  (λb o hc e=>⟨o,k b o (λz=>hc (by simp[z])) e⟩) (λ_ _ e=>e) (λ_ _ _ e=>e) (λb ps e=>⟨#[],by rw[e];simp⟩) (λm hm=>?_) (λb u e=>?_) I.bare
 ·have e:b=it:=by simpa using hb
  subst e
  exact⟨h1,hL,h2,h3⟩
 ·obtain⟨o,es,ep,ho,r⟩:=hm
  exact⟨o,es,ep,k _ o (Ne.symm hL) ho,r⟩
 ·refine(I.hok b u e).stay (λc v hc q=>k c v ?_ q) (λ_ q=>q) λ_ _ q=>q
  rcases hc with z | z
  ·rw[z];exact nit b u e
  ·exact nit c _ z
theorem Inv.tok (I:Inv X pins σ H s)(t:Nat):Inv X pins σ H { s with toks:=t }:=I.un (h':=s.heap) (t':=t) Un.refl I.hok
theorem Inv.kept {t':Nat}(I:Inv X pins σ H s)(k:∀ b u,s.heap.get? b=some u->h'.get? b=some u):Inv X pins σ H { s with heap:=h',toks:=t' }:=I.un (Un.kept k) (I.hok.kept k)
theorem Inv.laid {a:Addr}{o:HO}{t':Nat}(I:Inv X pins σ H s)(k:∀ b u,s.heap.get? b=some u->h'.get? b=some u)(hp:s.heap.objs.size<=a)(new:ObjOk X.prog X.w (upd H a o) h' a o) :
  Inv X pins σ (upd H a o) { s with heap:=h',toks:=t' }:=I.un (Un.laid k hp (I.hok.fresh hp)) (I.hok.laid k hp new)
theorem Inv.write {x e:Addr}{o:HO}{t':Nat}(I:Inv X pins σ H s)(mu:Mut (H x))(he:e=x\/H e=some (.own x))(k:∀ b u,b≠e->s.heap.get? b=some u->h'.get? b=some u)(heo:∃ u,h'.get? e=some u)
  (new:ObjOk X.prog X.w (upd H x o) h' x o):Inv X pins σ (upd H x o) { s with heap:=h',toks:=t' }:=I.un (Un.write mu he k heo) (I.hok.write mu he k heo new)
theorem Inv.pins_of {pins':List (Addr×Obj)}(I:Inv X pins σ H s)(h:∀ p∈pins',s.heap.get? p.1=some p.2/\H p.1=none/\p.1≠X.env.locals/\p.1∉X.fs/\∀ v,p.2.data≠.cell v):Inv X pins' σ H s :=
 ⟨I.ok,I.os,I.bare,I.base,I.loc,I.cell,I.free,I.freeC,λp hp=>(List.mem_append.mp hp).elim (λz=>I.pin p (List.mem_append_left _ z)) (h p),I.hok,I.len⟩
theorem nodup_ix {N:List Str}(hN:N.Nodup){i j:Nat}{x:Str}(a:N[i]?=some x)(b:N[j]?=some x):i=j:=by
 obtain⟨h1,e1⟩:=List.getElem?_eq_some_iff.mp a
 obtain⟨h2,e2⟩:=List.getElem?_eq_some_iff.mp b
 exact(List.getElem_inj hN).mp (e1.trans e2.symm)
theorem store_ok2 {M:Model}{A:Around}{E:Value->Shared->Prop}{i:Nat}{x:Str}{v:V}{u:Value}{Q:Unit->Shared->Prop}(I:Inv X pins σ H s)(hN:X.N.Nodup)(hi:X.N[i]?=some x)(hx:Loc X.env.scope x)(r:RelV v u)
  (h:∀ s',Inv X pins (σ.set i (some v)) H s'->(∃ a,Heap.SameBut a s.heap s'.heap/\(a=X.env.locals\/X.env.cells.lookup x=some a))->Q () s') (hf:X.fn x=true\/X.env.scope.names.lookup x=some .local:=by first | exact .inl rfl | exact .inr rfl | assumption):wpAny M A (storeName X.env x u) Q E s:=by
 obtain⟨m,hn,hl⟩:=id I.loc
 have hcls:(X.env.scope.kind == .class || (X.env.scope.kind == .module&&X.env.locals != X.env.globals))=false:=by rw[I.ok.kind];rfl
 have hiσ:i<σ.length:=by rw[I.len];exact(List.getElem?_eq_some_iff.mp hi).1
 have cne:=I.cne
 have tracked:∀ {a:Addr} {h':Heap},(∃ o,s.heap.get? a=some o/\H a=none)->Heap.SameBut a s.heap h'->HOk X.prog X.w H h':=λ{a h'} ha hs b ob e=>by
  obtain⟨_,_,hfree⟩:=ha
  refine(I.hok b ob e).stay (λc w' hc q=>(hs.2 c ?_).trans q) (λ_ q=>q) λ_ _ q=>q
  rintro rfl
  rcases hc with rfl | hc
  ·rw[hfree] at e;cases e
  ·rw[hfree] at hc;cases hc
 rcases hx with hk | hk
 ·refine wpAny_storeName_local hk hn (λh' hn' hs=>?_) hcls
  obtain⟨oL,_,_,hoL,_⟩:=id hn
  refine h _ ⟨I.ok,I.os,I.bare,⟨λb o e n hb hx=>?_,λb o e n hb hx=>?_,I.base.free,λb o e hx=>?_,I.base.tups,I.base.frzs,I.base.tbls⟩,⟨_,hn',λj y v' e1 e2 e3=>?_⟩,λy c e=>?_,I.free,I.freeC,λp hp=>?_,tracked ⟨oL,hoL,I.free⟩ hs,by simpa using I.len⟩ ⟨_,hs,.inl rfl⟩
  ·exact(hs.2 b (Nat.ne_of_lt (Nat.lt_of_lt_of_le (Heap.lt_size e) I.ok.above))).trans (I.base.keep b o e n hb hx)
  ·obtain⟨sl,e1⟩:=I.base.slot b o e n hb hx
   exact⟨sl,(hs.2 b (Nat.ne_of_lt (Nat.lt_of_lt_of_le (Heap.lt_size e) I.ok.above))).trans e1⟩
  ·obtain⟨o',e1⟩:=I.base.there b o e hx
   exact⟨o',(hs.2 b (Nat.ne_of_lt (Nat.lt_of_lt_of_le (Heap.lt_size e) I.ok.above))).trans e1⟩
  ·by_cases hj:j=i
   ·subst hj
    rw[hi] at e1;cases e1
    rw[List.getElem?_set_self hiσ] at e2
    cases e2
    exact⟨u,r,.inl ⟨hk,by simp⟩⟩
   ·rw[List.getElem?_set_ne (Ne.symm hj)] at e2
    obtain⟨u',r',q⟩:=hl j y v' e1 e2 e3
    refine⟨u',r',?_⟩
    rcases q with ⟨k,e⟩ | ⟨k,c,e,z⟩
    ·refine .inl ⟨k,?_⟩
     have:y≠x:=λe=>hj (nodup_ix hN e1 (e▸hi))
     simp[this,e]
    ·exact .inr ⟨k,c,e,z.sameBut hs (cne y c e)⟩
  ·obtain⟨w',z⟩:=I.cell y c e
   exact⟨w',z.sameBut hs (cne y c e)⟩
  ·obtain⟨e,n,ne,nf,d⟩:=I.pin p hp
   exact⟨(hs.2 p.1 ne).trans e,n,ne,nf,d⟩
 ·have hfn:X.fn x=true:=by
   rcases hf with z | z
   ·exact z
   ·rw[z] at hk;cases hk
  obtain⟨c,hc⟩:=I.ok.has x (.inl hk)
  obtain⟨w',z⟩:=I.cell x c hc
  refine wpAny_storeName_cell I.ok.kind hk hc z (λh' hc' hs=>?_)
  obtain⟨oc,hoc,hocd⟩:=id z
  refine h { s with heap:=h' } ⟨I.ok,I.os,I.bare,⟨λb o e n hb hx=>?_,λb o e n hb hx=>?_,I.base.free,λb o e hx=>?_,I.base.tups,I.base.frzs,I.base.tbls⟩,⟨m,hn.sameBut hs (Ne.symm (cne x c hc)),λj y v' e1 e2 e3=>?_⟩,λy c' e=>?_,I.free,I.freeC,λp hp=>?_,tracked ⟨oc,hoc,I.freeC x c hc⟩ hs,by simpa using I.len⟩ ⟨c,hs,.inr hc⟩
  ·exact(hs.2 b (Nat.ne_of_lt (Nat.lt_of_lt_of_le (Heap.lt_size e) (I.ok.cab x c hfn hc)))).trans (I.base.keep b o e n hb hx)
  ·obtain⟨sl,e1⟩:=I.base.slot b o e n hb hx
   exact⟨sl,(hs.2 b (Nat.ne_of_lt (Nat.lt_of_lt_of_le (Heap.lt_size e) (I.ok.cab x c hfn hc)))).trans e1⟩
  ·obtain⟨o',e1⟩:=I.base.there b o e hx
   exact⟨o',(hs.2 b (Nat.ne_of_lt (Nat.lt_of_lt_of_le (Heap.lt_size e) (I.ok.cab x c hfn hc)))).trans e1⟩
  ·by_cases hj:j=i
   ·subst hj
    rw[hi] at e1;cases e1
    rw[List.getElem?_set_self hiσ] at e2
    cases e2
    exact⟨u,r,.inr ⟨.inl hk,c,hc,hc'⟩⟩
   ·rw[List.getElem?_set_ne (Ne.symm hj)] at e2
    obtain⟨u',r',q⟩:=hl j y v' e1 e2 e3
    refine⟨u',r',?_⟩
    rcases q with q | ⟨k,c',e,z'⟩
    ·exact .inl q
    ·refine .inr ⟨k,c',e,z'.sameBut hs ?_⟩
     rintro rfl
     exact hj (nodup_ix hN e1 (I.ok.inj _ _ _ e hc▸hi))
  ·by_cases hcc:c'=c
   ·subst hcc;exact⟨_,hc'⟩
   ·obtain⟨w2,z2⟩:=I.cell y c' e
    exact⟨w2,z2.sameBut hs hcc⟩
  ·obtain⟨e,n,ne,nf,d⟩:=I.pin p hp
   refine⟨(hs.2 p.1 ?_).trans e,n,ne,nf,d⟩
   intro q
   rw[q,hoc] at e
   have q':oc=p.2:=Option.some.inj e
   exact d w' (by rw[<- q'];exact hocd)
theorem store_ok {M:Model}{A:Around}{E:Value->Shared->Prop}{i:Nat}{x:Str}{v:V}{u:Value}{Q:Unit->Shared->Prop}(I:Inv X pins σ H s)(hN:X.N.Nodup)(hi:X.N[i]?=some x)(hx:Loc X.env.scope x)(r:RelV v u)
  (h:∀ s',Inv X pins (σ.set i (some v)) H s'->Q () s') (hf:X.fn x=true\/X.env.scope.names.lookup x=some .local:=by first | exact .inl rfl | exact .inr rfl | assumption):wpAny M A (storeName X.env x u) Q E s :=
 store_ok2 I hN hi hx r (λs' I' _=>h s' I') hf
theorem Inv.call' {s':Shared}{ch:List Addr}(I:Inv X pins σ H s)(ho:s'.os=s.os)(u:Un (frs X.stack) ch H H' s.heap s'.heap)(hok:HOk X.prog X.w H' s'.heap)(hg:AllBare s'.gens)
  (hch:∀ b∈ch,(b∈X.ex\/X.s₀.heap.objs.size<=b)/\b≠X.env.locals/\(∀ x c,X.env.cells.lookup x=some c->c≠b)/\∀ p∈X.pn++pins,p.1≠b):Inv X pins σ H' s':=by
 obtain⟨h',g',d',t',o'⟩:=s'
 have e:o'=s.os:=ho
 subst e
 exact I.call (g':=g') (t':=t') (d':=d') u hok hg hch
end
abbrev XK:=Value->Option Addr->Hp->Prop
abbrev St:=List (Option V)
abbrev VK:=V->Hp->Prop
abbrev TE:=St->Hp->VK->Prop
abbrev TT:=St->Hp->(Bool->Hp->Prop)->Prop
abbrev TA:=St->Hp->(List V->Hp->Prop)->Prop
structure Ends where
 nx:St->Hp->Prop
 rt:VK
 bk:St->Hp->Prop:=λ_ _=>False
 ct:St->Hp->Prop:=λ_ _=>False
abbrev TS:=Ends->St->Hp->Prop
def EP (X:Cx)(pins:List (Addr×Obj))(σ:St)(Q:VK)(u:Value)(s':Shared):Prop:=∃ v H',Inv X pins σ H' s'/\RelV v u/\Q v H'
def TP (X:Cx)(pins:List (Addr×Obj))(σ:St)(Q:Bool->Hp->Prop)(b:Bool)(s':Shared):Prop:=∃ H',Inv X pins σ H' s'/\Q b H'
def AP (X:Cx)(pins:List (Addr×Obj))(σ:St)(Q:List V->Hp->Prop)(us:List Value)(s':Shared):Prop:=∃ vs H',Inv X pins σ H' s'/\Vals vs us/\Q vs H'
def SP (X:Cx)(pins:List (Addr×Obj))(D:Ends)(f:Flow)(s':Shared):Prop :=
 match f with
 | .next=>∃ σ' H',Inv X pins σ' H' s'/\D.nx σ' H'
 | .brk=>∃ σ' H',Inv X pins σ' H' s'/\D.bk σ' H'
 | .cont=>∃ σ' H',Inv X pins σ' H' s'/\D.ct σ' H'
 | .ret u=>∃ v σ' H',Inv X pins σ' H' s'/\RelV v u/\D.rt v H'
def PE (X:Cx)(e:Expr)(t:TE):Prop :=
 ∀ (pins:List (Addr×Obj)) (s:Shared) (σ:St) (H:Hp) (Q:VK),Inv X pins σ H s->t σ H Q->wpAny (model X.prog X.w) X.A (eval e X.env) (EP X pins σ Q) X.xe s
def PT (X:Cx)(e:Expr)(t:TT):Prop :=
 ∀ (pins:List (Addr×Obj)) (s:Shared) (σ:St) (H:Hp) (Q:Bool->Hp->Prop),Inv X pins σ H s->t σ H Q->wpAny (model X.prog X.w) X.A (isTrue e X.env (eval e X.env)) (TP X pins σ Q) X.xe s
def PW (X:Cx)(e:Expr)(t:TT):Prop :=
 ∀ (whole:Sem Value) (pins:List (Addr×Obj)) (s:Shared) (σ:St) (H:Hp) (Q:Bool->Hp->Prop),Inv X pins σ H s->t σ H Q->wpAny (model X.prog X.w) X.A (isTrue e X.env whole) (TP X pins σ Q) X.xe s
theorem PW.pt {X:Cx}{e:Expr}{t:TT}(h:PW X e t):PT X e t:=h _
def PA (X:Cx)(es:List Expr)(t:TA):Prop :=
 ∀ (pos:Pos) (pins:List (Addr×Obj)) (s:Shared) (σ:St) (H:Hp) (Q:List V->Hp->Prop),Inv X pins σ H s->t σ H Q->wpAny (model X.prog X.w) X.A (spliced (backTo pos (starEach es X.env))) (AP X pins σ Q) X.xe s
def PS (X:Cx)(st:Stmt)(t:TS):Prop :=
 ∀ (pins:List (Addr×Obj)) (s:Shared) (σ:St) (H:Hp) (D:Ends),Inv X pins σ H s->t D σ H->wpAny (model X.prog X.w) X.A (exec st X.env) (SP X pins D) X.xe s
def PSs (X:Cx)(st:List Stmt)(t:TS):Prop :=
 ∀ (pins:List (Addr×Obj)) (s:Shared) (σ:St) (H:Hp) (D:Ends),Inv X pins σ H s->t D σ H->wpAny (model X.prog X.w) X.A (execs st X.env) (SP X pins D) X.xe s
theorem thn {α:Type}{t:Sem α}{Q Q':α->Shared->Prop}{M:Model}{A:Around}{E:Value->Shared->Prop}{s:Shared}(h:wpAny M A t Q E s)(hQ:∀ a s,Q a s->Q' a s):wpAny M A t Q' E s:=wpAny_mono h hQ λ_ _ x=>x
end L2
namespace L2
open PySem PySem.Spec PyProof.Rows
section
variable {X:Cx}
theorem bin {a b:Expr}{ta tb:TE}(ha:PE X a ta)(hb:PE X b tb){pins:List (Addr×Obj)}{s:Shared}{σ:St}{H:Hp}{R:V->V->Hp->Prop}(I:Inv X pins σ H s)(h:ta σ H λx H1=>tb σ H1 λy H2=>R x y H2)
  {α:Type} {Q:α->Shared->Prop} {f:Value->Value->Sem α}
  (hf:∀ v u s2 x y H2,Inv X pins σ H2 s2->RelV x v->RelV y u->R x y H2->wpAny (model X.prog X.w) X.A (f v u) Q X.xe s2) :
  wpAny (model X.prog X.w) X.A (eval a X.env) (λv s₁=>wpAny (model X.prog X.w) X.A (eval b X.env) (λu s₂=>wpAny (model X.prog X.w) X.A (f v u) Q X.xe s₂) X.xe s₁) X.xe s:=by
 refine thn (ha pins s σ H _ I h) λv s1 ⟨x,H1,I1,r1,q1⟩=>?_
 refine thn (hb pins s1 σ H1 _ I1 q1) λu s2 ⟨y,H2,I2,r2,q2⟩=>?_
 exact hf v u s2 x y H2 I2 r1 r2 q2
def tVar (i:Nat):TE:=λσ H Q=>∃ v,σ[i]?=some (some v)/\Q v H
def tC (v:V):TE:=λ_ H Q=>Q v H
theorem pe_var {i:Nat}{x:Str}{pos:Pos}(hN:X.N[i]?=some x)(hv:Vis X.env.scope x)(hd:(x == ("__debug__":Str))=false:=by decide)(hcd:(x == ("__classdict__":Str))=false:=by decide):PE X (.Name x pos) (tVar i):=by
 intro pins s σ H Q I h
 obtain⟨v,e,h⟩:=h
 obtain⟨m,hn,hl⟩:=I.loc
 obtain⟨u,r,l⟩:=hl i x v hN e hv
 have fin:EP X pins σ Q u s:=⟨v,H,I,r,h⟩
 rcases l with ⟨hk,hm⟩ | ⟨hk,c,hc,hcell⟩
 ·exact wpAny_Name (wpAny_loadName_local I.ok.kind hk hn hm fin) hd
 ·rcases hk with hk | hk
  ·exact wpAny_Name (wpAny_loadName_cell I.ok.kind hk hc hcell fin) hd
  ·exact wpAny_Name (wpAny_loadName_free I.ok.kind hk hc hcell fin hcd) hd
theorem pe_int {i j pos}:PE X (.Constant (.int i) j pos) (tC (.int i)):=λ_ _ _ H _ I h=>wpAny_Constant_int ⟨.int i,H,I.tok _,⟨_,rfl⟩,h⟩
theorem pe_bl {b j pos}:PE X (.Constant (.bool b) j pos) (tC (.bl b)):=λ_ _ _ H _ I h=>Constant_bool ⟨.bl b,H,I,rfl,h⟩
theorem pe_non {j pos}:PE X (.Constant .none j pos) (tC .non):=λ_ _ _ H _ I h=>Constant_none ⟨.non,H,I,rfl,h⟩
def Gl (X:Cx)(x:Str):Prop:=X.env.kindOf x=some .globalImplicit
theorem ld_glob {E:Value->Shared->Prop}{pins:List (Addr×Obj)}{s:Shared}{σ:St}{H:Hp}{x:Str}{u:Value}{pos:Pos}{Q:Value->Shared->Prop}(I:Inv X pins σ H s)(hg:Gl X x)(hm:X.mg x=some u)(h:Q u s)
  (hd:(x == ("__debug__":Str))=false:=by decide):wpAny (model X.prog X.w) X.A (eval (.Name x pos) X.env) Q E s :=
 Calls.Name_function_global I.ok.kind hg (Calls.loadGlobal_global (by rw[I.ok.glob];exact I.mod.glob.keeps I.bk) hm h) hd
theorem ld_blt {E:Value->Shared->Prop}{pins:List (Addr×Obj)}{s:Shared}{σ:St}{H:Hp}{x:Str}{u:Value}{pos:Pos}{Q:Value->Shared->Prop}(I:Inv X pins σ H s)(hg:Gl X x)(hm:X.mg x=none)(hv:bootBuiltins x=some u)(h:Q u s)
  (hn:x≠"__name__":=by decide) (hd:(x == ("__debug__":Str))=false:=by decide):wpAny (model X.prog X.w) X.A (eval (.Name x pos) X.env) Q E s:=by
 obtain⟨mb,h1,h2⟩:=I.mod.blt
 exact Calls.Name_function_global I.ok.kind hg (Calls.loadGlobal_builtin (by rw[I.ok.glob];exact I.mod.glob.keeps I.bk) hm (by rw[I.ok.blt];exact h1.keeps I.bk) ((h2 x hn).trans hv) h) hd
theorem pe_glob {x:Str}{v:V}{u:Value}{pos:Pos}(hg:Gl X x)(hm:X.mg x=some u)(r:RelV v u)(hd:(x == ("__debug__":Str))=false:=by decide):PE X (.Name x pos) (tC v) :=
 λ_ _ _ H _ I h=>ld_glob I hg hm ⟨v,H,I,r,h⟩ hd
theorem pe_bltn {x:Str}{v:V}{u:Value}{pos:Pos}(hg:Gl X x)(hm:X.mg x=none)(hv:bootBuiltins x=some u)(r:RelV v u)(hn:x≠"__name__":=by decide)(hd:(x == ("__debug__":Str))=false:=by decide):PE X (.Name x pos) (tC v) :=
 λ_ _ _ H _ I h=>ld_blt I hg hm hv ⟨v,H,I,r,h⟩ hn hd
def t2I (ta tb:TE)(k:Int->Int->Hp->Prop):St->Hp->Prop:=λσ H=>ta σ H λx H1=>tb σ H1 λy H2=>∃ i j,x=.int i/\y=.int j/\k i j H2
variable {a b:Expr}{ta tb:TE}{pos:Pos}
def tCmp (p:Int->Int->Bool)(ta tb:TE):TE:=λσ H Q=>t2I ta tb (λi j H2=>Q (.bl (p i j)) H2) σ H
abbrev tLt:TE->TE->TE:=tCmp λi j=>decide (i<j)
abbrev tLe:TE->TE->TE:=tCmp λi j=>decide (i<=j)
abbrev tGt:TE->TE->TE:=tCmp λi j=>decide (j<i)
abbrev tGe:TE->TE->TE:=tCmp λi j=>decide (j<=i)
abbrev tEqI:TE->TE->TE:=tCmp λi j=>decide (i=j)
abbrev tNeI:TE->TE->TE:=tCmp λi j=>!decide (i=j)
variable {tA tB':TT}{rest:List Expr}
def tNot (t:TT):TT:=λσ H Q=>t σ H λc H1=>Q (!c) H1
theorem pw_and1 (ha:PT X a tA):PW X (.BoolOp .And [a] pos) tA:=by
 intro wh pins s σ H Q I h
 refine isTrue_and (thn (ha pins s σ H Q I h) λc s1 e=>?_)
 cases c with
 | true=>exact isTrue_and_nil e
 | false=>exact e
theorem pw_or1 (ha:PT X a tA):PW X (.BoolOp .Or [a] pos) tA:=by
 intro wh pins s σ H Q I h
 refine isTrue_or (thn (ha pins s σ H Q I h) λc s1 e=>?_)
 cases c with
 | false=>exact isTrue_or_nil e
 | true=>exact e
theorem pt_not (ha:PT X a tA):PT X (.UnaryOp .Not a pos) (tNot tA):=by
 intro pins s σ H Q I h
 exact isTrue_not (ha pins s σ H (λc H1=>Q (!c) H1) I h)
theorem pe_one {op}{t:TE}(h:PE X a t):PE X (.BoolOp op [a] pos) t:=λpins s σ H Q I hw=>BoolOp_one (h pins s σ H Q I hw)
end
end L2
namespace L2
open PySem PySem.Spec PyProof.Rows
def SqL (K:W.Frag)(H:Hp)(a:Addr)(xs:List V):Prop :=
 Rd H a (.lst xs) \/
  ∃ (o:Obj) (its:Array Value) (n:Nat),K.lookup a=some o/\o.cls=.type "list"/\o.dict=none/\o.data=.seq its n/\its.size<=sizeLine/\Vals xs its.toList
def SqT (K:W.Frag)(H:Hp)(a:Addr)(xs:List V):Prop :=
 Rd H a (.tup xs) \/
  ∃ (o:Obj) (its:Array Value) (n:Nat),K.lookup a=some o/\o.cls=.type "tuple"/\o.data=.seq its n/\its.size<=sizeLine/\Vals xs its.toList
def absV:Value->Option V
 | .none=>some .non
 | .bool b=>some (.bl b)
 | .int i _=>some (.int i)
 | .str x _=>some (.str x)
 | .bytes b _=>some (.byt b)
 | .float b _=>some (.flt b)
 | .ref a=>some (.ref a)
 | .type n=>some (.ty n)
 | _=>none
theorem RelV.abs {x:V}{u:Value}(r:RelV x u):absV u=some x:=by
 cases x with
 | non=>cases r;rfl
 | bl _=>cases r;rfl
 | int _=>obtain⟨t,rfl⟩:=r;rfl
 | str _=>obtain⟨t,rfl⟩:=r;rfl
 | byt _=>obtain⟨t,rfl⟩:=r;rfl
 | flt _=>obtain⟨t,rfl⟩:=r;rfl
 | ref _=>cases r;rfl
 | ty _=>cases r;rfl
theorem RelV.inj {x y:V}{u:Value}(r:RelV x u)(q:RelV y u):x=y:=Option.some.inj (r.abs.symm.trans q.abs)
theorem Vals.inj:∀ {xs ys:List V} {us:List Value},Vals xs us->Vals ys us->xs=ys
 | _,_,_,.nil,.nil=>rfl
 | _,_,_,.cons r t,.cons r' t'=>by rw[r.inj r',Vals.inj t t']
section
variable {X:Cx}{pins:List (Addr×Obj)}{σ:St}{H:Hp}{s:Shared}{a:Addr}{xs ys:List V}
theorem SqL.of {K:W.Frag}(h:H a=some (.lst xs)):SqL K H a xs:=.inl (.inl h)
theorem SqT.of {K:W.Frag}(h:H a=some (.tup xs)):SqT K H a xs:=.inl (.inl h)
theorem Inv.list (I:Inv X pins σ H s)(h:SqL X.K H a xs):∃ its:List Value,Vals xs its/\PlainL s.heap a its.toArray/\xs.length<=sizeLine:=by
 rcases h with h | ⟨o,its,n,hk,hc,hd,hs,hz,r⟩
 ·obtain⟨z,its,n,r,e⟩:=h.ok I.hok
  exact⟨its,r,⟨_,n,e,rfl,rfl,rfl⟩,z⟩
 ·refine⟨its.toList,r,⟨o,n,I.kIn a o hk,hc,hd,by simpa using hs⟩,?_⟩
  have e:=r.length
  simp only[Array.length_toList] at e
  omega
theorem Inv.tuple (I:Inv X pins σ H s)(h:SqT X.K H a xs):∃ its:List Value,Vals xs its/\IsTup s.heap a its.toArray/\xs.length<=sizeLine:=by
 rcases h with h | ⟨o,its,n,hk,hc,hs,hz,r⟩
 ·obtain⟨z,its,r,p⟩:=h.ok I.hok
  exact⟨its,r,p,z⟩
 ·refine⟨its.toList,r,⟨o,I.kIn a o hk,hc,n,by simpa using hs⟩,?_⟩
  have e:=r.length
  simp only[Array.length_toList] at e
  omega
theorem Inv.list_inj (I:Inv X pins σ H s)(h:SqL X.K H a xs)(h':SqL X.K H a ys):xs=ys:=by
 obtain⟨its,r,⟨o,n,e,_,_,d⟩,_⟩:=I.list h
 obtain⟨its',r',⟨o',n',e',_,_,d'⟩,_⟩:=I.list h'
 rw[e] at e';cases e'
 rw[d] at d'
 injection d' with d1 _
 have:its=its':=by simpa using congrArg Array.toList d1
 subst this
 exact r.inj r'
end
abbrev Cx.wish (X:Cx)(E:Value->Shared->Prop):Cx:={ X with xe:=E }
abbrev Cx.nox (X:Cx):Cx:=X.wish λ_ _=>False
theorem Cx.Ok.wish {X:Cx}(ok:X.Ok)(E:Value->Shared->Prop):(X.wish E).Ok :=
 ⟨ok.mod,ok.kind,ok.glob,ok.blt,ok.above,ok.inj,ok.has,ok.cab,ok.hd,ok.frames,ok.stk,ok.exf,ok.bs,ok.bsz,ok.noex,ok.exfs,ok.funs,ok.frf⟩
theorem Cx.Ok.unwish {X:Cx}{E:Value->Shared->Prop}(ok:(X.wish E).Ok):X.Ok :=
 ⟨ok.mod,ok.kind,ok.glob,ok.blt,ok.above,ok.inj,ok.has,ok.cab,ok.hd,ok.frames,ok.stk,ok.exf,ok.bs,ok.bsz,ok.noex,ok.exfs,ok.funs,ok.frf⟩
section
variable {X:Cx}{pins:List (Addr×Obj)}{σ:St}{H:Hp}{s:Shared}{E:Value->Shared->Prop}
theorem Inv.wish (I:Inv X pins σ H s)(E:Value->Shared->Prop):Inv (X.wish E) pins σ H s:=⟨I.ok.wish E,I.os,I.bare,I.base,I.loc,I.cell,I.free,I.freeC,I.pin,I.hok,I.len⟩
theorem Inv.unwish (I:Inv (X.wish E) pins σ H s):Inv X pins σ H s:=⟨I.ok.unwish,I.os,I.bare,I.base,I.loc,I.cell,I.free,I.freeC,I.pin,I.hok,I.len⟩
theorem SP.unwish {D:Ends}{f:Flow}{s':Shared}(h:SP (X.wish E) pins D f s'):SP X pins D f s':=by
 cases f with
 | next=>obtain⟨σ',H',I,q⟩:=h;exact⟨σ',H',I.unwish,q⟩
 | brk=>obtain⟨σ',H',I,q⟩:=h;exact⟨σ',H',I.unwish,q⟩
 | cont=>obtain⟨σ',H',I,q⟩:=h;exact⟨σ',H',I.unwish,q⟩
 | ret u=>obtain⟨v,σ',H',I,r,q⟩:=h;exact⟨v,σ',H',I.unwish,r,q⟩
theorem PSs.nox {st:List Stmt}{t:TS}(h:PSs X.nox st t):PSs X st t:=λpins s σ H D I hw =>
 wpAny_mono (h pins s σ H D (I.wish _) hw) (λ_ _ q=>q.unwish) λ_ _ z=>False.elim z
end
section
variable {X:Cx}{st:Stmt}{rest:List Stmt}{t u:TS}{e:Expr}{te:TE}{pos:Pos}
def tNext:TS:=λD σ H=>D.nx σ H
def tSeq (t u:TS):TS:=λD σ H=>t { D with nx:=u D } σ H
theorem pss_nil:PSs X [] tNext:=λ_ _ σ H _ I h=>wpAny_execs_nil ⟨σ,H,I,h⟩
theorem pss_cons (h1:PS X st t)(h2:PSs X rest u):PSs X (st::rest) (tSeq t u):=by
 intro pins s σ H D I h
 refine wpAny_execs_cons (thn (h1 pins s σ H { D with nx:=u D } I h) λf s1 q=>?_)
 cases f with
 | next =>
  obtain⟨σ',H',I',q⟩:=q
  exact h2 pins s1 σ' H' D I' q
 | ret v=>exact q
 | brk=>exact q
 | cont=>exact q
theorem pss_one (h1:PS X st t):PSs X [st] t:=by
 intro pins s σ H D I h
 refine wpAny_execs_cons (thn (h1 pins s σ H D I h) λf s1 q=>?_)
 cases f with
 | next=>exact wpAny_execs_nil q
 | ret v=>exact q
 | brk=>exact q
 | cont=>exact q
theorem Inv.quiet {pins:List (Addr×Obj)}{σ:St}{H:Hp}{s:Shared}(I:Inv X pins σ H s):interactive X.env=false:=by simp[interactive,I.ok.kind]
def tDrop (te:TE):TS:=λD σ H=>te σ H λ_ H1=>D.nx σ H1
theorem ps_expr (he:PE X e te)(hs:swapsWith e none pos.line X.env=pure false:=by rfl):PS X (.Expr e pos) (tDrop te):=by
 intro pins s σ H D I h
 exact wpAny_Expr_any (thn (he pins s σ H _ I h) λv s1 ⟨x,H1,I1,r1,q1⟩=>⟨σ,H1,I1,q1⟩) I.quiet hs
def tRet (te:TE):TS:=λD σ H=>te σ H D.rt
theorem ps_ret (he:PE X e te):PS X (.Return (some e) pos) (tRet te):=by
 intro pins s σ H D I h
 exact wpAny_Return_some (thn (he pins s σ H _ I h) λv s1 ⟨x,H1,I1,r1,q1⟩=>⟨x,σ,H1,I1,r1,q1⟩)
def tNever:TS:=λ_ _ _=>False
theorem ps_never:PS X st tNever:=λ_ _ _ _ _ _ h=>h.elim
end
abbrev TG:=V->St->Hp->(St->Hp->Prop)->Prop
abbrev TGs:=List V->St->Hp->(St->Hp->Prop)->Prop
def PG (X:Cx)(target:Expr)(t:TG):Prop :=
 ∀ (pins:List (Addr×Obj)) (s:Shared) (σ:St) (H:Hp) (v:V) (u:Value) (Q:St->Hp->Prop),Inv X pins σ H s->RelV v u->t v σ H Q ->
  wpAny (model X.prog X.w) X.A (assign target X.env u) (λ_ s'=>∃ σ' H',Inv X pins σ' H' s'/\Q σ' H') X.xe s
def PGs (X:Cx)(ts:List Expr)(t:TGs):Prop :=
 ∀ (pins:List (Addr×Obj)) (s:Shared) (σ:St) (H:Hp) (vs:List V) (us:List Value) (Q:St->Hp->Prop),Inv X pins σ H s->Vals vs us->t vs σ H Q ->
  wpAny (model X.prog X.w) X.A (assignInOrder ((assignEach ts X.env).map (·.2)) us) (λ_ s'=>∃ σ' H',Inv X pins σ' H' s'/\Q σ' H') X.xe s
abbrev TSet:=V->V->V->Hp->(Hp->Prop)->Prop
def PSet (X:Cx)(t:TSet):Prop :=
 ∀ (pins:List (Addr×Obj)) (s:Shared) (σ:St) (H:Hp) (o i v:V) (ov iv u:Value) (Q:Hp->Prop),Inv X pins σ H s->RelV o ov->RelV i iv->RelV v u->t o i v H Q ->
  wpAny (model X.prog X.w) X.A (setItem ov iv u) (λ_ s'=>∃ H',Inv X pins σ H' s'/\Q H') X.xe s
abbrev TIp:=V->V->Hp->VK->Prop
def PIp (X:Cx)(op:Operator)(t:TIp):Prop :=
 ∀ (pins:List (Addr×Obj)) (s:Shared) (σ:St) (H:Hp) (x y:V) (v u:Value) (Q:VK),Inv X pins σ H s->RelV x v->RelV y u->t x y H Q ->
  wpAny (model X.prog X.w) X.A (inplaceOp op v u) (EP X pins σ Q) X.xe s
section
variable {X:Cx}{pos:Pos}
def gName (i:Nat):TG:=λv σ H Q=>Q (σ.set i (some v)) H
theorem pg_name {i:Nat}{x:Str}(hN:X.N.Nodup)(hi:X.N[i]?=some x)(hx:Loc X.env.scope x)(hf:X.fn x=true\/X.env.scope.names.lookup x=some .local:=by first | exact .inl rfl | exact .inr rfl | assumption):PG X (.Name x pos) (gName i):=by
 intro pins s σ H v u Q I r h
 exact wpAny_assign_Name (store_ok I hN hi hx r (λs' I'=>⟨_,H,I',h⟩) hf)
def gNil:TGs:=λvs σ H Q=>vs=[]/\Q σ H
def gCons (t:TG)(u:TGs):TGs:=λvs σ H Q=>∃ v r,vs=v::r/\t v σ H λσ' H'=>u r σ' H' Q
theorem pgs_nil:PGs X [] gNil:=by
 intro pins s σ H vs us Q I r h
 obtain⟨e,h⟩:=h
 subst e
 cases r
 exact assignInOrder_nil ⟨σ,H,I,h⟩
theorem pgs_cons {e:Expr}{es:List Expr}{t:TG}{u:TGs}(h1:PG X e t)(h2:PGs X es u)
  (hs:(assignEach (e::es) X.env).map (·.2)=assign e X.env::(assignEach es X.env).map (·.2):=by rfl):PGs X (e::es) (gCons t u):=by
 intro pins s σ H vs us Q I r h
 obtain⟨v,vr,e1,h⟩:=h
 subst e1
 cases r with
 | cons r rr =>
  rw[hs]
  refine assignInOrder_cons (thn (h1 pins s σ H _ _ _ I r h) λ_ s1 ⟨σ1,H1,I1,q1⟩=>?_)
  exact h2 pins s1 σ1 H1 _ _ Q I1 rr q1
def gTup (K:W.Frag)(n:Nat)(t:TGs):TG:=λv σ H Q=>∃ a xs,v=.ref a/\SqT K H a xs/\xs.length=n/\t xs σ H Q
theorem pg_tup {es:List Expr}{k:Nat}{t:TGs}{n:Nat}(hc:X.calm=true)(h:PGs X es t)
  (hn:(assignEach es X.env).length=n:=by rfl) (hst:(assignEach es X.env).findIdx? (·.1)=none:=by rfl):PG X (.Tuple es k pos) (gTup X.K n t):=by
 intro pins s σ H v u Q I r hw
 obtain⟨a,xs,e1,hq,hl,hw⟩:=hw
 subst e1
 cases r
 obtain⟨its,rv,ht,hz⟩:=I.tuple hq
 refine assign_Tuple_tuple (I.ok.hd hc) ht (by simp[hn,<- hl,rv.length]) hst λh' hx=>?_
 have I1:Inv X pins σ H { s with heap:=h' }:=I.kept (t':=s.toks) λb o e=>hx b o (Nat.ne_of_lt (Heap.lt_size e)) e
 exact h pins _ σ H xs _ Q I1 (by simpa using rv) hw
def gSub (to ti:TE)(t:TSet):TG:=λv σ H Q=>to σ H λo H1=>ti σ H1 λi H2=>t o i v H2 λH3=>Q σ H3
theorem pg_sub {o i:Expr}{to ti:TE}{t:TSet}(ho:PE X o to)(hi:PE X i ti)(hs:PSet X t)
  (ha:∀ v,assign (.Subscript o i pos) X.env v=(do
   let ov <- holding [v] (eval o X.env)
   let iv <- holding [v,ov] (eval i X.env)
   standAt pos
   holding [v,ov,iv] (setItem ov iv v)
   release [v,ov,iv] []):=by intro _;rfl):PG X (.Subscript o i pos) (gSub to ti t):=by
 intro pins s σ H v u Q I r h
 rw[ha]
 refine wpAny_bind (wpAny_holding (thn (ho pins s σ H _ I h) λov s1 ⟨x,H1,I1,r1,q1⟩=>?_))
 refine wpAny_bind (wpAny_holding (thn (hi pins s1 σ H1 _ I1 q1) λiv s2 ⟨y,H2,I2,r2,q2⟩=>?_))
 refine wpAny_bind (wpAny_standAt (wpAny_bind (wpAny_holding (thn (hs pins s2 σ H2 x y v ov iv u _ I2 r1 r2 r q2) λ_ s3 ⟨H3,I3,q3⟩=>?_))))
 exact wpAny_release ⟨σ,H3,I3,q3⟩
def tAsg (te:TE)(g:TG):TS:=λD σ H=>te σ H λx H1=>g x σ H1 D.nx
theorem ps_asg {tg e:Expr}{te:TE}{g:TG}(he:PE X e te)(hg:PG X tg g)(hs:swapsWithSole [tg] e pos.line X.env=pure false:=by rfl)(hw:swappedStores [tg] e X.env=pure none:=by rfl)
  (h1:(assignEach [tg] X.env).map (·.2)=[assign tg X.env]:=by rfl):PS X (.Assign [tg] e pos) (tAsg te g):=by
 intro pins s σ H D I h
 refine wpAny_Assign_stores (thn (he pins s σ H _ I h) λv s1 ⟨x,H1,I1,r1,q1⟩=>?_) hs hw
 rw[h1]
 exact thn (hg pins s1 σ H1 x v _ I1 r1 q1) λ_ s2 q=>q
theorem ps_set {i:Nat}{x:Str}{e:Expr}{te:TE}{pos':Pos}(hN:X.N.Nodup)(hi:X.N[i]?=some x)(hx:Loc X.env.scope x)(he:PE X e te)(hs:swapsWith e (some (.Name x pos')) pos.line X.env=pure false:=by rfl)(hf:X.fn x=true\/X.env.scope.names.lookup x=some .local:=by first | exact .inl rfl | exact .inr rfl | assumption) :
  PS X (.Assign [.Name x pos'] e pos) (tAsg te (gName i)):=by
 intro pins s σ H D I h
 refine wpAny_Assign_Name (thn (he pins s σ H _ I h) λv s1 ⟨y,H1,I1,r1,q1⟩=>?_) hs
 exact store_ok I1 hN hi hx r1 (λs2 I2=>⟨_,H1,I2,q1⟩) hf
def tAug (i:Nat)(te:TE)(ti:TIp):TS:=λD σ H=>∃ x,σ[i]?=some (some x)/\te σ H λy H1=>ti x y H1 λz H2=>D.nx (σ.set i (some z)) H2
theorem ps_aug {i:Nat}{x:Str}{e:Expr}{te:TE}{op:Operator}{ti:TIp}{pos':Pos}(hN:X.N.Nodup)(hi:X.N[i]?=some x)(hx:Loc X.env.scope x)(he:PE X e te)(ho:PIp X op ti)(hf:X.fn x=true\/X.env.scope.names.lookup x=some .local:=by first | exact .inl rfl | exact .inr rfl | assumption) :
  PS X (.AugAssign (.Name x pos') op e pos) (tAug i te ti):=by
 intro pins s σ H D I h
 obtain⟨v,e1,h⟩:=h
 obtain⟨m,hn,hl⟩:=I.loc
 have vis:Vis X.env.scope x:=by rcases hx with k | k;exact .inl k;exact .inr (.inl k)
 obtain⟨u,r,l⟩:=hl i x v hi e1 vis
 refine wpAny_AugAssign_Name ?_
 have go:wpAny (model X.prog X.w) X.A (eval e X.env) (λw s₂=>wpAny (model X.prog X.w) X.A (inplaceOp op u w) (λr s₃=>wpAny (model X.prog X.w) X.A (storeName X.env x r) (λ_=>SP X pins D .next) X.xe s₃) X.xe s₂) X.xe s:=by
  refine thn (he pins s σ H _ I h) λw s1 ⟨y,H1,I1,r1,q1⟩=>?_
  refine thn (ho pins s1 σ H1 v y u w _ I1 r r1 q1) λz s2 ⟨zv,H2,I2,r2,q2⟩=>?_
  exact store_ok I2 hN hi hx r2 (λs3 I3=>⟨_,H2,I3,q2⟩) hf
 rcases l with ⟨hk,hm⟩ | ⟨hk,c,hc,hcell⟩
 ·exact wpAny_loadName_local I.ok.kind hk hn hm go
 ·rcases hk with hk | hk
  ·exact wpAny_loadName_cell I.ok.kind hk hc hcell go
  ·rcases hx with k | k
   ·have:X.env.scope.names.lookup x=some .free:=hk
    rw[k] at this;cases this
   ·have:X.env.scope.names.lookup x=some .free:=hk
    rw[k] at this;cases this
def ipI (f:Int->Int->Int):TIp:=λx y H Q=>∃ i j,x=.int i/\y=.int j/\Q (.int (f i j)) H
theorem ip_add:PIp X .Add (ipI λi j=>i+j):=by
 intro pins s σ H x y v u Q I r1 r2 h
 obtain⟨i,j,e1,e2,q⟩:=h
 subst e1;subst e2
 obtain⟨t,rfl⟩:=r1
 obtain⟨t',rfl⟩:=r2
 exact iadd_int ⟨.int _,H,I.tok _,⟨_,rfl⟩,q⟩
theorem ip_sub:PIp X .Sub (ipI λi j=>i-j):=by
 intro pins s σ H x y v u Q I r1 r2 h
 obtain⟨i,j,e1,e2,q⟩:=h
 subst e1;subst e2
 obtain⟨t,rfl⟩:=r1
 obtain⟨t',rfl⟩:=r2
 exact isub_int ⟨.int _,H,I.tok _,⟨_,rfl⟩,q⟩
end
section
variable {X:Cx}{pos:Pos}
end
structure It where
 go:Nat->Hp->Prop
 yld:Nat->Hp->V->Hp->Prop
 stop:Nat->Hp->Prop
def FpOk (X:Cx)(pins:List (Addr×Obj))(H:Hp)(b:Addr):Prop :=
 H b=none/\b≠X.env.locals/\b∉X.fs/\(b∈X.ex\/X.s₀.heap.objs.size<=b)/\(∀ x c,X.env.cells.lookup x=some c->c≠b)/\∀ p∈X.pn++pins,p.1≠b
theorem Inv.fpOk {X:Cx}{pins:List (Addr×Obj)}{σ:St}{H H':Hp}{s:Shared}{b:Addr}(I:Inv X pins σ H s)(hb:s.heap.objs.size<=b)(hn:H' b=none):FpOk X pins H' b:=by
 refine⟨hn,Nat.ne_of_gt (Nat.lt_of_lt_of_le I.lt hb),I.nofs hb,.inr (Nat.le_trans I.sz hb),λx c e z=>?_,λp hp z=>?_⟩
 ·obtain⟨v,q⟩:=I.cell x c e
  exact absurd (Nat.lt_of_lt_of_le q.lt (by rw[z];exact hb)) (Nat.lt_irrefl _)
 ·exact absurd (Nat.lt_of_lt_of_le (Heap.lt_size (I.pin p hp).1) (by rw[z];exact hb)) (Nat.lt_irrefl _)
structure Turn (P:Program)(w:World)(K:W.Frag)(tg:Expr)(J:It)(fp:List Addr)(it:Addr)(tn:Nat->Heap->Prop):Prop where
 mem:it∈fp
 obj:∀ i h,tn i h->∀ b∈fp,∃ o,h.get? b=some o/\∀ v,o.data≠.cell v
 keep:∀ i h h',tn i h->(∀ b∈fp,∀ o,h.get? b=some o->h'.get? b=some o)->tn i h'
 item:∀ (X:Cx),X.prog=P->X.w=w->X.K=K->X.calm=true->∀ (i:Nat) (pins:List (Addr×Obj)) (s:Shared) (σ:St) (H:Hp) (E:Value->Shared->Prop),Inv X pins σ H s->(∀ b∈fp,FpOk X pins H b)->tn i s.heap->J.go i H ->
  wpAny (model P w) X.A (pyNext (.ref it)) (λr s1=>∃ u,r=some u /\
   wpAny (model P w) X.A (letOwnedTupleGo tg (.ref it) u) (λ_ s2=>∃ x H',Inv X pins σ H' s2/\RelV x u/\J.yld i H x H'/\tn (i+1) s2.heap/\∀ b∈fp,H' b=none) E s1) E s
 done:∀ (X:Cx),X.prog=P->X.w=w->X.K=K->X.calm=true->∀ (i:Nat) (pins:List (Addr×Obj)) (s:Shared) (σ:St) (H:Hp) (E:Value->Shared->Prop),Inv X pins σ H s->(∀ b∈fp,FpOk X pins H b)->tn i s.heap->J.stop i H ->
  wpAny (model P w) X.A (pyNext (.ref it)) (λr s1=>r=none/\Inv X pins σ H s1) E s
 self:∀ (A:Around) (i:Nat) (s:Shared) (Q:Value->Shared->Prop) (E:Value->Shared->Prop),tn i s.heap->Q (.ref it) s->wpAny (model P w) A (pyIter (.ref it)) Q E s
abbrev TI:=St->Hp->(It->Hp->Prop)->Prop
def PIE (X:Cx)(pins:List (Addr×Obj))(σ:St)(tg:Expr)(R:It->Hp->Prop)(itv:Value)(s2:Shared):Prop :=
 ∃ (it:Addr) (fp:List Addr) (tn:Nat->Heap->Prop) (J:It) (H':Hp),itv=.ref it/\Inv X pins σ H' s2/\Turn X.prog X.w X.K tg J fp it tn/\tn 0 s2.heap/\(∀ b∈fp,FpOk X pins H' b)/\R J H'
def PI (X:Cx)(tg iter:Expr)(wi:TI):Prop :=
 ∀ (pins:List (Addr×Obj)) (s:Shared) (σ:St) (H:Hp) (R:It->Hp->Prop),Inv X pins σ H s->wi σ H R ->
  wpAny (model X.prog X.w) X.A (eval iter X.env) (λv s1=>wpAny (model X.prog X.w) X.A (pyIter v) (PIE X pins σ tg R) X.xe s1) X.xe s
theorem go_of {M : Model} {A : Around} {E : Value → Shared → Prop} {s : Shared} {tg : Expr} {it : Addr} {u : Value} {o : Obj} {n : String} {vs : Array Value} {Q : Unit → Shared → Prop} (ho : s.heap.get? it = some o) (hc : o.cls = .type n) (hd : o.data = .fields vs)
    (hn : ["enumerate", "zip", "dict_itemiterator", "dict_reverseitemiterator", "odict_iterator", "itertools.zip_longest", "itertools.pairwise"].contains n = false) (hQ : Q () s) : wpAny M A (letOwnedTupleGo tg (.ref it) u) Q E s := by
  unfold letOwnedTupleGo
  cases tg <;> first
    | exact wpAny_pure hQ
    | (cases u <;> first
        | exact wpAny_pure hQ
        | (refine wpAny_bind (wpAny_load ho ?_)
           rw [hc, hd]
           show wpAny M A (if (["enumerate", "zip", "dict_itemiterator", "dict_reverseitemiterator", "odict_iterator", "itertools.zip_longest", "itertools.pairwise"].contains n && vs[0]? == some (rawInt _)) = true then _ else _) Q E s
           rw [if_neg (by intro h; rw [hn, Bool.false_and] at h; cases h)]
           exact wpAny_pure hQ))
def Itl (K:W.Frag)(a:Addr):It :=
 ⟨λi H=>∃ xs x,SqL K H a xs/\xs[i]?=some x,λi H x H'=>H'=H/\∀ xs,SqL K H a xs->xs[i]?=some x,λi H=>∃ xs,SqL K H a xs/\xs.length<=i⟩
def Itr (lo:Int)(n:Nat):It:=⟨λi _=>i<n,λi H x H'=>H'=H/\x=.int (lo+i),λi _=>n<=i⟩
theorem turn_list {P:Program}{w:World}{K:W.Frag}{tg:Expr}(a it:Addr):Turn P w K tg (Itl K a) [it] it (λi h=>h.IsListIter it a i) where
 mem:=by simp
 obj:=λi h st b hb=>by
  have e:b=it:=by simpa using hb
  subst e
  obtain⟨o,e,c,d⟩:=st
  exact⟨o,e,λv z=>by rw[d] at z;cases z⟩
 keep:=λi h h' st k=>st.at λo e=>k it (by simp) o e
 item:=by
  intro X hP hw hK hc i pins s σ H E I hf st hg
  subst hP hw hK
  obtain⟨xs,x,hq,hx⟩:=hg
  obtain⟨its,rv,p,hz⟩:=I.list hq
  obtain⟨u,hu,ru⟩:=rv.get hx
  obtain⟨f0,f1,f2,f3,f4,f5⟩:=hf it (by simp)
  refine wpAny_pyNext_list_item st p.isList (x:=u) (by simpa using hu) λh' st' sb=>?_
  have I1:Inv X pins σ H { s with heap:=h' }:=I.turned (t':=s.toks) (λb o hb e=>(sb.2 b hb).trans e) f0 f1 f3 f4 f5
  obtain⟨o,e,c,d⟩:=id st'
  exact⟨u,rfl,go_of (s:={ s with heap:=h' }) e c d (by decide) ⟨x,H,I1,ru,⟨rfl,λys hy=>by rw[I.list_inj hy hq];exact hx⟩,st',λb hb=>(hf b hb).1⟩⟩
 done:=by
  intro X hP hw hK hc i pins s σ H E I hf st hg
  subst hP hw hK
  obtain⟨xs,hq,hx⟩:=hg
  obtain⟨its,rv,p,hz⟩:=I.list hq
  obtain⟨f0,f1,f2,f3,f4,f5⟩:=hf it (by simp)
  have hl:=rv.length
  exact wpAny_pyNext_list_end (I.ok.hd hc) st p.isList (by simp;omega) λh' eb=>⟨rfl,I.turned (t':=s.toks) (λb o hb e=>eb b o hb e) f0 f1 f3 f4 f5⟩
 self:=λ_ _ _ _ _ st h=>wpAny_pyIter_listiter st h
theorem turn_range {P:Program}{w:World}{K:PySem.W.Frag}{tg:Expr}(it:Addr)(lo:Int)(n:Nat):Turn P w K tg (Itr lo n) [it] it (λi h=>IsRangeIter h it (lo+(i:Nat)*1) ((n:Int)-(i:Nat)) 1) where
 mem:=by simp
 obj:=λi h st b hb=>by
  have e:b=it:=by simpa using hb
  subst e
  exact⟨_,st,λv z=>by
   have z':Data.fields _=Data.cell v:=z
   cases z'⟩
 keep:=λi h h' st k=>k it (by simp) _ st
 item:=by
  intro X hP hw hK hc i pins s σ H E I hf st hg
  subst hP hw hK
  obtain⟨f0,f1,f2,f3,f4,f5⟩:=hf it (by simp)
  have W:=Walks.range (prog:=X.prog) (w:=X.w) (I.ok.hd hc) it lo 1 n
  refine W.item i s _ _ hg st λv h' tk hv st' kk=>?_
  obtain⟨t,rfl⟩:=hv
  have I1:Inv X pins σ H { s with heap:=h',toks:=tk }:=I.turned (λb o hb e=>kk b o (by simpa using hb) e) f0 f1 f3 f4 f5
  refine⟨_,rfl,go_of (s:={ s with heap:=h',toks:=tk }) (n:="range_iterator") st' rfl rfl (by decide) ⟨.int (lo+i),H,I1,⟨t,?_⟩,⟨rfl,rfl⟩,st',λb hb=>(hf b hb).1⟩⟩
  rw[Int.mul_one]
 done:=by
  intro X hP hw hK hc i pins s σ H E I hf st hg
  subst hP hw hK
  obtain⟨f0,f1,f2,f3,f4,f5⟩:=hf it (by simp)
  exact wpAny_pyNext_range_end (I.ok.hd hc) st (by have:n<=i:=hg;omega) λh' eb=>⟨rfl,I.turned (t':=s.toks) (λb o hb e=>eb b o hb e) f0 f1 f3 f4 f5⟩
 self:=λ_ _ _ _ _ st h=>wpAny_pyIter_rangeiter st h
end L2
namespace L2
open PySem PySem.Spec PyProof.Rows
section
variable {X:Cx}{tg:Expr}
theorem range_it {pins:List (Addr×Obj)}{σ:St}{H:Hp}{s:Shared}{R:It->Hp->Prop}{E:Value->Shared->Prop}{lo hi:Int}{t u v:Tok}{tk:Nat}(I:Inv X pins σ H s)(h1:-(2 ^ 62)<=lo)(h2:lo<2 ^ 62)(h3:-(2 ^ 62)<=hi)(h4:hi<2 ^ 62)
  (q:R (Itr lo (hi-lo).toNat) H):wpAny (model X.prog X.w) X.A (pyIter (.ref s.heap.objs.size)) (PIE X pins σ tg R) E { s with heap:=s.heap.push { cls:=.type "range",data:=.fields #[.int lo t,.int hi u,.int 1 v] },toks:=tk }:=by
 refine wpAny_pyIter_range (IsRange.new ..) (small_one h1 h2 h3 h4) ?_
 have I1:Inv X pins σ H { s with heap:=s.heap.push { cls:=.type "range",data:=.fields #[.int lo t,.int hi u,.int 1 v] },toks:=tk }:=I.kept λb o e=>Heap.get?_push_of_some _ e
 refine⟨(s.heap.push { cls:=.type "range",data:=.fields #[.int lo t,.int hi u,.int 1 v] }).objs.size,[(s.heap.push { cls:=.type "range",data:=.fields #[.int lo t,.int hi u,.int 1 v] }).objs.size],_,_,H,rfl,
  I1.kept (t':=tk) λb o e=>Heap.get?_push_of_some _ e,turn_range _ lo (hi-lo).toNat,?_,λb hb=>?_,q⟩
 ·have e1:lo+((0:Nat):Int)*1=lo:=by simp
  have e2:(((hi-lo).toNat:Nat):Int)-((0:Nat):Int)=Builtin.Range.rangeSize lo hi 1:=by rw[rangeSize_one];split<;>omega
  show IsRangeIter _ _ (lo+((0:Nat):Int)*1) ((((hi-lo).toNat:Nat):Int)-((0:Nat):Int)) 1
  rw[e1,e2]
  exact Heap.get?_push_size _ rfl
 ·have e:b=(s.heap.push { cls:=.type "range",data:=.fields #[.int lo t,.int hi u,.int 1 v] }).objs.size:=by simpa using hb
  subst e
  exact I1.fpOk (Nat.le_refl _) (I1.hok.fresh (Nat.le_refl _))
def iRng1 (ta:TA):TI:=λσ H R=>ta σ H λvs H1=>∃ j:Int,vs=[.int j]/\-(2 ^ 62)<=j/\j<2 ^ 62/\R (Itr 0 j.toNat) H1
def iRng2 (ta:TA):TI:=λσ H R=>ta σ H λvs H1=>∃ i j:Int,vs=[.int i,.int j]/\(-(2 ^ 62)<=i/\i<2 ^ 62/\-(2 ^ 62)<=j/\j<2 ^ 62)/\R (Itr i (j-i).toNat) H1
theorem pi_range1 {a:Expr}{ta:TA}{p pos:Pos}(hg:Gl X "range")(hm:X.mg "range"=none)(ha:PA X [a] ta)(hs:starEach [a] X.env=[(false,eval a X.env)]:=by rfl):PI X tg (.Call (.Name "range" p) [a] [] pos) (iRng1 ta):=by
 intro pins s σ H R I h
 refine Call_ (ld_blt I hg hm boot_range (PyProof.Rows.callWith_type1 (thn (ha pos pins s σ H _ I h) λus s1 ⟨vs,H1,I1,r1,q1⟩=>?_) hs rfl))
 obtain⟨j,e,q1,q2,q⟩:=q1
 subst e
 cases r1 with
 | cons r rr =>
  cases rr
  obtain⟨t,rfl⟩:=r
  exact call_range_1 (range_it I1 (by omega) (by omega) q1 q2 (by simpa using q))
theorem pi_range2 {a b:Expr}{ta:TA}{p pos:Pos}(hg:Gl X "range")(hm:X.mg "range"=none)(ha:PA X [a,b] ta)(hs:starEach [a,b] X.env=[(false,eval a X.env),(false,eval b X.env)]:=by rfl)(hs2:starEach [b] X.env=[(false,eval b X.env)]:=by rfl) :
  PI X tg (.Call (.Name "range" p) [a,b] [] pos) (iRng2 ta):=by
 intro pins s σ H R I h
 refine Call_ (ld_blt I hg hm boot_range (PyProof.Rows.callWith_type1 (thn (ha pos pins s σ H _ I h) λus s1 ⟨vs,H1,I1,r1,q1⟩=>?_) (by rw[hs,hs2]) (by rw[hs2];rfl)))
 obtain⟨i,j,e,⟨q1,q2,q3,q4⟩,q⟩:=q1
 subst e
 cases r1 with
 | cons r rr =>
  cases rr with
  | cons r' rr =>
   cases rr
   obtain⟨t,rfl⟩:=r
   obtain⟨t',rfl⟩:=r'
   exact call_range_2 (range_it I1 q1 q2 q3 q4 q)
def tFor (wi:TI)(g:TG)(tb:TS):TS:=λD σ H=>wi σ H λJ H1=>∃ W:Nat->Nat->St->Hp->Prop,(∃ m,W 0 m σ H1)/\∀ i m σ H,W i m σ H ->
 (J.stop i H/\D.nx σ H)\/(J.go i H/\∃ N:St->Hp->Prop,(∀ σ' H',N σ' H'->∃ m',m'<m/\W (i+1) m' σ' H')/\∀ x H',J.yld i H x H'->g x σ H' λσ2 H2=>tb { D with nx:=N,ct:=N,bk:=D.nx } σ2 H2)
def pinsAt (fp:List Addr)(h:Heap):List (Addr×Obj):=fp.filterMap λb=>(h.get? b).map λo=>(b,o)
theorem mem_pinsAt {fp:List Addr}{h:Heap}{b:Addr}{o:Obj}(hb:b∈fp)(e:h.get? b=some o):(b,o)∈pinsAt fp h:=List.mem_filterMap.mpr ⟨b,hb,by rw[e];rfl⟩
theorem of_pinsAt {fp:List Addr}{h:Heap}{p:Addr×Obj}(hp:p∈pinsAt fp h):p.1∈fp/\h.get? p.1=some p.2:=by
 obtain⟨b,hb,e⟩:=List.mem_filterMap.mp hp
 cases q:h.get? b with
 | none=>rw[q] at e;cases e
 | some o =>
  rw[q] at e
  have e':(b,o)=p:=Option.some.inj e
  subst e'
  exact⟨hb,q⟩
theorem Inv.pinned {pins:List (Addr×Obj)}{σ:St}{H:Hp}{s:Shared}{fp:List Addr}(I:Inv X pins σ H s)(hf:∀ b∈fp,FpOk X pins H b)(ho:∀ b∈fp,∃ o,s.heap.get? b=some o/\∀ v,o.data≠.cell v):Inv X (pins++pinsAt fp s.heap) σ H s :=
 I.pins_of λp hp=>(List.mem_append.mp hp).elim (λz=>I.pin p (List.mem_append_right _ z)) λz=>by
  obtain⟨hb,e⟩:=of_pinsAt z
  obtain⟨f0,f1,f2,_⟩:=hf p.1 hb
  obtain⟨o,e',d⟩:=ho p.1 hb
  rw[e] at e';cases e'
  exact⟨e,f0,f1,f2,d⟩
theorem Inv.unpinned {pins pl:List (Addr×Obj)}{σ:St}{H:Hp}{s:Shared}(I:Inv X (pins++pl) σ H s):Inv X pins σ H s:=I.pins_of λp hp=>I.pin p (List.mem_append_right _ (List.mem_append_left _ hp))
theorem ps_for {iter:Expr}{body:List Stmt}{wi:TI}{g:TG}{tb:TS}{pos:Pos}(hp:PassesOwn (model X.prog X.w) X.A X.env X.xe)(hc:X.calm=true)(hi:PI X tg iter wi)(hg:PG X tg g)(hb:PSs X body tb)
  (hs:∀ x,foldedSetIterable iter X.env x=pure x:=by intro _;rfl):PS X (.For tg iter body [] pos) (tFor wi g tb):=by
 intro pins s σ H D I h
 refine wpAny_For (thn (hi pins s σ H _ I h) λv s1 h1=>thn h1 λitv s2 h2=>?_) hs
 obtain⟨it,fp,tn,J,H2,e,I2,T,st2,f2,W,⟨m0,w0⟩,turn⟩:=h2
 subst e
 have stat:∀ {H':Hp},(∀ b∈fp,H' b=none)->∀ b∈fp,FpOk X pins H' b:=λhn b hb=>⟨hn b hb,(f2 b hb).2⟩
 refine codeAny_forLoop_any (λn s'=>∃ i σ' H',Inv X pins σ' H' s'/\tn i s'.heap/\(∀ b∈fp,H' b=none)/\W i n σ' H') ?_ m0 ⟨0,σ,H2,I2,st2,λb hb=>(f2 b hb).1,w0⟩
 rintro n s3 ⟨i,σ3,H3,I3,st3,fr3,w3⟩
 rcases turn i n σ3 H3 w3 with ⟨stop,qn⟩ | ⟨go,N,hN,step⟩
 ·refine wpAny_passesOwn hp (thn (T.done X rfl rfl rfl hc i pins s3 σ3 H3 X.xe I3 (stat fr3) st3 stop) λr s4 ⟨hr,I4⟩=>?_)
  subst hr
  exact wpAny_execs_nil ⟨σ3,H3,I4,qn⟩
 ·refine wpAny_passesOwn hp (thn (T.item X rfl rfl rfl hc i pins s3 σ3 H3 X.xe I3 (stat fr3) st3 go) λr s4 ⟨u,hr,h4⟩=>?_)
  subst hr
  refine wpAny_passesOwn hp (thn h4 λ_ s5 ⟨x,H5,I5,r5,y5,st5,fr5⟩=>?_)
  have I5':=I5.pinned (stat fr5) (T.obj _ _ st5)
  refine wpAny_passesOwn hp (thn (hg _ s5 σ3 H5 x u _ I5' r5 (step x H5 y5)) λ_ s6 ⟨σ6,H6,I6,q6⟩=>?_)
  refine wpAny_passesOwn hp (thn (hb _ s6 σ6 H6 _ I6 q6) λf s7 q7=>?_)
  have again:∀ {σ7:St} {H7:Hp},Inv X (pins++pinsAt fp s5.heap) σ7 H7 s7->N σ7 H7->∃ m,m<n/\∃ i σ' H',Inv X pins σ' H' s7/\tn i s7.heap/\(∀ b∈fp,H' b=none)/\W i m σ' H':=λ{σ7 H7} I7 n7=>by
   obtain⟨m',hm,w7⟩:=hN σ7 H7 n7
   refine⟨m',hm,i+1,σ7,H7,I7.unpinned,T.keep _ _ _ st5 λb hb o e=>(I7.pin (b,o) (List.mem_append_right _ (List.mem_append_right _ (mem_pinsAt hb e)))).1,λb hb=>?_,w7⟩
   obtain⟨o,e,d⟩:=T.obj _ _ st5 b hb
   exact(I7.pin (b,o) (List.mem_append_right _ (List.mem_append_right _ (mem_pinsAt hb e)))).2.1
  cases f with
  | next=>obtain⟨σ7,H7,I7,n7⟩:=q7;exact again I7 n7
  | cont=>obtain⟨σ7,H7,I7,n7⟩:=q7;exact again I7 n7
  | brk=>obtain⟨σ7,H7,I7,q7⟩:=q7;exact⟨σ7,H7,I7.unpinned,q7⟩
  | ret v=>obtain⟨x7,σ7,H7,I7,r7,q7⟩:=q7;exact⟨x7,σ7,H7,I7.unpinned,r7,q7⟩
end
theorem for_list {K:PySem.W.Frag}{a:Addr}{xs:List V}{g:TG}{tb:TS}{D:Ends}{σ:St}{H:Hp}(Pv:Nat->St->Hp->Prop)(h0:Pv 0 σ H)(hl:∀ i σ H,i<=xs.length->Pv i σ H->SqL K H a xs)
  (hs:∀ i x σ H,xs[i]?=some x->Pv i σ H->g x σ H λσ2 H2=>tb { D with nx:=Pv (i+1),ct:=Pv (i+1),bk:=D.nx } σ2 H2) (hd:∀ σ H,Pv xs.length σ H->D.nx σ H) :
  ∃ W:Nat->Nat->St->Hp->Prop,(∃ m,W 0 m σ H)/\∀ i m σ H,W i m σ H ->
   ((Itl K a).stop i H/\D.nx σ H)\/((Itl K a).go i H/\∃ N:St->Hp->Prop,(∀ σ' H',N σ' H'->∃ m',m'<m/\W (i+1) m' σ' H')/\∀ x H',(Itl K a).yld i H x H'->g x σ H' λσ2 H2=>tb { D with nx:=N,ct:=N,bk:=D.nx } σ2 H2):=by
 refine⟨λi m σ H=>m=xs.length-i/\i<=xs.length/\Pv i σ H,⟨xs.length,by simp,Nat.zero_le _,h0⟩,?_⟩
 rintro i m σ H ⟨rfl,hi,p⟩
 have q:=hl i σ H hi p
 by_cases hlt:i<xs.length
 ·refine .inr ⟨⟨xs,xs[i],q,by simp[hlt]⟩,Pv (i+1),λσ' H' p'=>⟨xs.length-(i+1),by omega,rfl,hlt,p'⟩,λx H' y=>?_⟩
  obtain⟨e,y⟩:=y
  subst e
  exact hs i x σ _ (y xs q) p
 ·have e:i=xs.length:=by omega
  subst e
  exact .inl ⟨⟨xs,q,Nat.le_refl _⟩,hd σ H p⟩
theorem for_range {lo:Int}{n:Nat}{g:TG}{tb:TS}{D:Ends}{σ:St}{H:Hp}(Pv:Nat->St->Hp->Prop)(h0:Pv 0 σ H)
  (hs:∀ i σ H,i<n->Pv i σ H->g (.int (lo+i)) σ H λσ2 H2=>tb { D with nx:=Pv (i+1),ct:=Pv (i+1),bk:=D.nx } σ2 H2) (hd:∀ σ H,Pv n σ H->D.nx σ H) :
  ∃ W:Nat->Nat->St->Hp->Prop,(∃ m,W 0 m σ H)/\∀ i m σ H,W i m σ H ->
   ((Itr lo n).stop i H/\D.nx σ H)\/((Itr lo n).go i H/\∃ N:St->Hp->Prop,(∀ σ' H',N σ' H'->∃ m',m'<m/\W (i+1) m' σ' H')/\∀ x H',(Itr lo n).yld i H x H'->g x σ H' λσ2 H2=>tb { D with nx:=N,ct:=N,bk:=D.nx } σ2 H2):=by
 refine⟨λi m σ H=>m=n-i/\i<=n/\Pv i σ H,⟨n,by simp,Nat.zero_le _,h0⟩,?_⟩
 rintro i m σ H ⟨rfl,hi,p⟩
 by_cases hlt:i<n
 ·refine .inr ⟨hlt,Pv (i+1),λσ' H' p'=>⟨n-(i+1),by omega,rfl,hlt,p'⟩,λx H' y=>?_⟩
  obtain⟨e,y⟩:=y
  subst e y
  exact hs i σ _ hlt p
 ·have e:i=n:=by omega
  subst e
  exact .inl ⟨Nat.le_refl _,hd σ H p⟩
end L2
namespace L2
open PySem PySem.Spec PyProof.Rows
abbrev R2:=V->V->Hp->VK->Prop
def OpR (X:Cx)(f:Value->Value->Sem Value)(r:R2):Prop :=
 ∀ (pins:List (Addr×Obj)) (s:Shared) (σ:St) (H:Hp) (x y:V) (v u:Value) (Q:VK),Inv X pins σ H s->RelV x v->RelV y u->r x y H Q ->
  wpAny (model X.prog X.w) X.A (f v u) (EP X pins σ Q) X.xe s
def UnR (X:Cx)(f:Value->Sem Value)(r:V->Hp->VK->Prop):Prop :=
 ∀ (pins:List (Addr×Obj)) (s:Shared) (σ:St) (H:Hp) (x:V) (v:Value) (Q:VK),Inv X pins σ H s->RelV x v->r x H Q ->
  wpAny (model X.prog X.w) X.A (f v) (EP X pins σ Q) X.xe s
def CallR (X:Cx)(f:Value)(r:List V->Hp->VK->Prop):Prop :=
 ∀ (pins:List (Addr×Obj)) (s:Shared) (σ:St) (H:Hp) (xs:List V) (us:List Value) (Q:VK),Inv X pins σ H s->Vals xs us->r xs H Q ->
  wpAny (model X.prog X.w) X.A (call f us) (EP X pins σ Q) X.xe s
def TruR (X:Cx)(r:V->Hp->(Bool->Hp->Prop)->Prop):Prop :=
 ∀ (pins:List (Addr×Obj)) (s:Shared) (σ:St) (H:Hp) (x:V) (v:Value) (Q:Bool->Hp->Prop),Inv X pins σ H s->RelV x v->r x H Q ->
  wpAny (model X.prog X.w) X.A (truthy v) (TP X pins σ Q) X.xe s
def tOp (r:R2)(ta tb:TE):TE:=λσ H Q=>ta σ H λx H1=>tb σ H1 λy H2=>r x y H2 Q
def tUn (r:V->Hp->VK->Prop)(ta:TE):TE:=λσ H Q=>ta σ H λx H1=>r x H1 Q
def rI (C:Int->Int->Prop)(g:Int->Int->V):R2:=λx y H Q=>∃ i j,x=.int i/\y=.int j/\C i j/\Q (g i j) H
def rI0 (g:Int->Int->V):R2:=λx y H Q=>∃ i j,x=.int i/\y=.int j/\Q (g i j) H
def rU (g:Int->V):V->Hp->VK->Prop:=λx H Q=>∃ i,x=.int i/\Q (g i) H
section
variable {X:Cx}{a b c:Expr}{ta tb tc:TE}{pos:Pos}
theorem binT (ha:PE X a ta)(hb:PE X b tb){pins:List (Addr×Obj)}{s:Shared}{σ:St}{H:Hp}{R:V->V->Hp->Prop}(I:Inv X pins σ H s)
  (h:ta σ H λx H1=>tb σ H1 λy H2=>R x y H2) {Q:Value->Shared->Prop} {f:Value->Value->Sem Value}
  (hf:∀ v u s2 x y H2,Inv X pins σ H2 s2->RelV x v->RelV y u->R x y H2->wpAny (model X.prog X.w) X.A (f v u) Q X.xe s2) :
  wpAny (model X.prog X.w) X.A (eval a X.env) (λv s₁=>wpAny (model X.prog X.w) X.A (eval b X.env) (λu s₂=>wpAny (model X.prog X.w) X.A (f v u) Q X.xe s₂) X.xe s₁) X.xe s:=by
 refine thn (ha pins s σ H _ I h) λv s1 ⟨x,H1,I1,r1,q1⟩=>?_
 refine thn (hb pins s1 σ H1 _ I1 q1) λu s2 ⟨y,H2,I2,r2,q2⟩=>?_
 exact hf v u s2 x y H2 I2 r1 r2 q2
theorem pe_op {op:Operator}{r:R2}(ho:OpR X (binaryOp op) r)(ha:PE X a ta)(hb:PE X b tb):PE X (.BinOp a op b pos) (tOp r ta tb):=by
 intro pins s σ H Q I h
 exact wpAny_BinOp (binT ha hb I h λv u s2 x y H2 I2 rx ry q=>ho pins s2 σ H2 x y v u Q I2 rx ry q)
theorem pe_un {op:UnaryOp}{r:V->Hp->VK->Prop}(ho:UnR X (unaryOp op) r)(ha:PE X a ta):PE X (.UnaryOp op a pos) (tUn r ta):=by
 intro pins s σ H Q I h
 exact UnaryOp_ (thn (ha pins s σ H _ I h) λv s1 ⟨x,H1,I1,r1,q1⟩=>ho pins s1 σ H1 x v Q I1 r1 q1)
theorem opI {f:Value->Value->Sem Value}{C:Int->Int->Prop}{g:Int->Int->Int}
  (rule:∀ (i j:Int) (t u:Tok) (s:Shared) (Q:Value->Shared->Prop) (E:Value->Shared->Prop),C i j->Q (.int (g i j) s.toks) { s with toks:=s.toks+1 }->wpAny (model X.prog X.w) X.A (f (.int i t) (.int j u)) Q E s) :
  OpR X f (rI C λi j=>.int (g i j)):=by
 intro pins s σ H x y v u Q I rx ry h
 obtain⟨i,j,rfl,rfl,hc,q⟩:=h
 obtain⟨t,rfl⟩:=rx
 obtain⟨t',rfl⟩:=ry
 exact rule i j t t' s _ _ hc ⟨.int (g i j),H,I.tok _,⟨_,rfl⟩,q⟩
theorem opI0 {f:Value->Value->Sem Value}{g:Int->Int->Int}
  (rule:∀ (i j:Int) (t u:Tok) (s:Shared) (Q:Value->Shared->Prop) (E:Value->Shared->Prop),Q (.int (g i j) s.toks) { s with toks:=s.toks+1 }->wpAny (model X.prog X.w) X.A (f (.int i t) (.int j u)) Q E s) :
  OpR X f (rI0 λi j=>.int (g i j)):=by
 intro pins s σ H x y v u Q I rx ry h
 obtain⟨i,j,rfl,rfl,q⟩:=h
 obtain⟨t,rfl⟩:=rx
 obtain⟨t',rfl⟩:=ry
 exact rule i j t t' s _ _ ⟨.int (g i j),H,I.tok _,⟨_,rfl⟩,q⟩
theorem opB0 {f:Value->Value->Sem Value}{g:Int->Int->Bool}
  (rule:∀ (i j:Int) (t u:Tok) (s:Shared) (Q:Value->Shared->Prop) (E:Value->Shared->Prop),Q (.bool (g i j)) s->wpAny (model X.prog X.w) X.A (f (.int i t) (.int j u)) Q E s) :
  OpR X f (rI0 λi j=>.bl (g i j)):=by
 intro pins s σ H x y v u Q I rx ry h
 obtain⟨i,j,rfl,rfl,q⟩:=h
 obtain⟨t,rfl⟩:=rx
 obtain⟨t',rfl⟩:=ry
 exact rule i j t t' s _ _ ⟨.bl (g i j),H,I,rfl,q⟩
def CPow (i j:Int):Prop:=0<=j/\j<=1000000/\i.natAbs<2 ^ 64
def CMul (i j:Int):Prop:=(-(2 ^ 64)<i/\i<2 ^ 64)\/(-(2 ^ 64)<j/\j<2 ^ 64)
theorem CMul.ok {i j:Int}(h:CMul i j):IntMulOk i j:=by
 rcases h with ⟨h1,h2⟩ | ⟨h1,h2⟩
 ·exact .of_left (intBits_le_64 h1 h2)
 ·exact .of_right (intBits_le_64 h1 h2)
theorem op_add:OpR X (binaryOp .Add) (rI0 λi j=>.int (i+j)):=opI0 λ_ _ _ _ _ _ _ q=>add_int q
theorem op_sub:OpR X (binaryOp .Sub) (rI0 λi j=>.int (i-j)):=opI0 λ_ _ _ _ _ _ _ q=>sub_int q
theorem op_mul:OpR X (binaryOp .Mult) (rI CMul λi j=>.int (i*j)):=opI λ_ _ _ _ _ _ _ hc q=>mul_int q hc.ok
theorem op_mod:OpR X (binaryOp .Mod) (rI (λ_ j=>0<j) λi j=>.int (i % j)):=opI λi j _ _ _ _ _ hc q=>by
 have h1:(0:Int)<j:=hc
 exact mod_int' (by omega) (by rw[Int.fmod_eq_emod_of_nonneg i (by omega)];exact q)
theorem op_pow:OpR X (binaryOp .Pow) (rI CPow λi j=>.int (i ^ j.toNat)):=opI λ_ _ _ _ _ _ _ hc q=>pow_int_small hc.1 hc.2.1 hc.2.2 q
theorem unI {f:Value->Sem Value}{g:Int->Int}
  (rule:∀ (i:Int) (t:Tok) (s:Shared) (Q:Value->Shared->Prop) (E:Value->Shared->Prop),Q (.int (g i) s.toks) { s with toks:=s.toks+1 }->wpAny (model X.prog X.w) X.A (f (.int i t)) Q E s) :
  UnR X f (rU λi=>.int (g i)):=by
 intro pins s σ H x v Q I rx h
 obtain⟨i,rfl,q⟩:=h
 obtain⟨t,rfl⟩:=rx
 exact rule i t s _ _ ⟨.int (g i),H,I.tok _,⟨_,rfl⟩,q⟩
theorem un_neg:UnR X (unaryOp .USub) (rU λi=>.int (-i)):=unI λ_ _ _ _ _ q=>neg_int q
end
def scal:V->V->Bool
 | .non,.non=>true | .non,.int _=>true | .int _,.non=>true | .non,.bl _=>true | .bl _,.non=>true | .non,.str _=>true | .str _,.non=>true
 | .int _,.int _=>true | .bl _,.bl _=>true | .str _,.str _=>true | .byt _,.byt _=>true
 | .int _,.str _=>true | .str _,.int _=>true | .bl _,.str _=>true | .str _,.bl _=>true
 | _,_=>false
def rEq:R2:=λx y H Q=>scal x y=true/\Q (.bl (decide (x=y))) H
def rNe:R2:=λx y H Q=>scal x y=true/\Q (.bl (!decide (x=y))) H
theorem dec_int {i j:Int}:decide (V.int i=V.int j)=(i == j):=by
 rw[Bool.eq_iff_iff]
 simp
theorem dec_bl {i j:Bool}:decide (V.bl i=V.bl j)=(i == j):=by
 rw[Bool.eq_iff_iff]
 simp
theorem dec_str {i j:Str}:decide (V.str i=V.str j)=(i == j):=by
 rw[Bool.eq_iff_iff]
 simp
theorem dec_byt {i j:Array UInt8}:decide (V.byt i=V.byt j)=(i.toList == j.toList):=by
 rw[Bool.eq_iff_iff]
 cases i
 cases j
 simp
section
variable {X:Cx}{a b c:Expr}{ta tb tc:TE}{pos:Pos}
theorem fin_bl {pins:List (Addr×Obj)}{σ:St}{H:Hp}{s:Shared}{Q:VK}{k k':Bool}(I:Inv X pins σ H s)(q:Q (.bl k) H)(e:k=k'):EP X pins σ Q (.bool k') s:=by
 subst e
 exact⟨.bl k,H,I,rfl,q⟩
theorem op_eq:OpR X (compareOp .Eq) rEq:=by
 intro pins s σ H x y v u Q I rx ry h
 obtain⟨hs,q⟩:=h
 cases x with
 | non =>
  cases rx
  cases y with
  | non=>cases ry;exact PySem.EqNone.eq_none_none (fin_bl I q (by simp))
  | bl j=>cases ry;exact PySem.EqNone.eq_none_bool (fin_bl I q (by simp))
  | int j=>obtain⟨t',rfl⟩:=ry;exact PySem.EqNone.eq_none_int (fin_bl I q (by simp))
  | str j=>obtain⟨t',rfl⟩:=ry;exact PySem.EqNone.eq_none_str (fin_bl I q (by simp))
  | _=>exact absurd (show false=true from hs) Bool.false_ne_true
 | bl i =>
  cases rx
  cases y with
  | non=>cases ry;exact PySem.EqNone.eq_bool_none (fin_bl I q (by simp))
  | bl j=>cases ry;exact eq_bool (fin_bl I q dec_bl)
  | str j=>obtain⟨t',rfl⟩:=ry;exact PySem.EqMixed.eq_bool_str (fin_bl I q (by simp))
  | _=>exact absurd (show false=true from hs) Bool.false_ne_true
 | int i =>
  obtain⟨t,rfl⟩:=rx
  cases y with
  | non=>cases ry;exact PySem.EqNone.eq_int_none (fin_bl I q (by simp))
  | int j=>obtain⟨t',rfl⟩:=ry;exact eq_int (fin_bl I q dec_int)
  | str j=>obtain⟨t',rfl⟩:=ry;exact PySem.EqMixed.eq_int_str (fin_bl I q (by simp))
  | _=>exact absurd (show false=true from hs) Bool.false_ne_true
 | str i =>
  obtain⟨t,rfl⟩:=rx
  cases y with
  | non=>cases ry;exact PySem.EqNone.eq_str_none (fin_bl I q (by simp))
  | bl j=>cases ry;exact PySem.EqMixed.eq_str_bool (fin_bl I q (by simp))
  | int j=>obtain⟨t',rfl⟩:=ry;exact PySem.EqMixed.eq_str_int (fin_bl I q (by simp))
  | str j=>obtain⟨t',rfl⟩:=ry;exact eq_str (fin_bl I q dec_str)
  | _=>exact absurd (show false=true from hs) Bool.false_ne_true
 | byt i =>
  obtain⟨t,rfl⟩:=rx
  cases y with
  | byt j=>obtain⟨t',rfl⟩:=ry;exact W.eq_bytes (fin_bl I q dec_byt)
  | _=>exact absurd (show false=true from hs) Bool.false_ne_true
 | _=>cases y<;>exact absurd (show false=true from hs) Bool.false_ne_true
theorem op_ne:OpR X (compareOp .NotEq) rNe:=by
 intro pins s σ H x y v u Q I rx ry h
 obtain⟨hs,q⟩:=h
 cases x with
 | non =>
  cases rx
  cases y with
  | non=>cases ry;exact PySem.EqNone.ne_none_none (fin_bl I q (by simp))
  | bl j=>cases ry;exact PySem.EqNone.ne_none_bool (fin_bl I q (by simp))
  | int j=>obtain⟨t',rfl⟩:=ry;exact PySem.EqNone.ne_none_int (fin_bl I q (by simp))
  | str j=>obtain⟨t',rfl⟩:=ry;exact PySem.EqNone.ne_none_str (fin_bl I q (by simp))
  | _=>exact absurd (show false=true from hs) Bool.false_ne_true
 | bl i =>
  cases rx
  cases y with
  | non=>cases ry;exact PySem.EqNone.ne_bool_none (fin_bl I q (by simp))
  | bl j=>cases ry;exact ne_bool (fin_bl I q (congrArg not dec_bl))
  | str j=>obtain⟨t',rfl⟩:=ry;exact PySem.EqMixed.ne_bool_str (fin_bl I q (by simp))
  | _=>exact absurd (show false=true from hs) Bool.false_ne_true
 | int i =>
  obtain⟨t,rfl⟩:=rx
  cases y with
  | non=>cases ry;exact PySem.EqNone.ne_int_none (fin_bl I q (by simp))
  | int j=>obtain⟨t',rfl⟩:=ry;exact ne_int (fin_bl I q (congrArg not dec_int))
  | str j=>obtain⟨t',rfl⟩:=ry;exact PySem.EqMixed.ne_int_str (fin_bl I q (by simp))
  | _=>exact absurd (show false=true from hs) Bool.false_ne_true
 | str i =>
  obtain⟨t,rfl⟩:=rx
  cases y with
  | non=>cases ry;exact PySem.EqNone.ne_str_none (fin_bl I q (by simp))
  | bl j=>cases ry;exact PySem.EqMixed.ne_str_bool (fin_bl I q (by simp))
  | int j=>obtain⟨t',rfl⟩:=ry;exact PySem.EqMixed.ne_str_int (fin_bl I q (by simp))
  | str j=>obtain⟨t',rfl⟩:=ry;exact ne_str (fin_bl I q (congrArg not dec_str))
  | _=>exact absurd (show false=true from hs) Bool.false_ne_true
 | byt i =>
  obtain⟨t,rfl⟩:=rx
  cases y with
  | byt j=>obtain⟨t',rfl⟩:=ry;exact W.ne_bytes (fin_bl I q (congrArg not dec_byt))
  | _=>exact absurd (show false=true from hs) Bool.false_ne_true
 | _=>cases y<;>exact absurd (show false=true from hs) Bool.false_ne_true
theorem op_lt:OpR X (compareOp .Lt) (rI0 λi j=>.bl (decide (i<j))):=opB0 λ_ _ _ _ _ _ _ q=>lt_int q
theorem op_le:OpR X (compareOp .LtE) (rI0 λi j=>.bl (decide (i<=j))):=opB0 λ_ _ _ _ _ _ _ q=>le_int q
theorem op_gt:OpR X (compareOp .Gt) (rI0 λi j=>.bl (decide (j<i))):=opB0 λ_ _ _ _ _ _ _ q=>gt_int q
theorem op_ge:OpR X (compareOp .GtE) (rI0 λi j=>.bl (decide (j<=i))):=opB0 λ_ _ _ _ _ _ _ q=>ge_int q
theorem op_isN:OpR X (compareOp .Is) (λx y H Q=>y=.non/\Q (.bl (decide (x=.non))) H):=by
 intro pins s σ H x y v u Q I rx ry h
 obtain⟨rfl,q⟩:=h
 cases ry
 refine is_none_gen (fin_bl I q ?_)
 cases x<;>first
  | (cases rx;rfl)
  | (obtain⟨t,rfl⟩:=rx;rfl)
theorem op_notN:OpR X (compareOp .IsNot) (λx y H Q=>y=.non/\Q (.bl (!decide (x=.non))) H):=by
 intro pins s σ H x y v u Q I rx ry h
 obtain⟨rfl,q⟩:=h
 cases ry
 refine isnot_none_gen (fin_bl I q ?_)
 cases x<;>first
  | (cases rx;rfl)
  | (obtain⟨t,rfl⟩:=rx;rfl)
theorem nomark (b:Expr){op:CmpOp}(h:op≠.In:=by decide)(h2:op≠.NotIn:=by decide):behindInMarks op b=false:=by
 have e1:(op == CmpOp.In)=false:=by cases op<;>first | rfl | exact absurd rfl h
 have e2:(op == CmpOp.NotIn)=false:=by cases op<;>first | rfl | exact absurd rfl h2
 cases b<;>simp[behindInMarks,e1,e2]
theorem pe_cmpR {op:CmpOp}{r:R2}(ho:OpR X (compareOp op) r)(ha:PE X a ta)(hb:PE X b tb)(hm:behindInMarks op b=false):PE X (.Compare a [op] [b] pos) (tOp r ta tb):=by
 intro pins s σ H Q I h
 exact wpAny_Compare1 (binT ha hb I h λv u s2 x y H2 I2 rx ry q=>ho pins s2 σ H2 x y v u Q I2 rx ry q) hm
def TruV (K:W.Frag)(x:V)(H:Hp)(k:Bool):Prop :=
 match x with
 | .non=>k=false
 | .bl b=>k=b
 | .int i=>k=(i != 0)
 | .str y=>y.length<=sizeLine/\k=((y.length:Int) != 0)
 | .byt y=>y.size<=sizeLine/\k=((y.size:Int) != 0)
 | .ref p=>(∃ xs,SqL K H p xs/\k=!xs.isEmpty)\/(∃ xs,SqT K H p xs/\k=!xs.isEmpty)\/∃ kvs,H p=some (.dK kvs)/\k=!kvs.isEmpty
 | _=>False
theorem isEmpty_kv {κ:Type}{kvs:List (κ×V)}{vs:List (κ×Value)}(r:KV kvs vs):(!vs.isEmpty)=!kvs.isEmpty:=by
 cases r<;>rfl
theorem isEmpty_of {xs:List V}{its:List Value}(r:Vals xs its):(!its.toArray.isEmpty)=!xs.isEmpty:=by
 cases r<;>simp
theorem line63:(sizeLine:Nat)<2 ^ 63:=by rw[sizeLine_eq];decide
theorem tru_ok:TruR X (λx H Q=>∃ k,TruV X.K x H k/\Q k H):=by
 intro pins s σ H x v Q I rx h
 obtain⟨k,e,q⟩:=h
 have hl:=line63
 have hs:sizeLine=16777216:=sizeLine_eq
 cases x with
 | non =>
  cases rx
  have e':k=false:=e
  subst e'
  exact truthy_none ⟨H,I,q⟩
 | bl b =>
  cases rx
  have e':k=b:=e
  subst e'
  exact wpAny_truthy_bool ⟨H,I,q⟩
 | int i =>
  obtain⟨t,rfl⟩:=rx
  have e':k=(i != 0):=e
  subst e'
  exact PySem.P.truthy_int ⟨H,I,q⟩
 | str y =>
  obtain⟨t,rfl⟩:=rx
  obtain⟨hy,e'⟩:y.length<=sizeLine/\k=((y.length:Int) != 0):=e
  subst e'
  exact PySem.P.truthy_str (by omega) ⟨H,I.tok _,q⟩
 | byt y =>
  obtain⟨t,rfl⟩:=rx
  obtain⟨hy,e'⟩:y.size<=sizeLine/\k=((y.size:Int) != 0):=e
  subst e'
  exact W.truthy_bytes (by omega) ⟨H,I.tok _,q⟩
 | ref p =>
  cases rx
  have e':(∃ xs,SqL X.K H p xs/\k=!xs.isEmpty)\/(∃ xs,SqT X.K H p xs/\k=!xs.isEmpty)\/∃ kvs,H p=some (.dK kvs)/\k=!kvs.isEmpty:=e
  rcases e' with ⟨xs,hx,e'⟩ | ⟨xs,hx,e'⟩ | ⟨kvs,hx,e'⟩
  ·subst e'
   obtain⟨its,r,pl,hz⟩:=I.list hx
   have hlen:=r.length
   exact wpAny_truthy_list pl.isList (by simp only[List.size_toArray];omega) ⟨H,I.tok _,by rw[isEmpty_of r];exact q⟩
  ·subst e'
   obtain⟨its,r,pl,hz⟩:=I.tuple hx
   have hlen:=r.length
   exact truthy_tuple pl (by simp only[List.size_toArray];omega) ⟨H,I.tok _,by rw[isEmpty_of r];exact q⟩
  ·subst e'
   obtain⟨hz,hS,vs,r,m⟩:kvs.length<=sizeLine/\(p == sysModules)=false/\∃ vs,KV kvs vs/\s.heap.DictOf (mixKind X.prog X.w) p vs:=I.hok p _ hx
   have hlen:kvs.length=vs.length:=Paired.length r
   exact wpAny_truthy_dict hS m (by omega) ⟨H,I.tok _,by rw[isEmpty_kv r];exact q⟩
 | _=>exact(show False from e).elim
theorem op_add_str:OpR X (binaryOp .Add) (λx y H Q=>∃ i j,x=.str i/\y=.str j/\i.length+j.length<=sizeLine/\Q (.str (i++j)) H):=by
 intro pins s σ H x y v u Q I rx ry h
 obtain⟨i,j,rfl,rfl,hz,q⟩:=h
 obtain⟨t,rfl⟩:=rx
 obtain⟨t',rfl⟩:=ry
 exact add_str (λt' tk=>⟨.str (i++j),H,I.tok _,⟨_,rfl⟩,q⟩) hz
theorem vals1 {x:V}{us:List Value}(r:Vals [x] us):∃ u,us=[u]/\RelV x u:=by
 cases r with
 | cons r1 r2=>cases r2;exact⟨_,rfl,r1⟩
theorem vals2 {x y:V}{us:List Value}(r:Vals [x,y] us):∃ u w',us=[u,w']/\RelV x u/\RelV y w':=by
 cases r with
 | cons r1 r2 =>
  cases r2 with
  | cons r3 r4=>cases r4;exact⟨_,_,rfl,r1,r3⟩
theorem call_abs:CallR X (.builtin "abs") (λxs H Q=>∃ i,xs=[.int i]/\Q (.int (if i<0 then -i else i)) H):=by
 intro pins s σ H xs us Q I r h
 obtain⟨i,rfl,q⟩:=h
 obtain⟨u,rfl,t,rfl⟩:=vals1 r
 exact call_abs_int λu tk=>⟨.int (if i<0 then -i else i),H,I.tok _,⟨_,rfl⟩,q⟩
theorem call_max2 (hc:X.calm=true):CallR X (.builtin "max") (λxs H Q=>∃ i j,xs=[.int i,.int j]/\Q (.int (if j > i then j else i)) H):=by
 intro pins s σ H xs us Q I r h
 obtain⟨i,j,rfl,q⟩:=h
 obtain⟨u,w',rfl,⟨t,rfl⟩,⟨t',rfl⟩⟩:=vals2 r
 refine max_two_ints (I.ok.hd hc) λh' tk k=>⟨_,H,I.kept k,?_,q⟩
 by_cases hj:j > i
 ·rw[if_pos hj,if_pos hj];exact⟨_,rfl⟩
 ·rw[if_neg hj,if_neg hj];exact⟨_,rfl⟩
theorem call_min2 (hc:X.calm=true):CallR X (.builtin "min") (λxs H Q=>∃ i j,xs=[.int i,.int j]/\Q (.int (if j<i then j else i)) H):=by
 intro pins s σ H xs us Q I r h
 obtain⟨i,j,rfl,q⟩:=h
 obtain⟨u,w',rfl,⟨t,rfl⟩,⟨t',rfl⟩⟩:=vals2 r
 refine min_two_ints (I.ok.hd hc) λh' tk k=>⟨_,H,I.kept k,?_,q⟩
 by_cases hj:j<i
 ·rw[if_pos hj,if_pos hj];exact⟨_,rfl⟩
 ·rw[if_neg hj,if_neg hj];exact⟨_,rfl⟩
theorem call_int1:CallR X (.type "int") (λxs H Q=>(∃ i,xs=[.int i]/\Q (.int i) H)\/∃ k,xs=[.bl k]/\Q (.int (if k then 1 else 0)) H):=by
 intro pins s σ H xs us Q I r h
 rcases h with ⟨i,rfl,q⟩ | ⟨k,rfl,q⟩
 ·obtain⟨u,rfl,t,rfl⟩:=vals1 r
  exact call_int_int ⟨.int i,H,I,⟨_,rfl⟩,q⟩
 ·obtain⟨u,rfl,r1⟩:=vals1 r
  cases r1
  exact call_int_bool ⟨.int (if k then 1 else 0),H,I.tok _,⟨_,rfl⟩,q⟩
end
end L2
namespace L2
open PySem PySem.Spec PyProof.Rows
structure ObjM (h:Heap)(x dx C:Addr)(mA:Str->Option Value):Prop where
 obj:h.get? x=some (W.instObj C dx)
 ns:h.Ns1 dx mA
 ne:dx≠x
theorem lookIn_ns {h:Heap}{dx:Addr}{mA:Str->Option Value}(n:h.Ns1 dx mA):∃ od,h.get? dx=some od/\∀ name,W.lookIn name od=some (mA name):=by
 obtain⟨o,es,ep,ho,hd,hk,_,hm⟩:=n
 refine⟨o,ho,λname=>?_⟩
 have e:=hm name
 unfold nsFind findBy at e
 rw[<- Array.find?_toList] at e
 unfold W.lookIn
 rw[hd]
 dsimp only
 split
 ·rename_i y q
  rw[q] at e
  exact congrArg some e
 ·rename_i q
  rw[q] at e
  have a:es.toList.any (·.refKey)=false:=by
   rw[List.any_eq_false]
   intro y hy
   obtain⟨z,t,hkey⟩:=hk y (Array.mem_toList_iff.mp hy)
   simp[DictEntry.refKey,hkey]
  have a':¬ es.toList.any (·.refKey)=true:=by rw[a];exact Bool.false_ne_true
  rw[if_neg a']
  exact congrArg some e
theorem ObjM.look {h:Heap}{x dx C:Addr}{mA:Str->Option Value}(I:ObjM h x dx C mA):∃ od,W.InstAt h x (W.instObj C dx) C (some od)/\∀ name,W.lookIn name od=some (mA name) :=
 let ⟨od,ho,hl⟩:=lookIn_ns I.ns
 ⟨od,⟨I.obj,rfl,rfl,ho⟩,hl⟩
section
variable {prog:Program}{w:World}{A:Around}{E:Value->Shared->Prop}{s:Shared}{K:W.Frag}{x dx C f:Addr}{mA:Str->Option Value}{name:Str}{v:Value}
theorem get_map {expr:Bool}{Q:Value->Shared->Prop}(X:K.In s.heap)(I:ObjM s.heap x dx C mA)(hg:W.plainGet K C name=true)(hh:W.hasDictIn K C=true)
  (ha:W.findIn K (.ref C) name=some none) (hv:mA name=some v) (hv':W.handedIn v=true) (h:Q v { s with toks:=s.toks+1 }) :
  wpAny (model prog w) A (getAttr (.ref x) name expr) Q E s:=by
 obtain⟨od,J,hl⟩:=I.look
 exact W.get_value X J (W.plainGet_of hg).1 (W.findObj_own hh ha rfl (by rw[hl,hv])) hv' h
theorem get_meth {pl:Sem Bool}{Q:Value×List Value->Shared->Prop}(X:K.In s.heap)(I:ObjM s.heap x dx C mA)(hg:W.plainGet K C name=true)
  (hf:W.findIn K (.ref C) name=some (some (.ref f))) (ht:W.isFn K (.ref f)=true) (hv:mA name=none) (h:Q (.ref f,[.ref x]) s) :
  wpAny (model prog w) A (getMethod (.ref x) name pl) Q E s:=by
 obtain⟨od,J,hl⟩:=I.look
 exact W.method_fn X J (W.plainGet_of hg).1 (W.plainGet_of hg).2 hf (beq_iff_eq.mp ht) (by show (W.lookIn name od).map (·.isSome)=some false;rw[hl,hv];rfl) h
theorem set_map {ns:List Str}{Q:Unit->Shared->Prop}(X:K.In s.heap)(I:ObjM s.heap x dx C mA)
  (hs:W.findIn K (.ref C) "__setattr__"=some (some (.builtin "object.__setattr__"))) (hp:W.plainOver K C=true) (ht:W.takerIn K C name=some none) (hh:W.hasDictIn K C=true)
  (hw:PySem.Within mA ns) (hsz:ns.length<=sizeLine)
  (h:∀ h',ObjM h' x dx C (λy=>if y=name then some v else mA y)->Heap.SameBut dx s.heap h'->Q () { s with heap:=h',toks:=s.toks+2 }) :
  wpAny (model prog w) A (setAttr (.ref x) name v) Q E s:=by
 obtain⟨od,J,hl⟩:=I.look
 refine W.set_plain X J hs (W.osa_open (s:={ s with toks:=s.toks+1 }) (r:=none) X J hp ht λb=>?_)
 obtain⟨cd,hc,hd'⟩:=W.any_some hh
 have hx:s.heap.get? x=some ⟨.ref C,some dx,.plain,#[]⟩:=I.obj
 refine wpAny_bind (wpAny_pure (wpAny_bind (wpAny_bind (wpAny_loadPart hx (wpAny_bind (W.Looks.here (s:={ s with toks:=s.toks+1 }) (W.looks_clsIn X hc) ?_))))))
 rw[hd']
 refine wpAny_pure (a:=some dx) (wpAny_bind (wpAny_pure (wpAny_bind ?_)))
 refine wpAny_nsSet1 (s:={ s with toks:=s.toks+1 }) I.ns λh' hn2 hs2=>?_
 obtain⟨oD,esD,epD,hoD,hdD,hcD⟩:=hn2.count (PySem.Within.cons name v hw)
 refine wpAny_bind (wpAny_lookBehind hoD (by rw[hdD];exact pastItsLine_dict (Nat.le_trans hcD (by rw[List.length_cons];omega))) ?_)
 exact wpAny_pure (h _ ⟨(hs2.2 _ (Ne.symm I.ne)).trans I.obj,hn2,I.ne⟩ hs2)
theorem make_map {R:Result->Shared->Prop}{vs:List Value}{kw:List (Str×Value)}(X:K.In s.heap)(hm:W.makesIn K C=true)
  (hi:W.findIn K (.ref C) "__init__"=some (some (.ref f))) (hf:W.typeIn K (.ref f)=some (.type "function"))
  (h:codeAny (model prog w) (A.under (.builtin "type.__call__" ⟨.ref C::vs,kw⟩)) (.call (.ref f) ⟨.ref (s.heap.objs.size+1)::vs,kw⟩) (W.InitBack (s.heap.objs.size+1) R)
   { s with heap:=(s.heap.push W.emptyDict).push (W.instObj C s.heap.objs.size) }) :
  codeAny (model prog w) A (.call (.ref C) ⟨vs,kw⟩) R s:=by
 obtain⟨hh,g,d,t,os⟩:=s
 exact W.make_core (W.makes_of X hm) (W.looks_findIn X hi) (λself=>W.bind_fn X self hf) (.inl rfl) h
end
def putF (f:Str)(v:V):List (Str×V)->List (Str×V)
 | []=>[(f,v)]
 | (g,x)::r=>if g=f then (g,v)::r else (g,x)::putF f v r
theorem lookup_putF (f g:Str)(v:V):∀ fs:List (Str×V),(putF f v fs).lookup g=if g=f then some v else fs.lookup g
 | []=>by
  show List.lookup g [(f,v)]=_
  by_cases h:g=f
  ·have hb:(g == f)=true:=beq_iff_eq.mpr h
   simp only[List.lookup,hb,if_pos h]
  ·have hb:(g == f)=false:=beq_eq_false_iff_ne.mpr h
   simp only[List.lookup,hb,if_neg h]
 | (k,x)::r=>by
  have ih:=lookup_putF f g v r
  rw[show putF f v ((k,x)::r)=(if k=f then (k,v)::r else (k,x)::putF f v r) from rfl]
  by_cases hk:k=f
  ·rw[if_pos hk]
   by_cases h:g=k
   ·have hb:(g == k)=true:=beq_iff_eq.mpr h
    simp only[List.lookup,hb,if_pos (h.trans hk)]
   ·have hb:(g == k)=false:=beq_eq_false_iff_ne.mpr h
    simp only[List.lookup,hb,if_neg (λe:g=f=>h (e.trans hk.symm))]
  ·rw[if_neg hk]
   by_cases h:g=k
   ·have hb:(g == k)=true:=beq_iff_eq.mpr h
    simp only[List.lookup,hb,if_neg (λe:g=f=>hk (h.symm.trans e))]
   ·have hb:(g == k)=false:=beq_eq_false_iff_ne.mpr h
    simp only[List.lookup,hb]
    exact ih
theorem keys_putF (f:Str)(v:V):∀ fs:List (Str×V),f∈(putF f v fs).map (·.1)/\∀ g,g∈fs.map (·.1)->g∈(putF f v fs).map (·.1)
 | []=>⟨by simp[putF],λg h=>by simp at h⟩
 | (k,x)::r=>by
  obtain⟨i1,i2⟩:=keys_putF f v r
  rw[show putF f v ((k,x)::r)=(if k=f then (k,v)::r else (k,x)::putF f v r) from rfl]
  by_cases hk:k=f
  ·rw[if_pos hk]
   subst hk
   exact⟨by simp,λg h=>by simpa using h⟩
  ·rw[if_neg hk]
   refine⟨?_,λg h=>?_⟩
   ·rw[List.map_cons]
    exact List.mem_cons_of_mem _ i1
   ·rw[List.map_cons] at h ⊢
    rcases List.mem_cons.mp h with e | e
    ·exact List.mem_cons.mpr (.inl e)
    ·exact List.mem_cons_of_mem _ (i2 g e)
theorem length_putF (f:Str)(v:V):∀ fs:List (Str×V),(putF f v fs).length<=fs.length+1
 | []=>by simp[putF]
 | (k,x)::r=>by
  have ih:=length_putF f v r
  rw[show putF f v ((k,x)::r)=(if k=f then (k,v)::r else (k,x)::putF f v r) from rfl]
  by_cases hk:k=f
  ·rw[if_pos hk,List.length_cons,List.length_cons];omega
  ·rw[if_neg hk,List.length_cons,List.length_cons];omega
theorem RelO.some_of {v:V}{o:Option Value}(r:RelO (some v) o):∃ u,o=some u/\RelV v u:=by
 cases o with
 | none=>exact(show False from r).elim
 | some u=>exact⟨u,rfl,r⟩
theorem RelO.none_of {o:Option Value}(r:RelO none o):o=none:=by
 cases o with
 | none=>rfl
 | some u=>exact(show False from r).elim
theorem handed_of {v:V}{u:Value}(r:RelV v u):W.handedIn u=true:=by
 cases v with
 | non=>cases (show u=Value.none from r);rfl
 | bl b=>cases (show u=Value.bool b from r);rfl
 | int i=>obtain⟨t,e⟩:=(show ∃ t,u=Value.int i t from r);cases e;rfl
 | str x=>obtain⟨t,e⟩:=(show ∃ t,u=Value.str x t from r);cases e;rfl
 | byt b=>obtain⟨t,e⟩:=(show ∃ t,u=Value.bytes b t from r);cases e;rfl
 | flt b=>obtain⟨t,e⟩:=(show ∃ t,u=Value.float b t from r);cases e;rfl
 | ref a=>cases (show u=Value.ref a from r);rfl
 | ty n=>cases (show u=Value.type n from r);rfl
section
variable {P:Program}{w:World}{H H':Hp}{h h':Heap}{a C dx:Addr}{fs fs':List (Str×V)}
theorem ins_get (hok:HOk P w H h)(e:H a=some (.ins C dx fs)):∃ mA,ObjM h a dx C mA/\(∀ f,RelO (fs.lookup f) (mA f))/\PySem.Within mA (fs.map (·.1))/\fs.length<=1000/\H dx=some (.own a):=by
 obtain⟨d,z,ne,ob,mA,n,r,q⟩:=(show ObjOk P w H h a (.ins C dx fs) from hok a _ e)
 exact⟨mA,⟨ob,n,ne⟩,r,q,z,d⟩
end
structure Cls (K:W.Frag)(C:Addr):Prop where
 pg:W.plainGet K C Str.empty=true
 hd:W.hasDictIn K C=true
 po:W.plainOver K C=true
 sa:W.findIn K (.ref C) "__setattr__"=some (some (.builtin "object.__setattr__"))
theorem Cls.get {K:W.Frag}{C:Addr}(c:Cls K C)(f:Str):W.plainGet K C f=true:=c.pg
def NoAttr (K:W.Frag)(C:Addr)(f:Str):Prop:=W.findIn K (.ref C) f=some none
theorem NoAttr.taker {K:W.Frag}{C:Addr}{f:Str}(n:NoAttr K C f):W.takerIn K C f=some none:=by
 unfold W.takerIn
 rw[show W.findIn K (.ref C) f=some none from n]
 rfl
structure Con (K:W.Frag)(C:Addr)(f:Str)(v:V)(u:Value):Prop where
 at_:W.findIn K (.ref C) f=some (some u)
 rel:RelV v u
 get:W.specialIn K u "__get__"=some none
 cp:W.copiedNames.contains f=false
structure Meth (K:W.Frag)(C:Addr)(m:Str)(f:Addr):Prop where
 at_:W.findIn K (.ref C) m=some (some (.ref f))
 fn:W.isFn K (.ref f)=true
 kp:W.keepIn K (.ref f)=true
section
variable {X:Cx}{pins:List (Addr×Obj)}{σ:St}{H:Hp}{s:Shared}{a C dx:Addr}{fs:List (Str×V)}{f:Str}{v:V}{A:Around}{E:Value->Shared->Prop}
theorem getattr_ok {b:Bool}{Q:Value->Shared->Prop}(I:Inv X pins σ H s)(e:H a=some (.ins C dx fs))(c:Cls X.K C)(n:NoAttr X.K C f)(l:fs.lookup f=some v)
  (h:∀ u s',Inv X pins σ H s'->RelV v u->Q u s'):wpAny (model X.prog X.w) A (getAttr (.ref a) f b) Q E s:=by
 obtain⟨mA,O,r,_,_,_⟩:=ins_get I.hok e
 obtain⟨u,hu,ru⟩:=RelO.some_of (v:=v) (o:=mA f) (by rw[<- l];exact r f)
 exact get_map I.kIn O (c.get f) c.hd n hu (handed_of ru) (h u _ (I.tok _) ru)
theorem getmeth_ok {m:Str}{g:Addr}{pl:Sem Bool}{Q:Value×List Value->Shared->Prop}(I:Inv X pins σ H s)(e:H a=some (.ins C dx fs))(c:Cls X.K C)(k:Meth X.K C m g)(l:fs.lookup m=none)
  (h:Q (.ref g,[.ref a]) s):wpAny (model X.prog X.w) A (getMethod (.ref a) m pl) Q E s:=by
 obtain⟨mA,O,r,_,_,_⟩:=ins_get I.hok e
 have hn:mA m=none:=RelO.none_of (by rw[<- l];exact r m)
 exact get_meth I.kIn O (c.get m) k.at_ k.fn hn h
theorem setattr_ok {y:V}{u:Value}{Q:Unit->Shared->Prop}(I:Inv X pins σ H s)(e:H a=some (.ins C dx fs))(c:Cls X.K C)(n:NoAttr X.K C f)(hl:fs.length<1000)(ry:RelV y u)
  (h:∀ s',Inv X pins σ (upd H a (.ins C dx (putF f y fs))) s'->Q () s'):wpAny (model X.prog X.w) A (setAttr (.ref a) f u) Q E s:=by
 obtain⟨mA,O,r,wi,_,ho⟩:=ins_get I.hok e
 have hz:(fs.map (·.1)).length<=sizeLine:=by rw[List.length_map,sizeLine_eq];omega
 refine set_map I.kIn O c.sa c.po n.taker c.hd wi hz λh' O' sb=>h _ ?_
 have hd:∃ o,h'.get? dx=some o:=let ⟨o,_,_,e',_⟩:=O'.ns;⟨o,e'⟩
 refine I.write (x:=a) (e:=dx) (by rw[e];exact True.intro) (.inr ho) (λb q hb z=>(sb.2 b hb).trans z) hd ?_
 refine⟨by rw[upd_ne O.ne];exact ho,?_,O.ne,O'.obj,_,O'.ns,λg=>?_,λg hg=>?_⟩
 ·have:=length_putF f y fs;omega
 ·show RelO ((putF f y fs).lookup g) (if g=f then some u else mA g)
  rw[lookup_putF]
  by_cases q:g=f
  ·rw[if_pos q,if_pos q];exact ry
  ·rw[if_neg q,if_neg q];exact r g
 ·by_cases q:g=f
  ·rw[q];exact(keys_putF f y fs).1
  ·refine(keys_putF f y fs).2 g (wi g λz=>hg ?_)
   show (if g=f then some u else mA g)=none
   rw[if_neg q];exact z
theorem Inv.made (I:Inv X pins σ H s):Inv X pins σ (upd (upd H s.heap.objs.size (.own (s.heap.objs.size+1))) (s.heap.objs.size+1) (.ins C s.heap.objs.size []))
  { s with heap:=(s.heap.push W.emptyDict).push (W.instObj C s.heap.objs.size) }:=by
 have e1:(s.heap.push W.emptyDict).get? s.heap.objs.size=some W.emptyDict:=Heap.get?_push_size s.heap rfl
 have e2:((s.heap.push W.emptyDict).push (W.instObj C s.heap.objs.size)).get? (s.heap.objs.size+1)=some (W.instObj C s.heap.objs.size):=by
  have:=Heap.get?_push_size (s.heap.push W.emptyDict) (o:=W.instObj C s.heap.objs.size) rfl
  rwa [Heap.size_push] at this
 have e3:(s.heap.push W.emptyDict).Ns s.heap.objs.size (λ_=>none):=⟨W.emptyDict,#[],_,e1,rfl,(λe he=>absurd he (by simp)),λ_=>rfl⟩
 have I1:=I.laid (a:=s.heap.objs.size) (o:=.own (s.heap.objs.size+1)) (h':=s.heap.push W.emptyDict) (t':=s.toks) (λb u q=>Heap.get?_push_of_some _ q) (Nat.le_refl _) ⟨_,e1⟩
 refine I1.laid (a:=s.heap.objs.size+1) (o:=.ins C s.heap.objs.size []) (t':=s.toks) (λb u q=>Heap.get?_push_of_some _ q) (Nat.le_of_eq (Heap.size_push _ _)) ?_
 have ne:s.heap.objs.size≠s.heap.objs.size+1:=Nat.ne_of_lt (Nat.lt_succ_self _)
 refine⟨by rw[upd_ne ne,upd_same],Nat.zero_le _,ne,e2,λ_=>none,(Heap.Ns1.of_empty e3).at λo q=>Heap.get?_push_of_some _ q,λ_=>True.intro,λy hy=>absurd rfl hy⟩
theorem attr_of {prog:Program}{w:World}{env:Env}{e:Expr}{f:Str}{pos:Pos}{s:Shared}{Q:Value->Shared->Prop}(hb:attributeBase e f env (eval e env)=eval e env)
  (h:wpAny (model prog w) A (eval e env) (λo s₁=>wpAny (model prog w) A (getAttr o f true) Q E s₁) E s):wpAny (model prog w) A (eval (.Attribute e f pos) env) Q E s :=
 Attribute_any_ h (by rw[arm_eval_Attribute,hb])
end
def tFld (K:W.Frag)(ta:TE)(f:Str):TE:=λσ H Q=>ta σ H λx H1=>∃ a C dx fs v,x=.ref a/\H1 a=some (.ins C dx fs)/\Cls K C/\NoAttr K C f/\fs.lookup f=some v/\Q v H1
def sFld (K:W.Frag)(ta tv:TE)(f:Str):TS:=λD σ H=>tv σ H λy H1=>ta σ H1 λx H2=>∃ a C dx fs,x=.ref a/\H2 a=some (.ins C dx fs)/\Cls K C/\NoAttr K C f/\fs.length<1000 /\
 D.nx σ (upd H2 a (.ins C dx (putF f y fs)))
section
variable {X:Cx}{o e value:Expr}{f:Str}{pos pos' tpos:Pos}{ta tv:TE}
theorem pe_fld (he:PE X e ta)(hb:attributeBase e f X.env (eval e X.env)=eval e X.env):PE X (.Attribute e f pos) (tFld X.K ta f):=by
 intro pins s σ H Q I h
 refine attr_of hb (thn (he pins s σ H _ I h) λu s1 ⟨x,H1,I1,rx,a,C,dx,fs,v,ex,ea,c,n,l,q⟩=>?_)
 subst ex
 obtain rfl:u=Value.ref a:=rx
 exact getattr_ok I1 ea c n l λu' s2 I2 ru=>⟨v,H1,I2,ru,q⟩
theorem ps_fld (ha:PE X o ta)(hv:PE X value tv)(hs:swapsWith value (some (.Attribute o f pos')) pos.line X.env=pure false):PS X (.Assign [.Attribute o f pos'] value pos) (sFld X.K ta tv f):=by
 intro pins s σ H D I h
 refine plainObj_wpAny_Assign_Attribute (thn (hv pins s σ H _ I h) λu s1 ⟨y,H1,I1,ry,q⟩=>thn (ha pins s1 σ H1 _ I1 q) λov s2 ⟨x,H2,I2,rx,a,C,dx,fs,ex,ea,c,n,l,q2⟩=>?_) hs
 subst ex
 obtain rfl:ov=Value.ref a:=rx
 exact setattr_ok I2 ea c n l ry λs3 I3=>⟨σ,_,I3,q2⟩
theorem methcall_of {pl:Sem Bool}{m:Str}{apos:Pos}{args:List Expr}{pins:List (Addr×Obj)}{s:Shared}{σ:St}{H:Hp}{Q:Value->Shared->Prop}{te:TE}(he:PE X e te)(I:Inv X pins σ H s)
  (h:te σ H λx H1=>∃ a C dx fs g,x=.ref a/\H1 a=some (.ins C dx fs)/\Cls X.K C/\Meth X.K C m g/\fs.lookup m=none /\
   ∀ s1,Inv X pins σ H1 s1->wpAny (model X.prog X.w) X.A (callWith pos (.ref g) [.ref a] (backTo pos (starEach args X.env)) (backToKw pos (keywordEach [] X.env))) Q X.xe s1)
  (ht:eval (.Call (.Attribute e m apos) args [] pos) X.env=(do
   let ov <- eval e X.env
   standAt apos.atName
   let (f,first) <- holding [ov] (getMethod ov m pl)
   callWith pos f first (backTo pos (starEach args X.env)) (backToKw pos (keywordEach [] X.env)))) :
  wpAny (model X.prog X.w) X.A (eval (.Call (.Attribute e m apos) args [] pos) X.env) Q X.xe s:=by
 refine W.methodCall_KW (pl:=pl) (thn (he pins s σ H _ I h) λu s1 ⟨x,H1,I1,rx,a,C,dx,fs,g,ex,ea,c,k,l,q⟩=>?_) ht
 subst ex
 obtain rfl:u=Value.ref a:=rx
 exact getmeth_ok I1 ea c k l (q s1 I1)
end
section
variable {X:Cx}{pins:List (Addr×Obj)}{σ:St}{H:Hp}{s:Shared}{A:Around}{E:Value->Shared->Prop}{Q:Value->Shared->Prop}{c:Value}{b:Bool}
inductive TyOf (K:W.Frag)(H:Hp):V->Value->Prop where
 | non:TyOf K H .non (.type "NoneType")
 | bl (x:Bool):TyOf K H (.bl x) (.type "bool")
 | int (i:Int):TyOf K H (.int i) (.type "int")
 | str (x:Str):TyOf K H (.str x) (.type "str")
 | flt (x:UInt64):TyOf K H (.flt x) (.type "float")
 | lst {a:Addr} {xs:List V} (e:H a=some (.lst xs)):TyOf K H (.ref a) (.type "list")
 | frz {a:Addr} {o:Obj} {xs:List V} (e:H a=some (.frz o (.lst xs))):TyOf K H (.ref a) (.type "list")
 | tup {a:Addr} {xs:List V} (e:H a=some (.tup xs)):TyOf K H (.ref a) (.type "tuple")
 | dK {a:Addr} {kvs:List (Key×V)} (e:H a=some (.dK kvs)):TyOf K H (.ref a) (.type "dict")
 | dT {a:Addr} {kvs:List (List Key×V)} (e:H a=some (.dT kvs)):TyOf K H (.ref a) (.type "dict")
 | ins {a C dx:Addr} {fs:List (Str×V)} (e:H a=some (.ins C dx fs)) (cl:Cls K C) (ha:W.findIn K (.ref C) "__class__"=some (some (.builtin "object.__class__")))
   (hn:W.specialIn K (.builtin "object.__class__") "__get__"=some (some (.builtin "getset_descriptor.__get__"))) (htk:W.takesIn K (.builtin "object.__class__")=some true)
   (hm:W.mroIn K C (.type "object")=some true):TyOf K H (.ref a) (.ref C)
theorem isinst_ok {x:V}{u t:Value}(I:Inv X pins σ H s)(rx:RelV x u)(ty:TyOf X.K H x t)(e:W.kitOne X.K t c=some b)(h:∀ tk,Q (.bool b) { s with toks:=tk }) :
  wpAny (model X.prog X.w) A (call (.builtin "isinstance") [u,c]) Q E s:=by
 cases ty with
 | non=>cases (show u=Value.none from rx);exact W.kia_one W.kitx_none I.kIn True.intro e (λz=>nomatch z) h
 | bl y=>cases (show u=Value.bool y from rx);exact W.kia_one W.kitx_bool I.kIn True.intro e (λz=>nomatch z) h
 | int i=>obtain⟨t,q⟩:=(show ∃ t,u=Value.int i t from rx);cases q;exact W.kia_one W.kitx_int I.kIn True.intro e (λz=>nomatch z) h
 | str y=>obtain⟨t,q⟩:=(show ∃ t,u=Value.str y t from rx);cases q;exact W.kia_one W.kitx_str I.kIn True.intro e (λz=>nomatch z) h
 | flt y=>obtain⟨t,q⟩:=(show ∃ t,u=Value.float y t from rx);cases q;exact W.kia_one W.kitx_float I.kIn True.intro e (λz=>nomatch z) h
 | @lst a xs ea =>
  cases (show u=Value.ref a from rx)
  obtain⟨_,_,n,_,h1⟩:=(show ObjOk X.prog X.w H s.heap a (.lst xs) from I.hok a _ ea)
  exact W.kia_one W.kitx_list I.kIn ⟨_,h1,rfl⟩ e (λz=>nomatch z) h
 | @frz a ob xs ea =>
  cases (show u=Value.ref a from rx)
  obtain⟨_,_,_,n,_,h1⟩:=(show ObjOk X.prog X.w H s.heap a (.frz ob (.lst xs)) from I.hok a _ ea)
  exact W.kia_one W.kitx_list I.kIn ⟨_,h1,rfl⟩ e (λz=>nomatch z) h
 | @tup a xs ea =>
  cases (show u=Value.ref a from rx)
  obtain⟨_,_,_,p⟩:=(show ObjOk X.prog X.w H s.heap a (.tup xs) from I.hok a _ ea)
  obtain⟨o,h1,h2,_⟩:=p
  exact W.kia_one W.kitx_tuple I.kIn ⟨o,h1,h2⟩ e (λz=>nomatch z) h
 | @dK a kvs ea =>
  cases (show u=Value.ref a from rx)
  obtain⟨_,_,vs,_,p⟩:=(show ObjOk X.prog X.w H s.heap a (.dK kvs) from I.hok a _ ea)
  obtain⟨o,es,ep,h1,h2,_⟩:=p
  exact W.kia_one W.kitx_dict I.kIn ⟨o,h1,h2.1⟩ e (λz=>nomatch z) h
 | @dT a kvs ea =>
  cases (show u=Value.ref a from rx)
  obtain⟨_,_,xs,_,o,es,ep,h1,h2,_⟩:=(show ObjOk X.prog X.w H s.heap a (.dT kvs) from I.hok a _ ea)
  exact W.kia_one W.kitx_dict I.kIn ⟨o,h1,h2.1⟩ e (λz=>nomatch z) h
 | @ins a C dx fs ea cl ha hn htk hm =>
  cases (show u=Value.ref a from rx)
  obtain⟨mA,O,_⟩:=ins_get I.hok ea
  obtain⟨od,J,_⟩:=O.look
  exact W.kia_one (W.kitx_own (cl.get _) cl.hd ha hn htk hm) I.kIn J e (λz=>nomatch z) h
end
end L2
namespace L2
open PySem PySem.Spec PyProof.Rows
structure Room (k:Nat)(A:Around):Prop where
 hd:A.handled=none
 dp:A.depth+3*k+5<recursionLimit
 un:A.units+16*k+200<cLine
 gd:A.guards=some []
theorem Room.mono {j k:Nat}{A:Around}(r:Room k A)(h:j<=k):Room j A:=⟨r.hd,by have:=r.dp;omega,by have:=r.un;omega,r.gd⟩
theorem Room.deeper {k:Nat}{A:Around}(r:Room (k+1) A)(env:Env):Room k (A.deeper env) :=
 ⟨r.hd,by have:=r.dp;show A.depth+1+3*k+5<_;omega,by have:=r.un;show A.units+3+16*k+200<_;omega,r.gd⟩
theorem make_depth {A:Around}{C:Addr}{us:List Value}{kw:List (Str×Value)}:(A.under (.builtin "type.__call__" ⟨.ref C::us,kw⟩)).depth=A.depth+1:=by
 first | rfl | simp[Around.under,Code.weight,Code.isCreation,Code.isGuard,Code.isCaller,Code.frames,Code.isFrame,guardIds]
theorem make_units {A:Around}{C:Addr}{us:List Value}{kw:List (Str×Value)}:(A.under (.builtin "type.__call__" ⟨.ref C::us,kw⟩)).units=A.units+1:=by
 first | rfl | simp[Around.under,Code.cUnits,Code.frames,Code.isFrame]
theorem Room.make {k:Nat}{A:Around}(r:Room (k+1) A)(C:Addr)(us:List Value)(kw:List (Str×Value)):Room k (A.under (.builtin "type.__call__" ⟨.ref C::us,kw⟩)) :=
 ⟨r.hd,by have:=r.dp;rw[make_depth];omega,by have:=r.un;rw[make_units];omega,by simpa [Around.under,pushGuards,Code.guards,Code.isGuard,guardIds] using r.gd⟩
theorem Room.depth {k:Nat}{A:Around}(r:Room k A):A.depth<recursionLimit:=by have:=r.dp;omega
theorem Room.units {k:Nat}{A:Around}(r:Room k A):A.units+64<cLine:=by have:=r.un;omega
theorem Room.units0 {k:Nat}{A:Around}(r:Room k A):A.units<cLine:=by have:=r.un;omega
def tNil:TA:=λ_ H Q=>Q [] H
def tCons (ta:TE)(tr:TA):TA:=λσ H Q=>ta σ H λx H1=>tr σ H1 λxs H2=>Q (x::xs) H2
section
variable {X:Cx}{e:Expr}{es:List Expr}{te:TE}{t:TA}{pos:Pos}
theorem pa_nil:PA X [] tNil:=λ_ _ _ _ H Q I h=>Calls.spliced_nil ⟨[],H,I,.nil,h⟩
theorem pa_cons (ha:PE X e te)(hr:PA X es t)(hs:starEach (e::es) X.env=(false,eval e X.env)::starEach es X.env:=by rfl):PA X (e::es) (tCons te t):=by
 intro pos pins s σ H Q I h
 rw[hs]
 show wpAny _ _ (spliced ((false,eval e X.env)::backTo pos (starEach es X.env))) _ _ s
 refine Calls.spliced_cons (thn (ha pins s σ H _ I h) λu s1 ⟨x,H1,I1,r1,q1⟩=>?_)
 exact thn (hr pos pins s1 σ H1 _ I1 q1) λus s2 ⟨xs,H2,I2,r2,q2⟩=>⟨x::xs,H2,I2,.cons r1 r2,q2⟩
def tTup (t:TA):TE:=λσ H Q=>t σ H λxs H1=>xs.length<=sizeLine/\∀ p,H1 p=none->Q (.ref p) (upd H1 p (.tup xs))
def tLst (t:TA):TE:=λσ H Q=>t σ H λxs H1=>xs.length<=sizeLine/\∀ p,H1 p=none->Q (.ref p) (upd H1 p (.lst xs))
theorem pe_tup {x1}(h:PA X es t):PE X (.Tuple es x1 pos) (tTup t):=by
 intro pins s σ H Q I hq
 refine wpAny_Tuple_spliced (thn (h pos pins s σ H _ I hq) λus s1 ⟨xs,H1,I1,r,z,q⟩=>⟨by rw[<- r.length];exact z,?_⟩)
 have hf:H1 s1.heap.objs.size=none:=I1.hok.fresh (Nat.le_refl _)
 refine⟨.ref s1.heap.objs.size,upd H1 s1.heap.objs.size (.tup xs),I1.laid (t':=s1.toks) (λb u e=>Heap.get?_push_of_some _ e) (Nat.le_refl _) ?_,rfl,q _ hf⟩
 exact⟨z,us,r,⟨_,Heap.get?_push_size _ rfl,rfl,_,rfl⟩⟩
theorem pe_lst (h:PA X es t):PE X (.List es pos) (tLst t):=by
 intro pins s σ H Q I hq
 refine wpAny_List_spliced (thn (h pos pins s σ H _ I hq) λus s1 ⟨xs,H1,I1,r,z,q⟩=>⟨by rw[<- r.length];exact z,?_⟩)
 have hf:H1 s1.heap.objs.size=none:=I1.hok.fresh (Nat.le_refl _)
 refine⟨.ref s1.heap.objs.size,upd H1 s1.heap.objs.size (.lst xs),I1.laid (t':=s1.toks) (λb u e=>Heap.get?_push_of_some _ e) (Nat.le_refl _) ?_,rfl,q _ hf⟩
 exact⟨z,us,0,r,Heap.get?_push_size _ rfl⟩
end
abbrev Sp:=List V->Hp->VK->XK->Prop
abbrev CXT:=List Env->Hp->Shared->XK->Value->Shared->Prop
structure Env0 (P:Program)(w:World)(K:W.Frag)(mg:Str->Option Value)(base:Heap)(A:Around)(outer:List Env)(s:Shared)(H:Hp):Prop where
 frames:A.frames=some outer
 mod:Mod K mg base
 bs:∀ b o,base.get? b=some o->s.heap.get? b=some o/\H b=none
 bsz:base.objs.size<=s.heap.objs.size
 funs:s.heap.FunFrames base outer
 frf:∀ b∈frs outer,H b=none
 hok:HOk P w H s.heap
 bare:AllBare s.gens
def CE (outer:List Env)(P:Program)(w:World)(H:Hp)(s:Shared)(Q:VK)(u:Value)(s':Shared):Prop :=
 ∃ v H',s'.os=s.os/\AllBare s'.gens/\Un (frs outer) [] H H' s.heap s'.heap/\HOk P w H' s'.heap/\RelV v u/\Q v H'
def CR (CX:CXT)(outer:List Env)(P:Program)(w:World)(H:Hp)(s:Shared)(Q:VK)(E:XK)(r:Result)(s':Shared):Prop :=
 match r with
 | .ok (.ret u)=>CE outer P w H s Q u s'
 | .ok _=>False
 | .error e=>CX outer H s E e s'
structure FnOk (P:Program)(w:World)(K:W.Frag)(mg:Str->Option Value)(base:Heap)(CX:CXT)(k:Nat)(f:Addr)(fd:FuncData)(ps:List Str)(sp:Sp):Prop where
 len:∀ vs H Q E,sp vs H Q E->vs.length=ps.length
 run:∀ (A:Around) (outer:List Env) (s:Shared) (H:Hp) (args:Args) (us:List Value) (vs:List V) (Q:VK) (E:XK),Room k A->Env0 P w K mg base A outer s H->BindsTo s fd args (ps.zip us)->Vals vs us->sp vs H Q E ->
  codeAny (model P w) A (.call (.ref f) args) (CR CX outer P w H s Q E) s
theorem FnOk.imp {P:Program}{w:World}{K:W.Frag}{mg:Str->Option Value}{base:Heap}{CX:CXT}{k:Nat}{f:Addr}{fd:FuncData}{ps:List Str}{sp sp':Sp}(F:FnOk P w K mg base CX k f fd ps sp)
  (h:∀ vs H Q E,sp' vs H Q E->sp vs H Q E):FnOk P w K mg base CX k f fd ps sp' :=
 ⟨λvs H Q E q=>F.len vs H Q E (h _ _ _ _ q),λA outer s H args us vs Q E hr he hb hv hs=>F.run A outer s H args us vs Q E hr he hb hv (h _ _ _ _ hs)⟩
theorem Env0.make {P:Program}{w:World}{K:W.Frag}{mg:Str->Option Value}{base:Heap}{A:Around}{outer:List Env}{s:Shared}{H:Hp}(e:Env0 P w K mg base A outer s H)(C:Addr)(us:List Value)(kw:List (Str×Value)) :
  Env0 P w K mg base (A.under (.builtin "type.__call__" ⟨.ref C::us,kw⟩)) outer s H:=⟨by first | exact e.frames | (simpa [Around.under,Code.envs,Code.isFrame,pushEnvs] using e.frames),e.mod,e.bs,e.bsz,e.funs,e.frf,e.hok,e.bare⟩
section
variable {X:Cx}{pins:List (Addr×Obj)}{σ:St}{H:Hp}{s s':Shared}
theorem Inv.env0 (I:Inv X pins σ H s):Env0 X.prog X.w X.K X.mg X.base X.A X.stack s H :=
 ⟨I.ok.frames,I.ok.mod,I.bs,Nat.le_trans I.ok.bsz I.sz,I.stack,I.stkFree,I.hok,I.bare⟩
theorem Inv.after {Q:VK}{u:Value}(I:Inv X pins σ H s)(h:CE X.stack X.prog X.w H s Q u s'):EP X pins σ Q u s':=by
 obtain⟨v,H',os,bare,un,hok,r,q⟩:=h
 obtain⟨hh,g,d,t,os'⟩:=s'
 obtain rfl:os'=s.os:=os
 exact⟨v,H',I.call (h':=hh) (g':=g) (d':=d) (t':=t) (ch:=[]) un hok bare (λb z=>absurd z (by simp)),r,q⟩
end
def tCall (sp:Sp)(dvs:List V)(E:XK)(t:TA):TE:=λσ H Q=>t σ H λvs H1=>sp (vs++dvs) H1 Q E
def tMeth (C:Addr)(m:Str)(sp:Sp)(dvs:List V)(E:XK)(ta:TE)(t:TA):TE:=λσ H Q=>ta σ H λx H1=>∃ a dx fs,x=.ref a/\H1 a=some (.ins C dx fs)/\fs.lookup m=none /\
 t σ H1 λvs H2=>sp (x::(vs++dvs)) H2 Q E
def tMake (C:Addr)(sp:Sp)(dvs:List V)(E:XK)(t:TA):TE:=λσ H Q=>t σ H λvs H1=>∀ x dx,H1 x=none->H1 dx=none->dx≠x ->
 sp (.ref x::(vs++dvs)) (upd (upd H1 dx (.own x)) x (.ins C dx [])) (λv H2=>v=.non/\Q (.ref x) H2) E
def Binds (K:W.Frag)(fd:FuncData)(ps:List Str)(ds:List Value):Prop :=
 ∀ (s:Shared) (us:List Value),K.In s.heap->(us++ds).length=ps.length->BindsTo s fd ⟨us,[]⟩ (ps.zip (us++ds))
theorem Binds.all {K:W.Frag}{fd:FuncData}{ps:List Str}(h:∀ us:List Value,us.length=ps.length->bindArgs fd ⟨us,[]⟩=pure (ps.zip us)):Binds K fd ps []:=λs us _ hl=>by
 rw[List.append_nil] at hl ⊢
 exact .of_eq (h us hl)
def Passes (CX:CXT)(X:Cx)(E:XK):Prop:=∀ (pins:List (Addr×Obj)) (σ:St) (H:Hp) (s:Shared) (e:Value) (s':Shared),Inv X pins σ H s->CX X.stack H s E e s'->X.xe e s'
section
variable {X:Cx}{CX:CXT}{k:Nat}{f C:Addr}{fd:FuncData}{ps:List Str}{sp:Sp}{dvs:List V}{ds:List Value}{E:XK}{x m:Str}{p pos apos:Pos}{e o:Expr}{es:List Expr}{ta:TE}{t:TA}
theorem run_fn {pins:List (Addr×Obj)}{σ:St}{H:Hp}{s:Shared}{Q:VK}{us:List Value}{vs:List V}(F:FnOk X.prog X.w X.K X.mg X.base CX k f fd ps sp)(hr:Room k X.A)(hb:Binds X.K fd ps ds)(hd:Vals dvs ds)(hx:Passes CX X E)
  (I:Inv X pins σ H s) (r:Vals vs us) (h:sp (vs++dvs) H Q E):wpAny (model X.prog X.w) X.A (call (.ref f) us) (EP X pins σ Q) X.xe s:=by
 have r2:Vals (vs++dvs) (us++ds):=r.append hd
 have hl:(us++ds).length=ps.length:=by rw[<- r2.length];exact F.len _ _ _ _ h
 refine wpAny_call (codeAny_mono (F.run X.A X.stack s H ⟨us,[]⟩ (us++ds) (vs++dvs) Q E hr I.env0 (hb s us I.kIn hl) r2 h) λr s' hq=>?_)
 cases r with
 | error e=>exact hx pins σ H s e s' I hq
 | ok fl =>
  cases fl with
  | ret u=>exact I.after hq
  | next=>exact False.elim hq
  | brk=>exact False.elim hq
  | cont=>exact False.elim hq
theorem pe_call (F:FnOk X.prog X.w X.K X.mg X.base CX k f fd ps sp)(hr:Room k X.A)(hg:Gl X x)(hm:X.mg x=some (.ref f))(hk:W.keepIn X.K (.ref f)=true)(hb:Binds X.K fd ps ds)(hd:Vals dvs ds)(hx:Passes CX X E)
  (ha:PA X (e::es) t) (hdb:(x == ("__debug__":Str))=false:=by decide) (he:starEach (e::es) X.env=(false,eval e X.env)::starEach es X.env:=by rfl) (hpl:(backTo pos (starEach es X.env)).any (·.1)=false:=by rfl) :
  PE X (.Call (.Name x p) (e::es) [] pos) (tCall sp dvs E t):=by
 intro pins s σ H Q I h
 refine wpAny_Call_Name_kw (ld_glob I hg hm ?_ hdb)
 refine W.callWith_K (h₀:=X.base) I.ok.mod.kin hk (thn (ha pos pins s σ H _ I h) λus s1 ⟨vs,H1,I1,r,q⟩=>⟨I1.kIn,?_⟩) he hpl
 exact run_fn F hr hb hd hx I1 r q
theorem pe_meth {pl:Sem Bool}(he:PE X o ta)(c:Cls X.K C)(hm:Meth X.K C m f)(F:FnOk X.prog X.w X.K X.mg X.base CX k f fd ps sp)(hr:Room k X.A)(hb:Binds X.K fd ps ds)(hd:Vals dvs ds)(hx:Passes CX X E)(ha:PA X (e::es) t)
  (hst:starEach (e::es) X.env=(false,eval e X.env)::starEach es X.env:=by rfl) (hpl:(backTo pos (starEach es X.env)).any (·.1)=false:=by rfl)
  (ht:eval (.Call (.Attribute o m apos) (e::es) [] pos) X.env=(do
   let ov <- eval o X.env
   standAt apos.atName
   let (f,first) <- holding [ov] (getMethod ov m pl)
   callWith pos f first (backTo pos (starEach (e::es) X.env)) (backToKw pos (keywordEach [] X.env))):=by rfl) :
  PE X (.Call (.Attribute o m apos) (e::es) [] pos) (tMeth C m sp dvs E ta t):=by
 intro pins s σ H Q I h
 refine W.methodCall_KW (pl:=pl) (thn (he pins s σ H _ I h) λu s1 ⟨x,H1,I1,rx,a,dx,fs,ex,ea,l,q⟩=>?_) ht
 subst ex
 obtain rfl:u=Value.ref a:=rx
 refine getmeth_ok I1 ea c hm l ?_
 refine W.callWith_K (first:=[.ref a]) (h₀:=X.base) I.ok.mod.kin hm.kp (thn (ha pos pins s1 σ H1 _ I1 q) λus s2 ⟨vs,H2,I2,r,q2⟩=>⟨I2.kIn,?_⟩) hst hpl
 exact run_fn (us:=.ref a::us) (vs:=.ref a::vs) F hr hb hd hx I2 (.cons rfl r) q2
theorem pe_meth0 {pl:Sem Bool}(he:PE X o ta)(c:Cls X.K C)(hm:Meth X.K C m f)(F:FnOk X.prog X.w X.K X.mg X.base CX k f fd ps sp)(hr:Room k X.A)(hb:Binds X.K fd ps ds)(hd:Vals dvs ds)(hx:Passes CX X E)
  (ht:eval (.Call (.Attribute o m apos) [] [] pos) X.env=(do
   let ov <- eval o X.env
   standAt apos.atName
   let (f,first) <- holding [ov] (getMethod ov m pl)
   callWith pos f first (backTo pos (starEach [] X.env)) (backToKw pos (keywordEach [] X.env))):=by rfl) :
  PE X (.Call (.Attribute o m apos) [] [] pos) (tMeth C m sp dvs E ta tNil):=by
 intro pins s σ H Q I h
 refine W.methodCall_KW (pl:=pl) (thn (he pins s σ H _ I h) λu s1 ⟨x,H1,I1,rx,a,dx,fs,ex,ea,l,q⟩=>?_) ht
 subst ex
 obtain rfl:u=Value.ref a:=rx
 refine getmeth_ok I1 ea c hm l ?_
 exact W.callWith_K0 (first:=[.ref a]) I1.kIn hm.kp (run_fn (us:=[.ref a]) (vs:=[.ref a]) F hr hb hd hx I1 (.cons rfl .nil) q)
structure Mk (K:W.Frag)(C f:Addr):Prop where
 makes:W.makesIn K C=true
 init:W.findIn K (.ref C) "__init__"=some (some (.ref f))
 fn:W.isFn K (.ref f)=true
 kp:W.keepIn K (.ref C)=true
theorem run_make {pins:List (Addr×Obj)}{σ:St}{H:Hp}{s:Shared}{Q:VK}{us:List Value}{vs:List V}(M:Mk X.K C f)(F:FnOk X.prog X.w X.K X.mg X.base CX k f fd ps sp)(hr:Room (k+1) X.A)(hb:Binds X.K fd ps ds)(hd:Vals dvs ds)
  (hx:Passes CX X E) (I:Inv X pins σ H s) (r:Vals vs us)
  (h:∀ x dx,H x=none->H dx=none->dx≠x->sp (.ref x::(vs++dvs)) (upd (upd H dx (.own x)) x (.ins C dx [])) (λv H2=>v=.non/\Q (.ref x) H2) E) :
  wpAny (model X.prog X.w) X.A (call (.ref C) us) (EP X pins σ Q) X.xe s:=by
 have hq:=h (s.heap.objs.size+1) s.heap.objs.size (I.hok.fresh (Nat.le_succ _)) (I.hok.fresh (Nat.le_refl _)) (Nat.ne_of_lt (Nat.lt_succ_self _))
 have I2:=Inv.made (C:=C) I
 have r2:Vals (V.ref (s.heap.objs.size+1)::(vs++dvs)) (Value.ref (s.heap.objs.size+1)::(us++ds)):=.cons rfl (r.append hd)
 have hl:(Value.ref (s.heap.objs.size+1)::us++ds).length=ps.length:=by
  have e:=r2.length
  rw[F.len _ _ _ _ hq] at e
  exact e.symm
 refine wpAny_call (make_map (f:=f) I.kIn M.makes M.init (beq_iff_eq.mp M.fn) (codeAny_mono (F.run _ X.stack _ _ ⟨Value.ref (s.heap.objs.size+1)::us,[]⟩ (Value.ref (s.heap.objs.size+1)::(us++ds)) _ _ E (hr.make C us [])
  (I2.env0.make C us []) (hb _ (Value.ref (s.heap.objs.size+1)::us) I2.kIn hl) r2 hq) λr s' hq'=>?_))
 cases r with
 | error e=>exact hx pins σ _ _ e s' I2 hq'
 | ok fl =>
  cases fl with
  | ret u =>
   obtain⟨v,H',I3,rv,ev,q3⟩:=I2.after hq'
   subst ev
   exact⟨rv,⟨V.ref (s.heap.objs.size+1),H',I3,rfl,q3⟩⟩
  | next=>exact False.elim hq'
  | brk=>exact False.elim hq'
  | cont=>exact False.elim hq'
theorem pe_make (M:Mk X.K C f)(F:FnOk X.prog X.w X.K X.mg X.base CX k f fd ps sp)(hr:Room (k+1) X.A)(hg:Gl X x)(hm:X.mg x=some (.ref C))(hb:Binds X.K fd ps ds)(hd:Vals dvs ds)(hx:Passes CX X E)
  (ha:PA X (e::es) t) (hdb:(x == ("__debug__":Str))=false:=by decide) (he:starEach (e::es) X.env=(false,eval e X.env)::starEach es X.env:=by rfl) (hpl:(backTo pos (starEach es X.env)).any (·.1)=false:=by rfl) :
  PE X (.Call (.Name x p) (e::es) [] pos) (tMake C sp dvs E t):=by
 intro pins s σ H Q I h
 refine wpAny_Call_Name_kw (ld_glob I hg hm ?_ hdb)
 refine W.callWith_K (h₀:=X.base) I.ok.mod.kin M.kp (thn (ha pos pins s σ H _ I h) λus s1 ⟨vs,H1,I1,r,q⟩=>⟨I1.kIn,?_⟩) he hpl
 exact run_make M F hr hb hd hx I1 r q
end
section
variable {X:Cx}{CX:CXT}{k:Nat}{f C:Addr}{fd:FuncData}{ps ks:List Str}{sp:Sp}{E:XK}{x m:Str}{p pos apos kpos:Pos}{e o:Expr}{es:List Expr}{kws:List Keyword}{te ta:TE}{t tk:TA}{nm:Option Str}
structure KBinds (K:W.Frag)(fd:FuncData)(ps ks:List Str)(g:List Value->List Value->List Value)(gV:List V->List V->List V):Prop where
 to:∀ (s:Shared) (us ws:List Value),K.In s.heap->(g us ws).length=ps.length->BindsTo s fd ⟨us,ks.zip ws⟩ (ps.zip (g us ws))
 rel:∀ {vs:List V} {us:List Value} {zs:List V} {ws:List Value},Vals vs us->Vals zs ws->Vals (gV vs zs) (g us ws)
variable {g:List Value->List Value->List Value}{gV:List V->List V->List V}
end
structure FnScope (N P:List Str)(sc:Scope):Prop where
 kind:sc.kind=.function
 co:sc.isCoroutine=false
 gen:sc.isGenerator=false
 nd:N.Nodup
 pre:N.take P.length=P
 par:∀ x∈P,sc.names.lookup x=some .local\/sc.names.lookup x=some .cell
 nofree:∀ y∈sc.names,y.2≠.free
theorem bindL_out {kindOf:Str->Option NameKind}{x:Str}:∀ {binds:List (Str×Value)} {m:Str->Option Value},(∀ v,(x,v)∉binds)->bindL kindOf binds m x=m x
 | [],_,_=>rfl
 | (n,v)::r,m,h=>by
  unfold bindL
  rw[bindL_out λw hw=>h w (List.mem_cons_of_mem _ hw)]
  split
  ·have:x≠n:=by rintro rfl;exact h v List.mem_cons_self
   simp[this]
  ·rfl
theorem bindC_out {kindOf:Str->Option NameKind}{x:Str}:∀ {binds:List (Str×Value)} {m:Str->Option Value},(∀ v,(x,v)∉binds)->bindC kindOf binds m x=m x
 | [],_,_=>rfl
 | (n,v)::r,m,h=>by
  unfold bindC
  rw[bindC_out λw hw=>h w (List.mem_cons_of_mem _ hw)]
  split
  ·rfl
  ·have:x≠n:=by rintro rfl;exact h v List.mem_cons_self
   simp[this]
theorem bindL_get {kindOf:Str->Option NameKind}{x:Str}{v:Value}:∀ {P:List Str} {vs:List Value} {i:Nat} {m:Str->Option Value},P.Nodup->P[i]?=some x->vs[i]?=some v->kindOf x=some .local ->
  bindL kindOf (P.zip vs) m x=some v
 | [],_,_,_,_,h,_,_=>by simp at h
 | _::_,[],_,_,_,_,h,_=>by simp at h
 | p::P,w::vs,0,m,nd,h1,h2,hk=>by
  simp at h1 h2;subst h1;subst h2
  show bindL kindOf ((p,w)::P.zip vs) m p=_
  unfold bindL
  rw[bindL_out λv hv=>(List.nodup_cons.mp nd).1 (List.of_mem_zip hv).1,if_pos hk]
  simp
 | p::P,w::vs,i+1,m,nd,h1,h2,hk=>by
  show bindL kindOf ((p,w)::P.zip vs) m x=_
  unfold bindL
  exact bindL_get (i:=i) (List.nodup_cons.mp nd).2 (by simpa using h1) (by simpa using h2) hk
theorem bindC_get {kindOf:Str->Option NameKind}{x:Str}{v:Value}:∀ {P:List Str} {vs:List Value} {i:Nat} {m:Str->Option Value},P.Nodup->P[i]?=some x->vs[i]?=some v->kindOf x≠some .local ->
  bindC kindOf (P.zip vs) m x=some v
 | [],_,_,_,_,h,_,_=>by simp at h
 | _::_,[],_,_,_,_,h,_=>by simp at h
 | p::P,w::vs,0,m,nd,h1,h2,hk=>by
  simp at h1 h2;subst h1;subst h2
  show bindC kindOf ((p,w)::P.zip vs) m p=_
  unfold bindC
  rw[bindC_out λv hv=>(List.nodup_cons.mp nd).1 (List.of_mem_zip hv).1,if_neg hk]
  simp
 | p::P,w::vs,i+1,m,nd,h1,h2,hk=>by
  show bindC kindOf ((p,w)::P.zip vs) m x=_
  unfold bindC
  exact bindC_get (i:=i) (List.nodup_cons.mp nd).2 (by simpa using h1) (by simpa using h2) hk
def start (N:List Str)(vs:List V):St:=vs.map some++List.replicate (N.length-vs.length) none
def cxOf (CX:CXT)(P:Program)(w:World)(K:W.Frag)(mg:Str->Option Value)(base:Heap)(N:List Str)(qual:Str)(scope:Scope)(f:Addr)(cd:Value)(A:Around)(outer:List Env)(s:Shared)(H:Hp)(E:XK):Cx where
 prog:=P
 w:=w
 K:=K
 mg:=mg
 base:=base
 A:=A.deeper (envOfC qual scope s.heap.objs.size f cd)
 N:=N
 s₀:=s
 H₀:=H
 env:=envOfC qual scope s.heap.objs.size f cd
 outer:=outer
 stack:=envOfC qual scope s.heap.objs.size f cd::outer
 ex:=[]
 calm:=true
 fn:=λ_=>true
 pn:=[]
 xe:=λe s'=>wpAny (model P w) (A.deeper (envOfC qual scope s.heap.objs.size f cd)) (leaving (envOfC qual scope s.heap.objs.size f cd) e) (λ_ s''=>CX outer H s E e s'') (λe' s''=>CX outer H s E e' s'') s'
theorem cell_has {sc:Scope}{n:Nat}{x:Str}(h:sc.names.lookup x=some .cell):∃ c,(cellsFrom n sc.names []).lookup x=some c:=by
 have q:=W.cellsFrom_some sc.names n [] (.inl h)
 exact Option.isSome_iff_exists.mp q
theorem inv_start {CX:CXT}{P:Program}{w:World}{K:W.Frag}{mg:Str->Option Value}{base:Heap}{N ps:List Str}{qual:Str}{scope:Scope}{f:Addr}{cd:Value}{A:Around}{outer:List Env}{s s1:Shared}{H:Hp}{E:XK}{us:List Value}{vs:List V}
  (S:FnScope N ps scope) (hd:A.handled=none) (e0:Env0 P w K mg base A outer s H) (hl:vs.length=ps.length) (r:Vals vs us)
  (x:InCallC s s.heap.objs.size (bindL (envOfC qual scope s.heap.objs.size f cd).kindOf (ps.zip us) λ_=>none) (cellsFrom (s.heap.objs.size+1) scope.names []) (bindC (envOfC qual scope s.heap.objs.size f cd).kindOf (ps.zip us) λ_=>none) s1) :
  Inv (cxOf CX P w K mg base N qual scope f cd A outer s H E) [] (start N vs) H s1:=by
 have hpl:ps.length<=N.length:=by have:=congrArg List.length S.pre;rw[List.length_take] at this;omega
 obtain⟨h1,tk,rfl,hk⟩:=x.done
 have noA:∀ b:Addr,b∉(cxOf CX P w K mg base N qual scope f cd A outer s H E).ex:=λb z=>absurd (show b∈([]:List Addr) from z) (by simp)
 refine⟨⟨e0.mod,S.kind,rfl,rfl,Nat.le_refl _,λy z c h1 h2=>?_,λy hy=>?_,λy c _ h=>?_,λ_=>hd,Around.frames_deeper e0.frames,.inr ⟨rfl,rfl⟩,λb z=>absurd z (noA b),e0.bs,e0.bsz,λb _ _=>noA b,λb z=>absurd z (noA b),e0.funs,e0.frf⟩,
  rfl,e0.bare,Un.kept hk,⟨_,x.toInCall.ns,λi y v h1 h2 h3=>?_⟩,λy c h=>⟨_,x.cell y c h⟩,e0.hok.fresh (Nat.le_refl _),λy c h=>?_,λp hp=>absurd (show p∈([]:List (Addr×Obj)) from hp) (by simp),e0.hok.kept hk,?_⟩
 ·exact name_of_addr x.apart (PySem.mem_of_lookup h1) (PySem.mem_of_lookup h2)
 ·have hy:scope.names.lookup y=some .cell\/scope.names.lookup y=some .free:=hy
  rcases hy with hy | hy
  ·exact cell_has hy
  ·exact absurd rfl (S.nofree _ (PySem.mem_of_lookup hy))
 ·exact Nat.le_of_lt (x.above y c (PySem.mem_of_lookup h))
 ·have hi:i<vs.length:=by
   unfold start at h2
   by_cases hi:i<vs.length
   ·exact hi
   ·rw[List.getElem?_append_right (by simpa using hi)] at h2
    rw[List.getElem?_replicate] at h2
    split at h2<;>cases h2
  have ha:vs[i]?=some v:=by
   unfold start at h2
   rw[List.getElem?_append_left (by simpa using hi),List.getElem?_map] at h2
   cases e:vs[i]? with
   | none=>rw[e] at h2;cases h2
   | some a=>rw[e] at h2;cases h2;rfl
  obtain⟨u,hu,rv⟩:=r.get ha
  have hp:ps[i]?=some y:=by
   rw[<- S.pre,List.getElem?_take_of_lt (by omega)];exact h1
  have ndP:ps.Nodup:=by rw[<- S.pre];exact S.nd.sublist (List.take_sublist _ _)
  refine⟨u,rv,?_⟩
  rcases S.par y (List.mem_of_getElem? hp) with k | k
  ·exact .inl ⟨k,bindL_get ndP hp hu k⟩
  ·obtain⟨c,e⟩:=cell_has (n:=s.heap.objs.size+1) k
   refine .inr ⟨.inl k,c,e,?_⟩
   have q:=x.cell y c e
   rw[bindC_get ndP hp hu (by show scope.names.lookup y≠_;rw[k];decide)] at q
   exact q
 ·exact e0.hok.fresh (Nat.le_of_lt (x.above y c (PySem.mem_of_lookup h)))
 ·unfold start
  show _=N.length
  rw[List.length_append,List.length_map,List.length_replicate]
  omega
theorem fn_of {CX:CXT}{P:Program}{w:World}{K:W.Frag}{mg:Str->Option Value}{base:Heap}{k:Nat}{f:Addr}{name qual:Str}{params:Arguments}{body:List Stmt}{scope:Scope}{dV kV doc pm cdv ct oc:Value}{an od:Option Addr}
  {osl:Array (Option Value)} {N ps:List Str} {sp:Sp} (lk:K.lookup f=some ⟨oc,od,.func (W.fnOf name qual params body scope dV kV doc pm an cdv ct),osl⟩) (hcd:W.codeIn K cdv qual=true) (S:FnScope N ps scope)
  (len:∀ vs H Q E,sp vs H Q E->vs.length=ps.length)
  (hbody:∀ (A:Around) (outer:List Env) (s:Shared) (H:Hp) (vs:List V) (Q:VK) (E:XK),Room k (A.deeper (envOfC qual scope s.heap.objs.size f cdv))->sp vs H Q E ->
   ∃ t,PSs (cxOf CX P w K mg base N qual scope f cdv A outer s H E) body t/\t { nx:=λ_ H'=>Q .non H',rt:=Q } (start N vs) H) :
  FnOk P w K mg base CX (k+1) f (W.fnOf name qual params body scope dV kV doc pm an cdv ct) ps sp:=by
 refine⟨len,λA outer s H args us vs Q E hr e0 hb r hsp=>?_⟩
 have hl:=len _ _ _ _ hsp
 have KX:K.In s.heap:=e0.mod.kin.keeps λb o e=>(e0.bs b o e).1
 have lim:s.heap.NoLimit:=e0.mod.nolimit.keeps λb o e=>(e0.bs b o e).1
 have hkind:∀ y∈ps.zip us,scope.names.lookup y.1=some .local\/(scope.names.lookup y.1=some .cell/\((cellsFrom (s.heap.objs.size+1) scope.names []).lookup y.1).isSome=true):=λ⟨n,v⟩ hy=>by
  rcases S.par n (List.of_mem_zip hy).1 with q | q
  ·exact .inl q
  ·exact .inr ⟨q,W.cellsFrom_some _ _ _ (.inl q)⟩
 refine codeAny_call_function hr.depth (KX _ _ lk) rfl S.co S.gen rfl (W.codeRec_of KX hcd) (hb _ _ _ _ ?_)
 refine wpAny_newFunctionEnv_cells S.kind hkind λenv he s1 x=>?_
 subst he
 refine⟨lim.keeps x.toInCall.keep,codeAny_func ?_⟩
 obtain⟨t,ht,hq⟩:=hbody A outer s H vs Q E (hr.deeper _) hsp
 have I:Inv (cxOf CX P w K mg base N qual scope f cdv A outer s H E) [] (start N vs) H s1:=inv_start S hr.hd e0 hl r x
 refine wpAny_mono (ht [] s1 (start N vs) H _ I hq) (λfl s' hs=>?_) λe s' hs=>hs
 have fin:∀ {σ':St} {H':Hp} {v:V} {u:Value},Inv (cxOf CX P w K mg base N qual scope f cdv A outer s H E) [] σ' H' s'->RelV v u->Q v H'->CE outer P w H s Q u s' :=
  λ{σ' H' v u} J rv q=>⟨v,H',J.os,J.bare,J.base,J.hok,rv,q⟩
 cases fl with
 | ret u =>
  obtain⟨v,σ',H',J,rv,q⟩:=hs
  exact fin J rv q
 | next =>
  obtain⟨σ',H',J,q⟩:=hs
  exact fin (v:=V.non) (u:=Value.none) J rfl q
 | brk =>
  obtain⟨_,_,_,q⟩:=hs
  exact False.elim q
 | cont =>
  obtain⟨_,_,_,q⟩:=hs
  exact False.elim q
end L2
namespace L2
open PySem PySem.Spec PyProof.Rows
section
variable {X:Cx}{x:Str}{p pos:Pos}{e:Expr}{es:List Expr}{t:TA}{id T:String}{r:List V->Hp->VK->Prop}
def tCB (r:List V->Hp->VK->Prop)(t:TA):TE:=λσ H Q=>t σ H λvs H1=>r vs H1 Q
theorem pe_callB (hc:CallR X (.builtin id) r)(hg:Gl X x)(hm:X.mg x=none)(hv:bootBuiltins x=some (.builtin id))(ha:PA X (e::es) t)(hn:x≠"__name__":=by decide)(hdb:(x == ("__debug__":Str))=false:=by decide)
  (he:starEach (e::es) X.env=(false,eval e X.env)::starEach es X.env:=by rfl) (hpl:(backTo pos (starEach es X.env)).any (·.1)=false:=by rfl):PE X (.Call (.Name x p) (e::es) [] pos) (tCB r t):=by
 intro pins s σ H Q I h
 refine wpAny_Call_Name_kw (ld_blt I hg hm hv ?_ hn hdb)
 exact PyProof.Rows.callWith_builtin1 (thn (ha pos pins s σ H _ I h) λus s1 ⟨vs,H1,I1,r1,q1⟩=>hc pins s1 σ H1 vs us Q I1 r1 q1) he hpl
theorem pe_callTy (hc:CallR X (.type T) r)(hg:Gl X x)(hm:X.mg x=none)(hv:bootBuiltins x=some (.type T))(ha:PA X (e::es) t)(hn:x≠"__name__":=by decide)(hdb:(x == ("__debug__":Str))=false:=by decide)
  (he:starEach (e::es) X.env=(false,eval e X.env)::starEach es X.env:=by rfl) (hpl:(backTo pos (starEach es X.env)).any (·.1)=false:=by rfl):PE X (.Call (.Name x p) (e::es) [] pos) (tCB r t):=by
 intro pins s σ H Q I h
 refine wpAny_Call_Name_kw (ld_blt I hg hm hv ?_ hn hdb)
 exact PyProof.Rows.callWith_type1 (thn (ha pos pins s σ H _ I h) λus s1 ⟨vs,H1,I1,r1,q1⟩=>hc pins s1 σ H1 vs us Q I1 r1 q1) he hpl
end
end L2
namespace HT
open PySem PyProof.Rows
section
open PySem.SeqAt
open PySem.AutoSeq1 (wpAny_loadPart')
open PySem.MeetsSeq PySem.MeetsSeq2 PySem.MeetsSeq3
end
section
variable {prog:Program}{w:World}{A:Around}{E:Value->Shared->Prop}{s:Shared}
def sIx (n d:Nat):Option Int->Nat
 | none=>d
 | some v=>if v<0 then (v+(n:Int)).toNat else min v.toNat n
theorem sIx_none (n d:Nat):sIx n d none=d:=rfl
theorem sIx_nat (n d k:Nat):sIx n d (some (k:Int))=min k n:=by
 show (if (k:Int)<0 then ((k:Int)+(n:Int)).toNat else min (k:Int).toNat n)=min k n
 rw[if_neg (by omega),Int.toNat_natCast]
end
end HT
namespace L2
open PySem PySem.Spec PyProof.Rows
abbrev TO:=St->Hp->(Option Int->Hp->Prop)->Prop
def PO (X:Cx)(e:Option Expr)(t:TO):Prop :=
 ∀ (pins:List (Addr×Obj)) (s:Shared) (σ:St) (H:Hp) (Q:Option Int->Hp->Prop),Inv X pins σ H s->t σ H Q ->
  wpAny (model X.prog X.w) X.A (evalPart e X.env) (λu s'=>∃ o H',Inv X pins σ H' s'/\IsPart u o/\Q o H') X.xe s
def tNoPart:TO:=λ_ H Q=>Q none H
theorem intsAre_of {ns:List Int}:∀ {us:List Value},Vals (ns.map V.int) us->IntsAre us ns:=by
 induction ns with
 | nil=>intro us r;rw[List.map_nil] at r;cases r;exact .nil
 | cons n ns ih =>
  intro us r
  rw[List.map_cons] at r
  cases r with
  | cons r1 r2 =>
   obtain⟨t,e⟩:=r1
   subst e
   exact .cons n t (ih r2)
section
variable {X:Cx}{e:Expr}{te:TE}{lo hi:Option Expr}{tl th:TO}{pos p2:Pos}
theorem po_none:PO X none tNoPart:=by
 intro pins s σ H Q I h
 rw[evalPart_none]
 exact wpAny_pure ⟨none,H,I,.none,h⟩
def SlR (X:Cx)(r:V->Option Int->Option Int->Hp->VK->Prop):Prop :=
 ∀ (pins:List (Addr×Obj)) (s:Shared) (σ:St) (H:Hp) (x:V) (v vl vu:Value) (lo hi:Option Int) (sl:Addr) (Q:VK),Inv X pins σ H s->RelV x v->s.heap.IsSliceOf sl vl vu .none->IsPart vl lo->IsPart vu hi->r x lo hi H Q ->
  ∃ T id,typeLookup (.type T) "__getitem__"=pure (some (.builtin id))/\s.TypeIs v T/\wpAny (model X.prog X.w) X.A (getItem v (.ref sl)) (EP X pins σ Q) X.xe s
def tSl (r:V->Option Int->Option Int->Hp->VK->Prop)(te:TE)(tl th:TO):TE:=λσ H Q=>te σ H λx H1=>tl σ H1 λl H2=>th σ H2 λu H3=>r x l u H3 Q
theorem pe_slice {r:V->Option Int->Option Int->Hp->VK->Prop}(hr:SlR X r)(he:PE X e te)(hl:PO X lo tl)(hu:PO X hi th):PE X (.Subscript e (.Slice lo hi none p2) pos) (tSl r te tl th):=by
 intro pins s σ H Q I h
 refine Subscript_ (thn (he pins s σ H _ I h) λv s1 ⟨x,H1,I1,r1,q1⟩=>?_)
 refine wpAny_Slice (thn (hl pins s1 σ H1 _ I1 q1) λvl s2 ⟨l,H2,I2,pl,q2⟩=>thn (hu pins s2 σ H2 _ I2 q2) λvu s3 ⟨u,H3,I3,pu,q3⟩=>?_)
 rw[evalPart_none]
 refine wpAny_pure ?_
 have I4:Inv X pins σ H3 { s3 with heap:=s3.heap.push { cls:=.type "slice",data:=.fields #[vl,vu,.none] } }:=I3.kept (t':=s3.toks) λb ob q=>Heap.get?_push_of_some _ q
 obtain⟨T,id,hT,ht,hg⟩:=hr pins { s3 with heap:=s3.heap.push { cls:=.type "slice",data:=.fields #[vl,vu,.none] } } σ H3 x v vl vu l u s3.heap.objs.size Q I4 r1 (Heap.IsSliceOf.new ..) pl pu q3
 show wpAny (model X.prog X.w) X.A (subscriptTail e (.Slice lo hi none p2) v (.ref s3.heap.objs.size)) (EP X pins σ Q) X.xe { s3 with heap:=s3.heap.push { cls:=.type "slice",data:=.fields #[vl,vu,.none] } }
 exact tail_any (ops:=[.ref s3.heap.objs.size,v]) ht hT hg (by with_unfolding_all rfl)
def cutV (xs:List V)(lo hi:Option Int):List V:=(xs.drop (HT.sIx xs.length 0 lo)).take (HT.sIx xs.length xs.length hi-HT.sIx xs.length 0 lo)
theorem cutV_length (xs:List V)(lo hi:Option Int):(cutV xs lo hi).length<=xs.length:=by
 unfold cutV
 rw[List.length_take,List.length_drop]
 omega
end
end L2
namespace L2
open PySem PySem.Spec PyProof.Rows
def ixN (n:Nat)(i:Int):Option Nat:=if 0<=i then (if i<n then some i.toNat else none) else if -(n:Int)<=i then some (i+n).toNat else none
def atI {α:Type}(xs:List α)(i:Int):Option α:=(ixN xs.length i).bind λj=>xs[j]?
theorem ixN_seq {n:Nat}{i:Int}{j:Nat}(h:ixN n i=some j):seqIndex? i n=some j/\j<n/\-(n:Int)<=i/\i<n:=by
 unfold ixN at h
 by_cases h0:0<=i
 ·rw[if_pos h0] at h
  by_cases h1:i<n
  ·rw[if_pos h1] at h
   have e:i.toNat=j:=Option.some.inj h
   exact⟨by rw[seqIndex_of h0 h1,e],by omega,by omega,h1⟩
  ·rw[if_neg h1] at h;cases h
 ·rw[if_neg h0] at h
  by_cases h1:-(n:Int)<=i
  ·rw[if_pos h1] at h
   have e:(i+n).toNat=j:=Option.some.inj h
   exact⟨by rw[seqIndex_neg (by omega) h1,e],by omega,h1,by omega⟩
  ·rw[if_neg h1] at h;cases h
theorem atI_get {α:Type}{xs:List α}{i:Int}{v:α}(h:atI xs i=some v):∃ j,seqIndex? i xs.length=some j/\xs[j]?=some v/\j<xs.length/\-(xs.length:Int)<=i/\i<xs.length:=by
 unfold atI at h
 cases e:ixN xs.length i with
 | none=>rw[e] at h;cases h
 | some j =>
  rw[e] at h
  obtain⟨h1,h2,h3,h4⟩:=ixN_seq e
  exact⟨j,h1,h,h2,h3,h4⟩
theorem atI_nat {α:Type}{xs:List α}{j:Nat}{v:α}(h:xs[j]?=some v):atI xs (j:Int)=some v:=by
 have hj:j<xs.length:=(List.getElem?_eq_some_iff.mp h).1
 have e:ixN xs.length (j:Int)=some j:=by
  unfold ixN
  rw[if_pos (by omega),if_pos (by omega)];simp
 unfold atI;rw[e];exact h
theorem atI_last {α:Type}(xs:List α)(v:α):atI (xs++[v]) (-1)=some v:=by
 have hl:(xs++[v]).length=xs.length+1:=by simp
 have e:ixN (xs++[v]).length (-1)=some xs.length:=by
  unfold ixN
  rw[hl,if_neg (by decide),if_pos (by omega)]
  congr 1
  omega
 unfold atI
 rw[e]
 show (xs++[v])[xs.length]?=some v
 simp
def PlainIx (b:Expr):Prop:=∀ o i,subscripted b false o i=operate [o,i] (getItem o i)
def IxR (X:Cx)(r:R2):Prop :=
 ∀ (value slice:Expr) (pins:List (Addr×Obj)) (s:Shared) (σ:St) (H:Hp) (x y:V) (v u:Value) (Q:VK),Inv X pins σ H s->RelV x v->RelV y u->r x y H Q ->
  subscripted slice false v u=operate [v,u] (getItem v u)->wpAny (model X.prog X.w) X.A (subscriptTail value slice v u) (EP X pins σ Q) X.xe s
def MtR (X:Cx)(id:String)(r:V->List V->Hp->VK->Prop):Prop :=
 ∀ (pins:List (Addr×Obj)) (s:Shared) (σ:St) (H:Hp) (x:V) (xs:List V) (v:Value) (us:List Value) (Q:VK),Inv X pins σ H s->RelV x v->Vals xs us->r x xs H Q ->
  wpAny (model X.prog X.w) X.A (call (.builtin id) (v::us)) (EP X pins σ Q) X.xe s
section
variable {X:Cx}{a b:Expr}{ta tb:TE}{pos:Pos}
theorem pe_ix {r:R2}(hr:IxR X r)(ha:PE X a ta)(hb:PE X b tb)(hs:PlainIx b):PE X (.Subscript a b pos) (tOp r ta tb):=by
 intro pins s σ H Q I h
 exact Subscript_ (binT ha hb I h λv u s2 x y H2 I2 rx ry q=>hr a b pins s2 σ H2 x y v u Q I2 rx ry q (hs _ _))
def rIxL (K:W.Frag):R2:=λx y H Q=>∃ p xs i v,x=.ref p/\y=.int i/\SqL K H p xs/\atI xs i=some v/\Q v H
def rIxT (K:W.Frag):R2:=λx y H Q=>∃ p xs i v,x=.ref p/\y=.int i/\SqT K H p xs/\atI xs i=some v/\Q v H
theorem ix_list:IxR X (rIxL X.K):=by
 intro value slice pins s σ H x y v u Q I rx ry h hs
 obtain⟨p,xs,i,z,rfl,rfl,hq,he,q⟩:=h
 cases rx
 obtain⟨t,rfl⟩:=ry
 obtain⟨its,r,pl,hz⟩:=I.list hq
 obtain⟨j,h1,h2,h3,h4,h5⟩:=atI_get he
 obtain⟨w,ew,rw'⟩:=r.get h2
 have hl:=r.length
 have hn:=line63
 have fin:EP X pins σ Q w s:=⟨z,H,I,rw',q⟩
 by_cases h0:0<=i
 ·have hj:i.toNat=j:=by
   rw[seqIndex_of h0 h5] at h1
   exact Option.some.inj h1
  exact item_listR pl.isList h0 (by omega) (by rw[hj];simpa using ew) fin hs
 ·have hj:(i+(its.toArray.size:Int)).toNat=j:=by
   rw[seqIndex_neg (by omega) h4] at h1
   rw[List.size_toArray,<- hl]
   exact Option.some.inj h1
  exact subscriptTail_builtinR (x:=w) pl.isList.typeIs slot_list_getitem.lookup
   (wpAny_getItem_list_neg (Q:=λr s'=>r=w/\EP X pins σ Q r s') pl.isList (by omega) (by rw[List.size_toArray]<;>omega) (by omega) (by rw[hj];simpa using ew) ⟨rfl,fin⟩) hs
theorem ix_tup:IxR X (rIxT X.K):=by
 intro value slice pins s σ H x y v u Q I rx ry h hs
 obtain⟨p,xs,i,z,rfl,rfl,hq,he,q⟩:=h
 cases rx
 obtain⟨t,rfl⟩:=ry
 obtain⟨its,r,pl,hz⟩:=I.tuple hq
 obtain⟨j,h1,h2,h3,h4,h5⟩:=atI_get he
 obtain⟨w,ew,rw'⟩:=r.get h2
 have hl:=r.length
 have hn:=line63
 have fin:EP X pins σ Q w s:=⟨z,H,I,rw',q⟩
 exact subscriptTail_builtinR (x:=w) pl.typeIs slot_tuple_getitem.lookup
  (getItem_tuple (j:=j) (Q:=λr s'=>r=w/\EP X pins σ Q r s') pl (by omega) (by omega) (by rw[List.size_toArray,<- hl];exact h1) (by simpa using ew) ⟨rfl,fin⟩) hs
theorem mapSeq_set (its:List Value)(n j:Nat)(u:Value):Obj.mapSeq (·.setIfInBounds j u) { cls:=.type "list",data:=.seq its.toArray n }={ cls:=.type "list",data:=.seq (its.set j u).toArray n }:=by
 simp[Obj.mapSeq]
theorem Inv.lst {pins:List (Addr×Obj)}{σ:St}{H:Hp}{s:Shared}{p:Addr}{xs:List V}(I:Inv X pins σ H s)(h:H p=some (.lst xs)) :
  ∃ (its:List Value) (n:Nat),Vals xs its/\s.heap.get? p=some { cls:=.type "list",data:=.seq its.toArray n }/\xs.length<=sizeLine:=by
 obtain⟨z,its,n,r,e⟩:=I.hok p _ h
 exact⟨its,n,r,e,z⟩
theorem Inv.lstUpd {pins:List (Addr×Obj)}{σ:St}{H:Hp}{s:Shared}{p:Addr}{xs ys:List V}{its its':List Value}{n n':Nat}{f:Obj->Obj}(I:Inv X pins σ H s)(h:H p=some (.lst xs))
  (ho:s.heap.get? p=some { cls:=.type "list",data:=.seq its.toArray n }) (hf:f { cls:=.type "list",data:=.seq its.toArray n }={ cls:=.type "list",data:=.seq its'.toArray n' }) (r:Vals ys its') (hz:ys.length<=sizeLine) (t:Nat) :
  Inv X pins σ (upd H p (.lst ys)) { s with heap:=s.heap.update p f,toks:=t }:=by
 have e:(s.heap.update p f).get? p=some { cls:=.type "list",data:=.seq its'.toArray n' }:=by
  rw[Heap.get?_update_self f ho (by rw[hf]<;>rfl),hf]
 refine I.write (x:=p) (e:=p) (by rw[h];trivial) (.inl rfl) (λb u hb q=>(Heap.get?_update_other _ _ (Ne.symm hb)).trans q) ⟨_,e⟩ ?_
 exact⟨hz,its',n',r,e⟩
def rSetL:V->V->V->Hp->(Hp->Prop)->Prop:=λo i v H Q=>∃ p xs k j,o=.ref p/\i=.int k/\H p=some (.lst xs)/\ixN xs.length k=some j/\Q (upd H p (.lst (xs.set j v)))
theorem set_list:PSet X rSetL:=by
 intro pins s σ H o i v ov iv u Q I ro ri rv h
 obtain⟨p,xs,k,j,rfl,rfl,hp,hj,q⟩:=h
 cases ro
 obtain⟨t,rfl⟩:=ri
 obtain⟨its,n,r,ho,hz⟩:=I.lst hp
 obtain⟨h1,h2,h3,h4⟩:=ixN_seq hj
 have hl:=r.length
 have hn:=line63
 have I':Inv X pins σ (upd H p (.lst (xs.set j v))) { s with heap:=s.heap.update p (Obj.mapSeq (·.setIfInBounds j u)) } :=
  I.lstUpd hp ho (mapSeq_set its n j u) (r.set rv j) (by rw[List.length_set];exact hz) s.toks
 by_cases h0:0<=k
 ·have hk:k.toNat=j:=by
   rw[seqIndex_of h0 h4] at h1
   exact Option.some.inj h1
  exact W.ki_setAt ho h0 (by omega) (by rw[List.size_toArray,<- hl];exact h4) (by rw[hk];exact⟨_,I',q⟩)
 ·have hk:(k+(its.toArray.size:Int)).toNat=j:=by
   rw[seqIndex_neg (by omega) h3] at h1
   rw[List.size_toArray,<- hl]
   exact Option.some.inj h1
  exact W.ki_setBack ho (by omega) (by rw[List.size_toArray,<- hl];exact h3) (by omega) (by rw[hk];exact⟨_,I',q⟩)
theorem slice_bounds (lo hi:Option Int)(n:Nat):(sliceBounds lo hi none n).1=((HT.sIx n 0 lo:Nat):Int)/\(sliceBounds lo hi none n).2.1=((HT.sIx n n hi:Nat):Int)/\(sliceBounds lo hi none n).2.2=1:=by
 refine⟨?_,?_,rfl⟩
 ·cases lo with
  | none=>simp[sliceBounds,HT.sIx]
  | some i =>
   simp only[sliceBounds,HT.sIx,Option.getD_none,show (1:Int) > 0 by decide,if_true]
   by_cases h:i<0
   ·simp only[h,if_true]<;>omega
   ·simp only[h,if_false]<;>omega
 ·cases hi with
  | none=>simp[sliceBounds,HT.sIx]
  | some i =>
   simp only[sliceBounds,HT.sIx,Option.getD_none,show (1:Int) > 0 by decide,if_true]
   by_cases h:i<0
   ·simp only[h,if_true]<;>omega
   ·simp only[h,if_false]<;>omega
theorem slicePick_cut (its:List Value)(lo hi:Option Int):slicePick its.toArray lo hi none=((its.drop (HT.sIx its.length 0 lo)).take (HT.sIx its.length its.length hi-HT.sIx its.length 0 lo)).toArray:=by
 obtain⟨h1,h2,h3⟩:=slice_bounds lo hi its.toArray.size
 unfold slicePick
 rw[h1,h2,h3]
 simp only[sliceRange_one,pick_run,List.size_toArray]<;>rfl
def rSlL (K:W.Frag):V->Option Int->Option Int->Hp->VK->Prop:=λx lo hi H Q=>∃ a xs,x=.ref a/\SqL K H a xs/\∀ p,H p=none->Q (.ref p) (upd H p (.lst (cutV xs lo hi)))
theorem sl_list:SlR X (rSlL X.K):=by
 intro pins s σ H x v vl vu lo hi sl Q I rx hs pl pu h
 obtain⟨a,xs,rfl,hx,q⟩:=h
 cases rx
 obtain⟨its,r,ht,hz⟩:=I.list hx
 have hlen:=r.length
 refine⟨"list",_,slot_list_getitem.lookup,ht.isList.typeIs,?_⟩
 refine wpAny_getItem_list_slice ht.isList hs pl pu .none (by simp) ?_ (by rw[List.size_toArray]<;>omega)
 rw[slicePick_cut,<- hlen]
 refine⟨.ref s.heap.objs.size,_,I.laid (t':=s.toks) (o:=.lst (cutV xs lo hi)) (λb ob q=>Heap.get?_push_of_some _ q) (Nat.le_refl _) ?_,rfl,q _ (I.hok.fresh (Nat.le_refl _))⟩
 exact⟨Nat.le_trans (cutV_length xs lo hi) hz,_,0,(r.drop (HT.sIx xs.length 0 lo)).take (HT.sIx xs.length xs.length hi-HT.sIx xs.length 0 lo),Heap.get?_push_size _ rfl⟩
theorem call_len_seq:CallR X (.builtin "len") (λxs H Q=>∃ p ys,xs=[.ref p]/\(SqL X.K H p ys\/SqT X.K H p ys)/\Q (.int ys.length) H):=by
 intro pins s σ H xs us Q I r h
 obtain⟨p,ys,rfl,hq,q⟩:=h
 obtain⟨u,rfl,rx⟩:=vals1 r
 cases rx
 have hn:=line63
 rcases hq with hq | hq
 ·obtain⟨its,r',pl,hz⟩:=I.list hq
  have hlen:=r'.length
  exact Calls.call_len_list pl.isList (by simp only[List.size_toArray]<;>omega) ⟨.int ys.length,H,I.tok _,⟨s.toks+1,by rw[List.size_toArray,hlen]⟩,q⟩
 ·obtain⟨its,r',pl,hz⟩:=I.tuple hq
  have hlen:=r'.length
  exact len_tuple pl (by simp only[List.size_toArray]<;>omega) ⟨.int ys.length,H,I.tok _,⟨s.toks+1,by rw[List.size_toArray,hlen]⟩,q⟩
theorem CallR.or {f:Value}{r r':List V->Hp->VK->Prop}(h:CallR X f r)(h':CallR X f r'):CallR X f (λxs H Q=>r xs H Q\/r' xs H Q):=by
 intro pins s σ H xs us Q I rs q
 rcases q with q | q
 ·exact h pins s σ H xs us Q I rs q
 ·exact h' pins s σ H xs us Q I rs q
theorem call_list_of:CallR X (.type "list") (λxs H Q=>∃ p ys,xs=[.ref p]/\(SqL X.K H p ys\/SqT X.K H p ys)/\∀ l,H l=none->Q (.ref l) (upd H l (.lst ys))):=by
 intro pins s σ H xs us Q I r h
 obtain⟨p,ys,rfl,hq,q⟩:=h
 obtain⟨u,rfl,rx⟩:=vals1 r
 cases rx
 have fin:∀ (its:List Value),Vals ys its->ys.length<=sizeLine->∀ (h':Heap) (c':Nat),(∀ b o',s.heap.get? b=some o'->h'.get? b=some o') ->
   h'.get? s.heap.objs.size=some { cls:=.type "list",dict:=none,data:=.seq its.toArray c',slots:=#[] }->EP X pins σ Q (.ref s.heap.objs.size) { s with heap:=h' }:=λits r' hz h' c' kp e =>
  ⟨.ref s.heap.objs.size,_,I.laid (t':=s.toks) kp (Nat.le_refl _) (show ObjOk X.prog X.w _ h' _ (.lst ys) from ⟨hz,its,c',r',e⟩),rfl,q _ (I.hok.fresh (Nat.le_refl _))⟩
 rcases hq with hq | hq
 ·obtain⟨its,r',pl,hz⟩:=I.list hq
  have hlen:=r'.length
  obtain⟨o,ho,hc,n,hd⟩:=pl.isList
  exact call_list_seq p (.inl rfl) ho hc hd (λh' c' kp e=>fin its r' hz h' c' kp e) (by simp only[List.size_toArray]<;>omega)
 ·obtain⟨its,r',pl,hz⟩:=I.tuple hq
  have hlen:=r'.length
  obtain⟨o,ho,hc,n,hd⟩:=pl
  exact call_list_seq p (.inr rfl) ho hc hd (λh' c' kp e=>fin its r' hz h' c' kp e) (by simp only[List.size_toArray]<;>omega)
def tyV (K:W.Frag)(T:String)(x:V)(H:Hp):Prop:=match x with
 | .str _=>T="str"
 | .int _=>T="int"
 | .ref p=>(T="list"/\∃ xs,SqL K H p xs)\/(T="tuple"/\∃ o,K.lookup p=some o/\o.cls=.type "tuple"/\o.dict=none) \/
   (T="dict"/\((∃ kvs,H p=some (.dK kvs))\/∃ kvs,H p=some (.dT kvs)))\/(T="set"/\∃ S n,H p=some (.set S n))
 | _=>False
theorem tyV_is {pins:List (Addr×Obj)}{σ:St}{H:Hp}{s:Shared}{T:String}{x:V}{v:Value}(I:Inv X pins σ H s)(r:RelV x v)(ty:tyV X.K T x H) :
  s.TypeIs v T/\∀ a,v=.ref a->∃ ob,s.heap.get? a=some ob/\ob.dict=none:=by
 cases x with
 | str z =>
  obtain⟨t,rfl⟩:=r
  cases (show T="str" from ty)
  exact⟨typeIs_str s z t,λ_ e=>nomatch e⟩
 | int i =>
  obtain⟨t,rfl⟩:=r
  cases (show T="int" from ty)
  exact⟨typeIs_int s i t,λ_ e=>nomatch e⟩
 | ref p =>
  cases r
  rcases ty with ⟨rfl,xs,hq⟩ | ⟨rfl,o,hk,hc,hd⟩ | ⟨rfl,hk⟩ | ⟨rfl,S,n,hk⟩
  ·obtain⟨its,_,pl,_⟩:=I.list hq
   refine⟨pl.isList.typeIs,λa e=>?_⟩
   cases e
   obtain⟨o,n,e,c,hd,_⟩:=pl
   exact⟨o,e,hd⟩
  ·refine⟨⟨o,I.kIn p o hk,hc⟩,λa e=>?_⟩
   cases e
   exact⟨o,I.kIn _ o hk,hd⟩
  ·have z:∃ o,s.heap.get? p=some o/\o.ExactDict:=by
    rcases hk with ⟨kvs,hk⟩ | ⟨kvs,hk⟩
    ·obtain⟨_,_,_,_,o,_,_,e,ex,_⟩:=I.hok p _ hk
     exact⟨o,e,ex⟩
    ·obtain⟨_,_,_,_,o,_,_,e,ex,_⟩:=I.hok p _ hk
     exact⟨o,e,ex⟩
   obtain⟨o,e,ex⟩:=z
   refine⟨⟨o,e,ex.1⟩,λa e2=>?_⟩
   cases e2
   exact⟨o,e,ex.2.1⟩
  ·obtain⟨o,_,_,_,e,ex,_⟩:=I.hok p _ hk
   refine⟨⟨o,e,ex.1⟩,λa e2=>?_⟩
   cases e2
   exact⟨o,e,ex.2.1⟩
 | _=>exact False.elim ty
def tBM0 (K:W.Frag)(T:String)(r:V->List V->Hp->VK->Prop)(to:TE):TE:=λσ H Q=>to σ H λx H1=>tyV K T x H1/\r x [] H1 Q
def tBM (K:W.Frag)(T:String)(r:V->List V->Hp->VK->Prop)(to:TE)(t:TA):TE:=λσ H Q=>to σ H λx H1=>tyV K T x H1/\t σ H1 λxs H2=>r x xs H2 Q
variable {o e:Expr}{es:List Expr}{to:TE}{t:TA}{name:Str}{apos cpos:Pos}{T id:String}{r:V->List V->Hp->VK->Prop}
theorem pe_bm0 (pa:PlainAttrs T)(slot:Slot T name id)(hty:typeOf (.builtin id)=pure (.type "method_descriptor"))(hm:MtR X id r)(ho:PE X o to)
  (hbase:attributeBase o name X.env (eval o X.env)=eval o X.env:=by rfl) (hline:(apos.endLine == cpos.line)=true:=by rfl):PE X (.Call (.Attribute o name apos) [] [] cpos) (tBM0 X.K T r to):=by
 intro pins s σ H Q I h
 refine wpAny_Call_method0_late hbase hline (thn (ho pins s σ H _ I h) λv s1 ⟨x,H1,I1,r1,ty,q1⟩=>?_)
 obtain⟨h1,h2⟩:=tyV_is I1 r1 ty
 exact⟨T,id,pa,slot,hty,h1,h2,Calls.callWith_builtin rfl (PySem.evalArgs_none (hm pins s1 σ H1 x [] v [] Q I1 r1 .nil q1))⟩
theorem pe_bm (pa:PlainAttrs T)(slot:Slot T name id)(hty:typeOf (.builtin id)=pure (.type "method_descriptor"))(hm:MtR X id r)(ho:PE X o to)(ha:PA X (e::es) t)
  (hbase:attributeBase o name X.env (eval o X.env)=eval o X.env:=by rfl)
  (hfew:((backTo cpos (starEach (e::es) X.env)).all (λx=>!x.1)&&(backToKw cpos (keywordEach [] X.env)).all (λx=>x.1.isSome)
   && decide ((e::es).length+([]:List Keyword).length+(if ([]:List Keyword).isEmpty then 0 else 1)<30))=true:=by rfl)
  (hline:(apos.endLine == cpos.line)=true:=by rfl) (hs:starEach (e::es) X.env=(false,eval e X.env)::starEach es X.env:=by rfl) (hplain:(backTo cpos (starEach es X.env)).any (·.1)=false:=by rfl) :
  PE X (.Call (.Attribute o name apos) (e::es) [] cpos) (tBM X.K T r to t):=by
 intro pins s σ H Q I h
 refine wpAny_Call_method_late hbase hfew hline rfl (thn (ho pins s σ H _ I h) λv s1 ⟨x,H1,I1,r1,ty,q1⟩=>?_)
 obtain⟨h1,h2⟩:=tyV_is I1 r1 ty
 refine⟨T,id,pa,slot,hty,h1,h2,?_⟩
 have hA:=ha cpos pins s1 σ H1 _ I1 q1
 rw[hs] at hA ⊢
 refine Calls.callWith_builtin (by show (false || (backTo cpos (starEach es X.env)).any (·.1))=false;rw[hplain]<;>rfl) (Calls.evalArgs_plain ?_)
 exact thn hA λus s2 ⟨vs,H2,I2,r2,q2⟩=>hm pins s2 σ H2 x vs v us Q I2 r1 r2 q2
end
end L2
namespace L2
open PySem PySem.Spec PyProof.Rows
def MtM (X:Cx)(id:String)(r:V->List V->Hp->VK->Prop):Prop :=
 ∀ (pins:List (Addr×Obj)) (s:Shared) (σ:St) (H:Hp) (x:V) (xs:List V) (v:Value) (us:List Value) (Q:VK),Inv X pins σ H s->RelV x v->Vals xs us->r x xs H Q ->
  wpAny (model X.prog X.w) X.A (call (.builtin id) (v::us)) (EP X pins σ Q) X.xe s
theorem Vals.one:∀ {x:V} {us:List Value},Vals [x] us->∃ u,us=[u]/\RelV x u
 | _,_,.cons r .nil=>⟨_,rfl,r⟩
theorem Vals.zero:∀ {us:List Value},Vals [] us->us=[]
 | _,.nil=>rfl
theorem Vals.dropLast {xs:List V}{us:List Value}(h:Vals xs us):Vals xs.dropLast us.dropLast:=by
 induction h with
 | nil=>exact .nil
 | cons r t ih =>
  cases t with
  | nil=>exact .nil
  | cons q t'=>exact .cons r ih
theorem Vals.eraseIdx:∀ {xs:List V} {us:List Value} (i:Nat),Vals xs us->Vals (xs.eraseIdx i) (us.eraseIdx i)
 | _,_,_,.nil=>.nil
 | _,_,0,.cons _ t=>t
 | _,_,i+1,.cons r t=>.cons r (Vals.eraseIdx i t)
theorem Vals.rep {xs:List V}{us:List Value}(h:Vals xs us):∀ k:Nat,Vals (List.replicate k xs).flatten (List.replicate k us).flatten
 | 0=>.nil
 | k+1=>by
  rw[List.replicate_succ,List.replicate_succ,List.flatten_cons,List.flatten_cons]
  exact Vals.append h (Vals.rep h k)
theorem erase_last {α:Type}(l:List α):l.eraseIdx (l.length-1)=l.dropLast:=by
 induction l with
 | nil=>rfl
 | cons a r ih =>
  cases r with
  | nil=>rfl
  | cons b r =>
   have e:(a::b::r).length-1=((b::r).length-1)+1:=by
    have h1:(a::b::r).length=r.length+2:=rfl
    have h2:(b::r).length=r.length+1:=rfl
    omega
   rw[e,List.eraseIdx_cons_succ,ih]
   all_goals rfl
theorem len_erase {α:Type}:∀ (l:List α) (i:Nat),(l.eraseIdx i).length<=l.length
 | [],_=>Nat.le_refl _
 | _::_,0=>Nat.le_succ _
 | _::r,i+1=>Nat.succ_le_succ (len_erase r i)
theorem foldl_rep (its:List Value):∀ (k:Nat) (acc:List Value),
  List.foldl (λx1 x2=>x1++x2) acc.toArray (List.replicate k its.toArray)=(acc++(List.replicate k its).flatten).toArray
 | 0,acc=>by simp
 | k+1,acc=>by
  have e:acc.toArray++its.toArray=(acc++its).toArray:=by simp
  have e2:(acc++its)++(List.replicate k its).flatten=acc++(List.replicate (k+1) its).flatten:=by
   rw[List.replicate_succ,List.flatten_cons,List.append_assoc]
  rw[<- e2,<- foldl_rep its k (acc++its),<- e,List.replicate_succ,List.foldl_cons]
section
variable {X:Cx}{pins:List (Addr×Obj)}{σ:St}{H:Hp}{s:Shared}{l b:Addr}{xs ys zs:List V}
theorem Inv.lset {its its':List Value}{n:Nat}{f:Array Value->Array Value}{t':Nat}(I:Inv X pins σ H s)(hH:H l=some (.lst xs))
  (e:s.heap.get? l=some { cls:=.type "list",data:=.seq its.toArray n }) (hf:f its.toArray=its'.toArray) (hv:Vals ys its') (hz:ys.length<=sizeLine) :
  Inv X pins σ (upd H l (.lst ys)) { s with heap:=s.heap.update l (Obj.mapSeq f),toks:=t' }:=by
 have q:=PySem.IsL.update e f
 rw[hf] at q
 refine I.write (x:=l) (e:=l) (by rw[hH];exact trivial) (.inl rfl) (λb' u hb hu=>(Heap.get?_update_other s.heap (Obj.mapSeq f) (Ne.symm hb)).trans hu) ⟨_,q⟩ ?_
 exact⟨hz,its',_,hv,q⟩
theorem Inv.lnew {its:List Value}{t':Nat}(I:Inv X pins σ H s)(hv:Vals ys its)(hz:ys.length<=sizeLine) :
  Inv X pins σ (upd H s.heap.objs.size (.lst ys)) { s with heap:=s.heap.push { cls:=.type "list",data:=.seq its.toArray },toks:=t' } :=
 I.laid (λ_ _ q=>Heap.get?_push_of_some _ q) (Nat.le_refl _) ⟨hz,its,0,hv,Heap.get?_push_size _ rfl⟩
theorem Inv.fresh (I:Inv X pins σ H s):H s.heap.objs.size=none:=I.hok.fresh (Nat.le_refl _)
theorem Inv.lstM (I:Inv X pins σ H s)(hH:H l=some (.lst xs)):xs.length<=sizeLine/\∃ (its:List Value) (n:Nat),Vals xs its/\xs.length=its.length/\s.heap.get? l=some { cls:=.type "list",data:=.seq its.toArray n }:=by
 obtain⟨z,its,n,r,e⟩:=I.hok l _ hH
 exact⟨z,its,n,r,r.length,e⟩
theorem notLongL {n:Nat}(h:n<=sizeLine):Builtin.List.listTooLong n=false:=by
 unfold Builtin.List.listTooLong
 exact decide_eq_false (by omega)
end
section
variable {X:Cx}
def rAppend:V->List V->Hp->VK->Prop:=λx vs H Q=>∃ l xs y,x=.ref l/\vs=[y]/\H l=some (.lst xs)/\xs.length<sizeLine/\Q .non (upd H l (.lst (xs++[y])))
theorem mt_append:MtM X "list.append" rAppend:=by
 intro pins s σ H x vs v us Q I rx rv h
 obtain⟨l,xs,y,rfl,rfl,hH,hz,q⟩:=h
 cases rx
 obtain⟨u,rfl,ru⟩:=rv.one
 obtain⟨z,its,n,r,hl,e⟩:=I.lstM hH
 refine call_meets F.slot_list_append ⟨_,e,rfl⟩ F.entry_list_append (F.args_list_append_2 _ _) (PySem.list_append l its.toArray n u (by rw[List.size_toArray];omega)) ⟨e,?_⟩
 refine⟨.non,_,I.lset (its':=its++[u]) hH e (by simp) (r.append (.cons ru .nil)) ?_,rfl,q⟩
 rw[List.length_append,List.length_singleton]
 omega
def rExtend:V->List V->Hp->VK->Prop:=λx vs H Q=>∃ l b xs zs,x=.ref l/\vs=[.ref b]/\H l=some (.lst xs)/\H b=some (.lst zs)/\xs.length+zs.length<=sizeLine/\Q .non (upd H l (.lst (xs++zs)))
theorem mt_extend:MtM X "list.extend" rExtend:=by
 intro pins s σ H x vs v us Q I rx rv h
 obtain⟨l,b,xs,zs,rfl,rfl,hH,hB,hz,q⟩:=h
 cases rx
 obtain⟨u,rfl,ru⟩:=rv.one
 cases ru
 obtain⟨z,its,n,r,hl,e⟩:=I.lstM hH
 obtain⟨z2,its2,n2,r2,hl2,e2⟩:=I.lstM hB
 have hsz:its.toArray.size+its2.toArray.size<=sizeLine:=by rw[List.size_toArray,List.size_toArray];omega
 have hlong:¬ (!its.toArray.isEmpty&&Builtin.List.listTooLong (its.toArray.size+its2.toArray.size))=true:=by
  rw[notLongL hsz,Bool.and_false]
  exact Bool.false_ne_true
 refine call_meets F.slot_list_extend ⟨_,e,rfl⟩ F.entry_list_extend (F.args_list_extend_2 _ _)
  (AutoSeq1.list_extend_list_list_0 l its.toArray n b its2.toArray n2 hlong (by rw[List.size_toArray];omega) (by omega)) ⟨e,e2,?_⟩
 refine⟨.non,_,I.lset (its':=its++its2) hH e (by simp) (r.append r2) ?_,rfl,q⟩
 rw[List.length_append]
 omega
def rPop:V->List V->Hp->VK->Prop:=λx vs H Q=>∃ l xs y,x=.ref l/\vs=[]/\H l=some (.lst xs)/\xs[xs.length-1]?=some y/\Q y (upd H l (.lst xs.dropLast))
theorem mt_pop:MtM X "list.pop" rPop:=by
 intro pins s σ H x vs v us Q I rx rv h
 obtain⟨l,xs,y,rfl,rfl,hH,hy,q⟩:=h
 cases rx
 have hus:=rv.zero
 subst hus
 obtain⟨z,its,n,r,hl,e⟩:=I.lstM hH
 obtain⟨u,hu,ru⟩:=r.get hy
 have hy':its.toArray[its.toArray.size-1]?=some u:=by
  show its.toArray[its.length-1]?=some u
  rw[<- Array.getElem?_toList,<- hl]
  exact hu
 refine call_meets F.slot_list_pop ⟨_,e,rfl⟩ F.entry_list_pop (F.args_list_pop_1 _) (MeetsSeq.list_pop_last l its.toArray n u hy' (by rw[List.size_toArray];omega)) ⟨e,?_⟩
 refine⟨y,_,I.lset (its':=its.dropLast) hH e ?_ r.dropLast ?_,ru,q⟩
 ·show its.toArray.eraseIdxIfInBounds (its.toArray.size-1)=its.dropLast.toArray
  rw[List.size_toArray,List.eraseIdxIfInBounds_toArray,erase_last]
 ·rw[List.length_dropLast]
  omega
def rPopAt:V->List V->Hp->VK->Prop:=λx vs H Q=>∃ l xs i k y,x=.ref l/\vs=[.int i]/\H l=some (.lst xs)/\-(2 ^ 63)<=i/\i<2 ^ 63/\seqIndex? i xs.length=some k/\xs[k]?=some y/\Q y (upd H l (.lst (xs.eraseIdx k)))
theorem mt_popAt:MtM X "list.pop" rPopAt:=by
 intro pins s σ H x vs v us Q I rx rv h
 obtain⟨l,xs,i,k,y,rfl,rfl,hH,h1,h2,hk,hy,q⟩:=h
 cases rx
 obtain⟨u,rfl,ru⟩:=rv.one
 obtain⟨t,rfl⟩:=ru
 obtain⟨z,its,n,r,hl,e⟩:=I.lstM hH
 obtain⟨w,hw,rw'⟩:=r.get hy
 refine call_meets F.slot_list_pop ⟨_,e,rfl⟩ F.entry_list_pop (F.args_list_pop_2 _ _)
  (MeetsSeq.list_pop_at l its.toArray n i t k w (fitsIndex_both h1 h2) (by rw[List.size_toArray,<- hl];exact hk) (by rw[<- Array.getElem?_toList];exact hw) (by rw[List.size_toArray];omega)) ⟨e,?_⟩
 refine⟨y,_,I.lset (its':=its.eraseIdx k) hH e ?_ (r.eraseIdx k) ?_,rw',q⟩
 ·show its.toArray.eraseIdxIfInBounds k=(its.eraseIdx k).toArray
  rw[List.eraseIdxIfInBounds_toArray]
 ·have:=len_erase xs k
  omega
def rCat:R2:=λx y H Q=>∃ l b xs zs,x=.ref l/\y=.ref b/\H l=some (.lst xs)/\H b=some (.lst zs)/\xs.length+zs.length<=sizeLine/\∀ p,H p=none->Q (.ref p) (upd H p (.lst (xs++zs)))
theorem op_cat:OpR X (binaryOp .Add) rCat:=by
 intro pins s σ H x y v u Q I rx ry h
 obtain⟨l,b,xs,zs,rfl,rfl,hH,hB,hz,q⟩:=h
 cases rx
 cases ry
 obtain⟨z,its,n,r,hl,e⟩:=I.lstM hH
 obtain⟨z2,its2,n2,r2,hl2,e2⟩:=I.lstM hB
 refine PySem.P.add_list e e2 ?_ (by rw[List.size_toArray,List.size_toArray];omega)
 have ea:its.toArray++its2.toArray=(its++its2).toArray:=by simp
 rw[ea]
 exact⟨.ref _,_,I.lnew (t':=s.toks) (r.append r2) (by rw[List.length_append];omega),rfl,q _ I.fresh⟩
def rRep:R2:=λx y H Q=>∃ l k xs,x=.ref l/\y=.int k/\H l=some (.lst xs)/\-(2 ^ 63)<=k/\k<2 ^ 63/\xs.length*k.toNat<=sizeLine /\
 ∀ p,H p=none->Q (.ref p) (upd H p (.lst (List.replicate k.toNat xs).flatten))
theorem len_rep {α:Type}(xs:List α)(k:Nat):(List.replicate k xs).flatten.length=k*xs.length:=by
 induction k with
 | zero=>simp
 | succ k ih=>rw[List.replicate_succ,List.flatten_cons,List.length_append,ih,Nat.succ_mul,Nat.add_comm]
theorem op_rep:OpR X (binaryOp .Mult) rRep:=by
 intro pins s σ H x y v u Q I rx ry h
 obtain⟨l,k,xs,rfl,rfl,hH,h1,h2,hz,q⟩:=h
 cases rx
 obtain⟨t,rfl⟩:=ry
 obtain⟨z,its,n,r,hl,e⟩:=I.lstM hH
 have hlen:its.toArray.size*k.toNat<=sizeLine:=by rw[List.size_toArray,<- hl];exact hz
 have hcap:¬ its.toArray.size*k.toNat > (2 ^ 63-1) / 8:=by
  have:(sizeLine:Nat)<=(2 ^ 63-1) / 8:=by decide
  omega
 have hfit:¬ (!Builtin.List.listFitsIndex k)=true:=by
  rw[fitsIndex_both h1 h2]
  exact Bool.false_ne_true
 have hlong:¬ Builtin.List.listTooLong (its.toArray.size*k.toNat)=true:=by
  rw[notLongL hlen]
  exact Bool.false_ne_true
 have hnew:List.foldl (λx1 x2=>x1++x2) #[] (List.replicate (if its.toArray.isEmpty=true then 0 else k.toNat) its.toArray)=(List.replicate k.toNat its).flatten.toArray:=by
  have f0:∀ m:Nat,List.foldl (λx1 x2=>x1++x2) #[] (List.replicate m its.toArray)=(List.replicate m its).flatten.toArray:=λm=>by
   have:=foldl_rep its m []
   rw[List.nil_append] at this
   exact this
  rw[f0]
  cases its with
  | nil=>simp
  | cons a r'=>rw[if_neg (by simp)]
 refine wpAny_binaryOp_repeat_ref (T:="list") (U:="int") (by decide) ⟨_,e,rfl⟩ (λs'=>typeIs_int s' k t) noFill_list_mul F.fills_int_mul F.slot_int_rmul repeat_list F.slot_int_index.lookup
  (call_meets F.slot_int_rmul (typeIs_int s k t) F.entry_int_rmul (F.args_int_rmul_2 _ _) (int___rmul___int_list k t l its.toArray n)
   ⟨e,rfl,⟨_,e,rfl⟩,call_meets F.slot_list_mul ⟨_,e,rfl⟩ F.entry_list_mul (F.args_list_mul_2 _ _) (AutoListH.list___mul___list_int_3 l its.toArray n k t hfit hcap hlong) ⟨e,?_⟩⟩)
 rw[hnew]
 exact⟨.ref _,_,I.lnew (t':=s.toks) (r.rep k.toNat) (by rw[len_rep,Nat.mul_comm];exact hz),rfl,q _ I.fresh⟩
end
section
variable {prog:Program}{w:World}{A:Around}{E:Value->Shared->Prop}{s:Shared}
theorem splice_eq (its its2 : List Value) (a c : Nat) : its.toArray.extract 0 a ++ its2.toArray ++ its.toArray.extract c its.toArray.size = (its.take a ++ its2 ++ its.drop c).toArray := by
  apply Array.toList_inj.mp
  first
    | (simp
       exact List.take_of_length_le (by simp))
    | simp [List.take_of_length_le]
    | simp
theorem bounds_run {a c n:Nat}(hac:a<=c)(hc:c<=n):sliceBounds (some (a:Int)) (some (c:Int)) none n=((a:Int),(c:Int),1):=by
 simp only[sliceBounds,Option.getD_none]
 have h1:¬ ((a:Int)<0):=by omega
 have h2:¬ ((c:Int)<0):=by omega
 simp only[h1,h2,if_false,show (1:Int) > 0 by decide,if_true]
 congr 1
 ·omega
 ·congr 1;omega
set_option maxRecDepth 100000 in
theorem setItem_slice {l b sl : Addr} {items new : Array Value} {n n2 : Nat} {vl vu : Value} {a c : Nat} {Q : Unit → Shared → Prop}
    (e : s.heap.get? l = some { cls := .type "list", data := .seq items n }) (e2 : s.heap.get? b = some { cls := .type "list", data := .seq new n2 }) (hne : l ≠ b)
    (hs : s.heap.IsSliceOf sl vl vu .none) (pl : IsPart vl (some (a : Int))) (pu : IsPart vu (some (c : Int))) (hac : a ≤ c) (hc : c ≤ items.size)
    (hsz : items.size + new.size ≤ sizeLine) (h : Q () { s with heap := s.heap.update l (Obj.mapSeq fun xs => xs.extract 0 a ++ new ++ xs.extract c xs.size) }) :
    wpAny (model prog w) A (setItem (.ref l) (.ref sl) (.ref b)) Q E s := by
  have hl : s.heap.IsList l items := PySem.IsL.isList e
  have hb : s.heap.IsList b new := PySem.IsL.isList e2
  obtain ⟨os, hos, hcs, hds⟩ := id hs
  have hTs : s.TypeIs (.ref sl) "slice" := ⟨os, hos, hcs⟩
  have hstep : ¬ ((rawPart none == rawInt 0) = true) := Bool.false_ne_true
  have hsame : Builtin.List.listSameRef (.ref l) (.ref b) = false := by
    unfold Builtin.List.listSameRef
    exact beq_eq_false_iff_ne.mpr hne
  have hmax : (max (a : Int) (c : Int)).toNat = c := by omega
  have hz' : ((fun xs : Array Value => xs.extract 0 a ++ new ++ xs.extract c xs.size) items).size ≤ sizeLine + 1 := by
    simp only [Array.size_append, Array.size_extract]
    omega
  unfold setItem
  try with_reducible refine wpAny_holding ?_
  first | refine wpAny_bind (wpAny_pure ?_) | skip
  refine wpAny_bind (wpAny_sequenceKey hl.typeIs (by decide) ?_)
  refine wpAny_bind (wpAny_callSpecial?_slot (name := Str.ofString "__setitem__") hl.typeIs slot_list_setitem
    (wpAny_call_entry slot_list_setitem hl.typeIs entry_list_setitem ?_ (args_list_setitem _ _ _)))
  show wpAny _ _ (Builtin.List.listSubscript? (.ref sl) >>= _) _ _ s
  refine wpAny_bind ?_
  unfold Builtin.List.listSubscript?
  refine wpAny_bind (wpAny_specialOf hTs slice_no_index ?_)
  simp only [Option.isNone_none, if_true]
  refine wpAny_pure ?_
  show wpAny _ _ (typeOf (.ref sl) >>= _) _ _ s
  refine wpAny_bind (wpAny_typeOf hTs ?_)
  first
    | rw [if_neg (by decide)]
    | refine PySem.W.KFB.if_not (by decide) ?_
  rw [listSliceParts_eq]
  refine wpAny_bind (wpAny_bind (wpAny_field hos hds (x := .none) rfl (wpAny_bind (wpAny_listPart .none ?_))))
  rw [if_neg hstep]
  refine wpAny_bind (wpAny_field hos hds (x := vl) rfl (wpAny_bind (wpAny_listPart pl ?_)))
  refine wpAny_bind (wpAny_field hos hds (x := vu) rfl (wpAny_bind (wpAny_listPart pu (wpAny_pure ?_))))
  first
    | simp only [hsame, Bool.false_eq_true, if_false]
    | refine PySem.W.KFB.if_not hsame ?_
    | (dsimp only
       rw [if_neg (by rw [hsame]; exact Bool.false_ne_true)])
  refine wpAny_bind (m := Builtin.List.listAllItems (.ref b) "must assign iterable to extended slice") ?_
  unfold Builtin.List.listAllItems
  refine wpAny_bind (wpAny_typeOf hb.typeIs ?_)
  first
    | refine PySem.W.KFB.if_so (by decide) ?_
    | rw [if_pos (by decide)]
    | simp only [beq_self_eq_true, Bool.true_or, if_true]
  unfold Builtin.List.listItems
  refine wpAny_bind (wpAny_seqItems e2 rfl (wpAny_pure ?_))
  refine wpAny_bind (wpAny_bind (wpAny_seqItems e rfl (wpAny_pure ?_)))
  refine wpAny_bind (wpAny_of_eq ((sliceIndices_raw (some (a : Int)) (some (c : Int)) none items.size (by simp)).trans (congrArg (pure : Int × Int × Int → Sem (Int × Int × Int)) (bounds_run hac hc))) ?_)
  show wpAny _ _ (if ((1 : Int) == 1) = true then _ else _) _ _ s
  rw [if_pos (by decide)]
  refine wpAny_bind (wpAny_rule ?_)
  first
    | simp only [notLongL hsz, Bool.false_eq_true, if_false]
    | refine PySem.W.KFB.if_not (notLongL hsz) ?_
  first | refine wpAny_bind (wpAny_pure ?_) | skip
  show wpAny _ _ (updateSeq l (fun xs => xs.extract 0 ((a : Int)).toNat ++ new ++ xs.extract (max (a : Int) (c : Int)).toNat xs.size) >>= _) _ _ s
  rw [hmax, Int.toNat_natCast]
  refine wpAny_bind (wpAny_updateSeq (hz := Nat.le_trans (Nat.le_add_right _ _) hsz) (_hz' := hz') e rfl ?_)
  refine wpAny_bind (wpAny_letGo ?_)
  first
    | exact wpAny_bind (wpAny_pure (wpAny_pure ⟨.none, rfl, wpAny_pure h⟩))
    | exact wpAny_pure ⟨.none, rfl, wpAny_pure h⟩
end
section
variable {X:Cx}
theorem set_slice {pins:List (Addr×Obj)}{s:Shared}{σ:St}{H:Hp}{l b sl:Addr}{xs ys:List V}{a c:Int}{vl vu:Value}{Q:Unit->Shared->Prop}(I:Inv X pins σ H s)
  (hH:H l=some (.lst xs)) (hB:H b=some (.lst ys)) (hne:l≠b) (hs:s.heap.IsSliceOf sl vl vu .none) (ra:RelV (.int a) vl) (rc:RelV (.int c) vu) (h0:0<=a) (hac:a<=c) (hc:c<=xs.length)
  (hz:xs.length+ys.length<=sizeLine) (h:∀ s',Inv X pins σ (upd H l (.lst (xs.take a.toNat++ys++xs.drop c.toNat))) s'->Q () s') :
  wpAny (model X.prog X.w) X.A (setItem (.ref l) (.ref sl) (.ref b)) Q X.xe s:=by
 obtain⟨ta,rfl⟩:=ra
 obtain⟨tc,rfl⟩:=rc
 obtain⟨z,its,n,r,hl,e⟩:=I.lstM hH
 obtain⟨z2,its2,n2,r2,hl2,e2⟩:=I.lstM hB
 obtain⟨a',rfl⟩:=Int.eq_ofNat_of_zero_le h0
 obtain⟨c',rfl⟩:=Int.eq_ofNat_of_zero_le (Int.le_trans h0 hac)
 simp only[Int.toNat_natCast] at h
 refine setItem_slice (a:=a') (c:=c') e e2 hne hs (.int _ _) (.int _ _) (by omega) (by rw[List.size_toArray];omega) (by rw[List.size_toArray,List.size_toArray];omega) (h _ ?_)
 refine I.lset (its':=its.take a'++its2++its.drop c') (t':=s.toks) hH e ?_ (Vals.append (Vals.append (r.take _) r2) (r.drop _)) ?_
 ·exact splice_eq its its2 a' c'
 ·rw[List.length_append,List.length_append,List.length_take,List.length_drop]
  omega
end
end L2
namespace Att
open PySem PySem.W PySem.Calls PyProof.Rows
theorem ints_of_wellAll {P:Params}{h:Heap}:∀ (ns:List Int) (vs:List Value),WellAll P h vs (ns.map WData.int)->IntsAre vs ns:=by
 intro ns
 induction ns with
 | nil =>
  intro vs w
  rw[List.map_nil] at w
  cases w
  exact .nil
 | cons n ns ih =>
  intro vs w
  rw[List.map_cons] at w
  cases w with
  | cons a b =>
   cases a
   exact .cons _ _ (ih _ b)
theorem script_of {l:OpenLaw}{n:Nat}(hn:l.most=some n){P:Params}{h:Heap}{args:List WData}{vals:List Value}
  (hpre:l.row.toRowW.claim.pre args=true) (hwl:WellAll P h vals args) :
  ∃ a vs ns,vals=[Value.ref a]/\args=[WData.list (ns.map WData.int)]/\h.get? a=some { cls:=.type "list",data:=.seq vs.toArray }/\IntsAre vs ns/\ns.length<=n:=by
 have hsh:WShape.hasAll [] args [.list .int]=true:=(pre_splitW hpre).1
 have hc:l.pre.holds [] { args:=args }=true:=(pre_splitW hpre).2
 obtain⟨d,r,rfl,h1,h2⟩:=hasAllW_cons hsh
 obtain rfl:=hasAllW_nil h2
 obtain⟨xs,rfl,h3⟩:=hasW_list h1
 obtain⟨ns,rfl⟩:=items_int h3
 have hlen:ns.length<=n:=by
  unfold OpenLaw.pre at hc
  have h4:(WTm.not (.lt (.lit (.int (n:Int))) (.len (.arg 0)))).holds [] { args:=[.list (ns.map .int)] }=true:=by
   have h4:=(holds_andW hc).1
   rw[hn] at h4
   exact h4
  have h5:=condW_of h4 (w_not (w_lt w_lit (w_len_list (w_arg rfl))))
  rw[List.length_map] at h5
  refine Nat.le_of_not_lt λq=>?_
  have q':(n:Int)<((ns.length:Nat):Int):=by omega
  first
   | (rw[decide_eq_true q'] at h5;exact absurd h5 (by decide))
   | (simp at h5;omega)
 cases hwl with
 | cons w1 w2 =>
  cases w2
  cases w1 with
  | list ho hall=>exact⟨_,_,ns,rfl,rfl,ho,ints_of_wellAll ns _ hall,hlen⟩
theorem post_true (l:OpenLaw)(args:List WData):l.row.toRowW.claim.post args (.bool true) args=true :=
 postW_of (r:=l.row.toRowW) (X:=(true == true))
  (show WShape.has [] (.bool true) .bool=true by first | rfl | decide | simp[WShape.has,WShape.arms,WShape.armsAll])
  (show (WTm.eq .res (.lit (.bool true))).value [] { args:=args,res:=some (.bool true),after:=args }=some (.bool (true == true)) from w_eq_bool (w_res rfl) w_lit) rfl
theorem attach_call {l:OpenLaw}{n:Nat}{q:Program}{loose:List Str}{XP:(Str->Option Value)->Heap->Prop}{YP:World->Heap->Prop}{d:DefRec}
  (hn:l.most=some n) (hdf:d.params.defaults=[])
  (call:∀ (w:World) (s₀ s₁:Shared) (mg mb:Str->Option Value) (fa:Addr) (o:Obj) (pm cd doc:Value) (a:Addr) (vs:List Value) (ns:List Int),
   Ground q loose [] XP w s₀ mg mb s₁.heap->YP w s₁.heap ->
   s₁.heap.get? fa=some o->o.data=.func (docDef d.name d.params d.body d.scope pm cd doc)->s₁.heap.CodeRec cd d.name->mg d.name=some (.ref fa) ->
   s₁.heap.get? a=some { cls:=.type "list",data:=.seq vs.toArray }->IntsAre vs ns->ns.length<=n->s₁.gens=#[] ->
   codeAny (model l.prog w) callerA (.call (.ref fa) ⟨[.ref a],[]⟩) (λr s'=>r=.ok (.ret (.bool true))/\OldK s₁.heap s'.heap/\s'.os=s₁.os/\AllBare s'.gens) s₁) :
  WalkO q loose XP YP l.row.toRowW d [] (λf vs=>PySem.call f vs):=by
 intro w s₀ s₁ mg mb G Y fa o pm cd doc dV kV ho hd hcd hD hmg hg args vals as hpre hlay hrd hwl hlo
 obtain rfl:dV=.none:=Dflts.none hD hdf
 obtain rfl:kV=.none:=Dflts.noKw hD
 obtain⟨a,vs,ns,rfl,rfl,hobj,hints,hlen⟩:=script_of hn hpre hwl
 refine enter_call (codeAny_mono (call w s₀ s₁ mg mb fa o pm cd doc a vs ns G Y ho (fd_plain hd) hcd hmg hobj hints hlen hg) λr s' hq=>?_)
 obtain⟨rfl,h2,h3,h4⟩:=hq
 exact⟨.inl ⟨.bool true,.bool true,[],rfl,λ_=>rfl,.bool true,post_true l _,λ_=>⟨List.Pairwise.nil,λ_ hm=>(nomatch hm)⟩⟩,h2,h3,h4⟩
section
variable {prog:Program}{w:World}{A:Around}{E:Value->Shared->Prop}{s:Shared}{K:Frag}
end
end Att
namespace L2
open PySem PySem.Spec PyProof.Rows
theorem vals_ints:∀ {vs:List Value} {ns:List Int},IntsAre vs ns->Vals (ns.map V.int) vs
 | _,_,.nil=>.nil
 | _,_,.cons n t h=>.cons ⟨t,rfl⟩ (vals_ints h)
def Only (H:Hp):Prop:=∀ b,H b=none\/∃ o xs,H b=some (.frz o (.lst xs))
theorem law_call {P:Program}{w:World}{K:W.Frag}{mg mb:Str->Option Value}{CX:CXT}{k:Nat}{fa a:Addr}{fd:FuncData}{x:Str}{sp:Sp}{s₁:Shared}{vs:List Value}{ns:List Int}
  (KX:K.In s₁.heap) (hns:s₁.heap.Ns mainGlobals mg) (hb:s₁.heap.Ns builtinsNs mb) (hbb:∀ x:Str,x≠"__name__"->mb x=bootBuiltins x) (hlim:s₁.heap.NoLimit) (hg:s₁.gens=#[])
  (ha:s₁.heap.get? a=some { cls:=.type "list",data:=.seq vs.toArray }) (hi:IntsAre vs ns) (hl:ns.length<=sizeLine) (hr:Room k callerA)
  (F:∀ base:Heap,K.In base->base.Ns mainGlobals mg->FnOk P w K mg base CX k fa fd [x] sp) (hbind:∀ (s:Shared) (u:Value),BindsTo s fd ⟨[u],[]⟩ [(x,u)])
  (hsp:∀ H:Hp,Only H->SqL K H a (ns.map V.int)->sp [.ref a] H (λv _=>v=.bl true) λ_ _ _=>False)
  (hCX:∀ H e s',CX [] H s₁ (λ_ _ _=>False) e s'->False) :
  codeAny (model P w) callerA (.call (.ref fa) ⟨[.ref a],[]⟩) (λr s'=>r=.ok (.ret (.bool true))/\OldK s₁.heap s'.heap/\s'.os=s₁.os/\AllBare s'.gens) s₁:=by
 have rv:=vals_ints hi
 have lenV:=hi.length
 have core:∀ H:Hp,Only H->SqL K H a (ns.map V.int)->HOk P w H s₁.heap->(∀ b,H b≠none->b=a)->(H a≠none->K.lookup a=none) ->
   codeAny (model P w) callerA (.call (.ref fa) ⟨[.ref a],[]⟩) (λr s'=>r=.ok (.ret (.bool true))/\OldK s₁.heap s'.heap/\s'.os=s₁.os/\AllBare s'.gens) s₁:=by
  intro H hO hS hok hA hK
  have base_of:∀ {b:Addr} {o:Obj},s₁.heap.get? b=some o->H b=none->(hidT s₁.heap H).get? b=some o:=λe n=>hidT_get e n
  have noA:∀ {b:Addr} {o:Obj} {es:Array DictEntry} {ep:Nat},s₁.heap.get? b=some o->o.data=.dict es ep->H b=none:=λ{b o es ep} e d=>by
   cases q:H b with
   | none=>rfl
   | some u =>
    have e':b=a:=hA b (by rw[q];simp)
    subst e'
    rw[ha] at e;cases e
    have d':Data.seq vs.toArray _=Data.dict es ep:=d
    cases d'
  have nsK:∀ {b:Addr} {m:Str->Option Value},s₁.heap.Ns b m->(hidT s₁.heap H).Ns b m:=λ{b m} ⟨o,es,ep,e,d,r⟩=>⟨o,es,ep,base_of e (noA e d),d,r⟩
  have hKb:K.In (hidT s₁.heap H):=λb o e=>base_of (KX b o e) (by
   cases q:H b with
   | none=>rfl
   | some u =>
    have e':b=a:=hA b (by rw[q];simp)
    subst e'
    rw[hK (by rw[q];simp)] at e;cases e)
  have hM:Mod K mg (hidT s₁.heap H):=⟨hKb,nsK hns,⟨mb,nsK hb,hbb⟩,let ⟨mc,h1,h2⟩:=hlim;⟨mc,nsK h1,h2⟩⟩
  have e0:Env0 P w K mg (hidT s₁.heap H) callerA [] s₁ H:=⟨rfl,hM,λb o e=>of_hidT e,Nat.le_of_eq (hidT_size _ _),trivial,λb hb=>absurd (show b∈([]:List Addr) from hb) (by simp),hok,.of_eq hg⟩
  refine codeAny_mono ((F _ hKb (nsK hns)).run callerA [] s₁ H ⟨[.ref a],[]⟩ [.ref a] [.ref a] _ _ hr e0 (hbind s₁ (.ref a)) (.cons rfl .nil) (hsp H hO hS)) λr s' h=>?_
  cases r with
  | error e=>exact(hCX H e s' h).elim
  | ok fl =>
   cases fl with
   | next=>exact False.elim h
   | brk=>exact False.elim h
   | cont=>exact False.elim h
   | ret u =>
    obtain⟨v,H',os,bare,un,hok',r',q⟩:=h
    have q':v=.bl true:=q
    subst q'
    obtain rfl:u=Value.bool true:=r'
    refine⟨rfl,OldK.of_keep λb o e=>?_,os,bare⟩
    cases q:H b with
    | none=>exact un.keep b o e q (by intro z;exact absurd (show b∈([]:List Addr) from z) (by simp)) (by simp)
    | some u =>
     rcases hO b with z | ⟨ob,xs,z⟩
     ·rw[q] at z;cases z
     ·have z2:=un.frzs b ob _ z
      obtain⟨e1,_⟩:=hok b _ z
      obtain⟨e2,_⟩:=hok' b _ z2
      rw[e] at e1;cases e1
      exact e2
 cases hk:K.lookup a with
 | some o =>
  have e:=KX a o hk
  rw[ha] at e
  cases e
  refine core (λ_=>none) (λ_=>.inl rfl) (.inr ⟨_,vs.toArray,_,hk,rfl,rfl,rfl,by rw[List.size_toArray,lenV];exact hl,by simpa using rv⟩) (λb u z=>by have z':(none:Option HO)=some u:=z;cases z') (λb z=>absurd rfl z) λz=>absurd rfl z
 | none =>
  refine core (λb=>if b=a then some (.frz { cls:=.type "list",data:=.seq vs.toArray } (.lst (ns.map V.int))) else none) (λb=>?_) (.inl (.inr ⟨{ cls:=.type "list",data:=.seq vs.toArray },if_pos rfl⟩)) (λb u z=>?_) (λb z=>?_) λ_=>hk
  ·by_cases hb:b=a
   ·exact .inr ⟨_,_,if_pos hb⟩
   ·exact .inl (if_neg hb)
  ·by_cases hb:b=a
   ·have z':=(if_pos hb).symm.trans z
    cases z'
    subst hb
    exact⟨ha,by rw[List.length_map];exact hl,vs,_,rv,ha⟩
   ·have z':=(if_neg hb).symm.trans z
    cases z'
  ·by_cases hb:b=a
   ·exact hb
   ·exact absurd (if_neg hb) z
end L2
namespace L2
open PySem PySem.Spec PyProof.Rows
abbrev KOf {K:W.Frag}{h:Heap}(_:K.In h):W.Frag:=K
theorem walk_of {l:W.OpenLaw}{n k:Nat}{q:Program}{loose:List Str}{XP:(Str->Option Value)->Heap->Prop}{YP:World->Heap->Prop}{d:DefRec}{K:Params->W.Frag}{CX:World->CXT}{sp:World->Sp}{x:Str}
  (hn:l.most=some n) (hn2:n<=sizeLine) (hdf:d.params.defaults=[]) (hr:Room k callerA)
  (hY:∀ (w:World) (h:Heap),YP w h->(K w.params).In h)
  (F:∀ (w:World) (mg:Str->Option Value) (fa:Addr) (h:Heap),(K w.params).In h->h.Ns mainGlobals mg->mg d.name=some (.ref fa) ->
   ∃ fd:FuncData,(∀ (s:Shared) (u:Value),BindsTo s fd ⟨[u],[]⟩ [(x,u)]) /\
    ∀ base:Heap,(K w.params).In base->base.Ns mainGlobals mg->FnOk l.prog w (K w.params) mg base (CX w) k fa fd [x] (sp w))
  (hsp:∀ (w:World) (H:Hp) (a:Addr) (ns:List Int),ns.length<=n->Only H->SqL (K w.params) H a (ns.map V.int)->sp w [.ref a] H (λv _=>v=.bl true) λ_ _ _=>False)
  (hCX:∀ (w:World) (H:Hp) (s:Shared) (e:Value) (s':Shared),CX w [] H s (λ_ _ _=>False) e s'->False) :
  W.WalkO q loose XP YP l.row.toRowW d [] (λf vs=>PySem.call f vs):=by
 refine Att.attach_call hn hdf λw s₀ s₁ mg mb fa o pm cd doc a vs ns G Y ho hd hcd hmg hobj hints hlen hg=>?_
 have KX:=hY w _ Y
 obtain⟨fd,hb,hF⟩:=F w mg fa _ KX G.T.g hmg
 exact law_call KX G.T.g G.T.b G.T.builtins G.T.nolimit hg hobj hints (Nat.le_trans hlen hn2) hr hF hb (λH hO hS=>hsp w H a ns hlen hO hS) λH e s'=>hCX w H s₁ e s'
end L2
namespace L2
open PySem PySem.Spec PyProof.Rows
def inClass (s:Stmt)(j:Nat):Stmt:=match s with
 | .ClassDef _ _ _ body _ _ _ _ _ _ _=>body.getD j (.Pass ⟨0,0,0,0⟩)
 | _=>.Pass ⟨0,0,0,0⟩
def defArgs (s:Stmt):Arguments:=match s with
 | .FunctionDef _ a _ _ _ _ _ _ _ _=>a
 | _=>{ posonlyargs:=[],args:=[],vararg:=none,kwonlyargs:=[],kw_defaults:=[],kwarg:=none,defaults:=[] }
def defBody (s:Stmt):List Stmt:=match s with
 | .FunctionDef _ _ b _ _ _ _ _ _ _=>b
 | _=>[]
def defScope (s:Stmt):Scope:=match s with
 | .FunctionDef _ _ _ _ _ _ sc _ _ _=>sc
 | _=>{ kind:=.function,names:=[],isGenerator:=false,isCoroutine:=false }
abbrev CX0:CXT:=λ_ _ _ _ _ _=>False
abbrev E0:XK:=λ_ _ _=>False
theorem pass0 {X:Cx}:Passes CX0 X E0:=λ_ _ _ _ _ _ _ h=>h.elim
structure Fun (K:W.Frag)(x qual:Str)(st:Stmt)(f:Addr)(fd:FuncData):Prop where
 ex:∃ (oc:Value) (od:Option Addr) (kV doc pm:Value) (an:Option Addr) (cdv ct:Value) (osl:Array (Option Value)),
  fd=W.fnOf x qual (defArgs st) (defBody st) (defScope st) .none kV doc pm an cdv ct/\K.lookup f=some ⟨oc,od,.func fd,osl⟩/\W.codeIn K cdv qual=true
 kp:W.keepIn K (.ref f)=true
section
variable {P:Program}{w:World}{K:W.Frag}{mg:Str->Option Value}{base:Heap}
theorem Fun.ok {x qual:Str}{st:Stmt}{f:Addr}{fd:FuncData}{N ps:List Str}{k:Nat}{sp:Sp}(F:Fun K x qual st f fd)(S:FnScope N ps (defScope st))(len:∀ vs H Q E,sp vs H Q E->vs.length=ps.length)
  (hbody:∀ (cdv:Value) (A:Around) (outer:List Env) (s:Shared) (H:Hp) (vs:List V) (Q:VK) (E:XK),Room k (A.deeper (envOfC qual (defScope st) s.heap.objs.size f cdv))->sp vs H Q E ->
   ∃ t,PSs (cxOf CX0 P w K mg base N qual (defScope st) f cdv A outer s H E).nox (defBody st) t/\t { nx:=λ_ H'=>Q .non H',rt:=Q } (start N vs) H):FnOk P w K mg base CX0 (k+1) f fd ps sp:=by
 obtain⟨oc,od,kV,doc,pm,an,cdv,ct,osl,rfl,lk,hcd⟩:=F.ex
 refine fn_of lk hcd S len λA outer s H vs Q E hr hsp=>?_
 obtain⟨t,h,q⟩:=hbody cdv A outer s H vs Q E hr hsp
 exact⟨t,h.nox,q⟩
theorem Fun.binds {x qual:Str}{st:Stmt}{f:Addr}{fd:FuncData}{ps:List Str}(F:Fun K x qual st f fd)
  (h:∀ (kV doc pm:Value) (an:Option Addr) (cdv ct:Value) (us:List Value),us.length=ps.length->bindArgs (W.fnOf x qual (defArgs st) (defBody st) (defScope st) .none kV doc pm an cdv ct) ⟨us,[]⟩=pure (ps.zip us)):Binds K fd ps []:=by
 obtain⟨oc,od,kV,doc,pm,an,cdv,ct,osl,rfl,lk,hcd⟩:=F.ex
 exact .all (h kV doc pm an cdv ct)
theorem fun_mk {x qual:Str}{st:Stmt}{f:Addr}{oc:Value}{od an:Option Addr}{osl:Array (Option Value)}{kV doc pm cdv ct:Value}(l:K.lookup f=some ⟨oc,od,.func (W.fnOf x qual (defArgs st) (defBody st) (defScope st) .none kV doc pm an cdv ct),osl⟩)
  (c:W.codeIn K cdv qual=true) (k:W.keepIn K (.ref f)=true):Fun K x qual st f (W.fnOf x qual (defArgs st) (defBody st) (defScope st) .none kV doc pm an cdv ct):=⟨⟨oc,od,kV,doc,pm,an,cdv,ct,osl,rfl,l,c⟩,k⟩
end
theorem small1000 {n:Nat}(h:n<=1000):n<sizeLine:=Nat.lt_of_le_of_lt h (by decide)
section
variable {X:Cx}
end
theorem iteF {A B:Prop}(h:B):if false=true then A else B:=by
 rw[if_neg Bool.false_ne_true]
 exact h
theorem iteT {A B:Prop}(h:A):if true=true then A else B:=by
 rw[if_pos rfl]
 exact h
def Same (H H':Hp):Prop:=∀ b o,H b=some o->H' b=some o
theorem Same.refl (H:Hp):Same H H:=λ_ _ h=>h
theorem Same.trans {H H1 H2:Hp}(a:Same H H1)(b:Same H1 H2):Same H H2:=λc o h=>b c o (a c o h)
theorem Same.free {H H':Hp}(e:Same H H'){l:Addr}(h:H' l=Option.none):H l=Option.none:=by
 cases q:H l with
 | none=>rfl
 | some o =>
  rw[e l o q] at h
  cases h
theorem Same.seq {K:W.Frag}{H H':Hp}{a:Addr}{xs:List V}(e:Same H H')(h:SqL K H a xs):SqL K H' a xs:=by
 rcases h with (h | ⟨o,h⟩) | h
 ·exact .inl (.inl (e _ _ h))
 ·exact .inl (.inr ⟨o,e _ _ h⟩)
 ·exact .inr h
end L2
set_option maxHeartbeats 4000000
namespace SB
open PySem PyProof.Rows
def IK (xs:Array Keyed):Prop:=IntKeys xs
structure SI (a0:Array Keyed)(st:SortSt):Prop where
 perm:(arrOf st).Perm a0
 kind:kindOf st=oneType'
 failed:failedOf st=none
theorem SI.size {a0:Array Keyed}{st:SortSt}(h:SI a0 st):(arrOf st).size=a0.size:=h.perm.size_eq
theorem SI.setArr {a0:Array Keyed}{st:SortSt}(h:SI a0 st){xs:Array Keyed}(hp:xs.Perm (arrOf st)):SI a0 (setArr st xs):=⟨hp.trans h.perm,h.kind,h.failed⟩
theorem SI.keys {a0:Array Keyed}{st:SortSt}(h:SI a0 st)(h0:IntKeys a0):IntKeys (arrOf st):=λp hp=>h0 p ((Array.perm_iff_toList_perm.mp h.perm).mem_iff.mp hp)
theorem ik_at {xs:Array Keyed}(h:IntKeys xs){i:Nat}(hi:i<xs.size):∃ p,xs[i]?=some p/\∃ n t,p.1=Value.int n t :=
 ⟨xs[i],getElem?_pos xs i hi,h _ (by simp)⟩
def gallop':Bool->Keyed->Array Keyed->Nat->Nat->Nat->StateT SortSt Sem (Option Nat):=sortPriv% PySem.Builtin.gallop
def mergeLo':Array Keyed->Array Keyed->StateT SortSt Sem (Array Keyed):=sortPriv% PySem.Builtin.mergeLo
def mergeHi':Array Keyed->Array Keyed->StateT SortSt Sem (Array Keyed):=sortPriv% PySem.Builtin.mergeHi
def setMinGallop':Nat->StateT SortSt Sem Unit:=sortPriv% PySem.Builtin.setMinGallop
section
variable {prog:Program}{w:World}{A:Around}{E:Value->Shared->Prop}{s:Shared}{a0:Array Keyed}
theorem wpS_elem {arr:Array Keyed}{i:Nat}{p:Keyed}{Q:Keyed->SortSt->Prop}{st:SortSt}(hp:arr[i]?=some p)(h:Q p st):wpS (model prog w) A E s (elem' arr i) Q st:=by
 rw[elem'_eq,hp];exact wpS_pure h
theorem wpS_lt {x y:Keyed}{st:SortSt}{Q:Option Bool->SortSt->Prop}(hk:kindOf st=oneType')(hx:∃ n t,x.1=Value.int n t)(hy:∃ n t,y.1=Value.int n t)
  (h:∀ b,Q (some b) st):wpS (model prog w) A E s (lt' x y) Q st:=by
 obtain⟨n,t,ex⟩:=hx
 obtain⟨m,u,ey⟩:=hy
 rw[lt'_eq]
 refine wpS_bind (wpS_get ?_)
 rw[hk,keyLt'_oneType,ex,ey]
 exact wpS_bind (wpS_lift (wpAny_attempt (oneLt_int ⟨rfl,wpS_pure (h _)⟩)))
theorem wpS_ltAt0 {i j:Nat}{st:SortSt}{Q:Option Bool->SortSt->Prop}(hB:SI a0 st)(h0:IntKeys a0)(hi:i<a0.size)(hj:j<a0.size)
  (h:∀ b,Q (some b) st):wpS (model prog w) A E s (ltAt' i j) Q st:=by
 obtain⟨p,e1,k1⟩:=ik_at (hB.keys h0) (i:=i) (by rw[hB.size];exact hi)
 obtain⟨q,e2,k2⟩:=ik_at (hB.keys h0) (i:=j) (by rw[hB.size];exact hj)
 rw[ltAt'_eq]
 refine wpS_bind (wpS_get ?_)
 exact wpS_bind (wpS_elem e1 (wpS_bind (wpS_elem e2 (wpS_lt hB.kind k1 k2 h))))
theorem wpS_rev {st:SortSt}{i j:Nat}{Q:Unit->SortSt->Prop}(hB:SI a0 st)(h:∀ st',SI a0 st'->pendingOf st'=pendingOf st->Q () st') :
  wpS (model prog w) A E s (reverseSlice' i j) Q st:=by
 rw[reverseSlice'_eq];exact wpS_modify (h _ (hB.setArr (mirror_perm _ _ _ _)) rfl)
theorem wpS_down {st:SortSt}{i j:Nat}{Q:Unit->SortSt->Prop}(hB:SI a0 st)(h:∀ st',SI a0 st'->pendingOf st'=pendingOf st->Q () st') :
  wpS (model prog w) A E s (moveDown' i j) Q st:=by
 rw[moveDown'_eq];exact wpS_modify (h _ (hB.setArr (bubble_perm _ _ _)) rfl)
def G (a0:Array Keyed)(pe:Array (Nat×Nat×Nat))(st:SortSt):Prop:=SI a0 st/\pendingOf st=pe
theorem count_ok {lo nrem:Nat}{pe:Array (Nat×Nat×Nat)}{st:SortSt}{Q:Option Nat->SortSt->Prop}(h0:IntKeys a0)(hn:lo+nrem<=a0.size)(h1:1<=nrem)(hB:G a0 pe st)
  (h:∀ m st',G a0 pe st'->1<=m->m<=nrem->Q (some m) st'):wpS (model prog w) A E s (countRun' lo nrem) Q st:=by
 rw[countRun'_eq]
 refine wpS_bind (wpS_mono (wpS_forRange (I:=λx c st'=>c=(none,x)/\G a0 pe st') (Q:=λc st'=>∃ m,c=(none,m)/\1<=m/\m<=nrem/\G a0 pe st') ?s1 ?f1 ⟨rfl,hB⟩) ?p1)
 case f1=>rintro c st' ⟨rfl,g⟩;exact⟨_,rfl,by omega,by omega,g⟩
 case s1 =>
  rintro x c st' hx1 hx2 ⟨rfl,g⟩
  refine wpS_bind (wpS_ltAt0 g.1 h0 (by omega) (by omega) λb=>?_)
  cases b
  ·exact wpS_pure ⟨rfl,g⟩
  ·exact wpS_pure ⟨x,rfl,hx1,by omega,g⟩
 case p1 =>
  rintro c st' ⟨m,rfl,hm1,hm2,g⟩
  dsimp only
  by_cases hnn:m=nrem
  ·rw[if_pos (by simpa using hnn)]
   exact wpS_pure (h _ _ g hm1 hm2)
  rw[if_neg (by simpa using hnn)]
  by_cases hgt:m > 1
  ·rw[if_pos hgt]
   refine wpS_bind (wpS_ltAt0 g.1 h0 (by omega) (by omega) λb=>?_)
   cases b
   ·dsimp only
    rw[if_neg (by decide)]
    refine wpS_bind (wpS_rev g.1 λst1 b1 e1=>?_)
    refine wpS_bind (wpS_lift (wpAny_rule ⟨rfl,?_⟩))
    refine wpS_bind (wpS_mono (wpS_forRange (I:=λx c st'=>∃ q,c=(none,x,q)/\G a0 pe st') (Q:=λc st'=>∃ m q,c=(none,m,q)/\1<=m/\m<=nrem/\G a0 pe st') ?_ ?_ ⟨0,rfl,⟨b1,e1.trans g.2⟩⟩) ?_)
    ·rintro x c st' hx1 hx2 ⟨q,rfl,g⟩
     dsimp only
     refine wpS_bind (wpS_ltAt0 g.1 h0 (by omega) (by omega) λb=>?_)
     cases b
     ·refine wpS_bind (wpS_ltAt0 g.1 h0 (by omega) (by omega) λb=>?_)
      cases b
      ·exact wpS_pure ⟨_,rfl,g⟩
      ·exact wpS_pure ⟨x,q,rfl,by omega,by omega,g⟩
     ·by_cases hq:q > 0
      ·simp only[if_pos hq,if_true]
       exact wpS_bind (wpS_rev g.1 λst2 b2 e2=>wpS_pure ⟨0,rfl,b2,e2.trans g.2⟩)
      ·simp only[if_neg hq,if_true]
       exact wpS_pure ⟨0,rfl,g⟩
    ·rintro c st' ⟨q,rfl,g⟩;exact⟨_,_,rfl,by omega,by omega,g⟩
    ·rintro c st' ⟨m,q,rfl,hm1,hm2,g⟩
     dsimp only
     by_cases hq:q > 0
     ·rw[if_pos hq]
      refine wpS_bind (wpS_rev g.1 λst2 b2 e2=>wpS_bind (wpS_rev b2 λst3 b3 e3=>?_))
      refine wpS_bind (wpS_mono (wpS_forRange (I:=λx c st'=>c=(none,x)/\G a0 pe st') (Q:=λc st'=>∃ m,c=(none,m)/\1<=m/\m<=nrem/\G a0 pe st') ?_ ?_ ⟨rfl,⟨b3,e3.trans (e2.trans g.2)⟩⟩) ?_)
      ·rintro x c st' hx1 hx2 ⟨rfl,g⟩
       dsimp only
       refine wpS_bind (wpS_ltAt0 g.1 h0 (by omega) (by omega) λb=>?_)
       cases b
       ·exact wpS_pure ⟨rfl,g⟩
       ·exact wpS_pure ⟨x,rfl,by omega,by omega,g⟩
      ·rintro c st' ⟨rfl,g⟩;exact⟨_,rfl,by omega,by omega,g⟩
      ·rintro c st' ⟨m,rfl,hm1,hm2,g⟩
       exact wpS_pure (h _ _ g hm1 hm2)
     ·rw[if_neg hq]
      refine wpS_bind (wpS_rev g.1 λst3 b3 e3=>?_)
      refine wpS_bind (wpS_mono (wpS_forRange (I:=λx c st'=>c=(none,x)/\G a0 pe st') (Q:=λc st'=>∃ m,c=(none,m)/\1<=m/\m<=nrem/\G a0 pe st') ?_ ?_ ⟨rfl,⟨b3,e3.trans g.2⟩⟩) ?_)
      ·rintro x c st' hx1 hx2 ⟨rfl,g⟩
       dsimp only
       refine wpS_bind (wpS_ltAt0 g.1 h0 (by omega) (by omega) λb=>?_)
       cases b
       ·exact wpS_pure ⟨rfl,g⟩
       ·exact wpS_pure ⟨x,rfl,by omega,by omega,g⟩
      ·rintro c st' ⟨rfl,g⟩;exact⟨_,rfl,by omega,by omega,g⟩
      ·rintro c st' ⟨m,rfl,hm1,hm2,g⟩
       exact wpS_pure (h _ _ g hm1 hm2)
   ·exact wpS_pure (h _ _ g hm1 hm2)
  ·rw[if_neg hgt]
   refine wpS_bind (wpS_lift (wpAny_rule ⟨rfl,?_⟩))
   refine wpS_bind (wpS_mono (wpS_forRange (I:=λx c st'=>∃ q,c=(none,x,q)/\G a0 pe st') (Q:=λc st'=>∃ m q,c=(none,m,q)/\1<=m/\m<=nrem/\G a0 pe st') ?_ ?_ ⟨0,rfl,g⟩) ?_)
   ·rintro x c st' hx1 hx2 ⟨q,rfl,g⟩
    dsimp only
    refine wpS_bind (wpS_ltAt0 g.1 h0 (by omega) (by omega) λb=>?_)
    cases b
    ·refine wpS_bind (wpS_ltAt0 g.1 h0 (by omega) (by omega) λb=>?_)
     cases b
     ·exact wpS_pure ⟨_,rfl,g⟩
     ·exact wpS_pure ⟨x,q,rfl,by omega,by omega,g⟩
    ·by_cases hq:q > 0
     ·simp only[if_pos hq,if_true]
      exact wpS_bind (wpS_rev g.1 λst2 b2 e2=>wpS_pure ⟨0,rfl,b2,e2.trans g.2⟩)
     ·simp only[if_neg hq,if_true]
      exact wpS_pure ⟨0,rfl,g⟩
   ·rintro c st' ⟨q,rfl,g⟩;exact⟨_,_,rfl,by omega,by omega,g⟩
   ·rintro c st' ⟨m,q,rfl,hm1,hm2,g⟩
    dsimp only
    by_cases hq:q > 0
    ·rw[if_pos hq]
     refine wpS_bind (wpS_rev g.1 λst2 b2 e2=>wpS_bind (wpS_rev b2 λst3 b3 e3=>?_))
     refine wpS_bind (wpS_mono (wpS_forRange (I:=λx c st'=>c=(none,x)/\G a0 pe st') (Q:=λc st'=>∃ m,c=(none,m)/\1<=m/\m<=nrem/\G a0 pe st') ?_ ?_ ⟨rfl,⟨b3,e3.trans (e2.trans g.2)⟩⟩) ?_)
     ·rintro x c st' hx1 hx2 ⟨rfl,g⟩
      dsimp only
      refine wpS_bind (wpS_ltAt0 g.1 h0 (by omega) (by omega) λb=>?_)
      cases b
      ·exact wpS_pure ⟨rfl,g⟩
      ·exact wpS_pure ⟨x,rfl,by omega,by omega,g⟩
     ·rintro c st' ⟨rfl,g⟩;exact⟨_,rfl,by omega,by omega,g⟩
     ·rintro c st' ⟨m,rfl,hm1,hm2,g⟩
      exact wpS_pure (h _ _ g hm1 hm2)
    ·rw[if_neg hq]
     refine wpS_bind (wpS_rev g.1 λst3 b3 e3=>?_)
     refine wpS_bind (wpS_mono (wpS_forRange (I:=λx c st'=>c=(none,x)/\G a0 pe st') (Q:=λc st'=>∃ m,c=(none,m)/\1<=m/\m<=nrem/\G a0 pe st') ?_ ?_ ⟨rfl,⟨b3,e3.trans g.2⟩⟩) ?_)
     ·rintro x c st' hx1 hx2 ⟨rfl,g⟩
      dsimp only
      refine wpS_bind (wpS_ltAt0 g.1 h0 (by omega) (by omega) λb=>?_)
      cases b
      ·exact wpS_pure ⟨rfl,g⟩
      ·exact wpS_pure ⟨x,rfl,by omega,by omega,g⟩
     ·rintro c st' ⟨rfl,g⟩;exact⟨_,rfl,by omega,by omega,g⟩
     ·rintro c st' ⟨m,rfl,hm1,hm2,g⟩
      exact wpS_pure (h _ _ g hm1 hm2)
theorem bins_ok {lo n ok:Nat}{pe:Array (Nat×Nat×Nat)}{st:SortSt}{Q:Bool->SortSt->Prop}(h0:IntKeys a0)(hn:lo+n<=a0.size)(hB:G a0 pe st)
  (h:∀ st',G a0 pe st'->Q true st'):wpS (model prog w) A E s (binarySort' lo n ok) Q st:=by
 rw[binarySort'_eq]
 refine wpS_bind (wpS_mono (wpS_forRange (I:=λk c st'=>c=(none,())/\G a0 pe st') (Q:=λc st'=>c=(none,())/\G a0 pe st') ?_ ?_ ⟨rfl,hB⟩) ?_)
 ·rintro k c st' hak hkn ⟨rfl,g⟩
  refine wpS_bind (wpS_mono (wpS_forRange (I:=λx c st''=>∃ l r,c=(none,l,r)/\r<=k/\G a0 pe st'') (Q:=λc st''=>∃ l r,c=(none,l,r)/\G a0 pe st'') ?_ ?_ ⟨0,k,rfl,Nat.le_refl _,g⟩) ?_)
  ·rintro x c st'' _ hxk ⟨l,r,rfl,hr,g⟩
   dsimp only
   by_cases hge:l>=r
   ·rw[if_pos hge];exact wpS_pure ⟨l,r,rfl,g⟩
   ·rw[if_neg hge]
    refine wpS_bind (wpS_ltAt0 g.1 h0 (by omega) (by omega) λb=>?_)
    cases b
    ·exact wpS_pure ⟨_,_,rfl,hr,g⟩
    ·exact wpS_pure ⟨_,_,rfl,by omega,g⟩
  ·rintro c st'' ⟨l,r,rfl,_,g⟩;exact⟨l,r,rfl,g⟩
  ·rintro c st'' ⟨l,r,rfl,g⟩
   exact wpS_bind (wpS_down g.1 λst2 b2 e2=>wpS_pure ⟨rfl,b2,e2.trans g.2⟩)
 ·rintro c st' ⟨rfl,g⟩;exact⟨rfl,g⟩
 ·rintro c st' ⟨rfl,g⟩;exact wpS_pure (h _ g)
theorem gallop_ok {left:Bool}{key:Keyed}{arr:Array Keyed}{base n hint:Nat}{st:SortSt}{Q:Option Nat->SortSt->Prop}(hk:kindOf st=oneType')(hkey:∃ i t,key.1=Value.int i t)(ha:IntKeys arr)
  (hb:base+n<=arr.size) (hh:hint<n) (h:∀ k,k<=n->Q (some k) st):wpS (model prog w) A E s (gallop' left key arr base n hint) Q st:=by
 show wpS _ _ _ _ (_ >>= _) _ _
 have bey:∀ (i:Nat) (Q':Option Bool->SortSt->Prop),i<n->(∀ b,Q' (some b) st)->wpS (model prog w) A E s (do
   let x <- elem' arr (base+i)
   if left then lt' x key else return (<- lt' key x).map (!·)) Q' st:=by
  intro i Q' hi q
  obtain⟨p,e1,k1⟩:=ik_at ha (i:=base+i) (by omega)
  refine wpS_bind (wpS_elem e1 ?_)
  cases left
  ·rw[if_neg (by decide)]
   exact wpS_bind (wpS_lt hk hkey k1 λb=>wpS_pure (q _))
  ·rw[if_pos rfl]
   exact wpS_lt hk k1 hkey q
 dsimp only
 refine wpS_bind (bey hint _ hh λb=>?_)
 cases b
 ·dsimp only
  rw[if_neg (by decide)]
  refine wpS_bind (wpS_mono (wpS_forRange (I:=λx c st'=>∃ l r,c=(none,l,r)/\st=st') (Q:=λc st'=>∃ l r,c=(none,l,r)/\st=st') ?_ ?_ ⟨_,_,rfl,rfl⟩) ?_)
  ·rintro x c st' _ hx ⟨l,r,rfl,rfl⟩
   dsimp only
   by_cases hge:r>=hint+1
   ·rw[if_pos hge];exact wpS_pure ⟨l,r,rfl,rfl⟩
   ·rw[if_neg hge]
    refine wpS_bind (bey _ _ (by omega) λb=>?_)
    cases b
    ·exact wpS_pure ⟨_,_,rfl,rfl⟩
    ·exact wpS_pure ⟨_,_,rfl,rfl⟩
  ·rintro c st' ⟨l,r,rfl,rfl⟩;exact⟨l,r,rfl,rfl⟩
  ·rintro c st' ⟨l,r,rfl,rfl⟩
   dsimp only
   refine wpS_bind (wpS_mono (wpS_forRange (I:=λx c st'=>∃ l r,c=(none,l,r)/\r<=n/\st=st') (Q:=λc st'=>∃ l r,c=(none,l,r)/\r<=n/\st=st') ?_ ?_ ⟨_,_,rfl,by omega,rfl⟩) ?_)
   ·rintro x c st' _ hx ⟨l,r,rfl,hr,rfl⟩
    dsimp only
    by_cases hge:l>=r
    ·rw[if_pos hge];exact wpS_pure ⟨l,r,rfl,hr,rfl⟩
    ·rw[if_neg hge]
     refine wpS_bind (bey _ _ (by omega) λb=>?_)
     cases b
     ·exact wpS_pure ⟨_,_,rfl,by omega,rfl⟩
     ·exact wpS_pure ⟨_,_,rfl,hr,rfl⟩
   ·rintro c st' ⟨l,r,rfl,hr,rfl⟩;exact⟨l,r,rfl,hr,rfl⟩
   ·rintro c st' ⟨l,r,rfl,hr,rfl⟩;exact wpS_pure (h _ hr)
 ·dsimp only
  rw[if_pos rfl]
  refine wpS_bind (wpS_mono (wpS_forRange (I:=λx c st'=>∃ l r,c=(none,l,r)/\st=st') (Q:=λc st'=>∃ l r,c=(none,l,r)/\st=st') ?_ ?_ ⟨_,_,rfl,rfl⟩) ?_)
  ·rintro x c st' _ hx ⟨l,r,rfl,rfl⟩
   dsimp only
   by_cases hge:r>=n-hint
   ·rw[if_pos hge];exact wpS_pure ⟨l,r,rfl,rfl⟩
   ·rw[if_neg hge]
    refine wpS_bind (bey _ _ (by omega) λb=>?_)
    cases b
    ·exact wpS_pure ⟨_,_,rfl,rfl⟩
    ·exact wpS_pure ⟨_,_,rfl,rfl⟩
  ·rintro c st' ⟨l,r,rfl,rfl⟩;exact⟨l,r,rfl,rfl⟩
  ·rintro c st' ⟨l,r,rfl,rfl⟩
   dsimp only
   refine wpS_bind (wpS_mono (wpS_forRange (I:=λx c st'=>∃ l r,c=(none,l,r)/\r<=n/\st=st') (Q:=λc st'=>∃ l r,c=(none,l,r)/\r<=n/\st=st') ?_ ?_ ⟨_,_,rfl,by omega,rfl⟩) ?_)
   ·rintro x c st' _ hx ⟨l,r,rfl,hr,rfl⟩
    dsimp only
    by_cases hge:l>=r
    ·rw[if_pos hge];exact wpS_pure ⟨l,r,rfl,hr,rfl⟩
    ·rw[if_neg hge]
     refine wpS_bind (bey _ _ (by omega) λb=>?_)
     cases b
     ·exact wpS_pure ⟨_,_,rfl,by omega,rfl⟩
     ·exact wpS_pure ⟨_,_,rfl,hr,rfl⟩
   ·rintro c st' ⟨l,r,rfl,hr,rfl⟩;exact⟨l,r,rfl,hr,rfl⟩
   ·rintro c st' ⟨l,r,rfl,hr,rfl⟩;exact wpS_pure (h _ hr)
theorem setMin'_eq (g:Nat):setMinGallop' g=modify λs=>SortSt.mk' (kindOf s) (arrOf s) (pendingOf s) g (failedOf s):=rfl
def Laid (a b:Array Keyed)(ia ib:Nat)(out:Array Keyed):Prop:=out.toList.Perm (a.toList.take ia++b.toList.take ib)
theorem take_at {xs:Array Keyed}{i:Nat}{p:Keyed}(h:xs[i]?=some p):xs.toList.take (i+1)=xs.toList.take i++[p]:=by
 have h':xs.toList[i]?=some p:=by simpa using h
 rw[List.take_add_one,h'];rfl
theorem Laid.b {a b:Array Keyed}{ia ib:Nat}{out:Array Keyed}(h:Laid a b ia ib out){p:Keyed}(hp:b[ib]?=some p):Laid a b ia (ib+1) (out.push p):=by
 unfold Laid at h ⊢
 rw[take_at hp,Array.toList_push,<- List.append_assoc]
 exact h.append_right _
theorem Laid.a {a b:Array Keyed}{ia ib:Nat}{out:Array Keyed}(h:Laid a b ia ib out){p:Keyed}(hp:a[ia]?=some p):Laid a b (ia+1) ib (out.push p):=by
 unfold Laid at h ⊢
 rw[take_at hp,Array.toList_push,List.append_assoc]
 refine(h.append_right _).trans ?_
 rw[List.append_assoc]
 exact(List.perm_append_comm).append_left _
theorem ext_list (xs:Array Keyed)(i j:Nat):(xs.extract i j).toList=(xs.toList.take j).drop i:=by
 rw[Array.toList_extract,List.extract_eq_take_drop,List.drop_take]
theorem take_ext (xs:Array Keyed)(i k:Nat):xs.toList.take (i+k)=xs.toList.take i++(xs.extract i (i+k)).toList:=by
 rw[ext_list]
 have:=List.take_append_drop i (xs.toList.take (i+k))
 rw[List.take_take,Nat.min_eq_left (by omega)] at this
 exact this.symm
theorem Laid.ak {a b:Array Keyed}{ia ib:Nat}{out:Array Keyed}(h:Laid a b ia ib out)(k:Nat):Laid a b (ia+k) ib (out++a.extract ia (ia+k)):=by
 unfold Laid at h ⊢
 rw[take_ext,Array.toList_append,List.append_assoc]
 refine(h.append_right _).trans ?_
 rw[List.append_assoc]
 exact(List.perm_append_comm).append_left _
theorem Laid.bk {a b:Array Keyed}{ia ib:Nat}{out:Array Keyed}(h:Laid a b ia ib out)(k:Nat):Laid a b ia (ib+k) (out++b.extract ib (ib+k)):=by
 unfold Laid at h ⊢
 rw[take_ext,Array.toList_append,<- List.append_assoc]
 exact h.append_right _
theorem Laid.all {a b:Array Keyed}{ia ib:Nat}{out:Array Keyed}(h:Laid a b ia ib out)(ha:ia<=a.size)(hb:ib<=b.size) :
  (out++a.extract ia a.size++b.extract ib b.size).toList.Perm (a.toList++b.toList):=by
 obtain⟨j,hj⟩:∃ j,a.size=ia+j:=⟨a.size-ia,by omega⟩
 obtain⟨k,hk⟩:∃ k,b.size=ib+k:=⟨b.size-ib,by omega⟩
 have q:=(h.ak j).bk k
 rw[<- hj,<- hk] at q
 unfold Laid at q
 rw[List.take_of_length_le (by simp),List.take_of_length_le (by simp)] at q
 exact q
theorem Laid.all' {a b:Array Keyed}{ia ib:Nat}{out:Array Keyed}(h:Laid a b ia ib out)(ha:ia<=a.size)(hb:ib<=b.size) :
  (out++b.extract ib b.size++a.extract ia a.size).toList.Perm (a.toList++b.toList):=by
 obtain⟨j,hj⟩:∃ j,a.size=ia+j:=⟨a.size-ia,by omega⟩
 obtain⟨k,hk⟩:∃ k,b.size=ib+k:=⟨b.size-ib,by omega⟩
 have q:=(h.bk k).ak j
 rw[<- hj,<- hk] at q
 unfold Laid at q
 rw[List.take_of_length_le (by simp),List.take_of_length_le (by simp)] at q
 exact q
theorem wpS_ite {α:Type}{c:Prop}[Decidable c]{t e:StateT SortSt Sem α}{Q:α->SortSt->Prop}{st:SortSt}{M:Model}(h1:c->wpS M A E s t Q st)(h2:¬ c->wpS M A E s e Q st) :
  wpS M A E s (if c then t else e) Q st:=by
 by_cases h:c
 ·rw[if_pos h];exact h1 h
 ·rw[if_neg h];exact h2 h
theorem wpS_iteB {α:Type}{x y:Nat}{t e:StateT SortSt Sem α}{Q:α->SortSt->Prop}{st:SortSt}{M:Model}(h1:x=y->wpS M A E s t Q st)(h2:x≠y->wpS M A E s e Q st) :
  wpS M A E s (if (x == y)=true then t else e) Q st :=
 wpS_ite (λh=>h1 (by simpa using h)) λh=>h2 (by simpa using h)
theorem wpS_elemB {arr:Array Keyed}{i:Nat}{Q:Keyed->SortSt->Prop}{st:SortSt}(ha:IntKeys arr)(hi:i<arr.size)(h:∀ p,arr[i]?=some p->(∃ n t,p.1=Value.int n t)->Q p st) :
  wpS (model prog w) A E s (elem' arr i) Q st:=by
 obtain⟨p,e,k⟩:=ik_at ha hi
 exact wpS_elem e (h p e k)
def GX (a0:Array Keyed)(pe:Array (Nat×Nat×Nat))(xs:Array Keyed)(st:SortSt):Prop:=G a0 pe st/\arrOf st=xs
theorem wpS_setMin {g:Nat}{pe:Array (Nat×Nat×Nat)}{xs:Array Keyed}{Q:Unit->SortSt->Prop}{st:SortSt}(hB:GX a0 pe xs st)(h:∀ st',GX a0 pe xs st'->Q () st') :
  wpS (model prog w) A E s (setMinGallop' g) Q st:=by
 rw[setMin'_eq]
 exact wpS_modify (h _ ⟨⟨⟨hB.1.1.perm,hB.1.1.kind,hB.1.1.failed⟩,hB.1.2⟩,hB.2⟩)
structure Mid (a b:Array Keyed)(c0 ia ib:Nat)(out:Array Keyed):Prop where
 laid:Laid a b ia ib out
 ha:ia+1<a.size
 hb:ib<b.size
 pr:c0<=ia+ib
def MRet (a b:Array Keyed)(GG:SortSt->Prop){β:Type}(c:Option (Array Keyed)×β)(st':SortSt):Prop:=∃ r y,c=(some r,y)/\r.toList.Perm (a.toList++b.toList)/\GG st'
theorem mergeLo_ok {a b:Array Keyed}{pe:Array (Nat×Nat×Nat)}{xs:Array Keyed}{st:SortSt}{Q:Array Keyed->SortSt->Prop}(hB:GX a0 pe xs st)(ha:IntKeys a)(hb:IntKeys b)(ha1:1<=a.size)(hb1:1<=b.size)
  (h:∀ out st',GX a0 pe xs st'->out.toList.Perm (a.toList++b.toList)->Q out st'):wpS (model prog w) A E s (mergeLo' a b) Q st:=by
 show wpS _ _ _ _ (_ >>= _) _ _
 refine wpS_bind (wpS_lift (wpAny_rule ⟨rfl,?_⟩))
 obtain⟨b0,e0,_⟩:=ik_at hb (i:=0) (by omega)
 refine wpS_bind (wpS_elem e0 ?_)
 have L0:Laid a b 0 1 #[b0]:=by
  unfold Laid
  rw[take_at e0];simp
 dsimp only
 refine wpS_iteB (λh1=>wpS_pure (h _ _ hB (L0.all (by omega) (by omega)))) λh1=>?_
 refine wpS_iteB (λh2=>wpS_pure (h _ _ hB (L0.all' (by omega) (by omega)))) λh2=>?_
 refine wpS_bind (wpS_get ?_)
 refine wpS_bind (wpS_mono (wpS_forRange (I:=λx c st'=>∃ out ia ib mg,c=(none,out,ia,ib,mg)/\Mid a b (x+1) ia ib out/\GX a0 pe xs st') (Q:=MRet a b (GX a0 pe xs)) ?step ?fin ⟨_,_,_,_,rfl,⟨L0,by omega,by omega,by omega⟩,hB⟩) ?post)
 case fin =>
  rintro c st' ⟨out,ia,ib,mg,rfl,m,g⟩
  have:=m.ha;have:=m.hb;have:=m.pr
  exfalso;omega
 case post =>
  rintro c st' ⟨r,y,rfl,p,g⟩
  exact wpS_pure (h _ _ g p)
 case step =>
  rintro x c st1 _ hx ⟨out,ia,ib,mg,rfl,m,g⟩
  dsimp only
  refine wpS_bind (wpS_mono (wpS_forRange (I:=λx2 c st'=>∃ out ia ib ac bc,c=(none,out,ia,ib,ac,bc)/\Mid a b (x+1+min x2 1) ia ib out/\GX a0 pe xs st')
   (Q:=λc st'=>MRet a b (GX a0 pe xs) c st'\/∃ out ia ib ac bc,c=(none,out,ia,ib,ac,bc)/\Mid a b (x+2) ia ib out/\GX a0 pe xs st') ?_ ?_ ⟨_,_,_,_,_,rfl,m,g⟩) ?_)
  ·rintro x2 c st2 _ hx2 ⟨out,ia,ib,ac,bc,rfl,m,g⟩
   have m1:=m.ha;have m2:=m.hb;have m3:=m.pr
   dsimp only
   refine wpS_bind (wpS_elemB hb (by omega) λp1 hp1 kp1=>?_)
   refine wpS_bind (wpS_elemB ha (by omega) λp2 hp2 kp2=>?_)
   refine wpS_bind (wpS_lt g.1.1.kind kp1 kp2 λbw=>?_)
   dsimp only
   refine wpS_ite (λhbw=>?_) (λhbw=>?_)
   ·refine wpS_bind (wpS_elemB hb (by omega) λp3 hp3 kp3=>?_)
    refine wpS_iteB (λe=>wpS_pure (.inl ⟨_,_,rfl,(m.laid.b hp3).all (by omega) (by omega),g⟩)) λne=>?_
    exact wpS_ite (λ_=>wpS_pure (.inr ⟨_,_,_,_,_,rfl,⟨m.laid.b hp3,by omega,by omega,by omega⟩,g⟩)) λ_=>wpS_pure ⟨_,_,_,_,_,rfl,⟨m.laid.b hp3,by omega,by omega,by omega⟩,g⟩
   ·refine wpS_bind (wpS_elemB ha (by omega) λp3 hp3 kp3=>?_)
    refine wpS_iteB (λe=>wpS_pure (.inl ⟨_,_,rfl,(m.laid.a hp3).all' (by omega) (by omega),g⟩)) λne=>?_
    exact wpS_ite (λ_=>wpS_pure (.inr ⟨_,_,_,_,_,rfl,⟨m.laid.a hp3,by omega,by omega,by omega⟩,g⟩)) λ_=>wpS_pure ⟨_,_,_,_,_,rfl,⟨m.laid.a hp3,by omega,by omega,by omega⟩,g⟩
  ·rintro c st2 ⟨out,ia,ib,ac,bc,rfl,m,g⟩
   exact .inr ⟨_,_,_,_,_,rfl,⟨m.laid,m.ha,m.hb,by have:=m.pr;omega⟩,g⟩
  ·rintro c st2 (⟨r,y,rfl,p,g⟩ | ⟨out,ia,ib,ac,bc,rfl,m,g⟩)
   ·exact wpS_pure ⟨_,_,rfl,p,g⟩
   ·dsimp only
    refine wpS_bind (wpS_lift (wpAny_rule ⟨rfl,?_⟩))
    refine wpS_bind (wpS_mono (wpS_forRange (I:=λ_ c st'=>∃ out ia ib mg ac bc,c=(none,out,ia,ib,mg,ac,bc)/\Mid a b (x+2) ia ib out/\GX a0 pe xs st')
     (Q:=λc st'=>MRet a b (GX a0 pe xs) c st'\/∃ out ia ib mg ac bc,c=(none,out,ia,ib,mg,ac,bc)/\Mid a b (x+2) ia ib out/\GX a0 pe xs st') ?_ ?_ ⟨_,_,_,_,_,_,rfl,m,g⟩) ?_)
    ·rintro x3 c st3 _ hx3 ⟨out,ia,ib,mg,ac,bc,rfl,m,g⟩
     have m1:=m.ha;have m2:=m.hb;have m3:=m.pr
     have L:=m.laid
     dsimp only
     refine wpS_ite (λhm=>?_) (λhm=>?_)
     ·refine wpS_bind (wpS_setMin g λst1 g1=>?_)
      refine wpS_bind (wpS_elemB hb (by omega) λp hp kp=>?_)
      refine wpS_bind (gallop_ok g1.1.1.kind kp ha (by omega) (by omega) λk hk=>?_)
      dsimp only
      refine wpS_ite (λhk0=>?_) (λhk0=>?_)
      ·refine wpS_iteB (λe=>wpS_pure (.inl ⟨_,_,rfl,((L).ak k).all' (by omega) (by omega),g1⟩)) λne1=>?_
       refine wpS_iteB (λe=>wpS_pure (.inl ⟨_,_,rfl,((L).ak k).all (by omega) (by omega),g1⟩)) λne2=>?_
       refine wpS_bind (wpS_elemB hb (by omega) λq1 hq1 kq1=>?_)
       refine wpS_iteB (λe=>wpS_pure (.inl ⟨_,_,rfl,(((L).ak k).b hq1).all (by omega) (by omega),g1⟩)) λne3=>?_
       refine wpS_bind (wpS_elemB ha (by omega) λq2 hq2 kq2=>?_)
       refine wpS_bind (gallop_ok g1.1.1.kind kq2 hb (by omega) (by omega) λk2 hk2=>?_)
       dsimp only
       refine wpS_ite (λh22=>?_) (λh22=>?_)
       ·refine wpS_iteB (λe=>wpS_pure (.inl ⟨_,_,rfl,((((L).ak k).b hq1).bk k2).all (by omega) (by omega),g1⟩)) λne4=>?_
        refine wpS_bind (wpS_elemB ha (by omega) λq3 hq3 kq3=>?_)
        refine wpS_iteB (λe=>wpS_pure (.inl ⟨_,_,rfl,(((((L).ak k).b hq1).bk k2).a hq3).all' (by omega) (by omega),g1⟩)) λne5=>?_
        refine wpS_ite (λ_=>wpS_pure (.inr ⟨_,_,_,_,_,_,rfl,⟨((((L).ak k).b hq1).bk k2).a hq3,by omega,by omega,by omega⟩,g1⟩)) λ_=>wpS_pure ⟨_,_,_,_,_,_,rfl,⟨((((L).ak k).b hq1).bk k2).a hq3,by omega,by omega,by omega⟩,g1⟩
       ·refine wpS_bind (wpS_elemB ha (by omega) λq3 hq3 kq3=>?_)
        refine wpS_iteB (λe=>wpS_pure (.inl ⟨_,_,rfl,((((L).ak k).b hq1).a hq3).all' (by omega) (by omega),g1⟩)) λne5=>?_
        refine wpS_ite (λ_=>wpS_pure (.inr ⟨_,_,_,_,_,_,rfl,⟨(((L).ak k).b hq1).a hq3,by omega,by omega,by omega⟩,g1⟩)) λ_=>wpS_pure ⟨_,_,_,_,_,_,rfl,⟨(((L).ak k).b hq1).a hq3,by omega,by omega,by omega⟩,g1⟩
      ·refine wpS_bind (wpS_elemB hb (by omega) λq1 hq1 kq1=>?_)
       refine wpS_iteB (λe=>wpS_pure (.inl ⟨_,_,rfl,((L).b hq1).all (by omega) (by omega),g1⟩)) λne3=>?_
       refine wpS_bind (wpS_elemB ha (by omega) λq2 hq2 kq2=>?_)
       refine wpS_bind (gallop_ok g1.1.1.kind kq2 hb (by omega) (by omega) λk2 hk2=>?_)
       dsimp only
       refine wpS_ite (λh22=>?_) (λh22=>?_)
       ·refine wpS_iteB (λe=>wpS_pure (.inl ⟨_,_,rfl,(((L).b hq1).bk k2).all (by omega) (by omega),g1⟩)) λne4=>?_
        refine wpS_bind (wpS_elemB ha (by omega) λq3 hq3 kq3=>?_)
        refine wpS_iteB (λe=>wpS_pure (.inl ⟨_,_,rfl,((((L).b hq1).bk k2).a hq3).all' (by omega) (by omega),g1⟩)) λne5=>?_
        refine wpS_ite (λ_=>wpS_pure (.inr ⟨_,_,_,_,_,_,rfl,⟨(((L).b hq1).bk k2).a hq3,by omega,by omega,by omega⟩,g1⟩)) λ_=>wpS_pure ⟨_,_,_,_,_,_,rfl,⟨(((L).b hq1).bk k2).a hq3,by omega,by omega,by omega⟩,g1⟩
       ·refine wpS_bind (wpS_elemB ha (by omega) λq3 hq3 kq3=>?_)
        refine wpS_iteB (λe=>wpS_pure (.inl ⟨_,_,rfl,(((L).b hq1).a hq3).all' (by omega) (by omega),g1⟩)) λne5=>?_
        refine wpS_ite (λ_=>wpS_pure (.inr ⟨_,_,_,_,_,_,rfl,⟨((L).b hq1).a hq3,by omega,by omega,by omega⟩,g1⟩)) λ_=>wpS_pure ⟨_,_,_,_,_,_,rfl,⟨((L).b hq1).a hq3,by omega,by omega,by omega⟩,g1⟩
     ·refine wpS_bind (wpS_setMin g λst1 g1=>?_)
      refine wpS_bind (wpS_elemB hb (by omega) λp hp kp=>?_)
      refine wpS_bind (gallop_ok g1.1.1.kind kp ha (by omega) (by omega) λk hk=>?_)
      dsimp only
      refine wpS_ite (λhk0=>?_) (λhk0=>?_)
      ·refine wpS_iteB (λe=>wpS_pure (.inl ⟨_,_,rfl,((L).ak k).all' (by omega) (by omega),g1⟩)) λne1=>?_
       refine wpS_iteB (λe=>wpS_pure (.inl ⟨_,_,rfl,((L).ak k).all (by omega) (by omega),g1⟩)) λne2=>?_
       refine wpS_bind (wpS_elemB hb (by omega) λq1 hq1 kq1=>?_)
       refine wpS_iteB (λe=>wpS_pure (.inl ⟨_,_,rfl,(((L).ak k).b hq1).all (by omega) (by omega),g1⟩)) λne3=>?_
       refine wpS_bind (wpS_elemB ha (by omega) λq2 hq2 kq2=>?_)
       refine wpS_bind (gallop_ok g1.1.1.kind kq2 hb (by omega) (by omega) λk2 hk2=>?_)
       dsimp only
       refine wpS_ite (λh22=>?_) (λh22=>?_)
       ·refine wpS_iteB (λe=>wpS_pure (.inl ⟨_,_,rfl,((((L).ak k).b hq1).bk k2).all (by omega) (by omega),g1⟩)) λne4=>?_
        refine wpS_bind (wpS_elemB ha (by omega) λq3 hq3 kq3=>?_)
        refine wpS_iteB (λe=>wpS_pure (.inl ⟨_,_,rfl,(((((L).ak k).b hq1).bk k2).a hq3).all' (by omega) (by omega),g1⟩)) λne5=>?_
        refine wpS_ite (λ_=>wpS_pure (.inr ⟨_,_,_,_,_,_,rfl,⟨((((L).ak k).b hq1).bk k2).a hq3,by omega,by omega,by omega⟩,g1⟩)) λ_=>wpS_pure ⟨_,_,_,_,_,_,rfl,⟨((((L).ak k).b hq1).bk k2).a hq3,by omega,by omega,by omega⟩,g1⟩
       ·refine wpS_bind (wpS_elemB ha (by omega) λq3 hq3 kq3=>?_)
        refine wpS_iteB (λe=>wpS_pure (.inl ⟨_,_,rfl,((((L).ak k).b hq1).a hq3).all' (by omega) (by omega),g1⟩)) λne5=>?_
        refine wpS_ite (λ_=>wpS_pure (.inr ⟨_,_,_,_,_,_,rfl,⟨(((L).ak k).b hq1).a hq3,by omega,by omega,by omega⟩,g1⟩)) λ_=>wpS_pure ⟨_,_,_,_,_,_,rfl,⟨(((L).ak k).b hq1).a hq3,by omega,by omega,by omega⟩,g1⟩
      ·refine wpS_bind (wpS_elemB hb (by omega) λq1 hq1 kq1=>?_)
       refine wpS_iteB (λe=>wpS_pure (.inl ⟨_,_,rfl,((L).b hq1).all (by omega) (by omega),g1⟩)) λne3=>?_
       refine wpS_bind (wpS_elemB ha (by omega) λq2 hq2 kq2=>?_)
       refine wpS_bind (gallop_ok g1.1.1.kind kq2 hb (by omega) (by omega) λk2 hk2=>?_)
       dsimp only
       refine wpS_ite (λh22=>?_) (λh22=>?_)
       ·refine wpS_iteB (λe=>wpS_pure (.inl ⟨_,_,rfl,(((L).b hq1).bk k2).all (by omega) (by omega),g1⟩)) λne4=>?_
        refine wpS_bind (wpS_elemB ha (by omega) λq3 hq3 kq3=>?_)
        refine wpS_iteB (λe=>wpS_pure (.inl ⟨_,_,rfl,((((L).b hq1).bk k2).a hq3).all' (by omega) (by omega),g1⟩)) λne5=>?_
        refine wpS_ite (λ_=>wpS_pure (.inr ⟨_,_,_,_,_,_,rfl,⟨(((L).b hq1).bk k2).a hq3,by omega,by omega,by omega⟩,g1⟩)) λ_=>wpS_pure ⟨_,_,_,_,_,_,rfl,⟨(((L).b hq1).bk k2).a hq3,by omega,by omega,by omega⟩,g1⟩
       ·refine wpS_bind (wpS_elemB ha (by omega) λq3 hq3 kq3=>?_)
        refine wpS_iteB (λe=>wpS_pure (.inl ⟨_,_,rfl,(((L).b hq1).a hq3).all' (by omega) (by omega),g1⟩)) λne5=>?_
        refine wpS_ite (λ_=>wpS_pure (.inr ⟨_,_,_,_,_,_,rfl,⟨((L).b hq1).a hq3,by omega,by omega,by omega⟩,g1⟩)) λ_=>wpS_pure ⟨_,_,_,_,_,_,rfl,⟨((L).b hq1).a hq3,by omega,by omega,by omega⟩,g1⟩
    ·rintro c st3 z;exact .inr z
    ·rintro c st3 (⟨r,y,rfl,p,g⟩ | ⟨out,ia,ib,mg,ac,bc,rfl,m,g⟩)
     ·exact wpS_pure ⟨_,_,rfl,p,g⟩
     ·exact wpS_bind (wpS_setMin g λst4 g4=>wpS_pure ⟨_,_,_,_,rfl,m,g4⟩)
def LaidH (a b:Array Keyed)(na nb:Nat)(out:Array Keyed):Prop:=out.toList.Perm (a.toList.drop na++b.toList.drop nb)
theorem drop_at {xs:Array Keyed}{i:Nat}{p:Keyed}(h:xs[i]?=some p):xs.toList.drop i=p::xs.toList.drop (i+1):=by
 have h':xs.toList[i]?=some p:=by simpa using h
 obtain⟨hi,e⟩:=List.getElem?_eq_some_iff.mp h'
 rw[List.drop_eq_getElem_cons hi,e]
theorem LaidH.b {a b:Array Keyed}{na nb:Nat}{out:Array Keyed}(h:LaidH a b na nb out)(h1:1<=nb){p:Keyed}(hp:b[nb-1]?=some p):LaidH a b na (nb-1) (out.push p):=by
 unfold LaidH at h ⊢
 rw[drop_at hp,Array.toList_push,Nat.sub_add_cancel h1]
 refine(h.append_right _).trans ?_
 rw[List.append_assoc]
 exact(List.perm_append_comm).append_left _
theorem LaidH.a {a b:Array Keyed}{na nb:Nat}{out:Array Keyed}(h:LaidH a b na nb out)(h1:1<=na){p:Keyed}(hp:a[na-1]?=some p):LaidH a b (na-1) nb (out.push p):=by
 unfold LaidH at h ⊢
 rw[drop_at hp,Array.toList_push,Nat.sub_add_cancel h1]
 refine(h.append_right _).trans ?_
 exact List.perm_append_singleton _ _
theorem drop_ext (xs:Array Keyed){i j:Nat}(h:i<=j):xs.toList.drop i=(xs.extract i j).toList++xs.toList.drop j:=by
 rw[ext_list]
 obtain⟨k,rfl⟩:∃ k,j=i+k:=⟨j-i,by omega⟩
 rw[List.drop_take,Nat.add_sub_cancel_left,<- List.drop_drop,List.take_append_drop]
theorem LaidH.ak {a b:Array Keyed}{na nb:Nat}{out:Array Keyed}(h:LaidH a b na nb out){k:Nat}(hk:k<=na):LaidH a b k nb (out++(a.extract k na).reverse):=by
 unfold LaidH at h ⊢
 rw[drop_ext a hk,Array.toList_append,Array.toList_reverse]
 refine(h.append_right _).trans ?_
 refine(List.Perm.append_left _ (List.reverse_perm _)).trans ?_
 refine List.perm_append_comm.trans ?_
 rw[List.append_assoc]
theorem LaidH.bk {a b:Array Keyed}{na nb:Nat}{out:Array Keyed}(h:LaidH a b na nb out){k:Nat}(hk:k<=nb):LaidH a b na k (out++(b.extract k nb).reverse):=by
 unfold LaidH at h ⊢
 rw[drop_ext b hk,Array.toList_append,Array.toList_reverse]
 refine(h.append_right _).trans ?_
 refine(List.Perm.append_left _ (List.reverse_perm _)).trans ?_
 rw[List.append_assoc]
 exact(List.perm_append_comm).append_left _
theorem LaidH.all {a b:Array Keyed}{na nb:Nat}{out:Array Keyed}(h:LaidH a b na nb out) :
  (a.extract 0 na++b.extract 0 nb++out.reverse).toList.Perm (a.toList++b.toList):=by
 unfold LaidH at h
 rw[Array.toList_append,Array.toList_append,Array.toList_reverse,ext_list,ext_list,List.drop_zero,List.drop_zero]
 refine(List.Perm.append_left _ ((List.reverse_perm _).trans h)).trans ?_
 rw[List.append_assoc,<- List.append_assoc (b.toList.take nb)]
 refine(List.Perm.append_left _ (List.perm_append_comm.append_right _)).trans ?_
 rw[List.append_assoc,<- List.append_assoc,List.take_append_drop,List.take_append_drop]
theorem LaidH.all' {a b:Array Keyed}{na nb:Nat}{out:Array Keyed}(h:LaidH a b na nb out) :
  (b.extract 0 nb++a.extract 0 na++out.reverse).toList.Perm (a.toList++b.toList):=by
 refine List.Perm.trans ?_ h.all
 rw[Array.toList_append,Array.toList_append,Array.toList_append,Array.toList_append]
 exact List.perm_append_comm.append_right _
structure MidH (a b:Array Keyed)(c0 na nb:Nat)(out:Array Keyed):Prop where
 laid:LaidH a b na nb out
 ha:1<=na
 ha2:na<=a.size
 hb:2<=nb
 hb2:nb<=b.size
 pr:c0+na+nb<=a.size+b.size
theorem mergeHi_ok {a b:Array Keyed}{pe:Array (Nat×Nat×Nat)}{xs:Array Keyed}{st:SortSt}{Q:Array Keyed->SortSt->Prop}(hB:GX a0 pe xs st)(ha:IntKeys a)(hb:IntKeys b)(ha1:1<=a.size)(hb1:1<=b.size)
  (h:∀ out st',GX a0 pe xs st'->out.toList.Perm (a.toList++b.toList)->Q out st'):wpS (model prog w) A E s (mergeHi' a b) Q st:=by
 show wpS _ _ _ _ (_ >>= _) _ _
 refine wpS_bind (wpS_lift (wpAny_rule ⟨rfl,?_⟩))
 obtain⟨b0,e0,_⟩:=ik_at ha (i:=a.size-1) (by omega)
 refine wpS_bind (wpS_elem e0 ?_)
 have L0:LaidH a b (a.size-1) b.size #[b0]:=by
  unfold LaidH
  rw[drop_at e0,List.drop_of_length_le (by simp;omega),List.drop_of_length_le (by simp)]
  simp
 dsimp only
 refine wpS_iteB (λh1=>wpS_pure (h _ _ hB L0.all)) λh1=>?_
 refine wpS_iteB (λh2=>wpS_pure (h _ _ hB L0.all')) λh2=>?_
 refine wpS_bind (wpS_get ?_)
 refine wpS_bind (wpS_mono (wpS_forRange (a:=0) (I:=λx c st'=>∃ out na nb mg,c=(none,na,nb,out,mg)/\MidH a b (x+1) na nb out/\GX a0 pe xs st') (Q:=MRet a b (GX a0 pe xs)) ?step ?fin ⟨#[b0],a.size-1,b.size,gallopOf st,rfl,⟨L0,by omega,by omega,by omega,by omega,by omega⟩,hB⟩) ?post)
 case fin =>
  rintro c st' ⟨out,na,nb,mg,rfl,m,g⟩
  have:=m.ha;have:=m.hb;have:=m.pr
  exfalso;omega
 case post =>
  rintro c st' ⟨r,y,rfl,p,g⟩
  exact wpS_pure (h _ _ g p)
 case step =>
  rintro x c st1 _ hx ⟨out,na,nb,mg,rfl,m,g⟩
  dsimp only
  refine wpS_bind (wpS_mono (wpS_forRange (I:=λx2 c st'=>∃ out na nb ac bc,c=(none,na,nb,out,ac,bc)/\MidH a b (x+1+min x2 1) na nb out/\GX a0 pe xs st')
   (Q:=λc st'=>MRet a b (GX a0 pe xs) c st'\/∃ out na nb ac bc,c=(none,na,nb,out,ac,bc)/\MidH a b (x+2) na nb out/\GX a0 pe xs st') ?_ ?_ ⟨_,_,_,_,_,rfl,m,g⟩) ?_)
  ·rintro x2 c st2 _ hx2 ⟨out,na,nb,ac,bc,rfl,m,g⟩
   have m1:=m.ha;have m2:=m.hb;have m3:=m.pr;have m4:=m.ha2;have m5:=m.hb2
   dsimp only
   refine wpS_bind (wpS_elemB hb (by omega) λp1 hp1 kp1=>?_)
   refine wpS_bind (wpS_elemB ha (by omega) λp2 hp2 kp2=>?_)
   refine wpS_bind (wpS_lt g.1.1.kind kp1 kp2 λbw=>?_)
   dsimp only
   refine wpS_ite (λhbw=>?_) (λhbw=>?_)
   ·refine wpS_bind (wpS_elemB ha (by omega) λp3 hp3 kp3=>?_)
    refine wpS_iteB (λe=>wpS_pure (.inl ⟨_,_,rfl,(m.laid.a (by omega) hp3).all,g⟩)) λne=>?_
    exact wpS_ite (λ_=>wpS_pure (.inr ⟨_,_,_,_,_,rfl,⟨m.laid.a (by omega) hp3,by omega,by omega,by omega,by omega,by omega⟩,g⟩)) λ_=>wpS_pure ⟨_,_,_,_,_,rfl,⟨m.laid.a (by omega) hp3,by omega,by omega,by omega,by omega,by omega⟩,g⟩
   ·refine wpS_bind (wpS_elemB hb (by omega) λp3 hp3 kp3=>?_)
    refine wpS_iteB (λe=>wpS_pure (.inl ⟨_,_,rfl,(m.laid.b (by omega) hp3).all',g⟩)) λne=>?_
    exact wpS_ite (λ_=>wpS_pure (.inr ⟨_,_,_,_,_,rfl,⟨m.laid.b (by omega) hp3,by omega,by omega,by omega,by omega,by omega⟩,g⟩)) λ_=>wpS_pure ⟨_,_,_,_,_,rfl,⟨m.laid.b (by omega) hp3,by omega,by omega,by omega,by omega,by omega⟩,g⟩
  ·rintro c st2 ⟨out,na,nb,ac,bc,rfl,m,g⟩
   exact .inr ⟨_,_,_,_,_,rfl,⟨m.laid,m.ha,m.ha2,m.hb,m.hb2,by have:=m.pr;omega⟩,g⟩
  ·rintro c st2 (⟨r,y,rfl,p,g⟩ | ⟨out,na,nb,ac,bc,rfl,m,g⟩)
   ·exact wpS_pure ⟨_,_,rfl,p,g⟩
   ·dsimp only
    refine wpS_bind (wpS_lift (wpAny_rule ⟨rfl,?_⟩))
    refine wpS_bind (wpS_mono (wpS_forRange (I:=λ_ c st'=>∃ out na nb mg ac bc,c=(none,na,nb,out,mg,ac,bc)/\MidH a b (x+2) na nb out/\GX a0 pe xs st')
     (Q:=λc st'=>MRet a b (GX a0 pe xs) c st'\/∃ out na nb mg ac bc,c=(none,na,nb,out,mg,ac,bc)/\MidH a b (x+2) na nb out/\GX a0 pe xs st') ?_ ?_ ⟨_,_,_,_,_,_,rfl,m,g⟩) ?_)
    ·rintro x3 c st3 _ hx3 ⟨out,na,nb,mg,ac,bc,rfl,m,g⟩
     have m1:=m.ha;have m2:=m.hb;have m3:=m.pr;have m4:=m.ha2;have m5:=m.hb2
     have L:=m.laid
     dsimp only
     refine wpS_ite (λhm=>?_) (λhm=>?_)
     ·refine wpS_bind (wpS_setMin g λst1 g1=>?_)
      refine wpS_bind (wpS_elemB hb (by omega) λp hp kp=>?_)
      refine wpS_bind (gallop_ok g1.1.1.kind kp ha (by omega) (by omega) λk hk=>?_)
      dsimp only
      refine wpS_ite (λhk0=>?_) (λhk0=>?_)
      ·refine wpS_iteB (λe=>wpS_pure (.inl ⟨_,_,rfl,((L).ak hk).all,g1⟩)) λne1=>?_
       refine wpS_bind (wpS_elemB hb (by omega) λq1 hq1 kq1=>?_)
       refine wpS_iteB (λe=>wpS_pure (.inl ⟨_,_,rfl,(((L).ak hk).b (by omega) hq1).all',g1⟩)) λne3=>?_
       refine wpS_bind (wpS_elemB ha (by omega) λq2 hq2 kq2=>?_)
       refine wpS_bind (gallop_ok g1.1.1.kind kq2 hb (by omega) (by omega) λk2 hk2=>?_)
       dsimp only
       refine wpS_ite (λh22=>?_) (λh22=>?_)
       ·refine wpS_iteB (λe=>wpS_pure (.inl ⟨_,_,rfl,((((L).ak hk).b (by omega) hq1).bk hk2).all',g1⟩)) λne4=>?_
        refine wpS_iteB (λe=>wpS_pure (.inl ⟨_,_,rfl,((((L).ak hk).b (by omega) hq1).bk hk2).all,g1⟩)) λne4b=>?_
        refine wpS_bind (wpS_elemB ha (by omega) λq3 hq3 kq3=>?_)
        refine wpS_iteB (λe=>wpS_pure (.inl ⟨_,_,rfl,(((((L).ak hk).b (by omega) hq1).bk hk2).a (by omega) hq3).all,g1⟩)) λne5=>?_
        refine wpS_ite (λ_=>wpS_pure (.inr ⟨_,_,_,_,_,_,rfl,⟨((((L).ak hk).b (by omega) hq1).bk hk2).a (by omega) hq3,by omega,by omega,by omega,by omega,by omega⟩,g1⟩)) λ_=>wpS_pure ⟨_,_,_,_,_,_,rfl,⟨((((L).ak hk).b (by omega) hq1).bk hk2).a (by omega) hq3,by omega,by omega,by omega,by omega,by omega⟩,g1⟩
       ·refine wpS_bind (wpS_elemB ha (by omega) λq3 hq3 kq3=>?_)
        refine wpS_iteB (λe=>wpS_pure (.inl ⟨_,_,rfl,((((L).ak hk).b (by omega) hq1).a (by omega) hq3).all,g1⟩)) λne5=>?_
        refine wpS_ite (λ_=>wpS_pure (.inr ⟨_,_,_,_,_,_,rfl,⟨(((L).ak hk).b (by omega) hq1).a (by omega) hq3,by omega,by omega,by omega,by omega,by omega⟩,g1⟩)) λ_=>wpS_pure ⟨_,_,_,_,_,_,rfl,⟨(((L).ak hk).b (by omega) hq1).a (by omega) hq3,by omega,by omega,by omega,by omega,by omega⟩,g1⟩
      ·refine wpS_bind (wpS_elemB hb (by omega) λq1 hq1 kq1=>?_)
       refine wpS_iteB (λe=>wpS_pure (.inl ⟨_,_,rfl,((L).b (by omega) hq1).all',g1⟩)) λne3=>?_
       refine wpS_bind (wpS_elemB ha (by omega) λq2 hq2 kq2=>?_)
       refine wpS_bind (gallop_ok g1.1.1.kind kq2 hb (by omega) (by omega) λk2 hk2=>?_)
       dsimp only
       refine wpS_ite (λh22=>?_) (λh22=>?_)
       ·refine wpS_iteB (λe=>wpS_pure (.inl ⟨_,_,rfl,(((L).b (by omega) hq1).bk hk2).all',g1⟩)) λne4=>?_
        refine wpS_iteB (λe=>wpS_pure (.inl ⟨_,_,rfl,(((L).b (by omega) hq1).bk hk2).all,g1⟩)) λne4b=>?_
        refine wpS_bind (wpS_elemB ha (by omega) λq3 hq3 kq3=>?_)
        refine wpS_iteB (λe=>wpS_pure (.inl ⟨_,_,rfl,((((L).b (by omega) hq1).bk hk2).a (by omega) hq3).all,g1⟩)) λne5=>?_
        refine wpS_ite (λ_=>wpS_pure (.inr ⟨_,_,_,_,_,_,rfl,⟨(((L).b (by omega) hq1).bk hk2).a (by omega) hq3,by omega,by omega,by omega,by omega,by omega⟩,g1⟩)) λ_=>wpS_pure ⟨_,_,_,_,_,_,rfl,⟨(((L).b (by omega) hq1).bk hk2).a (by omega) hq3,by omega,by omega,by omega,by omega,by omega⟩,g1⟩
       ·refine wpS_bind (wpS_elemB ha (by omega) λq3 hq3 kq3=>?_)
        refine wpS_iteB (λe=>wpS_pure (.inl ⟨_,_,rfl,(((L).b (by omega) hq1).a (by omega) hq3).all,g1⟩)) λne5=>?_
        refine wpS_ite (λ_=>wpS_pure (.inr ⟨_,_,_,_,_,_,rfl,⟨((L).b (by omega) hq1).a (by omega) hq3,by omega,by omega,by omega,by omega,by omega⟩,g1⟩)) λ_=>wpS_pure ⟨_,_,_,_,_,_,rfl,⟨((L).b (by omega) hq1).a (by omega) hq3,by omega,by omega,by omega,by omega,by omega⟩,g1⟩
     ·refine wpS_bind (wpS_setMin g λst1 g1=>?_)
      refine wpS_bind (wpS_elemB hb (by omega) λp hp kp=>?_)
      refine wpS_bind (gallop_ok g1.1.1.kind kp ha (by omega) (by omega) λk hk=>?_)
      dsimp only
      refine wpS_ite (λhk0=>?_) (λhk0=>?_)
      ·refine wpS_iteB (λe=>wpS_pure (.inl ⟨_,_,rfl,((L).ak hk).all,g1⟩)) λne1=>?_
       refine wpS_bind (wpS_elemB hb (by omega) λq1 hq1 kq1=>?_)
       refine wpS_iteB (λe=>wpS_pure (.inl ⟨_,_,rfl,(((L).ak hk).b (by omega) hq1).all',g1⟩)) λne3=>?_
       refine wpS_bind (wpS_elemB ha (by omega) λq2 hq2 kq2=>?_)
       refine wpS_bind (gallop_ok g1.1.1.kind kq2 hb (by omega) (by omega) λk2 hk2=>?_)
       dsimp only
       refine wpS_ite (λh22=>?_) (λh22=>?_)
       ·refine wpS_iteB (λe=>wpS_pure (.inl ⟨_,_,rfl,((((L).ak hk).b (by omega) hq1).bk hk2).all',g1⟩)) λne4=>?_
        refine wpS_iteB (λe=>wpS_pure (.inl ⟨_,_,rfl,((((L).ak hk).b (by omega) hq1).bk hk2).all,g1⟩)) λne4b=>?_
        refine wpS_bind (wpS_elemB ha (by omega) λq3 hq3 kq3=>?_)
        refine wpS_iteB (λe=>wpS_pure (.inl ⟨_,_,rfl,(((((L).ak hk).b (by omega) hq1).bk hk2).a (by omega) hq3).all,g1⟩)) λne5=>?_
        refine wpS_ite (λ_=>wpS_pure (.inr ⟨_,_,_,_,_,_,rfl,⟨((((L).ak hk).b (by omega) hq1).bk hk2).a (by omega) hq3,by omega,by omega,by omega,by omega,by omega⟩,g1⟩)) λ_=>wpS_pure ⟨_,_,_,_,_,_,rfl,⟨((((L).ak hk).b (by omega) hq1).bk hk2).a (by omega) hq3,by omega,by omega,by omega,by omega,by omega⟩,g1⟩
       ·refine wpS_bind (wpS_elemB ha (by omega) λq3 hq3 kq3=>?_)
        refine wpS_iteB (λe=>wpS_pure (.inl ⟨_,_,rfl,((((L).ak hk).b (by omega) hq1).a (by omega) hq3).all,g1⟩)) λne5=>?_
        refine wpS_ite (λ_=>wpS_pure (.inr ⟨_,_,_,_,_,_,rfl,⟨(((L).ak hk).b (by omega) hq1).a (by omega) hq3,by omega,by omega,by omega,by omega,by omega⟩,g1⟩)) λ_=>wpS_pure ⟨_,_,_,_,_,_,rfl,⟨(((L).ak hk).b (by omega) hq1).a (by omega) hq3,by omega,by omega,by omega,by omega,by omega⟩,g1⟩
      ·refine wpS_bind (wpS_elemB hb (by omega) λq1 hq1 kq1=>?_)
       refine wpS_iteB (λe=>wpS_pure (.inl ⟨_,_,rfl,((L).b (by omega) hq1).all',g1⟩)) λne3=>?_
       refine wpS_bind (wpS_elemB ha (by omega) λq2 hq2 kq2=>?_)
       refine wpS_bind (gallop_ok g1.1.1.kind kq2 hb (by omega) (by omega) λk2 hk2=>?_)
       dsimp only
       refine wpS_ite (λh22=>?_) (λh22=>?_)
       ·refine wpS_iteB (λe=>wpS_pure (.inl ⟨_,_,rfl,(((L).b (by omega) hq1).bk hk2).all',g1⟩)) λne4=>?_
        refine wpS_iteB (λe=>wpS_pure (.inl ⟨_,_,rfl,(((L).b (by omega) hq1).bk hk2).all,g1⟩)) λne4b=>?_
        refine wpS_bind (wpS_elemB ha (by omega) λq3 hq3 kq3=>?_)
        refine wpS_iteB (λe=>wpS_pure (.inl ⟨_,_,rfl,((((L).b (by omega) hq1).bk hk2).a (by omega) hq3).all,g1⟩)) λne5=>?_
        refine wpS_ite (λ_=>wpS_pure (.inr ⟨_,_,_,_,_,_,rfl,⟨(((L).b (by omega) hq1).bk hk2).a (by omega) hq3,by omega,by omega,by omega,by omega,by omega⟩,g1⟩)) λ_=>wpS_pure ⟨_,_,_,_,_,_,rfl,⟨(((L).b (by omega) hq1).bk hk2).a (by omega) hq3,by omega,by omega,by omega,by omega,by omega⟩,g1⟩
       ·refine wpS_bind (wpS_elemB ha (by omega) λq3 hq3 kq3=>?_)
        refine wpS_iteB (λe=>wpS_pure (.inl ⟨_,_,rfl,(((L).b (by omega) hq1).a (by omega) hq3).all,g1⟩)) λne5=>?_
        refine wpS_ite (λ_=>wpS_pure (.inr ⟨_,_,_,_,_,_,rfl,⟨((L).b (by omega) hq1).a (by omega) hq3,by omega,by omega,by omega,by omega,by omega⟩,g1⟩)) λ_=>wpS_pure ⟨_,_,_,_,_,_,rfl,⟨((L).b (by omega) hq1).a (by omega) hq3,by omega,by omega,by omega,by omega,by omega⟩,g1⟩
    ·rintro c st3 z;exact .inr z
    ·rintro c st3 (⟨r,y,rfl,p,g⟩ | ⟨out,na,nb,mg,ac,bc,rfl,m,g⟩)
     ·exact wpS_pure ⟨_,_,rfl,p,g⟩
     ·exact wpS_bind (wpS_setMin g λst4 g4=>wpS_pure ⟨_,_,_,_,rfl,m,g4⟩)
theorem wpS_set {st st1:SortSt}{M:Model}{Q:PUnit->SortSt->Prop}(h:Q ⟨⟩ st1):wpS M A E s (set st1:StateT SortSt Sem PUnit) Q st:=by
 unfold wpS;rw[StateT.run_set];exact wpAny_pure ⟨rfl,h⟩
theorem keys_ext {xs:Array Keyed}(h:IntKeys xs)(i j:Nat):IntKeys (xs.extract i j):=λp hp=>by
 rw[ext_list] at hp
 exact h p (List.mem_of_mem_take (List.mem_of_mem_drop hp))
theorem put_at (ys:List Keyed):∀ (j k:Nat) (xs:Array Keyed),k+j+ys.length<=xs.size ->
  ((ys.zipIdx j).foldl (λa (pj:Keyed×Nat)=>a.setIfInBounds (k+pj.2) pj.1) xs).toList=xs.toList.take (k+j)++ys++xs.toList.drop (k+j+ys.length):=by
 induction ys with
 | nil=>intro j k xs _;simp
 | cons y ys ih =>
  intro j k xs h
  simp only[List.length_cons] at h
  rw[List.zipIdx_cons,List.foldl_cons,ih (j+1) k _ (by rw[Array.size_setIfInBounds];omega)]
  rw[Array.toList_setIfInBounds]
  have hl:k+j<xs.toList.length:=by simp;omega
  rw[show k+(j+1)=(k+j)+1 by omega,List.take_add_one,List.getElem?_set_self hl]
  rw[List.take_set_of_le (by omega),List.drop_set_of_lt (by omega)]
  simp only[Option.toList_some,List.append_assoc,List.length_cons,List.cons_append,List.nil_append]
  rw[show k+j+1+ys.length=k+j+(ys.length+1) by omega]
theorem three_perm {l:List Keyed}{i j k:Nat}(hij:i<=j)(hjk:j<=k){m:List Keyed}(h:m.Perm ((l.take j).drop i++(l.take k).drop j)):(l.take i++m++l.drop k).Perm l:=by
 have e:l=l.take i++((l.take j).drop i++(l.take k).drop j)++l.drop k:=by
  have e1:l.take j=l.take i++(l.take j).drop i:=by
   have:=List.take_append_drop i (l.take j)
   rw[List.take_take,Nat.min_eq_left hij] at this;exact this.symm
  have e2:l.take k=l.take j++(l.take k).drop j:=by
   have:=List.take_append_drop j (l.take k)
   rw[List.take_take,Nat.min_eq_left hjk] at this;exact this.symm
  rw[<- List.append_assoc,<- e1,<- e2,List.take_append_drop]
 conv=>rhs;rw[e]
 exact(h.append_left _).append_right _
theorem mergeAt_ok {i:Nat}{pe:Array (Nat×Nat×Nat)}{st:SortSt}{Q:Bool->SortSt->Prop}{sa na pw sb nb pw2:Nat}(h0:IntKeys a0)(hB:G a0 pe st)(h1:pe[i]?=some (sa,na,pw))(h2:pe[i+1]?=some (sb,nb,pw2))
  (hs:sb=sa+na) (hn1:1<=na) (hn2:1<=nb) (hz:sb+nb<=a0.size)
  (h:∀ st',G a0 ((pe.setIfInBounds i (sa,na+nb,pw)).eraseIdxIfInBounds (i+1)) st'->Q true st'):wpS (model prog w) A E s (mergeAt' i) Q st:=by
 show wpS _ _ _ _ (_ >>= _) _ _
 refine wpS_bind (wpS_get ?_)
 have hpe:pendingOf st=pe:=hB.2
 have hsz:=hB.1.size
 have hk:=hB.1.keys h0
 rw[show (sortPriv% PySem.Builtin.SortState.pending) st=pe from hB.2,h1,h2]
 dsimp only
 have hxs:arrOf st=arrOf st:=rfl
 have hsz2:((sortPriv% PySem.Builtin.SortState.a) st).size=a0.size:=hsz
 have hpa:∀ p,(pe.setIfInBounds i (sa,na+nb,pw)).eraseIdxIfInBounds (i+1)=p->G a0 p (setPending st p):=λp _=>⟨⟨hB.1.perm,hB.1.kind,hB.1.failed⟩,rfl⟩
 generalize hp:(pe.setIfInBounds i (sa,na+nb,pw)).eraseIdxIfInBounds (i+1)=p at *
 have g1:=hpa p rfl
 refine wpS_bind (wpS_set ?_)
 refine wpS_bind (wpS_elemB hk (by omega) λq1 hq1 kq1=>?_)
 refine wpS_bind (gallop_ok g1.1.kind kq1 hk (by omega) (by omega) λk hkn=>?_)
 dsimp only
 refine wpS_iteB (λ_=>wpS_pure (h _ g1)) λne1=>?_
 refine wpS_bind (wpS_elemB hk (by omega) λq2 hq2 kq2=>?_)
 refine wpS_bind (gallop_ok g1.1.kind kq2 hk (by omega) (by omega) λk2 hk2=>?_)
 dsimp only
 have fin:∀ k2,k2<=nb->k2≠0->∀ (out:Array Keyed) (st2:SortSt),GX a0 p (arrOf st) st2->out.toList.Perm (((arrOf st).extract (sa+k) sb).toList++((arrOf st).extract sb (sb+k2)).toList) ->
   Q (failedOf (setArr st2 (out.toList.zipIdx.foldl (λa (x:Keyed×Nat)=>a.setIfInBounds (sa+k+x.2) x.1) (arrOf st2)))).isNone (setArr st2 (out.toList.zipIdx.foldl (λa (x:Keyed×Nat)=>a.setIfInBounds (sa+k+x.2) x.1) (arrOf st2))):=by
  intro k2 hk2 ne2 out st2 g2 p2
  have hf:failedOf st2=none:=g2.1.1.failed
  have hq:Q (failedOf st2).isNone (setArr st2 (out.toList.zipIdx.foldl (λa (x:Keyed×Nat)=>a.setIfInBounds (sa+k+x.2) x.1) (arrOf st2))):=by
   rw[hf]
   refine h _ ⟨⟨?_,g2.1.1.kind,g2.1.1.failed⟩,g2.1.2⟩
   refine Array.Perm.trans ?_ g2.1.1.perm
   show (out.toList.zipIdx.foldl (λa (x:Keyed×Nat)=>a.setIfInBounds (sa+k+x.2) x.1) (arrOf st2)).Perm (arrOf st2)
   rw[g2.2]
   rw[Array.perm_iff_toList_perm]
   have hlen:out.toList.length=sb+k2-(sa+k):=by
    rw[p2.length_eq,List.length_append,Array.length_toList,Array.length_toList,Array.size_extract,Array.size_extract];omega
   have e:=put_at out.toList 0 (sa+k) (arrOf st) (by omega)
   rw[e]
   rw[ext_list,ext_list] at p2
   have e2:sa+k+0+out.toList.length=sb+k2:=by omega
   rw[e2,Nat.add_zero]
   exact three_perm (by omega) (by omega) p2
  exact hq
 refine wpS_iteB (λ_=>wpS_pure (h _ g1)) λne2=>?_
 refine wpS_ite (λ_=>?_) λ_=>?_
 ·refine wpS_bind (mergeLo_ok (a0:=a0) (xs:=arrOf st) ⟨g1,hxs⟩ (keys_ext hk _ _) (keys_ext hk _ _) (by rw[Array.size_extract];omega) (by rw[Array.size_extract];omega) λout st2 g2 p2=>?_)
  refine wpS_bind (wpS_modify (wpS_bind (wpS_get (wpS_pure ?_))))
  exact fin k2 hk2 ne2 out st2 g2 p2
 ·refine wpS_bind (mergeHi_ok (a0:=a0) (xs:=arrOf st) ⟨g1,hxs⟩ (keys_ext hk _ _) (keys_ext hk _ _) (by rw[Array.size_extract];omega) (by rw[Array.size_extract];omega) λout st2 g2 p2=>?_)
  refine wpS_bind (wpS_modify (wpS_bind (wpS_get (wpS_pure ?_))))
  exact fin k2 hk2 ne2 out st2 g2 p2
def Segs:Nat->List (Nat×Nat×Nat)->Nat->Prop
 | s,[],e=>s=e
 | s,(a,n,_)::r,e=>a=s/\1<=n/\Segs (s+n) r e
theorem Segs.le:∀ {s:Nat} {l:List (Nat×Nat×Nat)} {e:Nat},Segs s l e->s<=e
 | _,[],_,h=>Nat.le_of_eq h
 | _,(_,_,_)::_,_,h=>by have:=Segs.le h.2.2;omega
theorem Segs.two:∀ {s:Nat} {l:List (Nat×Nat×Nat)} {e i:Nat} {x y:Nat×Nat×Nat},Segs s l e->l[i]?=some x->l[i+1]?=some y ->
  y.1=x.1+x.2.1/\1<=x.2.1/\1<=y.2.1/\y.1+y.2.1<=e/\Segs s ((l.set i (x.1,x.2.1+y.2.1,x.2.2)).eraseIdx (i+1)) e
 | _,[],_,_,_,_,_,h1,_=>by simp at h1
 | _,[_],_,0,_,_,_,_,h2=>by simp at h2
 | s,(a,n,p)::(b,m,q)::r,e,0,x,y,h,h1,h2=>by
  simp at h1 h2
  subst h1 h2
  obtain⟨rfl,h3,rfl,h4,h5⟩:=h
  have:=h5.le
  refine⟨rfl,h3,h4,by show a+n+m<=e;omega,?_⟩
  show Segs a ((a,n+m,p)::r) e
  exact⟨rfl,by omega,by rw[show a+(n+m)=a+n+m by omega];exact h5⟩
 | s,(a,n,p)::r,e,i+1,x,y,h,h1,h2=>by
  obtain⟨rfl,h3,h5⟩:=h
  obtain⟨q1,q2,q3,q4,q5⟩:=Segs.two (i:=i) (x:=x) (y:=y) h5 (by simpa using h1) (by simpa using h2)
  exact⟨q1,q2,q3,q4,rfl,h3,q5⟩
theorem Segs.mod (pw:Nat):∀ {s:Nat} {l:List (Nat×Nat×Nat)} {e:Nat} (i:Nat),Segs s l e->Segs s (l.modify i λ(st,len,_)=>(st,len,pw)) e
 | _,[],_,i,h=>by cases i<;>exact h
 | _,(_,_,_)::_,_,0,h=>h
 | _,(_,_,_)::_,_,i+1,h=>⟨h.1,h.2.1,Segs.mod pw i h.2.2⟩
theorem Segs.snoc (n p:Nat)(hn:1<=n):∀ {s:Nat} {l:List (Nat×Nat×Nat)} {e:Nat},Segs s l e->Segs s (l++[(e,n,p)]) (e+n)
 | _,[],_,h=>⟨h.symm,hn,by show _=_;rw[show _=_ from h]⟩
 | _,(_,_,_)::_,_,h=>⟨h.1,h.2.1,Segs.snoc n p hn h.2.2⟩
def GP (a0:Array Keyed)(e:Nat)(st:SortSt):Prop:=SI a0 st/\Segs 0 (pendingOf st).toList e
theorem merge_ok {i e:Nat}{st:SortSt}{Q:Bool->SortSt->Prop}(h0:IntKeys a0)(hB:GP a0 e st)(he:e<=a0.size)(hi:i+1<(pendingOf st).size)(h:∀ st',GP a0 e st'->Q true st'):wpS (model prog w) A E s (mergeAt' i) Q st:=by
 obtain⟨⟨sa,na,pw⟩,hx⟩:∃ x,(pendingOf st)[i]?=some x:=⟨_,getElem?_pos _ i (by omega)⟩
 obtain⟨⟨sb,nb,pw2⟩,hy⟩:∃ x,(pendingOf st)[i+1]?=some x:=⟨_,getElem?_pos _ (i+1) hi⟩
 obtain⟨q1,q2,q3,q4,q5⟩:=hB.2.two (i:=i) (x:=(sa,na,pw)) (y:=(sb,nb,pw2)) (by simpa using hx) (by simpa using hy)
 refine mergeAt_ok h0 ⟨hB.1,rfl⟩ hx hy q1 q2 q3 (Nat.le_trans q4 he) λst' g=>h st' ⟨g.1,?_⟩
 rw[g.2,Array.toList_eraseIdxIfInBounds,Array.toList_setIfInBounds]
 exact q5
theorem ite_lt2 {c:Prop}[Decidable c]{x y z:Nat}(h1:x+1<z)(h2:y+1<z):(if c then x else y)+1<z:=by
 by_cases h:c<;>simp[h,h1,h2]
theorem runs_ok {st:SortSt}{Q:Unit->SortSt->Prop}(h0:IntKeys a0)(hB:SI a0 st)(hp:pendingOf st=#[])(h:∀ st',SI a0 st'->Q () st'):wpS (model prog w) A E s sortRuns' Q st:=by
 rw[sortRuns'_eq]
 refine wpS_bind (wpS_get ?_)
 dsimp only
 rw[hB.size]
 generalize minRun' a0.size a0.size 0=mr
 refine wpS_bind (wpS_mono (wpS_forRange (I:=λx c st'=>∃ lo,c=(none,lo)/\lo<=a0.size/\GP a0 lo st') (Q:=λc st'=>∃ lo,c=(none,lo)/\lo<=a0.size/\GP a0 lo st') ?step ?fin ⟨0,rfl,by omega,hB,by rw[hp];rfl⟩) ?post)
 case fin=>rintro c st' z;exact z
 case step =>
  rintro x c st1 _ hx ⟨lo,rfl,hlo,g⟩
  dsimp only
  refine wpS_ite (λ_=>wpS_pure ⟨lo,rfl,hlo,g⟩) λhlt=>?_
  refine wpS_bind (count_ok h0 (by omega) (by omega) (pe:=pendingOf st1) ⟨g.1,rfl⟩ λm st2 g2 hm1 hm2=>?_)
  have G2:GP a0 lo st2:=⟨g2.1,by rw[g2.2];exact g.2⟩
  dsimp only
  refine wpS_ite (λhmr=>?_) λhmr=>?_
  ·refine wpS_bind (wpS_lift (wpAny_rule ⟨rfl,?_⟩))
   refine wpS_bind (bins_ok h0 (by omega) g2 λst' g3=>?_)
   have G3:GP a0 lo st':=⟨g3.1,by rw[g3.2];exact g.2⟩
   rw[if_neg (by decide)]
   obtain⟨nn,hnn⟩:∃ nn,nn=min (a0.size-lo) mr:=⟨_,rfl⟩
   rw[<- hnn]
   have hn1:1<=nn:=by omega
   have hn2:lo+nn<=a0.size:=by omega
   refine wpS_bind (wpS_get ?_)
   have fin:∀ st2:SortSt,GP a0 lo st2->GP a0 (lo+nn) (setPending st2 ((pendingOf st2).push (lo,nn,0))):=λst2 g2=>by
    refine⟨⟨g2.1.perm,g2.1.kind,g2.1.failed⟩,?_⟩
    show Segs 0 ((pendingOf st2).push (lo,nn,0)).toList (lo+nn)
    rw[Array.toList_push]
    exact g2.2.snoc nn 0 hn1
   cases hbk:(pendingOf st').back? with
   | none=>exact wpS_bind (wpS_modify (wpS_pure ⟨_,rfl,hn2,fin _ G3⟩))
   | some t =>
    obtain⟨s1,n1,p1⟩:=t
    dsimp only
    refine wpS_bind (wpS_mono (wpS_forRange (I:=λ_ c st2=>c=(none,())/\GP a0 lo st2) (Q:=λc st2=>c=(none,())/\GP a0 lo st2) ?_ ?_ ⟨rfl,G3⟩) ?_)
    ·rintro y c st2 _ _ ⟨rfl,g2⟩
     refine wpS_bind (wpS_get ?_)
     by_cases hp1:(pendingOf st2).size > 1
     ·rw[if_pos hp1]
      obtain⟨⟨a1,a2,older⟩,hx⟩:∃ x,(pendingOf st2)[(pendingOf st2).size-2]?=some x:=⟨_,getElem?_pos _ _ (by omega)⟩
      rw[hx]
      dsimp only
      refine wpS_ite (λ_=>wpS_pure ⟨rfl,g2⟩) λ_=>?_
      refine wpS_bind (merge_ok h0 g2 hlo (by omega) λst3 g3=>?_)
      exact wpS_pure ⟨rfl,g3⟩
     ·rw[if_neg hp1]
      exact wpS_pure ⟨rfl,g2⟩
    ·rintro c st2 z;exact z
    ·rintro c st2 ⟨rfl,g2⟩
     refine wpS_bind (wpS_modify (wpS_bind (wpS_modify (wpS_pure ⟨_,rfl,hn2,fin _ ⟨⟨g2.1.perm,g2.1.kind,g2.1.failed⟩,?_⟩⟩))))
     show Segs 0 ((pendingOf st2).modify _ _).toList lo
     rw[Array.toList_modify]
     exact g2.2.mod _ _
  ·obtain⟨nn,hnn⟩:∃ nn,nn=m:=⟨_,rfl⟩
   rw[<- hnn]
   have hn1:1<=nn:=by omega
   have hn2:lo+nn<=a0.size:=by omega
   obtain⟨st',hst'⟩:∃ st',st'=st2:=⟨_,rfl⟩
   rw[<- hst'] at G2 ⊢
   refine wpS_bind (wpS_get ?_)
   have fin:∀ st2:SortSt,GP a0 lo st2->GP a0 (lo+nn) (setPending st2 ((pendingOf st2).push (lo,nn,0))):=λst2 g2=>by
    refine⟨⟨g2.1.perm,g2.1.kind,g2.1.failed⟩,?_⟩
    show Segs 0 ((pendingOf st2).push (lo,nn,0)).toList (lo+nn)
    rw[Array.toList_push]
    exact g2.2.snoc nn 0 hn1
   cases hbk:(pendingOf st').back? with
   | none=>exact wpS_bind (wpS_modify (wpS_pure ⟨_,rfl,hn2,fin _ G2⟩))
   | some t =>
    obtain⟨s1,n1,p1⟩:=t
    dsimp only
    refine wpS_bind (wpS_mono (wpS_forRange (I:=λ_ c st2=>c=(none,())/\GP a0 lo st2) (Q:=λc st2=>c=(none,())/\GP a0 lo st2) ?_ ?_ ⟨rfl,G2⟩) ?_)
    ·rintro y c st2 _ _ ⟨rfl,g2⟩
     refine wpS_bind (wpS_get ?_)
     by_cases hp1:(pendingOf st2).size > 1
     ·rw[if_pos hp1]
      obtain⟨⟨a1,a2,older⟩,hx⟩:∃ x,(pendingOf st2)[(pendingOf st2).size-2]?=some x:=⟨_,getElem?_pos _ _ (by omega)⟩
      rw[hx]
      dsimp only
      refine wpS_ite (λ_=>wpS_pure ⟨rfl,g2⟩) λ_=>?_
      refine wpS_bind (merge_ok h0 g2 hlo (by omega) λst3 g3=>?_)
      exact wpS_pure ⟨rfl,g3⟩
     ·rw[if_neg hp1]
      exact wpS_pure ⟨rfl,g2⟩
    ·rintro c st2 z;exact z
    ·rintro c st2 ⟨rfl,g2⟩
     refine wpS_bind (wpS_modify (wpS_bind (wpS_modify (wpS_pure ⟨_,rfl,hn2,fin _ ⟨⟨g2.1.perm,g2.1.kind,g2.1.failed⟩,?_⟩⟩))))
     show Segs 0 ((pendingOf st2).modify _ _).toList lo
     rw[Array.toList_modify]
     exact g2.2.mod _ _
 case post =>
  rintro c st1 ⟨lo,rfl,hlo,g⟩
  dsimp only
  refine wpS_bind (wpS_mono (wpS_forRange (I:=λ_ c st2=>c=(none,())/\GP a0 lo st2) (Q:=λc st2=>c=(none,())/\GP a0 lo st2) ?_ ?_ ⟨rfl,g⟩) ?_)
  ·rintro y c st2 _ _ ⟨rfl,g2⟩
   refine wpS_bind (wpS_get ?_)
   refine wpS_ite (λ_=>wpS_pure ⟨rfl,g2⟩) λhsz=>?_
   refine wpS_bind (merge_ok h0 g2 hlo (ite_lt2 (by omega) (by omega)) λst3 g3=>?_)
   exact wpS_pure ⟨rfl,g3⟩
  ·rintro c st2 z;exact z
  ·rintro c st2 ⟨rfl,g2⟩
   exact wpS_pure (h _ g2.1)
theorem ints_out {vs:List Value}{ns:List Int}(hI:IntsAre vs ns){xs:Array Keyed}(hp:xs.Perm (pairsOf vs)):∃ ns',IntsAre (xs.map (·.2)).toList ns'/\ns'.Perm ns:=by
 have hl:xs.toList.Perm (vs.zip vs):=by rw[<- pairsOf_toList];exact Array.perm_iff_toList_perm.mp hp
 have hmem:∀ p,p∈xs.toList->p.1=p.2/\p.1∈vs:=λp hp'=>mem_zip_self (hl.mem_iff.mp hp')
 refine⟨xs.toList.map (λp=>numOf p.1),?_,?_⟩
 ·have e:(xs.map (·.2)).toList=xs.toList.map (·.1):=by
   rw[Array.toList_map];exact List.map_congr_left λp hp'=>(hmem p hp').1.symm
  rw[e]
  have h1:=intsAre_map (xs.toList.map (·.1)) (by
   intro v hv
   obtain⟨p,hp',rfl⟩:=List.mem_map.mp hv
   exact hI.all _ (hmem p hp').2)
  rwa [List.map_map] at h1
 ·have h1:=hl.map (λp=>numOf p.1)
  have e2:(vs.zip vs).map (λp=>numOf p.1)=ns:=by
   have:(vs.zip vs).map (λp=>numOf p.1)=((vs.zip vs).map Prod.fst).map numOf:=by rw[List.map_map];rfl
   rw[this,List.map_fst_zip (Nat.le_refl _),hI.nums]
  rwa [e2] at h1
theorem sort_any {a:Addr}{vs:List Value}{ns:List Int}{n:Nat}{P:PySem.Fin->Shared->Prop}(ho:s.heap.get? a=some (seqObj "list" vs.toArray n))
  (hI:IntsAre vs ns) (h64:vs.length<=1000)
  (h:∀ (out:Array Value) (ns':List Int),IntsAre out.toList ns'->ns'.Perm ns->P (.done (.ret .none)) { s with heap:=sortedHeap s.heap a vs out }) :
  wpAny (model prog w) A (Builtin.«list.sort» ⟨[.ref a],[]⟩) P E s:=by
 rw[list_sort_plain]
 have ha:a<s.heap.objs.size:=Heap.lt_size ho
 refine wpAny_bind (listItems_at ho rfl ?_)
 refine wpAny_bind (listUpdate_at ho rfl ?_ (by rw[sizeLine_eq];simp;omega) (by simp))
 obtain⟨e1,ho1⟩:∃ e1,(s.heap.update a (Obj.mapSeq λ_=>#[])).get? a=some (seqObj "list" #[] e1):=⟨_,get?_update_seq ho (λ_=>#[])⟩
 refine wpAny_bind (seqEpoch_at ho1 rfl ?_)
 refine wpAny_bind (wpAny_newTuple ?_ (by rw[sizeLine_eq];simp;omega))
 refine wpAny_bind (wpAny_newList ?_)
 refine wpAny_holding ?_
 have ho6:(((s.heap.update a (Obj.mapSeq λ_=>#[])).push (seqObj "tuple" vs.toArray 0)).push (seqObj "list" #[] 0)).get? a=some (seqObj "list" #[] e1):=by
  rw[Heap.get?_push_ne _ _ _ (by rw[size_push',Heap.size_update];exact Nat.ne_of_lt (Nat.lt_succ_of_lt ha)),Heap.get?_push_ne _ _ _ (by rw[Heap.size_update];exact Nat.ne_of_lt ha)]
  exact ho1
 show wpAny (model prog w) A _ P E { s with heap:=((s.heap.update a (Obj.mapSeq λ_=>#[])).push (seqObj "tuple" vs.toArray 0)).push (seqObj "list" #[] 0) }
 dsimp only
 have hsz:vs.toArray.size=vs.length:=by simp
 have fin:∀ st':SortSt,(arrOf st').Perm (pairsOf vs)->P (.done (.ret .none)) { s with heap:=sortedHeap s.heap a vs ((arrOf st').map (·.2)) }:=by
  intro st' hp
  obtain⟨ns',h1,h2⟩:=ints_out hI hp
  exact h _ ns' h1 h2
 by_cases h2:vs.toArray.size<2
 ·rw[if_pos h2,if_pos h2]
  refine wpAny_bind (wpAny_pure ?_)
  rw[StateT.run_pure]
  refine wpAny_bind (wpAny_pure ?_)
  dsimp only
  refine wpAny_bind (seqEpoch_at ho6 rfl ?_)
  refine wpAny_bind (listUpdate_at ho6 rfl ?_ (hsz2:=by rw[Array.size_map];show (pairsOf vs).size<=_;rw[pairsOf_size,sizeLine_eq];omega))
  simp only[bne_self_eq_false,Bool.false_eq_true,if_false]
  exact wpAny_pure (fin (SortSt.mk' general' (vs.toArray.zip vs.toArray) #[] 7 none) (Array.Perm.refl _))
 ·rw[if_neg h2,if_neg h2]
  obtain⟨v₁,v₂,rest,rfl⟩:∃ v₁ v₂ rest,vs=v₁::v₂::rest:=by
   match vs,hsz,h2 with
   | [],_,h2=>simp at h2
   | [_],_,h2=>simp at h2
   | v₁::v₂::rest,_,_=>exact⟨v₁,v₂,rest,rfl⟩
  rw[keyKind_ints hI]
  refine wpAny_bind (wpAny_pure ?_)
  refine wpAny_bind (wpAny_mono (runs_ok (a0:=pairsOf (v₁::v₂::rest)) (st:=SortSt.mk' oneType' ((v₁::v₂::rest).toArray.zip (v₁::v₂::rest).toArray) #[] 7 none)
   (Q:=λ_ st'=>SI (pairsOf (v₁::v₂::rest)) st')
   hI.intKeys ⟨Array.Perm.refl _,rfl,rfl⟩ rfl λst' a1=>a1) ?_ λ_ _ e=>e)
  rintro⟨⟨⟩,st'⟩ s' ⟨rfl,hS⟩
  have hp:=hS.perm
  have hf:=hS.failed
  dsimp only
  refine wpAny_bind (seqEpoch_at ho6 rfl ?_)
  refine wpAny_bind (listUpdate_at ho6 rfl ?_ (hsz2:=by refine Nat.le_trans (Nat.le_of_eq ((Array.size_map ..).trans (hp.size_eq.trans (pairsOf_size _)))) ?_;rw[sizeLine_eq];omega))
  rw[hf]
  simp only[bne_self_eq_false,Bool.false_eq_true,if_false]
  exact wpAny_pure (fin st' hp)
theorem sorted_any {l:Addr}{vs:List Value}{ns:List Int}{Q:Value->Shared->Prop}(hl:s.heap.IsList l vs.toArray)(hI:IntsAre vs ns)(h64:vs.length<=1000)
  (h:∀ (out:Array Value) (ns':List Int),IntsAre out.toList ns'->ns'.Perm ns->Q (.ref (s.heap.objs.size+1)) { s with heap:=sortedAll s.heap vs out }) :
  wpAny (model prog w) A (call (.builtin "sorted") [.ref l]) Q E s:=by
 refine Calls.call_function_entry kind_sorted plain_sorted entry_sorted (args_sorted1 _) ?_
 unfold Builtin.«sorted»
 refine wpAny_bind (m:=checkCount "sorted" 1 1 _) (wpAny_pure ?_)
 refine wpAny_bind (collect_list hl ?_ (by rw[sizeLine_eq];omega))
 refine wpAny_bind (wpAny_newList ?_ (by rw[sizeLine_eq];omega))
 have hsz:((s.heap.push (seqObj "list" #[] 0)).update s.heap.objs.size (Obj.mapSeq (·++vs.toArray))).objs.size=s.heap.objs.size+1:=by
  rw[Heap.size_update,size_push']
 have hoL:(((s.heap.push (seqObj "list" #[] 0)).update s.heap.objs.size (Obj.mapSeq (·++vs.toArray))).push (seqObj "list" vs.toArray 0)).get? (s.heap.objs.size+1)=some (seqObj "list" vs.toArray 0):=by
  rw[<- hsz];exact Heap.get?_push_size _ rfl
 show wpAny _ _ _ _ _ { s with heap:=((s.heap.push (seqObj "list" #[] 0)).update s.heap.objs.size (Obj.mapSeq (·++vs.toArray))).push (seqObj "list" vs.toArray 0) }
 rw[hsz]
 refine wpAny_bind (wpAny_holding (wpAny_call_entry slot_list_sort ⟨_,hoL,rfl⟩ entry_list_sort (sort_any hoL hI h64 λout ns' a1 a2=>⟨_,rfl,?_⟩) (args_list_sort _)))
 exact wpAny_pure ⟨_,rfl,h out ns' a1 a2⟩
end
end SB
namespace L2
open PySem PySem.Spec PyProof.Rows
section
variable {X:Cx}
theorem log2_small {y:Int}(h0:0<y)(h:y<2 ^ 200):y.natAbs.log2<9000:=by
 have h1:y.natAbs≠0:=by omega
 have h2:y.natAbs.log2<200:=(Nat.log2_lt h1).mpr (by omega)
 omega
theorem op_fdivL:OpR X (binaryOp .FloorDiv) (rI (λ_ j=>0<j/\j<2 ^ 200) λi j=>.int (i / j)):=opI λi j _ _ _ _ _ hc q=>by
 refine floordiv_int (by omega) ?_ (.inl (PyProof.noPylong_of_log2 (log2_small hc.1 hc.2)))
 rw[Int.fdiv_eq_ediv_of_nonneg i (by omega)]
 exact q
theorem call_sum (hc:X.calm=true):CallR X (.builtin "sum") (λxs H Q=>∃ (p:Addr) (ns:List Int),xs=[.ref p]/\SqL X.K H p (ns.map V.int)/\Q (.int ns.sum) H):=by
 intro pins s σ H xs us Q I r h
 obtain⟨p,ns,rfl,hq,q⟩:=h
 obtain⟨u,rfl,rx⟩:=vals1 r
 cases rx
 obtain⟨its,r',pl,hz⟩:=I.list hq
 have hi:=intsAre_of r'
 obtain⟨xs,e⟩:=hi.allInts.items
 have hns:ns=xs.toList.map (·.1):=by rw[<- hi.numsOf,<- nums_intItems,<- e]
 have hl:=pl.isList
 rw[e] at hl
 refine sum_intListG (I.ok.hd hc) hl λh' tk t' hk=>⟨.int ns.sum,H,I.kept hk,⟨t',?_⟩,q⟩
 rw[preSum_eq,List.take_of_length_le (by simp),hns]
theorem call_max (hc:X.calm=true):CallR X (.builtin "max") (λxs H Q=>∃ (p:Addr) (ns:List Int),xs=[.ref p]/\SqL X.K H p (ns.map V.int)/\ns≠[]/\∀ M,M∈ns->(∀ a,a∈ns->a<=M)->Q (.int M) H):=by
 intro pins s σ H xs us Q I r h
 obtain⟨p,ns,rfl,hq,hne,q⟩:=h
 obtain⟨u,rfl,rx⟩:=vals1 r
 cases rx
 obtain⟨its,r',pl,hz⟩:=I.list hq
 have hi:=intsAre_of r'
 obtain⟨xs,e⟩:=hi.allInts.items
 have hns:ns=xs.toList.map (·.1):=by rw[<- hi.numsOf,<- nums_intItems,<- e]
 have hl:=pl.isList
 rw[e] at hl
 have hsz:0<xs.size:=by
  have h3:=List.length_pos_iff.mpr hne;rw[hns,List.length_map,Array.length_toList] at h3;exact h3
 refine max_intList (I.ok.hd hc) hl hsz λv h' tk hv hk=>?_
 obtain⟨t,rfl⟩:=intItems_at hv
 obtain⟨h1,h2⟩:=argBest_gt (numAt xs) (xs.size-1)
 refine⟨.int _,H,I.kept hk,⟨t,rfl⟩,q _ ?_ λa ha=>?_⟩
 ·rw[hns,numAt_eq];exact getD_mem (by rw[List.length_map,Array.length_toList];omega)
 ·rw[hns] at ha
  obtain⟨j,hj,rfl⟩:=mem_getD ha
  rw[List.length_map,Array.length_toList] at hj
  rw[<- numAt_eq];exact h2 j (by omega)
theorem call_min (hc:X.calm=true):CallR X (.builtin "min") (λxs H Q=>∃ (p:Addr) (ns:List Int),xs=[.ref p]/\SqL X.K H p (ns.map V.int)/\ns≠[]/\∀ M,M∈ns->(∀ a,a∈ns->M<=a)->Q (.int M) H):=by
 intro pins s σ H xs us Q I r h
 obtain⟨p,ns,rfl,hq,hne,q⟩:=h
 obtain⟨u,rfl,rx⟩:=vals1 r
 cases rx
 obtain⟨its,r',pl,hz⟩:=I.list hq
 have hi:=intsAre_of r'
 obtain⟨xs,e⟩:=hi.allInts.items
 have hns:ns=xs.toList.map (·.1):=by rw[<- hi.numsOf,<- nums_intItems,<- e]
 have hl:=pl.isList
 rw[e] at hl
 have hsz:0<xs.size:=by
  have h3:=List.length_pos_iff.mpr hne;rw[hns,List.length_map,Array.length_toList] at h3;exact h3
 refine min_intList (I.ok.hd hc) hl hsz λv h' tk hv hk=>?_
 obtain⟨t,rfl⟩:=intItems_at hv
 obtain⟨h1,h2⟩:=argBest_lt (numAt xs) (xs.size-1)
 refine⟨.int _,H,I.kept hk,⟨t,rfl⟩,q _ ?_ λa ha=>?_⟩
 ·rw[hns,numAt_eq];exact getD_mem (by rw[List.length_map,Array.length_toList];omega)
 ·rw[hns] at ha
  obtain⟨j,hj,rfl⟩:=mem_getD ha
  rw[List.length_map,Array.length_toList] at hj
  rw[<- numAt_eq];exact h2 j (by omega)
theorem call_sorted:CallR X (.builtin "sorted") (λxs H Q=>∃ (p:Addr) (ns:List Int),xs=[.ref p]/\SqL X.K H p (ns.map V.int)/\ns.length<=1000/\∀ (l:Addr) (ns':List Int),H l=none->ns'.Perm ns->Q (.ref l) (upd H l (.lst (ns'.map V.int)))):=by
 intro pins s σ H xs us Q I r h
 obtain⟨p,ns,rfl,hq,hle,q⟩:=h
 obtain⟨u,rfl,rx⟩:=vals1 r
 cases rx
 obtain⟨its,r',pl,hz⟩:=I.list hq
 have hi:=intsAre_of r'
 have hlen:=r'.length
 rw[List.length_map] at hlen
 refine SB.sorted_any pl.isList hi (by omega) λout ns' a1 a2=>?_
 obtain⟨e,he⟩:=sortedAll_at s.heap its out
 have hn:H (s.heap.objs.size+1)=none:=I.hok.fresh (Nat.le_succ _)
 refine⟨.ref (s.heap.objs.size+1),_,?_,rfl,q _ ns' hn a2⟩
 refine I.laid (t':=s.toks) (λ_ _=>sortedAll_old) (Nat.le_succ _) (show ObjOk X.prog X.w _ _ _ (.lst _) from ⟨?_,out.toList,e,vals_ints a1,he⟩)
 rw[List.length_map,a2.length_eq,sizeLine_eq];omega
def RV:Nat->Hp->V->PyData->Prop
 | _,_,.non,d=>d=.none
 | _,_,.bl b,d=>d=.bool b
 | _,_,.int i,d=>d=.int i
 | _,_,.str x,d=>d=.str x
 | n+1,H,.ref a,d=>(∃ xs ds,Rd H a (.lst xs)/\d=.list ds/\Paired (RV n H) xs ds)\/∃ xs ds,Rd H a (.tup xs)/\d=.tuple ds/\Paired (RV n H) xs ds
 | _,_,_,_=>False
structure Shw (d:PyData):Prop where
 sh:d.showable=true
 nd:d.hasDict=false
 dp:d.depth<=30
 sz:d.shown.length<=sizeLine
end
end L2
namespace L2
open PySem PySem.Spec PyProof.Rows
abbrev cxComp (X:Cx)(pins:List (Addr×Obj))(N':List Str)(scope:Scope)(cl:List (Str×Addr))(C:Addr)(s0:Shared)(H0:Hp)(fp:List Addr):Cx :=
 { X with N:=N',s₀:=s0,H₀:=H0,env:=compEnvC scope cl C X.env,outer:=X.stack,ex:=fp,fn:=λ_=>false,pn:=X.pn++pins,xe:=λ_ _=>False }
theorem find_names {k:NameKind}:∀ {names:List (Str×NameKind)} {x:Str},names.lookup x=some k->(x,k)∈names
 | (n,j)::r,x,h=>by
  rw[List.lookup_cons] at h
  cases e:x == n with
  | true =>
   rw[e] at h
   cases h
   rw[eq_of_beq e]
   exact List.mem_cons_self
  | false =>
   rw[e] at h
   exact List.mem_cons_of_mem _ (find_names h)
structure Clo (scope:Scope)(env:Env)(cl:List (Str×Addr)):Prop where
 eq:closureFor scope env=pure cl
 sub:∀ x c,cl.lookup x=some c->env.cells.lookup x=some c
 has:∀ x,(x,NameKind.free)∈scope.names->∃ c,cl.lookup x=some c
theorem clo_go {env:Env}:∀ (names:List (Str×NameKind)) (acc:List (Str×Addr)),(∀ x,(x,NameKind.free)∈names->∃ c,env.cells.lookup x=some c)->(∀ x c,acc.lookup x=some c->env.cells.lookup x=some c) ->
  ∃ cl,(forIn names acc λ(y:Str×NameKind) cs=>(if y.2 == NameKind.free then do let c <- cellOf env y.1;pure (ForInStep.yield ((y.1,c)::cs)) else pure (ForInStep.yield cs):Sem (ForInStep (List (Str×Addr)))))=pure cl /\
   (∀ x c,cl.lookup x=some c->env.cells.lookup x=some c)/\(∀ x,(x,NameKind.free)∈names->∃ c,cl.lookup x=some c)/\∀ x,(∃ c,acc.lookup x=some c)->∃ c,cl.lookup x=some c
 | [],acc,_,hs=>⟨acc,rfl,hs,λ_ h=>by simp at h,λ_ h=>h⟩
 | (n,k)::r,acc,hh,hs=>by
  by_cases hk:k=NameKind.free
  ·subst hk
   obtain⟨c,hc⟩:=hh n List.mem_cons_self
   obtain⟨cl,e,h1,h2,h3⟩:=clo_go r ((n,c)::acc) (λx hx=>hh x (List.mem_cons_of_mem _ hx)) (λx c' hx=>by
    rw[List.lookup_cons] at hx
    cases en:x == n with
    | true=>rw[en] at hx;cases hx;rw[eq_of_beq en];exact hc
    | false=>rw[en] at hx;exact hs x c' hx)
   refine⟨cl,?_,h1,λx hx=>?_,λx ⟨c',hx⟩=>?_⟩
   ·rw[List.forIn_cons]
    have ec:cellOf env n=pure c:=by unfold cellOf;rw[hc]
    simp only[beq_self_eq_true,if_true,ec,pure_bind]
    exact e
   ·rcases List.mem_cons.mp hx with hx | hx
    ·cases hx
     exact h3 n ⟨c,by rw[List.lookup_cons];simp⟩
    ·exact h2 x hx
   ·refine h3 x ?_
    cases en:x == n with
    | true=>exact⟨c,by rw[List.lookup_cons,en]⟩
    | false=>exact⟨c',by rw[List.lookup_cons,en];exact hx⟩
  ·obtain⟨cl,e,h1,h2,h3⟩:=clo_go r acc (λx hx=>hh x (List.mem_cons_of_mem _ hx)) hs
   refine⟨cl,?_,h1,λx hx=>?_,h3⟩
   ·rw[List.forIn_cons]
    have hb:(k == NameKind.free)=false:=by simpa using hk
    simp only[hb,Bool.false_eq_true,if_false,pure_bind]
    exact e
   ·rcases List.mem_cons.mp hx with hx | hx
    ·cases hx;exact absurd rfl hk
    ·exact h2 x hx
theorem clo_mk {scope:Scope}{env:Env}(h:∀ x,(x,NameKind.free)∈scope.names->∃ c,env.cells.lookup x=some c):∃ cl,Clo scope env cl:=by
 obtain⟨cl,e,h1,h2,_⟩:=clo_go (env:=env) scope.names [] h (λx c hx=>by simp at hx)
 exact⟨cl,by unfold closureFor;exact(by simpa using e),h1,h2⟩
def capOk (N':List Str)(caps:List (Option Nat))(N:List Str)(names names':List (Str×NameKind)):Bool :=
 (N'.length == caps.length)&&(N'.zip caps).all (λp=>match p.2 with
  | none=>true
  | some j=>N[j]? == some p.1&&names'.lookup p.1 == some .free) &&
 names'.all (λp=>p.2 != NameKind.cell&&(p.2 != NameKind.free || names.lookup p.1 == some .cell || names.lookup p.1 == some .free)&&(p.2 != NameKind.local || names'.lookup p.1 == some .local))
def capSt (caps:List (Option Nat))(σ:St):St:=caps.map λo=>match o with
 | none=>none
 | some j=>(σ[j]?).join
theorem relabel_free {env:Env}:∀ {names:List (Str×NameKind)} {x:Str},names.lookup x=some .free ->
  (names.map λ(n,k)=>if (k == NameKind.free&&env.scope.kind == .function&&env.kindOf n == some .cell) then (n,NameKind.cell) else (n,k)).lookup x=some .cell \/
  (names.map λ(n,k)=>if (k == NameKind.free&&env.scope.kind == .function&&env.kindOf n == some .cell) then (n,NameKind.cell) else (n,k)).lookup x=some .free
 | (n,k)::r,x,h=>by
  have ih:=@relabel_free env r x
  show List.lookup x ((if (k == NameKind.free&&env.scope.kind == .function&&env.kindOf n == some .cell)=true then (n,NameKind.cell) else (n,k))::_)=_ \/
   List.lookup x ((if (k == NameKind.free&&env.scope.kind == .function&&env.kindOf n == some .cell)=true then (n,NameKind.cell) else (n,k))::_)=_
  cases hx:x == n with
  | true =>
   simp only[List.lookup_cons,hx] at h
   cases h
   by_cases hc:(NameKind.free == NameKind.free&&env.scope.kind == .function&&env.kindOf n == some .cell)=true
   ·rw[if_pos hc];simp[List.lookup_cons,hx]
   ·rw[if_neg hc];simp[List.lookup_cons,hx]
  | false =>
   simp only[List.lookup_cons,hx] at h
   by_cases hc:(k == NameKind.free&&env.scope.kind == .function&&env.kindOf n == some .cell)=true
   ·rw[if_pos hc];simp only[List.lookup_cons,hx];exact ih h
   ·rw[if_neg hc];simp only[List.lookup_cons,hx];exact ih h
theorem relabel_back {env : Env} : ∀ {names : List (Str × NameKind)} {x : Str}, (∀ p ∈ names, p.2 ≠ .cell) →
    ((names.map fun (n, k) => if (k == NameKind.free && env.scope.kind == .function && env.kindOf n == some .cell) then (n, NameKind.cell) else (n, k)).lookup x = some .cell ∨
     (names.map fun (n, k) => if (k == NameKind.free && env.scope.kind == .function && env.kindOf n == some .cell) then (n, NameKind.cell) else (n, k)).lookup x = some .free) → (x, NameKind.free) ∈ names
  | [], x, _, h => by simp at h
  | (n, k) :: r, x, hc0, h => by
    have ih := @relabel_back env r x (fun p hp => hc0 p (List.mem_cons_of_mem _ hp))
    have hk0 : k ≠ .cell := hc0 (n, k) List.mem_cons_self
    rw [List.map_cons] at h
    generalize (r.map fun (x : Str × NameKind) => match x with | (n, k) => if (k == NameKind.free && env.scope.kind == ScopeKind.function && env.kindOf n == some NameKind.cell) = true then (n, NameKind.cell) else (n, k)) = R at h ih
    dsimp only at h
    by_cases hc : (k == NameKind.free && env.scope.kind == .function && env.kindOf n == some .cell) = true
    · rw [if_pos hc] at h
      cases hx : x == n with
      | true =>
        have hkf : k = .free := by
          rw [Bool.and_eq_true, Bool.and_eq_true] at hc
          exact eq_of_beq hc.1.1
        rw [eq_of_beq hx, hkf]; exact List.mem_cons_self
      | false =>
        rw [List.lookup_cons, hx] at h
        exact List.mem_cons_of_mem _ (ih h)
    · rw [if_neg hc] at h
      cases hx : x == n with
      | true =>
        rw [List.lookup_cons, hx] at h
        rcases h with h | h
        · exact absurd (Option.some.inj h) hk0
        · rw [eq_of_beq hx, Option.some.inj h]; exact List.mem_cons_self
      | false =>
        rw [List.lookup_cons, hx] at h
        exact List.mem_cons_of_mem _ (ih h)
section
variable {X:Cx}{pins:List (Addr×Obj)}{σ:St}{H:Hp}{s:Shared}
theorem comp_start {N':List Str}{caps:List (Option Nat)}{scope:Scope}{cl:List (Str×Addr)}{fp:List Addr}{h1:Heap}{tk:Nat}(I:Inv X pins σ H s)(hfp:∀ b∈fp,FpOk X pins H b)(hfo:∀ b∈fp,∃ o,s.heap.get? b=some o)
  (hcap:capOk N' caps X.N X.env.scope.names scope.names=true) (hkind:scope.kind=.function) (hC:Clo scope X.env cl)
  (hns:h1.Ns (s.heap.objs.size+1) λ_=>none) (hsb:Heap.SameBut (s.heap.objs.size+1) ((s.heap.push { cls:=.type "list",data:=.seq #[] }).push { cls:=.type "dict",data:=.dict #[] }) h1) :
  Inv (cxComp X pins N' scope cl (s.heap.objs.size+1) { s with heap:=s.heap.push { cls:=.type "list",data:=.seq #[] } } (upd H s.heap.objs.size (.lst [])) fp) [] (capSt caps σ) (upd H s.heap.objs.size (.lst [])) { s with heap:=h1,toks:=tk }:=by
 have hn:H s.heap.objs.size=none:=I.hok.fresh (Nat.le_refl _)
 have hz:(s.heap.push { cls:=.type "list",data:=.seq #[] }).objs.size=s.heap.objs.size+1:=Heap.size_push ..
 have up1:∀ b o,s.heap.get? b=some o->(s.heap.push { cls:=.type "list",data:=.seq #[] }).get? b=some o:=λb o e=>Heap.get?_push_of_some _ e
 have up2:∀ b o,(s.heap.push { cls:=.type "list",data:=.seq #[] }).get? b=some o->h1.get? b=some o:=λb o e=>by
  have hb:b<s.heap.objs.size+1:=by rw[<- hz];exact Heap.lt_size e
  exact hsb.extBut b o (Nat.ne_of_lt hb) (Heap.get?_push_of_some _ e)
 have I1:Inv X pins σ (upd H s.heap.objs.size (.lst [])) { s with heap:=s.heap.push { cls:=.type "list",data:=.seq #[] },toks:=s.toks } :=
  I.laid (t':=s.toks) up1 (Nat.le_refl _) (show ObjOk X.prog X.w _ _ _ (.lst []) from ⟨Nat.zero_le _,[],0,.nil,Heap.get?_push_size _ rfl⟩)
 obtain⟨hcap1,hcap3⟩:=Bool.and_eq_true_iff.mp hcap
 obtain⟨hcap1,hcap2⟩:=Bool.and_eq_true_iff.mp hcap1
 have hlen:N'.length=caps.length:=by simpa using hcap1
 have hcap3':=List.all_eq_true.mp hcap3
 have nocell:∀ p∈scope.names,p.2≠NameKind.cell:=λp hp=>by
  have:=hcap3' p hp
  simp only[Bool.and_eq_true,bne_iff_ne] at this
  exact this.1.1
 have hsub:=I.stkSub
 have ltS:∀ b o,s.heap.get? b=some o->b<s.heap.objs.size:=λb o e=>Heap.lt_size e
 refine⟨⟨I.ok.mod,hkind,I.ok.glob,I.ok.blt,Nat.le_of_eq hz,λx y c e1 e2=>I.ok.inj x y c (hC.sub x c e1) (hC.sub y c e2),λx hx=>?_,λx c hf=>absurd (show false=true from hf) Bool.false_ne_true,I.ok.hd,I.ok.frames,.inl rfl,λb hb=>?_,λb o e=>?_,?_,λb o e hb=>?_,λb hb hf=>?_,?_,λb hb=>?_⟩,
  rfl,I.bare,Un.kept up2,⟨_,hns,λi x v e1 e2 e3=>?_⟩,λx c e=>?_,?_,λx c e=>?_,λp hp=>?_,I1.hok.kept up2,?_⟩
 ·exact hC.has x (relabel_back nocell hx)
 ·obtain⟨o,ho⟩:=hfo b hb
  obtain⟨f0,f1,f2,f3,f4,f5⟩:=hfp b hb
  exact⟨Nat.ne_of_lt (Nat.lt_succ_of_lt (ltS b o ho)),λx c e=>f4 x c (hC.sub x c e)⟩
 ·have q:=I1.bs b o e
  exact q
 ·show X.base.objs.size<=(s.heap.push _).objs.size
  rw[hz]
  exact Nat.le_trans (Nat.le_trans I.ok.bsz I.sz) (Nat.le_succ _)
 ·obtain⟨f0,f1,f2,f3,f4,f5⟩:=hfp b hb
  rcases f3 with f3 | f3
  ·exact I.ok.noex b o e f3
  ·exact absurd (Nat.lt_of_lt_of_le (Heap.lt_size e) (Nat.le_trans I.ok.bsz f3)) (Nat.lt_irrefl _)
 ·obtain⟨f0,f1,f2,f3,f4,f5⟩:=hfp b hb
  rcases List.mem_cons.mp (hsub b hf) with z | z
  ·exact f1 z
  ·exact f2 z
 ·exact I1.stack
 ·exact I1.stkFree b hb
 ·
  have e2':∃ o,caps[i]?=some o/\(match o with | none=>none | some j=>(σ[j]?).join)=some v:=by
   unfold capSt at e2
   rw[List.getElem?_map] at e2
   cases q:caps[i]? with
   | none=>rw[q] at e2;cases e2
   | some o=>rw[q] at e2;exact⟨o,rfl,Option.some.inj e2⟩
  obtain⟨o,ho,hv⟩:=e2'
  cases o with
  | none=>cases hv
  | some j =>
   have hv':(σ[j]?).join=some v:=hv
   have hσ:σ[j]?=some (some v):=by
    cases q:σ[j]? with
    | none=>rw[q] at hv';cases hv'
    | some w=>rw[q] at hv';rw[show w=some v from hv']
   have hzip:(x,some j)∈N'.zip caps:=by
    refine List.mem_iff_getElem?.mpr ⟨i,?_⟩
    rw[List.getElem?_zip_eq_some]
    exact⟨e1,ho⟩
   have q:=List.all_eq_true.mp hcap2 _ hzip
   simp only[Bool.and_eq_true,beq_iff_eq] at q
   obtain⟨q1,q2⟩:=q
   have q3:=hcap3' _ (find_names q2)
   have q4:X.env.scope.names.lookup x=some .cell\/X.env.scope.names.lookup x=some .free:=by
    simp only[bne_self_eq_false,Bool.false_or,Bool.and_eq_true,Bool.or_eq_true,beq_iff_eq] at q3
    exact q3.1.2
   obtain⟨m,_,hl⟩:=I.loc
   obtain⟨u,ru,lk⟩:=hl j x v q1 hσ (.inr q4)
   refine⟨u,ru,.inr ⟨relabel_free q2,?_⟩⟩
   have q5:X.env.kindOf x=some .cell\/X.env.kindOf x=some .free:=q4
   rcases lk with ⟨k,_⟩ | ⟨_,c,ec,hc⟩
   ·rcases q5 with q5 | q5<;>(rw[q5] at k;cases k)
   ·obtain⟨c',ec'⟩:=hC.has x (find_names q2)
    have:=hC.sub x c' ec'
    rw[ec] at this
    cases this
    obtain⟨oc,hoc,hdc⟩:=hc
    exact⟨c,ec',oc,up2 _ _ (up1 _ _ hoc),hdc⟩
 ·obtain⟨v,oc,hoc,hdc⟩:=I.cell x c (hC.sub x c e)
  exact⟨v,oc,up2 _ _ (up1 _ _ hoc),hdc⟩
 ·show upd H _ _ (s.heap.objs.size+1)=none
  rw[upd_ne (Nat.ne_of_gt (Nat.lt_succ_self _))]
  exact I.hok.fresh (Nat.le_succ _)
 ·exact I1.freeC x c (hC.sub x c e)
 ·have hp':p∈X.pn++pins:=by simpa using hp
  obtain⟨a1,a2,a3,a4,a5⟩:=I1.pin p hp'
  obtain⟨b1,_,_,_,_⟩:=I.pin p hp'
  refine⟨up2 _ _ a1,a2,Nat.ne_of_lt (Nat.lt_succ_of_lt (ltS _ _ b1)),λhf=>?_,a5⟩
  rcases List.mem_cons.mp (hsub p.1 hf) with z | z
  ·exact a3 z
  ·exact a4 z
 ·show (capSt caps σ).length=N'.length
  unfold capSt
  rw[List.length_map,hlen]
theorem comp_back {N':List Str}{scope:Scope}{cl:List (Str×Addr)}{fp:List Addr}{C:Addr}{pins':List (Addr×Obj)}{σ':St}{H':Hp}{s':Shared}(I:Inv X pins σ H s)(hfp:∀ b∈fp,FpOk X pins H b)
  (J:Inv (cxComp X pins N' scope cl C { s with heap:=s.heap.push { cls:=.type "list",data:=.seq #[] } } (upd H s.heap.objs.size (.lst [])) fp) pins' σ' H' s'):Inv X pins σ H' s':=by
 have hn:H s.heap.objs.size=none:=I.hok.fresh (Nat.le_refl _)
 refine I.call' (ch:=fp) J.os ?_ J.hok J.bare λb hb=>?_
 ·exact(Un.laid (λb o e=>Heap.get?_push_of_some _ e) (Nat.le_refl _) hn).trans J.base
 ·obtain⟨f0,f1,f2,f3,f4,f5⟩:=hfp b hb
  exact⟨f3,f1,f4,f5⟩
end
end L2
namespace L2
open PySem PySem.Spec PyProof.Rows
def PIfs (X:Cx)(ifs:List Expr)(t:TT):Prop :=
 ∀ (pins:List (Addr×Obj)) (s:Shared) (σ:St) (H:Hp) (Q:Bool->Hp->Prop),Inv X pins σ H s->t σ H Q ->
  wpAny (model X.prog X.w) X.A (forIn ifs true λc r=>if r=true then do let ok <- isTrue c X.env (eval c X.env);pure (ForInStep.yield ok) else pure (ForInStep.yield r)) (TP X pins σ Q) X.xe s
def tYes:TT:=λ_ H Q=>Q true H
theorem pifs_nil {X:Cx}:PIfs X [] tYes:=λ_ _ _ H _ I h=>wpAny_tests_nil ⟨H,I,h⟩
theorem pifs_one {X:Cx}{c:Expr}{t:TT}(h:PT X c t):PIfs X [c] t:=λpins s σ H Q I q=>wpAny_tests_one (h pins s σ H Q I q)
def compRead (J:It)(D:Addr)(g:TG)(tt:TT)(te:TE)(σ0:St)(H0:Hp)(Q:Hp->Prop):Prop :=
 ∃ W:Nat->Nat->St->Hp->Prop,(∃ m,W 0 m σ0 H0)/\∀ i m σ' H',W i m σ' H' ->
  (J.stop i H'/\Q H')\/(J.go i H'/\∃ N:St->Hp->Prop,(∀ σ' H',N σ' H'->∃ m',m'<m/\W (i+1) m' σ' H')/\∀ x H2,J.yld i H' x H2->g x σ' H2 λσ2 H3=>tt σ2 H3 λb H4 =>
   if b=true then te σ2 H4 λv H5=>∃ ys,H5 D=some (.lst ys)/\ys.length<sizeLine/\N σ2 (upd H5 D (.lst (ys++[v]))) else N σ2 H4)
def tComp (caps:List (Option Nat))(wi:TI)(g:TG)(tt:TT)(te:TE):TE:=λσ H Q=>wi σ H λJ H1=>∀ D,H1 D=none->compRead J D g tt te (capSt caps σ) (upd H1 D (.lst [])) λH2=>Q (.ref D) H2
section
variable {X:Cx}{tg elt iter:Expr}{ifs:List Expr}{scope:Scope}{pos:Pos}
theorem comp_loop {X':Cx}{fp:List Addr}{it D:Addr}{tn:Nat->Heap->Prop}{J:It}{g:TG}{tt:TT}{te:TE}{σ0:St}{H0:Hp}{s:Shared}{R:Result->Shared->Prop}{Qe:Hp->Prop}(hc:X'.calm=true)(hxe:X'.xe=λ_ _=>False)
  (T:Turn X'.prog X'.w X'.K tg J fp it tn) (hg:PG X' tg g) (ht:PIfs X' ifs tt) (he:PE X' elt te) (I:Inv X' [] σ0 H0 s) (hf:∀ b∈fp,FpOk X' [] H0 b) (st:tn 0 s.heap) (q:compRead J D g tt te σ0 H0 Qe)
  (hR:∀ s' σ' H',Inv X' [] σ' H' s'->Qe H'->R (.ok .next) s') :
  codeAny (model X'.prog X'.w) X'.A (.compLoop (.ListComp elt [⟨tg,iter,ifs,0⟩] scope pos) 0 (.ref it) (.ref D) X'.env) R s:=by
 obtain⟨W,⟨m0,w0⟩,turn⟩:=q
 have stat:∀ {H':Hp},(∀ b∈fp,H' b=none)->∀ b∈fp,FpOk X' [] H' b:=λhn b hb=>⟨hn b hb,(hf b hb).2⟩
 refine codeAny_loop rfl (λn s'=>∃ i σ' H',Inv X' [] σ' H' s'/\tn i s'.heap/\(∀ b∈fp,H' b=none)/\W i n σ' H') ?_ m0 ⟨0,σ0,H0,I,st,λb hb=>(hf b hb).1,w0⟩
 rintro n s3 ⟨i,σ3,H3,I3,st3,fr3,w3⟩
 show wpAny _ X'.A ((compTurn (.ListComp elt [⟨tg,iter,ifs,0⟩] scope pos) 0 (.ref it) (.ref D) X'.env).onRaise (λx=>do noteFrame x X'.env;theTreesLotGoes x)) _ _ s3
 refine wpAny_noted ?_
 rw[compTurn_list]
 have no:∀ {α:Type} {t:Sem α} {Q:α->Shared->Prop} {s':Shared} {E':Value->Shared->Prop},wpAny (model X'.prog X'.w) X'.A t Q X'.xe s'->wpAny (model X'.prog X'.w) X'.A t Q E' s':=λh=>wpAny_mono h (λ_ _ x=>x) λ_ _ x=>by rw[hxe] at x;exact x.elim
 refine wpAny_bind (wpAny_standAt ?_)
 rcases turn i n σ3 H3 w3 with ⟨stop,qn⟩ | ⟨go,N,hN,step⟩
 ·refine wpAny_bind (thn (T.done X' rfl rfl rfl hc i [] s3 σ3 H3 _ I3 (stat fr3) st3 stop) λr s4 ⟨hr,I4⟩=>?_)
  subst hr
  exact wpAny_pure (hR _ _ _ I4 qn)
 ·refine wpAny_bind (thn (T.item X' rfl rfl rfl hc i [] s3 σ3 H3 _ I3 (stat fr3) st3 go) λr s4 ⟨u,hr,h4⟩=>?_)
  subst hr
  refine wpAny_bind (thn h4 λ_ s5 ⟨x,H5,I5,r5,y5,st5,fr5⟩=>?_)
  have I5':=I5.pinned (stat fr5) (T.obj _ _ st5)
  have again:∀ {σ7:St} {H7:Hp} {s7:Shared},Inv X' ([]++pinsAt fp s5.heap) σ7 H7 s7->N σ7 H7->∃ m,m<n/\∃ i σ' H',Inv X' [] σ' H' s7/\tn i s7.heap/\(∀ b∈fp,H' b=none)/\W i m σ' H':=λ{σ7 H7 s7} I7 n7=>by
   obtain⟨m',hm,w7⟩:=hN σ7 H7 n7
   refine⟨m',hm,i+1,σ7,H7,I7.unpinned,T.keep _ _ _ st5 λb hb o e=>(I7.pin (b,o) (List.mem_append_right _ (List.mem_append_right _ (mem_pinsAt hb e)))).1,λb hb=>?_,w7⟩
   obtain⟨o,e,d⟩:=T.obj _ _ st5 b hb
   exact(I7.pin (b,o) (List.mem_append_right _ (List.mem_append_right _ (mem_pinsAt hb e)))).2.1
  refine wpAny_bind (thn (no (hg _ s5 σ3 H5 x u _ I5' r5 (step x H5 y5))) λ_ s6 ⟨σ6,H6,I6,q6⟩=>?_)
  refine wpAny_bind (thn (no (ht _ s6 σ6 H6 _ I6 q6)) λb s7 ⟨H7,I7,q7⟩=>?_)
  cases b with
  | false=>exact wpAny_pure ⟨rfl,again I7 q7⟩
  | true =>
   refine wpAny_bind (wpAny_bind (thn (no (he _ s7 σ6 H7 _ I7 q7)) λv s8 ⟨y,H8,I8,r8,q8⟩=>?_))
   obtain⟨ys,hD,hsz,q8⟩:=q8
   refine wpAny_bind (thn (no (mt_append (X:=X') _ s8 σ6 H8 (.ref D) [y] (Value.ref D) [v] (λ_ H9=>N σ6 H9) I8 rfl (.cons r8 .nil) ⟨D,ys,y,rfl,rfl,hD,hsz,q8⟩)) λ_ s9 ⟨z,H9,I9,_,q9⟩=>?_)
   exact wpAny_pure (wpAny_pure ⟨rfl,again I9 q9⟩)
theorem vis_free {N':List Str}{caps:List (Option Nat)}{N:List Str}{names names':List (Str×NameKind)}(h:capOk N' caps N names names'=true):(∀ p∈names',p.2≠NameKind.cell)/\(∀ x,(x,NameKind.free)∈names'->names.lookup x=some .cell\/names.lookup x=some .free)/\∀ p∈names',p.2=.local->names'.lookup p.1=some .local:=by
 have h3:=List.all_eq_true.mp (Bool.and_eq_true_iff.mp h).2
 refine⟨λp hp=>?_,λx hx=>?_,λp hp hl=>?_⟩
 ·have:=h3 p hp
  simp only[Bool.and_eq_true,bne_iff_ne] at this
  exact this.1.1
 ·have:=h3 _ hx
  simp only[bne_self_eq_false,Bool.false_or,Bool.and_eq_true,Bool.or_eq_true,beq_iff_eq] at this
  exact this.1.2
 ·have:=h3 p hp
  rw[hl] at this
  simp only[bne_self_eq_false,Bool.false_or,Bool.and_eq_true,beq_iff_eq] at this
  exact this.2
theorem comp_block {N':List Str}{caps:List (Option Nat)}{pins:List (Addr×Obj)}{σ:St}{H:Hp}{s:Shared}{J:It}{fp:List Addr}{it:Addr}{tn:Nat->Heap->Prop}{g:TG}{tt:TT}{te:TE}{cl:List (Str×Addr)}{RR:Value->Addr->Result->Shared->Prop}{Qe:Addr->Hp->Prop}
  (hc:X.calm=true) (hcap:capOk N' caps X.N X.env.scope.names scope.names=true) (hkind:scope.kind=.function) (hC:Clo scope X.env cl)
  (hg:∀ C s0 H0 fp,PG (cxComp X pins N' scope cl C s0 H0 fp) tg g) (ht:∀ C s0 H0 fp,PIfs (cxComp X pins N' scope cl C s0 H0 fp) ifs tt) (he:∀ C s0 H0 fp,PE (cxComp X pins N' scope cl C s0 H0 fp) elt te)
  (I:Inv X pins σ H s) (T:Turn X.prog X.w X.K tg J fp it tn) (st:tn 0 s.heap) (hf:∀ b∈fp,FpOk X pins H b) (q:∀ D,H D=none->compRead J D g tt te (capSt caps σ) (upd H D (.lst [])) (Qe D))
  (hR:∀ (D C:Addr) (s':Shared) (H':Hp),Inv X pins σ H' s'->Qe D H'->D≠C->(∃ o m,s'.heap.get? C=some o/\(∀ v,o.data≠.cell v)/\(∀ h2:Heap,h2.get? C=some o->h2.Ns C m))->H' C=none->s.heap.objs.size<=C->RR (.ref D) C (.ok .next) s') :
  wpAny (model X.prog X.w) X.A (newList []) (λacc s₃=>wpAny (model X.prog X.w) X.A (newFunctionEnv scope X.env.globals cl [] X.env.qual none .none (some X.env)) (λcenv s₄ =>
   codeAny (model X.prog X.w) X.A (.compStart (.ListComp elt [⟨tg,iter,ifs,0⟩] scope pos) 0 (.ref it) acc { cenv with scope:=relabel scope X.env }) (RR acc cenv.locals) s₄) X.xe s₃) X.xe s:=by
 refine wpAny_newObj_type (wpAny_newFunctionEnv (vis_free hcap).1 (by intro y hy;simp at hy) (λh₁ hns₁ hsb₁=>?_) hkind)
 have hz:(s.heap.push { cls:=.type "list",data:=.seq #[] }).objs.size=s.heap.objs.size+1:=Heap.size_push ..
 have hns:h₁.Ns (s.heap.objs.size+1) λ_=>none:=by rw[<- hz];exact hns₁
 have hsb:Heap.SameBut (s.heap.objs.size+1) ((s.heap.push { cls:=.type "list",data:=.seq #[] }).push { cls:=.type "dict",data:=.dict #[] }) h₁:=by rw[<- hz];exact hsb₁
 have hfo:∀ b∈fp,∃ o,s.heap.get? b=some o:=λb hb=>let ⟨o,e,_⟩:=T.obj 0 _ st b hb;⟨o,e⟩
 have I1:=comp_start (tk:=s.toks+([]:List (Str×Value)).length) I hf hfo hcap hkind hC hns hsb
 have hn:H s.heap.objs.size=none:=I.hok.fresh (Nat.le_refl _)
 have up:∀ b o,s.heap.get? b=some o->h₁.get? b=some o:=λb o e =>
  hsb.extBut b o (Nat.ne_of_lt (Nat.lt_succ_of_lt (Heap.lt_size e))) (Heap.get?_push_of_some _ (Heap.get?_push_of_some _ e))
 have st1:tn 0 h₁:=T.keep _ _ _ st λb _ o e=>up b o e
 have f1:∀ b∈fp,FpOk (cxComp X pins N' scope cl (s.heap.objs.size+1) { s with heap:=s.heap.push { cls:=.type "list",data:=.seq #[] } } (upd H s.heap.objs.size (.lst [])) fp) [] (upd H s.heap.objs.size (.lst [])) b:=λb hb=>by
  obtain⟨a0,a1,a2,a3,a4,a5⟩:=hf b hb
  obtain⟨o,ho⟩:=hfo b hb
  have hlt:=Heap.lt_size ho
  refine⟨by rw[upd_ne (Nat.ne_of_lt hlt)];exact a0,Nat.ne_of_lt (Nat.lt_succ_of_lt hlt),λz=>?_,.inl hb,λx c e=>a4 x c (hC.sub x c e),λp hp=>a5 p (by simpa using hp)⟩
  rcases List.mem_cons.mp (I.stkSub b z) with z | z
  ·exact a1 z
  ·exact a2 z
 have loop:codeAny (model X.prog X.w) X.A (.compLoop (.ListComp elt [⟨tg,iter,ifs,0⟩] scope pos) 0 (.ref it) (.ref s.heap.objs.size) (compEnvC scope cl (s.heap.objs.size+1) X.env))
   (RR (.ref s.heap.objs.size) (s.heap.objs.size+1)) { s with heap:=h₁,toks:=s.toks+([]:List (Str×Value)).length }:=by
  refine comp_loop (X':=cxComp X pins N' scope cl (s.heap.objs.size+1) { s with heap:=s.heap.push { cls:=.type "list",data:=.seq #[] } } (upd H s.heap.objs.size (.lst [])) fp) hc rfl T (hg _ _ _ _) (ht _ _ _ _) (he _ _ _ _) I1 f1 st1 (q _ hn) λs' σ' H' J' qe=>?_
  have B:=comp_back I hf J'
  obtain⟨m,hnC,_⟩:=J'.loc
  obtain⟨o,es,ep,ho,hd,r⟩:=id hnC
  exact hR _ _ s' H' B qe (Nat.ne_of_lt (Nat.lt_succ_self _)) ⟨o,m,ho,(λv z=>by rw[hd] at z;cases z),λh2 e2=>⟨o,es,ep,e2,hd,r⟩⟩ J'.free (Nat.le_succ _)
 have fin:=codeAny_compStart_list loop (T.self _ _ _ _ _ st1 loop)
 have hz2:(s.heap.push { cls:=.type "list",dict:=none,data:=.seq ([]:List Value).toArray }).objs.size=s.heap.objs.size+1:=hz
 show codeAny _ _ (.compStart _ 0 _ _ { (newEnv scope (s.heap.push { cls:=.type "list",dict:=none,data:=.seq ([]:List Value).toArray }).objs.size X.env.globals cl X.env.qual none .none (some X.env) _) with scope:=relabel scope X.env }) (RR _ (s.heap.push { cls:=.type "list",dict:=none,data:=.seq ([]:List Value).toArray }).objs.size) _
 rw[hz2]
 exact fin
theorem clo_of {N':List Str}{caps:List (Option Nat)}{pins:List (Addr×Obj)}{σ:St}{H:Hp}{s:Shared}(I:Inv X pins σ H s)(hcap:capOk N' caps X.N X.env.scope.names scope.names=true):∃ cl,Clo scope X.env cl :=
 clo_mk λx hx=>I.ok.has x ((vis_free hcap).2.1 x hx)
theorem pe_comp (N':List Str)(caps:List (Option Nat)){wi:TI}{g:TG}{tt:TT}{te:TE}(hc:X.calm=true)(hi:PI X tg iter wi)
  (hg:∀ pins cl C s0 H0 fp,PG (cxComp X pins N' scope cl C s0 H0 fp) tg g) (ht:∀ pins cl C s0 H0 fp,PIfs (cxComp X pins N' scope cl C s0 H0 fp) ifs tt) (he:∀ pins cl C s0 H0 fp,PE (cxComp X pins N' scope cl C s0 H0 fp) elt te)
  (hcap:capOk N' caps X.N X.env.scope.names scope.names=true:=by rfl) (hkind:scope.kind=.function:=by rfl) (hs:∀ x,foldedSetIterable iter X.env x=pure x:=by intro _;rfl) :
  PE X (.ListComp elt [⟨tg,iter,ifs,0⟩] scope pos) (tComp caps wi g tt te):=by
 intro pins s σ H Q I h
 obtain⟨cl,hC⟩:=clo_of I hcap
 rw[eval_ListComp]
 refine wpAny_comprehension_free (use:=none) rfl hs hC.eq hkind (vis_free hcap).2.2 (thn (hi pins s σ H _ I h) λv s1 h1=>thn h1 λitv s2 h2=>?_)
 obtain⟨it,fp,tn,J,H2,e,I2,T,st2,f2,q2⟩:=h2
 subst e
 refine comp_block (RR:=λacc C=>compPost (model X.prog X.w) X.A X.xe none (EP X pins σ Q) acc C) (Qe:=λD H'=>Q (.ref D) H') hc hcap hkind hC (hg pins cl) (ht pins cl) (he pins cl) I2 T st2 f2 q2 λD C s' H' I' q' hDC hCo hCn hCs=>?_
 obtain⟨o,m,ho,hd,hns⟩:=hCo
 refine⟨m,hns _ ho,λh' hsb=>⟨.ref D,H',?_,rfl,q'⟩⟩
 obtain⟨hp',g',d',t',os'⟩:=s'
 have hC0:X.s₀.heap.objs.size<=C:=Nat.le_trans I2.sz hCs
 exact I'.turned (t':=t') (it:=C) (λb o hb e=>hsb.extBut b o hb e) hCn (λz=>by
  have:=I2.lt;rw[<- z] at this;exact absurd (Nat.lt_of_lt_of_le this hCs) (Nat.lt_irrefl _)) (.inr hC0) (λx c e z=>by
  obtain⟨v,q⟩:=I2.cell x c e
  exact absurd (Nat.lt_of_lt_of_le q.lt (by rw[z];exact hCs)) (Nat.lt_irrefl _)) (λp hp z=>by
  exact absurd (Nat.lt_of_lt_of_le (Heap.lt_size (I2.pin p hp).1) (by rw[z];exact hCs)) (Nat.lt_irrefl _))
end
end L2
namespace L2
open PySem PySem.Spec PyProof.Rows
section
variable {X:Cx}
def isTy (t:String)(c:String):Bool:=t == c || (t == "bool"&&c == "int")
theorem kit_ty {K:W.Frag}(t c:String)(ht:t∈["NoneType","bool","int","str","list","tuple","dict"])(hc:c∈["bool","int","str","list","tuple","dict"]):W.kitOne K (.type t) (.type c)=some (isTy t c):=by
 simp only[List.mem_cons,List.not_mem_nil,or_false] at ht hc
 rcases ht with rfl | rfl | rfl | rfl | rfl | rfl | rfl<;>rcases hc with rfl | rfl | rfl | rfl | rfl | rfl<;>rfl
theorem call_isinstance:CallR X (.builtin "isinstance") (λxs H Q=>∃ x t c,xs=[x,.ty c]/\TyOf X.K H x (.type t)/\t∈["NoneType","bool","int","str","list","tuple","dict"]/\c∈["bool","int","str","list","tuple","dict"]/\Q (.bl (isTy t c)) H):=by
 intro pins s σ H xs us Q I r h
 obtain⟨x,t,c,rfl,ty,ht,hc,q⟩:=h
 obtain⟨u,w',rfl,rx,ry⟩:=vals2 r
 cases ry
 exact isinst_ok I rx ty (kit_ty t c ht hc) λtk=>⟨.bl _,H,I.tok tk,rfl,q⟩
theorem pe_tyn {x:Str}{T:String}{pos:Pos}(hg:Gl X x)(hm:X.mg x=none)(hv:bootBuiltins x=some (.type T))(hn:x≠"__name__":=by decide)(hd:(x == ("__debug__":Str))=false:=by decide):PE X (.Name x pos) (tC (.ty T)) :=
 pe_bltn hg hm hv rfl hn hd
end
end L2
namespace L2
open PySem PySem.Spec PyProof.Rows
section
variable {X:Cx}
theorem all_range_eq:∀ (ns ms:List Int),ns.length=ms.length->((List.range ns.length).all λj=>decide (ns.getD j 0=ms.getD j 0))=decide (ns=ms):=by
 intro ns ms hl
 by_cases h:ns=ms
 ·subst h;simp
 ·rw[decide_eq_false h]
  cases hc:((List.range ns.length).all λj=>decide (ns.getD j 0=ms.getD j 0)) with
  | false=>rfl
  | true =>
   exfalso
   apply h
   rw[List.all_eq_true] at hc
   apply List.ext_getElem hl
   intro i h1 h2
   have:=hc i (List.mem_range.mpr h1)
   have e:=of_decide_eq_true this
   rw[List.getD_eq_getElem?_getD,List.getD_eq_getElem?_getD,List.getElem?_eq_getElem h1,List.getElem?_eq_getElem h2] at e
   exact e
theorem ints_at {ns:List Int}:∀ {us:List Value},IntsAre us ns->∀ (j:Nat) (h:j<us.toArray.size),∃ t,us.toArray[j]=.int (ns.getD j 0) t:=by
 induction ns with
 | nil=>intro us h j hj;cases h;simp at hj
 | cons n ns ih =>
  intro us h j hj
  cases h with
  | cons _ t h =>
   cases j with
   | zero=>exact⟨t,by simp⟩
   | succ j =>
    obtain⟨t',e⟩:=ih h j (by simpa using hj)
    exact⟨t',by simpa using e⟩
def rEqI (K:W.Frag)(neg:Bool):R2:=λx y H Q=>∃ (p q:Addr) (ns ms:List Int),x=.ref p/\y=.ref q/\SqL K H p (ns.map V.int)/\SqL K H q (ms.map V.int)/\Q (.bl (if neg then !decide (ns=ms) else decide (ns=ms))) H
theorem op_eqI {k:Nat}(hr:Room k X.A):OpR X (compareOp .Eq) (rEqI X.K false):=by
 intro pins s σ H x y v u Q I rx ry h
 obtain⟨p,q,ns,ms,rfl,rfl,h1,h2,qq⟩:=h
 cases rx;cases ry
 obtain⟨its,r1,p1,_⟩:=I.list h1
 obtain⟨its2,r2,p2,_⟩:=I.list h2
 have i1:=intsAre_of r1
 have i2:=intsAre_of r2
 have l1:=r1.length
 have l2:=r2.length
 rw[List.length_map] at l1 l2
 by_cases hl:ns.length=ms.length
 ·refine SeqAt.eq_listAt (e:=λj=>decide (ns.getD j 0=ms.getD j 0)) p1.isList p2.isList (by simp only[List.size_toArray];omega) hr.units0 (λj a1 a2=>?_) ?_
  ·obtain⟨t1,e1⟩:=ints_at i1 j a1
   obtain⟨t2,e2⟩:=ints_at i2 j a2
   rw[e1,e2]
   have:=SeqAt.EqAt.int_int (A:=X.A.in1) (s:=s) (ns.getD j 0) t1 (ms.getD j 0) t2
   rw[Bool.beq_eq_decide_eq] at this
   exact this
  ·rw[show its.toArray.size=ns.length by simp only[List.size_toArray];omega,all_range_eq ns ms hl]
   exact⟨.bl _,H,I,rfl,qq⟩
 ·refine SeqAt.eq_list_lengthsAt p1.isList p2.isList (by simp only[List.size_toArray,bne_iff_ne];omega) hr.units0 ⟨.bl false,H,I,rfl,?_⟩
  have:decide (ns=ms)=false:=decide_eq_false λe=>hl (by rw[e])
  rw[this] at qq
  exact qq
def Itd (hi:Int)(n:Nat):It:=⟨λi _=>i<n,λi H x H'=>H'=H/\x=.int (hi-i),λi _=>n<=i⟩
theorem turn_down {P:Program}{w:World}{K:PySem.W.Frag}{tg:Expr}(it:Addr)(hi:Int)(n:Nat):Turn P w K tg (Itd hi n) [it] it (λi h=>IsRangeIter h it (hi+(i:Nat)*-1) ((n:Int)-(i:Nat)) (-1)) where
 mem:=by simp
 obj:=λi h st b hb=>by
  have e:b=it:=by simpa using hb
  subst e
  exact⟨_,st,λv z=>by
   have z':Data.fields _=Data.cell v:=z
   cases z'⟩
 keep:=λi h h' st k=>k it (by simp) _ st
 item:=by
  intro X hP hw hK hc i pins s σ H E I hf st hg
  subst hP hw hK
  obtain⟨f0,f1,f2,f3,f4,f5⟩:=hf it (by simp)
  have W:=Walks.range (prog:=X.prog) (w:=X.w) (I.ok.hd hc) it hi (-1) n
  refine W.item i s _ _ hg st λv h' tk hv st' kk=>?_
  obtain⟨t,rfl⟩:=hv
  have I1:Inv X pins σ H { s with heap:=h',toks:=tk }:=I.turned (λb o hb e=>kk b o (by simpa using hb) e) f0 f1 f3 f4 f5
  refine⟨_,rfl,go_of (s:={ s with heap:=h',toks:=tk }) (n:="range_iterator") st' rfl rfl (by decide) ⟨.int (hi-i),H,I1,⟨t,?_⟩,⟨rfl,rfl⟩,st',λb hb=>(hf b hb).1⟩⟩
  congr 1;omega
 done:=by
  intro X hP hw hK hc i pins s σ H E I hf st hg
  subst hP hw hK
  obtain⟨f0,f1,f2,f3,f4,f5⟩:=hf it (by simp)
  exact wpAny_pyNext_range_end (I.ok.hd hc) st (by have:n<=i:=hg;omega) λh' eb=>⟨rfl,I.turned (t':=s.toks) (λb o hb e=>eb b o hb e) f0 f1 f3 f4 f5⟩
 self:=λ_ _ _ _ _ st h=>wpAny_pyIter_rangeiter st h
theorem rangeSize_down (a b:Int):Builtin.Range.rangeSize a b (-1)=if b<a then a-b else 0:=by
 unfold Builtin.Range.rangeSize
 simp only[show ¬ ((-1:Int) > 0) by decide,if_false]
 rw[show (- -1:Int)=1 by decide,Int.ediv_one]
 split<;>omega
theorem small_down {a b:Int}(ha:-(2 ^ 61)<=a)(ha':a<2 ^ 61)(hb:-(2 ^ 61)<=b)(hb':b<2 ^ 61):Builtin.Range.small a b (-1)=true:=by
 unfold Builtin.Range.small
 rw[rangeSize_down]
 simp only[Builtin.Range.rangeFitsLong,Bool.and_eq_true,Bool.or_eq_true,decide_eq_true_eq,beq_iff_eq,show ¬ ((-1:Int) > 0) by decide,if_false]
 split<;>omega
def iRngD (ta:TA):TI:=λσ H R=>ta σ H λvs H1=>∃ i j:Int,vs=[.int i,.int j,.int (-1)]/\(-(2 ^ 61)<=i/\i<2 ^ 61/\-(2 ^ 61)<=j/\j<2 ^ 61)/\R (Itd i (i-j).toNat) H1
theorem pi_down {tg a b c:Expr}{ta:TA}{p pos:Pos}(hg:Gl X "range")(hm:X.mg "range"=none)(ha:PA X [a,b,c] ta)(hs:starEach [a,b,c] X.env=[(false,eval a X.env),(false,eval b X.env),(false,eval c X.env)]:=by rfl)(hs2:starEach [b,c] X.env=[(false,eval b X.env),(false,eval c X.env)]:=by rfl) :
  PI X tg (.Call (.Name "range" p) [a,b,c] [] pos) (iRngD ta):=by
 intro pins s σ H R I h
 refine Call_ (ld_blt I hg hm boot_range (PyProof.Rows.callWith_type1 (thn (ha pos pins s σ H _ I h) λus s1 ⟨vs,H1,I1,r1,q1⟩=>?_) (by rw[hs,hs2]) (by rw[hs2];rfl)))
 obtain⟨i,j,e,⟨q1,q2,q3,q4⟩,q⟩:=q1
 subst e
 cases r1 with
 | cons r rr =>
  cases rr with
  | cons r' rr =>
   cases rr with
   | cons r'' rr =>
    cases rr
    obtain⟨t,rfl⟩:=r
    obtain⟨t',rfl⟩:=r'
    obtain⟨t'',rfl⟩:=r''
    refine call_range_3 (by decide) ?_ (.inl (PyProof.noPylong_small (by decide)))
    refine wpAny_pyIter_range (IsRange.new ..) (small_down q1 q2 q3 q4) ?_
    have I2:Inv X pins σ H1 { s1 with heap:=s1.heap.push { cls:=.type "range",data:=.fields #[.int i t,.int j t',.int (-1) t''] },toks:=s1.toks }:=I1.kept λb o e=>Heap.get?_push_of_some _ e
    refine⟨(s1.heap.push { cls:=.type "range",data:=.fields #[.int i t,.int j t',.int (-1) t''] }).objs.size,[(s1.heap.push { cls:=.type "range",data:=.fields #[.int i t,.int j t',.int (-1) t''] }).objs.size],_,_,H1,rfl,
     I2.kept (t':=s1.toks) λb o e=>Heap.get?_push_of_some _ e,turn_down _ i (i-j).toNat,?_,λb hb=>?_,q⟩
    ·have e1:i+((0:Nat):Int)*-1=i:=by simp
     have e2:(((i-j).toNat:Nat):Int)-((0:Nat):Int)=Builtin.Range.rangeSize i j (-1):=by rw[rangeSize_down];split<;>omega
     show IsRangeIter _ _ (i+((0:Nat):Int)*-1) ((((i-j).toNat:Nat):Int)-((0:Nat):Int)) (-1)
     rw[e1,e2]
     exact Heap.get?_push_size _ rfl
    ·have e:b=(s1.heap.push { cls:=.type "range",data:=.fields #[.int i t,.int j t',.int (-1) t''] }).objs.size:=by simpa using hb
     subst e
     exact I2.fpOk (Nat.le_refl _) (I2.hok.fresh (Nat.le_refl _))
theorem for_down {hi:Int}{n:Nat}{g:TG}{tb:TS}{D:Ends}{σ:St}{H:Hp}(Pv:Nat->St->Hp->Prop)(h0:Pv 0 σ H)
  (hs:∀ i σ H,i<n->Pv i σ H->g (.int (hi-i)) σ H λσ2 H2=>tb { D with nx:=Pv (i+1),ct:=Pv (i+1),bk:=D.nx } σ2 H2) (hd:∀ σ H,Pv n σ H->D.nx σ H) :
  ∃ W:Nat->Nat->St->Hp->Prop,(∃ m,W 0 m σ H)/\∀ i m σ H,W i m σ H ->
   ((Itd hi n).stop i H/\D.nx σ H)\/((Itd hi n).go i H/\∃ N:St->Hp->Prop,(∀ σ' H',N σ' H'->∃ m',m'<m/\W (i+1) m' σ' H')/\∀ x H',(Itd hi n).yld i H x H'->g x σ H' λσ2 H2=>tb { D with nx:=N,ct:=N,bk:=D.nx } σ2 H2):=by
 refine⟨λi m σ H=>m=n-i/\i<=n/\Pv i σ H,⟨n,by simp,Nat.zero_le _,h0⟩,?_⟩
 rintro i m σ H ⟨rfl,hi,p⟩
 by_cases hlt:i<n
 ·refine .inr ⟨hlt,Pv (i+1),λσ' H' p'=>⟨n-(i+1),by omega,rfl,hlt,p'⟩,λx H' y=>?_⟩
  obtain⟨e,y⟩:=y
  subst e y
  exact hs i σ _ hlt p
 ·have e:i=n:=by omega
  subst e
  exact .inl ⟨Nat.le_refl _,hd σ H p⟩
theorem comp_range {lo:Int}{n:Nat}{D:Addr}{g:TG}{tt:TT}{te:TE}{σ0:St}{H0:Hp}{Q:Hp->Prop}(Pv:Nat->St->Hp->Prop)(h0:Pv 0 σ0 H0)
  (hs:∀ i σ H,i<n->Pv i σ H->g (.int (lo+i)) σ H λσ2 H3=>tt σ2 H3 λb H4=>if b=true then te σ2 H4 λv H5=>∃ ys,H5 D=some (.lst ys)/\ys.length<sizeLine/\Pv (i+1) σ2 (upd H5 D (.lst (ys++[v]))) else Pv (i+1) σ2 H4)
  (hd:∀ σ H,Pv n σ H->Q H):compRead (Itr lo n) D g tt te σ0 H0 Q:=by
 refine⟨λi m σ H=>m=n-i/\i<=n/\Pv i σ H,⟨n,by simp,Nat.zero_le _,h0⟩,?_⟩
 rintro i m σ H ⟨rfl,hi,p⟩
 by_cases hlt:i<n
 ·refine .inr ⟨hlt,Pv (i+1),λσ' H' p'=>⟨n-(i+1),by omega,rfl,hlt,p'⟩,λx H' y=>?_⟩
  obtain⟨e,y⟩:=y
  subst e y
  exact hs i σ _ hlt p
 ·have e:i=n:=by omega
  subst e
  exact .inl ⟨Nat.le_refl _,hd σ H p⟩
theorem comp_list {K:W.Frag}{a:Addr}{xs:List V}{D:Addr}{g:TG}{tt:TT}{te:TE}{σ0:St}{H0:Hp}{Q:Hp->Prop}(Pv:Nat->St->Hp->Prop)(h0:Pv 0 σ0 H0)(hl:∀ i σ H,i<=xs.length->Pv i σ H->SqL K H a xs)
  (hs:∀ i x σ H,xs[i]?=some x->Pv i σ H->g x σ H λσ2 H3=>tt σ2 H3 λb H4=>if b=true then te σ2 H4 λv H5=>∃ ys,H5 D=some (.lst ys)/\ys.length<sizeLine/\Pv (i+1) σ2 (upd H5 D (.lst (ys++[v]))) else Pv (i+1) σ2 H4)
  (hd:∀ σ H,Pv xs.length σ H->Q H):compRead (Itl K a) D g tt te σ0 H0 Q:=by
 refine⟨λi m σ H=>m=xs.length-i/\i<=xs.length/\Pv i σ H,⟨xs.length,by simp,Nat.zero_le _,h0⟩,?_⟩
 rintro i m σ H ⟨rfl,hi,p⟩
 have q:=hl i σ H hi p
 by_cases hlt:i<xs.length
 ·refine .inr ⟨⟨xs,xs[i],q,by simp[hlt]⟩,Pv (i+1),λσ' H' p'=>⟨xs.length-(i+1),by omega,rfl,hlt,p'⟩,λx H' y=>?_⟩
  obtain⟨e,y⟩:=y
  subst e
  exact hs i x σ _ (y xs q) p
 ·have e:i=xs.length:=by omega
  subst e
  exact .inl ⟨⟨xs,q,Nat.le_refl _⟩,hd σ H p⟩
end
end L2
namespace L2
open PySem PySem.Spec PyProof.Rows
def Ite (K : PySem.W.Frag) (a : Addr) : It :=
  ⟨fun i H => ∃ xs x, SqL K H a xs ∧ xs[i]? = some x,
   fun i H x H' => ∃ (T : Addr) (v : V), H T = none ∧ x = .ref T ∧ H' = upd H T (.tup [.int i, v]) ∧ ∀ xs, SqL K H a xs → xs[i]? = some v,
   fun i H => ∃ xs, SqL K H a xs ∧ xs.length ≤ i⟩
theorem turn_enum {P:Program}{w:World}{K:W.Frag}{elts:List Expr}{x1:Nat}{pos:Pos}(a e it:Addr)(hne:e≠it) :
  Turn P w K (.Tuple elts x1 pos) (Ite K a) [e,it] e (λi h=>(∃ old,IsEnum h e it i old)/\h.IsListIter it a i) where
 mem:=by simp
 obj:=λi h st b hb=>by
  rcases List.mem_cons.mp hb with rfl | hb
  ·obtain⟨⟨old,q⟩,_⟩:=st
   exact⟨_,q,λv z=>by
    have z':Data.fields _=Data.cell v:=z
    cases z'⟩
  ·have e':b=it:=by simpa using hb
   subst e'
   obtain⟨_,o,q,c,d⟩:=st
   exact⟨o,q,λv z=>by rw[d] at z;cases z⟩
 keep:=λi h h' st k=>by
  obtain⟨⟨old,q⟩,st⟩:=st
  exact⟨⟨old,k e (by simp) _ q⟩,st.at λo e=>k it (by simp) o e⟩
 item:=by
  intro X hP hw hK hc i pins s σ H E I hf st hg
  subst hP hw hK
  obtain⟨⟨old,he⟩,hit⟩:=st
  obtain⟨xs,x,hq,hx⟩:=hg
  obtain⟨its,rv,p,hz⟩:=I.list hq
  obtain⟨u,hu,ru⟩:=rv.get hx
  obtain⟨f0,f1,f2,f3,f4,f5⟩:=hf e (by simp)
  obtain⟨g0,g1,g2,g3,g4,g5⟩:=hf it (by simp)
  refine wpAny_pyNext_enum_item he hit p.isList (x:=u) (by simpa using hu) hne λh₁ heo hit₁ ht₁ hz₁ hk₁=>?_
  refine⟨_,rfl,wpAny_letOwnedTupleGo_enum heo λh₂ he₂ hs₂=>?_⟩
  replace hs₂:Heap.SameBut e h₁ h₂:=hs₂
  have hel:e<s.heap.objs.size:=Heap.lt_size he
  have hT:H s.heap.objs.size=none:=I.hok.fresh (Nat.le_refl _)
  have ht₂:h₂.get? s.heap.objs.size=some { cls:=.type "tuple",data:=.seq #[.int i s.toks,u] }:=(hs₂.2 _ (Nat.ne_of_gt hel)).trans ht₁
  have kk:∀ b o,b≠e->b≠it->s.heap.get? b=some o->h₂.get? b=some o:=λb o h1 h2 q=>(hs₂.2 b h1).trans (hk₁ b o h1 h2 q)
  have nT:∀ b o,s.heap.get? b=some o->b≠s.heap.objs.size:=λb o q=>Nat.ne_of_lt (Heap.lt_size q)
  have nch:∀ b,b∉[e,it]->b≠e/\b≠it:=λb hb=>⟨λz=>hb (by simp[z]),λz=>hb (by simp[z])⟩
  have nE:∀ b o,H b=some o->b≠e/\b≠it:=λb o q=>⟨λz=>(by rw[z,f0] at q;cases q),λz=>(by rw[z,g0] at q;cases q)⟩
  have I1:Inv X pins σ (upd H s.heap.objs.size (.tup [.int i,x])) { s with heap:=h₂,gens:=s.gens,drawn:=s.drawn,toks:=s.toks+1 }:=by
   refine I.step (ch:=[e,it]) (λb hb=>?_) (λb o _ _ hc q _=>kk b o (nch b hc).1 (nch b hc).2 q) (λb o _ _ hc q _=>⟨o.slots,kk b o (nch b hc).1 (nch b hc).2 q⟩) (λb o _ q n=>by rw[upd_ne (nT b o q)];exact n)
    (λb o hc q=>⟨o,kk b o (nch b hc).1 (nch b hc).2 q⟩) (λb ys q=>by rw[upd_ne (ne_of_none q hT)];exact q) (λb o z q=>by rw[upd_ne (ne_of_none q hT)];exact q) (λb ps q=>⟨#[],by rw[upd_ne (ne_of_none q hT),q];simp⟩) (λm hm=>?_) (λb z q=>?_) I.bare
   ·rcases List.mem_cons.mp hb with rfl | hb
    ·exact⟨f3,f1,f4,f5⟩
    ·have e':b=it:=by simpa using hb
     subst e'
     exact⟨g3,g1,g4,g5⟩
   ·obtain⟨o,es,ep,ho,r⟩:=hm
    exact⟨o,es,ep,kk _ o (Ne.symm f1) (Ne.symm g1) ho,r⟩
   ·by_cases hb:b=s.heap.objs.size
    ·subst hb
     rw[upd_same] at q
     cases q
     exact⟨(by show 2<=sizeLine;rw[sizeLine_eq];decide),[.int i s.toks,u],.cons ⟨_,rfl⟩ (.cons ru .nil),_,ht₂,rfl,0,rfl⟩
    ·rw[upd_ne hb] at q
     refine(I.hok b z q).stay (λc v hc q'=>?_) (λc q'=>by rw[upd_ne (ne_of_none q' hT)];exact q') λc ys q'=>by rw[upd_ne (ne_of_none q' hT)];exact q'
     rcases hc with rfl | hc
     ·exact kk c v (nE c z q).1 (nE c z q).2 q'
     ·exact kk c v (nE c _ hc).1 (nE c _ hc).2 q'
  refine⟨.ref s.heap.objs.size,_,I1,rfl,⟨s.heap.objs.size,x,hT,rfl,rfl,λys hy=>by rw[I.list_inj hy hq];exact hx⟩,⟨⟨u,?_⟩,?_⟩,λb hb=>?_⟩
  ·have:((i+1:Nat):Int)=(i:Int)+1:=by push_cast;rfl
   rw[this];exact he₂
  ·exact hit₁.extBut hs₂.extBut (Ne.symm hne)
  ·have hbl:b<s.heap.objs.size:=by
    rcases List.mem_cons.mp hb with rfl | hb
    ·exact hel
    ·have e':b=it:=by simpa using hb
     subst e'
     obtain⟨o,q,_⟩:=hit
     exact Heap.lt_size q
   rw[upd_ne (Nat.ne_of_lt hbl)]
   exact(hf b hb).1
 done:=by
  intro X hP hw hK hc i pins s σ H E I hf st hg
  subst hP hw hK
  obtain⟨⟨old,he⟩,hit⟩:=st
  obtain⟨xs,hq,hx⟩:=hg
  obtain⟨its,rv,p,hz⟩:=I.list hq
  obtain⟨g0,g1,g2,g3,g4,g5⟩:=hf it (by simp)
  have hl:=rv.length
  exact wpAny_pyNext_enum_end (I.ok.hd hc) he hit p.isList (by simp;omega) λh' eb=>⟨rfl,I.turned (t':=s.toks) (λb o hb e=>eb b o hb e) g0 g1 g3 g4 g5⟩
 self:=λA i s Q E st h=>by
  obtain⟨⟨old,he⟩,_⟩:=st
  exact wpAny_pyIter_enum he h
section
variable {X:Cx}
def iEnum (K:W.Frag)(ta:TA):TI:=λσ H R=>ta σ H λvs H1=>∃ a,vs=[.ref a]/\(∃ xs,SqL K H1 a xs)/\R (Ite K a) H1
theorem boot_enum:bootBuiltins "enumerate"=some (.type "enumerate"):=by decide +kernel
theorem pi_enum {elts:List Expr}{x1:Nat}{tpos:Pos}{l:Expr}{ta:TA}{p pos:Pos}(hg:Gl X "enumerate")(hm:X.mg "enumerate"=none)(ha:PA X [l] ta)(hs:starEach [l] X.env=[(false,eval l X.env)]:=by rfl):PI X (.Tuple elts x1 tpos) (.Call (.Name "enumerate" p) [l] [] pos) (iEnum X.K ta):=by
 intro pins s σ H R I h
 refine Call_ (ld_blt I hg hm boot_enum (PyProof.Rows.callWith_type1 (thn (ha pos pins s σ H _ I h) λus s1 ⟨vs,H1,I1,r1,q1⟩=>?_) hs rfl))
 obtain⟨a,e,⟨xs,hxs⟩,q⟩:=q1
 subst e
 obtain⟨u,rfl,ru⟩:=vals1 r1
 cases ru
 obtain⟨its,rv,pl,hz⟩:=I1.list hxs
 refine call_enumerate_list pl.isList λh' he hit hsz hk=>?_
 have I2:Inv X pins σ H1 { s1 with heap:=h' }:=I1.kept (t':=s1.toks) hk
 refine wpAny_pyIter_enum he ⟨s1.heap.objs.size+1,[s1.heap.objs.size+1,s1.heap.objs.size],_,Ite X.K a,H1,rfl,I2,turn_enum a _ _ (Nat.ne_of_gt (Nat.lt_succ_self _)),⟨⟨_,he⟩,hit⟩,λb hb=>?_,q⟩
 rcases List.mem_cons.mp hb with rfl | hb
 ·exact I1.fpOk (Nat.le_succ _) (I1.hok.fresh (Nat.le_succ _))
 ·have e':b=s1.heap.objs.size:=by simpa using hb
  subst e'
  exact I1.fpOk (Nat.le_refl _) (I1.hok.fresh (Nat.le_refl _))
theorem for_enum {K:PySem.W.Frag}{a:Addr}{xs:List V}{g:TG}{tb:TS}{D:Ends}{σ:St}{H:Hp}(Pv:Nat->St->Hp->Prop)(h0:Pv 0 σ H)(hl:∀ i σ H,i<=xs.length->Pv i σ H->SqL K H a xs)
  (hs:∀ i x σ H T,xs[i]?=some x->Pv i σ H->H T=none->g (.ref T) σ (upd H T (.tup [.int i,x])) λσ2 H2=>tb { D with nx:=Pv (i+1),ct:=Pv (i+1),bk:=D.nx } σ2 H2) (hd:∀ σ H,Pv xs.length σ H->D.nx σ H) :
  ∃ W:Nat->Nat->St->Hp->Prop,(∃ m,W 0 m σ H)/\∀ i m σ H,W i m σ H ->
   ((Ite K a).stop i H/\D.nx σ H)\/((Ite K a).go i H/\∃ N:St->Hp->Prop,(∀ σ' H',N σ' H'->∃ m',m'<m/\W (i+1) m' σ' H')/\∀ x H',(Ite K a).yld i H x H'->g x σ H' λσ2 H2=>tb { D with nx:=N,ct:=N,bk:=D.nx } σ2 H2):=by
 refine⟨λi m σ H=>m=xs.length-i/\i<=xs.length/\Pv i σ H,⟨xs.length,by simp,Nat.zero_le _,h0⟩,?_⟩
 rintro i m σ H ⟨rfl,hi,p⟩
 have q:=hl i σ H hi p
 by_cases hlt:i<xs.length
 ·refine .inr ⟨⟨xs,xs[i],q,by simp[hlt]⟩,Pv (i+1),λσ' H' p'=>⟨xs.length-(i+1),by omega,rfl,hlt,p'⟩,λx H' y=>?_⟩
  obtain⟨T,v,hT,rfl,rfl,y⟩:=y
  exact hs i v σ H T (y xs q) p hT
 ·have e:i=xs.length:=by omega
  subst e
  exact .inl ⟨⟨xs,q,Nat.le_refl _⟩,hd σ H p⟩
end
end L2
namespace L2
open PySem PySem.Spec PyProof.Rows
section
variable {prog:Program}{w:World}{A:Around}{E:Value->Shared->Prop}{s:Shared}
end
end L2
namespace L2
open PySem PySem.Spec PyProof.Rows
section
variable {prog:Program}{w:World}{A:Around}{s:Shared}{R:Result->Shared->Prop}
end
section
variable {prog:Program}{w:World}{A:Around}{E:Value->Shared->Prop}{s:Shared}
end
end L2
namespace L2
open PySem PySem.Spec PyProof.Rows
section
variable {X:Cx}{pins:List (Addr×Obj)}{σ:St}{H H':Hp}{s:Shared}{h':Heap}
theorem Inv.grow {t':Nat}(I:Inv X pins σ H s)(k:∀ b u,s.heap.get? b=some u->h'.get? b=some u)(e:∀ b,b<s.heap.objs.size->H' b=H b)(new:∀ b o,s.heap.objs.size<=b->H' b=some o->ObjOk X.prog X.w H' h' b o) :
  Inv X pins σ H' { s with heap:=h',toks:=t' }:=by
 have up:∀ b o,H b=some o->H' b=some o:=λb o q=>by rw[e b (I.hok.lt q)];exact q
 refine I.un ⟨λb o q _ _ _=>k b o q,λb o q _ _ _=>⟨o.slots,k b o q⟩,λb o q n _=>by rw[e b (Heap.lt_size q)];exact n,λb o q _=>⟨o,k b o q⟩,λb xs q=>up b _ q,λb o u q=>up b _ q,λb ps q=>⟨#[],by rw[up b _ q];simp⟩⟩ λb o q=>?_
 by_cases hb:b<s.heap.objs.size
 ·rw[e b hb] at q
  exact(I.hok b o q).stay (λc u _ q'=>k c u q') (λc q'=>up c _ q') λc xs q'=>up c _ q'
 ·exact new b o (Nat.le_of_not_lt hb) q
end
section
variable {X:Cx}
theorem pairs_rise {as:List Addr}(h:as.Pairwise (·<·)){j:Nat}{b:Addr}(hb:as[j]?=some b):as.findIdx? (· == b)=some j:=by
 rw[List.findIdx?_eq_some_iff_getElem]
 obtain⟨hj,e⟩:=List.getElem?_eq_some_iff.mp hb
 refine⟨hj,by simp[e],λi hi=>?_⟩
 have:=List.pairwise_iff_getElem.mp h i j (by omega) hj hi
 rw[e] at this
 simpa using Nat.ne_of_lt this
theorem refs_vals:∀ as:List Addr,Vals (as.map V.ref) (as.map Value.ref)
 | []=>.nil
 | _::as=>.cons rfl (refs_vals as)
def plainE:Expr->Bool
 | .Starred ..=>false
 | _=>true
theorem star_plain {e:Expr}{es:List Expr}{env:Env}(h:plainE e=true):starEach (e::es) env=(false,eval e env)::starEach es env:=by
 cases e<;>first | rfl | cases h
theorem pac {e:Expr}{es:List Expr}{te:TE}{t:TA}(ha:PE X e te)(hr:PA X es t)(hp:plainE e=true:=by rfl):PA X (e::es) (tCons te t):=pa_cons ha hr (star_plain hp)
end
end L2
namespace L2
open PySem PySem.Spec PyProof.Rows
def Kp (S:List Addr)(H H':Hp):Prop:=∀ b o,b∉S->H b=some o->H' b=some o
theorem Kp.refl (S:List Addr)(H:Hp):Kp S H H:=λ_ _ _ q=>q
theorem Kp.trans {S:List Addr}{H H1 H2:Hp}(a:Kp S H H1)(b:Kp S H1 H2):Kp S H H2:=λc o n q=>b c o n (a c o n q)
theorem Same.kp {S:List Addr}{H H':Hp}(a:Same H H'):Kp S H H':=λb o _ q=>a b o q
theorem Kp.mono {S T:List Addr}{H H':Hp}(a:Kp S H H')(h:∀ b∈S,b∈T):Kp T H H':=λb o n q=>a b o (λz=>n (h b z)) q
theorem Kp.one {x b:Addr}{H H':Hp}{o:HO}(a:Kp [x] H H')(n:b≠x)(q:H b=some o):H' b=some o:=a b o (by simp[n]) q
theorem Kp.two {x y b:Addr}{H H':Hp}{o:HO}(a:Kp [x,y] H H')(n:b≠x)(m:b≠y)(q:H b=some o):H' b=some o:=a b o (by simp[n,m]) q
theorem same_upd {H:Hp}{p:Addr}{o:HO}(h:H p=none):Same H (upd H p o):=λc u z=>by rw[upd_ne (ne_of_none z h)];exact z
theorem kp_upd {H:Hp}{p:Addr}{o:HO}:Kp [p] H (upd H p o):=λc u n z=>by rw[upd_ne (by simpa using n)];exact z
theorem Kp.free {H H':Hp}{S:List Addr}(a:Kp S H H'){p:Addr}(n:p∉S)(h:H' p=none):H p=none:=by
 cases q:H p with
 | none=>rfl
 | some o=>rw[a p o n q] at h;cases h
section
variable {X:Cx}
theorem PE.imp {e:Expr}{t t':TE}(h:PE X e t)(i:∀ σ H Q,t' σ H Q->t σ H Q):PE X e t':=λpins s σ H Q I w=>h pins s σ H Q I (i σ H Q w)
theorem PI.imp {tg e:Expr}{t t':TI}(h:PI X tg e t)(i:∀ σ H Q,t' σ H Q->t σ H Q):PI X tg e t':=λpins s σ H Q I w=>h pins s σ H Q I (i σ H Q w)
theorem CallR.imp {f:Value}{r r':List V->Hp->VK->Prop}(h:CallR X f r)(i:∀ xs H Q,r' xs H Q->r xs H Q):CallR X f r':=λpins s σ H xs us Q I rx w=>h pins s σ H xs us Q I rx (i xs H Q w)
theorem PS.imp {e:Stmt}{t t':TS}(h:PS X e t)(i:∀ D σ H,t' D σ H->t D σ H):PS X e t':=λpins s σ H D I w=>h pins s σ H D I (i D σ H w)
def gt:St->Nat->Option V
 | [],_=>none
 | o::_,0=>o
 | _::r,n+1=>gt r n
theorem gt_some:∀ {σ:St} {i:Nat} {v:V},gt σ i=some v->σ[i]?=some (some v)
 | [],_,_,h=>by simp[gt] at h
 | o::_,0,_,h=>by simp[gt] at h;simp[h]
 | _::r,n+1,_,h=>by simp[gt] at h;simpa using gt_some h
def mVar (i:Nat):TE:=λσ H Q=>match gt σ i with
 | some v=>Q v H
 | none=>False
theorem mVar_imp {i:Nat}{σ:St}{H:Hp}{Q:VK}(h:mVar i σ H Q):tVar i σ H Q:=by
 unfold mVar at h
 cases e:gt σ i with
 | none=>rw[e] at h;exact h.elim
 | some v=>rw[e] at h;exact⟨v,gt_some e,h⟩
theorem mv (i:Nat){x:Str}{pos:Pos}(hN:X.N[i]?=some x:=by rfl)(hv:Vis X.env.scope x:=by first | exact Or.inl rfl | exact Or.inr (Or.inl rfl) | exact Or.inr (Or.inr rfl))(hd:(x == ("__debug__":Str))=false:=by decide)
  (hcd:(x == ("__classdict__":Str))=false:=by decide):PE X (.Name x pos) (mVar i):=(pe_var hN hv hd hcd).imp λ_ _ _=>mVar_imp
@[irreducible] def hNewL (xs:List V)(H:Hp)(Q:VK):Prop:=xs.length<=sizeLine/\∀ p,H p=none->Q (.ref p) (upd H p (.lst xs))
@[irreducible] def hNewT (xs:List V)(H:Hp)(Q:VK):Prop:=xs.length<=sizeLine/\∀ p,H p=none->Q (.ref p) (upd H p (.tup xs))
@[irreducible] def hCat (a b:Addr)(H:Hp)(Q:VK):Prop:=∃ xs ys,H a=some (.lst xs)/\H b=some (.lst ys)/\xs.length+ys.length<=sizeLine/\∀ p,H p=none->Q (.ref p) (upd H p (.lst (xs++ys)))
@[irreducible] def hRep (a:Addr)(k:Int)(H:Hp)(Q:VK):Prop:=∃ xs,H a=some (.lst xs)/\-(2 ^ 63)<=k/\k<2 ^ 63/\xs.length*k.toNat<=sizeLine/\∀ p,H p=none->Q (.ref p) (upd H p (.lst (List.replicate k.toNat xs).flatten))
@[irreducible] def hIx (K:W.Frag)(a:Addr)(i:Int)(H:Hp)(Q:VK):Prop:=∃ xs v,(SqL K H a xs\/SqT K H a xs)/\atI xs i=some v/\Q v H
@[irreducible] def hSl (K:W.Frag)(a:Addr)(lo hi:Option Int)(H:Hp)(Q:VK):Prop:=∃ xs,SqL K H a xs/\∀ p,H p=none->Q (.ref p) (upd H p (.lst (cutV xs lo hi)))
@[irreducible] def hSet (a:Addr)(k:Int)(v:V)(H:Hp)(Q:Hp->Prop):Prop:=∃ xs j,H a=some (.lst xs)/\ixN xs.length k=some j/\Q (upd H a (.lst (xs.set j v)))
@[irreducible] def hApp (a:Addr)(y:V)(H:Hp)(Q:VK):Prop:=∃ xs,H a=some (.lst xs)/\xs.length<sizeLine/\Q .non (upd H a (.lst (xs++[y])))
@[irreducible] def hClr (a:Addr)(H:Hp)(Q:VK):Prop:=∃ xs,H a=some (.lst xs)/\Q .non (upd H a (.lst []))
@[irreducible] def hEqL (K:W.Frag)(a b:Addr)(H:Hp)(Q:Bool->Hp->Prop):Prop:=∃ ns ms:List Int,SqL K H a (ns.map V.int)/\SqL K H b (ms.map V.int)/\Q (decide (ns=ms)) H
@[irreducible] def hSum (K:W.Frag)(a:Addr)(H:Hp)(Q:VK):Prop:=∃ ns:List Int,SqL K H a (ns.map V.int)/\Q (.int ns.sum) H
@[irreducible] def hMax (K:W.Frag)(a:Addr)(H:Hp)(Q:VK):Prop:=∃ ns:List Int,SqL K H a (ns.map V.int)/\ns≠[]/\∀ M,M∈ns->(∀ a,a∈ns->a<=M)->Q (.int M) H
@[irreducible] def hMin (K:W.Frag)(a:Addr)(H:Hp)(Q:VK):Prop:=∃ ns:List Int,SqL K H a (ns.map V.int)/\ns≠[]/\∀ M,M∈ns->(∀ a,a∈ns->M<=a)->Q (.int M) H
@[irreducible] def hSorted (K:W.Frag)(a:Addr)(H:Hp)(Q:VK):Prop:=∃ ns:List Int,SqL K H a (ns.map V.int)/\ns.length<=1000/\∀ (l:Addr) (ns':List Int),H l=none->ns'.Perm ns->Q (.ref l) (upd H l (.lst (ns'.map V.int)))
@[irreducible] def hLen (K:W.Frag)(a:Addr)(H:Hp)(Q:VK):Prop:=∃ ys,(SqL K H a ys\/SqT K H a ys)/\Q (.int ys.length) H
@[irreducible] def hCopy (K:W.Frag)(a:Addr)(H:Hp)(Q:VK):Prop:=∃ ys,(SqL K H a ys\/SqT K H a ys)/\∀ l,H l=none->Q (.ref l) (upd H l (.lst ys))
@[irreducible] def hIsi (K:W.Frag)(x:V)(c:String)(H:Hp)(Q:VK):Prop:=∃ t,TyOf K H x (.type t)/\t∈["NoneType","bool","int","str","list","tuple","dict"]/\c∈["bool","int","str","list","tuple","dict"]/\Q (.bl (isTy t c)) H
section
variable {H:Hp}{Q:VK}{K:W.Frag}{a b:Addr}
theorem i_newL {xs:List V}(h:xs.length<=sizeLine)(q:∀ p H',H p=none->Same H H'->H' p=some (.lst xs)->Q (.ref p) H'):hNewL xs H Q:=by
 unfold hNewL;exact⟨h,λp hp=>q p _ hp (same_upd hp) upd_same⟩
theorem i_newT {xs:List V}(h:xs.length<=sizeLine)(q:∀ p H',H p=none->Same H H'->H' p=some (.tup xs)->Q (.ref p) H'):hNewT xs H Q:=by
 unfold hNewT;exact⟨h,λp hp=>q p _ hp (same_upd hp) upd_same⟩
theorem i_cat {xs ys:List V}(h1:H a=some (.lst xs))(h2:H b=some (.lst ys))(hl:xs.length+ys.length<=sizeLine)(q:∀ p H',H p=none->Same H H'->H' p=some (.lst (xs++ys))->Q (.ref p) H'):hCat a b H Q:=by
 unfold hCat;exact⟨xs,ys,h1,h2,hl,λp hp=>q p _ hp (same_upd hp) upd_same⟩
theorem i_ix {xs:List V}{i:Int}{v:V}(h:SqL K H a xs\/SqT K H a xs)(e:atI xs i=some v)(q:Q v H):hIx K a i H Q:=by unfold hIx;exact⟨xs,v,h,e,q⟩
theorem i_ixN {xs:List V}{i:Int}{v:V}(k:Nat)(h:H a=some (.lst xs))(hi:i=k)(e:xs[k]?=some v)(q:Q v H):hIx K a i H Q:=by
 subst hi;exact i_ix (.inl (SqL.of h)) (atI_nat e) q
theorem i_ixT {xs:List V}{i:Int}{v:V}(k:Nat)(h:H a=some (.tup xs))(hi:i=k)(e:xs[k]?=some v)(q:Q v H):hIx K a i H Q:=by
 subst hi;exact i_ix (.inr (SqT.of h)) (atI_nat e) q
theorem i_ixI {ns:List Int}{i:Int}(h:H a=some (.lst (ns.map V.int)))(h0:0<=i)(h1:i<ns.length)(q:Q (.int (ns.getD i.toNat 0)) H):hIx K a i H Q:=by
 have e:i=((i.toNat:Nat):Int):=by omega
 refine i_ixN i.toNat h e (v:=.int (ns.getD i.toNat 0)) ?_ q
 have hk:i.toNat<ns.length:=by omega
 rw[List.getElem?_map,List.getElem?_eq_getElem hk,List.getD_eq_getElem?_getD,List.getElem?_eq_getElem hk];rfl
theorem i_len {ys:List V}(h:SqL K H a ys\/SqT K H a ys)(q:Q (.int ys.length) H):hLen K a H Q:=by unfold hLen;exact⟨ys,h,q⟩
theorem i_lenI {ns:List Int}(h:H a=some (.lst (ns.map V.int)))(q:Q (.int ns.length) H):hLen K a H Q:=i_len (.inl (SqL.of h)) (by rw[List.length_map];exact q)
theorem i_lenL {xs:List V}(h:H a=some (.lst xs))(q:Q (.int xs.length) H):hLen K a H Q:=i_len (.inl (SqL.of h)) q
theorem i_copy {ys:List V}(h:H a=some (.lst ys))(q:∀ p H',H p=none->Same H H'->H' p=some (.lst ys)->Q (.ref p) H'):hCopy K a H Q:=by
 unfold hCopy;exact⟨ys,.inl (SqL.of h),λp hp=>q p _ hp (same_upd hp) upd_same⟩
theorem i_sum {ns:List Int}(h:SqL K H a (ns.map V.int))(q:Q (.int ns.sum) H):hSum K a H Q:=by unfold hSum;exact⟨ns,h,q⟩
theorem i_max {ns:List Int}(h:SqL K H a (ns.map V.int))(hn:ns≠[])(q:∀ M,M∈ns->(∀ a,a∈ns->a<=M)->Q (.int M) H):hMax K a H Q:=by unfold hMax;exact⟨ns,h,hn,q⟩
theorem i_min {ns:List Int}(h:SqL K H a (ns.map V.int))(hn:ns≠[])(q:∀ M,M∈ns->(∀ a,a∈ns->M<=a)->Q (.int M) H):hMin K a H Q:=by unfold hMin;exact⟨ns,h,hn,q⟩
theorem i_sorted {ns:List Int}(h:SqL K H a (ns.map V.int))(hn:ns.length<=1000)(q:∀ p H' (ns':List Int),ns'.Perm ns->H p=none->Same H H'->H' p=some (.lst (ns'.map V.int))->Q (.ref p) H'):hSorted K a H Q:=by
 unfold hSorted;exact⟨ns,h,hn,λl ns' hl hp=>q l _ ns' hp hl (same_upd hl) upd_same⟩
theorem i_eqL {Q:Bool->Hp->Prop}{ns ms:List Int}(h1:SqL K H a (ns.map V.int))(h2:SqL K H b (ms.map V.int))(q:Q (decide (ns=ms)) H):hEqL K a b H Q:=by unfold hEqL;exact⟨ns,ms,h1,h2,q⟩
theorem i_app {xs:List V}{y:V}(h:H a=some (.lst xs))(hl:xs.length<sizeLine)(q:∀ H',Kp [a] H H'->H' a=some (.lst (xs++[y]))->Q .non H'):hApp a y H Q:=by
 unfold hApp;exact⟨xs,h,hl,q _ kp_upd upd_same⟩
theorem i_appI {ns:List Int}{z:Int}(h:H a=some (.lst (ns.map V.int)))(hl:ns.length<100000)(q:∀ H',Kp [a] H H'->H' a=some (.lst ((ns++[z]).map V.int))->Q .non H'):hApp a (.int z) H Q :=
 i_app h (by rw[List.length_map,sizeLine_eq];omega) λH' k e=>q H' k (by rw[e,List.map_append];rfl)
theorem i_set {Q:Hp->Prop}{xs:List V}{k:Int}{v:V}(j:Nat)(h:H a=some (.lst xs))(hk:k=j)(hj:j<xs.length)(q:∀ H',Kp [a] H H'->H' a=some (.lst (xs.set j v))->Q H'):hSet a k v H Q:=by
 unfold hSet
 refine⟨xs,j,h,?_,q _ kp_upd upd_same⟩
 subst hk
 unfold ixN
 rw[if_pos (by omega),if_pos (by omega)]
 simp
theorem i_sl {xs:List V}{lo hi:Option Int}(h:SqL K H a xs)(q:∀ p H',H p=none->Same H H'->H' p=some (.lst (cutV xs lo hi))->Q (.ref p) H'):hSl K a lo hi H Q:=by
 unfold hSl;exact⟨xs,h,λp hp=>q p _ hp (same_upd hp) upd_same⟩
end
def vAdd:R2:=λx y H Q=>match x,y with
 | .int i,.int j=>Q (.int (i+j)) H
 | .ref a,.ref b=>hCat a b H Q
 | .str i,.str j=>i.length+j.length<=sizeLine/\Q (.str (i++j)) H
 | _,_=>False
theorem opAdd:OpR X (binaryOp .Add) vAdd:=by
 intro pins s σ H x y v u Q I rx ry h
 cases x<;>cases y<;>first
  | exact(show False from h).elim
  | exact op_add pins s σ H _ _ v u Q I rx ry ⟨_,_,rfl,rfl,h⟩
  | (obtain⟨h1,h2⟩:=(show _/\_ from h);exact op_add_str pins s σ H _ _ v u Q I rx ry ⟨_,_,rfl,rfl,h1,h2⟩)
  | (have h:=(show hCat _ _ H Q from h);unfold hCat at h;obtain⟨xs,ys,h1,h2,h3,h4⟩:=h;exact op_cat pins s σ H _ _ v u Q I rx ry ⟨_,_,xs,ys,rfl,rfl,h1,h2,h3,h4⟩)
def vSub:R2:=λx y H Q=>match x,y with
 | .int i,.int j=>Q (.int (i-j)) H
 | _,_=>False
theorem opSub:OpR X (binaryOp .Sub) vSub:=by
 intro pins s σ H x y v u Q I rx ry h
 cases x<;>cases y<;>first
  | exact(show False from h).elim
  | exact op_sub pins s σ H _ _ v u Q I rx ry ⟨_,_,rfl,rfl,h⟩
def vMul:R2:=λx y H Q=>match x,y with
 | .int i,.int j=>CMul i j/\Q (.int (i*j)) H
 | .ref a,.int k=>hRep a k H Q
 | _,_=>False
theorem opMul:OpR X (binaryOp .Mult) vMul:=by
 intro pins s σ H x y v u Q I rx ry h
 cases x<;>cases y<;>first
  | exact(show False from h).elim
  | (obtain⟨h1,h2⟩:=(show CMul _ _/\_ from h);exact op_mul pins s σ H _ _ v u Q I rx ry ⟨_,_,rfl,rfl,h1,h2⟩)
  | (have h:=(show hRep _ _ H Q from h);unfold hRep at h;obtain⟨xs,h1,h2,h3,h4,h5⟩:=h;exact op_rep pins s σ H _ _ v u Q I rx ry ⟨_,_,xs,rfl,rfl,h1,h2,h3,h4,h5⟩)
def vMod:R2:=λx y H Q=>match x,y with
 | .int i,.int j=>0<j/\Q (.int (i % j)) H
 | _,_=>False
theorem opMod:OpR X (binaryOp .Mod) vMod:=by
 intro pins s σ H x y v u Q I rx ry h
 cases x<;>cases y<;>first
  | exact(show False from h).elim
  | (obtain⟨h1,h2⟩:=(show (0:Int)<_/\_ from h);exact op_mod pins s σ H _ _ v u Q I rx ry ⟨_,_,rfl,rfl,h1,h2⟩)
def vFdiv:R2:=λx y H Q=>match x,y with
 | .int i,.int j=>(0<j/\j<2 ^ 200)/\Q (.int (i / j)) H
 | _,_=>False
theorem opFdiv:OpR X (binaryOp .FloorDiv) vFdiv:=by
 intro pins s σ H x y v u Q I rx ry h
 cases x<;>cases y<;>first
  | exact(show False from h).elim
  | (obtain⟨h1,h2⟩:=(show ((0:Int)<_/\_)/\_ from h);exact op_fdivL pins s σ H _ _ v u Q I rx ry ⟨_,_,rfl,rfl,h1,h2⟩)
def vPow:R2:=λx y H Q=>match x,y with
 | .int i,.int j=>CPow i j/\Q (.int (i ^ j.toNat)) H
 | _,_=>False
theorem opPow:OpR X (binaryOp .Pow) vPow:=by
 intro pins s σ H x y v u Q I rx ry h
 cases x<;>cases y<;>first
  | exact(show False from h).elim
  | (obtain⟨h1,h2⟩:=(show CPow _ _/\_ from h);exact op_pow pins s σ H _ _ v u Q I rx ry ⟨_,_,rfl,rfl,h1,h2⟩)
def vLt (p:Int->Int->Bool):R2:=λx y H Q=>match x,y with
 | .int i,.int j=>Q (.bl (p i j)) H
 | _,_=>False
theorem opCmp {op:CmpOp}{p:Int->Int->Bool}(h0:OpR X (compareOp op) (rI0 λi j=>.bl (p i j))):OpR X (compareOp op) (vLt p):=by
 intro pins s σ H x y v u Q I rx ry h
 cases x<;>cases y<;>first
  | exact(show False from h).elim
  | exact h0 pins s σ H _ _ v u Q I rx ry ⟨_,_,rfl,rfl,h⟩
theorem opLt:OpR X (compareOp .Lt) (vLt λi j=>decide (i<j)):=opCmp op_lt
theorem opLe:OpR X (compareOp .LtE) (vLt λi j=>decide (i<=j)):=opCmp op_le
theorem opGt:OpR X (compareOp .Gt) (vLt λi j=>decide (j<i)):=opCmp op_gt
theorem opGe:OpR X (compareOp .GtE) (vLt λi j=>decide (j<=i)):=opCmp op_ge
theorem dI {i j:Int}:decide (V.int i=V.int j)=decide (i=j):=by simp
theorem dS {i j:Str}:decide (V.str i=V.str j)=decide (i=j):=by simp
theorem dB {i j:Bool}:decide (V.bl i=V.bl j)=decide (i=j):=by simp
def vIsN (n:Bool->Bool):R2:=λx y H Q=>match y with
 | .non=>match x with
  | .non=>Q (.bl (n true)) H
  | .int _=>Q (.bl (n false)) H
  | .ref _=>Q (.bl (n false)) H
  | .bl _=>Q (.bl (n false)) H
  | .str _=>Q (.bl (n false)) H
  | _=>False
 | _=>False
theorem opIs:OpR X (compareOp .Is) (vIsN id):=by
 intro pins s σ H x y v u Q I rx ry h
 cases y<;>first
  | exact(show False from h).elim
  | (cases x<;>first
   | exact(show False from h).elim
   | exact op_isN pins s σ H _ _ v u Q I rx ry ⟨rfl,h⟩)
theorem opIsNot:OpR X (compareOp .IsNot) (vIsN not):=by
 intro pins s σ H x y v u Q I rx ry h
 cases y<;>first
  | exact(show False from h).elim
  | (cases x<;>first
   | exact(show False from h).elim
   | exact op_notN pins s σ H _ _ v u Q I rx ry ⟨rfl,h⟩)
def vNeg:V->Hp->VK->Prop:=λx H Q=>match x with
 | .int i=>Q (.int (-i)) H
 | _=>False
theorem unNeg:UnR X (unaryOp .USub) vNeg:=by
 intro pins s σ H x v Q I rx h
 cases x<;>first
  | exact(show False from h).elim
  | exact un_neg pins s σ H _ v Q I rx ⟨_,rfl,h⟩
def vIx (K:W.Frag):R2:=λx y H Q=>match x,y with
 | .ref a,.int i=>hIx K a i H Q
 | _,_=>False
theorem ixM : IxR X (vIx X.K) := by
  intro value slice pins s σ H x y v u Q I rx ry h
  cases x <;> cases y <;> first
    | exact (show False from h).elim
    | (have h := (show hIx _ _ _ H Q from h)
       unfold hIx at h
       obtain ⟨xs, w, h1 | h1, h2, h3⟩ := h
       · exact ix_list value slice pins s σ H _ _ v u Q I rx ry ⟨_, xs, _, w, rfl, rfl, h1, h2, h3⟩
       · exact ix_tup value slice pins s σ H _ _ v u Q I rx ry ⟨_, xs, _, w, rfl, rfl, h1, h2, h3⟩)
def vSl (K:W.Frag):V->Option Int->Option Int->Hp->VK->Prop:=λx lo hi H Q=>match x with
 | .ref a=>hSl K a lo hi H Q
 | _=>False
theorem slM : SlR X (vSl X.K) := by
  intro pins s σ H x v vl vu lo hi sl Q I rx hs pl pu h
  cases x <;> first
    | exact (show False from h).elim
    | (have h := (show hSl _ _ _ _ H Q from h)
       unfold hSl at h
       obtain ⟨xs, h1, h2⟩ := h
       exact sl_list pins s σ H _ v vl vu lo hi sl Q I rx hs pl pu ⟨_, xs, rfl, h1, h2⟩)
def mPart (t:TE):TO:=λσ H Q=>t σ H λx H1=>match x with
 | .int i=>Q (some i) H1
 | _=>False
theorem po_m {e:Expr}{te:TE}(h:PE X e te):PO X (some e) (mPart te):=by
 intro pins s σ H Q I hw
 rw[evalPart_some]
 refine thn (h pins s σ H _ I hw) λu s1 ⟨x,H1,I1,r1,q1⟩=>?_
 cases x<;>first
  | exact(show False from q1).elim
  | (obtain⟨t,rfl⟩:=r1;exact⟨some _,H1,I1,.int _ t,q1⟩)
@[irreducible] def hTru (K:W.Frag)(a:Addr)(H:Hp)(Q:Bool->Hp->Prop):Prop:=∃ xs,(SqL K H a xs\/SqT K H a xs)/\Q (!xs.isEmpty) H
def vTru (K:W.Frag)(x:V)(H:Hp)(Q:Bool->Hp->Prop):Prop:=match x with
 | .bl b=>Q b H
 | .int i=>Q (i != 0) H
 | .non=>Q false H
 | .ref a=>hTru K a H Q
 | _=>False
theorem vTru_imp {K : PySem.W.Frag} {x : V} {H : Hp} {Q : Bool → Hp → Prop} (h : vTru K x H Q) : ∃ k, TruV K x H k ∧ Q k H := by
  cases x <;> first
    | exact (show False from h).elim
    | exact ⟨_, rfl, h⟩
    | (have h := (show hTru _ _ H Q from h)
       unfold hTru at h
       obtain ⟨xs, h1 | h1, h2⟩ := h
       · exact ⟨_, .inl ⟨xs, h1, rfl⟩, h2⟩
       · exact ⟨_, .inr (.inl ⟨xs, h1, rfl⟩), h2⟩)
theorem tru_m {pins:List (Addr×Obj)}{s:Shared}{σ:St}{H:Hp}{x:V}{v:Value}{Q:Bool->Hp->Prop}(I:Inv X pins σ H s)(r:RelV x v)(h:vTru X.K x H Q):wpAny (model X.prog X.w) X.A (truthy v) (TP X pins σ Q) X.xe s :=
 tru_ok pins s σ H x v Q I r (vTru_imp h)
def mT (K:W.Frag)(t:TE):TT:=λσ H Q=>t σ H λx H'=>vTru K x H' Q
theorem pt_m {a:Expr}{ta:TE}(ha:PE X a ta)(he:∀ whole,isTrue a X.env whole=(do let v <- whole;standAt a.pos;holding [v] (truthy v)):=by intro _;rfl):PT X a (mT X.K ta):=by
 intro pins s σ H Q I h
 exact isTrue_plain (thn (ha pins s σ H _ I h) λv s1 ⟨x,H1,I1,r1,q1⟩=>tru_m I1 r1 q1) (he _)
def mB (t:TE):TT:=λσ H Q=>t σ H λx H'=>match x with
 | .bl k=>Q k H'
 | _=>False
section
variable {a b c:Expr}{ta tb tc:TE}{pos:Pos}{tA tB':TT}{rest:List Expr}
theorem pt_cm {op:CmpOp}{r:R2}(ho:OpR X (compareOp op) r)(ha:PE X a ta)(hb:PE X b tb)(hm:behindInMarks op b=false):PT X (.Compare a [op] [b] pos) (mB (tOp r ta tb)):=by
 intro pins s σ H Q I h
 refine wpAny_isTrue_Compare1 (thn (ha pins s σ H _ I h) λv s1 ⟨x,H1,I1,r1,q1⟩=>thn (hb pins s1 σ H1 _ I1 q1) λu s2 ⟨y,H2,I2,r2,q2⟩ =>
  thn (ho pins s2 σ H2 x y v u _ I2 r1 r2 q2) λc s3 ⟨z,H3,I3,r3,q3⟩=>?_) hm
 cases z<;>first
  | exact(show False from q3).elim
  | (cases r3;exact wpAny_truthy_bool ⟨H3,I3,q3⟩)
def mChain (r r':R2)(ta tb tc:TE):TE:=λσ H Q=>ta σ H λx H1=>tb σ H1 λy H2=>r x y H2 λz H3=>match z with
 | .bl k=>(k=true->tc σ H3 λw' H4=>r' y w' H4 Q)/\(k=false->Q (.bl false) H3)
 | _=>False
theorem pe_chm {op op':CmpOp}{r r':R2}(ho:OpR X (compareOp op) r)(ho':OpR X (compareOp op') r')(ha:PE X a ta)(hb:PE X b tb)(hc:PE X c tc)
  (hm:lastMarks [op,op'] [b,c]=false:=by with_unfolding_all rfl):PE X (.Compare a [op,op'] [b,c] pos) (mChain r r' ta tb tc):=by
 intro pins s σ H Q I h
 refine Compare_chain (thn (ha pins s σ H _ I h) λv s1 ⟨x,H1,I1,r1,q1⟩=>chain_link (thn (hb pins s1 σ H1 _ I1 q1) λu s2 ⟨y,H2,I2,r2,q2⟩ =>
  thn (ho pins s2 σ H2 x y v u _ I2 r1 r2 q2) λd s3 ⟨z,H3,I3,r3,q3⟩=>?_)) hm
 cases z<;>first
  | exact(show False from q3).elim
  | skip
 rename_i k
 cases r3
 refine wpAny_truthy_bool ?_
 cases k with
 | false=>exact ite_ff ⟨.bl false,H3,I3,rfl,q3.2 rfl⟩
 | true=>exact ite_tt (chain_last (thn (hc pins s3 σ H3 _ I3 (q3.1 rfl)) λw' s4 ⟨z',H4,I4,r4,q4⟩=>ho' pins s4 σ H4 y z' u w' Q I4 r2 r4 q4))
def mAnd (t u:TT):TT:=λσ H Q=>t σ H λc H1=>(c=true->u σ H1 Q)/\(c=false->Q false H1)
def mOr (t u:TT):TT:=λσ H Q=>t σ H λc H1=>(c=true->Q true H1)/\(c=false->u σ H1 Q)
theorem pw_am (ha:PT X a tA)(hb:PW X (.BoolOp .And (b::rest) pos) tB'):PW X (.BoolOp .And (a::b::rest) pos) (mAnd tA tB'):=by
 intro wh pins s σ H Q I h
 refine isTrue_and (thn (ha pins s σ H _ I h) λc s1 ⟨H1,I1,q1⟩=>?_)
 cases c with
 | true=>exact hb wh pins s1 σ H1 Q I1 (q1.1 rfl)
 | false=>exact⟨H1,I1,q1.2 rfl⟩
theorem pw_om (ha:PT X a tA)(hb:PW X (.BoolOp .Or (b::rest) pos) tB'):PW X (.BoolOp .Or (a::b::rest) pos) (mOr tA tB'):=by
 intro wh pins s σ H Q I h
 refine isTrue_or (thn (ha pins s σ H _ I h) λc s1 ⟨H1,I1,q1⟩=>?_)
 cases c with
 | true=>exact⟨H1,I1,q1.1 rfl⟩
 | false=>exact hb wh pins s1 σ H1 Q I1 (q1.2 rfl)
def mAndV (K:W.Frag)(ta tb:TE):TE:=λσ H Q=>ta σ H λx H1=>vTru K x H1 λc H2=>(c=true->tb σ H2 Q)/\(c=false->Q x H2)
def mNotV (K:W.Frag)(ta:TE):TE:=λσ H Q=>ta σ H λx H1=>vTru K x H1 λc H2=>Q (.bl (!c)) H2
theorem pe_am (ha:PE X a ta)(hb:PE X (.BoolOp .And (b::rest) pos) tb):PE X (.BoolOp .And (a::b::rest) pos) (mAndV X.K ta tb):=by
 intro pins s σ H Q I h
 refine BoolOp_and (thn (ha pins s σ H _ I h) λv s1 ⟨x,H1,I1,r1,q1⟩=>?_)
 refine thn (tru_m I1 r1 q1) λc s2 ⟨H2,I2,q2⟩=>?_
 cases c with
 | true=>exact hb pins s2 σ H2 Q I2 (q2.1 rfl)
 | false=>exact⟨x,H2,I2,r1,q2.2 rfl⟩
theorem pe_nm (ha:PE X a ta):PE X (.UnaryOp .Not a pos) (mNotV X.K ta):=by
 intro pins s σ H Q I h
 refine UnaryOp_ (thn (ha pins s σ H _ I h) λv s1 ⟨x,H1,I1,r1,q1⟩=>?_)
 exact not_of (thn (tru_m I1 r1 q1) λc s2 ⟨H2,I2,q2⟩=>⟨.bl (!c),H2,I2,rfl,q2⟩)
end
section
variable {st:Stmt}{rest:List Stmt}{t u:TS}{e:Expr}{te:TE}{pos:Pos}
def mIfS (c:TT)(t u:TS):TS:=λD σ H=>c σ H λb H1=>(b=true->t D σ H1)/\(b=false->u D σ H1)
theorem ps_ifm {c:Expr}{a b:List Stmt}{tc:TT}(hc:PT X c tc)(ha:PSs X a t)(hb:PSs X b u):PS X (.If c a b pos) (mIfS tc t u):=by
 intro pins s σ H D I h
 refine wpAny_If (thn (hc pins s σ H _ I h) λd s1 ⟨H1,I1,q1⟩=>?_)
 cases d with
 | true=>exact ha pins s1 σ H1 D I1 (q1.1 rfl)
 | false=>exact hb pins s1 σ H1 D I1 (q1.2 rfl)
def mMid (t u:TS):TS:=λD σ H=>∃ M:St->Hp->Prop,t { D with nx:=M } σ H/\∀ σ' H',M σ' H'->u D σ' H'
theorem pss_mid (h1:PS X st t)(h2:PSs X rest u):PSs X (st::rest) (mMid t u):=by
 intro pins s σ H D I h
 obtain⟨M,h,hM⟩:=h
 refine wpAny_execs_cons (thn (h1 pins s σ H { D with nx:=M } I h) λf s1 q=>?_)
 cases f with
 | next =>
  obtain⟨σ',H',I',q⟩:=q
  exact h2 pins s1 σ' H' D I' (hM _ _ q)
 | ret v=>exact q
 | brk=>exact q
 | cont=>exact q
def mWhile (c:TT)(tb:TS):TS:=λD σ H=>∃ W:Nat->St->Hp->Prop,(∃ m,W m σ H)/\∀ m σ H,W m σ H ->
 c σ H λb H1=>(b=true->tb { D with nx:=λσ' H'=>∃ m',m'<m/\W m' σ' H',ct:=λσ' H'=>∃ m',m'<m/\W m' σ' H',bk:=D.nx } σ H1)/\(b=false->D.nx σ H1)
theorem ps_whm {c:Expr}{body:List Stmt}{tc:TT}{tb:TS}(hp:PassesOwn (model X.prog X.w) X.A X.env X.xe)(hc:PT X c tc)(hb:PSs X body tb):PS X (.While c body [] pos) (mWhile tc tb):=by
 intro pins s σ H D I h
 obtain⟨W,⟨m0,w0⟩,turn⟩:=h
 refine wpAny_While (codeAny_whileLoop (λn s'=>∃ σ' H',Inv X pins σ' H' s'/\W n σ' H') ?_ m0 ⟨σ,H,I,w0⟩)
 rintro n s1 ⟨σ1,H1,I1,w1⟩
 refine wpAny_passesOwn hp (thn (hc pins s1 σ1 H1 _ I1 (turn n σ1 H1 w1)) λb s2 ⟨H2,I2,q2⟩=>?_)
 cases b with
 | true =>
  rw[if_pos rfl]
  refine wpAny_passesOwn hp (thn (hb pins s2 σ1 H2 _ I2 (q2.1 rfl)) λf s3 q3=>?_)
  cases f with
  | next =>
   obtain⟨σ3,H3,I3,m',hm,w3⟩:=q3
   exact⟨m',hm,σ3,H3,I3,w3⟩
  | cont =>
   obtain⟨σ3,H3,I3,m',hm,w3⟩:=q3
   exact⟨m',hm,σ3,H3,I3,w3⟩
  | brk=>exact q3
  | ret v=>exact q3
 | false =>
  rw[if_neg Bool.false_ne_true]
  exact wpAny_execs_nil ⟨σ1,H2,I2,q2.2 rfl⟩
theorem while_m {c:TT}{tb:TS}{D:Ends}{σ:St}{H:Hp}(W:Nat->St->Hp->Prop)(m:Nat)(h0:W m σ H)
  (hs:∀ m σ H,W m σ H->c σ H λb H1=>(b=true->tb { D with nx:=λσ' H'=>∃ m',m'<m/\W m' σ' H',ct:=λσ' H'=>∃ m',m'<m/\W m' σ' H',bk:=D.nx } σ H1)/\(b=false->D.nx σ H1)):mWhile c tb D σ H:=⟨W,⟨m,h0⟩,hs⟩
def mAug (i:Nat)(te:TE)(ti:TIp):TS:=λD σ H=>match gt σ i with
 | some x=>te σ H λy H1=>ti x y H1 λz H2=>D.nx (σ.set i (some z)) H2
 | none=>False
theorem ps_augm {i:Nat}{x:Str}{e:Expr}{te:TE}{op:Operator}{ti:TIp}{pos':Pos}(hN:X.N.Nodup)(hi:X.N[i]?=some x)(hx:Loc X.env.scope x)(he:PE X e te)(ho:PIp X op ti)(hf:X.fn x=true\/X.env.scope.names.lookup x=some .local:=by first | exact .inl rfl | exact .inr rfl | assumption) :
  PS X (.AugAssign (.Name x pos') op e pos) (mAug i te ti):=(ps_aug hN hi hx he ho hf).imp λD σ H h=>by
 unfold mAug at h
 cases e:gt σ i with
 | none=>rw[e] at h;exact h.elim
 | some v=>rw[e] at h;exact⟨v,gt_some e,h⟩
def vIpI (f:Int->Int->Int):TIp:=λx y H Q=>match x,y with
 | .int i,.int j=>Q (.int (f i j)) H
 | _,_=>False
theorem ipAdd:PIp X .Add (vIpI λi j=>i+j):=by
 intro pins s σ H x y v u Q I r1 r2 h
 cases x<;>cases y<;>first
  | exact(show False from h).elim
  | exact ip_add pins s σ H _ _ v u Q I r1 r2 ⟨_,_,rfl,rfl,h⟩
theorem ipSub:PIp X .Sub (vIpI λi j=>i-j):=by
 intro pins s σ H x y v u Q I r1 r2 h
 cases x<;>cases y<;>first
  | exact(show False from h).elim
  | exact ip_sub pins s σ H _ _ v u Q I r1 r2 ⟨_,_,rfl,rfl,h⟩
def vSet:TSet:=λo i v H Q=>match o,i with
 | .ref a,.int k=>hSet a k v H Q
 | _,_=>False
theorem setM:PSet X vSet:=by
 intro pins s σ H o i v ov iv u Q I ro ri rv h
 cases o<;>cases i<;>first
  | exact(show False from h).elim
  | (have h:=(show hSet _ _ _ H Q from h);unfold hSet at h;obtain⟨xs,j,h1,h2,h3⟩:=h;exact set_list pins s σ H _ _ v ov iv u Q I ro ri rv ⟨_,xs,_,j,rfl,rfl,h1,h2,h3⟩)
end
def mLst (t:TA):TE:=λσ H Q=>t σ H λxs H1=>hNewL xs H1 Q
def mTup (t:TA):TE:=λσ H Q=>t σ H λxs H1=>hNewT xs H1 Q
theorem pe_lm {es:List Expr}{t:TA}{pos:Pos}(h:PA X es t):PE X (.List es pos) (mLst t):=by
 intro pins s σ H Q I w
 refine pe_lst (t:=λσ H Q=>t σ H Q) h pins s σ H Q I ?_
 have w':t σ H λxs H1=>hNewL xs H1 Q:=w
 unfold hNewL at w'
 exact w'
theorem pe_tm {x1:Nat}{es:List Expr}{t:TA}{pos:Pos}(h:PA X es t):PE X (.Tuple es x1 pos) (mTup t):=by
 intro pins s σ H Q I w
 refine pe_tup (t:=λσ H Q=>t σ H Q) h pins s σ H Q I ?_
 have w':t σ H λxs H1=>hNewT xs H1 Q:=w
 unfold hNewT at w'
 exact w'
def vApp:V->List V->Hp->VK->Prop:=λx vs H Q=>match x,vs with
 | .ref a,[y]=>hApp a y H Q
 | _,_=>False
theorem mtApp:MtM X "list.append" vApp:=by
 intro pins s σ H x vs v us Q I rx rv h
 unfold vApp at h
 split at h
 ·unfold hApp at h;obtain⟨xs,h1,h2,h3⟩:=h;exact mt_append pins s σ H _ _ v us Q I rx rv ⟨_,xs,_,rfl,rfl,h1,h2,h3⟩
 ·exact h.elim
theorem i_tyL {K:W.Frag}{H:Hp}{a:Addr}{xs:List V}(h:H a=some (.lst xs)):tyV K "list" (.ref a) H:=.inl ⟨rfl,_,SqL.of h⟩
def vSum (K:W.Frag):List V->Hp->VK->Prop:=λxs H Q=>match xs with
 | [.ref a]=>hSum K a H Q
 | _=>False
theorem callSum (hc:X.calm=true):CallR X (.builtin "sum") (vSum X.K):=(call_sum hc).imp λxs H Q h=>by
 unfold vSum at h;split at h
 ·unfold hSum at h;obtain⟨ns,h1,h2⟩:=h;exact⟨_,ns,rfl,h1,h2⟩
 ·exact h.elim
def vMax (K:W.Frag):List V->Hp->VK->Prop:=λxs H Q=>match xs with
 | [.ref a]=>hMax K a H Q
 | [.int i,.int j]=>Q (.int (max i j)) H
 | _=>False
theorem callMax (hc:X.calm=true):CallR X (.builtin "max") (vMax X.K):=((call_max hc).or (call_max2 hc)).imp λxs H Q h=>by
 unfold vMax at h;split at h
 ·unfold hMax at h;obtain⟨ns,h1,h2⟩:=h;exact .inl ⟨_,ns,rfl,h1,h2⟩
 ·refine .inr ⟨_,_,rfl,?_⟩
  rename_i i j
  have e:(if j > i then j else i)=max i j:=by split<;>omega
  rw[e];exact h
 ·exact h.elim
def vMin (K:W.Frag):List V->Hp->VK->Prop:=λxs H Q=>match xs with
 | [.ref a]=>hMin K a H Q
 | [.int i,.int j]=>Q (.int (min i j)) H
 | _=>False
theorem callMin (hc:X.calm=true):CallR X (.builtin "min") (vMin X.K):=((call_min hc).or (call_min2 hc)).imp λxs H Q h=>by
 unfold vMin at h;split at h
 ·unfold hMin at h;obtain⟨ns,h1,h2⟩:=h;exact .inl ⟨_,ns,rfl,h1,h2⟩
 ·refine .inr ⟨_,_,rfl,?_⟩
  rename_i i j
  have e:(if j<i then j else i)=min i j:=by split<;>omega
  rw[e];exact h
 ·exact h.elim
def vLen (K:W.Frag):List V->Hp->VK->Prop:=λxs H Q=>match xs with
 | [.ref a]=>hLen K a H Q
 | _=>False
theorem callLen:CallR X (.builtin "len") (vLen X.K):=call_len_seq.imp λxs H Q h=>by
 unfold vLen at h;split at h
 ·unfold hLen at h;obtain⟨ys,h1,h2⟩:=h;exact⟨_,ys,rfl,h1,h2⟩
 ·exact h.elim
def vCopy (K:W.Frag):List V->Hp->VK->Prop:=λxs H Q=>match xs with
 | [.ref a]=>hCopy K a H Q
 | _=>False
theorem callList:CallR X (.type "list") (vCopy X.K):=call_list_of.imp λxs H Q h=>by
 unfold vCopy at h;split at h
 ·unfold hCopy at h;obtain⟨ys,h1,h2⟩:=h;exact⟨_,ys,rfl,h1,h2⟩
 ·exact h.elim
def vSorted (K:W.Frag):List V->Hp->VK->Prop:=λxs H Q=>match xs with
 | [.ref a]=>hSorted K a H Q
 | _=>False
theorem callSorted:CallR X (.builtin "sorted") (vSorted X.K):=call_sorted.imp λxs H Q h=>by
 unfold vSorted at h;split at h
 ·unfold hSorted at h;obtain⟨ys,h1,h2⟩:=h;exact⟨_,ys,rfl,h1,h2⟩
 ·exact h.elim
def vInt:List V->Hp->VK->Prop:=λxs H Q=>match xs with
 | [.int i]=>Q (.int i) H
 | [.bl k]=>Q (.int (if k then 1 else 0)) H
 | _=>False
theorem callInt:CallR X (.type "int") vInt:=call_int1.imp λxs H Q h=>by
 unfold vInt at h;split at h
 ·exact .inl ⟨_,rfl,h⟩
 ·exact .inr ⟨_,rfl,h⟩
 ·exact h.elim
def vIsi (K:W.Frag):List V->Hp->VK->Prop:=λxs H Q=>match xs with
 | [x,.ty c]=>hIsi K x c H Q
 | _=>False
theorem callIsi:CallR X (.builtin "isinstance") (vIsi X.K):=call_isinstance.imp λxs H Q h=>by
 unfold vIsi at h;split at h
 ·unfold hIsi at h;obtain⟨t,h1,h2⟩:=h;exact⟨_,t,_,rfl,h1,h2⟩
 ·exact h.elim
end
section
variable {X:Cx}{tg:Expr}
def mItL (K:W.Frag)(tl:TE):TI:=λσ H R=>tl σ H λx H1=>match x with
 | .ref a=>(∃ xs,SqL K H1 a xs)/\R (Itl K a) H1
 | _=>False
theorem pi_lm {l:Expr}{tl:TE}(hl:PE X l tl):PI X tg l (mItL X.K tl):=by
 intro pins s σ H R I h
 refine thn (hl pins s σ H _ I h) λv s1 ⟨x,H1,I1,r1,q1⟩=>?_
 cases x<;>first
  | exact(show False from q1).elim
  | skip
 rename_i a
 obtain⟨⟨xs,hq⟩,q⟩:=(show (∃ xs,SqL X.K H1 a xs)/\R (Itl X.K a) H1 from q1)
 cases r1
 obtain⟨its,rv,p,hz⟩:=I1.list hq
 refine wpAny_pyIter_list p.isList ?_
 refine⟨s1.heap.objs.size,[s1.heap.objs.size],_,_,H1,rfl,I1.kept (t':=s1.toks) λb o e=>Heap.get?_push_of_some _ e,turn_list a _,⟨_,Heap.get?_push_size _ rfl,rfl,rfl⟩,λb hb=>?_,q⟩
 have e:b=s1.heap.objs.size:=by simpa using hb
 subst e
 exact I1.fpOk (Nat.le_refl _) (I1.hok.fresh (Nat.le_refl _))
def upA (t:TA):TA:=λσ H Q=>∃ P:List V->Hp->Prop,t σ H P/\∀ vs H1,P vs H1->Q vs H1
theorem PA.up {es:List Expr}{t:TA}(h:PA X es t):PA X es (upA t):=by
 intro pos pins s σ H Q I w
 obtain⟨P,w,hP⟩:=w
 exact thn (h pos pins s σ H P I w) λus s1 ⟨vs,H1,I1,r1,q1⟩=>⟨vs,H1,I1,r1,hP _ _ q1⟩
def mRng1 (ta:TA):TI:=λσ H R=>ta σ H λvs H1=>match vs with
 | [.int j]=>(-(2 ^ 62)<=j/\j<2 ^ 62)/\R (Itr 0 j.toNat) H1
 | _=>False
def mRng2 (ta:TA):TI:=λσ H R=>ta σ H λvs H1=>match vs with
 | [.int i,.int j]=>(-(2 ^ 62)<=i/\i<2 ^ 62/\-(2 ^ 62)<=j/\j<2 ^ 62)/\R (Itr i (j-i).toNat) H1
 | _=>False
def mRngD (ta:TA):TI:=λσ H R=>ta σ H λvs H1=>match vs with
 | [.int i,.int j,.int k]=>k=-1/\(-(2 ^ 61)<=i/\i<2 ^ 61/\-(2 ^ 61)<=j/\j<2 ^ 61)/\R (Itd i (i-j).toNat) H1
 | _=>False
def mEnum (K:W.Frag)(ta:TA):TI:=λσ H R=>ta σ H λvs H1=>match vs with
 | [.ref a]=>(∃ xs,SqL K H1 a xs)/\R (Ite K a) H1
 | _=>False
theorem pi_r1 {a:Expr}{ta:TA}{p pos:Pos}(hg:Gl X "range")(hm:X.mg "range"=none)(ha:PA X [a] ta)(hs:starEach [a] X.env=[(false,eval a X.env)]:=by rfl):PI X tg (.Call (.Name "range" p) [a] [] pos) (mRng1 ta) :=
 (pi_range1 hg hm ha.up hs).imp λσ H R h=>⟨_,h,λvs H1 q=>by
  split at q
  ·exact⟨_,rfl,q.1.1,q.1.2,q.2⟩
  ·exact q.elim⟩
theorem pi_r2 {a b:Expr}{ta:TA}{p pos:Pos}(hg:Gl X "range")(hm:X.mg "range"=none)(ha:PA X [a,b] ta)(hs:starEach [a,b] X.env=[(false,eval a X.env),(false,eval b X.env)]:=by rfl)(hs2:starEach [b] X.env=[(false,eval b X.env)]:=by rfl) :
  PI X tg (.Call (.Name "range" p) [a,b] [] pos) (mRng2 ta):=(pi_range2 hg hm ha.up hs hs2).imp λσ H R h=>⟨_,h,λvs H1 q=>by
  split at q
  ·exact⟨_,_,rfl,q.1,q.2⟩
  ·exact q.elim⟩
theorem pi_rd {a b c:Expr}{ta:TA}{p pos:Pos}(hg:Gl X "range")(hm:X.mg "range"=none)(ha:PA X [a,b,c] ta)(hs:starEach [a,b,c] X.env=[(false,eval a X.env),(false,eval b X.env),(false,eval c X.env)]:=by rfl)(hs2:starEach [b,c] X.env=[(false,eval b X.env),(false,eval c X.env)]:=by rfl) :
  PI X tg (.Call (.Name "range" p) [a,b,c] [] pos) (mRngD ta):=(pi_down hg hm ha.up hs hs2).imp λσ H R h=>⟨_,h,λvs H1 q=>by
  split at q
  ·obtain⟨rfl,q1,q2⟩:=q;exact⟨_,_,rfl,q1,q2⟩
  ·exact q.elim⟩
theorem pi_en {elts:List Expr}{x1:Nat}{tpos:Pos}{l:Expr}{ta:TA}{p pos:Pos}(hg:Gl X "enumerate")(hm:X.mg "enumerate"=none)(ha:PA X [l] ta)(hs:starEach [l] X.env=[(false,eval l X.env)]:=by rfl):PI X (.Tuple elts x1 tpos) (.Call (.Name "enumerate" p) [l] [] pos) (mEnum X.K ta) :=
 (pi_enum hg hm ha.up hs).imp λσ H R h=>⟨_,h,λvs H1 q=>by
  split at q
  ·exact⟨_,rfl,q.1,q.2⟩
  ·exact q.elim⟩
@[irreducible] def hUnp (K:W.Frag)(a:Addr)(n:Nat)(H:Hp)(Q:List V->Prop):Prop:=∃ xs,SqT K H a xs/\xs.length=n/\Q xs
theorem i_unp {K:W.Frag}{a:Addr}{n:Nat}{H:Hp}{Q:List V->Prop}{xs:List V}(h:H a=some (.tup xs))(hl:xs.length=n)(q:Q xs):hUnp K a n H Q:=by unfold hUnp;exact⟨xs,SqT.of h,hl,q⟩
def gTm (K:W.Frag)(n:Nat)(t:TGs):TG:=λv σ H Q=>match v with
 | .ref a=>hUnp K a n H λxs=>t xs σ H Q
 | _=>False
theorem pg_tm {es:List Expr}{k:Nat}{t:TGs}{n:Nat}{pos:Pos}(hc:X.calm=true)(h:PGs X es t)
  (hn:(assignEach es X.env).length=n:=by rfl) (hst:(assignEach es X.env).findIdx? (·.1)=none:=by rfl):PG X (.Tuple es k pos) (gTm X.K n t):=by
 intro pins s σ H v u Q I r hw
 cases v<;>first
  | exact(show False from hw).elim
  | skip
 rename_i a
 have hw:=(show hUnp X.K a n H _ from hw)
 unfold hUnp at hw
 obtain⟨xs,h1,h2,h3⟩:=hw
 exact pg_tup hc h hn hst pins s σ H _ u Q I r ⟨a,xs,rfl,h1,h2,h3⟩
def gNm:TGs:=λvs σ H Q=>match vs with
 | []=>Q σ H
 | _=>False
def gCm (t:TG)(u:TGs):TGs:=λvs σ H Q=>match vs with
 | v::r=>t v σ H λσ' H'=>u r σ' H' Q
 | []=>False
theorem pgs_nm:PGs X [] gNm:=by
 intro pins s σ H vs us Q I r h
 cases vs with
 | nil=>exact pgs_nil pins s σ H _ us Q I r ⟨rfl,h⟩
 | cons v vs=>exact(show False from h).elim
theorem pgs_cm {e:Expr}{es:List Expr}{t:TG}{u:TGs}(h1:PG X e t)(h2:PGs X es u)
  (hs:(assignEach (e::es) X.env).map (·.2)=assign e X.env::(assignEach es X.env).map (·.2):=by rfl):PGs X (e::es) (gCm t u):=by
 intro pins s σ H vs us Q I r h
 cases vs with
 | nil=>exact(show False from h).elim
 | cons v vs=>exact pgs_cons h1 h2 hs pins s σ H _ us Q I r ⟨v,vs,rfl,h⟩
end
theorem dec2 {p A B:Prop}[Decidable p](h1:p->A)(h2:¬ p->B):(decide p=true->A)/\(decide p=false->B):=⟨λh=>h1 (of_decide_eq_true h),λh=>h2 (of_decide_eq_false h)⟩
theorem ndec2 {p A B:Prop}[Decidable p](h1:¬ p->A)(h2:p->B):((!decide p)=true->A)/\((!decide p)=false->B):=⟨λh=>h1 (by simpa using h),λh=>h2 (by simpa using h)⟩
theorem bT {A B:Prop}(h:A):(true=true->A)/\(true=false->B):=⟨λ_=>h,λz=>nomatch z⟩
theorem bF {A B:Prop}(h:B):(false=true->A)/\(false=false->B):=⟨λz=>(nomatch z),λ_=>h⟩
theorem b2 {b:Bool}{A B:Prop}(h1:b=true->A)(h2:b=false->B):(b=true->A)/\(b=false->B):=⟨h1,h2⟩
theorem bIs {b:Bool}{A B:Prop}(hb:b=true)(h:A):(b=true->A)/\(b=false->B):=⟨λ_=>h,λz=>by rw[hb] at z;cases z⟩
theorem bNo {b:Bool}{A B:Prop}(hb:b=false)(h:B):(b=true->A)/\(b=false->B):=⟨λz=>(by rw[hb] at z;cases z),λ_=>h⟩
theorem dIs {p A B:Prop}[Decidable p](hp:p)(h:A):(decide p=true->A)/\(decide p=false->B):=bIs (decide_eq_true hp) h
theorem dNo {p A B:Prop}[Decidable p](hp:¬ p)(h:B):(decide p=true->A)/\(decide p=false->B):=bNo (decide_eq_false hp) h
end L2
namespace L2
open PySem PySem.Spec PyProof.Rows
section
variable {X:Cx}
theorem any_plain {pos:Pos}{env:Env}:∀ {es:List Expr},es.all plainE=true->(backTo pos (starEach es env)).any (·.1)=false
 | [],_=>rfl
 | e::es,h=>by
  rw[List.all_cons,Bool.and_eq_true] at h
  rw[star_plain h.1]
  have:=any_plain (pos:=pos) (env:=env) h.2
  simp only[backTo,List.map_cons,List.any_cons] at this ⊢
  rw[this];rfl
theorem star_plains {env:Env}:∀ {es:List Expr},es.all plainE=true->starEach es env=es.map λe=>(false,eval e env)
 | [],_=>rfl
 | e::es,h=>by
  rw[List.all_cons,Bool.and_eq_true] at h
  rw[star_plain h.1,star_plains h.2];rfl
def noComp:Expr->Bool
 | .ListComp ..=>false
 | .SetComp ..=>false
 | .DictComp ..=>false
 | _=>true
theorem swaps_plain {e:Expr}{t:Option Expr}{n:Nat}{env:Env}(h:noComp e=true):swapsWith e t n env=pure false:=by
 cases e<;>first | rfl | cases h
theorem ps_st {i:Nat}{x:Str}{e:Expr}{te:TE}{pos pos':Pos}(hN:X.N.Nodup)(hi:X.N[i]?=some x)(hx:Loc X.env.scope x)(he:PE X e te)(hs:noComp e=true:=by rfl)(hf:X.fn x=true\/X.env.scope.names.lookup x=some .local:=by first | exact .inl rfl | exact .inr rfl | assumption) :
  PS X (.Assign [.Name x pos'] e pos) (tAsg te (gName i)):=ps_set hN hi hx he (swaps_plain hs) hf
theorem ps_ex {e:Expr}{te:TE}{pos:Pos}(he:PE X e te)(hs:noComp e=true:=by rfl):PS X (.Expr e pos) (tDrop te):=ps_expr he (swaps_plain hs)
structure Def (P:Program)(w:World)(K:W.Frag)(mg:Str->Option Value)(base:Heap)(k:Nat)(x:Str)(ps:List Str)(sp:Sp):Prop where
 ex:∃ f fd,FnOk P w K mg base CX0 k f fd ps sp/\Binds K fd ps []/\W.keepIn K (.ref f)=true/\mg x=some (.ref f)
theorem Def.imp {P:Program}{w:World}{K:W.Frag}{mg:Str->Option Value}{base:Heap}{k:Nat}{x:Str}{ps:List Str}{sp sp':Sp}(D:Def P w K mg base k x ps sp)(h:∀ vs H Q E,sp' vs H Q E->sp vs H Q E):Def P w K mg base k x ps sp':=by
 obtain⟨f,fd,F,b,kp,m⟩:=D.ex
 exact⟨f,fd,F.imp h,b,kp,m⟩
theorem pe_def {k j:Nat}{x:Str}{ps:List Str}{sp:Sp}{e:Expr}{es:List Expr}{t:TA}{p pos:Pos}(D:Def X.prog X.w X.K X.mg X.base k x ps sp)(hr:Room j X.A)(hj:k<=j)(hg:Gl X x)(ha:PA X (e::es) t)(hp:(e::es).all plainE=true:=by rfl)(hdb:(x == ("__debug__":Str))=false:=by decide) :
  PE X (.Call (.Name x p) (e::es) [] pos) (tCall sp [] E0 t):=by
 obtain⟨f,fd,F,b,kp,m⟩:=D.ex
 rw[List.all_cons,Bool.and_eq_true] at hp
 exact pe_call F (hr.mono hj) hg m kp b .nil pass0 ha (hdb:=hdb) (he:=star_plain hp.1) (hpl:=any_plain hp.2)
theorem pe_cB {x:Str}{id:String}{r:List V->Hp->VK->Prop}{e:Expr}{es:List Expr}{t:TA}{p pos:Pos}(hc:CallR X (.builtin id) r)(hg:Gl X x)(hm:X.mg x=none)(hv:bootBuiltins x=some (.builtin id))(ha:PA X (e::es) t)(hp:(e::es).all plainE=true:=by rfl)(hn:x≠"__name__":=by decide)(hdb:(x == ("__debug__":Str))=false:=by decide) :
  PE X (.Call (.Name x p) (e::es) [] pos) (tCB r t):=by
 rw[List.all_cons,Bool.and_eq_true] at hp
 exact pe_callB hc hg hm hv ha hn hdb (star_plain hp.1) (any_plain hp.2)
theorem pe_cT {x:Str}{T:String}{r:List V->Hp->VK->Prop}{e:Expr}{es:List Expr}{t:TA}{p pos:Pos}(hc:CallR X (.type T) r)(hg:Gl X x)(hm:X.mg x=none)(hv:bootBuiltins x=some (.type T))(ha:PA X (e::es) t)(hp:(e::es).all plainE=true:=by rfl)(hn:x≠"__name__":=by decide)(hdb:(x == ("__debug__":Str))=false:=by decide) :
  PE X (.Call (.Name x p) (e::es) [] pos) (tCB r t):=by
 rw[List.all_cons,Bool.and_eq_true] at hp
 exact pe_callTy hc hg hm hv ha hn hdb (star_plain hp.1) (any_plain hp.2)
theorem few_plain {cpos : Pos} {e : Expr} {env : Env} (hp : plainE e = true) : ((backTo cpos (starEach [e] env)).all (fun x => !x.1) && (backToKw cpos (keywordEach [] env)).all (fun x => x.1.isSome)
      && decide (([e]:List Expr).length+([]:List Keyword).length+(if ([]:List Keyword).isEmpty then 0 else 1)<30))=true:=by
  rw[star_plain hp];rfl
theorem pe_m1 {o e:Expr}{to te:TE}{name:Str}{apos cpos:Pos}{T id:String}{r:V->List V->Hp->VK->Prop}(pa:PlainAttrs T)(slot:Slot T name id)(hty:typeOf (.builtin id)=pure (.type "method_descriptor"))(hm:MtR X id r)(ho:PE X o to)(ha:PE X e te)
  (hp:plainE e=true:=by rfl) (hbase:attributeBase o name X.env (eval o X.env)=eval o X.env:=by rfl) (hline:(apos.endLine == cpos.line)=true:=by rfl) :
  PE X (.Call (.Attribute o name apos) [e] [] cpos) (tBM X.K T r to (tCons te tNil)) :=
 pe_bm pa slot hty hm ho (pac ha pa_nil hp) hbase (few_plain hp) hline (star_plain hp) rfl
theorem pi_k1 {tg a:Expr}{ta:TA}{p pos:Pos}(hg:Gl X "range")(hm:X.mg "range"=none)(ha:PA X [a] ta)(hp:plainE a=true:=by rfl):PI X tg (.Call (.Name "range" p) [a] [] pos) (mRng1 ta):=pi_r1 hg hm ha (star_plain hp)
theorem pi_k2 {tg a b:Expr}{ta:TA}{p pos:Pos}(hg:Gl X "range")(hm:X.mg "range"=none)(ha:PA X [a,b] ta)(hp:[a,b].all plainE=true:=by rfl):PI X tg (.Call (.Name "range" p) [a,b] [] pos) (mRng2 ta):=by
 have h2:[b].all plainE=true:=by simp only[List.all_cons,List.all_nil,Bool.and_true,Bool.and_eq_true] at hp ⊢;exact hp.2
 exact pi_r2 hg hm ha (star_plains hp) (star_plains h2)
theorem pi_k3 {tg a b c:Expr}{ta:TA}{p pos:Pos}(hg:Gl X "range")(hm:X.mg "range"=none)(ha:PA X [a,b,c] ta)(hp:[a,b,c].all plainE=true:=by rfl):PI X tg (.Call (.Name "range" p) [a,b,c] [] pos) (mRngD ta):=by
 have h2:[b,c].all plainE=true:=by simp only[List.all_cons,List.all_nil,Bool.and_true,Bool.and_eq_true] at hp ⊢;exact hp.2
 exact pi_rd hg hm ha (star_plains hp) (star_plains h2)
theorem pi_ke {elts:List Expr}{x1:Nat}{tpos:Pos}{l:Expr}{ta:TA}{p pos:Pos}(hg:Gl X "enumerate")(hm:X.mg "enumerate"=none)(ha:PA X [l] ta)(hp:plainE l=true:=by rfl):PI X (.Tuple elts x1 tpos) (.Call (.Name "enumerate" p) [l] [] pos) (mEnum X.K ta):=pi_en hg hm ha (star_plain hp)
def noSet:Expr->Bool
 | .Set ..=>false
 | _=>true
theorem fold_plain {e:Expr}{env:Env}(h:noSet e=true):∀ x,foldedSetIterable e env x=pure x:=by
 intro x;cases e<;>first | rfl | cases h
theorem ps_fr {tg iter:Expr}{body:List Stmt}{wi:TI}{g:TG}{tb:TS}{pos:Pos}(hp:PassesOwn (model X.prog X.w) X.A X.env X.xe)(hc:X.calm=true)(hi:PI X tg iter wi)(hg:PG X tg g)(hb:PSs X body tb)
  (hs:noSet iter=true:=by rfl):PS X (.For tg iter body [] pos) (tFor wi g tb):=ps_for hp hc hi hg hb (fold_plain hs)
def plainG:Expr->Bool
 | .Starred ..=>false
 | _=>true
theorem assign_plain {e:Expr}{es:List Expr}{env:Env}(h:plainG e=true):assignEach (e::es) env=(false,assign e env)::assignEach es env:=by
 cases e<;>first | rfl | cases h
theorem pgs_c {e:Expr}{es:List Expr}{t:TG}{u:TGs}(h1:PG X e t)(h2:PGs X es u)(hp:plainG e=true:=by rfl):PGs X (e::es) (gCm t u):=pgs_cm h1 h2 (by rw[assign_plain hp];rfl)
theorem assign_plains {env:Env}:∀ {es:List Expr},es.all plainG=true->(assignEach es env).length=es.length/\(assignEach es env).findIdx? (·.1)=none
 | [],_=>⟨rfl,rfl⟩
 | e::es,h=>by
  rw[List.all_cons,Bool.and_eq_true] at h
  obtain⟨h1,h2⟩:=assign_plains (env:=env) h.2
  rw[assign_plain h.1]
  refine⟨by rw[List.length_cons,h1,List.length_cons],?_⟩
  rw[List.findIdx?_cons,h2];rfl
theorem pg_t {es:List Expr}{k:Nat}{t:TGs}{pos:Pos}(hc:X.calm=true)(h:PGs X es t)(hp:es.all plainG=true:=by rfl):PG X (.Tuple es k pos) (gTm X.K es.length t):=pg_tm hc h (assign_plains hp).1 (assign_plains hp).2
end
end L2
namespace L2
open PySem PySem.Spec PyProof.Rows
structure QE (X:Cx)(e:Expr)(t:TE):Prop where
 h:PE X e t
structure QT (X:Cx)(e:Expr)(t:TT):Prop where
 h:PT X e t
structure QW (X:Cx)(e:Expr)(t:TT):Prop where
 h:PW X e t
structure QA (X:Cx)(es:List Expr)(t:TA):Prop where
 h:PA X es t
 p:es.all plainE=true
structure QS (X:Cx)(st:Stmt)(t:TS):Prop where
 h:PS X st t
structure QB (X:Cx)(st:List Stmt)(t:TS):Prop where
 h:PSs X st t
structure QG (X:Cx)(e:Expr)(t:TG):Prop where
 h:PG X e t
structure QGs (X:Cx)(es:List Expr)(t:TGs):Prop where
 h:PGs X es t
 p:es.all plainG=true
structure QI (X:Cx)(tg e:Expr)(t:TI):Prop where
 h:PI X tg e t
structure QIf (X:Cx)(es:List Expr)(t:TT):Prop where
 h:PIfs X es t
structure QO (X:Cx)(e:Option Expr)(t:TO):Prop where
 h:PO X e t
section
variable {X:Cx}{e a b c o tg:Expr}{es rest:List Expr}{te ta tb tc to:TE}{t:TA}{pos p p2:Pos}{st:Stmt}{sts:List Stmt}{x:Str}
theorem qb_nil:QB X [] tNext:=⟨pss_nil⟩
theorem qb_one {u:TS}(h:QS X st u):QB X [st] u:=⟨pss_one h.h⟩
theorem qb_cons {u v:TS}(h1:QS X st u)(h2:QB X sts v):QB X (st::sts) (tSeq u v):=⟨pss_cons h1.h h2.h⟩
theorem qb_mid {u v:TS}(h1:QS X st u)(h2:QB X sts v):QB X (st::sts) (mMid u v):=⟨pss_mid h1.h h2.h⟩
theorem qs_never:QS X st tNever:=⟨ps_never⟩
theorem qs_ret (h:QE X e te):QS X (.Return (some e) pos) (tRet te):=⟨ps_ret h.h⟩
theorem qs_ex (h:QE X e te)(hs:noComp e=true:=by rfl):QS X (.Expr e pos) (tDrop te):=⟨ps_ex h.h hs⟩
theorem qs_set {i:Nat}(hN:X.N.Nodup)(hi:X.N[i]?=some x)(hx:Loc X.env.scope x)(hf:X.fn x=true\/X.env.scope.names.lookup x=some .local)(he:QE X e te)(hs:noComp e=true:=by rfl) :
  QS X (.Assign [.Name x p] e pos) (tAsg te (gName i)):=⟨ps_st hN hi hx he.h hs hf⟩
theorem qs_asg {g:TG}(he:QE X e te)(hg:QG X tg g)(hs:noComp e=true:=by rfl)(hw:swappedStores [tg] e X.env=pure none:=by rfl)(hp:plainG tg=true:=by rfl):QS X (.Assign [tg] e pos) (tAsg te g) :=
 ⟨ps_asg he.h hg.h (swaps_plain hs) hw (by rw[assign_plain hp];rfl)⟩
theorem qs_aug {i:Nat}{op:Operator}{ti:TIp}(hN:X.N.Nodup)(hi:X.N[i]?=some x)(hx:Loc X.env.scope x)(hf:X.fn x=true\/X.env.scope.names.lookup x=some .local)(he:QE X e te)(ho:PIp X op ti):QS X (.AugAssign (.Name x p) op e pos) (mAug i te ti) :=
 ⟨ps_augm hN hi hx he.h ho hf⟩
theorem qs_if {s1 s2:List Stmt}{tc:TT}{u v:TS}(hc:QT X c tc)(ha:QB X s1 u)(hb:QB X s2 v):QS X (.If c s1 s2 pos) (mIfS tc u v):=⟨ps_ifm hc.h ha.h hb.h⟩
theorem qs_while {tc:TT}{u:TS}(hp:PassesOwn (model X.prog X.w) X.A X.env X.xe)(hc:QT X c tc)(hb:QB X sts u):QS X (.While c sts [] pos) (mWhile tc u):=⟨ps_whm hp hc.h hb.h⟩
theorem qs_for {wi:TI}{g:TG}{u:TS}(hp:PassesOwn (model X.prog X.w) X.A X.env X.xe)(hc:X.calm=true)(hi:QI X tg e wi)(hg:QG X tg g)(hb:QB X sts u)(hs:noSet e=true:=by rfl):QS X (.For tg e sts [] pos) (tFor wi g u):=⟨ps_fr hp hc hi.h hg.h hb.h hs⟩
theorem qg_name {i:Nat}(hN:X.N.Nodup)(hi:X.N[i]?=some x)(hx:Loc X.env.scope x)(hf:X.fn x=true\/X.env.scope.names.lookup x=some .local):QG X (.Name x pos) (gName i):=⟨pg_name hN hi hx hf⟩
theorem qgs_nil:QGs X [] gNm:=⟨pgs_nm,rfl⟩
theorem qgs_cons {g:TG}{u:TGs}(h1:QG X e g)(h2:QGs X es u)(hp:plainG e=true:=by rfl):QGs X (e::es) (gCm g u):=⟨pgs_c h1.h h2.h hp,by rw[List.all_cons,hp,h2.p];rfl⟩
theorem qg_tup {k:Nat}{u:TGs}(hc:X.calm=true)(h:QGs X es u):QG X (.Tuple es k pos) (gTm X.K es.length u):=⟨pg_t hc h.h h.p⟩
theorem qg_sub (ho : QE X o to) (hi : QE X e te) (hs : PSet X vSet) (ha : ∀ v, assign (.Subscript o e pos) X.env v = (do
      let ov <- holding [v] (eval o X.env)
      let iv <- holding [v,ov] (eval e X.env)
      standAt pos
      holding [v,ov,iv] (setItem ov iv v)
      release [v,ov,iv] []):=by intro _;rfl):QG X (.Subscript o e pos) (gSub to te vSet):=⟨pg_sub ho.h hi.h hs ha⟩
theorem qi_list (h:QE X e te):QI X tg e (mItL X.K te):=⟨pi_lm h.h⟩
theorem qi_r1 (hg:Gl X "range")(hm:X.mg "range"=none)(h:QA X [a] t):QI X tg (.Call (.Name "range" p) [a] [] pos) (mRng1 t):=⟨pi_k1 hg hm h.h (by have:=h.p;simpa using this)⟩
theorem qi_r2 (hg:Gl X "range")(hm:X.mg "range"=none)(h:QA X [a,b] t):QI X tg (.Call (.Name "range" p) [a,b] [] pos) (mRng2 t):=⟨pi_k2 hg hm h.h h.p⟩
theorem qi_r3 (hg:Gl X "range")(hm:X.mg "range"=none)(h:QA X [a,b,c] t):QI X tg (.Call (.Name "range" p) [a,b,c] [] pos) (mRngD t):=⟨pi_k3 hg hm h.h h.p⟩
theorem qi_enum {k:Nat}(hg:Gl X "enumerate")(hm:X.mg "enumerate"=none)(h:QA X [a] t):QI X (.Tuple es k p2) (.Call (.Name "enumerate" p) [a] [] pos) (mEnum X.K t):=⟨pi_ke hg hm h.h (by have:=h.p;simpa using this)⟩
theorem qa_nil:QA X [] tNil:=⟨pa_nil,rfl⟩
theorem qa_cons (h1:QE X e te)(h2:QA X es t)(hp:plainE e=true:=by rfl):QA X (e::es) (tCons te t):=⟨pac h1.h h2.h hp,by rw[List.all_cons,hp,h2.p];rfl⟩
theorem qv (i:Nat)(hN:X.N[i]?=some x)(hv:Vis X.env.scope x)(hd:(x == ("__debug__":Str))=false:=by decide)(hcd:(x == ("__classdict__":Str))=false:=by decide):QE X (.Name x pos) (mVar i):=⟨mv i hN hv hd hcd⟩
theorem qe_int {i:Int}{j:Nat}:QE X (.Constant (.int i) j pos) (tC (.int i)):=⟨pe_int⟩
theorem qe_bl {i:Bool}{j:Nat}:QE X (.Constant (.bool i) j pos) (tC (.bl i)):=⟨pe_bl⟩
theorem qe_non {j:Nat}:QE X (.Constant .none j pos) (tC .non):=⟨pe_non⟩
theorem qe_ty {T:String}(hg:Gl X x)(hm:X.mg x=none)(hv:bootBuiltins x=some (.type T))(hn:x≠"__name__":=by decide)(hd:(x == ("__debug__":Str))=false:=by decide):QE X (.Name x pos) (tC (.ty T)):=⟨pe_tyn hg hm hv hn hd⟩
theorem qe_op {op:Operator}{r:R2}(ho:OpR X (binaryOp op) r)(ha:QE X a ta)(hb:QE X b tb):QE X (.BinOp a op b pos) (tOp r ta tb):=⟨pe_op ho ha.h hb.h⟩
theorem qe_un {op:UnaryOp}{r:V->Hp->VK->Prop}(ho:UnR X (unaryOp op) r)(ha:QE X a ta):QE X (.UnaryOp op a pos) (tUn r ta):=⟨pe_un ho ha.h⟩
theorem qe_not (ha:QE X a ta):QE X (.UnaryOp .Not a pos) (mNotV X.K ta):=⟨pe_nm ha.h⟩
theorem qe_cmp {op:CmpOp}{r:R2}(ho:OpR X (compareOp op) r)(ha:QE X a ta)(hb:QE X b tb)(h1:op≠.In:=by decide)(h2:op≠.NotIn:=by decide):QE X (.Compare a [op] [b] pos) (tOp r ta tb):=⟨pe_cmpR ho ha.h hb.h (nomark b h1 h2)⟩
theorem qe_chain {op op':CmpOp}{r r':R2}(ho:OpR X (compareOp op) r)(ho':OpR X (compareOp op') r')(ha:QE X a ta)(hb:QE X b tb)(hc:QE X c tc)(hm:lastMarks [op,op'] [b,c]=false:=by with_unfolding_all rfl):QE X (.Compare a [op,op'] [b,c] pos) (mChain r r' ta tb tc):=⟨pe_chm ho ho' ha.h hb.h hc.h hm⟩
theorem qe_one {op:BoolOp}(h:QE X a ta):QE X (.BoolOp op [a] pos) ta:=⟨pe_one h.h⟩
theorem qe_and (ha:QE X a ta)(hb:QE X (.BoolOp .And (b::rest) pos) tb):QE X (.BoolOp .And (a::b::rest) pos) (mAndV X.K ta tb):=⟨pe_am ha.h hb.h⟩
theorem qe_lst (h:QA X es t):QE X (.List es pos) (mLst t):=⟨pe_lm h.h⟩
theorem qe_tup {k:Nat}(h:QA X es t):QE X (.Tuple es k pos) (mTup t):=⟨pe_tm h.h⟩
theorem qo_none:QO X none tNoPart:=⟨po_none⟩
theorem qo_some (h:QE X e te):QO X (some e) (mPart te):=⟨po_m h.h⟩
theorem qe_slice {lo hi:Option Expr}{tl th:TO}(he:QE X e te)(hl:QO X lo tl)(hu:QO X hi th):QE X (.Subscript e (.Slice lo hi none p2) pos) (tSl (vSl X.K) te tl th):=⟨pe_slice slM he.h hl.h hu.h⟩
theorem qe_ix (ha:QE X a ta)(hb:QE X b tb)(hs:PlainIx b):QE X (.Subscript a b pos) (tOp (vIx X.K) ta tb):=⟨pe_ix ixM ha.h hb.h hs⟩
theorem qe_def {k j:Nat}{ps:List Str}{sp:Sp}(D:Def X.prog X.w X.K X.mg X.base k x ps sp)(hr:Room j X.A)(hj:k<=j)(hg:Gl X x)(ha:QA X (e::es) t)(hdb:(x == ("__debug__":Str))=false:=by decide):QE X (.Call (.Name x p) (e::es) [] pos) (tCall sp [] E0 t):=⟨pe_def D hr hj hg ha.h ha.p hdb⟩
theorem qe_cB {id:String}{r:List V->Hp->VK->Prop}(hc:CallR X (.builtin id) r)(hg:Gl X x)(hm:X.mg x=none)(hv:bootBuiltins x=some (.builtin id))(ha:QA X (e::es) t)(hn:x≠"__name__":=by decide)(hdb:(x == ("__debug__":Str))=false:=by decide):QE X (.Call (.Name x p) (e::es) [] pos) (tCB r t):=⟨pe_cB hc hg hm hv ha.h ha.p hn hdb⟩
theorem qe_cT {T:String}{r:List V->Hp->VK->Prop}(hc:CallR X (.type T) r)(hg:Gl X x)(hm:X.mg x=none)(hv:bootBuiltins x=some (.type T))(ha:QA X (e::es) t)(hn:x≠"__name__":=by decide)(hdb:(x == ("__debug__":Str))=false:=by decide):QE X (.Call (.Name x p) (e::es) [] pos) (tCB r t):=⟨pe_cT hc hg hm hv ha.h ha.p hn hdb⟩
theorem qe_m1 {name:Str}{T id:String}{r:V->List V->Hp->VK->Prop}(pa:PlainAttrs T)(slot:Slot T name id)(hty:typeOf (.builtin id)=pure (.type "method_descriptor"))(hm:MtR X id r)(ho:QE X o to)(ha:QE X e te)
  (hp:plainE e=true:=by rfl) (hbase:attributeBase o name X.env (eval o X.env)=eval o X.env:=by rfl) (hline:(p.endLine == pos.line)=true:=by rfl):QE X (.Call (.Attribute o name p) [e] [] pos) (tBM X.K T r to (tCons te tNil)):=⟨pe_m1 pa slot hty hm ho.h ha.h hp hbase hline⟩
theorem qe_m0 {name:Str}{T id:String}{r:V->List V->Hp->VK->Prop}(pa:PlainAttrs T)(slot:Slot T name id)(hty:typeOf (.builtin id)=pure (.type "method_descriptor"))(hm:MtR X id r)(ho:QE X o to)
  (hbase:attributeBase o name X.env (eval o X.env)=eval o X.env:=by rfl) (hline:(p.endLine == pos.line)=true:=by rfl):QE X (.Call (.Attribute o name p) [] [] pos) (tBM0 X.K T r to):=⟨pe_bm0 pa slot hty hm ho.h hbase hline⟩
theorem qt_cmp {op:CmpOp}{r:R2}(ho:OpR X (compareOp op) r)(ha:QE X a ta)(hb:QE X b tb)(h1:op≠.In:=by decide)(h2:op≠.NotIn:=by decide):QT X (.Compare a [op] [b] pos) (mB (tOp r ta tb)):=⟨pt_cm ho ha.h hb.h (nomark b h1 h2)⟩
theorem qw_and1 {tA:TT}(ha:QT X a tA):QW X (.BoolOp .And [a] pos) tA:=⟨pw_and1 ha.h⟩
theorem qw_or1 {tA:TT}(ha:QT X a tA):QW X (.BoolOp .Or [a] pos) tA:=⟨pw_or1 ha.h⟩
theorem qw_and {tA tB':TT}(ha:QT X a tA)(hb:QW X (.BoolOp .And (b::rest) pos) tB'):QW X (.BoolOp .And (a::b::rest) pos) (mAnd tA tB'):=⟨pw_am ha.h hb.h⟩
theorem qw_or {tA tB':TT}(ha:QT X a tA)(hb:QW X (.BoolOp .Or (b::rest) pos) tB'):QW X (.BoolOp .Or (a::b::rest) pos) (mOr tA tB'):=⟨pw_om ha.h hb.h⟩
theorem QW.pt {tA:TT}(h:QW X a tA):QT X a tA:=⟨h.h.pt⟩
theorem qt_not {tA:TT}(ha:QT X a tA):QT X (.UnaryOp .Not a pos) (tNot tA):=⟨pt_not ha.h⟩
theorem qt_val (ha:QE X a ta)(he:∀ whole,isTrue a X.env whole=(do let v <- whole;standAt a.pos;holding [v] (truthy v)):=by intro _;rfl):QT X a (mT X.K ta):=⟨pt_m ha.h he⟩
theorem qif_nil:QIf X [] tYes:=⟨pifs_nil⟩
theorem qif_one {tA:TT}(h:QT X c tA):QIf X [c] tA:=⟨pifs_one h.h⟩
theorem qe_comp (N':List Str)(caps:List (Option Nat)){elt iter:Expr}{ifs:List Expr}{scope:Scope}{wi:TI}{g:TG}{tt:TT}(hc:X.calm=true)(hi:QI X tg iter wi)
  (hg:∀ pins cl C s0 H0 fp,QG (cxComp X pins N' scope cl C s0 H0 fp) tg g) (ht:∀ pins cl C s0 H0 fp,QIf (cxComp X pins N' scope cl C s0 H0 fp) ifs tt) (he:∀ pins cl C s0 H0 fp,QE (cxComp X pins N' scope cl C s0 H0 fp) elt te)
  (hcap:capOk N' caps X.N X.env.scope.names scope.names=true:=by kernel_rfl) (hkind:scope.kind=.function:=by rfl) (hs:noSet iter=true:=by rfl) :
  QE X (.ListComp elt [⟨tg,iter,ifs,0⟩] scope pos) (tComp caps wi g tt te) :=
 ⟨pe_comp N' caps hc hi.h (λa b c d e f=>(hg a b c d e f).h) (λa b c d e f=>(ht a b c d e f).h) (λa b c d e f=>(he a b c d e f).h) hcap hkind (fold_plain hs)⟩
end
theorem Fun.okq {P:Program}{w:World}{K:W.Frag}{mg:Str->Option Value}{base:Heap}{x qual:Str}{st:Stmt}{f:Addr}{fd:FuncData}{N ps:List Str}{k:Nat}{sp:Sp}(F:Fun K x qual st f fd)(S:FnScope N ps (defScope st))(len:∀ vs H Q E,sp vs H Q E->vs.length=ps.length)
  (hbody:∀ (cdv:Value) (A:Around) (outer:List Env) (s:Shared) (H:Hp) (vs:List V) (Q:VK) (E:XK),Room k (A.deeper (envOfC qual (defScope st) s.heap.objs.size f cdv))->sp vs H Q E ->
   ∃ T:{ t:TS // QB (cxOf CX0 P w K mg base N qual (defScope st) f cdv A outer s H E).nox (defBody st) t },T.1 { nx:=λ_ H'=>Q .non H',rt:=Q } (start N vs) H):FnOk P w K mg base CX0 (k+1) f fd ps sp :=
 F.ok S len λcdv A outer s H vs Q E hr h=>let ⟨T,q⟩:=hbody cdv A outer s H vs Q E hr h;⟨T.1,T.2.h,q⟩
end L2
namespace L2
open PySem PySem.Spec PyProof.Rows
def upE (t:TE):TE:=λσ H Q=>∃ P:VK,t σ H P/\∀ v H1,P v H1->Q v H1
def upT (t:TT):TT:=λσ H Q=>∃ P:Bool->Hp->Prop,t σ H P/\∀ v H1,P v H1->Q v H1
def upG (t:TG):TG:=λv σ H Q=>∃ P:St->Hp->Prop,t v σ H P/\∀ σ1 H1,P σ1 H1->Q σ1 H1
section
variable {X:Cx}{e a b c tg:Expr}{te:TE}{pos p p2:Pos}{x:Str}
theorem QE.up (h:QE X e te):QE X e (upE te):=⟨by
 intro pins s σ H Q I w
 obtain⟨P,w,hP⟩:=w
 exact thn (h.h pins s σ H P I w) λu s1 ⟨v,H1,I1,r1,q1⟩=>⟨v,H1,I1,r1,hP _ _ q1⟩⟩
theorem QIf.up {es:List Expr}{tt:TT}(h:QIf X es tt):QIf X es (upT tt):=⟨by
 intro pins s σ H Q I w
 obtain⟨P,w,hP⟩:=w
 exact thn (h.h pins s σ H P I w) λu s1 ⟨H1,I1,q1⟩=>⟨H1,I1,hP _ _ q1⟩⟩
theorem QG.up {g:TG}(h:QG X e g):QG X e (upG g):=⟨by
 intro pins s σ H v u Q I r w
 obtain⟨P,w,hP⟩:=w
 exact thn (h.h pins s σ H v u P I r w) λu s1 ⟨σ1,H1,I1,q1⟩=>⟨σ1,H1,I1,hP _ _ q1⟩⟩
theorem qe_cp (N':List Str)(caps:List (Option Nat)){elt iter:Expr}{ifs:List Expr}{scope:Scope}{wi:TI}{g:TG}{tt:TT}(hc:X.calm=true)(hi:QI X tg iter wi)
  (hg:∀ pins cl C s0 H0 fp,QG (cxComp X pins N' scope cl C s0 H0 fp) tg g) (ht:∀ pins cl C s0 H0 fp,QIf (cxComp X pins N' scope cl C s0 H0 fp) ifs tt) (he:∀ pins cl C s0 H0 fp,QE (cxComp X pins N' scope cl C s0 H0 fp) elt te)
  (hcap:capOk N' caps X.N X.env.scope.names scope.names=true:=by kernel_rfl) (hkind:scope.kind=.function:=by rfl) (hs:noSet iter=true:=by rfl) :
  QE X (.ListComp elt [⟨tg,iter,ifs,0⟩] scope pos) (tComp caps wi (upG g) (upT tt) (upE te)) :=
 qe_comp N' caps hc hi (λa b c d e f=>(hg a b c d e f).up) (λa b c d e f=>(ht a b c d e f).up) (λa b c d e f=>(he a b c d e f).up) hcap hkind hs
end
def Turn1 (g:TG)(tt:TT)(te:TE)(D:Addr)(ys:List V)(x:V)(σ:St)(H:Hp)(N:St->Hp->List V->Prop):Prop :=
 g x σ H λσ2 H3=>tt σ2 H3 λb H4=>(b=true->te σ2 H4 λv H5=>H5 D=some (.lst ys)/\ys.length<sizeLine/\∀ H6,Kp [D] H5 H6->H6 D=some (.lst (ys++[v]))->N σ2 H6 (ys++[v]))/\(b=false->H4 D=some (.lst ys)/\N σ2 H4 ys)
theorem turn1_ok {g:TG}{tt:TT}{te:TE}{D:Addr}{ys:List V}{x:V}{σ:St}{H:Hp}{N:St->Hp->List V->Prop}{M:St->Hp->Prop}(h:Turn1 g tt te D ys x σ H N)(hM:∀ σ H ys,H D=some (.lst ys)->N σ H ys->M σ H) :
  upG g x σ H λσ2 H3=>upT tt σ2 H3 λb H4=>if b=true then upE te σ2 H4 λv H5=>∃ ys,H5 D=some (.lst ys)/\ys.length<sizeLine/\M σ2 (upd H5 D (.lst (ys++[v]))) else M σ2 H4:=by
 refine⟨_,h,λσ2 H3 h=>⟨_,h,λb H4 h=>?_⟩⟩
 cases b with
 | true=>exact iteT ⟨_,h.1 rfl,λv H5 q=>⟨ys,q.1,q.2.1,hM _ _ _ upd_same (q.2.2 _ kp_upd upd_same)⟩⟩
 | false=>exact iteF (hM _ _ _ (h.2 rfl).1 (h.2 rfl).2)
section
variable {g:TG}{tt:TT}{te:TE}{σ0:St}{H1:Hp}{Q:Addr->Hp->Prop}{K:W.Frag}
theorem comp_rng {lo:Int}{n:Nat}(R:Nat->Addr->St->Hp->List V->Prop)
  (h0:∀ D H',H1 D=none->Same H1 H'->H' D=some (.lst [])->R 0 D σ0 H' [])
  (hs:∀ i D σ H ys,i<n->H1 D=none->R i D σ H ys->H D=some (.lst ys)->Turn1 g tt te D ys (.int (lo+i)) σ H (R (i+1) D))
  (hd:∀ D σ H ys,H1 D=none->R n D σ H ys->H D=some (.lst ys)->Q D H):∀ D,H1 D=none->compRead (Itr lo n) D (upG g) (upT tt) (upE te) σ0 (upd H1 D (.lst [])) λH2=>Q D H2:=by
 intro D hD
 refine comp_range (λi σ H=>∃ ys,H D=some (.lst ys)/\R i D σ H ys) ⟨[],upd_same,h0 D _ hD (same_upd hD) upd_same⟩ ?_ ?_
 ·rintro i σ H hi ⟨ys,e,r⟩
  exact turn1_ok (hs i D σ H ys hi hD r e) λσ H ys e r=>⟨ys,e,r⟩
 ·rintro σ H ⟨ys,e,r⟩
  exact hd D σ H ys hD r e
theorem comp_lst {a:Addr}(xs:List V)(R:Nat->Addr->St->Hp->List V->Prop)
  (h0:∀ D H',H1 D=none->Same H1 H'->H' D=some (.lst [])->R 0 D σ0 H' [])
  (hl:∀ i D σ H ys,H1 D=none->R i D σ H ys->SqL K H a xs)
  (hs:∀ i x D σ H ys,xs[i]?=some x->H1 D=none->R i D σ H ys->H D=some (.lst ys)->Turn1 g tt te D ys x σ H (R (i+1) D))
  (hd:∀ D σ H ys,H1 D=none->R xs.length D σ H ys->H D=some (.lst ys)->Q D H):∀ D,H1 D=none->compRead (Itl K a) D (upG g) (upT tt) (upE te) σ0 (upd H1 D (.lst [])) λH2=>Q D H2:=by
 intro D hD
 refine comp_list (xs:=xs) (λi σ H=>∃ ys,H D=some (.lst ys)/\R i D σ H ys) ⟨[],upd_same,h0 D _ hD (same_upd hD) upd_same⟩ ?_ ?_ ?_
 ·rintro i σ H _ ⟨ys,e,r⟩
  exact hl i D σ H ys hD r
 ·rintro i x σ H hi ⟨ys,e,r⟩
  exact turn1_ok (hs i x D σ H ys hi hD r e) λσ H ys e r=>⟨ys,e,r⟩
 ·rintro σ H ⟨ys,e,r⟩
  exact hd D σ H ys hD r e
end
end L2
namespace L2
open PySem
theorem Kp.new {S:List Addr}{H H5 H6:Hp}{D:Addr}(k:Kp S H H5)(k6:Kp [D] H5 H6)(hD:H D=none):Kp S H H6:=λb o n q=>k6.one (ne_of_none q hD) (k b o n q)
theorem Same.new {H H5 H6:Hp}{D:Addr}(k:Same H H5)(k6:Kp [D] H5 H6)(hD:H D=none):Same H H6:=λb o q=>k6.one (ne_of_none q hD) (k b o q)
theorem Kp.same {S:List Addr}{H H5 H6:Hp}(k:Kp S H H5)(s:Same H5 H6):Kp S H H6:=λb o n q=>s b o (k b o n q)
theorem sz_of {n:Nat}(h:n<=100000):n<=sizeLine:=by rw[sizeLine_eq];omega
theorem sz_lt {n:Nat}(h:n<=100000):n<sizeLine:=by rw[sizeLine_eq];omega
theorem map_snoc (zs:List Int)(z:Int):zs.map V.int++[V.int z]=(zs++[z]).map V.int:=by rw[List.map_append];rfl
theorem vints_at {zs:List Int}{i:Nat}{x:V}(h:(zs.map V.int)[i]?=some x):∃ z,x=.int z/\zs[i]?=some z/\z∈zs:=by
 rw[List.getElem?_map] at h
 cases e:zs[i]? with
 | none=>rw[e] at h;cases h
 | some z =>
  rw[e] at h
  exact⟨z,(Option.some.inj h).symm,rfl,List.mem_of_getElem? e⟩
end L2
namespace L2
open PySem PySem.Spec PyProof.Rows
section
variable {g:TG}{tb:TS}{D:Ends}{σ:St}{H:Hp}{K:W.Frag}
theorem for_en {a:Addr}(xs:List V)(Pv:Nat->St->Hp->Prop)(h0:Pv 0 σ H)(hl:∀ i σ H,i<=xs.length->Pv i σ H->SqL K H a xs)
  (hs:∀ i x σ H T H',xs[i]?=some x->Pv i σ H->H T=none->Same H H'->H' T=some (.tup [.int i,x])->g (.ref T) σ H' λσ2 H2=>tb { D with nx:=Pv (i+1),ct:=Pv (i+1),bk:=D.nx } σ2 H2) (hd:∀ σ H,Pv xs.length σ H->D.nx σ H) :
  ∃ W:Nat->Nat->St->Hp->Prop,(∃ m,W 0 m σ H)/\∀ i m σ H,W i m σ H ->
   ((Ite K a).stop i H/\D.nx σ H)\/((Ite K a).go i H/\∃ N:St->Hp->Prop,(∀ σ' H',N σ' H'->∃ m',m'<m/\W (i+1) m' σ' H')/\∀ x H',(Ite K a).yld i H x H'->g x σ H' λσ2 H2=>tb { D with nx:=N,ct:=N,bk:=D.nx } σ2 H2) :=
 for_enum (xs:=xs) Pv h0 hl (λi x σ H T hx p hT=>hs i x σ H T _ hx p hT (same_upd hT) upd_same) hd
end
theorem take_snoc {α:Type}{l:List α}{i:Nat}{x:α}(h:l[i]?=some x):l.take (i+1)=l.take i++[x]:=by rw[List.take_add_one,h];rfl
theorem i_isi {K:W.Frag}{H:Hp}{Q:VK}{x:V}{t c:String}(ty:TyOf K H x (.type t))(ht:t∈["NoneType","bool","int","str","list","tuple","dict"])(hc:c∈["bool","int","str","list","tuple","dict"])(q:Q (.bl (isTy t c)) H):hIsi K x c H Q:=by
 unfold hIsi;exact⟨t,ty,ht,hc,q⟩
end L2
namespace L2
open PySem PySem.Spec PyProof.Rows
theorem zip_apart (n a b : Nat) (ha : a < n) (hb : b < n) : ZipApart (n + 4) (n + 2) (n + 3) n (n + 1) a b :=
  ⟨show (n + 2 : Nat) ≠ n + 4 by omega, show (n + 3 : Nat) ≠ n + 4 by omega, show (n : Nat) ≠ n + 4 by omega, show (n + 1 : Nat) ≠ n + 4 by omega, show (n + 2 : Nat) ≠ n + 3 by omega, show (n + 2 : Nat) ≠ n by omega, show (n + 2 : Nat) ≠ n + 1 by omega, show (n + 3 : Nat) ≠ n by omega, show (n + 3 : Nat) ≠ n + 1 by omega, show (n : Nat) ≠ n + 1 by omega,
   show (a : Nat) ≠ n + 4 by omega, show (a : Nat) ≠ n + 3 by omega, show (a : Nat) ≠ n by omega, show (a : Nat) ≠ n + 1 by omega, show (b : Nat) ≠ n + 4 by omega, show (b : Nat) ≠ n + 3 by omega, show (b : Nat) ≠ n by omega, show (b : Nat) ≠ n + 1 by omega⟩
theorem boot_zip:bootBuiltins "zip"=some (.type "zip"):=by decide +kernel
section
variable {X:Cx}
end
section
variable {g:TG}{tt:TT}{te:TE}{σ0:St}{H1:Hp}{Q:Addr->Hp->Prop}{K:W.Frag}
end
end L2
namespace L2
open PySem PySem.Spec PyProof.Rows
section
variable {X:Cx}{K:W.Frag}{e a b c o tg:Expr}{es rest:List Expr}{te ta tb tc to:TE}{t:TA}{pos p p2:Pos}{x:Str}
theorem kg_tup {k:Nat}{u:TGs}(hK:X.K=K)(hc:X.calm=true)(h:QGs X es u):QG X (.Tuple es k pos) (gTm K es.length u):=hK▸qg_tup hc h
theorem ki_list (hK:X.K=K)(h:QE X e te):QI X tg e (mItL K te):=hK▸qi_list h
theorem ki_enum {k:Nat}(hK:X.K=K)(hg:Gl X "enumerate")(hm:X.mg "enumerate"=none)(h:QA X [a] t):QI X (.Tuple es k p2) (.Call (.Name "enumerate" p) [a] [] pos) (mEnum K t):=hK▸qi_enum hg hm h
theorem ke_not (hK:X.K=K)(ha:QE X a ta):QE X (.UnaryOp .Not a pos) (mNotV K ta):=hK▸qe_not ha
theorem ke_and (hK:X.K=K)(ha:QE X a ta)(hb:QE X (.BoolOp .And (b::rest) pos) tb):QE X (.BoolOp .And (a::b::rest) pos) (mAndV K ta tb):=hK▸qe_and ha hb
theorem ke_slice {lo hi:Option Expr}{tl th:TO}(hK:X.K=K)(he:QE X e te)(hl:QO X lo tl)(hu:QO X hi th):QE X (.Subscript e (.Slice lo hi none p2) pos) (tSl (vSl K) te tl th):=hK▸qe_slice he hl hu
theorem ke_ix (hK:X.K=K)(ha:QE X a ta)(hb:QE X b tb)(hs:PlainIx b):QE X (.Subscript a b pos) (tOp (vIx K) ta tb):=hK▸qe_ix ha hb hs
theorem ke_m1 {name:Str}{T id:String}{r:V->List V->Hp->VK->Prop}(hK:X.K=K)(pa:PlainAttrs T)(slot:Slot T name id)(hty:typeOf (.builtin id)=pure (.type "method_descriptor"))(hm:MtR X id r)(ho:QE X o to)(ha:QE X e te)
  (hp:plainE e=true:=by rfl) (hbase:attributeBase o name X.env (eval o X.env)=eval o X.env:=by rfl) (hline:(p.endLine == pos.line)=true:=by rfl):QE X (.Call (.Attribute o name p) [e] [] pos) (tBM K T r to (tCons te tNil)):=hK▸qe_m1 pa slot hty hm ho ha hp hbase hline
theorem ke_m0 {name:Str}{T id:String}{r:V->List V->Hp->VK->Prop}(hK:X.K=K)(pa:PlainAttrs T)(slot:Slot T name id)(hty:typeOf (.builtin id)=pure (.type "method_descriptor"))(hm:MtR X id r)(ho:QE X o to)
  (hbase:attributeBase o name X.env (eval o X.env)=eval o X.env:=by rfl) (hline:(p.endLine == pos.line)=true:=by rfl):QE X (.Call (.Attribute o name p) [] [] pos) (tBM0 K T r to):=hK▸qe_m0 pa slot hty hm ho hbase hline
theorem kt_val (hK:X.K=K)(ha:QE X a ta)(he:∀ whole,isTrue a X.env whole=(do let v <- whole;standAt a.pos;holding [v] (truthy v)):=by intro _;rfl):QT X a (mT K ta):=hK▸qt_val ha he
theorem kSum (hK:X.K=K)(hc:X.calm=true):CallR X (.builtin "sum") (vSum K):=hK▸callSum hc
theorem kMax (hK:X.K=K)(hc:X.calm=true):CallR X (.builtin "max") (vMax K):=hK▸callMax hc
theorem kMin (hK:X.K=K)(hc:X.calm=true):CallR X (.builtin "min") (vMin K):=hK▸callMin hc
theorem kLen (hK:X.K=K):CallR X (.builtin "len") (vLen K):=hK▸callLen
theorem kList (hK:X.K=K):CallR X (.type "list") (vCopy K):=hK▸callList
theorem kSorted (hK:X.K=K):CallR X (.builtin "sorted") (vSorted K):=hK▸callSorted
theorem kIsi (hK:X.K=K):CallR X (.builtin "isinstance") (vIsi K):=hK▸callIsi
def vClr:V->List V->Hp->VK->Prop:=λx vs H Q=>match x,vs with
 | .ref a,[]=>hClr a H Q
 | _,_=>False
end
section
variable {X:Cx}
theorem paired_at {α β:Type}{R:α->β->Prop}:∀ {xs:List α} {ys:List β},Paired R xs ys->∀ (j:Nat) {x:α} {y:β},xs[j]?=some x->ys[j]?=some y->R x y
 | _,_,.nil,j,_,_,h,_=>by simp at h
 | _,_,.cons r t,0,_,_,h1,h2=>by simp at h1 h2;subst h1;subst h2;exact r
 | _,_,.cons r t,j+1,_,_,h1,h2=>paired_at t j (by simpa using h1) (by simpa using h2)
theorem all_true (n:Nat):((List.range n).all λ_=>true)=true:=by simp
theorem seq_same {pins:List (Addr×Obj)}{σ:St}{H:Hp}{s:Shared}{n:Nat}{A:Around}{xs ys:List V}{us vs:List Value}{ds:List PyData}
  (ih:∀ (x y:V) (u v:Value) (d:PyData),RV n H x d->RV n H y d->RelV x u->RelV y v->SeqAt.EqAt A s u v true) (p1:Paired (RV n H) xs ds) (p2:Paired (RV n H) ys ds) (r1:Vals xs us) (r2:Vals ys vs) :
  us.toArray.size=vs.toArray.size/\∀ j (h1:j<us.toArray.size) (h2:j<vs.toArray.size),SeqAt.EqAt A s us.toArray[j] vs.toArray[j] ((λ_=>true) j):=by
 have l1:=Paired.length p1
 have l2:=Paired.length p2
 have l3:=Paired.length r1
 have l4:=Paired.length r2
 refine⟨by simp only[List.size_toArray];omega,λj h1 h2=>?_⟩
 have h1':j<us.length:=by simpa using h1
 have h2':j<vs.length:=by simpa using h2
 have hx:j<xs.length:=by omega
 have hy:j<ys.length:=by omega
 have hd:j<ds.length:=by omega
 exact ih xs[j] ys[j] _ _ ds[j] (paired_at p1 j (List.getElem?_eq_getElem hx) (List.getElem?_eq_getElem hd)) (paired_at p2 j (List.getElem?_eq_getElem hy) (List.getElem?_eq_getElem hd))
  (paired_at r1 j (List.getElem?_eq_getElem hx) (by simp[h1'])) (paired_at r2 j (List.getElem?_eq_getElem hy) (by simp[h2']))
inductive RdP (n:Nat)(H:Hp)(h:Heap)(a:Addr):PyData->Prop where
 | lst {xs:List V} {us:List Value} {ds:List PyData} (p:Paired (RV n H) xs ds) (r:Vals xs us) (l:h.IsList a us.toArray):RdP n H h a (.list ds)
 | tup {xs:List V} {us:List Value} {ds:List PyData} (p:Paired (RV n H) xs ds) (r:Vals xs us) (l:h.IsTuple a us.toArray):RdP n H h a (.tuple ds)
theorem rdP_of {pins:List (Addr×Obj)}{σ:St}{H:Hp}{s:Shared}(I:Inv X pins σ H s){n:Nat}{a:Addr}{d:PyData}(h:RV (n+1) H (.ref a) d):RdP n H s.heap a d:=by
 rcases (show (∃ xs ds,Rd H a (.lst xs)/\d=.list ds/\Paired (RV n H) xs ds)\/∃ xs ds,Rd H a (.tup xs)/\d=.tuple ds/\Paired (RV n H) xs ds from h) with ⟨xs,ds,h1,rfl,h3⟩ | ⟨xs,ds,h1,rfl,h3⟩
 ·obtain⟨us,r,p,_⟩:=I.list (.inl h1)
  exact .lst h3 r p.isList
 ·obtain⟨us,r,p,_⟩:=I.tuple (.inl h1)
  exact .tup h3 r p
def flatD:V->Option PyData
 | .non=>some .none
 | .bl b=>some (.bool b)
 | .int i=>some (.int i)
 | .str x=>some (.str x)
 | _=>none
theorem rv_scal {n : Nat} {H : Hp} {x : V} {d : PyData} (h : RV n H x d) (hx : ∀ a, x ≠ .ref a) : flatD x = some d := by
  cases x with
  | non => have e : d = .none := by cases n <;> exact h
           rw [e]; rfl
  | bl b => have e : d = .bool b := by cases n <;> exact h
            rw [e]; rfl
  | int i => have e : d = .int i := by cases n <;> exact h
             rw [e]; rfl
  | str i => have e : d = .str i := by cases n <;> exact h
             rw [e]; rfl
  | ref a => exact absurd rfl (hx a)
  | byt b => cases n <;> exact (show False from h).elim
  | flt b => cases n <;> exact (show False from h).elim
  | ty b => cases n <;> exact (show False from h).elim
theorem rv_ref {n:Nat}{H:Hp}{a:Addr}{d:PyData}(h:RV n H (.ref a) d):(∃ ds,d=.list ds)\/∃ ds,d=.tuple ds:=by
 cases n with
 | zero=>exact(show False from h).elim
 | succ n =>
  rcases (show (∃ xs ds,Rd H a (.lst xs)/\d=.list ds/\Paired (RV n H) xs ds)\/∃ xs ds,Rd H a (.tup xs)/\d=.tuple ds/\Paired (RV n H) xs ds from h) with ⟨xs,ds,_,e,_⟩ | ⟨xs,ds,_,e,_⟩
  ·exact .inl ⟨ds,e⟩
  ·exact .inr ⟨ds,e⟩
theorem flat_no {x:V}{d:PyData}(h:flatD x=some d):(∀ ds,d≠.list ds)/\∀ ds,d≠.tuple ds:=by
 cases x<;>simp[flatD] at h<;>subst h<;>exact⟨λds e=>(by cases e),λds e=>(by cases e)⟩
theorem flat_inj {x y:V}{d:PyData}(h1:flatD x=some d)(h2:flatD y=some d):x=y:=by
 cases x<;>simp[flatD] at h1<;>subst h1<;>cases y<;>simp[flatD] at h2<;>first | rfl | (subst h2;rfl)
theorem both_flat {n:Nat}{H:Hp}{x y:V}{d:PyData}(h1:RV n H x d)(h2:RV n H y d)(hx:∀ a,x≠.ref a):x=y:=by
 have f1:=rv_scal h1 hx
 refine flat_inj f1 (rv_scal h2 λb e=>?_)
 subst e
 rcases rv_ref h2 with ⟨ds,e⟩ | ⟨ds,e⟩
 ·exact(flat_no f1).1 ds e
 ·exact(flat_no f1).2 ds e
theorem rel_same {x:V}{u v:Value}{d:PyData}{A:Around}{s:Shared}(hf:flatD x=some d)(r1:RelV x u)(r2:RelV x v):SeqAt.EqAt A s u v true:=by
 cases x with
 | non=>cases r1;cases r2;exact SeqAt.EqAt.same _
 | bl b=>cases r1;cases r2;exact SeqAt.EqAt.same _
 | int i =>
  obtain⟨t,rfl⟩:=r1
  obtain⟨t',rfl⟩:=r2
  have:=SeqAt.EqAt.int_int (A:=A) (s:=s) i t i t'
  rw[beq_self_eq_true] at this
  exact this
 | str i =>
  obtain⟨t,rfl⟩:=r1
  obtain⟨t',rfl⟩:=r2
  have:=SeqAt.EqAt.str_str (A:=A) (s:=s) i t i t'
  rw[beq_self_eq_true] at this
  exact this
 | _=>cases hf
theorem rv_flat {n:Nat}{H:Hp}{x y:V}{u v:Value}{d:PyData}{A:Around}{s:Shared}(h1:RV n H x d)(h2:RV n H y d)(r1:RelV x u)(r2:RelV y v)(hx:∀ a,x≠.ref a):SeqAt.EqAt A s u v true:=by
 have e:=both_flat h1 h2 hx
 subst e
 exact rel_same (rv_scal h1 hx) r1 r2
theorem eqAt_rv {pins:List (Addr×Obj)}{σ:St}{H:Hp}{s:Shared}(I:Inv X pins σ H s):∀ (n:Nat) (A:Around),A.units+n<cLine->∀ (x y:V) (u v:Value) (d:PyData),RV n H x d->RV n H y d->RelV x u->RelV y v->SeqAt.EqAt A s u v true:=by
 intro n
 induction n with
 | zero =>
  intro A hA x y u v d h1 h2 r1 r2
  refine rv_flat h1 h2 r1 r2 λa e=>?_
  subst e
  exact(show False from h1)
 | succ n ih =>
  intro A hA x y u v d h1 h2 r1 r2
  by_cases hx:∃ a,x=.ref a
  ·obtain⟨a,rfl⟩:=hx
   by_cases hy:∃ b,y=.ref b
   ·obtain⟨b,rfl⟩:=hy
    cases r1
    cases r2
    by_cases hab:a=b
    ·subst hab;exact SeqAt.EqAt.same _
    have ih':=ih A.in1 (by show A.units+1+n<cLine;omega)
    have hu:A.units<cLine:=by omega
    cases rdP_of I h1 with
    | lst p1 q1 l1 =>
     cases rdP_of I h2 with
     | lst p2 q2 l2 =>
      obtain⟨z1,z2⟩:=seq_same (pins:=pins) (σ:=σ) ih' p1 p2 q1 q2
      have:=SeqAt.RcAt.lists (A:=A) l1 l2 z1 hu z2
      rw[all_true] at this
      exact SeqAt.EqAt.of_refs hab this
    | tup p1 q1 l1 =>
     cases rdP_of I h2 with
     | tup p2 q2 l2 =>
      obtain⟨z1,z2⟩:=seq_same (pins:=pins) (σ:=σ) ih' p1 p2 q1 q2
      have:=SeqAt.RcAt.tuples (A:=A) l1 l2 hu z2
      rw[all_true,z1,beq_self_eq_true] at this
      exact SeqAt.EqAt.of_refs hab this
   ·exact absurd ⟨a,(both_flat h2 h1 λb e=>hy ⟨b,e⟩)⟩ hy
  ·exact rv_flat h1 h2 r1 r2 λa e=>hx ⟨a,e⟩
@[irreducible] def hEqR (K:W.Frag)(a b:Addr)(H:Hp)(Q:Bool->Hp->Prop):Prop:=hEqL K a b H Q\/∃ n d,n<=20/\RV (n+1) H (.ref a) d/\RV (n+1) H (.ref b) d/\Q true H
theorem i_eqI {K:W.Frag}{a b:Addr}{H:Hp}{Q:Bool->Hp->Prop}{ns ms:List Int}(h1:SqL K H a (ns.map V.int))(h2:SqL K H b (ms.map V.int))(q:Q (decide (ns=ms)) H):hEqR K a b H Q:=by unfold hEqR;exact .inl (i_eqL h1 h2 q)
def vEqG (K:W.Frag)(n:Bool->Bool):R2:=λx y H Q=>match x,y with
 | .int i,.int j=>Q (.bl (n (decide (i=j)))) H
 | .str i,.str j=>Q (.bl (n (decide (i=j)))) H
 | .bl i,.bl j=>Q (.bl (n (decide (i=j)))) H
 | .non,.non=>Q (.bl (n true)) H
 | .non,.int _=>Q (.bl (n false)) H
 | .int _,.non=>Q (.bl (n false)) H
 | .non,.bl _=>Q (.bl (n false)) H
 | .bl _,.non=>Q (.bl (n false)) H
 | .ref a,.ref b=>hEqR K a b H λr H'=>Q (.bl (n r)) H'
 | _,_=>False
theorem kEqG {K:W.Frag}{k:Nat}(hK:X.K=K)(hr:Room k X.A):OpR X (compareOp .Eq) (vEqG K id):=by
 subst hK
 intro pins s σ H x y v u Q I rx ry h
 cases x<;>cases y<;>first
  | exact(show False from h).elim
  | exact op_eq pins s σ H _ _ v u Q I rx ry ⟨rfl,by rw[dI];exact h⟩
  | exact op_eq pins s σ H _ _ v u Q I rx ry ⟨rfl,by rw[dS];exact h⟩
  | exact op_eq pins s σ H _ _ v u Q I rx ry ⟨rfl,by rw[dB];exact h⟩
  | exact op_eq pins s σ H _ _ v u Q I rx ry ⟨rfl,h⟩
  | skip
 rename_i a b
 have h:=(show hEqR X.K a b H _ from h)
 unfold hEqR at h
 rcases h with h | ⟨n,d,hn,h1,h2,q⟩
 ·unfold hEqL at h;obtain⟨xs,ys,h1,h2,h3⟩:=h;exact op_eqI hr pins s σ H _ _ v u Q I rx ry ⟨_,_,xs,ys,rfl,rfl,h1,h2,h3⟩
 ·cases rx
  cases ry
  have hu:=hr.units
  have ih:=eqAt_rv I n X.A.in1 (by show X.A.units+1+n<cLine;omega)
  cases rdP_of I h1 with
  | lst p1 q1 l1 =>
   cases rdP_of I h2 with
   | lst p2 q2 l2 =>
    obtain⟨z1,z2⟩:=seq_same (pins:=pins) (σ:=σ) ih p1 p2 q1 q2
    exact SeqAt.eq_listAt l1 l2 z1 (by omega) z2 (by rw[all_true];exact⟨.bl true,H,I,rfl,q⟩)
  | tup p1 q1 l1 =>
   cases rdP_of I h2 with
   | tup p2 q2 l2 =>
    obtain⟨z1,z2⟩:=seq_same (pins:=pins) (σ:=σ) ih p1 p2 q1 q2
    exact SeqAt.eq_tupleAt l1 l2 (by omega) z2 (by rw[all_true,z1,beq_self_eq_true];exact⟨.bl true,H,I,rfl,q⟩)
theorem kNeG {K:W.Frag}{k:Nat}(hK:X.K=K)(hr:Room k X.A):OpR X (compareOp .NotEq) (vEqG K not):=by
 subst hK
 intro pins s σ H x y v u Q I rx ry h
 cases x<;>cases y<;>first
  | exact(show False from h).elim
  | exact op_ne pins s σ H _ _ v u Q I rx ry ⟨rfl,by rw[dI];exact h⟩
  | exact op_ne pins s σ H _ _ v u Q I rx ry ⟨rfl,by rw[dS];exact h⟩
  | exact op_ne pins s σ H _ _ v u Q I rx ry ⟨rfl,by rw[dB];exact h⟩
  | exact op_ne pins s σ H _ _ v u Q I rx ry ⟨rfl,h⟩
  | skip
 rename_i a b
 have h:=(show hEqR X.K a b H _ from h)
 unfold hEqR at h
 have hu:=hr.units
 rcases h with h | ⟨n,d,hn,h1,h2,q⟩
 ·unfold hEqL at h
  obtain⟨ns,ms,h1,h2,qq⟩:=h
  cases rx;cases ry
  obtain⟨its,r1,p1,_⟩:=I.list h1
  obtain⟨its2,r2,p2,_⟩:=I.list h2
  have i1:=intsAre_of r1
  have i2:=intsAre_of r2
  have l1:=r1.length
  have l2:=r2.length
  rw[List.length_map] at l1 l2
  by_cases hl:ns.length=ms.length
  ·refine SeqAt.RcNeAt.lists (e:=λj=>decide (ns.getD j 0=ms.getD j 0)) p1.isList p2.isList (by simp only[List.size_toArray];omega) hr.units0 (λj a1 a2=>?_) _ _ _ _ ?_
   ·obtain⟨t1,e1⟩:=ints_at i1 j a1
    obtain⟨t2,e2⟩:=ints_at i2 j a2
    rw[e1,e2]
    have:=SeqAt.EqAt.int_int (A:=X.A.in1) (s:=s) (ns.getD j 0) t1 (ms.getD j 0) t2
    rw[Bool.beq_eq_decide_eq] at this
    exact this
   ·rw[show its.toArray.size=ns.length by simp only[List.size_toArray];omega,all_range_eq ns ms hl]
    exact⟨.bl _,H,I,rfl,qq⟩
  ·refine SeqAt.RcNeAt.lists_lengths p1.isList p2.isList (by simp only[List.size_toArray,bne_iff_ne];omega) hr.units0 _ _ _ _ ⟨.bl true,H,I,rfl,?_⟩
   have:decide (ns=ms)=false:=decide_eq_false λe=>hl (by rw[e])
   rw[this] at qq
   exact qq
 ·cases rx
  cases ry
  have ih:=eqAt_rv I n X.A.in1 (by show X.A.units+1+n<cLine;omega)
  cases rdP_of I h1 with
  | lst p1 q1 l1 =>
   cases rdP_of I h2 with
   | lst p2 q2 l2 =>
    obtain⟨z1,z2⟩:=seq_same (pins:=pins) (σ:=σ) ih p1 p2 q1 q2
    exact SeqAt.RcNeAt.lists l1 l2 z1 (by omega) z2 _ _ _ _ (by rw[all_true];exact⟨.bl false,H,I,rfl,q⟩)
  | tup p1 q1 l1 =>
   cases rdP_of I h2 with
   | tup p2 q2 l2 =>
    obtain⟨z1,z2⟩:=seq_same (pins:=pins) (σ:=σ) ih p1 p2 q1 q2
    exact SeqAt.RcNeAt.tuples l1 l2 (by omega) z2 _ _ _ _ (by rw[all_true,z1,beq_self_eq_true];exact⟨.bl false,H,I,rfl,q⟩)
end
end L2
namespace L2
open PySem PySem.Spec PyProof.Rows
section
variable {X:Cx}
end
end L2
namespace L2
open PySem PySem.Spec PyProof.Rows
section
variable {X:Cx}{e st:Expr}{te:TE}{ts:TO}{p2 pos:Pos}{K:W.Frag}
@[irreducible] def hRev (K:W.Frag)(a:Addr)(H:Hp)(Q:VK):Prop:=∃ xs,SqL K H a xs/\∀ p,H p=none->Q (.ref p) (upd H p (.lst xs.reverse))
theorem i_rev {a:Addr}{H:Hp}{Q:VK}{xs:List V}(h:SqL K H a xs)(q:∀ p H',H p=none->Same H H'->H' p=some (.lst xs.reverse)->Q (.ref p) H'):hRev K a H Q:=by
 unfold hRev;exact⟨xs,h,λp hp=>q p _ hp (same_upd hp) upd_same⟩
def mRev (K:W.Frag)(te:TE)(ts:TO):TE:=λσ H Q=>te σ H λx H1=>ts σ H1 λs H2=>match x,s with
 | .ref a,some k=>k=-1/\hRev K a H2 Q
 | _,_=>False
theorem Vals.rev:∀ {xs:List V} {us:List Value},Vals xs us->Vals xs.reverse us.reverse
 | _,_,.nil=>.nil
 | _,_,.cons r t=>by rw[List.reverse_cons,List.reverse_cons];exact(Vals.rev t).append (.cons r .nil)
theorem qe_rev (hK:X.K=K)(he:QE X e te)(hs:QO X (some st) ts)(hsub:∀ v sl,subscripted (.Slice none none (some st) p2) false v sl=operate [v,sl] (getItem v sl):=by intro _ _;rfl):QE X (.Subscript e (.Slice none none (some st) p2) pos) (mRev K te ts):=⟨by
 subst hK
 intro pins s σ H Q I h
 refine Subscript_ (thn (he.h pins s σ H _ I h) λv s1 ⟨x,H1,I1,r1,q1⟩=>?_)
 refine wpAny_Slice ?_
 rw[evalPart_none]
 refine wpAny_pure ?_
 refine wpAny_pure ?_
 refine thn (hs.h pins s1 σ H1 _ I1 q1) λvk s2 ⟨k,H2,I2,pk,q2⟩=>?_
 have I3:Inv X pins σ H2 { s2 with heap:=s2.heap.push { cls:=.type "slice",data:=.fields #[.none,.none,vk] } }:=I2.kept (t':=s2.toks) λb ob q=>Heap.get?_push_of_some _ q
 cases x with
 | ref a =>
  cases k with
  | none=>exact(show False from q2).elim
  | some k =>
   obtain⟨rfl,q⟩:=(show k=-1/\hRev X.K a H2 Q from q2)
   unfold hRev at q
   obtain⟨xs,hx,q⟩:=q
   cases r1
   obtain⟨its,r,ht,hz⟩:=I3.list hx
   have hlen:=r.length
   have hg:wpAny (model X.prog X.w) X.A (getItem (.ref a) (.ref s2.heap.objs.size)) (EP X pins σ Q) X.xe { s2 with heap:=s2.heap.push { cls:=.type "slice",data:=.fields #[.none,.none,vk] } }:=by
    refine wpAny_getItem_list_slice ht.isList (Heap.IsSliceOf.new ..) .none .none pk (by decide) ?_ (by rw[List.size_toArray];omega)
    rw[W.krv_pick]
    refine⟨.ref _,_,I3.laid (t':=s2.toks) (o:=.lst xs.reverse) (λb ob q=>Heap.get?_push_of_some _ q) (Nat.le_refl _) ?_,rfl,q _ (I3.hok.fresh (Nat.le_refl _))⟩
    exact⟨by rw[List.length_reverse];exact hz,_,0,Vals.rev r,Heap.get?_push_size _ rfl⟩
   exact tail_any (ops:=[.ref a,.ref s2.heap.objs.size]) (ht.isList.typeIs) slot_list_getitem.lookup hg (hsub _ _)
 | _=>exact(show False from q2).elim⟩
end
end L2
namespace L2
open PySem PySem.Spec PyProof.Rows
section
variable {X:Cx}{K:W.Frag}{e t1 t2:Expr}{es:List Expr}{te:TE}{pos p p2:Pos}
theorem drawL {prog:Program}{w:World}{A:Around}{E:Value->Shared->Prop}{it l:Addr}{us:Array Value}(hne:l≠it):∀ (n i:Nat) (s:Shared) (Q:List Value->Shared->Prop),s.heap.IsListIter it l i->s.heap.IsList l us->i+n<=us.size ->
  (∀ h',h'.IsListIter it l (i+n)->Heap.SameBut it s.heap h'->Q ((us.toList.drop i).take n) { s with heap:=h' })->wpAny (model prog w) A (draw (.ref it) n) Q E s
 | 0,i,s,Q,a,b,_,q=>by
  show wpAny _ _ (pure []) _ _ _
  refine wpAny_pure ?_
  simpa using q s.heap a (Heap.SameBut.refl ..)
 | n+1,i,s,Q,a,b,le,q=>by
  have lt:i<us.size:=by omega
  show wpAny _ _ (pyNext (.ref it) >>= _) _ _ _
  refine wpAny_bind (wpAny_pyNext_list_item a b (x:=us[i]) (by simp[lt]) λg1 a1 c1=>wpAny_bind (wpAny_holding (drawL hne n (i+1) _ _ a1 (b.extBut c1.extBut hne) (by omega) λg2 a2 c2=>wpAny_pure ?_)))
  have z:=q g2 (by rw[show i+(n+1)=i+1+n by omega];exact a2) (c1.trans c2)
  rwa [show us.toList.drop i=us[i]::us.toList.drop (i+1) by simp[List.drop_eq_getElem_cons,lt],List.take_succ_cons] at z
theorem unpackL {prog:Program}{w:World}{A:Around}{E:Value->Shared->Prop}{s:Shared}{l:Addr}{us:Array Value}{Q:List Value->Shared->Prop}(hh:A.handled=none)(hl:s.heap.IsList l us)
  (hQ:∀ h',Heap.ExtBut s.heap.objs.size s.heap h'->Q us.toList { s with heap:=h' }):wpAny (model prog w) A (unpackItems (.ref l) us.size none) Q E s:=by
 have nl:l≠s.heap.objs.size:=by obtain⟨o,q,_⟩:=hl;exact Nat.ne_of_lt (Heap.lt_size q)
 unfold unpackItems notIterableAtAll
 refine wpAny_bind (wpAny_bind (wpAny_specialOf hl.typeIs slot_list_iter.lookup (wpAny_pure ?_)))
 simp only[Bool.false_eq_true,if_false]
 refine wpAny_bind (wpAny_holding (wpAny_pyIter_list hl (wpAny_bind (wpAny_holding (drawL nl us.size 0 _ _ ⟨_,Heap.get?_push_size _ rfl,rfl,rfl⟩ (hl.push _) (by omega) λg1 a1 c1=>?_)))))
 rw[show List.take us.size (List.drop 0 us.toList)=us.toList by rw[List.drop_zero];exact List.take_of_length_le (by simp),if_neg (by simp)]
 refine wpAny_bind (wpAny_holding (wpAny_pyNext_list_end hh a1 ((hl.push _).extBut c1.extBut nl) (by simp) λg2 c2=>?_))
 simp only[Option.isSome_none,Bool.false_eq_true,if_false]
 exact wpAny_pure (hQ g2 λb o hb e=>c2 b o hb (c1.extBut b o hb (Heap.get?_push_of_some _ e)))
@[irreducible] def hUnpL (K:W.Frag)(a:Addr)(n:Nat)(H:Hp)(Q:List V->Prop):Prop:=∃ xs,SqL K H a xs/\xs.length=n/\Q xs
theorem i_unpL {a:Addr}{n:Nat}{H:Hp}{Q:List V->Prop}{xs:List V}(h:H a=some (.lst xs))(hl:xs.length=n)(q:Q xs):hUnpL K a n H Q:=by unfold hUnpL;exact⟨xs,SqL.of h,hl,q⟩
def gTl (K:W.Frag)(n:Nat)(t:TGs):TG:=λv σ H Q=>match v with
 | .ref a=>hUnpL K a n H λxs=>t xs σ H Q
 | _=>False
theorem kg_lst {k:Nat}{u:TGs}(hK:X.K=K)(hc:X.calm=true)(h:QGs X es u):QG X (.Tuple es k pos) (gTl K es.length u):=⟨by
 subst hK
 intro pins s σ H v w Q I r hw
 cases v<;>first
  | exact(show False from hw).elim
  | skip
 rename_i a
 have hw:=(show hUnpL X.K a es.length H _ from hw)
 unfold hUnpL at hw
 obtain⟨xs,h1,h2,h3⟩:=hw
 cases r
 obtain⟨its,rv,hl,hz⟩:=I.list h1
 obtain⟨hn,hst⟩:=assign_plains (env:=X.env) h.p
 rw[assign_Tuple]
 refine wpAny_bind (wpAny_standAt ?_)
 unfold unpack
 rw[hst,hn]
 have e:es.length=its.toArray.size:=by rw[List.size_toArray,<- rv.length,h2]
 rw[e]
 refine wpAny_bind (wpAny_holding (unpackL (I.ok.hd hc) hl.isList λg hg=>?_))
 have I1:Inv X pins σ H { s with heap:=g }:=I.kept (t':=s.toks) λb o q=>hg b o (Nat.ne_of_lt (Heap.lt_size q)) q
 exact h.h pins _ σ H xs _ Q I1 (by simpa using rv) h3⟩
end
end L2
namespace L2
open PySem PySem.Spec PyProof.Rows
section
variable {X:Cx}
@[irreducible] def hPopAt (a:Addr)(i:Int)(H:Hp)(Q:VK):Prop:=∃ xs k y,H a=some (.lst xs)/\-(2 ^ 63)<=i/\i<2 ^ 63/\seqIndex? i xs.length=some k/\xs[k]?=some y/\Q y (upd H a (.lst (xs.eraseIdx k)))
def vPopAt:V->List V->Hp->VK->Prop:=λx vs H Q=>match x,vs with
 | .ref a,[.int i]=>hPopAt a i H Q
 | _,_=>False
theorem mtPopAt:MtM X "list.pop" vPopAt:=by
 intro pins s σ H x vs v us Q I rx rv h
 unfold vPopAt at h
 split at h
 ·unfold hPopAt at h;obtain⟨xs,k,y,h1,h2,h3,h4,h5,h6⟩:=h;exact mt_popAt pins s σ H _ _ v us Q I rx rv ⟨_,xs,_,k,y,rfl,rfl,h1,h2,h3,h4,h5,h6⟩
 ·exact h.elim
theorem i_popAt {a:Addr}{i:Int}{H:Hp}{Q:VK}{xs:List V}{y:V}(k:Nat)(h:H a=some (.lst xs))(hi:i=k)(hk:k<1000000)(e:xs[k]?=some y)(q:∀ H',Kp [a] H H'->H' a=some (.lst (xs.eraseIdx k))->Q y H'):hPopAt a i H Q:=by
 have hl:k<xs.length:=(List.getElem?_eq_some_iff.mp e).1
 subst hi
 unfold hPopAt
 refine⟨xs,k,y,h,by omega,by omega,?_,e,q _ kp_upd upd_same⟩
 unfold seqIndex?
 have e1:¬ ((k:Int)<0):=by omega
 simp only[if_neg e1]
 rw[if_pos (by simp;omega)]
 simp
def vAbs:List V->Hp->VK->Prop:=λxs H Q=>match xs with
 | [.int i]=>Q (.int (if i<0 then -i else i)) H
 | _=>False
theorem callAbs:CallR X (.builtin "abs") vAbs:=call_abs.imp λxs H Q h=>by
 unfold vAbs at h;split at h
 ·exact⟨_,rfl,h⟩
 ·exact h.elim
end
end L2
namespace L2
open PySem PySem.Spec PyProof.Rows
section
variable {g:TG}{tt:TT}{te:TE}{σ0:St}{H1:Hp}{Q:Addr->Hp->Prop}{K:W.Frag}
end
end L2
namespace L2
open PySem PySem.Spec PyProof.Rows
section
variable {X:Cx}
def vIsG (n:Bool->Bool):R2:=λx y H Q=>match y with
 | .non=>match x with
  | .non=>Q (.bl (n true)) H
  | .int _=>Q (.bl (n false)) H
  | .ref _=>Q (.bl (n false)) H
  | .bl _=>Q (.bl (n false)) H
  | .str _=>Q (.bl (n false)) H
  | _=>False
 | .bl b=>match x with
  | .bl a=>Q (.bl (n (decide (a=b)))) H
  | _=>False
 | _=>False
theorem isnot_bool {prog:Program}{w:World}{A:Around}{E:Value->Shared->Prop}{s:Shared}{a b:Bool}{Q:Value->Shared->Prop}(h:Q (.bool (!decide (a=b))) s):wpAny (model prog w) A (compareOp .IsNot (.bool a) (.bool b)) Q E s:=by
 have e:compareOp .IsNot (.bool a) (.bool b)=pure (.bool (!decide (a=b))):=by
  cases a<;>cases b<;>rfl
 rw[e];exact wpAny_pure h
theorem opIsNotG:OpR X (compareOp .IsNot) (vIsG not):=by
 intro pins s σ H x y v u Q I rx ry h
 cases y with
 | non=>exact opIsNot pins s σ H x .non v u Q I rx ry (by cases x<;>exact h)
 | bl b =>
  cases x with
  | bl a=>cases rx;cases ry;exact isnot_bool ⟨.bl (!decide (a=b)),H,I,rfl,h⟩
  | _=>exact(show False from h).elim
 | _=>exact(show False from h).elim
end
end L2
namespace L2
open PySem PySem.Spec PyProof.Rows
def wkE (te:TE):TE:=λσ H Q=>∃ P,te σ H P/\∀ v H1,P v H1->Q v H1
def wkA (ta:TA):TA:=λσ H Q=>∃ P,ta σ H P/\∀ v H1,P v H1->Q v H1
section
variable {X:Cx}{K:W.Frag}{e o value:Expr}{es:List Expr}{te ta tv to:TE}{t:TA}{pos p p2 pos' apos:Pos}{f m x:Str}{C:Addr}
theorem QE.wk (h:QE X e te):PE X e (wkE te):=by
 intro pins s σ H Q I ⟨P,hp,pq⟩
 exact thn (h.h pins s σ H _ I hp) λu s1 ⟨v,H1,I1,r1,q1⟩=>⟨v,H1,I1,r1,pq _ _ q1⟩
theorem QA.wk (h:QA X es t):PA X es (wkA t):=by
 intro pos pins s σ H Q I ⟨P,hp,pq⟩
 exact thn (h.h pos pins s σ H _ I hp) λu s1 ⟨v,H1,I1,r1,q1⟩=>⟨v,H1,I1,r1,pq _ _ q1⟩
@[irreducible] def hFld (K:W.Frag)(a:Addr)(f:Str)(H:Hp)(Q:V->Prop):Prop:=∃ C dx fs v,H a=some (.ins C dx fs)/\Cls K C/\NoAttr K C f/\fs.lookup f=some v/\Q v
theorem i_fld {a dx:Addr}{H:Hp}{Q:V->Prop}{fs:List (Str×V)}{v:V}(h:H a=some (.ins C dx fs))(c:Cls K C)(n:NoAttr K C f)(l:fs.lookup f=some v)(q:Q v):hFld K a f H Q:=by unfold hFld;exact⟨C,dx,fs,v,h,c,n,l,q⟩
def mFld (K:W.Frag)(te:TE)(f:Str):TE:=λσ H Q=>te σ H λx H1=>match x with
 | .ref a=>hFld K a f H1 λv=>Q v H1
 | _=>False
theorem ke_fld (hK:X.K=K)(he:QE X e te)(hb:attributeBase e f X.env (eval e X.env)=eval e X.env:=by rfl):QE X (.Attribute e f pos) (mFld K te f):=⟨by
 subst hK
 intro pins s σ H Q I h
 refine pe_fld he.wk hb pins s σ H Q I ⟨_,h,λv H1 q=>?_⟩
 cases v<;>first
  | exact(show False from q).elim
  | skip
 have q:=(show hFld X.K _ f H1 _ from q)
 unfold hFld at q
 obtain⟨C,dx,fs,v,h1,h2,h3,h4,h5⟩:=q
 exact⟨_,C,dx,fs,v,rfl,h1,h2,h3,h4,h5⟩⟩
@[irreducible] def hSetF (K:W.Frag)(a:Addr)(f:Str)(y:V)(H:Hp)(Q:Hp->Prop):Prop:=∃ C dx fs,H a=some (.ins C dx fs)/\Cls K C/\NoAttr K C f/\fs.length<1000/\Q (upd H a (.ins C dx (putF f y fs)))
theorem i_setF {a dx:Addr}{H:Hp}{Q:Hp->Prop}{fs:List (Str×V)}{y:V}(h:H a=some (.ins C dx fs))(c:Cls K C)(n:NoAttr K C f)(l:fs.length<1000)(q:∀ H',Kp [a] H H'->H' a=some (.ins C dx (putF f y fs))->Q H'):hSetF K a f y H Q:=by
 unfold hSetF;exact⟨C,dx,fs,h,c,n,l,q _ kp_upd upd_same⟩
def mSetF (K:W.Frag)(ta tv:TE)(f:Str):TS:=λD σ H=>tv σ H λy H1=>ta σ H1 λx H2=>match x with
 | .ref a=>hSetF K a f y H2 λH3=>D.nx σ H3
 | _=>False
theorem ks_fld (hK:X.K=K)(ha:QE X o ta)(hv:QE X value tv)(hs:swapsWith value (some (.Attribute o f pos')) pos.line X.env=pure false:=by rfl):QS X (.Assign [.Attribute o f pos'] value pos) (mSetF K ta tv f):=⟨by
 subst hK
 intro pins s σ H D I h
 refine ps_fld ha.wk hv.wk hs pins s σ H D I ⟨_,h,λy H1 q=>⟨_,q,λx H2 q=>?_⟩⟩
 cases x<;>first
  | exact(show False from q).elim
  | skip
 have q:=(show hSetF X.K _ f y H2 _ from q)
 unfold hSetF at q
 obtain⟨C,dx,fs,h1,h2,h3,h4,h5⟩:=q
 exact⟨_,C,dx,fs,rfl,h1,h2,h3,h4,h5⟩⟩
structure Mth (P:Program)(w:World)(K:W.Frag)(mg:Str->Option Value)(base:Heap)(k:Nat)(C:Addr)(m:Str)(ps:List Str)(sp:Sp):Prop where
 cl:Cls K C
 ex:∃ f fd,FnOk P w K mg base CX0 k f fd ps sp/\Binds K fd ps []/\Meth K C m f
@[irreducible] def hIns (C a:Addr)(m:Str)(H:Hp)(R:Prop):Prop:=∃ dx fs,H a=some (.ins C dx fs)/\fs.lookup m=none/\R
theorem i_ins {a dx:Addr}{H:Hp}{R:Prop}{fs:List (Str×V)}(h:H a=some (.ins C dx fs))(l:fs.lookup m=none)(q:R):hIns C a m H R:=by unfold hIns;exact⟨dx,fs,h,l,q⟩
def mMeth (C:Addr)(m:Str)(sp:Sp)(ta:TE)(t:TA):TE:=λσ H Q=>ta σ H λx H1=>match x with
 | .ref a=>hIns C a m H1 (t σ H1 λvs H2=>sp (.ref a::vs) H2 Q E0)
 | _=>False
theorem qe_meth {k j:Nat}{ps:List Str}{sp:Sp}{pl:Sem Bool}(D:Mth X.prog X.w X.K X.mg X.base k C m ps sp)(hr:Room j X.A)(hj:k<=j)(ho:QE X o to)(ha:QA X (e::es) t)
  (ht:eval (.Call (.Attribute o m apos) (e::es) [] pos) X.env=(do
   let ov <- eval o X.env
   standAt apos.atName
   let (f,first) <- holding [ov] (getMethod ov m pl)
   callWith pos f first (backTo pos (starEach (e::es) X.env)) (backToKw pos (keywordEach [] X.env))):=by rfl) :
  QE X (.Call (.Attribute o m apos) (e::es) [] pos) (mMeth C m sp to t):=⟨by
 obtain⟨f,fd,F,b,mt⟩:=D.ex
 have hp:=ha.p
 rw[List.all_cons,Bool.and_eq_true] at hp
 intro pins s σ H Q I h
 refine pe_meth (pl:=pl) ho.wk D.cl mt F (hr.mono hj) b .nil pass0 ha.wk (star_plain hp.1) (any_plain hp.2) ht pins s σ H Q I ⟨_,h,λv H1 q=>?_⟩
 cases v<;>first
  | exact(show False from q).elim
  | skip
 have q:=(show hIns C _ m H1 _ from q)
 unfold hIns at q
 obtain⟨dx,fs,h1,h2,h3⟩:=q
 exact⟨_,dx,fs,rfl,h1,h2,_,h3,λvs H2 q=>by show sp (_::(vs++[])) H2 Q E0;rw[List.append_nil];exact q⟩⟩
theorem qe_meth0 {k j:Nat}{ps:List Str}{sp:Sp}{pl:Sem Bool}(D:Mth X.prog X.w X.K X.mg X.base k C m ps sp)(hr:Room j X.A)(hj:k<=j)(ho:QE X o to)
  (ht:eval (.Call (.Attribute o m apos) [] [] pos) X.env=(do
   let ov <- eval o X.env
   standAt apos.atName
   let (f,first) <- holding [ov] (getMethod ov m pl)
   callWith pos f first (backTo pos (starEach [] X.env)) (backToKw pos (keywordEach [] X.env))):=by rfl) :
  QE X (.Call (.Attribute o m apos) [] [] pos) (mMeth C m sp to tNil):=⟨by
 obtain⟨f,fd,F,b,mt⟩:=D.ex
 intro pins s σ H Q I h
 refine pe_meth0 (pl:=pl) ho.wk D.cl mt F (hr.mono hj) b .nil pass0 ht pins s σ H Q I ⟨_,h,λv H1 q=>?_⟩
 cases v<;>first
  | exact(show False from q).elim
  | skip
 have q:=(show hIns C _ m H1 _ from q)
 unfold hIns at q
 obtain⟨dx,fs,h1,h2,h3⟩:=q
 exact⟨_,dx,fs,rfl,h1,h2,h3⟩⟩
structure Mkd (P:Program)(w:World)(K:W.Frag)(mg:Str->Option Value)(base:Heap)(k:Nat)(C:Addr)(x:Str)(ps:List Str)(sp:Sp):Prop where
 ex:∃ f fd,FnOk P w K mg base CX0 k f fd ps sp/\Binds K fd ps []/\Mk K C f/\mg x=some (.ref C)
@[irreducible] def hMake (C:Addr)(H:Hp)(R:Addr->Hp->Prop):Prop:=∀ x dx,H x=none->H dx=none->dx≠x->R x (upd (upd H dx (.own x)) x (.ins C dx []))
theorem i_make {H:Hp}{R:Addr->Hp->Prop}(q:∀ x dx H',H x=none->Same H H'->H' x=some (.ins C dx [])->R x H'):hMake C H R:=by
 unfold hMake
 exact λx dx hx hd _=>q x dx _ hx (λb o e=>by rw[upd_ne (ne_of_none e hx),upd_ne (ne_of_none e hd)];exact e) upd_same
def mMake (C:Addr)(sp:Sp)(t:TA):TE:=λσ H Q=>t σ H λvs H1=>hMake C H1 λx H2=>sp (.ref x::vs) H2 (λv H3=>v=.non/\Q (.ref x) H3) E0
theorem qe_make {k j:Nat}{ps:List Str}{sp:Sp}(D:Mkd X.prog X.w X.K X.mg X.base k C x ps sp)(hr:Room j X.A)(hj:k+1<=j)(hg:Gl X x)(ha:QA X (e::es) t)(hdb:(x == ("__debug__":Str))=false:=by decide) :
  QE X (.Call (.Name x p) (e::es) [] pos) (mMake C sp t):=⟨by
 obtain⟨f,fd,F,b,mk,hm⟩:=D.ex
 have hp:=ha.p
 rw[List.all_cons,Bool.and_eq_true] at hp
 intro pins s σ H Q I h
 refine pe_make mk F (hr.mono hj) hg hm b .nil pass0 ha.wk hdb (star_plain hp.1) (any_plain hp.2) pins s σ H Q I ⟨_,h,λvs H1 q=>?_⟩
 have q:=(show hMake C H1 _ from q)
 unfold hMake at q
 intro y dx h1 h2 h3
 rw[List.append_nil]
 exact q y dx h1 h2 h3⟩
structure KNum (mg:Str->Option Value)(x:Str)(n:Int):Prop where
 ex:∃ t,mg x=some (.int n t)
theorem qe_glob {n:Int}(hg:Gl X x)(hm:KNum X.mg x n)(hd:(x == ("__debug__":Str))=false:=by decide):QE X (.Name x pos) (tC (.int n)):=by
 obtain⟨t,ht⟩:=hm.ex
 exact⟨pe_glob hg ht ⟨t,rfl⟩ hd⟩
@[irreducible] def hSetS (a b:Addr)(i j:Int)(H:Hp)(Q:Hp->Prop):Prop:=∃ xs ys,H a=some (.lst xs)/\H b=some (.lst ys)/\a≠b/\0<=i/\i<=j/\j<=xs.length/\xs.length+ys.length<=sizeLine/\Q (upd H a (.lst (xs.take i.toNat++ys++xs.drop j.toNat)))
theorem i_setS {a b:Addr}{i j:Int}{H:Hp}{Q:Hp->Prop}{xs ys:List V}(h1:H a=some (.lst xs))(h2:H b=some (.lst ys))(h3:a≠b)(h4:0<=i)(h5:i<=j)(h6:j<=xs.length)(h7:xs.length+ys.length<=1000)
  (q:∀ H',Kp [a] H H'->H' a=some (.lst (xs.take i.toNat++ys++xs.drop j.toNat))->Q H'):hSetS a b i j H Q:=by
 unfold hSetS;exact⟨xs,ys,h1,h2,h3,h4,h5,h6,Nat.le_of_lt (small1000 h7),q _ kp_upd upd_same⟩
def gSlc (to:TE)(tl th:TO):TG:=λv σ H Q=>to σ H λo H1=>tl σ H1 λl H2=>th σ H2 λu H3=>match v,o,l,u with
 | .ref b,.ref a,some i,some j=>hSetS a b i j H3 λH4=>Q σ H4
 | _,_,_,_=>False
theorem qg_slc {lo hi : Option Expr} {tl th : TO} (ho : QE X o to) (hl : QO X lo tl) (hu : QO X hi th) (ha : ∀ v, assign (.Subscript o (.Slice lo hi none p2) pos) X.env v = (do
      let ov <- holding [v] (eval o X.env)
      let iv <- holding [v,ov] (eval (.Slice lo hi none p2) X.env)
      standAt pos
      holding [v,ov,iv] (setItem ov iv v)
      release [iv,v,ov] []):=by intro _;rfl):QG X (.Subscript o (.Slice lo hi none p2) pos) (gSlc to tl th):=⟨by
  intro pins s σ H v u Q I r h
  rw[ha]
  refine wpAny_bind (wpAny_holding (thn (ho.h pins s σ H _ I h) λov s1 ⟨x,H1,I1,r1,q1⟩=>?_))
  refine wpAny_bind (wpAny_holding ?_)
  refine wpAny_Slice (thn (hl.h pins s1 σ H1 _ I1 q1) λvl s2 ⟨l,H2,I2,pl,q2⟩=>thn (hu.h pins s2 σ H2 _ I2 q2) λvu s3 ⟨w,H3,I3,pu,q3⟩=>?_)
  rw[evalPart_none]
  refine wpAny_pure ?_
  have I4:Inv X pins σ H3 { s3 with heap:=s3.heap.push { cls:=.type "slice",data:=.fields #[vl,vu,.none] } }:=I3.kept (t':=s3.toks) λb ob q=>Heap.get?_push_of_some _ q
  match v,x,l,w,q3,r,r1,pl,pu with
  | .ref b,.ref a,some i,some j,q3,r,r1,pl,pu =>
    have q3:=(show hSetS a b i j H3 _ from q3)
    unfold hSetS at q3
    obtain⟨xs,ys,h1,h2,h3,h4,h5,h6,h7,q⟩:=q3
    cases r
    cases r1
    refine wpAny_bind (wpAny_standAt (wpAny_bind (wpAny_holding ?_)))
    refine set_slice I4 h1 h2 h3 (Heap.IsSliceOf.new ..) (a:=i) (c:=j) (by cases pl;exact⟨_,rfl⟩) (by cases pu;exact⟨_,rfl⟩) h4 h5 h6 h7 λs' I'=>?_
    exact wpAny_release ⟨σ,_,I',q⟩⟩
@[irreducible] def hPop (a:Addr)(H:Hp)(Q:VK):Prop:=∃ xs y,H a=some (.lst xs)/\xs[xs.length-1]?=some y/\Q y (upd H a (.lst xs.dropLast))
def vPop:V->List V->Hp->VK->Prop:=λx vs H Q=>match x,vs with
 | .ref a,[]=>hPop a H Q
 | _,_=>False
theorem mtPop:MtM X "list.pop" vPop:=by
 intro pins s σ H x vs v us Q I rx rv h
 unfold vPop at h
 split at h
 ·unfold hPop at h;obtain⟨xs,y,h1,h2,h3⟩:=h;exact mt_pop pins s σ H _ _ v us Q I rx rv ⟨_,xs,y,rfl,rfl,h1,h2,h3⟩
 ·exact h.elim
theorem i_pop {a:Addr}{H:Hp}{Q:VK}{xs:List V}{y:V}(h:H a=some (.lst (xs++[y])))(q:∀ H',Kp [a] H H'->H' a=some (.lst xs)->Q y H'):hPop a H Q:=by
 unfold hPop;exact⟨_,y,h,by simp,q _ kp_upd (by rw[upd_same];simp)⟩
@[irreducible] def hEqE (K:W.Frag)(a b:Addr)(H:Hp)(Q:Bool->Prop):Prop:=∃ xs,SqL K H a xs/\SqL K H b []/\Q xs.isEmpty
theorem i_eqE {a b:Addr}{H:Hp}{Q:Bool->Prop}{xs:List V}(h1:H a=some (.lst xs))(h2:H b=some (.lst []))(q:Q xs.isEmpty):hEqE K a b H Q:=by unfold hEqE;exact⟨xs,SqL.of h1,SqL.of h2,q⟩
def vEqE (K:W.Frag)(n:Bool->Bool):R2:=λx y H Q=>match x,y with
 | .ref a,.ref b=>hEqE K a b H λr=>Q (.bl (n r)) H
 | _,_=>False
theorem kNeE {k:Nat}(hK:X.K=K)(hr:Room k X.A):OpR X (compareOp .NotEq) (vEqE K not):=by
 subst hK
 intro pins s σ H x y v u Q I rx ry h
 cases x<;>cases y<;>first
  | exact(show False from h).elim
  | skip
 rename_i a b
 have h:=(show hEqE X.K a b H _ from h)
 unfold hEqE at h
 obtain⟨xs,h1,h2,q⟩:=h
 cases xs with
 | nil=>exact kNeG rfl hr pins s σ H _ _ v u Q I rx ry (i_eqI (ns:=[]) (ms:=[]) h1 h2 q)
 | cons z zs =>
  cases rx;cases ry
  obtain⟨its,r1,p1,_⟩:=I.list h1
  obtain⟨its2,r2,p2,_⟩:=I.list h2
  have l1:=r1.length
  have l2:=r2.length
  exact SeqAt.RcNeAt.lists_lengths p1.isList p2.isList (by simp only[List.size_toArray,bne_iff_ne,<- l1,<- l2];simp) hr.units0 _ _ _ _ ⟨.bl true,H,I,rfl,q⟩
end
end L2
namespace L2
open PySem PySem.Spec PyProof.Rows
abbrev cxCompN (X:Cx)(pins:List (Addr×Obj))(N':List Str)(scope:Scope)(cl:List (Str×Addr))(C:Addr)(s0:Shared)(H0:Hp)(fp:List Addr):Cx :=
 { cxComp X pins N' scope cl C s0 H0 fp with fn:=λx=>scope.names.lookup x == some .cell }
def capOkN (N':List Str)(caps:List (Option Nat))(N:List Str)(names names':List (Str×NameKind)):Bool :=
 (N'.length == caps.length)&&(N'.zip caps).all (λp=>match p.2 with
  | none=>true
  | some j=>N[j]? == some p.1&&names'.lookup p.1 == some .free) &&
 names'.all (λp=>(p.2 != NameKind.free || ((names.lookup p.1 == some .cell || names.lookup p.1 == some .free)&&names'.lookup p.1 == some .free))&&(p.2 != NameKind.local || names'.lookup p.1 == some .local)&&(p.2 != NameKind.cell || names'.lookup p.1 == some .cell))
theorem namesN {N':List Str}{caps:List (Option Nat)}{N:List Str}{names names':List (Str×NameKind)}(h:capOkN N' caps N names names'=true) :
  (∀ x,(x,NameKind.free)∈names'->(names.lookup x=some .cell\/names.lookup x=some .free)/\names'.lookup x=some .free)/\(∀ p∈names',p.2=.local->names'.lookup p.1=some .local)/\∀ p∈names',p.2=.cell->names'.lookup p.1=some .cell:=by
 have h3:=List.all_eq_true.mp (Bool.and_eq_true_iff.mp h).2
 refine⟨λx hx=>?_,λp hp hl=>?_,λp hp hl=>?_⟩
 ·have:=h3 _ hx
  simp only[bne_self_eq_false,Bool.false_or,Bool.and_eq_true,Bool.or_eq_true,beq_iff_eq] at this
  exact this.1.1
 ·have:=h3 p hp
  rw[hl] at this
  simp only[bne_self_eq_false,Bool.false_or,Bool.and_eq_true,beq_iff_eq] at this
  exact this.1.2
 ·have:=h3 p hp
  rw[hl] at this
  simp only[bne_self_eq_false,Bool.false_or,Bool.and_eq_true,beq_iff_eq] at this
  exact this.2
theorem cells_app:∀ {names:List (Str×NameKind)} {n:Nat} {acc:List (Str×Addr)},cellsFrom n names acc=cellsFrom n names []++acc
 | [],n,acc=>rfl
 | (x,k)::r,n,acc=>by
  unfold cellsFrom
  split
  ·rw[cells_app (names:=r) (acc:=(x,n)::acc),cells_app (names:=r) (acc:=[(x,n)])];simp
  ·exact cells_app
theorem cells_mem {x:Str}{c:Addr}:∀ {names:List (Str×NameKind)} {n:Nat} {acc:List (Str×Addr)},(x,c)∈cellsFrom n names acc->(x,c)∈acc\/(x,NameKind.cell)∈names
 | [],n,acc,h=>.inl h
 | (y,k)::r,n,acc,h=>by
  unfold cellsFrom at h
  split at h
  ·rename_i hk
   rcases cells_mem h with h | h
   ·rcases List.mem_cons.mp h with h | h
    ·cases h
     have:k=.cell:=by simpa using hk
     subst this;exact .inr List.mem_cons_self
    ·exact .inl h
   ·exact .inr (List.mem_cons_of_mem _ h)
  ·rcases cells_mem h with h | h
   ·exact .inl h
   ·exact .inr (List.mem_cons_of_mem _ h)
theorem relabel_backN {env : Env} : ∀ {names : List (Str × NameKind)} {x : Str},
    ((names.map fun (n, k) => if (k == NameKind.free && env.scope.kind == .function && env.kindOf n == some .cell) then (n, NameKind.cell) else (n, k)).lookup x = some .cell ∨
     (names.map fun (n, k) => if (k == NameKind.free && env.scope.kind == .function && env.kindOf n == some .cell) then (n, NameKind.cell) else (n, k)).lookup x = some .free) → (x, NameKind.free) ∈ names ∨ (x, NameKind.cell) ∈ names
  | [], x, h => by simp at h
  | (n, k) :: r, x, h => by
    have ih := @relabel_backN env r x
    rw [List.map_cons] at h
    generalize (r.map fun (x : Str × NameKind) => match x with | (n, k) => if (k == NameKind.free && env.scope.kind == ScopeKind.function && env.kindOf n == some NameKind.cell) = true then (n, NameKind.cell) else (n, k)) = R at h ih
    dsimp only at h
    have more : (x, NameKind.free) ∈ r ∨ (x, NameKind.cell) ∈ r → (x, NameKind.free) ∈ (n, k) :: r ∨ (x, NameKind.cell) ∈ (n, k) :: r := Or.imp (List.mem_cons_of_mem _) (List.mem_cons_of_mem _)
    by_cases hc : (k == NameKind.free && env.scope.kind == .function && env.kindOf n == some .cell) = true
    · rw [if_pos hc] at h
      cases hx : x == n with
      | true =>
        have hkf : k = .free := by
          rw [Bool.and_eq_true, Bool.and_eq_true] at hc
          exact eq_of_beq hc.1.1
        rw [eq_of_beq hx, hkf]; exact .inl List.mem_cons_self
      | false =>
        rw [List.lookup_cons, hx] at h
        exact more (ih h)
    · rw [if_neg hc] at h
      cases hx : x == n with
      | true =>
        rw [List.lookup_cons, hx] at h
        rcases h with h | h
        · rw [eq_of_beq hx, Option.some.inj h]; exact .inr List.mem_cons_self
        · rw [eq_of_beq hx, Option.some.inj h]; exact .inl List.mem_cons_self
      | false =>
        rw [List.lookup_cons, hx] at h
        exact more (ih h)
theorem newEnv_cells {M:Model}{A:Around}{E:Value->Shared->Prop}{s:Shared}{scope:Scope}{globals:Addr}{closure:List (Str×Addr)}{qual:Str}{env0:Env}{Q:Env->Shared->Prop}
  (hQ:Q (newEnv scope s.heap.objs.size globals (cellsFrom (s.heap.objs.size+1) scope.names closure) qual none .none (some env0) builtinsNs) { s with heap:=pushCells (s.heap.push { cls:=.type "dict",data:=.dict #[] }) scope.names }) :
  wpAny M A (newFunctionEnv scope globals closure [] qual none .none (some env0)) Q E s:=by
 simp only[newFunctionEnv,Option.isSome_some,if_true]
 refine wpAny_bind (wpAny_alloc ?_)
 refine wpAny_bind (wpAny_layCells _ (λname kind cells=>by cases hkc:kind == NameKind.cell<;>simp[hkc]) _ _ _ _ ?_)
 rw[show ({ s with heap:=s.heap.push { cls:=.type "dict",data:=.dict #[] } }:Shared).heap.objs.size=s.heap.objs.size+1 from Heap.size_push ..]
 refine wpAny_bind ?_
 rw[List.forIn_nil]
 exact wpAny_pure (wpAny_pure hQ)
section
variable {X:Cx}{pins:List (Addr×Obj)}{σ:St}{H:Hp}{s:Shared}
theorem comp_startN {N':List Str}{caps:List (Option Nat)}{scope:Scope}{cl:List (Str×Addr)}{fp:List Addr}{h1:Heap}{tk:Nat}(I:Inv X pins σ H s)(hfp:∀ b∈fp,FpOk X pins H b)(hfo:∀ b∈fp,∃ o,s.heap.get? b=some o)
  (hcap:capOkN N' caps X.N X.env.scope.names scope.names=true) (hkind:scope.kind=.function) (hC:Clo scope X.env cl)
  (hns:h1.Ns (s.heap.objs.size+1) λ_=>none) (hk1:∀ b o,((s.heap.push { cls:=.type "list",data:=.seq #[] }).push { cls:=.type "dict",data:=.dict #[] }).get? b=some o->h1.get? b=some o) (hcs:CellsOk h1 (s.heap.objs.size+2) (cellsFrom (s.heap.objs.size+2) scope.names [])) :
  Inv (cxCompN X pins N' scope (cellsFrom (s.heap.objs.size+2) scope.names cl) (s.heap.objs.size+1) { s with heap:=s.heap.push { cls:=.type "list",data:=.seq #[] } } (upd H s.heap.objs.size (.lst [])) fp) [] (capSt caps σ) (upd H s.heap.objs.size (.lst [])) { s with heap:=h1,toks:=tk }:=by
 have hn:H s.heap.objs.size=none:=I.hok.fresh (Nat.le_refl _)
 have hz:(s.heap.push { cls:=.type "list",data:=.seq #[] }).objs.size=s.heap.objs.size+1:=Heap.size_push ..
 have up1:∀ b o,s.heap.get? b=some o->(s.heap.push { cls:=.type "list",data:=.seq #[] }).get? b=some o:=λb o e=>Heap.get?_push_of_some _ e
 have up2:∀ b o,(s.heap.push { cls:=.type "list",data:=.seq #[] }).get? b=some o->h1.get? b=some o:=λb o e=>by
  exact hk1 b o (Heap.get?_push_of_some _ e)
 have I1:Inv X pins σ (upd H s.heap.objs.size (.lst [])) { s with heap:=s.heap.push { cls:=.type "list",data:=.seq #[] },toks:=s.toks } :=
  I.laid (t':=s.toks) up1 (Nat.le_refl _) (show ObjOk X.prog X.w _ _ _ (.lst []) from ⟨Nat.zero_le _,[],0,.nil,Heap.get?_push_size _ rfl⟩)
 obtain⟨hcap1,hcap3⟩:=Bool.and_eq_true_iff.mp hcap
 obtain⟨hcap1,hcap2⟩:=Bool.and_eq_true_iff.mp hcap1
 have hlen:N'.length=caps.length:=by simpa using hcap1
 have hcap3':=List.all_eq_true.mp hcap3
 have capC:∀ x,(x,NameKind.cell)∈scope.names->scope.names.lookup x=some .cell:=λx hx=>(namesN hcap).2.2 _ hx rfl
 have capF:∀ x,(x,NameKind.free)∈scope.names->scope.names.lookup x=some .free:=λx hx=>((namesN hcap).1 x hx).2
 have two:∀ x c,(cellsFrom (s.heap.objs.size+2) scope.names cl).lookup x=some c->((x,NameKind.cell)∈scope.names/\(x,c)∈cellsFrom (s.heap.objs.size+2) scope.names [])\/cl.lookup x=some c:=λx c e=>by
  rw[cells_app,List.lookup_append] at e
  cases q:(cellsFrom (s.heap.objs.size+2) scope.names []).lookup x with
  | none=>rw[q] at e;exact .inr e
  | some c' =>
   rw[q] at e;cases e
   have hm:=PySem.mem_of_lookup q
   exact .inl ⟨(cells_mem hm).resolve_left (by simp),hm⟩
 have oldLt:∀ x c,cl.lookup x=some c->c<s.heap.objs.size:=λx c e=>by
  obtain⟨v,z⟩:=I.cell x c (hC.sub x c e);exact z.lt
 have newGe:∀ x c,(x,c)∈cellsFrom (s.heap.objs.size+2) scope.names []->s.heap.objs.size+2<=c:=λx c e=>(hcs.empty x c e).2
 have hsub:=I.stkSub
 have ltS:∀ b o,s.heap.get? b=some o->b<s.heap.objs.size:=λb o e=>Heap.lt_size e
 refine⟨⟨I.ok.mod,hkind,I.ok.glob,I.ok.blt,Nat.le_of_eq hz,λx y c e1 e2=>?_,λx hx=>?_,λx c hf e=>?_,I.ok.hd,I.ok.frames,.inl rfl,λb hb=>?_,λb o e=>?_,?_,λb o e hb=>?_,λb hb hf=>?_,?_,λb hb=>?_⟩,
  rfl,I.bare,Un.kept up2,⟨_,hns,λi x v e1 e2 e3=>?_⟩,λx c e=>?_,?_,λx c e=>?_,λp hp=>?_,I1.hok.kept up2,?_⟩
 ·rcases two x c e1 with ⟨_,h1⟩ | h1<;>rcases two y c e2 with ⟨_,h2⟩ | h2
  ·exact name_of_addr hcs.apart h1 h2
  ·exact absurd (Nat.lt_of_lt_of_le (oldLt _ _ h2) (Nat.le_trans (Nat.le_add_right _ 2) (newGe _ _ h1))) (Nat.lt_irrefl _)
  ·exact absurd (Nat.lt_of_lt_of_le (oldLt _ _ h1) (Nat.le_trans (Nat.le_add_right _ 2) (newGe _ _ h2))) (Nat.lt_irrefl _)
  ·exact I.ok.inj x y c (hC.sub x c h1) (hC.sub y c h2)
 ·have some_:∀ c0,((cellsFrom (s.heap.objs.size+2) scope.names []).lookup x=some c0\/cl.lookup x=some c0)->∃ c,(cellsFrom (s.heap.objs.size+2) scope.names cl).lookup x=some c:=λc0 h=>by
   rw[cells_app,List.lookup_append]
   cases q:(cellsFrom (s.heap.objs.size+2) scope.names []).lookup x with
   | some c'=>exact⟨c',rfl⟩
   | none =>
    rcases h with h | h
    ·rw[q] at h;cases h
    ·exact⟨c0,h⟩
  rcases relabel_backN hx with h | h
  ·obtain⟨c0,e0⟩:=hC.has x h;exact some_ c0 (.inr e0)
  ·obtain⟨c0,e0⟩:=cell_has (n:=s.heap.objs.size+2) (capC x h);exact some_ c0 (.inl e0)
 ·have hf':scope.names.lookup x=some .cell:=by simpa using (show (scope.names.lookup x == some NameKind.cell)=true from hf)
  obtain⟨c0,e0⟩:=cell_has (n:=s.heap.objs.size+2) hf'
  have e':(cellsFrom (s.heap.objs.size+2) scope.names cl).lookup x=some c:=e
  rw[cells_app,List.lookup_append,e0] at e'
  cases e'
  have:=newGe _ _ (PySem.mem_of_lookup e0)
  show (s.heap.push _).objs.size<=_
  rw[hz];omega
 ·obtain⟨o,ho⟩:=hfo b hb
  obtain⟨f0,f1,f2,f3,f4,f5⟩:=hfp b hb
  refine⟨Nat.ne_of_lt (Nat.lt_succ_of_lt (ltS b o ho)),λx c e=>?_⟩
  rcases two x c e with ⟨_,h⟩ | h
  ·exact Nat.ne_of_gt (Nat.lt_of_lt_of_le (ltS b o ho) (Nat.le_trans (Nat.le_add_right _ 2) (newGe _ _ h)))
  ·exact f4 x c (hC.sub x c h)
 ·have q:=I1.bs b o e
  exact q
 ·show X.base.objs.size<=(s.heap.push _).objs.size
  rw[hz]
  exact Nat.le_trans (Nat.le_trans I.ok.bsz I.sz) (Nat.le_succ _)
 ·obtain⟨f0,f1,f2,f3,f4,f5⟩:=hfp b hb
  rcases f3 with f3 | f3
  ·exact I.ok.noex b o e f3
  ·exact absurd (Nat.lt_of_lt_of_le (Heap.lt_size e) (Nat.le_trans I.ok.bsz f3)) (Nat.lt_irrefl _)
 ·obtain⟨f0,f1,f2,f3,f4,f5⟩:=hfp b hb
  rcases List.mem_cons.mp (hsub b hf) with z | z
  ·exact f1 z
  ·exact f2 z
 ·exact I1.stack
 ·exact I1.stkFree b hb
 ·
  have e2':∃ o,caps[i]?=some o/\(match o with | none=>none | some j=>(σ[j]?).join)=some v:=by
   unfold capSt at e2
   rw[List.getElem?_map] at e2
   cases q:caps[i]? with
   | none=>rw[q] at e2;cases e2
   | some o=>rw[q] at e2;exact⟨o,rfl,Option.some.inj e2⟩
  obtain⟨o,ho,hv⟩:=e2'
  cases o with
  | none=>cases hv
  | some j =>
   have hv':(σ[j]?).join=some v:=hv
   have hσ:σ[j]?=some (some v):=by
    cases q:σ[j]? with
    | none=>rw[q] at hv';cases hv'
    | some w=>rw[q] at hv';rw[show w=some v from hv']
   have hzip:(x,some j)∈N'.zip caps:=by
    refine List.mem_iff_getElem?.mpr ⟨i,?_⟩
    rw[List.getElem?_zip_eq_some]
    exact⟨e1,ho⟩
   have q:=List.all_eq_true.mp hcap2 _ hzip
   simp only[Bool.and_eq_true,beq_iff_eq] at q
   obtain⟨q1,q2⟩:=q
   have q3:=hcap3' _ (find_names q2)
   have q4:X.env.scope.names.lookup x=some .cell\/X.env.scope.names.lookup x=some .free:=by
    exact((namesN hcap).1 x (find_names q2)).1
   obtain⟨m,_,hl⟩:=I.loc
   obtain⟨u,ru,lk⟩:=hl j x v q1 hσ (.inr q4)
   refine⟨u,ru,.inr ⟨relabel_free q2,?_⟩⟩
   have q5:X.env.kindOf x=some .cell\/X.env.kindOf x=some .free:=q4
   rcases lk with ⟨k,_⟩ | ⟨_,c,ec,hc⟩
   ·rcases q5 with q5 | q5<;>(rw[q5] at k;cases k)
   ·obtain⟨c',ec'⟩:=hC.has x (find_names q2)
    have:=hC.sub x c' ec'
    rw[ec] at this
    cases this
    obtain⟨oc,hoc,hdc⟩:=hc
    refine⟨c,?_,oc,up2 _ _ (up1 _ _ hoc),hdc⟩
    show (cellsFrom (s.heap.objs.size+2) scope.names cl).lookup x=some c
    rw[cells_app,List.lookup_append]
    cases q:(cellsFrom (s.heap.objs.size+2) scope.names []).lookup x with
    | none=>exact ec'
    | some c'' =>
     have:=capC x ((cells_mem (PySem.mem_of_lookup q)).resolve_left (by simp))
     rw[q2] at this;cases this
 ·rcases two x c e with ⟨_,h⟩ | h
  ·exact⟨none,(hcs.empty x c h).1⟩
  ·obtain⟨v,oc,hoc,hdc⟩:=I.cell x c (hC.sub x c h)
   exact⟨v,oc,up2 _ _ (up1 _ _ hoc),hdc⟩
 ·show upd H _ _ (s.heap.objs.size+1)=none
  rw[upd_ne (Nat.ne_of_gt (Nat.lt_succ_self _))]
  exact I.hok.fresh (Nat.le_succ _)
 ·rcases two x c e with ⟨_,h⟩ | h
  ·have:=newGe _ _ h
   rw[upd_ne (Nat.ne_of_gt (Nat.lt_of_lt_of_le (Nat.lt_add_of_pos_right (by decide)) this))]
   exact I.hok.fresh (Nat.le_trans (Nat.le_add_right _ 2) this)
  ·exact I1.freeC x c (hC.sub x c h)
 ·have hp':p∈X.pn++pins:=by simpa using hp
  obtain⟨a1,a2,a3,a4,a5⟩:=I1.pin p hp'
  obtain⟨b1,_,_,_,_⟩:=I.pin p hp'
  refine⟨up2 _ _ a1,a2,Nat.ne_of_lt (Nat.lt_succ_of_lt (ltS _ _ b1)),λhf=>?_,a5⟩
  rcases List.mem_cons.mp (hsub p.1 hf) with z | z
  ·exact a3 z
  ·exact a4 z
 ·show (capSt caps σ).length=N'.length
  unfold capSt
  rw[List.length_map,hlen]
theorem comp_backN {N':List Str}{scope:Scope}{cl:List (Str×Addr)}{fp:List Addr}{C:Addr}{pins':List (Addr×Obj)}{σ':St}{H':Hp}{s':Shared}(I:Inv X pins σ H s)(hfp:∀ b∈fp,FpOk X pins H b)
  (J:Inv (cxCompN X pins N' scope cl C { s with heap:=s.heap.push { cls:=.type "list",data:=.seq #[] } } (upd H s.heap.objs.size (.lst [])) fp) pins' σ' H' s'):Inv X pins σ H' s':=by
 have hn:H s.heap.objs.size=none:=I.hok.fresh (Nat.le_refl _)
 refine I.call' (ch:=fp) J.os ?_ J.hok J.bare λb hb=>?_
 ·exact(Un.laid (λb o e=>Heap.get?_push_of_some _ e) (Nat.le_refl _) hn).trans J.base
 ·obtain⟨f0,f1,f2,f3,f4,f5⟩:=hfp b hb
  exact⟨f3,f1,f4,f5⟩
end
section
variable {X:Cx}{tg elt iter:Expr}{ifs:List Expr}{scope:Scope}{pos:Pos}
theorem comp_blockN {N':List Str}{caps:List (Option Nat)}{pins:List (Addr×Obj)}{σ:St}{H:Hp}{s:Shared}{J:It}{fp:List Addr}{it:Addr}{tn:Nat->Heap->Prop}{g:TG}{tt:TT}{te:TE}{cl:List (Str×Addr)}{RR:Value->Addr->Result->Shared->Prop}{Qe:Addr->Hp->Prop}
  (hc:X.calm=true) (hcap:capOkN N' caps X.N X.env.scope.names scope.names=true) (hkind:scope.kind=.function) (hC:Clo scope X.env cl)
  (hg:∀ cl C s0 H0 fp,PG (cxCompN X pins N' scope cl C s0 H0 fp) tg g) (ht:∀ cl C s0 H0 fp,PIfs (cxCompN X pins N' scope cl C s0 H0 fp) ifs tt) (he:∀ cl C s0 H0 fp,PE (cxCompN X pins N' scope cl C s0 H0 fp) elt te)
  (I:Inv X pins σ H s) (T:Turn X.prog X.w X.K tg J fp it tn) (st:tn 0 s.heap) (hf:∀ b∈fp,FpOk X pins H b) (q:∀ D,H D=none->compRead J D g tt te (capSt caps σ) (upd H D (.lst [])) (Qe D))
  (hR:∀ (D C:Addr) (s':Shared) (H':Hp),Inv X pins σ H' s'->Qe D H'->D≠C->(∃ o m,s'.heap.get? C=some o/\(∀ v,o.data≠.cell v)/\(∀ h2:Heap,h2.get? C=some o->h2.Ns C m))->H' C=none->s.heap.objs.size<=C->RR (.ref D) C (.ok .next) s') :
  wpAny (model X.prog X.w) X.A (newList []) (λacc s₃=>wpAny (model X.prog X.w) X.A (newFunctionEnv scope X.env.globals cl [] X.env.qual none .none (some X.env)) (λcenv s₄ =>
   codeAny (model X.prog X.w) X.A (.compStart (.ListComp elt [⟨tg,iter,ifs,0⟩] scope pos) 0 (.ref it) acc { cenv with scope:=relabel scope X.env }) (RR acc cenv.locals) s₄) X.xe s₃) X.xe s:=by
 refine wpAny_newObj_type (newEnv_cells ?_)
 have hz:(s.heap.push { cls:=.type "list",data:=.seq #[] }).objs.size=s.heap.objs.size+1:=Heap.size_push ..
 obtain⟨h₁,hh1⟩:∃ h₁,pushCells ((s.heap.push { cls:=.type "list",data:=.seq #[] }).push { cls:=.type "dict",data:=.dict #[] }) scope.names=h₁:=⟨_,rfl⟩
 have hk1:∀ b o,((s.heap.push { cls:=.type "list",data:=.seq #[] }).push { cls:=.type "dict",data:=.dict #[] }).get? b=some o->h₁.get? b=some o:=λb o e=>by rw[<- hh1];exact pushCells_keeps _ _ b o e
 have hns:h₁.Ns (s.heap.objs.size+1) λ_=>none:=by
  have:=(Heap.Ns.new (s.heap.push { cls:=.type "list",data:=.seq #[] }) (.type "dict")).keeps hk1
  rw[hz] at this;exact this
 have hz2':((s.heap.push { cls:=.type "list",data:=.seq #[] }).push { cls:=.type "dict",data:=.dict #[] }).objs.size=s.heap.objs.size+2:=by rw[Heap.size_push,hz]
 have hcs:CellsOk h₁ (s.heap.objs.size+2) (cellsFrom (s.heap.objs.size+2) scope.names []):=by
  have:=cellsFrom_ok scope.names ((s.heap.push { cls:=.type "list",data:=.seq #[] }).push { cls:=.type "dict",data:=.dict #[] }) (s.heap.objs.size+2) [] ⟨λ_ _ hm=>(nomatch hm),List.Pairwise.nil⟩ (by rw[hz2'];exact Nat.le_refl _)
  rw[hz2',hh1] at this;exact this
 have hfo:∀ b∈fp,∃ o,s.heap.get? b=some o:=λb hb=>let ⟨o,e,_⟩:=T.obj 0 _ st b hb;⟨o,e⟩
 have I1:=comp_startN (tk:=s.toks) I hf hfo hcap hkind hC hns hk1 hcs
 have hn:H s.heap.objs.size=none:=I.hok.fresh (Nat.le_refl _)
 have up:∀ b o,s.heap.get? b=some o->h₁.get? b=some o:=λb o e=>hk1 b o (Heap.get?_push_of_some _ (Heap.get?_push_of_some _ e))
 have st1:tn 0 h₁:=T.keep _ _ _ st λb _ o e=>up b o e
 have f1:∀ b∈fp,FpOk (cxCompN X pins N' scope (cellsFrom (s.heap.objs.size+2) scope.names cl) (s.heap.objs.size+1) { s with heap:=s.heap.push { cls:=.type "list",data:=.seq #[] } } (upd H s.heap.objs.size (.lst [])) fp) [] (upd H s.heap.objs.size (.lst [])) b:=λb hb=>by
  obtain⟨a0,a1,a2,a3,a4,a5⟩:=hf b hb
  obtain⟨o,ho⟩:=hfo b hb
  have hlt:=Heap.lt_size ho
  refine⟨by rw[upd_ne (Nat.ne_of_lt hlt)];exact a0,Nat.ne_of_lt (Nat.lt_succ_of_lt hlt),λz=>?_,.inl hb,λx c e=>(I1.ok.exf b hb).2 x c e,λp hp=>a5 p (by simpa using hp)⟩
  rcases List.mem_cons.mp (I.stkSub b z) with z | z
  ·exact a1 z
  ·exact a2 z
 have loop:codeAny (model X.prog X.w) X.A (.compLoop (.ListComp elt [⟨tg,iter,ifs,0⟩] scope pos) 0 (.ref it) (.ref s.heap.objs.size) (compEnvC scope (cellsFrom (s.heap.objs.size+2) scope.names cl) (s.heap.objs.size+1) X.env))
   (RR (.ref s.heap.objs.size) (s.heap.objs.size+1)) { s with heap:=h₁ }:=by
  refine comp_loop (X':=cxCompN X pins N' scope (cellsFrom (s.heap.objs.size+2) scope.names cl) (s.heap.objs.size+1) { s with heap:=s.heap.push { cls:=.type "list",data:=.seq #[] } } (upd H s.heap.objs.size (.lst [])) fp) hc rfl T (hg _ _ _ _ _) (ht _ _ _ _ _) (he _ _ _ _ _) I1 f1 st1 (q _ hn) λs' σ' H' J' qe=>?_
  have B:=comp_backN I hf J'
  obtain⟨m,hnC,_⟩:=J'.loc
  obtain⟨o,es,ep,ho,hd,r⟩:=id hnC
  exact hR _ _ s' H' B qe (Nat.ne_of_lt (Nat.lt_succ_self _)) ⟨o,m,ho,(λv z=>by rw[hd] at z;cases z),λh2 e2=>⟨o,es,ep,e2,hd,r⟩⟩ J'.free (Nat.le_succ _)
 have fin:=codeAny_compStart_list loop (T.self _ _ _ _ _ st1 loop)
 show codeAny _ _ (.compStart _ 0 _ _ { (newEnv scope (s.heap.push { cls:=.type "list",dict:=none,data:=.seq ([]:List Value).toArray }).objs.size X.env.globals (cellsFrom ((s.heap.push { cls:=.type "list",dict:=none,data:=.seq ([]:List Value).toArray }).objs.size+1) scope.names cl) X.env.qual none .none (some X.env) _) with scope:=relabel scope X.env }) (RR _ (s.heap.push { cls:=.type "list",dict:=none,data:=.seq ([]:List Value).toArray }).objs.size) { s with heap:=pushCells _ _ }
 have hz2:(s.heap.push { cls:=.type "list",dict:=none,data:=.seq ([]:List Value).toArray }).objs.size=s.heap.objs.size+1:=hz
 rw[hz2]
 have hh1':pushCells ((s.heap.push { cls:=.type "list",dict:=none,data:=.seq ([]:List Value).toArray }).push { cls:=.type "dict",data:=.dict #[] }) scope.names=h₁:=hh1
 rw[hh1']
 exact fin
theorem clo_ofN {N':List Str}{caps:List (Option Nat)}{pins:List (Addr×Obj)}{σ:St}{H:Hp}{s:Shared}(I:Inv X pins σ H s)(hcap:capOkN N' caps X.N X.env.scope.names scope.names=true):∃ cl,Clo scope X.env cl :=
 clo_mk λx hx=>I.ok.has x ((namesN hcap).1 x hx).1
theorem pe_compN (N':List Str)(caps:List (Option Nat)){wi:TI}{g:TG}{tt:TT}{te:TE}(hc:X.calm=true)(hi:PI X tg iter wi)
  (hg:∀ pins cl C s0 H0 fp,PG (cxCompN X pins N' scope cl C s0 H0 fp) tg g) (ht:∀ pins cl C s0 H0 fp,PIfs (cxCompN X pins N' scope cl C s0 H0 fp) ifs tt) (he:∀ pins cl C s0 H0 fp,PE (cxCompN X pins N' scope cl C s0 H0 fp) elt te)
  (hcap:capOkN N' caps X.N X.env.scope.names scope.names=true:=by rfl) (hkind:scope.kind=.function:=by rfl) (hs:∀ x,foldedSetIterable iter X.env x=pure x:=by intro _;rfl) :
  PE X (.ListComp elt [⟨tg,iter,ifs,0⟩] scope pos) (tComp caps wi g tt te):=by
 intro pins s σ H Q I h
 obtain⟨cl,hC⟩:=clo_ofN I hcap
 rw[eval_ListComp]
 refine wpAny_comprehension_free (use:=none) rfl hs hC.eq hkind (namesN hcap).2.1 (thn (hi pins s σ H _ I h) λv s1 h1=>thn h1 λitv s2 h2=>?_)
 obtain⟨it,fp,tn,J,H2,e,I2,T,st2,f2,q2⟩:=h2
 subst e
 refine comp_blockN (RR:=λacc C=>compPost (model X.prog X.w) X.A X.xe none (EP X pins σ Q) acc C) (Qe:=λD H'=>Q (.ref D) H') hc hcap hkind hC (hg pins) (ht pins) (he pins) I2 T st2 f2 q2 λD C s' H' I' q' hDC hCo hCn hCs=>?_
 obtain⟨o,m,ho,hd,hns⟩:=hCo
 refine⟨m,hns _ ho,λh' hsb=>⟨.ref D,H',?_,rfl,q'⟩⟩
 obtain⟨hp',g',d',t',os'⟩:=s'
 have hC0:X.s₀.heap.objs.size<=C:=Nat.le_trans I2.sz hCs
 exact I'.turned (t':=t') (it:=C) (λb o hb e=>hsb.extBut b o hb e) hCn (λz=>by
  have:=I2.lt;rw[<- z] at this;exact absurd (Nat.lt_of_lt_of_le this hCs) (Nat.lt_irrefl _)) (.inr hC0) (λx c e z=>by
  obtain⟨v,q⟩:=I2.cell x c e
  exact absurd (Nat.lt_of_lt_of_le q.lt (by rw[z];exact hCs)) (Nat.lt_irrefl _)) (λp hp z=>by
  exact absurd (Nat.lt_of_lt_of_le (Heap.lt_size (I2.pin p hp).1) (by rw[z];exact hCs)) (Nat.lt_irrefl _))
end
section
variable {X:Cx}{e a b c tg:Expr}{te:TE}{pos p p2:Pos}{x:Str}
theorem qe_cpN (N':List Str)(caps:List (Option Nat)){elt iter:Expr}{ifs:List Expr}{scope:Scope}{wi:TI}{g:TG}{tt:TT}(hc:X.calm=true)(hi:QI X tg iter wi)
  (hg:∀ pins cl C s0 H0 fp,QG (cxCompN X pins N' scope cl C s0 H0 fp) tg g) (ht:∀ pins cl C s0 H0 fp,QIf (cxCompN X pins N' scope cl C s0 H0 fp) ifs tt) (he:∀ pins cl C s0 H0 fp,QE (cxCompN X pins N' scope cl C s0 H0 fp) elt te)
  (hcap:capOkN N' caps X.N X.env.scope.names scope.names=true:=by kernel_rfl) (hkind:scope.kind=.function:=by rfl) (hs:noSet iter=true:=by rfl) :
  QE X (.ListComp elt [⟨tg,iter,ifs,0⟩] scope pos) (tComp caps wi (upG g) (upT tt) (upE te)) :=
 ⟨pe_compN N' caps hc hi.h (λa b c d e f=>(hg a b c d e f).up.h) (λa b c d e f=>(ht a b c d e f).up.h) (λa b c d e f=>(he a b c d e f).up.h) hcap hkind (fold_plain hs)⟩
end
end L2
namespace L2
open PySem PySem.Spec PyProof.Rows
section
variable {prog:Program}{w:World}{A:Around}{E:Value->Shared->Prop}{s:Shared}
def ZpX (h:Heap)(z TI TO a:Addr)(f:Bool):Prop :=
 h.get? z=some { cls:=.type "zip",dict:=none,data:=.fields #[rawInt a,.bool f,.bool false,.ref TI,.ref TO],slots:=#[] }
theorem zfld {z:Addr}{vs:Array Value}{n:Nat}{x:Value}{Q:Value->Shared->Prop}(hz:s.heap.get? z=some { cls:=.type "zip",dict:=none,data:=.fields vs,slots:=#[] })(hx:vs[n]?=some x)(h:Q x s) :
  wpAny (model prog w) A (field (.ref z) n) Q E s:=wpAny_field hz rfl hx h
theorem zx_free {z TI TO a:Addr}{f:Bool}{oa:Obj}{Q:Bool->Shared->Prop}(hz:ZpX s.heap z TI TO a f)(ha:s.heap.get? a=some oa)(hQ:∀ h',ZpX h' z TI TO a true->Heap.SameBut z s.heap h'->Q false { s with heap:=h' }) :
  wpAny (model prog w) A (Builtin.SmallTypes.ownedTupleIsFree (.ref z)) Q E s:=by
 unfold Builtin.SmallTypes.ownedTupleIsFree
 refine wpAny_bind (zfld hz (x:=rawInt a) rfl ?_)
 show wpAny _ _ (loadIfAlive ((a:Int).toNat) >>= _) _ _ _
 rw[Int.toNat_natCast]
 refine wpAny_bind (W.kdx_alive ha ?_)
 simp only[Option.isNone_some,Bool.false_eq_true,if_false]
 refine wpAny_bind (zfld hz (x:=.bool f) rfl ?_)
 cases f with
 | true=>exact wpAny_pure (hQ _ hz (Heap.SameBut.refl _ _))
 | false=>exact wpAny_bind (wpAny_setField_rec hz (by simp) λk5 e5 sb5=>wpAny_pure (hQ k5 e5 sb5))
theorem zx_next {z TI TO i1 i2 l1 l2 a:Addr}{k:Nat}{xs ys:Array Value}{x y:Value}{f:Bool}{oa:Obj}{Q:Option Value->Shared->Prop}(D:ZipApart z TI TO i1 i2 l1 l2)(hz:ZpX s.heap z TI TO a f)(ha:s.heap.get? a=some oa)
  (hTI:IsPair s.heap TI (.ref i1) (.ref i2)) (h1:s.heap.IsListIter i1 l1 k) (h2:s.heap.IsListIter i2 l2 k) (hl1:s.heap.IsList l1 xs) (hl2:s.heap.IsList l2 ys) (hx:xs[k]?=some x) (hy:ys[k]?=some y)
  (hQ:∀ h',ZpX h' z TI TO a true->h'.IsListIter i1 l1 (k+1)->h'.IsListIter i2 l2 (k+1)->IsPair h' s.heap.objs.size x y->h'.objs.size=s.heap.objs.size+1 ->
   (∀ c o,c≠z->c≠i1->c≠i2->s.heap.get? c=some o->h'.get? c=some o)->Q (some (.ref s.heap.objs.size)) { s with heap:=h' }) :
  wpAny (model prog w) A (pyNext (.ref z)) Q E s:=by
 have hT:s.TypeIs (.ref z) "zip":=⟨_,hz,rfl⟩
 unfold pyNext
 refine wpAny_bind (wpAny_attempt (wpAny_callSpecial?_slot (name:=Str.ofString "__next__") hT F.slot_zip_next (wpAny_call_entry F.slot_zip_next hT F.entry_zip_next ?_ (F.args_zip_next_1 _))))
 show wpAny _ _ (field (.ref z) 2 >>= _) _ _ _
 refine wpAny_bind (zfld hz (x:=.bool false) rfl ?_)
 show wpAny _ _ (field (.ref z) 3 >>= _) _ _ _
 refine wpAny_bind (zfld hz (x:=.ref TI) rfl ?_)
 refine wpAny_bind (wpAny_seqItems hTI rfl ?_)
 show wpAny _ _ (Builtin.SmallTypes.ownedTupleIsFree (.ref z) >>= _) _ _ _
 refine wpAny_bind (zx_free hz ha λh₁ hz₁ hs₁=>?_)
 simp only[Bool.false_eq_true,if_false]
 refine wpAny_bind ?_
 rw[<- Array.forIn_toList]
 simp only[List.forIn_cons,List.forIn_nil]
 refine wpAny_bind (wpAny_bind (wpAny_holding ?_))
 show wpAny _ _ (Builtin.SmallTypes.nextOf (.ref i1) >>= _) _ _ _
 refine wpAny_bind (wpAny_nextOf_list_item (h1.extBut hs₁.extBut D.i1z) (hl1.extBut hs₁.extBut D.l1z) hx λh₂ h1₂ hs₂=>wpAny_pure (wpAny_pure ?_))
 refine wpAny_bind (wpAny_bind (wpAny_holding ?_))
 show wpAny _ _ (Builtin.SmallTypes.nextOf (.ref i2) >>= _) _ _ _
 refine wpAny_bind (wpAny_nextOf_list_item ((h2.extBut hs₁.extBut D.i2z).extBut hs₂.extBut D.i12.symm) ((hl2.extBut hs₁.extBut D.l2z).extBut hs₂.extBut D.l2i1) hy λh₃ h2₃ hs₃=>wpAny_pure (wpAny_pure (wpAny_pure ?_)))
 show wpAny _ _ (newTuple [x,y] >>= _) _ _ _
 refine wpAny_bind (wpAny_newTuple (wpAny_pure ⟨_,rfl,wpAny_pure ?_⟩))
 have hsz:h₃.objs.size=s.heap.objs.size:=by rw[hs₃.1,hs₂.1,hs₁.1]
 have hz₃:ZpX h₃ z TI TO a true:=hs₃.extBut _ _ D.i2z.symm (hs₂.extBut _ _ D.i1z.symm hz₁)
 have h1₃:h₃.IsListIter i1 l1 (k+1):=h1₂.extBut hs₃.extBut D.i12
 show Q (some (.ref h₃.objs.size)) _
 rw[hsz]
 refine hQ _ (Heap.get?_push_of_some _ hz₃) (h1₃.at λo e=>Heap.get?_push_of_some _ e) (h2₃.at λo e=>Heap.get?_push_of_some _ e) (by rw[<- hsz];exact Heap.get?_push_size _ rfl) (by rw[Heap.size_push,hsz]) λc o c1 c3 c4 e=>Heap.get?_push_of_some _ (hs₃.extBut _ _ c4 (hs₂.extBut _ _ c3 (hs₁.extBut _ _ c1 e)))
theorem zx_end {z TI TO i1 i2 l1 l2 a:Addr}{k:Nat}{xs:Array Value}{f:Bool}{oa:Obj}{Q:Option Value->Shared->Prop}(hh:A.handled=none)(D:ZipApart z TI TO i1 i2 l1 l2)(hz:ZpX s.heap z TI TO a f)(ha:s.heap.get? a=some oa)
  (hTI:IsPair s.heap TI (.ref i1) (.ref i2)) (h1:s.heap.IsListIter i1 l1 k) (hl1:s.heap.IsList l1 xs) (hx:xs[k]?=none)
  (hQ:∀ h',(∀ c o,c≠z->c≠i1->c≠i2->s.heap.get? c=some o->h'.get? c=some o)->Q none { s with heap:=h' }) :
  wpAny (model prog w) A (pyNext (.ref z)) Q E s:=by
 have hT:s.TypeIs (.ref z) "zip":=⟨_,hz,rfl⟩
 unfold pyNext
 refine wpAny_bind (wpAny_attempt (wpAny_callSpecial?_slot (name:=Str.ofString "__next__") hT F.slot_zip_next (wpAny_call_entry F.slot_zip_next hT F.entry_zip_next ?_ (F.args_zip_next_1 _))))
 show wpAny _ _ (field (.ref z) 2 >>= _) _ _ _
 refine wpAny_bind (zfld hz (x:=.bool false) rfl ?_)
 show wpAny _ _ (field (.ref z) 3 >>= _) _ _ _
 refine wpAny_bind (zfld hz (x:=.ref TI) rfl ?_)
 refine wpAny_bind (wpAny_seqItems hTI rfl ?_)
 show wpAny _ _ (Builtin.SmallTypes.ownedTupleIsFree (.ref z) >>= _) _ _ _
 refine wpAny_bind (zx_free hz ha λh₁ hz₁ hs₁=>?_)
 simp only[Bool.false_eq_true,if_false]
 refine wpAny_bind ?_
 rw[<- Array.forIn_toList]
 simp only[List.forIn_cons,List.forIn_nil]
 refine wpAny_bind (wpAny_bind (wpAny_holding ?_))
 show wpAny _ _ (Builtin.SmallTypes.nextOf (.ref i1) >>= _) _ _ _
 refine wpAny_bind (wpAny_nextOf_list_end hh (h1.extBut hs₁.extBut D.i1z) (hl1.extBut hs₁.extBut D.l1z) hx λh₂ e hs₂ he=>?_)
 obtain⟨o,ho,hc⟩:=he
 exact wpAny_bind (wpAny_isInstance (T:="StopIteration") (b:=true) ⟨o,ho,hc⟩ isSubtype_stop (wpAny_pure (hQ _ λc o c1 c3 _ e=>hs₂ _ _ c3 (hs₁.extBut _ _ c1 e))))
end
def ZpSt (h:Heap)(z TI TO i1 i2 l1 l2 S:Addr)(i:Nat):Prop :=
 ((i=0/\(∃ p q,IsPair h TO p q)/\IsZip h z TI TO .none)\/∃ a f oa,ZpX h z TI TO a f/\h.get? a=some oa/\a≠z/\a≠i1/\a≠i2/\a≠S)/\IsPair h TI (.ref i1) (.ref i2)/\h.IsListIter i1 l1 i/\h.IsListIter i2 l2 i
def ZpTs (h:Heap)(xs ys:Array Value)(lo:Nat)(as:List Addr):Prop :=
 as.Pairwise (·<·)/\∀ (j:Nat) (a:Addr),as[j]?=some a->lo<=a/\∃ x y,xs[j]?=some x/\ys[j]?=some y/\IsPair h a x y
section
variable {prog:Program}{w:World}{A:Around}{s:Shared}{R:Result->Shared->Prop}
theorem zp_loop {S z TI TO i1 i2 l1 l2:Addr}{xs ys:Array Value}{lo:Nat}{h1:Heap}(hh:A.handled=none)(D:ZipApart z TI TO i1 i2 l1 l2)(hS:S≠z/\S≠TI/\S≠TO/\S≠i1/\S≠i2/\l1≠S/\l2≠S)(hn:xs.size<=sizeLine)(hxy:xs.size=ys.size)(hL:z<lo/\TO<lo/\i1<lo/\i2<lo/\S<lo)(res:Value)
  (hR:∀ h' c as,(∀ b o,b≠S->b≠z->b≠TO->b≠i1->b≠i2->h1.get? b=some o->h'.get? b=some o)->h'.get? S=some { cls:=.type "list",dict:=none,data:=.seq (as.map Value.ref).toArray c,slots:=#[] }->as.length=xs.size->ZpTs h' xs ys lo as->R (.ok (.ret res)) { s with heap:=h' }) :
  ∀ (k i:Nat) (h:Heap) (c:Nat) (as:List Addr),xs.size-i=k->i<=xs.size->ZpSt h z TI TO i1 i2 l1 l2 S i->h.IsList l1 xs->h.IsList l2 ys->(∀ b o,b≠S->b≠z->b≠TO->b≠i1->b≠i2->h1.get? b=some o->h.get? b=some o) ->
   h.get? S=some { cls:=.type "list",dict:=none,data:=.seq (as.map Value.ref).toArray c,slots:=#[] }->as.length=i->ZpTs h xs ys lo as->lo<=h.objs.size ->
   codeAny (model prog w) A (.builtin "list.extend.loop" ⟨[.ref S,.ref z,res],[]⟩) R { s with heap:=h }:=by
 obtain⟨hSz,hSI,hSO,hS1,hS2,hl1S,hl2S⟩:=hS
 obtain⟨zL,OL,L1,L2',SL⟩:=hL
 intro k
 induction k with
 | zero =>
  intro i h c as hk hi hst hl1 hl2 kp hS hal hG hlo
  have hx:xs[i]?=none:=by simp;omega
  refine codeAny_builtin F.entry_extend_loop ?_
  rw[Around.under_plainId F.plain_extend_loop _]
  show wpAny _ A.in1 (pyNext (.ref z) >>= _) _ _ _
  have fin:∀ h',(∀ c o,c≠z->c≠TO->c≠i1->c≠i2->h.get? c=some o->h'.get? c=some o)->R (.ok (.ret res)) { s with heap:=h' }:=λh' eb =>
   hR h' c as (λb o a1 a2 a3 a4 a5 q=>eb b o a2 a3 a4 a5 (kp b o a1 a2 a3 a4 a5 q)) (eb S _ hSz hSO hS1 hS2 hS) (by omega) ⟨hG.1,λj a q=>by
    obtain⟨z1,x,y,z2,z3,z4⟩:=hG.2 j a q
    exact⟨z1,x,y,z2,z3,eb a _ (Nat.ne_of_gt (Nat.lt_of_lt_of_le zL z1)) (Nat.ne_of_gt (Nat.lt_of_lt_of_le OL z1)) (Nat.ne_of_gt (Nat.lt_of_lt_of_le L1 z1)) (Nat.ne_of_gt (Nat.lt_of_lt_of_le L2' z1)) z4⟩⟩
  obtain⟨h0,hTI,hi1,hi2⟩:=hst
  rcases h0 with ⟨rfl,⟨p,q,hTO⟩,hz⟩ | ⟨a,f,oa,hz,ha,_⟩
  ·exact wpAny_bind (wpAny_pyNext_zip_end (s:={ s with heap:=h }) (A:=A.in1) hh D hz hTI hTO hi1 hi2 hl1 hl2 (.inl hx) λh' eb=>wpAny_pure (fin h' eb))
  ·exact wpAny_bind (zx_end (s:={ s with heap:=h }) (A:=A.in1) hh D hz ha hTI hi1 hl1 hx λh' eb=>wpAny_pure (fin h' λc o c1 _ c3 c4 e=>eb c o c1 c3 c4 e))
 | succ k ih =>
  intro i h c as hk hi hst hl1 hl2 kp hS hal hG hlo
  have hlt:i<xs.size:=by omega
  obtain⟨x,hx⟩:∃ x,xs[i]?=some x:=⟨xs[i],by simp[hlt]⟩
  obtain⟨y,hy⟩:∃ y,ys[i]?=some y:=⟨ys[i]'(by omega),by simp⟩
  refine codeAny_builtin F.entry_extend_loop ?_
  rw[Around.under_plainId F.plain_extend_loop _]
  show wpAny _ A.in1 (pyNext (.ref z) >>= _) _ _ _
  have hSs:S<h.objs.size:=Heap.lt_size hS
  have nxt:∀ h',(∃ a f oa,ZpX h' z TI TO a f/\h'.get? a=some oa/\a≠z/\a≠i1/\a≠i2/\a≠S)->h'.IsListIter i1 l1 (i+1)->h'.IsListIter i2 l2 (i+1)->IsPair h' h.objs.size x y->h'.objs.size=h.objs.size+1 ->
    (∀ b o,b≠z->b≠TO->b≠i1->b≠i2->h.get? b=some o->h'.get? b=some o)->IsPair h' TI (.ref i1) (.ref i2)->wpAny (model prog w) A.in1 (updateSeq S (·.push (Value.ref h.objs.size)) >>= λ_=>again (.builtin "list.extend.loop" ⟨[.ref S,.ref z,res],[]⟩))
     (λfin s'=>match fin with | .done f=>R (.ok f) s' | .again c'=>c'.quiet=true/\codeAny (model prog w) A c' R s') (λx s'=>R (.error x) s') { s with heap:=h' }:=by
   intro h' hX hi1' hi2' ht hz hk' hTI'
   have hS':=hk' S _ hSz hSO hS1 hS2 hS
   have up:∀ b o,b≠S->h'.get? b=some o->(h'.update S (Obj.mapSeq (·.push (Value.ref h.objs.size)))).get? b=some o:=λb o hb q=>(Heap.get?_update_other _ _ (Ne.symm hb)).trans q
   have hasz:(as.map Value.ref).toArray.size=i:=by simp[hal]
   refine wpAny_bind (wpAny_updateSeq hS' rfl (wpAny_pure ⟨plainId_quiet F.plain_extend_loop _,?_⟩) (by rw[hasz];omega) (by rw[Array.size_push,hasz];omega))
   have hS2':=Heap.get?_update_self (Obj.mapSeq (·.push (Value.ref h.objs.size))) hS' rfl
   refine ih (i+1) _ _ (as++[h.objs.size]) (by omega) hlt ?_ ?_ ?_ ?_ (by rw[hS2'];simp[Obj.mapSeq];exact rfl) (by simp[hal]) ?_ ?_
   ·obtain⟨a,f,oa,q1,q2,q3,q4,q5,q6⟩:=hX
    exact⟨.inr ⟨a,f,oa,up z _ (Ne.symm hSz) q1,up a _ q6 q2,q3,q4,q5,q6⟩,up TI _ (Ne.symm hSI) hTI',hi1'.at λo q=>up i1 o (Ne.symm hS1) q,hi2'.at λo q=>up i2 o (Ne.symm hS2) q⟩
   ·exact(hl1.at λo q=>hk' l1 o D.l1z D.l1TO D.l1i1 D.l1i2 q).at λo q=>up l1 o hl1S q
   ·exact(hl2.at λo q=>hk' l2 o D.l2z D.l2TO D.l2i1 D.l2i2 q).at λo q=>up l2 o hl2S q
   ·exact λb o a1 a2 a3 a4 a5 q=>up b o a1 (hk' b o a2 a3 a4 a5 (kp b o a1 a2 a3 a4 a5 q))
   ·refine⟨List.pairwise_append.mpr ⟨hG.1,List.pairwise_singleton _ _,λa ha b hb=>?_⟩,λj a q=>?_⟩
    ·rw[List.mem_singleton.mp hb]
     obtain⟨j,hj⟩:=List.mem_iff_getElem?.mp ha
     obtain⟨_,_,_,_,_,z⟩:=hG.2 j a hj
     exact Heap.lt_size z
    ·rcases Nat.lt_trichotomy j as.length with c1 | c1 | c1
     ·rw[List.getElem?_append_left c1] at q
      obtain⟨z1,x',y',z2,z3,z4⟩:=hG.2 j a q
      exact⟨z1,x',y',z2,z3,up a _ (Nat.ne_of_gt (Nat.lt_of_lt_of_le SL z1)) (hk' a _ (Nat.ne_of_gt (Nat.lt_of_lt_of_le zL z1)) (Nat.ne_of_gt (Nat.lt_of_lt_of_le OL z1)) (Nat.ne_of_gt (Nat.lt_of_lt_of_le L1 z1)) (Nat.ne_of_gt (Nat.lt_of_lt_of_le L2' z1)) z4)⟩
     ·subst c1
      have ea:h.objs.size=a:=by simpa using q
      subst ea
      exact⟨hlo,x,y,by rw[hal];exact hx,by rw[hal];exact hy,up _ _ (Nat.ne_of_gt hSs) ht⟩
     ·rw[List.getElem?_eq_none (by simp;omega)] at q
      cases q
   ·rw[Heap.size_update,hz];omega
  have zlt:z<h.objs.size:=Nat.lt_of_lt_of_le zL hlo
  have lt1:i1<h.objs.size:=Nat.lt_of_lt_of_le L1 hlo
  have lt2:i2<h.objs.size:=Nat.lt_of_lt_of_le L2' hlo
  obtain⟨h0,hTI,hi1,hi2⟩:=hst
  rcases h0 with ⟨rfl,⟨p,q,hTO⟩,hz⟩ | ⟨a,f,oa,hz,ha,q3,q4,q5,q6⟩
  ·exact wpAny_bind (wpAny_pyNext_zip_item (s:={ s with heap:=h }) (A:=A.in1) D hz hTI hTO hi1 hi2 hl1 hl2 hx hy λh' b1 b2 b3 b4 b5 b6 b7=>nxt h' ⟨_,false,_,b1,b5,Nat.ne_of_gt zlt,Nat.ne_of_gt lt1,Nat.ne_of_gt lt2,Nat.ne_of_gt hSs⟩ b3 b4 b5 b6 b7 (b7 TI _ D.TIz D.TITO D.TIi1 D.TIi2 hTI))
  ·exact wpAny_bind (zx_next (s:={ s with heap:=h }) (A:=A.in1) D hz ha hTI hi1 hi2 hl1 hl2 hx hy λh' b1 b2 b3 b4 b5 b6=>nxt h' ⟨a,true,oa,b1,b6 a oa q3 q4 q5 ha,q3,q4,q5,q6⟩ b2 b3 b4 b5 (λb o c1 _ c3 c4 e=>b6 b o c1 c3 c4 e) (b6 TI _ D.TIz D.TIi1 D.TIi2 hTI))
end
theorem zip_no_len:typeLookup (.type "zip") "__len__"=pure none:=by rw[typeLookup_type,builtinLookup_eq_fast];kernel_rfl
theorem zip_no_hint:typeLookup (.type "zip") "__length_hint__"=pure none:=by rw[typeLookup_type,builtinLookup_eq_fast];kernel_rfl
section
variable {prog:Program}{w:World}{A:Around}{E:Value->Shared->Prop}{s:Shared}
theorem call_list_zip {z TI TO i1 i2 l1 l2:Addr}{xs ys:Array Value}{p q:Value}{Q:Value->Shared->Prop}(hh:A.handled=none)(D:ZipApart z TI TO i1 i2 l1 l2)(hz:IsZip s.heap z TI TO .none)(hTI:IsPair s.heap TI (.ref i1) (.ref i2))(hTO:IsPair s.heap TO p q)(h1:s.heap.IsListIter i1 l1 0)(h2:s.heap.IsListIter i2 l2 0)(hl1:s.heap.IsList l1 xs)(hl2:s.heap.IsList l2 ys)(hn:xs.size<=sizeLine)(hxy:xs.size=ys.size)
  (hQ:∀ h' c as,(∀ b o,b≠z->b≠TO->b≠i1->b≠i2->s.heap.get? b=some o->h'.get? b=some o)->h'.get? s.heap.objs.size=some { cls:=.type "list",dict:=none,data:=.seq (as.map Value.ref).toArray c,slots:=#[] }->as.length=xs.size->ZpTs h' xs ys (s.heap.objs.size+1) as ->
   Q (.ref s.heap.objs.size) { s with heap:=h' }):wpAny (model prog w) A (call (.type "list") [.ref z]) Q E s:=by
 have zlt:z<s.heap.objs.size:=Heap.lt_size hz
 have Ilt:TI<s.heap.objs.size:=Heap.lt_size hTI
 have Olt:TO<s.heap.objs.size:=Heap.lt_size hTO
 have lt1:i1<s.heap.objs.size:=by obtain⟨o,q,_⟩:=h1;exact Heap.lt_size q
 have lt2:i2<s.heap.objs.size:=by obtain⟨o,q,_⟩:=h2;exact Heap.lt_size q
 have llt1:l1<s.heap.objs.size:=by obtain⟨o,q,_⟩:=hl1;exact Heap.lt_size q
 have llt2:l2<s.heap.objs.size:=by obtain⟨o,q,_⟩:=hl2;exact Heap.lt_size q
 refine callType_codes (Q₁:=λob s1=>ob=.ref s.heap.objs.size/\s1={ s with heap:=s.heap.push { cls:=.type "list",data:=.seq #[] } }) F.called_list (F.typeCall_list_1 _) F.entry_list_init (code_list_new _ ⟨rfl,rfl⟩) λob s1 q1=>?_
 obtain⟨rfl,rfl⟩:=q1
 have hS:(s.heap.push { cls:=.type "list",data:=.seq #[] }).get? s.heap.objs.size=some { cls:=.type "list",data:=.seq #[] }:=Heap.get?_push_size _ rfl
 refine⟨⟨_,hS,rfl⟩,F.args_list_init_2 _ _,?_⟩
 show wpAny _ A.in1.in1 (do let old <- Builtin.List.listItems (.ref s.heap.objs.size);Builtin.List.listUpdate (.ref s.heap.objs.size) (λ_=>#[]);letGo old.toList.reverse;Builtin.List.listExtendWith (.ref s.heap.objs.size) (.ref z) .none) _ _ _
 refine wpAny_bind (listItems_at hS rfl (wpAny_bind (listUpdate_at hS rfl (wpAny_bind (wpAny_letGo ?_)))))
 have hS2:=Heap.get?_update_self (Obj.mapSeq (λ_=>(#[]:Array Value))) hS rfl
 have oth:∀ b o,b<s.heap.objs.size->s.heap.get? b=some o->((s.heap.push { cls:=.type "list",data:=.seq #[] }).update s.heap.objs.size (Obj.mapSeq (λ_=>(#[]:Array Value)))).get? b=some o :=
  λb o hb q=>(Heap.get?_update_other _ _ (Nat.ne_of_gt hb)).trans (Heap.get?_push_of_some _ q)
 have hzz:((s.heap.push { cls:=.type "list",data:=.seq #[] }).update s.heap.objs.size (Obj.mapSeq (λ_=>(#[]:Array Value)))).objs.size=s.heap.objs.size+1:=by rw[Heap.size_update,Heap.size_push]
 generalize hH:(s.heap.push { cls:=.type "list",data:=.seq #[] }).update s.heap.objs.size (Obj.mapSeq (λ_=>(#[]:Array Value)))=h2' at hS2 oth hzz ⊢
 have hz2:IsZip h2' z TI TO .none:=oth z _ zlt hz
 have hT:Shared.TypeIs { s with heap:=h2' } (.ref z) "zip":=⟨_,hz2,rfl⟩
 unfold Builtin.List.listExtendWith
 refine wpAny_bind (wpAny_typeOf hT ?_)
 have c1:Builtin.List.listSameRef (.ref s.heap.objs.size) (.ref z)=false:=by simp[Builtin.List.listSameRef];exact Nat.ne_of_gt zlt
 simp only[c1,show (Value.type "zip" == Value.type "list")=false by decide,show (Value.type "zip" == Value.type "tuple")=false by decide,Bool.or_false,Bool.false_eq_true,if_false]
 refine wpAny_bind (wpAny_pyIter_zip hz2 (wpAny_bind (wpAny_holding ?_)))
 unfold Builtin.List.listLengthHint
 refine wpAny_bind (wpAny_specialOf hT zip_no_len ?_)
 show wpAny _ _ (specialOf (Value.ref z) (Str.ofString "__length_hint__") >>= _) _ _ _
 refine wpAny_bind (wpAny_specialOf hT zip_no_hint (wpAny_pure ?_))
 show wpAny _ _ (rule "list.extend.makes-room" >>= λ_=>Builtin.List.listTouch (.ref s.heap.objs.size) >>= λ_=>again (.builtin "list.extend.loop" ⟨[.ref s.heap.objs.size,.ref z,.none],[]⟩)) _ _ _
 refine wpAny_bind (wpAny_rule (wpAny_bind ?_))
 show wpAny _ _ (updateSeq s.heap.objs.size (·.push .none) >>= λ_=>updateSeq s.heap.objs.size (·.pop)) _ _ _
 refine wpAny_bind (wpAny_updateSeq hS2 rfl ?_ (by simp) (by rw[sizeLine_eq];decide))
 have hS3:=Heap.get?_update_self (Obj.mapSeq (·.push Value.none)) hS2 rfl
 refine wpAny_updateSeq hS3 rfl ?_ (by rw[sizeLine_eq];decide) (by rw[sizeLine_eq];decide)
 have hS4:=Heap.get?_update_self (Obj.mapSeq (·.pop)) hS3 rfl
 have oth2:∀ b o,b<s.heap.objs.size->s.heap.get? b=some o->((h2'.update s.heap.objs.size (Obj.mapSeq (·.push Value.none))).update s.heap.objs.size (Obj.mapSeq (·.pop))).get? b=some o :=
  λb o hb q=>(Heap.get?_update_other _ _ (Nat.ne_of_gt hb)).trans ((Heap.get?_update_other _ _ (Nat.ne_of_gt hb)).trans (oth b o hb q))
 refine wpAny_pure ⟨plainId_quiet F.plain_extend_loop _,?_⟩
 refine zp_loop (A:=A.in1) (R:=wants (λr s2=>r=.none/\Q (.ref s.heap.objs.size) s2) E) (s:=s) (h1:=s.heap) (lo:=s.heap.objs.size+1) (xs:=xs) (ys:=ys) hh D ⟨Nat.ne_of_gt zlt,Nat.ne_of_gt Ilt,Nat.ne_of_gt Olt,Nat.ne_of_gt lt1,Nat.ne_of_gt lt2,Nat.ne_of_lt llt1,Nat.ne_of_lt llt2⟩ hn hxy ⟨Nat.lt_succ_of_lt zlt,Nat.lt_succ_of_lt Olt,Nat.lt_succ_of_lt lt1,Nat.lt_succ_of_lt lt2,Nat.lt_succ_self _⟩ .none
  (λh' c as k1 k2 k3 k4=>⟨rfl,hQ h' c as (λb o b1 b2 b3 b4 q=>k1 b o (Nat.ne_of_lt (Heap.lt_size q)) b1 b2 b3 b4 q) k2 k3 k4⟩) xs.size 0 _ _ [] (Nat.sub_zero _) (Nat.zero_le _) ⟨.inl ⟨rfl,⟨p,q,oth2 TO _ Olt hTO⟩,oth2 z _ zlt hz⟩,oth2 TI _ Ilt hTI,h1.at λo q=>oth2 i1 o lt1 q,h2.at λo q=>oth2 i2 o lt2 q⟩
  (hl1.at λo q=>oth2 l1 o llt1 q) (hl2.at λo q=>oth2 l2 o llt2 q) (λb o _ _ _ _ _ q=>oth2 b o (Heap.lt_size q) q) (by rw[hS4];rfl) rfl ⟨List.Pairwise.nil,λj a q=>by simp at q⟩ (by rw[Heap.size_update,Heap.size_update,hzz];exact Nat.le_refl _)
end
section
variable {X:Cx}
def zpH (H:Hp)(n:Nat)(as:List Addr)(xs ys:List V):Hp:=λb=>if b<n then H b else if b=n+5 then some (.lst (as.map V.ref)) else match as.findIdx? (· == b) with
 | some j=>match xs[j]?,ys[j]? with
  | some x,some y=>some (.tup [x,y])
  | _,_=>none
 | none=>none
theorem zpH_old {H:Hp}{n:Nat}{as:List Addr}{xs ys:List V}{b:Addr}(h:b<n):zpH H n as xs ys b=H b:=if_pos h
theorem zpH_D {H:Hp}{n:Nat}{as:List Addr}{xs ys:List V}:zpH H n as xs ys (n+5)=some (.lst (as.map V.ref)):=by
 unfold zpH
 rw[if_neg (show ¬ n+5<n by omega),if_pos rfl]
theorem zpH_T {H:Hp}{n:Nat}{as:List Addr}{xs ys:List V}(h:as.Pairwise (·<·)){j:Nat}{b:Addr}{x y:V}(hb:n+6<=b)(z1:as[j]?=some b)(z2:xs[j]?=some x)(z3:ys[j]?=some y):zpH H n as xs ys b=some (.tup [x,y]):=by
 unfold zpH
 rw[if_neg (Nat.not_lt.mpr (Nat.le_trans (Nat.le_add_right n 6) hb)),if_neg (Nat.ne_of_gt (Nat.lt_of_lt_of_le (Nat.lt_succ_self _) hb)),pairs_rise h z1]
 dsimp only
 rw[z2,z3]
theorem zpH_new {H:Hp}{n:Nat}{as:List Addr}{xs ys:List V}{b:Addr}{o:HO}(hb:n<=b)(z:zpH H n as xs ys b=some o):(b=n+5/\o=.lst (as.map V.ref))\/∃ (j:Nat) (x y:V),as[j]?=some b/\xs[j]?=some x/\ys[j]?=some y/\o=.tup [x,y]:=by
 unfold zpH at z
 rw[if_neg (Nat.not_lt.mpr hb)] at z
 by_cases hD:b=n+5
 ·rw[if_pos hD] at z
  exact .inl ⟨hD,(Option.some.inj z).symm⟩
 ·rw[if_neg hD] at z
  cases f:as.findIdx? (· == b) with
  | none=>rw[f] at z;cases z
  | some j =>
   rw[f] at z
   obtain⟨hj,hb2,_⟩:=List.findIdx?_eq_some_iff_getElem.mp f
   have hb3:as[j]?=some b:=by rw[List.getElem?_eq_getElem hj];exact congrArg some (by simpa using hb2)
   dsimp only at z
   cases hx:xs[j]? with
   | none=>rw[hx] at z;cases z
   | some x =>
    cases hy:ys[j]? with
    | none=>rw[hx,hy] at z;cases z
    | some y =>
     rw[hx,hy] at z
     exact .inr ⟨j,x,y,hb3,hx,hy,(Option.some.inj z).symm⟩
@[irreducible] def hZipL (K:W.Frag)(a b:Addr)(H:Hp)(Q:VK):Prop:=∃ xs ys,SqL K H a xs/\SqL K H b ys/\xs.length=ys.length/\∀ (D:Addr) (as:List Addr) (H2:Hp),Same H H2->H D=none->H2 D=some (.lst (as.map V.ref))->as.length=xs.length ->
 (∀ (j:Nat) (x y:V),xs[j]?=some x->ys[j]?=some y->∃ b,as[j]?=some b/\H2 b=some (.tup [x,y]))->Q (.ref D) H2
def tZipL (K:W.Frag)(ta:TA):TE:=λσ H Q=>ta σ H λvs H1=>match vs with
 | [.ref a,.ref b]=>hZipL K a b H1 Q
 | _=>False
theorem qe_zipL {l m:Expr}{ta:TA}{p p2 pos pos2:Pos}(hc:X.calm=true)(hg:Gl X "list")(hm:X.mg "list"=none)(hg2:Gl X "zip")(hm2:X.mg "zip"=none)(ha:QA X [l,m] ta) :
  QE X (.Call (.Name "list" p) [.Call (.Name "zip" p2) [l,m] [] pos2] [] pos) (tZipL X.K ta):=⟨by
 intro pins s σ H Q I h
 have hp:=ha.p
 have h2:[m].all plainE=true:=by simp only[List.all_cons,List.all_nil,Bool.and_true,Bool.and_eq_true] at hp ⊢;exact hp.2
 have h1:plainE l=true:=by simp only[List.all_cons,List.all_nil,Bool.and_true,Bool.and_eq_true] at hp;exact hp.1
 refine wpAny_Call_Name_kw (ld_blt I hg hm (show bootBuiltins "list"=some (.type "list") by decide +kernel) ?_)
 refine PyProof.Rows.callWith_type1 ?_ rfl rfl
 show wpAny _ _ (spliced ((false,eval (.Call (.Name "zip" p2) [l,m] [] pos2) X.env)::[])) _ _ s
 refine Calls.spliced_cons ?_
 refine Call_ (ld_blt I hg2 hm2 boot_zip (PyProof.Rows.callWith_type1 (thn (ha.h pos2 pins s σ H _ I h) λus s1 ⟨vs,H1,I1,r1,q1⟩=>?_) (star_plain h1) (any_plain h2)))
 dsimp only at q1
 split at q1
 ·rename_i a b
  unfold hZipL at q1
  obtain⟨xs,ys,hxs,hys,hxy,q⟩:=q1
  cases r1 with
  | cons ra rr =>
   cases rr with
   | cons rb rr =>
    cases rr
    cases ra
    cases rb
    obtain⟨its,rv,pl,hz⟩:=I1.list hxs
    obtain⟨jts,rw',ql,hz'⟩:=I1.list hys
    have hlen:=rv.length
    have hlen':=rw'.length
    have la:a<s1.heap.objs.size:=by obtain⟨o,e,_⟩:=pl.isList;exact Heap.lt_size e
    have lb:b<s1.heap.objs.size:=by obtain⟨o,e,_⟩:=ql.isList;exact Heap.lt_size e
    refine call_zip_2 pl.isList ql.isList λh1' a1 a2 a3 a4 a5 a6 hk=>Calls.spliced_nil ?_
    refine call_list_zip (s:={ s1 with heap:=h1' }) (I1.ok.hd hc) (zip_apart _ a b la lb) a1 a2 a3 a4 a5 (pl.isList.at λo z=>hk a o z) (ql.isList.at λo z=>hk b o z) (by simp only[List.size_toArray];omega) (by simp only[List.size_toArray];omega) λh2' c as k1 k2 k3 k4=>?_
    have k2':h2'.get? h1'.objs.size=some { cls:=.type "list",dict:=none,data:=.seq (as.map Value.ref).toArray c,slots:=#[] }:=k2
    have k4':ZpTs h2' its.toArray jts.toArray (h1'.objs.size+1) as:=k4
    show ∃ _,_
    rw[show ({ s1 with heap:=h1' }:Shared).heap.objs.size=h1'.objs.size from rfl]
    rw[a6] at k2' k4' ⊢
    have k3':as.length=xs.length:=by rw[k3];simp only[List.size_toArray];omega
    have keepAll:∀ b o,s1.heap.get? b=some o->h2'.get? b=some o:=λb o z=>by
     have hb:=Heap.lt_size z
     have m0:b≠s1.heap.objs.size:=Nat.ne_of_lt hb
     have m1:b≠s1.heap.objs.size+1:=Nat.ne_of_lt (Nat.lt_of_lt_of_le hb (Nat.le_add_right _ _))
     have m3:b≠s1.heap.objs.size+3:=Nat.ne_of_lt (Nat.lt_of_lt_of_le hb (Nat.le_add_right _ _))
     have m4:b≠s1.heap.objs.size+4:=Nat.ne_of_lt (Nat.lt_of_lt_of_le hb (Nat.le_add_right _ _))
     exact k1 b o m4 m3 m0 m1 (hk b o z)
    have hgt:∀ (j:Nat) (b:Addr),as[j]?=some b->s1.heap.objs.size+6<=b:=λj b z=>(k4'.2 j b z).1
    refine⟨.ref (s1.heap.objs.size+5),zpH H1 s1.heap.objs.size as xs ys,?_,rfl,q _ as _ (λb o z=>by rw[zpH_old (I1.hok.lt z)];exact z) (I1.hok.fresh (Nat.le_add_right _ _)) zpH_D k3' λj x y z z'=>?_⟩
    ·refine I1.grow (t':=s1.toks) keepAll (λb hb=>zpH_old hb) λb o hb z=>?_
     rcases zpH_new hb z with ⟨rfl,rfl⟩ | ⟨j,x,y,hb3,hx,hy,rfl⟩
     ·exact⟨by rw[List.length_map];omega,as.map Value.ref,c,refs_vals as,k2'⟩
     ·obtain⟨_,x',y',y1,y2,y3⟩:=k4'.2 j b hb3
      obtain⟨u,hu,ru⟩:=rv.get hx
      obtain⟨t,ht,rt⟩:=rw'.get hy
      have e1:x'=u:=by
       have y1':its[j]?=some x':=by simpa using y1
       rw[hu] at y1'
       exact(Option.some.inj y1').symm
      have e2:y'=t:=by
       have y2':jts[j]?=some y':=by simpa using y2
       rw[ht] at y2'
       exact(Option.some.inj y2').symm
      subst e1 e2
      exact⟨(by show 2<=sizeLine;rw[sizeLine_eq];decide),[x',y'],.cons ru (.cons rt .nil),_,y3,rfl,0,rfl⟩
    ·have hj:j<as.length:=by
      have:=(List.getElem?_eq_some_iff.mp z).1
      omega
     exact⟨as[j],List.getElem?_eq_getElem hj,zpH_T k4'.1 (hgt j _ (List.getElem?_eq_getElem hj)) (List.getElem?_eq_getElem hj) z z'⟩
 ·exact q1.elim⟩
theorem ke_zipL {K:W.Frag}{l m:Expr}{ta:TA}{p p2 pos pos2:Pos}(hK:X.K=K)(hc:X.calm=true)(hg:Gl X "list")(hm:X.mg "list"=none)(hg2:Gl X "zip")(hm2:X.mg "zip"=none)(ha:QA X [l,m] ta) :
  QE X (.Call (.Name "list" p) [.Call (.Name "zip" p2) [l,m] [] pos2] [] pos) (tZipL K ta):=hK▸qe_zipL hc hg hm hg2 hm2 ha
theorem i_zipL {K:W.Frag}{a b:Addr}{H:Hp}{Q:VK}{xs ys:List V}(hx:SqL K H a xs)(hy:SqL K H b ys)(hl:xs.length=ys.length)(q:∀ (D:Addr) (as:List Addr) (H2:Hp),Same H H2->H D=none->H2 D=some (.lst (as.map V.ref))->as.length=xs.length ->
  (∀ (j:Nat) (x y:V),xs[j]?=some x->ys[j]?=some y->∃ b,as[j]?=some b/\H2 b=some (.tup [x,y]))->Q (.ref D) H2):hZipL K a b H Q:=by unfold hZipL;exact⟨xs,ys,hx,hy,hl,q⟩
end
end L2
namespace M3
def pcs (ns:List Int):Nat->List Nat->List (List Int)
 | b,[]=>[ns.drop b]
 | b,c::cs=>(ns.drop b).take (c-b)::pcs ns c cs
theorem pcs_len (ns:List Int):∀ (cs:List Nat) (b:Nat),(pcs ns b cs).length=cs.length+1
 | [],_=>rfl
 | c::cs,b=>by simp only[pcs,List.length_cons,pcs_len ns cs c]
structure CutN (cs:List Nat)(n:Nat):Prop where
 up:cs.Pairwise (·<·)
 lo:∀ c∈cs,1<=c
 hi:∀ c∈cs,c<n
theorem pcs_mem (ns:List Int):∀ (cs:List Nat) (b:Nat),∀ p∈pcs ns b cs,∀ n∈p,n∈ns
 | [],b,p,hp,n,hn=>by
  simp only[pcs,List.mem_singleton] at hp
  subst hp;exact List.mem_of_mem_drop hn
 | c::cs,b,p,hp,n,hn=>by
  simp only[pcs] at hp
  rcases List.mem_cons.mp hp with rfl | hp
  ·exact List.mem_of_mem_drop (List.mem_of_mem_take hn)
  ·exact pcs_mem ns cs c p hp n hn
end M3
namespace M3
end M3
namespace M5
def lcut (b:Int):Nat->Int->List Int->List Int
 | _,_,[]=>[]
 | i,tot,n::r=>if tot+n > b then (i:Int)::lcut b (i+1) n r else lcut b (i+1) (tot+n) r
def ltot (b:Int):Int->List Int->Int
 | tot,[]=>tot
 | tot,n::r=>if tot+n > b then ltot b n r else ltot b (tot+n) r
theorem lcut_app (b:Int):∀ (xs ys:List Int) (i:Nat) (tot:Int),lcut b i tot (xs++ys)=lcut b i tot xs++lcut b (i+xs.length) (ltot b tot xs) ys
 | [],ys,i,tot=>by simp[lcut,ltot]
 | x::xs,ys,i,tot=>by
  by_cases h:tot+x > b
  ·simp only[List.cons_append,lcut,ltot,h,if_true,lcut_app b xs ys (i+1) x,List.length_cons]
   rw[show i+1+xs.length=i+(xs.length+1) by omega]
  ·simp only[List.cons_append,lcut,ltot,h,if_false,lcut_app b xs ys (i+1) (tot+x),List.length_cons]
   rw[show i+1+xs.length=i+(xs.length+1) by omega]
theorem ltot_app (b:Int):∀ (xs ys:List Int) (tot:Int),ltot b tot (xs++ys)=ltot b (ltot b tot xs) ys
 | [],ys,tot=>rfl
 | x::xs,ys,tot=>by
  by_cases h:tot+x > b
  ·simp only[List.cons_append,ltot,h,if_true];exact ltot_app b xs ys x
  ·simp only[List.cons_append,ltot,h,if_false];exact ltot_app b xs ys (tot+x)
theorem sum_nn:∀ (ys:List Int),(∀ y∈ys,0<=y)->0<=ys.sum
 | [],_=>by simp
 | y::ys,h=>by
  rw[List.sum_cons]
  have:=sum_nn ys λz hz=>h z (List.mem_cons_of_mem _ hz)
  have:=h y List.mem_cons_self
  omega
theorem lcut_nil {b:Int}:∀ (ys:List Int) (i:Nat) (tot:Int),(∀ y∈ys,0<=y)->tot+ys.sum<=b->lcut b i tot ys=[]
 | [],_,_,_,_=>rfl
 | y::ys,i,tot,h,hs=>by
  rw[List.sum_cons] at hs
  have hp:0<=ys.sum:=sum_nn ys λz hz=>h z (List.mem_cons_of_mem _ hz)
  have:¬ tot+y > b:=by omega
  simp only[lcut,this,if_false]
  exact lcut_nil ys (i+1) (tot+y) (λz hz=>h z (List.mem_cons_of_mem _ hz)) (by omega)
theorem mem_le_sum:∀ {ys:List Int},(∀ y∈ys,0<=y)->∀ y∈ys,y<=ys.sum
 | x::ys,h,y,hy=>by
  rw[List.sum_cons]
  have h0:=sum_nn ys λz hz=>h z (List.mem_cons_of_mem _ hz)
  have hx:=h x List.mem_cons_self
  rcases List.mem_cons.mp hy with rfl | hy
  ·omega
  ·have:=mem_le_sum (λz hz=>h z (List.mem_cons_of_mem _ hz)) y hy
   omega
theorem lcut_one {b:Int}:∀ (ys:List Int) (i:Nat) (tot:Int),(∀ y∈ys,0<=y)->ys.sum<=b->(lcut b i tot ys).length<=1
 | [],_,_,_,_=>Nat.zero_le _
 | y::ys,i,tot,h,hs=>by
  rw[List.sum_cons] at hs
  have hy:=h y List.mem_cons_self
  have ht:∀ z∈ys,0<=z:=λz hz=>h z (List.mem_cons_of_mem _ hz)
  by_cases hc:tot+y > b
  ·simp only[lcut,hc,if_true,lcut_nil ys (i+1) y ht hs,List.length_cons,List.length_nil];omega
  ·simp only[lcut,hc,if_false]
   exact lcut_one ys (i+1) (tot+y) ht (by omega)
def gp (b:Int)(ns:List Int):Nat:=if ns=[] then 0 else (lcut b 0 0 ns).length+1
theorem gp_add {b:Int}{xs ys:List Int}(h:∀ y∈ys,0<=y)(hs:ys.sum<=b):gp b (xs++ys)<=gp b xs+1:=by
 unfold gp
 by_cases hx:xs=[]
 ·subst hx
  rw[List.nil_append,lcut_nil ys 0 0 h (by omega)]
  split<;>simp
 ·rw[if_neg hx,if_neg (by simp[hx]),lcut_app,List.length_append]
  have:=lcut_one ys (0+xs.length) (ltot b 0 xs) h hs
  omega
theorem gp_last {b:Int}:∀ (m:Nat) (xs:List Int),xs.length=m->xs≠[]->(∀ x∈xs,0<=x)->(∀ x∈xs,x<=b)->∃ pre seg,xs=pre++seg/\seg≠[]/\seg.sum=ltot b 0 xs/\ltot b 0 xs<=b/\gp b xs=gp b pre+1
 | 0,xs,hl,hne,_,_=>absurd (List.length_eq_zero_iff.mp hl) hne
 | m+1,xs,hl,hne,h0,h1=>by
  obtain⟨ys,n,rfl⟩:∃ ys n,xs=ys++[n]:=⟨xs.dropLast,xs.getLast hne,(List.dropLast_concat_getLast hne).symm⟩
  have hn:n<=b:=h1 n (by simp)
  by_cases hy:ys=[]
  ·subst hy
   have e:¬ (0:Int)+n > b:=by omega
   refine⟨[],[n],rfl,by simp,?_,?_,?_⟩
   ·simp[ltot,e]
   ·simp only[List.nil_append,ltot,e,if_false];omega
   ·simp[gp,lcut,hn]
  ·rw[ltot_app]
   by_cases hc:ltot b 0 ys+n > b
   ·refine⟨ys,[n],rfl,by simp,?_,?_,?_⟩
    ·simp[ltot,hc]
    ·simp only[ltot,hc,if_true];exact hn
    ·unfold gp
     rw[if_neg hy,if_neg (by simp),lcut_app]
     simp[lcut,hc]
   ·obtain⟨pre,seg,e1,e2,e3,e4,e5⟩:=gp_last m ys (by simp at hl;exact hl) hy (λx hx=>h0 x (by simp[hx])) (λx hx=>h1 x (by simp[hx]))
    refine⟨pre,seg++[n],by rw[e1];simp,by simp,?_,?_,?_⟩
    ·simp only[List.sum_append,List.sum_cons,List.sum_nil,ltot,hc,if_false];omega
    ·simp only[ltot,hc,if_false];omega
    ·rw[<- e5]
     unfold gp
     rw[if_neg hy,if_neg (by simp),lcut_app]
     simp[lcut,hc]
end M5
namespace M5
theorem lcut_len (b:Int):∀ (xs:List Int) (i:Nat) (tot:Int),(lcut b i tot xs).length<=xs.length
 | [],_,_=>Nat.le_refl _
 | x::xs,i,tot=>by
  simp only[lcut]
  split
  ·have:=lcut_len b xs (i+1) x;simp only[List.length_cons];omega
  ·have:=lcut_len b xs (i+1) (tot+x);simp only[List.length_cons];omega
end M5
namespace M5
def fv (b:Int)(ns:List Int)(i:Nat):Option Int:=if (ns.take i).all (λn=>decide (n<=b))=true then some ((gp b (ns.take i):Nat):Int) else none
def seg (ns:List Int)(k e:Nat):Int:=((ns.take e).drop k).sum
theorem seg_self (ns:List Int)(e:Nat):seg ns e e=0:=by
 unfold seg;rw[List.drop_eq_nil_of_le (by rw[List.length_take];omega)];rfl
theorem seg_step {ns:List Int}{k e:Nat}(hk:k<e)(he:e<=ns.length):seg ns k e=ns.getD k 0+seg ns (k+1) e:=by
 unfold seg
 have h:k<(ns.take e).length:=by rw[List.length_take];omega
 rw[List.drop_eq_getElem_cons h,List.sum_cons,List.getElem_take,List.getD_eq_getElem?_getD,List.getElem?_eq_getElem (by omega)];rfl
structure Best (b:Int)(ns:List Int)(e lo:Nat)(best:Option Int):Prop where
 ub:∀ k,lo<=k->k<e->seg ns k e<=b->∀ v,fv b ns k=some v->∃ w,best=some w/\w<=v+1
 ex:∀ w,best=some w->∃ k,lo<=k/\k<e/\seg ns k e<=b/\fv b ns k=some (w-1)
end M5
namespace M5
theorem take_split {ns:List Int}{i e:Nat}(h:i<=e):ns.take e=ns.take i++(ns.take e).drop i:=by
 conv=>lhs;rw[<- List.take_append_drop i (ns.take e)]
 rw[List.take_take,Nat.min_eq_left h]
end M5
namespace M10
open M5
def sends (b:Int):Nat->Int->List Int->List Int
 | _,_,[]=>[]
 | i,tot,n::r=>if tot+n>=b then ((i+1:Nat):Int)::sends b (i+1) 0 r else sends b (i+1) (tot+n) r
def stot (b:Int):Int->List Int->Int
 | tot,[]=>tot
 | tot,n::r=>if tot+n>=b then stot b 0 r else stot b (tot+n) r
theorem sends_app (b:Int):∀ (xs ys:List Int) (i:Nat) (tot:Int),sends b i tot (xs++ys)=sends b i tot xs++sends b (i+xs.length) (stot b tot xs) ys
 | [],ys,i,tot=>by simp[sends,stot]
 | x::xs,ys,i,tot=>by
  by_cases h:tot+x>=b
  ·simp only[List.cons_append,sends,stot,h,if_true,sends_app b xs ys (i+1) 0,List.length_cons]
   rw[show i+1+xs.length=i+(xs.length+1) by omega]
  ·simp only[List.cons_append,sends,stot,h,if_false,sends_app b xs ys (i+1) (tot+x),List.length_cons]
   rw[show i+1+xs.length=i+(xs.length+1) by omega]
theorem stot_app (b:Int):∀ (xs ys:List Int) (tot:Int),stot b tot (xs++ys)=stot b (stot b tot xs) ys
 | [],ys,tot=>rfl
 | x::xs,ys,tot=>by
  by_cases h:tot+x>=b
  ·simp only[List.cons_append,stot,h,if_true];exact stot_app b xs ys 0
  ·simp only[List.cons_append,stot,h,if_false];exact stot_app b xs ys (tot+x)
theorem sends_len (b:Int):∀ (xs:List Int) (i:Nat) (tot:Int),(sends b i tot xs).length<=xs.length
 | [],_,_=>Nat.le_refl _
 | x::xs,i,tot=>by
  simp only[sends]
  split
  ·have:=sends_len b xs (i+1) 0;simp only[List.length_cons];omega
  ·have:=sends_len b xs (i+1) (tot+x);simp only[List.length_cons];omega
theorem sends_cases (b:Int):∀ (xs:List Int) (i:Nat) (tot:Int),
  (sends b i tot xs=[]/\∀ j,1<=j->j<=xs.length->tot+(xs.take j).sum<b) \/
  ∃ j,1<=j/\j<=xs.length/\tot+(xs.take j).sum>=b/\(∀ k,1<=k->k<j->tot+(xs.take k).sum<b)/\sends b i tot xs=((i+j:Nat):Int)::sends b (i+j) 0 (xs.drop j)
 | [],i,tot=>.inl ⟨rfl,λj h1 h2=>by simp at h2;omega⟩
 | x::xs,i,tot=>by
  by_cases h:tot+x>=b
  ·refine .inr ⟨1,Nat.le_refl _,by simp,by simpa using h,λk h1 h2=>by omega,?_⟩
   simp only[sends,h,if_true,List.drop_succ_cons,List.drop_zero]
  ·rcases sends_cases b xs (i+1) (tot+x) with ⟨e,hl⟩ | ⟨j,h1,h2,h3,h4,h5⟩
   ·refine .inl ⟨by simp only[sends,h,if_false,e],λj h1 h2=>?_⟩
    cases j with
    | zero=>omega
    | succ j =>
     rw[List.take_succ_cons,List.sum_cons]
     cases j with
     | zero=>simp;omega
     | succ j=>have:=hl (j+1) (by omega) (by simp at h2;omega);omega
   ·refine .inr ⟨j+1,by omega,by simp;omega,?_,λk hk1 hk2=>?_,?_⟩
    ·rw[List.take_succ_cons,List.sum_cons];omega
    ·cases k with
     | zero=>omega
     | succ k =>
      rw[List.take_succ_cons,List.sum_cons]
      cases k with
      | zero=>simp;omega
      | succ k=>have:=h4 (k+1) (by omega) (by omega);omega
    ·simp only[sends,h,if_false,h5,List.drop_succ_cons]
     rw[show i+1+j=i+(j+1) by omega]
def cnt (b:Int)(tot:Int)(xs:List Int):Nat:=(sends b 0 tot xs).length
theorem len_any (b:Int):∀ (xs:List Int) (i j:Nat) (tot:Int),(sends b i tot xs).length=(sends b j tot xs).length
 | [],_,_,_=>rfl
 | x::xs,i,j,tot=>by
  simp only[sends]
  split
  ·simp only[List.length_cons];rw[len_any b xs (i+1) (j+1) 0]
  ·exact len_any b xs (i+1) (j+1) (tot+x)
theorem cnt_cons (b tot x:Int)(xs:List Int):cnt b tot (x::xs)=if tot+x>=b then cnt b 0 xs+1 else cnt b (tot+x) xs:=by
 unfold cnt
 simp only[sends]
 split
 ·rw[List.length_cons,len_any b xs 1 0]
 ·rw[len_any b xs 1 0]
theorem cnt_both (b:Int):∀ (xs:List Int),(∀ x∈xs,0<=x)->(∀ t u,0<=t->t<=u->cnt b t xs<=cnt b u xs)/\∀ t,0<=t->cnt b t xs<=cnt b 0 xs+1
 | [],_=>⟨λt u _ _=>by simp[cnt,sends],λt _=>by simp[cnt,sends]⟩
 | x::xs,h=>by
  obtain⟨h1,h2⟩:=cnt_both b xs λy hy=>h y (List.mem_cons_of_mem _ hy)
  have hx:=h x List.mem_cons_self
  have h3:∀ t,0<=t->cnt b 0 xs<=cnt b t (x::xs):=λt ht=>by
   rw[cnt_cons];split
   ·omega
   ·exact h1 0 (t+x) (Int.le_refl 0) (by omega)
  refine⟨λt u ht htu=>?_,λt ht=>?_⟩
  ·rw[cnt_cons,cnt_cons]
   by_cases c1:t+x>=b
   ·rw[if_pos c1,if_pos (by omega)];exact Nat.le_refl _
   ·rw[if_neg c1]
    split
    ·exact h2 (t+x) (by omega)
    ·exact h1 _ _ (by omega) (by omega)
  ·have h4:=h3 0 (Int.le_refl 0)
   rw[cnt_cons b t]
   split
   ·omega
   ·have:=h2 (t+x) (by omega);omega
theorem cnt_tail {b:Int}{x:Int}{xs:List Int}(h:∀ y∈x::xs,0<=y):cnt b 0 xs<=cnt b 0 (x::xs):=by
 obtain⟨h1,h2⟩:=cnt_both b xs λy hy=>h y (List.mem_cons_of_mem _ hy)
 have hx:=h x List.mem_cons_self
 rw[cnt_cons];split
 ·omega
 ·exact h1 0 (0+x) (Int.le_refl 0) (by omega)
def G (b:Int)(ns:List Int)(k:Nat):Nat:=cnt b 0 (ns.drop k)
theorem G_mono {b:Int}{ns:List Int}(h:∀ n∈ns,0<=n):∀ (d k:Nat),G b ns (k+d)<=G b ns k
 | 0,k=>Nat.le_refl _
 | d+1,k=>by
  refine Nat.le_trans ?_ (G_mono h d k)
  unfold G
  by_cases hl:k+d<ns.length
  ·rw[List.drop_eq_getElem_cons hl]
   exact cnt_tail λy hy=>h y (by
    have:y∈ns.drop (k+d):=by rw[List.drop_eq_getElem_cons hl];exact hy
    exact List.mem_of_mem_drop this)
  ·rw[List.drop_eq_nil_of_le (by omega)];simp[cnt,sends]
theorem seg_take {ns:List Int}{k j:Nat}:((ns.drop k).take j).sum=seg ns k (k+j):=by
 unfold seg;rw[List.drop_take];congr 2;omega
theorem G_cases (b:Int)(ns:List Int)(k:Nat)(hk:k<=ns.length) :
  (G b ns k=0/\sends b k 0 (ns.drop k)=[]/\∀ e,k<e->e<=ns.length->seg ns k e<b) \/
  ∃ e,k<e/\e<=ns.length/\seg ns k e>=b/\(∀ j,k<j->j<e->seg ns k j<b)/\G b ns k=G b ns e+1/\sends b k 0 (ns.drop k)=(e:Int)::sends b e 0 (ns.drop e):=by
 have hlen:(ns.drop k).length=ns.length-k:=List.length_drop
 rcases sends_cases b (ns.drop k) k 0 with ⟨e,h⟩ | ⟨j,h1,h2,h3,h4,h5⟩
 ·refine .inl ⟨?_,e,λe' h1 h2=>?_⟩
  ·unfold G cnt;rw[len_any b _ 0 k,e];rfl
  ·have:=h (e'-k) (by omega) (by omega)
   rw[seg_take,show k+(e'-k)=e' by omega] at this;omega
 ·rw[seg_take] at h3
  refine .inr ⟨k+j,by omega,by omega,by omega,λi h6 h7=>?_,?_,?_⟩
  ·have:=h4 (i-k) (by omega) (by omega)
   rw[seg_take,show k+(i-k)=i by omega] at this;omega
  ·unfold G cnt;rw[len_any b _ 0 k,h5,List.length_cons,List.drop_drop,len_any b _ (k+j) 0]
  ·rw[h5,List.drop_drop]
def M (b:Int)(ns:List Int)(k:Nat):Option Int:=if k=ns.length then some 0 else if G b ns k=0 then none else some ((G b ns k:Nat):Int)
structure Top (b:Int)(ns:List Int)(k hi:Nat)(best:Option Int):Prop where
 ub:∀ e,k<e->e<=hi->seg ns k e>=b->∀ v,M b ns e=some v->∃ w,best=some w/\v+1<=w
 ex:∀ w,best=some w->∃ e,k<e/\e<=hi/\seg ns k e>=b/\M b ns e=some (w-1)
end M10
namespace M11
open M5 M10
def pick (w:Nat)(x y:Int):Int:=if w=0 then min x y else max x y
def both (w:Nat)(x y:Int):Int:=if w=0 then max x y else min x y
def Le (w:Nat)(x y:Int):Prop:=if w=0 then x<=y else y<=x
theorem Le.refl (w:Nat)(x:Int):Le w x x:=by unfold Le;split<;>omega
theorem Le.trans {w:Nat}{x y z:Int}(a:Le w x y)(b:Le w y z):Le w x z:=by unfold Le at *;split at a<;>simp_all<;>omega
theorem pick_or (w:Nat)(x y:Int):pick w x y=x\/pick w x y=y:=by unfold pick;split<;>omega
theorem pick_l (w:Nat)(x y:Int):Le w (pick w x y) x:=by unfold pick Le;split<;>omega
theorem pick_r (w:Nat)(x y:Int):Le w (pick w x y) y:=by unfold pick Le;split<;>omega
structure IsBest (w:Nat)(l:List Int)(v:Int):Prop where
 mem:v∈l
 le:∀ a∈l,Le w v a
def lbest (w:Nat):List Int->Option Int
 | []=>none
 | a::l=>some (l.foldl (pick w) a)
theorem fold_best (w:Nat):∀ (l:List Int) (a:Int),IsBest w (a::l) (l.foldl (pick w) a)
 | [],a=>⟨by simp,λx hx=>by simp at hx;subst hx;exact Le.refl w _⟩
 | b::l,a=>by
  have ih:=fold_best w l (pick w a b)
  rw[List.foldl_cons]
  refine⟨?_,λx hx=>?_⟩
  ·rcases List.mem_cons.mp ih.mem with h | h
   ·rw[h];rcases pick_or w a b with e | e<;>rw[e]<;>simp
   ·exact List.mem_cons_of_mem _ (List.mem_cons_of_mem _ h)
  ·have h0:=ih.le _ List.mem_cons_self
   rcases List.mem_cons.mp hx with rfl | hx
   ·exact h0.trans (pick_l w _ _)
   ·rcases List.mem_cons.mp hx with rfl | hx
    ·exact h0.trans (pick_r w _ _)
    ·exact ih.le x (List.mem_cons_of_mem _ hx)
theorem lbest_is {w:Nat}{l:List Int}{v:Int}(h:lbest w l=some v):IsBest w l v:=by
 cases l with
 | nil=>cases h
 | cons a l=>have:=fold_best w l a;simp only[lbest,Option.some.injEq] at h;rw[<- h];exact this
def T (w:Nat)(ns:List Int):Nat->Nat->Option Int
 | 0,i=>if i<ns.length then some (seg ns i ns.length) else none
 | k+1,i=>lbest w ((List.range (ns.length-(k+1)-i)).map λj=>both w (seg ns i (i+1+j)) ((T w ns k (i+1+j)).getD 0))
theorem T_some {w:Nat}{ns:List Int}:∀ {k i:Nat},i+k<ns.length->∃ v,T w ns k i=some v
 | 0,i,h=>⟨_,by simp only[T];rw[if_pos (by omega)]⟩
 | k+1,i,h=>by
  simp only[T]
  obtain⟨n,hn⟩:∃ n,ns.length-(k+1)-i=n+1:=⟨ns.length-(k+1)-i-1,by omega⟩
  rw[hn,List.range_succ_eq_map,List.map_cons]
  exact⟨_,rfl⟩
theorem T_mem {w:Nat}{ns:List Int}{k i:Nat}{t:Int}(h:T w ns (k+1) i=some t):(∃ e v,i<e/\e+k<ns.length/\T w ns k e=some v/\t=both w (seg ns i e) v)/\∀ e v,i<e->e+k<ns.length->T w ns k e=some v->Le w t (both w (seg ns i e) v):=by
 have hb:=lbest_is h
 refine⟨?_,λe v h1 h2 hv=>?_⟩
 ·obtain⟨j,hj,e⟩:=List.mem_map.mp hb.mem
  have hj':=List.mem_range.mp hj
  obtain⟨v,hv⟩:=T_some (w:=w) (ns:=ns) (k:=k) (i:=i+1+j) (by omega)
  refine⟨i+1+j,v,by omega,by omega,hv,?_⟩
  rw[<- e,hv];rfl
 ·refine hb.le _ (List.mem_map.mpr ⟨e-(i+1),List.mem_range.mpr (by omega),?_⟩)
  rw[show i+1+(e-(i+1))=e by omega,hv];rfl
theorem G_le {b:Int}{ns:List Int}{i:Nat}:G b ns i<=ns.length-i:=by
 have:=sends_len b (ns.drop i) 0 0
 rw[List.length_drop] at this;exact this
theorem seg_split {ns:List Int}{i e n:Nat}(h1:i<=e)(h2:e<=n)(h3:n<=ns.length):seg ns i n=seg ns i e+seg ns e n:=by
 unfold seg
 have:(ns.take n).drop i=(ns.take e).drop i++(ns.take n).drop e:=by
  have h:ns.take n=ns.take e++(ns.take n).drop e:=take_split h2
  conv=>lhs;rw[h]
  rw[List.drop_append_of_le_length (by rw[List.length_take];omega)]
 rw[this,List.sum_append]
theorem seg_nn {ns:List Int}(hnn:∀ n∈ns,0<=n)(i e:Nat):0<=seg ns i e:=sum_nn _ λy hy=>hnn y (List.mem_of_mem_take (List.mem_of_mem_drop hy))
theorem T_iff {ns:List Int}(hnn:∀ n∈ns,0<=n)(b:Int):∀ {k i:Nat} {t:Int},i+k<ns.length->T 1 ns k i=some t->(b<=t↔k+1<=G b ns i)
 | 0,i,t,h,ht=>by
  simp only[T] at ht
  rw[if_pos (by omega)] at ht
  have ht:=Option.some.inj ht
  rcases G_cases b ns i (by omega) with ⟨g0,_,hall⟩ | ⟨e,h1,h2,h3,h4,h5,_⟩
  ·have:=hall ns.length (by omega) (Nat.le_refl _)
   constructor<;>intro z<;>omega
  ·have h6:=seg_split (ns:=ns) (Nat.le_of_lt h1) h2 (Nat.le_refl _)
   have h7:=seg_nn hnn e ns.length
   constructor<;>intro z<;>omega
 | k+1,i,t,h,ht=>by
  obtain⟨⟨e,v,he1,he2,hv,htv⟩,hle⟩:=T_mem ht
  constructor
  ·intro hb
   have hs:b<=seg ns i e/\b<=v:=by
    rw[htv] at hb;unfold both at hb;rw[if_neg (by decide)] at hb;omega
   have hG:=(T_iff hnn b he2 hv).mp hs.2
   rcases G_cases b ns i (by omega) with ⟨g0,_,hall⟩ | ⟨e0,h1,h2,h3,h4,h5,_⟩
   ·have:=hall e he1 (by omega);omega
   ·have hee:e0<=e:=by
     refine Classical.byContradiction λz=>?_
     have:=h4 e he1 (by omega);omega
    have hm:=G_mono (b:=b) hnn (e-e0) e0
    rw[show e0+(e-e0)=e by omega] at hm
    omega
  ·intro hG
   rcases G_cases b ns i (by omega) with ⟨g0,_,hall⟩ | ⟨e0,h1,h2,h3,h4,h5,_⟩
   ·omega
   ·have hl:=G_le (b:=b) (ns:=ns) (i:=e0)
    have he0:e0+k<ns.length:=by omega
    obtain⟨v0,hv0⟩:=T_some (w:=1) he0
    have h6:=(T_iff hnn b he0 hv0).mpr (by omega)
    have h7:=hle e0 v0 h1 he0 hv0
    unfold Le both at h7
    rw[if_neg (by decide),if_neg (by decide)] at h7
    omega
theorem G_sum {ns:List Int}(hnn:∀ n∈ns,0<=n){b:Int}(hb:0<=b):∀ (d i:Nat),ns.length-i=d->i<=ns.length->b*(G b ns i:Int)<=seg ns i ns.length:=by
 intro d
 induction d using Nat.strongRecOn with
 | ind d ih =>
  intro i hd hi
  rcases G_cases b ns i hi with ⟨g0,_,_⟩ | ⟨e,h1,h2,h3,h4,h5,_⟩
  ·rw[g0];have:=seg_nn hnn i ns.length;simp;omega
  ·have:=ih (ns.length-e) (by omega) e rfl h2
   rw[h5,seg_split (ns:=ns) (Nat.le_of_lt h1) h2 (Nat.le_refl _)]
   push_cast
   rw[Int.mul_add,Int.mul_one]
   omega
theorem cnt_zero:∀ (xs:List Int) (t:Int),(∀ x∈xs,0<=x)->0<=t->cnt 0 t xs=xs.length
 | [],t,_,_=>rfl
 | x::xs,t,h,ht=>by
  have hx:=h x List.mem_cons_self
  rw[cnt_cons,if_pos (by omega),cnt_zero xs 0 (λy hy=>h y (List.mem_cons_of_mem _ hy)) (Int.le_refl 0),List.length_cons]
theorem G_zero {ns:List Int}(hnn:∀ n∈ns,0<=n):G 0 ns 0=ns.length:=by
 unfold G;rw[List.drop_zero];exact cnt_zero ns 0 hnn (Int.le_refl 0)
end M11
namespace M7
open M5 M10 M11
theorem gp_le {b:Int}:∀ (n:Nat) (ps:List (List Int)),ps.length=n->(∀ p∈ps,∀ x∈p,0<=x)->(∀ p∈ps,p.sum<=b)->gp b ps.flatten<=ps.length
 | 0,ps,h,_,_=>by
  have:ps=[]:=List.length_eq_zero_iff.mp h
  subst this;simp[gp]
 | n+1,ps,h,h0,h1=>by
  have hne:ps≠[]:=λz=>by rw[z] at h;cases h
  have e:ps=ps.dropLast++[ps.getLast hne]:=(List.dropLast_concat_getLast hne).symm
  have hl:ps.dropLast.length=n:=by rw[List.length_dropLast,h];rfl
  have hm:∀ p∈ps.dropLast,p∈ps:=λp hp=>by rw[e];exact List.mem_append_left _ hp
  have ih:=gp_le n ps.dropLast hl (λp hp=>h0 p (hm p hp)) λp hp=>h1 p (hm p hp)
  have hlast:=List.getLast_mem hne
  have:=gp_add (b:=b) (xs:=ps.dropLast.flatten) (h0 _ hlast) (h1 _ hlast)
  rw[e,List.flatten_append,List.flatten_singleton,List.length_append]
  simp only[List.length_cons,List.length_nil]
  omega
theorem decomp {b:Int}:∀ (n:Nat) (xs:List Int),xs.length=n->(∀ x∈xs,0<=x)->(∀ x∈xs,x<=b)->∃ ps:List (List Int),ps.flatten=xs/\(∀ p∈ps,p≠[]/\p.sum<=b)/\ps.length=gp b xs:=by
 intro n
 induction n using Nat.strongRecOn with
 | ind n ih =>
  intro xs hl h0 h1
  by_cases hx:xs=[]
  ·subst hx;exact⟨[],rfl,by simp,by simp[gp]⟩
  ·obtain⟨pre,sg,e1,e2,e3,e4,e5⟩:=gp_last xs.length xs rfl hx h0 h1
   have hs:0<sg.length:=List.length_pos_iff.mpr e2
   have hpl:pre.length<n:=by rw[<- hl,e1,List.length_append];omega
   obtain⟨ps,p1,p2,p3⟩:=ih pre.length hpl pre rfl (λx hx=>h0 x (by rw[e1];exact List.mem_append_left _ hx)) λx hx=>h1 x (by rw[e1];exact List.mem_append_left _ hx)
   refine⟨ps++[sg],by rw[List.flatten_append,p1,List.flatten_singleton,<- e1],λp hp=>?_,by rw[List.length_append,p3,e5];rfl⟩
   rcases List.mem_append.mp hp with hp | hp
   ·exact p2 p hp
   ·have:p=sg:=by simpa using hp
    subst this;exact⟨e2,by omega⟩
theorem gp_len {b:Int}{xs:List Int}(h:∀ x∈xs,x<=b):gp b xs<=xs.length:=by
 unfold gp
 split
 ·omega
 ·rename_i hne
  cases xs with
  | nil=>exact absurd rfl hne
  | cons x xs =>
   have hx:=h x List.mem_cons_self
   have c:¬ (0+x > b):=by omega
   have:=lcut_len b xs (0+1) (0+x)
   simp only[lcut,c,if_false,List.length_cons]
   omega
theorem nil_sum {b:Int}:∀ (xs:List Int) (i:Nat) (tot:Int),tot<=b->lcut b i tot xs=[]->tot+xs.sum<=b
 | [],_,tot,h,_=>by simpa using h
 | x::xs,i,tot,h,hl=>by
  simp only[lcut] at hl
  split at hl
  ·cases hl
  ·rename_i c
   have:=nil_sum xs (i+1) (tot+x) (by omega) hl
   rw[List.sum_cons];omega
theorem drop_seg {ns:List Int}{i e:Nat}(h:i<=e):ns.drop i=(ns.take e).drop i++ns.drop e:=by
 by_cases he:e<=ns.length
 ·conv=>lhs;rw[<- List.take_append_drop e ns]
  rw[List.drop_append_of_le_length (by rw[List.length_take];omega)]
 ·rw[List.take_of_length_le (by omega),List.drop_eq_nil_of_le (as:=ns) (i:=e) (by omega),List.append_nil]
theorem seg_all {ns:List Int}{i:Nat}:seg ns i ns.length=(ns.drop i).sum:=by unfold seg;rw[List.take_length]
theorem T_iff0 {ns:List Int}(hnn:∀ n∈ns,0<=n)(b:Int):∀ {k i:Nat} {t:Int},i+k<ns.length->T 0 ns k i=some t->(t<=b↔(∀ x∈ns.drop i,x<=b)/\gp b (ns.drop i)<=k+1)
 | 0,i,t,h,ht=>by
  simp only[T] at ht
  rw[if_pos (by omega)] at ht
  have ht:=Option.some.inj ht
  rw[seg_all] at ht
  have hd:∀ x∈ns.drop i,0<=x:=λx hx=>hnn x (List.mem_of_mem_drop hx)
  have hne:ns.drop i≠[]:=λz=>by have:=congrArg List.length z;rw[List.length_drop,List.length_nil] at this;omega
  constructor
  ·intro hb
   refine⟨λx hx=>Int.le_trans (mem_le_sum hd x hx) (by omega),?_⟩
   unfold gp
   rw[if_neg hne,lcut_nil _ 0 0 hd (by omega)];simp
  ·rintro⟨ha,hg⟩
   unfold gp at hg
   rw[if_neg hne] at hg
   have hl:lcut b 0 0 (ns.drop i)=[]:=List.length_eq_zero_iff.mp (by omega)
   have h0:(0:Int)<=b:=by
    cases hx:ns.drop i with
    | nil=>exact absurd hx hne
    | cons x xs=>have h1:=ha x (by rw[hx];simp);have h2:=hd x (by rw[hx];simp);omega
   have:=nil_sum _ 0 0 h0 hl
   omega
 | k+1,i,t,h,ht=>by
  obtain⟨⟨e,v,he1,he2,hv,htv⟩,hle⟩:=T_mem ht
  have hd:∀ x∈ns.drop i,0<=x:=λx hx=>hnn x (List.mem_of_mem_drop hx)
  constructor
  ·intro hb
   have hs:seg ns i e<=b/\v<=b:=by
    rw[htv] at hb;unfold both at hb;rw[if_pos rfl] at hb;omega
   obtain⟨ha,hg⟩:=(T_iff0 hnn b he2 hv).mp hs.2
   have hsplit:=drop_seg (ns:=ns) (Nat.le_of_lt he1)
   have hsn:∀ x∈(ns.take e).drop i,0<=x:=λx hx=>hnn x (List.mem_of_mem_take (List.mem_of_mem_drop hx))
   have hall:∀ x∈ns.drop i,x<=b:=λx hx=>by
    rw[hsplit] at hx
    rcases List.mem_append.mp hx with hx | hx
    ·exact Int.le_trans (mem_le_sum hsn x hx) hs.1
    ·exact ha x hx
   refine⟨hall,?_⟩
   obtain⟨ps,p1,p2,p3⟩:=decomp (b:=b) _ (ns.drop e) rfl (λx hx=>hnn x (List.mem_of_mem_drop hx)) ha
   have:=gp_le (b:=b) _ ((ns.take e).drop i::ps) rfl (λp hp x hx=>by
    rcases List.mem_cons.mp hp with rfl | hp
    ·exact hsn x hx
    ·refine hnn x (List.mem_of_mem_drop (i:=e) ?_)
     rw[<- p1];exact List.mem_flatten.mpr ⟨p,hp,hx⟩) λp hp=>by
    rcases List.mem_cons.mp hp with rfl | hp
    ·exact hs.1
    ·exact(p2 p hp).2
   rw[List.flatten_cons,p1,<- hsplit,List.length_cons,p3] at this
   omega
  ·rintro⟨ha,hg⟩
   obtain⟨ps,p1,p2,p3⟩:=decomp (b:=b) _ (ns.drop i) rfl hd ha
   cases ps with
   | nil =>
    have:=congrArg List.length p1
    rw[List.flatten_nil,List.length_nil,List.length_drop] at this;omega
   | cons p ps =>
    rw[List.flatten_cons] at p1
    rw[List.length_cons] at p3
    obtain⟨hpne,hpb⟩:=p2 p List.mem_cons_self
    have hp1:0<p.length:=List.length_pos_iff.mpr hpne
    have hlen:p.length+ps.flatten.length=ns.length-i:=by
     have:=congrArg List.length p1
     rw[List.length_append,List.length_drop] at this;exact this
    let e0:=min (i+p.length) (ns.length-k-1)
    have he0:e0<=i+p.length/\e0<=ns.length-k-1/\i<e0:=by simp only[e0];omega
    have hseg0:seg ns i (i+p.length)=p.sum:=by
     unfold seg
     rw[List.drop_take,show i+p.length-i=p.length by omega,<- p1,List.take_left' rfl]
    have hsegle:seg ns i e0<=b:=by
     have h1:=seg_split (ns:=ns) (i:=i) (e:=e0) (n:=i+p.length) (by omega) he0.1 (by omega)
     have h2:=seg_nn hnn e0 (i+p.length)
     omega
    obtain⟨v0,hv0⟩:=T_some (w:=0) (ns:=ns) (k:=k) (i:=e0) (by omega)
    have hall0:∀ x∈ns.drop e0,x<=b:=λx hx=>ha x (by rw[drop_seg (ns:=ns) (Nat.le_of_lt he0.2.2)];exact List.mem_append_right _ hx)
    have hg0:gp b (ns.drop e0)<=k+1:=by
     by_cases c:i+p.length<=ns.length-k-1
     ·have ee:e0=i+p.length:=by simp only[e0];omega
      have ed:ns.drop e0=ps.flatten:=by
       rw[ee,<- List.drop_drop,<- p1,List.drop_left' rfl]
      rw[ed]
      have:=gp_le (b:=b) _ ps rfl (λq hq x hx=>hd x (by rw[<- p1];exact List.mem_append_right _ (List.mem_flatten.mpr ⟨q,hq,hx⟩))) λq hq=>(p2 q (List.mem_cons_of_mem _ hq)).2
      omega
     ·have ee:e0=ns.length-k-1:=by simp only[e0];omega
      have hgl:=gp_len hall0
      rw[List.length_drop] at hgl
      omega
    have h6:=(T_iff0 hnn b (by omega) hv0).mpr ⟨hall0,hg0⟩
    have h7:=hle e0 v0 he0.2.2 (by omega) hv0
    unfold Le both at h7
    rw[if_pos rfl,if_pos rfl] at h7
    omega
structure Back (ns:List Int)(t:Int)(m l x:Nat):Prop where
 le:x+l<=ns.length
 ge:1<=l->m-l<=x
 at0:l=0->x=ns.length
 fit:∀ j,l=j+1->∃ v,T 0 ns j x=some v/\v<=t
 no:∀ j,l=j+1->∀ i,m-l<=i->i<x->∀ v,T 0 ns j i=some v->t<v
theorem Back.start (ns:List Int)(t:Int)(m:Nat):Back ns t m 0 ns.length:=⟨by omega,λh=>by omega,λ_=>rfl,λj h=>by omega,λj h=>by omega⟩
theorem seg_mono {ns:List Int}(hnn:∀ n∈ns,0<=n){i j e:Nat}(h1:i<=j)(h2:j<=e)(h3:e<=ns.length):seg ns j e<=seg ns i e:=by
 have:=seg_split (ns:=ns) h1 h2 h3
 have:=seg_nn hnn i j
 omega
theorem seg_mono' {ns:List Int}(hnn:∀ n∈ns,0<=n){i e f:Nat}(h1:i<=e)(h2:e<=f)(h3:f<=ns.length):seg ns i e<=seg ns i f:=by
 have:=seg_split (ns:=ns) h1 h2 h3
 have:=seg_nn hnn e f
 omega
theorem Back.step {ns:List Int}(hnn:∀ n∈ns,0<=n){t:Int}{m l x y:Nat}(h:Back ns t m l x)(hl:l+1<m)(hm:m<=ns.length)(h1:m-l-1<=y)(h2:y<x)(h3:seg ns y x<=t)(h4:y=m-l-1\/(1<=y/\t<seg ns (y-1) x)):Back ns t m (l+1) y:=by
 have hx:=h.le
 refine⟨by omega,λ_=>by omega,λz=>by omega,λj hj=>?_,λj hj i hi1 hi2 v hv=>?_⟩
 ·have:j=l:=by omega
  subst this
  cases j with
  | zero =>
   have:=h.at0 rfl
   subst this
   exact⟨seg ns y ns.length,by simp only[T];rw[if_pos h2],h3⟩
  | succ j =>
   obtain⟨v,hv,hvt⟩:=h.fit j rfl
   obtain⟨u,hu⟩:=T_some (w:=0) (ns:=ns) (k:=j+1) (i:=y) (by omega)
   have:=(T_mem hu).2 x v h2 (by omega) hv
   unfold Le both at this
   rw[if_pos rfl,if_pos rfl] at this
   exact⟨u,hu,by omega⟩
 ·have:j=l:=by omega
  subst this
  have hy:1<=y/\t<seg ns (y-1) x:=by
   rcases h4 with z | z
   ·omega
   ·exact z
  have hge:seg ns (y-1) x<=seg ns i x:=seg_mono hnn (by omega) (by omega) (by omega)
  cases j with
  | zero =>
   have:=h.at0 rfl
   subst this
   simp only[T] at hv
   rw[if_pos (by omega)] at hv
   have:=Option.some.inj hv
   omega
  | succ j =>
   refine Classical.byContradiction λhn=>?_
   obtain⟨⟨e,u,he1,he2,hu,hvu⟩,_⟩:=T_mem hv
   unfold both at hvu
   rw[if_pos rfl] at hvu
   have hxe:x<=e:=by
    refine Classical.byContradiction λz=>?_
    have:=h.no j rfl e (by omega) (by omega) u hu
    omega
   have:=seg_mono' hnn (i:=i) (e:=x) (f:=e) (by omega) hxe (by omega)
   omega
theorem Back.top {ns:List Int}(hnn:∀ n∈ns,0<=n){t:Int}{m x:Nat}(h:Back ns t m (m-1) x)(hm:2<=m)(hmn:m<=ns.length)(hT:T 0 ns (m-1) 0=some t):0<x/\seg ns 0 x<=t:=by
 obtain⟨j,hj⟩:∃ j,m-1=j+1:=⟨m-2,by omega⟩
 have hg:=h.ge (by omega)
 rw[hj] at hT
 obtain⟨⟨e,u,he1,he2,hu,hvu⟩,_⟩:=T_mem hT
 unfold both at hvu
 rw[if_pos rfl] at hvu
 have hxe:x<=e:=by
  refine Classical.byContradiction λz=>?_
  have:=h.no j hj e (by omega) (by omega) u hu
  omega
 have:=seg_mono' hnn (i:=0) (e:=x) (f:=e) (by omega) hxe (by omega)
 exact⟨by omega,by omega⟩
end M7
namespace M25
def S (ns:List Int)(i:Nat):Int:=(ns.take i).sum
theorem S_zero (ns:List Int):S ns 0=0:=by simp[S]
theorem S_succ {ns:List Int}{i:Nat}{x:Int}(h:ns[i]?=some x):S ns (i+1)=S ns i+x:=by
 unfold S
 rw[List.take_add_one,h,List.sum_append];simp
theorem S_bd {ns:List Int}(h0:∀ n∈ns,0<=n)(h1:∀ n∈ns,n<=1000000000000):∀ i,0<=S ns i/\S ns i<=1000000000000*i
 | 0=>by rw[S_zero];omega
 | i+1=>by
  have ih:=S_bd h0 h1 i
  cases e:ns[i]? with
  | some x =>
   rw[S_succ e]
   have:=h0 x (List.mem_of_getElem? e);have:=h1 x (List.mem_of_getElem? e)
   omega
  | none =>
   have hl:ns.length<=i:=List.getElem?_eq_none_iff.mp e
   have:S ns (i+1)=S ns i:=by unfold S;rw[List.take_of_length_le (by omega),List.take_of_length_le hl]
   rw[this];omega
def pre (ns:List Int)(k:Nat):List Int:=(List.range k).map (S ns)
theorem pre_succ (ns:List Int)(k:Nat):pre ns (k+1)=pre ns k++[S ns k]:=by unfold pre;rw[List.range_succ,List.map_append];rfl
theorem pre_len (ns:List Int)(k:Nat):(pre ns k).length=k:=by simp[pre]
theorem pre_at {ns:List Int}{k i:Nat}(h:i<k):(pre ns k)[i]?=some (S ns i):=by
 unfold pre;rw[List.getElem?_map,List.getElem?_range h];rfl
def Path (w:Nat->Nat->Int):Nat->Nat->Nat->Int->Prop
 | 0,b,e,c=>b=e/\c=0
 | k+1,b,e,c=>∃ m c',b<m/\Path w k m e c'/\c=w b m+c'
section
variable {w:Nat->Nat->Int}
theorem path_le:∀ {k b e c},Path w k b e c->b+k<=e
 | 0,b,e,c,h=>by have:=h.1;omega
 | k+1,b,e,c,⟨m,c',h1,h2,h3⟩=>by have:=path_le h2;omega
theorem path_snoc:∀ {k b m c e},Path w k b m c->m<e->Path w (k+1) b e (c+w m e)
 | 0,b,m,c,e,⟨h1,h2⟩,h=>⟨e,0,by omega,⟨rfl,rfl⟩,by subst h1;subst h2;omega⟩
 | k+1,b,m,c,e,⟨m1,c1,h1,h2,h3⟩,h=>⟨m1,c1+w m e,h1,path_snoc h2 h,by omega⟩
def Least (w:Nat->Nat->Int)(k b e:Nat)(v:Int):Prop:=Path w k b e v/\∀ c,Path w k b e c->v<=c
theorem Least.uniq {k b e:Nat}{u v:Int}(h1:Least w k b e u)(h2:Least w k b e v):u=v:=Int.le_antisymm (h1.2 v h2.1) (h2.2 u h1.1)
theorem path_one {b e:Nat}{c:Int}:Path w 1 b e c↔b<e/\c=w b e:=by
 constructor
 ·rintro⟨m,c',h1,⟨h2,h3⟩,h4⟩
  subst h2;subst h3;exact⟨h1,by omega⟩
 ·rintro⟨h1,h2⟩
  exact⟨e,0,h1,⟨rfl,rfl⟩,by omega⟩
theorem least_one {b e:Nat}(h:b<e):Least w 1 b e (w b e):=⟨path_one.mpr ⟨h,rfl⟩,λc hc=>by rw[(path_one.mp hc).2];exact Int.le_refl _⟩
theorem least_back {k b e:Nat}{M:Int}(f:Nat->Int)(hf:∀ m,b<m->m+k<=e->Least w k m e (f m))(hm:∃ m,b<m/\m+k<=e/\M=w b m+f m)(hmin:∀ m,b<m->m+k<=e->M<=w b m+f m):Least w (k+1) b e M:=by
 obtain⟨m,h1,h2,rfl⟩:=hm
 refine⟨⟨m,f m,h1,(hf m h1 h2).1,rfl⟩,?_⟩
 rintro c ⟨m',c',g1,g2,rfl⟩
 have hl:=path_le g2
 have:=hmin m' g1 hl
 have:=(hf m' g1 hl).2 c' g2
 omega
end
def sq (ns:List Int)(b e:Nat):Int:=(S ns e-S ns b) ^ 2
def RowOk (ns:List Int)(k:Nat)(r:List Int):Prop:=r.length+k=ns.length+1/\∀ b v,r[b]?=some v->Least (sq ns) k b ns.length v
theorem row_one {ns:List Int}:RowOk ns 1 ((List.range ns.length).map λb=>sq ns b ns.length):=by
 refine⟨by simp,λb v h=>?_⟩
 rw[List.getElem?_map] at h
 by_cases hb:b<ns.length
 ·rw[List.getElem?_range hb] at h;cases h;exact least_one hb
 ·rw[List.getElem?_eq_none (by simpa using hb)] at h;cases h
theorem getD_some {r:List Int}{t:Nat}(h:t<r.length):r[t]?=some (r.getD t 0):=by rw[List.getD_eq_getElem?_getD,List.getElem?_eq_getElem h];rfl
structure Some_ (ns l:List Int)(i t upto:Nat)(vs:List Int):Prop where
 a:∀ v∈vs,∃ m,i<=m/\m<upto/\0<=l.getD m 0/\v=l.getD m 0+sq ns m t
 b:∀ m,i<=m->m<upto->0<=l.getD m 0->l.getD m 0+sq ns m t∈vs
end M25
namespace M25
section
variable {w:Nat->Nat->Int}
def Hit (w:Nat->Nat->Int)(n k b e:Nat):Prop:=∃ v u,Least w (k-1) e n v/\Least w k b n u/\w b e+v=u
def Step (w:Nat->Nat->Int)(n k b e:Nat):Prop:=b<e/\Hit w n k b e/\∀ e',b<e'->e'<e->¬ Hit w n k b e'
inductive Chain (w:Nat->Nat->Int)(n m:Nat):Nat->List Nat->Nat->Prop where
 | nil:Chain w n m 0 [] 0
 | snoc {i b e:Nat} {cs:List Nat} (h:Chain w n m i cs b) (s:Step w n (m-i) b e):Chain w n m (i+1) (cs++[e]) e
theorem Chain.len {n m:Nat}:∀ {i b:Nat} {cs:List Nat},Chain w n m i cs b->cs.length=i
 | 0,_,_,.nil=>rfl
 | i+1,_,_,.snoc h s=>by rw[List.length_append,h.len];rfl
theorem Hit.le {n k b e:Nat}(h:Hit w n k b e):e+(k-1)<=n:=by obtain⟨v,u,h1,_⟩:=h;exact path_le h1.1
theorem hit_ex {n k b:Nat}{u:Int}(hk:2<=k)(h:Least w k b n u):∃ e,b<e/\Hit w n k b e:=by
 obtain⟨k,rfl⟩:∃ j,k=j+1:=⟨k-1,by omega⟩
 obtain⟨m,c,h1,h2,h3⟩:=h.1
 refine⟨m,h1,c,u,⟨h2,λc' h'=>?_⟩,h,h3.symm⟩
 have:=h.2 (w b m+c') ⟨m,c',h1,h',rfl⟩
 omega
theorem hit_iff {n k b e:Nat}{u v:Int}(hv:Least w (k-1) e n v)(hu:Least w k b n u):Hit w n k b e↔w b e+v=u:=by
 constructor
 ·rintro⟨v',u',h1,h2,h3⟩
  rw[h1.uniq hv,h2.uniq hu] at h3;exact h3
 ·intro h;exact⟨v,u,hv,hu,h⟩
theorem no_less {n k b e:Nat}{u v:Int}(hk:1<=k)(hb:b<e)(hv:Least w (k-1) e n v)(hu:Least w k b n u):u<=w b e+v:=by
 obtain⟨k,rfl⟩:∃ j,k=j+1:=⟨k-1,by omega⟩
 exact hu.2 _ ⟨e,v,hb,hv.1,rfl⟩
theorem hit_before {n k b e t:Nat}(h:∀ e',b<e'->e'<t->¬ Hit w n k b e')(hh:Hit w n k b e)(hb:b<e):t<=e:=by
 rcases Nat.lt_or_ge e t with z | z
 ·exact absurd hh (h e hb z)
 ·exact z
end
theorem S_rev {ns:List Int}{i:Nat}(h:i<=ns.length):S ns.reverse i=S ns ns.length-S ns (ns.length-i):=by
 unfold S
 have e:ns.reverse.take i=(ns.drop (ns.length-i)).reverse:=by rw[List.take_reverse]
 rw[e,List.sum_reverse]
 have:=congrArg List.sum (List.take_append_drop (ns.length-i) ns)
 rw[List.sum_append] at this
 rw[List.take_length]
 omega
theorem sq_rev {ns:List Int}{b m:Nat}(hb:b<=ns.length)(hm:m<=ns.length):sq ns.reverse b m=sq ns (ns.length-m) (ns.length-b):=by
 unfold sq
 rw[S_rev hb,S_rev hm]
 congr 1;omega
theorem path_rev {ns:List Int}:∀ {k b e:Nat} {c:Int},e<=ns.length->Path (sq ns.reverse) k b e c->Path (sq ns) k (ns.length-e) (ns.length-b) c
 | 0,b,e,c,he,h=>⟨by have:=h.1;omega,h.2⟩
 | k+1,b,e,c,he,⟨m,c',h1,h2,h3⟩=>by
  have hl:=path_le h2
  have ih:=path_rev he h2
  have:=path_snoc ih (e:=ns.length-b) (by omega)
  rw[h3,sq_rev (by omega) (by omega),Int.add_comm]
  exact this
theorem least_rev {ns:List Int}{k t:Nat}{v:Int}(ht:t<=ns.length)(h:Least (sq ns.reverse) k 0 t v):Least (sq ns) k (ns.length-t) ns.length v:=by
 refine⟨by have:=path_rev ht h.1;rwa [Nat.sub_zero] at this,λc hc=>h.2 c ?_⟩
 have e:ns.reverse.reverse=ns:=List.reverse_reverse ns
 have hc':Path (sq ns.reverse.reverse) k (ns.length-t) ns.length c:=by rw[e];exact hc
 have:=path_rev (ns:=ns.reverse) (by rw[List.length_reverse];exact Nat.le_refl _) hc'
 rw[List.length_reverse,Nat.sub_self] at this
 have et:ns.length-(ns.length-t)=t:=by omega
 rwa [et] at this
end M25
namespace M25
section
variable {w:Nat->Nat->Int}
end
end M25
namespace M14
open M25
theorem S_mono {ns:List Int}(h0:∀ n∈ns,0<=n):∀ {i j:Nat},i<=j->S ns i<=S ns j:=by
 intro i j hij
 induction hij with
 | refl=>exact Int.le_refl _
 | step _ ih =>
  rename_i j _
  cases e:ns[j]? with
  | some x=>rw[S_succ e];have:=h0 x (List.mem_of_getElem? e);omega
  | none =>
   have hl:ns.length<=j:=List.getElem?_eq_none_iff.mp e
   have:S ns (j+1)=S ns j:=by unfold S;rw[List.take_of_length_le (by omega),List.take_of_length_le hl]
   rw[this];exact ih
structure Rng (ns:List Int)(lo hi:Int)(b f h:Nat):Prop where
 f1:b+1<=f
 fh:f<=h
 hn:h<=ns.length+1
 iff:∀ e,b<e->e<=ns.length->((f<=e/\e<h)↔(lo<=S ns e-S ns b/\S ns e-S ns b<=hi))
end M14
namespace M34
open M5 M10 M11
theorem seg_le {ns:List Int}(hnn:∀ n∈ns,0<=n){a i e b:Nat}(h1:a<=i)(h2:i<=e)(h3:e<=b)(h4:b<=ns.length):seg ns i e<=seg ns a b:=by
 have e1:=seg_split (ns:=ns) (i:=a) (e:=i) (n:=b) h1 (by omega) h4
 have e2:=seg_split (ns:=ns) (i:=i) (e:=e) (n:=b) h2 h3 h4
 have:=seg_nn hnn a i
 have:=seg_nn hnn e b
 omega
theorem slice_seg {ns:List Int}{x y:Nat}(h:x<=y):((ns.drop x).take (y-x)).sum=seg ns x y:=by
 rw[seg_take,show x+(y-x)=y by omega]
structure PlN (qs:List Nat)(n:Nat):Prop where
 up:qs.Pairwise (·<·)
 hi:∀ q∈qs,q<n
end M34
namespace M33
open M5 M10 M11 M7 M34
end M33
namespace M9
open M3 M5 M10 M11 M7 M34 M33
theorem pcs_flat (ns:List Int):∀ (cs:List Nat) (b:Nat),cs.Pairwise (·<·)->(∀ c∈cs,b<=c/\c<=ns.length)->(pcs ns b cs).flatten=ns.drop b
 | [],b,_,_=>by simp[pcs]
 | c::cs,b,hp,h=>by
  obtain⟨p1,p2⟩:=List.pairwise_cons.mp hp
  have hc:=h c List.mem_cons_self
  have ih:=pcs_flat ns cs c p2 λd hd=>⟨Nat.le_of_lt (p1 d hd),(h d (List.mem_cons_of_mem _ hd)).2⟩
  simp only[pcs,List.flatten_cons,ih]
  have:ns.drop c=(ns.drop b).drop (c-b):=by rw[List.drop_drop];congr 1;omega
  rw[this,List.take_append_drop]
theorem lcut_any (b:Int):∀ (xs:List Int) (i j:Nat) (tot:Int),(lcut b i tot xs).length=(lcut b j tot xs).length
 | [],_,_,_=>rfl
 | x::xs,i,j,tot=>by
  by_cases h:tot+x > b
  ·simp only[lcut,h,if_true,List.length_cons,lcut_any b xs (i+1) (j+1) x]
  ·simp only[lcut,h,if_false,lcut_any b xs (i+1) (j+1) (tot+x)]
theorem gp_of {b:Int}{ns:List Int}(h0:∀ x∈ns,0<=x){ps:List (List Int)}(hf:ps.flatten=ns)(hs:∀ p∈ps,p.sum<=b):gp b ns<=ps.length:=by
 subst hf
 exact gp_le ps.length ps rfl (λp hp x hx=>h0 x (List.mem_flatten.mpr ⟨p,hp,hx⟩)) hs
theorem gp_rev_le {b:Int}{ns:List Int}(h0:∀ x∈ns,0<=x)(hb:∀ x∈ns,x<=b):gp b ns.reverse<=gp b ns:=by
 obtain⟨ps,p1,p2,p3⟩:=decomp (b:=b) ns.length ns rfl h0 hb
 have:=gp_of (b:=b) (ns:=ns.reverse) (λx hx=>h0 x (List.mem_reverse.mp hx)) (ps:=(ps.map List.reverse).reverse) (by rw[<- p1,List.reverse_flatten]) (λp hp=>by
  obtain⟨q,hq,rfl⟩:=List.mem_map.mp (List.mem_reverse.mp hp)
  rw[List.sum_reverse];exact(p2 q hq).2)
 rw[List.length_reverse,List.length_map,p3] at this;exact this
theorem gp_rev {b:Int}{ns:List Int}(h0:∀ x∈ns,0<=x)(hb:∀ x∈ns,x<=b):gp b ns.reverse=gp b ns:=by
 have h1:=gp_rev_le h0 hb
 have h2:=gp_rev_le (b:=b) (ns:=ns.reverse) (λx hx=>h0 x (List.mem_reverse.mp hx)) (λx hx=>hb x (List.mem_reverse.mp hx))
 rw[List.reverse_reverse] at h2
 omega
theorem gp_pre (b:Int)(xs ys:List Int):gp b xs<=gp b (xs++ys):=by
 by_cases h:xs=[]
 ·subst h;simp[gp]
 ·unfold gp
  rw[if_neg h,if_neg (by simp[h]),lcut_app,List.length_append];omega
theorem gp_suf {b:Int}{xs ys:List Int}(h0:∀ x∈xs++ys,0<=x)(hb:∀ x∈xs++ys,x<=b):gp b ys<=gp b (xs++ys):=by
 rw[<- gp_rev h0 hb,List.reverse_append]
 have h1:∀ x∈ys,0<=x:=λx hx=>h0 x (List.mem_append_right _ hx)
 have h2:∀ x∈ys,x<=b:=λx hx=>hb x (List.mem_append_right _ hx)
 rw[<- gp_rev h1 h2]
 exact gp_pre b _ _
theorem ltot_le {b:Int}{xs:List Int}(hne:xs≠[])(h0:∀ x∈xs,0<=x)(hb:∀ x∈xs,x<=b):ltot b 0 xs<=b:=by
 obtain⟨pre,sg,e1,e2,e3,e4,e5⟩:=gp_last xs.length xs rfl hne h0 hb
 exact e4
theorem gp_pad {b:Int}{xs:List Int}(hne:xs≠[])(h0:∀ x∈xs,0<=x)(hb:∀ x∈xs,x<=b)(hb0:0<=b):gp b ((0::xs)++[0])=gp b xs:=by
 unfold gp
 rw[if_neg (by simp),if_neg hne]
 have e1:lcut b 0 0 ((0::xs)++[0])=lcut b 1 0 (xs++[0]):=by
  have:¬ (0:Int)+0 > b:=by omega
  simp only[List.cons_append,lcut,this,if_false];rfl
 have:=ltot_le hne h0 hb
 have e2:lcut b (1+xs.length) (ltot b 0 xs) [0]=[]:=by
  have:¬ ltot b 0 xs+0 > b:=by omega
  simp only[lcut,this,if_false]
 rw[e1,lcut_app,e2,List.append_nil,lcut_any b xs 1 0 0]
end M9
namespace M12
open M3 M5 M10 M11 M7 M34 M33 M9
theorem G_ge {ns:List Int}(hnn:∀ n∈ns,0<=n){b:Int}:∀ (ps:List (List Int)) (i:Nat),i<=ns.length->ps.flatten=ns.drop i->(∀ p∈ps,p≠[]/\b<=p.sum)->ps.length<=G b ns i
 | [],_,_,_,_=>Nat.zero_le _
 | p::ps,i,hi,hf,hp=>by
  obtain⟨hpe,hpb⟩:=hp p List.mem_cons_self
  rw[List.flatten_cons] at hf
  have hlen:=congrArg List.length hf
  rw[List.length_append,List.length_drop] at hlen
  have hpl:0<p.length:=List.length_pos_iff.mpr hpe
  have hpq:p=(ns.drop i).take p.length:=by rw[<- hf,List.take_left' rfl]
  have hps:p.sum=seg ns i (i+p.length):=by rw[<- seg_take,<- hpq]
  have hrest:ps.flatten=ns.drop (i+p.length):=by rw[<- List.drop_drop,<- hf,List.drop_left' rfl]
  have ih:=G_ge hnn ps (i+p.length) (by omega) hrest λq hq=>hp q (List.mem_cons_of_mem _ hq)
  rcases G_cases b ns i hi with ⟨_,_,h0⟩ | ⟨e,h1,h2,h3,h4,h5,_⟩
  ·have:=h0 (i+p.length) (by omega) (by omega);omega
  ·have he:e<=i+p.length:=by
    rcases Nat.lt_or_ge (i+p.length) e with z | z
    ·have:=h4 (i+p.length) (by omega) z;omega
    ·exact z
   have hm:=G_mono (b:=b) hnn (i+p.length-e) e
   rw[show e+(i+p.length-e)=i+p.length by omega] at hm
   rw[List.length_cons];omega
theorem short_ok {ns:List Int}(hnn:∀ n∈ns,0<=n){b:Int}:∀ (j k:Nat),k<ns.length->j<(sends b k 0 (ns.drop k)).length->∃ cs:List Nat,(sends b k 0 (ns.drop k)).take j=cs.map (λ(n:Nat)=>(n:Int))/\cs.length=j/\cs.Pairwise (·<·)/\(∀ x∈cs,k<x/\x<ns.length)/\∀ q∈pcs ns k cs,b<=q.sum
 | 0,k,hk,hj=>by
  refine⟨[],rfl,rfl,.nil,by simp,λq hq=>?_⟩
  simp only[pcs,List.mem_singleton] at hq
  subst hq
  rcases G_cases b ns k (by omega) with ⟨_,h,_⟩ | ⟨e,h1,h2,h3,h4,h5,_⟩
  ·rw[h] at hj;simp at hj
  ·rw[<- seg_all]
   have:=seg_le hnn (a:=k) (i:=k) (e:=e) (b:=ns.length) (Nat.le_refl _) (by omega) h2 (Nat.le_refl _)
   omega
 | j+1,k,hk,hj=>by
  rcases G_cases b ns k (by omega) with ⟨_,h,_⟩ | ⟨e,h1,h2,h3,h4,h5,h6⟩
  ·rw[h] at hj;simp at hj
  ·rw[h6,List.length_cons] at hj
   have hen:e<ns.length:=by
    rcases Nat.lt_or_ge e ns.length with z | z
    ·exact z
    ·rw[List.drop_eq_nil_of_le z] at hj;simp[sends] at hj
   obtain⟨cs,q1,q2,q3,q4,q5⟩:=short_ok hnn (b:=b) j e hen (by omega)
   refine⟨e::cs,by rw[h6,List.take_succ_cons,q1];rfl,by simp[q2],List.pairwise_cons.mpr ⟨λx hx=>(q4 x hx).1,q3⟩,λx hx=>?_,λq hq=>?_⟩
   ·rcases List.mem_cons.mp hx with rfl | hx
    ·exact⟨h1,hen⟩
    ·have:=q4 x hx;omega
   ·simp only[pcs] at hq
    rcases List.mem_cons.mp hq with rfl | hq
    ·rw[slice_seg (by omega)];omega
    ·exact q5 q hq
theorem pcs_ne (ns:List Int):∀ (cs:List Nat) (b:Nat),b<ns.length->cs.Pairwise (·<·)->(∀ c∈cs,b<c/\c<ns.length)->∀ p∈pcs ns b cs,p≠[]
 | [],b,hb,_,_,p,hp=>by
  simp only[pcs,List.mem_singleton] at hp
  subst hp
  exact λz=>by have:=congrArg List.length z;simp at this;omega
 | c::cs,b,hb,hpw,h,p,hp=>by
  obtain⟨p1,p2⟩:=List.pairwise_cons.mp hpw
  have hc:=h c List.mem_cons_self
  simp only[pcs] at hp
  rcases List.mem_cons.mp hp with rfl | hp
  ·exact λz=>by have:=congrArg List.length z;simp at this;omega
  ·exact pcs_ne ns cs c hc.2 p2 (λd hd=>⟨p1 d hd,(h d (List.mem_cons_of_mem _ hd)).2⟩) p hp
theorem G_len (b:Int)(ns:List Int):(sends b 0 0 ns).length=G b ns 0:=by unfold G cnt;rw[List.drop_zero]
theorem sends_all {b:Int}:∀ (xs:List Int) (i:Nat),(∀ x∈xs,b<=x)->sends b i 0 xs=(List.range xs.length).map λ(k:Nat)=>(i:Int)+1+(k:Int)
 | [],_,_=>rfl
 | x::xs,i,h=>by
  have hx:=h x List.mem_cons_self
  have:(0:Int)+x>=b:=by omega
  have ih:=sends_all xs (i+1) λy hy=>h y (List.mem_cons_of_mem _ hy)
  simp only[sends,this,if_true,ih,List.length_cons,List.range_succ_eq_map,List.map_cons,List.map_map]
  refine List.cons_eq_cons.mpr ⟨by push_cast;omega,List.map_congr_left λk _=>?_⟩
  show ((i+1:Nat):Int)+1+(k:Int)=(i:Int)+1+((k+1:Nat):Int)
  push_cast;omega
end M12
namespace M30
open M25
theorem S_mono {ns : List Int} (h0 : ∀ n ∈ ns, 0 ≤ n) {i : Nat} : ∀ {j : Nat}, i ≤ j → S ns i ≤ S ns j
  | 0, h => by obtain rfl : i = 0 := by omega
               exact Int.le_refl _
  | j + 1, h => by
    by_cases e : i = j + 1
    · subst e; exact Int.le_refl _
    have ih := S_mono h0 (i := i) (j := j) (by omega)
    cases hx : ns[j]? with
    | none =>
      have hl : ns.length ≤ j := List.getElem?_eq_none_iff.mp hx
      have : S ns (j + 1) = S ns j := by unfold S; rw [List.take_of_length_le (by omega), List.take_of_length_le hl]
      omega
    | some x =>
      have := S_succ hx
      have := h0 x (List.mem_of_getElem? hx)
      omega
end M30
namespace M31
open M25 M30
variable {f:Nat->Int}{n:Nat}
def Sup (w:Nat->Nat->Int):Prop:=∀ a b c,a<=b->b<=c->w a b+w b c<=w a c
theorem sq_sup {ns:List Int}(h0:∀ n∈ns,0<=n):Sup (sq ns):=λa b c h1 h2=>by
 have q1:=S_mono h0 h1
 have q2:=S_mono h0 h2
 unfold sq
 generalize S ns a=A at *
 generalize S ns b=B at *
 generalize S ns c=C at *
 have h:0<=(B-A)*(C-B):=Int.mul_nonneg (by omega) (by omega)
 have e:(C-A) ^ 2-((B-A) ^ 2+(C-B) ^ 2)=2*((B-A)*(C-B)):=by grind
 omega
theorem part {w:Nat->Nat->Int}(hw:Sup w):∀ {k b e:Nat} {c:Int},1<=k->b+k<e->Path w k b e c->∃ c',Path w (k+1) b e c'/\c'<=c
 | 0,_,_,_,h,_,_=>by omega
 | k+1,b,e,c,_,hl,⟨m,c',h1,h2,h3⟩=>by
  by_cases hm:m=b+1
  ·by_cases hk:k=0
   ·subst hk
    have:=h2.1
    omega
   ·obtain⟨d,g1,g2⟩:=part hw (by omega) (by omega) h2
    exact⟨w b m+d,⟨m,d,h1,g1,rfl⟩,by omega⟩
  ·have:=hw b (b+1) m (by omega) (by omega)
   exact⟨w b (b+1)+(w (b+1) m+c'),⟨b+1,_,by omega,⟨m,c',by omega,h2,rfl⟩,rfl⟩,by omega⟩
section
variable {ns zs:List Int}
structure CostAt (zs:List Int)(price cost:Int)(m:Nat):Prop where
 m1:1<=m
 mn:m<=zs.length
 at_:cost=zs.getD (m-1) 0+price*(m:Int)
 le:∀ i,i<zs.length->cost<=zs.getD i 0+price*((i+1:Nat):Int)
 ne:∀ i,i+1<m->zs.getD i 0+price*((i+1:Nat):Int)≠cost
end
end M31
namespace M32
open M25
section
variable {w:Nat->Nat->Int}
end
end M32
namespace M26
open M25 M30 M31 M32
section
variable {w:Nat->Nat->Int}{c:Int}
end
section
variable {ns zs:List Int}
theorem S_zero_end {c:Nat}(hc:c<=ns.length):S (ns++[0]) c=S ns c:=by unfold S;rw[List.take_append_of_le_length hc]
theorem S_zero_all:S (ns++[0]) (ns.length+1)=S ns ns.length:=by
 unfold S
 rw[List.take_of_length_le (by simp),List.take_length,List.sum_append];simp
theorem path_to {k b:Nat}:∀ {x:Int},1<=k->Path (sq ns) k b ns.length x->Path (sq (ns++[0])) k b (ns.length+1) x:=by
 induction k generalizing b with
 | zero=>intro x h;omega
 | succ k ih =>
  intro x _ ⟨m,x',h1,h2,h3⟩
  have hm:=path_le h2
  by_cases hk:k=0
  ·subst hk
   obtain⟨rfl,rfl⟩:=h2
   refine path_one.mpr ⟨by omega,?_⟩
   rw[h3]
   unfold sq
   rw[S_zero_all,S_zero_end (by omega)];omega
  ·refine⟨m,x',h1,ih (by omega) h2,?_⟩
   rw[h3]
   unfold sq
   rw[S_zero_end (by omega),S_zero_end (by omega)]
theorem path_from {k b:Nat}:∀ {x:Int},1<=k->b<ns.length->Path (sq (ns++[0])) k b (ns.length+1) x->∃ j,(j=k\/j+1=k)/\1<=j/\Path (sq ns) j b ns.length x:=by
 induction k generalizing b with
 | zero=>intro x h;omega
 | succ k ih =>
  intro x _ hb ⟨m,x',h1,h2,h3⟩
  have hm:=path_le h2
  by_cases hk:k=0
  ·subst hk
   obtain⟨rfl,rfl⟩:=h2
   refine⟨1,.inl rfl,by omega,path_one.mpr ⟨hb,?_⟩⟩
   rw[h3]
   unfold sq
   rw[S_zero_all,S_zero_end (by omega)];omega
  ·by_cases hmn:m<ns.length
   ·obtain⟨j,g1,g2,g3⟩:=ih (by omega) hmn h2
    refine⟨j+1,by omega,by omega,m,x',h1,g3,?_⟩
    rw[h3]
    unfold sq
    rw[S_zero_end (by omega),S_zero_end (by omega)]
   ·have em:m=ns.length:=by omega
    have ek:k=1:=by omega
    subst em;subst ek
    obtain⟨_,rfl⟩:=path_one.mp h2
    refine⟨1,.inr rfl,by omega,path_one.mpr ⟨hb,?_⟩⟩
    rw[h3]
    unfold sq
    rw[S_zero_all,S_zero_end (Nat.le_refl _),S_zero_end (by omega)]
    grind
theorem least_zero_end (h0:∀ n∈ns,0<=n){k:Nat}{v:Int}(k1:1<=k)(kn:k<=ns.length)(h:Least (sq ns) k 0 ns.length v):Least (sq (ns++[0])) k 0 (ns.length+1) v:=by
 refine⟨path_to k1 h.1,λx hx=>?_⟩
 obtain⟨j,g1,g2,g3⟩:=path_from k1 (by omega) hx
 rcases g1 with rfl | g1
 ·exact h.2 x g3
 ·obtain⟨y,q1,q2⟩:=part (sq_sup h0) g2 (by omega) g3
  rw[g1] at q1
  have:=h.2 y q1
  omega
end
end M26
namespace M50
open M3 M5 M10 M9 M12 M25
theorem split_flat:∀ (ps:List (List Int)) (A B:List Int) (x:Int),ps.flatten=A++x::B->∃ ps1 p q ps2,ps=ps1++(p++x::q)::ps2/\A=ps1.flatten++p/\B=q++ps2.flatten
 | [],A,B,x,h=>by simp at h
 | p0::ps,A,B,x,h=>by
  rw[List.flatten_cons] at h
  rcases List.append_eq_append_iff.mp h with ⟨A',e1,e2⟩ | ⟨c,e1,e2⟩
  ·obtain⟨ps1,p,q,ps2,h1,h2,h3⟩:=split_flat ps A' B x e2
   exact⟨p0::ps1,p,q,ps2,by rw[h1];rfl,by rw[e1,h2,List.flatten_cons,List.append_assoc],h3⟩
  ·cases c with
   | nil =>
    obtain⟨ps1,p,q,ps2,h1,h2,h3⟩:=split_flat ps [] B x (by simpa using e2.symm)
    refine⟨p0::ps1,p,q,ps2,by rw[h1];rfl,?_,h3⟩
    rw[List.flatten_cons,List.append_assoc,<- h2,List.append_nil]
    simpa using e1.symm
   | cons z c =>
    rw[List.cons_append] at e2
    obtain⟨rfl,rfl⟩:=List.cons.inj e2
    exact⟨[],A,c,ps,by rw[e1];rfl,by simp,rfl⟩
theorem sum_mid (p q:List Int)(x:Int):(p++x::q).sum=p.sum+x+q.sum:=by simp[List.sum_append,List.sum_cons];omega
theorem other {ps:List (List Int)}{A B:List Int}{x:Int}(y:Int)(h:ps.flatten=A++x::B):∃ qs:List (List Int),qs.flatten=A++y::B/\qs.length=ps.length/\∀ q∈qs,∃ p∈ps,(q≠[]\/q=p)/\(q.sum=p.sum\/q.sum=p.sum+(y-x)):=by
 obtain⟨ps1,p,q,ps2,rfl,rfl,rfl⟩:=split_flat ps A B x h
 refine⟨ps1++(p++y::q)::ps2,by simp[List.flatten_append,List.append_assoc],by simp,λr hr=>?_⟩
 rcases List.mem_append.mp hr with z | z
 ·exact⟨r,List.mem_append_left _ z,.inr rfl,.inl rfl⟩
 ·rcases List.mem_cons.mp z with rfl | z
  ·exact⟨p++x::q,by simp,.inl (by simp),.inr (by rw[sum_mid,sum_mid];omega)⟩
  ·exact⟨r,List.mem_append_right _ (List.mem_cons_of_mem _ z),.inr rfl,.inl rfl⟩
def GrB (ns:List Int)(m:Nat)(t:Int):Prop:=∀ b,t<=b↔(∀ x∈ns,x<=b)/\gp b ns<=m
def LeB (ns:List Int)(m:Nat)(t:Int):Prop:=∀ b,b<=t↔m<=G b ns 0
section
variable {A B:List Int}{x y:Int}{m:Nat}{t t':Int}
theorem mem_mid {z:Int}:z∈A++x::B↔z∈A\/z=x\/z∈B:=by simp
theorem gr_up (h0:∀ z∈A++x::B,0<=z)(hxy:x<=y)(h:GrB (A++x::B) m t)(h':GrB (A++y::B) m t'):t<=t'/\t'<=t+(y-x):=by
 have h0':∀ z∈A++y::B,0<=z:=λz hz=>by
  rcases mem_mid.mp hz with w | w | w
  ·exact h0 z (mem_mid.mpr (.inl w))
  ·have:=h0 x (mem_mid.mpr (.inr (.inl rfl)));omega
  ·exact h0 z (mem_mid.mpr (.inr (.inr w)))
 constructor
 ·obtain⟨a1,a2⟩:=(h' t').mp (Int.le_refl _)
  refine(h t').mpr ⟨λz hz=>?_,?_⟩
  ·rcases mem_mid.mp hz with w | w | w
   ·exact a1 z (mem_mid.mpr (.inl w))
   ·have:=a1 y (mem_mid.mpr (.inr (.inl rfl)));omega
   ·exact a1 z (mem_mid.mpr (.inr (.inr w)))
  ·obtain⟨ps,hf,hp,hl⟩:=M7.decomp _ _ rfl h0' a1
   obtain⟨qs,qf,ql,qq⟩:=other x hf
   have:=gp_of (b:=t') h0 qf λq hq=>by
    obtain⟨p,hpp,_,e⟩:=qq q hq
    have:=(hp p hpp).2
    rcases e with e | e<;>omega
   omega
 ·obtain⟨a1,a2⟩:=(h t).mp (Int.le_refl _)
  refine(h' _).mpr ⟨λz hz=>?_,?_⟩
  ·rcases mem_mid.mp hz with w | w | w
   ·have:=a1 z (mem_mid.mpr (.inl w));omega
   ·have:=a1 x (mem_mid.mpr (.inr (.inl rfl)));omega
   ·have:=a1 z (mem_mid.mpr (.inr (.inr w)));omega
  ·obtain⟨ps,hf,hp,hl⟩:=M7.decomp _ _ rfl h0 a1
   obtain⟨qs,qf,ql,qq⟩:=other y hf
   have:=gp_of (b:=t+(y-x)) h0' qf λq hq=>by
    obtain⟨p,hpp,_,e⟩:=qq q hq
    have:=(hp p hpp).2
    rcases e with e | e<;>omega
   omega
end
theorem le_cut {ns:List Int}{m:Nat}{b:Int}(h0:∀ z∈ns,0<=z)(hne:1<=ns.length)(hm:1<=m)(h:m<=G b ns 0):∃ ps:List (List Int),ps.flatten=ns/\ps.length=m/\∀ p∈ps,p≠[]/\b<=p.sum:=by
 obtain⟨cs,q1,q2,q3,q4,q5⟩:=short_ok h0 (b:=b) (m-1) 0 (by omega) (by rw[List.drop_zero,G_len];omega)
 refine⟨pcs ns 0 cs,?_,by rw[pcs_len];omega,λp hp=>⟨pcs_ne ns cs 0 (by omega) q3 q4 p hp,q5 p hp⟩⟩
 have:=pcs_flat ns cs 0 q3 λc hc=>⟨Nat.zero_le _,Nat.le_of_lt (q4 c hc).2⟩
 rwa [List.drop_zero] at this
theorem le_of {ns:List Int}{b:Int}{ps:List (List Int)}(h0:∀ z∈ns,0<=z)(hf:ps.flatten=ns)(hp:∀ p∈ps,p≠[]/\b<=p.sum):ps.length<=G b ns 0:=G_ge h0 ps 0 (Nat.zero_le _) (by rw[hf,List.drop_zero]) hp
theorem le_up {A B:List Int}{x y:Int}{m:Nat}{t t':Int}(h0:∀ z∈A++x::B,0<=z)(hxy:x<=y)(hm:1<=m)(h:LeB (A++x::B) m t)(h':LeB (A++y::B) m t'):t<=t'/\t'<=t+(y-x):=by
 have h0':∀ z∈A++y::B,0<=z:=λz hz=>by
  rcases mem_mid.mp hz with w | w | w
  ·exact h0 z (mem_mid.mpr (.inl w))
  ·have:=h0 x (mem_mid.mpr (.inr (.inl rfl)));omega
  ·exact h0 z (mem_mid.mpr (.inr (.inr w)))
 constructor
 ·refine(h' t).mpr ?_
  obtain⟨ps,hf,hl,hp⟩:=le_cut h0 (by simp;omega) hm ((h t).mp (Int.le_refl _))
  obtain⟨qs,qf,ql,qq⟩:=other y hf
  have:=le_of (b:=t) h0' qf λq hq=>by
   obtain⟨p,hpp,n,e⟩:=qq q hq
   have:=(hp p hpp).2
   refine⟨?_,by rcases e with e | e<;>omega⟩
   rcases n with n | n
   ·exact n
   ·exact n▸(hp p hpp).1
  omega
 ·have:t'-(y-x)<=t:=by
   refine(h _).mpr ?_
   obtain⟨ps,hf,hl,hp⟩:=le_cut h0' (by simp;omega) hm ((h' t').mp (Int.le_refl _))
   obtain⟨qs,qf,ql,qq⟩:=other x hf
   have:=le_of (b:=t'-(y-x)) h0 qf λq hq=>by
    obtain⟨p,hpp,n,e⟩:=qq q hq
    have:=(hp p hpp).2
    refine⟨?_,by rcases e with e | e<;>omega⟩
    rcases n with n | n
    ·exact n
    ·exact n▸(hp p hpp).1
   omega
  omega
theorem gr_end {ns:List Int}{m:Nat}{t t':Int}(h0:∀ z∈ns,0<=z)(hne:ns≠[])(h:GrB ns m t)(h':GrB (ns++[0]) m t'):t'=t:=by
 have key:∀ b,t<=b↔t'<=b:=λb=>by
  rw[h b,h' b]
  refine⟨λ⟨a1,a2⟩=>?_,λ⟨a1,a2⟩=>?_⟩
  ·obtain⟨z,hz⟩:=List.exists_mem_of_ne_nil ns hne
   have hb0:0<=b:=Int.le_trans (h0 z hz) (a1 z hz)
   have e:=gp_pad hne h0 a1 hb0
   have:=gp_suf (b:=b) (xs:=[0]) (ys:=ns++[0]) (by simp;intro a ha;rcases ha with h | h;exact h0 a h;omega) (by simp;exact⟨hb0,λa ha=>by rcases ha with h | h;exact a1 a h;omega⟩)
   refine⟨λz hz=>?_,?_⟩
   ·rcases List.mem_append.mp hz with w | w
    ·exact a1 z w
    ·simp at w;omega
   ·rw[show [0]++(ns++[0])=(0::ns)++[0] by simp,e] at this;omega
  ·exact⟨λz hz=>a1 z (List.mem_append_left _ hz),Nat.le_trans (gp_pre b ns [0]) a2⟩
 have:=(key t).mp (Int.le_refl _)
 have:=(key t').mpr (Int.le_refl _)
 omega
theorem gr_front {ns:List Int}{m:Nat}{t t':Int}(h0:∀ z∈ns,0<=z)(hne:ns≠[])(h:GrB ns m t)(h':GrB (0::ns) m t'):t'=t:=by
 have key:∀ b,t<=b↔t'<=b:=λb=>by
  rw[h b,h' b]
  refine⟨λ⟨a1,a2⟩=>?_,λ⟨a1,a2⟩=>?_⟩
  ·obtain⟨z,hz⟩:=List.exists_mem_of_ne_nil ns hne
   have hb0:0<=b:=Int.le_trans (h0 z hz) (a1 z hz)
   have e:=gp_pad hne h0 a1 hb0
   have:=gp_pre b (0::ns) [0]
   refine⟨λz hz=>?_,by omega⟩
   rcases List.mem_cons.mp hz with w | w
   ·omega
   ·exact a1 z w
  ·have a1':∀ z∈ns,z<=b:=λz hz=>a1 z (List.mem_cons_of_mem _ hz)
   refine⟨a1',?_⟩
   have:=gp_suf (b:=b) (xs:=[0]) (ys:=ns) (by simp;exact h0) (by simp;exact⟨a1 0 (by simp),a1'⟩)
   rw[show [0]++ns=0::ns from rfl] at this
   omega
 have:=(key t).mp (Int.le_refl _)
 have:=(key t').mpr (Int.le_refl _)
 omega
theorem sends_end {b:Int}:∀ (xs:List Int) (i:Nat) (tot:Int),tot<b->0<b->(sends b i tot (xs++[0])).length=(sends b i tot xs).length
 | [],i,tot,h,_=>by simp only[List.nil_append,sends];rw[if_neg (by omega)]
 | n::r,i,tot,h,hb=>by
  simp only[List.cons_append,sends]
  split
  ·simp only[List.length_cons];rw[sends_end r (i+1) 0 hb hb]
  ·exact sends_end r (i+1) (tot+n) (by omega) hb
theorem G_low {ns:List Int}{b:Int}(h0:∀ z∈ns,0<=z)(hb:b<=0):G b ns 0=ns.length:=by
 rw[<- G_len,sends_all ns 0 λz hz=>by have:=h0 z hz;omega];simp
theorem le_end {ns:List Int}{m:Nat}{t t':Int}(h0:∀ z∈ns,0<=z)(hm:m<=ns.length)(h:LeB ns m t)(h':LeB (ns++[0]) m t'):t'=t:=by
 have key:∀ b,b<=t↔b<=t':=λb=>by
  rw[h b,h' b]
  by_cases hb:b<=0
  ·rw[G_low h0 hb,G_low (λz hz=>by rcases List.mem_append.mp hz with w | w;exact h0 z w;simp at w;omega) hb];simp;omega
  ·rw[<- G_len,<- G_len,sends_end ns 0 0 (by omega) (by omega)]
 have:=(key t).mp (Int.le_refl _)
 have:=(key t').mpr (Int.le_refl _)
 omega
theorem le_front {ns:List Int}{m:Nat}{t t':Int}(h0:∀ z∈ns,0<=z)(hm:m<=ns.length)(h:LeB ns m t)(h':LeB (0::ns) m t'):t'=t:=by
 have key:∀ b,b<=t↔b<=t':=λb=>by
  rw[h b,h' b]
  by_cases hb:b<=0
  ·rw[G_low h0 hb,G_low (λz hz=>by rcases List.mem_cons.mp hz with w | w;omega;exact h0 z w) hb];simp;omega
  ·rw[<- G_len,<- G_len]
   simp only[sends]
   rw[if_neg (by omega),len_any b ns 1 0 (0+0)];rfl
 have:=(key t).mp (Int.le_refl _)
 have:=(key t').mpr (Int.le_refl _)
 omega
theorem path_less {w w':Nat->Nat->Int}{n:Nat}(hw:∀ b e,b<e->e<=n->w b e<=w' b e):∀ {k b e:Nat} {c:Int},e<=n->Path w' k b e c->∃ c',c'<=c/\Path w k b e c'
 | 0,b,e,c,_,h=>⟨c,Int.le_refl _,h⟩
 | k+1,b,e,c,he,⟨m,c',h1,h2,h3⟩=>by
  obtain⟨d,hd,hp⟩:=path_less hw he h2
  have:=path_le h2
  have:=hw b m h1 (by omega)
  exact⟨w b m+d,by omega,m,d,h1,hp,rfl⟩
theorem S_mid (A B:List Int)(x y:Int)(j:Nat):S (A++y::B) j=S (A++x::B) j+(if A.length<j then y-x else 0):=by
 unfold S
 rw[List.take_append,List.take_append,List.sum_append,List.sum_append]
 by_cases h:A.length<j
 ·rw[if_pos h]
  obtain⟨i,hi⟩:∃ i,j-A.length=i+1:=⟨j-A.length-1,by omega⟩
  rw[hi,List.take_succ_cons,List.take_succ_cons,List.sum_cons,List.sum_cons];omega
 ·rw[if_neg h,show j-A.length=0 by omega,List.take_zero,List.take_zero];omega
theorem sq_mono {a b:Int}(h0:0<=a)(h:a<=b):a ^ 2<=b ^ 2:=by
 rw[Int.pow_succ,Int.pow_succ,Int.pow_succ,Int.pow_succ,Int.pow_zero,Int.pow_zero,Int.one_mul,Int.one_mul]
 exact Int.mul_le_mul h h h0 (Int.le_trans h0 h)
theorem sq_up {A B:List Int}{x y:Int}{m:Nat}{v v':Int}(h0:∀ z∈A++x::B,0<=z)(hxy:x<=y)(h:Least (sq (A++x::B)) m 0 (A++x::B).length v)(h':Least (sq (A++y::B)) m 0 (A++y::B).length v'):v<=v':=by
 have el:(A++y::B).length=(A++x::B).length:=by simp
 rw[el] at h'
 obtain⟨c,hc,hp⟩:=path_less (w:=sq (A++x::B)) (n:=(A++x::B).length) (λb e hbe he=>by
  unfold sq
  have hm:=M14.S_mono h0 (Nat.le_of_lt hbe)
  refine sq_mono (by omega) ?_
  rw[S_mid A B x y e,S_mid A B x y b]
  by_cases h1:A.length<b
  ·rw[if_pos h1,if_pos (by omega)];omega
  ·rw[if_neg h1];split<;>omega) (Nat.le_refl _) h'.1
 exact Int.le_trans (h.2 c hp) hc
theorem sq_end {ns:List Int}{m:Nat}{v v':Int}(h0:∀ z∈ns,0<=z)(h1:1<=m)(hm:m<=ns.length)(h:Least (sq ns) m 0 ns.length v)(h':Least (sq (ns++[0])) m 0 (ns.length+1) v'):v'=v :=
 h'.uniq (M26.least_zero_end h0 h1 hm h)
theorem sq_front {ns:List Int}{m:Nat}{v v':Int}(h0:∀ z∈ns,0<=z)(h1:1<=m)(hm:m<=ns.length)(h:Least (sq ns) m 0 ns.length v)(h':Least (sq (0::ns)) m 0 (ns.length+1) v'):v'=v:=by
 have e1:Least (sq ns.reverse) m 0 ns.reverse.length v:=by
  have:=least_rev (ns:=ns.reverse) (k:=m) (t:=ns.length) (v:=v) (by simp) (by rw[List.reverse_reverse];exact h)
  simpa using this
 have e2:=M26.least_zero_end (ns:=ns.reverse) (λz hz=>h0 z (List.mem_reverse.mp hz)) h1 (by simpa using hm) e1
 have e3:Least (sq (0::ns).reverse) m 0 (0::ns).length v:=by simpa using e2
 have e4:=least_rev (ns:=0::ns) (Nat.le_refl _) e3
 rw[Nat.sub_self] at e4
 exact h'.uniq (by simpa using e4)
end M50
namespace L2
open PySem PySem.Spec PyProof.Rows
structure Bl (mg:Str->Option Value):Prop where
 list:mg "list"=none
 enumerate:mg "enumerate"=none
 int:mg "int"=none
 sum:mg "sum"=none
 range:mg "range"=none
 sorted:mg "sorted"=none
 max:mg "max"=none
 min:mg "min"=none
 len:mg "len"=none
 repr:mg "repr"=none
 isinstance:mg "isinstance"=none
 zip:mg "zip"=none
 bool:mg "bool"=none
 tuple:mg "tuple"=none
 str:mg "str"=none
 dict:mg "dict"=none
 abs:mg "abs"=none
theorem boot_int:bootBuiltins "int"=some (.type "int"):=by decide +kernel
theorem boot_list:bootBuiltins "list"=some (.type "list"):=by decide +kernel
theorem boot_bool:bootBuiltins "bool"=some (.type "bool"):=by decide +kernel
theorem boot_sum':bootBuiltins "sum"=some (.builtin "sum"):=by decide +kernel
theorem boot_max':bootBuiltins "max"=some (.builtin "max"):=by decide +kernel
theorem boot_min':bootBuiltins "min"=some (.builtin "min"):=by decide +kernel
theorem boot_len':bootBuiltins "len"=some (.builtin "len"):=by decide +kernel
theorem boot_sorted':bootBuiltins "sorted"=some (.builtin "sorted"):=by decide +kernel
theorem boot_abs':bootBuiltins "abs"=some (.builtin "abs"):=by decide +kernel
theorem boot_isinstance':bootBuiltins "isinstance"=some (.builtin "isinstance"):=by decide +kernel
def DrawsAt (H:Hp)(d:Addr):Prop:=∃ ds:List Int,H d=some (.lst (ds.map V.int))/\(∀ x∈ds,0<=x)/\ds.length<=1000
theorem DrawsAt.same {H H':Hp}{d:Addr}(s:Same H H')(x:DrawsAt H d):DrawsAt H' d:=let ⟨ds,q,z⟩:=x;⟨ds,s _ _ q,z⟩
theorem DrawsAt.kp {H H':Hp}{d:Addr}{S:List Addr}(s:Kp S H H')(n:d∉S)(x:DrawsAt H d):DrawsAt H' d:=let ⟨ds,q,z⟩:=x;⟨ds,s _ _ n q,z⟩
theorem DrawsAt.ne {H:Hp}{d p:Addr}(x:DrawsAt H d)(hp:H p=none):d≠p:=let ⟨_,q,_⟩:=x;ne_of_none q hp
def zq55 (K:W.Frag):Sp:=λvs H Q _=>∃ (a:Addr) (ns:List Int),vs=[.ref a]/\SqL K H a (ns.map V.int)/\ns.length<=63/\∀ p H',H p=none->Same H H'->DrawsAt H' p->Q (.ref p) H'
def zq11:Sp:=λvs H Q _=>∃ (d:Addr) (lim:Int),vs=[.ref d,.int lim]/\DrawsAt H d/\0<lim/\∀ g H',0<=g->g<lim->DrawsAt H' d->Kp [d] H H'->Q (.int g) H'
structure RowN (ns:List Int):Prop where
 ne:1<=ns.length
 le:ns.length<=120
 nn:∀ n∈ns,0<=n
 ub:∀ n∈ns,n<=1000000000000
def zq70:Sp:=λvs H Q _=>∃ (d:Addr) (most:Int),vs=[.ref d,.int most]/\DrawsAt H d/\1<=most/\most<=120/\∀ (p:Addr) (ns:List Int) (H':Hp),RowN ns->(ns.length:Int)<=most->DrawsAt H' d->Kp [d] H H'->H' p=some (.lst (ns.map V.int))->p≠d->H p=none->Q (.ref p) H'
def zq4n:Sp:=λvs H Q _=>∃ (d r:Addr) (ns:List Int),vs=[.ref d,.ref r]/\DrawsAt H d/\H r=some (.lst (ns.map V.int))/\r≠d/\1<=ns.length/\ns.length<=1000/\∀ (m:Nat) (H':Hp),1<=m->m<=ns.length->DrawsAt H' d->Kp [d] H H'->Q (.int m) H'
end L2
namespace K
open PySem L2
def top (i:Nat):Stmt:=PySem.Challenge.pw_piecebounds_k50_whole_changes_and_bounds.main.body.getD i (.Pass ⟨0,0,0,0⟩)
end K
namespace K
open PySem L2
section
variable {C:Addr}{P:Program}{w:World}{K:W.Frag}{mg:Str->Option Value}{base:Heap}{f:Addr}{fd:FuncData}
abbrev zqa:Stmt:=top 35
theorem zq1g:FnScope ["script","draws","k","rest","stir","many"] ["script"] (defScope zqa):=⟨rfl,rfl,rfl,by decide +kernel,rfl,by decide +kernel,by decide +kernel⟩
theorem zqa4:Loc (defScope zqa) "draws":=Or.inl (by kernel_rfl)
theorem zqd4:Loc (defScope zqa) "k":=Or.inl (by kernel_rfl)
theorem zq72:Loc (defScope zqa) "many":=Or.inl (by kernel_rfl)
theorem zq73:Loc (defScope zqa) "rest":=Or.inl (by kernel_rfl)
theorem zq4q:Loc (defScope zqa) "stir":=Or.inl (by kernel_rfl)
theorem zq29:Vis (defScope zqa) "draws":=Or.inl (by kernel_rfl)
theorem zq6g:Vis (defScope zqa) "k":=Or.inl (by kernel_rfl)
theorem zq74:Vis (defScope zqa) "many":=Or.inl (by kernel_rfl)
theorem zq2g:Vis (defScope zqa) "rest":=Or.inl (by kernel_rfl)
theorem zq5y:Vis (defScope zqa) "script":=Or.inl (by kernel_rfl)
theorem zq1n:Vis (defScope zqa) "stir":=Or.inl (by kernel_rfl)
theorem zqbi:(defScope zqa).names.lookup ("abs":Str)=some NameKind.globalImplicit:=by kernel_rfl
theorem zqbj:(defScope zqa).names.lookup ("len":Str)=some NameKind.globalImplicit:=by kernel_rfl
theorem zqbk:(defScope zqa).names.lookup ("min":Str)=some NameKind.globalImplicit:=by kernel_rfl
theorem zqa5:(defScope zqa).names.lookup ("range":Str)=some NameKind.globalImplicit:=by kernel_rfl
def zqe4 {cdv:Value}{A:Around}{outer:List Env}{s:Shared}{H:Hp}{E:XK}(B:Bl mg)(hr:Room 0 (A.deeper (PyProof.Rows.envOfC "_law_draws" (defScope zqa) s.heap.objs.size f cdv))) :
  { t:TS // QB (cxOf CX0 P w K mg base ["script","draws","k","rest","stir","many"] "_law_draws" (defScope zqa) f cdv A outer s H E).nox (defBody zqa) t } :=
 ⟨_,(qb_cons (qs_set (i:=1) zq1g.nd rfl zqa4 (.inl rfl) (qe_lst qa_nil))
  (qb_mid (qs_for PassesOwn.never rfl (qi_r1 zqa5 B.range (qa_cons (qe_cB (kMin (K:=K) rfl rfl) zqbk B.min boot_min' (qa_cons (qe_cB (kLen (K:=K) rfl) zqbj B.len boot_len' (qa_cons (qv 0 rfl zq5y) qa_nil)) (qa_cons qe_int qa_nil))) qa_nil)) (qg_name (i:=2) zq1g.nd rfl zqd4 (.inl rfl)) (qb_cons (qs_set (i:=3) zq1g.nd rfl zq73 (.inl rfl) (qe_cB (callAbs) zqbi B.abs boot_abs' (qa_cons (ke_ix (K:=K) rfl (qv 0 rfl zq5y) (qv 2 rfl zq6g) (λ_ _=>rfl)) qa_nil)))
  (qb_one (qs_if (qt_cmp opLt (qv 3 rfl zq2g) (qe_op opPow qe_int qe_int)) (qb_cons (qs_set (i:=4) zq1g.nd rfl zq4q (.inl rfl) (qe_op opMod (qe_op opMul (qe_op opMod (qe_op opAdd (qe_op opAdd (qv 3 rfl zq2g) (qe_op opMul qe_int (qv 2 rfl zq6g))) qe_int) qe_int) qe_int) qe_int))
  (qb_cons (qs_set (i:=4) zq1g.nd rfl zq4q (.inl rfl) (qe_op opMod (qe_op opMul (qv 4 rfl zq1n) (qv 4 rfl zq1n)) qe_int))
  (qb_cons (qs_ex (ke_m1 (K:=K) rfl PySem.F.plainAttrs_list PySem.F.slot_list_append PySem.F.type_list_append mtApp (qv 1 rfl zq29) (qe_op opMod (qe_op opFdiv (qv 4 rfl zq1n) qe_int) qe_int)))
  (qb_cons (qs_ex (ke_m1 (K:=K) rfl PySem.F.plainAttrs_list PySem.F.slot_list_append PySem.F.type_list_append mtApp (qv 1 rfl zq29) (qe_op opMod (qe_op opFdiv (qv 4 rfl zq1n) qe_int) qe_int)))
  (qb_cons (qs_set (i:=4) zq1g.nd rfl zq4q (.inl rfl) (qe_op opMod (qe_op opAdd (qv 4 rfl zq1n) (qe_op opMul qe_int (qe_op opAdd (qv 2 rfl zq6g) qe_int))) qe_int))
  (qb_one (qs_ex (ke_m1 (K:=K) rfl PySem.F.plainAttrs_list PySem.F.slot_list_append PySem.F.type_list_append mtApp (qv 1 rfl zq29) (qe_op opMod (qe_op opFdiv (qe_op opMod (qe_op opMul (qv 4 rfl zq1n) (qv 4 rfl zq1n)) qe_int) qe_int) qe_int))))))))) (qb_cons (qs_set (i:=5) zq1g.nd rfl zq72 (.inl rfl) qe_int)
  (qb_one (qs_while PassesOwn.never (QW.pt (qw_and (qt_cmp opGe (qv 3 rfl zq2g) qe_int) (qw_and1 (qt_cmp opLt (qv 5 rfl zq74) qe_int)))) (qb_cons (qs_ex (ke_m1 (K:=K) rfl PySem.F.plainAttrs_list PySem.F.slot_list_append PySem.F.type_list_append mtApp (qv 1 rfl zq29) (qe_op opMod (qv 3 rfl zq2g) qe_int)))
  (qb_cons (qs_set (i:=3) zq1g.nd rfl zq73 (.inl rfl) (qe_op opFdiv (qv 3 rfl zq2g) qe_int))
  (qb_one (qs_set (i:=5) zq1g.nd rfl zq72 (.inl rfl) (qe_op opAdd (qv 5 rfl zq74) qe_int))))))))))))
  (qb_one (qs_ret (ke_slice (K:=K) rfl (qv 1 rfl zq29) qo_none (qo_some qe_int))))))⟩
abbrev zq1s:Stmt:=top 36
theorem zqe5:FnScope ["draws","many"] ["draws","many"] (defScope zq1s):=⟨rfl,rfl,rfl,by decide +kernel,rfl,by decide +kernel,by decide +kernel⟩
theorem zq75:Vis (defScope zq1s) "draws":=Or.inl (by kernel_rfl)
theorem zqbl:Vis (defScope zq1s) "many":=Or.inl (by kernel_rfl)
def zqeq {cdv:Value}{A:Around}{outer:List Env}{s:Shared}{H:Hp}{E:XK}(B:Bl mg)(hr:Room 0 (A.deeper (PyProof.Rows.envOfC "_law_take" (defScope zq1s) s.heap.objs.size f cdv))) :
  { t:TS // QB (cxOf CX0 P w K mg base ["draws","many"] "_law_take" (defScope zq1s) f cdv A outer s H E).nox (defBody zq1s) t } :=
 ⟨_,(qb_cons (qs_if (qt_cmp (kEqG (K:=K) rfl hr) (qv 0 rfl zq75) (qe_lst qa_nil)) (qb_one (qs_ret qe_int)) qb_nil)
  (qb_one (qs_ret (qe_op opMod (ke_m1 (K:=K) rfl PySem.F.plainAttrs_list PySem.F.slot_list_pop PySem.F.type_list_pop mtPopAt (qv 0 rfl zq75) qe_int) (qv 1 rfl zqbl)))))⟩
theorem cutV_ints (ns:List Int)(lo hi:Option Int):cutV (ns.map V.int) lo hi=((ns.drop (HT.sIx ns.length 0 lo)).take (HT.sIx ns.length ns.length hi-HT.sIx ns.length 0 lo)).map V.int:=by
 unfold cutV
 rw[List.length_map,List.map_take,List.map_drop]
theorem mod_nn (x:Int){y:Int}(h:0<y):0<=x % y:=Int.emod_nonneg _ (by omega)
def MoreAt (H:Hp)(d:Addr)(n:Nat):Prop:=∃ ds:List Int,H d=some (.lst (ds.map V.int))/\(∀ x∈ds,0<=x)/\ds.length<=n
theorem more_app {H:Hp}{d:Addr}{n:Nat}{z:Int}{Q:VK}(h:MoreAt H d n)(hn:n<50000)(hz:0<=z)(q:∀ H',Kp [d] H H'->MoreAt H' d (n+1)->Q .non H'):hApp d (.int z) H Q:=by
 obtain⟨ds,e,h0,hl⟩:=h
 refine i_appI e (by omega) λH' k e'=>q H' k ⟨ds++[z],e',λx hx=>?_,by simp;omega⟩
 rcases List.mem_append.mp hx with hx | hx
 ·exact h0 x hx
 ·have:x=z:=by simpa using hx
  subst this;exact hz
theorem more_ty {K:W.Frag}{H:Hp}{d:Addr}{n:Nat}(h:MoreAt H d n):tyV K "list" (.ref d) H:=let ⟨_,e,_⟩:=h;i_tyL e
theorem MoreAt.le {H:Hp}{d:Addr}{n m:Nat}(h:MoreAt H d n)(l:n<=m):MoreAt H d m:=let ⟨ds,e,a,b⟩:=h;⟨ds,e,a,by omega⟩
theorem zqdm (B:Bl mg)(F:Fun K "_law_draws" "_law_draws" zqa f fd):FnOk P w K mg base CX0 1 f fd ["script"] (zq55 K):=by
 refine F.okq zq1g (λvs H Q E h=>?_) (λcdv A outer s H vs Q E hr h=>?_)
 ·obtain⟨a,ns,rfl,_⟩:=h;rfl
 obtain⟨a,ns,rfl,hS,h63,q⟩:=h
 refine⟨zqe4 B  hr,?_⟩
 refine i_newL (by show 0<=sizeLine;decide) λd H1 hd s1 e1=>?_
 refine⟨λσ H'=>Same H H'/\MoreAt H' d 5000/\∃ o2 o3 o4 o5,σ=[some (.ref a),some (.ref d),o2,o3,o4,o5],?_,?_⟩
 ·refine i_len (.inl (s1.seq hS)) ?_
  rw[List.length_map]
  refine⟨⟨by omega,by omega⟩,for_range (λi σ H'=>Same H H'/\MoreAt H' d (60*i)/\∃ o2 o3 o4 o5,σ=[some (.ref a),some (.ref d),o2,o3,o4,o5]) ?_ ?_ ?_⟩
  ·exact⟨s1,⟨[],e1,by simp,by simp⟩,_,_,_,_,rfl⟩
  ·rintro i σ H2 hi ⟨s2,m2,o2,o3,o4,o5,rfl⟩
   have hi':i<ns.length:=by omega
   have hx:(ns.map V.int)[i]?=some (.int ns[i]):=by rw[List.getElem?_map,List.getElem?_eq_getElem hi'];rfl
   refine i_ix (.inl (s2.seq hS)) (v:=.int ns[i]) (by rw[show (0+(i:Int))=((i:Nat):Int) by omega];exact atI_nat hx) ?_
   have hab:0<=(if ns[i]<0 then -ns[i] else ns[i]):=by split<;>omega
   refine⟨⟨by decide,by decide,by decide⟩,dec2 (λc=>?_) (λc=>?_)⟩
   ·refine⟨.inl ⟨by decide,by decide⟩,by decide,.inr ⟨by decide,by decide⟩,by decide,?_⟩
    have b1:=Int.emod_lt_of_pos (((if ns[i]<0 then -ns[i] else ns[i])+7919*(0+(i:Int))+3) % 2147483647*48271) (show (0:Int)<2147483647 by decide)
    have b0:=mod_nn (((if ns[i]<0 then -ns[i] else ns[i])+7919*(0+(i:Int))+3) % 2147483647*48271) (show (0:Int)<2147483647 by decide)
    generalize ((if ns[i]<0 then -ns[i] else ns[i])+7919*(0+(i:Int))+3) % 2147483647*48271 % 2147483647=st at b1 b0
    refine⟨.inl ⟨by omega,by omega⟩,by decide,?_⟩
    have c1:=Int.emod_lt_of_pos (st*st) (show (0:Int)<2147483629 by decide)
    have c0:=mod_nn (st*st) (show (0:Int)<2147483629 by decide)
    generalize st*st % 2147483629=st at c1 c0
    refine⟨more_ty m2,⟨by decide,by decide⟩,by decide,more_app m2 (by omega) (mod_nn _ (by decide)) λH3 k3 m3=>?_⟩
    refine⟨more_ty m3,⟨by decide,by decide⟩,by decide,more_app m3 (by omega) (mod_nn _ (by decide)) λH4 k4 m4=>?_⟩
    refine⟨.inl ⟨by decide,by decide⟩,by decide,?_⟩
    have d1:=Int.emod_lt_of_pos (st+40692*(0+(i:Int)+7)) (show (0:Int)<2147483587 by decide)
    have d0:=mod_nn (st+40692*(0+(i:Int)+7)) (show (0:Int)<2147483587 by decide)
    generalize (st+40692*(0+(i:Int)+7)) % 2147483587=st at d1 d0
    refine⟨more_ty m4,.inl ⟨by omega,by omega⟩,by decide,⟨by decide,by decide⟩,by decide,more_app m4 (by omega) (mod_nn _ (by decide)) λH5 k5 m5=>?_⟩
    exact⟨((s2.new k3 hd).new k4 hd).new k5 hd,m5.le (by omega),_,_,_,_,rfl⟩
   ·refine while_m (λmm σ H'=>Same H H'/\∃ (rest:Int) (many:Nat),0<=rest/\many<=60/\mm=60-many/\MoreAt H' d (60*i+many)/\σ=[some (.ref a),some (.ref d),some (.int (0+(i:Int))),some (.int rest),o4,some (.int many)]) 60 ⟨s2,(if ns[i]<0 then -ns[i] else ns[i]),0,hab,by omega,rfl,m2,rfl⟩ ?_
    rintro mm σ H3 ⟨s3,rest,many,hr0,hm60,hmm,m3,rfl⟩
    refine dec2 (λc1=>dec2 (λc2=>?_) (λc2=>?_)) (λc1=>bF ?_)
    ·refine⟨more_ty m3,by decide,more_app m3 (by omega) (mod_nn _ (by decide)) λH4 k4 m4=>?_⟩
     refine⟨⟨by decide,by decide⟩,?_⟩
     refine⟨60-(many+1),by omega,s3.new k4 hd,rest / 1000,many+1,by omega,by omega,rfl,m4,rfl⟩
    ·exact⟨s3,m3.le (by omega),_,_,_,_,rfl⟩
    ·exact⟨s3,m3.le (by omega),_,_,_,_,rfl⟩
  ·rintro σ H' ⟨h1,h2,o⟩
   refine⟨h1,h2.le ?_,o⟩
   omega
 ·rintro σ H' ⟨s',⟨ds,e,h0,hl⟩,o2,o3,o4,o5,rfl⟩
  refine i_sl (SqL.of e) λp H2 hp s2 e2=>?_
  rw[cutV_ints] at e2
  refine q p H2 (s'.free hp) (s'.trans s2) ⟨_,e2,λx hx=>h0 x (List.mem_of_mem_drop (List.mem_of_mem_take hx)),?_⟩
  have e240:HT.sIx ds.length ds.length (some 240)=min 240 ds.length:=HT.sIx_nat ..
  rw[List.length_take,e240];omega
theorem zqe6 (B:Bl mg)(F:Fun K "_law_take" "_law_take" zq1s f fd):FnOk P w K mg base CX0 1 f fd ["draws","many"] zq11:=by
 refine F.okq zqe5 (λvs H Q E h=>?_) (λcdv A outer s H vs Q E hr h=>?_)
 ·obtain⟨d,lim,rfl,_⟩:=h;rfl
 obtain⟨d,lim,rfl,⟨ds,e,h0,hl⟩,l0,q⟩:=h
 refine⟨zqeq B  hr,?_⟩
 refine i_newL (by show 0<=sizeLine;decide) λp H1 hp s1 e1=>?_
 refine i_eqI (ns:=ds) (ms:=[]) (SqL.of (s1 _ _ e)) (SqL.of e1) (dec2 (λc=>?_) (λc=>?_))
 ·exact q 0 H1 (by omega) l0 ⟨ds,s1 _ _ e,h0,hl⟩ s1.kp
 ·cases ds with
  | nil=>exact absurd rfl c
  | cons x ds =>
  refine⟨i_tyL (s1 _ _ e),i_popAt 0 (s1 _ _ e) rfl (by decide) rfl λH2 k2 e2=>⟨l0,?_⟩⟩
  refine q _ H2 (mod_nn _ l0) (Int.emod_lt_of_pos _ l0) ⟨ds,e2,λy hy=>h0 y (List.mem_cons_of_mem _ hy),by simp at hl;omega⟩ (s1.kp.trans k2)
abbrev zq1:Stmt:=top 37
theorem zqp:FnScope ["draws","most","many","bases","base","mixed","one","other","third","free","likes","found","k","at","turn","number","shape"] ["draws","most"] (defScope zq1):=⟨rfl,rfl,rfl,by decide +kernel,rfl,by decide +kernel,by decide +kernel⟩
theorem zqdn:Loc (defScope zq1) "at":=Or.inl (by kernel_rfl)
theorem zq8b:Loc (defScope zq1) "base":=Or.inl (by kernel_rfl)
theorem zqbm:Loc (defScope zq1) "bases":=Or.inl (by kernel_rfl)
theorem zqbn:Loc (defScope zq1) "found":=Or.inr (by kernel_rfl)
theorem zqck:Loc (defScope zq1) "free":=Or.inl (by kernel_rfl)
theorem zqe7:Loc (defScope zq1) "k":=Or.inl (by kernel_rfl)
theorem zqbo:Loc (defScope zq1) "likes":=Or.inl (by kernel_rfl)
theorem zq8c:Loc (defScope zq1) "many":=Or.inl (by kernel_rfl)
theorem zqbp:Loc (defScope zq1) "mixed":=Or.inl (by kernel_rfl)
theorem zqau:Loc (defScope zq1) "number":=Or.inl (by kernel_rfl)
theorem zqd5:Loc (defScope zq1) "one":=Or.inl (by kernel_rfl)
theorem zqbq:Loc (defScope zq1) "other":=Or.inl (by kernel_rfl)
theorem zqbr:Loc (defScope zq1) "shape":=Or.inl (by kernel_rfl)
theorem zqbs:Loc (defScope zq1) "third":=Or.inl (by kernel_rfl)
theorem zq8d:Loc (defScope zq1) "turn":=Or.inl (by kernel_rfl)
theorem zq36:Vis (defScope zq1) "at":=Or.inl (by kernel_rfl)
theorem zq41:Vis (defScope zq1) "base":=Or.inl (by kernel_rfl)
theorem zq7o:Vis (defScope zq1) "bases":=Or.inl (by kernel_rfl)
theorem zqh:Vis (defScope zq1) "draws":=Or.inl (by kernel_rfl)
theorem zq2q:Vis (defScope zq1) "found":=Or.inr (Or.inl (by kernel_rfl))
theorem zqcl:Vis (defScope zq1) "free":=Or.inl (by kernel_rfl)
theorem zqe8:Vis (defScope zq1) "k":=Or.inl (by kernel_rfl)
theorem zqbt:Vis (defScope zq1) "likes":=Or.inl (by kernel_rfl)
theorem zq8e:Vis (defScope zq1) "many":=Or.inl (by kernel_rfl)
theorem zqbu:Vis (defScope zq1) "mixed":=Or.inl (by kernel_rfl)
theorem zq5s:Vis (defScope zq1) "most":=Or.inl (by kernel_rfl)
theorem zqav:Vis (defScope zq1) "number":=Or.inl (by kernel_rfl)
theorem zqd6:Vis (defScope zq1) "one":=Or.inl (by kernel_rfl)
theorem zqbv:Vis (defScope zq1) "other":=Or.inl (by kernel_rfl)
theorem zq56:Vis (defScope zq1) "shape":=Or.inl (by kernel_rfl)
theorem zqbw:Vis (defScope zq1) "third":=Or.inl (by kernel_rfl)
theorem zq37:Vis (defScope zq1) "turn":=Or.inl (by kernel_rfl)
theorem zq8:(defScope zq1).names.lookup ("_law_take":Str)=some NameKind.globalImplicit:=by kernel_rfl
theorem zq97:(defScope zq1).names.lookup ("int":Str)=some NameKind.globalImplicit:=by kernel_rfl
theorem zqd7:(defScope zq1).names.lookup ("len":Str)=some NameKind.globalImplicit:=by kernel_rfl
theorem zqd8:(defScope zq1).names.lookup ("min":Str)=some NameKind.globalImplicit:=by kernel_rfl
theorem zqbx:(defScope zq1).names.lookup ("range":Str)=some NameKind.globalImplicit:=by kernel_rfl
theorem zq76:(defScope zq1).names.lookup ("sorted":Str)=some NameKind.globalImplicit:=by kernel_rfl
def zqf1 {cdv:Value}{A:Around}{outer:List Env}{s:Shared}{H:Hp}{E:XK}(B:Bl mg)(zq0:Def P w K mg base 1 "_law_take" ["draws","many"] zq11)(hr:Room 1 (A.deeper (PyProof.Rows.envOfC "_law_row" (defScope zq1) s.heap.objs.size f cdv))) :
  { t:TS // QB (cxOf CX0 P w K mg base ["draws","most","many","bases","base","mixed","one","other","third","free","likes","found","k","at","turn","number","shape"] "_law_row" (defScope zq1) f cdv A outer s H E).nox (defBody zq1) t } :=
 ⟨_,(qb_cons (qs_set (i:=2) zqp.nd rfl zq8c (.inl rfl) (qe_cB (kMin (K:=K) rfl rfl) zqd8 B.min boot_min' (qa_cons (qv 1 rfl zq5s) (qa_cons (qe_op opAdd qe_int (qe_def zq0 hr (by decide) zq8 (qa_cons (qv 0 rfl zqh) (qa_cons qe_int qa_nil)))) qa_nil))))
  (qb_mid (qs_if (qt_cmp (kEqG (K:=K) rfl hr) (qe_def zq0 hr (by decide) zq8 (qa_cons (qv 0 rfl zqh) (qa_cons qe_int qa_nil))) qe_int) (qb_one (qs_set (i:=2) zqp.nd rfl zq8c (.inl rfl) (ke_ix (K:=K) rfl (qe_lst (qa_cons (qv 1 rfl zq5s) (qa_cons (qe_op opAdd qe_int (qe_def zq0 hr (by decide) zq8 (qa_cons (qv 0 rfl zqh) (qa_cons (qv 1 rfl zq5s) qa_nil)))) qa_nil))) (qe_def zq0 hr (by decide) zq8 (qa_cons (qv 0 rfl zqh) (qa_cons qe_int qa_nil))) (λ_ _=>rfl)))) qb_nil)
  (qb_cons (qs_set (i:=3) zqp.nd rfl zqbm (.inl rfl) (qe_lst (qa_cons qe_int (qa_cons qe_int (qa_cons qe_int (qa_cons qe_int (qa_cons qe_int (qa_cons (qe_op opPow qe_int qe_int) (qa_cons (qe_op opPow qe_int qe_int) (qa_cons (qe_op opAdd (qe_op opPow qe_int qe_int) qe_int) qa_nil))))))))))
  (qb_cons (qs_set (i:=4) zqp.nd rfl zq8b (.inl rfl) (ke_ix (K:=K) rfl (qv 3 rfl zq7o) (qe_def zq0 hr (by decide) zq8 (qa_cons (qv 0 rfl zqh) (qa_cons qe_int qa_nil))) (λ_ _=>rfl)))
  (qb_cons (qs_set (i:=5) zqp.nd rfl zqbp (.inl rfl) (qe_cmp (kEqG (K:=K) rfl hr) (qe_def zq0 hr (by decide) zq8 (qa_cons (qv 0 rfl zqh) (qa_cons qe_int qa_nil))) qe_int))
  (qb_cons (qs_set (i:=6) zqp.nd rfl zqd5 (.inl rfl) (qe_def zq0 hr (by decide) zq8 (qa_cons (qv 0 rfl zqh) (qa_cons qe_int qa_nil))))
  (qb_cons (qs_set (i:=7) zqp.nd rfl zqbq (.inl rfl) (qe_op opAdd qe_int (qe_def zq0 hr (by decide) zq8 (qa_cons (qv 0 rfl zqh) (qa_cons qe_int qa_nil)))))
  (qb_cons (qs_set (i:=8) zqp.nd rfl zqbs (.inl rfl) (qe_def zq0 hr (by decide) zq8 (qa_cons (qv 0 rfl zqh) (qa_cons qe_int qa_nil))))
  (qb_cons (qs_set (i:=9) zqp.nd rfl zqck (.inl rfl) (qe_cmp (kEqG (K:=K) rfl hr) (qe_def zq0 hr (by decide) zq8 (qa_cons (qv 0 rfl zqh) (qa_cons qe_int qa_nil))) qe_int))
  (qb_cons (qs_set (i:=10) zqp.nd rfl zqbo (.inl rfl) (ke_ix (K:=K) rfl (qe_lst (qa_cons qe_int (qa_cons qe_int (qa_cons (qe_op opAdd qe_int (qe_def zq0 hr (by decide) zq8 (qa_cons (qv 0 rfl zqh) (qa_cons qe_int qa_nil)))) qa_nil)))) (qe_def zq0 hr (by decide) zq8 (qa_cons (qv 0 rfl zqh) (qa_cons qe_int qa_nil))) (λ_ _=>rfl)))
  (qb_cons (qs_set (i:=11) zqp.nd rfl zqbn (.inl rfl) (qe_lst qa_nil))
  (qb_mid (qs_for PassesOwn.never rfl (qi_r1 zqbx B.range (qa_cons (qv 2 rfl zq8e) qa_nil)) (qg_name (i:=12) zqp.nd rfl zqe7 (.inl rfl)) (qb_cons (qs_set (i:=13) zqp.nd rfl zqdn (.inl rfl) (qe_op opFdiv (qv 12 rfl zqe8) (qv 10 rfl zqbt)))
  (qb_cons (qs_set (i:=14) zqp.nd rfl zq8d (.inl rfl) (qe_op opMod (qe_op opAdd (qe_op opAdd (qe_op opAdd (qe_op opMul (qe_op opMul (qv 13 rfl zq36) (qv 13 rfl zq36)) (qv 6 rfl zqd6)) (qe_op opMul (qv 13 rfl zq36) (qv 7 rfl zqbv))) (qe_op opMul (qe_op opFdiv (qv 13 rfl zq36) qe_int) qe_int)) (qv 8 rfl zqbw)) qe_int))
  (qb_mid (qs_if (kt_val (K:=K) rfl (qv 5 rfl zqbu)) (qb_one (qs_set (i:=4) zqp.nd rfl zq8b (.inl rfl) (ke_ix (K:=K) rfl (qv 3 rfl zq7o) (qe_op opMod (qe_op opAdd (qv 14 rfl zq37) (qe_op opMul (qv 13 rfl zq36) (qv 13 rfl zq36))) qe_int) (λ_ _=>rfl)))) qb_nil)
  (qb_mid (qs_if (QW.pt (qw_or (qt_cmp opLt (qv 2 rfl zq8e) qe_int) (qw_or1 (QW.pt (qw_and (kt_val (K:=K) rfl (qv 9 rfl zqcl)) (qw_and1 (qt_cmp opGt (qe_cB (kLen (K:=K) rfl) zqd7 B.len boot_len' (qa_cons (qv 0 rfl zqh) qa_nil)) qe_int))))))) (qb_one (qs_set (i:=14) zqp.nd rfl zq8d (.inl rfl) (qe_def zq0 hr (by decide) zq8 (qa_cons (qv 0 rfl zqh) (qa_cons qe_int qa_nil))))) qb_nil)
  (qb_cons (qs_set (i:=15) zqp.nd rfl zqau (.inl rfl) (ke_ix (K:=K) rfl (qe_lst (qa_cons (qe_op opMod (qv 14 rfl zq37) (qv 4 rfl zq41)) (qa_cons (qe_op opAdd (qe_op opMul (qv 14 rfl zq37) (qe_op opFdiv (qv 4 rfl zq41) qe_int)) (qe_op opMod (qv 14 rfl zq37) qe_int)) qa_nil))) (qe_cT callInt zq97 B.int boot_int (qa_cons (qe_cmp opGt (qv 4 rfl zq41) qe_int) qa_nil)) (λ_ _=>rfl)))
  (qb_one (qs_ex (ke_m1 (K:=K) rfl PySem.F.plainAttrs_list PySem.F.slot_list_append PySem.F.type_list_append mtApp (qv 11 rfl zq2q) (ke_ix (K:=K) rfl (qe_lst (qa_cons (qv 15 rfl zqav) (qa_cons (qe_op opPow qe_int qe_int) qa_nil))) (qe_cT callInt zq97 B.int boot_int (qa_cons (ke_and (K:=K) rfl (qe_cmp opGt (qv 4 rfl zq41) (qe_op opPow qe_int qe_int)) (qe_one (qe_cmp (kEqG (K:=K) rfl hr) (qe_op opMod (qv 14 rfl zq37) qe_int) qe_int))) qa_nil)) (λ_ _=>rfl)))))))))))
  (qb_cons (qs_set (i:=16) zqp.nd rfl zqbr (.inl rfl) (qe_def zq0 hr (by decide) zq8 (qa_cons (qv 0 rfl zqh) (qa_cons qe_int qa_nil))))
  (qb_cons (qs_if (qt_cmp (kEqG (K:=K) rfl hr) (qv 16 rfl zq56) qe_int) (qb_one (qs_ret (qe_cB (kSorted (K:=K) rfl) zq76 B.sorted boot_sorted' (qa_cons (qv 11 rfl zq2q) qa_nil)))) qb_nil)
  (qb_cons (qs_if (qt_cmp (kEqG (K:=K) rfl hr) (qv 16 rfl zq56) qe_int) (qb_one (qs_ret (qe_rev (K:=K) rfl (qe_cB (kSorted (K:=K) rfl) zq76 B.sorted boot_sorted' (qa_cons (qv 11 rfl zq2q) qa_nil)) (qo_some (qe_un unNeg qe_int))))) qb_nil)
  (qb_cons (qs_if (qt_cmp (kEqG (K:=K) rfl hr) (qv 16 rfl zq56) qe_int) (qb_one (qs_ret (qe_cp ["number","found"] [none,some 11] rfl (ki_list (K:=K) rfl (qv 11 rfl zq2q)) (λ_ _ _ _ _ _=>(qg_name (i:=0) (show (["number","found"]:List Str).Nodup by decide +kernel) rfl (by first | exact Or.inl rfl | exact Or.inr rfl) (by first | exact .inl rfl | exact .inr rfl))) (λ_ _ _ _ _ _=>qif_nil) (λ_ _ _ _ _ _=>(ke_ix (K:=K) rfl (qe_lst (qa_cons qe_int (qa_cons (qv 0 rfl (by first | exact Or.inl rfl | exact Or.inr (Or.inl rfl) | exact Or.inr (Or.inr rfl))) qa_nil))) (qe_cT callInt rfl B.int boot_int (qa_cons (qe_cmp (kEqG (K:=K) rfl hr) (qv 0 rfl (by first | exact Or.inl rfl | exact Or.inr (Or.inl rfl) | exact Or.inr (Or.inr rfl))) (qe_cB (kMax (K:=K) rfl rfl) rfl B.max boot_max' (qa_cons (qv 1 rfl (by first | exact Or.inl rfl | exact Or.inr (Or.inl rfl) | exact Or.inr (Or.inr rfl))) qa_nil))) qa_nil)) (λ_ _=>rfl)))))) qb_nil)
  (qb_one (qs_ret (qv 11 rfl zq2q)))))))))))))))))))⟩
theorem atInts {ns:List Int}{g:Int}(h0:0<=g)(h1:g<ns.length):ns.getD g.toNat 0∈ns:=by
 have hk:g.toNat<ns.length:=by omega
 rw[List.getD_eq_getElem?_getD,List.getElem?_eq_getElem hk]
 exact List.getElem_mem hk
theorem at2 {x y:V}{g:Int}(h0:0<=g)(h1:g<2):atI [x,y] g=some (if g=0 then x else y):=by
 have:g=0\/g=1:=by omega
 rcases this with rfl | rfl<;>rfl
theorem at3 {x y z:V}{g:Int}(h0:0<=g)(h1:g<3):atI [x,y,z] g=some (if g=0 then x else if g=1 then y else z):=by
 have:g=0\/g=1\/g=2:=by omega
 rcases this with rfl | rfl | rfl<;>rfl
def bsL:List Int:=[1,2,3,10,100,10 ^ Int.toNat 5,10 ^ Int.toNat 9,10 ^ Int.toNat 12+1]
theorem bsL_ok:∀ z∈bsL,1<=z/\z<=1000000000001:=by decide
theorem bsL_at {g:Int}(h0:0<=g)(h1:g<8):1<=bsL.getD g.toNat 0/\bsL.getD g.toNat 0<=1000000000001:=bsL_ok _ (atInts h0 h1)
theorem num_ok {turn base:Int}(t0:0<=turn)(t1:turn<9973)(b0:1<=base)(b1:base<=1000000000001):(0<=turn % base/\(¬ 1000<base->turn % base<=1000))/\0<=turn*(base / 9973)+turn % 7/\turn*(base / 9973)+turn % 7<=1000000000000:=by
 have q0:0<=base / 9973:=by omega
 have q1:base / 9973<=100270731:=by omega
 have m0:0<=turn*(base / 9973):=Int.mul_nonneg t0 q0
 have m1:turn*(base / 9973)<=9972*100270731:=Int.mul_le_mul (by omega) q1 q0 (by decide)
 have h7:0<=turn % 7/\turn % 7<7:=by omega
 have e1:=Int.emod_nonneg turn (show base≠0 by omega)
 have e2:=Int.emod_lt_of_pos turn (show 0<base by omega)
 refine⟨⟨e1,λh=>by omega⟩,by omega,by omega⟩
theorem zqer (B:Bl mg)(zq0:Def P w K mg base 1 "_law_take" ["draws","many"] zq11)(F:Fun K "_law_row" "_law_row" zq1 f fd):FnOk P w K mg base CX0 2 f fd ["draws","most"] zq70:=by
 refine F.okq zqp (λvs H Q E h=>?_) (λcdv A outer s H vs Q E hr h=>?_)
 ·obtain⟨d,most,rfl,_⟩:=h;rfl
 obtain⟨d,most,rfl,hd,m1,m2,q⟩:=h
 refine⟨zqf1 B zq0 hr,?_⟩
 refine⟨d,12,rfl,hd,by decide,λg1 H1 g10 g11 hd1 k1=>?_⟩
 refine⟨λσ H'=>∃ many:Int,1<=many/\many<=most/\DrawsAt H' d/\Kp [d] H H'/\σ=[some (.ref d),some (.int most),some (.int many),none,none,none,none,none,none,none,none,none,none,none,none,none,none],?_,?_⟩
 ·refine⟨d,8,rfl,hd1,by decide,λg2 H2 g20 g21 hd2 k2=>dec2 (λc=>?_) (λc=>?_)⟩
  ·refine⟨d,most,rfl,hd2,by omega,λg3 H3 g30 g31 hd3 k3=>?_⟩
   refine i_newL (by show 2<=sizeLine;decide) λp4 H4 hp4 s4 e4=>?_
   refine⟨d,2,rfl,hd3.same s4,by decide,λg5 H5 g50 g51 hd5 k5=>?_⟩
   have n4:p4≠d:=(hd3.ne hp4).symm
   refine i_ix (.inl (SqL.of (k5.one n4 e4))) (at2 g50 g51) ?_
   refine⟨if g5=0 then most else 1+g3,by split<;>omega,by split<;>omega,hd5,((k1.trans k2).trans k3).trans (s4.kp.trans k5),?_⟩
   by_cases z:g5=0
   ·rw[if_pos z,if_pos z];rfl
   ·rw[if_neg z,if_neg z];rfl
  ·exact⟨min most (1+g1),by omega,by omega,hd2,k1.trans k2,rfl⟩
 rintro σ H2 ⟨many,mn1,mn2,hd2,k2,rfl⟩
 refine⟨⟨by decide,by decide,by decide⟩,⟨by decide,by decide,by decide⟩,⟨by decide,by decide,by decide⟩,?_⟩
 refine i_newL (by show 8<=sizeLine;decide) λbs H3 hbs s3 e3=>?_
 have nbs:bs≠d:=(hd2.ne hbs).symm
 have e3':H3 bs=some (.lst (bsL.map V.int)):=e3
 refine⟨d,8,rfl,hd2.same s3,by decide,λg4 H4 g40 g41 hd4 k4=>?_⟩
 refine i_ixI (k4.one nbs e3') g40 g41 ?_
 have bb0:=bsL_at g40 g41
 generalize hb0:bsL.getD g4.toNat 0=b0 at bb0
 have k34:Kp [d] H H4:=(k2.same s3).trans k4
 have eb4:=k4.one nbs e3'
 refine⟨d,4,rfl,hd4,by decide,λg5 H5 g50 g51 hd5 k5=>?_⟩
 refine⟨d,1000,rfl,hd5,by decide,λone H6 on0 on1 hd6 k6=>?_⟩
 refine⟨d,1000,rfl,hd6,by decide,λot H7 ot0 ot1 hd7 k7=>?_⟩
 refine⟨d,1000,rfl,hd7,by decide,λth H8 th0 th1 hd8 k8=>?_⟩
 refine⟨d,3,rfl,hd8,by decide,λfr H9 fr0 fr1 hd9 k9=>?_⟩
 refine⟨d,20,rfl,hd9,by decide,λlk H10 lk0 lk1 hd10 k10=>?_⟩
 refine i_newL (by show 3<=sizeLine;decide) λp11 H11 hp11 s11 e11=>?_
 refine⟨d,3,rfl,hd10.same s11,by decide,λg12 H12 g120 g121 hd12 k12=>?_⟩
 have n11:p11≠d:=(hd10.ne hp11).symm
 have hlk:∃ l:Int,(if g12=0 then V.int 1 else if g12=1 then V.int 1 else V.int (1+lk))=V.int l/\1<=l/\l<=20:=by
  by_cases z:g12=0
  ·exact⟨1,by rw[if_pos z],by decide,by decide⟩
  ·by_cases z1:g12=1
   ·exact⟨1,by rw[if_neg z,if_pos z1],by decide,by decide⟩
   ·exact⟨1+lk,by rw[if_neg z,if_neg z1],by omega,by omega⟩
 obtain⟨likes,el,l0,l1⟩:=hlk
 refine i_ix (.inl (SqL.of (k12.one n11 e11))) ((at3 g120 g121).trans (congrArg some el)) ?_
 have kA:Kp [d] H4 H10:=((((k5.trans k6).trans k7).trans k8).trans k9).trans k10
 have kB:Kp [d] H4 H12:=(kA.same s11).trans k12
 have k12':Kp [d] H H12:=k34.trans kB
 have eb12:=kB.one nbs eb4
 generalize hmx:decide (g5=1)=mixed
 generalize hfr:decide (fr=1)=free
 refine i_newL (by show 0<=sizeLine;decide) λfo H13 hfo s13 e13=>?_
 have nfo:fo≠d:=(hd12.ne hfo).symm
 have nfb:bs≠fo:=ne_of_none eb12 hfo
 have hfo0:H fo=none:=k12'.free (by simpa using nfo) hfo
 refine⟨λσ H'=>∃ (base:Int) (ns:List Int) (o12 o13 o14 o15:Option V),(ns.length:Int)=many/\(∀ z∈ns,0<=z/\z<=1000000000000)/\DrawsAt H' d/\Kp [d] H H'/\H' fo=some (.lst (ns.map V.int))/\σ=[some (.ref d),some (.int most),some (.int many),some (.ref bs),some (.int base),some (.bl mixed),some (.int one),some (.int (1+ot)),some (.int th),some (.bl free),some (.int likes),some (.ref fo),o12,o13,o14,o15,none],?_,?_⟩
 ·refine⟨⟨by omega,by omega⟩,for_range (λi σ H'=>∃ (base:Int) (ns:List Int) (o12 o13 o14 o15:Option V),1<=base/\base<=1000000000001/\ns.length=i/\(∀ z∈ns,0<=z/\z<=1000000000000)/\DrawsAt H' d/\Kp [d] H H'/\H' bs=some (.lst (bsL.map V.int))/\H' fo=some (.lst (ns.map V.int))/\σ=[some (.ref d),some (.int most),some (.int many),some (.ref bs),some (.int base),some (.bl mixed),some (.int one),some (.int (1+ot)),some (.int th),some (.bl free),some (.int likes),some (.ref fo),o12,o13,o14,o15,none]) ?_ ?_ ?_⟩
  ·exact⟨b0,[],_,_,_,_,bb0.1,bb0.2,rfl,by simp,hd12.same s13,k12'.same s13,s13 _ _ eb12,e13,by first | rfl | (subst hmx;subst hfr;rfl) | (subst hmx;subst hfr;subst hb0;rfl)⟩
  ·rintro i σ H14 hi ⟨base,ns,o12,o13,o14,o15,ba0,ba1,hl,hz,hd14,k14,eb14,ef14,rfl⟩
   have hi':(i:Int)<many:=by omega
   refine⟨⟨by omega,by omega⟩,?_⟩
   have at0:0<=(0+(i:Int)) / likes:=Int.ediv_nonneg (by omega) (by omega)
   have at1:(0+(i:Int)) / likes<=120:=by
    have:=Int.ediv_le_self likes (show 0<=(0+(i:Int)) by omega)
    omega
   generalize (0+(i:Int)) / likes=at_ at at0 at1
   refine⟨.inl ⟨by omega,by omega⟩,.inr ⟨by omega,by omega⟩,.inl ⟨by omega,by omega⟩,⟨by decide,by decide⟩,.inr ⟨by decide,by decide⟩,by decide,?_⟩
   have tn1:=Int.emod_lt_of_pos (at_*at_*one+at_*(1+ot)+at_ / 7*31+th) (show (0:Int)<9973 by decide)
   have tn0:=Int.emod_nonneg (at_*at_*one+at_*(1+ot)+at_ / 7*31+th) (show (9973:Int)≠0 by decide)
   generalize (at_*at_*one+at_*(1+ot)+at_ / 7*31+th) % 9973=turn at tn1 tn0
   refine⟨λσ H'=>∃ base:Int,1<=base/\base<=1000000000001/\H'=H14/\σ=[some (.ref d),some (.int most),some (.int many),some (.ref bs),some (.int base),some (.bl mixed),some (.int one),some (.int (1+ot)),some (.int th),some (.bl free),some (.int likes),some (.ref fo),some (.int (0+(i:Int))),some (.int at_),some (.int turn),o15,none],?_,?_⟩
   ·refine b2 (λc=>?_) (λc=>?_)
    ·refine⟨.inl ⟨by omega,by omega⟩,by decide,?_⟩
     have x0:=Int.emod_nonneg (turn+at_*at_) (show (8:Int)≠0 by decide)
     have x1:=Int.emod_lt_of_pos (turn+at_*at_) (show (0:Int)<8 by decide)
     have:=bsL_at x0 x1
     exact i_ixI eb14 x0 x1 ⟨_,this.1,this.2,rfl,rfl⟩
    ·exact⟨base,ba0,ba1,rfl,rfl⟩
   rintro σ H' ⟨base,ba0,ba1,rfl,rfl⟩
   refine⟨λσ H15=>∃ turn:Int,0<=turn/\turn<9973/\DrawsAt H15 d/\Kp [d] H' H15/\σ=[some (.ref d),some (.int most),some (.int many),some (.ref bs),some (.int base),some (.bl mixed),some (.int one),some (.int (1+ot)),some (.int th),some (.bl free),some (.int likes),some (.ref fo),some (.int (0+(i:Int))),some (.int at_),some (.int turn),o15,none],?_,?_⟩
   ·have tk:∀ (D:Ends) (σ:St),True:=λ_ _=>trivial
    refine dec2 (λc=>bT ?_) (λc=>b2 (λc1=>?_) (λc1=>bF ?_))
    ·exact⟨d,1000,rfl,hd14,by decide,λg H15 g0 g1 hd15 k15=>⟨g,g0,by omega,hd15,k15,rfl⟩⟩
    ·obtain⟨ds,ed,hd0,hdl⟩:=hd14
     refine i_lenI ed (dec2 (λc2=>?_) (λc2=>?_))
     ·exact⟨d,1000,rfl,⟨ds,ed,hd0,hdl⟩,by decide,λg H15 g0 g1 hd15 k15=>⟨g,g0,by omega,hd15,k15,rfl⟩⟩
     ·exact⟨turn,tn0,tn1,⟨ds,ed,hd0,hdl⟩,Kp.refl _ _,rfl⟩
    ·exact⟨turn,tn0,tn1,hd14,Kp.refl _ _,rfl⟩
   rintro σ H15 ⟨turn,tn0,tn1,hd15,k15,rfl⟩
   obtain⟨⟨na,nb⟩,nc,nd⟩:=num_ok tn0 tn1 ba0 ba1
   refine⟨by omega,⟨by decide,by decide⟩,.inl ⟨by omega,by omega⟩,by decide,?_⟩
   refine i_newL (by show 2<=sizeLine;decide) λp16 H16 hp16 s16 e16=>?_
   have hnum:∃ number:Int,atI [V.int (turn % base),V.int (turn*(base / 9973)+turn % 7)] (if decide (1000<base)=true then 1 else 0)=some (.int number)/\0<=number/\number<=1000000000000:=by
    by_cases z:1000<base
    ·exact⟨_,by rw[decide_eq_true z,if_pos rfl];rfl,nc,nd⟩
    ·exact⟨_,by rw[decide_eq_false z,if_neg (by decide)];rfl,na,by have:=nb z;omega⟩
   obtain⟨number,enu,nu0,nu1⟩:=hnum
   refine i_ix (.inl (SqL.of e16)) enu ?_
   have hp16':=hp16
   have ef16:=s16 _ _ (k15.one nfo ef14)
   have eb16:=s16 _ _ (k15.one nbs eb14)
   have kk16:Kp [d] H H16:=(k14.trans k15).same s16
   refine⟨i_tyL ef16,⟨by decide,by decide,by decide⟩,?_⟩
   refine i_newL (by show 2<=sizeLine;decide) λp17 H17 hp17 s17 e17=>?_
   have pick:∀ bb:Bool,∃ z:Int,atI [V.int number,V.int (10 ^ Int.toNat 12)] (if bb=true then 1 else 0)=some (.int z)/\0<=z/\z<=1000000000000:=λbb=>by
    cases bb
    ·exact⟨number,rfl,nu0,nu1⟩
    ·exact⟨10 ^ Int.toNat 12,rfl,by decide,by decide⟩
   have put:∀ (bb:Bool) (Q':VK),(∀ (z:Int) (H':Hp),0<=z->z<=1000000000000->Kp [fo] H17 H'->H' fo=some (.lst ((ns++[z]).map V.int))->Q' .non H')->hIx K p17 (if bb=true then 1 else 0) H17 (λy H1=>hApp fo y H1 Q'):=λbb Q' hq=>by
    obtain⟨z,ez,z0,z1⟩:=pick bb
    exact i_ix (.inl (SqL.of e17)) ez (i_appI (s17 _ _ ef16) (by omega) λH18 k18 e18=>hq z H18 z0 z1 k18 e18)
   have fin:∀ (z:Int) (H18:Hp),0<=z->z<=1000000000000->Kp [fo] H17 H18->H18 fo=some (.lst ((ns++[z]).map V.int))->∀ σ:St,σ=[some (.ref d),some (.int most),some (.int many),some (.ref bs),some (.int base),some (.bl mixed),some (.int one),some (.int (1+ot)),some (.int th),some (.bl free),some (.int likes),some (.ref fo),some (.int (0+(i:Int))),some (.int at_),some (.int turn),some (.int number),none]->∃ (base:Int) (ns':List Int) (o12 o13 o14 o15:Option V),1<=base/\base<=1000000000001/\ns'.length=i+1/\(∀ z∈ns',0<=z/\z<=1000000000000)/\DrawsAt H18 d/\Kp [d] H H18/\H18 bs=some (.lst (bsL.map V.int))/\H18 fo=some (.lst (ns'.map V.int))/\σ=[some (.ref d),some (.int most),some (.int many),some (.ref bs),some (.int base),some (.bl mixed),some (.int one),some (.int (1+ot)),some (.int th),some (.bl free),some (.int likes),some (.ref fo),o12,o13,o14,o15,none]:=λz H18 z0 z1 k18 e18 σ hσ =>
    ⟨base,ns++[z],_,_,_,_,ba0,ba1,by simp[hl],λy hy=>by
     rcases List.mem_append.mp hy with hy | hy
     ·exact hz y hy
     ·have:y=z:=by simpa using hy
      subst this;exact⟨z0,z1⟩,((hd15.same s16).same s17).kp k18 (by simpa using Ne.symm nfo),(kk16.same s17).new k18 hfo0,k18.one nfb (s17 _ _ eb16),e18,hσ⟩
   refine⟨⟨by decide,by decide,by decide⟩,dec2 (λc=>⟨by decide,?_⟩) (λc=>?_)⟩
   ·exact put _ _ λz H18 z0 z1 k18 e18=>fin z H18 z0 z1 k18 e18 _ rfl
   ·refine put _ _ λz H18 z0 z1 k18 e18=>?_
    exact fin z H18 z0 z1 k18 e18 _ rfl
  ·rintro σ H' ⟨base,ns,o12,o13,o14,o15,_,_,h1,h2,h3,h4,_,h5,rfl⟩
   exact⟨base,ns,o12,o13,o14,o15,by omega,h2,h3,h4,h5,rfl⟩
 rintro σ H14 ⟨base,ns,o12,o13,o14,o15,hl,hz,hd14,k14,e14,rfl⟩
 refine⟨d,8,rfl,hd14,by decide,λsh H15 sh0 sh1 hd15 k15=>?_⟩
 have e15:=k15.one nfo e14
 have kk15:=k14.trans k15
 have rowN:∀ ms:List Int,ms.length=ns.length->(∀ z∈ms,0<=z/\z<=1000000000000)->RowN ms:=λms h1 h2=>⟨by omega,by omega,λn hn=>(h2 n hn).1,λn hn=>(h2 n hn).2⟩
 refine dec2 (λc=>?_) (λc=>?_)
 ·refine i_sorted (SqL.of e15) (by omega) λp16 H16 ns' hperm hp16 s16 e16=>?_
  have n16:p16≠d:=(hd15.ne hp16).symm
  exact q p16 ns' H16 (rowN _ hperm.length_eq λz hz'=>hz z (hperm.mem_iff.mp hz')) (by rw[hperm.length_eq];omega) (hd15.same s16) (kk15.same s16) e16 n16 (kk15.free (by simpa using n16) hp16)
 refine dec2 (λc=>?_) (λc=>?_)
 ·refine i_sorted (SqL.of e15) (by omega) λp16 H16 ns' hperm hp16 s16 e16=>?_
  refine⟨rfl,i_rev (SqL.of e16) λp17 H17 hp17 s17 e17=>?_⟩
  have n17:p17≠d:=((hd15.same s16).ne hp17).symm
  have e17':H17 p17=some (.lst (ns'.reverse.map V.int)):=by rw[e17,List.map_reverse]
  exact q p17 ns'.reverse H17 (rowN _ (by rw[List.length_reverse];exact hperm.length_eq) λz hz'=>hz z (hperm.mem_iff.mp (List.mem_reverse.mp hz'))) (by rw[List.length_reverse,hperm.length_eq];omega) ((hd15.same s16).same s17) ((kk15.same s16).same s17) e17' n17 ((kk15.same s16).free (by simpa using n17) hp17)
 refine dec2 (λc=>?_) (λc=>?_)
 ·have hne:ns≠[]:=λz=>by rw[z] at hl;simp at hl;omega
  refine⟨⟨_,SqL.of e15⟩,comp_lst (ns.map V.int) (λi D σ H' ys=>∃ ws:List Int,ys=ws.map V.int/\ws.length=i/\(∀ z∈ws,0<=z/\z<=1000000000000)/\Same H15 H'/\∃ o,σ=[o,some (.ref fo)]) ?_ ?_ ?_ ?_⟩
  ·intro D H' hD s' e'
   exact⟨[],rfl,rfl,by simp,s',_,rfl⟩
  ·rintro i D σ H' ys hD ⟨_,_,_,_,s',_⟩
   exact SqL.of (s' _ _ e15)
  ·rintro i x D σ H' ys hx hD ⟨ws,rfl,hlw,hw,s',o,rfl⟩ eD
   obtain⟨z,rfl,hz1,hz2⟩:=vints_at hx
   have hi:i<ns.length:=(List.getElem?_eq_some_iff.mp hz1).1
   refine bT (i_newL (by show 2<=sizeLine;decide) λp17 H17 hp17 s17 e17=>?_)
   refine i_max (SqL.of (s17 _ _ (s' _ _ e15))) hne λM hM hmax=>?_
   have pick:∀ bb:Bool,∃ y:Int,atI [V.int 0,V.int z] (if bb=true then 1 else 0)=some (.int y)/\0<=y/\y<=1000000000000:=λbb=>by
    cases bb
    ·exact⟨0,rfl,by decide,by decide⟩
    ·exact⟨z,rfl,(hz z hz2).1,(hz z hz2).2⟩
   obtain⟨y,ey,y0,y1⟩:=pick (decide (z=M))
   refine i_ix (.inl (SqL.of e17)) ey ?_
   refine⟨s17 _ _ eD,sz_lt (by rw[List.length_map];omega),λH18 k18 e18=>⟨ws++[y],map_snoc ws _,by simp[hlw],λv hv=>?_,(s'.trans s17).new k18 hD,_,rfl⟩⟩
   rcases List.mem_append.mp hv with hv | hv
   ·exact hw v hv
   ·have:v=y:=by simpa using hv
    subst this;exact⟨y0,y1⟩
  ·rintro D σ H' ys hD ⟨ws,rfl,hlw,hw,s',_⟩ eD
   rw[List.length_map] at hlw
   have nD:D≠d:=(hd15.ne hD).symm
   exact q D ws H' (rowN _ hlw hw) (by rw[hlw];omega) (hd15.same s') (kk15.same s') eD nD (kk15.free (by simpa using nD) hD)
 ·exact q fo ns H15 (rowN _ rfl hz) (by omega) hd15 kk15 e15 nfo hfo0
abbrev zqo:Stmt:=top 38
theorem zq98:FnScope ["draws","row","some"] ["draws","row"] (defScope zqo):=⟨rfl,rfl,rfl,by decide +kernel,rfl,by decide +kernel,by decide +kernel⟩
theorem zqa6:Loc (defScope zqo) "some":=Or.inl (by kernel_rfl)
theorem zq3w:Vis (defScope zqo) "draws":=Or.inl (by kernel_rfl)
theorem zq4r:Vis (defScope zqo) "row":=Or.inl (by kernel_rfl)
theorem zqa7:Vis (defScope zqo) "some":=Or.inl (by kernel_rfl)
theorem zq2u:(defScope zqo).names.lookup ("_law_take":Str)=some NameKind.globalImplicit:=by kernel_rfl
theorem zq4s:(defScope zqo).names.lookup ("len":Str)=some NameKind.globalImplicit:=by kernel_rfl
theorem zqaw:(defScope zqo).names.lookup ("min":Str)=some NameKind.globalImplicit:=by kernel_rfl
def zqdo {cdv:Value}{A:Around}{outer:List Env}{s:Shared}{H:Hp}{E:XK}(B:Bl mg)(zq0:Def P w K mg base 1 "_law_take" ["draws","many"] zq11)(hr:Room 1 (A.deeper (PyProof.Rows.envOfC "_law_pieces" (defScope zqo) s.heap.objs.size f cdv))) :
  { t:TS // QB (cxOf CX0 P w K mg base ["draws","row","some"] "_law_pieces" (defScope zqo) f cdv A outer s H E).nox (defBody zqo) t } :=
 ⟨_,(qb_cons (qs_set (i:=2) zq98.nd rfl zqa6 (.inl rfl) (qe_lst (qa_cons qe_int (qa_cons (qe_cB (kLen (K:=K) rfl) zq4s B.len boot_len' (qa_cons (qv 1 rfl zq4r) qa_nil)) (qa_cons (qe_cB (kMin (K:=K) rfl rfl) zqaw B.min boot_min' (qa_cons (qe_cB (kLen (K:=K) rfl) zq4s B.len boot_len' (qa_cons (qv 1 rfl zq4r) qa_nil)) (qa_cons (qe_op opAdd qe_int (qe_def zq0 hr (by decide) zq2u (qa_cons (qv 0 rfl zq3w) (qa_cons qe_int qa_nil)))) qa_nil))) (qa_cons (qe_op opAdd qe_int (qe_op opMod (qe_def zq0 hr (by decide) zq2u (qa_cons (qv 0 rfl zq3w) (qa_cons qe_int qa_nil))) (qe_cB (kLen (K:=K) rfl) zq4s B.len boot_len' (qa_cons (qv 1 rfl zq4r) qa_nil)))) qa_nil))))))
  (qb_one (qs_ret (ke_ix (K:=K) rfl (qv 2 rfl zqa7) (ke_ix (K:=K) rfl (qe_lst (qa_cons qe_int (qa_cons qe_int (qa_cons qe_int (qa_cons qe_int (qa_cons qe_int (qa_cons qe_int (qa_cons qe_int qa_nil)))))))) (qe_def zq0 hr (by decide) zq2u (qa_cons (qv 0 rfl zq3w) (qa_cons qe_int qa_nil))) (λ_ _=>rfl)) (λ_ _=>rfl)))))⟩
theorem zqd9 (B:Bl mg)(zq0:Def P w K mg base 1 "_law_take" ["draws","many"] zq11)(F:Fun K "_law_pieces" "_law_pieces" zqo f fd):FnOk P w K mg base CX0 2 f fd ["draws","row"] zq4n:=by
 refine F.okq zq98 (λvs H Q E h=>?_) (λcdv A outer s H vs Q E hr h=>?_)
 ·obtain⟨d,r,ns,rfl,_⟩:=h;rfl
 obtain⟨d,r,ns,rfl,hd,hr0,nrd,n1,n2,q⟩:=h
 refine⟨zqdo B zq0 hr,?_⟩
 refine i_lenI hr0 (i_lenI hr0 ⟨d,4,rfl,hd,by decide,λg H1 g0 g1 hd1 k1=>?_⟩)
 refine⟨d,1000,rfl,hd1,by decide,λg' H2 g0' g1' hd2 k2=>?_⟩
 have er2:=k2.one nrd (k1.one nrd hr0)
 refine i_lenI er2 ⟨by omega,i_newL (by show 4<=sizeLine;decide) λp3 H3 hp3 s3 e3=>?_⟩
 refine i_newL (by show 7<=sizeLine;decide) λp4 H4 hp4 s4 e4=>?_
 refine⟨d,7,rfl,(hd2.same s3).same s4,by decide,λg5 H5 g50 g51 hd5 k5=>?_⟩
 have n3:p3≠d:=(hd2.ne hp3).symm
 have n4:p4≠d:=((hd2.same s3).ne hp4).symm
 have e4':H5 p4=some (.lst (([0,1,2,2,3,3,3]:List Int).map V.int)):=k5.one n4 e4
 refine i_ixI e4' g50 (by simpa using g51) ?_
 have hm:=atInts (ns:=[0,1,2,2,3,3,3]) g50 (by simpa using g51)
 generalize ([0,1,2,2,3,3,3]:List Int).getD g5.toNat 0=j at hm
 have hj:0<=j/\j<4:=by
  simp only[List.mem_cons,List.not_mem_nil,or_false] at hm
  omega
 have b0:=Int.emod_nonneg g' (show (ns.length:Int)≠0 by omega)
 have b1:=Int.emod_lt_of_pos g' (show (0:Int)<ns.length by omega)
 have e3':H5 p3=some (.lst (([1,(ns.length:Int),min (ns.length:Int) (2+g),1+g' % (ns.length:Int)]:List Int).map V.int)):=k5.one n3 (s4 _ _ e3)
 refine i_ixI e3' hj.1 (by simpa using hj.2) ?_
 have hm2:=atInts (ns:=[1,(ns.length:Int),min (ns.length:Int) (2+g),1+g' % (ns.length:Int)]) hj.1 (by simpa using hj.2)
 generalize ([1,(ns.length:Int),min (ns.length:Int) (2+g),1+g' % (ns.length:Int)]:List Int).getD j.toNat 0=z at hm2
 have hz:1<=z/\z<=ns.length:=by
  simp only[List.mem_cons,List.not_mem_nil,or_false] at hm2
  omega
 have ez:z=((z.toNat:Nat):Int):=by omega
 rw[ez]
 exact q _ H5 (by omega) (by omega) hd5 ((((k1.trans k2).same s3).same s4).trans k5)
abbrev zq1f:Stmt:=top 6
theorem zqe9:FnScope ["thing"] ["thing"] (defScope zq1f):=⟨rfl,rfl,rfl,by decide +kernel,rfl,by decide +kernel,by decide +kernel⟩
theorem zq77:Vis (defScope zq1f) "thing":=Or.inl (by kernel_rfl)
theorem zqby:(defScope zq1f).names.lookup ("bool":Str)=some NameKind.globalImplicit:=by kernel_rfl
theorem zqcm:(defScope zq1f).names.lookup ("int":Str)=some NameKind.globalImplicit:=by kernel_rfl
theorem zq4y:(defScope zq1f).names.lookup ("isinstance":Str)=some NameKind.globalImplicit:=by kernel_rfl
def zqes {cdv:Value}{A:Around}{outer:List Env}{s:Shared}{H:Hp}{E:XK}(B:Bl mg)(hr:Room 0 (A.deeper (PyProof.Rows.envOfC "is_whole" (defScope zq1f) s.heap.objs.size f cdv))) :
  { t:TS // QB (cxOf CX0 P w K mg base ["thing"] "is_whole" (defScope zq1f) f cdv A outer s H E).nox (defBody zq1f) t } :=
 ⟨_,(qb_one (qs_ret (ke_and (K:=K) rfl (qe_cB (kIsi (K:=K) rfl) zq4y B.isinstance boot_isinstance' (qa_cons (qv 0 rfl zq77) (qa_cons (qe_ty zqcm B.int boot_int) qa_nil))) (qe_one (ke_not (K:=K) rfl (qe_cB (kIsi (K:=K) rfl) zq4y B.isinstance boot_isinstance' (qa_cons (qv 0 rfl zq77) (qa_cons (qe_ty zqby B.bool boot_bool) qa_nil))))))))⟩
def zq3p:Sp:=λvs H Q _=>∃ i:Int,vs=[.int i]/\Q (.bl true) H
theorem zqea (B:Bl mg)(F:Fun K "is_whole" "is_whole" zq1f f fd):FnOk P w K mg base CX0 1 f fd ["thing"] zq3p:=by
 refine F.okq zqe9 (λvs H Q E h=>?_) (λcdv A outer s H vs Q E hr h=>?_)
 ·obtain⟨i,rfl,_⟩:=h;rfl
 obtain⟨i,rfl,q⟩:=h
 refine⟨zqes B hr,?_⟩
 refine i_isi (.int i) (by simp) (by simp) (bIs (by decide +kernel) ?_)
 refine i_isi (.int i) (by simp) (by simp) ?_
 have e:isTy "int" "bool"=false:=by decide +kernel
 rw[e];exact q
abbrev zq15:Stmt:=top 7
theorem zqdp:FnScope ["thing","low","high"] ["thing","low","high"] (defScope zq15):=⟨rfl,rfl,rfl,by decide +kernel,rfl,by decide +kernel,by decide +kernel⟩
theorem zqax:Vis (defScope zq15) "high":=Or.inl (by kernel_rfl)
theorem zqbz:Vis (defScope zq15) "low":=Or.inl (by kernel_rfl)
theorem zq6o:Vis (defScope zq15) "thing":=Or.inl (by kernel_rfl)
theorem zq8t:(defScope zq15).names.lookup ("is_whole":Str)=some NameKind.globalImplicit:=by kernel_rfl
def zqeb {cdv:Value}{A:Around}{outer:List Env}{s:Shared}{H:Hp}{E:XK}(B:Bl mg)(zq20:Def P w K mg base 1 "is_whole" ["thing"] zq3p)(hr:Room 1 (A.deeper (PyProof.Rows.envOfC "is_within" (defScope zq15) s.heap.objs.size f cdv))) :
  { t:TS // QB (cxOf CX0 P w K mg base ["thing","low","high"] "is_within" (defScope zq15) f cdv A outer s H E).nox (defBody zq15) t } :=
 ⟨_,(qb_one (qs_ret (ke_and (K:=K) rfl (qe_def zq20 hr (by decide) zq8t (qa_cons (qv 0 rfl zq6o) qa_nil)) (qe_one (qe_chain opLe opLe (qv 1 rfl zqbz) (qv 0 rfl zq6o) (qv 2 rfl zqax))))))⟩
def zq38:Sp:=λvs H Q _=>∃ i l u:Int,vs=[.int i,.int l,.int u]/\Q (.bl (decide (l<=i/\i<=u))) H
theorem zqdq (B:Bl mg)(zq20:Def P w K mg base 1 "is_whole" ["thing"] zq3p)(F:Fun K "is_within" "is_within" zq15 f fd):FnOk P w K mg base CX0 2 f fd ["thing","low","high"] zq38:=by
 refine F.okq zqdp (λvs H Q E h=>?_) (λcdv A outer s H vs Q E hr h=>?_)
 ·obtain⟨i,l,u,rfl,_⟩:=h;rfl
 obtain⟨i,l,u,rfl,q⟩:=h
 refine⟨zqeb B zq20 hr,?_⟩
 refine⟨i,rfl,bT (dec2 (λc=>?_) (λc=>?_))⟩
 ·have e:decide (l<=i/\i<=u)=decide (i<=u):=by simp[c]
  rw[e] at q;exact q
 ·have e:decide (l<=i/\i<=u)=false:=by simp[c]
  rw[e] at q;exact q
abbrev zqy:Stmt:=top 8
theorem zqda:FnScope ["row","many"] ["row","many"] (defScope zqy):=⟨rfl,rfl,rfl,by decide +kernel,rfl,by decide +kernel,by decide +kernel⟩
theorem zqa8:Vis (defScope zqy) "many":=Or.inl (by kernel_rfl)
theorem zqay:Vis (defScope zqy) "row":=Or.inl (by kernel_rfl)
theorem zq7t:(defScope zqy).names.lookup ("is_within":Str)=some NameKind.globalImplicit:=by kernel_rfl
theorem zqaz:(defScope zqy).names.lookup ("len":Str)=some NameKind.globalImplicit:=by kernel_rfl
def zqdr {cdv:Value}{A:Around}{outer:List Env}{s:Shared}{H:Hp}{E:XK}(B:Bl mg)(zq1r:Def P w K mg base 2 "is_within" ["thing","low","high"] zq38)(hr:Room 2 (A.deeper (PyProof.Rows.envOfC "check_many" (defScope zqy) s.heap.objs.size f cdv))) :
  { t:TS // QB (cxOf CX0 P w K mg base ["row","many"] "check_many" (defScope zqy) f cdv A outer s H E).nox (defBody zqy) t } :=
 ⟨_,(qb_one (qs_if (qt_not (kt_val (K:=K) rfl (qe_def zq1r hr (by decide) zq7t (qa_cons (qv 1 rfl zqa8) (qa_cons qe_int (qa_cons (qe_cB (kLen (K:=K) rfl) zqaz B.len boot_len' (qa_cons (qv 0 rfl zqay) qa_nil)) qa_nil)))))) (qb_one qs_never) qb_nil))⟩
def zq1v:Sp:=λvs H Q _=>∃ (r:Addr) (m:Int) (xs:List V),vs=[.ref r,.int m]/\H r=some (.lst xs)/\1<=m/\m<=xs.length/\Q .non H
theorem zqdb (B:Bl mg)(zq1r:Def P w K mg base 2 "is_within" ["thing","low","high"] zq38)(F:Fun K "check_many" "check_many" zqy f fd):FnOk P w K mg base CX0 3 f fd ["row","many"] zq1v:=by
 refine F.okq zqda (λvs H Q E h=>?_) (λcdv A outer s H vs Q E hr h=>?_)
 ·obtain⟨r,m,xs,rfl,_⟩:=h;rfl
 obtain⟨r,m,xs,rfl,hr0,h1,h2,q⟩:=h
 refine⟨zqdr B zq1r hr,?_⟩
 refine i_lenL hr0 ⟨m,1,_,rfl,?_⟩
 have e:decide ((1:Int)<=m/\m<=(xs.length:Int))=true:=decide_eq_true ⟨h1,h2⟩
 rw[e]
 exact bF q
structure LiveT (K:W.Frag)(mg:Str->Option Value)(C:Addr):Prop where
 cl:Cls K C
 n_numbers:NoAttr K C "numbers"
 n_done:NoAttr K C "done"
 c_MOST_NUMBERS:KNum mg "MOST_NUMBERS" 120
def flds (l d:Addr):List (Str×V):=putF "done" (.ref d) (putF "numbers" (.ref l) [])
theorem nd_ne:¬ (("numbers":Str)="done"):=by decide +kernel
theorem flds_num (l d:Addr):(flds l d).lookup ("numbers":Str)=some (.ref l):=by unfold flds;rw[lookup_putF,if_neg nd_ne,lookup_putF,if_pos rfl]
theorem flds_done (l d:Addr):(flds l d).lookup ("done":Str)=some (.ref d):=by unfold flds;rw[lookup_putF,if_pos rfl]
theorem flds_no (l d:Addr){m:Str}(h1:¬ m="done")(h2:¬ m="numbers"):(flds l d).lookup m=none:=by unfold flds;rw[lookup_putF,if_neg h1,lookup_putF,if_neg h2];rfl
inductive Pile (S:List Addr)(H:Hp):List Int->List V->List (List Int)->Prop
 | nil {ns:List Int}:Pile S H ns [] []
 | snoc {ns before:List Int} {rs:List V} {hist:List (List Int)} {b e:Nat} {t q:Addr} (ht:H t=some (.tup [.int b,.int e,.ref q])) (hq:H q=some (.lst (before.map V.int))) (nq:q∉S) (nt:t∉S) (hbe:b<=e) (hen:e<=ns.length)
   (rest:Pile S H (ns.take b++before++ns.drop e) rs hist):Pile S H ns (rs++[.ref t]) ((ns.take b++before++ns.drop e)::hist)
theorem Pile.kp {S S':List Addr}{H H':Hp}(k:Kp S' H H')(hs:∀ a∈S',a∈S){ns:List Int}{rs:List V}{hist:List (List Int)}(p:Pile S H ns rs hist):Pile S H' ns rs hist:=by
 induction p with
 | nil=>exact .nil
 | snoc ht hq nq nt hbe hen _ ih=>exact .snoc (k _ _ (λz=>nt (hs _ z)) ht) (k _ _ (λz=>nq (hs _ z)) hq) nq nt hbe hen ih
theorem Pile.same {S:List Addr}{H H':Hp}(k:Same H H'){ns:List Int}{rs:List V}{hist:List (List Int)}(p:Pile S H ns rs hist):Pile S H' ns rs hist:=by
 induction p with
 | nil=>exact .nil
 | snoc ht hq nq nt hbe hen _ ih=>exact .snoc (k _ _ ht) (k _ _ hq) nq nt hbe hen ih
theorem Pile.len {S:List Addr}{H:Hp}{ns:List Int}{rs:List V}{hist:List (List Int)}(p:Pile S H ns rs hist):rs.length=hist.length:=by
 induction p with
 | nil=>rfl
 | snoc _ _ _ _ _ _ _ ih=>simp[ih]
theorem Pile.back {S:List Addr}{H:Hp}{ns:List Int}{rs:List V}{hist:List (List Int)}{r:List Int}(p:Pile S H ns rs (r::hist)):∃ rs' before b e t q,rs=rs'++[.ref t]/\H t=some (.tup [.int (b:Nat),.int (e:Nat),.ref q])/\H q=some (.lst (before.map V.int))/\q∉S/\b<=e/\e<=ns.length/\r=ns.take b++before++ns.drop e/\Pile S H r rs' hist:=by
 cases p with
 | snoc ht hq nq nt hbe hen rest=>exact⟨_,_,_,_,_,_,rfl,ht,hq,nq,hbe,hen,rfl,rest⟩
structure LiveAt (S:List Addr)(C:Addr)(H:Hp)(p l d:Addr)(ns:List Int)(hist:List (List Int)):Prop where
 ob:∃ dx,H p=some (.ins C dx (flds l d))
 nums:H l=some (.lst (ns.map V.int))
 dn:∃ rs,H d=some (.lst rs)/\Pile S H ns rs hist
 ld:l≠d
 lS:l∈S
 dS:d∈S
 pS:p∉S
 len:ns.length<=200
 lens:∀ r∈hist,r.length<=200
theorem LiveAt.same {S:List Addr}{C:Addr}{H H':Hp}{p l d:Addr}{ns:List Int}{hist:List (List Int)}(k:Same H H')(x:LiveAt S C H p l d ns hist):LiveAt S C H' p l d ns hist :=
 let ⟨⟨dx,o⟩,n,⟨rs,e,pi⟩,ld,lS,dS,pS,ln,lns⟩:=x
 ⟨⟨dx,k _ _ o⟩,k _ _ n,⟨rs,k _ _ e,pi.same k⟩,ld,lS,dS,pS,ln,lns⟩
theorem LiveAt.kp {S S':List Addr}{C:Addr}{H H':Hp}{p l d:Addr}{ns:List Int}{hist:List (List Int)}(k:Kp S' H H')(hs:∀ a∈S',a∈S)(hl:l∉S')(hd:d∉S')(x:LiveAt S C H p l d ns hist):LiveAt S C H' p l d ns hist :=
 let ⟨⟨dx,o⟩,n,⟨rs,e,pi⟩,ld,lS,dS,pS,ln,lns⟩:=x
 ⟨⟨dx,k _ _ (λz=>pS (hs _ z)) o⟩,k _ _ hl n,⟨rs,k _ _ hd e,pi.kp k hs⟩,ld,lS,dS,pS,ln,lns⟩
theorem splice_len (ns new:List Int){b e:Nat}(h1:b<=e)(h2:e<=ns.length):(ns.take b++new++ns.drop e).length+(e-b)=ns.length+new.length:=by
 simp only[List.length_append,List.length_take,List.length_drop];omega
theorem splice_back (ns new:List Int){b e:Nat}(h1:b<=e)(h2:e<=ns.length):(ns.take b++new++ns.drop e).take b++(ns.take e).drop b++(ns.take b++new++ns.drop e).drop (b+new.length)=ns:=by
 have hb:(ns.take b).length=b:=by rw[List.length_take];omega
 have e1:(ns.take b++new++ns.drop e).take b=ns.take b:=by
  rw[List.append_assoc,List.take_append_of_le_length (by omega),List.take_of_length_le (by omega)]
 have e2:(ns.take b++new++ns.drop e).drop (b+new.length)=ns.drop e:=by
  rw[List.drop_append_of_le_length (by simp;omega)]
  rw[List.drop_of_length_le (by simp;omega),List.nil_append]
 rw[e1,e2]
 have e3:ns.take b++(ns.take e).drop b=ns.take e:=by
  have:=List.take_append_drop b (ns.take e)
  rw[List.take_take,Nat.min_eq_left h1] at this
  exact this
 rw[e3,List.take_append_drop]
def zq42 (C:Addr):Sp:=λvs H Q _=>∃ (p r dx:Addr) (ns:List Int),vs=[.ref p,.ref r]/\H p=some (.ins C dx [])/\H r=some (.lst (ns.map V.int))/\ns.length<=200 /\
 ∀ l d H',H l=none->H d=none->l≠d->Kp [p] H H'->(∃ dx,H' p=some (.ins C dx (flds l d)))->H' l=some (.lst (ns.map V.int))->H' d=some (.lst [])->Q .non H'
def zq1o:Sp:=λvs H Q _=>∃ i u:Int,vs=[.int i,.int u]/\0<=i/\i<=u/\Q .non H
def zq26:Sp:=λvs H Q _=>∃ i:Int,vs=[.int i]/\0<=i/\Q .non H
def zq24 (C:Addr):Sp:=λvs H Q _=>∃ (S:List Addr) (p l d nb:Addr) (b e:Nat) (ns new:List Int) (hist:List (List Int)),vs=[.ref p,.int b,.int e,.ref nb]/\LiveAt S C H p l d ns hist/\(∀ a∈S,∃ o,H a=some o) /\
 H nb=some (.lst (new.map V.int))/\nb≠l/\nb≠d/\b<=e/\e<=ns.length/\ns.length+new.length<=200+(e-b)/\new.length<=200/\hist.length<=2000 /\
 ∀ H',Kp [l,d] H H'->LiveAt S C H' p l d (ns.take b++new++ns.drop e) (ns::hist)->Q .non H'
def zq2d (C:Addr):Sp:=λvs H Q _=>∃ (S:List Addr) (p l d:Addr) (i:Nat) (n:Int) (ns:List Int) (hist:List (List Int)),vs=[.ref p,.int i,.int n]/\LiveAt S C H p l d ns hist/\(∀ a∈S,∃ o,H a=some o) /\
 i<ns.length/\0<=n/\hist.length<=2000/\∀ H',Kp [l,d] H H'->LiveAt S C H' p l d (ns.take i++[n]++ns.drop (i+1)) (ns::hist)->Q .non H'
def zq3q (C:Addr):Sp:=λvs H Q _=>∃ (S:List Addr) (p l d:Addr) (i:Nat) (n:Int) (ns:List Int) (hist:List (List Int)),vs=[.ref p,.int i,.int n]/\LiveAt S C H p l d ns hist/\(∀ a∈S,∃ o,H a=some o) /\
 i<=ns.length/\ns.length<120/\0<=n/\hist.length<=2000/\∀ H',Kp [l,d] H H'->LiveAt S C H' p l d (ns.take i++[n]++ns.drop i) (ns::hist)->Q .non H'
def zq57 (C:Addr):Sp:=λvs H Q _=>∃ (S:List Addr) (p l d:Addr) (i:Nat) (ns:List Int) (hist:List (List Int)),vs=[.ref p,.int i]/\LiveAt S C H p l d ns hist/\(∀ a∈S,∃ o,H a=some o) /\
 i<ns.length/\2<=ns.length/\hist.length<=2000/\∀ H',Kp [l,d] H H'->LiveAt S C H' p l d (ns.take i++ns.drop (i+1)) (ns::hist)->Q .non H'
def zq39 (C:Addr):Sp:=λvs H Q _=>∃ (S:List Addr) (p l d:Addr) (ns:List Int) (hist:List (List Int)),vs=[.ref p]/\LiveAt S C H p l d ns hist /\
 (hist=[]->Q (.bl false) H)/\∀ r hist',hist=r::hist'->∀ H',Kp [l,d] H H'->LiveAt S C H' p l d r hist'->Q (.bl true) H'
def zq5v (C:Addr):Sp:=λvs H Q _=>∃ (S:List Addr) (p l d:Addr) (ns:List Int) (hist:List (List Int)),vs=[.ref p]/\LiveAt S C H p l d ns hist /\
 ∀ r H',H r=none->Same H H'->H' r=some (.lst (ns.map V.int))->Q (.ref r) H'
abbrev zqw:Stmt:=top 31
theorem zqcn:FnScope ["thing","last"] ["thing","last"] (defScope zqw):=⟨rfl,rfl,rfl,by decide +kernel,rfl,by decide +kernel,by decide +kernel⟩
theorem zq9k:Vis (defScope zqw) "last":=Or.inl (by kernel_rfl)
theorem zq9b:Vis (defScope zqw) "thing":=Or.inl (by kernel_rfl)
theorem zq7f:(defScope zqw).names.lookup ("is_within":Str)=some NameKind.globalImplicit:=by kernel_rfl
def zqdc {cdv:Value}{A:Around}{outer:List Env}{s:Shared}{H:Hp}{E:XK}(B:Bl mg)(zq1r:Def P w K mg base 2 "is_within" ["thing","low","high"] zq38)(hr:Room 2 (A.deeper (PyProof.Rows.envOfC "check_place" (defScope zqw) s.heap.objs.size f cdv))) :
  { t:TS // QB (cxOf CX0 P w K mg base ["thing","last"] "check_place" (defScope zqw) f cdv A outer s H E).nox (defBody zqw) t } :=
 ⟨_,(qb_one (qs_if (qt_not (kt_val (K:=K) rfl (qe_def zq1r hr (by decide) zq7f (qa_cons (qv 0 rfl zq9b) (qa_cons qe_int (qa_cons (qv 1 rfl zq9k) qa_nil)))))) (qb_one qs_never) qb_nil))⟩
abbrev zqz:Stmt:=top 32
theorem zqc0:FnScope ["thing"] ["thing"] (defScope zqz):=⟨rfl,rfl,rfl,by decide +kernel,rfl,by decide +kernel,by decide +kernel⟩
theorem zq58:Vis (defScope zqz) "thing":=Or.inl (by kernel_rfl)
theorem zq7g:(defScope zqz).names.lookup ("is_whole":Str)=some NameKind.globalImplicit:=by kernel_rfl
def zqco {cdv:Value}{A:Around}{outer:List Env}{s:Shared}{H:Hp}{E:XK}(B:Bl mg)(zq20:Def P w K mg base 1 "is_whole" ["thing"] zq3p)(hr:Room 1 (A.deeper (PyProof.Rows.envOfC "check_number" (defScope zqz) s.heap.objs.size f cdv))) :
  { t:TS // QB (cxOf CX0 P w K mg base ["thing"] "check_number" (defScope zqz) f cdv A outer s H E).nox (defBody zqz) t } :=
 ⟨_,(qb_one (qs_if (QW.pt (qw_or (qt_not (kt_val (K:=K) rfl (qe_def zq20 hr (by decide) zq7g (qa_cons (qv 0 rfl zq58) qa_nil)))) (qw_or1 (qt_cmp opLt (qv 0 rfl zq58) qe_int)))) (qb_one qs_never) qb_nil))⟩
theorem zqcp (B:Bl mg)(zq1r:Def P w K mg base 2 "is_within" ["thing","low","high"] zq38)(F:Fun K "check_place" "check_place" zqw f fd):FnOk P w K mg base CX0 3 f fd ["thing","last"] zq1o:=by
 refine F.okq zqcn (λvs H Q E h=>?_) (λcdv A outer s H vs Q E hr h=>?_)
 ·obtain⟨i,u,rfl,_⟩:=h;rfl
 obtain⟨i,u,rfl,h1,h2,q⟩:=h
 refine⟨zqdc B zq1r hr,?_⟩
 refine⟨i,0,u,rfl,?_⟩
 have e:decide ((0:Int)<=i/\i<=u)=true:=decide_eq_true ⟨h1,h2⟩
 rw[e]
 exact bF q
theorem zqc1 (B:Bl mg)(zq20:Def P w K mg base 1 "is_whole" ["thing"] zq3p)(F:Fun K "check_number" "check_number" zqz f fd):FnOk P w K mg base CX0 2 f fd ["thing"] zq26:=by
 refine F.okq zqc0 (λvs H Q E h=>?_) (λcdv A outer s H vs Q E hr h=>?_)
 ·obtain⟨i,rfl,_⟩:=h;rfl
 obtain⟨i,rfl,h1,q⟩:=h
 refine⟨zqco B zq20 hr,?_⟩
 refine⟨i,rfl,bF (dNo (by omega) q)⟩
theorem cutV_be (ns:List Int){b e:Nat}(h1:b<=e)(h2:e<=ns.length):cutV (ns.map V.int) (some (b:Int)) (some (e:Int))=((ns.take e).drop b).map V.int:=by
 have e1:HT.sIx ns.length 0 (some (b:Int))=b:=by unfold HT.sIx;simp only[];split<;>omega
 have e2:HT.sIx ns.length ns.length (some (e:Int))=e:=by unfold HT.sIx;simp only[];split<;>omega
 rw[cutV_ints,e1,e2,List.drop_take]
abbrev zqk:Stmt:=top 10
theorem zq2v:FnScope ["row","bound","cut","total","place","number"] ["row","bound"] (defScope zqk):=⟨rfl,rfl,rfl,by decide +kernel,rfl,by decide +kernel,by decide +kernel⟩
theorem zqcq:Loc (defScope zqk) "cut":=Or.inl (by kernel_rfl)
theorem zqa9:Loc (defScope zqk) "number":=Or.inl (by kernel_rfl)
theorem zqb0:Loc (defScope zqk) "place":=Or.inl (by kernel_rfl)
theorem zq4t:Loc (defScope zqk) "total":=Or.inl (by kernel_rfl)
theorem zq78:Vis (defScope zqk) "bound":=Or.inl (by kernel_rfl)
theorem zq8f:Vis (defScope zqk) "cut":=Or.inl (by kernel_rfl)
theorem zq6p:Vis (defScope zqk) "number":=Or.inl (by kernel_rfl)
theorem zqb1:Vis (defScope zqk) "place":=Or.inl (by kernel_rfl)
theorem zq8g:Vis (defScope zqk) "row":=Or.inl (by kernel_rfl)
theorem zqb2:Vis (defScope zqk) "total":=Or.inl (by kernel_rfl)
theorem zq8u:(defScope zqk).names.lookup ("enumerate":Str)=some NameKind.globalImplicit:=by kernel_rfl
theorem zqcr:(defScope zqk).names.lookup ("max":Str)=some NameKind.globalImplicit:=by kernel_rfl
def zqet {cdv:Value}{A:Around}{outer:List Env}{s:Shared}{H:Hp}{E:XK}(B:Bl mg)(hr:Room 0 (A.deeper (PyProof.Rows.envOfC "long_cut" (defScope zqk) s.heap.objs.size f cdv))) :
  { t:TS // QB (cxOf CX0 P w K mg base ["row","bound","cut","total","place","number"] "long_cut" (defScope zqk) f cdv A outer s H E).nox (defBody zqk) t } :=
 ⟨_,(qb_cons (qs_if (qt_cmp opGt (qe_cB (kMax (K:=K) rfl rfl) zqcr B.max boot_max' (qa_cons (qv 0 rfl zq8g) qa_nil)) (qv 1 rfl zq78)) (qb_one (qs_ret qe_non)) qb_nil)
  (qb_cons (qs_set (i:=2) zq2v.nd rfl zqcq (.inl rfl) (qe_lst qa_nil))
  (qb_cons (qs_set (i:=3) zq2v.nd rfl zq4t (.inl rfl) qe_int)
  (qb_mid (qs_for PassesOwn.never rfl (ki_enum (K:=K) rfl zq8u B.enumerate (qa_cons (qv 0 rfl zq8g) qa_nil)) (kg_tup (K:=K) rfl rfl (qgs_cons (qg_name (i:=4) zq2v.nd rfl zqb0 (.inl rfl)) (qgs_cons (qg_name (i:=5) zq2v.nd rfl zqa9 (.inl rfl)) qgs_nil))) (qb_mid (qs_if (qt_cmp opGt (qe_op opAdd (qv 3 rfl zqb2) (qv 5 rfl zq6p)) (qv 1 rfl zq78)) (qb_cons (qs_ex (ke_m1 (K:=K) rfl PySem.F.plainAttrs_list PySem.F.slot_list_append PySem.F.type_list_append mtApp (qv 2 rfl zq8f) (qv 4 rfl zqb1)))
  (qb_one (qs_set (i:=3) zq2v.nd rfl zq4t (.inl rfl) qe_int))) qb_nil)
  (qb_one (qs_aug (i:=3) zq2v.nd rfl zq4t (.inl rfl) (qv 5 rfl zq6p) ipAdd))))
  (qb_one (qs_ret (qv 2 rfl zq8f)))))))⟩
open M5 in
def zq5w:Sp:=λvs H Q _=>∃ (r:Addr) (b:Int) (ns:List Int),vs=[.ref r,.int b]/\H r=some (.lst (ns.map V.int))/\ns≠[]/\ns.length<=1000/\((∃ n∈ns,b<n)->Q .non H) /\
 ((∀ n∈ns,n<=b)->∀ p H',H p=none->Same H H'->H' p=some (.lst ((lcut b 0 0 ns).map V.int))->Q (.ref p) H')
open M5 in
theorem zqec (B:Bl mg)(F:Fun K "long_cut" "long_cut" zqk f fd):FnOk P w K mg base CX0 1 f fd ["row","bound"] zq5w:=by
 refine F.okq zq2v (λvs H Q E h=>?_) (λcdv A outer s H vs Q E hr h=>?_)
 ·obtain⟨r,b,ns,rfl,_⟩:=h;rfl
 obtain⟨r,b,ns,rfl,hr0,hne,hle,q1,q2⟩:=h
 refine⟨zqet B hr,?_⟩
 refine i_max (SqL.of hr0) hne λM hM hmax=>dec2 (λc=>q1 ⟨M,hM,c⟩) (λc=>?_)
 have hb:∀ n∈ns,n<=b:=λn hn=>by have:=hmax n hn;omega
 refine i_newL (by show 0<=sizeLine;decide) λp H1 hp s1 e1=>?_
 refine⟨λσ H'=>Same H H'/\H' p=some (.lst ((lcut b 0 0 ns).map V.int))/\gt σ 2=some (.ref p),?_,?_⟩
 ·refine⟨⟨_,SqL.of (s1 _ _ hr0)⟩,for_en (ns.map V.int) (λi σ H'=>∃ o1 o2,σ=[some (.ref r),some (.int b),some (.ref p),some (.int (ltot b 0 (ns.take i))),o1,o2]/\Same H H'/\H' p=some (.lst ((lcut b 0 0 (ns.take i)).map V.int))) ?_ ?_ ?_ ?_⟩
  ·exact⟨none,none,rfl,s1,e1⟩
  ·rintro i σ H' _ ⟨o1,o2,rfl,s',e'⟩
   exact SqL.of (s' _ _ hr0)
  ·rintro i x σ H' T H2 hx ⟨o1,o2,rfl,s',e'⟩ hT s2 e2
   obtain⟨z,rfl,hz,_⟩:=vints_at hx
   have hi:i<ns.length:=(List.getElem?_eq_some_iff.mp hz).1
   have hlen:(ns.take i).length=i:=by rw[List.length_take];omega
   have et:=take_snoc hz
   have e3:=s2 _ _ e'
   refine i_unp e2 rfl ?_
   refine⟨λσ H'=>σ=[some (.ref r),some (.int b),some (.ref p),some (.int (if ltot b 0 (ns.take i)+z > b then 0 else ltot b 0 (ns.take i))),some (.int i),some (.int z)]/\Same H H'/\H' p=some (.lst ((lcut b 0 0 (ns.take (i+1))).map V.int)),?_,?_⟩
   ·have el:lcut b 0 0 (ns.take (i+1))=lcut b 0 0 (ns.take i)++(if ltot b 0 (ns.take i)+z > b then [(i:Int)] else []):=by
     rw[et,lcut_app,hlen,Nat.zero_add]
     simp only[lcut]
    have ll:(lcut b 0 0 (ns.take i)).length<=1000:=by
     have:=lcut_len b (ns.take i) 0 0;omega
    refine dec2 (λc=>?_) (λc=>?_)
    ·refine⟨i_tyL e3,i_appI e3 (by omega) λH4 k4 e4=>?_⟩
     have c':ltot b 0 (ns.take i)+z > b:=c
     refine⟨by rw[if_pos c'];rfl,(s'.trans s2).new k4 hp,by rw[e4,el,if_pos c']⟩
    ·have c':¬ ltot b 0 (ns.take i)+z > b:=c
     refine⟨by rw[if_neg c'];rfl,s'.trans s2,by rw[e3,el,if_neg c',List.append_nil]⟩
   ·rintro σ H4 ⟨rfl,s4,e4⟩
    refine⟨some (.int i),some (.int z),?_,s4,e4⟩
    rw[et,ltot_app]
    simp only[ltot]
    by_cases c:ltot b 0 (ns.take i)+z > b
    ·simp[c]
    ·simp[c]
  ·rintro σ H' ⟨o1,o2,rfl,s',e'⟩
   rw[List.length_map,List.take_length] at e'
   exact⟨s',e',rfl⟩
 ·rintro σ H' ⟨s',e',hg⟩
  show mVar 2 σ H' Q
  unfold mVar
  rw[hg]
  exact q2 hb p H' hp s' e'
abbrev zqi:Stmt:=top 11
theorem zq79:FnScope ["row","bound","cut"] ["row","bound"] (defScope zqi):=⟨rfl,rfl,rfl,by decide +kernel,rfl,by decide +kernel,by decide +kernel⟩
theorem zq9c:Loc (defScope zqi) "cut":=Or.inl (by kernel_rfl)
theorem zq8h:Vis (defScope zqi) "bound":=Or.inl (by kernel_rfl)
theorem zq5q:Vis (defScope zqi) "cut":=Or.inl (by kernel_rfl)
theorem zq9d:Vis (defScope zqi) "row":=Or.inl (by kernel_rfl)
theorem zq9e:(defScope zqi).names.lookup ("len":Str)=some NameKind.globalImplicit:=by kernel_rfl
theorem zq7a:(defScope zqi).names.lookup ("long_cut":Str)=some NameKind.globalImplicit:=by kernel_rfl
def zqc2 {cdv:Value}{A:Around}{outer:List Env}{s:Shared}{H:Hp}{E:XK}(B:Bl mg)(zq59:Def P w K mg base 1 "long_cut" ["row","bound"] zq5w)(hr:Room 1 (A.deeper (PyProof.Rows.envOfC "fewest_pieces" (defScope zqi) s.heap.objs.size f cdv))) :
  { t:TS // QB (cxOf CX0 P w K mg base ["row","bound","cut"] "fewest_pieces" (defScope zqi) f cdv A outer s H E).nox (defBody zqi) t } :=
 ⟨_,(qb_cons (qs_set (i:=2) zq79.nd rfl zq9c (.inl rfl) (qe_def zq59 hr (by decide) zq7a (qa_cons (qv 0 rfl zq9d) (qa_cons (qv 1 rfl zq8h) qa_nil))))
  (qb_cons (qs_if (qt_cmp opIs (qv 2 rfl zq5q) qe_non) (qb_one (qs_ret qe_non)) qb_nil)
  (qb_one (qs_ret (qe_op opAdd (qe_cB (kLen (K:=K) rfl) zq9e B.len boot_len' (qa_cons (qv 2 rfl zq5q) qa_nil)) qe_int)))))⟩
open M5 in
def fewV (b:Int)(ns:List Int):V:=if ns.all (λn=>decide (n<=b))=true then .int ((lcut b 0 0 ns).length+1) else .non
theorem fewV_ok {b:Int}{ns:List Int}(h:∀ n∈ns,n<=b):fewV b ns=.int ((M5.lcut b 0 0 ns).length+1):=by
 unfold fewV;rw[if_pos];rw[List.all_eq_true];intro n hn;exact decide_eq_true (h n hn)
theorem fewV_no {b:Int}{ns:List Int}(h:∃ n∈ns,b<n):fewV b ns=.non:=by
 obtain⟨n,hn,hb⟩:=h
 unfold fewV;rw[if_neg];rw[List.all_eq_true];intro h;have:=of_decide_eq_true (h n hn);omega
def zq3f:Sp:=λvs H Q _=>∃ (r:Addr) (b:Int) (ns:List Int),vs=[.ref r,.int b]/\H r=some (.lst (ns.map V.int))/\ns≠[]/\ns.length<=1000/\∀ H',Same H H'->Q (fewV b ns) H'
theorem zqb3 (B:Bl mg)(zq59:Def P w K mg base 1 "long_cut" ["row","bound"] zq5w)(F:Fun K "fewest_pieces" "fewest_pieces" zqi f fd):FnOk P w K mg base CX0 2 f fd ["row","bound"] zq3f:=by
 refine F.okq zq79 (λvs H Q E h=>?_) (λcdv A outer s H vs Q E hr h=>?_)
 ·obtain⟨r,b,ns,rfl,_⟩:=h;rfl
 obtain⟨r,b,ns,rfl,hr0,hne,hle,q⟩:=h
 refine⟨zqc2 B zq59 hr,?_⟩
 refine⟨r,b,ns,rfl,hr0,hne,hle,λh=>?_,λh p H1 hp s1 e1=>?_⟩
 ·refine bT ?_
  have:=q H (Same.refl H)
  rw[fewV_no h] at this;exact this
 ·refine bF (i_lenI e1 ?_)
  have:=q H1 s1
  rw[fewV_ok h] at this;exact this
abbrev zqb:Stmt:=top 14
theorem zq2e:FnScope ["row","many","low","high","middle"] ["row","many"] (defScope zqb):=⟨rfl,rfl,rfl,by decide +kernel,rfl,by decide +kernel,by decide +kernel⟩
theorem zq5z:Loc (defScope zqb) "high":=Or.inl (by kernel_rfl)
theorem zq6q:Loc (defScope zqb) "low":=Or.inl (by kernel_rfl)
theorem zq8v:Loc (defScope zqb) "middle":=Or.inl (by kernel_rfl)
theorem zq60:Vis (defScope zqb) "high":=Or.inl (by kernel_rfl)
theorem zq45:Vis (defScope zqb) "low":=Or.inl (by kernel_rfl)
theorem zq9l:Vis (defScope zqb) "many":=Or.inl (by kernel_rfl)
theorem zq3g:Vis (defScope zqb) "middle":=Or.inl (by kernel_rfl)
theorem zq46:Vis (defScope zqb) "row":=Or.inl (by kernel_rfl)
theorem zq61:(defScope zqb).names.lookup ("fewest_pieces":Str)=some NameKind.globalImplicit:=by kernel_rfl
theorem zqaa:(defScope zqb).names.lookup ("max":Str)=some NameKind.globalImplicit:=by kernel_rfl
theorem zqab:(defScope zqb).names.lookup ("sum":Str)=some NameKind.globalImplicit:=by kernel_rfl
def zqdd {cdv:Value}{A:Around}{outer:List Env}{s:Shared}{H:Hp}{E:XK}(B:Bl mg)(zq2r:Def P w K mg base 2 "fewest_pieces" ["row","bound"] zq3f)(hr:Room 2 (A.deeper (PyProof.Rows.envOfC "least_bound" (defScope zqb) s.heap.objs.size f cdv))) :
  { t:TS // QB (cxOf CX0 P w K mg base ["row","many","low","high","middle"] "least_bound" (defScope zqb) f cdv A outer s H E).nox (defBody zqb) t } :=
 ⟨_,(qb_cons (qs_set (i:=2) zq2e.nd rfl zq6q (.inl rfl) (qe_cB (kMax (K:=K) rfl rfl) zqaa B.max boot_max' (qa_cons (qv 0 rfl zq46) qa_nil)))
  (qb_cons (qs_set (i:=3) zq2e.nd rfl zq5z (.inl rfl) (qe_cB (kSum (K:=K) rfl rfl) zqab B.sum boot_sum' (qa_cons (qv 0 rfl zq46) qa_nil)))
  (qb_mid (qs_while PassesOwn.never (qt_cmp opLt (qv 2 rfl zq45) (qv 3 rfl zq60)) (qb_cons (qs_set (i:=4) zq2e.nd rfl zq8v (.inl rfl) (qe_op opFdiv (qe_op opAdd (qv 2 rfl zq45) (qv 3 rfl zq60)) qe_int))
  (qb_one (qs_if (qt_cmp opLe (qe_def zq2r hr (by decide) zq61 (qa_cons (qv 0 rfl zq46) (qa_cons (qv 4 rfl zq3g) qa_nil))) (qv 1 rfl zq9l)) (qb_one (qs_set (i:=3) zq2e.nd rfl zq5z (.inl rfl) (qv 4 rfl zq3g))) (qb_one (qs_set (i:=2) zq2e.nd rfl zq6q (.inl rfl) (qe_op opAdd (qv 4 rfl zq3g) qe_int)))))))
  (qb_one (qs_ret (qv 2 rfl zq45))))))⟩
open M5 M10 M11 M7
theorem row_sum' {ns:List Int}(h:RowN ns):0<=ns.sum/\ns.sum<=120000000000000:=by
 have key:∀ l:List Int,(∀ n∈l,0<=n)->(∀ n∈l,n<=1000000000000)->0<=l.sum/\l.sum<=1000000000000*l.length:=by
  intro l
  induction l with
  | nil=>intro _ _;simp
  | cons x l ih =>
   intro h0 h1
   obtain⟨a,b⟩:=ih (λn hn=>h0 n (List.mem_cons_of_mem _ hn)) λn hn=>h1 n (List.mem_cons_of_mem _ hn)
   have:=h0 x List.mem_cons_self
   have:=h1 x List.mem_cons_self
   rw[List.sum_cons,List.length_cons]
   omega
 have:=key ns h.nn h.ub
 have:=h.le
 omega
def zq43:Sp:=λvs H Q _=>∃ (r:Addr) (m:Nat) (ns:List Int) (t:Int),vs=[.ref r,.int m]/\H r=some (.lst (ns.map V.int))/\RowN ns/\1<=m/\m<=ns.length/\T 0 ns (m-1) 0=some t/\∀ H',Same H H'->0<=t->t<=120000000000000->(∀ n∈ns,n<=t)->Q (.int t) H'
theorem zqcs (B:Bl mg)(zq2r:Def P w K mg base 2 "fewest_pieces" ["row","bound"] zq3f)(F:Fun K "least_bound" "least_bound" zqb f fd):FnOk P w K mg base CX0 3 f fd ["row","many"] zq43:=by
 refine F.okq zq2e (λvs H Q E h=>?_) (λcdv A outer s H vs Q E hr h=>?_)
 ·obtain⟨r,m,ns,t,rfl,_⟩:=h;rfl
 obtain⟨r,m,ns,t,rfl,hr0,rn,hm1,hmn,hT,q⟩:=h
 refine⟨zqdd B zq2r hr,?_⟩
 have hnn:=rn.nn
 have hle:ns.length<=1000:=by have:=rn.le;omega
 have hne:ns≠[]:=λz=>by have:=rn.ne;rw[z] at this;simp at this
 have hiff:∀ b,t<=b↔(∀ x∈ns,x<=b)/\gp b ns<=m:=λb=>by
  have:=T_iff0 hnn b (k:=m-1) (i:=0) (by omega) hT
  rw[show m-1+1=m by omega,List.drop_zero] at this;exact this
 have hall:=((hiff t).mp (Int.le_refl t)).1
 have hsum:=row_sum' rn
 have hts:t<=ns.sum:=by
  refine(hiff _).mpr ⟨λx hx=>mem_le_sum hnn x hx,?_⟩
  unfold gp
  rw[if_neg hne,lcut_nil _ 0 0 hnn (by omega)]
  simp;omega
 refine i_max (SqL.of hr0) hne λM hM hmax=>i_sum (SqL.of hr0) ?_
 have hMt:M<=t:=hall M hM
 have hM0:=hnn M hM
 refine⟨λσ H'=>Same H H'/\∃ o3 o4,σ=[some (.ref r),some (.int m),some (.int t),o3,o4],?_,?_⟩
 ·refine while_m (λmm σ H'=>∃ lo hi:Int,∃ o4,M<=lo/\lo<=t/\t<=hi/\hi<=ns.sum/\mm=(hi-lo).toNat/\Same H H'/\σ=[some (.ref r),some (.int m),some (.int lo),some (.int hi),o4]) _ ⟨M,ns.sum,_,Int.le_refl M,hMt,hts,Int.le_refl _,rfl,Same.refl H,rfl⟩ ?_
  rintro mm σ H1 ⟨lo,hi,o4,h1,h2,h3,h4,rfl,s1,rfl⟩
  refine dec2 (λc=>?_) (λc=>?_)
  ·refine⟨⟨by decide,by decide⟩,r,(lo+hi) / 2,ns,rfl,s1 _ _ hr0,hne,hle,λH2 s2=>?_⟩
   have hmid:∀ n∈ns,n<=(lo+hi) / 2:=λn hn=>by have:=hmax n hn;omega
   have hi2:=hiff ((lo+hi) / 2)
   have hgp:gp ((lo+hi) / 2) ns=(lcut ((lo+hi) / 2) 0 0 ns).length+1:=by unfold gp;rw[if_neg hne]
   rw[fewV_ok hmid]
   refine dec2 (λc2=>?_) (λc2=>?_)
   ·have:=hi2.mpr ⟨hmid,by omega⟩
    exact⟨((lo+hi) / 2-lo).toNat,by omega,lo,(lo+hi) / 2,_,h1,h2,this,by omega,rfl,s1.trans s2,rfl⟩
   ·have:¬ t<=(lo+hi) / 2:=λz=>c2 (by have:=(hi2.mp z).2;omega)
    exact⟨(hi-((lo+hi) / 2+1)).toNat,by omega,(lo+hi) / 2+1,hi,_,by omega,by omega,h3,h4,rfl,s1.trans s2,rfl⟩
  ·have:lo=t:=by omega
   subst this
   exact⟨s1,_,_,rfl⟩
 ·rintro σ H1 ⟨s1,o3,o4,rfl⟩
  exact q H1 s1 (by omega) (by omega) hall
abbrev zq7:Stmt:=top 16
theorem zq2a:FnScope ["row","ahead","end","bound","begin","total"] ["row","ahead","end","bound"] (defScope zq7):=⟨rfl,rfl,rfl,by decide +kernel,rfl,by decide +kernel,by decide +kernel⟩
theorem zq4d:Loc (defScope zq7) "begin":=Or.inl (by kernel_rfl)
theorem zq4e:Loc (defScope zq7) "total":=Or.inl (by kernel_rfl)
theorem zq7u:Vis (defScope zq7) "ahead":=Or.inl (by kernel_rfl)
theorem zq1h:Vis (defScope zq7) "begin":=Or.inl (by kernel_rfl)
theorem zq7v:Vis (defScope zq7) "bound":=Or.inl (by kernel_rfl)
theorem zq8w:Vis (defScope zq7) "end":=Or.inl (by kernel_rfl)
theorem zq3h:Vis (defScope zq7) "row":=Or.inl (by kernel_rfl)
theorem zq7w:Vis (defScope zq7) "total":=Or.inl (by kernel_rfl)
def zqb4 {cdv:Value}{A:Around}{outer:List Env}{s:Shared}{H:Hp}{E:XK}(B:Bl mg)(hr:Room 0 (A.deeper (PyProof.Rows.envOfC "earliest_begin" (defScope zq7) s.heap.objs.size f cdv))) :
  { t:TS // QB (cxOf CX0 P w K mg base ["row","ahead","end","bound","begin","total"] "earliest_begin" (defScope zq7) f cdv A outer s H E).nox (defBody zq7) t } :=
 ⟨_,(qb_cons (qs_set (i:=4) zq2a.nd rfl zq4d (.inl rfl) (qe_op opSub (qv 2 rfl zq8w) qe_int))
  (qb_cons (qs_set (i:=5) zq2a.nd rfl zq4e (.inl rfl) (ke_ix (K:=K) rfl (qv 0 rfl zq3h) (qv 4 rfl zq1h) (λ_ _=>rfl)))
  (qb_mid (qs_while PassesOwn.never (QW.pt (qw_and (qt_cmp opGt (qv 4 rfl zq1h) (qv 1 rfl zq7u)) (qw_and1 (qt_cmp opLe (qe_op opAdd (qv 5 rfl zq7w) (ke_ix (K:=K) rfl (qv 0 rfl zq3h) (qe_op opSub (qv 4 rfl zq1h) qe_int) (λ_ _=>rfl))) (qv 3 rfl zq7v))))) (qb_cons (qs_aug (i:=4) zq2a.nd rfl zq4d (.inl rfl) qe_int ipSub)
  (qb_one (qs_aug (i:=5) zq2a.nd rfl zq4e (.inl rfl) (ke_ix (K:=K) rfl (qv 0 rfl zq3h) (qv 4 rfl zq1h) (λ_ _=>rfl)) ipAdd))))
  (qb_one (qs_ret (qv 4 rfl zq1h))))))⟩
def zq2x:Sp:=λvs H Q _=>∃ (r:Addr) (a e:Nat) (b:Int) (ns:List Int),vs=[.ref r,.int a,.int e,.int b]/\H r=some (.lst (ns.map V.int))/\a<e/\e<=ns.length/\(∀ n∈ns,n<=b) /\
 ∀ y:Nat,a<=y->y<e->seg ns y e<=b->(y=a\/(1<=y/\b<seg ns (y-1) e))->Q (.int y) H
theorem zqac (B:Bl mg)(F:Fun K "earliest_begin" "earliest_begin" zq7 f fd):FnOk P w K mg base CX0 1 f fd ["row","ahead","end","bound"] zq2x:=by
 refine F.okq zq2a (λvs H Q E h=>?_) (λcdv A outer s H vs Q E hr h=>?_)
 ·obtain⟨r,a,e,b,ns,rfl,_⟩:=h;rfl
 obtain⟨r,a,e,b,ns,rfl,hr0,hae,hen,hall,q⟩:=h
 refine⟨zqb4 B hr,?_⟩
 have e1:(((e:Int)-1)).toNat=e-1:=by omega
 refine i_ixI hr0 (by omega) (by omega) ?_
 rw[e1]
 have hs1:seg ns (e-1) e=ns.getD (e-1) 0:=by
  rw[seg_step (show e-1<e by omega) hen,show e-1+1=e by omega,seg_self];omega
 have hin:ns.getD (e-1) 0<=b:=by
  refine hall _ ?_
  rw[List.getD_eq_getElem?_getD,List.getElem?_eq_getElem (show e-1<ns.length by omega)]
  exact List.getElem_mem _
 refine⟨λσ H'=>H'=H/\∃ y:Nat,a<=y/\y<e/\seg ns y e<=b/\(y=a\/(1<=y/\b<seg ns (y-1) e))/\∃ o5,σ=[some (.ref r),some (.int a),some (.int e),some (.int b),some (.int y),o5],?_,?_⟩
 ·refine while_m (λmm σ H'=>H'=H/\∃ y:Nat,a<=y/\y<e/\mm=y/\seg ns y e<=b/\σ=[some (.ref r),some (.int a),some (.int e),some (.int b),some (.int y),some (.int (seg ns y e))]) (e-1) ⟨rfl,e-1,by omega,by omega,rfl,by omega,by rw[hs1,show ((e-1:Nat):Int)=(e:Int)-1 by omega];rfl⟩ ?_
  rintro mm σ H' ⟨rfl,y,h1,h2,hmm,h3,rfl⟩
  refine dec2 (λc=>?_) (λc=>?_)
  ·have hst:=seg_step (ns:=ns) (k:=y-1) (e:=e) (by omega) hen
   rw[show y-1+1=y by omega] at hst
   have ey:((y:Int)-1).toNat=y-1:=by omega
   refine i_ixI hr0 (by omega) (by omega) ?_
   rw[ey]
   refine dec2 (λc2=>?_) (λc2=>?_)
   ·refine i_ixI (i:=(y:Int)-1) hr0 (by omega) (by omega) ?_
    rw[ey]
    have e2:((y-1:Nat):Int)=(y:Int)-1:=by omega
    have hfin:seg ns (y-1) e=seg ns y e+ns.getD (y-1) 0:=by omega
    refine⟨y-1,by omega,rfl,y-1,by omega,by omega,rfl,?_,?_⟩
    ·have c2':seg ns y e+ns.getD (y-1) 0<=b:=c2
     omega
    ·rw[e2,hfin];rfl
   ·have c2':¬ seg ns y e+ns.getD (y-1) 0<=b:=c2
    exact⟨rfl,y,h1,h2,h3,.inr ⟨by omega,by omega⟩,_,rfl⟩
  ·exact bF ⟨rfl,y,h1,h2,h3,.inl (by omega),_,rfl⟩
 ·rintro σ H' ⟨rfl,y,h1,h2,h3,h4,o5,rfl⟩
  exact q y h1 h2 h3 h4
def worse (w:Nat)(o:Option Int)(b:Int):Bool:=match o with
 | none=>true
 | some t=>if w=0 then decide (b<t) else decide (t<b)
open M5 M10 M11
inductive FirstCut (w:Nat)(ns:List Int)(t:Int):Nat->Nat->List Int->Prop where
 | nil (i:Nat):FirstCut w ns t 0 i []
 | step {l i e:Nat} {c:List Int} (h1:i<e) (h2:e<ns.length) (h3:worse w (some (seg ns i e)) t=false) (h4:worse w (T w ns l e) t=false)
   (h5:∀ j,i<j->j<e->worse w (some (seg ns i j)) t=true\/worse w (T w ns l j) t=true) (h6:FirstCut w ns t l e c):FirstCut w ns t (l+1) i ((e:Int)::c)
theorem FirstCut.len {w:Nat}{ns:List Int}{t:Int}{l i:Nat}{c:List Int}(h:FirstCut w ns t l i c):c.length=l:=by
 induction h with
 | nil=>rfl
 | step _ _ _ _ _ _ ih=>rw[List.length_cons,ih]
abbrev zq6:Stmt:=top 15
theorem zq2s:FnScope ["row","many","bound","places","end","ahead"] ["row","many","bound"] (defScope zq6):=⟨rfl,rfl,rfl,by decide +kernel,rfl,by decide +kernel,by decide +kernel⟩
theorem zq8x:Loc (defScope zq6) "ahead":=Or.inl (by kernel_rfl)
theorem zq62:Loc (defScope zq6) "end":=Or.inl (by kernel_rfl)
theorem zq8i:Loc (defScope zq6) "places":=Or.inl (by kernel_rfl)
theorem zq8y:Vis (defScope zq6) "ahead":=Or.inl (by kernel_rfl)
theorem zq8z:Vis (defScope zq6) "bound":=Or.inl (by kernel_rfl)
theorem zq63:Vis (defScope zq6) "end":=Or.inl (by kernel_rfl)
theorem zq9f:Vis (defScope zq6) "many":=Or.inl (by kernel_rfl)
theorem zq4z:Vis (defScope zq6) "places":=Or.inl (by kernel_rfl)
theorem zq64:Vis (defScope zq6) "row":=Or.inl (by kernel_rfl)
theorem zq5o:(defScope zq6).names.lookup ("earliest_begin":Str)=some NameKind.globalImplicit:=by kernel_rfl
theorem zq9m:(defScope zq6).names.lookup ("len":Str)=some NameKind.globalImplicit:=by kernel_rfl
theorem zq90:(defScope zq6).names.lookup ("range":Str)=some NameKind.globalImplicit:=by kernel_rfl
def zqct {cdv:Value}{A:Around}{outer:List Env}{s:Shared}{H:Hp}{E:XK}(B:Bl mg)(zq2h:Def P w K mg base 1 "earliest_begin" ["row","ahead","end","bound"] zq2x)(hr:Room 1 (A.deeper (PyProof.Rows.envOfC "earliest_cut" (defScope zq6) s.heap.objs.size f cdv))) :
  { t:TS // QB (cxOf CX0 P w K mg base ["row","many","bound","places","end","ahead"] "earliest_cut" (defScope zq6) f cdv A outer s H E).nox (defBody zq6) t } :=
 ⟨_,(qb_cons (qs_set (i:=3) zq2s.nd rfl zq8i (.inl rfl) (qe_lst qa_nil))
  (qb_cons (qs_set (i:=4) zq2s.nd rfl zq62 (.inl rfl) (qe_cB (kLen (K:=K) rfl) zq9m B.len boot_len' (qa_cons (qv 0 rfl zq64) qa_nil)))
  (qb_mid (qs_for PassesOwn.never rfl (qi_r3 zq90 B.range (qa_cons (qe_op opSub (qv 1 rfl zq9f) qe_int) (qa_cons qe_int (qa_cons (qe_un unNeg qe_int) qa_nil)))) (qg_name (i:=5) zq2s.nd rfl zq8x (.inl rfl)) (qb_cons (qs_set (i:=4) zq2s.nd rfl zq62 (.inl rfl) (qe_def zq2h hr (by decide) zq5o (qa_cons (qv 0 rfl zq64) (qa_cons (qv 5 rfl zq8y) (qa_cons (qv 4 rfl zq63) (qa_cons (qv 2 rfl zq8z) qa_nil))))))
  (qb_one (qs_ex (ke_m1 (K:=K) rfl PySem.F.plainAttrs_list PySem.F.slot_list_append PySem.F.type_list_append mtApp (qv 3 rfl zq4z) (qv 4 rfl zq63))))))
  (qb_one (qs_ret (qe_rev (K:=K) rfl (qv 3 rfl zq4z) (qo_some (qe_un unNeg qe_int))))))))⟩
open M5 M10 M11 M7
def zq3u:Sp:=λvs H Q _=>∃ (r:Addr) (m:Nat) (ns:List Int) (t:Int),vs=[.ref r,.int m,.int t]/\H r=some (.lst (ns.map V.int))/\(∀ n∈ns,0<=n)/\ns.length<=1000/\(∀ n∈ns,n<=t)/\1<=m/\m<=ns.length/\T 0 ns (m-1) 0=some t /\
 ∀ p c H',FirstCut 0 ns t (m-1) 0 c->(∀ n∈c,0<=n/\n<=1000)->H p=none->Same H H'->H' p=some (.lst (c.map V.int))->Q (.ref p) H'
theorem zqc3 (B:Bl mg)(zq2h:Def P w K mg base 1 "earliest_begin" ["row","ahead","end","bound"] zq2x)(F:Fun K "earliest_cut" "earliest_cut" zq6 f fd):FnOk P w K mg base CX0 2 f fd ["row","many","bound"] zq3u:=by
 refine F.okq zq2s (λvs H Q E h=>?_) (λcdv A outer s H vs Q E hr h=>?_)
 ·obtain⟨r,m,ns,t,rfl,_⟩:=h;rfl
 obtain⟨r,m,ns,t,rfl,hr0,hnn,hle,hall,hm1,hmn,hT,q⟩:=h
 refine⟨zqct B zq2h hr,?_⟩
 refine i_newL (by show 0<=sizeLine;decide) λp H1 hp s1 e1=>?_
 refine i_lenI (s1 _ _ hr0) ?_
 refine⟨λσ H'=>Same H H'/\∃ (c:List Int),FirstCut 0 ns t (m-1) 0 c.reverse/\(∀ n∈c,0<=n/\n<=1000)/\H' p=some (.lst (c.map V.int))/\∃ o4 o5,σ=[some (.ref r),some (.int m),some (.int t),some (.ref p),o4,o5],?_,?_⟩
 ·refine⟨rfl,⟨by omega,by omega,by omega,by omega⟩,for_down (λl σ H'=>Same H H'/\l<=m-1/\∃ (x:Nat) (c:List Int),Back ns t m l x/\c.length=l/\(∀ n∈c,0<=n/\n<=1000)/\(∀ i,(l=0\/(m-l-1<=i/\i<x/\seg ns i x<=t))->FirstCut 0 ns t l i c.reverse)/\H' p=some (.lst (c.map V.int))/\∃ o5,σ=[some (.ref r),some (.int m),some (.int t),some (.ref p),some (.int x),o5]) ?_ ?_ ?_⟩
  ·exact⟨s1,Nat.zero_le _,ns.length,[],Back.start ns t m,rfl,by simp,λi _=>FirstCut.nil i,e1,_,rfl⟩
  ·rintro l σ H2 hl ⟨s2,_,x,c,hb,hcl,hc1,hF,e2,o5,rfl⟩
   have hl':l+1<m:=by omega
   have hxl:=hb.le
   have hxge:m-l-1<x:=by
    by_cases z:l=0
    ·have:=hb.at0 z;omega
    ·have:=hb.ge (by omega);omega
   have ea:((m:Int)-1-l)=((m-l-1:Nat):Int):=by omega
   rw[ea]
   refine⟨r,m-l-1,x,t,ns,rfl,s2 _ _ hr0,hxge,by omega,hall,λy h1 h2 h3 h4=>?_⟩
   have hb':=hb.step hnn hl' hmn h1 h2 h3 h4
   refine⟨i_tyL e2,i_appI e2 (by omega) λH3 k3 e3=>?_⟩
   refine⟨s2.new k3 hp,by omega,y,c++[(y:Int)],hb',by simp[hcl],λn hn=>?_,λi hi=>?_,e3,_,rfl⟩
   ·rcases List.mem_append.mp hn with hn | hn
    ·exact hc1 n hn
    ·have:n=(y:Int):=by simpa using hn
     omega
   ·rcases hi with z | ⟨i1,i2,i3⟩
    ·omega
    rw[List.reverse_append,List.reverse_singleton,List.singleton_append]
    obtain⟨v,hv,hvt⟩:=hb'.fit l rfl
    refine FirstCut.step i2 (by omega) ?_ ?_ (λj hj1 hj2=>.inr ?_) (hF y ?_)
    ·simp only[worse];rw[if_pos trivial];exact decide_eq_false (by omega)
    ·rw[hv];simp only[worse];rw[if_pos trivial];exact decide_eq_false (by omega)
    ·cases hTj:T 0 ns l j with
     | none=>rfl
     | some u =>
      have:=hb'.no l rfl j (by omega) hj2 u hTj
      simp only[worse];rw[if_pos trivial];exact decide_eq_true this
    ·by_cases z:l=0
     ·exact .inl z
     ·exact .inr ⟨h1,h2,h3⟩
  ·rintro σ H2 ⟨s2,_,x,c,hb,hcl,hc1,hF,e2,o5,rfl⟩
   have en:((m:Int)-1-0).toNat=m-1:=by omega
   rw[en] at hb hF hcl
   refine⟨s2,c,hF 0 ?_,hc1,e2,_,_,rfl⟩
   by_cases z:m=1
   ·exact .inl (by omega)
   ·obtain⟨h1,h2⟩:=hb.top hnn (by omega) hmn hT
    exact .inr ⟨by omega,h1,h2⟩
 ·rintro σ H2 ⟨s2,c,hF,hc1,e2,o4,o5,rfl⟩
  refine⟨rfl,i_rev (SqL.of e2) λp3 H3 hp3 s3 e3=>q p3 c.reverse H3 hF (λn hn=>hc1 n (by simpa using hn)) (s2.free hp3) (s2.trans s3) ?_⟩
  rw[e3,List.map_reverse]
abbrev zqe:Stmt:=top 12
theorem zq6r:FnScope ["row","many","bound"] ["row","many"] (defScope zqe):=⟨rfl,rfl,rfl,by decide +kernel,rfl,by decide +kernel,by decide +kernel⟩
theorem zq7x:Loc (defScope zqe) "bound":=Or.inl (by kernel_rfl)
theorem zq4f:Vis (defScope zqe) "bound":=Or.inl (by kernel_rfl)
theorem zq3a:Vis (defScope zqe) "many":=Or.inl (by kernel_rfl)
theorem zq3i:Vis (defScope zqe) "row":=Or.inl (by kernel_rfl)
theorem zq65:(defScope zqe).names.lookup ("check_many":Str)=some NameKind.globalImplicit:=by kernel_rfl
theorem zq5p:(defScope zqe).names.lookup ("earliest_cut":Str)=some NameKind.globalImplicit:=by kernel_rfl
theorem zq5t:(defScope zqe).names.lookup ("least_bound":Str)=some NameKind.globalImplicit:=by kernel_rfl
def zqb5 {cdv:Value}{A:Around}{outer:List Env}{s:Shared}{H:Hp}{E:XK}(B:Bl mg)(zqj:Def P w K mg base 3 "check_many" ["row","many"] zq1v)(zq2m:Def P w K mg base 3 "least_bound" ["row","many"] zq43)(zq2f:Def P w K mg base 2 "earliest_cut" ["row","many","bound"] zq3u)(hr:Room 3 (A.deeper (PyProof.Rows.envOfC "least_greatest" (defScope zqe) s.heap.objs.size f cdv))) :
  { t:TS // QB (cxOf CX0 P w K mg base ["row","many","bound"] "least_greatest" (defScope zqe) f cdv A outer s H E).nox (defBody zqe) t } :=
 ⟨_,(qb_cons (qs_ex (qe_def zqj hr (by decide) zq65 (qa_cons (qv 0 rfl zq3i) (qa_cons (qv 1 rfl zq3a) qa_nil))))
  (qb_cons (qs_set (i:=2) zq6r.nd rfl zq7x (.inl rfl) (qe_def zq2m hr (by decide) zq5t (qa_cons (qv 0 rfl zq3i) (qa_cons (qv 1 rfl zq3a) qa_nil))))
  (qb_one (qs_ret (qe_tup (qa_cons (qv 2 rfl zq4f) (qa_cons (qe_def zq2f hr (by decide) zq5p (qa_cons (qv 0 rfl zq3i) (qa_cons (qv 1 rfl zq3a) (qa_cons (qv 2 rfl zq4f) qa_nil)))) qa_nil)))))))⟩
open M5 M10 M11 M7
def zq2y:Sp:=λvs H Q _=>∃ (r:Addr) (m:Nat) (ns:List Int) (t:Int),vs=[.ref r,.int m]/\H r=some (.lst (ns.map V.int))/\RowN ns/\1<=m/\m<=ns.length/\T 0 ns (m-1) 0=some t /\
 ∀ p pc c H',0<=t->t<=120000000000000->FirstCut 0 ns t (m-1) 0 c->(∀ n∈c,0<=n/\n<=1000)->H p=none->H pc=none->Same H H'->H' p=some (.tup [.int t,.ref pc])->H' pc=some (.lst (c.map V.int))->Q (.ref p) H'
theorem zq6s (B:Bl mg)(zqj:Def P w K mg base 3 "check_many" ["row","many"] zq1v)(zq2m:Def P w K mg base 3 "least_bound" ["row","many"] zq43)(zq2f:Def P w K mg base 2 "earliest_cut" ["row","many","bound"] zq3u)
  (F:Fun K "least_greatest" "least_greatest" zqe f fd):FnOk P w K mg base CX0 4 f fd ["row","many"] zq2y:=by
 refine F.okq zq6r (λvs H Q E h=>?_) (λcdv A outer s H vs Q E hr h=>?_)
 ·obtain⟨r,m,ns,t,rfl,_⟩:=h;rfl
 obtain⟨r,m,ns,t,rfl,hr0,rn,hm1,hmn,hT,q⟩:=h
 refine⟨zqb5 B zqj zq2m zq2f hr,?_⟩
 have hle:ns.length<=1000:=by have:=rn.le;omega
 refine⟨r,m,_,rfl,hr0,by omega,by rw[List.length_map];omega,?_⟩
 refine⟨r,m,ns,t,rfl,hr0,rn,hm1,hmn,hT,λH1 s1 ht0 htb hall=>?_⟩
 refine⟨r,m,ns,t,rfl,s1 _ _ hr0,rn.nn,hle,hall,hm1,hmn,hT,λpc c H2 hF hc hpc s2 e2=>?_⟩
 refine i_newT (by show 2<=sizeLine;decide) λp H3 hp s3 e3=>?_
 exact q p pc c H3 ht0 htb hF hc ((s1.trans s2).free hp) (s1.free hpc) (s1.trans (s2.trans s3)) e3 (s3 _ _ e2)
abbrev zqg:Stmt:=top 18
theorem zq28:FnScope ["row","bound","ends","total","place","number"] ["row","bound"] (defScope zqg):=⟨rfl,rfl,rfl,by decide +kernel,rfl,by decide +kernel,by decide +kernel⟩
theorem zqad:Loc (defScope zqg) "ends":=Or.inl (by kernel_rfl)
theorem zq9g:Loc (defScope zqg) "number":=Or.inl (by kernel_rfl)
theorem zq9n:Loc (defScope zqg) "place":=Or.inl (by kernel_rfl)
theorem zq3x:Loc (defScope zqg) "total":=Or.inl (by kernel_rfl)
theorem zq9o:Vis (defScope zqg) "bound":=Or.inl (by kernel_rfl)
theorem zq6t:Vis (defScope zqg) "ends":=Or.inl (by kernel_rfl)
theorem zq9h:Vis (defScope zqg) "number":=Or.inl (by kernel_rfl)
theorem zq9p:Vis (defScope zqg) "place":=Or.inl (by kernel_rfl)
theorem zqb6:Vis (defScope zqg) "row":=Or.inl (by kernel_rfl)
theorem zq9q:Vis (defScope zqg) "total":=Or.inl (by kernel_rfl)
theorem zq7y:(defScope zqg).names.lookup ("enumerate":Str)=some NameKind.globalImplicit:=by kernel_rfl
def zqds {cdv:Value}{A:Around}{outer:List Env}{s:Shared}{H:Hp}{E:XK}(B:Bl mg)(hr:Room 0 (A.deeper (PyProof.Rows.envOfC "short_ends" (defScope zqg) s.heap.objs.size f cdv))) :
  { t:TS // QB (cxOf CX0 P w K mg base ["row","bound","ends","total","place","number"] "short_ends" (defScope zqg) f cdv A outer s H E).nox (defBody zqg) t } :=
 ⟨_,(qb_cons (qs_set (i:=2) zq28.nd rfl zqad (.inl rfl) (qe_lst qa_nil))
  (qb_cons (qs_set (i:=3) zq28.nd rfl zq3x (.inl rfl) qe_int)
  (qb_mid (qs_for PassesOwn.never rfl (ki_enum (K:=K) rfl zq7y B.enumerate (qa_cons (qv 0 rfl zqb6) qa_nil)) (kg_tup (K:=K) rfl rfl (qgs_cons (qg_name (i:=4) zq28.nd rfl zq9n (.inl rfl)) (qgs_cons (qg_name (i:=5) zq28.nd rfl zq9g (.inl rfl)) qgs_nil))) (qb_cons (qs_aug (i:=3) zq28.nd rfl zq3x (.inl rfl) (qv 5 rfl zq9h) ipAdd)
  (qb_one (qs_if (qt_cmp opGe (qv 3 rfl zq9q) (qv 1 rfl zq9o)) (qb_cons (qs_ex (ke_m1 (K:=K) rfl PySem.F.plainAttrs_list PySem.F.slot_list_append PySem.F.type_list_append mtApp (qv 2 rfl zq6t) (qe_op opAdd (qv 4 rfl zq9p) qe_int)))
  (qb_one (qs_set (i:=3) zq28.nd rfl zq3x (.inl rfl) qe_int))) qb_nil))))
  (qb_one (qs_ret (qv 2 rfl zq6t))))))⟩
open M10 in
def zq2n:Sp:=λvs H Q _=>∃ (r:Addr) (b:Int) (ns:List Int),vs=[.ref r,.int b]/\H r=some (.lst (ns.map V.int))/\ns.length<=1000 /\
 ∀ p H',H p=none->Same H H'->H' p=some (.lst ((sends b 0 0 ns).map V.int))->Q (.ref p) H'
open M10 in
theorem zqde (B:Bl mg)(F:Fun K "short_ends" "short_ends" zqg f fd):FnOk P w K mg base CX0 1 f fd ["row","bound"] zq2n:=by
 refine F.okq zq28 (λvs H Q E h=>?_) (λcdv A outer s H vs Q E hr h=>?_)
 ·obtain⟨r,b,ns,rfl,_⟩:=h;rfl
 obtain⟨r,b,ns,rfl,hr0,hle,q⟩:=h
 refine⟨zqds B hr,?_⟩
 refine i_newL (by show 0<=sizeLine;decide) λp H1 hp s1 e1=>?_
 refine⟨λσ H'=>Same H H'/\H' p=some (.lst ((sends b 0 0 ns).map V.int))/\∃ o3 o4 o5,σ=[some (.ref r),some (.int b),some (.ref p),o3,o4,o5],?_,?_⟩
 ·refine⟨⟨_,SqL.of (s1 _ _ hr0)⟩,for_en (ns.map V.int) (λi σ H'=>∃ o1 o2,σ=[some (.ref r),some (.int b),some (.ref p),some (.int (stot b 0 (ns.take i))),o1,o2]/\Same H H'/\H' p=some (.lst ((sends b 0 0 (ns.take i)).map V.int))) ?_ ?_ ?_ ?_⟩
  ·exact⟨none,none,rfl,s1,e1⟩
  ·rintro i σ H' _ ⟨o1,o2,rfl,s',e'⟩
   exact SqL.of (s' _ _ hr0)
  ·rintro i x σ H' T H2 hx ⟨o1,o2,rfl,s',e'⟩ hT s2 e2
   obtain⟨z,rfl,hz,_⟩:=vints_at hx
   have hi:i<ns.length:=(List.getElem?_eq_some_iff.mp hz).1
   have hlen:(ns.take i).length=i:=by rw[List.length_take];omega
   have et:=take_snoc hz
   have e3:=s2 _ _ e'
   have ll:(sends b 0 0 (ns.take i)).length<=1000:=by have:=sends_len b (ns.take i) 0 0;omega
   have el:sends b 0 0 (ns.take (i+1))=sends b 0 0 (ns.take i)++(if stot b 0 (ns.take i)+z>=b then [((i+1:Nat):Int)] else []):=by
    rw[et,sends_app,hlen,Nat.zero_add]
    simp only[sends]
   have es:stot b 0 (ns.take (i+1))=if stot b 0 (ns.take i)+z>=b then 0 else stot b 0 (ns.take i)+z:=by
    rw[et,stot_app]
    simp only[stot]
   refine i_unp e2 rfl ?_
   refine dec2 (λc=>?_) (λc=>?_)
   ·have c':stot b 0 (ns.take i)+z>=b:=c
    refine⟨i_tyL e3,i_appI e3 (by omega) λH4 k4 e4=>?_⟩
    refine⟨some (.int i),some (.int z),by rw[es,if_pos c'];rfl,(s'.trans s2).new k4 hp,?_⟩
    rw[e4,el,if_pos c'];rfl
   ·have c':¬ stot b 0 (ns.take i)+z>=b:=c
    refine⟨some (.int i),some (.int z),by rw[es,if_neg c'];rfl,s'.trans s2,?_⟩
    rw[e3,el,if_neg c',List.append_nil]
  ·rintro σ H' ⟨o1,o2,rfl,s',e'⟩
   rw[List.length_map,List.take_length] at e'
   exact⟨s',e',_,_,_,rfl⟩
 ·rintro σ H' ⟨s',e',o3,o4,o5,rfl⟩
  exact q p H' hp s' e'
theorem cut_init (xs:List V)(x:V):cutV (xs++[x]) none (some (-1))=xs:=by
 unfold cutV
 have e1:HT.sIx (xs++[x]).length 0 none=0:=rfl
 have e2:HT.sIx (xs++[x]).length (xs++[x]).length (some (-1))=xs.length:=by
  unfold HT.sIx
  simp only[List.length_append,List.length_cons,List.length_nil]
  rw[if_pos (by decide)]
  omega
 rw[e1,e2,List.drop_zero,Nat.sub_zero,List.take_left' rfl]
abbrev zq5:Stmt:=top 21
theorem zq1u:FnScope ["row","many","low","high","middle"] ["row","many"] (defScope zq5):=⟨rfl,rfl,rfl,by decide +kernel,rfl,by decide +kernel,by decide +kernel⟩
theorem zq50:Loc (defScope zq5) "high":=Or.inl (by kernel_rfl)
theorem zq5a:Loc (defScope zq5) "low":=Or.inl (by kernel_rfl)
theorem zq7h:Loc (defScope zq5) "middle":=Or.inl (by kernel_rfl)
theorem zq51:Vis (defScope zq5) "high":=Or.inl (by kernel_rfl)
theorem zq3j:Vis (defScope zq5) "low":=Or.inl (by kernel_rfl)
theorem zq52:Vis (defScope zq5) "many":=Or.inl (by kernel_rfl)
theorem zq2l:Vis (defScope zq5) "middle":=Or.inl (by kernel_rfl)
theorem zq5b:Vis (defScope zq5) "row":=Or.inl (by kernel_rfl)
theorem zq91:(defScope zq5).names.lookup ("len":Str)=some NameKind.globalImplicit:=by kernel_rfl
theorem zq66:(defScope zq5).names.lookup ("short_ends":Str)=some NameKind.globalImplicit:=by kernel_rfl
theorem zq92:(defScope zq5).names.lookup ("sum":Str)=some NameKind.globalImplicit:=by kernel_rfl
def zqb7 {cdv:Value}{A:Around}{outer:List Env}{s:Shared}{H:Hp}{E:XK}(B:Bl mg)(zq1a:Def P w K mg base 1 "short_ends" ["row","bound"] zq2n)(hr:Room 1 (A.deeper (PyProof.Rows.envOfC "greatest_bound" (defScope zq5) s.heap.objs.size f cdv))) :
  { t:TS // QB (cxOf CX0 P w K mg base ["row","many","low","high","middle"] "greatest_bound" (defScope zq5) f cdv A outer s H E).nox (defBody zq5) t } :=
 ⟨_,(qb_cons (qs_set (i:=2) zq1u.nd rfl zq5a (.inl rfl) qe_int)
  (qb_cons (qs_set (i:=3) zq1u.nd rfl zq50 (.inl rfl) (qe_op opFdiv (qe_cB (kSum (K:=K) rfl rfl) zq92 B.sum boot_sum' (qa_cons (qv 0 rfl zq5b) qa_nil)) (qv 1 rfl zq52)))
  (qb_mid (qs_while PassesOwn.never (qt_cmp opLt (qv 2 rfl zq3j) (qv 3 rfl zq51)) (qb_cons (qs_set (i:=4) zq1u.nd rfl zq7h (.inl rfl) (qe_op opFdiv (qe_op opAdd (qe_op opAdd (qv 2 rfl zq3j) (qv 3 rfl zq51)) qe_int) qe_int))
  (qb_one (qs_if (qt_cmp opGe (qe_cB (kLen (K:=K) rfl) zq91 B.len boot_len' (qa_cons (qe_def zq1a hr (by decide) zq66 (qa_cons (qv 0 rfl zq5b) (qa_cons (qv 4 rfl zq2l) qa_nil))) qa_nil)) (qv 1 rfl zq52)) (qb_one (qs_set (i:=2) zq1u.nd rfl zq5a (.inl rfl) (qv 4 rfl zq2l))) (qb_one (qs_set (i:=3) zq1u.nd rfl zq50 (.inl rfl) (qe_op opSub (qv 4 rfl zq2l) qe_int)))))))
  (qb_one (qs_ret (qv 2 rfl zq3j))))))⟩
open M5 M10 M11
theorem sum_seg0 (ns:List Int):ns.sum=seg ns 0 ns.length:=by unfold seg;rw[List.take_length,List.drop_zero]
theorem G_len0 (b:Int)(ns:List Int):(sends b 0 0 ns).length=G b ns 0:=by unfold G cnt;rw[List.drop_zero]
def zq2z:Sp:=λvs H Q _=>∃ (r:Addr) (m:Nat) (ns:List Int) (t:Int),vs=[.ref r,.int m]/\H r=some (.lst (ns.map V.int))/\RowN ns/\1<=m/\m<=ns.length/\T 1 ns (m-1) 0=some t/\∀ H',Same H H'->0<=t->t<=120000000000000->Q (.int t) H'
theorem zqae (B:Bl mg)(zq1a:Def P w K mg base 1 "short_ends" ["row","bound"] zq2n)(F:Fun K "greatest_bound" "greatest_bound" zq5 f fd):FnOk P w K mg base CX0 2 f fd ["row","many"] zq2z:=by
 refine F.okq zq1u (λvs H Q E h=>?_) (λcdv A outer s H vs Q E hr h=>?_)
 ·obtain⟨r,m,ns,t,rfl,_⟩:=h;rfl
 obtain⟨r,m,ns,t,rfl,hr0,rn,hm1,hmn,hT,q⟩:=h
 refine⟨zqb7 B zq1a hr,?_⟩
 have hnn:=rn.nn
 have hle:ns.length<=1000:=by have:=rn.le;omega
 have hiff:∀ b,b<=t↔m<=G b ns 0:=λb=>by
  have:=T_iff hnn b (k:=m-1) (i:=0) (by omega) hT
  rw[show m-1+1=m by omega] at this;exact this
 have ht0:0<=t:=(hiff 0).mpr (by rw[G_zero hnn];exact hmn)
 have hsum:=row_sum' rn
 have htm:t<=ns.sum / m:=by
  rw[Int.le_ediv_iff_mul_le (by omega)]
  have h1:=G_sum hnn ht0 ns.length 0 (by omega) (by omega)
  have h2:=(hiff t).mp (Int.le_refl t)
  rw[<- sum_seg0] at h1
  have h3:t*(m:Int)<=t*(G t ns 0:Int):=Int.mul_le_mul_of_nonneg_left (by omega) ht0
  omega
 have htb:t<=120000000000000:=by
  have h1:=G_sum hnn ht0 ns.length 0 (by omega) (by omega)
  have h2:=(hiff t).mp (Int.le_refl t)
  rw[<- sum_seg0] at h1
  have h3:t*1<=t*(G t ns 0:Int):=Int.mul_le_mul_of_nonneg_left (by omega) ht0
  omega
 have hmI:(0:Int)<m:=by omega
 refine i_sum (SqL.of hr0) ⟨⟨by omega,by omega⟩,?_⟩
 have hhi:ns.sum / (m:Int)<=120000000000000:=by
  have:=Int.ediv_le_self (a:=ns.sum) (m:Int) hsum.1
  omega
 refine⟨λσ H'=>Same H H'/\∃ o3 o4,σ=[some (.ref r),some (.int m),some (.int t),o3,o4],?_,?_⟩
 ·refine while_m (λmm σ H'=>∃ lo hi:Int,∃ o4,0<=lo/\lo<=t/\t<=hi/\hi<=120000000000000/\mm=(hi-lo).toNat/\Same H H'/\σ=[some (.ref r),some (.int m),some (.int lo),some (.int hi),o4]) _ ⟨0,ns.sum / m,_,Int.le_refl 0,ht0,htm,hhi,rfl,Same.refl H,rfl⟩ ?_
  rintro mm σ H1 ⟨lo,hi,o4,h1,h2,h3,h4,rfl,s1,rfl⟩
  refine dec2 (λc=>?_) (λc=>?_)
  ·refine⟨⟨by decide,by decide⟩,r,(lo+hi+1) / 2,ns,rfl,s1 _ _ hr0,hle,λp H2 hp s2 e2=>?_⟩
   refine i_lenI e2 ?_
   rw[G_len0]
   have hi2:=hiff ((lo+hi+1) / 2)
   refine dec2 (λc2=>?_) (λc2=>?_)
   ·have:=hi2.mpr (by omega)
    exact⟨(hi-(lo+hi+1) / 2).toNat,by omega,(lo+hi+1) / 2,hi,_,by omega,this,h3,h4,rfl,s1.trans s2,rfl⟩
   ·have:¬ (lo+hi+1) / 2<=t:=λz=>c2 (by have:=hi2.mp z;omega)
    exact⟨((lo+hi+1) / 2-1-lo).toNat,by omega,lo,(lo+hi+1) / 2-1,_,h1,h2,by omega,by omega,rfl,s1.trans s2,rfl⟩
  ·have:lo=t:=by omega
   subst this
   exact⟨s1,_,_,rfl⟩
 ·rintro σ H1 ⟨s1,o3,o4,rfl⟩
  exact q H1 s1 ht0 htb
abbrev zqf:Stmt:=top 19
theorem zq6u:FnScope ["row","many","bound"] ["row","many"] (defScope zqf):=⟨rfl,rfl,rfl,by decide +kernel,rfl,by decide +kernel,by decide +kernel⟩
theorem zq7z:Loc (defScope zqf) "bound":=Or.inl (by kernel_rfl)
theorem zq4g:Vis (defScope zqf) "bound":=Or.inl (by kernel_rfl)
theorem zq3b:Vis (defScope zqf) "many":=Or.inl (by kernel_rfl)
theorem zq3k:Vis (defScope zqf) "row":=Or.inl (by kernel_rfl)
theorem zq67:(defScope zqf).names.lookup ("check_many":Str)=some NameKind.globalImplicit:=by kernel_rfl
theorem zq54:(defScope zqf).names.lookup ("greatest_bound":Str)=some NameKind.globalImplicit:=by kernel_rfl
theorem zq68:(defScope zqf).names.lookup ("short_ends":Str)=some NameKind.globalImplicit:=by kernel_rfl
def zqb8 {cdv:Value}{A:Around}{outer:List Env}{s:Shared}{H:Hp}{E:XK}(B:Bl mg)(zqj:Def P w K mg base 3 "check_many" ["row","many"] zq1v)(zq1y:Def P w K mg base 2 "greatest_bound" ["row","many"] zq2z)(zq1a:Def P w K mg base 1 "short_ends" ["row","bound"] zq2n)(hr:Room 3 (A.deeper (PyProof.Rows.envOfC "greatest_least" (defScope zqf) s.heap.objs.size f cdv))) :
  { t:TS // QB (cxOf CX0 P w K mg base ["row","many","bound"] "greatest_least" (defScope zqf) f cdv A outer s H E).nox (defBody zqf) t } :=
 ⟨_,(qb_cons (qs_ex (qe_def zqj hr (by decide) zq67 (qa_cons (qv 0 rfl zq3k) (qa_cons (qv 1 rfl zq3b) qa_nil))))
  (qb_cons (qs_set (i:=2) zq6u.nd rfl zq7z (.inl rfl) (qe_def zq1y hr (by decide) zq54 (qa_cons (qv 0 rfl zq3k) (qa_cons (qv 1 rfl zq3b) qa_nil))))
  (qb_one (qs_ret (qe_tup (qa_cons (qv 2 rfl zq4g) (qa_cons (ke_slice (K:=K) rfl (qe_def zq1a hr (by decide) zq68 (qa_cons (qv 0 rfl zq3k) (qa_cons (qv 2 rfl zq4g) qa_nil))) qo_none (qo_some (qe_op opSub (qv 1 rfl zq3b) qe_int))) qa_nil)))))))⟩
open M5 M10 M11
def zq30:Sp:=λvs H Q _=>∃ (r:Addr) (m:Nat) (ns:List Int) (t:Int),vs=[.ref r,.int m]/\H r=some (.lst (ns.map V.int))/\RowN ns/\1<=m/\m<=ns.length/\T 1 ns (m-1) 0=some t /\
 ∀ p pc H',0<=t->t<=120000000000000->H p=none->H pc=none->Same H H'->H' p=some (.tup [.int t,.ref pc])->H' pc=some (.lst (((sends t 0 0 ns).take (m-1)).map V.int))->Q (.ref p) H'
theorem zq6v (B:Bl mg)(zqj:Def P w K mg base 3 "check_many" ["row","many"] zq1v)(zq1y:Def P w K mg base 2 "greatest_bound" ["row","many"] zq2z)(zq1a:Def P w K mg base 1 "short_ends" ["row","bound"] zq2n)
  (F:Fun K "greatest_least" "greatest_least" zqf f fd):FnOk P w K mg base CX0 4 f fd ["row","many"] zq30:=by
 refine F.okq zq6u (λvs H Q E h=>?_) (λcdv A outer s H vs Q E hr h=>?_)
 ·obtain⟨r,m,ns,t,rfl,_⟩:=h;rfl
 obtain⟨r,m,ns,t,rfl,hr0,rn,hm1,hmn,hT,q⟩:=h
 refine⟨zqb8 B zqj zq1y zq1a hr,?_⟩
 have hle:ns.length<=1000:=by have:=rn.le;omega
 refine⟨r,m,_,rfl,hr0,by omega,by rw[List.length_map];omega,?_⟩
 refine⟨r,m,ns,t,rfl,hr0,rn,hm1,hmn,hT,λH1 s1 ht0 htb=>?_⟩
 refine⟨r,t,ns,rfl,s1 _ _ hr0,hle,λp2 H2 hp2 s2 e2=>?_⟩
 refine i_sl (SqL.of e2) λpc H3 hpc s3 e3=>?_
 refine i_newT (by show 2<=sizeLine;decide) λp H4 hp s4 e4=>?_
 refine q p pc H4 ht0 htb ((s1.trans (s2.trans s3)).free hp) ((s1.trans s2).free hpc) (s1.trans (s2.trans (s3.trans s4))) e4 ?_
 rw[s4 _ _ e3,cutV_ints]
 have e1:HT.sIx (sends t 0 0 ns).length 0 none=0:=rfl
 have e2':((m:Int)-1)=((m-1:Nat):Int):=by omega
 rw[e1,e2',HT.sIx_nat,List.drop_zero,Nat.sub_zero]
 congr 3
 by_cases c:m-1<=(sends t 0 0 ns).length
 ·rw[Nat.min_eq_left c]
 ·rw[Nat.min_eq_right (by omega),List.take_of_length_le (Nat.le_refl _),List.take_of_length_le (by omega)]
structure LL (H:Hp)(p:Addr)(ps:List Addr)(pss:List (List Int)):Prop where
 at_:H p=some (.lst (ps.map V.ref))
 nd:ps.Nodup
 np:p∉ps
 it:Paired (λa ns=>H a=some (.lst (List.map V.int ns))) ps pss
theorem pair_imp {α β:Type}{F G:α->β->Prop}:∀ {l:List α} {m:List β},Paired F l m->(∀ a∈l,∀ b,F a b->G a b)->Paired G l m
 | _,_,.nil,_=>.nil
 | _,_,.cons r t,f=>.cons (f _ List.mem_cons_self _ r) (pair_imp t λa ha=>f a (List.mem_cons_of_mem _ ha))
theorem pair_snoc {α β:Type}{F:α->β->Prop}{a:α}{b:β}(h:F a b):∀ {l:List α} {m:List β},Paired F l m->Paired F (l++[a]) (m++[b])
 | _,_,.nil=>.cons h .nil
 | _,_,.cons r t=>.cons r (pair_snoc h t)
theorem pair_some {α β:Type}{F:α->β->Prop}:∀ {l:List α} {m:List β},Paired F l m->∀ {a:α},a∈l->∃ b,F a b
 | _,_,.cons r t,a,h=>by
  rcases List.mem_cons.mp h with rfl | h
  ·exact⟨_,r⟩
  ·exact pair_some t h
section
variable {H H':Hp}{p:Addr}{ps S:List Addr}{pss:List (List Int)}
theorem LL.same (s:Same H H')(h:LL H p ps pss):LL H' p ps pss:=⟨s _ _ h.at_,h.nd,h.np,pair_imp h.it λa ha b e=>s _ _ e⟩
theorem LL.len (h:LL H p ps pss):ps.length=pss.length:=Paired.length h.it
end
abbrev zs (cs:List Nat):List Int:=cs.map λ(n:Nat)=>(n:Int)
theorem pair_get {α β:Type}{F:α->β->Prop}{l:List α}{m:List β}(h:Paired F l m){i:Nat}{a:α}(ha:l[i]?=some a):∃ b,m[i]?=some b/\F a b:=by
 have hl:=Paired.length h
 have hi:=(List.getElem?_eq_some_iff.mp ha).1
 have hi2:i<m.length:=by omega
 exact⟨m[i],List.getElem?_eq_getElem hi2,paired_at h i ha (List.getElem?_eq_getElem hi2)⟩
abbrev zqt:Stmt:=top 23
theorem zq6h:FnScope ["row","sums","number"] ["row"] (defScope zqt):=⟨rfl,rfl,rfl,by decide +kernel,rfl,by decide +kernel,by decide +kernel⟩
theorem zq9i:Loc (defScope zqt) "number":=Or.inl (by kernel_rfl)
theorem zqaf:Loc (defScope zqt) "sums":=Or.inl (by kernel_rfl)
theorem zq9j:Vis (defScope zqt) "number":=Or.inl (by kernel_rfl)
theorem zqb9:Vis (defScope zqt) "row":=Or.inl (by kernel_rfl)
theorem zq47:Vis (defScope zqt) "sums":=Or.inl (by kernel_rfl)
def zqdt {cdv:Value}{A:Around}{outer:List Env}{s:Shared}{H:Hp}{E:XK}(B:Bl mg)(hr:Room 0 (A.deeper (PyProof.Rows.envOfC "sums_ahead" (defScope zqt) s.heap.objs.size f cdv))) :
  { t:TS // QB (cxOf CX0 P w K mg base ["row","sums","number"] "sums_ahead" (defScope zqt) f cdv A outer s H E).nox (defBody zqt) t } :=
 ⟨_,(qb_cons (qs_set (i:=1) zq6h.nd rfl zqaf (.inl rfl) (qe_lst (qa_cons qe_int qa_nil)))
  (qb_mid (qs_for PassesOwn.never rfl (ki_list (K:=K) rfl (qv 0 rfl zqb9)) (qg_name (i:=2) zq6h.nd rfl zq9i (.inl rfl)) (qb_one (qs_ex (ke_m1 (K:=K) rfl PySem.F.plainAttrs_list PySem.F.slot_list_append PySem.F.type_list_append mtApp (qv 1 rfl zq47) (qe_op opAdd (ke_ix (K:=K) rfl (qv 1 rfl zq47) (qe_un unNeg qe_int) (λ_ _=>rfl)) (qv 2 rfl zq9j))))))
  (qb_one (qs_ret (qv 1 rfl zq47)))))⟩
open M25 in
def zq2o:Sp:=λvs H Q _=>∃ (r:Addr) (ns:List Int),vs=[.ref r]/\H r=some (.lst (ns.map V.int))/\ns.length<=1000/\∀ (p:Addr) (H':Hp),H p=none->Same H H'->H' p=some (.lst ((pre ns (ns.length+1)).map V.int))->Q (.ref p) H'
open M25 in
theorem pre_map (ns:List Int)(k:Nat):(pre ns (k+1)).map V.int=(pre ns k).map V.int++[V.int (S ns k)]:=by rw[pre_succ,List.map_append];rfl
open M25 in
theorem zqdf (B:Bl mg)(F:Fun K "sums_ahead" "sums_ahead" zqt f fd):FnOk P w K mg base CX0 1 f fd ["row"] zq2o:=by
 refine F.okq zq6h (λvs H Q E h=>?_) (λcdv A outer s H vs Q E hr h=>?_)
 ·obtain⟨r,ns,rfl,_⟩:=h;rfl
 obtain⟨r,ns,rfl,hr0,hle,q⟩:=h
 refine⟨zqdt B  hr,?_⟩
 refine i_newL (by show 1<=sizeLine;decide) λp H1 hp s1 e1=>?_
 refine⟨λσ H'=>Same H H'/\H' p=some (.lst ((pre ns (ns.length+1)).map V.int))/\∃ o,σ=[some (.ref r),some (.ref p),o],?_,?_⟩
 ·refine⟨⟨_,SqL.of (s1 _ _ hr0)⟩,for_list (xs:=ns.map V.int) (λi σ H'=>Same H H'/\H' p=some (.lst ((pre ns (i+1)).map V.int))/\∃ o,σ=[some (.ref r),some (.ref p),o]) ?_ ?_ ?_ ?_⟩
  ·refine⟨s1,?_,_,rfl⟩
   rw[e1,pre_map,S_zero];rfl
  ·rintro i σ H' _ ⟨s',_⟩
   exact SqL.of (s' _ _ hr0)
  ·rintro i x σ H2 hx ⟨s2,e2,o,rfl⟩
   obtain⟨z,rfl,hz,_⟩:=vints_at hx
   have hi:i<ns.length:=(List.getElem?_eq_some_iff.mp hz).1
   have e2':=e2
   rw[pre_map] at e2'
   refine⟨i_tyL e2,i_ix (.inl (SqL.of e2')) (atI_last _ _) ?_⟩
   refine i_appI e2 (by rw[pre_len];omega) λH3 k3 e3=>?_
   refine⟨s2.new k3 hp,?_,_,rfl⟩
   rw[e3,pre_succ ns (i+1),S_succ hz]
  ·rintro σ H' ⟨s',e',o⟩
   rw[List.length_map] at e'
   exact⟨s',e',o⟩
 ·rintro σ H' ⟨s',e',o,rfl⟩
  exact q p H' hp s' e'
end
end K
namespace K
open PySem L2
section
variable {C:Addr}{P:Program}{w:World}{K:W.Frag}{mg:Str->Option Value}{base:Heap}{f:Addr}{fd:FuncData}
abbrev zq9:Stmt:=top 27
theorem zq3n:FnScope ["row","most","ahead","table","left","fewer"] ["row","most"] (defScope zq9):=⟨rfl,rfl,rfl,by decide +kernel,rfl,by decide +kernel,by decide +kernel⟩
theorem zq9r:Loc (defScope zq9) "ahead":=Or.inr (by kernel_rfl)
theorem zq9s:Loc (defScope zq9) "fewer":=Or.inr (by kernel_rfl)
theorem zqag:Loc (defScope zq9) "left":=Or.inl (by kernel_rfl)
theorem zq9t:Loc (defScope zq9) "table":=Or.inl (by kernel_rfl)
theorem zq9u:Vis (defScope zq9) "ahead":=Or.inr (Or.inl (by kernel_rfl))
theorem zq9v:Vis (defScope zq9) "fewer":=Or.inr (Or.inl (by kernel_rfl))
theorem zqah:Vis (defScope zq9) "left":=Or.inl (by kernel_rfl)
theorem zqai:Vis (defScope zq9) "most":=Or.inl (by kernel_rfl)
theorem zqba:Vis (defScope zq9) "row":=Or.inl (by kernel_rfl)
theorem zq3y:Vis (defScope zq9) "table":=Or.inl (by kernel_rfl)
theorem zqbb:(defScope zq9).names.lookup ("len":Str)=some NameKind.globalImplicit:=by kernel_rfl
theorem zq69:(defScope zq9).names.lookup ("range":Str)=some NameKind.globalImplicit:=by kernel_rfl
theorem zq7i:(defScope zq9).names.lookup ("sums_ahead":Str)=some NameKind.globalImplicit:=by kernel_rfl
def zqdu {cdv:Value}{A:Around}{outer:List Env}{s:Shared}{H:Hp}{E:XK}(B:Bl mg)(zq1i:Def P w K mg base 1 "sums_ahead" ["row"] zq2o)(hr:Room 1 (A.deeper (PyProof.Rows.envOfC "even_table" (defScope zq9) s.heap.objs.size f cdv))) :
  { t:TS // QB (cxOf CX0 P w K mg base ["row","most","ahead","table","left","fewer"] "even_table" (defScope zq9) f cdv A outer s H E).nox (defBody zq9) t } :=
 ⟨_,(qb_cons (qs_set (i:=2) zq3n.nd rfl zq9r (.inl rfl) (qe_def zq1i hr (by decide) zq7i (qa_cons (qv 0 rfl zqba) qa_nil)))
  (qb_cons (qs_set (i:=3) zq3n.nd rfl zq9t (.inl rfl) (qe_lst (qa_cons (qe_lst qa_nil) (qa_cons (qe_cp ["before","ahead"] [none,some 2] rfl (ki_list (K:=K) rfl (ke_slice (K:=K) rfl (qv 2 rfl zq9u) qo_none (qo_some (qe_un unNeg qe_int)))) (λ_ _ _ _ _ _=>(qg_name (i:=0) (show (["before","ahead"]:List Str).Nodup by decide +kernel) rfl (by first | exact Or.inl rfl | exact Or.inr rfl) (by first | exact .inl rfl | exact .inr rfl))) (λ_ _ _ _ _ _=>qif_nil) (λ_ _ _ _ _ _=>(qe_op opPow (qe_op opSub (ke_ix (K:=K) rfl (qv 1 rfl (by first | exact Or.inl rfl | exact Or.inr (Or.inl rfl) | exact Or.inr (Or.inr rfl))) (qe_un unNeg qe_int) (λ_ _=>rfl)) (qv 0 rfl (by first | exact Or.inl rfl | exact Or.inr (Or.inl rfl) | exact Or.inr (Or.inr rfl)))) qe_int))) qa_nil))))
  (qb_mid (qs_for PassesOwn.never rfl (qi_r2 zq69 B.range (qa_cons qe_int (qa_cons (qe_op opAdd (qv 1 rfl zqai) qe_int) qa_nil))) (qg_name (i:=4) zq3n.nd rfl zqag (.inl rfl)) (qb_cons (qs_set (i:=5) zq3n.nd rfl zq9s (.inl rfl) (ke_ix (K:=K) rfl (qv 3 rfl zq3y) (qe_op opSub (qv 4 rfl zqah) qe_int) (λ_ _=>rfl)))
  (qb_one (qs_ex (ke_m1 (K:=K) rfl PySem.F.plainAttrs_list PySem.F.slot_list_append PySem.F.type_list_append mtApp (qv 3 rfl zq3y) (qe_cpN ["begin","fewer","ahead"] [none,some 5,some 2] rfl (qi_r1 zq69 B.range (qa_cons (qe_op opSub (qe_cB (kLen (K:=K) rfl) zqbb B.len boot_len' (qa_cons (qv 5 rfl zq9v) qa_nil)) qe_int) qa_nil)) (λ_ _ _ _ _ _=>(qg_name (i:=0) (show (["begin","fewer","ahead"]:List Str).Nodup by decide +kernel) rfl (by first | exact Or.inl rfl | exact Or.inr rfl) (by first | exact .inl rfl | exact .inr rfl))) (λ_ _ _ _ _ _=>qif_nil) (λ_ _ _ _ _ _=>(qe_cB (kMin (K:=K) rfl rfl) rfl B.min boot_min' (qa_cons (qe_cp ["end","ahead","begin","fewer"] [none,some 2,some 0,some 1] rfl (qi_r2 rfl B.range (qa_cons (qe_op opAdd (qv 0 rfl (by first | exact Or.inl rfl | exact Or.inr (Or.inl rfl) | exact Or.inr (Or.inr rfl))) qe_int) (qa_cons (qe_cB (kLen (K:=K) rfl) rfl B.len boot_len' (qa_cons (qv 1 rfl (by first | exact Or.inl rfl | exact Or.inr (Or.inl rfl) | exact Or.inr (Or.inr rfl))) qa_nil)) qa_nil))) (λ_ _ _ _ _ _=>(qg_name (i:=0) (show (["end","ahead","begin","fewer"]:List Str).Nodup by decide +kernel) rfl (by first | exact Or.inl rfl | exact Or.inr rfl) (by first | exact .inl rfl | exact .inr rfl))) (λ_ _ _ _ _ _=>qif_nil) (λ_ _ _ _ _ _=>(qe_op opAdd (qe_op opPow (qe_op opSub (ke_ix (K:=K) rfl (qv 1 rfl (by first | exact Or.inl rfl | exact Or.inr (Or.inl rfl) | exact Or.inr (Or.inr rfl))) (qv 0 rfl (by first | exact Or.inl rfl | exact Or.inr (Or.inl rfl) | exact Or.inr (Or.inr rfl))) (λ_ _=>rfl)) (ke_ix (K:=K) rfl (qv 1 rfl (by first | exact Or.inl rfl | exact Or.inr (Or.inl rfl) | exact Or.inr (Or.inr rfl))) (qv 2 rfl (by first | exact Or.inl rfl | exact Or.inr (Or.inl rfl) | exact Or.inr (Or.inr rfl))) (λ_ _=>rfl))) qe_int) (ke_ix (K:=K) rfl (qv 3 rfl (by first | exact Or.inl rfl | exact Or.inr (Or.inl rfl) | exact Or.inr (Or.inr rfl))) (qv 0 rfl (by first | exact Or.inl rfl | exact Or.inr (Or.inl rfl) | exact Or.inr (Or.inr rfl))) (λ_ _=>rfl))))) qa_nil)))))))))
  (qb_one (qs_ret (qv 3 rfl zq3y))))))⟩
theorem LL.add {H H3 H4:Hp}{p q:Addr}{ps:List Addr}{pss:List (List Int)}{l:List Int}(h:LL H p ps pss)(hq:H q=none)(s:Same H H3)(e3:H3 q=some (.lst (l.map V.int)))(k:Kp [p] H3 H4)(e4:H4 p=some (.lst (ps.map V.ref++[.ref q]))):LL H4 p (ps++[q]) (pss++[l]):=by
 have hqp:q≠p:=(ne_of_none h.at_ hq).symm
 have hqn:q∉ps:=λhm=>by
  obtain⟨b,e⟩:=pair_some h.it hm
  rw[hq] at e;cases e
 refine⟨by rw[e4,List.map_append];rfl,?_,?_,?_⟩
 ·exact List.nodup_append.mpr ⟨h.nd,by simp,λa ha b hb=>by
   have:b=q:=by simpa using hb
   subst this;exact λz=>hqn (z▸ha)⟩
 ·intro hm
  rcases List.mem_append.mp hm with hm | hm
  ·exact h.np hm
  ·exact hqp (by simpa using hm:p=q).symm
 ·exact pair_snoc (F:=λa ns=>H4 a=some (.lst (List.map V.int ns))) (b:=l) (k.one hqp e3) (pair_imp h.it λa ha b e=>k.one (λz=>h.np (z▸ha)) (s _ _ e))
open M25 in
structure TabOk (ns:List Int)(m:Nat)(pss:List (List Int)):Prop where
 len:pss.length=m+1
 z:pss[0]?=some []
 ok:∀ k r,1<=k->pss[k]?=some r->RowOk ns k r
open M25 in
theorem TabOk.add {ns:List Int}{m:Nat}{pss:List (List Int)}{r:List Int}(h:TabOk ns m pss)(hr:RowOk ns (m+1) r):TabOk ns (m+1) (pss++[r]):=by
 refine⟨by rw[List.length_append,h.len];rfl,?_,λk r' hk e=>?_⟩
 ·rw[List.getElem?_append_left (by rw[h.len];omega)];exact h.z
 ·by_cases hk2:k<m+1
  ·rw[List.getElem?_append_left (by rw[h.len];exact hk2)] at e;exact h.ok k r' hk e
  ·rw[List.getElem?_append_right (by rw[h.len];omega),h.len] at e
   by_cases hk3:k=m+1
   ·subst hk3;simp at e;subst e;exact hr
   ·rw[List.getElem?_eq_none (by simp;omega)] at e;cases e
theorem map_ref_at {ps:List Addr}{i:Nat}{a:Addr}(h:ps[i]?=some a):(ps.map V.ref)[i]?=some (.ref a):=by rw[List.getElem?_map,h];rfl
open M25 in
theorem sq_small {ns:List Int}(hle:ns.length<=1000)(hz:∀ n∈ns,0<=n/\n<=1000000000000){b e:Nat}(hb:b<=ns.length)(he:e<=ns.length):(S ns e-S ns b).natAbs<2 ^ 64:=by
 have h1:=S_bd (λn hn=>(hz n hn).1) (λn hn=>(hz n hn).2) b
 have h2:=S_bd (λn hn=>(hz n hn).1) (λn hn=>(hz n hn).2) e
 show (S ns e-S ns b).natAbs<18446744073709551616
 omega
open M25 in
def zq4o:Sp:=λvs H Q _=>∃ (r:Addr) (ns:List Int) (m:Nat),vs=[.ref r,.int m]/\H r=some (.lst (ns.map V.int))/\ns.length<=1000/\(∀ n∈ns,0<=n/\n<=1000000000000)/\1<=m/\m<=ns.length /\
 ∀ (p:Addr) (ps:List Addr) (pss:List (List Int)) (H':Hp),(∀ a∈p::ps,H a=none)->Same H H'->LL H' p ps pss->TabOk ns m pss->Q (.ref p) H'
open M25 in
theorem zqdg (B:Bl mg)(zq1i:Def P w K mg base 1 "sums_ahead" ["row"] zq2o)(F:Fun K "even_table" "even_table" zq9 f fd):FnOk P w K mg base CX0 2 f fd ["row","most"] zq4o:=by
 refine F.okq zq3n (λvs H Q E h=>?_) (λcdv A outer s H vs Q E hr h=>?_)
 ·obtain⟨r,ns,m,rfl,_⟩:=h;rfl
 obtain⟨r,ns,m,rfl,hr0,hle,hz,m1,m2,q⟩:=h
 refine⟨zqdu B zq1i hr,?_⟩
 refine⟨r,ns,rfl,hr0,hle,λah H1 hah s1 e1=>?_⟩
 refine i_newL (by show 0<=sizeLine;decide) λp0 H2 hp0 s2 e2=>?_
 have e1':H1 ah=some (.lst ((pre ns ns.length).map V.int++[V.int (S ns ns.length)])):=by rw[e1,pre_map]
 refine i_sl (SqL.of (s2 _ _ e1')) λsl H3 hsl s3 e3=>?_
 rw[cut_init] at e3
 have s03:Same H H3:=s1.trans (s2.trans s3)
 refine⟨⟨_,SqL.of e3⟩,comp_lst ((pre ns ns.length).map V.int) (λi D σ H' ys=>ys=(((List.range i).map λb=>sq ns b ns.length)).map V.int/\Same H3 H'/\∃ o,σ=[o,some (.ref ah)]) ?_ ?_ ?_ ?_⟩
 ·intro D H' hD s' e'
  exact⟨rfl,s',_,rfl⟩
 ·rintro i D σ H' ys hD ⟨_,s',_⟩
  exact SqL.of (s' _ _ e3)
 ·rintro i x D σ H' ys hx hD ⟨rfl,s',o,rfl⟩ eD
  obtain⟨t,rfl,ht,_⟩:=vints_at hx
  have hi:i<ns.length:=by have:=(List.getElem?_eq_some_iff.mp ht).1;rwa [pre_len] at this
  rw[pre_at hi] at ht
  cases ht
  have eah:=s' _ _ (s3 _ _ (s2 _ _ e1'))
  refine bT (i_ix (.inl (SqL.of eah)) (atI_last _ _) ⟨⟨by decide,by decide,sq_small hle hz (Nat.le_of_lt hi) (Nat.le_refl _)⟩,?_⟩)
  refine⟨eD,sz_lt (by simp;omega),λH6 k6 e6=>⟨?_,s'.new k6 hD,_,rfl⟩⟩
  rw[List.range_succ,List.map_append,List.map_append];rfl
 rintro p1 σ H4 ys hp1 ⟨rfl,s4,_⟩ e4
 rw[List.length_map,pre_len] at e4
 have e0:=s4 _ _ (s3 _ _ e2)
 refine i_newL (by show 2<=sizeLine;decide) λtb H5 htb s5 e5=>?_
 have s05:Same H H5:=s03.trans (s4.trans s5)
 have n01:p0≠p1:=ne_of_none (s3 _ _ e2) hp1
 have ll0:LL H5 tb [p0,p1] [[],(List.range ns.length).map λb=>sq ns b ns.length]:=by
  refine⟨e5,by simpa using n01,?_,.cons (s5 _ _ e0) (.cons (s5 _ _ e4) .nil)⟩
  have a1:=(ne_of_none e0 htb)
  have a2:=(ne_of_none e4 htb)
  simp only[List.mem_cons,List.not_mem_nil,or_false,not_or]
  exact⟨λz=>a1 z.symm,λz=>a2 z.symm⟩
 have f0:∀ a∈tb::[p0,p1],H a=none:=by
  intro a ha
  simp only[List.mem_cons,List.not_mem_nil,or_false] at ha
  rcases ha with rfl | rfl | rfl
  ·exact(s03.trans s4).free htb
  ·exact s1.free hp0
  ·exact s03.free hp1
 have tab0:TabOk ns 1 [[],(List.range ns.length).map λb=>sq ns b ns.length]:=by
  refine⟨rfl,rfl,λk r' hk e=>?_⟩
  match k,hk,e with
  | 1,_,e=>simp at e;subst e;exact row_one
  | k+2,_,e=>simp at e
 have nta:ah≠tb:=ne_of_none (s4 _ _ (s3 _ _ (s2 _ _ e1))) htb
 have eah5:H5 ah=some (.lst ((pre ns (ns.length+1)).map V.int)):=s5 _ _ (s4 _ _ (s3 _ _ (s2 _ _ e1)))
 refine⟨λσ H'=>(∃ ps pss,(∀ a∈tb::ps,H a=none)/\Same H H'/\LL H' tb ps pss/\TabOk ns m pss)/\∃ o4 o5,σ=[some (.ref r),some (.int m),some (.ref ah),some (.ref tb),o4,o5],?_,?_⟩
 ·refine⟨⟨by omega,by omega,by omega,by omega⟩,for_range (λi σ H'=>(∃ ps pss,(∀ a∈tb::ps,H a=none)/\Same H H'/\LL H' tb ps pss/\TabOk ns (1+i) pss)/\H' ah=some (.lst ((pre ns (ns.length+1)).map V.int))/\∃ o4 o5,σ=[some (.ref r),some (.int m),some (.ref ah),some (.ref tb),o4,o5]) ?_ ?_ ?_⟩
  ·exact⟨⟨[p0,p1],_,f0,s05,ll0,tab0⟩,eah5,_,_,rfl⟩
  ·rintro i σ H6 hi ⟨⟨ps,pss,hfr,s6,ll,tab⟩,eah,o4,o5,rfl⟩
   have hi':2+i<=m:=by omega
   have hlp:ps.length=2+i:=by rw[ll.len,tab.len];omega
   have hx:ps[1+i]?=some ps[1+i]:=List.getElem?_eq_getElem (by omega)
   obtain⟨fw,hfw,efw⟩:=pair_get ll.it hx
   have okf:=tab.ok _ _ (by omega) hfw
   generalize ps[1+i]=fa at hx efw
   have hfl:fw.length=ns.length-i:=by have:=okf.1;omega
   refine i_ixN (1+i) ll.at_ (by omega) (map_ref_at hx) ?_
   refine⟨i_tyL ll.at_,i_lenI efw ⟨⟨by omega,by omega⟩,comp_rng (λb D σ H' ys=>∃ zs:List Int,ys=zs.map V.int/\zs.length=b/\(∀ j v,zs[j]?=some v->Least (sq ns) (2+i) j ns.length v)/\Same H6 H'/\∃ o,σ=[o,some (.ref fa),some (.ref ah)]) ?_ ?_ ?_⟩⟩
   ·intro D H' hD s' e'
    exact⟨[],rfl,rfl,by simp,s',_,rfl⟩
   ·rintro b D σ H7 ys hb hD ⟨zs,rfl,hzl,hzz,s7,o,rfl⟩ eD
    have hb':b+1<fw.length:=by omega
    refine bT (i_lenI (s7 _ _ efw) ⟨⟨by omega,by omega,by omega,by omega⟩,comp_rng (λj D2 σ H' ys=>ys=((List.range j).map λt=>sq ns b (b+1+t)+fw.getD (b+1+t) 0).map V.int/\Same H7 H'/\∃ o,σ=[o,some (.ref ah),some (.int (0+(b:Int))),some (.ref fa)]) ?_ ?_ ?_⟩)
    ·intro D2 H' hD2 s' e'
     exact⟨rfl,s',_,rfl⟩
    ·rintro j D2 σ H8 ys hj hD2 ⟨rfl,s8,o',rfl⟩ eD2
     have hj':b+1+j<fw.length:=by omega
     have eah8:=s8 _ _ (s7 _ _ eah)
     have efw8:=s8 _ _ (s7 _ _ efw)
     refine bT (i_ixN (b+1+j) eah8 (by omega) (by rw[List.getElem?_map,pre_at (by omega)];rfl) (i_ixN b eah8 (by omega) (by rw[List.getElem?_map,pre_at (by omega)];rfl) ?_))
     refine⟨⟨by decide,by decide,sq_small hle hz (by omega) (by omega)⟩,i_ixI efw8 (by omega) (by omega) ?_⟩
     have et:(0+(b:Int)+1+(j:Int)).toNat=b+1+j:=by omega
     rw[et]
     refine⟨eD2,sz_lt (by simp;omega),λH9 k9 e9=>⟨?_,s8.new k9 hD2,_,rfl⟩⟩
     rw[List.range_succ,List.map_append,List.map_append];rfl
    ·rintro D2 σ H8 ys hD2 ⟨rfl,s8,_⟩ eD2
     have hlen:(((fw.length:Int))-(0+(b:Int)+1)).toNat=fw.length-(b+1):=by omega
     rw[hlen] at eD2
     refine i_min (SqL.of eD2) (λz=>?_) λM hM hmin=>?_
     ·have:=congrArg List.length z
      simp at this;omega
     ·refine⟨s8 _ _ eD,sz_lt (by rw[List.length_map];omega),λH9 k9 e9=>⟨zs++[M],map_snoc zs M,by simp[hzl],λj v hj=>?_,(s7.trans s8).new k9 hD,_,rfl⟩⟩
      by_cases hjz:j<zs.length
      ·rw[List.getElem?_append_left hjz] at hj;exact hzz j v hj
      ·rw[List.getElem?_append_right (by omega)] at hj
       have hj0:j-zs.length=0:=by
        by_cases h0:j-zs.length=0
        ·exact h0
        ·rw[List.getElem?_eq_none (by simp;omega)] at hj;cases hj
       rw[hj0] at hj
       simp at hj
       subst hj
       have ej:j=b:=by omega
       subst ej
       have e2i:2+i=(1+i)+1:=by omega
       rw[e2i]
       refine least_back (λt=>fw.getD t 0) (λt h1 h2=>?_) ?_ ?_
       ·have ht:t<fw.length:=by omega
        have:fw[t]?=some (fw.getD t 0):=by rw[List.getD_eq_getElem?_getD,List.getElem?_eq_getElem ht];rfl
        exact okf.2 t _ this
       ·obtain⟨t,ht,rfl⟩:=List.mem_map.mp hM
        have ht':=List.mem_range.mp ht
        exact⟨j+1+t,by omega,by omega,rfl⟩
       ·intro t h1 h2
        refine hmin _ (List.mem_map.mpr ⟨t-(j+1),List.mem_range.mpr (by omega),?_⟩)
        have:j+1+(t-(j+1))=t:=by omega
        rw[this]
   ·rintro D σ H7 ys hD ⟨zs,rfl,hzl,hzz,s7,_⟩ eD
    have hlen:((fw.length:Int)-1).toNat=fw.length-1:=by omega
    rw[hlen] at hzl
    refine i_app (s7 _ _ ll.at_) (sz_lt (by rw[List.length_map];omega)) λH8 k8 e8=>?_
    have rok:RowOk ns (1+i+1) zs:=⟨by omega,λj v hj=>by have:=hzz j v hj;rwa [show 2+i=1+i+1 by omega] at this⟩
    refine⟨⟨ps++[D],pss++[zs],λa ha=>?_,(s6.trans s7).new k8 (hfr tb (by simp)),ll.add hD s7 eD k8 e8,tab.add rok⟩,k8.one nta (s7 _ _ eah),_,_,rfl⟩
    rw[List.mem_cons,List.mem_append] at ha
    rcases ha with rfl | ha | ha
    ·exact hfr _ (by simp)
    ·exact hfr a (List.mem_cons_of_mem _ ha)
    ·have:a=D:=by simpa using ha
     subst this;exact s6.free hD
  ·rintro σ H' ⟨⟨ps,pss,h1,h2,h3,h4⟩,_,o⟩
   have:1+((m:Int)+1-2).toNat=m:=by omega
   rw[this] at h4
   exact⟨⟨ps,pss,h1,h2,h3,h4⟩,o⟩
 ·rintro σ H' ⟨⟨ps,pss,h1,h2,h3,h4⟩,o4,o5,rfl⟩
  exact q tb ps pss H' h1 h2 h3 h4
abbrev zq2:Stmt:=top 28
theorem zq18:FnScope ["row","many","table","ahead","cut","begin","left","end"] ["row","many","table"] (defScope zq2):=⟨rfl,rfl,rfl,by decide +kernel,rfl,by decide +kernel,by decide +kernel⟩
theorem zq80:Loc (defScope zq2) "ahead":=Or.inl (by kernel_rfl)
theorem zq4h:Loc (defScope zq2) "begin":=Or.inl (by kernel_rfl)
theorem zq93:Loc (defScope zq2) "cut":=Or.inl (by kernel_rfl)
theorem zq5c:Loc (defScope zq2) "end":=Or.inl (by kernel_rfl)
theorem zq8j:Loc (defScope zq2) "left":=Or.inl (by kernel_rfl)
theorem zq4i:Vis (defScope zq2) "ahead":=Or.inl (by kernel_rfl)
theorem zq2w:Vis (defScope zq2) "begin":=Or.inl (by kernel_rfl)
theorem zq5d:Vis (defScope zq2) "cut":=Or.inl (by kernel_rfl)
theorem zq2b:Vis (defScope zq2) "end":=Or.inl (by kernel_rfl)
theorem zq53:Vis (defScope zq2) "left":=Or.inl (by kernel_rfl)
theorem zq8k:Vis (defScope zq2) "many":=Or.inl (by kernel_rfl)
theorem zq94:Vis (defScope zq2) "row":=Or.inl (by kernel_rfl)
theorem zq4j:Vis (defScope zq2) "table":=Or.inl (by kernel_rfl)
theorem zq81:(defScope zq2).names.lookup ("range":Str)=some NameKind.globalImplicit:=by kernel_rfl
theorem zq6a:(defScope zq2).names.lookup ("sums_ahead":Str)=some NameKind.globalImplicit:=by kernel_rfl
def zqbc {cdv:Value}{A:Around}{outer:List Env}{s:Shared}{H:Hp}{E:XK}(B:Bl mg)(zq1i:Def P w K mg base 1 "sums_ahead" ["row"] zq2o)(hr:Room 1 (A.deeper (PyProof.Rows.envOfC "first_even_cut" (defScope zq2) s.heap.objs.size f cdv))) :
  { t:TS // QB (cxOf CX0 P w K mg base ["row","many","table","ahead","cut","begin","left","end"] "first_even_cut" (defScope zq2) f cdv A outer s H E).nox (defBody zq2) t } :=
 ⟨_,(qb_cons (qs_set (i:=3) zq18.nd rfl zq80 (.inl rfl) (qe_def zq1i hr (by decide) zq6a (qa_cons (qv 0 rfl zq94) qa_nil)))
  (qb_cons (qs_set (i:=4) zq18.nd rfl zq93 (.inl rfl) (qe_lst qa_nil))
  (qb_cons (qs_set (i:=5) zq18.nd rfl zq4h (.inl rfl) qe_int)
  (qb_mid (qs_for PassesOwn.never rfl (qi_r3 zq81 B.range (qa_cons (qe_op opSub (qv 1 rfl zq8k) qe_int) (qa_cons qe_int (qa_cons (qe_un unNeg qe_int) qa_nil)))) (qg_name (i:=6) zq18.nd rfl zq8j (.inl rfl)) (qb_cons (qs_set (i:=7) zq18.nd rfl zq5c (.inl rfl) (qe_op opAdd (qv 5 rfl zq2w) qe_int))
  (qb_mid (qs_while PassesOwn.never (qt_cmp opGt (qe_op opAdd (qe_op opPow (qe_op opSub (ke_ix (K:=K) rfl (qv 3 rfl zq4i) (qv 7 rfl zq2b) (λ_ _=>rfl)) (ke_ix (K:=K) rfl (qv 3 rfl zq4i) (qv 5 rfl zq2w) (λ_ _=>rfl))) qe_int) (ke_ix (K:=K) rfl (ke_ix (K:=K) rfl (qv 2 rfl zq4j) (qv 6 rfl zq53) (λ_ _=>rfl)) (qv 7 rfl zq2b) (λ_ _=>rfl))) (ke_ix (K:=K) rfl (ke_ix (K:=K) rfl (qv 2 rfl zq4j) (qe_op opAdd (qv 6 rfl zq53) qe_int) (λ_ _=>rfl)) (qv 5 rfl zq2w) (λ_ _=>rfl))) (qb_one (qs_aug (i:=7) zq18.nd rfl zq5c (.inl rfl) qe_int ipAdd)))
  (qb_cons (qs_ex (ke_m1 (K:=K) rfl PySem.F.plainAttrs_list PySem.F.slot_list_append PySem.F.type_list_append mtApp (qv 4 rfl zq5d) (qv 7 rfl zq2b)))
  (qb_one (qs_set (i:=5) zq18.nd rfl zq4h (.inl rfl) (qv 7 rfl zq2b)))))))
  (qb_one (qs_ret (qv 4 rfl zq5d)))))))⟩
open M25 in
theorem tab_get {H:Hp}{tb:Addr}{ps:List Addr}{pss:List (List Int)}{ns:List Int}{M k:Nat}(ll:LL H tb ps pss)(tab:TabOk ns M pss)(k1:1<=k)(k2:k<=M):∃ a row,ps[k]?=some a/\H a=some (.lst (List.map V.int row))/\RowOk ns k row:=by
 have hl:=ll.len
 have htl:=tab.len
 have hx:ps[k]?=some (ps[k]'(by omega)):=List.getElem?_eq_getElem (by omega)
 obtain⟨row,h1,h2⟩:=pair_get ll.it hx
 exact⟨_,row,hx,h2,tab.ok k row k1 h1⟩
open M25 in
theorem row_at {ns row:List Int}{k b:Nat}(h:RowOk ns k row)(hb:b+k<=ns.length):b<row.length/\Least (sq ns) k b ns.length (row.getD b 0):=by
 have:=h.1
 have hb':b<row.length:=by omega
 exact⟨hb',h.2 b _ (getD_some hb')⟩
open M25 in
def zq31:Sp:=λvs H Q _=>∃ (r tb:Addr) (ps:List Addr) (pss:List (List Int)) (ns:List Int) (m M:Nat),vs=[.ref r,.int m,.ref tb]/\H r=some (.lst (ns.map V.int))/\ns.length<=1000/\(∀ n∈ns,0<=n/\n<=1000000000000)/\LL H tb ps pss/\TabOk ns M pss/\1<=m/\m<=M/\M<=ns.length /\
 ∀ (p:Addr) (cs:List Nat) (b:Nat) (H':Hp),H p=none->Same H H'->H' p=some (.lst ((zs cs).map V.int))->Chain (sq ns) ns.length m (m-1) cs b->Q (.ref p) H'
open M25 in
theorem zqaj (B:Bl mg)(zq1i:Def P w K mg base 1 "sums_ahead" ["row"] zq2o)(F:Fun K "first_even_cut" "first_even_cut" zq2 f fd):FnOk P w K mg base CX0 2 f fd ["row","many","table"] zq31:=by
 refine F.okq zq18 (λvs H Q E h=>?_) (λcdv A outer s H vs Q E hr h=>?_)
 ·obtain⟨r,tb,ps,pss,ns,m,M,rfl,_⟩:=h;rfl
 obtain⟨r,tb,ps,pss,ns,m,M,rfl,hr0,hle,hz,ll,tab,m1,m2,m3,q⟩:=h
 refine⟨zqbc B zq1i hr,?_⟩
 refine⟨r,ns,rfl,hr0,hle,λah H1 hah s1 e1=>?_⟩
 refine i_newL (by show 0<=sizeLine;decide) λcu H2 hcu s2 e2=>?_
 have hcu0:H cu=none:=s1.free hcu
 refine⟨λσ H'=>∃ cs b,Same H H'/\H' cu=some (.lst ((zs cs).map V.int))/\Chain (sq ns) ns.length m (m-1) cs b/\∃ o5 o6 o7,σ=[some (.ref r),some (.int m),some (.ref tb),some (.ref ah),some (.ref cu),o5,o6,o7],?_,?_⟩
 ·refine⟨rfl,⟨by omega,by omega,by omega,by omega⟩,for_down (λi σ H'=>∃ cs b,Same H H'/\H' ah=some (.lst ((pre ns (ns.length+1)).map V.int))/\H' cu=some (.lst ((zs cs).map V.int))/\Chain (sq ns) ns.length m i cs b/\b+(m-i)<=ns.length/\∃ o6 o7,σ=[some (.ref r),some (.int m),some (.ref tb),some (.ref ah),some (.ref cu),some (.int b),o6,o7]) ?_ ?_ ?_⟩
  ·exact⟨[],0,s1.trans s2,s2 _ _ e1,e2,.nil,by omega,_,_,rfl⟩
  ·rintro i σ H3 hi ⟨cs,b,s3,eah,e3,ch,hb,o6,o7,rfl⟩
   have hi':i+1<m:=by omega
   have hcl:=ch.len
   obtain⟨ra,rowA,hra,era,okA⟩:=tab_get (k:=m-1-i) (ll.same s3) tab (by omega) (by omega)
   obtain⟨rb,rowB,hrb,erb,okB⟩:=tab_get (k:=m-i) (ll.same s3) tab (by omega) (by omega)
   obtain⟨hbl,hu⟩:=row_at okB hb
   obtain⟨e0,he0,hit⟩:=hit_ex (by omega) hu
   have hle0:=hit.le
   have nac:ah≠cu:=ne_of_none e1 hcu
   have el:((m:Int)-1-(i:Int))=((m-1-i:Nat):Int):=by omega
   refine⟨λσ H'=>H'=H3/\∃ t:Nat,Step (sq ns) ns.length (m-i) b t/\σ=[some (.ref r),some (.int m),some (.ref tb),some (.ref ah),some (.ref cu),some (.int b),some (.int ((m:Int)-1-(i:Int))),some (.int t)],?_,?_⟩
   ·refine while_m (λmm σ H'=>H'=H3/\∃ t:Nat,mm=ns.length-t/\b<t/\(∀ e',b<e'->e'<t->¬ Hit (sq ns) ns.length (m-i) b e')/\σ=[some (.ref r),some (.int m),some (.ref tb),some (.ref ah),some (.ref cu),some (.int b),some (.int ((m:Int)-1-(i:Int))),some (.int t)]) (ns.length-(b+1)) ⟨rfl,b+1,rfl,by omega,λe' h1 h2=>by omega,rfl⟩ ?_
    rintro mm σ H' ⟨rfl,t,hmm,hbt,hno,rfl⟩
    have hte:=hit_before hno hit he0
    have em:m-i-1=m-1-i:=by omega
    obtain⟨htl,hv⟩:=row_at (b:=t) okA (by omega)
    refine i_ixN t eah rfl (by rw[List.getElem?_map,pre_at (by omega)];rfl) (i_ixN b eah rfl (by rw[List.getElem?_map,pre_at (by omega)];rfl) ?_)
    refine⟨⟨by decide,by decide,sq_small hle hz (by omega) (by omega)⟩,?_⟩
    refine i_ixN (m-1-i) (ll.same s3).at_ el (map_ref_at hra) (i_ixI era (by omega) (by omega) ?_)
    refine i_ixN (m-i) (ll.same s3).at_ (by omega) (map_ref_at hrb) (i_ixI erb (by omega) (by omega) ?_)
    rw[show ((t:Int)).toNat=t by omega,show ((b:Int)).toNat=b by omega]
    have hv':Least (sq ns) (m-i-1) t ns.length (rowA.getD t 0):=by rw[em];exact hv
    have hge:=no_less (w:=sq ns) (by omega) hbt hv' hu
    have hiff:=hit_iff hv' hu
    refine dec2 (λc=>?_) (λc=>?_)
    ·have c':rowB.getD b 0<sq ns b t+rowA.getD t 0:=c
     have hnt:¬ Hit (sq ns) ns.length (m-i) b t:=λz=>by have:=hiff.mp z;omega
     have htn:t<e0:=by
      rcases Nat.lt_or_ge t e0 with z | z
      ·exact z
      ·have:t=e0:=by omega
       exact absurd (this▸hit) hnt
     refine⟨ns.length-(t+1),by omega,rfl,t+1,rfl,by omega,λe' h1 h2=>?_,rfl⟩
     by_cases z:e'=t
     ·subst z;exact hnt
     ·exact hno e' h1 (by omega)
    ·have c':¬ rowB.getD b 0<sq ns b t+rowA.getD t 0:=c
     exact⟨rfl,t,⟨hbt,hiff.mpr (by omega),hno⟩,rfl⟩
   ·rintro σ H' ⟨rfl,t,st,rfl⟩
    have htl:=st.2.1.le
    refine⟨i_tyL e3,i_appI e3 (by rw[List.length_map];omega) λH4 k4 e4=>?_⟩
    refine⟨cs++[t],t,s3.new k4 hcu0,k4.one nac eah,?_,.snoc ch st,by omega,_,_,rfl⟩
    rw[e4];simp
  ·rintro σ H' ⟨cs,b,h1,_,h2,h3,_,o6,o7,rfl⟩
   have:((m:Int)-1-0).toNat=m-1:=by omega
   rw[this] at h3
   exact⟨cs,b,h1,h2,h3,_,_,_,rfl⟩
 ·rintro σ H' ⟨cs,b,h1,h2,h3,o5,o6,o7,rfl⟩
  exact q cu cs b H' hcu0 h1 h2 h3
abbrev zqr:Stmt:=top 25
theorem zq9w:FnScope ["row","many","table"] ["row","many"] (defScope zqr):=⟨rfl,rfl,rfl,by decide +kernel,rfl,by decide +kernel,by decide +kernel⟩
theorem zqak:Loc (defScope zqr) "table":=Or.inl (by kernel_rfl)
theorem zq3l:Vis (defScope zqr) "many":=Or.inl (by kernel_rfl)
theorem zq5e:Vis (defScope zqr) "row":=Or.inl (by kernel_rfl)
theorem zq6w:Vis (defScope zqr) "table":=Or.inl (by kernel_rfl)
theorem zq82:(defScope zqr).names.lookup ("check_many":Str)=some NameKind.globalImplicit:=by kernel_rfl
theorem zq83:(defScope zqr).names.lookup ("even_table":Str)=some NameKind.globalImplicit:=by kernel_rfl
theorem zq6i:(defScope zqr).names.lookup ("first_even_cut":Str)=some NameKind.globalImplicit:=by kernel_rfl
def zqed {cdv:Value}{A:Around}{outer:List Env}{s:Shared}{H:Hp}{E:XK}(B:Bl mg)(zqj:Def P w K mg base 3 "check_many" ["row","many"] zq1v)(zq3c:Def P w K mg base 2 "even_table" ["row","most"] zq4o)(zq1z:Def P w K mg base 2 "first_even_cut" ["row","many","table"] zq31)(hr:Room 3 (A.deeper (PyProof.Rows.envOfC "most_even" (defScope zqr) s.heap.objs.size f cdv))) :
  { t:TS // QB (cxOf CX0 P w K mg base ["row","many","table"] "most_even" (defScope zqr) f cdv A outer s H E).nox (defBody zqr) t } :=
 ⟨_,(qb_cons (qs_ex (qe_def zqj hr (by decide) zq82 (qa_cons (qv 0 rfl zq5e) (qa_cons (qv 1 rfl zq3l) qa_nil))))
  (qb_cons (qs_set (i:=2) zq9w.nd rfl zqak (.inl rfl) (qe_def zq3c hr (by decide) zq83 (qa_cons (qv 0 rfl zq5e) (qa_cons (qv 1 rfl zq3l) qa_nil))))
  (qb_one (qs_ret (qe_tup (qa_cons (ke_ix (K:=K) rfl (ke_ix (K:=K) rfl (qv 2 rfl zq6w) (qv 1 rfl zq3l) (λ_ _=>rfl)) qe_int (λ_ _=>rfl)) (qa_cons (qe_def zq1z hr (by decide) zq6i (qa_cons (qv 0 rfl zq5e) (qa_cons (qv 1 rfl zq3l) (qa_cons (qv 2 rfl zq6w) qa_nil)))) qa_nil)))))))⟩
open M25 in
def zq5f:Sp:=λvs H Q _=>∃ (r:Addr) (ns:List Int) (m:Nat),vs=[.ref r,.int m]/\H r=some (.lst (ns.map V.int))/\ns.length<=1000/\(∀ n∈ns,0<=n/\n<=1000000000000)/\1<=m/\m<=ns.length /\
 ∀ (p pc:Addr) (v:Int) (cs:List Nat) (b:Nat) (H':Hp),Least (sq ns) m 0 ns.length v->Chain (sq ns) ns.length m (m-1) cs b->H p=none->H pc=none->p≠pc->Same H H'->H' p=some (.tup [.int v,.ref pc])->H' pc=some (.lst ((zs cs).map V.int))->Q (.ref p) H'
open M25 in
theorem zq9x (B:Bl mg)(zqj:Def P w K mg base 3 "check_many" ["row","many"] zq1v)(zq3c:Def P w K mg base 2 "even_table" ["row","most"] zq4o)(zq1z:Def P w K mg base 2 "first_even_cut" ["row","many","table"] zq31)(F:Fun K "most_even" "most_even" zqr f fd):FnOk P w K mg base CX0 4 f fd ["row","many"] zq5f:=by
 refine F.okq zq9w (λvs H Q E h=>?_) (λcdv A outer s H vs Q E hr h=>?_)
 ·obtain⟨r,ns,m,rfl,_⟩:=h;rfl
 obtain⟨r,ns,m,rfl,hr0,hle,hz,m1,m2,q⟩:=h
 refine⟨zqed B zqj zq3c zq1z hr,?_⟩
 refine⟨r,m,_,rfl,hr0,by omega,by rw[List.length_map];omega,?_⟩
 refine⟨r,ns,m,rfl,hr0,hle,hz,m1,m2,λtb ps pss H1 hf s1 ll tab=>?_⟩
 obtain⟨a,row,ha,ea,ok⟩:=tab_get (k:=m) ll tab m1 (Nat.le_refl _)
 obtain⟨h0,hv⟩:=row_at (b:=0) ok (by omega)
 refine i_ixN m ll.at_ rfl (map_ref_at ha) (i_ixI ea (by decide) (by omega) ?_)
 refine⟨r,tb,ps,pss,ns,m,m,rfl,s1 _ _ hr0,hle,hz,ll,tab,m1,Nat.le_refl _,m2,λpc cs b H2 hpc s2 e2 ch=>?_⟩
 refine i_newT (by show 2<=sizeLine;decide) λp H3 hp s3 e3=>?_
 exact q p pc _ cs b H3 hv ch ((s1.trans s2).free hp) (s1.free hpc) (ne_of_none e2 hp).symm (s1.trans (s2.trans s3)) e3 (s3 _ _ e2)
open M5 M10 M11 M7
theorem great_iff {ns:List Int}{m:Nat}{t:Int}(rn:RowN ns)(hm1:1<=m)(hmn:m<=ns.length)(hT:T 0 ns (m-1) 0=some t):(∀ b,t<=b↔(∀ x∈ns,x<=b)/\gp b ns<=m)/\0<=t/\t<=ns.sum:=by
 have hnn:=rn.nn
 have hne:ns≠[]:=λz=>by have:=rn.ne;rw[z] at this;simp at this
 have hiff:∀ b,t<=b↔(∀ x∈ns,x<=b)/\gp b ns<=m:=λb=>by
  have:=T_iff0 hnn b (k:=m-1) (i:=0) (by omega) hT
  rw[show m-1+1=m by omega,List.drop_zero] at this;exact this
 have hall:=((hiff t).mp (Int.le_refl t)).1
 refine⟨hiff,?_,?_⟩
 ·cases ns with
  | nil=>exact absurd rfl hne
  | cons x xs=>have:=hnn x List.mem_cons_self;have:=hall x List.mem_cons_self;omega
 ·refine(hiff _).mpr ⟨λx hx=>mem_le_sum hnn x hx,?_⟩
  unfold gp
  rw[if_neg hne,lcut_nil _ 0 0 hnn (by omega)]
  simp;omega
open M3 M5 M10 M11 M7 M34 M33 M9 M12
theorem first_cut_ok {ns:List Int}{t:Int}{l i:Nat}{c:List Int}(h:FirstCut 0 ns t l i c)(hi:i<ns.length)(hw:worse 0 (T 0 ns l i) t=false):∃ cs:List Nat,c=zs cs/\cs.Pairwise (·<·)/\(∀ x∈cs,i<x/\x<ns.length)/\∀ q∈pcs ns i cs,q.sum<=t:=by
 induction h with
 | nil i =>
  refine⟨[],rfl,.nil,by simp,λq hq=>?_⟩
  simp only[pcs,List.mem_singleton] at hq
  subst hq
  simp only[T,if_pos hi,worse,if_pos] at hw
  rw[<- seg_all]
  have:¬ t<seg ns i ns.length:=of_decide_eq_false hw
  omega
 | step h1 h2 h3 h4 h5 h6 ih =>
  rename_i l i e c
  obtain⟨cs,e1,e2,e3,e4⟩:=ih h2 h4
  refine⟨e::cs,by rw[e1];rfl,List.pairwise_cons.mpr ⟨λx hx=>(e3 x hx).1,e2⟩,λx hx=>?_,λq hq=>?_⟩
  ·rcases List.mem_cons.mp hx with rfl | hx
   ·exact⟨h1,h2⟩
   ·have:=e3 x hx;omega
  ·simp only[pcs] at hq
   rcases List.mem_cons.mp hq with rfl | hq
   ·rw[slice_seg (by omega)]
    simp only[worse,if_pos] at h3
    have:¬ t<seg ns i e:=of_decide_eq_false h3
    omega
   ·exact e4 q hq
theorem told_ok {ns:List Int}{m:Nat}{t:Int}{c:List Int}(rn:RowN ns)(hm1:1<=m)(hmn:m<=ns.length)(hT:T 0 ns (m-1) 0=some t)(h:FirstCut 0 ns t (m-1) 0 c):∃ cs:List Nat,c=zs cs/\CutN cs ns.length/\cs.length=m-1/\∀ M,M∈(pcs ns 0 cs).map List.sum->(∀ a,a∈(pcs ns 0 cs).map List.sum->a<=M)->M=t:=by
 obtain⟨hiff,_,_⟩:=great_iff rn hm1 hmn hT
 have hw:worse 0 (T 0 ns (m-1) 0) t=false:=by rw[hT];simp[worse]
 obtain⟨cs,e1,e2,e3,e4⟩:=first_cut_ok h (by have:=rn.ne;omega) hw
 have hl:=h.len
 have hcl:cs.length=m-1:=by rw[e1] at hl;simpa using hl
 have hcut:CutN cs ns.length:=⟨e2,λx hx=>by have:=(e3 x hx).1;omega,λx hx=>(e3 x hx).2⟩
 refine⟨cs,e1,hcut,hcl,λM hM hmax=>?_⟩
 have hle:M<=t:=by obtain⟨q,hq,rfl⟩:=List.mem_map.mp hM;exact e4 q hq
 have hge:t<=M:=by
  refine(hiff M).mpr ⟨λx hx=>?_,?_⟩
  ·have hf:=pcs_flat ns cs 0 e2 λc hc=>⟨Nat.zero_le _,Nat.le_of_lt (e3 c hc).2⟩
   rw[List.drop_zero] at hf
   rw[<- hf] at hx
   obtain⟨q,hq,hxq⟩:=List.mem_flatten.mp hx
   have h1:=mem_le_sum (ys:=q) (λy hy=>rn.nn y (pcs_mem ns cs 0 q hq y hy)) x hxq
   have:=hmax _ (List.mem_map.mpr ⟨q,hq,rfl⟩)
   omega
  ·have hf:=pcs_flat ns cs 0 e2 λc hc=>⟨Nat.zero_le _,Nat.le_of_lt (e3 c hc).2⟩
   rw[List.drop_zero] at hf
   have:=gp_of (b:=M) rn.nn hf λq hq=>hmax _ (List.mem_map.mpr ⟨q,hq,rfl⟩)
   rw[pcs_len] at this
   omega
 omega
theorem ends_cut {ns:List Int}(rn:RowN ns){b:Int}{j:Nat}(hj:j<(sends b 0 0 ns).length):∃ cs:List Nat,(sends b 0 0 ns).take j=zs cs/\CutN cs ns.length/\cs.length=j/\∀ q∈pcs ns 0 cs,b<=q.sum:=by
 have hl:=rn.ne
 obtain⟨cs,q1,q2,q3,q4,q5⟩:=short_ok rn.nn (b:=b) j 0 (by omega) (by rw[List.drop_zero];exact hj)
 rw[List.drop_zero] at q1
 exact⟨cs,q1,⟨q3,λx hx=>by have:=(q4 x hx).1;omega,λx hx=>(q4 x hx).2⟩,q2,q5⟩
theorem least_iff {ns:List Int}{m:Nat}{t:Int}(rn:RowN ns)(hm1:1<=m)(hmn:m<=ns.length)(hT:T 1 ns (m-1) 0=some t):(∀ b,b<=t↔m<=G b ns 0)/\0<=t/\t<=ns.sum:=by
 have hnn:=rn.nn
 have hiff:∀ b,b<=t↔m<=G b ns 0:=λb=>by
  have:=T_iff hnn b (k:=m-1) (i:=0) (by omega) hT
  rw[show m-1+1=m by omega] at this;exact this
 have ht0:0<=t:=(hiff 0).mpr (by rw[G_zero hnn];exact hmn)
 refine⟨hiff,ht0,?_⟩
 have h1:=G_sum hnn ht0 ns.length 0 (by omega) (by omega)
 have h2:=(hiff t).mp (Int.le_refl t)
 have es:seg ns 0 ns.length=ns.sum:=by rw[seg_all,List.drop_zero]
 rw[es] at h1
 have h3:t*1<=t*(G t ns 0:Int):=Int.mul_le_mul_of_nonneg_left (by omega) ht0
 omega
theorem told12 {ns:List Int}{m:Nat}{t:Int}(rn:RowN ns)(hm1:1<=m)(hmn:m<=ns.length)(hiff:∀ b,b<=t↔m<=G b ns 0):∃ cs:List Nat,(sends t 0 0 ns).take (m-1)=zs cs/\CutN cs ns.length/\cs.length=m-1/\∀ M,M∈(pcs ns 0 cs).map List.sum->(∀ a,a∈(pcs ns 0 cs).map List.sum->M<=a)->M=t:=by
 have hG:=(hiff t).mp (Int.le_refl t)
 obtain⟨cs,e1,hcut,hcl,hsum⟩:=ends_cut rn (b:=t) (j:=m-1) (by rw[G_len];omega)
 refine⟨cs,e1,hcut,hcl,λM hM hmin=>?_⟩
 have h1:t<=M:=by obtain⟨p,hp,rfl⟩:=List.mem_map.mp hM;exact hsum p hp
 have hf:=pcs_flat ns cs 0 hcut.up λc hc=>⟨Nat.zero_le _,Nat.le_of_lt (hcut.hi c hc)⟩
 have hne:=pcs_ne ns cs 0 (by have:=rn.ne;omega) hcut.up λc hc=>⟨hcut.lo c hc,hcut.hi c hc⟩
 have h2:=G_ge rn.nn (b:=M) (pcs ns 0 cs) 0 (Nat.zero_le _) hf λp hp=>⟨hne p hp,hmin _ (List.mem_map.mpr ⟨p,hp,rfl⟩)⟩
 rw[pcs_len] at h2
 have:=(hiff M).mpr (by omega)
 omega
def Ans (w:Nat)(ns:List Int)(m:Nat)(v:Int)(cs:List Nat):Prop :=
 match w with
 | 0=>T 0 ns (m-1) 0=some v/\FirstCut 0 ns v (m-1) 0 (zs cs)
 | 1=>T 1 ns (m-1) 0=some v/\zs cs=(sends v 0 0 ns).take (m-1)
 | _=>M25.Least (M25.sq ns) m 0 ns.length v/\∃ b,M25.Chain (M25.sq ns) ns.length m (m-1) cs b
def AnsAt (H:Hp)(x:V)(w:Nat)(ns:List Int)(m:Nat)(p pc:Addr)(v:Int)(cs:List Nat):Prop:=x=.ref p/\H p=some (.tup [.int v,.ref pc])/\H pc=some (.lst ((zs cs).map V.int))/\Ans w ns m v cs
def spAns (w:Nat):Sp:=λvs H Q _=>∃ (r:Addr) (m:Nat) (ns:List Int),vs=[.ref r,.int m]/\H r=some (.lst (ns.map V.int))/\RowN ns/\1<=m/\m<=ns.length /\
 ∀ p pc v cs H',H p=none->H pc=none->Same H H'->AnsAt H' (.ref p) w ns m p pc v cs->Q (.ref p) H'
theorem lg_ans {vs:List V}{H:Hp}{Q:VK}{E:XK}(h:spAns 0 vs H Q E):zq2y vs H Q E:=by
 obtain⟨r,m,ns,rfl,hr,rn,m1,m2,q⟩:=h
 obtain⟨t,hT⟩:=T_some (w:=0) (ns:=ns) (k:=m-1) (i:=0) (by omega)
 refine⟨r,m,ns,t,rfl,hr,rn,m1,m2,hT,λp pc c H' _ _ hc _ hp hpc s e1 e2=>?_⟩
 obtain⟨cs,e,_⟩:=told_ok rn m1 m2 hT hc
 subst e
 exact q p pc t cs H' hp hpc s ⟨rfl,e1,e2,hT,hc⟩
theorem gl_ans {vs:List V}{H:Hp}{Q:VK}{E:XK}(h:spAns 1 vs H Q E):zq30 vs H Q E:=by
 obtain⟨r,m,ns,rfl,hr,rn,m1,m2,q⟩:=h
 obtain⟨t,hT⟩:=T_some (w:=1) (ns:=ns) (k:=m-1) (i:=0) (by omega)
 refine⟨r,m,ns,t,rfl,hr,rn,m1,m2,hT,λp pc H' _ _ hp hpc s e1 e2=>?_⟩
 obtain⟨cs,e,_⟩:=told12 rn m1 m2 (least_iff rn m1 m2 hT).1
 rw[e] at e2
 exact q p pc t cs H' hp hpc s ⟨rfl,e1,e2,hT,e.symm⟩
theorem me_ans {vs:List V}{H:Hp}{Q:VK}{E:XK}(h:spAns 2 vs H Q E):zq5f vs H Q E:=by
 obtain⟨r,m,ns,rfl,hr,rn,m1,m2,q⟩:=h
 refine⟨r,ns,m,rfl,hr,by have:=rn.le;omega,λn hn=>⟨rn.nn n hn,rn.ub n hn⟩,m1,m2,λp pc v cs b H' hv hc hp hpc _ s e1 e2=>?_⟩
 exact q p pc v cs H' hp hpc s ⟨rfl,e1,e2,hv,b,hc⟩
def spLiveAns (C:Addr)(w:Nat):Sp:=λvs H Q _=>∃ (S:List Addr) (p l d:Addr) (m:Nat) (ns:List Int) (hist:List (List Int)),vs=[.ref p,.int m]/\LiveAt S C H p l d ns hist/\RowN ns/\1<=m/\m<=ns.length /\
 ∀ tp tc v cs H',H tp=none->H tc=none->Same H H'->AnsAt H' (.ref tp) w ns m tp tc v cs->Q (.ref tp) H'
def zq21 (C:Addr):Sp:=spLiveAns C 0
def zq22 (C:Addr):Sp:=spLiveAns C 1
def zq32 (C:Addr):Sp:=spLiveAns C 2
abbrev zqx:Stmt:=inClass (top 33) 0
theorem zqcu:FnScope ["self","row"] ["self","row"] (defScope zqx):=⟨rfl,rfl,rfl,by decide +kernel,rfl,by decide +kernel,by decide +kernel⟩
theorem zqal:Vis (defScope zqx) "row":=Or.inl (by kernel_rfl)
theorem zq6b:Vis (defScope zqx) "self":=Or.inl (by kernel_rfl)
theorem zq9y:(defScope zqx).names.lookup ("list":Str)=some NameKind.globalImplicit:=by kernel_rfl
def zqdh {cdv:Value}{A:Around}{outer:List Env}{s:Shared}{H:Hp}{E:XK}(B:Bl mg)(T:LiveT K mg C)(hr:Room 0 (A.deeper (PyProof.Rows.envOfC "Live.__init__" (defScope zqx) s.heap.objs.size f cdv))) :
  { t:TS // QB (cxOf CX0 P w K mg base ["self","row"] "Live.__init__" (defScope zqx) f cdv A outer s H E).nox (defBody zqx) t } :=
 ⟨_,(qb_cons (ks_fld (K:=K) rfl (qv 0 rfl zq6b) (qe_cT (kList (K:=K) rfl) zq9y B.list boot_list (qa_cons (qv 1 rfl zqal) qa_nil)))
  (qb_one (ks_fld (K:=K) rfl (qv 0 rfl zq6b) (qe_lst qa_nil))))⟩
abbrev zq12:Stmt:=inClass (top 33) 4
theorem zqdv:FnScope ["self","begin","end","numbers"] ["self","begin","end","numbers"] (defScope zq12):=⟨rfl,rfl,rfl,by decide +kernel,rfl,by decide +kernel,by decide +kernel⟩
theorem zq33:Vis (defScope zq12) "begin":=Or.inl (by kernel_rfl)
theorem zq7p:Vis (defScope zq12) "end":=Or.inl (by kernel_rfl)
theorem zq5r:Vis (defScope zq12) "numbers":=Or.inl (by kernel_rfl)
theorem zq4u:Vis (defScope zq12) "self":=Or.inl (by kernel_rfl)
theorem zqc4:(defScope zq12).names.lookup ("len":Str)=some NameKind.globalImplicit:=by kernel_rfl
def zqee {cdv:Value}{A:Around}{outer:List Env}{s:Shared}{H:Hp}{E:XK}(B:Bl mg)(T:LiveT K mg C)(hr:Room 0 (A.deeper (PyProof.Rows.envOfC "Live.swap" (defScope zq12) s.heap.objs.size f cdv))) :
  { t:TS // QB (cxOf CX0 P w K mg base ["self","begin","end","numbers"] "Live.swap" (defScope zq12) f cdv A outer s H E).nox (defBody zq12) t } :=
 ⟨_,(qb_cons (qs_ex (ke_m1 (K:=K) rfl PySem.F.plainAttrs_list PySem.F.slot_list_append PySem.F.type_list_append mtApp (ke_fld (K:=K) rfl (qv 0 rfl zq4u)) (qe_tup (qa_cons (qv 1 rfl zq33) (qa_cons (qe_op opAdd (qv 1 rfl zq33) (qe_cB (kLen (K:=K) rfl) zqc4 B.len boot_len' (qa_cons (qv 3 rfl zq5r) qa_nil))) (qa_cons (ke_slice (K:=K) rfl (ke_fld (K:=K) rfl (qv 0 rfl zq4u)) (qo_some (qv 1 rfl zq33)) (qo_some (qv 2 rfl zq7p))) qa_nil))))))
  (qb_one (qs_asg (qv 3 rfl zq5r) (qg_slc (ke_fld (K:=K) rfl (qv 0 rfl zq4u)) (qo_some (qv 1 rfl zq33)) (qo_some (qv 2 rfl zq7p))))))⟩
abbrev zql:Stmt:=inClass (top 33) 1
theorem zqcv:FnScope ["self","place","number"] ["self","place","number"] (defScope zql):=⟨rfl,rfl,rfl,by decide +kernel,rfl,by decide +kernel,by decide +kernel⟩
theorem zq5g:Vis (defScope zql) "number":=Or.inl (by kernel_rfl)
theorem zq3t:Vis (defScope zql) "place":=Or.inl (by kernel_rfl)
theorem zq6c:Vis (defScope zql) "self":=Or.inl (by kernel_rfl)
theorem zq6j:(defScope zql).names.lookup ("check_number":Str)=some NameKind.globalImplicit:=by kernel_rfl
theorem zq71:(defScope zql).names.lookup ("check_place":Str)=some NameKind.globalImplicit:=by kernel_rfl
theorem zqam:(defScope zql).names.lookup ("len":Str)=some NameKind.globalImplicit:=by kernel_rfl
def zqdi {cdv:Value}{A:Around}{outer:List Env}{s:Shared}{H:Hp}{E:XK}(B:Bl mg)(T:LiveT K mg C)(zqm:Def P w K mg base 3 "check_place" ["thing","last"] zq1o)(zq16:Def P w K mg base 2 "check_number" ["thing"] zq26)(zqu:Mth P w K mg base 1 C "swap" ["self","begin","end","numbers"] (zq24 C))(hr:Room 3 (A.deeper (PyProof.Rows.envOfC "Live.change" (defScope zql) s.heap.objs.size f cdv))) :
  { t:TS // QB (cxOf CX0 P w K mg base ["self","place","number"] "Live.change" (defScope zql) f cdv A outer s H E).nox (defBody zql) t } :=
 ⟨_,(qb_cons (qs_ex (qe_def zqm hr (by decide) zq71 (qa_cons (qv 1 rfl zq3t) (qa_cons (qe_op opSub (qe_cB (kLen (K:=K) rfl) zqam B.len boot_len' (qa_cons (ke_fld (K:=K) rfl (qv 0 rfl zq6c)) qa_nil)) qe_int) qa_nil))))
  (qb_cons (qs_ex (qe_def zq16 hr (by decide) zq6j (qa_cons (qv 2 rfl zq5g) qa_nil)))
  (qb_one (qs_ex (qe_meth zqu hr (by decide) (qv 0 rfl zq6c) (qa_cons (qv 1 rfl zq3t) (qa_cons (qe_op opAdd (qv 1 rfl zq3t) qe_int) (qa_cons (qe_lst (qa_cons (qv 2 rfl zq5g) qa_nil)) qa_nil))))))))⟩
abbrev zqv:Stmt:=inClass (top 33) 2
theorem zqef:FnScope ["self","place","number"] ["self","place","number"] (defScope zqv):=⟨rfl,rfl,rfl,by decide +kernel,rfl,by decide +kernel,by decide +kernel⟩
theorem zq6x:Vis (defScope zqv) "number":=Or.inl (by kernel_rfl)
theorem zq4v:Vis (defScope zqv) "place":=Or.inl (by kernel_rfl)
theorem zq5h:Vis (defScope zqv) "self":=Or.inl (by kernel_rfl)
theorem zq7j:(defScope zqv).names.lookup ("MOST_NUMBERS":Str)=some NameKind.globalImplicit:=by kernel_rfl
theorem zq7k:(defScope zqv).names.lookup ("check_number":Str)=some NameKind.globalImplicit:=by kernel_rfl
theorem zq84:(defScope zqv).names.lookup ("check_place":Str)=some NameKind.globalImplicit:=by kernel_rfl
theorem zq8l:(defScope zqv).names.lookup ("len":Str)=some NameKind.globalImplicit:=by kernel_rfl
def zqeu {cdv:Value}{A:Around}{outer:List Env}{s:Shared}{H:Hp}{E:XK}(B:Bl mg)(T:LiveT K mg C)(zqm:Def P w K mg base 3 "check_place" ["thing","last"] zq1o)(zq16:Def P w K mg base 2 "check_number" ["thing"] zq26)(zqu:Mth P w K mg base 1 C "swap" ["self","begin","end","numbers"] (zq24 C))(hr:Room 3 (A.deeper (PyProof.Rows.envOfC "Live.put" (defScope zqv) s.heap.objs.size f cdv))) :
  { t:TS // QB (cxOf CX0 P w K mg base ["self","place","number"] "Live.put" (defScope zqv) f cdv A outer s H E).nox (defBody zqv) t } :=
 ⟨_,(qb_cons (qs_if (qt_cmp opGe (qe_cB (kLen (K:=K) rfl) zq8l B.len boot_len' (qa_cons (ke_fld (K:=K) rfl (qv 0 rfl zq5h)) qa_nil)) (qe_glob zq7j T.c_MOST_NUMBERS)) (qb_one qs_never) qb_nil)
  (qb_cons (qs_ex (qe_def zqm hr (by decide) zq84 (qa_cons (qv 1 rfl zq4v) (qa_cons (qe_cB (kLen (K:=K) rfl) zq8l B.len boot_len' (qa_cons (ke_fld (K:=K) rfl (qv 0 rfl zq5h)) qa_nil)) qa_nil))))
  (qb_cons (qs_ex (qe_def zq16 hr (by decide) zq7k (qa_cons (qv 2 rfl zq6x) qa_nil)))
  (qb_one (qs_ex (qe_meth zqu hr (by decide) (qv 0 rfl zq5h) (qa_cons (qv 1 rfl zq4v) (qa_cons (qv 1 rfl zq4v) (qa_cons (qe_lst (qa_cons (qv 2 rfl zq6x) qa_nil)) qa_nil)))))))))⟩
abbrev zq17:Stmt:=inClass (top 33) 3
theorem zqdw:FnScope ["self","place"] ["self","place"] (defScope zq17):=⟨rfl,rfl,rfl,by decide +kernel,rfl,by decide +kernel,by decide +kernel⟩
theorem zq48:Vis (defScope zq17) "place":=Or.inl (by kernel_rfl)
theorem zq4w:Vis (defScope zq17) "self":=Or.inl (by kernel_rfl)
theorem zq7l:(defScope zq17).names.lookup ("check_place":Str)=some NameKind.globalImplicit:=by kernel_rfl
theorem zq7q:(defScope zq17).names.lookup ("len":Str)=some NameKind.globalImplicit:=by kernel_rfl
def zqeg {cdv:Value}{A:Around}{outer:List Env}{s:Shared}{H:Hp}{E:XK}(B:Bl mg)(T:LiveT K mg C)(zqm:Def P w K mg base 3 "check_place" ["thing","last"] zq1o)(zqu:Mth P w K mg base 1 C "swap" ["self","begin","end","numbers"] (zq24 C))(hr:Room 3 (A.deeper (PyProof.Rows.envOfC "Live.take" (defScope zq17) s.heap.objs.size f cdv))) :
  { t:TS // QB (cxOf CX0 P w K mg base ["self","place"] "Live.take" (defScope zq17) f cdv A outer s H E).nox (defBody zq17) t } :=
 ⟨_,(qb_cons (qs_if (qt_cmp (kEqG (K:=K) rfl hr) (qe_cB (kLen (K:=K) rfl) zq7q B.len boot_len' (qa_cons (ke_fld (K:=K) rfl (qv 0 rfl zq4w)) qa_nil)) qe_int) (qb_one qs_never) qb_nil)
  (qb_cons (qs_ex (qe_def zqm hr (by decide) zq7l (qa_cons (qv 1 rfl zq48) (qa_cons (qe_op opSub (qe_cB (kLen (K:=K) rfl) zq7q B.len boot_len' (qa_cons (ke_fld (K:=K) rfl (qv 0 rfl zq4w)) qa_nil)) qe_int) qa_nil))))
  (qb_one (qs_ex (qe_meth zqu hr (by decide) (qv 0 rfl zq4w) (qa_cons (qv 1 rfl zq48) (qa_cons (qe_op opAdd (qv 1 rfl zq48) qe_int) (qa_cons (qe_lst qa_nil) qa_nil))))))))⟩
abbrev zqq:Stmt:=inClass (top 33) 5
theorem zq5i:FnScope ["self","begin","end","before"] ["self"] (defScope zqq):=⟨rfl,rfl,rfl,by decide +kernel,rfl,by decide +kernel,by decide +kernel⟩
theorem zq9z:Loc (defScope zqq) "before":=Or.inl (by kernel_rfl)
theorem zqan:Loc (defScope zqq) "begin":=Or.inl (by kernel_rfl)
theorem zqc5:Loc (defScope zqq) "end":=Or.inl (by kernel_rfl)
theorem zqa0:Vis (defScope zqq) "before":=Or.inl (by kernel_rfl)
theorem zqao:Vis (defScope zqq) "begin":=Or.inl (by kernel_rfl)
theorem zqc6:Vis (defScope zqq) "end":=Or.inl (by kernel_rfl)
theorem zq4x:Vis (defScope zqq) "self":=Or.inl (by kernel_rfl)
theorem zqc7:(defScope zqq).names.lookup ("len":Str)=some NameKind.globalImplicit:=by kernel_rfl
def zqeh {cdv:Value}{A:Around}{outer:List Env}{s:Shared}{H:Hp}{E:XK}(B:Bl mg)(T:LiveT K mg C)(hr:Room 0 (A.deeper (PyProof.Rows.envOfC "Live.undo" (defScope zqq) s.heap.objs.size f cdv))) :
  { t:TS // QB (cxOf CX0 P w K mg base ["self","begin","end","before"] "Live.undo" (defScope zqq) f cdv A outer s H E).nox (defBody zqq) t } :=
 ⟨_,(qb_cons (qs_if (qt_cmp (kEqG (K:=K) rfl hr) (qe_cB (kLen (K:=K) rfl) zqc7 B.len boot_len' (qa_cons (ke_fld (K:=K) rfl (qv 0 rfl zq4x)) qa_nil)) qe_int) (qb_one (qs_ret qe_bl)) qb_nil)
  (qb_cons (qs_asg (ke_m0 (K:=K) rfl PySem.F.plainAttrs_list PySem.F.slot_list_pop PySem.F.type_list_pop mtPop (ke_fld (K:=K) rfl (qv 0 rfl zq4x))) (kg_tup (K:=K) rfl rfl (qgs_cons (qg_name (i:=1) zq5i.nd rfl zqan (.inl rfl)) (qgs_cons (qg_name (i:=2) zq5i.nd rfl zqc5 (.inl rfl)) (qgs_cons (qg_name (i:=3) zq5i.nd rfl zq9z (.inl rfl)) qgs_nil)))))
  (qb_cons (qs_asg (qv 3 rfl zqa0) (qg_slc (ke_fld (K:=K) rfl (qv 0 rfl zq4x)) (qo_some (qv 1 rfl zqao)) (qo_some (qv 2 rfl zqc6))))
  (qb_one (qs_ret qe_bl)))))⟩
abbrev zq1t:Stmt:=inClass (top 33) 6
theorem zqei:FnScope ["self"] ["self"] (defScope zq1t):=⟨rfl,rfl,rfl,by decide +kernel,rfl,by decide +kernel,by decide +kernel⟩
theorem zqc8:Vis (defScope zq1t) "self":=Or.inl (by kernel_rfl)
theorem zqc9:(defScope zq1t).names.lookup ("list":Str)=some NameKind.globalImplicit:=by kernel_rfl
def zqev {cdv:Value}{A:Around}{outer:List Env}{s:Shared}{H:Hp}{E:XK}(B:Bl mg)(T:LiveT K mg C)(hr:Room 0 (A.deeper (PyProof.Rows.envOfC "Live.row" (defScope zq1t) s.heap.objs.size f cdv))) :
  { t:TS // QB (cxOf CX0 P w K mg base ["self"] "Live.row" (defScope zq1t) f cdv A outer s H E).nox (defBody zq1t) t } :=
 ⟨_,(qb_one (qs_ret (qe_cT (kList (K:=K) rfl) zqc9 B.list boot_list (qa_cons (ke_fld (K:=K) rfl (qv 0 rfl zqc8)) qa_nil))))⟩
theorem zqcw (B:Bl mg)(T:LiveT K mg C)(F:Fun K "__init__" "Live.__init__" zqx f fd):FnOk P w K mg base CX0 1 f fd ["self","row"] (zq42 C):=by
 refine F.okq zqcu (λvs H Q E h=>?_) (λcdv A outer s H vs Q E hr h=>?_)
 ·obtain⟨p,r,dx,ns,rfl,_⟩:=h;rfl
 obtain⟨p,r,dx,ns,rfl,hp,hr0,hl,q⟩:=h
 refine⟨zqdh B T  hr,?_⟩
 refine i_copy hr0 λl H1 hl0 s1 e1=>?_
 refine i_setF (s1 _ _ hp) T.cl T.n_numbers (by decide) λH2 k2 e2=>?_
 refine i_newL (by show 0<=sizeLine;decide) λd H3 hd0 s3 e3=>?_
 refine i_setF (s3 _ _ e2) T.cl T.n_done (by show 1<1000;decide) λH4 k4 e4=>?_
 have npl:l≠p:=(ne_of_none hp hl0).symm
 have npd:d≠p:=(ne_of_none e2 hd0).symm
 have nld:l≠d:=ne_of_none (k2.one npl e1) hd0
 refine q l d H4 hl0 (s1.free (k2.free (by simp[npd]) hd0)) nld (((s1.kp.trans k2).same s3).trans k4) ⟨dx,e4⟩ (k4.one npl (s3 _ _ (k2.one npl e1))) (k4.one npd e3)
theorem zqdx (B:Bl mg)(T:LiveT K mg C)(F:Fun K "swap" "Live.swap" zq12 f fd):FnOk P w K mg base CX0 1 f fd ["self","begin","end","numbers"] (zq24 C):=by
 refine F.okq zqdv (λvs H Q E h=>?_) (λcdv A outer s H vs Q E hr h=>?_)
 ·obtain⟨S,p,l,d,nb,b,e,ns,new,hist,rfl,_⟩:=h;rfl
 obtain⟨S,p,l,d,nb,b,e,ns,new,hist,rfl,L,al,hnb,nbl,nbd,hbe,hen,hsz,hnew,hh,q⟩:=h
 refine⟨zqee B T  hr,?_⟩
 obtain⟨⟨dx,ob⟩,nums,⟨rs,dn,pi⟩,ld,lS,dS,pS,ln,lns⟩:=id L
 have npl:p≠l:=λz=>pS (z▸lS)
 have npd:p≠d:=λz=>pS (z▸dS)
 refine i_fld ob T.cl T.n_done (flds_done l d) ⟨i_tyL dn,i_lenI hnb ?_⟩
 refine i_fld ob T.cl T.n_numbers (flds_num l d) (i_sl (SqL.of nums) λbq H1 hq s1 e1=>?_)
 rw[cutV_be ns hbe hen] at e1
 refine i_newT (by show 3<=sizeLine;decide) λt H2 ht s2 e2=>?_
 have lrs:=pi.len
 refine i_app (s2 _ _ (s1 _ _ dn)) (by unfold sizeLine;omega) λH3 k3 e3=>?_
 have s12:=s1.trans s2
 refine i_fld (k3.one npd (s12 _ _ ob)) T.cl T.n_numbers (flds_num l d) ?_
 refine i_setS (k3.one ld (s12 _ _ nums)) (k3.one nbd (s12 _ _ hnb)) (Ne.symm nbl) (by omega) (by omega) (by simpa using hen) (by simp;omega) λH4 k4 e4=>?_
 have nS:∀ {a:Addr},H a=none->a∉S:=λ{a} ha z=>by obtain⟨o,ho⟩:=al a z;rw[ha] at ho;cases ho
 have tS:t∉S:=nS (s1.free ht)
 have qS:bq∉S:=nS hq
 have k14:Kp [l,d] H H4:=((s12.kp.trans (k3.mono (by simp))).trans (k4.mono (by simp)))
 have k24:Kp [l,d] H2 H4:=(k3.mono (by simp)).trans (k4.mono (by simp))
 refine q H4 k14 ⟨⟨dx,k14.two npl npd ob⟩,?_,⟨_,k4.one (Ne.symm ld) e3,?_⟩,ld,lS,dS,pS,?_,?_⟩
 ·rw[e4];simp[List.map_append,List.map_take,List.map_drop]
 ·have sub:∀ a∈[l,d],a∈S:=by intro a ha;simp at ha;rcases ha with rfl | rfl<;>assumption
  have P:=Pile.snoc (S:=S) (H:=H4) (ns:=ns.take b++new++ns.drop e) (before:=(ns.take e).drop b) (rs:=rs) (hist:=hist) (b:=b) (e:=b+new.length) (t:=t) (q:=bq)
   (by have:=k24.two (b:=t) (λz=>tS (z▸lS)) (λz=>tS (z▸dS)) e2;rw[this];rfl) (k24.two (b:=bq) (λz=>qS (z▸lS)) (λz=>qS (z▸dS)) (s2 _ _ e1)) qS tS (by omega) (by simp only[List.length_append,List.length_take];omega)
   (by rw[splice_back ns new hbe hen];exact pi.kp k14 sub)
  rw[splice_back ns new hbe hen] at P
  exact P
 ·have:=splice_len ns new hbe hen;omega
 ·intro r hr';rcases List.mem_cons.mp hr' with rfl | z
  ·exact ln
  ·exact lns r z
theorem zqcx (B:Bl mg)(T:LiveT K mg C)(zqm:Def P w K mg base 3 "check_place" ["thing","last"] zq1o)(zq16:Def P w K mg base 2 "check_number" ["thing"] zq26)(zqu:Mth P w K mg base 1 C "swap" ["self","begin","end","numbers"] (zq24 C))(F:Fun K "change" "Live.change" zql f fd):FnOk P w K mg base CX0 4 f fd ["self","place","number"] (zq2d C):=by
 refine F.okq zqcv (λvs H Q E h=>?_) (λcdv A outer s H vs Q E hr h=>?_)
 ·obtain⟨S,p,l,d,i,n,ns,hist,rfl,_⟩:=h;rfl
 obtain⟨S,p,l,d,i,n,ns,hist,rfl,L,al,hi,hn,hh,q⟩:=h
 refine⟨zqdi B T zqm zq16 zqu hr,?_⟩
 obtain⟨⟨dx,ob⟩,nums,⟨rs,dn,pi⟩,ld,lS,dS,pS,ln,lns⟩:=id L
 refine i_fld ob T.cl T.n_numbers (flds_num l d) (i_lenI nums ⟨i,_,rfl,by omega,by omega,?_⟩)
 refine⟨n,rfl,hn,?_⟩
 refine i_ins ob (flds_no l d (by decide +kernel) (by decide +kernel)) ?_
 refine i_newL (by show 1<=sizeLine;decide) λnb H1 hnb s1 e1=>?_
 refine⟨S,p,l,d,nb,i,i+1,ns,[n],hist,rfl,L.same s1,λa ha=>let ⟨o,ho⟩:=al a ha;⟨o,s1 _ _ ho⟩,e1,(ne_of_none nums hnb).symm,(ne_of_none dn hnb).symm,by omega,by omega,by simp;omega,by simp,hh,λH2 k2 L2=>?_⟩
 exact q H2 (s1.kp.trans k2) L2
theorem zqej (B:Bl mg)(T:LiveT K mg C)(zqm:Def P w K mg base 3 "check_place" ["thing","last"] zq1o)(zq16:Def P w K mg base 2 "check_number" ["thing"] zq26)(zqu:Mth P w K mg base 1 C "swap" ["self","begin","end","numbers"] (zq24 C))(F:Fun K "put" "Live.put" zqv f fd):FnOk P w K mg base CX0 4 f fd ["self","place","number"] (zq3q C):=by
 refine F.okq zqef (λvs H Q E h=>?_) (λcdv A outer s H vs Q E hr h=>?_)
 ·obtain⟨S,p,l,d,i,n,ns,hist,rfl,_⟩:=h;rfl
 obtain⟨S,p,l,d,i,n,ns,hist,rfl,L,al,hi,h120,hn,hh,q⟩:=h
 refine⟨zqeu B T zqm zq16 zqu hr,?_⟩
 obtain⟨⟨dx,ob⟩,nums,⟨rs,dn,pi⟩,ld,lS,dS,pS,ln,lns⟩:=id L
 refine i_fld ob T.cl T.n_numbers (flds_num l d) (i_lenI nums (dNo (by omega) ?_))
 refine i_fld ob T.cl T.n_numbers (flds_num l d) (i_lenI nums ⟨i,_,rfl,by omega,by omega,?_⟩)
 refine⟨n,rfl,hn,?_⟩
 refine i_ins ob (flds_no l d (by decide +kernel) (by decide +kernel)) ?_
 refine i_newL (by show 1<=sizeLine;decide) λnb H1 hnb s1 e1=>?_
 refine⟨S,p,l,d,nb,i,i,ns,[n],hist,rfl,L.same s1,λa ha=>let ⟨o,ho⟩:=al a ha;⟨o,s1 _ _ ho⟩,e1,(ne_of_none nums hnb).symm,(ne_of_none dn hnb).symm,by omega,by omega,by simp;omega,by simp,hh,λH2 k2 L2=>?_⟩
 exact q H2 (s1.kp.trans k2) L2
theorem zqdy (B:Bl mg)(T:LiveT K mg C)(zqm:Def P w K mg base 3 "check_place" ["thing","last"] zq1o)(zqu:Mth P w K mg base 1 C "swap" ["self","begin","end","numbers"] (zq24 C))(F:Fun K "take" "Live.take" zq17 f fd):FnOk P w K mg base CX0 4 f fd ["self","place"] (zq57 C):=by
 refine F.okq zqdw (λvs H Q E h=>?_) (λcdv A outer s H vs Q E hr h=>?_)
 ·obtain⟨S,p,l,d,i,ns,hist,rfl,_⟩:=h;rfl
 obtain⟨S,p,l,d,i,ns,hist,rfl,L,al,hi,h2,hh,q⟩:=h
 refine⟨zqeg B T zqm zqu hr,?_⟩
 obtain⟨⟨dx,ob⟩,nums,⟨rs,dn,pi⟩,ld,lS,dS,pS,ln,lns⟩:=id L
 refine i_fld ob T.cl T.n_numbers (flds_num l d) (i_lenI nums (dNo (by omega) ?_))
 refine i_fld ob T.cl T.n_numbers (flds_num l d) (i_lenI nums ⟨i,_,rfl,by omega,by omega,?_⟩)
 refine i_ins ob (flds_no l d (by decide +kernel) (by decide +kernel)) ?_
 refine i_newL (by show 0<=sizeLine;decide) λnb H1 hnb s1 e1=>?_
 refine⟨S,p,l,d,nb,i,i+1,ns,[],hist,rfl,L.same s1,λa ha=>let ⟨o,ho⟩:=al a ha;⟨o,s1 _ _ ho⟩,e1,(ne_of_none nums hnb).symm,(ne_of_none dn hnb).symm,by omega,by omega,by simp;omega,by simp,hh,λH2 k2 L2=>?_⟩
 rw[List.append_nil] at L2
 exact q H2 (s1.kp.trans k2) L2
theorem zqdz (B:Bl mg)(T:LiveT K mg C)(F:Fun K "undo" "Live.undo" zqq f fd):FnOk P w K mg base CX0 1 f fd ["self"] (zq39 C):=by
 refine F.okq zq5i (λvs H Q E h=>?_) (λcdv A outer s H vs Q E hr h=>?_)
 ·obtain⟨S,p,l,d,ns,hist,rfl,_⟩:=h;rfl
 obtain⟨S,p,l,d,ns,hist,rfl,L,q0,q⟩:=h
 refine⟨zqeh B T  hr,?_⟩
 obtain⟨⟨dx,ob⟩,nums,⟨rs,dn,pi⟩,ld,lS,dS,pS,ln,lns⟩:=id L
 have npl:p≠l:=λz=>pS (z▸lS)
 have npd:p≠d:=λz=>pS (z▸dS)
 have lrs:=pi.len
 refine i_fld ob T.cl T.n_done (flds_done l d) (i_lenL dn ?_)
 cases hist with
 | nil =>
  exact dIs (by simpa using lrs) (q0 rfl)
 | cons r hist' =>
  obtain⟨rs',before,b,e,t,bq,rfl,ht,hq,nq,hbe,hen,er,rest⟩:=pi.back
  refine dNo (by simp;omega) ?_
  refine i_fld ob T.cl T.n_done (flds_done l d) ⟨i_tyL dn,i_pop dn λH1 k1 e1=>?_⟩
  have nt:t≠d:=λz=>by rw[z,dn] at ht;cases ht
  refine i_unp (k1.one nt ht) rfl ?_
  refine i_fld (k1.one npd ob) T.cl T.n_numbers (flds_num l d) ?_
  have nqd:bq≠d:=λz=>nq (z▸dS)
  have nql:bq≠l:=λz=>nq (z▸lS)
  have hr2:r.length<=200:=lns r (by simp)
  have hb2:before.length<=200:=by rw[er] at hr2;simp only[List.length_append] at hr2;omega
  refine i_setS (k1.one ld nums) (k1.one nqd hq) (Ne.symm nql) (by omega) (by omega) (by simpa using hen) (by simp;omega) λH2 k2 e2=>?_
  have k02:Kp [l,d] H H2:=(k1.mono (by simp)).trans (k2.mono (by simp))
  have sub:∀ a∈[l,d],a∈S:=by intro a ha;simp at ha;rcases ha with rfl | rfl<;>assumption
  refine q r hist' rfl H2 k02 ⟨⟨dx,k02.two npl npd ob⟩,?_,⟨_,k2.one (Ne.symm ld) e1,rest.kp k02 sub⟩,ld,lS,dS,pS,hr2,λr' hr'=>lns r' (List.mem_cons_of_mem _ hr')⟩
  rw[e2,er];simp[List.map_append,List.map_take,List.map_drop]
theorem zqek (B:Bl mg)(T:LiveT K mg C)(F:Fun K "row" "Live.row" zq1t f fd):FnOk P w K mg base CX0 1 f fd ["self"] (zq5v C):=by
 refine F.okq zqei (λvs H Q E h=>?_) (λcdv A outer s H vs Q E hr h=>?_)
 ·obtain⟨S,p,l,d,ns,hist,rfl,_⟩:=h;rfl
 obtain⟨S,p,l,d,ns,hist,rfl,L,q⟩:=h
 refine⟨zqev B T  hr,?_⟩
 obtain⟨⟨dx,ob⟩,nums,_⟩:=id L
 exact i_fld ob T.cl T.n_numbers (flds_num l d) (i_copy nums λr H1 hr0 s1 e1=>q r H1 hr0 s1 e1)
abbrev zqc:Stmt:=inClass (top 33) 8
theorem zq85:FnScope ["self","many"] ["self","many"] (defScope zqc):=⟨rfl,rfl,rfl,by decide +kernel,rfl,by decide +kernel,by decide +kernel⟩
theorem zq6k:Vis (defScope zqc) "many":=Or.inl (by kernel_rfl)
theorem zq6l:Vis (defScope zqc) "self":=Or.inl (by kernel_rfl)
theorem zq2t:(defScope zqc).names.lookup ("least_greatest_greatest":Str)=some NameKind.globalImplicit:=by kernel_rfl
def zq8m {cdv:Value}{A:Around}{outer:List Env}{s:Shared}{H:Hp}{E:XK}(B:Bl mg)(T:LiveT K mg C)(zq19:Def P w K mg base 4 "least_greatest_greatest" ["row","many"] (spAns 0))(hr:Room 4 (A.deeper (PyProof.Rows.envOfC "Live.least_greatest" (defScope zqc) s.heap.objs.size f cdv))) :
  { t:TS // QB (cxOf CX0 P w K mg base ["self","many"] "Live.least_greatest" (defScope zqc) f cdv A outer s H E).nox (defBody zqc) t } :=
 ⟨_,(qb_one (qs_ret (qe_def zq19 hr (by decide) zq2t (qa_cons (ke_fld (K:=K) rfl (qv 0 rfl zq6l)) (qa_cons (qv 1 rfl zq6k) qa_nil)))))⟩
abbrev zqd:Stmt:=inClass (top 33) 9
theorem zq86:FnScope ["self","many"] ["self","many"] (defScope zqd):=⟨rfl,rfl,rfl,by decide +kernel,rfl,by decide +kernel,by decide +kernel⟩
theorem zq6m:Vis (defScope zqd) "many":=Or.inl (by kernel_rfl)
theorem zq6n:Vis (defScope zqd) "self":=Or.inl (by kernel_rfl)
theorem zq3d:(defScope zqd).names.lookup ("greatest_least_least":Str)=some NameKind.globalImplicit:=by kernel_rfl
def zq8n {cdv:Value}{A:Around}{outer:List Env}{s:Shared}{H:Hp}{E:XK}(B:Bl mg)(T:LiveT K mg C)(zq1j:Def P w K mg base 4 "greatest_least_least" ["row","many"] (spAns 1))(hr:Room 4 (A.deeper (PyProof.Rows.envOfC "Live.greatest_least" (defScope zqd) s.heap.objs.size f cdv))) :
  { t:TS // QB (cxOf CX0 P w K mg base ["self","many"] "Live.greatest_least" (defScope zqd) f cdv A outer s H E).nox (defBody zqd) t } :=
 ⟨_,(qb_one (qs_ret (qe_def zq1j hr (by decide) zq3d (qa_cons (ke_fld (K:=K) rfl (qv 0 rfl zq6n)) (qa_cons (qv 1 rfl zq6m) qa_nil)))))⟩
abbrev zqn:Stmt:=inClass (top 33) 10
theorem zqap:FnScope ["self","many"] ["self","many"] (defScope zqn):=⟨rfl,rfl,rfl,by decide +kernel,rfl,by decide +kernel,by decide +kernel⟩
theorem zq8o:Vis (defScope zqn) "many":=Or.inl (by kernel_rfl)
theorem zq8p:Vis (defScope zqn) "self":=Or.inl (by kernel_rfl)
theorem zq49:(defScope zqn).names.lookup ("most_even_squares":Str)=some NameKind.globalImplicit:=by kernel_rfl
def zqbd {cdv:Value}{A:Around}{outer:List Env}{s:Shared}{H:Hp}{E:XK}(B:Bl mg)(T:LiveT K mg C)(zq1x:Def P w K mg base 4 "most_even_squares" ["row","many"] (spAns 2))(hr:Room 4 (A.deeper (PyProof.Rows.envOfC "Live.most_even" (defScope zqn) s.heap.objs.size f cdv))) :
  { t:TS // QB (cxOf CX0 P w K mg base ["self","many"] "Live.most_even" (defScope zqn) f cdv A outer s H E).nox (defBody zqn) t } :=
 ⟨_,(qb_one (qs_ret (qe_def zq1x hr (by decide) zq49 (qa_cons (ke_fld (K:=K) rfl (qv 0 rfl zq8p)) (qa_cons (qv 1 rfl zq8o) qa_nil)))))⟩
theorem zq87 (B:Bl mg)(T:LiveT K mg C)(zq19:Def P w K mg base 4 "least_greatest_greatest" ["row","many"] (spAns 0))(F:Fun K "least_greatest" "Live.least_greatest" zqc f fd):FnOk P w K mg base CX0 5 f fd ["self","many"] (zq21 C):=by
 refine F.okq zq85 (λvs H Q E h=>?_) (λcdv A outer s H vs Q E hr h=>?_)
 ·obtain⟨S,p,l,d,m,ns,hist,rfl,_⟩:=h;rfl
 obtain⟨S,p,l,d,m,ns,hist,rfl,L,rn,m1,m2,q⟩:=h
 refine⟨zq8m B T zq19 hr,?_⟩
 obtain⟨⟨dx,ob⟩,nums,_⟩:=id L
 refine i_fld ob T.cl T.n_numbers (flds_num l d) ?_
 exact⟨l,m,ns,rfl,nums,rn,m1,m2,q⟩
theorem zq88 (B:Bl mg)(T:LiveT K mg C)(zq1j:Def P w K mg base 4 "greatest_least_least" ["row","many"] (spAns 1))(F:Fun K "greatest_least" "Live.greatest_least" zqd f fd):FnOk P w K mg base CX0 5 f fd ["self","many"] (zq22 C):=by
 refine F.okq zq86 (λvs H Q E h=>?_) (λcdv A outer s H vs Q E hr h=>?_)
 ·obtain⟨S,p,l,d,m,ns,hist,rfl,_⟩:=h;rfl
 obtain⟨S,p,l,d,m,ns,hist,rfl,L,rn,m1,m2,q⟩:=h
 refine⟨zq8n B T zq1j hr,?_⟩
 obtain⟨⟨dx,ob⟩,nums,_⟩:=id L
 refine i_fld ob T.cl T.n_numbers (flds_num l d) ?_
 exact⟨l,m,ns,rfl,nums,rn,m1,m2,q⟩
theorem zqaq (B:Bl mg)(T:LiveT K mg C)(zq1x:Def P w K mg base 4 "most_even_squares" ["row","many"] (spAns 2))(F:Fun K "most_even" "Live.most_even" zqn f fd):FnOk P w K mg base CX0 5 f fd ["self","many"] (zq32 C):=by
 refine F.okq zqap (λvs H Q E h=>?_) (λcdv A outer s H vs Q E hr h=>?_)
 ·obtain⟨S,p,l,d,m,ns,hist,rfl,_⟩:=h;rfl
 obtain⟨S,p,l,d,m,ns,hist,rfl,L,rn,m1,m2,q⟩:=h
 refine⟨zqbd B T zq1x hr,?_⟩
 obtain⟨⟨dx,ob⟩,nums,_⟩:=id L
 refine i_fld ob T.cl T.n_numbers (flds_num l d) ?_
 exact⟨l,m,ns,rfl,nums,rn,m1,m2,q⟩
abbrev zq10:Stmt:=top 39
theorem zq99:FnScope ["draws","bases"] ["draws"] (defScope zq10):=⟨rfl,rfl,rfl,by decide +kernel,rfl,by decide +kernel,by decide +kernel⟩
theorem zqa1:Loc (defScope zq10) "bases":=Or.inl (by kernel_rfl)
theorem zqa2:Vis (defScope zq10) "bases":=Or.inl (by kernel_rfl)
theorem zq6d:Vis (defScope zq10) "draws":=Or.inl (by kernel_rfl)
theorem zq4k:(defScope zq10).names.lookup ("_law_take":Str)=some NameKind.globalImplicit:=by kernel_rfl
def zqe0 {cdv:Value}{A:Around}{outer:List Env}{s:Shared}{H:Hp}{E:XK}(B:Bl mg)(zq0:Def P w K mg base 1 "_law_take" ["draws","many"] zq11)(hr:Room 1 (A.deeper (PyProof.Rows.envOfC "_law_number" (defScope zq10) s.heap.objs.size f cdv))) :
  { t:TS // QB (cxOf CX0 P w K mg base ["draws","bases"] "_law_number" (defScope zq10) f cdv A outer s H E).nox (defBody zq10) t } :=
 ⟨_,(qb_cons (qs_set (i:=1) zq99.nd rfl zqa1 (.inl rfl) (qe_lst (qa_cons qe_int (qa_cons qe_int (qa_cons qe_int (qa_cons qe_int (qa_cons (qe_op opPow qe_int qe_int) (qa_cons (qe_op opAdd (qe_op opPow qe_int qe_int) qe_int) qa_nil))))))))
  (qb_one (qs_ret (qe_op opMod (qe_op opMul (qe_def zq0 hr (by decide) zq4k (qa_cons (qv 0 rfl zq6d) (qa_cons qe_int qa_nil))) qe_int) (ke_ix (K:=K) rfl (qv 1 rfl zqa2) (qe_def zq0 hr (by decide) zq4k (qa_cons (qv 0 rfl zq6d) (qa_cons qe_int qa_nil))) (λ_ _=>rfl))))))⟩
def zq2p:Sp:=λvs H Q _=>∃ (d:Addr),vs=[.ref d]/\DrawsAt H d/\∀ g H',0<=g->g<=1000000000000->DrawsAt H' d->Kp [d] H H'->Q (.int g) H'
theorem zqdj (B:Bl mg)(zq0:Def P w K mg base 1 "_law_take" ["draws","many"] zq11)(F:Fun K "_law_number" "_law_number" zq10 f fd):FnOk P w K mg base CX0 2 f fd ["draws"] zq2p:=by
 refine F.okq zq99 (λvs H Q E h=>?_) (λcdv A outer s H vs Q E hr h=>?_)
 ·obtain⟨d,rfl,_⟩:=h;rfl
 obtain⟨d,rfl,hd,q⟩:=h
 refine⟨zqe0 B zq0 hr,?_⟩
 refine⟨⟨by decide,by decide,by decide⟩,⟨by decide,by decide,by decide⟩,?_⟩
 refine i_newL (by show 6<=sizeLine;decide) λp1 H1 hp1 s1 e1=>?_
 refine⟨d,1000,rfl,hd.same s1,by decide,λg H2 g0 g1 hd2 k2=>?_⟩
 have n1:p1≠d:=(hd.ne hp1).symm
 refine⟨.inl ⟨by omega,by omega⟩,⟨d,6,rfl,hd2,by decide,λg' H3 g0' g1' hd3 k3=>?_⟩⟩
 have e3:H3 p1=some (.lst (([1,2,10,1000,10 ^ Int.toNat 6,10 ^ Int.toNat 12+1]:List Int).map V.int)):=k3.one n1 (k2.one n1 e1)
 refine i_ixI e3 g0' (by simpa using g1') ?_
 have hm:=atInts (ns:=[1,2,10,1000,10 ^ Int.toNat 6,10 ^ Int.toNat 12+1]) g0' (by simpa using g1')
 generalize ([1,2,10,1000,10 ^ Int.toNat 6,10 ^ Int.toNat 12+1]:List Int).getD g'.toNat 0=z at hm
 have hz:0<z/\z<=1000000000001:=by
  simp at hm
  omega
 have b0:=Int.emod_nonneg (g*1001001001) (show z≠0 by omega)
 have b1:=Int.emod_lt_of_pos (g*1001001001) hz.1
 exact⟨hz.1,q _ H3 b0 (by omega) hd3 ((s1.kp.trans k2).trans k3)⟩
inductive Rows (S:List Addr)(H:Hp):List V->List (List Int)->Prop
 | nil:Rows S H [] []
 | snoc {rs:List V} {hist:List (List Int)} {r:Addr} {ns:List Int} (rest:Rows S H rs hist) (hr:H r=some (.lst (ns.map V.int))) (nr:r∉S):Rows S H (rs++[.ref r]) (ns::hist)
theorem Rows.kp {S S':List Addr}{H H':Hp}(k:Kp S' H H')(hs:∀ a∈S',a∈S){rs:List V}{hist:List (List Int)}(p:Rows S H rs hist):Rows S H' rs hist:=by
 induction p with
 | nil=>exact .nil
 | snoc _ hr nr ih=>exact .snoc ih (k _ _ (λz=>nr (hs _ z)) hr) nr
theorem Rows.same {S:List Addr}{H H':Hp}(k:Same H H'){rs:List V}{hist:List (List Int)}(p:Rows S H rs hist):Rows S H' rs hist:=by
 induction p with
 | nil=>exact .nil
 | snoc _ hr nr ih=>exact .snoc ih (k _ _ hr) nr
theorem Rows.len {S:List Addr}{H:Hp}{rs:List V}{hist:List (List Int)}(p:Rows S H rs hist):rs.length=hist.length:=by
 induction p with
 | nil=>rfl
 | snoc _ _ _ ih=>simp[ih]
theorem Rows.back {S:List Addr}{H:Hp}{rs:List V}{r:List Int}{hist:List (List Int)}(p:Rows S H rs (r::hist)):∃ rs' a,rs=rs'++[.ref a]/\H a=some (.lst (r.map V.int))/\a∉S/\Rows S H rs' hist:=by
 cases p with
 | snoc rest hr nr=>exact⟨_,_,rfl,hr,nr,rest⟩
structure Both (S:List Addr)(C:Addr)(H:Hp)(dr p l d st pl:Addr)(ns:List Int)(hist:List (List Int)):Prop where
 lv:LiveAt S C H p l d ns hist
 dw:DrawsAt H dr
 sa:∃ r,H st=some (.lst [.ref r,.ref pl])/\H r=some (.lst (ns.map V.int))/\r∉S
 pa:∃ rs,H pl=some (.lst rs)/\Rows S H rs hist
 rn:RowN ns
 rns:∀ r∈hist,RowN r
 eS:S=[l,d,dr,st,pl]
 nd:S.Nodup
theorem Both.al {S:List Addr}{C:Addr}{H:Hp}{dr p l d st pl:Addr}{ns:List Int}{hist:List (List Int)}(x:Both S C H dr p l d st pl ns hist):∀ a∈S,∃ o,H a=some o:=by
 obtain⟨⟨_,nums,⟨rs,dn,_⟩,_⟩,⟨ds,dw,_⟩,⟨r,sa,_⟩,⟨rs2,pa,_⟩,_,_,eS,_⟩:=x
 intro a ha
 rw[eS] at ha
 simp at ha
 rcases ha with rfl | rfl | rfl | rfl | rfl
 ·exact⟨_,nums⟩
 ·exact⟨_,dn⟩
 ·exact⟨_,dw⟩
 ·exact⟨_,sa⟩
 ·exact⟨_,pa⟩
theorem Both.ne {S:List Addr}{C:Addr}{H:Hp}{dr p l d st pl:Addr}{ns:List Int}{hist:List (List Int)}(x:Both S C H dr p l d st pl ns hist):l≠d/\l≠dr/\l≠st/\l≠pl/\d≠dr/\d≠st/\d≠pl/\dr≠st/\dr≠pl/\st≠pl:=by
 have:=x.nd
 rw[x.eS] at this
 simp[List.nodup_cons] at this
 obtain⟨⟨a1,a2,a3,a4⟩,⟨a5,a6,a7⟩,⟨a8,a9⟩,a10⟩:=this
 exact⟨a1,a2,a3,a4,a5,a6,a7,a8,a9,a10⟩
theorem Both.same {S:List Addr}{C:Addr}{H H':Hp}{dr p l d st pl:Addr}{ns:List Int}{hist:List (List Int)}(k:Same H H')(x:Both S C H dr p l d st pl ns hist):Both S C H' dr p l d st pl ns hist :=
 let ⟨lv,dw,⟨r,sa,sr,sn⟩,⟨rs,pa,pr⟩,rn,rns,eS,nd⟩:=x
 ⟨lv.same k,dw.same k,⟨r,k _ _ sa,k _ _ sr,sn⟩,⟨rs,k _ _ pa,pr.same k⟩,rn,rns,eS,nd⟩
theorem Both.drs {S:List Addr}{C:Addr}{H H':Hp}{dr p l d st pl:Addr}{ns:List Int}{hist:List (List Int)}(k:Kp [dr] H H')(hd:DrawsAt H' dr)(x:Both S C H dr p l d st pl ns hist):Both S C H' dr p l d st pl ns hist:=by
 obtain⟨n1,n2,n3,n4,n5,n6,n7,n8,n9,n10⟩:=x.ne
 obtain⟨lv,dw,⟨r,sa,sr,sn⟩,⟨rs,pa,pr⟩,rn,rns,eS,nd⟩:=x
 have hin:∀ a∈[dr],a∈S:=by intro a ha;rw[eS];simp at ha;subst ha;simp
 have nr:r≠dr:=λz=>sn (z▸hin dr (by simp))
 exact⟨lv.kp k hin (by simp[n2]) (by simp[n5]),hd,⟨r,k.one (Ne.symm n8) sa,k.one nr sr,sn⟩,⟨rs,k.one (Ne.symm n9) pa,pr.kp k hin⟩,rn,rns,eS,nd⟩
abbrev zq4:Stmt:=top 40
theorem zq1c:FnScope ["draws","live","state","row","pile","way","due","found","at","number","told"] ["draws","live","state"] (defScope zq4):=⟨rfl,rfl,rfl,by decide +kernel,rfl,by decide +kernel,by decide +kernel⟩
theorem zq9a:Loc (defScope zq4) "at":=Or.inl (by kernel_rfl)
theorem zqcy:Loc (defScope zq4) "due":=Or.inl (by kernel_rfl)
theorem zqbe:Loc (defScope zq4) "found":=Or.inl (by kernel_rfl)
theorem zqar:Loc (defScope zq4) "number":=Or.inl (by kernel_rfl)
theorem zqca:Loc (defScope zq4) "pile":=Or.inl (by kernel_rfl)
theorem zqcz:Loc (defScope zq4) "row":=Or.inl (by kernel_rfl)
theorem zq5j:Loc (defScope zq4) "told":=Or.inl (by kernel_rfl)
theorem zqd0:Loc (defScope zq4) "way":=Or.inl (by kernel_rfl)
theorem zq1d:Vis (defScope zq4) "at":=Or.inl (by kernel_rfl)
theorem zq2i:Vis (defScope zq4) "draws":=Or.inl (by kernel_rfl)
theorem zq8q:Vis (defScope zq4) "due":=Or.inl (by kernel_rfl)
theorem zq7b:Vis (defScope zq4) "found":=Or.inl (by kernel_rfl)
theorem zq3v:Vis (defScope zq4) "live":=Or.inl (by kernel_rfl)
theorem zq34:Vis (defScope zq4) "number":=Or.inl (by kernel_rfl)
theorem zq5k:Vis (defScope zq4) "pile":=Or.inl (by kernel_rfl)
theorem zqs:Vis (defScope zq4) "row":=Or.inl (by kernel_rfl)
theorem zq2j:Vis (defScope zq4) "state":=Or.inl (by kernel_rfl)
theorem zqcb:Vis (defScope zq4) "told":=Or.inl (by kernel_rfl)
theorem zq44:Vis (defScope zq4) "way":=Or.inl (by kernel_rfl)
theorem zq89:(defScope zq4).names.lookup ("_law_number":Str)=some NameKind.globalImplicit:=by kernel_rfl
theorem zq2c:(defScope zq4).names.lookup ("_law_take":Str)=some NameKind.globalImplicit:=by kernel_rfl
theorem zqcc:(defScope zq4).names.lookup ("bool":Str)=some NameKind.globalImplicit:=by kernel_rfl
theorem zq8r:(defScope zq4).names.lookup ("isinstance":Str)=some NameKind.globalImplicit:=by kernel_rfl
theorem zq3e:(defScope zq4).names.lookup ("len":Str)=some NameKind.globalImplicit:=by kernel_rfl
def zqew {cdv:Value}{A:Around}{outer:List Env}{s:Shared}{H:Hp}{E:XK}(B:Bl mg)(zq0:Def P w K mg base 1 "_law_take" ["draws","many"] zq11)(zq1k:Mth P w K mg base 1 C "undo" ["self"] (zq39 C))(zq1l:Def P w K mg base 2 "_law_number" ["draws"] zq2p)(zq1e:Mth P w K mg base 4 C "change" ["self","place","number"] (zq2d C))(zq23:Mth P w K mg base 4 C "put" ["self","place","number"] (zq3q C))(zq4l:Mth P w K mg base 4 C "take" ["self","place"] (zq57 C))(hr:Room 4 (A.deeper (PyProof.Rows.envOfC "_law_deed" (defScope zq4) s.heap.objs.size f cdv))) :
  { t:TS // QB (cxOf CX0 P w K mg base ["draws","live","state","row","pile","way","due","found","at","number","told"] "_law_deed" (defScope zq4) f cdv A outer s H E).nox (defBody zq4) t } :=
 ⟨_,(qb_cons (qs_asg (qv 2 rfl zq2j) (kg_lst (K:=K) rfl rfl (qgs_cons (qg_name (i:=3) zq1c.nd rfl zqcz (.inl rfl)) (qgs_cons (qg_name (i:=4) zq1c.nd rfl zqca (.inl rfl)) qgs_nil))))
  (qb_cons (qs_set (i:=5) zq1c.nd rfl zqd0 (.inl rfl) (qe_def zq0 hr (by decide) zq2c (qa_cons (qv 0 rfl zq2i) (qa_cons qe_int qa_nil))))
  (qb_cons (qs_if (qt_cmp opLt (qv 5 rfl zq44) qe_int) (qb_cons (qs_set (i:=6) zq1c.nd rfl zqcy (.inl rfl) (qe_cmp (kNeE (K:=K) rfl hr) (qv 4 rfl zq5k) (qe_lst qa_nil)))
  (qb_mid (qs_if (kt_val (K:=K) rfl (qv 6 rfl zq8q)) (qb_one (qs_asg (ke_m0 (K:=K) rfl PySem.F.plainAttrs_list PySem.F.slot_list_pop PySem.F.type_list_pop mtPop (qv 4 rfl zq5k)) (qg_sub (qv 2 rfl zq2j) qe_int setM))) qb_nil)
  (qb_cons (qs_set (i:=7) zq1c.nd rfl zqbe (.inl rfl) (qe_meth0 zq1k hr (by decide) (qv 1 rfl zq3v)))
  (qb_one (qs_ret (ke_and (K:=K) rfl (qe_cB (kIsi (K:=K) rfl) zq8r B.isinstance boot_isinstance' (qa_cons (qv 7 rfl zq7b) (qa_cons (qe_ty zqcc B.bool boot_bool) qa_nil))) (qe_one (qe_cmp (kEqG (K:=K) rfl hr) (qv 7 rfl zq7b) (qv 6 rfl zq8q))))))))) qb_nil)
  (qb_cons (qs_set (i:=8) zq1c.nd rfl zq9a (.inl rfl) (ke_ix (K:=K) rfl (qe_lst (qa_cons qe_int (qa_cons (qe_op opSub (qe_cB (kLen (K:=K) rfl) zq3e B.len boot_len' (qa_cons (qv 3 rfl zqs) qa_nil)) qe_int) (qa_cons (qe_op opMod (qe_def zq0 hr (by decide) zq2c (qa_cons (qv 0 rfl zq2i) (qa_cons qe_int qa_nil))) (qe_cB (kLen (K:=K) rfl) zq3e B.len boot_len' (qa_cons (qv 3 rfl zqs) qa_nil))) qa_nil)))) (qe_def zq0 hr (by decide) zq2c (qa_cons (qv 0 rfl zq2i) (qa_cons qe_int qa_nil))) (λ_ _=>rfl)))
  (qb_cons (qs_set (i:=9) zq1c.nd rfl zqar (.inl rfl) (qe_def zq1l hr (by decide) zq89 (qa_cons (qv 0 rfl zq2i) qa_nil)))
  (qb_mid (qs_if (QW.pt (qw_or (qt_cmp opLt (qv 5 rfl zq44) qe_int) (qw_or1 (QW.pt (qw_and (qt_cmp opGt (qe_cB (kLen (K:=K) rfl) zq3e B.len boot_len' (qa_cons (qv 3 rfl zqs) qa_nil)) qe_int) (qw_and1 (qt_cmp opLt (qv 5 rfl zq44) qe_int))))))) (qb_cons (qs_asg (qe_op opAdd (qe_op opAdd (ke_slice (K:=K) rfl (qv 3 rfl zqs) qo_none (qo_some (qv 8 rfl zq1d))) (qe_lst (qa_cons (qv 9 rfl zq34) qa_nil))) (ke_slice (K:=K) rfl (qv 3 rfl zqs) (qo_some (qe_op opAdd (qv 8 rfl zq1d) qe_int)) qo_none)) (qg_sub (qv 2 rfl zq2j) qe_int setM))
  (qb_one (qs_set (i:=10) zq1c.nd rfl zq5j (.inl rfl) (qe_meth zq1e hr (by decide) (qv 1 rfl zq3v) (qa_cons (qv 8 rfl zq1d) (qa_cons (qv 9 rfl zq34) qa_nil)))))) (qb_one (qs_if (QW.pt (qw_or (qt_cmp opLt (qv 5 rfl zq44) qe_int) (qw_or1 (qt_cmp (kEqG (K:=K) rfl hr) (qe_cB (kLen (K:=K) rfl) zq3e B.len boot_len' (qa_cons (qv 3 rfl zqs) qa_nil)) qe_int)))) (qb_cons (qs_set (i:=8) zq1c.nd rfl zq9a (.inl rfl) (ke_ix (K:=K) rfl (qe_lst (qa_cons (qv 8 rfl zq1d) (qa_cons (qe_cB (kLen (K:=K) rfl) zq3e B.len boot_len' (qa_cons (qv 3 rfl zqs) qa_nil)) qa_nil))) (qe_def zq0 hr (by decide) zq2c (qa_cons (qv 0 rfl zq2i) (qa_cons qe_int qa_nil))) (λ_ _=>rfl)))
  (qb_cons (qs_asg (qe_op opAdd (qe_op opAdd (ke_slice (K:=K) rfl (qv 3 rfl zqs) qo_none (qo_some (qv 8 rfl zq1d))) (qe_lst (qa_cons (qv 9 rfl zq34) qa_nil))) (ke_slice (K:=K) rfl (qv 3 rfl zqs) (qo_some (qv 8 rfl zq1d)) qo_none)) (qg_sub (qv 2 rfl zq2j) qe_int setM))
  (qb_one (qs_set (i:=10) zq1c.nd rfl zq5j (.inl rfl) (qe_meth zq23 hr (by decide) (qv 1 rfl zq3v) (qa_cons (qv 8 rfl zq1d) (qa_cons (qv 9 rfl zq34) qa_nil))))))) (qb_cons (qs_asg (qe_op opAdd (ke_slice (K:=K) rfl (qv 3 rfl zqs) qo_none (qo_some (qv 8 rfl zq1d))) (ke_slice (K:=K) rfl (qv 3 rfl zqs) (qo_some (qe_op opAdd (qv 8 rfl zq1d) qe_int)) qo_none)) (qg_sub (qv 2 rfl zq2j) qe_int setM))
  (qb_one (qs_set (i:=10) zq1c.nd rfl zq5j (.inl rfl) (qe_meth zq4l hr (by decide) (qv 1 rfl zq3v) (qa_cons (qv 8 rfl zq1d) qa_nil))))))))
  (qb_cons (qs_ex (ke_m1 (K:=K) rfl PySem.F.plainAttrs_list PySem.F.slot_list_append PySem.F.type_list_append mtApp (qv 4 rfl zq5k) (qv 3 rfl zqs)))
  (qb_one (qs_ret (qe_cmp opIs (qv 10 rfl zqcb) qe_non))))))))))⟩
theorem cutV_to (ns:List Int){i:Nat}(h:i<=ns.length):cutV (ns.map V.int) none (some (i:Int))=(ns.take i).map V.int:=by
 rw[cutV_ints,HT.sIx_none,HT.sIx_nat,Nat.min_eq_left h,List.drop_zero,Nat.sub_zero]
theorem cutV_from (ns:List Int){i:Nat}(h:i<=ns.length):cutV (ns.map V.int) (some (i:Int)) none=(ns.drop i).map V.int:=by
 rw[cutV_ints,HT.sIx_none,HT.sIx_nat,Nat.min_eq_left h,List.take_of_length_le (by simp)]
theorem rown_mk {ns ns':List Int}{n:Int}(r:RowN ns)(hn0:0<=n)(hn1:n<=1000000000000)(hs:∀ x∈ns',x∈ns\/x=n)(h1:1<=ns'.length)(h2:ns'.length<=120):RowN ns' :=
 ⟨h1,h2,λx hx=>by rcases hs x hx with z | z;exact r.nn x z;omega,λx hx=>by rcases hs x hx with z | z;exact r.ub x z;omega⟩
theorem mem_splice {ns:List Int}{n x:Int}{i j:Nat}(h:x∈ns.take i++[n]++ns.drop j):x∈ns\/x=n:=by
 simp only[List.mem_append,List.mem_singleton] at h
 rcases h with (h | h) | h
 ·exact .inl (List.mem_of_mem_take h)
 ·exact .inr h
 ·exact .inl (List.mem_of_mem_drop h)
structure MidS (S:List Addr)(C:Addr)(H:Hp)(dr p l d st pl r:Addr)(ns ns':List Int)(hist:List (List Int)):Prop where
 lv:LiveAt S C H p l d ns' (ns::hist)
 rn':RowN ns'
 dw:DrawsAt H dr
 sa:∃ r',H st=some (.lst [.ref r',.ref pl])/\H r'=some (.lst (ns'.map V.int))/\r'∉S
 hr:H r=some (.lst (ns.map V.int))
 pa:∃ rs,H pl=some (.lst rs)/\Rows S H rs hist
theorem mid_mk {S:List Addr}{C:Addr}{H5 H6 H7 H8:Hp}{dr p l d st pl r nl:Addr}{ns ns':List Int}{hist:List (List Int)}(X:Both S C H5 dr p l d st pl ns hist)(hr:H5 r=some (.lst (ns.map V.int)))(nr:r∉S)
  (s6:Same H5 H6) (e6:H6 nl=some (.lst (ns'.map V.int))) (nS:nl∉S) (k7:Kp [st] H6 H7) (e7:H7 st=some (.lst [.ref nl,.ref pl])) (k8:Kp [l,d] H7 H8) (L8:LiveAt S C H8 p l d ns' (ns::hist)) (rn':RowN ns'):MidS S C H8 dr p l d st pl r ns ns' hist/\Kp S H5 H8:=by
 obtain⟨n1,n2,n3,n4,n5,n6,n7,n8,n9,n10⟩:=X.ne
 have eS:=X.eS
 have inst:∀ a∈[st],a∈S:=by intro a ha;rw[eS];simp at ha;subst ha;simp
 have inld:∀ a∈[l,d],a∈S:=by intro a ha;rw[eS];simp at ha;rcases ha with rfl | rfl<;>simp
 have ns1:∀ {a:Addr},a∉S->a∉[st]:=λh z=>h (inst _ z)
 have ns2:∀ {a:Addr},a∉S->a∉[l,d]:=λh z=>h (inld _ z)
 obtain⟨rs,pa,pr⟩:=X.pa
 refine⟨⟨L8,rn',?_,⟨nl,k8.two (Ne.symm n3) (Ne.symm n6) e7,k8 _ _ (ns2 nS) (k7 _ _ (ns1 nS) e6),nS⟩,k8 _ _ (ns2 nr) (k7 _ _ (ns1 nr) (s6 _ _ hr)),⟨rs,k8.two (Ne.symm n4) (Ne.symm n7) (k7.one (Ne.symm n10) (s6 _ _ pa)),(((pr.same s6).kp k7 inst).kp k8 inld)⟩⟩,?_⟩
 ·exact((X.dw.same s6).kp k7 (by simp[n8])).kp k8 (by simp[Ne.symm n2,Ne.symm n5])
 ·exact(s6.kp.trans (k7.mono inst)).trans (k8.mono inld)
def Tr (ns:List Int)(hist:List (List Int))(ns':List Int)(hist':List (List Int)):Prop:=hist'=ns::hist\/hist=ns'::hist'\/(ns'=ns/\hist'=hist)
def zq5x (C:Addr):Sp:=λvs H Q _=>∃ (S:List Addr) (dr p l d st pl:Addr) (ns:List Int) (hist:List (List Int)),vs=[.ref dr,.ref p,.ref st]/\Both S C H dr p l d st pl ns hist/\hist.length<=2000 /\
 ∀ ns' hist' H',Kp S H H'->Both S C H' dr p l d st pl ns' hist'->hist'.length<=hist.length+1->Tr ns hist ns' hist'->(ns'.length<=ns.length+1\/ns'∈hist)->Q (.bl true) H'
theorem zqel (B:Bl mg)(zq0:Def P w K mg base 1 "_law_take" ["draws","many"] zq11)(zq1k:Mth P w K mg base 1 C "undo" ["self"] (zq39 C))(zq1l:Def P w K mg base 2 "_law_number" ["draws"] zq2p)(zq1e:Mth P w K mg base 4 C "change" ["self","place","number"] (zq2d C))(zq23:Mth P w K mg base 4 C "put" ["self","place","number"] (zq3q C))(zq4l:Mth P w K mg base 4 C "take" ["self","place"] (zq57 C))(F:Fun K "_law_deed" "_law_deed" zq4 f fd):FnOk P w K mg base CX0 5 f fd ["draws","live","state"] (zq5x C):=by
 refine F.okq zq1c (λvs H Q E h=>?_) (λcdv A outer s H vs Q E hr h=>?_)
 ·obtain⟨S,dr,p,l,d,st,pl,ns,hist,rfl,_⟩:=h;rfl
 obtain⟨S,dr,p,l,d,st,pl,ns,hist,rfl,X,hh,q⟩:=h
 refine⟨zqew B zq0 zq1k zq1l zq1e zq23 zq4l hr,?_⟩
 obtain⟨r,sa,sr,sn⟩:=X.sa
 have eS:=X.eS
 have indr:∀ a∈[dr],a∈S:=by intro a ha;rw[eS];simp at ha;subst ha;simp
 have inst:∀ a∈[st],a∈S:=by intro a ha;rw[eS];simp at ha;subst ha;simp
 have inpl:∀ a∈[pl],a∈S:=by intro a ha;rw[eS];simp at ha;subst ha;simp
 have inld:∀ a∈[l,d],a∈S:=by intro a ha;rw[eS];simp at ha;rcases ha with rfl | rfl<;>simp
 obtain⟨n1,n2,n3,n4,n5,n6,n7,n8,n9,n10⟩:=X.ne
 refine i_unpL sa rfl ?_
 refine⟨dr,8,rfl,X.dw,by decide,λway H1 w0 w1 hd1 k1=>?_⟩
 have X1:=X.drs k1 hd1
 have nrd:r≠dr:=λz=>sn (z▸indr dr (by simp))
 have sr1:=k1.one nrd sr
 have sa1:=k1.one (Ne.symm n8) sa
 refine dec2 (λc=>?_) (λc=>?_)
 ·obtain⟨rs,pa,pr⟩:=X1.pa
  refine i_newL (by show 0<=sizeLine;decide) λp2 H2 hp2 s2 e2=>i_eqE (s2 _ _ pa) e2 ?_
  have X2:=X1.same s2
  obtain⟨dx,ob⟩:=X2.lv.ob
  cases hist with
  | nil =>
   have er:rs=[]:=List.eq_nil_of_length_eq_zero pr.len
   subst er
   refine⟨λσ H'=>H'=H2/\σ=[some (.ref dr),some (.ref p),some (.ref st),some (.ref r),some (.ref pl),some (.int way),some (.bl false),none,none,none,none],bF ⟨rfl,rfl⟩,?_⟩
   rintro σ H' ⟨rfl,rfl⟩
   refine i_ins ob (flds_no l d (by decide +kernel) (by decide +kernel)) ?_
   refine⟨S,p,l,d,ns,[],rfl,X2.lv,λ_=>?_,λr' hist' z=>(by cases z)⟩
   refine i_isi (.bl false) (by simp) (by simp) (bIs (by decide +kernel) ?_)
   exact q ns [] H' ((k1.mono indr).trans s2.kp) X2 (by simp) (.inr (.inr ⟨rfl,rfl⟩)) (.inl (by omega))
  | cons r0 hist0 =>
   obtain⟨rs',a0,rfl,ea0,na0,pr0⟩:=pr.back
   have ne0:(rs'++[V.ref a0]).isEmpty=false:=by simp
   rw[ne0]
   have eqS:∀ {H3 H4:Hp},Kp [pl] H2 H3->H3 pl=some (.lst rs')->Kp [st] H3 H4->H4 st=some (.lst [.ref a0,.ref pl])->LiveAt S C H4 p l d ns (r0::hist0):=λ{H3 H4} k3 e3 k4 e4 =>
    (X2.lv.kp k3 inpl (by simp[n4]) (by simp[n7])).kp k4 inst (by simp[n3]) (by simp[n6])
   refine⟨λσ H'=>(∃ H3,Kp [pl] H2 H3/\H3 pl=some (.lst rs')/\Kp [st] H3 H'/\H' st=some (.lst [.ref a0,.ref pl]))/\σ=[some (.ref dr),some (.ref p),some (.ref st),some (.ref r),some (.ref pl),some (.int way),some (.bl true),none,none,none,none],bT ?_,?_⟩
   ·refine⟨i_tyL (s2 _ _ pa),i_pop (s2 _ _ pa) λH3 k3 e3=>?_⟩
    refine i_set 0 (k3.one n10 (s2 _ _ sa1)) rfl (by simp) λH4 k4 e4=>?_
    exact⟨⟨H3,k3,e3,k4,e4⟩,rfl⟩
   ·rintro σ H4 ⟨⟨H3,k3,e3,k4,e4⟩,rfl⟩
    have L4:=eqS k3 e3 k4 e4
    obtain⟨dx4,ob4⟩:=L4.ob
    refine i_ins ob4 (flds_no l d (by decide +kernel) (by decide +kernel)) ?_
    refine⟨S,p,l,d,ns,r0::hist0,rfl,L4,λz=>(by cases z),λr' hist' z H5 k5 L5=>?_⟩
    obtain⟨rfl,rfl⟩:=List.cons.inj z
    refine i_isi (.bl true) (by simp) (by simp) (bIs (by decide +kernel) ?_)
    have kk:Kp S H2 H5:=((k3.mono inpl).trans (k4.mono inst)).trans (k5.mono inld)
    refine q r0 hist0 H5 (((k1.mono indr).trans s2.kp).trans kk) ⟨L5,?_,⟨a0,k5.two (Ne.symm n3) (Ne.symm n6) e4,kk _ _ na0 (s2 _ _ ea0),na0⟩,⟨rs',k5.two (Ne.symm n4) (Ne.symm n7) (k4.one (Ne.symm n10) e3),?_⟩,X1.rns r0 (by simp),λr' hr'=>X1.rns r' (List.mem_cons_of_mem _ hr'),eS,X.nd⟩ (by simp;omega) (.inr (.inl rfl)) (.inr (by simp))
    ·exact((X2.dw.kp k3 (by simp[n9])).kp k4 (by simp[n8])).kp k5 (by simp[Ne.symm n2,Ne.symm n5])
    ·exact(((pr0.same s2).kp k3 inpl).kp k4 inst).kp k5 inld
 ·have hle:=X.rn.le
  have hge:=X.rn.ne
  refine i_lenI sr1 ⟨dr,1000,rfl,hd1,by decide,λg2 H2 g20 g21 hd2 k2=>?_⟩
  have sr2:=k2.one nrd sr1
  refine i_lenI sr2 ⟨by omega,i_newL (by show 3<=sizeLine;decide) λp3 H3 hp3 s3 e3=>?_⟩
  have hd3:=hd2.same s3
  refine⟨dr,3,rfl,hd3,by decide,λg4 H4 g40 g41 hd4 k4=>?_⟩
  have np3:p3≠dr:=(hd2.ne hp3).symm
  have e4:H4 p3=some (.lst (([0,(ns.length:Int)-1,g2 % (ns.length:Int)]:List Int).map V.int)):=k4.one np3 e3
  refine i_ixI e4 g40 (by simpa using g41) ?_
  have b0:=Int.emod_nonneg g2 (show (ns.length:Int)≠0 by omega)
  have b1:=Int.emod_lt_of_pos g2 (show (0:Int)<ns.length by omega)
  have hm:=atInts (ns:=[0,(ns.length:Int)-1,g2 % (ns.length:Int)]) g40 (by simpa using g41)
  generalize ([0,(ns.length:Int)-1,g2 % (ns.length:Int)]:List Int).getD g4.toNat 0=z at hm
  have hz:0<=z/\z<ns.length:=by
   simp only[List.mem_cons,List.not_mem_nil,or_false] at hm
   omega
  obtain⟨i,rfl⟩:∃ i:Nat,z=(i:Int):=⟨z.toNat,by omega⟩
  have hi:i<ns.length:=by omega
  refine⟨dr,rfl,hd4,λn H5 hn0 hn1 hd5 k5=>?_⟩
  have k15:Kp [dr] H1 H5:=(((k2.same s3).trans k4).trans k5)
  have X5:=X1.drs k15 hd5
  have sr5:=k15.one nrd sr1
  have sa5:=k15.one (Ne.symm n8) sa1
  have kH5:Kp S H H5:=(k1.mono indr).trans (k15.mono indr)
  have go:∀ {H6 H7:Hp} {nl:Addr} {ys:List Int},Both S C H6 dr p l d st pl ns hist->H6 nl=some (.lst (ys.map V.int))->Kp [st] H6 H7->H7 st=some (.lst [.ref nl,.ref pl])->LiveAt S C H7 p l d ns hist/\∀ a∈S,∃ o,H7 a=some o:=λ{H6 H7 nl ys} X6 e6 k7 e7 =>
   ⟨X6.lv.kp k7 inst (by simp[n3]) (by simp[n6]),λa ha=>by
    by_cases hs:a=st
    ·exact⟨_,hs▸e7⟩
    ·obtain⟨o,ho⟩:=X6.al a ha
     exact⟨o,k7.one hs ho⟩⟩
  have frS:∀ {H6:Hp} {a:Addr},Both S C H6 dr p l d st pl ns hist->H6 a=none->a∉S:=λ{H6 a} X6 h z=>by obtain⟨o,ho⟩:=X6.al a z;rw[h] at ho;cases ho
  refine⟨λσ H'=>∃ ns' o6 o7 o8 o9,Kp S H H'/\MidS S C H' dr p l d st pl r ns ns' hist/\ns'.length<=ns.length+1/\σ=[some (.ref dr),some (.ref p),some (.ref st),some (.ref r),some (.ref pl),some (.int way),o6,o7,o8,o9,some .non],?_,?_⟩
  ·
   refine dec2 (λc4=>bT ?c1) (λc4=>i_lenI sr5 (dec2 (λc5=>dec2 (λc6=>?c2) (λc6=>dec2 (λd6=>bT ?p1) (λd6=>i_lenI sr5 (dec2 (λd1=>?p2) (λd1=>?t1))))) (λc5=>bF (dec2 (λd6=>bT ?p3) (λd6=>i_lenI sr5 (dec2 (λd1=>?p4) (λd1=>?t2)))))))
   case c1 | c2 =>
    refine i_sl (SqL.of sr5) λa6 H6 ha6 s6 e6=>?_
    rw[cutV_to ns (by omega)] at e6
    refine i_newL (by show 1<=sizeLine;decide) λa7 H7 ha7 s7 e7=>?_
    refine i_cat (s7 _ _ e6) e7 (sz_of (by simp;omega)) λa8 H8 ha8 s8 e8=>?_
    refine i_sl (SqL.of (s8 _ _ (s7 _ _ (s6 _ _ sr5)))) λa9 H9 ha9 s9 e9=>?_
    rw[show ((i:Int)+1)=((i+1:Nat):Int) by omega,cutV_from ns (by omega)] at e9
    refine i_cat (s9 _ _ e8) e9 (sz_of (by simp;omega)) λnl HA hnl sA eA=>?_
    have s5A:Same H5 HA:=s6.trans (s7.trans (s8.trans (s9.trans sA)))
    have XA:=X5.same s5A
    have eA':HA nl=some (.lst ((ns.take i++[n]++ns.drop (i+1)).map V.int)):=by rw[eA];simp[List.map_append]
    refine i_set 0 (s5A _ _ sa5) rfl (by simp) λHB kB eB=>?_
    obtain⟨LB,alB⟩:=go XA eA' kB eB
    obtain⟨dxB,obB⟩:=LB.ob
    refine i_ins obB (flds_no l d (by decide +kernel) (by decide +kernel)) ?_
    refine⟨S,p,l,d,i,n,ns,hist,rfl,LB,alB,hi,hn0,hh,λHC kC LC=>?_⟩
    obtain⟨M,kM⟩:=mid_mk XA (s5A _ _ sr5) sn (λ_ _ z=>z) eA' (frS (X5.same (s6.trans (s7.trans (s8.trans s9)))) hnl) kB eB kC LC (rown_mk X.rn hn0 hn1 (λx hx=>mem_splice hx) (by simp;omega) (by simp;omega))
    exact⟨_,_,_,_,_,kH5.trans (s5A.kp.trans kM),M,by simp;omega,rfl⟩
   case p1 | p2 | p3 | p4 =>
    have hput:ns.length<120:=by first | omega | (dsimp only at *;omega)
    refine i_lenI sr5 (i_newL (by show 2<=sizeLine;decide) λq3 Ha hq3 sa3 ea3=>?_)
    refine⟨dr,2,rfl,hd5.same sa3,by decide,λg6 Hb g60 g61 hdb kb=>?_⟩
    have nq3:q3≠dr:=(hd5.ne hq3).symm
    have eb:Hb q3=some (.lst (([(i:Int),(ns.length:Int)]:List Int).map V.int)):=kb.one nq3 ea3
    refine i_ixI eb g60 (by simpa using g61) ?_
    have hm2:=atInts (ns:=[(i:Int),(ns.length:Int)]) g60 (by simpa using g61)
    generalize ([(i:Int),(ns.length:Int)]:List Int).getD g6.toNat 0=z2 at hm2
    have hz2:0<=z2/\z2<=ns.length:=by
     simp only[List.mem_cons,List.not_mem_nil,or_false] at hm2
     omega
    obtain⟨j,rfl⟩:∃ j:Nat,z2=(j:Int):=⟨z2.toNat,by omega⟩
    have hj:j<=ns.length:=by omega
    have k5b:Kp [dr] H5 Hb:=sa3.kp.trans kb
    have Xb:=X5.drs k5b hdb
    have srb:=k5b.one nrd sr5
    have sab:=k5b.one (Ne.symm n8) sa5
    have kHb:Kp S H Hb:=kH5.trans (k5b.mono indr)
    refine i_sl (SqL.of srb) λa6 H6 ha6 s6 e6=>?_
    rw[cutV_to ns hj] at e6
    refine i_newL (by show 1<=sizeLine;decide) λa7 H7 ha7 s7 e7=>?_
    refine i_cat (s7 _ _ e6) e7 (sz_of (by simp;omega)) λa8 H8 ha8 s8 e8=>?_
    refine i_sl (SqL.of (s8 _ _ (s7 _ _ (s6 _ _ srb)))) λa9 H9 ha9 s9 e9=>?_
    rw[cutV_from ns hj] at e9
    refine i_cat (s9 _ _ e8) e9 (sz_of (by simp;omega)) λnl HA hnl sA eA=>?_
    have s5A:Same Hb HA:=s6.trans (s7.trans (s8.trans (s9.trans sA)))
    have XA:=Xb.same s5A
    have eA':HA nl=some (.lst ((ns.take j++[n]++ns.drop j).map V.int)):=by rw[eA];simp[List.map_append]
    refine i_set 0 (s5A _ _ sab) rfl (by simp) λHB kB eB=>?_
    obtain⟨LB,alB⟩:=go XA eA' kB eB
    obtain⟨dxB,obB⟩:=LB.ob
    refine i_ins obB (flds_no l d (by decide +kernel) (by decide +kernel)) ?_
    refine⟨S,p,l,d,j,n,ns,hist,rfl,LB,alB,hj,hput,hn0,hh,λHC kC LC=>?_⟩
    obtain⟨M,kM⟩:=mid_mk XA (s5A _ _ srb) sn (λ_ _ z=>z) eA' (frS (Xb.same (s6.trans (s7.trans (s8.trans s9)))) hnl) kB eB kC LC (rown_mk X.rn hn0 hn1 (λx hx=>mem_splice hx) (by simp;omega) (by simp;omega))
    exact⟨_,_,_,_,_,kHb.trans (s5A.kp.trans kM),M,by simp;omega,rfl⟩
   case t1 | t2 =>
    have htake:2<=ns.length:=by have d1':¬ (ns.length:Int)=1:=d1;omega
    refine i_sl (SqL.of sr5) λa6 H6 ha6 s6 e6=>?_
    rw[cutV_to ns (by omega)] at e6
    refine i_sl (SqL.of (s6 _ _ sr5)) λa9 H9 ha9 s9 e9=>?_
    rw[show ((i:Int)+1)=((i+1:Nat):Int) by omega,cutV_from ns (by omega)] at e9
    refine i_cat (s9 _ _ e6) e9 (sz_of (by simp;omega)) λnl HA hnl sA eA=>?_
    have s5A:Same H5 HA:=s6.trans (s9.trans sA)
    have XA:=X5.same s5A
    have eA':HA nl=some (.lst ((ns.take i++ns.drop (i+1)).map V.int)):=by rw[eA];simp[List.map_append]
    refine i_set 0 (s5A _ _ sa5) rfl (by simp) λHB kB eB=>?_
    obtain⟨LB,alB⟩:=go XA eA' kB eB
    obtain⟨dxB,obB⟩:=LB.ob
    refine i_ins obB (flds_no l d (by decide +kernel) (by decide +kernel)) ?_
    refine⟨S,p,l,d,i,ns,hist,rfl,LB,alB,hi,htake,hh,λHC kC LC=>?_⟩
    obtain⟨M,kM⟩:=mid_mk XA (s5A _ _ sr5) sn (λ_ _ z=>z) eA' (frS (X5.same (s6.trans s9)) hnl) kB eB kC LC (rown_mk X.rn hn0 hn1 (λx hx=>.inl ((List.mem_append.mp hx).elim (λz=>List.mem_of_mem_take z) λz=>List.mem_of_mem_drop z)) (by simp;omega) (by simp;omega))
    exact⟨_,_,_,_,_,kH5.trans (s5A.kp.trans kM),M,by simp;omega,rfl⟩
  ·rintro σ H8 ⟨ns',o6,o7,o8,o9,k8,M,hgr,rfl⟩
   obtain⟨rs,pa,pr⟩:=M.pa
   have lrs:=pr.len
   refine⟨i_tyL pa,i_app pa (by unfold sizeLine;omega) λH9 k9 e9=>?_⟩
   refine q ns' (ns::hist) H9 (k8.trans (k9.mono inpl)) ⟨M.lv.kp k9 inpl (by simp[n4]) (by simp[n7]),M.dw.kp k9 (by simp[n9]),?_,⟨_,e9,.snoc (pr.kp k9 inpl) (k9.one (λz=>sn (z▸inpl pl (by simp))) M.hr) sn⟩,M.rn',?_,eS,X.nd⟩ (by simp) (.inl rfl) (.inl hgr)
   ·obtain⟨r',h1,h2,h3⟩:=M.sa
    exact⟨r',k9.one n10 h1,k9.one (λz=>h3 (z▸inpl pl (by simp))) h2,h3⟩
   ·intro r' hr'
    rcases List.mem_cons.mp hr' with rfl | z
    ·exact X.rn
    ·exact X.rns r' z
abbrev zq1b:Stmt:=top 41
theorem zqdk:FnScope ["live","many"] ["live","many"] (defScope zq1b):=⟨rfl,rfl,rfl,by decide +kernel,rfl,by decide +kernel,by decide +kernel⟩
theorem zq4a:Vis (defScope zq1b) "live":=Or.inl (by kernel_rfl)
theorem zq4b:Vis (defScope zq1b) "many":=Or.inl (by kernel_rfl)
def zqe1 {cdv:Value}{A:Around}{outer:List Env}{s:Shared}{H:Hp}{E:XK}(B:Bl mg)(zq2k:Mth P w K mg base 5 C "most_even" ["self","many"] (zq32 C))(zq1p:Mth P w K mg base 5 C "greatest_least" ["self","many"] (zq22 C))(zq1q:Mth P w K mg base 5 C "least_greatest" ["self","many"] (zq21 C))(hr:Room 5 (A.deeper (PyProof.Rows.envOfC "_law_bounds" (defScope zq1b) s.heap.objs.size f cdv))) :
  { t:TS // QB (cxOf CX0 P w K mg base ["live","many"] "_law_bounds" (defScope zq1b) f cdv A outer s H E).nox (defBody zq1b) t } :=
 ⟨_,(qb_one (qs_ret (qe_lst (qa_cons (ke_ix (K:=K) rfl (qe_meth zq1q hr (by decide) (qv 0 rfl zq4a) (qa_cons (qv 1 rfl zq4b) qa_nil)) qe_int (λ_ _=>rfl)) (qa_cons (ke_ix (K:=K) rfl (qe_meth zq1p hr (by decide) (qv 0 rfl zq4a) (qa_cons (qv 1 rfl zq4b) qa_nil)) qe_int (λ_ _=>rfl)) (qa_cons (ke_ix (K:=K) rfl (qe_meth zq2k hr (by decide) (qv 0 rfl zq4a) (qa_cons (qv 1 rfl zq4b) qa_nil)) qe_int (λ_ _=>rfl)) qa_nil))))))⟩
open M3 M50
structure Bd (ns:List Int)(m:Nat)(t u v:Int):Prop where
 gr:GrB ns m t
 le:LeB ns m u
 sq:M25.Least (M25.sq ns) m 0 ns.length v
def zq4p (C:Addr):Sp:=λvs H Q _=>∃ (S:List Addr) (p l d:Addr) (m:Nat) (ns:List Int) (hist:List (List Int)),vs=[.ref p,.int m]/\LiveAt S C H p l d ns hist/\RowN ns/\1<=m/\m<=ns.length /\
 ∀ fo t u v H',H fo=none->Same H H'->H' fo=some (.lst (([t,u,v]:List Int).map V.int))->Bd ns m t u v->Q (.ref fo) H'
theorem zqdl (B:Bl mg)(zq2k:Mth P w K mg base 5 C "most_even" ["self","many"] (zq32 C))(zq1p:Mth P w K mg base 5 C "greatest_least" ["self","many"] (zq22 C))(zq1q:Mth P w K mg base 5 C "least_greatest" ["self","many"] (zq21 C))(F:Fun K "_law_bounds" "_law_bounds" zq1b f fd):FnOk P w K mg base CX0 6 f fd ["live","many"] (zq4p C):=by
 refine F.okq zqdk (λvs H Q E h=>?_) (λcdv A outer s H vs Q E hr h=>?_)
 ·obtain⟨S,p,l,d,m,ns,hist,rfl,_⟩:=h;rfl
 obtain⟨S,p,l,d,m,ns,hist,rfl,L,rn,m1,m2,q⟩:=h
 refine⟨zqe1 B zq2k zq1p zq1q hr,?_⟩
 obtain⟨dx,ob⟩:=L.ob
 refine i_ins ob (flds_no l d (by decide +kernel) (by decide +kernel)) ⟨S,p,l,d,m,ns,hist,rfl,L,rn,m1,m2,λp1 pc1 t cs1 H1 hp1 _ s1 a1=>?_⟩
 refine i_ixT (v:=.int t) 0 (a1.2.1) rfl rfl ?_
 obtain⟨dx1,ob1⟩:=(L.same s1).ob
 refine i_ins ob1 (flds_no l d (by decide +kernel) (by decide +kernel)) ⟨S,p,l,d,m,ns,hist,rfl,L.same s1,rn,m1,m2,λp2 pc2 u cs2 H2 hp2 _ s2 a2=>?_⟩
 refine i_ixT (v:=.int u) 0 (a2.2.1) rfl rfl ?_
 obtain⟨dx2,ob2⟩:=(L.same (s1.trans s2)).ob
 refine i_ins ob2 (flds_no l d (by decide +kernel) (by decide +kernel)) ⟨S,p,l,d,m,ns,hist,rfl,L.same (s1.trans s2),rn,m1,m2,λp3 pc3 v cs3 H3 hp3 _ s3 a3=>?_⟩
 refine i_ixT (v:=.int v) 0 (a3.2.1) rfl rfl ?_
 refine i_newL (by show 3<=sizeLine;decide) λfo H4 hfo s4 e4=>?_
 have s04:=s1.trans (s2.trans s3)
 have hf0:H fo=none:=by
  cases e:H fo with
  | none=>rfl
  | some o=>rw[s04 _ _ e] at hfo;cases hfo
 exact q fo t u v H4 hf0 (s04.trans s4) e4 ⟨(great_iff rn m1 m2 a1.2.2.2.1).1,(least_iff rn m1 m2 a2.2.2.2.1).1,a3.2.2.2.1⟩
theorem gr_uniq {ns:List Int}{m:Nat}{t t':Int}(h:GrB ns m t)(h':GrB ns m t'):t=t':=by
 have:=(h t').mpr ((h' t').mp (Int.le_refl _))
 have:=(h' t).mpr ((h t).mp (Int.le_refl _))
 omega
theorem le_uniq {ns:List Int}{m:Nat}{t t':Int}(h:LeB ns m t)(h':LeB ns m t'):t=t':=by
 have:=(h t').mpr ((h' t').mp (Int.le_refl _))
 have:=(h' t).mpr ((h t).mp (Int.le_refl _))
 omega
theorem Bd.uniq {ns:List Int}{m:Nat}{t u v t' u' v':Int}(h:Bd ns m t u v)(h':Bd ns m t' u' v'):t'=t/\u'=u/\v'=v:=⟨gr_uniq h'.gr h.gr,le_uniq h'.le h.le,h'.sq.uniq h.sq⟩
theorem Bd.change {ns:List Int}{i m:Nat}{y t u v t' u' v':Int}(h0:∀ z∈ns,0<=z)(hi:i<ns.length)(hy:0<=y)(hm:1<=m)(h:Bd ns m t u v)(h':Bd (ns.take i++[y]++ns.drop (i+1)) m t' u' v') :
  (ns[i]<=y->t<=t'/\t'<=t+(y-ns[i])/\u<=u'/\u'<=u+(y-ns[i])/\v<=v')/\(y<ns[i]->t'<=t/\t<=t'+(ns[i]-y)/\u'<=u/\u<=u'+(ns[i]-y)/\v'<=v):=by
 have e:ns=ns.take i++ns[i]::ns.drop (i+1):=by rw[List.getElem_cons_drop,List.take_append_drop]
 rw[List.append_assoc,List.singleton_append] at h'
 generalize ns[i]=x at e ⊢
 generalize ns.take i=A at e h'
 generalize ns.drop (i+1)=B at e h'
 subst e
 refine⟨λhxy=>?_,λhxy=>?_⟩
 ·obtain⟨a1,a2⟩:=gr_up h0 hxy h.gr h'.gr
  obtain⟨b1,b2⟩:=le_up h0 hxy hm h.le h'.le
  exact⟨a1,a2,b1,b2,sq_up h0 hxy h.sq h'.sq⟩
 ·have h0':∀ z∈A++y::B,0<=z:=λz hz=>by
   rcases mem_mid.mp hz with w | w | w
   ·exact h0 z (mem_mid.mpr (.inl w))
   ·omega
   ·exact h0 z (mem_mid.mpr (.inr (.inr w)))
  have hyx:y<=x:=by omega
  obtain⟨a1,a2⟩:=gr_up h0' hyx h'.gr h.gr
  obtain⟨b1,b2⟩:=le_up h0' hyx hm h'.le h.le
  exact⟨a1,a2,b1,b2,sq_up h0' hyx h'.sq h.sq⟩
theorem Bd.front {ns:List Int}{m:Nat}{t u v t' u' v':Int}(h0:∀ z∈ns,0<=z)(h1:1<=m)(hm:m<=ns.length)(h:Bd ns m t u v)(h':Bd (ns.take 0++[0]++ns.drop 0) m t' u' v'):t'=t/\u'=u/\v'=v:=by
 have e:ns.take 0++[0]++ns.drop 0=0::ns:=by simp
 rw[e] at h'
 exact⟨gr_front h0 (λz=>by rw[z] at hm;simp at hm;omega) h.gr h'.gr,le_front h0 hm h.le h'.le,sq_front h0 h1 hm h.sq h'.sq⟩
theorem Bd.behind {ns:List Int}{m:Nat}{t u v t' u' v':Int}(h0:∀ z∈ns,0<=z)(h1:1<=m)(hm:m<=ns.length)(h:Bd ns m t u v)(h':Bd (ns.take ns.length++[0]++ns.drop ns.length) m t' u' v'):t'=t/\u'=u/\v'=v:=by
 have e:ns.take ns.length++[0]++ns.drop ns.length=ns++[0]:=by simp
 rw[e] at h'
 refine⟨gr_end h0 (λz=>by rw[z] at hm;simp at hm;omega) h.gr h'.gr,le_end h0 hm h.le h'.le,?_⟩
 have:=h'.sq
 rw[List.length_append] at this
 exact sq_end h0 h1 hm h.sq this
abbrev zq3:Stmt:=top 42
theorem zq1m:FnScope ["draws","live","row","many","at","number","early","late","apart","pairs","end"] ["draws","live","row"] (defScope zq3):=⟨rfl,rfl,rfl,by decide +kernel,rfl,by decide +kernel,by decide +kernel⟩
theorem zqas:Loc (defScope zq3) "apart":=Or.inr (by kernel_rfl)
theorem zqd1:Loc (defScope zq3) "at":=Or.inl (by kernel_rfl)
theorem zqat:Loc (defScope zq3) "early":=Or.inl (by kernel_rfl)
theorem zqcd:Loc (defScope zq3) "end":=Or.inl (by kernel_rfl)
theorem zqbf:Loc (defScope zq3) "late":=Or.inl (by kernel_rfl)
theorem zqbg:Loc (defScope zq3) "many":=Or.inl (by kernel_rfl)
theorem zqa3:Loc (defScope zq3) "number":=Or.inl (by kernel_rfl)
theorem zq6y:Loc (defScope zq3) "pairs":=Or.inl (by kernel_rfl)
theorem zq5u:Vis (defScope zq3) "at":=Or.inl (by kernel_rfl)
theorem zq4c:Vis (defScope zq3) "draws":=Or.inl (by kernel_rfl)
theorem zq35:Vis (defScope zq3) "early":=Or.inl (by kernel_rfl)
theorem zqce:Vis (defScope zq3) "end":=Or.inl (by kernel_rfl)
theorem zq7c:Vis (defScope zq3) "late":=Or.inl (by kernel_rfl)
theorem zq14:Vis (defScope zq3) "live":=Or.inl (by kernel_rfl)
theorem zq3m:Vis (defScope zq3) "many":=Or.inl (by kernel_rfl)
theorem zq3z:Vis (defScope zq3) "number":=Or.inl (by kernel_rfl)
theorem zq6z:Vis (defScope zq3) "pairs":=Or.inl (by kernel_rfl)
theorem zq27:Vis (defScope zq3) "row":=Or.inl (by kernel_rfl)
theorem zq1w:(defScope zq3).names.lookup ("_law_bounds":Str)=some NameKind.globalImplicit:=by kernel_rfl
theorem zq7m:(defScope zq3).names.lookup ("_law_number":Str)=some NameKind.globalImplicit:=by kernel_rfl
theorem zq7n:(defScope zq3).names.lookup ("_law_pieces":Str)=some NameKind.globalImplicit:=by kernel_rfl
theorem zq8s:(defScope zq3).names.lookup ("_law_take":Str)=some NameKind.globalImplicit:=by kernel_rfl
theorem zqcf:(defScope zq3).names.lookup ("abs":Str)=some NameKind.globalImplicit:=by kernel_rfl
theorem zq7r:(defScope zq3).names.lookup ("len":Str)=some NameKind.globalImplicit:=by kernel_rfl
theorem zq7d:(defScope zq3).names.lookup ("list":Str)=some NameKind.globalImplicit:=by kernel_rfl
theorem zq7s:(defScope zq3).names.lookup ("zip":Str)=some NameKind.globalImplicit:=by kernel_rfl
def zqem {cdv:Value}{A:Around}{outer:List Env}{s:Shared}{H:Hp}{E:XK}(B:Bl mg)(zq40:Def P w K mg base 2 "_law_pieces" ["draws","row"] zq4n)(zq0:Def P w K mg base 1 "_law_take" ["draws","many"] zq11)(zq1l:Def P w K mg base 2 "_law_number" ["draws"] zq2p)(zq25:Def P w K mg base 6 "_law_bounds" ["live","many"] (zq4p C))(zq1e:Mth P w K mg base 4 C "change" ["self","place","number"] (zq2d C))(zq1k:Mth P w K mg base 1 C "undo" ["self"] (zq39 C))(zq23:Mth P w K mg base 4 C "put" ["self","place","number"] (zq3q C))(zq5l:Mth P w K mg base 1 C "row" ["self"] (zq5v C))(hr:Room 6 (A.deeper (PyProof.Rows.envOfC "_law_right" (defScope zq3) s.heap.objs.size f cdv))) :
  { t:TS // QB (cxOf CX0 P w K mg base ["draws","live","row","many","at","number","early","late","apart","pairs","end"] "_law_right" (defScope zq3) f cdv A outer s H E).nox (defBody zq3) t } :=
 ⟨_,(qb_cons (qs_set (i:=3) zq1m.nd rfl zqbg (.inl rfl) (qe_def zq40 hr (by decide) zq7n (qa_cons (qv 0 rfl zq4c) (qa_cons (qv 2 rfl zq27) qa_nil))))
  (qb_cons (qs_set (i:=4) zq1m.nd rfl zqd1 (.inl rfl) (qe_op opMod (qe_def zq0 hr (by decide) zq8s (qa_cons (qv 0 rfl zq4c) (qa_cons qe_int qa_nil))) (qe_cB (kLen (K:=K) rfl) zq7r B.len boot_len' (qa_cons (qv 2 rfl zq27) qa_nil))))
  (qb_cons (qs_set (i:=5) zq1m.nd rfl zqa3 (.inl rfl) (qe_def zq1l hr (by decide) zq7m (qa_cons (qv 0 rfl zq4c) qa_nil)))
  (qb_cons (qs_set (i:=6) zq1m.nd rfl zqat (.inl rfl) (qe_def zq25 hr (by decide) zq1w (qa_cons (qv 1 rfl zq14) (qa_cons (qv 3 rfl zq3m) qa_nil))))
  (qb_cons (qs_ex (qe_meth zq1e hr (by decide) (qv 1 rfl zq14) (qa_cons (qv 4 rfl zq5u) (qa_cons (qv 5 rfl zq3z) qa_nil))))
  (qb_cons (qs_set (i:=7) zq1m.nd rfl zqbf (.inl rfl) (qe_def zq25 hr (by decide) zq1w (qa_cons (qv 1 rfl zq14) (qa_cons (qv 3 rfl zq3m) qa_nil))))
  (qb_cons (qs_set (i:=8) zq1m.nd rfl zqas (.inl rfl) (qe_cB (callAbs) zqcf B.abs boot_abs' (qa_cons (qe_op opSub (qv 5 rfl zq3z) (ke_ix (K:=K) rfl (qv 2 rfl zq27) (qv 4 rfl zq5u) (λ_ _=>rfl))) qa_nil)))
  (qb_cons (qs_set (i:=9) zq1m.nd rfl zq6y (.inl rfl) (ke_zipL (K:=K) rfl rfl zq7d B.list zq7s B.zip (qa_cons (qv 6 rfl zq35) (qa_cons (qv 7 rfl zq7c) qa_nil))))
  (qb_mid (qs_if (qt_cmp opLt (qv 5 rfl zq3z) (ke_ix (K:=K) rfl (qv 2 rfl zq27) (qv 4 rfl zq5u) (λ_ _=>rfl))) (qb_one (qs_set (i:=9) zq1m.nd rfl zq6y (.inl rfl) (ke_zipL (K:=K) rfl rfl zq7d B.list zq7s B.zip (qa_cons (qv 7 rfl zq7c) (qa_cons (qv 6 rfl zq35) qa_nil))))) qb_nil)
  (qb_cons (qs_if (QW.pt (qw_or (qt_cmp (kNeG (K:=K) rfl hr) (qe_cp ["less","more"] [none,none] rfl (ki_list (K:=K) rfl (qv 9 rfl zq6z)) (λ_ _ _ _ _ _=>(kg_tup (K:=K) rfl rfl (qgs_cons (qg_name (i:=0) (show (["less","more"]:List Str).Nodup by decide +kernel) rfl (by first | exact Or.inl rfl | exact Or.inr rfl) (by first | exact .inl rfl | exact .inr rfl)) (qgs_cons (qg_name (i:=1) (show (["less","more"]:List Str).Nodup by decide +kernel) rfl (by first | exact Or.inl rfl | exact Or.inr rfl) (by first | exact .inl rfl | exact .inr rfl)) qgs_nil)))) (λ_ _ _ _ _ _=>qif_one (qt_cmp opGt (qv 0 rfl (by first | exact Or.inl rfl | exact Or.inr (Or.inl rfl) | exact Or.inr (Or.inr rfl))) (qv 1 rfl (by first | exact Or.inl rfl | exact Or.inr (Or.inl rfl) | exact Or.inr (Or.inr rfl))))) (λ_ _ _ _ _ _=>qe_int)) (qe_lst qa_nil)) (qw_or1 (qt_cmp (kNeG (K:=K) rfl hr) (qe_cp ["less","more","apart"] [none,none,some 8] rfl (ki_list (K:=K) rfl (ke_slice (K:=K) rfl (qv 9 rfl zq6z) qo_none (qo_some qe_int))) (λ_ _ _ _ _ _=>(kg_tup (K:=K) rfl rfl (qgs_cons (qg_name (i:=0) (show (["less","more","apart"]:List Str).Nodup by decide +kernel) rfl (by first | exact Or.inl rfl | exact Or.inr rfl) (by first | exact .inl rfl | exact .inr rfl)) (qgs_cons (qg_name (i:=1) (show (["less","more","apart"]:List Str).Nodup by decide +kernel) rfl (by first | exact Or.inl rfl | exact Or.inr rfl) (by first | exact .inl rfl | exact .inr rfl)) qgs_nil)))) (λ_ _ _ _ _ _=>qif_one (qt_cmp opGt (qv 1 rfl (by first | exact Or.inl rfl | exact Or.inr (Or.inl rfl) | exact Or.inr (Or.inr rfl))) (qe_op opAdd (qv 0 rfl (by first | exact Or.inl rfl | exact Or.inr (Or.inl rfl) | exact Or.inr (Or.inr rfl))) (qv 2 rfl (by first | exact Or.inl rfl | exact Or.inr (Or.inl rfl) | exact Or.inr (Or.inr rfl)))))) (λ_ _ _ _ _ _=>qe_int)) (qe_lst qa_nil))))) (qb_one (qs_ret qe_bl)) qb_nil)
  (qb_cons (qs_ex (qe_meth0 zq1k hr (by decide) (qv 1 rfl zq14)))
  (qb_mid (qs_for PassesOwn.never rfl (ki_list (K:=K) rfl (qe_lst (qa_cons qe_int (qa_cons (qe_cB (kLen (K:=K) rfl) zq7r B.len boot_len' (qa_cons (qv 2 rfl zq27) qa_nil)) qa_nil)))) (qg_name (i:=10) zq1m.nd rfl zqcd (.inl rfl)) (qb_cons (qs_ex (qe_meth zq23 hr (by decide) (qv 1 rfl zq14) (qa_cons (qv 10 rfl zqce) (qa_cons qe_int qa_nil))))
  (qb_one (qs_if (QW.pt (qw_or (qt_cmp (kNeG (K:=K) rfl hr) (qe_def zq25 hr (by decide) zq1w (qa_cons (qv 1 rfl zq14) (qa_cons (qv 3 rfl zq3m) qa_nil))) (qv 6 rfl zq35)) (qw_or1 (qt_cmp opIsNotG (qe_meth0 zq1k hr (by decide) (qv 1 rfl zq14)) qe_bl)))) (qb_one (qs_ret qe_bl)) qb_nil))))
  (qb_one (qs_ret (ke_and (K:=K) rfl (qe_cmp (kEqG (K:=K) rfl hr) (qe_def zq25 hr (by decide) zq1w (qa_cons (qv 1 rfl zq14) (qa_cons (qv 3 rfl zq3m) qa_nil))) (qv 6 rfl zq35)) (qe_one (qe_cmp (kEqG (K:=K) rfl hr) (qe_meth0 zq5l hr (by decide) (qv 1 rfl zq14)) (qv 2 rfl zq27))))))))))))))))))⟩
def zq5m (C:Addr):Sp:=λvs H Q _=>∃ (S:List Addr) (dr p l d r:Addr) (ns:List Int) (hist:List (List Int)),vs=[.ref dr,.ref p,.ref r]/\LiveAt S C H p l d ns hist/\DrawsAt H dr/\H r=some (.lst (ns.map V.int))/\RowN ns/\r∉S/\dr∈S/\l≠dr/\d≠dr/\(∀ a∈S,∃ o,H a=some o)/\ns.length<120/\hist.length<=1000 /\
 ∀ H',Kp [l,d,dr] H H'->LiveAt S C H' p l d ns hist->DrawsAt H' dr->Q (.bl true) H'
structure Prs (H:Hp)(D:Addr)(ap:Int):Prop where
 ex:∃ (as:List Addr) (ls ms:List Int),H D=some (.lst (as.map V.ref))/\as.length=3/\(∀ (j:Nat) (b:Addr),as[j]?=some b->∃ x y:Int,H b=some (.tup [.int x,.int y])/\x<=y/\(j<2->y<=x+ap))
theorem prs_mk {H:Hp}{D:Addr}{as:List Addr}{t u v t' u' v' ap:Int}(e:H D=some (.lst (as.map V.ref)))(hl:as.length=3)(h:∀ (j:Nat) (x y:V),(([t,u,v]:List Int).map V.int)[j]?=some x->(([t',u',v']:List Int).map V.int)[j]?=some y->∃ b,as[j]?=some b/\H b=some (.tup [x,y]))(h1:t<=t'/\t'<=t+ap)(h2:u<=u'/\u'<=u+ap)(h3:v<=v'):Prs H D ap:=by
 refine⟨as,[],[],e,hl,λj b hb=>?_⟩
 have hj:j<3:=by have:=(List.getElem?_eq_some_iff.mp hb).1;omega
 match j,hj with
 | 0,_=>obtain⟨c,hc,ec⟩:=h 0 _ _ rfl rfl;rw[hb] at hc;cases hc;exact⟨t,t',ec,h1.1,λ_=>h1.2⟩
 | 1,_=>obtain⟨c,hc,ec⟩:=h 1 _ _ rfl rfl;rw[hb] at hc;cases hc;exact⟨u,u',ec,h2.1,λ_=>h2.2⟩
 | 2,_=>obtain⟨c,hc,ec⟩:=h 2 _ _ rfl rfl;rw[hb] at hc;cases hc;exact⟨v,v',ec,h3,λz=>absurd z (by omega)⟩
theorem zqe2 (B:Bl mg)(zq40:Def P w K mg base 2 "_law_pieces" ["draws","row"] zq4n)(zq0:Def P w K mg base 1 "_law_take" ["draws","many"] zq11)(zq1l:Def P w K mg base 2 "_law_number" ["draws"] zq2p)(zq25:Def P w K mg base 6 "_law_bounds" ["live","many"] (zq4p C))(zq1e:Mth P w K mg base 4 C "change" ["self","place","number"] (zq2d C))(zq1k:Mth P w K mg base 1 C "undo" ["self"] (zq39 C))(zq23:Mth P w K mg base 4 C "put" ["self","place","number"] (zq3q C))(zq5l:Mth P w K mg base 1 C "row" ["self"] (zq5v C))(F:Fun K "_law_right" "_law_right" zq3 f fd):FnOk P w K mg base CX0 7 f fd ["draws","live","row"] (zq5m C):=by
 refine F.okq zq1m (λvs H Q E h=>?_) (λcdv A outer s H vs Q E hr h=>?_)
 ·obtain⟨S,dr,p,l,d,r,ns,hist,rfl,_⟩:=h;rfl
 obtain⟨S,dr,p,l,d,r,ns,hist,rfl,L,hd,hr0,rn,rS,drS,nl,nd,al,hlt,hh,q⟩:=h
 refine⟨zqem B zq40 zq0 zq1l zq25 zq1e zq1k zq23 zq5l hr,?_⟩
 have hle:=rn.le
 have hge:=rn.ne
 have nr:r≠dr:=λz=>rS (z▸drS)
 have indr:∀ a∈[dr],a∈S:=by intro a ha;simp at ha;exact ha▸drS
 refine⟨dr,r,ns,rfl,hd,hr0,nr,hge,by omega,λm H1 m1 m2 hd1 k1=>?_⟩
 have r1:=k1.one nr hr0
 refine⟨dr,1000,rfl,hd1,by decide,λg H2 g0 g1 hd2 k2=>?_⟩
 have r2:=k2.one nr r1
 refine i_lenI r2 ⟨by omega,?_⟩
 have b0:=Int.emod_nonneg g (show (ns.length:Int)≠0 by omega)
 have b1:=Int.emod_lt_of_pos g (show (0:Int)<ns.length by omega)
 refine⟨dr,rfl,hd2,λn H3 hn0 hn1 hd3 k3=>?_⟩
 have k03:Kp [dr] H H3:=(k1.trans k2).trans k3
 have r3:=k3.one nr r2
 have L3:LiveAt S C H3 p l d ns hist:=L.kp k03 indr (by simp[nl]) (by simp[nd])
 generalize g % (ns.length:Int)=z at b0 b1
 obtain⟨i,rfl⟩:∃ i:Nat,z=(i:Int):=⟨z.toNat,by omega⟩
 have hi:i<ns.length:=by omega
 have al3:∀ a∈S,∃ o,H3 a=some o:=λa ha=>by
  by_cases z:a=dr
  ·obtain⟨ds,q',_⟩:=hd3;exact⟨_,z▸q'⟩
  ·obtain⟨o,ho⟩:=al a ha;exact⟨o,k03.one z ho⟩
 refine⟨S,p,l,d,m,ns,hist,rfl,L3,rn,m1,m2,λea t u v H4 hea s4 e4 bd=>?_⟩
 have L4:=L3.same s4
 obtain⟨dx4,ob4⟩:=L4.ob
 refine i_ins ob4 (flds_no l d (by decide +kernel) (by decide +kernel)) ⟨S,p,l,d,i,n,ns,hist,rfl,L4,λa ha=>let ⟨o,ho⟩:=al3 a ha;⟨o,s4 _ _ ho⟩,hi,hn0,by omega,λH5 k5 L5=>?_⟩
 have rnc:RowN (ns.take i++[n]++ns.drop (i+1)):=rown_mk rn hn0 hn1 (λx hx=>mem_splice hx) (by simp;omega) (by simp;omega)
 have hcl:(ns.take i++[n]++ns.drop (i+1)).length=ns.length:=by simp;omega
 refine⟨S,p,l,d,m,_,ns::hist,rfl,L5,rnc,m1,by omega,λeb t' u' v' H6 heb s6 e6 bd'=>?_⟩
 have e6a:=s6 _ _ (k5.two (λz=>by obtain⟨o,ho⟩:=al3 l L3.lS;rw[z] at hea;rw[hea] at ho;cases ho) (λz=>by obtain⟨o,ho⟩:=al3 d L3.dS;rw[z] at hea;rw[hea] at ho;cases ho) e4)
 have nrl:r≠l:=λz=>rS (z▸L.lS)
 have nrd:r≠d:=λz=>rS (z▸L.dS)
 have r6:=s6 _ _ (k5.two nrl nrd (s4 _ _ r3))
 have ex:ns.getD ((i:Nat):Int).toNat 0=ns[i]:=by rw[Int.toNat_natCast,List.getD_eq_getElem?_getD,List.getElem?_eq_getElem hi];rfl
 obtain⟨up,dn⟩:=Bd.change rn.nn hi hn0 m1 bd bd'
 refine i_ixI r6 (by omega) (by omega) ?_
 rw[ex]
 generalize ns[i]=x0 at up dn ex
 dsimp only[vSub,tNil,vAbs,gName,tSeq,tAsg]
 refine i_zipL (SqL.of e6a) (SqL.of e6) rfl λD1 as1 H7 s7 hD1 eD1 la1 pr1=>?_
 refine⟨λσ H'=>Same H6 H'/\∃ D,Prs H' D (if n-x0<0 then -(n-x0) else n-x0)/\σ=[some (.ref dr),some (.ref p),some (.ref r),some (.int m),some (.int i),some (.int n),some (.ref ea),some (.ref eb),some (.int (if n-x0<0 then -(n-x0) else n-x0)),some (.ref D),none],?_,?_⟩
 ·refine i_ixI (s7 _ _ r6) (by omega) (by omega) ?_
  rw[ex]
  refine dec2 (λc=>?_) (λc=>?_)
  ·refine i_zipL (SqL.of (s7 _ _ e6)) (SqL.of (s7 _ _ e6a)) rfl λD2 as2 H8 s8 hD2 eD2 la2 pr2=>?_
   have c':n<x0:=c
   obtain⟨a1,a2,a3,a4,a5⟩:=dn c'
   refine⟨s7.trans s8,D2,prs_mk eD2 la2 pr2 ⟨a1,?_⟩ ⟨a3,?_⟩ a5,rfl⟩
   ·rw[if_pos (by omega)];omega
   ·rw[if_pos (by omega)];omega
  ·have c':¬ n<x0:=c
   obtain⟨a1,a2,a3,a4,a5⟩:=up (by omega)
   refine⟨s7,D1,prs_mk eD1 la1 pr1 ⟨a1,?_⟩ ⟨a3,?_⟩ a5,rfl⟩
   ·rw[if_neg (by omega)];omega
   ·rw[if_neg (by omega)];omega
 rintro σ H8 ⟨s8,D,pr,rfl⟩
 generalize (if n-x0<0 then -(n-x0) else n-x0)=ap at pr
 obtain⟨as,_,_,eD,la,hpr⟩:=pr.ex
 refine⟨⟨_,SqL.of eD⟩,comp_lst (as.map V.ref) (λi D σ H' ys=>ys=[]/\Same H8 H'/\∃ o1 o2,σ=[o1,o2]) ?_ ?_ ?_ ?_⟩
 ·exact λD H' _ s' _=>⟨rfl,s',_,_,rfl⟩
 ·exact λi D σ H' ys _ ⟨_,s',_⟩=>SqL.of (s' _ _ eD)
 ·rintro i x D σ H' ys hx hD ⟨rfl,s',o1,o2,rfl⟩ eD'
  rw[List.getElem?_map] at hx
  cases hb:as[i]? with
  | none=>rw[hb] at hx;cases hx
  | some b =>
   rw[hb] at hx;cases hx
   obtain⟨x1,y1,eb1,hxy,hap⟩:=hpr i b hb
   exact i_unp (s' _ _ eb1) rfl (dNo (by omega) ⟨eD',rfl,s',_,_,rfl⟩)
 ·rintro DD σ H9 ys hDD ⟨rfl,s9,_⟩ e9
  refine i_newL (by show 0<=sizeLine;decide) λn1 HA hn1 sA eA=>i_eqI (ns:=[]) (ms:=[]) (SqL.of (sA _ _ e9)) (SqL.of eA) (bF ?_)
  have s8A:=s9.trans sA
  refine i_sl (SqL.of (s8A _ _ eD)) λc1 HB hc1 sB eB=>?_
  have ecut:cutV (as.map V.ref) none (some 2)=(as.take 2).map V.ref:=by
   match as,la with
   | [_,_,_],_=>rfl
  rw[ecut] at eB
  refine⟨⟨_,SqL.of eB⟩,comp_lst ((as.take 2).map V.ref) (λi D σ H' ys=>ys=[]/\Same HB H'/\∃ o1 o2,σ=[o1,o2,some (.int ap)]) ?_ ?_ ?_ ?_⟩
  ·exact λD H' _ s' _=>⟨rfl,s',_,_,rfl⟩
  ·exact λi D σ H' ys _ ⟨_,s',_⟩=>SqL.of (s' _ _ eB)
  ·rintro i x D σ H' ys hx hD ⟨rfl,s',o1,o2,rfl⟩ eD'
   rw[List.getElem?_map] at hx
   cases hb:(as.take 2)[i]? with
   | none=>rw[hb] at hx;cases hx
   | some b =>
    rw[hb] at hx;cases hx
    have hj:i<2:=by have:=(List.getElem?_eq_some_iff.mp hb).1;rw[List.length_take] at this;omega
    rw[List.getElem?_take_of_lt hj] at hb
    obtain⟨x1,y1,eb1,hxy,hap⟩:=hpr i b hb
    have:=hap hj
    exact i_unp (s' _ _ (sB _ _ (s8A _ _ eb1))) rfl (dNo (by omega) ⟨eD',rfl,s',_,_,rfl⟩)
  ·rintro D2 σ HC ys hD2 ⟨rfl,sC,_⟩ eC
   refine i_newL (by show 0<=sizeLine;decide) λn2 HD hn2 sD eD'=>i_eqI (ns:=[]) (ms:=[]) (SqL.of (sD _ _ eC)) (SqL.of eD') (bF ?_)
   have s5D:Same H5 HD:=((s6.trans s8).trans s8A).trans (sB.trans (sC.trans sD))
   have s6D:Same H6 HD:=s8.trans (s8A.trans (sB.trans (sC.trans sD)))
   have LD:=L5.same s5D
   obtain⟨dxD,obD⟩:=LD.ob
   refine i_ins obD (flds_no l d (by decide +kernel) (by decide +kernel)) ⟨S,p,l,d,_,ns::hist,rfl,LD,λz=>(by cases z),λr' hist' z HE kE LE=>?_⟩
   obtain⟨rfl,rfl⟩:=List.cons.inj z
   have nel:ea≠l:=λz=>by obtain⟨o,ho⟩:=al3 l L3.lS;rw[z] at hea;rw[hea] at ho;cases ho
   have ned:ea≠d:=λz=>by obtain⟨o,ho⟩:=al3 d L3.dS;rw[z] at hea;rw[hea] at ho;cases ho
   have alk:∀ {HX HY:Hp} {ks:List Int} {hs:List (List Int)},(∀ a∈S,∃ o,HX a=some o)->Kp [l,d] HX HY->LiveAt S C HY p l d ks hs->∀ a∈S,∃ o,HY a=some o:=λ{HX HY ks hs} al' k' L' a ha=>by
    by_cases z:a=l
    ·exact⟨_,z▸L'.nums⟩
    ·by_cases y:a=d
     ·obtain⟨x',q',_⟩:=L'.dn;exact⟨_,y▸q'⟩
     ·obtain⟨o,ho⟩:=al' a ha;exact⟨o,k'.two z y ho⟩
   have alE:∀ a∈S,∃ o,HE a=some o:=alk (λa ha=>by obtain⟨o,ho⟩:=alk (λa ha=>by obtain⟨o,ho⟩:=al3 a ha;exact⟨o,s4 _ _ ho⟩) k5 L5 a ha;exact⟨o,s5D _ _ ho⟩) kE LE
   have inl:∀ a∈[l,d],a∈[l,d,dr]:=by intro a ha;simp at ha ⊢;rcases ha with h | h<;>simp[h]
   have ind:∀ a∈[dr],a∈[l,d,dr]:=by intro a ha;simp at ha ⊢;simp[ha]
   have kHE:Kp [l,d,dr] H HE:=((((k03.mono ind).same s4).trans (k5.mono inl)).same s5D).trans (kE.mono inl)
   have hdE:DrawsAt HE dr:=(((hd3.same s4).kp k5 (by simp[Ne.symm nl,Ne.symm nd])).same s5D).kp kE (by simp[Ne.symm nl,Ne.symm nd])
   have rE:=kE.two nrl nrd (s6D _ _ r6)
   have eE:=kE.two nel ned (s6D _ _ e6a)
   refine⟨λσ H'=>(LiveAt S C H' p l d ns hist/\Kp [l,d,dr] H H'/\DrawsAt H' dr/\H' r=some (.lst (ns.map V.int))/\H' ea=some (.lst (([t,u,v]:List Int).map V.int)))/\∃ o10,σ=[some (.ref dr),some (.ref p),some (.ref r),some (.int m),some (.int i),some (.int n),some (.ref ea),some (.ref eb),some (.int ap),some (.ref D),o10],?_,?_⟩
   ·refine i_lenI rE (i_newL (by show 2<=sizeLine;decide) λen HF hen sF eF=>?_)
    have nen:en≠l/\en≠d:=⟨λz=>(by rw[z,LE.nums] at hen;cases hen),λz=>(by obtain⟨x',q',_⟩:=LE.dn;rw[z,q'] at hen;cases hen)⟩
    refine⟨⟨_,SqL.of eF⟩,for_list (xs:=[.int 0,.int (ns.length:Int)]) (λ_ σ H'=>((LiveAt S C H' p l d ns hist/\Kp [l,d,dr] H H'/\DrawsAt H' dr/\H' r=some (.lst (ns.map V.int))/\H' ea=some (.lst (([t,u,v]:List Int).map V.int)))/\H' en=some (.lst [.int 0,.int (ns.length:Int)])/\∀ a∈S,∃ o,H' a=some o)/\∃ o10,σ=[some (.ref dr),some (.ref p),some (.ref r),some (.int m),some (.int i),some (.int n),some (.ref ea),some (.ref eb),some (.int ap),some (.ref D),o10]) ?_ ?_ ?_ ?_⟩
    ·exact⟨⟨⟨LE.same sF,kHE.same sF,hdE.same sF,sF _ _ rE,sF _ _ eE⟩,eF,λa ha=>let ⟨o,ho⟩:=alE a ha;⟨o,sF _ _ ho⟩⟩,_,rfl⟩
    ·rintro k σ H' _ ⟨⟨_,e',_⟩,_⟩
     exact SqL.of e'
    ·rintro k x σ HG hx ⟨⟨⟨LG,kG,hdG,rG,eG⟩,enG,alG⟩,o10,rfl⟩
     obtain⟨j,rfl,hj⟩:∃ j:Nat,x=.int (j:Int)/\(j=0\/j=ns.length):=by
      match k,hx with
      | 0,hx=>cases hx;exact⟨0,rfl,.inl rfl⟩
      | 1,hx=>cases hx;exact⟨ns.length,rfl,.inr rfl⟩
     obtain⟨dxG,obG⟩:=LG.ob
     refine i_ins obG (flds_no l d (by decide +kernel) (by decide +kernel)) ⟨S,p,l,d,j,0,ns,hist,rfl,LG,alG,by omega,hlt,by decide,by omega,λHI kI LI=>?_⟩
     have rnz:RowN (ns.take j++[0]++ns.drop j):=rown_mk rn (by decide) (by decide) (λx hx=>mem_splice hx) (by simp;omega) (by simp;omega)
     refine⟨S,p,l,d,m,_,ns::hist,rfl,LI,rnz,m1,by simp;omega,λfo t1 u1 v1 HJ hfo sJ eJ bd1=>?_⟩
     have eqs:t1=t/\u1=u/\v1=v:=by
      rcases hj with rfl | rfl
      ·exact Bd.front rn.nn m1 m2 bd bd1
      ·exact Bd.behind rn.nn m1 m2 bd bd1
     obtain⟨rfl,rfl,rfl⟩:=eqs
     refine i_eqI (ns:=[t1,u1,v1]) (ms:=[t1,u1,v1]) (SqL.of eJ) (SqL.of (sJ _ _ (kI.two nel ned eG))) (bNo (by simp) ?_)
     obtain⟨dxJ,obJ⟩:=(LI.same sJ).ob
     refine i_ins obJ (flds_no l d (by decide +kernel) (by decide +kernel)) ⟨S,p,l,d,_,ns::hist,rfl,LI.same sJ,λz=>(by cases z),λr' hist' z HL kL LL=>?_⟩
     obtain⟨rfl,rfl⟩:=List.cons.inj z
     have kGL:Kp [l,d] HG HL:=(kI.same sJ).trans kL
     exact bF ⟨⟨⟨LL,kG.trans (kGL.mono inl),hdG.kp kGL (by simp[Ne.symm nl,Ne.symm nd]),kGL.two nrl nrd rG,kGL.two nel ned eG⟩,kGL.two nen.1 nen.2 enG,alk alG kGL LL⟩,_,rfl⟩
    ·rintro σ H' ⟨⟨z,_⟩,o10,rfl⟩
     exact⟨z,_,rfl⟩
   ·rintro σ HG ⟨⟨LG,kG,hdG,rG,eG⟩,o10,rfl⟩
    refine⟨S,p,l,d,m,ns,hist,rfl,LG,rn,m1,m2,λfo t1 u1 v1 HJ hfo sJ eJ bd1=>?_⟩
    obtain⟨rfl,rfl,rfl⟩:=Bd.uniq bd bd1
    refine i_eqI (ns:=[t1,u1,v1]) (ms:=[t1,u1,v1]) (SqL.of eJ) (SqL.of (sJ _ _ eG)) (bIs (by simp) ?_)
    obtain⟨dxJ,obJ⟩:=(LG.same sJ).ob
    refine i_ins obJ (flds_no l d (by decide +kernel) (by decide +kernel)) ⟨S,p,l,d,ns,hist,rfl,LG.same sJ,λtt HK htt sK eK=>?_⟩
    have qq:=q HK ((kG.same sJ).same sK) ((LG.same sJ).same sK) ((hdG.same sJ).same sK)
    exact i_eqI (ns:=ns) (ms:=ns) (SqL.of eK) (SqL.of (sK _ _ (sJ _ _ rG))) (show Q (.bl (id (decide (ns=ns)))) HK from by rw[decide_eq_true rfl];exact qq)
abbrev zq13:Stmt:=top 43
theorem zq6e:FnScope ["script","draws","row","live","state","many","turn"] ["script"] (defScope zq13):=⟨rfl,rfl,rfl,by decide +kernel,rfl,by decide +kernel,by decide +kernel⟩
theorem zqen:Loc (defScope zq13) "draws":=Or.inl (by kernel_rfl)
theorem zqex:Loc (defScope zq13) "live":=Or.inl (by kernel_rfl)
theorem zqcg:Loc (defScope zq13) "many":=Or.inl (by kernel_rfl)
theorem zqf2:Loc (defScope zq13) "row":=Or.inl (by kernel_rfl)
theorem zqeo:Loc (defScope zq13) "state":=Or.inl (by kernel_rfl)
theorem zqey:Loc (defScope zq13) "turn":=Or.inl (by kernel_rfl)
theorem zq3r:Vis (defScope zq13) "draws":=Or.inl (by kernel_rfl)
theorem zq95:Vis (defScope zq13) "live":=Or.inl (by kernel_rfl)
theorem zq96:Vis (defScope zq13) "many":=Or.inl (by kernel_rfl)
theorem zqd3:Vis (defScope zq13) "row":=Or.inl (by kernel_rfl)
theorem zqe3:Vis (defScope zq13) "script":=Or.inl (by kernel_rfl)
theorem zq8a:Vis (defScope zq13) "state":=Or.inl (by kernel_rfl)
theorem zqez:(defScope zq13).names.lookup ("Live":Str)=some NameKind.globalImplicit:=by kernel_rfl
theorem zqch:(defScope zq13).names.lookup ("_law_deed":Str)=some NameKind.globalImplicit:=by kernel_rfl
theorem zqbh:(defScope zq13).names.lookup ("_law_draws":Str)=some NameKind.globalImplicit:=by kernel_rfl
theorem zq7e:(defScope zq13).names.lookup ("_law_right":Str)=some NameKind.globalImplicit:=by kernel_rfl
theorem zqd2:(defScope zq13).names.lookup ("_law_row":Str)=some NameKind.globalImplicit:=by kernel_rfl
theorem zqci:(defScope zq13).names.lookup ("_law_take":Str)=some NameKind.globalImplicit:=by kernel_rfl
theorem zqf0:(defScope zq13).names.lookup ("list":Str)=some NameKind.globalImplicit:=by kernel_rfl
theorem zqep:(defScope zq13).names.lookup ("range":Str)=some NameKind.globalImplicit:=by kernel_rfl
def zqf7 {cdv:Value}{A:Around}{outer:List Env}{s:Shared}{H:Hp}{E:XK}(B:Bl mg)(zq4m:Def P w K mg base 1 "_law_draws" ["script"] (zq55 K))(zq6f:Def P w K mg base 2 "_law_row" ["draws","most"] zq70)(zq3o:Mkd P w K mg base 1 C "Live" ["self","row"] (zq42 C))(zq3s:Def P w K mg base 7 "_law_right" ["draws","live","row"] (zq5m C))(zq0:Def P w K mg base 1 "_law_take" ["draws","many"] zq11)(zq5n:Def P w K mg base 5 "_law_deed" ["draws","live","state"] (zq5x C))(hr:Room 7 (A.deeper (PyProof.Rows.envOfC "law" (defScope zq13) s.heap.objs.size f cdv))) :
  { t:TS // QB (cxOf CX0 P w K mg base ["script","draws","row","live","state","many","turn"] "law" (defScope zq13) f cdv A outer s H E).nox (defBody zq13) t } :=
 ⟨_,(qb_cons (qs_set (i:=1) zq6e.nd rfl zqen (.inl rfl) (qe_def zq4m hr (by decide) zqbh (qa_cons (qv 0 rfl zqe3) qa_nil)))
  (qb_cons (qs_set (i:=2) zq6e.nd rfl zqf2 (.inl rfl) (ke_slice (K:=K) rfl (qe_def zq6f hr (by decide) zqd2 (qa_cons (qv 1 rfl zq3r) (qa_cons qe_int qa_nil))) qo_none (qo_some qe_int)))
  (qb_cons (qs_set (i:=3) zq6e.nd rfl zqex (.inl rfl) (qe_make zq3o hr (by decide) zqez (qa_cons (qe_cT (kList (K:=K) rfl) zqf0 B.list boot_list (qa_cons (qv 2 rfl zqd3) qa_nil)) qa_nil)))
  (qb_cons (qs_set (i:=4) zq6e.nd rfl zqeo (.inl rfl) (qe_lst (qa_cons (qv 2 rfl zqd3) (qa_cons (qe_lst qa_nil) qa_nil))))
  (qb_cons (qs_set (i:=5) zq6e.nd rfl zqcg (.inl rfl) qe_int)
  (qb_mid (qs_while PassesOwn.never (QW.pt (qw_or (qt_cmp opLt (qv 5 rfl zq96) qe_int) (qw_or1 (QW.pt (qw_and (qt_cmp (kNeG (K:=K) rfl hr) (qv 1 rfl zq3r) (qe_lst qa_nil)) (qw_and1 (qt_cmp opLt (qv 5 rfl zq96) qe_int))))))) (qb_cons (qs_if (qt_not (kt_val (K:=K) rfl (qe_def zq3s hr (by decide) zq7e (qa_cons (qv 1 rfl zq3r) (qa_cons (qv 3 rfl zq95) (qa_cons (ke_ix (K:=K) rfl (qv 4 rfl zq8a) qe_int (λ_ _=>rfl)) qa_nil)))))) (qb_one (qs_ret qe_bl)) qb_nil)
  (qb_mid (qs_for PassesOwn.never rfl (qi_r1 zqep B.range (qa_cons (ke_ix (K:=K) rfl (qe_lst (qa_cons qe_int (qa_cons qe_int (qa_cons qe_int (qa_cons qe_int (qa_cons qe_int qa_nil)))))) (qe_def zq0 hr (by decide) zqci (qa_cons (qv 1 rfl zq3r) (qa_cons qe_int qa_nil))) (λ_ _=>rfl)) qa_nil)) (qg_name (i:=6) zq6e.nd rfl zqey (.inl rfl)) (qb_one (qs_if (qt_not (kt_val (K:=K) rfl (qe_def zq5n hr (by decide) zqch (qa_cons (qv 1 rfl zq3r) (qa_cons (qv 3 rfl zq95) (qa_cons (qv 4 rfl zq8a) qa_nil)))))) (qb_one (qs_ret qe_bl)) qb_nil)))
  (qb_one (qs_set (i:=5) zq6e.nd rfl zqcg (.inl rfl) (qe_op opAdd (qv 5 rfl zq96) qe_int))))))
  (qb_one (qs_ret (qe_def zq3s hr (by decide) zq7e (qa_cons (qv 1 rfl zq3r) (qa_cons (qv 3 rfl zq95) (qa_cons (ke_ix (K:=K) rfl (qv 4 rfl zq8a) qe_int (λ_ _=>rfl)) qa_nil))))))))))))⟩
def zqcj (K:W.Frag):Sp:=λvs H Q _=>∃ (a:Addr) (ns:List Int),vs=[.ref a]/\SqL K H a (ns.map V.int)/\ns.length<=63/\∀ H',Q (.bl true) H'
theorem both_mk {C:Addr}{H2 H3 H4 H5 H6 H7:Hp}{dr r p l d pl st:Addr}{ns:List Int}(rn:RowN ns)(hd2:DrawsAt H2 dr)(e2:H2 r=some (.lst (ns.map V.int)))(nr:r≠dr)(s3:Same H2 H3)(hp0:H3 p=none)(s4:Same H3 H4)(ep4:∃ dx fs,H4 p=some (.ins C dx fs))(hl0:H4 l=none)(hd0:H4 d=none)(nld:l≠d)(k5:Kp [p] H4 H5)
  (ob:∃ dx,H5 p=some (.ins C dx (flds l d))) (nums:H5 l=some (.lst (ns.map V.int))) (dn:H5 d=some (.lst [])) (hpl:H5 pl=none) (s6:Same H5 H6) (e6:H6 pl=some (.lst [])) (hst:H6 st=none) (s7:Same H6 H7) (e7:H7 st=some (.lst [.ref r,.ref pl])) :
  Both [l,d,dr,st,pl] C H7 dr p l d st pl ns []:=by
 obtain⟨dx4,fs4,ep4⟩:=ep4
 obtain⟨dx,ob⟩:=ob
 obtain⟨ds,hdr,_⟩:=id hd2
 have npdr:p≠dr:=(ne_of_none (s3 _ _ hdr) hp0).symm
 have npr:p≠r:=(ne_of_none (s3 _ _ e2) hp0).symm
 have dr4:=s4 _ _ (s3 _ _ hdr)
 have r4:=s4 _ _ (s3 _ _ e2)
 have npl:p≠l:=ne_of_none ep4 hl0
 have npd:p≠d:=ne_of_none ep4 hd0
 have nldr:l≠dr:=(ne_of_none dr4 hl0).symm
 have nddr:d≠dr:=(ne_of_none dr4 hd0).symm
 have nrl:r≠l:=ne_of_none r4 hl0
 have nrd:r≠d:=ne_of_none r4 hd0
 have dr5:=k5.one (Ne.symm npdr) dr4
 have r5:=k5.one (Ne.symm npr) r4
 have h1:l≠pl:=ne_of_none nums hpl
 have h2:d≠pl:=ne_of_none dn hpl
 have h3:dr≠pl:=ne_of_none dr5 hpl
 have h4:r≠pl:=ne_of_none r5 hpl
 have h5:p≠pl:=ne_of_none ob hpl
 have g1:l≠st:=ne_of_none (s6 _ _ nums) hst
 have g2:d≠st:=ne_of_none (s6 _ _ dn) hst
 have g3:dr≠st:=ne_of_none (s6 _ _ dr5) hst
 have g4:r≠st:=ne_of_none (s6 _ _ r5) hst
 have g5:p≠st:=ne_of_none (s6 _ _ ob) hst
 have g6:pl≠st:=ne_of_none e6 hst
 have s57:=s6.trans s7
 have hd5:DrawsAt H5 dr:=((hd2.same s3).same s4).kp k5 (by simp[Ne.symm npdr])
 refine⟨⟨⟨dx,s57 _ _ ob⟩,s57 _ _ nums,⟨[],s57 _ _ dn,.nil⟩,nld,by simp,by simp,by simp[npl,npd,npdr,h5,g5],by have:=rn.le;omega,by simp⟩,hd5.same s57,⟨r,e7,s57 _ _ r5,by simp[nrl,nrd,nr,h4,g4]⟩,⟨[],s7 _ _ e6,.nil⟩,rn,by simp,rfl,?_⟩
 simp[List.nodup_cons,nld,nldr,nddr,h1,h2,h3,g1,g2,g3,Ne.symm g6]
theorem both_back {S:List Addr}{C:Addr}{H H':Hp}{dr p l d st pl:Addr}{ns:List Int}{hist:List (List Int)}(X:Both S C H dr p l d st pl ns hist)(k:Kp [l,d,dr] H H')(L:LiveAt S C H' p l d ns hist)(hd:DrawsAt H' dr):Both S C H' dr p l d st pl ns hist:=by
 obtain⟨n1,n2,n3,n4,n5,n6,n7,n8,n9,n10⟩:=X.ne
 have eS:=X.eS
 have hin:∀ a∈[l,d,dr],a∈S:=by intro a ha;rw[eS];simp at ha ⊢;rcases ha with rfl | rfl | rfl<;>simp
 obtain⟨r',sa,sr,sn⟩:=X.sa
 obtain⟨rs,pa,pr⟩:=X.pa
 exact⟨L,hd,⟨r',k _ _ (by simp[Ne.symm n3,Ne.symm n6,Ne.symm n8]) sa,k _ _ (λz=>sn (hin _ z)) sr,sn⟩,⟨rs,k _ _ (by simp[Ne.symm n4,Ne.symm n7,Ne.symm n9]) pa,pr.kp k hin⟩,X.rn,X.rns,eS,X.nd⟩
theorem mOr_do {tA tB:TT}{σ:St}{H:Hp}{Q:Bool->Hp->Prop}(P R:Hp->Prop)(hm:∀ Q':Bool->Hp->Prop,(∀ H3,P H3->Q' true H3)->(∀ H3,R H3->Q' false H3)->mOr tA tB σ H Q')(ht:∀ H3,P H3->Q true H3)(hf:∀ H3,R H3->Q false H3):mOr tA tB σ H Q:=hm Q ht hf
theorem zqf5 (B:Bl mg)(zq4m:Def P w K mg base 1 "_law_draws" ["script"] (zq55 K))(zq6f:Def P w K mg base 2 "_law_row" ["draws","most"] zq70)(zq3o:Mkd P w K mg base 1 C "Live" ["self","row"] (zq42 C))(zq3s:Def P w K mg base 7 "_law_right" ["draws","live","row"] (zq5m C))(zq0:Def P w K mg base 1 "_law_take" ["draws","many"] zq11)(zq5n:Def P w K mg base 5 "_law_deed" ["draws","live","state"] (zq5x C))(F:Fun K "law" "law" zq13 f fd):FnOk P w K mg base CX0 8 f fd ["script"] (zqcj K):=by
 refine F.okq zq6e (λvs H Q E h=>?_) (λcdv A outer s H vs Q E hr h=>?_)
 ·obtain⟨a,ns,rfl,_⟩:=h;rfl
 obtain⟨a,sc,rfl,hS,h63,q⟩:=h
 refine⟨zqf7 B zq4m zq6f zq3o zq3s zq0 zq5n hr,?_⟩
 refine⟨a,sc,rfl,hS,h63,λdr H1 hd0 s1 hd1=>?_⟩
 refine⟨dr,110,rfl,hd1,by decide,by decide,λr0 ns0 Ha rn0 _ hda ka ea nr0 _=>?_⟩
 refine i_sl (SqL.of ea) λr H2 hr0 s2 e2=>?_
 obtain⟨ns,rn,hn50,e2⟩:∃ ns:List Int,RowN ns/\ns.length<=50/\H2 r=some (.lst (ns.map V.int)):=by
  have hl:=rn0.ne
  refine⟨ns0.take 50,⟨by simp;omega,by have:=rn0.le;simp;omega,λn hn=>rn0.nn n (List.mem_of_mem_take hn),λn hn=>rn0.ub n (List.mem_of_mem_take hn)⟩,by simp;omega,?_⟩
  rw[e2,cutV_ints,HT.sIx_none,show (some (50:Int))=some ((50:Nat):Int) from rfl,HT.sIx_nat,List.drop_zero,Nat.sub_zero]
  rcases Nat.le_total 50 ns0.length with q | q
  ·rw[Nat.min_eq_left q]
  ·rw[Nat.min_eq_right q,List.take_of_length_le q,List.take_length]
 have hd2:=hda.same s2
 have nr:r≠dr:=(hda.ne hr0).symm
 have hle:=rn.le
 refine i_copy e2 λcp H3 hcp s3 e3=>i_make λp dx H4 hp0 s4 ep4=>?_
 refine⟨p,cp,dx,ns,rfl,ep4,s4 _ _ e3,by omega,λl d H5 hl0 hd0 nld k5 ob nums dn=>⟨rfl,?_⟩⟩
 refine i_newL (by show 0<=sizeLine;decide) λpl H6 hpl s6 e6=>i_newL (by show 2<=sizeLine;decide) λst H7 hst s7 e7=>?_
 have X7:=both_mk rn hd2 e2 nr s3 hp0 s4 ⟨_,_,ep4⟩ hl0 hd0 nld k5 ob nums dn hpl s6 e6 hst s7 e7
 generalize hSS:[l,d,dr,st,pl]=S at X7
 refine⟨λσ H'=>∃ ns hist o5 o6,Both S C H' dr p l d st pl ns hist/\ns.length<120/\hist.length<=1000/\σ=[some (.ref a),some (.ref dr),some (.ref r),some (.ref p),some (.ref st),o5,o6],?_,?_⟩
 ·refine while_m (λmm σ H'=>∃ (ns:List Int) (hist:List (List Int)) (k:Nat) (o6:Option V),Both S C H' dr p l d st pl ns hist/\hist.length<=5*k/\(∀ x∈ns::hist,x.length<=50+5*k)/\k<=8/\mm=8-k/\σ=[some (.ref a),some (.ref dr),some (.ref r),some (.ref p),some (.ref st),some (.int k),o6]) 8 ⟨ns,[],0,_,X7,by simp,by simpa using hn50,by omega,rfl,rfl⟩ ?_
  rintro mm σ HB ⟨ns,hist,k,o6,X,hl,hx,hk,hmm,rfl⟩
  have hnl:ns.length<=50+5*k:=hx ns (by simp)
  refine mOr_do (λH3=>Same HB H3/\(k:Int)<8) (λH3=>Same HB H3) (λQ' h1 h2=>dec2 (λc=>h1 HB ⟨Same.refl _,by have:(k:Int)<1:=c;omega⟩) (λc=>?_)) (λH3 z=>bT ?_) (λH3 z=>bF ⟨ns,hist,_,_,X.same z,by omega,by omega,rfl⟩)
  ·obtain⟨ds,ed,hds,hdl⟩:=id X.dw
   refine i_newL (by show 0<=sizeLine;decide) λp3 H3 hp3 s3 e3=>?_
   refine i_eqI (ns:=ds) (ms:=[]) (SqL.of (s3 _ _ ed)) (SqL.of e3) (ndec2 (λc1=>?_) (λc1=>h2 H3 s3))
   show Q' (decide ((k:Int)<8)) H3
   by_cases c2:(k:Int)<8
   ·rw[decide_eq_true c2];exact h1 H3 ⟨s3,c2⟩
   ·rw[decide_eq_false c2];exact h2 H3 s3
  ·obtain⟨s3,c2⟩:=z
   have X2:=X.same s3
   obtain⟨n1,n2,n3,n4,n5,n6,n7,n8,n9,n10⟩:=X.ne
   obtain⟨r',sa,sr,sn⟩:=X2.sa
   refine i_ixN (v:=.ref r') 0 sa rfl rfl ⟨S,dr,p,l,d,r',ns,hist,rfl,X2.lv,X2.dw,sr,X.rn,sn,by rw[X.eS];simp,n2,n5,X2.al,by omega,by omega,λH3 k3 L3 hd3=>bF ?_⟩
   have X3:=both_back X2 k3 L3 hd3
   refine⟨λσ H'=>∃ ns hist o6,Both S C H' dr p l d st pl ns hist/\hist.length<=5*(k+1)/\(∀ x∈ns::hist,x.length<=50+5*(k+1))/\σ=[some (.ref a),some (.ref dr),some (.ref r),some (.ref p),some (.ref st),some (.int k),o6],?_,?_⟩
   ·refine i_newL (by show 5<=sizeLine;decide) λp4 H4 hp4 s4 e4=>?_
    have hd4:=hd3.same s4
    refine⟨dr,5,rfl,hd4,by decide,λg H5 g0 g1 hd5 k5=>?_⟩
    have np4:p4≠dr:=(hd3.ne hp4).symm
    have e5:H5 p4=some (.lst (([1,1,2,3,5]:List Int).map V.int)):=k5.one np4 e4
    refine i_ixI e5 g0 (by simpa using g1) ?_
    have hm:=atInts (ns:=[1,1,2,3,5]) g0 (by simpa using g1)
    generalize ([1,1,2,3,5]:List Int).getD g.toNat 0=z at hm
    have hz:1<=z/\z<=5:=by
     simp only[List.mem_cons,List.not_mem_nil,or_false] at hm
     omega
    have X5:=(X3.same s4).drs k5 hd5
    refine⟨⟨by omega,by omega⟩,for_range (λi σ H'=>∃ ns hist o6,Both S C H' dr p l d st pl ns hist/\hist.length<=5*k+i/\(∀ x∈ns::hist,x.length<=50+5*k+i)/\σ=[some (.ref a),some (.ref dr),some (.ref r),some (.ref p),some (.ref st),some (.int k),o6]) ?_ ?_ ?_⟩
    ·exact⟨_,_,_,X5,hl,hx,rfl⟩
    ·rintro i σ H6 hi ⟨ns6,hist6,o6,X6,hl6,hx6,rfl⟩
     refine⟨S,dr,p,l,d,st,pl,ns6,hist6,rfl,X6,by omega,λns7 hist7 H7 k7 X7 hl7 tr gr=>bF ⟨_,_,_,X7,by omega,λx hx'=>?_,rfl⟩⟩
     have h7:ns7.length<=50+5*k+(i+1):=by
      rcases gr with g | g
      ·have:=hx6 ns6 (by simp);omega
      ·have:=hx6 ns7 (List.mem_cons_of_mem _ g);omega
     rcases List.mem_cons.mp hx' with rfl | w
     ·exact h7
     ·have:x∈ns6::hist6:=by
       rcases tr with rfl | rfl | ⟨rfl,rfl⟩
       ·exact w
       ·exact List.mem_cons_of_mem _ (List.mem_cons_of_mem _ w)
       ·exact List.mem_cons_of_mem _ w
      have:=hx6 x this;omega
    ·rintro σ H6 ⟨ns6,hist6,o6,X6,hl6,hx6,rfl⟩
     exact⟨_,_,_,X6,by omega,λx hx'=>by have:=hx6 x hx';omega,rfl⟩
   ·rintro σ H6 ⟨ns6,hist6,o6,X6,hl6,hx6,rfl⟩
    exact⟨8-(k+1),by omega,ns6,hist6,k+1,_,X6,hl6,hx6,by omega,rfl,rfl⟩
 ·rintro σ H2 ⟨ns,hist,o5,o6,X,hnl,hh,rfl⟩
  obtain⟨n1,n2,n3,n4,n5,n6,n7,n8,n9,n10⟩:=X.ne
  obtain⟨r',sa,sr,sn⟩:=X.sa
  exact i_ixN (v:=.ref r') 0 sa rfl rfl ⟨S,dr,p,l,d,r',ns,hist,rfl,X.lv,X.dw,sr,X.rn,sn,by rw[X.eS];simp,n2,n5,X.al,hnl,hh,λH3 _ _ _=>q H3⟩
end
end K
namespace K
open PySem PySem.Spec PyProof.Rows L2
theorem all_mk {l:W.OpenLaw}{w:World}{K:W.Frag}{h:Heap}{mg:Str->Option Value}{fa f0 f1 f2 f3 f4 f5 f6 f7 f8 f9 f10 f11 f12 f14 f15 f16 f17 f19 f20 f21 f22 f23 f24 f25 f27 f28 f29 f30 f31 f32 f33 f34 f35 f36 f37 f38 f39 C:Addr}(X:K.In h)(G:h.Ns mainGlobals mg)(hfa:mg "law"=some (.ref fa))
  {od0 an0 od1 an1 od2 an2 od3 an3 od4 an4 od5 an5 od6 an6 od7 an7 od8 an8 od9 an9 od10 an10 od11 an11 od12 an12 od14 an14 od15 an15 od16 an16 od17 an17 od19 an19 od20 an20 od21 an21 od22 an22 od23 an23 od24 an24 od25 an25 od27 an27 od28 an28 od29 an29 od30 an30 od31 an31 od32 an32 od33 an33 od34 an34 od35 an35 od36 an36 od37 an37 od38 an38 od39 an39:Option Addr} {sl0 sl1 sl2 sl3 sl4 sl5 sl6 sl7 sl8 sl9 sl10 sl11 sl12 sl14 sl15 sl16 sl17 sl19 sl20 sl21 sl22 sl23 sl24 sl25 sl27 sl28 sl29 sl30 sl31 sl32 sl33 sl34 sl35 sl36 sl37 sl38 sl39:Array (Option Value)} {oc0 kV0 dc0 pm0 cd0 ct0 oc1 kV1 dc1 pm1 cd1 ct1 oc2 kV2 dc2 pm2 cd2 ct2 oc3 kV3 dc3 pm3 cd3 ct3 oc4 kV4 dc4 pm4 cd4 ct4 oc5 kV5 dc5 pm5 cd5 ct5 oc6 kV6 dc6 pm6 cd6 ct6 oc7 kV7 dc7 pm7 cd7 ct7 oc8 kV8 dc8 pm8 cd8 ct8 oc9 kV9 dc9 pm9 cd9 ct9 oc10 kV10 dc10 pm10 cd10 ct10 oc11 kV11 dc11 pm11 cd11 ct11 oc12 kV12 dc12 pm12 cd12 ct12 oc14 kV14 dc14 pm14 cd14 ct14 oc15 kV15 dc15 pm15 cd15 ct15 oc16 kV16 dc16 pm16 cd16 ct16 oc17 kV17 dc17 pm17 cd17 ct17 oc19 kV19 dc19 pm19 cd19 ct19 oc20 kV20 dc20 pm20 cd20 ct20 oc21 kV21 dc21 pm21 cd21 ct21 oc22 kV22 dc22 pm22 cd22 ct22 oc23 kV23 dc23 pm23 cd23 ct23 oc24 kV24 dc24 pm24 cd24 ct24 oc25 kV25 dc25 pm25 cd25 ct25 oc27 kV27 dc27 pm27 cd27 ct27 oc28 kV28 dc28 pm28 cd28 ct28 oc29 kV29 dc29 pm29 cd29 ct29 oc30 kV30 dc30 pm30 cd30 ct30 oc31 kV31 dc31 pm31 cd31 ct31 oc32 kV32 dc32 pm32 cd32 ct32 oc33 kV33 dc33 pm33 cd33 ct33 oc34 kV34 dc34 pm34 cd34 ct34 oc35 kV35 dc35 pm35 cd35 ct35 oc36 kV36 dc36 pm36 cd36 ct36 oc37 kV37 dc37 pm37 cd37 ct37 oc38 kV38 dc38 pm38 cd38 ct38 oc39 kV39 dc39 pm39 cd39 ct39:Value} {tk_MOST_NUMBERS:Tok}
  (a0:W.nsIn K mainGlobals "_law_draws"=some (some (.ref f0))) (l0:K.lookup f0=some ⟨oc0,od0,.func (W.fnOf "_law_draws" "_law_draws" (defArgs zqa) (defBody zqa) (defScope zqa) .none kV0 dc0 pm0 an0 cd0 ct0),sl0⟩) (c0:W.codeIn K cd0 "_law_draws"=true) (k0:W.keepIn K (.ref f0)=true)
  (a1:W.nsIn K mainGlobals "_law_take"=some (some (.ref f1))) (l1:K.lookup f1=some ⟨oc1,od1,.func (W.fnOf "_law_take" "_law_take" (defArgs zq1s) (defBody zq1s) (defScope zq1s) .none kV1 dc1 pm1 an1 cd1 ct1),sl1⟩) (c1:W.codeIn K cd1 "_law_take"=true) (k1:W.keepIn K (.ref f1)=true)
  (a2:W.nsIn K mainGlobals "_law_row"=some (some (.ref f2))) (l2:K.lookup f2=some ⟨oc2,od2,.func (W.fnOf "_law_row" "_law_row" (defArgs zq1) (defBody zq1) (defScope zq1) .none kV2 dc2 pm2 an2 cd2 ct2),sl2⟩) (c2:W.codeIn K cd2 "_law_row"=true) (k2:W.keepIn K (.ref f2)=true)
  (a3:W.findIn K (.ref C) "__init__"=some (some (.ref f3))) (i3:W.isFn K (.ref f3)=true) (l3:K.lookup f3=some ⟨oc3,od3,.func (W.fnOf "__init__" "Live.__init__" (defArgs zqx) (defBody zqx) (defScope zqx) .none kV3 dc3 pm3 an3 cd3 ct3),sl3⟩) (c3:W.codeIn K cd3 "Live.__init__"=true) (k3:W.keepIn K (.ref f3)=true)
  (a4:W.nsIn K mainGlobals "_law_pieces"=some (some (.ref f4))) (l4:K.lookup f4=some ⟨oc4,od4,.func (W.fnOf "_law_pieces" "_law_pieces" (defArgs zqo) (defBody zqo) (defScope zqo) .none kV4 dc4 pm4 an4 cd4 ct4),sl4⟩) (c4:W.codeIn K cd4 "_law_pieces"=true) (k4:W.keepIn K (.ref f4)=true)
  (a5:W.nsIn K mainGlobals "_law_number"=some (some (.ref f5))) (l5:K.lookup f5=some ⟨oc5,od5,.func (W.fnOf "_law_number" "_law_number" (defArgs zq10) (defBody zq10) (defScope zq10) .none kV5 dc5 pm5 an5 cd5 ct5),sl5⟩) (c5:W.codeIn K cd5 "_law_number"=true) (k5:W.keepIn K (.ref f5)=true)
  (a6:W.nsIn K mainGlobals "is_whole"=some (some (.ref f6))) (l6:K.lookup f6=some ⟨oc6,od6,.func (W.fnOf "is_whole" "is_whole" (defArgs zq1f) (defBody zq1f) (defScope zq1f) .none kV6 dc6 pm6 an6 cd6 ct6),sl6⟩) (c6:W.codeIn K cd6 "is_whole"=true) (k6:W.keepIn K (.ref f6)=true)
  (a7:W.nsIn K mainGlobals "is_within"=some (some (.ref f7))) (l7:K.lookup f7=some ⟨oc7,od7,.func (W.fnOf "is_within" "is_within" (defArgs zq15) (defBody zq15) (defScope zq15) .none kV7 dc7 pm7 an7 cd7 ct7),sl7⟩) (c7:W.codeIn K cd7 "is_within"=true) (k7:W.keepIn K (.ref f7)=true)
  (a8:W.nsIn K mainGlobals "check_many"=some (some (.ref f8))) (l8:K.lookup f8=some ⟨oc8,od8,.func (W.fnOf "check_many" "check_many" (defArgs zqy) (defBody zqy) (defScope zqy) .none kV8 dc8 pm8 an8 cd8 ct8),sl8⟩) (c8:W.codeIn K cd8 "check_many"=true) (k8:W.keepIn K (.ref f8)=true)
  (a9:W.nsIn K mainGlobals "sums_ahead"=some (some (.ref f9))) (l9:K.lookup f9=some ⟨oc9,od9,.func (W.fnOf "sums_ahead" "sums_ahead" (defArgs zqt) (defBody zqt) (defScope zqt) .none kV9 dc9 pm9 an9 cd9 ct9),sl9⟩) (c9:W.codeIn K cd9 "sums_ahead"=true) (k9:W.keepIn K (.ref f9)=true)
  (a10:W.nsIn K mainGlobals "even_table"=some (some (.ref f10))) (l10:K.lookup f10=some ⟨oc10,od10,.func (W.fnOf "even_table" "even_table" (defArgs zq9) (defBody zq9) (defScope zq9) .none kV10 dc10 pm10 an10 cd10 ct10),sl10⟩) (c10:W.codeIn K cd10 "even_table"=true) (k10:W.keepIn K (.ref f10)=true)
  (a11:W.nsIn K mainGlobals "first_even_cut"=some (some (.ref f11))) (l11:K.lookup f11=some ⟨oc11,od11,.func (W.fnOf "first_even_cut" "first_even_cut" (defArgs zq2) (defBody zq2) (defScope zq2) .none kV11 dc11 pm11 an11 cd11 ct11),sl11⟩) (c11:W.codeIn K cd11 "first_even_cut"=true) (k11:W.keepIn K (.ref f11)=true)
  (a12:W.nsIn K mainGlobals "most_even"=some (some (.ref f12))) (l12:K.lookup f12=some ⟨oc12,od12,.func (W.fnOf "most_even" "most_even" (defArgs zqr) (defBody zqr) (defScope zqr) .none kV12 dc12 pm12 an12 cd12 ct12),sl12⟩) (c12:W.codeIn K cd12 "most_even"=true) (k12:W.keepIn K (.ref f12)=true)
  (a13:W.nsIn K mainGlobals "most_even_squares"=some (some (.ref f12)))
  (a14:W.findIn K (.ref C) "most_even"=some (some (.ref f14))) (i14:W.isFn K (.ref f14)=true) (l14:K.lookup f14=some ⟨oc14,od14,.func (W.fnOf "most_even" "Live.most_even" (defArgs zqn) (defBody zqn) (defScope zqn) .none kV14 dc14 pm14 an14 cd14 ct14),sl14⟩) (c14:W.codeIn K cd14 "Live.most_even"=true) (k14:W.keepIn K (.ref f14)=true)
  (a15:W.nsIn K mainGlobals "short_ends"=some (some (.ref f15))) (l15:K.lookup f15=some ⟨oc15,od15,.func (W.fnOf "short_ends" "short_ends" (defArgs zqg) (defBody zqg) (defScope zqg) .none kV15 dc15 pm15 an15 cd15 ct15),sl15⟩) (c15:W.codeIn K cd15 "short_ends"=true) (k15:W.keepIn K (.ref f15)=true)
  (a16:W.nsIn K mainGlobals "greatest_bound"=some (some (.ref f16))) (l16:K.lookup f16=some ⟨oc16,od16,.func (W.fnOf "greatest_bound" "greatest_bound" (defArgs zq5) (defBody zq5) (defScope zq5) .none kV16 dc16 pm16 an16 cd16 ct16),sl16⟩) (c16:W.codeIn K cd16 "greatest_bound"=true) (k16:W.keepIn K (.ref f16)=true)
  (a17:W.nsIn K mainGlobals "greatest_least"=some (some (.ref f17))) (l17:K.lookup f17=some ⟨oc17,od17,.func (W.fnOf "greatest_least" "greatest_least" (defArgs zqf) (defBody zqf) (defScope zqf) .none kV17 dc17 pm17 an17 cd17 ct17),sl17⟩) (c17:W.codeIn K cd17 "greatest_least"=true) (k17:W.keepIn K (.ref f17)=true)
  (a18:W.nsIn K mainGlobals "greatest_least_least"=some (some (.ref f17)))
  (a19:W.findIn K (.ref C) "greatest_least"=some (some (.ref f19))) (i19:W.isFn K (.ref f19)=true) (l19:K.lookup f19=some ⟨oc19,od19,.func (W.fnOf "greatest_least" "Live.greatest_least" (defArgs zqd) (defBody zqd) (defScope zqd) .none kV19 dc19 pm19 an19 cd19 ct19),sl19⟩) (c19:W.codeIn K cd19 "Live.greatest_least"=true) (k19:W.keepIn K (.ref f19)=true)
  (a20:W.nsIn K mainGlobals "long_cut"=some (some (.ref f20))) (l20:K.lookup f20=some ⟨oc20,od20,.func (W.fnOf "long_cut" "long_cut" (defArgs zqk) (defBody zqk) (defScope zqk) .none kV20 dc20 pm20 an20 cd20 ct20),sl20⟩) (c20:W.codeIn K cd20 "long_cut"=true) (k20:W.keepIn K (.ref f20)=true)
  (a21:W.nsIn K mainGlobals "fewest_pieces"=some (some (.ref f21))) (l21:K.lookup f21=some ⟨oc21,od21,.func (W.fnOf "fewest_pieces" "fewest_pieces" (defArgs zqi) (defBody zqi) (defScope zqi) .none kV21 dc21 pm21 an21 cd21 ct21),sl21⟩) (c21:W.codeIn K cd21 "fewest_pieces"=true) (k21:W.keepIn K (.ref f21)=true)
  (a22:W.nsIn K mainGlobals "least_bound"=some (some (.ref f22))) (l22:K.lookup f22=some ⟨oc22,od22,.func (W.fnOf "least_bound" "least_bound" (defArgs zqb) (defBody zqb) (defScope zqb) .none kV22 dc22 pm22 an22 cd22 ct22),sl22⟩) (c22:W.codeIn K cd22 "least_bound"=true) (k22:W.keepIn K (.ref f22)=true)
  (a23:W.nsIn K mainGlobals "earliest_begin"=some (some (.ref f23))) (l23:K.lookup f23=some ⟨oc23,od23,.func (W.fnOf "earliest_begin" "earliest_begin" (defArgs zq7) (defBody zq7) (defScope zq7) .none kV23 dc23 pm23 an23 cd23 ct23),sl23⟩) (c23:W.codeIn K cd23 "earliest_begin"=true) (k23:W.keepIn K (.ref f23)=true)
  (a24:W.nsIn K mainGlobals "earliest_cut"=some (some (.ref f24))) (l24:K.lookup f24=some ⟨oc24,od24,.func (W.fnOf "earliest_cut" "earliest_cut" (defArgs zq6) (defBody zq6) (defScope zq6) .none kV24 dc24 pm24 an24 cd24 ct24),sl24⟩) (c24:W.codeIn K cd24 "earliest_cut"=true) (k24:W.keepIn K (.ref f24)=true)
  (a25:W.nsIn K mainGlobals "least_greatest"=some (some (.ref f25))) (l25:K.lookup f25=some ⟨oc25,od25,.func (W.fnOf "least_greatest" "least_greatest" (defArgs zqe) (defBody zqe) (defScope zqe) .none kV25 dc25 pm25 an25 cd25 ct25),sl25⟩) (c25:W.codeIn K cd25 "least_greatest"=true) (k25:W.keepIn K (.ref f25)=true)
  (a26:W.nsIn K mainGlobals "least_greatest_greatest"=some (some (.ref f25)))
  (a27:W.findIn K (.ref C) "least_greatest"=some (some (.ref f27))) (i27:W.isFn K (.ref f27)=true) (l27:K.lookup f27=some ⟨oc27,od27,.func (W.fnOf "least_greatest" "Live.least_greatest" (defArgs zqc) (defBody zqc) (defScope zqc) .none kV27 dc27 pm27 an27 cd27 ct27),sl27⟩) (c27:W.codeIn K cd27 "Live.least_greatest"=true) (k27:W.keepIn K (.ref f27)=true)
  (a28:W.nsIn K mainGlobals "_law_bounds"=some (some (.ref f28))) (l28:K.lookup f28=some ⟨oc28,od28,.func (W.fnOf "_law_bounds" "_law_bounds" (defArgs zq1b) (defBody zq1b) (defScope zq1b) .none kV28 dc28 pm28 an28 cd28 ct28),sl28⟩) (c28:W.codeIn K cd28 "_law_bounds"=true) (k28:W.keepIn K (.ref f28)=true)
  (a29:W.nsIn K mainGlobals "check_place"=some (some (.ref f29))) (l29:K.lookup f29=some ⟨oc29,od29,.func (W.fnOf "check_place" "check_place" (defArgs zqw) (defBody zqw) (defScope zqw) .none kV29 dc29 pm29 an29 cd29 ct29),sl29⟩) (c29:W.codeIn K cd29 "check_place"=true) (k29:W.keepIn K (.ref f29)=true)
  (a30:W.nsIn K mainGlobals "check_number"=some (some (.ref f30))) (l30:K.lookup f30=some ⟨oc30,od30,.func (W.fnOf "check_number" "check_number" (defArgs zqz) (defBody zqz) (defScope zqz) .none kV30 dc30 pm30 an30 cd30 ct30),sl30⟩) (c30:W.codeIn K cd30 "check_number"=true) (k30:W.keepIn K (.ref f30)=true)
  (a31:W.findIn K (.ref C) "swap"=some (some (.ref f31))) (i31:W.isFn K (.ref f31)=true) (l31:K.lookup f31=some ⟨oc31,od31,.func (W.fnOf "swap" "Live.swap" (defArgs zq12) (defBody zq12) (defScope zq12) .none kV31 dc31 pm31 an31 cd31 ct31),sl31⟩) (c31:W.codeIn K cd31 "Live.swap"=true) (k31:W.keepIn K (.ref f31)=true)
  (a32:W.findIn K (.ref C) "change"=some (some (.ref f32))) (i32:W.isFn K (.ref f32)=true) (l32:K.lookup f32=some ⟨oc32,od32,.func (W.fnOf "change" "Live.change" (defArgs zql) (defBody zql) (defScope zql) .none kV32 dc32 pm32 an32 cd32 ct32),sl32⟩) (c32:W.codeIn K cd32 "Live.change"=true) (k32:W.keepIn K (.ref f32)=true)
  (a33:W.findIn K (.ref C) "undo"=some (some (.ref f33))) (i33:W.isFn K (.ref f33)=true) (l33:K.lookup f33=some ⟨oc33,od33,.func (W.fnOf "undo" "Live.undo" (defArgs zqq) (defBody zqq) (defScope zqq) .none kV33 dc33 pm33 an33 cd33 ct33),sl33⟩) (c33:W.codeIn K cd33 "Live.undo"=true) (k33:W.keepIn K (.ref f33)=true)
  (a34:W.findIn K (.ref C) "put"=some (some (.ref f34))) (i34:W.isFn K (.ref f34)=true) (l34:K.lookup f34=some ⟨oc34,od34,.func (W.fnOf "put" "Live.put" (defArgs zqv) (defBody zqv) (defScope zqv) .none kV34 dc34 pm34 an34 cd34 ct34),sl34⟩) (c34:W.codeIn K cd34 "Live.put"=true) (k34:W.keepIn K (.ref f34)=true)
  (a35:W.findIn K (.ref C) "row"=some (some (.ref f35))) (i35:W.isFn K (.ref f35)=true) (l35:K.lookup f35=some ⟨oc35,od35,.func (W.fnOf "row" "Live.row" (defArgs zq1t) (defBody zq1t) (defScope zq1t) .none kV35 dc35 pm35 an35 cd35 ct35),sl35⟩) (c35:W.codeIn K cd35 "Live.row"=true) (k35:W.keepIn K (.ref f35)=true)
  (a36:W.nsIn K mainGlobals "_law_right"=some (some (.ref f36))) (l36:K.lookup f36=some ⟨oc36,od36,.func (W.fnOf "_law_right" "_law_right" (defArgs zq3) (defBody zq3) (defScope zq3) .none kV36 dc36 pm36 an36 cd36 ct36),sl36⟩) (c36:W.codeIn K cd36 "_law_right"=true) (k36:W.keepIn K (.ref f36)=true)
  (a37:W.findIn K (.ref C) "take"=some (some (.ref f37))) (i37:W.isFn K (.ref f37)=true) (l37:K.lookup f37=some ⟨oc37,od37,.func (W.fnOf "take" "Live.take" (defArgs zq17) (defBody zq17) (defScope zq17) .none kV37 dc37 pm37 an37 cd37 ct37),sl37⟩) (c37:W.codeIn K cd37 "Live.take"=true) (k37:W.keepIn K (.ref f37)=true)
  (a38:W.nsIn K mainGlobals "_law_deed"=some (some (.ref f38))) (l38:K.lookup f38=some ⟨oc38,od38,.func (W.fnOf "_law_deed" "_law_deed" (defArgs zq4) (defBody zq4) (defScope zq4) .none kV38 dc38 pm38 an38 cd38 ct38),sl38⟩) (c38:W.codeIn K cd38 "_law_deed"=true) (k38:W.keepIn K (.ref f38)=true)
  (a39:W.nsIn K mainGlobals "law"=some (some (.ref f39))) (l39:K.lookup f39=some ⟨oc39,od39,.func (W.fnOf "law" "law" (defArgs zq13) (defBody zq13) (defScope zq13) .none kV39 dc39 pm39 an39 cd39 ct39),sl39⟩) (c39:W.codeIn K cd39 "law"=true) (k39:W.keepIn K (.ref f39)=true)
  (aC:W.nsIn K mainGlobals "Live"=some (some (.ref C))) (pg:W.plainGet K C Str.empty=true) (hd:W.hasDictIn K C=true) (po:W.plainOver K C=true) (sa:W.findIn K (.ref C) "__setattr__"=some (some (.builtin "object.__setattr__"))) (mk:W.makesIn K C=true) (kc:W.keepIn K (.ref C)=true)
  (n_numbers:W.findIn K (.ref C) "numbers"=some none)
  (n_done:W.findIn K (.ref C) "done"=some none)
  (g_MOST_NUMBERS:W.nsIn K mainGlobals "MOST_NUMBERS"=some (some (.int 120 tk_MOST_NUMBERS)))
  (z0:W.nsIn K mainGlobals "list"=some none) (z1:W.nsIn K mainGlobals "enumerate"=some none) (z2:W.nsIn K mainGlobals "int"=some none) (z3:W.nsIn K mainGlobals "sum"=some none) (z4:W.nsIn K mainGlobals "range"=some none) (z5:W.nsIn K mainGlobals "sorted"=some none) (z6:W.nsIn K mainGlobals "max"=some none) (z7:W.nsIn K mainGlobals "min"=some none) (z8:W.nsIn K mainGlobals "len"=some none) (z9:W.nsIn K mainGlobals "repr"=some none) (z10:W.nsIn K mainGlobals "isinstance"=some none) (z11:W.nsIn K mainGlobals "zip"=some none) (z12:W.nsIn K mainGlobals "bool"=some none) (z13:W.nsIn K mainGlobals "tuple"=some none) (z14:W.nsIn K mainGlobals "str"=some none) (z15:W.nsIn K mainGlobals "dict"=some none) (z16:W.nsIn K mainGlobals "abs"=some none) :
  ∃ fd:FuncData,(∀ (s:Shared) (v:Value),BindsTo s fd ⟨[v],[]⟩ [("script",v)])/\∀ base:Heap,K.In base->base.Ns mainGlobals mg->FnOk l.prog w K mg base CX0 8 fa fd ["script"] (zqcj K):=by
 have e:=hfa.symm.trans (W.mg_of X G a39)
 cases e
 have T:LiveT K mg C:=⟨⟨pg,hd,po,sa⟩,n_numbers,n_done,⟨⟨_,W.mg_of X G g_MOST_NUMBERS⟩⟩⟩
 have F0:=fun_mk (st:=zqa) l0 c0 k0
 have b0:=F0.binds (ps:=["script"]) λ_ _ _ _ _ _ us hl=>match us,hl with | [_],_=>rfl
 have F1:=fun_mk (st:=zq1s) l1 c1 k1
 have b1:=F1.binds (ps:=["draws","many"]) λ_ _ _ _ _ _ us hl=>match us,hl with | [_,_],_=>rfl
 have F2:=fun_mk (st:=zq1) l2 c2 k2
 have b2:=F2.binds (ps:=["draws","most"]) λ_ _ _ _ _ _ us hl=>match us,hl with | [_,_],_=>rfl
 have F3:=fun_mk (st:=zqx) l3 c3 k3
 have b3:=F3.binds (ps:=["self","row"]) λ_ _ _ _ _ _ us hl=>match us,hl with | [_,_],_=>rfl
 have F4:=fun_mk (st:=zqo) l4 c4 k4
 have b4:=F4.binds (ps:=["draws","row"]) λ_ _ _ _ _ _ us hl=>match us,hl with | [_,_],_=>rfl
 have F5:=fun_mk (st:=zq10) l5 c5 k5
 have b5:=F5.binds (ps:=["draws"]) λ_ _ _ _ _ _ us hl=>match us,hl with | [_],_=>rfl
 have F6:=fun_mk (st:=zq1f) l6 c6 k6
 have b6:=F6.binds (ps:=["thing"]) λ_ _ _ _ _ _ us hl=>match us,hl with | [_],_=>rfl
 have F7:=fun_mk (st:=zq15) l7 c7 k7
 have b7:=F7.binds (ps:=["thing","low","high"]) λ_ _ _ _ _ _ us hl=>match us,hl with | [_,_,_],_=>rfl
 have F8:=fun_mk (st:=zqy) l8 c8 k8
 have b8:=F8.binds (ps:=["row","many"]) λ_ _ _ _ _ _ us hl=>match us,hl with | [_,_],_=>rfl
 have F9:=fun_mk (st:=zqt) l9 c9 k9
 have b9:=F9.binds (ps:=["row"]) λ_ _ _ _ _ _ us hl=>match us,hl with | [_],_=>rfl
 have F10:=fun_mk (st:=zq9) l10 c10 k10
 have b10:=F10.binds (ps:=["row","most"]) λ_ _ _ _ _ _ us hl=>match us,hl with | [_,_],_=>rfl
 have F11:=fun_mk (st:=zq2) l11 c11 k11
 have b11:=F11.binds (ps:=["row","many","table"]) λ_ _ _ _ _ _ us hl=>match us,hl with | [_,_,_],_=>rfl
 have F12:=fun_mk (st:=zqr) l12 c12 k12
 have b12:=F12.binds (ps:=["row","many"]) λ_ _ _ _ _ _ us hl=>match us,hl with | [_,_],_=>rfl
 have F14:=fun_mk (st:=zqn) l14 c14 k14
 have b14:=F14.binds (ps:=["self","many"]) λ_ _ _ _ _ _ us hl=>match us,hl with | [_,_],_=>rfl
 have F15:=fun_mk (st:=zqg) l15 c15 k15
 have b15:=F15.binds (ps:=["row","bound"]) λ_ _ _ _ _ _ us hl=>match us,hl with | [_,_],_=>rfl
 have F16:=fun_mk (st:=zq5) l16 c16 k16
 have b16:=F16.binds (ps:=["row","many"]) λ_ _ _ _ _ _ us hl=>match us,hl with | [_,_],_=>rfl
 have F17:=fun_mk (st:=zqf) l17 c17 k17
 have b17:=F17.binds (ps:=["row","many"]) λ_ _ _ _ _ _ us hl=>match us,hl with | [_,_],_=>rfl
 have F19:=fun_mk (st:=zqd) l19 c19 k19
 have b19:=F19.binds (ps:=["self","many"]) λ_ _ _ _ _ _ us hl=>match us,hl with | [_,_],_=>rfl
 have F20:=fun_mk (st:=zqk) l20 c20 k20
 have b20:=F20.binds (ps:=["row","bound"]) λ_ _ _ _ _ _ us hl=>match us,hl with | [_,_],_=>rfl
 have F21:=fun_mk (st:=zqi) l21 c21 k21
 have b21:=F21.binds (ps:=["row","bound"]) λ_ _ _ _ _ _ us hl=>match us,hl with | [_,_],_=>rfl
 have F22:=fun_mk (st:=zqb) l22 c22 k22
 have b22:=F22.binds (ps:=["row","many"]) λ_ _ _ _ _ _ us hl=>match us,hl with | [_,_],_=>rfl
 have F23:=fun_mk (st:=zq7) l23 c23 k23
 have b23:=F23.binds (ps:=["row","ahead","end","bound"]) λ_ _ _ _ _ _ us hl=>match us,hl with | [_,_,_,_],_=>rfl
 have F24:=fun_mk (st:=zq6) l24 c24 k24
 have b24:=F24.binds (ps:=["row","many","bound"]) λ_ _ _ _ _ _ us hl=>match us,hl with | [_,_,_],_=>rfl
 have F25:=fun_mk (st:=zqe) l25 c25 k25
 have b25:=F25.binds (ps:=["row","many"]) λ_ _ _ _ _ _ us hl=>match us,hl with | [_,_],_=>rfl
 have F27:=fun_mk (st:=zqc) l27 c27 k27
 have b27:=F27.binds (ps:=["self","many"]) λ_ _ _ _ _ _ us hl=>match us,hl with | [_,_],_=>rfl
 have F28:=fun_mk (st:=zq1b) l28 c28 k28
 have b28:=F28.binds (ps:=["live","many"]) λ_ _ _ _ _ _ us hl=>match us,hl with | [_,_],_=>rfl
 have F29:=fun_mk (st:=zqw) l29 c29 k29
 have b29:=F29.binds (ps:=["thing","last"]) λ_ _ _ _ _ _ us hl=>match us,hl with | [_,_],_=>rfl
 have F30:=fun_mk (st:=zqz) l30 c30 k30
 have b30:=F30.binds (ps:=["thing"]) λ_ _ _ _ _ _ us hl=>match us,hl with | [_],_=>rfl
 have F31:=fun_mk (st:=zq12) l31 c31 k31
 have b31:=F31.binds (ps:=["self","begin","end","numbers"]) λ_ _ _ _ _ _ us hl=>match us,hl with | [_,_,_,_],_=>rfl
 have F32:=fun_mk (st:=zql) l32 c32 k32
 have b32:=F32.binds (ps:=["self","place","number"]) λ_ _ _ _ _ _ us hl=>match us,hl with | [_,_,_],_=>rfl
 have F33:=fun_mk (st:=zqq) l33 c33 k33
 have b33:=F33.binds (ps:=["self"]) λ_ _ _ _ _ _ us hl=>match us,hl with | [_],_=>rfl
 have F34:=fun_mk (st:=zqv) l34 c34 k34
 have b34:=F34.binds (ps:=["self","place","number"]) λ_ _ _ _ _ _ us hl=>match us,hl with | [_,_,_],_=>rfl
 have F35:=fun_mk (st:=zq1t) l35 c35 k35
 have b35:=F35.binds (ps:=["self"]) λ_ _ _ _ _ _ us hl=>match us,hl with | [_],_=>rfl
 have F36:=fun_mk (st:=zq3) l36 c36 k36
 have b36:=F36.binds (ps:=["draws","live","row"]) λ_ _ _ _ _ _ us hl=>match us,hl with | [_,_,_],_=>rfl
 have F37:=fun_mk (st:=zq17) l37 c37 k37
 have b37:=F37.binds (ps:=["self","place"]) λ_ _ _ _ _ _ us hl=>match us,hl with | [_,_],_=>rfl
 have F38:=fun_mk (st:=zq4) l38 c38 k38
 have b38:=F38.binds (ps:=["draws","live","state"]) λ_ _ _ _ _ _ us hl=>match us,hl with | [_,_,_],_=>rfl
 have F39:=fun_mk (st:=zq13) l39 c39 k39
 have b39:=F39.binds (ps:=["script"]) λ_ _ _ _ _ _ us hl=>match us,hl with | [_],_=>rfl
 have B:Bl mg:=⟨W.mg_none_of X G z0,W.mg_none_of X G z1,W.mg_none_of X G z2,W.mg_none_of X G z3,W.mg_none_of X G z4,W.mg_none_of X G z5,W.mg_none_of X G z6,W.mg_none_of X G z7,W.mg_none_of X G z8,W.mg_none_of X G z9,W.mg_none_of X G z10,W.mg_none_of X G z11,W.mg_none_of X G z12,W.mg_none_of X G z13,W.mg_none_of X G z14,W.mg_none_of X G z15,W.mg_none_of X G z16⟩
 refine⟨W.fnOf "law" "law" (defArgs zq13) (defBody zq13) (defScope zq13) .none kV39 dc39 pm39 an39 cd39 ct39,λs v=>.of_eq rfl,λbase _ _=>?_⟩
 have zq4m:Def l.prog w K mg base 1 "_law_draws" ["script"] (zq55 K):=⟨f0,_,zqdm (P:=l.prog) (w:=w) (base:=base) B  F0,b0,k0,W.mg_of X G a0⟩
 have zq0:Def l.prog w K mg base 1 "_law_take" ["draws","many"] zq11:=⟨f1,_,zqe6 (P:=l.prog) (w:=w) (base:=base) B  F1,b1,k1,W.mg_of X G a1⟩
 have zq6f:Def l.prog w K mg base 2 "_law_row" ["draws","most"] zq70:=⟨f2,_,zqer (P:=l.prog) (w:=w) (base:=base) B zq0 F2,b2,k2,W.mg_of X G a2⟩
 have zq3o:Mkd l.prog w K mg base 1 C "Live" ["self","row"] (zq42 C):=⟨f3,_,zqcw (P:=l.prog) (w:=w) (base:=base) B T  F3,b3,⟨mk,a3,i3,kc⟩,W.mg_of X G aC⟩
 have zq40:Def l.prog w K mg base 2 "_law_pieces" ["draws","row"] zq4n:=⟨f4,_,zqd9 (P:=l.prog) (w:=w) (base:=base) B zq0 F4,b4,k4,W.mg_of X G a4⟩
 have zq1l:Def l.prog w K mg base 2 "_law_number" ["draws"] zq2p:=⟨f5,_,zqdj (P:=l.prog) (w:=w) (base:=base) B zq0 F5,b5,k5,W.mg_of X G a5⟩
 have zq20:Def l.prog w K mg base 1 "is_whole" ["thing"] zq3p:=⟨f6,_,zqea (P:=l.prog) (w:=w) (base:=base) B  F6,b6,k6,W.mg_of X G a6⟩
 have zq1r:Def l.prog w K mg base 2 "is_within" ["thing","low","high"] zq38:=⟨f7,_,zqdq (P:=l.prog) (w:=w) (base:=base) B zq20 F7,b7,k7,W.mg_of X G a7⟩
 have zqj:Def l.prog w K mg base 3 "check_many" ["row","many"] zq1v:=⟨f8,_,zqdb (P:=l.prog) (w:=w) (base:=base) B zq1r F8,b8,k8,W.mg_of X G a8⟩
 have zq1i:Def l.prog w K mg base 1 "sums_ahead" ["row"] zq2o:=⟨f9,_,zqdf (P:=l.prog) (w:=w) (base:=base) B  F9,b9,k9,W.mg_of X G a9⟩
 have zq3c:Def l.prog w K mg base 2 "even_table" ["row","most"] zq4o:=⟨f10,_,zqdg (P:=l.prog) (w:=w) (base:=base) B zq1i F10,b10,k10,W.mg_of X G a10⟩
 have zq1z:Def l.prog w K mg base 2 "first_even_cut" ["row","many","table"] zq31:=⟨f11,_,zqaj (P:=l.prog) (w:=w) (base:=base) B zq1i F11,b11,k11,W.mg_of X G a11⟩
 have zqf6:Def l.prog w K mg base 4 "most_even" ["row","many"] zq5f:=⟨f12,_,zq9x (P:=l.prog) (w:=w) (base:=base) B zqj zq3c zq1z F12,b12,k12,W.mg_of X G a12⟩
 have zq1x:Def l.prog w K mg base 4 "most_even_squares" ["row","many"] (spAns 2):=Def.imp (⟨f12,_,zq9x (P:=l.prog) (w:=w) (base:=base) B zqj zq3c zq1z F12,b12,k12,W.mg_of X G a13⟩:Def l.prog w K mg base 4 "most_even_squares" ["row","many"] zq5f) λ_ _ _ _ h=>me_ans h
 have zq2k:Mth l.prog w K mg base 5 C "most_even" ["self","many"] (zq32 C):=⟨T.cl,f14,_,zqaq (P:=l.prog) (w:=w) (base:=base) B T zq1x F14,b14,⟨a14,i14,k14⟩⟩
 have zq1a:Def l.prog w K mg base 1 "short_ends" ["row","bound"] zq2n:=⟨f15,_,zqde (P:=l.prog) (w:=w) (base:=base) B  F15,b15,k15,W.mg_of X G a15⟩
 have zq1y:Def l.prog w K mg base 2 "greatest_bound" ["row","many"] zq2z:=⟨f16,_,zqae (P:=l.prog) (w:=w) (base:=base) B zq1a F16,b16,k16,W.mg_of X G a16⟩
 have zqf3:Def l.prog w K mg base 4 "greatest_least" ["row","many"] zq30:=⟨f17,_,zq6v (P:=l.prog) (w:=w) (base:=base) B zqj zq1y zq1a F17,b17,k17,W.mg_of X G a17⟩
 have zq1j:Def l.prog w K mg base 4 "greatest_least_least" ["row","many"] (spAns 1):=Def.imp (⟨f17,_,zq6v (P:=l.prog) (w:=w) (base:=base) B zqj zq1y zq1a F17,b17,k17,W.mg_of X G a18⟩:Def l.prog w K mg base 4 "greatest_least_least" ["row","many"] zq30) λ_ _ _ _ h=>gl_ans h
 have zq1p:Mth l.prog w K mg base 5 C "greatest_least" ["self","many"] (zq22 C):=⟨T.cl,f19,_,zq88 (P:=l.prog) (w:=w) (base:=base) B T zq1j F19,b19,⟨a19,i19,k19⟩⟩
 have zq59:Def l.prog w K mg base 1 "long_cut" ["row","bound"] zq5w:=⟨f20,_,zqec (P:=l.prog) (w:=w) (base:=base) B  F20,b20,k20,W.mg_of X G a20⟩
 have zq2r:Def l.prog w K mg base 2 "fewest_pieces" ["row","bound"] zq3f:=⟨f21,_,zqb3 (P:=l.prog) (w:=w) (base:=base) B zq59 F21,b21,k21,W.mg_of X G a21⟩
 have zq2m:Def l.prog w K mg base 3 "least_bound" ["row","many"] zq43:=⟨f22,_,zqcs (P:=l.prog) (w:=w) (base:=base) B zq2r F22,b22,k22,W.mg_of X G a22⟩
 have zq2h:Def l.prog w K mg base 1 "earliest_begin" ["row","ahead","end","bound"] zq2x:=⟨f23,_,zqac (P:=l.prog) (w:=w) (base:=base) B  F23,b23,k23,W.mg_of X G a23⟩
 have zq2f:Def l.prog w K mg base 2 "earliest_cut" ["row","many","bound"] zq3u:=⟨f24,_,zqc3 (P:=l.prog) (w:=w) (base:=base) B zq2h F24,b24,k24,W.mg_of X G a24⟩
 have zqf4:Def l.prog w K mg base 4 "least_greatest" ["row","many"] zq2y:=⟨f25,_,zq6s (P:=l.prog) (w:=w) (base:=base) B zqj zq2m zq2f F25,b25,k25,W.mg_of X G a25⟩
 have zq19:Def l.prog w K mg base 4 "least_greatest_greatest" ["row","many"] (spAns 0):=Def.imp (⟨f25,_,zq6s (P:=l.prog) (w:=w) (base:=base) B zqj zq2m zq2f F25,b25,k25,W.mg_of X G a26⟩:Def l.prog w K mg base 4 "least_greatest_greatest" ["row","many"] zq2y) λ_ _ _ _ h=>lg_ans h
 have zq1q:Mth l.prog w K mg base 5 C "least_greatest" ["self","many"] (zq21 C):=⟨T.cl,f27,_,zq87 (P:=l.prog) (w:=w) (base:=base) B T zq19 F27,b27,⟨a27,i27,k27⟩⟩
 have zq25:Def l.prog w K mg base 6 "_law_bounds" ["live","many"] (zq4p C):=⟨f28,_,zqdl (P:=l.prog) (w:=w) (base:=base) B zq2k zq1p zq1q F28,b28,k28,W.mg_of X G a28⟩
 have zqm:Def l.prog w K mg base 3 "check_place" ["thing","last"] zq1o:=⟨f29,_,zqcp (P:=l.prog) (w:=w) (base:=base) B zq1r F29,b29,k29,W.mg_of X G a29⟩
 have zq16:Def l.prog w K mg base 2 "check_number" ["thing"] zq26:=⟨f30,_,zqc1 (P:=l.prog) (w:=w) (base:=base) B zq20 F30,b30,k30,W.mg_of X G a30⟩
 have zqu:Mth l.prog w K mg base 1 C "swap" ["self","begin","end","numbers"] (zq24 C):=⟨T.cl,f31,_,zqdx (P:=l.prog) (w:=w) (base:=base) B T  F31,b31,⟨a31,i31,k31⟩⟩
 have zq1e:Mth l.prog w K mg base 4 C "change" ["self","place","number"] (zq2d C):=⟨T.cl,f32,_,zqcx (P:=l.prog) (w:=w) (base:=base) B T zqm zq16 zqu F32,b32,⟨a32,i32,k32⟩⟩
 have zq1k:Mth l.prog w K mg base 1 C "undo" ["self"] (zq39 C):=⟨T.cl,f33,_,zqdz (P:=l.prog) (w:=w) (base:=base) B T  F33,b33,⟨a33,i33,k33⟩⟩
 have zq23:Mth l.prog w K mg base 4 C "put" ["self","place","number"] (zq3q C):=⟨T.cl,f34,_,zqej (P:=l.prog) (w:=w) (base:=base) B T zqm zq16 zqu F34,b34,⟨a34,i34,k34⟩⟩
 have zq5l:Mth l.prog w K mg base 1 C "row" ["self"] (zq5v C):=⟨T.cl,f35,_,zqek (P:=l.prog) (w:=w) (base:=base) B T  F35,b35,⟨a35,i35,k35⟩⟩
 have zq3s:Def l.prog w K mg base 7 "_law_right" ["draws","live","row"] (zq5m C):=⟨f36,_,zqe2 (P:=l.prog) (w:=w) (base:=base) B zq40 zq0 zq1l zq25 zq1e zq1k zq23 zq5l F36,b36,k36,W.mg_of X G a36⟩
 have zq4l:Mth l.prog w K mg base 4 C "take" ["self","place"] (zq57 C):=⟨T.cl,f37,_,zqdy (P:=l.prog) (w:=w) (base:=base) B T zqm zqu F37,b37,⟨a37,i37,k37⟩⟩
 have zq5n:Def l.prog w K mg base 5 "_law_deed" ["draws","live","state"] (zq5x C):=⟨f38,_,zqel (P:=l.prog) (w:=w) (base:=base) B zq0 zq1k zq1l zq1e zq23 zq4l F38,b38,k38,W.mg_of X G a38⟩
 exact zqf5 (P:=l.prog) (w:=w) (base:=base) B zq4m zq6f zq3o zq3s zq0 zq5n F39
theorem walk {l:W.OpenLaw}{q:Program}{loose:List Str}{XP:(Str->Option Value)->Heap->Prop}{YP:World->Heap->Prop}{d:DefRec}{K:Params->W.Frag}(hn:l.most=some 63)(hdf:d.params.defaults=[])
  (hY:∀ (w:World) (h:Heap),YP w h->(K w.params).In h)
  (F:∀ (w:World) (mg:Str->Option Value) (fa:Addr) (h:Heap),(K w.params).In h->h.Ns mainGlobals mg->mg d.name=some (.ref fa) ->
   ∃ fd:FuncData,(∀ (s:Shared) (u:Value),BindsTo s fd ⟨[u],[]⟩ [("script",u)])/\∀ base:Heap,(K w.params).In base->base.Ns mainGlobals mg->FnOk l.prog w (K w.params) mg base CX0 8 fa fd ["script"] (zqcj (K w.params))) :
  W.WalkO q loose XP YP l.row.toRowW d [] (λf vs=>PySem.call f vs) :=
 L2.walk_of (n:=63) (k:=8) (x:="script") (CX:=λ_=>CX0) (sp:=λw=>zqcj (K w.params)) hn (by decide) hdf ⟨rfl,by decide,by decide,rfl⟩ hY F (λ_ _ a ns hl _ hS=>⟨a,ns,rfl,hS,hl,λ_=>rfl⟩) λ_ _ _ _ _ z=>z
end K
namespace PySem.W.Fast
def tw10014791092789442412:=0
def tw1007016916330219618:=0
def tw1012557719249867549:=0
def tw10133608808305561152:=0
def tw10142590900025317815:=0
def tw10215424714724953234:=0
def tw10227793815407087894:=0
def tw10241380156312533946:=0
def tw10259779448726188462:=0
def tw10344244025075656159:=0
def tw10360945163138151600:=0
def tw1041750522364503931:=0
def tw10530741656083521451:=0
def tw10531209152233496878:=0
def tw10536516891961189010:=0
def tw10572843101977444077:=0
def tw10612433627266509158:=0
def tw10648470182678095648:=0
def tw10729491098250821997:=0
def tw10749531886819534779:=0
def tw10755254992568172450:=0
def tw10828009586840536075:=0
def tw10843532559867501571:=0
def tw10846993804330070515:=0
def tw1085436488570602581:=0
def tw11099074021024862867:=0
def tw11166642913057280775:=0
def tw11175616687814105625:=0
def tw11225714254706394221:=0
def tw11302308089688071461:=0
def tw11365378641887120812:=0
def tw11435308837271231308:=0
def tw11482188238367306715:=0
def tw11514318301489666554:=0
def tw11554037233997373385:=0
def tw11697838019469452452:=0
def tw11708250081242239675:=0
def tw11784849385719432499:=0
def tw11921591662416811946:=0
def tw11933247531375326571:=0
def tw11942405121100773153:=0
def tw11943609052366761340:=0
def tw11951067882521926499:=0
def tw1200426878450864148:=0
def tw12038115308883543535:=0
def tw12116090478385424530:=0
def tw12140917120934333606:=0
def tw12209439804325659855:=0
def tw12211842256375733574:=0
def tw1231904772369747409:=0
def tw1238358805213614202:=0
def tw12473295243621497786:=0
def tw1253755317591180652:=0
def tw12545845410685856267:=0
def tw12558374140669590007:=0
def tw12605399126532606091:=0
def tw12665003737507819995:=0
def tw12686903747142459274:=0
def tw12782528773656442562:=0
def tw12921363980825096532:=0
def tw13013205020616762015:=0
def tw13059654213272184689:=0
def tw13074981634346547371:=0
def tw13080930245458307642:=0
def tw13092126558881829226:=0
def tw13115352975938742807:=0
def tw1312562871759970710:=0
def tw13140759626042043960:=0
def tw13226582631788474981:=0
def tw13241762657403036998:=0
def tw13248708012621086063:=0
def tw13302575226021477873:=0
def tw13440253752285673303:=0
def tw13447674185874232147:=0
def tw13450083333037542487:=0
def tw13546340658946314120:=0
def tw13590835480604876873:=0
def tw13666759518091095303:=0
def tw13685994294692685417:=0
def tw1370399102337379104:=0
def tw13805819363340826884:=0
def tw13864045040853276647:=0
def tw13922448790585597914:=0
def tw13951851773686775216:=0
def tw14036706850552984818:=0
def tw14089937976799573850:=0
def tw14117021477370224364:=0
def tw14154253202043691611:=0
def tw14166647452549644498:=0
def tw14178015494751237837:=0
def tw142015398685588075:=0
def tw14209979094030468181:=0
def tw14256142766054673234:=0
def tw14316463579618863867:=0
def tw14327525250807645998:=0
def tw14372806444899230542:=0
def tw14410757962046995393:=0
def tw14519586488354259088:=0
def tw14539713775327656070:=0
def tw14640874010807043101:=0
def tw14697323404907975674:=0
def tw14721004574290192753:=0
def tw14740747160875460217:=0
def tw14741099684486534719:=0
def tw14759638555622498019:=0
def tw14799908186838599985:=0
def tw14852548353431853364:=0
def tw14908760836994504907:=0
def tw15016740898310944681:=0
def tw15118230130641091413:=0
def tw1518785831474885265:=0
def tw15220504668675418948:=0
def tw15263901334612728451:=0
def tw15369074170999367921:=0
def tw15420713882558795761:=0
def tw15422322083186658337:=0
def tw15427715679664999979:=0
def tw15469036809966549783:=0
def tw15496762361783063762:=0
def tw15498338328449461596:=0
def tw15516575355578687660:=0
def tw15573149350731510964:=0
def tw15642240164523044527:=0
def tw15689173127297598865:=0
def tw15818139717241975088:=0
def tw15859967073935029919:=0
def tw15976022337873627052:=0
def tw16022417328514128278:=0
def tw16118052524206178661:=0
def tw16124737855583064096:=0
def tw1615247265611797650:=0
def tw16227860546729889549:=0
def tw16481063175368243545:=0
def tw16492105363017535715:=0
def tw1668984861306729582:=0
def tw16706670250652822699:=0
def tw16714064321092024383:=0
def tw16750370248021982335:=0
def tw16752323457257152050:=0
def tw16847259317686296522:=0
def tw16951603910687361802:=0
def tw16994911899951935665:=0
def tw16998353879637046691:=0
def tw17084266035597071796:=0
def tw171235330770811844:=0
def tw17178164711258956069:=0
def tw1728696589009612966:=0
def tw17406854532260541419:=0
def tw17470958660916221752:=0
def tw17479597230688905856:=0
def tw17526694121645815436:=0
def tw17568726417413589072:=0
def tw17609769787129852258:=0
def tw18026887706703182622:=0
def tw18074946114986864051:=0
def tw18100302212320220176:=0
def tw18136502498648085279:=0
def tw18256446474868002224:=0
def tw1905662311893611112:=0
def tw1948538785050149367:=0
def tw2096269414308778512:=0
def tw2150734104743161097:=0
def tw2203022440083834006:=0
def tw2302235878407897529:=0
def tw2406805945083590432:=0
def tw2412614304938545474:=0
def tw244788401656573031:=0
def tw2483010631626628195:=0
def tw2509692244736480004:=0
def tw255048410656631634:=0
def tw2559040630237631617:=0
def tw2575510825988852141:=0
def tw2709020654686954257:=0
def tw2714327466183939748:=0
def tw2783254534232216241:=0
def tw2920087884318871152:=0
def tw3033593855386171515:=0
def tw3142120454723480421:=0
def tw3244337552939496708:=0
def tw3259369195007562200:=0
def tw3411447237039397311:=0
def tw3506165976742960537:=0
def tw351759560420910437:=0
def tw354813515644673016:=0
def tw3717493053357742892:=0
def tw3798709377491785373:=0
def tw3854048301616038342:=0
def tw3861504164812048796:=0
def tw3948521836116049224:=0
def tw3955027939868159389:=0
def tw3989220374351915911:=0
def tw4048718933779963024:=0
def tw4120081959728077543:=0
def tw4174198564680648664:=0
def tw4182650476369357592:=0
def tw4292580319456658924:=0
def tw4336680064832243866:=0
def tw4380077678015081027:=0
def tw438231667572037872:=0
def tw4428218444972858701:=0
def tw4447518228811616205:=0
def tw4479590196149964494:=0
def tw4485725191751716104:=0
def tw4623992987436729263:=0
def tw4633521869390772116:=0
def tw4636732807996238297:=0
def tw4660674027362932375:=0
def tw4662371121070858931:=0
def tw4811713007697220567:=0
def tw48587435083035729:=0
def tw4868622900325910922:=0
def tw4877041839710512312:=0
def tw4889612194347652551:=0
def tw4944973707188953481:=0
def tw4973727781413296629:=0
def tw5057936084151632786:=0
def tw5061705496506706008:=0
def tw5074775544556824678:=0
def tw515782504555451410:=0
def tw5158543360651711644:=0
def tw5274936092373878514:=0
def tw534887522345330875:=0
def tw5419420348963630963:=0
def tw5509603448859676294:=0
def tw560238750812868988:=0
def tw5614965226741984850:=0
def tw5641722819753846077:=0
def tw5687816616583271771:=0
def tw5716998576660702269:=0
def tw5830151443045380487:=0
def tw5902595459397194567:=0
def tw6112664775733092073:=0
def tw6116970080562627664:=0
def tw6117382662744960324:=0
def tw6158154827537485823:=0
def tw6204923753887421123:=0
def tw6234932439813279817:=0
def tw6269343891807394591:=0
def tw6347176879159560539:=0
def tw637470445259259875:=0
def tw6426734064108239916:=0
def tw6442573480642301233:=0
def tw6492719604546364522:=0
def tw6503343810772446223:=0
def tw6526821171077947235:=0
def tw6543727239498804275:=0
def tw6697438921878835649:=0
def tw6754250187316211043:=0
def tw67582850271636492:=0
def tw6802590709317796477:=0
def tw6973736636559948025:=0
def tw6985891234885477635:=0
def tw7144724513841971900:=0
def tw7163439137774549755:=0
def tw7209466788362400113:=0
def tw7267323107220700066:=0
def tw7268861749586161067:=0
def tw7319641856105861670:=0
def tw7332824357731376878:=0
def tw7356273100207537079:=0
def tw7402101918149159876:=0
def tw7532789550030747696:=0
def tw7555514168768958721:=0
def tw7604970812588518534:=0
def tw7663965798256922577:=0
def tw7752879972207901350:=0
def tw7789419166120725430:=0
def tw7795917257540442028:=0
def tw7853600002138779591:=0
def tw7897125792551640264:=0
def tw8029742736507883036:=0
def tw8167934215063989700:=0
def tw8183817891275481068:=0
def tw8232033108893282604:=0
def tw8324704258857492516:=0
def tw8352004248226993310:=0
def tw8361950777568054218:=0
def tw8393270872123035042:=0
def tw8394103353887569335:=0
def tw8420045590304971944:=0
def tw8439905848854399224:=0
def tw8455651698768902922:=0
def tw8520099099596562996:=0
def tw8527391584181018120:=0
def tw8551521020053628813:=0
def tw8600912508596122470:=0
def tw8626117999860150720:=0
def tw8630238103932876382:=0
def tw8660323518501392016:=0
def tw874874741013949708:=0
def tw8877637197874005769:=0
def tw8883591714651640819:=0
def tw8912242086656075122:=0
def tw9022276623399247238:=0
def tw902554070055899731:=0
def tw9116732447653989907:=0
def tw9123998348152348234:=0
def tw9198470285198078959:=0
def tw9236532735244397485:=0
def tw9266070969118269559:=0
def tw9293537889577779756:=0
def tw9329920919303911309:=0
def tw9340648683132453550:=0
def tw9360142327502161377:=0
def tw9407075612232597436:=0
def tw942774425636323842:=0
def tw9432689017935484888:=0
def tw9435852197476738403:=0
def tw9464395317947901161:=0
def tw9493842989499756986:=0
def tw9536249852287802433:=0
def tw9556946844170227446:=0
def tw9689338654605762773:=0
def tw9705924986745976306:=0
def tw9773932215437681216:=0
def tw9824843356452032007:=0
def tw9847358967564096311:=0
def tw9924888894034437590:=0
end PySem.W.Fast
open PySem PySem.W PyProof.Rows
set_option maxRecDepth 100000 in
set_option maxHeartbeats 0 in
theorem PySem.Challenge.cw_piecebounds_k50_whole_changes_and_bounds_holds : PySem.Challenge.rw_piecebounds_k50_whole_changes_and_bounds.Holds := by
  w_on; o_law; k_head; (case hw => w_witness2)
  k_fill
  refine K.walk (l := PySem.Challenge.rw_piecebounds_k50_whole_changes_and_bounds) rfl rfl (fun w h Y => PySem.W.kIn_of Y) ?F
  case F =>
    intro w mg fa h KX G hmg
    refine' K.all_mk KX G hmg ?a0 ?l0 ?c0 ?k0 ?a1 ?l1 ?c1 ?k1 ?a2 ?l2 ?c2 ?k2 ?a3 ?i3 ?l3 ?c3 ?k3 ?a4 ?l4 ?c4 ?k4 ?a5 ?l5 ?c5 ?k5 ?a6 ?l6 ?c6 ?k6 ?a7 ?l7 ?c7 ?k7 ?a8 ?l8 ?c8 ?k8 ?a9 ?l9 ?c9 ?k9 ?a10 ?l10 ?c10 ?k10 ?a11 ?l11 ?c11 ?k11 ?a12 ?l12 ?c12 ?k12 ?a13 ?a14 ?i14 ?l14 ?c14 ?k14 ?a15 ?l15 ?c15 ?k15 ?a16 ?l16 ?c16 ?k16 ?a17 ?l17 ?c17 ?k17 ?a18 ?a19 ?i19 ?l19 ?c19 ?k19 ?a20 ?l20 ?c20 ?k20 ?a21 ?l21 ?c21 ?k21 ?a22 ?l22 ?c22 ?k22 ?a23 ?l23 ?c23 ?k23 ?a24 ?l24 ?c24 ?k24 ?a25 ?l25 ?c25 ?k25 ?a26 ?a27 ?i27 ?l27 ?c27 ?k27 ?a28 ?l28 ?c28 ?k28 ?a29 ?l29 ?c29 ?k29 ?a30 ?l30 ?c30 ?k30 ?a31 ?i31 ?l31 ?c31 ?k31 ?a32 ?i32 ?l32 ?c32 ?k32 ?a33 ?i33 ?l33 ?c33 ?k33 ?a34 ?i34 ?l34 ?c34 ?k34 ?a35 ?i35 ?l35 ?c35 ?k35 ?a36 ?l36 ?c36 ?k36 ?a37 ?i37 ?l37 ?c37 ?k37 ?a38 ?l38 ?c38 ?k38 ?a39 ?l39 ?c39 ?k39 ?aC ?pg ?hd ?po ?sa ?mk ?kc ?n_numbers ?n_done ?g_MOST_NUMBERS ?z0 ?z1 ?z2 ?z3 ?z4 ?z5 ?z6 ?z7 ?z8 ?z9 ?z10 ?z11 ?z12 ?z13 ?z14 ?z15 ?z16
    (case aC | a0 | l0 | c0 | k0 | a1 | l1 | c1 | k1 | a2 | l2 | c2 | k2 | a3 | i3 | l3 | c3 | k3 | a4 | l4 | c4 | k4 | a5 | l5 | c5 | k5 | a6 | l6 | c6 | k6 | a7 | l7 | c7 | k7 | a8 | l8 | c8 | k8 | a9 | l9 | c9 | k9 | a10 | l10 | c10 | k10 | a11 | l11 | c11 | k11 | a12 | l12 | c12 | k12 | a13 | a14 | i14 | l14 | c14 | k14 | a15 | l15 | c15 | k15 | a16 | l16 | c16 | k16 | a17 | l17 | c17 | k17 | a18 | a19 | i19 | l19 | c19 | k19 | a20 | l20 | c20 | k20 | a21 | l21 | c21 | k21 | a22 | l22 | c22 | k22 | a23 | l23 | c23 | k23 | a24 | l24 | c24 | k24 | a25 | l25 | c25 | k25 | a26 | a27 | i27 | l27 | c27 | k27 | a28 | l28 | c28 | k28 | a29 | l29 | c29 | k29 | a30 | l30 | c30 | k30 | a31 | i31 | l31 | c31 | k31 | a32 | i32 | l32 | c32 | k32 | a33 | i33 | l33 | c33 | k33 | a34 | i34 | l34 | c34 | k34 | a35 | i35 | l35 | c35 | k35 | a36 | l36 | c36 | k36 | a37 | i37 | l37 | c37 | k37 | a38 | l38 | c38 | k38 | a39 | l39 | c39 | k39 | pg | hd | po | sa | mk | kc | n_numbers | n_done | g_MOST_NUMBERS | z0 | z1 | z2 | z3 | z4 | z5 | z6 | z7 | z8 | z9 | z10 | z11 | z12 | z13 | z14 | z15 | z16 => k_is)
