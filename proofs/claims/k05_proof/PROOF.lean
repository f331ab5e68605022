import PyProof.Rows.All
import Wide.All
import OpenK.AllK
import Wide.FinOn
import Lean
import PyProof.EqAt
import PyProof.EqKinds
import PyProof.TupleCall
import PySem.Challenge.RW_ringlayers_k05_whole_faces
noncomputable section
set_option Elab.async false
set_option linter.all false
set_option maxRecDepth 100000
namespace L2
open PySem PySem.Spec PyProof.Rows
abbrev Key:=Sum Int Str
def oi:Key->Value->Bool
 | .inl k,v=>Value.isInt k v
 | .inr x,v=>Value.isStrOf x v
noncomputable def GP (w:World):Key->Int
 | .inl k=>hashInt k
 | .inr x=>hashStr w x
def bT:∀{k:Key} {v:Value},oi k v=true->(∃i t,k=Sum.inl i/\v=Value.int i t)\/(∃x t,k=Sum.inr x/\v=Value.str x t)
 | .inl i,v,h=>by
   obtain⟨t,e⟩:=Value.isInt_shape (k:=i) (v:=v) h;exact .inl ⟨i,t,rfl,e⟩
 | .inr x,v,h=>by
   obtain⟨t,e⟩:=Value.isStrOf_shape (x:=x) (v:=v) h;exact .inr ⟨x,t,rfl,e⟩
def xG (i:Int)(t:Tok):oi (.inl i) (.int i t)=true:=by simp[oi,Value.isInt]
def xF (x:Str)(t:Tok):oi (.inr x) (.str x t)=true:=by simp[oi,Value.isStrOf]
def Eb (a b:Int):decide ((Sum.inl a:Key)=Sum.inl b)=(a==b):=by
 by_cases e:a=b
 ·subst e;simp
 ·have h:¬ (Sum.inl a:Key)=Sum.inl b:=fun q=>e (Sum.inl.inj q);rw[decide_eq_false h];exact(beq_eq_false_iff_ne.mpr e).symm
def D8 (a b:Str):decide ((Sum.inr a:Key)=Sum.inr b)=decide (a=b):=by
 by_cases e:a=b
 ·subst e;simp
 ·have h:¬ (Sum.inr a:Key)=Sum.inr b:=fun q=>e (Sum.inr.inj q);rw[decide_eq_false h,decide_eq_false e]
def Ea (a:Int)(b:Str):decide ((Sum.inl a:Key)=Sum.inr b)=false:=decide_eq_false (fun q=>nomatch q)
def D9 (a:Str)(b:Int):decide ((Sum.inr a:Key)=Sum.inl b)=false:=decide_eq_false (fun q=>nomatch q)
def aW (prog:Program)(w:World):PySem.KeyKind prog w Key where
 is:=oi
 hash:=GP w
 inj:=fun v a b ha hb=>by
  rcases bT ha with ⟨i,t,rfl,rfl⟩ | ⟨x,t,rfl,rfl⟩
  ·rcases bT hb with ⟨j,u,rfl,e⟩ | ⟨y,u,rfl,e⟩
   ·injection e with e1 _;rw[e1]
   ·exact nomatch e
  ·rcases bT hb with ⟨j,u,rfl,e⟩ | ⟨y,u,rfl,e⟩
   ·exact nomatch e
   ·injection e with e1 _;rw[e1]
 byValue:=fun k v h=>by
  rcases bT h with ⟨i,t,rfl,rfl⟩ | ⟨x,t,rfl,rfl⟩ <;> rfl
 pyHash:=fun hv h=>by
  rcases bT hv with ⟨i,t,rfl,rfl⟩ | ⟨x,t,rfl,rfl⟩
  ·exact wpAny_pyHash_int h
  ·exact wpAny_pyHash_str h
 eqBool:=fun hu hv h=>by
  rcases bT hu with ⟨i,t,rfl,rfl⟩ | ⟨x,t,rfl,rfl⟩
  ·rcases bT hv with ⟨j,u,rfl,rfl⟩ | ⟨y,u,rfl,rfl⟩
   ·rw[Eb] at h;exact wpAny_eqBool_int h
   ·rw[Ea] at h;exact SeqAt.EqAt.int_str i t y u _ _ _ _ h
  ·rcases bT hv with ⟨j,u,rfl,rfl⟩ | ⟨y,u,rfl,rfl⟩
   ·rw[D9] at h;exact SeqAt.EqAt.str_int x t j u _ _ _ _ h
   ·rw[D8] at h;exact wpAny_eqBool_str h
 «strs»:=fun k x t v h=>by
  rcases bT h with ⟨i,u,rfl,e⟩ | ⟨y,u,rfl,e⟩
  ·exact nomatch e
  ·injection e with e1 _;subst e1;cases v <;> rfl
def rS (prog:Program)(w:World)(i:Int)(t:Tok):(aW prog w).is (.inl i) (.int i t)=true:=xG i t
def rR (prog:Program)(w:World)(x:Str)(t:Tok):(aW prog w).is (.inr x) (.str x t)=true:=xF x t
inductive V where
 | non | bl (b:Bool) | int (i:Int) | str (x:Str) | byt (b:Array UInt8) | flt (b:UInt64) | ref (a:Addr) | ty (n:String)
 deriving DecidableEq
noncomputable def RelV:V->Value->Prop
 | .non,u=>u=Value.none
 | .bl b,u=>u=Value.bool b
 | .int i,u=>∃t,u=Value.int i t
 | .str x,u=>∃t,u=Value.str x t
 | .byt b,u=>∃t,u=Value.bytes b t
 | .flt b,u=>∃t,u=Value.float b t
 | .ref a,u=>u=Value.ref a
 | .ty n,u=>u=Value.type n
abbrev Vals:List V->List Value->Prop:=Paired RelV
def Vals.length {xs:List V}{us:List Value}(r:Vals xs us):xs.length=us.length:=Paired.length r
def Vals.get:∀{xs:List V} {us:List Value} {i:Nat} {x:V},Vals xs us->xs[i]? = some x->∃u,us[i]? = some u/\RelV x u
 | _,_,_,_,.nil,e=>by simp at e
 | _,_,0,_,.cons r _,e=>by simp at e;subst e;exact⟨_,rfl,r⟩
 | _,_,i+1,x,.cons _ t,e=>by
   obtain⟨u,h1,h2⟩:=Vals.get (i:=i) (x:=x) t (by simpa using e);exact⟨u,by simpa using h1,h2⟩
def Vals.set {x:V}{u:Value}(r:RelV x u):∀{xs:List V} {us:List Value} (i:Nat),Vals xs us->Vals (xs.set i x) (us.set i u)
 | _,_,_,.nil=>.nil
 | _,_,0,.cons _ t=>.cons r t
 | _,_,i+1,.cons q t=>.cons q (Vals.set r i t)
def Vals.append:∀{xs ys:List V} {us ws:List Value},Vals xs us->Vals ys ws->Vals (xs++ys) (us++ws)
 | _,_,_,_,.nil,s=>s
 | _,_,_,_,.cons r t,s=>.cons r (Vals.append t s)
def Vals.take:∀{xs:List V} {us:List Value} (n:Nat),Vals xs us->Vals (xs.take n) (us.take n)
 | _,_,0,_=>.nil
 | _,_,_+1,.nil=>.nil
 | _,_,n+1,.cons r t=>.cons r (Vals.take n t)
def Vals.drop:∀{xs:List V} {us:List Value} (n:Nat),Vals xs us->Vals (xs.drop n) (us.drop n)
 | _,_,0,r=>r
 | _,_,_+1,.nil=>.nil
 | _,_,n+1,.cons _ t=>Vals.drop n t
def RelO:Option V->Option Value->Prop
 | some v,some u=>RelV v u
 | none,none=>True
 | _,_=>False
def KV {κ:Type}:List (κ×V)->List (κ×Value)->Prop:=Paired fun (p:κ×V) (q:κ×Value)=>p.1=q.1/\RelV p.2 q.2
noncomputable def kV:Key->V
 | .inl i=>.int i
 | .inr x=>.str x
inductive HO where
 | lst (xs:List V)
 | tup (xs:List V)
 | dK (kvs:List (Key×V)) | dT (kvs:List (List Key×V))
 | set (S:Int->Bool) (n:Nat)
 | ins (C dx:Addr) (fs:List (Str×V))
 | own (x:Addr)
 | xd (fs:List (Str×V))
 | met (f x:Addr)
 | rng (lo hi:Int)
 | frz (o:Obj) (u:HO)
 | tbl (ps:Array Value)
 | ext (φ:Heap->Prop)
abbrev Hp:=Addr->Option HO
noncomputable def bm (H:Hp)(a:Addr)(o:HO):Hp:=fun b=>if b=a then some o else H b
def aA {H:Hp}{a:Addr}{o:HO}:bm H a o a=some o:=by unfold bm;rw[if_pos rfl]
def ay {H:Hp}{a b:Addr}{o:HO}(h:b≠a):bm H a o b=H b:=by unfold bm;rw[if_neg h]
def Bj {H:Hp}{a:Addr}{o u:HO}:bm (bm H a o) a u=bm H a u:=by
 funext b;unfold bm;split <;> rfl
def CS {H:Hp}{a b:Addr}{o u:HO}(h:H a=some o)(h':H b=some u)(d:o≠u):a≠b:=by
 intro e;subst e;rw[h] at h';exact d (Option.some.inj h')
def aC {H:Hp}{a b:Addr}{o:HO}(h:H a=some o)(h':H b=none):a≠b:=by
 intro e;subst e;rw[h] at h';cases h'
section
variable (P:Program)(w:World)
def ObjOk (H:Hp)(h:Heap)(a:Addr):HO->Prop
 | .lst xs=>xs.length<=sizeLine/\∃(its:List Value) (n:Nat),Vals xs its/\h.get? a=some { cls:=.type "list",data:=.seq its.toArray n }
 | .tup xs=>xs.length<=sizeLine/\∃its:List Value,Vals xs its/\IsTup h a its.toArray
 | .dK kvs=>kvs.length<=sizeLine/\(a==sysModules)=false/\∃vs,KV kvs vs/\h.DictOf (aW P w) a vs
 | .dT kvs=>kvs.length<=sizeLine/\(a==sysModules)=false/\∃xs:List (List Key×Addr×Value),
  Paired (fun (p:List Key×V) (q:List Key×Addr×Value)=>p.1=q.1/\H q.2.1=some (.tup (p.1.map kV))/\RelV p.2 q.2.2) kvs xs /\
  ∃o es ep,h.get? a=some o/\o.ExactDict/\o.data=.dict es ep/\es.toList=xs.map (entryOfKey (tupleKind (aW P w)))/\(xs.map (·.1)).Nodup
 | .set S n=>h.SetOf (intKind P w) a S n
 | .ins C dx fs=>H dx=some (.own a)/\fs.length<=1000/\dx≠a/\h.get? a=some (PySem.W.instObj C dx) /\
  ∃mA,h.Ns1 dx mA/\(∀f,RelO (fs.lookup f) (mA f))/\PySem.Within mA (fs.map (·.1))
 | .own _=>∃o,h.get? a=some o
 | .xd fs=>∃mA,h.Ns1 a mA/\∀f,RelO (fs.lookup f) (mA f)
 | .rng lo hi=>∃t u v,h.get? a=some { cls:=.type "range",data:=.fields #[.int lo t,.int hi u,.int 1 v] }
 | .frz o u=>h.get? a=some o/\ObjOk H h a u
 | .tbl ps=>h.get? a=some { cls:=.none,data:=.fields ps }
 | .met f x=>h.get? a=some (PySem.W.methodObj (.ref f) (.ref x))
 | .ext φ=>φ h/\(∃o,h.get? a=some o)/\∀h1 h2:Heap,φ h1->(∀o,h1.get? a=some o->h2.get? a=some o)->φ h2
def HOk (H:Hp)(h:Heap):Prop:=∀a o,H a=some o->ObjOk P w H h a o
end
section
variable {P:Program}{w:World}{H H':Hp}{h h':Heap}{a:Addr}{o:HO}
def ObjOk.lt (x:ObjOk P w H h a o):a<h.objs.size:=by
 cases o with
 | lst xs=>obtain⟨_,_,_,_,e⟩:=x;exact Heap.lt_size e
 | tup xs=>obtain⟨_,_,_,p⟩:=x;exact p.lt
 | dK kvs=>obtain⟨_,_,_,_,o,_,_,e,_⟩:=x;exact Heap.lt_size e
 | dT kvs=>obtain⟨_,_,_,_,o,_,_,e,_⟩:=x;exact Heap.lt_size e
 | set S n=>obtain⟨o,_,_,_,e,_⟩:=x;exact Heap.lt_size e
 | ins C dx fs=>obtain⟨_,_,_,e,_⟩:=x;exact Heap.lt_size e
 | own y=>obtain⟨_,e⟩:=x;exact Heap.lt_size e
 | xd fs=>obtain⟨_,⟨_,_,_,e,_⟩,_⟩:=x;exact Heap.lt_size e
 | rng lo hi=>obtain⟨_,_,_,e⟩:=x;exact Heap.lt_size e
 | frz ob u=>obtain⟨e,_⟩:=x;exact Heap.lt_size e
 | tbl ps=>exact Heap.lt_size (show h.get? a=some _ from x)
 | met f y=>exact Heap.lt_size (show h.get? a=some _ from x)
 | ext φ=>obtain⟨_,⟨_,e⟩,_⟩:=x;exact Heap.lt_size e
def Paired.mapP {α β:Type}{F G:α->β->Prop}:∀{l₁:List α} {l₂:List β},Paired F l₁ l₂->(∀a b,F a b->G a b)->Paired G l₁ l₂
 | _,_,.nil,_=>.nil
 | _,_,.cons r t,f=>.cons (f _ _ r) (Paired.mapP t f)
def ObjOk.stay (x:ObjOk P w H h a o)(k:∀b u,(b=a\/H b=some (.own a))->h.get? b=some u->h'.get? b=some u)
 (ho:∀b,H b=some (.own a)->H' b=some (.own a)) (ht:∀b xs,H b=some (.tup xs)->H' b=some (.tup xs)):ObjOk P w H' h' a o:=by
 induction o with
 | lst xs=>obtain⟨z,its,n,r,e⟩:=x;exact⟨z,its,n,r,k _ _ (.inl rfl) e⟩
 | tup xs=>obtain⟨z,its,r,ob,e,c⟩:=x;exact⟨z,its,r,ob,k _ _ (.inl rfl) e,c⟩
 | dK kvs=>obtain⟨z,y,vs,r,ob,es,ep,e,c⟩:=x;exact⟨z,y,vs,r,ob,es,ep,k _ _ (.inl rfl) e,c⟩
 | dT kvs =>
   obtain⟨z,y,xs,r,ob,es,ep,e,c⟩:=x;exact⟨z,y,xs,Paired.mapP r fun p q z=>⟨z.1,ht _ _ z.2.1,z.2.2⟩,ob,es,ep,k _ _ (.inl rfl) e,c⟩
 | set S n=>obtain⟨ob,es,ep,t,e,c⟩:=x;exact⟨ob,es,ep,t,k _ _ (.inl rfl) e,c⟩
 | ins C dx fs =>
   obtain⟨d,z,ne,e,mA,⟨od,es,ep,e2,c⟩,r⟩:=x;exact⟨ho _ d,z,ne,k _ _ (.inl rfl) e,mA,⟨od,es,ep,k _ _ (.inr d) e2,c⟩,r⟩
 | own y=>obtain⟨ob,e⟩:=x;exact⟨ob,k _ _ (.inl rfl) e⟩
 | xd fs=>obtain⟨mA,⟨od,es,ep,e,c⟩,r⟩:=x;exact⟨mA,⟨od,es,ep,k _ _ (.inl rfl) e,c⟩,r⟩
 | rng lo hi=>obtain⟨t,u,v,e⟩:=x;exact⟨t,u,v,k _ _ (.inl rfl) e⟩
 | frz ob u ih=>obtain⟨e,q⟩:=x;exact⟨k _ _ (.inl rfl) e,ih q⟩
 | tbl ps =>
   have e:h.get? a=some { cls:=.none,data:=.fields ps }:=x;show h'.get? a=some { cls:=.none,data:=.fields ps };exact k a _ (.inl rfl) e
 | met f y =>
   have e:h.get? a=some (PySem.W.methodObj (.ref f) (.ref y)):=x;show h'.get? a=some (PySem.W.methodObj (.ref f) (.ref y));exact k a _ (.inl rfl) e
 | ext φ=>obtain⟨p,⟨o,e⟩,st⟩:=x;exact⟨st _ _ p fun o q=>k _ _ (.inl rfl) q,⟨o,k _ _ (.inl rfl) e⟩,st⟩
def HOk.lt (x:HOk P w H h)(e:H a=some o):a<h.objs.size:=(x a o e).lt
def HOk.fresh (x:HOk P w H h)(e:h.objs.size<=a):H a=none:=by
 cases q:H a with
 | none=>rfl
 | some u=>exact absurd (Nat.lt_of_lt_of_le (x.lt q) e) (Nat.lt_irrefl _)
def HOk.kept (x:HOk P w H h)(k:∀b u,h.get? b=some u->h'.get? b=some u):HOk P w H h':=fun a o e =>
 (x a o e).stay (fun b u _ q=>k b u q) (fun _ q=>q) fun _ _ q=>q
def HOk.laid (x:HOk P w H h)(k:∀b u,h.get? b=some u->h'.get? b=some u)(hp:h.objs.size<=a)(new:ObjOk P w (bm H a o) h' a o):HOk P w (bm H a o) h':=fun b u e=>by
 have hn:=x.fresh hp;by_cases hb:b=a
 ·subst hb;rw[aA] at e;cases e;exact new
 ·rw[ay hb] at e;exact(x b u e).stay (fun c v _ q=>k c v q) (fun c q=>by rw[ay (aC q hn)];exact q) fun c xs q=>by rw[ay (aC q hn)];exact q
end
def Rd (H:Hp)(a:Addr)(u:HO):Prop:=H a=some u\/∃o,H a=some (.frz o u)
def Rd.ok {P:Program}{w:World}{H:Hp}{h:Heap}{a:Addr}{u:HO}(r:Rd H a u)(x:HOk P w H h):ObjOk P w H h a u:=by
 rcases r with r | ⟨o,r⟩
 ·exact x a u r
 ·obtain⟨_,q⟩:=x a _ r;exact q
noncomputable def Fc:Option HO->Prop
 | some (.lst _)=>True
 | some (.dK _)=>True
 | some (.dT _)=>True
 | some (.set _ _)=>True
 | some (.ins _ _ _)=>True
 | some (.ext _)=>True
 | _=>False
section
variable {P:Program}{w:World}{H:Hp}{h h':Heap}{x e:Addr}{o':HO}
def HOk.write (ok:HOk P w H h)(mu:Fc (H x))(he:e=x\/H e=some (.own x))(k:∀b u,b≠e->h.get? b=some u->h'.get? b=some u)(heo:∃u,h'.get? e=some u)
 (new:ObjOk P w (bm H x o') h' x o'):HOk P w (bm H x o') h':=fun b u q=>by
 have nown:∀c y,H c=some (.own y)->c≠x:=fun c y r z=>by subst z;rw[r] at mu;exact mu
 have ntup:∀c xs,H c=some (.tup xs)->c≠x:=fun c xs r z=>by subst z;rw[r] at mu;exact mu
 by_cases hb:b=x
 ·subst hb;rw[aA] at q;cases q;exact new
 ·rw[ay hb] at q;by_cases hbe:b=e
  ·have q':H b=some (.own x):=by
    rcases he with z | z
    ·exact absurd (hbe.trans z) hb
    ·rw[hbe];exact z
   rw[q] at q';cases q';obtain⟨v,hv⟩:=heo;exact⟨v,by rw[hbe];exact hv⟩
  ·refine(ok b u q).stay (fun c v hc r=>k c v ?_ r) (fun c r=>by rw[ay (nown c b r)];exact r) fun c xs r=>by rw[ay (ntup c xs r)];exact r
   rcases hc with rfl | hc
   ·exact hbe
   ·rintro rfl;rcases he with z | z
    ·exact nown c b hc z
    ·rw[hc] at z;cases z;exact hb rfl
end
structure Un (fs ex:List Addr)(H H':Hp)(h h':Heap):Prop where
 keep:∀b o,h.get? b=some o->H b=none->b∉fs->b∉ex->h'.get? b=some o
 slot:∀b o,h.get? b=some o->H b=none->b∈fs->b∉ex->∃sl,h'.get? b=some { o with slots:=sl }
 free:∀b o,h.get? b=some o->H b=none->b∉ex->H' b=none
 there:∀b o,h.get? b=some o->b∉ex->∃o',h'.get? b=some o'
 tups:∀b xs,H b=some (.tup xs)->H' b=some (.tup xs)
 frzs:∀b o u,H b=some (.frz o u)->H' b=some (.frz o u)
 tbls:∀b ps,H b=some (.tbl ps)->∃more,H' b=some (.tbl (ps++more))
section
variable {fs fs' ex ex':List Addr}{H H1 H2:Hp}{h h1 h2 h':Heap}{a x e:Addr}{o:HO}
def Un.any (u:Un fs ex H H1 h h1){b:Addr}{ob:Obj}(q:h.get? b=some ob)(n:H b=none)(hx:b∉ex):∃sl,h1.get? b=some { ob with slots:=sl }:=by
 by_cases hb:b∈fs
 ·exact u.slot b ob q n hb hx
 ·exact⟨ob.slots,u.keep b ob q n hb hx⟩
def Un.kept (k:∀b u,h.get? b=some u->h'.get? b=some u):Un fs ex H H h h' :=
 ⟨fun b ob q _ _ _=>k b ob q,fun b ob q _ _ _=>⟨ob.slots,k b ob q⟩,fun _ _ _ n _=>n,fun b ob q _=>⟨ob,k b ob q⟩,fun _ _ q=>q,fun _ _ _ q=>q,fun _ ps q=>⟨#[],by rw[q];simp⟩⟩
def Un.refl:Un fs ex H H h h:=Un.kept fun _ _ q=>q
def Un.laid (k:∀b u,h.get? b=some u->h'.get? b=some u)(hp:h.objs.size<=a)(hn:H a=none):Un fs ex H (bm H a o) h h' where
 keep:=fun b u q _ _ _=>k b u q
 slot:=fun b u q _ _ _=>⟨u.slots,k b u q⟩
 free:=fun b u q n _=>by rw[ay (Nat.ne_of_lt (Nat.lt_of_lt_of_le (Heap.lt_size q) hp))];exact n
 there:=fun b u q _=>⟨u,k b u q⟩
 tups:=fun b xs q=>by rw[ay (aC q hn)];exact q
 frzs:=fun b u xs q=>by rw[ay (aC q hn)];exact q
 tbls:=fun b ps q=>⟨#[],by rw[ay (aC q hn),q];simp⟩
def Un.write (mu:Fc (H x))(he:e=x\/H e=some (.own x))(k:∀b u,b≠e->h.get? b=some u->h'.get? b=some u)(heo:∃u,h'.get? e=some u):Un fs ex H (bm H x o) h h':=by
 have hx:∀b,H b=none->b≠x:=fun b n z=>by subst z;rw[n] at mu;exact mu
 have hb:∀b,H b=none->b≠e:=fun b n z=>by
  subst z;rcases he with r | r
  ·exact hx b n r
  ·rw[n] at r;cases r
 have hm:∀b u,H b=some u->¬ Fc (some u)->b≠x:=fun b u q nm z=>by subst z;rw[q] at mu;exact nm mu
 refine⟨fun b u q n _ _=>k b u (hb b n) q,fun b u q n _ _=>⟨u.slots,k b u (hb b n) q⟩,fun b u q n _=>by rw[ay (hx b n)];exact n,fun b u q _=>?_,
  fun b xs q=>by rw[ay (hm b _ q fun z=>z)];exact q,fun b u xs q=>by rw[ay (hm b _ q fun z=>z)];exact q,fun b ps q=>⟨#[],by rw[ay (hm b _ q fun z=>z),q];simp⟩⟩
 by_cases hbe:b=e
 ·subst hbe;exact heo
 ·exact⟨u,k b u hbe q⟩
end
noncomputable def Gh (h:Heap)(H:Hp):List Addr:=(List.range h.objs.size).filter fun a=>(H a).isSome
def pT (h:Heap)(H:Hp):Heap:=PySem.W.hideAll h (Gh h H)
def xM (h:Heap)(H:Hp):(pT h H).objs.size=h.objs.size:=PySem.W.hideAll_size _ _
def Ag {h:Heap}{H:Hp}{b:Addr}{o:Obj}(e:h.get? b=some o)(n:H b=none):(pT h H).get? b=some o :=
 PySem.W.hideAll_get _ e fun hm=>by
  have q:(H b).isSome=true:=(List.mem_filter.mp hm).2;rw[n] at q;simp at q
def BW {h:Heap}{H:Hp}{b:Addr}{o:Obj}(e:(pT h H).get? b=some o):h.get? b=some o/\H b=none:=by
 have e':h.get? b=some o:=PySem.W.of_hideAll (Gh h H) e;refine⟨e',?_⟩;cases q:H b with
 | none=>rfl
 | some x =>
   have hm:b∈Gh h H:=List.mem_filter.mpr ⟨List.mem_range.mpr (Heap.lt_size e'),by simp[q]⟩;have z:(pT h H).get? b=none:=PySem.W.hideAll_none (Gh h H) hm;rw[z] at e;cases e
structure Mod (K:PySem.W.Frag)(mg:Str->Option Value)(base:Heap):Prop where
 kin:K.In base
 glob:base.Ns mainGlobals mg
 blt:∃mb,base.Ns builtinsNs mb/\∀x:Str,x≠"__name__"->mb x=bootBuiltins x
 nolimit:base.NoLimit
structure Cx where
 prog:Program
 w:World
 K:PySem.W.Frag
 mg:Str->Option Value
 base:Heap
 A:Around
 N:List Str
 s₀:Shared
 H₀:Hp
 env:Env
 outer:List Env
 stack:List Env
 ex:List Addr
 fn:Str->Bool
 calm:Bool
 pn:List (Addr×Obj)
 xe:Value->Shared->Prop
def nj (l:List Env):List Addr:=l.filterMap (·.frame)
abbrev Cx.fs (X:Cx):List Addr:=nj X.outer
def Gb (sc:Scope)(x:Str):Prop:=sc.names.lookup x=some .local\/sc.names.lookup x=some .cell\/sc.names.lookup x=some .free
def Loc (sc:Scope)(x:Str):Prop:=sc.names.lookup x=some .local\/sc.names.lookup x=some .cell
def Look (env:Env)(h:Heap)(m:Str->Option Value)(x:Str)(u:Value):Prop :=
 (env.kindOf x=some .local/\m x=some u)\/((env.kindOf x=some .cell\/env.kindOf x=some .free)/\∃c,env.cells.lookup x=some c/\h.IsCell c (some u))
structure Cx.Ok (X:Cx):Prop where
 mod:Mod X.K X.mg X.base
 kind:X.env.scope.kind=.function
 glob:X.env.globals=mainGlobals
 blt:X.env.builtins=builtinsNs
 above:X.s₀.heap.objs.size<=X.env.locals
 inj:∀x y c,X.env.cells.lookup x=some c->X.env.cells.lookup y=some c->x=y
 has:∀x,(X.env.kindOf x=some .cell\/X.env.kindOf x=some .free)->∃c,X.env.cells.lookup x=some c
 cab:∀x c,X.fn x=true->X.env.cells.lookup x=some c->X.s₀.heap.objs.size<=c
 hd:X.calm=true->X.A.handled=none
 frames:X.A.frames=some X.stack
 stk:X.stack=X.outer\/(X.stack=X.env::X.outer/\X.env.frame=some X.env.locals)
 exf:∀b∈X.ex,b≠X.env.locals/\∀x c,X.env.cells.lookup x=some c->c≠b
 bs:∀b o,X.base.get? b=some o->X.s₀.heap.get? b=some o/\X.H₀ b=none
 bsz:X.base.objs.size<=X.s₀.heap.objs.size
 noex:∀b o,X.base.get? b=some o->b∉X.ex
 exfs:∀b∈X.ex,b∉X.fs
 funs:X.s₀.heap.FunFrames X.base X.outer
 frf:∀b∈X.fs,X.H₀ b=none
structure Inv (X:Cx)(pins:List (Addr×Obj))(σ:List (Option V))(H:Hp)(s:Shared):Prop where
 ok:X.Ok
 os:s.os=X.s₀.os
 bare:AllBare s.gens
 base:Un X.fs X.ex X.H₀ H X.s₀.heap s.heap
 loc:∃m,s.heap.Ns X.env.locals m/\∀(i:Nat) (x:Str) (v:V),X.N[i]? = some x->σ[i]? = some (some v)->Gb X.env.scope x->∃u,RelV v u/\Look X.env s.heap m x u
 cell:∀x c,X.env.cells.lookup x=some c->∃v,s.heap.IsCell c v
 free:H X.env.locals=none
 freeC:∀x c,X.env.cells.lookup x=some c->H c=none
 pin:∀p∈X.pn++pins,s.heap.get? p.1=some p.2/\H p.1=none/\p.1≠X.env.locals/\p.1∉X.fs/\∀v,p.2.data≠.cell v
 hok:HOk X.prog X.w H s.heap
 len:σ.length=X.N.length
section
variable {X:Cx}{pins:List (Addr×Obj)}{σ:List (Option V)}{H H':Hp}{s:Shared}{h':Heap}
def Cx.Ok.nofr (ok:X.Ok){b:Addr}{o:Obj}(e:X.base.get? b=some o):b∉X.fs:=fun hb=>by
 have:=(ok.funs.mem hb).1;rw[e] at this;cases this
def Inv.bs (I:Inv X pins σ H s):∀b o,X.base.get? b=some o->s.heap.get? b=some o/\H b=none:=fun b o e =>
 ⟨I.base.keep b o (I.ok.bs b o e).1 (I.ok.bs b o e).2 (I.ok.nofr e) (I.ok.noex b o e),I.base.free b o (I.ok.bs b o e).1 (I.ok.bs b o e).2 (I.ok.noex b o e)⟩
def Inv.bk (I:Inv X pins σ H s):∀b o,X.base.get? b=some o->s.heap.get? b=some o:=fun b o e=>(I.bs b o e).1
def Inv.mod (I:Inv X pins σ H s):Mod X.K X.mg X.base:=I.ok.mod
def Inv.kIn (I:Inv X pins σ H s):X.K.In s.heap:=I.ok.mod.kin.keeps I.bk
def Inv.lt (I:Inv X pins σ H s):X.env.locals<s.heap.objs.size:=let ⟨_,hn,_⟩:=I.loc;hn.lt
def Inv.sz (I:Inv X pins σ H s):X.s₀.heap.objs.size<=s.heap.objs.size:=Nat.le_trans I.ok.above (Nat.le_of_lt I.lt)
def Inv.nofs (I:Inv X pins σ H s){a:Addr}(h:s.heap.objs.size<=a):a∉X.fs:=fun hb=>by
 obtain⟨_,o,ho,_⟩:=I.ok.funs.mem hb;exact absurd (Nat.lt_of_lt_of_le (Heap.lt_size ho) (Nat.le_trans I.sz h)) (Nat.lt_irrefl _)
def Inv.cne (I:Inv X pins σ H s):∀x c,X.env.cells.lookup x=some c->c≠X.env.locals:=fun x c e z=>by
 obtain⟨v,o,ho,hd⟩:=I.cell x c e;obtain⟨m,⟨o',es,ep,ho',hd',_⟩,_⟩:=I.loc;rw[z,ho'] at ho;cases ho;rw[hd'] at hd;cases hd
def Inv.funs (I:Inv X pins σ H s):s.heap.FunFrames X.base X.outer:=by
 have all:∀(l:List Env),(∀b∈nj l,b∈X.fs)->X.s₀.heap.FunFrames X.base l->s.heap.FunFrames X.base l:=by
  intro l;induction l with
  | nil=>intro _ _;trivial
  | cons env r ih =>
    intro hs hl;obtain⟨hk,⟨L,o,hf,hn,ho,hd⟩,hr⟩:=hl;have hL:L∈X.fs:=hs L (by unfold nj;rw[List.filterMap_cons,hf];exact List.mem_cons_self);obtain⟨sl,e⟩:=I.base.slot L o ho (I.ok.frf L hL) hL fun z=>I.ok.exfs L z hL;exact⟨hk,⟨L,_,hf,hn,e,hd⟩,ih (fun b hb=>hs b (by unfold nj;rw[List.filterMap_cons,hf];exact List.mem_cons_of_mem _ hb)) hr⟩
 exact all X.outer (fun _ hb=>hb) I.ok.funs
def Inv.stack (I:Inv X pins σ H s):s.heap.FunFrames X.base X.stack:=by
 rcases I.ok.stk with e | ⟨e,hf⟩
 ·rw[e];exact I.funs
 ·rw[e];obtain⟨m,hn,_⟩:=I.loc;refine .cons (by rw[I.ok.kind];decide) hf hn ?_ I.funs;exact Heap.get?_none_of_le (Nat.le_trans I.ok.bsz I.ok.above)
def Inv.stkSub (I:Inv X pins σ H s):∀b∈nj X.stack,b∈X.env.locals::X.fs:=fun b hb=>by
 rcases I.ok.stk with e | ⟨e,hf⟩
 ·rw[e] at hb;exact List.mem_cons_of_mem _ hb
 ·rw[e] at hb;unfold nj at hb;rw[List.filterMap_cons,hf] at hb;exact hb
def Inv.stkFree (I:Inv X pins σ H s):∀b∈nj X.stack,H b=none:=fun b hb=>by
 rcases List.mem_cons.mp (I.stkSub b hb) with e | hb
 ·rw[e];exact I.free
 ·obtain⟨_,o,ho,_⟩:=I.ok.funs.mem hb;exact I.base.free b o ho (I.ok.frf b hb) fun z=>I.ok.exfs b z hb
def Inv.step {g':Array GenState}{t':Nat}{d':Drawn}{ch:List Addr}(I:Inv X pins σ H s)
 (hch:∀b∈ch,(b∈X.ex\/X.s₀.heap.objs.size<=b)/\b≠X.env.locals/\(∀x c,X.env.cells.lookup x=some c->c≠b)/\∀p∈X.pn++pins,p.1≠b)
 (keep:∀b o,b≠X.env.locals->b∉X.fs->b∉ch->s.heap.get? b=some o->H b=none->h'.get? b=some o)
 (slot:∀b o,b≠X.env.locals->b∈X.fs->b∉ch->s.heap.get? b=some o->H b=none->∃sl,h'.get? b=some { o with slots:=sl }) (free:∀b o,b∉ch->s.heap.get? b=some o->H b=none->H' b=none)
 (there:∀b o,b∉ch->s.heap.get? b=some o->∃o',h'.get? b=some o')
 (tups:∀b xs,H b=some (.tup xs)->H' b=some (.tup xs)) (frzs:∀b o u,H b=some (.frz o u)->H' b=some (.frz o u)) (tbls:∀b ps,H b=some (.tbl ps)->∃more,H' b=some (.tbl (ps++more)))
 (ns:∀m,s.heap.Ns X.env.locals m->h'.Ns X.env.locals m) (hok:HOk X.prog X.w H' h') (hg:AllBare g') :
 Inv X pins σ H' { s with heap:=h',gens:=g',drawn:=d',toks:=t' }:=by
 have neL:∀b o,X.s₀.heap.get? b=some o->b≠X.env.locals:=fun b o e=>Nat.ne_of_lt (Nat.lt_of_lt_of_le (Heap.lt_size e) I.ok.above);have neC:∀b o,X.s₀.heap.get? b=some o->b∉X.ex->b∉ch:=fun b o e hx hb=>by
  rcases (hch b hb).1 with z | z
  ·exact hx z
  ·exact absurd (Nat.lt_of_lt_of_le (Heap.lt_size e) z) (Nat.lt_irrefl _)
 have cellK:∀x c,X.env.cells.lookup x=some c->∀v,s.heap.IsCell c v->h'.IsCell c v:=fun x c e v ⟨o,ho,hd⟩=>by
  have nch:c∉ch:=fun z=>(hch c z).2.2.1 x c e rfl;by_cases hc:c∈X.fs
  ·obtain⟨sl,q⟩:=slot c o (I.cne x c e) hc nch ho (I.freeC x c e);exact⟨_,q,hd⟩
  ·exact⟨o,keep c o (I.cne x c e) hc nch ho (I.freeC x c e),hd⟩
 refine⟨I.ok,I.os,hg,⟨fun b o e n hb hx=>?_,fun b o e n hb hx=>?_,fun b o e n hx=>?_,fun b o e hx=>?_,fun b xs e=>tups b xs (I.base.tups b xs e),fun b o xs e=>frzs b o xs (I.base.frzs b o xs e),fun b ps e=>?_⟩,?_,fun x c e=>?_,?_,fun x c e=>?_,fun p hp=>?_,hok,I.len⟩
 ·exact keep b o (neL b o e) hb (neC b o e hx) (I.base.keep b o e n hb hx) (I.base.free b o e n hx)
 ·obtain⟨sl,e1⟩:=I.base.slot b o e n hb hx;obtain⟨sl',e2⟩:=slot b _ (neL b o e) hb (neC b o e hx) e1 (I.base.free b o e n hx);exact⟨sl',e2⟩
 ·obtain⟨o',e1⟩:=I.base.there b o e hx;exact free b o' (neC b o e hx) e1 (I.base.free b o e n hx)
 ·obtain⟨o',e1⟩:=I.base.there b o e hx;exact there b o' (neC b o e hx) e1
 ·obtain⟨m1,e1⟩:=I.base.tbls b ps e;obtain⟨m2,e2⟩:=tbls b _ e1;exact⟨m1++m2,by rw[e2,Array.append_assoc]⟩
 ·obtain⟨m,hn,hl⟩:=I.loc;refine⟨m,ns m hn,fun i x v e1 e2 e3=>?_⟩;obtain⟨u,r,l⟩:=hl i x v e1 e2 e3;refine⟨u,r,?_⟩;rcases l with l | ⟨k,c,e,z⟩
  ·exact .inl l
  ·exact .inr ⟨k,c,e,cellK x c e _ z⟩
 ·obtain⟨v,z⟩:=I.cell x c e;exact⟨v,cellK x c e v z⟩
 ·obtain⟨m,⟨o,_,_,ho,_⟩,_⟩:=I.loc;exact free _ o (fun z=>(hch _ z).2.1 rfl) ho I.free
 ·obtain⟨v,o,ho,hd⟩:=I.cell x c e;exact free c o (fun z=>(hch c z).2.2.1 x c e rfl) ho (I.freeC x c e)
 ·obtain⟨e,n,ne,nf,d⟩:=I.pin p hp;have nch:p.1∉ch:=fun z=>(hch p.1 z).2.2.2 p hp rfl;exact⟨keep p.1 p.2 ne nf nch e n,free p.1 p.2 nch e n,ne,nf,d⟩
def Inv.un {t':Nat}(I:Inv X pins σ H s)(u:Un X.fs [] H H' s.heap h')(hok:HOk X.prog X.w H' h'):Inv X pins σ H' { s with heap:=h',toks:=t' }:=by
 obtain⟨m,⟨o,es,ep,ho,r⟩,_⟩:=id I.loc;obtain⟨sl,hL⟩:=u.any ho I.free (by simp);exact I.step (g':=s.gens) (d':=s.drawn) (ch:=[]) (fun _ z=>nomatch z) (fun b o _ hb _ e n=>u.keep b o e n hb (by simp)) (fun b o _ hb _ e n=>u.slot b o e n hb (by simp)) (fun b o _ e n=>u.free b o e n (by simp)) (fun b o _ e=>u.there b o e (by simp)) u.tups u.frzs u.tbls (fun m' hm=>by
  obtain⟨o',es',ep',ho',r'⟩:=hm;rw[ho] at ho';cases ho';exact⟨_,es',ep',hL,r'⟩) hok I.bare
def Inv.call {g':Array GenState}{t':Nat}{d':Drawn}{ch:List Addr}(I:Inv X pins σ H s)(u:Un (nj X.stack) ch H H' s.heap h')(hok:HOk X.prog X.w H' h')(hg:AllBare g')
 (hch:∀b∈ch,(b∈X.ex\/X.s₀.heap.objs.size<=b)/\b≠X.env.locals/\(∀x c,X.env.cells.lookup x=some c->c≠b)/\∀p∈X.pn++pins,p.1≠b) :
 Inv X pins σ H' { s with heap:=h',gens:=g',drawn:=d',toks:=t' }:=by
 obtain⟨m,⟨o,es,ep,ho,r⟩,_⟩:=id I.loc;obtain⟨sl,hL⟩:=u.any ho I.free fun z=>(hch _ z).2.1 rfl;exact I.step (ch:=ch) hch (fun b o hL hb hc e n=>u.keep b o e n (fun z=>(List.mem_cons.mp (I.stkSub b z)).elim hL hb) hc) (fun b o _ _ hc e n=>u.any e n hc) (fun b o hc e n=>u.free b o e n hc) (fun b o hc e=>u.there b o e hc) u.tups u.frzs u.tbls (fun m' hm=>by
  obtain⟨o',es',ep',ho',r'⟩:=hm;rw[ho] at ho';cases ho';exact⟨_,es',ep',hL,r'⟩) hok hg
def Inv.turned {t':Nat}{it:Addr}(I:Inv X pins σ H s)(k:∀b o,b≠it->s.heap.get? b=some o->h'.get? b=some o)(hn:H it=none)(hL:it≠X.env.locals)
 (h1:it∈X.ex\/X.s₀.heap.objs.size<=it) (h2:∀x c,X.env.cells.lookup x=some c->c≠it) (h3:∀p∈X.pn++pins,p.1≠it):Inv X pins σ H { s with heap:=h',toks:=t' }:=by
 have nit:∀b u,H b=some u->b≠it:=fun b u e z=>by rw[z,hn] at e;cases e
 refine I.step (g':=s.gens) (d':=s.drawn) (ch:=[it]) (fun b hb=>?_) (fun b o _ _ hc e _=>k b o (fun z=>hc (by simp[z])) e) (fun b o _ _ hc e _=>⟨o.slots,k b o (fun z=>hc (by simp[z])) e⟩) (fun _ _ _ _ n=>n)
  (fun b o hc e=>⟨o,k b o (fun z=>hc (by simp[z])) e⟩) (fun _ _ e=>e) (fun _ _ _ e=>e) (fun b ps e=>⟨#[],by rw[e];simp⟩) (fun m hm=>?_) (fun b u e=>?_) I.bare
 ·have e:b=it:=by simpa using hb
  subst e;exact⟨h1,hL,h2,h3⟩
 ·obtain⟨o,es,ep,ho,r⟩:=hm;exact⟨o,es,ep,k _ o (Ne.symm hL) ho,r⟩
 ·refine(I.hok b u e).stay (fun c v hc q=>k c v ?_ q) (fun _ q=>q) fun _ _ q=>q;rcases hc with z | z
  ·rw[z];exact nit b u e
  ·exact nit c _ z
def Inv.tok (I:Inv X pins σ H s)(t:Nat):Inv X pins σ H { s with toks:=t }:=I.un (h':=s.heap) (t':=t) Un.refl I.hok
def Inv.kept {t':Nat}(I:Inv X pins σ H s)(k:∀b u,s.heap.get? b=some u->h'.get? b=some u):Inv X pins σ H { s with heap:=h',toks:=t' }:=I.un (Un.kept k) (I.hok.kept k)
def Inv.laid {a:Addr}{o:HO}{t':Nat}(I:Inv X pins σ H s)(k:∀b u,s.heap.get? b=some u->h'.get? b=some u)(hp:s.heap.objs.size<=a)(new:ObjOk X.prog X.w (bm H a o) h' a o) :
 Inv X pins σ (bm H a o) { s with heap:=h',toks:=t' }:=I.un (Un.laid k hp (I.hok.fresh hp)) (I.hok.laid k hp new)
def Inv.write {x e:Addr}{o:HO}{t':Nat}(I:Inv X pins σ H s)(mu:Fc (H x))(he:e=x\/H e=some (.own x))(k:∀b u,b≠e->s.heap.get? b=some u->h'.get? b=some u)(heo:∃u,h'.get? e=some u)
 (new:ObjOk X.prog X.w (bm H x o) h' x o):Inv X pins σ (bm H x o) { s with heap:=h',toks:=t' }:=I.un (Un.write mu he k heo) (I.hok.write mu he k heo new)
def Inv.pins_of {pins':List (Addr×Obj)}(I:Inv X pins σ H s)(h:∀p∈pins',s.heap.get? p.1=some p.2/\H p.1=none/\p.1≠X.env.locals/\p.1∉X.fs/\∀v,p.2.data≠.cell v):Inv X pins' σ H s :=
 ⟨I.ok,I.os,I.bare,I.base,I.loc,I.cell,I.free,I.freeC,fun p hp=>(List.mem_append.mp hp).elim (fun z=>I.pin p (List.mem_append_left _ z)) (h p),I.hok,I.len⟩
def rQ {N:List Str}(hN:N.Nodup){i j:Nat}{x:Str}(a:N[i]? = some x)(b:N[j]? = some x):i=j:=by
 obtain⟨h1,e1⟩:=List.getElem?_eq_some_iff.mp a;obtain⟨h2,e2⟩:=List.getElem?_eq_some_iff.mp b;exact(List.getElem_inj hN).mp (e1.trans e2.symm)
def wZ {M:Model}{A:Around}{E:Value->Shared->Prop}{i:Nat}{x:Str}{v:V}{u:Value}{Q:Unit->Shared->Prop}(I:Inv X pins σ H s)(hN:X.N.Nodup)(hi:X.N[i]? = some x)(hx:Loc X.env.scope x)(r:RelV v u)
 (h:∀s',Inv X pins (σ.set i (some v)) H s'->(∃a,Heap.SameBut a s.heap s'.heap/\(a=X.env.locals\/X.env.cells.lookup x=some a))->Q () s') (hf:X.fn x=true\/X.env.scope.names.lookup x=some .local:=by first | exact .inl rfl | exact .inr rfl | assumption):wpAny M A (storeName X.env x u) Q E s:=by
 obtain⟨m,hn,hl⟩:=id I.loc;have hcls:(X.env.scope.kind==.class||(X.env.scope.kind==.module&&X.env.locals != X.env.globals))=false:=by rw[I.ok.kind];rfl
 have hiσ:i<σ.length:=by rw[I.len];exact(List.getElem?_eq_some_iff.mp hi).1
 have cne:=I.cne;have tracked:∀{a:Addr} {h':Heap},(∃o,s.heap.get? a=some o/\H a=none)->Heap.SameBut a s.heap h'->HOk X.prog X.w H h':=fun {a h'} ha hs b ob e=>by
  obtain⟨_,_,hfree⟩:=ha;refine(I.hok b ob e).stay (fun c w' hc q=>(hs.2 c ?_).trans q) (fun _ q=>q) fun _ _ q=>q;rintro rfl;rcases hc with rfl | hc
  ·rw[hfree] at e;cases e
  ·rw[hfree] at hc;cases hc
 rcases hx with hk | hk
 ·refine wpAny_storeName_local hk hn (fun h' hn' hs=>?_) hcls;obtain⟨oL,_,_,hoL,_⟩:=id hn;refine h _ ⟨I.ok,I.os,I.bare,⟨fun b o e n hb hx=>?_,fun b o e n hb hx=>?_,I.base.free,fun b o e hx=>?_,I.base.tups,I.base.frzs,I.base.tbls⟩,⟨_,hn',fun j y v' e1 e2 e3=>?_⟩,fun y c e=>?_,I.free,I.freeC,fun p hp=>?_,tracked ⟨oL,hoL,I.free⟩ hs,by simpa using I.len⟩ ⟨_,hs,.inl rfl⟩
  ·exact(hs.2 b (Nat.ne_of_lt (Nat.lt_of_lt_of_le (Heap.lt_size e) I.ok.above))).trans (I.base.keep b o e n hb hx)
  ·obtain⟨sl,e1⟩:=I.base.slot b o e n hb hx;exact⟨sl,(hs.2 b (Nat.ne_of_lt (Nat.lt_of_lt_of_le (Heap.lt_size e) I.ok.above))).trans e1⟩
  ·obtain⟨o',e1⟩:=I.base.there b o e hx;exact⟨o',(hs.2 b (Nat.ne_of_lt (Nat.lt_of_lt_of_le (Heap.lt_size e) I.ok.above))).trans e1⟩
  ·by_cases hj:j=i
   ·subst hj;rw[hi] at e1;cases e1;rw[List.getElem?_set_self hiσ] at e2;cases e2;exact⟨u,r,.inl ⟨hk,by simp⟩⟩
   ·rw[List.getElem?_set_ne (Ne.symm hj)] at e2;obtain⟨u',r',q⟩:=hl j y v' e1 e2 e3;refine⟨u',r',?_⟩;rcases q with ⟨k,e⟩ | ⟨k,c,e,z⟩
    ·refine .inl ⟨k,?_⟩;have:y≠x:=fun e=>hj (rQ hN e1 (e ▸ hi));simp[this,e]
    ·exact .inr ⟨k,c,e,z.sameBut hs (cne y c e)⟩
  ·obtain⟨w',z⟩:=I.cell y c e;exact⟨w',z.sameBut hs (cne y c e)⟩
  ·obtain⟨e,n,ne,nf,d⟩:=I.pin p hp;exact⟨(hs.2 p.1 ne).trans e,n,ne,nf,d⟩
 ·have hfn:X.fn x=true:=by
   rcases hf with z | z
   ·exact z
   ·rw[z] at hk;cases hk
  obtain⟨c,hc⟩:=I.ok.has x (.inl hk);obtain⟨w',z⟩:=I.cell x c hc;refine wpAny_storeName_cell I.ok.kind hk hc z (fun h' ni hs=>?_);obtain⟨oc,hoc,hocd⟩:=id z;refine h { s with heap:=h' } ⟨I.ok,I.os,I.bare,⟨fun b o e n hb hx=>?_,fun b o e n hb hx=>?_,I.base.free,fun b o e hx=>?_,I.base.tups,I.base.frzs,I.base.tbls⟩,⟨m,hn.sameBut hs (Ne.symm (cne x c hc)),fun j y v' e1 e2 e3=>?_⟩,fun y c' e=>?_,I.free,I.freeC,fun p hp=>?_,tracked ⟨oc,hoc,I.freeC x c hc⟩ hs,by simpa using I.len⟩ ⟨c,hs,.inr hc⟩
  ·exact(hs.2 b (Nat.ne_of_lt (Nat.lt_of_lt_of_le (Heap.lt_size e) (I.ok.cab x c hfn hc)))).trans (I.base.keep b o e n hb hx)
  ·obtain⟨sl,e1⟩:=I.base.slot b o e n hb hx;exact⟨sl,(hs.2 b (Nat.ne_of_lt (Nat.lt_of_lt_of_le (Heap.lt_size e) (I.ok.cab x c hfn hc)))).trans e1⟩
  ·obtain⟨o',e1⟩:=I.base.there b o e hx;exact⟨o',(hs.2 b (Nat.ne_of_lt (Nat.lt_of_lt_of_le (Heap.lt_size e) (I.ok.cab x c hfn hc)))).trans e1⟩
  ·by_cases hj:j=i
   ·subst hj;rw[hi] at e1;cases e1;rw[List.getElem?_set_self hiσ] at e2;cases e2;exact⟨u,r,.inr ⟨.inl hk,c,hc,ni⟩⟩
   ·rw[List.getElem?_set_ne (Ne.symm hj)] at e2;obtain⟨u',r',q⟩:=hl j y v' e1 e2 e3;refine⟨u',r',?_⟩;rcases q with q | ⟨k,c',e,z'⟩
    ·exact .inl q
    ·refine .inr ⟨k,c',e,z'.sameBut hs ?_⟩;rintro rfl;exact hj (rQ hN e1 (I.ok.inj _ _ _ e hc ▸ hi))
  ·by_cases hcc:c'=c
   ·subst hcc;exact⟨_,ni⟩
   ·obtain⟨w2,z2⟩:=I.cell y c' e;exact⟨w2,z2.sameBut hs hcc⟩
  ·obtain⟨e,n,ne,nf,d⟩:=I.pin p hp;refine⟨(hs.2 p.1 ?_).trans e,n,ne,nf,d⟩;intro q;rw[q,hoc] at e;have q':oc=p.2:=Option.some.inj e;exact d w' (by rw[<-q'];exact hocd)
def gJ {M:Model}{A:Around}{E:Value->Shared->Prop}{i:Nat}{x:Str}{v:V}{u:Value}{Q:Unit->Shared->Prop}(I:Inv X pins σ H s)(hN:X.N.Nodup)(hi:X.N[i]? = some x)(hx:Loc X.env.scope x)(r:RelV v u)
 (h:∀s',Inv X pins (σ.set i (some v)) H s'->Q () s') (hf:X.fn x=true\/X.env.scope.names.lookup x=some .local:=by first | exact .inl rfl | exact .inr rfl | assumption):wpAny M A (storeName X.env x u) Q E s :=
 wZ I hN hi hx r (fun s' I' _=>h s' I') hf
def Inv.call' {s':Shared}{ch:List Addr}(I:Inv X pins σ H s)(ho:s'.os=s.os)(u:Un (nj X.stack) ch H H' s.heap s'.heap)(hok:HOk X.prog X.w H' s'.heap)(hg:AllBare s'.gens)
 (hch:∀b∈ch,(b∈X.ex\/X.s₀.heap.objs.size<=b)/\b≠X.env.locals/\(∀x c,X.env.cells.lookup x=some c->c≠b)/\∀p∈X.pn++pins,p.1≠b):Inv X pins σ H' s':=by
 obtain⟨h',g',d',t',o'⟩:=s';have e:o'=s.os:=ho;subst e;exact I.call (g':=g') (t':=t') (d':=d') u hok hg hch
end
abbrev XK:=Value->Option Addr->Hp->Prop
abbrev St:=List (Option V)
abbrev VK:=V->Hp->Prop
abbrev TE:=St->Hp->VK->Prop
abbrev TT:=St->Hp->(Bool->Hp->Prop)->Prop
abbrev TA:=St->Hp->(List V->Hp->Prop)->Prop
structure Ends where
 nx:St->Hp->Prop
 rt:VK
 bk:St->Hp->Prop:=fun _ _=>False
 ct:St->Hp->Prop:=fun _ _=>False
abbrev TS:=Ends->St->Hp->Prop
def EP (X:Cx)(pins:List (Addr×Obj))(σ:St)(Q:VK)(u:Value)(s':Shared):Prop:=∃v H',Inv X pins σ H' s'/\RelV v u/\Q v H'
def TP (X:Cx)(pins:List (Addr×Obj))(σ:St)(Q:Bool->Hp->Prop)(b:Bool)(s':Shared):Prop:=∃H',Inv X pins σ H' s'/\Q b H'
def AP (X:Cx)(pins:List (Addr×Obj))(σ:St)(Q:List V->Hp->Prop)(us:List Value)(s':Shared):Prop:=∃vs H',Inv X pins σ H' s'/\Vals vs us/\Q vs H'
def SP (X:Cx)(pins:List (Addr×Obj))(D:Ends)(f:Flow)(s':Shared):Prop :=
 match f with
 | .next=>∃σ' H',Inv X pins σ' H' s'/\D.nx σ' H'
 | .brk=>∃σ' H',Inv X pins σ' H' s'/\D.bk σ' H'
 | .cont=>∃σ' H',Inv X pins σ' H' s'/\D.ct σ' H'
 | .ret u=>∃v σ' H',Inv X pins σ' H' s'/\RelV v u/\D.rt v H'
def PE (X:Cx)(e:Expr)(t:TE):Prop :=
 ∀(pins:List (Addr×Obj)) (s:Shared) (σ:St) (H:Hp) (Q:VK),Inv X pins σ H s->t σ H Q->wpAny (model X.prog X.w) X.A (eval e X.env) (EP X pins σ Q) X.xe s
def PT (X:Cx)(e:Expr)(t:TT):Prop :=
 ∀(pins:List (Addr×Obj)) (s:Shared) (σ:St) (H:Hp) (Q:Bool->Hp->Prop),Inv X pins σ H s->t σ H Q->wpAny (model X.prog X.w) X.A (isTrue e X.env (eval e X.env)) (TP X pins σ Q) X.xe s
def PW (X:Cx)(e:Expr)(t:TT):Prop :=
 ∀(whole:Sem Value) (pins:List (Addr×Obj)) (s:Shared) (σ:St) (H:Hp) (Q:Bool->Hp->Prop),Inv X pins σ H s->t σ H Q->wpAny (model X.prog X.w) X.A (isTrue e X.env whole) (TP X pins σ Q) X.xe s
def PW.pt {X:Cx}{e:Expr}{t:TT}(h:PW X e t):PT X e t:=h _
def PA (X:Cx)(es:List Expr)(t:TA):Prop :=
 ∀(pos:Pos) (pins:List (Addr×Obj)) (s:Shared) (σ:St) (H:Hp) (Q:List V->Hp->Prop),Inv X pins σ H s->t σ H Q->wpAny (model X.prog X.w) X.A (spliced (backTo pos (starEach es X.env))) (AP X pins σ Q) X.xe s
def PS (X:Cx)(st:Stmt)(t:TS):Prop :=
 ∀(pins:List (Addr×Obj)) (s:Shared) (σ:St) (H:Hp) (D:Ends),Inv X pins σ H s->t D σ H->wpAny (model X.prog X.w) X.A (exec st X.env) (SP X pins D) X.xe s
def PSs (X:Cx)(st:List Stmt)(t:TS):Prop :=
 ∀(pins:List (Addr×Obj)) (s:Shared) (σ:St) (H:Hp) (D:Ends),Inv X pins σ H s->t D σ H->wpAny (model X.prog X.w) X.A (execs st X.env) (SP X pins D) X.xe s
def bC {α:Type}{t:Sem α}{Q Q':α->Shared->Prop}{M:Model}{A:Around}{E:Value->Shared->Prop}{s:Shared}(h:wpAny M A t Q E s)(hQ:∀a s,Q a s->Q' a s):wpAny M A t Q' E s:=wpAny_mono h hQ fun _ _ x=>x
section
variable {X:Cx}
def Hy {a b:Expr}{ta tb:TE}(ha:PE X a ta)(hb:PE X b tb){pins:List (Addr×Obj)}{s:Shared}{σ:St}{H:Hp}{R:V->V->Hp->Prop}(I:Inv X pins σ H s)(h:ta σ H fun x H1=>tb σ H1 fun y H2=>R x y H2)
 {α:Type} {Q:α->Shared->Prop} {f:Value->Value->Sem α}
 (hf:∀v u s2 x y H2,Inv X pins σ H2 s2->RelV x v->RelV y u->R x y H2->wpAny (model X.prog X.w) X.A (f v u) Q X.xe s2) :
 wpAny (model X.prog X.w) X.A (eval a X.env) (fun v s₁=>wpAny (model X.prog X.w) X.A (eval b X.env) (fun u s₂=>wpAny (model X.prog X.w) X.A (f v u) Q X.xe s₂) X.xe s₁) X.xe s:=by
 refine bC (ha pins s σ H _ I h) fun v s1 ⟨x,H1,I1,r1,q1⟩=>?_;refine bC (hb pins s1 σ H1 _ I1 q1) fun u s2 ⟨y,H2,I2,r2,q2⟩=>?_;exact hf v u s2 x y H2 I2 r1 r2 q2
noncomputable def cn (i:Nat):TE:=fun σ H Q=>∃v,σ[i]? = some (some v)/\Q v H
noncomputable def tC (v:V):TE:=fun _ H Q=>Q v H
def DQ {i:Nat}{x:Str}{pos:Pos}(hN:X.N[i]? = some x)(hv:Gb X.env.scope x)(hd:(x==("__debug__":Str))=false:=by decide)(hcd:(x==("__classdict__":Str))=false:=by decide):PE X (.Name x pos) (cn i):=by
 intro pins s σ H Q I h;obtain⟨v,e,h⟩:=h;obtain⟨m,hn,hl⟩:=I.loc;obtain⟨u,r,l⟩:=hl i x v hN e hv;have fin:EP X pins σ Q u s:=⟨v,H,I,r,h⟩;rcases l with ⟨hk,hm⟩ | ⟨hk,c,hc,hcell⟩
 ·exact wpAny_Name (wpAny_loadName_local I.ok.kind hk hn hm fin) hd
 ·rcases hk with hk | hk
  ·exact wpAny_Name (wpAny_loadName_cell I.ok.kind hk hc hcell fin) hd
  ·exact wpAny_Name (wpAny_loadName_free I.ok.kind hk hc hcell fin hcd) hd
def gR {i j pos}:PE X (.Constant (.int i) j pos) (tC (.int i)):=fun _ _ _ H _ I h=>wpAny_Constant_int ⟨.int i,H,I.tok _,⟨_,rfl⟩,h⟩
def FF {b j pos}:PE X (.Constant (.bool b) j pos) (tC (.bl b)):=fun _ _ _ H _ I h=>Constant_bool ⟨.bl b,H,I,rfl,h⟩
def DV {j pos}:PE X (.Constant .none j pos) (tC .non):=fun _ _ _ H _ I h=>Constant_none ⟨.non,H,I,rfl,h⟩
def Gl (X:Cx)(x:Str):Prop:=X.env.kindOf x=some .globalImplicit
def v3 {E:Value->Shared->Prop}{pins:List (Addr×Obj)}{s:Shared}{σ:St}{H:Hp}{x:Str}{u:Value}{pos:Pos}{Q:Value->Shared->Prop}(I:Inv X pins σ H s)(hg:Gl X x)(hm:X.mg x=some u)(h:Q u s)
 (hd:(x==("__debug__":Str))=false:=by decide):wpAny (model X.prog X.w) X.A (eval (.Name x pos) X.env) Q E s :=
 Calls.Name_function_global I.ok.kind hg (Calls.loadGlobal_global (by rw[I.ok.glob];exact I.mod.glob.keeps I.bk) hm h) hd
def gp {E:Value->Shared->Prop}{pins:List (Addr×Obj)}{s:Shared}{σ:St}{H:Hp}{x:Str}{u:Value}{pos:Pos}{Q:Value->Shared->Prop}(I:Inv X pins σ H s)(hg:Gl X x)(hm:X.mg x=none)(hv:bootBuiltins x=some u)(h:Q u s)
 (hn:x≠"__name__":=by decide) (hd:(x==("__debug__":Str))=false:=by decide):wpAny (model X.prog X.w) X.A (eval (.Name x pos) X.env) Q E s:=by
 obtain⟨mb,h1,h2⟩:=I.mod.blt;exact Calls.Name_function_global I.ok.kind hg (Calls.loadGlobal_builtin (by rw[I.ok.glob];exact I.mod.glob.keeps I.bk) hm (by rw[I.ok.blt];exact h1.keeps I.bk) ((h2 x hn).trans hv) h) hd
def vQ {x:Str}{v:V}{u:Value}{pos:Pos}(hg:Gl X x)(hm:X.mg x=some u)(r:RelV v u)(hd:(x==("__debug__":Str))=false:=by decide):PE X (.Name x pos) (tC v) :=
 fun _ _ _ H _ I h=>v3 I hg hm ⟨v,H,I,r,h⟩ hd
def BN {x:Str}{v:V}{u:Value}{pos:Pos}(hg:Gl X x)(hm:X.mg x=none)(hv:bootBuiltins x=some u)(r:RelV v u)(hn:x≠"__name__":=by decide)(hd:(x==("__debug__":Str))=false:=by decide):PE X (.Name x pos) (tC v) :=
 fun _ _ _ H _ I h=>gp I hg hm hv ⟨v,H,I,r,h⟩ hn hd
variable {a b:Expr}{ta tb:TE}{pos:Pos}
def PC (X:Cx)(op:CmpOp)(a b:Expr)(t:TE):Prop :=
 ∀(pins:List (Addr×Obj)) (s:Shared) (σ:St) (H:Hp) (Q:VK),Inv X pins σ H s->t σ H Q ->
  wpAny (model X.prog X.w) X.A (eval a X.env) (fun v s₁=>wpAny (model X.prog X.w) X.A (eval b X.env) (fun u s₂=>wpAny (model X.prog X.w) X.A (compareOp op v u) (EP X pins σ Q) X.xe s₂) X.xe s₁) X.xe s
noncomputable def tB (t:TE):TT:=fun σ H Q=>t σ H fun x H1=>∃c,x=.bl c/\Q c H1
def DX {op:CmpOp}{t:TE}(h:PC X op a b t)(h1:behindInMarks op b=false:=by first | exact nobehind _ (by decide) (by decide) | rfl):PE X (.Compare a [op] [b] pos) t:=fun pins s σ H Q I hw=>wpAny_Compare1 (h pins s σ H Q I hw) h1
def ue {op:CmpOp}{t:TE}(h:PC X op a b t)(h1:behindInMarks op b=false:=by first | exact nobehind _ (by decide) (by decide) | rfl):PT X (.Compare a [op] [b] pos) (tB t):=by
 intro pins s σ H Q I hw;refine wpAny_isTrue_Compare1 (bC (h pins s σ H _ I hw) fun v s1 h1=>bC h1 fun u s2 h2=>bC h2 fun c s3 ⟨x,H1,I1,r1,q1⟩=>?_) h1;obtain⟨d,rfl,q⟩:=q1;cases r1;exact wpAny_truthy_bool ⟨H1,I1,q⟩
variable {tA tB':TT}{rest:List Expr}
noncomputable def lj (t u:TT):TT:=fun σ H Q=>t σ H fun c H1=>if c=true then u σ H1 Q else Q false H1
noncomputable def Bl (t u:TT):TT:=fun σ H Q=>t σ H fun c H1=>if c=true then Q true H1 else u σ H1 Q
noncomputable def yB (t:TT):TT:=fun σ H Q=>t σ H fun c H1=>Q (!c) H1
def BC (ha:PT X a tA):PW X (.BoolOp .And [a] pos) tA:=by
 intro wh pins s σ H Q I h;refine isTrue_and (bC (ha pins s σ H Q I h) fun c s1 e=>?_);cases c with
 | true=>exact isTrue_and_nil e
 | false=>exact e
def DC (ha:PT X a tA):PW X (.BoolOp .Or [a] pos) tA:=by
 intro wh pins s σ H Q I h;refine isTrue_or (bC (ha pins s σ H Q I h) fun c s1 e=>?_);cases c with
 | false=>exact isTrue_or_nil e
 | true=>exact e
def DD (ha:PT X a tA)(hb:PW X (.BoolOp .And (b::rest) pos) tB'):PW X (.BoolOp .And (a::b::rest) pos) (lj tA tB'):=by
 intro wh pins s σ H Q I h;refine isTrue_and (bC (ha pins s σ H _ I h) fun c s1 ⟨H1,I1,q1⟩=>?_);cases c with
 | true=>exact hb wh pins s1 σ H1 Q I1 q1
 | false=>exact⟨H1,I1,q1⟩
def FD (ha:PT X a tA)(hb:PW X (.BoolOp .Or (b::rest) pos) tB'):PW X (.BoolOp .Or (a::b::rest) pos) (Bl tA tB'):=by
 intro wh pins s σ H Q I h;refine isTrue_or (bC (ha pins s σ H _ I h) fun c s1 ⟨H1,I1,q1⟩=>?_);cases c with
 | true=>exact⟨H1,I1,q1⟩
 | false=>exact hb wh pins s1 σ H1 Q I1 q1
def DH (ha:PT X a tA):PT X (.UnaryOp .Not a pos) (yB tA):=by
 intro pins s σ H Q I h;exact isTrue_not (ha pins s σ H (fun c H1=>Q (!c) H1) I h)
noncomputable def Ft (ta tb:TE):TE:=fun σ H Q=>ta σ H fun x H1=>∃c,x=.bl c/\if c=true then tb σ H1 Q else Q (.bl false) H1
def DU {op}{t:TE}(h:PE X a t):PE X (.BoolOp op [a] pos) t:=fun pins s σ H Q I hw=>BoolOp_one (h pins s σ H Q I hw)
def DY (ha:PE X a ta)(hb:PE X (.BoolOp .And (b::rest) pos) tb):PE X (.BoolOp .And (a::b::rest) pos) (Ft ta tb):=by
 intro pins s σ H Q I h;refine BoolOp_and (bC (ha pins s σ H _ I h) fun v s1 ⟨x,H1,I1,r1,q1⟩=>?_);obtain⟨c,rfl,q1⟩:=q1;cases r1;refine wpAny_truthy_bool ?_;cases c with
 | true=>exact hb pins s1 σ H1 Q I1 q1
 | false=>exact⟨.bl false,H1,I1,rfl,q1⟩
end
def SqL (K:PySem.W.Frag)(H:Hp)(a:Addr)(xs:List V):Prop :=
 Rd H a (.lst xs) \/
  ∃(o:Obj) (its:Array Value) (n:Nat),K.lookup a=some o/\o.cls=.type "list"/\o.dict=none/\o.data=.seq its n/\its.size<=sizeLine/\Vals xs its.toList
def SqT (K:PySem.W.Frag)(H:Hp)(a:Addr)(xs:List V):Prop :=
 Rd H a (.tup xs) \/
  ∃(o:Obj) (its:Array Value) (n:Nat),K.lookup a=some o/\o.cls=.type "tuple"/\o.data=.seq its n/\its.size<=sizeLine/\Vals xs its.toList
noncomputable def GZ:Value->Option V
 | .none=>some .non
 | .bool b=>some (.bl b)
 | .int i _=>some (.int i)
 | .str x _=>some (.str x)
 | .bytes b _=>some (.byt b)
 | .float b _=>some (.flt b)
 | .ref a=>some (.ref a)
 | .type n=>some (.ty n)
 | _=>none
def RelV.abs {x:V}{u:Value}(r:RelV x u):GZ u=some x:=by
 cases x with
 | non=>cases r;rfl
 | bl _=>cases r;rfl
 | int _=>obtain⟨t,rfl⟩:=r;rfl
 | str _=>obtain⟨t,rfl⟩:=r;rfl
 | byt _=>obtain⟨t,rfl⟩:=r;rfl
 | flt _=>obtain⟨t,rfl⟩:=r;rfl
 | ref _=>cases r;rfl
 | ty _=>cases r;rfl
def RelV.inj {x y:V}{u:Value}(r:RelV x u)(q:RelV y u):x=y:=Option.some.inj (r.abs.symm.trans q.abs)
def Vals.inj:∀{xs ys:List V} {us:List Value},Vals xs us->Vals ys us->xs=ys
 | _,_,_,.nil,.nil=>rfl
 | _,_,_,.cons r t,.cons r' t'=>by rw[r.inj r',Vals.inj t t']
section
variable {X:Cx}{pins:List (Addr×Obj)}{σ:St}{H:Hp}{s:Shared}{a:Addr}{xs ys:List V}
def SqL.of {K:PySem.W.Frag}(h:H a=some (.lst xs)):SqL K H a xs:=.inl (.inl h)
def SqT.of {K:PySem.W.Frag}(h:H a=some (.tup xs)):SqT K H a xs:=.inl (.inl h)
def Inv.list (I:Inv X pins σ H s)(h:SqL X.K H a xs):∃its:List Value,Vals xs its/\PlainL s.heap a its.toArray/\xs.length<=sizeLine:=by
 rcases h with h | ⟨o,its,n,hk,hc,hd,hs,hz,r⟩
 ·obtain⟨z,its,n,r,e⟩:=h.ok I.hok;exact⟨its,r,⟨_,n,e,rfl,rfl,rfl⟩,z⟩
 ·refine⟨its.toList,r,⟨o,n,I.kIn a o hk,hc,hd,by simpa using hs⟩,?_⟩;have e:=r.length;simp only[Array.length_toList] at e;omega
def Inv.tuple (I:Inv X pins σ H s)(h:SqT X.K H a xs):∃its:List Value,Vals xs its/\IsTup s.heap a its.toArray/\xs.length<=sizeLine:=by
 rcases h with h | ⟨o,its,n,hk,hc,hs,hz,r⟩
 ·obtain⟨z,its,r,p⟩:=h.ok I.hok;exact⟨its,r,p,z⟩
 ·refine⟨its.toList,r,⟨o,I.kIn a o hk,hc,n,by simpa using hs⟩,?_⟩;have e:=r.length;simp only[Array.length_toList] at e;omega
def Inv.list_inj (I:Inv X pins σ H s)(h:SqL X.K H a xs)(h':SqL X.K H a ys):xs=ys:=by
 obtain⟨its,r,⟨o,n,e,_,_,d⟩,_⟩:=I.list h;obtain⟨its',r',⟨o',n',e',_,_,d'⟩,_⟩:=I.list h';rw[e] at e';cases e';rw[d] at d';injection d' with d1 _;have:its=its':=by simpa using congrArg Array.toList d1
 subst this;exact r.inj r'
def Inv.tuple_inj (I:Inv X pins σ H s)(h:SqT X.K H a xs)(h':SqT X.K H a ys):xs=ys:=by
 obtain⟨its,r,⟨o,e,_,n,d⟩,_⟩:=I.tuple h;obtain⟨its',r',⟨o',e',_,n',d'⟩,_⟩:=I.tuple h';rw[e] at e';cases e';rw[d] at d';injection d' with d1 _;have:its=its':=by simpa using congrArg Array.toList d1
 subst this;exact r.inj r'
end
abbrev Cx.wish (X:Cx)(E:Value->Shared->Prop):Cx:={ X with xe:=E }
abbrev Cx.nox (X:Cx):Cx:=X.wish fun _ _=>False
def Cx.Ok.wish {X:Cx}(ok:X.Ok)(E:Value->Shared->Prop):(X.wish E).Ok :=
 ⟨ok.mod,ok.kind,ok.glob,ok.blt,ok.above,ok.inj,ok.has,ok.cab,ok.hd,ok.frames,ok.stk,ok.exf,ok.bs,ok.bsz,ok.noex,ok.exfs,ok.funs,ok.frf⟩
def Cx.Ok.unwish {X:Cx}{E:Value->Shared->Prop}(ok:(X.wish E).Ok):X.Ok :=
 ⟨ok.mod,ok.kind,ok.glob,ok.blt,ok.above,ok.inj,ok.has,ok.cab,ok.hd,ok.frames,ok.stk,ok.exf,ok.bs,ok.bsz,ok.noex,ok.exfs,ok.funs,ok.frf⟩
section
variable {X:Cx}{pins:List (Addr×Obj)}{σ:St}{H:Hp}{s:Shared}{E:Value->Shared->Prop}
def Inv.wish (I:Inv X pins σ H s)(E:Value->Shared->Prop):Inv (X.wish E) pins σ H s:=⟨I.ok.wish E,I.os,I.bare,I.base,I.loc,I.cell,I.free,I.freeC,I.pin,I.hok,I.len⟩
def Inv.unwish (I:Inv (X.wish E) pins σ H s):Inv X pins σ H s:=⟨I.ok.unwish,I.os,I.bare,I.base,I.loc,I.cell,I.free,I.freeC,I.pin,I.hok,I.len⟩
def SP.unwish {D:Ends}{f:Flow}{s':Shared}(h:SP (X.wish E) pins D f s'):SP X pins D f s':=by
 cases f with
 | next=>obtain⟨σ',H',I,q⟩:=h;exact⟨σ',H',I.unwish,q⟩
 | brk=>obtain⟨σ',H',I,q⟩:=h;exact⟨σ',H',I.unwish,q⟩
 | cont=>obtain⟨σ',H',I,q⟩:=h;exact⟨σ',H',I.unwish,q⟩
 | ret u=>obtain⟨v,σ',H',I,r,q⟩:=h;exact⟨v,σ',H',I.unwish,r,q⟩
def PSs.nox {st:List Stmt}{t:TS}(h:PSs X.nox st t):PSs X st t:=fun pins s σ H D I hw =>
 wpAny_mono (h pins s σ H D (I.wish _) hw) (fun _ _ q=>q.unwish) fun _ _ z=>False.elim z
end
section
variable {X:Cx}{st:Stmt}{rest:List Stmt}{t u:TS}{e:Expr}{te:TE}{pos:Pos}
noncomputable def Fl:TS:=fun D σ H=>D.nx σ H
noncomputable def wW (t u:TS):TS:=fun D σ H=>t { D with nx:=u D } σ H
def BE:PSs X [] Fl:=fun _ _ σ H _ I h=>wpAny_execs_nil ⟨σ,H,I,h⟩
def dw (h1:PS X st t)(h2:PSs X rest u):PSs X (st::rest) (wW t u):=by
 intro pins s σ H D I h;refine wpAny_execs_cons (bC (h1 pins s σ H { D with nx:=u D } I h) fun f s1 q=>?_);cases f with
 | next =>
   obtain⟨σ',H',I',q⟩:=q;exact h2 pins s1 σ' H' D I' q
 | ret v=>exact q
 | brk=>exact q
 | cont=>exact q
def fj (h1:PS X st t):PSs X [st] t:=by
 intro pins s σ H D I h;refine wpAny_execs_cons (bC (h1 pins s σ H D I h) fun f s1 q=>?_);cases f with
 | next=>exact wpAny_execs_nil q
 | ret v=>exact q
 | brk=>exact q
 | cont=>exact q
def Inv.quiet {pins:List (Addr×Obj)}{σ:St}{H:Hp}{s:Shared}(I:Inv X pins σ H s):interactive X.env=false:=by simp[interactive,I.ok.kind]
noncomputable def vj (te:TE):TS:=fun D σ H=>te σ H fun _ H1=>D.nx σ H1
def iq (he:PE X e te)(hs:swapsWith e none pos.line X.env=pure false:=by rfl):PS X (.Expr e pos) (vj te):=by
 intro pins s σ H D I h;exact wpAny_Expr_any (bC (he pins s σ H _ I h) fun v s1 ⟨x,H1,I1,r1,q1⟩=>⟨σ,H1,I1,q1⟩) I.quiet hs
noncomputable def Fj (te:TE):TS:=fun D σ H=>te σ H D.rt
def ug (he:PE X e te):PS X (.Return (some e) pos) (Fj te):=by
 intro pins s σ H D I h;exact wpAny_Return_some (bC (he pins s σ H _ I h) fun v s1 ⟨x,H1,I1,r1,q1⟩=>⟨x,σ,H1,I1,r1,q1⟩)
noncomputable def GC (c:TT)(t u:TS):TS:=fun D σ H=>c σ H fun b H1=>if b=true then t D σ H1 else u D σ H1
def FE {c:Expr}{a b:List Stmt}{tc:TT}(hc:PT X c tc)(ha:PSs X a t)(hb:PSs X b u):PS X (.If c a b pos) (GC tc t u):=by
 intro pins s σ H D I h;refine wpAny_If (bC (hc pins s σ H _ I h) fun d s1 ⟨H1,I1,q1⟩=>?_);cases d with
 | true=>exact ha pins s1 σ H1 D I1 q1
 | false=>exact hb pins s1 σ H1 D I1 q1
end
abbrev TG:=V->St->Hp->(St->Hp->Prop)->Prop
abbrev C8:=List V->St->Hp->(St->Hp->Prop)->Prop
def PG (X:Cx)(target:Expr)(t:TG):Prop :=
 ∀(pins:List (Addr×Obj)) (s:Shared) (σ:St) (H:Hp) (v:V) (u:Value) (Q:St->Hp->Prop),Inv X pins σ H s->RelV v u->t v σ H Q ->
  wpAny (model X.prog X.w) X.A (assign target X.env u) (fun _ s'=>∃σ' H',Inv X pins σ' H' s'/\Q σ' H') X.xe s
def Gd (X:Cx)(ts:List Expr)(t:C8):Prop :=
 ∀(pins:List (Addr×Obj)) (s:Shared) (σ:St) (H:Hp) (vs:List V) (us:List Value) (Q:St->Hp->Prop),Inv X pins σ H s->Vals vs us->t vs σ H Q ->
  wpAny (model X.prog X.w) X.A (assignInOrder ((assignEach ts X.env).map (·.2)) us) (fun _ s'=>∃σ' H',Inv X pins σ' H' s'/\Q σ' H') X.xe s
abbrev E4:=V->V->V->Hp->(Hp->Prop)->Prop
def Gc (X:Cx)(t:E4):Prop :=
 ∀(pins:List (Addr×Obj)) (s:Shared) (σ:St) (H:Hp) (o i v:V) (ov iv u:Value) (Q:Hp->Prop),Inv X pins σ H s->RelV o ov->RelV i iv->RelV v u->t o i v H Q ->
  wpAny (model X.prog X.w) X.A (setItem ov iv u) (fun _ s'=>∃H',Inv X pins σ H' s'/\Q H') X.xe s
abbrev Fb:=V->V->Hp->VK->Prop
def G1 (X:Cx)(op:Operator)(t:Fb):Prop :=
 ∀(pins:List (Addr×Obj)) (s:Shared) (σ:St) (H:Hp) (x y:V) (v u:Value) (Q:VK),Inv X pins σ H s->RelV x v->RelV y u->t x y H Q ->
  wpAny (model X.prog X.w) X.A (inplaceOp op v u) (EP X pins σ Q) X.xe s
section
variable {X:Cx}{pos:Pos}
noncomputable def dj (i:Nat):TG:=fun v σ H Q=>Q (σ.set i (some v)) H
def vO {i:Nat}{x:Str}(hN:X.N.Nodup)(hi:X.N[i]? = some x)(hx:Loc X.env.scope x)(hf:X.fn x=true\/X.env.scope.names.lookup x=some .local:=by first | exact .inl rfl | exact .inr rfl | assumption):PG X (.Name x pos) (dj i):=by
 intro pins s σ H v u Q I r h;exact wpAny_assign_Name (gJ I hN hi hx r (fun s' I'=>⟨_,H,I',h⟩) hf)
noncomputable def F1:C8:=fun vs σ H Q=>vs=[]/\Q σ H
noncomputable def Al (t:TG)(u:C8):C8:=fun vs σ H Q=>∃v r,vs=v::r/\t v σ H fun σ' H'=>u r σ' H' Q
def vN:Gd X [] F1:=by
 intro pins s σ H vs us Q I r h;obtain⟨e,h⟩:=h;subst e;cases r;exact assignInOrder_nil ⟨σ,H,I,h⟩
def lG {e:Expr}{es:List Expr}{t:TG}{u:C8}(h1:PG X e t)(h2:Gd X es u)
 (hs:(assignEach (e::es) X.env).map (·.2)=assign e X.env::(assignEach es X.env).map (·.2):=by rfl):Gd X (e::es) (Al t u):=by
 intro pins s σ H vs us Q I r h;obtain⟨v,vr,e1,h⟩:=h;subst e1;cases r with
 | cons r rr =>
   rw[hs];refine assignInOrder_cons (bC (h1 pins s σ H _ _ _ I r h) fun _ s1 ⟨σ1,H1,I1,q1⟩=>?_);exact h2 pins s1 σ1 H1 _ _ Q I1 rr q1
noncomputable def F0 (K:PySem.W.Frag)(n:Nat)(t:C8):TG:=fun v σ H Q=>∃a xs,v=.ref a/\SqT K H a xs/\xs.length=n/\t xs σ H Q
def zr {es:List Expr}{k:Nat}{t:C8}{n:Nat}(hc:X.calm=true)(h:Gd X es t)
 (hn:(assignEach es X.env).length=n:=by rfl) (hst:(assignEach es X.env).findIdx? (·.1)=none:=by rfl):PG X (.Tuple es k pos) (F0 X.K n t):=by
 intro pins s σ H v u Q I r hw;obtain⟨a,xs,e1,hq,hl,hw⟩:=hw;subst e1;cases r;obtain⟨its,rv,ht,hz⟩:=I.tuple hq;refine assign_Tuple_tuple (I.ok.hd hc) ht (by simp[hn,<-hl,rv.length]) hst fun h' hx=>?_;have I1:Inv X pins σ H { s with heap:=h' }:=I.kept (t':=s.toks) fun b o e=>hx b o (Nat.ne_of_lt (Heap.lt_size e)) e;exact h pins _ σ H xs _ Q I1 (by simpa using rv) hw
def yE (te:TE)(g:TG):TS:=fun D σ H=>te σ H fun x H1=>g x σ H1 D.nx
def zk {tg e:Expr}{te:TE}{g:TG}(he:PE X e te)(hg:PG X tg g)(hs:swapsWithSole [tg] e pos.line X.env=pure false:=by rfl)(hw:swappedStores [tg] e X.env=pure none:=by rfl)
 (h1:(assignEach [tg] X.env).map (·.2)=[assign tg X.env]:=by rfl):PS X (.Assign [tg] e pos) (yE te g):=by
 intro pins s σ H D I h;refine wpAny_Assign_stores (bC (he pins s σ H _ I h) fun v s1 ⟨x,H1,I1,r1,q1⟩=>?_) hs hw;rw[h1];exact bC (hg pins s1 σ H1 x v _ I1 r1 q1) fun _ s2 q=>q
def uf {i:Nat}{x:Str}{e:Expr}{te:TE}{pos':Pos}(hN:X.N.Nodup)(hi:X.N[i]? = some x)(hx:Loc X.env.scope x)(he:PE X e te)(hs:swapsWith e (some (.Name x pos')) pos.line X.env=pure false:=by rfl)(hf:X.fn x=true\/X.env.scope.names.lookup x=some .local:=by first | exact .inl rfl | exact .inr rfl | assumption) :
 PS X (.Assign [.Name x pos'] e pos) (yE te (dj i)):=by
 intro pins s σ H D I h;refine wpAny_Assign_Name (bC (he pins s σ H _ I h) fun v s1 ⟨y,H1,I1,r1,q1⟩=>?_) hs;exact gJ I1 hN hi hx r1 (fun s2 I2=>⟨_,H1,I2,q1⟩) hf
noncomputable def GB (i j:Nat)(ta:TA):TS:=fun D σ H=>ta σ H fun vs H1=>∃v w,vs=[v,w]/\D.nx ((σ.set i (some v)).set j (some w)) H1
def DM {i j:Nat}{x y:Str}{a b:Expr}{ta:TA}{px py pt:Pos}{kt k2 pt2}(hc:X.calm=true)(hN:X.N.Nodup)(hi:X.N[i]? = some x)(hj:X.N[j]? = some y)(hij:i≠j)
 (hx:X.env.scope.names.lookup x=some .local) (hy:X.env.scope.names.lookup y=some .local) (ha:PA X [a,b] ta)
 (hw:swappedStores [.Tuple [.Name x px,.Name y py] kt pt] (.Tuple [a,b] k2 pt2) X.env=pure (some [x,y]))
 (hs:swapsWithSole [.Tuple [.Name x px,.Name y py] kt pt] (.Tuple [a,b] k2 pt2) pos.line X.env=pure false:=by rfl) :
 PS X (.Assign [.Tuple [.Name x px,.Name y py] kt pt] (.Tuple [a,b] k2 pt2) pos) (GB i j ta):=by
 intro pins s σ H D I h;rw[exec_Assign_arm];refine wpAny_bind (wpAny_standAt ?_);rw[hs];refine wpAny_bind (wpAny_pure ?_);rw[if_neg (by decide)];refine wpAny_bind (Tuple_ (bC (ha _ pins s σ H _ I h) fun us s1 ⟨vs,H1,I1,r1,q1⟩=>?_));obtain⟨v,w,e1,q1⟩:=q1;subst e1;obtain⟨u1,u2,rfl,rv,rw'⟩:∃u1 u2,us=[u1,u2]/\RelV v u1/\RelV w u2:=by
  cases r1 with
  | cons p q =>
    cases q with
    | cons p' q' =>
      cases q';exact⟨_,_,rfl,p,p'⟩
 refine wpAny_newObj_type ?_ (by show 2<=sizeLine;decide);have I2:Inv X pins σ H1 { s1 with heap:=s1.heap.push { cls:=.type "tuple",data:=.seq [u1,u2].toArray } }:=I1.kept (t':=s1.toks) fun b o e=>Heap.get?_push_of_some _ e;rw[hw];refine wpAny_bind (wpAny_pure ?_);show wpAny (model X.prog X.w) X.A (do rule "assign.swapped-stores";let items <-unpackItems (.ref s1.heap.objs.size) 2 none;assignInOrder [fun v=>bindName X.env y v,fun v=>bindName X.env x v] items.reverse;pure Flow.next) _ _ _;refine wpAny_bind (wpAny_rule (wpAny_bind (unpackItems_tuple (items:=#[u1,u2]) (I.ok.hd hc) (IsTup.new s1.heap _) fun h' hx'=>?_)));have I3:=I2.kept (h':=h') (t':=s1.toks) fun b o e=>hx' b o (Nat.ne_of_lt (Heap.lt_size e)) e;show wpAny _ _ (assignInOrder [fun v=>bindName X.env y v,fun v=>bindName X.env x v] [u2,u1] >>= fun _=>pure Flow.next) _ _ _;refine wpAny_bind (assignInOrder_cons (wpAny_bindName (gJ I3 hN hj (.inl hy) rw' (fun s2 I4=>?_) (.inr hy))));refine assignInOrder_cons (wpAny_bindName (gJ I4 hN hi (.inl hx) rv (fun s3 I5=>assignInOrder_nil (wpAny_pure ?_)) (.inr hx)));rw[List.set_comm _ _ (Ne.symm hij)] at I5;exact⟨_,H1,I5,q1⟩
noncomputable def GE (i:Nat)(te:TE)(ti:Fb):TS:=fun D σ H=>∃x,σ[i]? = some (some x)/\te σ H fun y H1=>ti x y H1 fun z H2=>D.nx (σ.set i (some z)) H2
def DN {i:Nat}{x:Str}{e:Expr}{te:TE}{op:Operator}{ti:Fb}{pos':Pos}(hN:X.N.Nodup)(hi:X.N[i]? = some x)(hx:Loc X.env.scope x)(he:PE X e te)(ho:G1 X op ti)(hf:X.fn x=true\/X.env.scope.names.lookup x=some .local:=by first | exact .inl rfl | exact .inr rfl | assumption) :
 PS X (.AugAssign (.Name x pos') op e pos) (GE i te ti):=by
 intro pins s σ H D I h;obtain⟨v,e1,h⟩:=h;obtain⟨m,hn,hl⟩:=I.loc;have vis:Gb X.env.scope x:=by rcases hx with k | k;exact .inl k;exact .inr (.inl k)
 obtain⟨u,r,l⟩:=hl i x v hi e1 vis;refine wpAny_AugAssign_Name ?_;have go:wpAny (model X.prog X.w) X.A (eval e X.env) (fun w s₂=>wpAny (model X.prog X.w) X.A (inplaceOp op u w) (fun r s₃=>wpAny (model X.prog X.w) X.A (storeName X.env x r) (fun _=>SP X pins D .next) X.xe s₃) X.xe s₂) X.xe s:=by
  refine bC (he pins s σ H _ I h) fun w s1 ⟨y,H1,I1,r1,q1⟩=>?_;refine bC (ho pins s1 σ H1 v y u w _ I1 r r1 q1) fun z s2 ⟨zv,H2,I2,r2,q2⟩=>?_;exact gJ I2 hN hi hx r2 (fun s3 I3=>⟨_,H2,I3,q2⟩) hf
 rcases l with ⟨hk,hm⟩ | ⟨hk,c,hc,hcell⟩
 ·exact wpAny_loadName_local I.ok.kind hk hn hm go
 ·rcases hk with hk | hk
  ·exact wpAny_loadName_cell I.ok.kind hk hc hcell go
  ·rcases hx with k | k
   ·have:X.env.scope.names.lookup x=some .free:=hk;rw[k] at this;cases this
   ·have:X.env.scope.names.lookup x=some .free:=hk;rw[k] at this;cases this
noncomputable def yD (to ti te:TE)(tget:V->V->Hp->VK->Prop)(tip:Fb)(tset:E4):TS:=fun D σ H=>to σ H fun o H1=>ti σ H1 fun i H2=>tget o i H2 fun x H3=>te σ H3 fun y H4=>tip x y H4 fun z H5=>tset o i z H5 fun H6=>D.nx σ H6
def Ge (X:Cx)(t:V->V->Hp->VK->Prop):Prop :=
 ∀(pins:List (Addr×Obj)) (s:Shared) (σ:St) (H:Hp) (o i:V) (ov iv:Value) (Q:VK),Inv X pins σ H s->RelV o ov->RelV i iv->t o i H Q ->
  wpAny (model X.prog X.w) X.A (getItem ov iv) (EP X pins σ Q) X.xe s
def vJ {o i e:Expr}{to ti te:TE}{tget:V->V->Hp->VK->Prop}{tip:Fb}{tset:E4}{op:Operator}{tpos:Pos}(ho:PE X o to)(hi:PE X i ti)(hg:Ge X tget)(he:PE X e te)(hp:G1 X op tip)(hs:Gc X tset)
 (ha:∀ov iv new,augStore i ov iv new=(do holding [new,ov,iv] (setItem ov iv new);release [new,ov,iv] [];pure .next):=by intros;rfl):PS X (.AugAssign (.Subscript o i tpos) op e pos) (yD to ti te tget tip tset):=by
 intro pins s σ H D I h;refine wpAny_AugAssign_SubscriptAny (bC (ho pins s σ H _ I h) fun ov s1 ⟨x1,H1,I1,r1,q1⟩=>?_) ha;refine bC (hi pins s1 σ H1 _ I1 q1) fun iv s2 ⟨x2,H2,I2,r2,q2⟩=>?_;refine bC (hg pins s2 σ H2 x1 x2 ov iv _ I2 r1 r2 q2) fun old s3 ⟨x3,H3,I3,r3,q3⟩=>?_;refine bC (he pins s3 σ H3 _ I3 q3) fun v s4 ⟨x4,H4,I4,r4,q4⟩=>?_;refine bC (hp pins s4 σ H4 x3 x4 old v _ I4 r3 r4 q4) fun new s5 ⟨x5,H5,I5,r5,q5⟩=>?_;exact bC (hs pins s5 σ H5 x1 x2 x5 ov iv new _ I5 r1 r2 r5 q5) fun _ s6 ⟨H6,I6,q6⟩=>⟨σ,H6,I6,q6⟩
noncomputable def GR (f:Int->Int->Int):Fb:=fun x y H Q=>∃i j,x=.int i/\y=.int j/\Q (.int (f i j)) H
def uD:G1 X .Add (GR fun i j=>i+j):=by
 intro pins s σ H x y v u Q I r1 r2 h;obtain⟨i,j,e1,e2,q⟩:=h;subst e1;subst e2;obtain⟨t,rfl⟩:=r1;obtain⟨t',rfl⟩:=r2;exact iadd_int ⟨.int _,H,I.tok _,⟨_,rfl⟩,q⟩
end
section
variable {X:Cx}{pos:Pos}
noncomputable def Dj (c:TT)(tb:TS):TS:=fun D σ H=>∃W:Nat->St->Hp->Prop,(∃m,W m σ H)/\∀m σ H,W m σ H ->
 c σ H fun b H1=>if b=true then ∃N:St->Hp->Prop,(∀σ' H',N σ' H'->∃m',m'<m/\W m' σ' H')/\tb { D with nx:=N,ct:=N,bk:=D.nx } σ H1 else D.nx σ H1
def ze {c:Expr}{body:List Stmt}{tc:TT}{tb:TS}(hp:PassesOwn (model X.prog X.w) X.A X.env X.xe)(hc:PT X c tc)(hb:PSs X body tb):PS X (.While c body [] pos) (Dj tc tb):=by
 intro pins s σ H D I h;obtain⟨W,⟨m0,w0⟩,turn⟩:=h;refine wpAny_While (codeAny_whileLoop (fun n s'=>∃σ' H',Inv X pins σ' H' s'/\W n σ' H') ?_ m0 ⟨σ,H,I,w0⟩);rintro n s1 ⟨σ1,H1,I1,w1⟩;refine wpAny_passesOwn hp (bC (hc pins s1 σ1 H1 _ I1 (turn n σ1 H1 w1)) fun b s2 ⟨H2,I2,q2⟩=>?_);cases b with
 | true =>
   obtain⟨N,hN,q2⟩:=q2;rw[if_pos rfl];refine wpAny_passesOwn hp (bC (hb pins s2 σ1 H2 _ I2 q2) fun f s3 q3=>?_);cases f with
   | next =>
     obtain⟨σ3,H3,I3,n3⟩:=q3;obtain⟨m',hm,w3⟩:=hN σ3 H3 n3;exact⟨m',hm,σ3,H3,I3,w3⟩
   | cont =>
     obtain⟨σ3,H3,I3,n3⟩:=q3;obtain⟨m',hm,w3⟩:=hN σ3 H3 n3;exact⟨m',hm,σ3,H3,I3,w3⟩
   | brk=>exact q3
   | ret v=>exact q3
 | false =>
   rw[if_neg Bool.false_ne_true];exact wpAny_execs_nil ⟨σ1,H2,I2,q2⟩
end
structure It where
 go:Nat->Hp->Prop
 yld:Nat->Hp->V->Hp->Prop
 stop:Nat->Hp->Prop
def ik (X:Cx)(pins:List (Addr×Obj))(H:Hp)(b:Addr):Prop :=
 H b=none/\b≠X.env.locals/\b∉X.fs/\(b∈X.ex\/X.s₀.heap.objs.size<=b)/\(∀x c,X.env.cells.lookup x=some c->c≠b)/\∀p∈X.pn++pins,p.1≠b
def Inv.fpOk {X:Cx}{pins:List (Addr×Obj)}{σ:St}{H H':Hp}{s:Shared}{b:Addr}(I:Inv X pins σ H s)(hb:s.heap.objs.size<=b)(hn:H' b=none):ik X pins H' b:=by
 refine⟨hn,Nat.ne_of_gt (Nat.lt_of_lt_of_le I.lt hb),I.nofs hb,.inr (Nat.le_trans I.sz hb),fun x c e z=>?_,fun p hp z=>?_⟩
 ·obtain⟨v,q⟩:=I.cell x c e;exact absurd (Nat.lt_of_lt_of_le q.lt (by rw[z];exact hb)) (Nat.lt_irrefl _)
 ·exact absurd (Nat.lt_of_lt_of_le (Heap.lt_size (I.pin p hp).1) (by rw[z];exact hb)) (Nat.lt_irrefl _)
structure Turn (P:Program)(w:World)(K:PySem.W.Frag)(tg:Expr)(J:It)(fp:List Addr)(it:Addr)(tn:Nat->Heap->Prop):Prop where
 mem:it∈fp
 obj:∀i h,tn i h->∀b∈fp,∃o,h.get? b=some o/\∀v,o.data≠.cell v
 keep:∀i h h',tn i h->(∀b∈fp,∀o,h.get? b=some o->h'.get? b=some o)->tn i h'
 item:∀(X:Cx),X.prog=P->X.w=w->X.K=K->X.calm=true->∀(i:Nat) (pins:List (Addr×Obj)) (s:Shared) (σ:St) (H:Hp) (E:Value->Shared->Prop),Inv X pins σ H s->(∀b∈fp,ik X pins H b)->tn i s.heap->J.go i H ->
  wpAny (model P w) X.A (pyNext (.ref it)) (fun r s1=>∃u,r=some u /\
   wpAny (model P w) X.A (letOwnedTupleGo tg (.ref it) u) (fun _ s2=>∃x H',Inv X pins σ H' s2/\RelV x u/\J.yld i H x H'/\tn (i+1) s2.heap/\∀b∈fp,H' b=none) E s1) E s
 done:∀(X:Cx),X.prog=P->X.w=w->X.K=K->X.calm=true->∀(i:Nat) (pins:List (Addr×Obj)) (s:Shared) (σ:St) (H:Hp) (E:Value->Shared->Prop),Inv X pins σ H s->(∀b∈fp,ik X pins H b)->tn i s.heap->J.stop i H ->
  wpAny (model P w) X.A (pyNext (.ref it)) (fun r s1=>r=none/\Inv X pins σ H s1) E s
 self:∀(A:Around) (i:Nat) (s:Shared) (Q:Value->Shared->Prop) (E:Value->Shared->Prop),tn i s.heap->Q (.ref it) s->wpAny (model P w) A (pyIter (.ref it)) Q E s
abbrev TI:=St->Hp->(It->Hp->Prop)->Prop
def Hf (X:Cx)(pins:List (Addr×Obj))(σ:St)(tg:Expr)(R:It->Hp->Prop)(itv:Value)(s2:Shared):Prop :=
 ∃(it:Addr) (fp:List Addr) (tn:Nat->Heap->Prop) (J:It) (H':Hp),itv=.ref it/\Inv X pins σ H' s2/\Turn X.prog X.w X.K tg J fp it tn/\tn 0 s2.heap/\(∀b∈fp,ik X pins H' b)/\R J H'
def PI (X:Cx)(tg iter:Expr)(wi:TI):Prop :=
 ∀(pins:List (Addr×Obj)) (s:Shared) (σ:St) (H:Hp) (R:It->Hp->Prop),Inv X pins σ H s->wi σ H R ->
  wpAny (model X.prog X.w) X.A (eval iter X.env) (fun v s1=>wpAny (model X.prog X.w) X.A (pyIter v) (Hf X pins σ tg R) X.xe s1) X.xe s
def Aj {M:Model}{A:Around}{E:Value->Shared->Prop}{s:Shared}{tg:Expr}{it:Addr}{u:Value}{o:Obj}{n:String}{vs:Array Value}{Q:Unit->Shared->Prop}(ho:s.heap.get? it=some o)(hc:o.cls=.type n)(hd:o.data=.fields vs)
 (hn:["enumerate","zip","dict_itemiterator","dict_reverseitemiterator","odict_iterator","itertools.zip_longest","itertools.pairwise"].contains n=false) (hQ:Q () s):wpAny M A (letOwnedTupleGo tg (.ref it) u) Q E s:=by
 unfold letOwnedTupleGo;cases tg <;> first
  | exact wpAny_pure hQ
  | (cases u <;> first
   | exact wpAny_pure hQ
   | (refine wpAny_bind (wpAny_load ho ?_)
      rw[hc,hd];show wpAny M A (if (["enumerate","zip","dict_itemiterator","dict_reverseitemiterator","odict_iterator","itertools.zip_longest","itertools.pairwise"].contains n&&vs[0]?==some (rawInt _))=true then _ else _) Q E s;rw[if_neg (by intro h;rw[hn,Bool.false_and] at h;cases h)];exact wpAny_pure hQ))
noncomputable def Be (K:PySem.W.Frag)(a:Addr):It :=
 ⟨fun i H=>∃xs x,SqL K H a xs/\xs[i]? = some x,fun i H x H'=>H'=H/\∀xs,SqL K H a xs->xs[i]? = some x,fun i H=>∃xs,SqL K H a xs/\xs.length<=i⟩
noncomputable def Gq (K:PySem.W.Frag)(a:Addr):It :=
 ⟨fun i H=>∃xs x,SqT K H a xs/\xs[i]? = some x,fun i H x H'=>H'=H/\∀xs,SqT K H a xs->xs[i]? = some x,fun i H=>∃xs,SqT K H a xs/\xs.length<=i⟩
noncomputable def Ff (lo:Int)(n:Nat):It:=⟨fun i _=>i<n,fun i H x H'=>H'=H/\x=.int (lo+i),fun i _=>n<=i⟩
def nz {P:Program}{w:World}{K:PySem.W.Frag}{tg:Expr}(a it:Addr):Turn P w K tg (Be K a) [it] it (fun i h=>h.IsListIter it a i) where
 mem:=by simp
 obj:=fun i h st b hb=>by
  have e:b=it:=by simpa using hb
  subst e;obtain⟨o,e,c,d⟩:=st;exact⟨o,e,fun v z=>by rw[d] at z;cases z⟩
 keep:=fun i h h' st k=>st.at fun o e=>k it (by simp) o e
 item:=by
  intro X hP hw hK hc i pins s σ H E I hf st hg;subst hP hw hK;obtain⟨xs,x,hq,hx⟩:=hg;obtain⟨its,rv,p,hz⟩:=I.list hq;obtain⟨u,hu,ru⟩:=rv.get hx;obtain⟨f0,f1,f2,f3,f4,f5⟩:=hf it (by simp);refine wpAny_pyNext_list_item st p.isList (x:=u) (by simpa using hu) fun h' st' sb=>?_;have I1:Inv X pins σ H { s with heap:=h' }:=I.turned (t':=s.toks) (fun b o hb e=>(sb.2 b hb).trans e) f0 f1 f3 f4 f5;obtain⟨o,e,c,d⟩:=id st';exact⟨u,rfl,Aj (s:={ s with heap:=h' }) e c d (by decide) ⟨x,H,I1,ru,⟨rfl,fun ys hy=>by rw[I.list_inj hy hq];exact hx⟩,st',fun b hb=>(hf b hb).1⟩⟩
 done:=by
  intro X hP hw hK hc i pins s σ H E I hf st hg;subst hP hw hK;obtain⟨xs,hq,hx⟩:=hg;obtain⟨its,rv,p,hz⟩:=I.list hq;obtain⟨f0,f1,f2,f3,f4,f5⟩:=hf it (by simp);have hl:=rv.length;exact wpAny_pyNext_list_end (I.ok.hd hc) st p.isList (by simp;omega) fun h' eb=>⟨rfl,I.turned (t':=s.toks) (fun b o hb e=>eb b o hb e) f0 f1 f3 f4 f5⟩
 self:=fun _ _ _ _ _ st h=>wpAny_pyIter_listiter st h
def lh {P:Program}{w:World}{K:PySem.W.Frag}{tg:Expr}(a it:Addr):Turn P w K tg (Gq K a) [it] it (fun i h=>h.IsTupleIter it a i) where
 mem:=by simp
 obj:=fun i h st b hb=>by
  have e:b=it:=by simpa using hb
  subst e;obtain⟨o,e,c,d⟩:=st;exact⟨o,e,fun v z=>by rw[d] at z;cases z⟩
 keep:=fun i h h' st k=>st.at fun o e=>k it (by simp) o e
 item:=by
  intro X hP hw hK hc i pins s σ H E I hf st hg;subst hP hw hK;obtain⟨xs,x,hq,hx⟩:=hg;obtain⟨its,rv,p,hz⟩:=I.tuple hq;obtain⟨u,hu,ru⟩:=rv.get hx;obtain⟨f0,f1,f2,f3,f4,f5⟩:=hf it (by simp);refine wpAny_pyNext_tuple_item st (show s.heap.IsTuple a its.toArray from p) (x:=u) (by simpa using hu) fun h' st' sb=>?_;have I1:Inv X pins σ H { s with heap:=h' }:=I.turned (t':=s.toks) (fun b o hb e=>(sb.2 b hb).trans e) f0 f1 f3 f4 f5;obtain⟨o,e,c,d⟩:=id st';exact⟨u,rfl,Aj (s:={ s with heap:=h' }) e c d (by decide) ⟨x,H,I1,ru,⟨rfl,fun ys hy=>by rw[I.tuple_inj hy hq];exact hx⟩,st',fun b hb=>(hf b hb).1⟩⟩
 done:=by
  intro X hP hw hK hc i pins s σ H E I hf st hg;subst hP hw hK;obtain⟨xs,hq,hx⟩:=hg;obtain⟨its,rv,p,hz⟩:=I.tuple hq;obtain⟨f0,f1,f2,f3,f4,f5⟩:=hf it (by simp);have hl:=rv.length;exact wpAny_pyNext_tuple_end (I.ok.hd hc) st (show s.heap.IsTuple a its.toArray from p) (by simp;omega) fun h' eb=>⟨rfl,I.turned (t':=s.toks) (fun b o hb e=>eb b o hb e) f0 f1 f3 f4 f5⟩
 self:=fun _ _ _ _ _ st h=>wpAny_pyIter_tupleiter st h
def tL {P:Program}{w:World}{K:PySem.W.Frag}{tg:Expr}(it:Addr)(lo:Int)(n:Nat):Turn P w K tg (Ff lo n) [it] it (fun i h=>IsRangeIter h it (lo+(i:Nat)*1) ((n:Int)-(i:Nat)) 1) where
 mem:=by simp
 obj:=fun i h st b hb=>by
  have e:b=it:=by simpa using hb
  subst e;exact⟨_,st,fun v z=>by
   have z':Data.fields _=Data.cell v:=z;cases z'⟩
 keep:=fun i h h' st k=>k it (by simp) _ st
 item:=by
  intro X hP hw hK hc i pins s σ H E I hf st hg;subst hP hw hK;obtain⟨f0,f1,f2,f3,f4,f5⟩:=hf it (by simp);have W:=Walks.range (prog:=X.prog) (w:=X.w) (I.ok.hd hc) it lo 1 n;refine W.item i s _ _ hg st fun v h' tk hv st' kk=>?_;obtain⟨t,rfl⟩:=hv;have I1:Inv X pins σ H { s with heap:=h',toks:=tk }:=I.turned (fun b o hb e=>kk b o (by simpa using hb) e) f0 f1 f3 f4 f5;refine⟨_,rfl,Aj (s:={ s with heap:=h',toks:=tk }) (n:="range_iterator") st' rfl rfl (by decide) ⟨.int (lo+i),H,I1,⟨t,?_⟩,⟨rfl,rfl⟩,st',fun b hb=>(hf b hb).1⟩⟩;rw[Int.mul_one]
 done:=by
  intro X hP hw hK hc i pins s σ H E I hf st hg;subst hP hw hK;obtain⟨f0,f1,f2,f3,f4,f5⟩:=hf it (by simp);exact wpAny_pyNext_range_end (I.ok.hd hc) st (by have:n<=i:=hg;omega) fun h' eb=>⟨rfl,I.turned (t':=s.toks) (fun b o hb e=>eb b o hb e) f0 f1 f3 f4 f5⟩
 self:=fun _ _ _ _ _ st h=>wpAny_pyIter_rangeiter st h
section
variable {X:Cx}{tg:Expr}
def C2 (K:PySem.W.Frag)(tl:TE):TI:=fun σ H R=>tl σ H fun x H1=>∃a,x=.ref a/\(∃xs,SqL K H1 a xs)/\R (Be K a) H1
def FW (K:PySem.W.Frag)(tl:TE):TI:=fun σ H R=>tl σ H fun x H1=>∃a,x=.ref a/\(∃xs,SqT K H1 a xs)/\R (Gq K a) H1
def BG {l:Expr}{tl:TE}(hl:PE X l tl):PI X tg l (C2 X.K tl):=by
 intro pins s σ H R I h;refine bC (hl pins s σ H _ I h) fun v s1 ⟨x,H1,I1,r1,q1⟩=>?_;obtain⟨a,e,⟨xs,hq⟩,q⟩:=q1;subst e;cases r1;obtain⟨its,rv,p,hz⟩:=I1.list hq;refine wpAny_pyIter_list p.isList ?_;refine⟨s1.heap.objs.size,[s1.heap.objs.size],_,_,H1,rfl,I1.kept (t':=s1.toks) fun b o e=>Heap.get?_push_of_some _ e,nz a _,⟨_,Heap.get?_push_size _ rfl,rfl,rfl⟩,fun b hb=>?_,q⟩;have e:b=s1.heap.objs.size:=by simpa using hb
 subst e;exact I1.fpOk (Nat.le_refl _) (I1.hok.fresh (Nat.le_refl _))
def DP {l:Expr}{tl:TE}(hl:PE X l tl):PI X tg l (FW X.K tl):=by
 intro pins s σ H R I h;refine bC (hl pins s σ H _ I h) fun v s1 ⟨x,H1,I1,r1,q1⟩=>?_;obtain⟨a,e,⟨xs,hq⟩,q⟩:=q1;subst e;cases r1;obtain⟨its,rv,p,hz⟩:=I1.tuple hq;refine wpAny_pyIter_tuple (show s1.heap.IsTuple a its.toArray from p) ?_;refine⟨s1.heap.objs.size,[s1.heap.objs.size],_,_,H1,rfl,I1.kept (t':=s1.toks) fun b o e=>Heap.get?_push_of_some _ e,lh a _,⟨_,Heap.get?_push_size _ rfl,rfl,rfl⟩,fun b hb=>?_,q⟩;have e:b=s1.heap.objs.size:=by simpa using hb
 subst e;exact I1.fpOk (Nat.le_refl _) (I1.hok.fresh (Nat.le_refl _))
def rD {pins:List (Addr×Obj)}{σ:St}{H:Hp}{s:Shared}{R:It->Hp->Prop}{E:Value->Shared->Prop}{lo hi:Int}{t u v:Tok}{tk:Nat}(I:Inv X pins σ H s)(h1 : -(2 ^ 62)<=lo)(h2:lo<2 ^ 62)(h3 : -(2 ^ 62)<=hi)(h4:hi<2 ^ 62)
 (q:R (Ff lo (hi-lo).toNat) H):wpAny (model X.prog X.w) X.A (pyIter (.ref s.heap.objs.size)) (Hf X pins σ tg R) E { s with heap:=s.heap.push { cls:=.type "range",data:=.fields #[.int lo t,.int hi u,.int 1 v] },toks:=tk }:=by
 refine wpAny_pyIter_range (IsRange.new ..) (small_one h1 h2 h3 h4) ?_;have I1:Inv X pins σ H { s with heap:=s.heap.push { cls:=.type "range",data:=.fields #[.int lo t,.int hi u,.int 1 v] },toks:=tk }:=I.kept fun b o e=>Heap.get?_push_of_some _ e;refine⟨(s.heap.push { cls:=.type "range",data:=.fields #[.int lo t,.int hi u,.int 1 v] }).objs.size,[(s.heap.push { cls:=.type "range",data:=.fields #[.int lo t,.int hi u,.int 1 v] }).objs.size],_,_,H,rfl,
  I1.kept (t':=tk) fun b o e=>Heap.get?_push_of_some _ e,tL _ lo (hi-lo).toNat,?_,fun b hb=>?_,q⟩
 ·have e1:lo+((0:Nat):Int)*1=lo:=by simp
  have e2:(((hi-lo).toNat:Nat):Int)-((0:Nat):Int)=Builtin.Range.rangeSize lo hi 1:=by rw[rangeSize_one];split <;> omega
  show IsRangeIter _ _ (lo+((0:Nat):Int)*1) ((((hi-lo).toNat:Nat):Int)-((0:Nat):Int)) 1;rw[e1,e2];exact Heap.get?_push_size _ rfl
 ·have e:b=(s.heap.push { cls:=.type "range",data:=.fields #[.int lo t,.int hi u,.int 1 v] }).objs.size:=by simpa using hb
  subst e;exact I1.fpOk (Nat.le_refl _) (I1.hok.fresh (Nat.le_refl _))
def FY (ta:TA):TI:=fun σ H R=>ta σ H fun vs H1=>∃j:Int,vs=[.int j] /\ -(2 ^ 62)<=j/\j<2 ^ 62/\R (Ff 0 j.toNat) H1
def FX (ta:TA):TI:=fun σ H R=>ta σ H fun vs H1=>∃i j:Int,vs=[.int i,.int j]/\(-(2 ^ 62)<=i/\i<2 ^ 62 /\ -(2 ^ 62)<=j/\j<2 ^ 62)/\R (Ff i (j-i).toNat) H1
def xu {a:Expr}{ta:TA}{p pos:Pos}(hg:Gl X "range")(hm:X.mg "range"=none)(ha:PA X [a] ta)(hs:starEach [a] X.env=[(false,eval a X.env)]:=by rfl):PI X tg (.Call (.Name "range" p) [a] [] pos) (FY ta):=by
 intro pins s σ H R I h;refine Call_ (gp I hg hm boot_range (PyProof.Rows.callWith_type1 (bC (ha pos pins s σ H _ I h) fun us s1 ⟨vs,H1,I1,r1,q1⟩=>?_) hs rfl));obtain⟨j,e,q1,q2,q⟩:=q1;subst e;cases r1 with
 | cons r rr =>
   cases rr;obtain⟨t,rfl⟩:=r;exact call_range_1 (rD I1 (by omega) (by omega) q1 q2 (by simpa using q))
def xt {a b:Expr}{ta:TA}{p pos:Pos}(hg:Gl X "range")(hm:X.mg "range"=none)(ha:PA X [a,b] ta)(hs:starEach [a,b] X.env=[(false,eval a X.env),(false,eval b X.env)]:=by rfl)(hs2:starEach [b] X.env=[(false,eval b X.env)]:=by rfl) :
 PI X tg (.Call (.Name "range" p) [a,b] [] pos) (FX ta):=by
 intro pins s σ H R I h;refine Call_ (gp I hg hm boot_range (PyProof.Rows.callWith_type1 (bC (ha pos pins s σ H _ I h) fun us s1 ⟨vs,H1,I1,r1,q1⟩=>?_) (by rw[hs,hs2]) (by rw[hs2];rfl)));obtain⟨i,j,e,⟨q1,q2,q3,q4⟩,q⟩:=q1;subst e;cases r1 with
 | cons r rr =>
   cases rr with
   | cons r' rr =>
     cases rr;obtain⟨t,rfl⟩:=r;obtain⟨t',rfl⟩:=r';exact call_range_2 (rD I1 q1 q2 q3 q4 q)
def wX (wi:TI)(g:TG)(tb:TS):TS:=fun D σ H=>wi σ H fun J H1=>∃W:Nat->Nat->St->Hp->Prop,(∃m,W 0 m σ H1)/\∀i m σ H,W i m σ H ->
 (J.stop i H/\D.nx σ H)\/(J.go i H/\∃N:St->Hp->Prop,(∀σ' H',N σ' H'->∃m',m'<m/\W (i+1) m' σ' H')/\∀x H',J.yld i H x H'->g x σ H' fun σ2 H2=>tb { D with nx:=N,ct:=N,bk:=D.nx } σ2 H2)
noncomputable def pw (fp:List Addr)(h:Heap):List (Addr×Obj):=fp.filterMap fun b=>(h.get? b).map fun o=>(b,o)
def cr {fp:List Addr}{h:Heap}{b:Addr}{o:Obj}(hb:b∈fp)(e:h.get? b=some o):(b,o)∈pw fp h:=List.mem_filterMap.mpr ⟨b,hb,by rw[e];rfl⟩
def xx {fp:List Addr}{h:Heap}{p:Addr×Obj}(hp:p∈pw fp h):p.1∈fp/\h.get? p.1=some p.2:=by
 obtain⟨b,hb,e⟩:=List.mem_filterMap.mp hp;cases q:h.get? b with
 | none=>rw[q] at e;cases e
 | some o =>
   rw[q] at e;have e':(b,o)=p:=Option.some.inj e;subst e';exact⟨hb,q⟩
def Inv.pinned {pins:List (Addr×Obj)}{σ:St}{H:Hp}{s:Shared}{fp:List Addr}(I:Inv X pins σ H s)(hf:∀b∈fp,ik X pins H b)(ho:∀b∈fp,∃o,s.heap.get? b=some o/\∀v,o.data≠.cell v):Inv X (pins++pw fp s.heap) σ H s :=
 I.pins_of fun p hp=>(List.mem_append.mp hp).elim (fun z=>I.pin p (List.mem_append_right _ z)) fun z=>by
  obtain⟨hb,e⟩:=xx z;obtain⟨f0,f1,f2,_⟩:=hf p.1 hb;obtain⟨o,e',d⟩:=ho p.1 hb;rw[e] at e';cases e';exact⟨e,f0,f1,f2,d⟩
def Inv.unpinned {pins pl:List (Addr×Obj)}{σ:St}{H:Hp}{s:Shared}(I:Inv X (pins++pl) σ H s):Inv X pins σ H s:=I.pins_of fun p hp=>I.pin p (List.mem_append_right _ (List.mem_append_left _ hp))
def lF {iter:Expr}{body:List Stmt}{wi:TI}{g:TG}{tb:TS}{pos:Pos}(hp:PassesOwn (model X.prog X.w) X.A X.env X.xe)(hc:X.calm=true)(hi:PI X tg iter wi)(hg:PG X tg g)(hb:PSs X body tb)
 (hs:∀x,foldedSetIterable iter X.env x=pure x:=by intro _;rfl):PS X (.For tg iter body [] pos) (wX wi g tb):=by
 intro pins s σ H D I h;refine wpAny_For (bC (hi pins s σ H _ I h) fun v s1 h1=>bC h1 fun itv s2 h2=>?_) hs;obtain⟨it,fp,tn,J,H2,e,I2,T,st2,f2,W,⟨m0,w0⟩,turn⟩:=h2;subst e;have stat:∀{H':Hp},(∀b∈fp,H' b=none)->∀b∈fp,ik X pins H' b:=fun hn b hb=>⟨hn b hb,(f2 b hb).2⟩;refine codeAny_forLoop_any (fun n s'=>∃i σ' H',Inv X pins σ' H' s'/\tn i s'.heap/\(∀b∈fp,H' b=none)/\W i n σ' H') ?_ m0 ⟨0,σ,H2,I2,st2,fun b hb=>(f2 b hb).1,w0⟩;rintro n s3 ⟨i,σ3,H3,I3,st3,fr3,w3⟩;rcases turn i n σ3 H3 w3 with ⟨stop,qn⟩ | ⟨go,N,hN,step⟩
 ·refine wpAny_passesOwn hp (bC (T.done X rfl rfl rfl hc i pins s3 σ3 H3 X.xe I3 (stat fr3) st3 stop) fun r s4 ⟨hr,I4⟩=>?_);subst hr;exact wpAny_execs_nil ⟨σ3,H3,I4,qn⟩
 ·refine wpAny_passesOwn hp (bC (T.item X rfl rfl rfl hc i pins s3 σ3 H3 X.xe I3 (stat fr3) st3 go) fun r s4 ⟨u,hr,h4⟩=>?_);subst hr;refine wpAny_passesOwn hp (bC h4 fun _ s5 ⟨x,H5,I5,r5,y5,st5,fr5⟩=>?_);have I5':=I5.pinned (stat fr5) (T.obj _ _ st5);refine wpAny_passesOwn hp (bC (hg _ s5 σ3 H5 x u _ I5' r5 (step x H5 y5)) fun _ s6 ⟨σ6,H6,I6,q6⟩=>?_);refine wpAny_passesOwn hp (bC (hb _ s6 σ6 H6 _ I6 q6) fun f s7 q7=>?_);have again:∀{σ7:St} {H7:Hp},Inv X (pins++pw fp s5.heap) σ7 H7 s7->N σ7 H7->∃m,m<n/\∃i σ' H',Inv X pins σ' H' s7/\tn i s7.heap/\(∀b∈fp,H' b=none)/\W i m σ' H':=fun {σ7 H7} I7 n7=>by
   obtain⟨m',hm,w7⟩:=hN σ7 H7 n7;refine⟨m',hm,i+1,σ7,H7,I7.unpinned,T.keep _ _ _ st5 fun b hb o e=>(I7.pin (b,o) (List.mem_append_right _ (List.mem_append_right _ (cr hb e)))).1,fun b hb=>?_,w7⟩;obtain⟨o,e,d⟩:=T.obj _ _ st5 b hb;exact(I7.pin (b,o) (List.mem_append_right _ (List.mem_append_right _ (cr hb e)))).2.1
  cases f with
  | next=>obtain⟨σ7,H7,I7,n7⟩:=q7;exact again I7 n7
  | cont=>obtain⟨σ7,H7,I7,n7⟩:=q7;exact again I7 n7
  | brk=>obtain⟨σ7,H7,I7,q7⟩:=q7;exact⟨σ7,H7,I7.unpinned,q7⟩
  | ret v=>obtain⟨x7,σ7,H7,I7,r7,q7⟩:=q7;exact⟨x7,σ7,H7,I7.unpinned,r7,q7⟩
end
def Am {K:PySem.W.Frag}{a:Addr}{xs:List V}{g:TG}{tb:TS}{D:Ends}{σ:St}{H:Hp}(Pv:Nat->St->Hp->Prop)(h0:Pv 0 σ H)(hl:∀i σ H,i<=xs.length->Pv i σ H->SqL K H a xs)
 (hs:∀i x σ H,xs[i]? = some x->Pv i σ H->g x σ H fun σ2 H2=>tb { D with nx:=Pv (i+1),ct:=Pv (i+1),bk:=D.nx } σ2 H2) (hd:∀σ H,Pv xs.length σ H->D.nx σ H) :
 ∃W:Nat->Nat->St->Hp->Prop,(∃m,W 0 m σ H)/\∀i m σ H,W i m σ H ->
  ((Be K a).stop i H/\D.nx σ H)\/((Be K a).go i H/\∃N:St->Hp->Prop,(∀σ' H',N σ' H'->∃m',m'<m/\W (i+1) m' σ' H')/\∀x H',(Be K a).yld i H x H'->g x σ H' fun σ2 H2=>tb { D with nx:=N,ct:=N,bk:=D.nx } σ2 H2):=by
 refine⟨fun i m σ H=>m=xs.length-i/\i<=xs.length/\Pv i σ H,⟨xs.length,by simp,Nat.zero_le _,h0⟩,?_⟩;rintro i m σ H ⟨rfl,hi,p⟩;have q:=hl i σ H hi p;by_cases hlt:i<xs.length
 ·refine .inr ⟨⟨xs,xs[i],q,by simp[hlt]⟩,Pv (i+1),fun σ' H' p'=>⟨xs.length-(i+1),by omega,rfl,hlt,p'⟩,fun x H' y=>?_⟩;obtain⟨e,y⟩:=y;subst e;exact hs i x σ _ (y xs q) p
 ·have e:i=xs.length:=by omega
  subst e;exact .inl ⟨⟨xs,q,Nat.le_refl _⟩,hd σ H p⟩
abbrev R2:=V->V->Hp->VK->Prop
def OpR (X:Cx)(f:Value->Value->Sem Value)(r:R2):Prop :=
 ∀(pins:List (Addr×Obj)) (s:Shared) (σ:St) (H:Hp) (x y:V) (v u:Value) (Q:VK),Inv X pins σ H s->RelV x v->RelV y u->r x y H Q ->
  wpAny (model X.prog X.w) X.A (f v u) (EP X pins σ Q) X.xe s
def Gn (X:Cx)(f:Value->Sem Value)(r:V->Hp->VK->Prop):Prop :=
 ∀(pins:List (Addr×Obj)) (s:Shared) (σ:St) (H:Hp) (x:V) (v:Value) (Q:VK),Inv X pins σ H s->RelV x v->r x H Q ->
  wpAny (model X.prog X.w) X.A (f v) (EP X pins σ Q) X.xe s
def dr (X:Cx)(f:Value)(r:List V->Hp->VK->Prop):Prop :=
 ∀(pins:List (Addr×Obj)) (s:Shared) (σ:St) (H:Hp) (xs:List V) (us:List Value) (Q:VK),Inv X pins σ H s->Vals xs us->r xs H Q ->
  wpAny (model X.prog X.w) X.A (call f us) (EP X pins σ Q) X.xe s
def G0 (X:Cx)(r:V->Hp->(Bool->Hp->Prop)->Prop):Prop :=
 ∀(pins:List (Addr×Obj)) (s:Shared) (σ:St) (H:Hp) (x:V) (v:Value) (Q:Bool->Hp->Prop),Inv X pins σ H s->RelV x v->r x H Q ->
  wpAny (model X.prog X.w) X.A (truthy v) (TP X pins σ Q) X.xe s
noncomputable def Bm (r:R2)(ta tb:TE):TE:=fun σ H Q=>ta σ H fun x H1=>tb σ H1 fun y H2=>r x y H2 Q
noncomputable def G6 (r:V->Hp->VK->Prop)(ta:TE):TE:=fun σ H Q=>ta σ H fun x H1=>r x H1 Q
def rI (C:Int->Int->Prop)(g:Int->Int->V):R2:=fun x y H Q=>∃i j,x=.int i/\y=.int j/\C i j/\Q (g i j) H
def CN (g:Int->Int->V):R2:=fun x y H Q=>∃i j,x=.int i/\y=.int j/\Q (g i j) H
def rU (g:Int->V):V->Hp->VK->Prop:=fun x H Q=>∃i,x=.int i/\Q (g i) H
section
variable {X:Cx}{a b c:Expr}{ta tb tc:TE}{pos:Pos}
def EW (ha:PE X a ta)(hb:PE X b tb){pins:List (Addr×Obj)}{s:Shared}{σ:St}{H:Hp}{R:V->V->Hp->Prop}(I:Inv X pins σ H s)
 (h:ta σ H fun x H1=>tb σ H1 fun y H2=>R x y H2) {Q:Value->Shared->Prop} {f:Value->Value->Sem Value}
 (hf:∀v u s2 x y H2,Inv X pins σ H2 s2->RelV x v->RelV y u->R x y H2->wpAny (model X.prog X.w) X.A (f v u) Q X.xe s2) :
 wpAny (model X.prog X.w) X.A (eval a X.env) (fun v s₁=>wpAny (model X.prog X.w) X.A (eval b X.env) (fun u s₂=>wpAny (model X.prog X.w) X.A (f v u) Q X.xe s₂) X.xe s₁) X.xe s:=by
 refine bC (ha pins s σ H _ I h) fun v s1 ⟨x,H1,I1,r1,q1⟩=>?_;refine bC (hb pins s1 σ H1 _ I1 q1) fun u s2 ⟨y,H2,I2,r2,q2⟩=>?_;exact hf v u s2 x y H2 I2 r1 r2 q2
def zu {op:Operator}{r:R2}(ho:OpR X (binaryOp op) r)(ha:PE X a ta)(hb:PE X b tb):PE X (.BinOp a op b pos) (Bm r ta tb):=by
 intro pins s σ H Q I h;exact wpAny_BinOp (EW ha hb I h fun v u s2 x y H2 I2 rx ry q=>ho pins s2 σ H2 x y v u Q I2 rx ry q)
def CO {op:UnaryOp}{r:V->Hp->VK->Prop}(ho:Gn X (unaryOp op) r)(ha:PE X a ta):PE X (.UnaryOp op a pos) (G6 r ta):=by
 intro pins s σ H Q I h;exact UnaryOp_ (bC (ha pins s σ H _ I h) fun v s1 ⟨x,H1,I1,r1,q1⟩=>ho pins s1 σ H1 x v Q I1 r1 q1)
def GM {f:Value->Value->Sem Value}{C:Int->Int->Prop}{g:Int->Int->Int}
 (rule:∀(i j:Int) (t u:Tok) (s:Shared) (Q:Value->Shared->Prop) (E:Value->Shared->Prop),C i j->Q (.int (g i j) s.toks) { s with toks:=s.toks+1 }->wpAny (model X.prog X.w) X.A (f (.int i t) (.int j u)) Q E s) :
 OpR X f (rI C fun i j=>.int (g i j)):=by
 intro pins s σ H x y v u Q I rx ry h;obtain⟨i,j,rfl,rfl,hc,q⟩:=h;obtain⟨t,rfl⟩:=rx;obtain⟨t',rfl⟩:=ry;exact rule i j t t' s _ _ hc ⟨.int (g i j),H,I.tok _,⟨_,rfl⟩,q⟩
def FM {f:Value->Value->Sem Value}{g:Int->Int->Int}
 (rule:∀(i j:Int) (t u:Tok) (s:Shared) (Q:Value->Shared->Prop) (E:Value->Shared->Prop),Q (.int (g i j) s.toks) { s with toks:=s.toks+1 }->wpAny (model X.prog X.w) X.A (f (.int i t) (.int j u)) Q E s) :
 OpR X f (CN fun i j=>.int (g i j)):=by
 intro pins s σ H x y v u Q I rx ry h;obtain⟨i,j,rfl,rfl,q⟩:=h;obtain⟨t,rfl⟩:=rx;obtain⟨t',rfl⟩:=ry;exact rule i j t t' s _ _ ⟨.int (g i j),H,I.tok _,⟨_,rfl⟩,q⟩
def BU {f:Value->Value->Sem Value}{g:Int->Int->Bool}
 (rule:∀(i j:Int) (t u:Tok) (s:Shared) (Q:Value->Shared->Prop) (E:Value->Shared->Prop),Q (.bool (g i j)) s->wpAny (model X.prog X.w) X.A (f (.int i t) (.int j u)) Q E s) :
 OpR X f (CN fun i j=>.bl (g i j)):=by
 intro pins s σ H x y v u Q I rx ry h;obtain⟨i,j,rfl,rfl,q⟩:=h;obtain⟨t,rfl⟩:=rx;obtain⟨t',rfl⟩:=ry;exact rule i j t t' s _ _ ⟨.bl (g i j),H,I,rfl,q⟩
def G4 (i j:Int):Prop:=0<j/\j<1073741824
def CMul (i j:Int):Prop:=(-(2 ^ 64)<i/\i<2 ^ 64)\/(-(2 ^ 64)<j/\j<2 ^ 64)
def CMul.ok {i j:Int}(h:CMul i j):IntMulOk i j:=by
 rcases h with ⟨h1,h2⟩ | ⟨h1,h2⟩
 ·exact .of_left (intBits_le_64 h1 h2)
 ·exact .of_right (intBits_le_64 h1 h2)
def op_add:OpR X (binaryOp .Add) (CN fun i j=>.int (i+j)):=FM fun _ _ _ _ _ _ _ q=>add_int q
def D0:OpR X (binaryOp .Sub) (CN fun i j=>.int (i-j)):=FM fun _ _ _ _ _ _ _ q=>sub_int q
def op_mul:OpR X (binaryOp .Mult) (rI CMul fun i j=>.int (i*j)):=GM fun _ _ _ _ _ _ _ hc q=>mul_int q hc.ok
def BQ:OpR X (binaryOp .FloorDiv) (rI G4 fun i j=>.int (i / j)):=GM fun i j _ _ _ _ _ hc q=>by
 have h1:(0:Int)<j:=hc.1;have h2:j<1073741824:=hc.2;exact floordiv_int (by omega) (by rw[Int.fdiv_eq_ediv_of_nonneg i (by omega)];exact q) (.inl (PyProof.noPylong_small (by omega)))
def D1:OpR X (binaryOp .Mod) (rI (fun _ j=>0<j) fun i j=>.int (i % j)):=GM fun i j _ _ _ _ _ hc q=>by
 have h1:(0:Int)<j:=hc;exact mod_int' (by omega) (by rw[Int.fmod_eq_emod_of_nonneg i (by omega)];exact q)
def Hk {f:Value->Sem Value}{g:Int->Int}
 (rule:∀(i:Int) (t:Tok) (s:Shared) (Q:Value->Shared->Prop) (E:Value->Shared->Prop),Q (.int (g i) s.toks) { s with toks:=s.toks+1 }->wpAny (model X.prog X.w) X.A (f (.int i t)) Q E s) :
 Gn X f (rU fun i=>.int (g i)):=by
 intro pins s σ H x v Q I rx h;obtain⟨i,rfl,q⟩:=h;obtain⟨t,rfl⟩:=rx;exact rule i t s _ _ ⟨.int (g i),H,I.tok _,⟨_,rfl⟩,q⟩
def yo:Gn X (unaryOp .USub) (rU fun i=>.int (-i)):=Hk fun _ _ _ _ _ q=>neg_int q
end
section
variable {X:Cx}{a b c:Expr}{ta tb tc:TE}{pos:Pos}
def Es {pins:List (Addr×Obj)}{σ:St}{H:Hp}{s:Shared}{Q:VK}{k k':Bool}(I:Inv X pins σ H s)(q:Q (.bl k) H)(e:k=k'):EP X pins σ Q (.bool k') s:=by
 subst e;exact⟨.bl k,H,I,rfl,q⟩
def FI:OpR X (compareOp .Lt) (CN fun i j=>.bl (decide (i<j))):=BU fun _ _ _ _ _ _ _ q=>lt_int q
def FJ:OpR X (compareOp .LtE) (CN fun i j=>.bl (decide (i<=j))):=BU fun _ _ _ _ _ _ _ q=>le_int q
def FK:OpR X (compareOp .Gt) (CN fun i j=>.bl (decide (j<i))):=BU fun _ _ _ _ _ _ _ q=>gt_int q
def FL:OpR X (compareOp .GtE) (CN fun i j=>.bl (decide (j<=i))):=BU fun _ _ _ _ _ _ _ q=>ge_int q
def xw:OpR X (compareOp .In) (fun x y H Q=>∃i j,x=.str i/\y=.str j/\Q (.bl (!(Builtin.Str.occurrences j i 0 j.length 1).isEmpty)) H):=by
 intro pins s σ H x y v u Q I rx ry h;obtain⟨i,j,rfl,rfl,q⟩:=h;obtain⟨t,rfl⟩:=rx;obtain⟨t',rfl⟩:=ry;exact in_str (Es I q rfl)
def OpR.or {f:Value->Value->Sem Value}{r r':R2}(h:OpR X f r)(h':OpR X f r'):OpR X f (fun x y H Q=>r x y H Q\/r' x y H Q):=by
 intro pins s σ H x y v u Q I rx ry q;rcases q with q | q
 ·exact h pins s σ H x y v u Q I rx ry q
 ·exact h' pins s σ H x y v u Q I rx ry q
def cq (b:Expr){op:CmpOp}(h:op≠.In:=by decide)(h2:op≠.NotIn:=by decide):behindInMarks op b=false:=by
 have e1:(op==CmpOp.In)=false:=by cases op <;> first | rfl | exact absurd rfl h
 have e2:(op==CmpOp.NotIn)=false:=by cases op <;> first | rfl | exact absurd rfl h2
 cases b <;> simp[behindInMarks,e1,e2]
def BM {op:CmpOp}{r:R2}(ho:OpR X (compareOp op) r)(ha:PE X a ta)(hb:PE X b tb)(hm:behindInMarks op b=false):PE X (.Compare a [op] [b] pos) (Bm r ta tb):=by
 intro pins s σ H Q I h;exact wpAny_Compare1 (EW ha hb I h fun v u s2 x y H2 I2 rx ry q=>ho pins s2 σ H2 x y v u Q I2 rx ry q) hm
noncomputable def CI (t:TE):TT:=fun σ H Q=>t σ H fun x H'=>∃k,x=.bl k/\Q k H'
def BD {op:CmpOp}{r:R2}(ho:OpR X (compareOp op) r)(ha:PE X a ta)(hb:PE X b tb)(hm:behindInMarks op b=false):PT X (.Compare a [op] [b] pos) (CI (Bm r ta tb)):=by
 intro pins s σ H Q I h;refine wpAny_isTrue_Compare1 (bC (ha pins s σ H _ I h) fun v s1 ⟨x,H1,I1,r1,q1⟩=>bC (hb pins s1 σ H1 _ I1 q1) fun u s2 ⟨y,H2,I2,r2,q2⟩ =>
  bC (ho pins s2 σ H2 x y v u _ I2 r1 r2 q2) fun c s3 ⟨z,H3,I3,r3,k,e,q3⟩=>?_) hm
 subst e;cases r3;exact wpAny_truthy_bool ⟨H3,I3,q3⟩
noncomputable def Dp (r r':R2)(ta tb tc:TE):TE:=fun σ H Q=>ta σ H fun x H1=>tb σ H1 fun y H2=>r x y H2 fun z H3=>∃k,z=.bl k /\
 (if k=true then tc σ H3 fun w' H4=>r' y w' H4 Q else Q (.bl false) H3)
def zd {op op':CmpOp}{r r':R2}(ho:OpR X (compareOp op) r)(ho':OpR X (compareOp op') r')(ha:PE X a ta)(hb:PE X b tb)(hc:PE X c tc)
 (hm:lastMarks [op,op'] [b,c]=false:=by with_unfolding_all rfl):PT X (.Compare a [op,op'] [b,c] pos) (CI (Dp r r' ta tb tc)):=by
 intro pins s σ H Q I h;refine isTrue_chain (bC (ha pins s σ H _ I h) fun v s1 ⟨x,H1,I1,r1,q1⟩=>test_link (bC (hb pins s1 σ H1 _ I1 q1) fun u s2 ⟨y,H2,I2,r2,q2⟩ =>
  bC (ho pins s2 σ H2 x y v u _ I2 r1 r2 q2) fun d s3 ⟨z,H3,I3,r3,k,e,q3⟩=>?_)) hm
 subst e;cases r3;refine wpAny_truthy_bool ?_;cases k with
 | false =>
   obtain⟨k',e',q'⟩:=q3;cases e';exact ite_ff ⟨H3,I3,q'⟩
 | true =>
   refine ite_tt (test_last (bC (hc pins s3 σ H3 _ I3 q3) fun w' s4 ⟨z',H4,I4,r4,q4⟩=>bC (ho' pins s4 σ H4 y z' u w' _ I4 r2 r4 q4) fun d' s5 ⟨z2,H5,I5,r5,k2,e2,q5⟩=>?_));subst e2;cases r5;exact wpAny_truthy_bool ⟨H5,I5,q5⟩
def EZ (K:PySem.W.Frag)(x:V)(H:Hp)(k:Bool):Prop :=
 match x with
 | .non=>k=false
 | .bl b=>k=b
 | .int i=>k=(i != 0)
 | .str y=>y.length<=sizeLine/\k=((y.length:Int) != 0)
 | .byt y=>y.size<=sizeLine/\k=((y.size:Int) != 0)
 | .ref p=>(∃xs,SqL K H p xs/\k = !xs.isEmpty)\/(∃xs,SqT K H p xs/\k = !xs.isEmpty)\/∃kvs,H p=some (.dK kvs)/\k = !kvs.isEmpty
 | _=>False
def uB {κ:Type}{kvs:List (κ×V)}{vs:List (κ×Value)}(r:KV kvs vs):(!vs.isEmpty) = !kvs.isEmpty:=by
 cases r <;> rfl
def lZ {xs:List V}{its:List Value}(r:Vals xs its):(!its.toArray.isEmpty) = !xs.isEmpty:=by
 cases r <;> simp
def hV:(sizeLine:Nat)<2 ^ 63:=by rw[sizeLine_eq];decide
def Dh:G0 X (fun x H Q=>∃k,EZ X.K x H k/\Q k H):=by
 intro pins s σ H x v Q I rx h;obtain⟨k,e,q⟩:=h;have hl:=hV;have hs:sizeLine=16777216:=sizeLine_eq;cases x with
 | non =>
   cases rx;have e':k=false:=e;subst e';exact truthy_none ⟨H,I,q⟩
 | bl b =>
   cases rx;have e':k=b:=e;subst e';exact wpAny_truthy_bool ⟨H,I,q⟩
 | int i =>
   obtain⟨t,rfl⟩:=rx;have e':k=(i != 0):=e;subst e';exact PySem.P.truthy_int ⟨H,I,q⟩
 | str y =>
   obtain⟨t,rfl⟩:=rx;obtain⟨hy,e'⟩:y.length<=sizeLine/\k=((y.length:Int) != 0):=e;subst e';exact PySem.P.truthy_str (by omega) ⟨H,I.tok _,q⟩
 | byt y =>
   obtain⟨t,rfl⟩:=rx;obtain⟨hy,e'⟩:y.size<=sizeLine/\k=((y.size:Int) != 0):=e;subst e';exact PySem.W.truthy_bytes (by omega) ⟨H,I.tok _,q⟩
 | ref p =>
   cases rx;have e':(∃xs,SqL X.K H p xs/\k = !xs.isEmpty)\/(∃xs,SqT X.K H p xs/\k = !xs.isEmpty)\/∃kvs,H p=some (.dK kvs)/\k = !kvs.isEmpty:=e;rcases e' with ⟨xs,hx,e'⟩ | ⟨xs,hx,e'⟩ | ⟨kvs,hx,e'⟩
   ·subst e';obtain⟨its,r,pl,hz⟩:=I.list hx;have hlen:=r.length;exact wpAny_truthy_list pl.isList (by simp only[List.size_toArray];omega) ⟨H,I.tok _,by rw[lZ r];exact q⟩
   ·subst e';obtain⟨its,r,pl,hz⟩:=I.tuple hx;have hlen:=r.length;exact truthy_tuple pl (by simp only[List.size_toArray];omega) ⟨H,I.tok _,by rw[lZ r];exact q⟩
   ·subst e';obtain⟨hz,hS,vs,r,m⟩:kvs.length<=sizeLine/\(p==sysModules)=false/\∃vs,KV kvs vs/\s.heap.DictOf (aW X.prog X.w) p vs:=I.hok p _ hx;have hlen:kvs.length=vs.length:=Paired.length r;exact wpAny_truthy_dict hS m (by omega) ⟨H,I.tok _,by rw[uB r];exact q⟩
 | _=>exact(show False from e).elim
def zc (ha:PE X a ta)(he:∀whole,isTrue a X.env whole=(do let v <-whole;standAt a.pos;holding [v] (truthy v))) :
 PT X a (fun σ H Q=>ta σ H fun x H'=>∃k,EZ X.K x H' k/\Q k H'):=by
 intro pins s σ H Q I h;exact isTrue_plain (bC (ha pins s σ H _ I h) fun v s1 ⟨x,H1,I1,r1,q1⟩=>Dh pins s1 σ H1 x v Q I1 r1 q1) (he _)
def ur:OpR X (binaryOp .Add) (fun x y H Q=>∃i j,x=.str i/\y=.str j/\i.length+j.length<=sizeLine/\Q (.str (i++j)) H):=by
 intro pins s σ H x y v u Q I rx ry h;obtain⟨i,j,rfl,rfl,hz,q⟩:=h;obtain⟨t,rfl⟩:=rx;obtain⟨t',rfl⟩:=ry;exact add_str (fun t' tk=>⟨.str (i++j),H,I.tok _,⟨_,rfl⟩,q⟩) hz
def vals1 {x:V}{us:List Value}(r:Vals [x] us):∃u,us=[u]/\RelV x u:=by
 cases r with
 | cons r1 r2=>cases r2;exact⟨_,rfl,r1⟩
def vals2 {x y:V}{us:List Value}(r:Vals [x,y] us):∃u w',us=[u,w']/\RelV x u/\RelV y w':=by
 cases r with
 | cons r1 r2 =>
   cases r2 with
   | cons r3 r4=>cases r4;exact⟨_,_,rfl,r1,r3⟩
def AU:dr X (.builtin "abs") (fun xs H Q=>∃i,xs=[.int i]/\Q (.int (if i<0 then -i else i)) H):=by
 intro pins s σ H xs us Q I r h;obtain⟨i,rfl,q⟩:=h;obtain⟨u,rfl,t,rfl⟩:=vals1 r;exact call_abs_int fun u tk=>⟨.int (if i<0 then -i else i),H,I.tok _,⟨_,rfl⟩,q⟩
def yc (hc:X.calm=true):dr X (.builtin "max") (fun xs H Q=>∃i j,xs=[.int i,.int j]/\Q (.int (if j>i then j else i)) H):=by
 intro pins s σ H xs us Q I r h;obtain⟨i,j,rfl,q⟩:=h;obtain⟨u,w',rfl,⟨t,rfl⟩,⟨t',rfl⟩⟩:=vals2 r;refine max_two_ints (I.ok.hd hc) fun h' tk k=>⟨_,H,I.kept k,?_,q⟩;by_cases hj:j>i
 ·rw[if_pos hj,if_pos hj];exact⟨_,rfl⟩
 ·rw[if_neg hj,if_neg hj];exact⟨_,rfl⟩
def yb (hc:X.calm=true):dr X (.builtin "min") (fun xs H Q=>∃i j,xs=[.int i,.int j]/\Q (.int (if j<i then j else i)) H):=by
 intro pins s σ H xs us Q I r h;obtain⟨i,j,rfl,q⟩:=h;obtain⟨u,w',rfl,⟨t,rfl⟩,⟨t',rfl⟩⟩:=vals2 r;refine min_two_ints (I.ok.hd hc) fun h' tk k=>⟨_,H,I.kept k,?_,q⟩;by_cases hj:j<i
 ·rw[if_pos hj,if_pos hj];exact⟨_,rfl⟩
 ·rw[if_neg hj,if_neg hj];exact⟨_,rfl⟩
end
section
variable {prog:Program}{w:World}{A:Around}{E:Value->Shared->Prop}{s:Shared}{K:PySem.W.Frag}{x dx C f:Addr}{mA:Str->Option Value}{name:Str}{v:Value}
end
def RelO.some_of {v:V}{o:Option Value}(r:RelO (some v) o):∃u,o=some u/\RelV v u:=by
 cases o with
 | none=>exact(show False from r).elim
 | some u=>exact⟨u,rfl,r⟩
section
variable {P:Program}{w:World}{H H':Hp}{h h':Heap}{a C dx:Addr}{fs fs':List (Str×V)}
end
section
variable {X:Cx}{pins:List (Addr×Obj)}{σ:St}{H:Hp}{s:Shared}{a C dx:Addr}{fs:List (Str×V)}{f:Str}{v:V}{A:Around}{E:Value->Shared->Prop}
end
section
variable {X:Cx}{o e value:Expr}{f:Str}{pos pos' tpos:Pos}{ta tv:TE}
end
section
variable {X:Cx}{pins:List (Addr×Obj)}{σ:St}{H:Hp}{s:Shared}{A:Around}{E:Value->Shared->Prop}{Q:Value->Shared->Prop}{c:Value}{b:Bool}
end
structure Room (k:Nat)(A:Around):Prop where
 hd:A.handled=none
 dp:A.depth+3*k+5<recursionLimit
 un:A.units+16*k+200<cLine
def Room.mono {j k:Nat}{A:Around}(r:Room k A)(h:j<=k):Room j A:=⟨r.hd,by have:=r.dp;omega,by have:=r.un;omega⟩
def Room.deeper {k:Nat}{A:Around}(r:Room (k+1) A)(env:Env):Room k (A.deeper env) :=
 ⟨r.hd,by have:=r.dp;show A.depth+1+3*k+5<_;omega,by have:=r.un;show A.units+3+16*k+200<_;omega⟩
def Room.depth {k:Nat}{A:Around}(r:Room k A):A.depth<recursionLimit:=by have:=r.dp;omega
def Room.units {k:Nat}{A:Around}(r:Room k A):A.units+64<cLine:=by have:=r.un;omega
noncomputable def tS:TA:=fun _ H Q=>Q [] H
noncomputable def fO (ta:TE)(tr:TA):TA:=fun σ H Q=>ta σ H fun x H1=>tr σ H1 fun xs H2=>Q (x::xs) H2
section
variable {X:Cx}{e:Expr}{es:List Expr}{te:TE}{t:TA}{pos:Pos}
def bF:PA X [] tS:=fun _ _ _ _ H Q I h=>Calls.spliced_nil ⟨[],H,I,.nil,h⟩
def aI (ha:PE X e te)(hr:PA X es t)(hs:starEach (e::es) X.env=(false,eval e X.env)::starEach es X.env:=by rfl):PA X (e::es) (fO te t):=by
 intro pos pins s σ H Q I h;rw[hs];show wpAny _ _ (spliced ((false,eval e X.env)::backTo pos (starEach es X.env))) _ _ s;refine Calls.spliced_cons (bC (ha pins s σ H _ I h) fun u s1 ⟨x,H1,I1,r1,q1⟩=>?_);exact bC (hr pos pins s1 σ H1 _ I1 q1) fun us s2 ⟨xs,H2,I2,r2,q2⟩=>⟨x::xs,H2,I2,.cons r1 r2,q2⟩
def Gz (t:TA):TE:=fun σ H Q=>t σ H fun xs H1=>xs.length<=sizeLine/\∀p,H1 p=none->Q (.ref p) (bm H1 p (.tup xs))
def Fn (t:TA):TE:=fun σ H Q=>t σ H fun xs H1=>xs.length<=sizeLine/\∀p,H1 p=none->Q (.ref p) (bm H1 p (.lst xs))
def DR {x1}(h:PA X es t):PE X (.Tuple es x1 pos) (Gz t):=by
 intro pins s σ H Q I hq;refine wpAny_Tuple_spliced (bC (h pos pins s σ H _ I hq) fun us s1 ⟨xs,H1,I1,r,z,q⟩=>⟨by rw[<-r.length];exact z,?_⟩);have hf:H1 s1.heap.objs.size=none:=I1.hok.fresh (Nat.le_refl _);refine⟨.ref s1.heap.objs.size,bm H1 s1.heap.objs.size (.tup xs),I1.laid (t':=s1.toks) (fun b u e=>Heap.get?_push_of_some _ e) (Nat.le_refl _) ?_,rfl,q _ hf⟩;exact⟨z,us,r,⟨_,Heap.get?_push_size _ rfl,rfl,_,rfl⟩⟩
def uk (h:PA X es t):PE X (.List es pos) (Fn t):=by
 intro pins s σ H Q I hq;refine wpAny_List_spliced (bC (h pos pins s σ H _ I hq) fun us s1 ⟨xs,H1,I1,r,z,q⟩=>⟨by rw[<-r.length];exact z,?_⟩);have hf:H1 s1.heap.objs.size=none:=I1.hok.fresh (Nat.le_refl _);refine⟨.ref s1.heap.objs.size,bm H1 s1.heap.objs.size (.lst xs),I1.laid (t':=s1.toks) (fun b u e=>Heap.get?_push_of_some _ e) (Nat.le_refl _) ?_,rfl,q _ hf⟩;exact⟨z,us,0,r,Heap.get?_push_size _ rfl⟩
end
abbrev Sp:=List V->Hp->VK->XK->Prop
abbrev A9:=List Env->Hp->Shared->XK->Value->Shared->Prop
structure CH (P:Program)(w:World)(K:PySem.W.Frag)(mg:Str->Option Value)(base:Heap)(A:Around)(outer:List Env)(s:Shared)(H:Hp):Prop where
 frames:A.frames=some outer
 mod:Mod K mg base
 bs:∀b o,base.get? b=some o->s.heap.get? b=some o/\H b=none
 bsz:base.objs.size<=s.heap.objs.size
 funs:s.heap.FunFrames base outer
 frf:∀b∈nj outer,H b=none
 hok:HOk P w H s.heap
 bare:AllBare s.gens
def CE (outer:List Env)(P:Program)(w:World)(H:Hp)(s:Shared)(Q:VK)(u:Value)(s':Shared):Prop :=
 ∃v H',s'.os=s.os/\AllBare s'.gens/\Un (nj outer) [] H H' s.heap s'.heap/\HOk P w H' s'.heap/\RelV v u/\Q v H'
def CR (CX:A9)(outer:List Env)(P:Program)(w:World)(H:Hp)(s:Shared)(Q:VK)(E:XK)(r:Result)(s':Shared):Prop :=
 match r with
 | .ok (.ret u)=>CE outer P w H s Q u s'
 | .ok _=>False
 | .error e=>CX outer H s E e s'
structure gC (P:Program)(w:World)(K:PySem.W.Frag)(mg:Str->Option Value)(base:Heap)(CX:A9)(k:Nat)(f:Addr)(fd:FuncData)(ps:List Str)(sp:Sp):Prop where
 len:∀vs H Q E,sp vs H Q E->vs.length=ps.length
 run:∀(A:Around) (outer:List Env) (s:Shared) (H:Hp) (args:Args) (us:List Value) (vs:List V) (Q:VK) (E:XK),Room k A->CH P w K mg base A outer s H->BindsTo s fd args (ps.zip us)->Vals vs us->sp vs H Q E ->
  codeAny (model P w) A (.call (.ref f) args) (CR CX outer P w H s Q E) s
section
variable {X:Cx}{pins:List (Addr×Obj)}{σ:St}{H:Hp}{s s':Shared}
def Inv.env0 (I:Inv X pins σ H s):CH X.prog X.w X.K X.mg X.base X.A X.stack s H :=
 ⟨I.ok.frames,I.ok.mod,I.bs,Nat.le_trans I.ok.bsz I.sz,I.stack,I.stkFree,I.hok,I.bare⟩
def Inv.after {Q:VK}{u:Value}(I:Inv X pins σ H s)(h:CE X.stack X.prog X.w H s Q u s'):EP X pins σ Q u s':=by
 obtain⟨v,H',os,bare,un,hok,r,q⟩:=h;obtain⟨hh,g,d,t,os'⟩:=s';obtain rfl:os'=s.os:=os;exact⟨v,H',I.call (h':=hh) (g':=g) (d':=d) (t':=t) (ch:=[]) un hok bare (fun b z=>absurd z (by simp)),r,q⟩
end
noncomputable def rh (sp:Sp)(dvs:List V)(E:XK)(t:TA):TE:=fun σ H Q=>t σ H fun vs H1=>sp (vs++dvs) H1 Q E
def Binds (K:PySem.W.Frag)(fd:FuncData)(ps:List Str)(ds:List Value):Prop :=
 ∀(s:Shared) (us:List Value),K.In s.heap->(us++ds).length=ps.length->BindsTo s fd ⟨us,[]⟩ (ps.zip (us++ds))
def Binds.all {K:PySem.W.Frag}{fd:FuncData}{ps:List Str}(h:∀us:List Value,us.length=ps.length->bindArgs fd ⟨us,[]⟩=pure (ps.zip us)):Binds K fd ps []:=fun s us _ hl=>by
 rw[List.append_nil] at hl ⊢;exact .of_eq (h us hl)
def ve (CX:A9)(X:Cx)(E:XK):Prop:=∀(pins:List (Addr×Obj)) (σ:St) (H:Hp) (s:Shared) (e:Value) (s':Shared),Inv X pins σ H s->CX X.stack H s E e s'->X.xe e s'
section
variable {X:Cx}{CX:A9}{k:Nat}{f C:Addr}{fd:FuncData}{ps:List Str}{sp:Sp}{dvs:List V}{ds:List Value}{E:XK}{x m:Str}{p pos apos:Pos}{e o:Expr}{es:List Expr}{ta:TE}{t:TA}
def Dv {pins:List (Addr×Obj)}{σ:St}{H:Hp}{s:Shared}{Q:VK}{us:List Value}{vs:List V}(F:gC X.prog X.w X.K X.mg X.base CX k f fd ps sp)(hr:Room k X.A)(hb:Binds X.K fd ps ds)(hd:Vals dvs ds)(hx:ve CX X E)
 (I:Inv X pins σ H s) (r:Vals vs us) (h:sp (vs++dvs) H Q E):wpAny (model X.prog X.w) X.A (call (.ref f) us) (EP X pins σ Q) X.xe s:=by
 have r2:Vals (vs++dvs) (us++ds):=r.append hd;have hl:(us++ds).length=ps.length:=by rw[<-r2.length];exact F.len _ _ _ _ h
 refine wpAny_call (codeAny_mono (F.run X.A X.stack s H ⟨us,[]⟩ (us++ds) (vs++dvs) Q E hr I.env0 (hb s us I.kIn hl) r2 h) fun r s' hq=>?_);cases r with
 | error e=>exact hx pins σ H s e s' I hq
 | ok fl =>
   cases fl with
   | ret u=>exact I.after hq
   | next=>exact False.elim hq
   | brk=>exact False.elim hq
   | cont=>exact False.elim hq
def ir (F:gC X.prog X.w X.K X.mg X.base CX k f fd ps sp)(hr:Room k X.A)(hg:Gl X x)(hm:X.mg x=some (.ref f))(hk:PySem.W.keepIn X.K (.ref f)=true)(hb:Binds X.K fd ps ds)(hd:Vals dvs ds)(hx:ve CX X E)
 (ha:PA X (e::es) t) (hdb:(x==("__debug__":Str))=false:=by decide) (he:starEach (e::es) X.env=(false,eval e X.env)::starEach es X.env:=by rfl) (hpl:(backTo pos (starEach es X.env)).any (·.1)=false:=by rfl) :
 PE X (.Call (.Name x p) (e::es) [] pos) (rh sp dvs E t):=by
 intro pins s σ H Q I h;refine wpAny_Call_Name_kw (v3 I hg hm ?_ hdb);refine PySem.W.callWith_K (h₀:=X.base) I.ok.mod.kin hk (bC (ha pos pins s σ H _ I h) fun us s1 ⟨vs,H1,I1,r,q⟩=>⟨I1.kIn,?_⟩) he hpl;exact Dv F hr hb hd hx I1 r q
end
section
variable {X:Cx}{CX:A9}{k:Nat}{f C:Addr}{fd:FuncData}{ps ks:List Str}{sp:Sp}{E:XK}{x m:Str}{p pos apos kpos:Pos}{e o:Expr}{es:List Expr}{kws:List Keyword}{te ta:TE}{t tk:TA}{nm:Option Str}
variable {g:List Value->List Value->List Value}{gV:List V->List V->List V}
end
structure dG (N P:List Str)(sc:Scope):Prop where
 kind:sc.kind=.function
 co:sc.isCoroutine=false
 gen:sc.isGenerator=false
 nd:N.Nodup
 pre:N.take P.length=P
 par:∀x∈P,sc.names.lookup x=some .local\/sc.names.lookup x=some .cell
 nofree:∀y∈sc.names,y.2≠.free
def oJ {kindOf:Str->Option NameKind}{x:Str}:∀{binds:List (Str×Value)} {m:Str->Option Value},(∀v,(x,v)∉binds)->bindL kindOf binds m x=m x
 | [],_,_=>rfl
 | (n,v)::r,m,h=>by
   unfold bindL;rw[oJ fun w hw=>h w (List.mem_cons_of_mem _ hw)];split
   ·have:x≠n:=by rintro rfl;exact h v List.mem_cons_self
    simp[this]
   ·rfl
def oM {kindOf:Str->Option NameKind}{x:Str}:∀{binds:List (Str×Value)} {m:Str->Option Value},(∀v,(x,v)∉binds)->bindC kindOf binds m x=m x
 | [],_,_=>rfl
 | (n,v)::r,m,h=>by
   unfold bindC;rw[oM fun w hw=>h w (List.mem_cons_of_mem _ hw)];split
   ·rfl
   ·have:x≠n:=by rintro rfl;exact h v List.mem_cons_self
    simp[this]
def oK {kindOf:Str->Option NameKind}{x:Str}{v:Value}:∀{P:List Str} {vs:List Value} {i:Nat} {m:Str->Option Value},P.Nodup->P[i]? = some x->vs[i]? = some v->kindOf x=some .local ->
 bindL kindOf (P.zip vs) m x=some v
 | [],_,_,_,_,h,_,_=>by simp at h
 | _::_,[],_,_,_,_,h,_=>by simp at h
 | p::P,w::vs,0,m,nd,h1,h2,hk=>by
   simp at h1 h2;subst h1;subst h2;show bindL kindOf ((p,w)::P.zip vs) m p=_;unfold bindL;rw[oJ fun v hv=>(List.nodup_cons.mp nd).1 (List.of_mem_zip hv).1,if_pos hk];simp
 | p::P,w::vs,i+1,m,nd,h1,h2,hk=>by
   show bindL kindOf ((p,w)::P.zip vs) m x=_;unfold bindL;exact oK (i:=i) (List.nodup_cons.mp nd).2 (by simpa using h1) (by simpa using h2) hk
def oN {kindOf:Str->Option NameKind}{x:Str}{v:Value}:∀{P:List Str} {vs:List Value} {i:Nat} {m:Str->Option Value},P.Nodup->P[i]? = some x->vs[i]? = some v->kindOf x≠some .local ->
 bindC kindOf (P.zip vs) m x=some v
 | [],_,_,_,_,h,_,_=>by simp at h
 | _::_,[],_,_,_,_,h,_=>by simp at h
 | p::P,w::vs,0,m,nd,h1,h2,hk=>by
   simp at h1 h2;subst h1;subst h2;show bindC kindOf ((p,w)::P.zip vs) m p=_;unfold bindC;rw[oM fun v hv=>(List.nodup_cons.mp nd).1 (List.of_mem_zip hv).1,if_neg hk];simp
 | p::P,w::vs,i+1,m,nd,h1,h2,hk=>by
   show bindC kindOf ((p,w)::P.zip vs) m x=_;unfold bindC;exact oN (i:=i) (List.nodup_cons.mp nd).2 (by simpa using h1) (by simpa using h2) hk
noncomputable def start (N:List Str)(vs:List V):St:=vs.map some++List.replicate (N.length-vs.length) none
noncomputable def kf (CX:A9)(P:Program)(w:World)(K:PySem.W.Frag)(mg:Str->Option Value)(base:Heap)(N:List Str)(qual:Str)(scope:Scope)(f:Addr)(cd:Value)(A:Around)(outer:List Env)(s:Shared)(H:Hp)(E:XK):Cx where
 prog:=P
 w:=w
 K:=K
 mg:=mg
 base:=base
 A:=A.deeper (envOfC qual scope s.heap.objs.size f cd)
 N:=N
 s₀:=s
 H₀:=H
 env:=envOfC qual scope s.heap.objs.size f cd
 outer:=outer
 stack:=envOfC qual scope s.heap.objs.size f cd::outer
 ex:=[]
 calm:=true
 fn:=fun _=>true
 pn:=[]
 xe:=fun e s'=>wpAny (model P w) (A.deeper (envOfC qual scope s.heap.objs.size f cd)) (leaving (envOfC qual scope s.heap.objs.size f cd) e) (fun _ s''=>CX outer H s E e s'') (fun e' s''=>CX outer H s E e' s'') s'
def sZ {sc:Scope}{n:Nat}{x:Str}(h:sc.names.lookup x=some .cell):∃c,(cellsFrom n sc.names []).lookup x=some c:=by
 have q:=PySem.W.cellsFrom_some sc.names n [] (.inl h);exact Option.isSome_iff_exists.mp q
def xJ {CX:A9}{P:Program}{w:World}{K:PySem.W.Frag}{mg:Str->Option Value}{base:Heap}{N ps:List Str}{qual:Str}{scope:Scope}{f:Addr}{cd:Value}{A:Around}{outer:List Env}{s s1:Shared}{H:Hp}{E:XK}{us:List Value}{vs:List V}
 (S:dG N ps scope) (hd:A.handled=none) (e0:CH P w K mg base A outer s H) (hl:vs.length=ps.length) (r:Vals vs us)
 (x:InCallC s s.heap.objs.size (bindL (envOfC qual scope s.heap.objs.size f cd).kindOf (ps.zip us) fun _=>none) (cellsFrom (s.heap.objs.size+1) scope.names []) (bindC (envOfC qual scope s.heap.objs.size f cd).kindOf (ps.zip us) fun _=>none) s1) :
 Inv (kf CX P w K mg base N qual scope f cd A outer s H E) [] (start N vs) H s1:=by
 have hpl:ps.length<=N.length:=by have:=congrArg List.length S.pre;rw[List.length_take] at this;omega
 obtain⟨h1,tk,rfl,hk⟩:=x.done;have noA:∀b:Addr,b∉(kf CX P w K mg base N qual scope f cd A outer s H E).ex:=fun b z=>absurd (show b∈([]:List Addr) from z) (by simp);refine⟨⟨e0.mod,S.kind,rfl,rfl,Nat.le_refl _,fun y z c h1 h2=>?_,fun y hy=>?_,fun y c _ h=>?_,fun _=>hd,Around.frames_deeper e0.frames,.inr ⟨rfl,rfl⟩,fun b z=>absurd z (noA b),e0.bs,e0.bsz,fun b _ _=>noA b,fun b z=>absurd z (noA b),e0.funs,e0.frf⟩,
  rfl,e0.bare,Un.kept hk,⟨_,x.toInCall.ns,fun i y v h1 h2 h3=>?_⟩,fun y c h=>⟨_,x.cell y c h⟩,e0.hok.fresh (Nat.le_refl _),fun y c h=>?_,fun p hp=>absurd (show p∈([]:List (Addr×Obj)) from hp) (by simp),e0.hok.kept hk,?_⟩
 ·exact name_of_addr x.apart (PySem.mem_of_lookup h1) (PySem.mem_of_lookup h2)
 ·have hy:scope.names.lookup y=some .cell\/scope.names.lookup y=some .free:=hy;rcases hy with hy | hy
  ·exact sZ hy
  ·exact absurd rfl (S.nofree _ (PySem.mem_of_lookup hy))
 ·exact Nat.le_of_lt (x.above y c (PySem.mem_of_lookup h))
 ·have hi:i<vs.length:=by
   unfold start at h2;by_cases hi:i<vs.length
   ·exact hi
   ·rw[List.getElem?_append_right (by simpa using hi)] at h2;rw[List.getElem?_replicate] at h2;split at h2 <;> cases h2
  have ha:vs[i]? = some v:=by
   unfold start at h2;rw[List.getElem?_append_left (by simpa using hi),List.getElem?_map] at h2;cases e:vs[i]? with
   | none=>rw[e] at h2;cases h2
   | some a=>rw[e] at h2;cases h2;rfl
  obtain⟨u,hu,rv⟩:=r.get ha;have hp:ps[i]? = some y:=by
   rw[<-S.pre,List.getElem?_take_of_lt (by omega)];exact h1
  have ndP:ps.Nodup:=by rw[<-S.pre];exact S.nd.sublist (List.take_sublist _ _)
  refine⟨u,rv,?_⟩;rcases S.par y (List.mem_of_getElem? hp) with k | k
  ·exact .inl ⟨k,oK ndP hp hu k⟩
  ·obtain⟨c,e⟩:=sZ (n:=s.heap.objs.size+1) k;refine .inr ⟨.inl k,c,e,?_⟩;have q:=x.cell y c e;rw[oN ndP hp hu (by show scope.names.lookup y≠_;rw[k];decide)] at q;exact q
 ·exact e0.hok.fresh (Nat.le_of_lt (x.above y c (PySem.mem_of_lookup h)))
 ·unfold start;show _=N.length;rw[List.length_append,List.length_map,List.length_replicate];omega
def F3 {CX:A9}{P:Program}{w:World}{K:PySem.W.Frag}{mg:Str->Option Value}{base:Heap}{k:Nat}{f:Addr}{name qual:Str}{params:Arguments}{body:List Stmt}{scope:Scope}{dV kV doc pm cdv ct oc:Value}{an od:Option Addr}
 {osl:Array (Option Value)} {N ps:List Str} {sp:Sp} (lk:K.lookup f=some ⟨oc,od,.func (PySem.W.fnOf name qual params body scope dV kV doc pm an cdv ct),osl⟩) (hcd:PySem.W.codeIn K cdv qual=true) (S:dG N ps scope)
 (len:∀vs H Q E,sp vs H Q E->vs.length=ps.length)
 (hbody:∀(A:Around) (outer:List Env) (s:Shared) (H:Hp) (vs:List V) (Q:VK) (E:XK),Room k (A.deeper (envOfC qual scope s.heap.objs.size f cdv))->sp vs H Q E ->
  ∃t,PSs (kf CX P w K mg base N qual scope f cdv A outer s H E) body t/\t { nx:=fun _ H'=>Q .non H',rt:=Q } (start N vs) H) :
 gC P w K mg base CX (k+1) f (PySem.W.fnOf name qual params body scope dV kV doc pm an cdv ct) ps sp:=by
 refine⟨len,fun A outer s H args us vs Q E hr e0 hb r hsp=>?_⟩;have hl:=len _ _ _ _ hsp;have KX:K.In s.heap:=e0.mod.kin.keeps fun b o e=>(e0.bs b o e).1;have lim:s.heap.NoLimit:=e0.mod.nolimit.keeps fun b o e=>(e0.bs b o e).1;have hkind:∀y∈ps.zip us,scope.names.lookup y.1=some .local\/(scope.names.lookup y.1=some .cell/\((cellsFrom (s.heap.objs.size+1) scope.names []).lookup y.1).isSome=true):=fun⟨n,v⟩ hy=>by
  rcases S.par n (List.of_mem_zip hy).1 with q | q
  ·exact .inl q
  ·exact .inr ⟨q,PySem.W.cellsFrom_some _ _ _ (.inl q)⟩
 refine codeAny_call_function hr.depth (KX _ _ lk) rfl S.co S.gen rfl (PySem.W.codeRec_of KX hcd) (hb _ _ _ _ ?_);refine wpAny_newFunctionEnv_cells S.kind hkind fun env he s1 x=>?_;subst he;refine⟨lim.keeps x.toInCall.keep,codeAny_func ?_⟩;obtain⟨t,ht,hq⟩:=hbody A outer s H vs Q E (hr.deeper _) hsp;have I:Inv (kf CX P w K mg base N qual scope f cdv A outer s H E) [] (start N vs) H s1:=xJ S hr.hd e0 hl r x;refine wpAny_mono (ht [] s1 (start N vs) H _ I hq) (fun fl s' hs=>?_) fun e s' hs=>hs;have fin:∀{σ':St} {H':Hp} {v:V} {u:Value},Inv (kf CX P w K mg base N qual scope f cdv A outer s H E) [] σ' H' s'->RelV v u->Q v H'->CE outer P w H s Q u s' :=
  fun {σ' H' v u} J rv q=>⟨v,H',J.os,J.bare,J.base,J.hok,rv,q⟩
 cases fl with
 | ret u =>
   obtain⟨v,σ',H',J,rv,q⟩:=hs;exact fin J rv q
 | next =>
   obtain⟨σ',H',J,q⟩:=hs;exact fin (v:=V.non) (u:=Value.none) J rfl q
 | brk =>
   obtain⟨_,_,_,q⟩:=hs;exact False.elim q
 | cont =>
   obtain⟨_,_,_,q⟩:=hs;exact False.elim q
section
variable {X:Cx}{x:Str}{p pos:Pos}{e:Expr}{es:List Expr}{t:TA}{id T:String}{r:List V->Hp->VK->Prop}
noncomputable def G7 (r:List V->Hp->VK->Prop)(t:TA):TE:=fun σ H Q=>t σ H fun vs H1=>r vs H1 Q
def gU (hc:dr X (.builtin id) r)(hg:Gl X x)(hm:X.mg x=none)(hv:bootBuiltins x=some (.builtin id))(ha:PA X (e::es) t)(hn:x≠"__name__":=by decide)(hdb:(x==("__debug__":Str))=false:=by decide)
 (he:starEach (e::es) X.env=(false,eval e X.env)::starEach es X.env:=by rfl) (hpl:(backTo pos (starEach es X.env)).any (·.1)=false:=by rfl):PE X (.Call (.Name x p) (e::es) [] pos) (G7 r t):=by
 intro pins s σ H Q I h;refine wpAny_Call_Name_kw (gp I hg hm hv ?_ hn hdb);exact PyProof.Rows.callWith_builtin1 (bC (ha pos pins s σ H _ I h) fun us s1 ⟨vs,H1,I1,r1,q1⟩=>hc pins s1 σ H1 vs us Q I1 r1 q1) he hpl
def j6 (hc:dr X (.type T) r)(hg:Gl X x)(hm:X.mg x=none)(hv:bootBuiltins x=some (.type T))(ha:PA X (e::es) t)(hn:x≠"__name__":=by decide)(hdb:(x==("__debug__":Str))=false:=by decide)
 (he:starEach (e::es) X.env=(false,eval e X.env)::starEach es X.env:=by rfl) (hpl:(backTo pos (starEach es X.env)).any (·.1)=false:=by rfl):PE X (.Call (.Name x p) (e::es) [] pos) (G7 r t):=by
 intro pins s σ H Q I h;refine wpAny_Call_Name_kw (gp I hg hm hv ?_ hn hdb);exact PyProof.Rows.callWith_type1 (bC (ha pos pins s σ H _ I h) fun us s1 ⟨vs,H1,I1,r1,q1⟩=>hc pins s1 σ H1 vs us Q I1 r1 q1) he hpl
end
end L2
namespace HT
open PySem PyProof.Rows
noncomputable def lexLt:List Int->List Int->Bool
 | [],[]=>false
 | [],_::_=>true
 | _::_,[]=>false
 | x::xs,y::ys=>if x=y then lexLt xs ys else decide (x<y)
def uw (x y:Int)(xs ys:List Int):lexLt (x::xs) (y::ys)=if x=y then lexLt xs ys else decide (x<y):=rfl
def nc:lexLt [] []=false:=rfl
def lW (y:Int)(ys:List Int):lexLt [] (y::ys)=true:=rfl
def lX (x:Int)(xs:List Int):lexLt (x::xs) []=false:=rfl
def Aq (A:Around)(s:Shared)(a:Int)(t:Tok)(c:Int)(u:Tok):∃e,SeqAt.EqAt A s (.int a t) (.int c u) e/\(e=true↔a=c) :=
 ⟨(a==c),SeqAt.EqAt.int_int a t c u,by simp⟩
def yX (A:Around)(s:Shared)(a:Int)(t:Tok)(c:Int)(u:Tok)(prog:Program)(w:World)(E:Value->Shared->Prop)(Q:Value->Shared->Prop)(h:Q (.bool (decide (a<c))) s) :
 wpAny (model prog w) A (richCompare .Lt (.int a t) (.int c u)) Q E s :=
 (PyProof.Rows.lt_int h:wpAny (model prog w) A (compareOp .Lt (.int a t) (.int c u)) Q E s)
section
open PySem.SeqAt
open PySem.AutoSeq1 (wpAny_loadPart')
open PySem.MeetsSeq PySem.MeetsSeq2 PySem.MeetsSeq3
def mW (l b:Addr)(items items2:Array Value)(n n2:Nat)(dd dd2:Option Addr)(sl sl2:Array (Option Value))(ns ms:List Int)(hi:IntsAre items.toList ns)(hj:IntsAre items2.toList ms) :
 Meets (Builtin.«tuple.__lt__» ⟨[.ref l,.ref b],[]⟩)
  (fun _ R s=>s.heap.get? l=some { cls:=.type "tuple",dict:=dd,data:=.seq items n,slots:=sl }/\s.heap.get? b=some { cls:=.type "tuple",dict:=dd2,data:=.seq items2 n2,slots:=sl2 } /\
   R (.ok (.ret (.bool (lexLt ns ms)))) s) :=
 .of_wp fun prog w A R s h=>by
  obtain⟨hp,g,d,tk,os⟩:=s;obtain⟨hl,hb,h⟩:=h;have f2:=AutoSeq1.sub_tuple_tuple;have z1:items.size=ns.length:=by rw[<-hi.length];simp
  have z2:items2.size=ms.length:=by rw[<-hj.length];simp
  wp_walk using wpAny_loadPart' hl,wpAny_loadPart' hb,wpAny_forIn_list _ (fun rest b s'=>b.1=none/\s'=⟨hp,g,d,tk,os⟩/\∃(vs ws:List Value) (ns' ms':List Int),rest=vs.zip ws /\
   IntsAre vs ns'/\IntsAre ws ms'/\ns'.length+items2.size=ms'.length+items.size/\R (.ok (.ret (.bool (lexLt ns' ms')))) ⟨hp,g,d,tk,os⟩) _
  case turn =>
   rintro⟨y,x⟩ rest b s' ⟨hb',rfl,vs,ws,ns',ms',hz,hvi,hwi,hlen,hR⟩;cases hvi with
   | nil=>rw[List.zip_nil_left] at hz;cases hz
   | cons a t hvi' =>
     cases hwi with
     | nil=>rw[List.zip_nil_right] at hz;cases hz
     | cons c u hwi' =>
       rw[List.zip_cons_cons] at hz;injection hz with hyx hrest;injection hyx with hy hx;subst hy hx;rw[uw] at hR;simp only[List.length_cons] at hlen;obtain⟨e,he,hiff⟩:=Aq A.in1 ⟨hp,g,d,tk,os⟩ a t c u;refine wpAny_bind (he prog w _ _ ?_);cases e with
       | true =>
         rw[if_pos (hiff.mp rfl)] at hR;wp_walk;exact⟨rfl,rfl,_,_,_,_,hrest,hvi',hwi',by omega,hR⟩
       | false =>
         rw[if_neg (fun q=>absurd (hiff.mpr q) Bool.false_ne_true)] at hR;have hri:=yX A.in1 ⟨hp,g,d,tk,os⟩ a t c u prog w
         wp_walk using hri
         exact⟨_,rfl,by simpa using hR⟩
  case fin =>
   rintro⟨b1,b2⟩ s' ⟨hb',rfl,vs,ws,ns',ms',hz,hvi,hwi,hlen,hR⟩;simp only at hb';subst hb';have hv:lexLt ns' ms'=decide (items.size<items2.size):=by
    cases hvi with
    | nil =>
      cases hwi with
      | nil =>
        simp only[List.length_nil] at hlen;rw[nc];exact(decide_eq_false (by omega)).symm
      | cons c u hw =>
        simp only[List.length_nil,List.length_cons] at hlen;rw[lW];exact(decide_eq_true (by omega)).symm
    | cons a t hv =>
      cases hwi with
      | nil =>
        simp only[List.length_nil,List.length_cons] at hlen;rw[lX];exact(decide_eq_false (by omega)).symm
      | cons c u hw =>
        rw[List.zip_cons_cons] at hz;cases hz
   rw[hv] at hR;wp_walk;exact⟨_,rfl,by simpa[Builtin.Tuple.tupleCompareSizes] using hR⟩
  case h =>
   exact⟨rfl,rfl,items.toList,items2.toList,ns,ms,rfl,hi,hj,by omega,h⟩
end
section
variable {prog:Program}{w:World}{A:Around}{E:Value->Shared->Prop}{s:Shared}
def lt_tupInts {l b:Addr}{items items2:Array Value}{ns ms:List Int}{Q:Value->Shared->Prop}(hl:IsTup s.heap l items)(hb:IsTup s.heap b items2)(hi:IntsAre items.toList ns)(hj:IntsAre items2.toList ms)
 (hu:A.units<cLine) (h:Q (.bool (lexLt ns ms)) s):wpAny (model prog w) A (compareOp .Lt (.ref l) (.ref b)) Q E s:=by
 obtain⟨⟨cls,dd,data,sl⟩,ho,hc,n,hd⟩:=id hl;obtain⟨⟨cls2,dd2,data2,sl2⟩,ho2,hc2,n2,hd2⟩:=id hb;simp only at hc hd hc2 hd2;subst hc hd hc2 hd2;exact richCompare_meets_room (op:=.Lt) ⟨_,ho,rfl⟩ ⟨_,ho2,rfl⟩ PySem.F.slot_tuple_lt PySem.F.entry_tuple_lt (PySem.F.args_tuple_lt_2 _ _) (mW l b items items2 n n2 dd dd2 sl sl2 ns ms hi hj)
  ⟨ho,ho2,show Value.bool (lexLt ns ms)≠Value.notImplemented/\Q (.bool (lexLt ns ms)) s from ⟨(fun x=>nomatch x),h⟩⟩ hu
def cat_tup {t b:Addr}{vs ws:List Value}{Q:Value->Shared->Prop}(ht:IsTup s.heap t vs.toArray)(hb:IsTup s.heap b ws.toArray)(hv:vs≠[])
 (h1:ws=[]->Q (.ref t) s) (h2:ws≠[]->Q (.ref s.heap.objs.size) { s with heap:=s.heap.push { cls:=.type "tuple",data:=.seq (vs++ws).toArray } })
 (hsz:vs.length+ws.length<=sizeLine):wpAny (model prog w) A (binaryOp .Add (.ref t) (.ref b)) Q E s:=by
 obtain⟨⟨cls,dd,data,sl⟩,ho,hc,n,hd⟩:=id ht;obtain⟨⟨cls2,dd2,data2,sl2⟩,ho2,hc2,n2,hd2⟩:=id hb;simp only at hc hd hc2 hd2;subst hc hd hc2 hd2;have e:vs.toArray++ws.toArray=(vs++ws).toArray:=by simp
 by_cases hw:ws=[]
 ·exact concat_meets ⟨_,ho,rfl⟩ ⟨_,ho2,rfl⟩ noFill_tuple_add seq_tuple_add PySem.F.slot_tuple_add PySem.F.entry_tuple_add (PySem.F.args_tuple_add_2 _ _)
   (tuple_addW1 t b vs.toArray ws.toArray n n2 dd dd2 sl sl2 (by simpa using hv) (by simp[hw])) ⟨ho,ho2,h1 hw⟩
 ·refine concat_meets ⟨_,ho,rfl⟩ ⟨_,ho2,rfl⟩ noFill_tuple_add seq_tuple_add PySem.F.slot_tuple_add PySem.F.entry_tuple_add (PySem.F.args_tuple_add_2 _ _)
   (tuple_addW2 t b vs.toArray ws.toArray n n2 dd dd2 sl sl2 (by simpa using hv) (by simpa using hw) (by rw[List.size_toArray,List.size_toArray];exact hsz)) ⟨ho,ho2,?_⟩
  rw[e];exact h2 hw
noncomputable def sIx (n d:Nat):Option Int->Nat
 | none=>d
 | some v=>if v<0 then (v+(n:Int)).toNat else min v.toNat n
def sIx_none (n d:Nat):sIx n d none=d:=rfl
def sIx_nat (n d k:Nat):sIx n d (some (k:Int))=min k n:=by
 show (if (k:Int)<0 then ((k:Int)+(n:Int)).toNat else min (k:Int).toNat n)=min k n;rw[if_neg (by omega),Int.toNat_natCast]
def Du (n d:Nat)(hd:d<=n)(o:Option Int):sIx n d o<=n:=by
 cases o with
 | none=>exact hd
 | some v =>
   show (if v<0 then (v+(n:Int)).toNat else min v.toNat n)<=n;by_cases hv:v<0
   ·rw[if_pos hv];omega
   ·rw[if_neg hv];exact Nat.min_le_right _ _
def wA (v:Int)(n d:Nat):(if v<0 then max (v+(n:Int)) 0 else min v (n:Int))=((sIx n d (some v):Nat):Int):=by
 show (if v<0 then max (v+(n:Int)) 0 else min v (n:Int))=(((if v<0 then (v+(n:Int)).toNat else min v.toNat n):Nat):Int);by_cases hv:v<0
 ·simp only[if_pos hv];omega
 ·simp only[if_neg hv];omega
def u9 (lo hi:Option Int)(n:Nat):Builtin.Slice.sliceAdjust lo hi 1 (n:Int)=(((sIx n 0 lo:Nat):Int),((sIx n n hi:Nat):Int)):=by
 have h1:¬ ((1:Int)<0):=by omega
 unfold Builtin.Slice.sliceAdjust;simp only[h1,if_false];refine Prod.ext ?_ ?_
 ·cases lo with
  | none=>rfl
  | some v=>exact wA v n 0
 ·cases hi with
  | none=>rfl
  | some v=>exact wA v n n
def uh (i j:Nat):Builtin.Slice.slicePlaces (i:Int) (j:Int) 1=j-i:=by
 unfold Builtin.Slice.slicePlaces;have h1:(1:Int)>0:=by omega
 simp only[h1,if_true,Int.ediv_one];split <;> omega
def lr {v:Value}{o:Option Int}{Q:Option Int->Shared->Prop}(p:IsPart v o)(h:Q o s):wpAny (model prog w) A (Builtin.Slice.slicePartIndex v) Q E s:=by
 cases p with
 | none=>exact slicePart_none h
 | int i t=>exact slicePart_int h
def sliceApplied_gen {sl:Addr}{vl vu:Value}{lo hi:Option Int}{n:Nat}{Q:Int×Int×Nat->Shared->Prop}(hs:s.heap.IsSliceOf sl vl vu .none)(pl:IsPart vl lo)(pu:IsPart vu hi)
 (h:Q (((sIx n 0 lo:Nat):Int),1,sIx n n hi-sIx n 0 lo) s):wpAny (model prog w) A (Builtin.Slice.sliceApplied (.ref sl) (pure (n:Int))) Q E s:=by
 obtain⟨os,hos,hcs,hds⟩:=id hs;unfold Builtin.Slice.sliceApplied Builtin.Slice.sliceFields;refine wpAny_bind (wpAny_bind (wpAny_field hos hds (x:=vl) rfl (wpAny_bind (wpAny_field hos hds (x:=vu) rfl (wpAny_bind (wpAny_field hos hds (x:=.none) rfl (wpAny_pure ?_)))))));refine wpAny_bind (slicePart_none ?_);show wpAny _ _ (if ((1:Int)==0)=true then _ else _) _ _ s;rw[if_neg (by decide)];refine wpAny_bind (lr pl (wpAny_bind (lr pu (wpAny_bind (wpAny_pure ?_)))));show wpAny _ _ (match Builtin.Slice.sliceAdjust lo hi 1 (n:Int) with | (lo,hi)=>pure (lo,(1:Int),Builtin.Slice.slicePlaces lo hi 1)) _ _ s;rw[u9 lo hi n];show wpAny _ _ (pure (((sIx n 0 lo:Nat):Int),(1:Int),Builtin.Slice.slicePlaces ((sIx n 0 lo:Nat):Int) ((sIx n n hi:Nat):Int) 1)) _ _ s;rw[uh];exact wpAny_pure h
def zq (xs:Array Value)(i k:Nat):((List.range k).filterMap fun (m:Nat)=>xs[((i:Int)+(m:Int)*1).toNat]?).toArray=((xs.toList.drop i).take k).toArray:=by
 have e:(fun (m:Nat)=>xs[((i:Int)+(m:Int)*1).toNat]?)=fun m=>xs[i+m]?:=by
  funext m
  have:((i:Int)+(m:Int)*1).toNat=i+m:=by omega
  rw[this]
 rw[e];have:=pick_run xs i k;rw[List.filterMap_map] at this;have e2:((fun x=>xs[x]?)∘fun x=>i+x)=fun m=>xs[i+m]?:=rfl;rw[e2] at this;rw[this]
def getItem_tuple_cut {t sl:Addr}{items:Array Value}{vl vu:Value}{lo hi:Option Int}{Q:Value->Shared->Prop}(ht:IsTup s.heap t items)(hs:s.heap.IsSliceOf sl vl vu .none)(pl:IsPart vl lo)(pu:IsPart vu hi)
 (hw:¬ (sIx items.size 0 lo=0/\sIx items.size items.size hi=items.size))
 (h:Q (.ref s.heap.objs.size) { s with heap:=s.heap.push { cls:=.type "tuple",data:=.seq ((items.toList.drop (sIx items.size 0 lo)).take (sIx items.size items.size hi-sIx items.size 0 lo)).toArray } })
 (hsz:items.size<=sizeLine):wpAny (model prog w) A (getItem (.ref t) (.ref sl)) Q E s:=by
 have htake:sizeOk (.seq ((items.toList.drop (sIx items.size 0 lo)).take (sIx items.size items.size hi-sIx items.size 0 lo)).toArray):=by
  show ((items.toList.drop (sIx items.size 0 lo)).take (sIx items.size items.size hi-sIx items.size 0 lo)).toArray.size<=sizeLine;rw[List.size_toArray,List.length_take,List.length_drop,Array.length_toList];omega
 have hj:sIx items.size items.size hi<=items.size:=Du _ _ (Nat.le_refl _) hi;obtain⟨os,hos,hcs,hds⟩:=id hs;have hTs:s.TypeIs (.ref sl) "slice":=⟨os,hos,hcs⟩;unfold getItem;try with_reducible refine wpAny_holding ?_
 first | refine wpAny_bind (wpAny_pure ?_) | skip
 refine wpAny_bind (wpAny_sequenceKey ht.typeIs (by decide) ?_);refine wpAny_bind (wpAny_callSpecial?_slot (name:=Str.ofString "__getitem__") ht.typeIs PyProof.Rows.slot_tuple_getitem
  (wpAny_call_entry PyProof.Rows.slot_tuple_getitem ht.typeIs entry_tuple_getitem ?_ (args_tuple_getitem _ _)))
 show wpAny _ _ (Builtin.Tuple.tupleItemsOf (.ref t) >>= _) _ _ s;refine wpAny_bind (tupleItemsOf_ ht ?_);refine wpAny_bind (wpAny_typeOf hTs ?_);rw[if_pos (by decide)];refine wpAny_bind (sliceApplied_gen hs pl pu ?_);have hno:¬ ((((sIx items.size 0 lo:Nat):Int)==0&&(1:Int)==1&&(sIx items.size items.size hi-sIx items.size 0 lo)==items.size)=true):=by
  intro q;rw[Bool.and_eq_true,Bool.and_eq_true] at q;have q1:((sIx items.size 0 lo:Nat):Int)=0:=eq_of_beq q.1.1;have q2:sIx items.size items.size hi-sIx items.size 0 lo=items.size:=eq_of_beq q.2;exact hw ⟨by omega,by omega⟩
 show wpAny _ _ (if (((sIx items.size 0 lo:Nat):Int)==0&&(1:Int)==1&&(sIx items.size items.size hi-sIx items.size 0 lo)==items.size)=true then _ else _) _ _ s;rw[if_neg hno,zq];first
  | exact wpAny_bind (m:=Builtin.Tuple.tupleExact _) (wpAny_newObj_type (wpAny_pure ⟨_,rfl,wpAny_pure h⟩) htake)
  | exact wpAny_bind (m:=Builtin.Tuple.tupleExact _) (wpAny_newObj_type (wpAny_bind (wpAny_pure (wpAny_pure ⟨_,rfl,wpAny_pure h⟩))) htake)
  | exact wpAny_bind (wpAny_bind (m:=Builtin.Tuple.tupleExact _) (wpAny_newObj_type (wpAny_pure (wpAny_pure ⟨_,rfl,wpAny_pure h⟩)) htake))
  | exact wpAny_bind (wpAny_bind (m:=Builtin.Tuple.tupleExact _) (wpAny_newObj_type (wpAny_pure ⟨_,rfl,wpAny_pure h⟩) htake))
end
end HT
namespace L2
open PySem PySem.Spec PyProof.Rows
abbrev TO:=St->Hp->(Option Int->Hp->Prop)->Prop
def PO (X:Cx)(e:Option Expr)(t:TO):Prop :=
 ∀(pins:List (Addr×Obj)) (s:Shared) (σ:St) (H:Hp) (Q:Option Int->Hp->Prop),Inv X pins σ H s->t σ H Q ->
  wpAny (model X.prog X.w) X.A (evalPart e X.env) (fun u s'=>∃o H',Inv X pins σ H' s'/\IsPart u o/\Q o H') X.xe s
noncomputable def Bn:TO:=fun _ H Q=>Q none H
noncomputable def Fk (t:TE):TO:=fun σ H Q=>t σ H fun x H1=>∃i,x=.int i/\Q (some i) H1
def intsAre_of {ns:List Int}:∀{us:List Value},Vals (ns.map V.int) us->IntsAre us ns:=by
 induction ns with
 | nil=>intro us r;rw[List.map_nil] at r;cases r;exact .nil
 | cons n ns ih =>
   intro us r;rw[List.map_cons] at r;cases r with
   | cons r1 r2 =>
     obtain⟨t,e⟩:=r1;subst e;exact .cons n t (ih r2)
section
variable {X:Cx}{e:Expr}{te:TE}{lo hi:Option Expr}{tl th:TO}{pos p2:Pos}
def vK:PO X none Bn:=by
 intro pins s σ H Q I h;rw[evalPart_none];exact wpAny_pure ⟨none,H,I,.none,h⟩
def pq (h:PE X e te):PO X (some e) (Fk te):=by
 intro pins s σ H Q I hw;rw[evalPart_some];refine bC (h pins s σ H _ I hw) fun u s1 ⟨x,H1,I1,r1,q1⟩=>?_;obtain⟨i,rfl,q⟩:=q1;obtain⟨t,rfl⟩:=r1;exact⟨some i,H1,I1,.int i t,q⟩
def SlR (X:Cx)(r:V->Option Int->Option Int->Hp->VK->Prop):Prop :=
 ∀(pins:List (Addr×Obj)) (s:Shared) (σ:St) (H:Hp) (x:V) (v vl vu:Value) (lo hi:Option Int) (sl:Addr) (Q:VK),Inv X pins σ H s->RelV x v->s.heap.IsSliceOf sl vl vu .none->IsPart vl lo->IsPart vu hi->r x lo hi H Q ->
  ∃T id,typeLookup (.type T) "__getitem__"=pure (some (.builtin id))/\s.TypeIs v T/\wpAny (model X.prog X.w) X.A (getItem v (.ref sl)) (EP X pins σ Q) X.xe s
def SlR.or {r r':V->Option Int->Option Int->Hp->VK->Prop}(h:SlR X r)(h':SlR X r'):SlR X (fun x lo hi H Q=>r x lo hi H Q\/r' x lo hi H Q):=by
 intro pins s σ H x v vl vu lo hi sl Q I rx hs pl pu q;rcases q with q | q
 ·exact h pins s σ H x v vl vu lo hi sl Q I rx hs pl pu q
 ·exact h' pins s σ H x v vl vu lo hi sl Q I rx hs pl pu q
noncomputable def Hl (r:V->Option Int->Option Int->Hp->VK->Prop)(te:TE)(tl th:TO):TE:=fun σ H Q=>te σ H fun x H1=>tl σ H1 fun l H2=>th σ H2 fun u H3=>r x l u H3 Q
def lI {r:V->Option Int->Option Int->Hp->VK->Prop}(hr:SlR X r)(he:PE X e te)(hl:PO X lo tl)(hu:PO X hi th):PE X (.Subscript e (.Slice lo hi none p2) pos) (Hl r te tl th):=by
 intro pins s σ H Q I h;refine Subscript_ (bC (he pins s σ H _ I h) fun v s1 ⟨x,H1,I1,r1,q1⟩=>?_);refine wpAny_Slice (bC (hl pins s1 σ H1 _ I1 q1) fun vl s2 ⟨l,H2,I2,pl,q2⟩=>bC (hu pins s2 σ H2 _ I2 q2) fun vu s3 ⟨u,H3,I3,pu,q3⟩=>?_);rw[evalPart_none];refine wpAny_pure ?_;have I4:Inv X pins σ H3 { s3 with heap:=s3.heap.push { cls:=.type "slice",data:=.fields #[vl,vu,.none] } }:=I3.kept (t':=s3.toks) fun b ob q=>Heap.get?_push_of_some _ q;obtain⟨T,id,hT,ht,hg⟩:=hr pins { s3 with heap:=s3.heap.push { cls:=.type "slice",data:=.fields #[vl,vu,.none] } } σ H3 x v vl vu l u s3.heap.objs.size Q I4 r1 (Heap.IsSliceOf.new ..) pl pu q3;show wpAny (model X.prog X.w) X.A (subscriptTail e (.Slice lo hi none p2) v (.ref s3.heap.objs.size)) (EP X pins σ Q) X.xe { s3 with heap:=s3.heap.push { cls:=.type "slice",data:=.fields #[vl,vu,.none] } };exact tail_any (ops:=[.ref s3.heap.objs.size,v]) ht hT hg (by with_unfolding_all rfl)
def jO (xs:List V)(lo hi:Option Int):List V:=(xs.drop (HT.sIx xs.length 0 lo)).take (HT.sIx xs.length xs.length hi-HT.sIx xs.length 0 lo)
def kI (xs:List V)(lo hi:Option Int):(jO xs lo hi).length<=xs.length:=by
 unfold jO;rw[List.length_take,List.length_drop];omega
def GH (K:PySem.W.Frag):V->Option Int->Option Int->Hp->VK->Prop:=fun x lo hi H Q=>∃a xs,x=.ref a/\SqT K H a xs /\
 ¬ (HT.sIx xs.length 0 lo=0/\HT.sIx xs.length xs.length hi=xs.length)/\∀p,H p=none->Q (.ref p) (bm H p (.tup (jO xs lo hi)))
def sl_tup:SlR X (GH X.K):=by
 intro pins s σ H x v vl vu lo hi sl Q I rx hs pl pu h;obtain⟨a,xs,rfl,hx,hw,q⟩:=h;cases rx;obtain⟨its,r,ht,hz⟩:=I.tuple hx;have hlen:its.toArray.size=xs.length:=by rw[List.size_toArray];exact r.length.symm
 refine⟨"tuple",_,PyProof.Rows.slot_tuple_getitem.lookup,ht.typeIs,?_⟩;refine HT.getItem_tuple_cut ht hs pl pu (by rw[hlen];exact hw) ?_ (by rw[hlen];exact hz);rw[hlen];refine⟨.ref s.heap.objs.size,_,I.laid (t':=s.toks) (o:=.tup (jO xs lo hi)) (fun b ob q=>Heap.get?_push_of_some _ q) (Nat.le_refl _) ?_,rfl,q _ (I.hok.fresh (Nat.le_refl _))⟩;exact⟨Nat.le_trans (kI xs lo hi) hz,_,(r.drop (HT.sIx xs.length 0 lo)).take (HT.sIx xs.length xs.length hi-HT.sIx xs.length 0 lo),IsTup.new _ _⟩
def FC (K:PySem.W.Frag):R2:=fun x y H Q=>∃a b xs ys,x=.ref a/\y=.ref b/\SqT K H a xs/\SqT K H b ys/\xs≠[]/\xs.length+ys.length<=sizeLine /\
 (ys=[]->Q (.ref a) H)/\(ys≠[]->∀p,H p=none->Q (.ref p) (bm H p (.tup (xs++ys))))
def Vals.nil_iff {xs:List V}{us:List Value}(r:Vals xs us):us=[]↔xs=[]:=by
 cases r with
 | nil=>simp
 | cons _ _=>simp
def BR:OpR X (binaryOp .Add) (FC X.K):=by
 intro pins s σ H x y v u Q I rx ry h;obtain⟨a,b,xs,ys,rfl,rfl,ha,hb,hx,hz,q1,q2⟩:=h;cases rx;cases ry;obtain⟨its,r1,p1,_⟩:=I.tuple ha;obtain⟨its2,r2,p2,_⟩:=I.tuple hb;refine HT.cat_tup p1 p2 (fun z=>hx (r1.nil_iff.mp z)) (fun z=>⟨.ref a,H,I,rfl,q1 (r2.nil_iff.mp z)⟩) (fun z=>?_) (by rw[<-r1.length,<-r2.length];exact hz);refine⟨.ref s.heap.objs.size,_,I.laid (t':=s.toks) (o:=.tup (xs++ys)) (fun b ob q=>Heap.get?_push_of_some _ q) (Nat.le_refl _) ?_,rfl,q2 (fun w=>z (r2.nil_iff.mpr w)) _ (I.hok.fresh (Nat.le_refl _))⟩;exact⟨by rw[List.length_append];exact hz,_,r1.append r2,IsTup.new _ _⟩
end
noncomputable def Bb (n:Nat)(i:Int):Option Nat:=if 0<=i then (if i<n then some i.toNat else none) else if -(n:Int)<=i then some (i+n).toNat else none
def CF {α:Type}(xs:List α)(i:Int):Option α:=(Bb xs.length i).bind fun j=>xs[j]?
def wa {n:Nat}{i:Int}{j:Nat}(h:Bb n i=some j):seqIndex? i n=some j/\j<n /\ -(n:Int)<=i/\i<n:=by
 unfold Bb at h;by_cases h0:0<=i
 ·rw[if_pos h0] at h;by_cases h1:i<n
  ·rw[if_pos h1] at h;have e:i.toNat=j:=Option.some.inj h;exact⟨by rw[seqIndex_of h0 h1,e],by omega,by omega,h1⟩
  ·rw[if_neg h1] at h;cases h
 ·rw[if_neg h0] at h;by_cases h1 : -(n:Int)<=i
  ·rw[if_pos h1] at h;have e:(i+n).toNat=j:=Option.some.inj h;exact⟨by rw[seqIndex_neg (by omega) h1,e],by omega,h1,by omega⟩
  ·rw[if_neg h1] at h;cases h
def lb {α:Type}{xs:List α}{i:Int}{v:α}(h:CF xs i=some v):∃j,seqIndex? i xs.length=some j/\xs[j]? = some v/\j<xs.length /\ -(xs.length:Int)<=i/\i<xs.length:=by
 unfold CF at h;cases e:Bb xs.length i with
 | none=>rw[e] at h;cases h
 | some j =>
   rw[e] at h;obtain⟨h1,h2,h3,h4⟩:=wa e;exact⟨j,h1,h,h2,h3,h4⟩
def qK (b:Expr):Prop:=∀o i,subscripted b false o i=operate [o,i] (getItem o i)
def IxR (X:Cx)(r:R2):Prop :=
 ∀(value slice:Expr) (pins:List (Addr×Obj)) (s:Shared) (σ:St) (H:Hp) (x y:V) (v u:Value) (Q:VK),Inv X pins σ H s->RelV x v->RelV y u->r x y H Q ->
  subscripted slice false v u=operate [v,u] (getItem v u)->wpAny (model X.prog X.w) X.A (subscriptTail value slice v u) (EP X pins σ Q) X.xe s
def Hi (X:Cx)(id:String)(r:V->List V->Hp->VK->Prop):Prop :=
 ∀(pins:List (Addr×Obj)) (s:Shared) (σ:St) (H:Hp) (x:V) (xs:List V) (v:Value) (us:List Value) (Q:VK),Inv X pins σ H s->RelV x v->Vals xs us->r x xs H Q ->
  wpAny (model X.prog X.w) X.A (call (.builtin id) (v::us)) (EP X pins σ Q) X.xe s
section
variable {X:Cx}{a b:Expr}{ta tb:TE}{pos:Pos}
def IxR.or {r r':R2}(h:IxR X r)(h':IxR X r'):IxR X (fun x y H Q=>r x y H Q\/r' x y H Q):=by
 intro value slice pins s σ H x y v u Q I rx ry q hs;rcases q with q | q
 ·exact h value slice pins s σ H x y v u Q I rx ry q hs
 ·exact h' value slice pins s σ H x y v u Q I rx ry q hs
def vP {r:R2}(hr:IxR X r)(ha:PE X a ta)(hb:PE X b tb)(hs:qK b):PE X (.Subscript a b pos) (Bm r ta tb):=by
 intro pins s σ H Q I h;exact Subscript_ (EW ha hb I h fun v u s2 x y H2 I2 rx ry q=>hr a b pins s2 σ H2 x y v u Q I2 rx ry q (hs _ _))
def zb (K:PySem.W.Frag):R2:=fun x y H Q=>∃p xs i v,x=.ref p/\y=.int i/\SqL K H p xs/\CF xs i=some v/\Q v H
def DB (K:PySem.W.Frag):R2:=fun x y H Q=>∃p xs i v,x=.ref p/\y=.int i/\SqT K H p xs/\CF xs i=some v/\Q v H
def GJ:R2:=fun x y H Q=>∃z i c,x=.str z/\y=.int i/\z.length<=sizeLine/\CF z.cps.toList i=some c/\Q (.str ⟨#[c]⟩) H
def ix_list:IxR X (zb X.K):=by
 intro value slice pins s σ H x y v u Q I rx ry h hs;obtain⟨p,xs,i,z,rfl,rfl,hq,he,q⟩:=h;cases rx;obtain⟨t,rfl⟩:=ry;obtain⟨its,r,pl,hz⟩:=I.list hq;obtain⟨j,h1,h2,h3,h4,h5⟩:=lb he;obtain⟨w,ew,rw'⟩:=r.get h2;have hl:=r.length;have hn:=hV;have fin:EP X pins σ Q w s:=⟨z,H,I,rw',q⟩;by_cases h0:0<=i
 ·have hj:i.toNat=j:=by
   rw[seqIndex_of h0 h5] at h1;exact Option.some.inj h1
  exact item_listR pl.isList h0 (by omega) (by rw[hj];simpa using ew) fin hs
 ·have hj:(i+(its.toArray.size:Int)).toNat=j:=by
   rw[seqIndex_neg (by omega) h4] at h1;rw[List.size_toArray,<-hl];exact Option.some.inj h1
  exact subscriptTail_builtinR (x:=w) pl.isList.typeIs slot_list_getitem.lookup
   (wpAny_getItem_list_neg (Q:=fun r s'=>r=w/\EP X pins σ Q r s') pl.isList (by omega) (by rw[List.size_toArray] <;> omega) (by omega) (by rw[hj];simpa using ew) ⟨rfl,fin⟩) hs
def ix_tup:IxR X (DB X.K):=by
 intro value slice pins s σ H x y v u Q I rx ry h hs;obtain⟨p,xs,i,z,rfl,rfl,hq,he,q⟩:=h;cases rx;obtain⟨t,rfl⟩:=ry;obtain⟨its,r,pl,hz⟩:=I.tuple hq;obtain⟨j,h1,h2,h3,h4,h5⟩:=lb he;obtain⟨w,ew,rw'⟩:=r.get h2;have hl:=r.length;have hn:=hV;have fin:EP X pins σ Q w s:=⟨z,H,I,rw',q⟩;exact subscriptTail_builtinR (x:=w) pl.typeIs slot_tuple_getitem.lookup
  (getItem_tuple (j:=j) (Q:=fun r s'=>r=w/\EP X pins σ Q r s') pl (by omega) (by omega) (by rw[List.size_toArray,<-hl];exact h1) (by simpa using ew) ⟨rfl,fin⟩) hs
def Ec:IxR X GJ:=by
 intro value slice pins s σ H x y v u Q I rx ry h hs;obtain⟨z,i,c,rfl,rfl,hz,he,q⟩:=h;obtain⟨t,rfl⟩:=rx;obtain⟨t',rfl⟩:=ry;obtain⟨j,h1,h2,h3,h4,h5⟩:=lb he;have hl:z.cps.toList.length=z.length:=by simp[Str.length]
 rw[hl] at h1 h4 h5;have hn:=hV;exact tail_any (typeIs_str s z t) slot_str_getitem.lookup (getItem_str (c:=c) (by
  have e1:decide (i < -(2 ^ 63:Int))=false:=decide_eq_false (by omega);have e2:decide (i≥2 ^ 63)=false:=decide_eq_false (by omega);rw[e1,e2,Bool.or_false]) (by rw[h1];simpa using h2) ⟨.str ⟨#[c]⟩,H,I.tok _,⟨_,rfl⟩,q⟩) hs
def uu (its:List Value)(n j:Nat)(u:Value):Obj.mapSeq (·.setIfInBounds j u) { cls:=.type "list",data:=.seq its.toArray n }={ cls:=.type "list",data:=.seq (its.set j u).toArray n }:=by
 simp[Obj.mapSeq]
def Inv.lst {pins:List (Addr×Obj)}{σ:St}{H:Hp}{s:Shared}{p:Addr}{xs:List V}(I:Inv X pins σ H s)(h:H p=some (.lst xs)) :
 ∃(its:List Value) (n:Nat),Vals xs its/\s.heap.get? p=some { cls:=.type "list",data:=.seq its.toArray n }/\xs.length<=sizeLine:=by
 obtain⟨z,its,n,r,e⟩:=I.hok p _ h;exact⟨its,n,r,e,z⟩
def Inv.lstUpd {pins:List (Addr×Obj)}{σ:St}{H:Hp}{s:Shared}{p:Addr}{xs ys:List V}{its its':List Value}{n n':Nat}{f:Obj->Obj}(I:Inv X pins σ H s)(h:H p=some (.lst xs))
 (ho:s.heap.get? p=some { cls:=.type "list",data:=.seq its.toArray n }) (hf:f { cls:=.type "list",data:=.seq its.toArray n }={ cls:=.type "list",data:=.seq its'.toArray n' }) (r:Vals ys its') (hz:ys.length<=sizeLine) (t:Nat) :
 Inv X pins σ (bm H p (.lst ys)) { s with heap:=s.heap.update p f,toks:=t }:=by
 have e:(s.heap.update p f).get? p=some { cls:=.type "list",data:=.seq its'.toArray n' }:=by
  rw[Heap.get?_update_self f ho (by rw[hf] <;> rfl),hf]
 refine I.write (x:=p) (e:=p) (by rw[h];trivial) (.inl rfl) (fun b u hb q=>(Heap.get?_update_other _ _ (Ne.symm hb)).trans q) ⟨_,e⟩ ?_;exact⟨hz,its',n',r,e⟩
def za:V->V->V->Hp->(Hp->Prop)->Prop:=fun o i v H Q=>∃p xs k j,o=.ref p/\i=.int k/\H p=some (.lst xs)/\Bb xs.length k=some j/\Q (bm H p (.lst (xs.set j v)))
def set_list:Gc X za:=by
 intro pins s σ H o i v ov iv u Q I ro ri rv h;obtain⟨p,xs,k,j,rfl,rfl,hp,hj,q⟩:=h;cases ro;obtain⟨t,rfl⟩:=ri;obtain⟨its,n,r,ho,hz⟩:=I.lst hp;obtain⟨h1,h2,h3,h4⟩:=wa hj;have hl:=r.length;have hn:=hV;have I':Inv X pins σ (bm H p (.lst (xs.set j v))) { s with heap:=s.heap.update p (Obj.mapSeq (·.setIfInBounds j u)) } :=
  I.lstUpd hp ho (uu its n j u) (r.set rv j) (by rw[List.length_set];exact hz) s.toks
 by_cases h0:0<=k
 ·have hk:k.toNat=j:=by
   rw[seqIndex_of h0 h4] at h1;exact Option.some.inj h1
  exact PySem.W.ki_setAt ho h0 (by omega) (by rw[List.size_toArray,<-hl];exact h4) (by rw[hk];exact⟨_,I',q⟩)
 ·have hk:(k+(its.toArray.size:Int)).toNat=j:=by
   rw[seqIndex_neg (by omega) h3] at h1;rw[List.size_toArray,<-hl];exact Option.some.inj h1
  exact PySem.W.ki_setBack ho (by omega) (by rw[List.size_toArray,<-hl];exact h3) (by omega) (by rw[hk];exact⟨_,I',q⟩)
def oX (lo hi:Option Int)(n:Nat):(sliceBounds lo hi none n).1=((HT.sIx n 0 lo:Nat):Int)/\(sliceBounds lo hi none n).2.1=((HT.sIx n n hi:Nat):Int)/\(sliceBounds lo hi none n).2.2=1:=by
 refine⟨?_,?_,rfl⟩
 ·cases lo with
  | none=>simp[sliceBounds,HT.sIx]
  | some i =>
    simp only[sliceBounds,HT.sIx,Option.getD_none,show (1:Int)>0 by decide,if_true];by_cases h:i<0
    ·simp only[h,if_true] <;> omega
    ·simp only[h,if_false] <;> omega
 ·cases hi with
  | none=>simp[sliceBounds,HT.sIx]
  | some i =>
    simp only[sliceBounds,HT.sIx,Option.getD_none,show (1:Int)>0 by decide,if_true];by_cases h:i<0
    ·simp only[h,if_true] <;> omega
    ·simp only[h,if_false] <;> omega
def mX (its:List Value)(lo hi:Option Int):slicePick its.toArray lo hi none=((its.drop (HT.sIx its.length 0 lo)).take (HT.sIx its.length its.length hi-HT.sIx its.length 0 lo)).toArray:=by
 obtain⟨h1,h2,h3⟩:=oX lo hi its.toArray.size;unfold slicePick;rw[h1,h2,h3];simp only[sliceRange_one,pick_run,List.size_toArray] <;> rfl
def GI (K:PySem.W.Frag):V->Option Int->Option Int->Hp->VK->Prop:=fun x lo hi H Q=>∃a xs,x=.ref a/\SqL K H a xs/\∀p,H p=none->Q (.ref p) (bm H p (.lst (jO xs lo hi)))
def sl_list:SlR X (GI X.K):=by
 intro pins s σ H x v vl vu lo hi sl Q I rx hs pl pu h;obtain⟨a,xs,rfl,hx,q⟩:=h;cases rx;obtain⟨its,r,ht,hz⟩:=I.list hx;have hlen:=r.length;refine⟨"list",_,slot_list_getitem.lookup,ht.isList.typeIs,?_⟩;refine wpAny_getItem_list_slice ht.isList hs pl pu .none (by simp) ?_ (by rw[List.size_toArray] <;> omega);rw[mX,<-hlen];refine⟨.ref s.heap.objs.size,_,I.laid (t':=s.toks) (o:=.lst (jO xs lo hi)) (fun b ob q=>Heap.get?_push_of_some _ q) (Nat.le_refl _) ?_,rfl,q _ (I.hok.fresh (Nat.le_refl _))⟩;exact⟨Nat.le_trans (kI xs lo hi) hz,_,0,(r.drop (HT.sIx xs.length 0 lo)).take (HT.sIx xs.length xs.length hi-HT.sIx xs.length 0 lo),Heap.get?_push_size _ rfl⟩
def qA:dr X (.builtin "len") (fun xs H Q=>∃p ys,xs=[.ref p]/\(SqL X.K H p ys\/SqT X.K H p ys)/\Q (.int ys.length) H):=by
 intro pins s σ H xs us Q I r h;obtain⟨p,ys,rfl,hq,q⟩:=h;obtain⟨u,rfl,rx⟩:=vals1 r;cases rx;have hn:=hV;rcases hq with hq | hq
 ·obtain⟨its,r',pl,hz⟩:=I.list hq;have hlen:=r'.length;exact Calls.call_len_list pl.isList (by simp only[List.size_toArray] <;> omega) ⟨.int ys.length,H,I.tok _,⟨s.toks+1,by rw[List.size_toArray,hlen]⟩,q⟩
 ·obtain⟨its,r',pl,hz⟩:=I.tuple hq;have hlen:=r'.length;exact len_tuple pl (by simp only[List.size_toArray] <;> omega) ⟨.int ys.length,H,I.tok _,⟨s.toks+1,by rw[List.size_toArray,hlen]⟩,q⟩
def qz:dr X (.builtin "len") (fun xs H Q=>∃z,xs=[.str z]/\z.length<=sizeLine/\Q (.int z.length) H):=by
 intro pins s σ H xs us Q I r h;obtain⟨z,rfl,hz,q⟩:=h;obtain⟨u,rfl,t,rfl⟩:=vals1 r;have hn:=hV;exact len_str (by omega) ⟨.int z.length,H,I.tok _,⟨_,rfl⟩,q⟩
def nk:dr X (.type "tuple") (fun xs H Q=>∃p ys,xs=[.ref p]/\((SqL X.K H p ys/\∀l,H l=none->Q (.ref l) (bm H l (.tup ys)))\/(SqT X.K H p ys/\Q (.ref p) H))):=by
 intro pins s σ H xs us Q I r h;obtain⟨p,ys,rfl,h⟩:=h;obtain⟨u,rfl,rx⟩:=vals1 r;cases rx;rcases h with ⟨hq,q⟩ | ⟨hq,q⟩
 ·obtain⟨its,r',pl,hz⟩:=I.list hq;have hlen:=r'.length;refine call_tuple_list pl.isList (fun h' kp=>?_) (by simp only[List.size_toArray] <;> omega);have I1:Inv X pins σ H { s with heap:=h' }:=I.kept (t':=s.toks) kp;have I2:Inv X pins σ (bm H h'.objs.size (.tup ys)) { s with heap:=h'.push { cls:=.type "tuple",data:=.seq its.toArray } } :=
   I1.laid (t':=s.toks) (fun b o e=>Heap.get?_push_of_some _ e) (Nat.le_refl _) (show ObjOk X.prog X.w _ _ _ (.tup ys) from ⟨hz,its,r',IsTup.new _ _⟩)
  exact⟨.ref h'.objs.size,_,I2,rfl,q _ (I1.hok.fresh (Nat.le_refl _))⟩
 ·obtain⟨its,r',pl,hz⟩:=I.tuple hq;exact call_tuple_same pl ⟨.ref p,H,I,rfl,q⟩
def G5 (K:PySem.W.Frag)(T:String)(x:V)(H:Hp):Prop:=match x with
 | .str _=>T="str"
 | .int _=>T="int"
 | .ref p=>(T="list"/\∃xs,SqL K H p xs)\/(T="tuple"/\∃o,K.lookup p=some o/\o.cls=.type "tuple"/\o.dict=none) \/
  (T="dict"/\((∃kvs,H p=some (.dK kvs))\/∃kvs,H p=some (.dT kvs)))\/(T="set"/\∃S n,H p=some (.set S n))
 | _=>False
def Dg {pins:List (Addr×Obj)}{σ:St}{H:Hp}{s:Shared}{T:String}{x:V}{v:Value}(I:Inv X pins σ H s)(r:RelV x v)(ty:G5 X.K T x H) :
 s.TypeIs v T/\∀a,v=.ref a->∃ob,s.heap.get? a=some ob/\ob.dict=none:=by
 cases x with
 | str z =>
   obtain⟨t,rfl⟩:=r;cases (show T="str" from ty);exact⟨typeIs_str s z t,fun _ e=>nomatch e⟩
 | int i =>
   obtain⟨t,rfl⟩:=r;cases (show T="int" from ty);exact⟨typeIs_int s i t,fun _ e=>nomatch e⟩
 | ref p =>
   cases r;rcases ty with ⟨rfl,xs,hq⟩ | ⟨rfl,o,hk,hc,hd⟩ | ⟨rfl,hk⟩ | ⟨rfl,S,n,hk⟩
   ·obtain⟨its,_,pl,_⟩:=I.list hq;refine⟨pl.isList.typeIs,fun a e=>?_⟩;cases e;obtain⟨o,n,e,c,hd,_⟩:=pl;exact⟨o,e,hd⟩
   ·refine⟨⟨o,I.kIn p o hk,hc⟩,fun a e=>?_⟩;cases e;exact⟨o,I.kIn _ o hk,hd⟩
   ·have z:∃o,s.heap.get? p=some o/\o.ExactDict:=by
     rcases hk with ⟨kvs,hk⟩ | ⟨kvs,hk⟩
     ·obtain⟨_,_,_,_,o,_,_,e,ex,_⟩:=I.hok p _ hk;exact⟨o,e,ex⟩
     ·obtain⟨_,_,_,_,o,_,_,e,ex,_⟩:=I.hok p _ hk;exact⟨o,e,ex⟩
    obtain⟨o,e,ex⟩:=z;refine⟨⟨o,e,ex.1⟩,fun a e2=>?_⟩;cases e2;exact⟨o,e,ex.2.1⟩
   ·obtain⟨o,_,_,_,e,ex,_⟩:=I.hok p _ hk;refine⟨⟨o,e,ex.1⟩,fun a e2=>?_⟩;cases e2;exact⟨o,e,ex.2.1⟩
 | _=>exact False.elim ty
noncomputable def G8 (K:PySem.W.Frag)(T:String)(r:V->List V->Hp->VK->Prop)(to:TE)(t:TA):TE:=fun σ H Q=>to σ H fun x H1=>G5 K T x H1/\t σ H1 fun xs H2=>r x xs H2 Q
variable {o e:Expr}{es:List Expr}{to:TE}{t:TA}{name:Str}{apos cpos:Pos}{T id:String}{r:V->List V->Hp->VK->Prop}
def vR (pa:PlainAttrs T)(slot:Slot T name id)(hty:typeOf (.builtin id)=pure (.type "method_descriptor"))(hm:Hi X id r)(ho:PE X o to)(ha:PA X (e::es) t)
 (hbase:attributeBase o name X.env (eval o X.env)=eval o X.env:=by rfl)
 (hfew:((backTo cpos (starEach (e::es) X.env)).all (fun x => !x.1)&&(backToKw cpos (keywordEach [] X.env)).all (fun x=>x.1.isSome)
  && decide ((e::es).length+([]:List Keyword).length+(if ([]:List Keyword).isEmpty then 0 else 1)<30))=true:=by rfl)
 (hline:(apos.endLine==cpos.line)=true:=by rfl) (hs:starEach (e::es) X.env=(false,eval e X.env)::starEach es X.env:=by rfl) (hplain:(backTo cpos (starEach es X.env)).any (·.1)=false:=by rfl) :
 PE X (.Call (.Attribute o name apos) (e::es) [] cpos) (G8 X.K T r to t):=by
 intro pins s σ H Q I h;refine wpAny_Call_method_late hbase hfew hline rfl (bC (ho pins s σ H _ I h) fun v s1 ⟨x,H1,I1,r1,ty,q1⟩=>?_);obtain⟨h1,h2⟩:=Dg I1 r1 ty;refine⟨T,id,pa,slot,hty,h1,h2,?_⟩;have hA:=ha cpos pins s1 σ H1 _ I1 q1;rw[hs] at hA ⊢;refine Calls.callWith_builtin (by show (false||(backTo cpos (starEach es X.env)).any (·.1))=false;rw[hplain] <;> rfl) (Calls.evalArgs_plain ?_);exact bC hA fun us s2 ⟨vs,H2,I2,r2,q2⟩=>hm pins s2 σ H2 x vs v us Q I2 r1 r2 q2
end
def Fe (X:Cx)(id:String)(r:V->List V->Hp->VK->Prop):Prop :=
 ∀(pins:List (Addr×Obj)) (s:Shared) (σ:St) (H:Hp) (x:V) (xs:List V) (v:Value) (us:List Value) (Q:VK),Inv X pins σ H s->RelV x v->Vals xs us->r x xs H Q ->
  wpAny (model X.prog X.w) X.A (call (.builtin id) (v::us)) (EP X pins σ Q) X.xe s
def Vals.one:∀{x:V} {us:List Value},Vals [x] us->∃u,us=[u]/\RelV x u
 | _,_,.cons r .nil=>⟨_,rfl,r⟩
def Vals.rep {xs:List V}{us:List Value}(h:Vals xs us):∀k:Nat,Vals (List.replicate k xs).flatten (List.replicate k us).flatten
 | 0=>.nil
 | k+1=>by
   rw[List.replicate_succ,List.replicate_succ,List.flatten_cons,List.flatten_cons];exact Vals.append h (Vals.rep h k)
def foldl_rep (its:List Value):∀(k:Nat) (acc:List Value),
 List.foldl (fun x1 x2=>x1++x2) acc.toArray (List.replicate k its.toArray)=(acc++(List.replicate k its).flatten).toArray
 | 0,acc=>by simp
 | k+1,acc=>by
   have e:acc.toArray++its.toArray=(acc++its).toArray:=by simp
   have e2:(acc++its)++(List.replicate k its).flatten=acc++(List.replicate (k+1) its).flatten:=by
    rw[List.replicate_succ,List.flatten_cons,List.append_assoc]
   rw[<-e2,<-foldl_rep its k (acc++its),<-e,List.replicate_succ,List.foldl_cons]
section
variable {X:Cx}{pins:List (Addr×Obj)}{σ:St}{H:Hp}{s:Shared}{l b:Addr}{xs ys zs:List V}
def Inv.lset {its its':List Value}{n:Nat}{f:Array Value->Array Value}{t':Nat}(I:Inv X pins σ H s)(hH:H l=some (.lst xs))
 (e:s.heap.get? l=some { cls:=.type "list",data:=.seq its.toArray n }) (hf:f its.toArray=its'.toArray) (hv:Vals ys its') (hz:ys.length<=sizeLine) :
 Inv X pins σ (bm H l (.lst ys)) { s with heap:=s.heap.update l (Obj.mapSeq f),toks:=t' }:=by
 have q:=PySem.IsL.update e f;rw[hf] at q;refine I.write (x:=l) (e:=l) (by rw[hH];exact trivial) (.inl rfl) (fun b' u hb hu=>(Heap.get?_update_other s.heap (Obj.mapSeq f) (Ne.symm hb)).trans hu) ⟨_,q⟩ ?_;exact⟨hz,its',_,hv,q⟩
def Inv.lnew {its:List Value}{t':Nat}(I:Inv X pins σ H s)(hv:Vals ys its)(hz:ys.length<=sizeLine) :
 Inv X pins σ (bm H s.heap.objs.size (.lst ys)) { s with heap:=s.heap.push { cls:=.type "list",data:=.seq its.toArray },toks:=t' } :=
 I.laid (fun _ _ q=>Heap.get?_push_of_some _ q) (Nat.le_refl _) ⟨hz,its,0,hv,Heap.get?_push_size _ rfl⟩
def Inv.fresh (I:Inv X pins σ H s):H s.heap.objs.size=none:=I.hok.fresh (Nat.le_refl _)
def Inv.lstM (I:Inv X pins σ H s)(hH:H l=some (.lst xs)):xs.length<=sizeLine/\∃(its:List Value) (n:Nat),Vals xs its/\xs.length=its.length/\s.heap.get? l=some { cls:=.type "list",data:=.seq its.toArray n }:=by
 obtain⟨z,its,n,r,e⟩:=I.hok l _ hH;exact⟨z,its,n,r,r.length,e⟩
def lR {n:Nat}(h:n<=sizeLine):Builtin.List.listTooLong n=false:=by
 unfold Builtin.List.listTooLong;exact decide_eq_false (by omega)
end
section
variable {X:Cx}
def vH:V->List V->Hp->VK->Prop:=fun x vs H Q=>∃l xs y,x=.ref l/\vs=[y]/\H l=some (.lst xs)/\xs.length<sizeLine/\Q .non (bm H l (.lst (xs++[y])))
def nX:Fe X "list.append" vH:=by
 intro pins s σ H x vs v us Q I rx rv h;obtain⟨l,xs,y,rfl,rfl,hH,hz,q⟩:=h;cases rx;obtain⟨u,rfl,ru⟩:=rv.one;obtain⟨z,its,n,r,hl,e⟩:=I.lstM hH;refine call_meets F.slot_list_append ⟨_,e,rfl⟩ F.entry_list_append (F.args_list_append_2 _ _) (PySem.list_append l its.toArray n u (by rw[List.size_toArray];omega)) ⟨e,?_⟩;refine⟨.non,_,I.lset (its':=its++[u]) hH e (by simp) (r.append (.cons ru .nil)) ?_,rfl,q⟩;rw[List.length_append,List.length_singleton];omega
def FB:R2:=fun x y H Q=>∃l k xs,x=.ref l/\y=.int k/\H l=some (.lst xs) /\ -(2 ^ 63)<=k/\k<2 ^ 63/\xs.length*k.toNat<=sizeLine /\
 ∀p,H p=none->Q (.ref p) (bm H p (.lst (List.replicate k.toNat xs).flatten))
def len_rep {α:Type}(xs:List α)(k:Nat):(List.replicate k xs).flatten.length=k*xs.length:=by
 induction k with
 | zero=>simp
 | succ k ih=>rw[List.replicate_succ,List.flatten_cons,List.length_append,ih,Nat.succ_mul,Nat.add_comm]
def zD:OpR X (binaryOp .Mult) FB:=by
 intro pins s σ H x y v u Q I rx ry h;obtain⟨l,k,xs,rfl,rfl,hH,h1,h2,hz,q⟩:=h;cases rx;obtain⟨t,rfl⟩:=ry;obtain⟨z,its,n,r,hl,e⟩:=I.lstM hH;have hlen:its.toArray.size*k.toNat<=sizeLine:=by rw[List.size_toArray,<-hl];exact hz
 have hcap:¬ its.toArray.size*k.toNat>(2 ^ 63-1) / 8:=by
  have:(sizeLine:Nat)<=(2 ^ 63-1) / 8:=by decide
  omega
 have hfit:¬ (!Builtin.List.listFitsIndex k)=true:=by
  rw[fitsIndex_both h1 h2];exact Bool.false_ne_true
 have hlong:¬ Builtin.List.listTooLong (its.toArray.size*k.toNat)=true:=by
  rw[lR hlen];exact Bool.false_ne_true
 have hnew:List.foldl (fun x1 x2=>x1++x2) #[] (List.replicate (if its.toArray.isEmpty=true then 0 else k.toNat) its.toArray)=(List.replicate k.toNat its).flatten.toArray:=by
  have f0:∀m:Nat,List.foldl (fun x1 x2=>x1++x2) #[] (List.replicate m its.toArray)=(List.replicate m its).flatten.toArray:=fun m=>by
   have:=foldl_rep its m [];rw[List.nil_append] at this;exact this
  rw[f0];cases its with
  | nil=>simp
  | cons a r'=>rw[if_neg (by simp)]
 refine wpAny_binaryOp_repeat_ref (T:="list") (U:="int") (by decide) ⟨_,e,rfl⟩ (fun s'=>typeIs_int s' k t) noFill_list_mul F.fills_int_mul F.slot_int_rmul repeat_list F.slot_int_index.lookup
  (call_meets F.slot_int_rmul (typeIs_int s k t) F.entry_int_rmul (F.args_int_rmul_2 _ _) (int___rmul___int_list k t l its.toArray n)
   ⟨e,rfl,⟨_,e,rfl⟩,call_meets F.slot_list_mul ⟨_,e,rfl⟩ F.entry_list_mul (F.args_list_mul_2 _ _) (AutoListH.list___mul___list_int_3 l its.toArray n k t hfit hcap hlong) ⟨e,?_⟩⟩)
 rw[hnew];exact⟨.ref _,_,I.lnew (t':=s.toks) (r.rep k.toNat) (by rw[len_rep,Nat.mul_comm];exact hz),rfl,q _ I.fresh⟩
end
section
variable {prog:Program}{w:World}{A:Around}{E:Value->Shared->Prop}{s:Shared}
set_option maxRecDepth 100000 in
end
section
variable {X:Cx}
end
end L2
namespace Att
open PySem PySem.W PySem.Calls PyProof.Rows
def kP {P:Params}{h:Heap}:∀(ns:List Int) (vs:List Value),WellAll P h vs (ns.map WData.int)->IntsAre vs ns:=by
 intro ns;induction ns with
 | nil =>
   intro vs w;rw[List.map_nil] at w;cases w;exact .nil
 | cons n ns ih =>
   intro vs w;rw[List.map_cons] at w;cases w with
   | cons a b =>
     cases a;exact .cons _ _ (ih _ b)
def xh {l:OpenLaw}{n:Nat}(hn:l.most=some n){P:Params}{h:Heap}{args:List WData}{vals:List Value}
 (hpre:l.row.toRowW.claim.pre args=true) (hwl:WellAll P h vals args) :
 ∃a vs ns,vals=[Value.ref a]/\args=[WData.list (ns.map WData.int)]/\h.get? a=some { cls:=.type "list",data:=.seq vs.toArray }/\IntsAre vs ns/\ns.length<=n:=by
 have hsh:WShape.hasAll [] args [.list .int]=true:=(pre_splitW hpre).1;have hc:l.pre.holds [] { args:=args }=true:=(pre_splitW hpre).2;obtain⟨d,r,rfl,h1,h2⟩:=hasAllW_cons hsh;obtain rfl:=hasAllW_nil h2;obtain⟨xs,rfl,h3⟩:=hasW_list h1;obtain⟨ns,rfl⟩:=items_int h3;have hlen:ns.length<=n:=by
  unfold OpenLaw.pre at hc;have h4:(WTm.not (.lt (.lit (.int (n:Int))) (.len (.arg 0)))).holds [] { args:=[.list (ns.map .int)] }=true:=by
   have h4:=(holds_andW hc).1;rw[hn] at h4;exact h4
  have h5:=condW_of h4 (w_not (w_lt w_lit (w_len_list (w_arg rfl))));rw[List.length_map] at h5;refine Nat.le_of_not_lt fun q=>?_;have q':(n:Int)<((ns.length:Nat):Int):=by omega
  first
   | (rw[decide_eq_true q'] at h5;exact absurd h5 (by decide))
   | (simp at h5;omega)
 cases hwl with
 | cons w1 w2 =>
   cases w2;cases w1 with
   | list ho hall=>exact⟨_,_,ns,rfl,rfl,ho,kP ns _ hall,hlen⟩
def xr (l:OpenLaw)(args:List WData):l.row.toRowW.claim.post args (.bool true) args=true :=
 postW_of (r:=l.row.toRowW) (X:=(true==true))
  (show WShape.has [] (.bool true) .bool=true by first | rfl | decide | simp[WShape.has,WShape.arms,WShape.armsAll])
  (show (WTm.eq .res (.lit (.bool true))).value [] { args:=args,res:=some (.bool true),after:=args }=some (.bool (true==true)) from w_eq_bool (w_res rfl) w_lit) rfl
def attach_call {l:OpenLaw}{n:Nat}{q:Program}{loose:List Str}{XP:(Str->Option Value)->Heap->Prop}{YP:World->Heap->Prop}{d:DefRec}
 (hn:l.most=some n) (hdf:d.params.defaults=[])
 (call:∀(w:World) (s₀ s₁:Shared) (mg mb:Str->Option Value) (fa:Addr) (o:Obj) (pm cd doc:Value) (a:Addr) (vs:List Value) (ns:List Int),
  Ground q loose [] XP w s₀ mg mb s₁.heap->YP w s₁.heap ->
  s₁.heap.get? fa=some o->o.data=.func (docDef d.name d.params d.body d.scope pm cd doc)->s₁.heap.CodeRec cd d.name->mg d.name=some (.ref fa) ->
  s₁.heap.get? a=some { cls:=.type "list",data:=.seq vs.toArray }->IntsAre vs ns->ns.length<=n->s₁.gens=#[] ->
  codeAny (model l.prog w) callerA (.call (.ref fa) ⟨[.ref a],[]⟩) (fun r s'=>r=.ok (.ret (.bool true))/\OldK s₁.heap s'.heap/\s'.os=s₁.os/\AllBare s'.gens) s₁) :
 WalkO q loose XP YP l.row.toRowW d [] (fun f vs=>PySem.call f vs):=by
 intro w s₀ s₁ mg mb G Y fa o pm cd doc dV kV ho hd hcd hD hmg hg args vals as hpre hlay hrd hwl hlo;obtain rfl:dV=.none:=Dflts.none hD hdf;obtain rfl:kV=.none:=Dflts.noKw hD;obtain⟨a,vs,ns,rfl,rfl,hobj,hints,hlen⟩:=xh hn hpre hwl;refine enter_call (codeAny_mono (call w s₀ s₁ mg mb fa o pm cd doc a vs ns G Y ho (fd_plain hd) hcd hmg hobj hints hlen hg) fun r s' hq=>?_);obtain⟨rfl,h2,h3,h4⟩:=hq;exact⟨.inl ⟨.bool true,.bool true,[],rfl,fun _=>rfl,.bool true,xr l _,fun _=>⟨List.Pairwise.nil,fun _ hm=>(nomatch hm)⟩⟩,h2,h3,h4⟩
section
variable {prog:Program}{w:World}{A:Around}{E:Value->Shared->Prop}{s:Shared}{K:Frag}
end
end Att
namespace L2
open PySem PySem.Spec PyProof.Rows
def ny:∀{vs:List Value} {ns:List Int},IntsAre vs ns->Vals (ns.map V.int) vs
 | _,_,.nil=>.nil
 | _,_,.cons n t h=>.cons ⟨t,rfl⟩ (ny h)
def E7 (H:Hp):Prop:=∀b,H b=none\/∃o xs,H b=some (.frz o (.lst xs))
def zU {P:Program}{w:World}{K:PySem.W.Frag}{mg mb:Str->Option Value}{CX:A9}{k:Nat}{fa a:Addr}{fd:FuncData}{x:Str}{sp:Sp}{s₁:Shared}{vs:List Value}{ns:List Int}
 (KX:K.In s₁.heap) (hns:s₁.heap.Ns mainGlobals mg) (hb:s₁.heap.Ns builtinsNs mb) (hbb:∀x:Str,x≠"__name__"->mb x=bootBuiltins x) (hlim:s₁.heap.NoLimit) (hg:s₁.gens=#[])
 (ha:s₁.heap.get? a=some { cls:=.type "list",data:=.seq vs.toArray }) (hi:IntsAre vs ns) (hl:ns.length<=sizeLine) (hr:Room k callerA)
 (F:∀base:Heap,K.In base->base.Ns mainGlobals mg->gC P w K mg base CX k fa fd [x] sp) (hbind:∀(s:Shared) (u:Value),BindsTo s fd ⟨[u],[]⟩ [(x,u)])
 (hsp:∀H:Hp,E7 H->SqL K H a (ns.map V.int)->sp [.ref a] H (fun v _=>v=.bl true) fun _ _ _=>False)
 (hCX:∀H e s',CX [] H s₁ (fun _ _ _=>False) e s'->False) :
 codeAny (model P w) callerA (.call (.ref fa) ⟨[.ref a],[]⟩) (fun r s'=>r=.ok (.ret (.bool true))/\OldK s₁.heap s'.heap/\s'.os=s₁.os/\AllBare s'.gens) s₁:=by
 have rv:=ny hi;have lenV:=hi.length;have core:∀H:Hp,E7 H->SqL K H a (ns.map V.int)->HOk P w H s₁.heap->(∀b,H b≠none->b=a)->(H a≠none->K.lookup a=none) ->
  codeAny (model P w) callerA (.call (.ref fa) ⟨[.ref a],[]⟩) (fun r s'=>r=.ok (.ret (.bool true))/\OldK s₁.heap s'.heap/\s'.os=s₁.os/\AllBare s'.gens) s₁:=by
  intro H hO hS hok hA hK;have base_of:∀{b:Addr} {o:Obj},s₁.heap.get? b=some o->H b=none->(pT s₁.heap H).get? b=some o:=fun e n=>Ag e n;have noA:∀{b:Addr} {o:Obj} {es:Array DictEntry} {ep:Nat},s₁.heap.get? b=some o->o.data=.dict es ep->H b=none:=fun {b o es ep} e d=>by
   cases q:H b with
   | none=>rfl
   | some u =>
     have e':b=a:=hA b (by rw[q];simp);subst e';rw[ha] at e;cases e;have d':Data.seq vs.toArray _=Data.dict es ep:=d;cases d'
  have nsK:∀{b:Addr} {m:Str->Option Value},s₁.heap.Ns b m->(pT s₁.heap H).Ns b m:=fun {b m} ⟨o,es,ep,e,d,r⟩=>⟨o,es,ep,base_of e (noA e d),d,r⟩;have hKb:K.In (pT s₁.heap H):=fun b o e=>base_of (KX b o e) (by
   cases q:H b with
   | none=>rfl
   | some u =>
     have e':b=a:=hA b (by rw[q];simp);subst e';rw[hK (by rw[q];simp)] at e;cases e)
  have hM:Mod K mg (pT s₁.heap H):=⟨hKb,nsK hns,⟨mb,nsK hb,hbb⟩,let ⟨mc,h1,h2⟩:=hlim;⟨mc,nsK h1,h2⟩⟩;have e0:CH P w K mg (pT s₁.heap H) callerA [] s₁ H:=⟨rfl,hM,fun b o e=>BW e,Nat.le_of_eq (xM _ _),trivial,fun b hb=>absurd (show b∈([]:List Addr) from hb) (by simp),hok,.of_eq hg⟩;refine codeAny_mono ((F _ hKb (nsK hns)).run callerA [] s₁ H ⟨[.ref a],[]⟩ [.ref a] [.ref a] _ _ hr e0 (hbind s₁ (.ref a)) (.cons rfl .nil) (hsp H hO hS)) fun r s' h=>?_;cases r with
  | error e=>exact(hCX H e s' h).elim
  | ok fl =>
    cases fl with
    | next=>exact False.elim h
    | brk=>exact False.elim h
    | cont=>exact False.elim h
    | ret u =>
      obtain⟨v,H',os,bare,un,hok',r',q⟩:=h;have q':v=.bl true:=q;subst q';obtain rfl:u=Value.bool true:=r';refine⟨rfl,OldK.of_keep fun b o e=>?_,os,bare⟩;cases q:H b with
      | none=>exact un.keep b o e q (by intro z;exact absurd (show b∈([]:List Addr) from z) (by simp)) (by simp)
      | some u =>
        rcases hO b with z | ⟨ob,xs,z⟩
        ·rw[q] at z;cases z
        ·have z2:=un.frzs b ob _ z;obtain⟨e1,_⟩:=hok b _ z;obtain⟨e2,_⟩:=hok' b _ z2;rw[e] at e1;cases e1;exact e2
 cases hk:K.lookup a with
 | some o =>
   have e:=KX a o hk;rw[ha] at e;cases e;refine core (fun _=>none) (fun _=>.inl rfl) (.inr ⟨_,vs.toArray,_,hk,rfl,rfl,rfl,by rw[List.size_toArray,lenV];exact hl,by simpa using rv⟩) (fun b u z=>by have z':(none:Option HO)=some u:=z;cases z') (fun b z=>absurd rfl z) fun z=>absurd rfl z
 | none =>
   refine core (fun b=>if b=a then some (.frz { cls:=.type "list",data:=.seq vs.toArray } (.lst (ns.map V.int))) else none) (fun b=>?_) (.inl (.inr ⟨{ cls:=.type "list",data:=.seq vs.toArray },if_pos rfl⟩)) (fun b u z=>?_) (fun b z=>?_) fun _=>hk
   ·by_cases hb:b=a
    ·exact .inr ⟨_,_,if_pos hb⟩
    ·exact .inl (if_neg hb)
   ·by_cases hb:b=a
    ·have z':=(if_pos hb).symm.trans z;cases z';subst hb;exact⟨ha,by rw[List.length_map];exact hl,vs,_,rv,ha⟩
    ·have z':=(if_neg hb).symm.trans z;cases z'
   ·by_cases hb:b=a
    ·exact hb
    ·exact absurd (if_neg hb) z
def walk_of {l:PySem.W.OpenLaw}{n k:Nat}{q:Program}{loose:List Str}{XP:(Str->Option Value)->Heap->Prop}{YP:World->Heap->Prop}{d:DefRec}{K:Params->PySem.W.Frag}{CX:World->A9}{sp:World->Sp}{x:Str}
 (hn:l.most=some n) (hn2:n<=sizeLine) (hdf:d.params.defaults=[]) (hr:Room k callerA)
 (hY:∀(w:World) (h:Heap),YP w h->(K w.params).In h)
 (F:∀(w:World) (mg:Str->Option Value) (fa:Addr) (h:Heap),(K w.params).In h->h.Ns mainGlobals mg->mg d.name=some (.ref fa) ->
  ∃fd:FuncData,(∀(s:Shared) (u:Value),BindsTo s fd ⟨[u],[]⟩ [(x,u)]) /\
   ∀base:Heap,(K w.params).In base->base.Ns mainGlobals mg->gC l.prog w (K w.params) mg base (CX w) k fa fd [x] (sp w))
 (hsp:∀(w:World) (H:Hp) (a:Addr) (ns:List Int),ns.length<=n->E7 H->SqL (K w.params) H a (ns.map V.int)->sp w [.ref a] H (fun v _=>v=.bl true) fun _ _ _=>False)
 (hCX:∀(w:World) (H:Hp) (s:Shared) (e:Value) (s':Shared),CX w [] H s (fun _ _ _=>False) e s'->False) :
 PySem.W.WalkO q loose XP YP l.row.toRowW d [] (fun f vs=>PySem.call f vs):=by
 refine Att.attach_call hn hdf fun w s₀ s₁ mg mb fa o pm cd doc a vs ns G Y ho hd hcd hmg hobj hints hlen hg=>?_;have KX:=hY w _ Y;obtain⟨fd,hb,hF⟩:=F w mg fa _ KX G.T.g hmg;exact zU KX G.T.g G.T.b G.T.builtins G.T.nolimit hg hobj hints (Nat.le_trans hlen hn2) hr hF hb (fun H hO hS=>hsp w H a ns hlen hO hS) fun H e s'=>hCX w H s₁ e s'
noncomputable def iA (s:Stmt):Arguments:=match s with
 | .FunctionDef _ a _ _ _ _ _ _ _ _=>a
 | _=>{ posonlyargs:=[],args:=[],vararg:=none,kwonlyargs:=[],kw_defaults:=[],kwarg:=none,defaults:=[] }
noncomputable def cW (s:Stmt):List Stmt:=match s with
 | .FunctionDef _ _ b _ _ _ _ _ _ _=>b
 | _=>[]
noncomputable def au (s:Stmt):Scope:=match s with
 | .FunctionDef _ _ _ _ _ _ sc _ _ _=>sc
 | _=>{ kind:=.function,names:=[],isGenerator:=false,isCoroutine:=false }
abbrev lc:A9:=fun _ _ _ _ _ _=>False
abbrev E0:XK:=fun _ _ _=>False
def nQ {X:Cx}:ve lc X E0:=fun _ _ _ _ _ _ _ h=>h.elim
structure Fun (K:PySem.W.Frag)(x qual:Str)(st:Stmt)(f:Addr)(fd:FuncData):Prop where
 ex:∃(oc:Value) (od:Option Addr) (kV doc pm:Value) (an:Option Addr) (cdv ct:Value) (osl:Array (Option Value)),
  fd=PySem.W.fnOf x qual (iA st) (cW st) (au st) .none kV doc pm an cdv ct/\K.lookup f=some ⟨oc,od,.func fd,osl⟩/\PySem.W.codeIn K cdv qual=true
 kp:PySem.W.keepIn K (.ref f)=true
section
variable {P:Program}{w:World}{K:PySem.W.Frag}{mg:Str->Option Value}{base:Heap}
def Fun.ok {x qual:Str}{st:Stmt}{f:Addr}{fd:FuncData}{N ps:List Str}{k:Nat}{sp:Sp}(F:Fun K x qual st f fd)(S:dG N ps (au st))(len:∀vs H Q E,sp vs H Q E->vs.length=ps.length)
 (hbody:∀(cdv:Value) (A:Around) (outer:List Env) (s:Shared) (H:Hp) (vs:List V) (Q:VK) (E:XK),Room k (A.deeper (envOfC qual (au st) s.heap.objs.size f cdv))->sp vs H Q E ->
  ∃t,PSs (kf lc P w K mg base N qual (au st) f cdv A outer s H E).nox (cW st) t/\t { nx:=fun _ H'=>Q .non H',rt:=Q } (start N vs) H):gC P w K mg base lc (k+1) f fd ps sp:=by
 obtain⟨oc,od,kV,doc,pm,an,cdv,ct,osl,rfl,lk,hcd⟩:=F.ex;refine F3 lk hcd S len fun A outer s H vs Q E hr hsp=>?_;obtain⟨t,h,q⟩:=hbody cdv A outer s H vs Q E hr hsp;exact⟨t,h.nox,q⟩
def Fun.binds {x qual:Str}{st:Stmt}{f:Addr}{fd:FuncData}{ps:List Str}(F:Fun K x qual st f fd)
 (h:∀(kV doc pm:Value) (an:Option Addr) (cdv ct:Value) (us:List Value),us.length=ps.length->bindArgs (PySem.W.fnOf x qual (iA st) (cW st) (au st) .none kV doc pm an cdv ct) ⟨us,[]⟩=pure (ps.zip us)):Binds K fd ps []:=by
 obtain⟨oc,od,kV,doc,pm,an,cdv,ct,osl,rfl,lk,hcd⟩:=F.ex;exact .all (h kV doc pm an cdv ct)
def Ek {x qual:Str}{st:Stmt}{f:Addr}{oc:Value}{od an:Option Addr}{osl:Array (Option Value)}{kV doc pm cdv ct:Value}(l:K.lookup f=some ⟨oc,od,.func (PySem.W.fnOf x qual (iA st) (cW st) (au st) .none kV doc pm an cdv ct),osl⟩)
 (c:PySem.W.codeIn K cdv qual=true) (k:PySem.W.keepIn K (.ref f)=true):Fun K x qual st f (PySem.W.fnOf x qual (iA st) (cW st) (au st) .none kV doc pm an cdv ct):=⟨⟨oc,od,kV,doc,pm,an,cdv,ct,osl,rfl,l,c⟩,k⟩
end
section
variable {X:Cx}
def pv (i:Nat){x:Str}{pos:Pos}(hN:X.N[i]? = some x:=by rfl)(hv:Gb X.env.scope x:=by first | exact Or.inl rfl | exact Or.inr (Or.inl rfl) | exact Or.inr (Or.inr rfl))(hd:(x==("__debug__":Str))=false:=by decide)
 (hcd:(x==("__classdict__":Str))=false:=by decide):PE X (.Name x pos) (cn i):=DQ hN hv hd hcd
end
def xI {A B:Prop}(h:B):if false=true then A else B:=by
 rw[if_neg Bool.false_ne_true];exact h
def xH {A B:Prop}(h:A):if true=true then A else B:=by
 rw[if_pos rfl];exact h
def Same (H H':Hp):Prop:=∀b o,H b=some o->H' b=some o
def Same.refl (H:Hp):Same H H:=fun _ _ h=>h
def Same.trans {H H1 H2:Hp}(a:Same H H1)(b:Same H1 H2):Same H H2:=fun c o h=>b c o (a c o h)
def Same.free {H H':Hp}(e:Same H H'){l:Addr}(h:H' l=Option.none):H l=Option.none:=by
 cases q:H l with
 | none=>rfl
 | some o =>
   rw[e l o q] at h;cases h
def Same.seq {K:PySem.W.Frag}{H H':Hp}{a:Addr}{xs:List V}(e:Same H H')(h:SqL K H a xs):SqL K H' a xs:=by
 rcases h with (h | ⟨o,h⟩) | h
 ·exact .inl (.inl (e _ _ h))
 ·exact .inl (.inr ⟨o,e _ _ h⟩)
 ·exact .inr h
end L2
namespace DL
open PySem
inductive D where
 | non | bl (b:Bool) | int (i:Int) | str (x:Str) | tup (ds:List D) | lst (ds:List D) | dic (t:Bool) (ks vs:List D)
abbrev Ev:=List (Option D)
inductive Rs where
 | nx (δ:Ev) | rt (d:D) | bk (δ:Ev) | ct (δ:Ev) | ex
abbrev ME:=Ev->Option D
abbrev MT:=Ev->Option Bool
abbrev MA:=Ev->Option (List D)
abbrev MS:=Ev->Option Rs
abbrev MG:=D->Ev->Option Ev
abbrev A7:=List D->Ev->Option Ev
abbrev MI:=Ev->Option (List D)
abbrev MF:=List D->Option D
noncomputable def slot {α:Type}(δ:List (Option α))(i:Nat):Option α:=(δ[i]?).getD none
def ab (i:Nat):ME:=fun δ=>slot δ i
noncomputable def eC (d:D):ME:=fun _=>some d
noncomputable def az (f:D->D->Option D)(a b:ME):ME:=fun δ=>(a δ).bind fun x=>(b δ).bind fun y=>f x y
noncomputable def kF (f:D->Option D)(a:ME):ME:=fun δ=>(a δ).bind f
noncomputable def ak:MA:=fun _=>some []
noncomputable def ac (a:ME)(r:MA):MA:=fun δ=>(a δ).bind fun x=>(r δ).bind fun xs=>some (x::xs)
noncomputable def ah (f:MF)(a:MA):ME:=fun δ=>(a δ).bind f
noncomputable def cG (a:MA):ME:=fun δ=>(a δ).bind fun xs=>some (.tup xs)
noncomputable def cw (a:MA):ME:=fun δ=>(a δ).bind fun xs=>some (.lst xs)
noncomputable def Eu (a b:ME):ME:=fun δ=>(a δ).bind fun x=>match x with | .bl true=>b δ | .bl false=>some (.bl false) | _=>none
noncomputable def truth:D->Option Bool
 | .non=>some false
 | .bl b=>some b
 | .int i=>some (i != 0)
 | .str _=>none
 | .tup ds=>some (!ds.isEmpty)
 | .lst ds=>some (!ds.isEmpty)
 | .dic _ _ _=>none
def tV (a:ME):MT:=fun δ=>(a δ).bind truth
noncomputable def lj (a b:MT):MT:=fun δ=>(a δ).bind fun k=>if k=true then b δ else some false
noncomputable def Bl (a b:MT):MT:=fun δ=>(a δ).bind fun k=>if k=true then some true else b δ
noncomputable def yB (a:MT):MT:=fun δ=>(a δ).bind fun k=>some (!k)
def cV (f g:D->D->Option D)(a b c:ME):ME:=fun δ=>(a δ).bind fun x=>(b δ).bind fun y=>(f x y).bind fun z=>match z with
 | .bl true=>(c δ).bind fun u=>g y u
 | .bl false=>some (.bl false)
 | _=>none
def oI (g:Int->Int->Option D):D->D->Option D
 | .int i,.int j=>g i j
 | _,_=>none
noncomputable def small (i:Int):Bool:=decide (-(2 ^ 64)<i)&&decide (i<2 ^ 64)
noncomputable def bG:D->D->Option D
 | .int i,.int j=>some (.int (i+j))
 | .lst xs,.lst ys=>if xs.length+ys.length<=16777216 then some (.lst (xs++ys)) else none
 | .tup xs,.tup ys=>if xs.length+ys.length<=16777216 then some (.tup (xs++ys)) else none
 | .str x,.str y=>if x.length+y.length<=16777216 then some (.str (x++y)) else none
 | _,_=>none
def jw:D->D->Option D:=oI fun i j=>some (.int (i-j))
def bQ:D->D->Option D
 | .int i,.int j=>if (small j||small i)=true then some (.int (i*j)) else none
 | .tup xs,.int k=>if (decide (0<k)&&decide (k<=1000)&&decide (0<xs.length)&&decide (xs.length<=1000))=true then some (.tup (List.replicate k.toNat xs).flatten) else none
 | _,_=>none
def oMod:D->D->Option D:=oI fun i j=>if 0<j then some (.int (i % j)) else none
def gF:D->D->Option D:=oI fun i j=>if 0<j/\j<1073741824 then some (.int (i / j)) else none
def oLt:D->D->Option D:=oI fun i j=>some (.bl (decide (i<j)))
def oLe:D->D->Option D:=oI fun i j=>some (.bl (decide (i<=j)))
def FP:D->D->Option D:=oI fun i j=>some (.bl (decide (j<i)))
def Gk:D->D->Option D:=oI fun i j=>some (.bl (decide (j<=i)))
noncomputable def Fh:D->Option D
 | .int i=>some (.int (-i))
 | _=>none
mutual
def bP:D->D->Bool
 | .non,.non=>true
 | .bl a,.bl b=>a==b
 | .int a,.int b=>a==b
 | .bl a,.int b=>(if a then 1 else 0)==b
 | .int a,.bl b=>a==(if b then 1 else 0)
 | .str a,.str b=>a==b
 | .tup as,.tup bs=>eI as bs
 | .lst as,.lst bs=>eI as bs
 | .dic t ks vs,.dic u ls ws=>t==u&&eI ks ls&&eI vs ws
 | _,_=>false
def eI:List D->List D->Bool
 | [],[]=>true
 | a::as,b::bs=>bP a b&&eI as bs
 | _,_=>false
end
mutual
def bg:D->Nat
 | .tup ds=>bu ds+1
 | .lst ds=>bu ds+1
 | .dic _ _ _=>31
 | _=>0
def bu:List D->Nat
 | []=>0
 | d::ds=>max (bg d) (bu ds)
end
def oEq (a b:D):Option D:=if bg a<=30/\bg b<=30 then some (.bl (bP a b)) else none
def pH (a b:D):Option D:=if bg a<=30/\bg b<=30 then some (.bl (!bP a b)) else none
def Ba:D->D->Option D
 | x,.tup ys=>if bu ys<=30/\bg x<=30 then some (.bl (ys.any fun y=>bP y x)) else none
 | x,.lst ys=>if bu ys<=30/\bg x<=30 then some (.bl (ys.any fun y=>bP y x)) else none
 | .str x,.str y=>some (.bl (!(Builtin.Str.occurrences y x 0 y.length 1).isEmpty))
 | _,_=>none
noncomputable def qQ (n:Nat)(i:Int):Option Nat:=if 0<=i then (if i<n then some i.toNat else none) else if -(n:Int)<=i then some (i+n).toNat else none
def bN:D->D->Option D
 | .tup xs,.int i=>(qQ xs.length i).bind fun j=>xs[j]?
 | .lst xs,.int i=>(qQ xs.length i).bind fun j=>xs[j]?
 | .str x,.int i=>if x.length<=16777216 then (qQ x.cps.toList.length i).bind fun j=>x.cps.toList[j]?.bind fun c=>some (.str ⟨#[c]⟩) else none
 | _,_=>none
noncomputable def Df (k:Nat):D->Option D
 | .tup xs=>some (.tup (xs.take k))
 | .lst xs=>some (.lst (xs.take k))
 | _=>none
inductive Ty where | int | bool | str | list | tuple
noncomputable def GQ:Ty->D->Bool
 | .int,.int _=>true
 | .int,.bl _=>true
 | .bool,.bl _=>true
 | .str,.str _=>true
 | .list,.lst _=>true
 | .tuple,.tup _=>true
 | _,_=>false
def GV (t:Ty):MF:=fun ds=>match ds with | [d]=>some (.bl (GQ t d)) | _=>none
noncomputable def cM:MF:=fun ds=>match ds with
 | [.tup xs]=>some (.int xs.length)
 | [.lst xs]=>some (.int xs.length)
 | [.str x]=>if x.length<=16777216 then some (.int x.length) else none
 | _=>none
noncomputable def Hv:MF:=fun ds=>match ds with | [.int i]=>if i.natAbs.log2<1920 then some (.str (toString i)) else none | _=>none
noncomputable def Et:MF:=fun ds=>match ds with | [.int i]=>some (.int (if i<0 then -i else i)) | _=>none
noncomputable def Hb:MF:=fun ds=>match ds with | [.tup xs]=>some (.lst xs) | [.lst xs]=>some (.lst xs) | _=>none
noncomputable def fc:MF:=fun ds=>match ds with | [.tup xs]=>some (.tup xs) | [.lst xs]=>some (.tup xs) | _=>none
noncomputable def gN (i:Nat):MG:=fun d δ=>some (δ.set i (some d))
noncomputable def eg:A7:=fun ds δ=>match ds with | []=>some δ | _::_=>none
def be (g:MG)(gs:A7):A7:=fun ds δ=>match ds with | d::r=>(g d δ).bind fun δ'=>gs r δ' | []=>none
noncomputable def gT (gs:A7):MG:=fun d δ=>match d with | .tup ds=>gs ds δ | _=>none
noncomputable def br (a:ME):MI:=fun δ=>(a δ).bind fun d=>match d with | .tup ds=>some ds | .lst ds=>some ds | _=>none
noncomputable def cf (n:Nat):List D:=(List.range n).map fun (i:Nat)=>D.int i
def cv (a:ME):MI:=fun δ=>(a δ).bind fun d=>match d with | .int j=>if -1073741824<j/\j<1073741824 then some (cf j.toNat) else none | _=>none
noncomputable def cQ:Nat->List D->List D
 | _,[]=>[]
 | k,d::r=>.tup [.int k,d]::cQ (k+1) r
def mq (a:ME):MI:=fun δ=>(a δ).bind fun d=>match d with | .tup ds=>some (cQ 0 ds) | .lst ds=>some (cQ 0 ds) | _=>none
def pick {α:Type}(k:Nat)(fv:List Nat)(δ:List (Option α)):List (Option α):=List.replicate k none++fv.map (slot δ)
noncomputable def kL (turn:D->Option (Option D)):List D->Option (List D)
 | []=>some []
 | x::xs=>(turn x).bind fun o=>(kL turn xs).bind fun r=>some (match o with | some d=>d::r | none=>r)
def ib (B:Ev->Ev)(i:MI)(g:MG)(c:MT)(e:ME):ME:=fun δ=>(i δ).bind fun xs=>if xs.length<=16777216 then
 (kL (fun x=>(g x (B δ)).bind fun δ1=>(c δ1).bind fun b=>if b=true then (e δ1).bind fun d=>some (some d) else some none) xs).bind fun r=>some (.lst r)
 else none
def bq (k:Nat)(fv:List Nat)(i:MI)(g:MG)(c:MT)(e:ME):ME:=fun δ=>(i δ).bind fun xs=>if xs.length<=16777216 then
 (kL (fun x=>(g x (pick k fv δ)).bind fun δ1=>(c δ1).bind fun b=>if b=true then (e δ1).bind fun d=>some (some d) else some none) xs).bind fun r=>some (.lst r)
 else none
noncomputable def tT:MT:=fun _=>some true
noncomputable def iF:MS:=fun δ=>some (.nx δ)
noncomputable def aJ (a b:MS):MS:=fun δ=>(a δ).bind fun r=>match r with | .nx δ'=>b δ' | r=>some r
noncomputable def qP (c:MT)(a b:MS):MS:=fun δ=>(c δ).bind fun k=>if k=true then a δ else b δ
noncomputable def bM (a:ME):MS:=fun δ=>(a δ).bind fun d=>some (.rt d)
def bp (a:ME)(g:MG):MS:=fun δ=>(a δ).bind fun d=>(g d δ).bind fun δ'=>some (.nx δ')
noncomputable def Fv (i j:Nat)(a b:ME):MS:=fun δ=>(a δ).bind fun x=>(b δ).bind fun y=>some (.nx ((δ.set i (some x)).set j (some y)))
def cF (g:MG)(body:MS):List D->Ev->Option Rs
 | [],δ=>some (.nx δ)
 | x::xs,δ=>(g x δ).bind fun δ1=>(body δ1).bind fun r=>match r with
   | .nx δ2=>cF g body xs δ2
   | .ct δ2=>cF g body xs δ2
   | .bk δ2=>some (.nx δ2)
   | .rt d=>some (.rt d)
   | .ex=>some .ex
def gQ (i:MI)(g:MG)(body:MS):MS:=fun δ=>(i δ).bind fun xs=>cF g body xs δ
noncomputable def kM (c:MT)(b:MS):Nat->Ev->Option Rs
 | 0,_=>none
 | n+1,δ=>(c δ).bind fun k=>if k=true then (b δ).bind fun r=>match r with
   | .nx δ2=>kM c b n δ2
   | .ct δ2=>kM c b n δ2
   | .bk δ2=>some (.nx δ2)
   | .rt d=>some (.rt d)
   | .ex=>some .ex
   else some (.nx δ)
open Classical in
def fB (c:MT)(b:MS):MS:=fun δ=>if h:∃n r,kM c b n δ=some r then kM c b (Classical.choose h) δ else none
noncomputable def fJ (n k:Nat)(m:MS):MF:=fun ds=>if ds.length=n then (m (ds.map some++List.replicate (k-n) none)).bind fun r=>match r with
 | .rt d=>some d
 | .nx _=>some .non
 | _=>none
 else none
def ownAt (n i:Nat)(δ:Ev):Option D:=match slot δ i with
 | none=>slot δ (n+i)
 | some _=>none
noncomputable def f9 (n i:Nat)(d:D)(δ:Ev):Ev:=(δ.set i none).set (n+i) (some d)
def du (n i:Nat)(a:ME):MS:=fun δ=>(a δ).bind fun d=>some (.nx (f9 n i d δ))
def frz (n i:Nat)(δ:Ev):Ev:=match ownAt n i δ with
 | some (.lst ds)=>(δ.set i (some (.lst ds))).set (n+i) none
 | _=>δ
def nH (n i:Nat)(m:MS):MS:=fun δ=>match ownAt n i δ with
 | some (.dic t ks vs)=>m ((δ.set i (some (.dic t ks vs))).set (n+i) none)
 | _=>none
def frzs (n:Nat):List Nat->Ev->Ev
 | [],δ=>δ
 | i::r,δ=>frzs n r (frz n i δ)
def mY (n:Nat)(is:List Nat)(m:MS):MS:=fun δ=>m (frzs n is δ)
mutual
def flat:D->Bool
 | .tup ds=>flats ds
 | .lst _=>false
 | .dic _ _ _=>false
 | _=>true
def flats:List D->Bool
 | []=>true
 | d::ds=>flat d&&flats ds
end
def i8 (n:Nat)(is:List Nat)(a:ME):ME:=fun δ=>(a (frzs n is δ)).bind fun d=>if flat d=true then some d else none
def kN (n i:Nat)(a:ME):MS:=fun δ=>(a δ).bind fun y=>match ownAt n i δ with
 | some (.lst ds)=>if ds.length<16777216 then some (.nx (δ.set (n+i) (some (.lst (ds++[y]))))) else none
 | _=>none
def yi (c:MT)(b:MS):∀(n:Nat) (δ:Ev) (r:Rs),kM c b n δ=some r->kM c b (n+1) δ=some r:=by
 intro n;induction n with
 | zero=>intro δ r h;simp[kM] at h
 | succ n ih =>
   intro δ r h;rw[kM] at h ⊢;cases hc:c δ with
   | none=>rw[hc] at h;simp at h
   | some k =>
     rw[hc] at h;simp only[Option.bind_some] at h ⊢;cases k with
     | false=>simpa using h
     | true =>
       simp only[if_true] at h ⊢;cases hb:b δ with
       | none=>rw[hb] at h;simp at h
       | some q =>
         rw[hb] at h;simp only[Option.bind_some] at h ⊢;cases q with
         | nx δ2=>exact ih _ _ h
         | ct δ2=>exact ih _ _ h
         | bk δ2=>exact h
         | rt d=>exact h
         | ex=>exact h
def yj {c:MT}{b:MS}{n m:Nat}{δ:Ev}{r:Rs}(h:kM c b n δ=some r)(hm:n<=m):kM c b m δ=some r:=by
 induction hm with
 | refl=>exact h
 | step _ ih=>exact yi _ _ _ _ _ ih
def io {c:MT}{b:MS}{n:Nat}{δ:Ev}{r:Rs}(h:kM c b n δ=some r):fB c b δ=some r:=by
 have hx:∃n r,kM c b n δ=some r:=⟨n,r,h⟩;unfold fB;rw[dif_pos hx];obtain⟨r',h'⟩:=Classical.choose_spec hx;rcases Nat.le_total n (Classical.choose hx) with l | l
 ·exact yj h l
 ·have:=yj h' l;rw[h] at this;rw[h',this]
def t5 {c:MT}{b:MS}{δ:Ev}{r:Rs}(h:fB c b δ=some r):∃n,kM c b n δ=some r:=by
 unfold fB at h;split at h
 ·exact⟨_,h⟩
 ·cases h
def sX {turn:D->Option (Option D)}(f:D->Option D):∀(xs:List D),(∀x∈xs,turn x=some (f x))->kL turn xs=some (xs.filterMap f)
 | [],_=>rfl
 | x::xs,h=>by
   rw[kL,h x List.mem_cons_self,sX f xs fun y hy=>h y (List.mem_cons_of_mem _ hy)];simp only[Option.bind_some,List.filterMap_cons];cases f x <;> rfl
def im {α:Type}{δ:List (Option α)}{i:Nat}{d:α}(h:slot δ i=some d):δ[i]? = some (some d):=by
 unfold slot at h;cases e:δ[i]? with
 | none=>rw[e] at h;cases h
 | some o=>rw[e] at h;exact congrArg some h
mutual
def ia:∀d:D,bP d d=true
 | .non=>rfl
 | .bl _=>by simp[bP]
 | .int _=>by simp[bP]
 | .str _=>by simp[bP]
 | .tup ds=>by simp only[bP];exact fX ds
 | .lst ds=>by simp only[bP];exact fX ds
 | .dic t ks vs=>by simp only[bP,fX ks,fX vs,beq_self_eq_true];rfl
def fX:∀ds:List D,eI ds ds=true
 | []=>by simp[eI]
 | d::ds=>by simp[eI,ia d,fX ds]
end
def fe:∀(ds es:List D),((List.range (min ds.length es.length)).all (fun j=>bP (ds.getD j .non) (es.getD j .non))&&ds.length==es.length)=eI ds es
 | [],[]=>by simp[eI]
 | [],_::_=>by simp[eI]
 | _::_,[]=>by simp[eI]
 | d::ds,e::es=>by
   have ih:=fe ds es;have hm:min (ds.length+1) (es.length+1)=min ds.length es.length+1:=by omega
   have hb:(ds.length+1==es.length+1)=(ds.length==es.length):=by simp
   simp only[List.length_cons,hm,hb,List.range_succ_eq_map,List.all_cons,List.all_map,List.getD_cons_zero,eI,<-ih,Bool.and_assoc];rfl
def depDs_le {n:Nat}:∀{ds:List D},bu ds<=n↔∀d∈ds,bg d<=n
 | []=>by simp[bu]
 | d::ds=>by
   have:=depDs_le (n:=n) (ds:=ds);simp only[bu,List.mem_cons,forall_eq_or_imp,<-this];omega
def bW {n k:Nat}{m:MS}{ds:List D}{r:D}(hl:ds.length=n)(h:m (ds.map some++List.replicate (k-n) none)=some (.rt r)):fJ n k m ds=some r:=by
 unfold fJ;rw[if_pos hl,h];rfl
def aw {a b:MS}{δ δ':Ev}(h:a δ=some (.nx δ')):aJ a b δ=b δ':=by unfold aJ;rw[h];rfl
def Dr {a b:MS}{δ:Ev}{d:D}(h:a δ=some (.rt d)):aJ a b δ=some (.rt d):=by unfold aJ;rw[h];rfl
def Ef {c:MT}{a b:MS}{δ:Ev}(h:c δ=some true):qP c a b δ=a δ:=by unfold qP;rw[h];rfl
def xL {c:MT}{a b:MS}{δ:Ev}(h:c δ=some false):qP c a b δ=b δ:=by unfold qP;rw[h];rfl
def bA {a:ME}{δ:Ev}{d:D}(h:a δ=some d):bM a δ=some (.rt d):=by unfold bM;rw[h];rfl
def aQ {a:ME}{g:MG}{δ δ':Ev}{d:D}(h:a δ=some d)(hg:g d δ=some δ'):bp a g δ=some (.nx δ'):=by unfold bp;rw[h];simp[hg]
def iI {a:ME}{δ:Ev}{d:D}{b:Bool}(h:a δ=some d)(hb:truth d=some b):tV a δ=some b:=by unfold tV;rw[h];exact hb
def tR {a c:MT}{δ:Ev}{x y:Bool}(h:a δ=some x)(hc:c δ=some y):Bl a c δ=some (x||y):=by
 unfold Bl;rw[h];cases x <;> simp[hc]
def aZ {f:D->D->Option D}{a b:ME}{δ:Ev}{x y:D}(h:a δ=some x)(hb:b δ=some y):az f a b δ=f x y:=by unfold az;rw[h,hb];rfl
def vh {f:D->Option D}{a:ME}{δ:Ev}{x:D}(h:a δ=some x):kF f a δ=f x:=by unfold kF;rw[h];rfl
def C5 (f:MF)(a:ME)(δ:Ev):ah f (ac a ak) δ=(a δ).bind fun x=>f [x]:=by
 simp only[ah,ac,ak];cases a δ <;> rfl
def call2 (f:MF)(a b:ME)(δ:Ev):ah f (ac a (ac b ak)) δ=(a δ).bind fun x=>(b δ).bind fun y=>f [x,y]:=by
 simp only[ah,ac,ak];cases a δ <;> cases b δ <;> rfl
def F7 (f:MF)(a b c:ME)(δ:Ev):ah f (ac a (ac b (ac c ak))) δ=(a δ).bind fun x=>(b δ).bind fun y=>(c δ).bind fun z=>f [x,y,z]:=by
 simp only[ah,ac,ak];cases a δ <;> cases b δ <;> cases c δ <;> rfl
def av {f:MF}{a:ME}{δ:Ev}{x:D}(h:a δ=some x):ah f (ac a ak) δ=f [x]:=by rw[C5,h];rfl
def aV {f:MF}{a b:ME}{δ:Ev}{x y:D}(h:a δ=some x)(hb:b δ=some y):ah f (ac a (ac b ak)) δ=f [x,y]:=by rw[call2,h,hb];rfl
def f6 {f:MF}{a b c:ME}{δ:Ev}{x y z:D}(h:a δ=some x)(hb:b δ=some y)(hc:c δ=some z):ah f (ac a (ac b (ac c ak))) δ=f [x,y,z]:=by rw[F7,h,hb,hc];rfl
def bL {k:Nat}{fv:List Nat}{i:MI}{g:MG}{c:MT}{e:ME}{δ:Ev}{xs:List D}(f:D->Option D)(hi:i δ=some xs)(hl:xs.length<=16777216)
 (h:∀x∈xs,∃δ1,g x (pick k fv δ)=some δ1/\((c δ1=some true/\∃d,e δ1=some d/\f x=some d)\/(c δ1=some false/\f x=none))) :
 bq k fv i g c e δ=some (.lst (xs.filterMap f)):=by
 unfold bq;rw[hi];simp only[Option.bind_some];rw[if_pos hl,sX f xs fun x hx=>?_]
 ·rfl
 ·obtain⟨δ1,e1,h | h⟩:=h x hx
  ·obtain⟨h1,d,h2,h3⟩:=h;rw[e1];simp[h1,h2,h3]
  ·obtain⟨h1,h3⟩:=h;rw[e1];simp[h1,h3]
def pW {g:MG}{body:MS}(P:Ev->Prop):∀(xs:List D) (δ:Ev),P δ->(∀x∈xs,∀δ,P δ->∃δ1 δ2,g x δ=some δ1/\(body δ1=some (.nx δ2)\/body δ1=some (.ct δ2))/\P δ2)->∃δ',cF g body xs δ=some (.nx δ')/\P δ'
 | [],δ,h0,_=>⟨δ,rfl,h0⟩
 | x::xs,δ,h0,h=>by
   obtain⟨δ1,δ2,e1,e2,h2⟩:=h x List.mem_cons_self δ h0;obtain⟨δ',e3,h3⟩:=pW P xs δ2 h2 fun y hy=>h y (List.mem_cons_of_mem _ hy);refine⟨δ',?_,h3⟩;rw[cF,e1];rcases e2 with e2 | e2 <;> simp[e2,e3]
def cj {i:MI}{g:MG}{body:MS}{δ:Ev}{xs:List D}(hi:i δ=some xs):gQ i g body δ=cF g body xs δ:=by unfold gQ;rw[hi];rfl
end DL
namespace DL
open PySem PySem.Spec PyProof.Rows L2
noncomputable def kD:Key->D
 | .inl i=>.int i
 | .inr x=>.str x
def kT (ks:List Key):D:=.tup (ks.map kD)
def DcAt (H:Hp)(a:Addr)(t:Bool)(ks:List D)(xs:List V):Prop :=
 (t=false/\∃kvs:List (Key×V),H a=some (.dK kvs)/\ks=kvs.map (fun p=>kD p.1)/\xs=kvs.map (·.2)) \/
 (t=true/\∃kvs:List (List Key×V),H a=some (.dT kvs)/\ks=kvs.map (fun p=>kT p.1)/\xs=kvs.map (·.2))
def DcF (H:Hp)(a:Addr)(t:Bool)(ks:List D)(xs:List V):Prop :=
 (t=false/\∃(o:Obj) (kvs:List (Key×V)),H a=some (.frz o (.dK kvs))/\ks=kvs.map (fun p=>kD p.1)/\xs=kvs.map (·.2)) \/
 (t=true/\∃(o:Obj) (kvs:List (List Key×V)),H a=some (.frz o (.dT kvs))/\ks=kvs.map (fun p=>kT p.1)/\xs=kvs.map (·.2))
mutual
def Den (K:PySem.W.Frag)(H:Hp):D->V->Prop
 | .non,v=>v=.non
 | .bl b,v=>v=.bl b
 | .int i,v=>v=.int i
 | .str x,v=>v=.str x
 | .tup ds,v=>∃a xs,v=.ref a/\H a=some (.tup xs)/\Dens K H ds xs
 | .lst ds,v=>∃a xs,v=.ref a/\SqL K H a xs/\Dens K H ds xs
 | .dic t ks vs,v=>∃a xs,v=.ref a/\DcF H a t ks xs/\Dens K H vs xs
def Dens (K:PySem.W.Frag)(H:Hp):List D->List V->Prop
 | [],xs=>xs=[]
 | d::ds,xs=>∃x r,xs=x::r/\Den K H d x/\Dens K H ds r
end
section
variable {K:PySem.W.Frag}{H H':Hp}
def Ds {a:Addr}{xs:List V}(e:Same H H')(h:SqT K H a xs):SqT K H' a xs:=by
 rcases h with (h | ⟨o,h⟩) | h
 ·exact .inl (.inl (e _ _ h))
 ·exact .inl (.inr ⟨o,e _ _ h⟩)
 ·exact .inr h
def DcAt.mono {a:Addr}{t:Bool}{ks:List D}{xs:List V}(e:Same H H')(h:DcAt H a t ks xs):DcAt H' a t ks xs:=by
 rcases h with ⟨z,kvs,h,r⟩ | ⟨z,kvs,h,r⟩
 ·exact .inl ⟨z,kvs,e _ _ h,r⟩
 ·exact .inr ⟨z,kvs,e _ _ h,r⟩
def DcF.mono {a:Addr}{t:Bool}{ks:List D}{xs:List V}(e:Same H H')(h:DcF H a t ks xs):DcF H' a t ks xs:=by
 rcases h with ⟨z,o,kvs,h,r⟩ | ⟨z,o,kvs,h,r⟩
 ·exact .inl ⟨z,o,kvs,e _ _ h,r⟩
 ·exact .inr ⟨z,o,kvs,e _ _ h,r⟩
mutual
def Den.mono (e:Same H H'):∀(d:D) (v:V),Den K H d v->Den K H' d v
 | .non,_,h=>by simp only[Den] at h ⊢;exact h
 | .bl _,_,h=>by simp only[Den] at h ⊢;exact h
 | .int _,_,h=>by simp only[Den] at h ⊢;exact h
 | .str _,_,h=>by simp only[Den] at h ⊢;exact h
 | .tup ds,_,h=>by
   simp only[Den] at h ⊢;obtain⟨a,xs,e1,h1,h2⟩:=h;exact⟨a,xs,e1,e _ _ h1,Dens.mono e ds xs h2⟩
 | .lst ds,_,h=>by
   simp only[Den] at h ⊢;obtain⟨a,xs,e1,h1,h2⟩:=h;exact⟨a,xs,e1,e.seq h1,Dens.mono e ds xs h2⟩
 | .dic t ks ds,_,h=>by
   simp only[Den] at h ⊢;obtain⟨a,xs,e1,h1,h2⟩:=h;exact⟨a,xs,e1,h1.mono e,Dens.mono e ds xs h2⟩
def Dens.mono (e:Same H H'):∀(ds:List D) (xs:List V),Dens K H ds xs->Dens K H' ds xs
 | [],_,h=>by simp only[Dens] at h ⊢;exact h
 | d::ds,_,h=>by
   simp only[Dens] at h ⊢;obtain⟨x,r,e1,h1,h2⟩:=h;exact⟨x,r,e1,Den.mono e d x h1,Dens.mono e ds r h2⟩
end
def Dens.nil:Dens K H [] []:=by simp only[Dens]
def Dens.cons {d:D}{ds:List D}{x:V}{xs:List V}(h:Den K H d x)(hs:Dens K H ds xs):Dens K H (d::ds) (x::xs):=by
 simp only[Dens];exact⟨x,xs,rfl,h,hs⟩
def Dens.uncons {d:D}{ds:List D}{xs:List V}(h:Dens K H (d::ds) xs):∃x r,xs=x::r/\Den K H d x/\Dens K H ds r:=by
 simpa only[Dens] using h
def Dens.unnil {xs:List V}(h:Dens K H [] xs):xs=[]:=by simpa only[Dens] using h
def Dens.length:∀{ds:List D} {xs:List V},Dens K H ds xs->ds.length=xs.length
 | [],_,h=>by rw[h.unnil];rfl
 | d::ds,_,h=>by
   obtain⟨x,r,rfl,_,h2⟩:=h.uncons;simp[h2.length]
def Dens.get:∀{ds:List D} {xs:List V} {i:Nat} {d:D},Dens K H ds xs->ds[i]? = some d->∃x,xs[i]? = some x/\Den K H d x
 | [],_,_,_,_,e=>by simp at e
 | d::ds,_,i,d',h,e=>by
   obtain⟨x,r,rfl,h1,h2⟩:=h.uncons;cases i with
   | zero=>simp at e;subst e;exact⟨x,rfl,h1⟩
   | succ i=>simpa using h2.get (i:=i) (d:=d') (by simpa using e)
def Dens.append:∀{ds es:List D} {xs ys:List V},Dens K H ds xs->Dens K H es ys->Dens K H (ds++es) (xs++ys)
 | [],_,_,_,h,g=>by rw[h.unnil];exact g
 | d::ds,_,_,_,h,g=>by
   obtain⟨x,r,rfl,h1,h2⟩:=h.uncons;exact .cons h1 (h2.append g)
def Dens.take:∀{ds:List D} {xs:List V} (n:Nat),Dens K H ds xs->Dens K H (ds.take n) (xs.take n)
 | _,_,0,_=>by rw[List.take_zero,List.take_zero];exact .nil
 | [],_,n+1,h=>by rw[h.unnil];exact .nil
 | d::ds,_,n+1,h=>by
   obtain⟨x,r,rfl,h1,h2⟩:=h.uncons;exact .cons h1 (h2.take n)
def Dens.flat:∀{ds:List D} {xs:List V} (k:Nat),Dens K H ds xs->Dens K H (List.replicate k ds).flatten (List.replicate k xs).flatten
 | _,_,0,_=>.nil
 | ds,xs,k+1,h=>by
   rw[List.replicate_succ,List.replicate_succ,List.flatten_cons,List.flatten_cons];exact h.append (h.flat k)
def Den.int (i:Int):Den K H (.int i) (.int i):=by simp only[Den]
def Den.bl (b:Bool):Den K H (.bl b) (.bl b):=by simp only[Den]
def Den.non:Den K H .non .non:=by simp only[Den]
def Den.str (x:Str):Den K H (.str x) (.str x):=by simp only[Den]
def Den.tup {a:Addr}{ds:List D}{xs:List V}(h:H a=some (.tup xs))(hs:Dens K H ds xs):Den K H (.tup ds) (.ref a):=by
 simp only[Den];exact⟨a,xs,rfl,h,hs⟩
def Den.lst {a:Addr}{ds:List D}{xs:List V}(h:SqL K H a xs)(hs:Dens K H ds xs):Den K H (.lst ds) (.ref a):=by
 simp only[Den];exact⟨a,xs,rfl,h,hs⟩
def Den.int_inv {i:Int}{v:V}(h:Den K H (.int i) v):v=.int i:=by simpa only[Den] using h
def Den.bl_inv {i:Bool}{v:V}(h:Den K H (.bl i) v):v=.bl i:=by simpa only[Den] using h
def Den.str_inv {i:Str}{v:V}(h:Den K H (.str i) v):v=.str i:=by simpa only[Den] using h
def Den.non_inv {v:V}(h:Den K H .non v):v=.non:=by simpa only[Den] using h
def Den.tup_inv {ds:List D}{v:V}(h:Den K H (.tup ds) v):∃a xs,v=.ref a/\H a=some (.tup xs)/\Dens K H ds xs:=by simpa only[Den] using h
def Den.tup_sq {ds:List D}{v:V}(h:Den K H (.tup ds) v):∃a xs,v=.ref a/\SqT K H a xs/\Dens K H ds xs:=let ⟨a,xs,e,h1,h2⟩:=h.tup_inv;⟨a,xs,e,.of h1,h2⟩
def Den.lst_inv {ds:List D}{v:V}(h:Den K H (.lst ds) v):∃a xs,v=.ref a/\SqL K H a xs/\Dens K H ds xs:=by simpa only[Den] using h
def Den.dic {a:Addr}{t:Bool}{ks ds:List D}{xs:List V}(h:DcF H a t ks xs)(hs:Dens K H ds xs):Den K H (.dic t ks ds) (.ref a):=by
 simp only[Den];exact⟨a,xs,rfl,h,hs⟩
def Den.dic_inv {t:Bool}{ks ds:List D}{v:V}(h:Den K H (.dic t ks ds) v):∃a xs,v=.ref a/\DcF H a t ks xs/\Dens K H ds xs:=by simpa only[Den] using h
def aF {p:Addr}(h:H p=none)(o:HO):Same H (bm H p o):=fun b u q=>by rw[ay (aC q h)];exact q
def Dens.ints:∀(ns:List Int),Dens K H (ns.map D.int) (ns.map V.int)
 | []=>.nil
 | n::ns=>.cons (.int n) (Dens.ints ns)
noncomputable def hide (os:List Addr)(H:Hp):Hp:=fun b=>if b∈os then none else H b
noncomputable def C9:HO->Prop
 | .tup _=>False
 | _=>True
def Live (os:List Addr)(H:Hp):Prop:=∀a∈os,∃o,H a=some o/\C9 o
section
variable {os:List Addr}{p:Addr}
def hide_le:Same (hide os H) H:=fun b o e=>by unfold hide at e;split at e;cases e;exact e
def hide_nil:hide [] H=H:=by funext b;simp[hide]
def ao {b:Addr}(h:b∉os):hide os H b=H b:=by simp[hide,h]
def aX {b:Addr}(h:b∈os):hide os H b=none:=by simp[hide,h]
def _root_.L2.Same.hd (g:Same H H'):Same (hide os H) (hide os H'):=fun b o e=>by
 unfold hide at e ⊢;split at e
 ·cases e
 ·rename_i h;rw[if_neg h];exact g b o e
def Live.mono (l:Live os H)(g:Same H H'):Live os H':=fun a h=>let ⟨o,e,n⟩:=l a h;⟨o,g _ _ e,n⟩
def Live.ne (l:Live os H)(h:H p=none):p∉os:=fun z=>by obtain⟨o,e,_⟩:=l p z;rw[h] at e;cases e
def mv (l:Live os H){xs:List V}(h:H p=some (.tup xs)):hide os H p=some (.tup xs):=by
 rw[ao fun z=>?_]
 ·exact h
 ·obtain⟨o,e,n⟩:=l p z;rw[h] at e;cases e;exact n
def ss (l:Live os H)(h:H p=none)(o:HO):hide os (bm H p o) p=some o:=by rw[ao (l.ne h),aA]
def Den.newT {ds:List D}{xs:List V}(l:Live os H)(h:H p=none)(d:Dens K (hide os H) ds xs):Den K (hide os (bm H p (.tup xs))) (.tup ds) (.ref p):=.tup (ss l h _) (d.mono (aF h _).hd _ _)
def Den.newL {ds:List D}{xs:List V}(l:Live os H)(h:H p=none)(d:Dens K (hide os H) ds xs):Den K (hide os (bm H p (.lst xs))) (.lst ds) (.ref p):=.lst (.of (ss l h _)) (d.mono (aF h _).hd _ _)
def Den.tup_up {ds:List D}{v:V}(h:Den K (hide os H) (.tup ds) v):∃a xs,v=.ref a/\SqT K H a xs/\Dens K (hide os H) ds xs:=let ⟨a,xs,e,h1,h2⟩:=h.tup_inv;⟨a,xs,e,.of (hide_le _ _ h1),h2⟩
def Den.lst_up {ds:List D}{v:V}(h:Den K (hide os H) (.lst ds) v):∃a xs,v=.ref a/\SqL K H a xs/\Dens K (hide os H) ds xs:=let ⟨a,xs,e,h1,h2⟩:=h.lst_inv;⟨a,xs,e,hide_le.seq h1,h2⟩
def Den.up {d:D}{v:V}(h:Den K (hide os H) d v):Den K H d v:=h.mono hide_le _ _
def Dens.up {ds:List D}{vs:List V}(h:Dens K (hide os H) ds vs):Dens K H ds vs:=h.mono hide_le _ _
end
def Own (K:PySem.W.Frag)(B H:Hp)(a:Addr):D->Prop
 | .lst ds=>∃xs,H a=some (.lst xs)/\Dens K B ds xs
 | .dic t ks vs=>∃xs,DcAt H a t ks xs/\Dens K B vs xs
 | _=>False
def Own.mono {os:List Addr}{a:Addr}{d:D}(g:Same H H')(h:Own K (hide os H) H a d):Own K (hide os H') H' a d:=by
 cases d with
 | lst ds=>obtain⟨xs,h1,h2⟩:=h;exact⟨xs,g _ _ h1,h2.mono g.hd _ _⟩
 | dic t ks vs=>obtain⟨xs,h1,h2⟩:=h;exact⟨xs,h1.mono g,h2.mono g.hd _ _⟩
 | _=>exact h
structure Sl (X:Cx)(os:List Addr)(H:Hp)(δ:Ev)(σ:L2.St):Prop where
 n:σ.length=X.N.length
 len:X.N.length<=δ.length
 pl:∀(i:Nat) (d:D),i<X.N.length->δ[i]? = some (some d)->∃v,σ[i]? = some (some v)/\Den X.K (hide os H) d v
 ow:∀(i:Nat) (d:D),i<X.N.length->δ[i]? = some none->δ[X.N.length+i]? = some (some d)->∃a,σ[i]? = some (some (.ref a))/\a∈os/\(X.fn ""=true->X.H₀ a=none)/\Own X.K (hide os H) H a d
 inj:∀(i j:Nat) (d e:D) (a:Addr),i<X.N.length->j<X.N.length->δ[i]? = some none->δ[j]? = some none->δ[X.N.length+i]? = some (some d)->δ[X.N.length+j]? = some (some e)->σ[i]? = some (some (.ref a))->σ[j]? = some (some (.ref a))->i=j
 live:Live os H
 keep:Same X.H₀ H
section
variable {os:List Addr}{X:Cx}
def Sl.mono {δ:Ev}{σ:L2.St}(e:Same H H')(h:Sl X os H δ σ):Sl X os H' δ σ :=
 ⟨h.n,h.len,fun i d l q=>let ⟨v,a,b⟩:=h.pl i d l q;⟨v,a,b.mono e.hd _ _⟩,fun i d l q1 q2=>let ⟨a,e1,e2,e4,e3⟩:=h.ow i d l q1 q2;⟨a,e1,e2,e4,e3.mono e⟩,h.inj,h.live.mono e,h.keep.trans e⟩
def Sl.set {δ:Ev}{σ:L2.St}{d:D}{v:V}(i:Nat)(hi:i<X.N.length)(h:Sl X os H δ σ)(r:Den X.K (hide os H) d v):Sl X os H (δ.set i (some d)) (σ.set i (some v)):=by
 have hid:i<δ.length:=Nat.lt_of_lt_of_le hi h.len;have ne:∀j,(δ.set i (some d))[j]? = some none->i≠j:=fun j q z=>by
  subst z;rw[List.getElem?_set_self hid] at q;cases q
 refine⟨by simpa using h.n,by simpa using h.len,fun j d' l q=>?_,fun j d' l q1 q2=>?_,fun j k d1 d2 a l1 l2 q1 q2 q3 q4 q5 q6=>?_,h.live,h.keep⟩
 ·by_cases hj:i=j
  ·subst hj;rw[List.getElem?_set_self hid] at q;cases q;exact⟨v,by rw[List.getElem?_set_self (by rw[h.n];exact hi)],r⟩
  ·rw[List.getElem?_set_ne hj] at q ⊢;exact h.pl j d' l q
 ·have hj:=ne j q1;rw[List.getElem?_set_ne hj] at q1 ⊢;rw[List.getElem?_set_ne (by omega)] at q2;exact h.ow j d' l q1 q2
 ·have hj:=ne j q1;have hk:=ne k q2;rw[List.getElem?_set_ne hj] at q1 q5;rw[List.getElem?_set_ne hk] at q2 q6;rw[List.getElem?_set_ne (by omega)] at q3;rw[List.getElem?_set_ne (by omega)] at q4;exact h.inj j k d1 d2 a l1 l2 q1 q2 q3 q4 q5 q6
end
end
def Fin (K:PySem.W.Frag)(os:List Addr)(H:Hp)(d:D)(Q:VK):Prop:=∀v H',Same H H'->Den K (hide os H') d v->Q v H'
def Fin.mono {K:PySem.W.Frag}{os:List Addr}{H H':Hp}{d:D}{Q:VK}(e:Same H H')(h:Fin K os H d Q):Fin K os H' d Q:=fun v H2 g r=>h v H2 (e.trans g) r
def DE (X:Cx)(e:Expr)(m:ME):Prop:=∃t:TE,PE X e t/\∀os σ H δ d Q,Sl X os H δ σ->m δ=some d->Fin X.K os H d Q->t σ H Q
def DF (X:Cx)(e:Expr)(m:ME):Prop:=∃t:TE,PE X e t/\∀os σ H δ d Q,Sl X os H δ σ->m δ=some d->(∀p H',Same H H'->H p=none->Own X.K (hide (p::os) H') H' p d->Q (.ref p) H')->t σ H Q
def vU {os:List Addr}{H:Hp}{p:Addr}(h:H p=none)(o:HO):Same (hide os H) (hide (p::os) (bm H p o)):=fun b u e=>by
 have hb:b∉os:=fun z=>by rw[aX z] at e;cases e
 rw[ao hb] at e;have hp:b≠p:=aC e h;rw[ao (by simp[hb,hp]),ay hp];exact e
def zS {os:List Addr}{H:Hp}{p:Addr}:Same (hide (p::os) H) (hide os H):=fun b u e=>by
 have hb:b∉p::os:=fun z=>by rw[aX z] at e;cases e
 rw[ao hb] at e;rw[ao (fun z=>hb (List.mem_cons_of_mem _ z))];exact e
def Own.den {K:PySem.W.Frag}{os:List Addr}{H:Hp}{p:Addr}{ds:List D}(hp:p∉os)(h:Own K (hide (p::os) H) H p (.lst ds)):Den K (hide os H) (.lst ds) (.ref p):=by
 obtain⟨xs,h1,h2⟩:=h;exact .lst (.of ((ao hp).trans h1)) (h2.mono zS _ _)
def A8 (m:ME):Prop:=∀δ d,m δ=some d->∃ds,d=.lst ds
def DF.de {X:Cx}{e:Expr}{m:ME}(h:DF X e m)(hm:A8 m):DE X e m:=by
 obtain⟨t,p,q⟩:=h;refine⟨t,p,fun os σ H δ d Q s m k=>?_⟩;obtain⟨ds,rfl⟩:=hm _ _ m;exact q os σ H δ _ Q s m fun a H' g ha o=>k _ H' g (o.den (s.live.ne ha))
def zK (m:MA):A8 (cw m):=fun δ d h=>by
 obtain⟨xs,_,h⟩:=Option.bind_eq_some_iff.mp h;cases h;exact⟨xs,rfl⟩
def n4 (B:Ev->Ev)(i:MI)(g:MG)(c:MT)(e:ME):A8 (ib B i g c e):=fun δ d h=>by
 obtain⟨xs,_,h⟩:=Option.bind_eq_some_iff.mp h;split at h
 ·obtain⟨ys,_,h⟩:=Option.bind_eq_some_iff.mp h;cases h;exact⟨ys,rfl⟩
 ·cases h
def DT (X:Cx)(e:Expr)(m:MT):Prop:=∃t:TT,PT X e t/\∀os σ H δ b Q,Sl X os H δ σ->m δ=some b->(∀H',Same H H'->Q b H')->t σ H Q
def DW (X:Cx)(e:Expr)(m:MT):Prop:=∃t:TT,PW X e t/\∀os σ H δ b Q,Sl X os H δ σ->m δ=some b->(∀H',Same H H'->Q b H')->t σ H Q
def DA (X:Cx)(es:List Expr)(m:MA):Prop:=(∀δ ds,m δ=some ds->ds.length=es.length)/\∃t:TA,PA X es t/\∀os σ H δ ds Q,Sl X os H δ σ->m δ=some ds->(∀vs H',Same H H'->Dens X.K (hide os H') ds vs->Q vs H')->t σ H Q
def DW.dt {X:Cx}{e:Expr}{m:MT}(h:DW X e m):DT X e m:=let ⟨t,p,q⟩:=h;⟨t,p.pt,q⟩
section
variable {X:Cx}{a b c e:Expr}{es:List Expr}{ma mb mc me:ME}{pos p:Pos}
def kc {i n:Nat}(h:Nat.blt i n=true):i<n:=Nat.le_of_ble_eq_true h
def EE (i:Nat)(h:PE X e (cn i))(hi:Nat.blt i X.N.length=true:=by rfl):DE X e (ab i):=by
 refine⟨_,h,fun os σ H δ d Q s m k=>?_⟩;obtain⟨v,e1,r⟩:=s.pl i d (kc hi) (im m);exact⟨v,e1,k v H (Same.refl _) r⟩
def Cw {d:D}{v:V}(h:PE X e (L2.tC v))(r:∀H,Den X.K H d v):DE X e (eC d):=by
 refine⟨_,h,fun os σ H δ d' Q s m k=>?_⟩;cases m;exact k v H (Same.refl _) (r _)
def am {i:Int}{j:Nat}:DE X (.Constant (.int i) j pos) (eC (.int i)):=Cw gR fun _=>.int i
def oB {i:Bool}{j:Nat}:DE X (.Constant (.bool i) j pos) (eC (.bl i)):=Cw FF fun _=>.bl i
def EG {j:Nat}:DE X (.Constant .none j pos) (eC .non):=Cw DV fun _=>.non
def cI {x:Str}{i:Int}{t:Tok}(hg:Gl X x)(hm:X.mg x=some (.int i t))(hd:(x==("__debug__":Str))=false:=by decide):DE X (.Name x pos) (eC (.int i)) :=
 Cw (vQ (v:=.int i) hg hm ⟨t,rfl⟩ hd) fun _=>.int i
def af {α β:Type}{o:Option α}{f:α->Option β}{r:β}(h:o.bind f=some r):∃x,o=some x/\f x=some r:=by
 cases o with
 | none=>cases h
 | some x=>exact⟨x,rfl,h⟩
def tw (X:Cx)(f:Value->Value->Sem Value)(g:D->D->Option D):Prop :=
 ∃r:R2,OpR X f r/\∀os H,Live os H->∀dx dy d x y Q,Den X.K (hide os H) dx x->Den X.K (hide os H) dy y->g dx dy=some d->Fin X.K os H d Q->r x y H Q
def He (X:Cx)(f:Value->Sem Value)(g:D->Option D):Prop :=
 ∃r,Gn X f r/\∀os H,Live os H->∀dx d x Q,Den X.K (hide os H) dx x->g dx=some d->Fin X.K os H d Q->r x H Q
def Hj (X:Cx)(g:D->D->Option D):Prop :=
 ∃r:R2,IxR X r/\∀os H,Live os H->∀dx dy d x y Q,Den X.K (hide os H) dx x->Den X.K (hide os H) dy y->g dx dy=some d->Fin X.K os H d Q->r x y H Q
def jV (X:Cx)(f:Value)(g:MF):Prop :=
 ∃r,dr X f r/\∀os H,Live os H->∀ds d vs Q,Dens X.K (hide os H) ds vs->g ds=some d->Fin X.K os H d Q->r vs H Q
def two {g:D->D->Option D}{ta tb:TE}{r:R2}
 (qa:∀os σ H δ d Q,Sl X os H δ σ->ma δ=some d->Fin X.K os H d Q->ta σ H Q) (qb:∀os σ H δ d Q,Sl X os H δ σ->mb δ=some d->Fin X.K os H d Q->tb σ H Q)
 (qr:∀os H,Live os H->∀dx dy d x y Q,Den X.K (hide os H) dx x->Den X.K (hide os H) dy y->g dx dy=some d->Fin X.K os H d Q->r x y H Q) :
 ∀os σ H δ d Q,Sl X os H δ σ->az g ma mb δ=some d->Fin X.K os H d Q->Bm r ta tb σ H Q:=by
 intro os σ H δ d Q s m k;obtain⟨dx,e1,m⟩:=af m;obtain⟨dy,e2,m⟩:=af m;refine qa os σ H δ dx _ s e1 fun x H1 g1 r1=>?_;refine qb os σ H1 δ dy _ (s.mono g1) e2 fun y H2 g2 r2=>?_;exact qr os H2 (s.live.mono (g1.trans g2)) dx dy d x y Q (r1.mono (g2).hd _ _) r2 m (k.mono (g1.trans g2))
def aG {op:Operator}{g:D->D->Option D}(ho:tw X (binaryOp op) g)(ha:DE X a ma)(hb:DE X b mb):DE X (.BinOp a op b pos) (az g ma mb):=by
 obtain⟨r,hr,qr⟩:=ho;obtain⟨ta,pa,qa⟩:=ha;obtain⟨tb,pb,qb⟩:=hb;exact⟨_,zu hr pa pb,two qa qb qr⟩
def qp {op:CmpOp}{g:D->D->Option D}(ho:tw X (compareOp op) g)(ha:DE X a ma)(hb:DE X b mb)(hm:behindInMarks op b=false):DE X (.Compare a [op] [b] pos) (az g ma mb):=by
 obtain⟨r,hr,qr⟩:=ho;obtain⟨ta,pa,qa⟩:=ha;obtain⟨tb,pb,qb⟩:=hb;exact⟨_,BM hr pa pb hm,two qa qb qr⟩
def bb {g:D->D->Option D}(ho:Hj X g)(ha:DE X a ma)(hb:DE X b mb)(hs:qK b):DE X (.Subscript a b pos) (az g ma mb):=by
 obtain⟨r,hr,qr⟩:=ho;obtain⟨ta,pa,qa⟩:=ha;obtain⟨tb,pb,qb⟩:=hb;exact⟨_,vP hr pa pb hs,two qa qb qr⟩
def F5 {op:UnaryOp}{g:D->Option D}(ho:He X (unaryOp op) g)(ha:DE X a ma):DE X (.UnaryOp op a pos) (kF g ma):=by
 obtain⟨r,hr,qr⟩:=ho;obtain⟨ta,pa,qa⟩:=ha;refine⟨_,CO hr pa,fun os σ H δ d Q s m k=>?_⟩;obtain⟨dx,e1,m⟩:=af m;exact qa os σ H δ dx _ s e1 fun x H1 g1 r1=>qr os H1 (s.live.mono g1) dx d x Q r1 m (k.mono g1)
def EF {op:BoolOp}(h:DE X a ma):DE X (.BoolOp op [a] pos) ma:=let ⟨t,p,q⟩:=h;⟨t,DU p,q⟩
def EJ {rest:List Expr}(ha:DE X a ma)(hb:DE X (.BoolOp .And (b::rest) pos) mb):DE X (.BoolOp .And (a::b::rest) pos) (Eu ma mb):=by
 obtain⟨ta,pa,qa⟩:=ha;obtain⟨tb,pb,qb⟩:=hb;refine⟨_,DY pa pb,fun os σ H δ d Q s m k=>?_⟩;obtain⟨dx,e1,m⟩:=af m;refine qa os σ H δ dx _ s e1 fun x H1 g1 r1=>?_;cases dx with
 | bl z =>
   refine⟨z,r1.bl_inv,?_⟩;cases z with
   | true=>exact xH (qb os σ H1 δ d Q (s.mono g1) m (k.mono g1))
   | false=>cases m;exact xI (k _ H1 g1 (.bl false))
 | _=>cases m
def yw {K:PySem.W.Frag}{os:List Addr}{H:Hp}{d:D}{x:V}{b:Bool}(r:Den K (hide os H) d x)(h:truth d=some b):EZ K x H b:=by
 cases d with
 | non=>rw[r.non_inv];cases h;exact rfl
 | bl z=>rw[r.bl_inv];cases h;exact rfl
 | int i=>rw[r.int_inv];cases h;exact rfl
 | str z=>cases h
 | dic t ks vs=>cases h
 | tup ds =>
   obtain⟨a,xs,rfl,h1,h2⟩:=r.tup_up;cases h;refine .inr (.inl ⟨xs,h1,?_⟩);have:=h2.length;cases ds <;> cases xs <;> simp_all
 | lst ds =>
   obtain⟨a,xs,rfl,h1,h2⟩:=r.lst_up;cases h;refine .inl ⟨xs,h1,?_⟩;have:=h2.length;cases ds <;> cases xs <;> simp_all
def p9 (ha:DE X a ma)(he:∀whole,isTrue a X.env whole=(do let v <-whole;standAt a.pos;holding [v] (truthy v)):=by intro _;rfl):DT X a (tV ma):=by
 obtain⟨ta,pa,qa⟩:=ha;refine⟨_,zc pa he,fun os σ H δ b Q s m k=>?_⟩;obtain⟨dx,e1,m⟩:=af m;exact qa os σ H δ dx _ s e1 fun x H1 g1 r1=>⟨b,yw r1 m,k H1 g1⟩
def dg {op:CmpOp}{g:D->D->Option D}(ho:tw X (compareOp op) g)(ha:DE X a ma)(hb:DE X b mb)(hm:behindInMarks op b=false)
 (hg:∀x y d,g x y=some d->∃k,d=.bl k):DT X (.Compare a [op] [b] pos) (tV (az g ma mb)):=by
 obtain⟨r,hr,qr⟩:=ho;obtain⟨ta,pa,qa⟩:=ha;obtain⟨tb,pb,qb⟩:=hb;refine⟨_,BD hr pa pb hm,fun os σ H δ z Q s m k=>?_⟩;obtain⟨d,m1,m2⟩:=af m;have hb':∃k,d=.bl k:=by
  obtain⟨x,_,m1⟩:=af m1;obtain⟨y,_,m1⟩:=af m1;exact hg x y d m1
 obtain⟨k',rfl⟩:=hb';cases m2;exact two qa qb qr os σ H δ _ _ s m1 fun v H1 g1 r1=>⟨z,r1.bl_inv,k H1 g1⟩
variable {na nb:MT}
def p8 (ha:DT X a na):DW X (.BoolOp .And [a] pos) na:=let ⟨t,p,q⟩:=ha;⟨t,BC p,q⟩
def uN (ha:DT X a na):DW X (.BoolOp .Or [a] pos) na:=let ⟨t,p,q⟩:=ha;⟨t,DC p,q⟩
def uO {rest:List Expr}(ha:DT X a na)(hb:DW X (.BoolOp .And (b::rest) pos) nb):DW X (.BoolOp .And (a::b::rest) pos) (lj na nb):=by
 obtain⟨ta,pa,qa⟩:=ha;obtain⟨tb,pb,qb⟩:=hb;refine⟨_,DD pa pb,fun os σ H δ z Q s m k=>?_⟩;obtain⟨x,e1,m⟩:=af m;refine qa os σ H δ x _ s e1 fun H1 g1=>?_;cases x with
 | true=>exact xH (qb os σ H1 δ z Q (s.mono g1) m fun H2 g2=>k H2 (g1.trans g2))
 | false=>cases m;exact xI (k H1 g1)
def Au {rest:List Expr}(ha:DT X a na)(hb:DW X (.BoolOp .Or (b::rest) pos) nb):DW X (.BoolOp .Or (a::b::rest) pos) (Bl na nb):=by
 obtain⟨ta,pa,qa⟩:=ha;obtain⟨tb,pb,qb⟩:=hb;refine⟨_,FD pa pb,fun os σ H δ z Q s m k=>?_⟩;obtain⟨x,e1,m⟩:=af m;refine qa os σ H δ x _ s e1 fun H1 g1=>?_;cases x with
 | false=>exact xI (qb os σ H1 δ z Q (s.mono g1) m fun H2 g2=>k H2 (g1.trans g2))
 | true=>cases m;exact xH (k H1 g1)
def Ey (ha:DT X a na):DT X (.UnaryOp .Not a pos) (yB na):=by
 obtain⟨ta,pa,qa⟩:=ha;refine⟨_,DH pa,fun os σ H δ z Q s m k=>?_⟩;obtain⟨x,e1,m⟩:=af m;cases m;exact qa os σ H δ x _ s e1 fun H1 g1=>k H1 g1
def aj:DA X [] ak:=⟨fun δ ds h=>by cases h;rfl,_,bF,fun os σ H δ ds Q s m k=>by cases m;exact k [] H (Same.refl _) .nil⟩
def ae {mr:MA}(ha:DE X e me)(hr:DA X es mr)(hs:starEach (e::es) X.env=(false,eval e X.env)::starEach es X.env:=by rfl):DA X (e::es) (ac me mr):=by
 obtain⟨ta,pa,qa⟩:=ha;obtain⟨hl,tr,pr,qr⟩:=hr;refine⟨fun δ ds h=>?_,_,aI pa pr hs,fun os σ H δ ds Q s m k=>?_⟩
 ·obtain⟨x,_,h⟩:=af h;obtain⟨xs,e2,h⟩:=af h;cases h;simp[hl δ xs e2]
 ·obtain⟨x,e1,m⟩:=af m;obtain⟨xs,e2,m⟩:=af m;cases m;refine qa os σ H δ x _ s e1 fun v H1 g1 r1=>?_;exact qr os σ H1 δ xs _ (s.mono g1) e2 fun vs H2 g2 r2=>k (v::vs) H2 (g1.trans g2) (.cons (r1.mono (g2).hd _ _) r2)
def ci {x1:Nat}{m:MA}(h:DA X es m)(hn:es.length<=sizeLine):DE X (.Tuple es x1 pos) (cG m):=by
 obtain⟨hl,t,p,q⟩:=h;refine⟨_,DR p,fun os σ H δ d Q s m k=>?_⟩;obtain⟨ds,e1,m⟩:=af m;cases m;refine q os σ H δ ds _ s e1 fun vs H1 g1 r1=>⟨by rw[<-r1.length,hl δ ds e1];exact hn,fun a ha=>?_⟩;exact k _ _ (g1.trans (aF ha (.tup vs))) (.newT (s.live.mono g1) ha r1)
def d8 {m:MA}(h:DA X es m)(hn:es.length<=sizeLine):DF X (.List es pos) (cw m):=by
 obtain⟨hl,t,p,q⟩:=h;refine⟨_,uk p,fun os σ H δ d Q s m k=>?_⟩;obtain⟨ds,e1,m⟩:=af m;cases m;refine q os σ H δ ds _ s e1 fun vs H1 g1 r1=>⟨by rw[<-r1.length,hl δ ds e1];exact hn,fun a ha=>?_⟩;exact k a _ (g1.trans (aF ha (.lst vs))) (g1.free ha) ⟨vs,aA,r1.mono (vU ha _) _ _⟩
def qm {m:MA}(h:DA X es m)(hn:es.length<=sizeLine):DE X (.List es pos) (cw m):=(d8 h hn).de (zK m)
def tD (K:PySem.W.Frag)(f:MF):Sp:=fun vs H Q _=>∃os ds r,Live os H/\Dens K (hide os H) ds vs/\f ds=some r/\Fin K os H r Q
def Cv {f:Addr}{fd:FuncData}{ps:List Str}{k:Nat}{x:Str}{fn:MF}{m:MA}(F:gC X.prog X.w X.K X.mg X.base lc k f fd ps (tD X.K fn))(hr:Room k X.A)(hg:Gl X x)(hm:X.mg x=some (.ref f))(hk:PySem.W.keepIn X.K (.ref f)=true)
 (hb:Binds X.K fd ps []) (ha:DA X (e::es) m) (hdb:(x==("__debug__":Str))=false:=by decide) (he:starEach (e::es) X.env=(false,eval e X.env)::starEach es X.env:=by rfl) (hpl:(backTo pos (starEach es X.env)).any (·.1)=false:=by rfl) :
 DE X (.Call (.Name x p) (e::es) [] pos) (ah fn m):=by
 obtain⟨hl,t,pt,q⟩:=ha;refine⟨_,ir F hr hg hm hk hb .nil nQ pt hdb he hpl,fun os σ H δ d Q s m k=>?_⟩;obtain⟨ds,e1,m⟩:=af m;refine q os σ H δ ds _ s e1 fun vs H1 g1 r1=>?_;rw[List.append_nil];exact⟨os,ds,d,s.live.mono g1,r1,m,k.mono g1⟩
def bh {id:String}{x:Str}{fn:MF}{m:MA}(hc:jV X (.builtin id) fn)(hg:Gl X x)(hm:X.mg x=none)(hv:bootBuiltins x=some (.builtin id))(ha:DA X (e::es) m)(hn:x≠"__name__":=by decide)(hdb:(x==("__debug__":Str))=false:=by decide)
 (he:starEach (e::es) X.env=(false,eval e X.env)::starEach es X.env:=by rfl) (hpl:(backTo pos (starEach es X.env)).any (·.1)=false:=by rfl) :
 DE X (.Call (.Name x p) (e::es) [] pos) (ah fn m):=by
 obtain⟨r,hr,qr⟩:=hc;obtain⟨hl,t,pt,q⟩:=ha;refine⟨_,gU hr hg hm hv pt hn hdb he hpl,fun os σ H δ d Q s m k=>?_⟩;obtain⟨ds,e1,m⟩:=af m;exact q os σ H δ ds _ s e1 fun vs H1 g1 r1=>qr os H1 (s.live.mono g1) ds d vs Q r1 m (k.mono g1)
def eW {T:String}{x:Str}{fn:MF}{m:MA}(hc:jV X (.type T) fn)(hg:Gl X x)(hm:X.mg x=none)(hv:bootBuiltins x=some (.type T))(ha:DA X (e::es) m)(hn:x≠"__name__":=by decide)(hdb:(x==("__debug__":Str))=false:=by decide)
 (he:starEach (e::es) X.env=(false,eval e X.env)::starEach es X.env:=by rfl) (hpl:(backTo pos (starEach es X.env)).any (·.1)=false:=by rfl) :
 DE X (.Call (.Name x p) (e::es) [] pos) (ah fn m):=by
 obtain⟨r,hr,qr⟩:=hc;obtain⟨hl,t,pt,q⟩:=ha;refine⟨_,j6 hr hg hm hv pt hn hdb he hpl,fun os σ H δ d Q s m k=>?_⟩;obtain⟨ds,e1,m⟩:=af m;exact q os σ H δ ds _ s e1 fun vs H1 g1 r1=>qr os H1 (s.live.mono g1) ds d vs Q r1 m (k.mono g1)
end
section
variable {X:Cx}
def Hr (K:PySem.W.Frag):R2:=fun x y H Q=>∃l b xs ys,x=.ref l/\y=.ref b/\SqL K H l xs/\SqL K H b ys/\xs.length+ys.length<=sizeLine/\∀p,H p=none->Q (.ref p) (bm H p (.lst (xs++ys)))
def op_catL:OpR X (binaryOp .Add) (Hr X.K):=by
 intro pins s σ H x y v u Q I rx ry h;obtain⟨l,b,xs,ys,rfl,rfl,hl,hb,hz,q⟩:=h;cases rx;cases ry;obtain⟨its,r1,⟨⟨c1,d1,dt1,sl1⟩,n1,e1,c1',d1',t1'⟩,_⟩:=I.list hl;obtain⟨its2,r2,⟨⟨c2,d2,dt2,sl2⟩,n2,e2,c2',d2',t2'⟩,_⟩:=I.list hb;simp only at c1' d1' t1' c2' d2' t2';subst c1' d1' t1' c2' d2' t2';have l1:=r1.length;have l2:=r2.length;refine concat_meets ⟨_,e1,rfl⟩ ⟨_,e2,rfl⟩ noFill_list_add seq_list_add F.slot_list_add F.entry_list_add (F.args_list_add_2 _ _)
  (list_addW l b its.toArray its2.toArray n1 n2 none none sl1 sl2 (by rw[List.size_toArray,List.size_toArray];omega)) ⟨e1,e2,?_⟩
 have ea:its.toArray++its2.toArray=(its++its2).toArray:=by simp
 rw[ea];exact⟨.ref _,_,I.lnew (t':=s.toks) (r1.append r2) (by rw[List.length_append];omega),rfl,q _ I.fresh⟩
def Hq (K:PySem.W.Frag):R2:=fun x y H Q=>∃a b xs ys,x=.ref a/\y=.ref b/\SqT K H a xs/\SqT K H b ys/\xs.length+ys.length<=sizeLine /\
 (xs=[]->Q (.ref b) H)/\(xs≠[]->ys=[]->Q (.ref a) H)/\(xs≠[]->ys≠[]->∀p,H p=none->Q (.ref p) (bm H p (.tup (xs++ys))))
def op_catTT:OpR X (binaryOp .Add) (Hq X.K):=by
 intro pins s σ H x y v u Q I rx ry h;obtain⟨a,b,xs,ys,rfl,rfl,ha,hb,hz,q0,q1,q2⟩:=h;by_cases hx:xs=[]
 ·cases rx;cases ry;subst hx;obtain⟨its,r1,⟨⟨c1,d1,dt1,sl1⟩,e1,c1',n1,t1'⟩,_⟩:=I.tuple ha;obtain⟨its2,r2,⟨⟨c2,d2,dt2,sl2⟩,e2,c2',n2,t2'⟩,_⟩:=I.tuple hb;simp only at c1' t1' c2' t2';subst c1' t1' c2' t2';have hi:its=[]:=r1.nil_iff.mpr rfl;exact concat_meets ⟨_,e1,rfl⟩ ⟨_,e2,rfl⟩ noFill_tuple_add seq_tuple_add PySem.F.slot_tuple_add PySem.F.entry_tuple_add (PySem.F.args_tuple_add_2 _ _)
   (tuple_addW0 a b its.toArray its2.toArray n1 n2 d1 d2 sl1 sl2 (by simp[hi])) ⟨e1,e2,⟨.ref b,H,I,rfl,q0 rfl⟩⟩
 ·exact BR pins s σ H _ _ v u Q I rx ry ⟨a,b,xs,ys,rfl,rfl,ha,hb,hx,hz,q1 hx,q2 hx⟩
def bH:sizeLine=16777216:=sizeLine_eq
def bB:tw X (binaryOp .Add) bG:=by
 refine⟨_,op_add.or (op_catL.or (op_catTT.or ur)),fun os H L dx dy d x y Q rx ry m k=>?_⟩;cases dx with
 | int i =>
   cases dy with
   | int j =>
     cases m;exact .inl ⟨i,j,rx.int_inv,ry.int_inv,k _ H (Same.refl _) (.int _)⟩
   | _=>cases m
 | lst xs =>
   cases dy with
   | lst ys =>
     have m':(if xs.length+ys.length<=16777216 then some (D.lst (xs++ys)) else none)=some d:=m;split at m'
     ·rename_i hz;cases m';obtain⟨a,vs,rfl,h1,h2⟩:=rx.lst_up;obtain⟨b,ws,rfl,h3,h4⟩:=ry.lst_up;refine .inr (.inl ⟨a,b,vs,ws,rfl,rfl,h1,h3,by rw[<-h2.length,<-h4.length,bH];exact hz,fun p hp=>?_⟩);exact k _ _ (aF hp (.lst (vs++ws))) (.newL L hp (h2.append h4))
     ·cases m'
   | _=>cases m
 | tup xs =>
   cases dy with
   | tup ys =>
     have m':(if xs.length+ys.length<=16777216 then some (D.tup (xs++ys)) else none)=some d:=m;split at m'
     ·rename_i hz;cases m';obtain⟨a,vs,rfl,h1,h2⟩:=rx.tup_up;obtain⟨b,ws,rfl,h3,h4⟩:=ry.tup_up;refine .inr (.inr (.inl ⟨a,b,vs,ws,rfl,rfl,h1,h3,by rw[<-h2.length,<-h4.length,bH];exact hz,fun e=>?_,fun _ e=>?_,fun _ _ p hp=>?_⟩))
      ·subst e;have:xs=[]:=by have:=h2.length;cases xs <;> simp_all
       subst this;exact k _ H (Same.refl _) ry
      ·subst e;have:ys=[]:=by have:=h4.length;cases ys <;> simp_all
       subst this;rw[List.append_nil] at k;exact k _ H (Same.refl _) rx
      ·exact k _ _ (aF hp (.tup (vs++ws))) (.newT L hp (h2.append h4))
     ·cases m'
   | _=>cases m
 | str x =>
   cases dy with
   | str y =>
     have m':(if x.length+y.length<=16777216 then some (D.str (x++y)) else none)=some d:=m;split at m'
     ·rename_i hz;cases m';exact .inr (.inr (.inr ⟨x,y,rx.str_inv,ry.str_inv,by rw[bH];exact hz,k _ H (Same.refl _) (.str _)⟩))
     ·cases m'
   | _=>cases m
 | _=>cases m
def gk {g:Int->Int->Option D}{dx dy d:D}(h:oI g dx dy=some d):∃i j,dx=.int i/\dy=.int j/\g i j=some d:=by
 cases dx with
 | int i =>
   cases dy with
   | int j=>exact⟨i,j,rfl,rfl,h⟩
   | _=>cases h
 | _=>cases h
def gZ:tw X (binaryOp .Sub) jw:=by
 refine⟨_,D0,fun os H L dx dy d x y Q rx ry m k=>?_⟩;obtain⟨i,j,rfl,rfl,m⟩:=gk m;cases m;exact⟨i,j,rx.int_inv,ry.int_inv,k _ H (Same.refl _) (.int _)⟩
def eY:tw X (binaryOp .Mod) oMod:=by
 refine⟨_,D1,fun os H L dx dy d x y Q rx ry m k=>?_⟩;obtain⟨i,j,rfl,rfl,m2⟩:=gk m;split at m2
 ·rename_i hj;cases m2;exact⟨i,j,rx.int_inv,ry.int_inv,hj,k _ H (Same.refl _) (.int _)⟩
 ·cases m2
def iu:tw X (binaryOp .FloorDiv) gF:=by
 refine⟨_,BQ,fun os H L dx dy d x y Q rx ry m k=>?_⟩;obtain⟨i,j,rfl,rfl,m2⟩:=gk m;split at m2
 ·rename_i hj;cases m2;exact⟨i,j,rx.int_inv,ry.int_inv,hj,k _ H (Same.refl _) (.int _)⟩
 ·cases m2
def j9:fillsNumberSlot (.type "tuple") "mul"=pure false :=
 PySem.fillsNumberSlot_seq (id:="tuple.__mul__") (r:=some (.builtin "tuple.__rmul__")) F.slot_tuple_mul.lookup (by decide +kernel) F.slot_tuple_rmul.lookup (by decide +kernel)
def o6:seqRepeat? (.type "tuple")=pure (some (.builtin "tuple.__mul__")):=by
 unfold seqRepeat?;rw[PySem.seqSlot_of (T:="tuple") (name:="__mul__") (id:="tuple.__mul__") F.slot_tuple_mul.lookup (by decide +kernel),PySem.seqSlot_of (T:="tuple") (name:="__rmul__") (id:="tuple.__rmul__") F.slot_tuple_rmul.lookup (by decide +kernel)];rfl
def mj (a:Int)(t:Tok)(l:Addr)(items:Array Value)(n:Nat)(dd:Option Addr)(sl:Array (Option Value)) :
 Meets (Builtin.«int.__rmul__» ⟨[.int a t,.ref l],[]⟩) (fun _ R s=>s.heap.get? l=some { cls:=.type "tuple",dict:=dd,data:=.seq items n,slots:=sl }/\R (.ok (.ret Value.notImplemented)) s) :=
 .of_wp fun prog w A R s h=>by obtain⟨hp,g,d,tk,os⟩:=s;obtain⟨hl,h⟩:=h;wp_walk;exact⟨_,rfl,h⟩
end
def Fr (X:Cx)(os:List Addr)(H:Hp)(os':List Addr)(H':Hp):Prop:=Same (hide os H) (hide os' H')/\∀b∈os,X.H₀ b≠none->b∈os'
def Fr.of {X:Cx}{os:List Addr}{H H':Hp}(g:Same H H'):Fr X os H os H':=⟨g.hd,fun _ h _=>h⟩
def Fr.trans {X:Cx}{os os1 os2:List Addr}{H H1 H2:Hp}(a:Fr X os H os1 H1)(b:Fr X os1 H1 os2 H2):Fr X os H os2 H2:=⟨a.1.trans b.1,fun c h n=>b.2 c (a.2 c h n) n⟩
def Ok (X:Cx)(PX:Prop)(D:Ends)(os:List Addr)(H:Hp):Rs->Prop
 | .nx δ=>∀σ H' os',Fr X os H os' H'->Sl X os' H' δ σ->D.nx σ H'
 | .bk δ=>∀σ H' os',Fr X os H os' H'->Sl X os' H' δ σ->D.bk σ H'
 | .ct δ=>∀σ H' os',Fr X os H os' H'->Sl X os' H' δ σ->D.ct σ H'
 | .rt d=>∀v H' os',Fr X os H os' H'->Same X.H₀ H'->Den X.K (hide os' H') d v->D.rt v H'
 | .ex=>PX
def Ok.mono {X:Cx}{PX:Prop}{D:Ends}{os os':List Addr}{H H':Hp}{r:Rs}(e:Fr X os H os' H')(h:Ok X PX D os H r):Ok X PX D os' H' r:=by
 cases r with
 | nx δ=>exact fun σ H2 os2 g s=>h σ H2 os2 (e.trans g) s
 | bk δ=>exact fun σ H2 os2 g s=>h σ H2 os2 (e.trans g) s
 | ct δ=>exact fun σ H2 os2 g s=>h σ H2 os2 (e.trans g) s
 | rt d=>exact fun v H2 os2 g=>h v H2 os2 (e.trans g)
 | ex=>exact h
def DS (X:Cx)(PX:Prop)(st:Stmt)(m:MS):Prop:=∃t:TS,PS X st t/\∀os σ H δ r D,Sl X os H δ σ->m δ=some r->Ok X PX D os H r->t D σ H
def tz (X:Cx)(PX:Prop)(st:List Stmt)(m:MS):Prop:=∃t:TS,PSs X st t/\∀os σ H δ r D,Sl X os H δ σ->m δ=some r->Ok X PX D os H r->t D σ H
def DG (X:Cx)(e:Expr)(g:MG):Prop:=∃t:TG,PG X e t/\∀os v σ H d δ δ' Q,Sl X os H δ σ->Den X.K (hide os H) d v->g d δ=some δ'->(∀σ' H',Same H H'->Sl X os H' δ' σ'->Q σ' H')->t v σ H Q
def Gu (X:Cx)(es:List Expr)(g:A7):Prop:=∃t:C8,Gd X es t/\∀os vs σ H ds δ δ' Q,Sl X os H δ σ->Dens X.K (hide os H) ds vs->g ds δ=some δ'->(∀σ' H',Same H H'->Sl X os H' δ' σ'->Q σ' H')->t vs σ H Q
section
variable {X:Cx}{PX:Prop}{st:Stmt}{rest sts sts':List Stmt}{m m':MS}{a b c e tg:Expr}{ma mb:ME}{mc:MT}{pos pos':Pos}
def eJ:tz X PX [] iF:=⟨_,BE,fun os σ H δ r D s m k=>by cases m;exact k σ H os (.of (Same.refl _)) s⟩
def aq (h:DS X PX st m):tz X PX [st] m:=let ⟨t,p,q⟩:=h;⟨t,fj p,q⟩
def al (h1:DS X PX st m)(h2:tz X PX rest m'):tz X PX (st::rest) (aJ m m'):=by
 obtain⟨t,p,q⟩:=h1;obtain⟨t',p',q'⟩:=h2;refine⟨_,dw p p',fun os σ H δ r D s m k=>?_⟩;obtain⟨r1,e1,m⟩:=af m;refine q os σ H δ r1 _ s e1 ?_;cases r1 with
 | nx δ'=>exact fun σ' H' os' g s'=>q' os' σ' H' δ' r D s' m (k.mono g)
 | bk δ'=>cases m;exact k
 | ct δ'=>cases m;exact k
 | rt d=>cases m;exact k
 | ex=>cases m;exact k
def aP (h:DE X e ma):DS X PX (.Return (some e) pos) (bM ma):=by
 obtain⟨t,p,q⟩:=h;refine⟨_,ug p,fun os σ H δ r D s m k=>?_⟩;obtain⟨d,e1,m⟩:=af m;cases m;exact q os σ H δ d _ s e1 fun v H' g r=>k v H' os (.of g) (s.keep.trans g) r
def jM (hc:DT X c mc)(ha:tz X PX sts m)(hb:tz X PX sts' m'):DS X PX (.If c sts sts' pos) (qP mc m m'):=by
 obtain⟨tc,pc,qc⟩:=hc;obtain⟨ta,pa,qa⟩:=ha;obtain⟨tb,pb,qb⟩:=hb;refine⟨_,FE pc pa pb,fun os σ H δ r D s m k=>?_⟩;obtain⟨x,e1,m⟩:=af m;refine qc os σ H δ x _ s e1 fun H1 g1=>?_;cases x with
 | true=>exact xH (qa os σ H1 δ r D (s.mono g1) m (k.mono (.of g1)))
 | false=>exact xI (qb os σ H1 δ r D (s.mono g1) m (k.mono (.of g1)))
def Cr {i:Nat}{x:Str}(h:PG X (.Name x pos) (dj i))(hi:Nat.blt i X.N.length=true:=by rfl):DG X (.Name x pos) (gN i):=by
 refine⟨_,h,fun os v σ H d δ δ' Q s r m k=>?_⟩;cases m;exact k _ H (Same.refl _) (s.set i (kc hi) r)
def gx:Gu X [] eg:=by
 refine⟨_,vN,fun os vs σ H ds δ δ' Q s r m k=>?_⟩;cases ds with
 | nil=>cases m;exact⟨r.unnil,k σ H (Same.refl _) s⟩
 | cons d ds=>cases m
def bw {es:List Expr}{g:MG}{gs:A7}(h1:DG X e g)(h2:Gu X es gs)
 (hs:(assignEach (e::es) X.env).map (·.2)=assign e X.env::(assignEach es X.env).map (·.2):=by rfl):Gu X (e::es) (be g gs):=by
 obtain⟨t,p,q⟩:=h1;obtain⟨t',p',q'⟩:=h2;refine⟨_,lG p p' hs,fun os vs σ H ds δ δ' Q s r m k=>?_⟩;cases ds with
 | nil=>cases m
 | cons d ds =>
   obtain⟨δ1,e1,m⟩:=af m;obtain⟨x,xs,rfl,h1,h2⟩:=r.uncons;refine⟨x,xs,rfl,q os x σ H d δ δ1 _ s h1 e1 fun σ1 H1 g1 s1=>?_⟩;exact q' os xs σ1 H1 ds δ1 δ' Q s1 (h2.mono g1.hd _ _) m fun σ2 H2 g2 s2=>k σ2 H2 (g1.trans g2) s2
def i9 {es:List Expr}{k:Nat}{gs:A7}(hc:X.calm=true)(h:Gu X es gs)(hl:∀ds δ δ',gs ds δ=some δ'->ds.length=es.length)
 (hn:(assignEach es X.env).length=es.length:=by rfl) (hst:(assignEach es X.env).findIdx? (·.1)=none:=by rfl):DG X (.Tuple es k pos) (gT gs):=by
 obtain⟨t,p,q⟩:=h;refine⟨_,zr hc p hn hst,fun os v σ H d δ δ' Q s r m kq=>?_⟩;cases d with
 | tup ds =>
   obtain⟨a,xs,rfl,h1,h2⟩:=r.tup_up;exact⟨a,xs,rfl,h1,by rw[<-h2.length];exact hl ds δ δ' m,q os xs σ H ds δ δ' Q s h2 m kq⟩
 | _=>cases m
def dL (ds:List D)(δ δ':Ev)(h:eg ds δ=some δ'):ds.length=0:=by
 cases ds with
 | nil=>rfl
 | cons _ _=>cases h
def aR {g:MG}{gs:A7}{n:Nat}(h:∀ds δ δ',gs ds δ=some δ'->ds.length=n)(ds:List D)(δ δ':Ev)(e:be g gs ds δ=some δ'):ds.length=n+1:=by
 cases ds with
 | nil=>cases e
 | cons d ds =>
   obtain⟨δ1,_,e⟩:=af e;simp[h ds δ1 δ' e]
def aM {g:MG}(he:DE X e ma)(hg:DG X tg g)(hs:swapsWithSole [tg] e pos.line X.env=pure false:=by rfl)(hw:swappedStores [tg] e X.env=pure none:=by rfl)
 (h1:(assignEach [tg] X.env).map (·.2)=[assign tg X.env]:=by rfl):DS X PX (.Assign [tg] e pos) (bp ma g):=by
 obtain⟨t,p,q⟩:=he;obtain⟨t',p',q'⟩:=hg;refine⟨_,zk p p' hs hw h1,fun os σ H δ r D s m k=>?_⟩;obtain⟨d,e1,m⟩:=af m;obtain⟨δ',e2,m⟩:=af m;cases m;refine q os σ H δ d _ s e1 fun v H1 g1 r1=>?_;exact q' os v σ H1 d δ δ' _ (s.mono g1) r1 e2 fun σ2 H2 g2 s2=>k σ2 H2 os (.of (g1.trans g2)) s2
def EB {i j:Nat}{x y:Str}{px py pt:Pos}{kt k2:Nat}{pt2:Pos}(hc:X.calm=true)(hN:X.N.Nodup)(hi:X.N[i]? = some x)(hj:X.N[j]? = some y)(hij:i≠j)
 (hx:X.env.scope.names.lookup x=some .local) (hy:X.env.scope.names.lookup y=some .local) (ha:DE X a ma) (hb:DE X b mb)
 (hw:swappedStores [.Tuple [.Name x px,.Name y py] kt pt] (.Tuple [a,b] k2 pt2) X.env=pure (some [x,y]))
 (hs:swapsWithSole [.Tuple [.Name x px,.Name y py] kt pt] (.Tuple [a,b] k2 pt2) pos.line X.env=pure false:=by rfl)
 (h1:starEach [a,b] X.env=(false,eval a X.env)::starEach [b] X.env:=by rfl) (h2:starEach [b] X.env=(false,eval b X.env)::starEach [] X.env:=by rfl) :
 DS X PX (.Assign [.Tuple [.Name x px,.Name y py] kt pt] (.Tuple [a,b] k2 pt2) pos) (Fv i j ma mb):=by
 obtain⟨ta,pa,qa⟩:=ha;obtain⟨tb,pb,qb⟩:=hb;refine⟨_,DM hc hN hi hj hij hx hy (aI pa (aI pb bF h2) h1) hw hs,fun os σ H δ r D s m k=>?_⟩;obtain⟨dx,e1,m⟩:=af m;obtain⟨dy,e2,m⟩:=af m;cases m;refine qa os σ H δ dx _ s e1 fun v H1 g1 r1=>?_;refine qb os σ H1 δ dy _ (s.mono g1) e2 fun w H2 g2 r2=>?_;exact⟨v,w,rfl,k _ H2 os (.of (g1.trans g2)) (((s.mono (g1.trans g2)).set i (List.getElem?_eq_some_iff.mp hi).1 (r1.mono g2.hd _ _)).set j (List.getElem?_eq_some_iff.mp hj).1 r2)⟩
def Walk (K:PySem.W.Frag)(J:It)(B:Hp)(xs:List D):Prop:=∀i os1 H1,Live os1 H1->Same B (hide os1 H1)->(∀d,xs[i]? = some d->J.go i H1/\∀x H2,J.yld i H1 x H2->Same H1 H2/\Den K (hide os1 H2) d x)/\(i=xs.length->J.stop i H1)
def DI (X:Cx)(tg e:Expr)(m:MI):Prop:=∃wi:TI,PI X tg e wi/\∀os σ H δ xs R,Sl X os H δ σ->m δ=some xs->(∀J H',Same H H'->Walk X.K J (hide os H') xs->R J H')->wi σ H R
def dC {iter:Expr}{body:List Stmt}{mi:MI}{g:MG}(hp:PassesOwn (model X.prog X.w) X.A X.env X.xe)(hc:X.calm=true)(hi:DI X tg iter mi)(hg:DG X tg g)(hb:tz X PX body m)
 (hs:∀x,foldedSetIterable iter X.env x=pure x:=by intro _;rfl):DS X PX (.For tg iter body [] pos) (gQ mi g m):=by
 obtain⟨wi,pi,qi⟩:=hi;obtain⟨t',p',q'⟩:=hg;obtain⟨tb,pb,qb⟩:=hb;refine⟨_,lF hp hc pi p' pb hs,fun os σ H δ r D s me k=>?_⟩;obtain⟨xs,e1,me⟩:=af me;refine qi os σ H δ xs _ s e1 fun J H1 g1 wk=>?_;refine⟨fun i n σ2 H2=>n=xs.length-i/\i<=xs.length/\∃os2 δ2,Fr X os H1 os2 H2/\Sl X os2 H2 δ2 σ2/\cF g m (xs.drop i) δ2=some r,⟨xs.length,by simp,Nat.zero_le _,os,δ,.of (Same.refl _),s.mono g1,by simpa using me⟩,?_⟩;rintro i n σ2 H2 ⟨rfl,hi,os2,δ2,g2,s2,m2⟩;obtain⟨w1,w2⟩:=wk i os2 H2 s2.live g2.1;by_cases hlt:i<xs.length
 ·have hx:xs[i]? = some xs[i]:=List.getElem?_eq_getElem hlt;obtain⟨go,yl⟩:=w1 _ hx;rw[List.drop_eq_getElem_cons hlt,cF] at m2;obtain⟨δ3,e3,m2⟩:=af m2;obtain⟨r3,e4,m2⟩:=af m2;refine .inr ⟨go,fun σ' H'=>∃m',m'<xs.length-i/\(m'=xs.length-(i+1)/\i+1<=xs.length/\∃os2 δ2,Fr X os H1 os2 H'/\Sl X os2 H' δ2 σ'/\cF g m (xs.drop (i+1)) δ2=some r),fun σ' H' h=>h,fun x H3 y=>?_⟩;obtain⟨g3,r1⟩:=yl x H3 y;refine q' os2 x σ2 H3 _ δ2 δ3 _ (s2.mono g3) r1 e3 fun σ4 H4 g4 s4=>?_;have g14:Fr X os H1 os2 H4:=g2.trans (.of (g3.trans g4));have again:∀δ5,cF g m (xs.drop (i+1)) δ5=some r->∀σ5 H5 os5,Fr X os2 H4 os5 H5->Sl X os5 H5 δ5 σ5->∃m',m'<xs.length-i/\(m'=xs.length-(i+1)/\i+1<=xs.length/\∃os2 δ2,Fr X os H1 os2 H5/\Sl X os2 H5 δ2 σ5/\cF g m (xs.drop (i+1)) δ2=some r) :=
   fun δ5 h5 σ5 H5 os5 g5 s5=>⟨xs.length-(i+1),by omega,rfl,hlt,os5,δ5,g14.trans g5,s5,h5⟩
  refine qb os2 σ4 H4 δ3 r3 _ s4 e4 ?_;have kk:Ok X PX D os2 H4 r->Ok X PX D os2 H4 r:=id;cases r3 with
  | nx δ5=>exact fun σ5 H5 os5 g5 s5=>again δ5 m2 σ5 H5 os5 g5 s5
  | ct δ5=>exact fun σ5 H5 os5 g5 s5=>again δ5 m2 σ5 H5 os5 g5 s5
  | bk δ5=>cases m2;exact fun σ5 H5 os5 g5 s5=>k σ5 H5 os5 ((Fr.of g1).trans (g14.trans g5)) s5
  | rt d=>cases m2;exact Ok.mono (r:=.rt d) ((Fr.of g1).trans g14) k
  | ex=>cases m2;exact k
 ·have e:i=xs.length:=by omega
  subst e;rw[List.drop_length] at m2;cases m2;exact .inl ⟨w2 rfl,k σ2 H2 os2 ((Fr.of g1).trans g2) s2⟩
def jL {body:List Stmt}(hp:PassesOwn (model X.prog X.w) X.A X.env X.xe)(hc:DT X c mc)(hb:tz X PX body m):DS X PX (.While c body [] pos) (fB mc m):=by
 obtain⟨tc,pc,qc⟩:=hc;obtain⟨tb,pb,qb⟩:=hb;refine⟨_,ze hp pc pb,fun os σ H δ r D s me k=>?_⟩;obtain⟨n0,h0⟩:=t5 me;refine⟨fun n σ2 H2=>∃os2 δ2,Fr X os H os2 H2/\Sl X os2 H2 δ2 σ2/\kM mc m n δ2=some r,⟨n0,os,δ,.of (Same.refl _),s,h0⟩,?_⟩;rintro n σ2 H2 ⟨os2,δ2,g2,s2,m2⟩;cases n with
 | zero=>cases m2
 | succ n =>
   rw[kM] at m2;obtain⟨b,e1,m2⟩:=af m2;refine qc os2 σ2 H2 δ2 b _ s2 e1 fun H3 g3=>?_;cases b with
   | false =>
     rw[if_neg Bool.false_ne_true] at m2;cases m2;exact xI (k σ2 H3 os2 (g2.trans (.of g3)) (s2.mono g3))
   | true =>
     rw[if_pos rfl] at m2;obtain⟨r3,e3,m2⟩:=af m2;refine xH ⟨fun σ' H'=>∃m',m'<n+1/\(∃os2 δ2,Fr X os H os2 H'/\Sl X os2 H' δ2 σ'/\kM mc m m' δ2=some r),fun σ' H' h=>h,?_⟩;refine qb os2 σ2 H3 δ2 r3 _ (s2.mono g3) e3 ?_;have g23:=g2.trans (Fr.of g3);cases r3 with
     | nx δ5=>exact fun σ5 H5 os5 g5 s5=>⟨n,Nat.lt_succ_self _,os5,δ5,g23.trans g5,s5,m2⟩
     | ct δ5=>exact fun σ5 H5 os5 g5 s5=>⟨n,Nat.lt_succ_self _,os5,δ5,g23.trans g5,s5,m2⟩
     | bk δ5=>cases m2;exact fun σ5 H5 os5 g5 s5=>k σ5 H5 os5 (g23.trans g5) s5
     | rt d=>cases m2;exact Ok.mono (r:=.rt d) g23 k
     | ex=>cases m2;exact k
def wQ {K:PySem.W.Frag}{B:Hp}{a:Addr}{ds:List D}{xs:List V}(h1:SqL K B a xs)(h2:Dens K B ds xs):Walk K (Be K a) B ds:=by
 intro i os1 H1 L g;have gu:=g.trans hide_le;refine⟨fun d hd=>?_,fun hl=>⟨xs,gu.seq h1,by rw[<-h2.length,hl];exact Nat.le_refl _⟩⟩;obtain⟨x,hx,r⟩:=h2.get hd;refine⟨⟨xs,x,gu.seq h1,hx⟩,fun y H2 z=>?_⟩;obtain⟨rfl,z⟩:=z;have:=z xs (gu.seq h1);rw[hx] at this;cases this;exact⟨Same.refl _,r.mono g _ _⟩
def qY {K:PySem.W.Frag}{B:Hp}{a:Addr}{ds:List D}{xs:List V}(h1:SqT K B a xs)(h2:Dens K B ds xs):Walk K (Gq K a) B ds:=by
 intro i os1 H1 L g;have gu:=g.trans hide_le;refine⟨fun d hd=>?_,fun hl=>⟨xs,Ds gu h1,by rw[<-h2.length,hl];exact Nat.le_refl _⟩⟩;obtain⟨x,hx,r⟩:=h2.get hd;refine⟨⟨xs,x,Ds gu h1,hx⟩,fun y H2 z=>?_⟩;obtain⟨rfl,z⟩:=z;have:=z xs (Ds gu h1);rw[hx] at this;cases this;exact⟨Same.refl _,r.mono g _ _⟩
def tI {K:PySem.W.Frag}{H:Hp}(n:Nat):Walk K (Ff 0 n) H (cf n):=by
 intro i os1 H1 L g;have hlen:(cf n).length=n:=by simp[cf]
 refine⟨fun d hd=>?_,fun hl=>by rw[hlen] at hl;exact Nat.le_of_eq hl.symm⟩;have hi:i<n:=by
  have:=(List.getElem?_eq_some_iff.mp hd).1;rw[hlen] at this;exact this
 refine⟨hi,fun y H2 z=>?_⟩;obtain⟨rfl,rfl⟩:=z;have e:d=.int (0+(i:Int)):=by
  unfold cf at hd;rw[List.getElem?_map,List.getElem?_range hi] at hd;cases hd;simp
 subst e;exact⟨Same.refl _,.int _⟩
def B9 (K:PySem.W.Frag)(tl:TE):TI:=fun σ H R=>tl σ H fun x H1=>∃a,x=.ref a/\(((∃xs,SqL K H1 a xs)/\R (Be K a) H1)\/((∃xs,SqT K H1 a xs)/\R (Gq K a) H1))
def xv {l:Expr}{tl:TE}(hl:PE X l tl):PI X tg l (B9 X.K tl):=by
 intro pins s σ H R I h;refine bC (hl pins s σ H _ I h) fun v s1 ⟨x,H1,I1,r1,q1⟩=>?_;obtain⟨a,e,q⟩:=q1;subst e;cases r1;have fp:∀b∈[s1.heap.objs.size],ik X pins H1 b:=fun b hb=>by
  have e:b=s1.heap.objs.size:=by simpa using hb
  subst e;exact I1.fpOk (Nat.le_refl _) (I1.hok.fresh (Nat.le_refl _))
 rcases q with ⟨⟨xs,hq⟩,q⟩ | ⟨⟨xs,hq⟩,q⟩
 ·obtain⟨its,rv,p,hz⟩:=I1.list hq;refine wpAny_pyIter_list p.isList ?_;exact⟨s1.heap.objs.size,[s1.heap.objs.size],_,_,H1,rfl,I1.kept (t':=s1.toks) fun b o e=>Heap.get?_push_of_some _ e,nz a _,⟨_,Heap.get?_push_size _ rfl,rfl,rfl⟩,fp,q⟩
 ·obtain⟨its,rv,p,hz⟩:=I1.tuple hq;refine wpAny_pyIter_tuple (show s1.heap.IsTuple a its.toArray from p) ?_;exact⟨s1.heap.objs.size,[s1.heap.objs.size],_,_,H1,rfl,I1.kept (t':=s1.toks) fun b o e=>Heap.get?_push_of_some _ e,lh a _,⟨_,Heap.get?_push_size _ rfl,rfl,rfl⟩,fp,q⟩
def bJ {l:Expr}(h:DE X l ma):DI X tg l (br ma):=by
 obtain⟨t,p,q⟩:=h;refine⟨_,xv p,fun os σ H δ xs R s m k=>?_⟩;obtain⟨d,e1,m⟩:=af m;refine q os σ H δ d _ s e1 fun v H1 g1 r1=>?_;cases d with
 | tup ds =>
   cases m;obtain⟨a,ys,rfl,h1,h2⟩:=r1.tup_inv;exact⟨a,rfl,.inr ⟨⟨ys,.of (hide_le _ _ h1)⟩,k _ H1 g1 (qY (.of h1) h2)⟩⟩
 | lst ds =>
   cases m;obtain⟨a,ys,rfl,h1,h2⟩:=r1.lst_inv;exact⟨a,rfl,.inl ⟨⟨ys,hide_le.seq h1⟩,k _ H1 g1 (wQ h1 h2)⟩⟩
 | _=>cases m
def fY {p:Pos}(hg:Gl X "range")(hm:X.mg "range"=none)(h:DE X a ma)(hs:starEach [a] X.env=(false,eval a X.env)::starEach [] X.env:=by rfl)(hs':starEach [a] X.env=[(false,eval a X.env)]:=by rfl) :
 DI X tg (.Call (.Name "range" p) [a] [] pos) (cv ma):=by
 obtain⟨t,pt,q⟩:=h;refine⟨_,xu hg hm (aI pt bF hs) hs',fun os σ H δ xs R s m k=>?_⟩;obtain⟨d,e1,m⟩:=af m;refine q os σ H δ d _ s e1 fun v H1 g1 r1=>?_;cases d with
 | int j =>
   have m':(if -1073741824<j/\j<1073741824 then some (cf j.toNat) else none)=some xs:=m;split at m'
   ·rename_i hj;cases m';rw[r1.int_inv];exact⟨j,rfl,by omega,by omega,k _ H1 g1 (tI _)⟩
   ·cases m'
 | _=>cases m
def rl {X:Cx}{os:List Addr}{H:Hp}{ds:List D}{vs:List V}{np kk:Nat}(L:Live os H)(hH:X.H₀=H)(d:Dens X.K (hide os H) ds vs)(hl:ds.length=np)(hp:np<=X.N.length)(hk:X.N.length<=kk) :
 Sl X os H (ds.map some++List.replicate (kk-np) none) (L2.start X.N vs):=by
 have hv:=d.length;have none_at:∀i z,ds.length<=i->(ds.map some++List.replicate (kk-np) none)[i]? = some (some z)->False:=fun i z hi hz=>by
  rw[List.getElem?_append_right (by simpa using hi),List.getElem?_replicate] at hz;split at hz <;> cases hz
 refine⟨by unfold L2.start;simp;omega,by simp;omega,fun i z hi hz=>?_,fun i z hi h1 h2=>(none_at _ z (by omega) h2).elim,fun i j z y a hi hj h1 h2 h3 h4=>(none_at _ z (by omega) h3).elim,L,hH ▸ Same.refl _⟩;by_cases hi':i<ds.length
 ·unfold L2.start;rw[List.getElem?_append_left (by simpa using hi'),List.getElem?_map] at hz;rw[List.getElem?_append_left (by rw[List.length_map,<-hv];exact hi'),List.getElem?_map];cases hq:ds[i]? with
  | none=>rw[hq] at hz;cases hz
  | some y =>
    rw[hq] at hz;cases hz;obtain⟨v,hv,rv⟩:=d.get hq;exact⟨v,by rw[hv];rfl,rv⟩
 ·exact(none_at i z (by omega) hz).elim
def F2 {P:Program}{w:World}{K:PySem.W.Frag}{mg:Str->Option Value}{base:Heap}{x qual:Str}{st:Stmt}{f:Addr}{fd:FuncData}{N ps:List Str}{k kk:Nat}(hkk:N.length<=kk)(F:Fun K x qual st f fd)(S:dG N ps (au st))
 (h:∀(cdv:Value) (A:Around) (outer:List Env) (s:Shared) (H:Hp) (E:XK),Room k (A.deeper (envOfC qual (au st) s.heap.objs.size f cdv)) ->
  tz (kf lc P w K mg base N qual (au st) f cdv A outer s H E).nox False (cW st) m) :
 gC P w K mg base lc (k+1) f fd ps (tD K (fJ ps.length kk m)):=by
 have hpl:ps.length<=N.length:=by have:=congrArg List.length S.pre;rw[List.length_take] at this;omega
 have inv:∀ds r,fJ ps.length kk m ds=some r->ds.length=ps.length/\((m (ds.map some++List.replicate (kk-ps.length) none)=some (.rt r))\/(∃δ,m (ds.map some++List.replicate (kk-ps.length) none)=some (.nx δ)/\r=.non)):=by
  intro ds r e;unfold fJ at e;split at e
  ·rename_i hl;obtain⟨q,e1,e⟩:=af e;refine⟨hl,?_⟩;cases q with
   | rt d=>cases e;exact .inl e1
   | nx δ=>cases e;exact .inr ⟨δ,e1,rfl⟩
   | bk δ=>cases e
   | ct δ=>cases e
   | ex=>cases e
  ·cases e
 refine F.ok S (fun vs H Q E hq=>?_) (fun cdv A outer s H vs Q E hr hq=>?_)
 ·obtain⟨os,ds,r,L,d,e,_⟩:=hq;rw[<-d.length];exact(inv ds r e).1
 ·obtain⟨os,ds,r,L,d,e,kq⟩:=hq;obtain⟨t,p,q⟩:=h cdv A outer s H E hr;obtain⟨hl,e2⟩:=inv ds r e;have s0:=rl (X:=(kf lc P w K mg base N qual (au st) f cdv A outer s H E).nox) (kk:=kk) L rfl d hl hpl hkk;refine⟨t,p,?_⟩;rcases e2 with e2 | ⟨δ,e2,e3⟩
  ·refine q os _ H _ (.rt r) _ s0 e2 fun v H' os' fr sm dn=>kq v H' sm (dn.mono (fun b o z=>?_) _ _);have hb:b∉os':=fun y=>by rw[aX y] at z;cases z
   rw[ao hb] at z;have hb2:b∉os:=fun y=>hb (fr.2 b y fun n=>by
    obtain⟨o',e',_⟩:=L b y;have n':H b=none:=n;rw[n'] at e';cases e')
   rw[ao hb2];exact z
  ·subst e3;exact q os _ H _ (.nx δ) _ s0 e2 fun σ H' os' fr sl=>kq .non H' sl.keep .non
end
def kg (cells:List (Str×Addr)):List (Str×NameKind)->List (Str×Addr)
 | []=>[]
 | (n,k)::r=>kg cells r++(if k==.free then (match cells.lookup n with | some c=>[(n,c)] | none=>[]) else [])
def jP {cells:List (Str×Addr)}{x:Str}{c:Addr}:∀{names:List (Str×NameKind)},(x,c)∈kg cells names->cells.lookup x=some c
 | [],h=>by cases h
 | (n,k)::r,h=>by
   unfold kg at h;rcases List.mem_append.mp h with h | h
   ·exact jP h
   ·split at h
    ·split at h
     ·rename_i c' e;have:=List.mem_singleton.mp h;cases this;exact e
     ·cases h
    ·cases h
def mL {cells:List (Str×Addr)}{x:Str}{c:Addr}(hc:cells.lookup x=some c):∀{names:List (Str×NameKind)},(x,NameKind.free)∈names->(x,c)∈kg cells names
 | [],h=>by cases h
 | (n,k)::r,h=>by
   unfold kg;rcases List.mem_cons.mp h with h | h
   ·cases h;refine List.mem_append_right _ ?_;rw[if_pos (by rfl),hc];exact List.mem_singleton.mpr rfl
   ·exact List.mem_append_left _ (mL hc h)
def fG {x:Str}{c:Addr}:∀{l:List (Str×Addr)},(x,c)∈l->∃c',l.lookup x=some c'
 | [],h=>by cases h
 | (n,d)::r,h=>by
   rw[List.lookup_cons];cases hx:x==n with
   | true=>exact⟨d,rfl⟩
   | false =>
     rcases List.mem_cons.mp h with h | h
     ·cases h;rw[beq_self_eq_true] at hx;cases hx
     ·exact fG h
def uY {sc:Scope}{env:Env}(h:∀y∈sc.names,y.2=.free->∃c,env.cells.lookup y.1=some c):closureFor sc env=pure (kg env.cells sc.names):=by
 have go:∀(names:List (Str×NameKind)),(∀y∈names,y.2=.free->∃c,env.cells.lookup y.1=some c)->∀(acc:List (Str×Addr)),
  (forIn names acc fun (x:Str×NameKind) (r:List (Str×Addr))=>(if (x.2==NameKind.free)=true then do let c <-cellOf env x.1;pure (ForInStep.yield ((x.1,c)::r)) else pure (ForInStep.yield r):Sem (ForInStep (List (Str×Addr)))))=pure (kg env.cells names++acc):=by
  intro names;induction names with
  | nil=>intro _ acc;rfl
  | cons y r ih =>
    intro h acc;obtain⟨n,k⟩:=y;rw[List.forIn_cons];unfold kg;by_cases hk:k=.free
    ·subst hk;obtain⟨c,hc⟩:=h (n,.free) List.mem_cons_self rfl;have e1:cellOf env n=pure c:=by unfold cellOf;rw[hc]
     simp only[beq_self_eq_true,if_true,e1,pure_bind,hc];rw[ih (fun y hy=>h y (List.mem_cons_of_mem _ hy))];rw[List.append_assoc];rfl
    ·have hk':(k==NameKind.free)=false:=by simpa using hk
     simp only[hk',Bool.false_eq_true,if_false,pure_bind,List.append_nil];exact ih (fun y hy=>h y (List.mem_cons_of_mem _ hy)) acc
 have:=go sc.names h [];rw[List.append_nil] at this;unfold closureFor;first
  | (rw[show (pure (kg env.cells sc.names):Sem _)=(pure (kg env.cells sc.names) >>= fun cs=>pure cs) from rfl,<-this];rfl)
  | (simp only[this,pure_bind];done)
  | (refine Eq.trans ?_ this;simp)
abbrev fN (X:Cx)(sc:Scope)(N:List Str)(C:Addr)(s:Shared)(H:Hp)(fp:List Addr):Cx where
 prog:=X.prog
 w:=X.w
 K:=X.K
 mg:=X.mg
 base:=X.base
 A:=X.A
 N:=N
 s₀:=s
 H₀:=H
 env:=compEnvC sc (kg X.env.cells sc.names) C X.env
 outer:=X.stack
 stack:=X.stack
 ex:=fp
 fn:=fun _=>false
 calm:=X.calm
 pn:=[]
 xe:=fun _ _=>False
structure bv (scX sc:Scope)(NX N:List Str)(k:Nat)(fv:List Nat):Prop where
 kind:sc.kind=.function
 nocell:∀y∈sc.names,y.2≠.cell
 names:∀y∈sc.names,y.2=.local->sc.names.lookup y.1=some .local
 freeX:∀y∈sc.names,y.2=.free->scX.names.lookup y.1=some .cell
 len:N.length=k+fv.length
 nd:N.Nodup
 fvs:∀t,t<fv.length->NX[fv.getD t 0]? = N[k+t]?/\(N[k+t]?.bind fun x=>sc.names.lookup x)=some .free
def qL (Y:Cx):List Expr->MT->Prop
 | [],m=>m=tT
 | [c],m=>DT Y c m
 | _,_=>False
def Below (k:Nat)(g:MG):Prop:=∀d δ δ',g d δ=some δ'->δ'.length=δ.length/\∀i,k<=i->δ'[i]? = δ[i]?
def aH {k i:Nat}(h:i<k):Below k (gN i):=by
 intro d δ δ' e;cases e;exact⟨by simp,fun j hj=>by rw[List.getElem?_set_ne (by omega)]⟩
def qM (k:Nat)(g:A7):Prop:=∀ds δ δ',g ds δ=some δ'->δ'.length=δ.length/\∀i,k<=i->δ'[i]? = δ[i]?
def ja {k:Nat}:qM k eg:=by
 intro ds δ δ' e;cases ds with
 | nil=>cases e;exact⟨rfl,fun _ _=>rfl⟩
 | cons _ _=>cases e
def dk {k:Nat}{g:MG}{gs:A7}(h:Below k g)(hs:qM k gs):qM k (be g gs):=by
 intro ds δ δ' e;cases ds with
 | nil=>cases e
 | cons d ds =>
   obtain⟨δ1,e1,e⟩:=af e;obtain⟨a1,a2⟩:=h d δ δ1 e1;obtain⟨b1,b2⟩:=hs ds δ1 δ' e;exact⟨b1.trans a1,fun i hi=>(b2 i hi).trans (a2 i hi)⟩
def kh {k:Nat}{gs:A7}(h:qM k gs):Below k (gT gs):=by
 intro d δ δ' e;cases d with
 | tup ds=>exact h ds δ δ' e
 | _=>cases e
section
variable {X:Cx}{scX sc:Scope}{NX N:List Str}{k:Nat}{fv:List Nat}
def fk {α:Type}(k:Nat)(fv:List Nat)(δ:List (Option α)):(pick k fv δ).length=k+fv.length:=by simp[pick]
def nO {α:Type}{k:Nat}{fv:List Nat}{δ:List (Option α)}{i:Nat}{d:α}(h:(pick k fv δ)[i]? = some (some d)):∃t j,i=k+t/\fv[t]? = some j/\δ[j]? = some (some d):=by
 unfold pick at h;by_cases hi:i<k
 ·rw[List.getElem?_append_left (by simpa using hi),List.getElem?_replicate] at h;split at h <;> cases h
 ·rw[List.getElem?_append_right (by simpa using hi),List.length_replicate,List.getElem?_map] at h;cases q:fv[i-k]? with
  | none=>rw[q] at h;cases h
  | some j =>
    rw[q] at h;refine⟨i-k,j,by omega,q,?_⟩;exact im (Option.some.inj h)
def kS {α:Type}{k:Nat}{fv:List Nat}{δ:List (Option α)}{t j:Nat}{d:α}(h:fv[t]? = some j)(hd:δ[j]? = some (some d)):(pick k fv δ)[k+t]? = some (some d):=by
 unfold pick;rw[List.getElem?_append_right (by simp),List.length_replicate,List.getElem?_map,show k+t-k=t by omega,h];simp[slot,hd]
def ut {α:Type}:∀{l:List α} {i j:Nat},l.Nodup->(hi:i<l.length)->(hj:j<l.length)->l[i]=l[j]->i=j
 | [],_,_,_,hi,_,_=>absurd hi (by simp)
 | a::l,0,0,_,_,_,_=>rfl
 | a::l,0,j+1,nd,_,hj,e=>by
   rw[List.nodup_cons] at nd;exact absurd (by rw[show a=l[j]'(by simpa using hj) from by simpa using e];exact List.getElem_mem _) nd.1
 | a::l,i+1,0,nd,hi,_,e=>by
   rw[List.nodup_cons] at nd;exact absurd (by rw[show a=l[i]'(by simpa using hi) from by simpa using e.symm];exact List.getElem_mem _) nd.1
 | a::l,i+1,j+1,nd,hi,hj,e=>by
   rw[List.nodup_cons] at nd;exact congrArg (·+1) (ut (l:=l) nd.2 (by simpa using hi) (by simpa using hj) (by simpa using e))
def we (S:bv scX sc NX N k fv){t j:Nat}(h:fv[t]? = some j):j<NX.length:=by
 have ht:t<fv.length:=(List.getElem?_eq_some_iff.mp h).1;obtain⟨q1,q2⟩:=S.fvs t ht;have hj:fv.getD t 0=j:=by rw[List.getD_eq_getElem?_getD,h];rfl
 rw[hj] at q1;cases e:N[k+t]? with
 | none=>rw[e] at q2;cases q2
 | some x=>rw[e] at q1;exact(List.getElem?_eq_some_iff.mp q1).1
structure Blk (X:Cx)(k:Nat)(fv:List Nat)(B:Ev->Ev):Prop where
 len:∀δ,k+fv.length<=(B δ).length
 pl:∀δ i d,i<k+fv.length->(B δ)[i]? = some (some d)->∃t j,i=k+t/\fv[t]? = some j/\δ[j]? = some (some d)
 own:∀δ i,i<k->(B δ)[i]? = some none
 ow:∀δ i d,X.N.length<=δ.length->i<k+fv.length->(B δ)[i]? = some none->(B δ)[k+fv.length+i]? = some (some d)->∃t j,i=k+t/\fv[t]? = some j/\(j<X.N.length->δ[j]? = some none)/\δ[X.N.length+j]? = some (some d)
def mO:Blk X k fv (pick k fv):=by
 refine⟨fun δ=>Nat.le_of_eq (fk k fv δ).symm,fun δ i d _ h=>nO h,fun δ i h=>?_,fun δ i d _ _ _ h=>?_⟩
 ·unfold pick;rw[List.getElem?_append_left (by simpa using h),List.getElem?_replicate,if_pos h]
 ·rw[List.getElem?_eq_none (by rw[fk];omega)] at h;cases h
def EV {B:Ev->Ev}(hB:Blk X k fv B)(S:bv scX sc NX N k fv)(hN:X.N=NX){os:List Addr}{H:Hp}{δ:Ev}{σ:L2.St}{C:Addr}{s:Shared}{fp:List Addr}(sl:Sl X os H δ σ):Sl (fN X sc N C s H fp) os H (B δ) (pick k fv σ):=by
 have hl:(fN X sc N C s H fp).N.length=k+fv.length:=S.len;refine⟨by rw[fk,hl],by rw[hl];exact hB.len δ,fun i d hi h=>?_,fun i d hi h1 h2=>?_,fun i i' d e a hi hi' h1 h1' h2 h2' h3 h3'=>?_,sl.live,Same.refl _⟩
 ·rw[hl] at hi;obtain⟨t,j,rfl,e1,e2⟩:=hB.pl δ i d hi h;obtain⟨v,e3,r⟩:=sl.pl j d (by rw[hN];exact we S e1) e2;exact⟨v,kS e1 e3,r⟩
 ·rw[hl] at hi h2;obtain⟨t,j,rfl,e1,e2,e3⟩:=hB.ow δ i d sl.len hi h1 h2;have hj:j<X.N.length:=by rw[hN];exact we S e1
  obtain⟨a,q1,q2,_,q3⟩:=sl.ow j d hj (e2 hj) e3;exact⟨a,kS e1 q1,q2,fun z=>absurd (show false=true from z) Bool.false_ne_true,q3⟩
 ·rw[hl] at hi hi' h2 h2';obtain⟨t,j,rfl,e1,e2,e3⟩:=hB.ow δ i d sl.len hi h1 h2;obtain⟨t',j',rfl,e1',e2',e3'⟩:=hB.ow δ i' e sl.len hi' h1' h2';have hj:j<X.N.length:=by rw[hN];exact we S e1
  have hj':j'<X.N.length:=by rw[hN];exact we S e1'
  obtain⟨a1,q1,_⟩:=sl.ow j d hj (e2 hj) e3;obtain⟨a2,q1',_⟩:=sl.ow j' e hj' (e2' hj') e3';have p1:=kS (k:=k) e1 q1;have p2:=kS (k:=k) e1' q1';rw[h3] at p1;rw[h3'] at p2;cases p1;cases p2;have ej:=sl.inj j j' d e a hj hj' (e2 hj) (e2' hj') e3 e3' q1 q1';subst ej;obtain⟨f1,_⟩:=S.fvs t (List.getElem?_eq_some_iff.mp e1).1;obtain⟨f2,_⟩:=S.fvs t' (List.getElem?_eq_some_iff.mp e1').1;have g1:fv.getD t 0=j:=by rw[List.getD_eq_getElem?_getD,e1];rfl
  have g2:fv.getD t' 0=j:=by rw[List.getD_eq_getElem?_getD,e1'];rfl
  rw[g1] at f1;rw[g2] at f2;have nd:=S.nd;have l1:k+t<N.length:=by rw[S.len];omega
  have l2:k+t'<N.length:=by rw[S.len];omega
  rw[f1,List.getElem?_eq_getElem l1,List.getElem?_eq_getElem l2] at f2;exact ut nd l1 l2 (Option.some.inj f2)
def Sl.back {B:Ev->Ev}{Y:Cx}(hB:Blk X k fv B)(hY:Y.N.length=k+fv.length){os:List Addr}{H:Hp}{δ δ1:Ev}{σ:L2.St}(s:Sl Y os H δ1 σ)(hx:X.N.length<=δ.length)(hl:δ1.length=(B δ).length)(hb:∀i,k<=i->δ1[i]? = (B δ)[i]?):Sl Y os H (B δ) σ:=by
 have go:∀i d,i<Y.N.length->(B δ)[i]? = some none->(B δ)[Y.N.length+i]? = some (some d)->δ1[i]? = some none/\δ1[Y.N.length+i]? = some (some d):=fun i d hi h1 h2=>by
  rw[hY] at hi;obtain⟨t,j,rfl,_⟩:=hB.ow δ i d hx hi h1 (by rw[<-hY];exact h2);exact⟨(hb _ (Nat.le_add_right _ _)).trans h1,(hb _ (by rw[hY];omega)).trans h2⟩
 refine⟨s.n,by rw[hY];exact hB.len δ,fun i d hi h=>?_,fun i d hi h1 h2=>?_,fun i j d e a hi hj h1 h2 h3 h4 h5 h6=>?_,s.live,s.keep⟩
 ·obtain⟨t,j,rfl,_,_⟩:=hB.pl δ i d (by rw[<-hY];exact hi) h;exact s.pl _ d hi ((hb _ (Nat.le_add_right _ _)).trans h)
 ·obtain⟨q1,q2⟩:=go i d hi h1 h2;exact s.ow i d hi q1 q2
 ·obtain⟨q1,q2⟩:=go i d hi h1 h3;obtain⟨q3,q4⟩:=go j e hj h2 h4;exact s.inj i j d e a hi hj q1 q3 q2 q4 h5 h6
def jq {env:Env}:∀{names:List (Str×NameKind)} {x:Str},(∀y∈names,y.2≠.cell) ->
 ((names.map fun (n,k)=>if (k==NameKind.free&&env.scope.kind==.function&&env.kindOf n==some .cell) then (n,NameKind.cell) else (n,k)).lookup x=some .cell \/
  (names.map fun (n,k)=>if (k==NameKind.free&&env.scope.kind==.function&&env.kindOf n==some .cell) then (n,NameKind.cell) else (n,k)).lookup x=some .free)->names.lookup x=some .free
 | [],_,_,h=>by rcases h with h | h <;> cases h
 | (n,k)::r,x,hc,h=>by
   have ih:=@jq env r x fun y hy=>hc y (List.mem_cons_of_mem _ hy);rw[List.map_cons] at h;have e1:∀q:Str×NameKind,q=(if (k==NameKind.free&&env.scope.kind==.function&&env.kindOf n==some .cell) then (n,NameKind.cell) else (n,k))->q.1=n:=fun q hq=>by rw[hq];split <;> rfl
   rw[List.lookup_cons];have hk:=hc (n,k) List.mem_cons_self;cases hx:x==n with
   | true =>
     by_cases hf:k=.free
     ·subst hf;rfl
     ·have Ca:(k==NameKind.free)=false:=by simpa using hf
      simp only[Ca,Bool.false_and,Bool.false_eq_true,if_false,List.lookup_cons,hx] at h;rcases h with h | h
      ·cases h;exact absurd rfl hk
      ·cases h;exact absurd rfl hf
   | false =>
     refine ih ?_;by_cases hq:(k==NameKind.free&&env.scope.kind==.function&&env.kindOf n==some .cell)=true
     ·simpa only[hq,if_true,List.lookup_cons,hx] using h
     ·simpa only[hq,Bool.false_eq_true,if_false,List.lookup_cons,hx] using h
def jI {x:Str}{k:NameKind}:∀{names:List (Str×NameKind)},names.lookup x=some k->(x,k)∈names
 | [],h=>by cases h
 | (n,j)::r,h=>by
   rw[List.lookup_cons] at h;cases hx:x==n with
   | true =>
     rw[hx] at h;cases h;have:=eq_of_beq hx;subst this;exact List.mem_cons_self
   | false =>
     rw[hx] at h;exact List.mem_cons_of_mem _ (jI h)
def xK {pins:List (Addr×Obj)}{σ:L2.St}{H:Hp}{s:Shared}{fp:List Addr}{h1:Heap}{tk:Nat}{m:Str->Option Value}{C:Addr}(I:Inv X pins σ H s)(S:bv scX sc NX N k fv)(hX:X.env.scope=scX)(hN:X.N=NX)
 (hf:∀b∈fp,ik X pins H b) (hfl:∀b∈fp,b<s.heap.objs.size) (hC:s.heap.objs.size<=C) (hns:h1.Ns C m) (kept:∀b o,s.heap.get? b=some o->h1.get? b=some o) :
 Inv (fN X sc N C s H fp) [] (pick k fv σ) H { s with heap:=h1,toks:=tk }:=by
 have hcl:∀x c,(kg X.env.cells sc.names).lookup x=some c->X.env.cells.lookup x=some c:=fun x c h=>jP (PySem.mem_of_lookup h);have hfree:∀x,sc.names.lookup x=some .free->X.env.kindOf x=some .cell:=fun x h=>by
  have:=S.freeX (x,.free) (jI h) rfl;show X.env.scope.names.lookup x=_;rw[hX];exact this
 have hkind:X.env.scope.kind=.function:=I.ok.kind;have hrel:∀x,sc.names.lookup x=some .free->(relabel sc X.env).names.lookup x=some .cell\/(relabel sc X.env).names.lookup x=some .free:=fun x h=>by
  have go:∀(names:List (Str×NameKind)),names.lookup x=some .free->(names.map fun (n,k)=>if (k==NameKind.free&&X.env.scope.kind==.function&&X.env.kindOf n==some .cell) then (n,NameKind.cell) else (n,k)).lookup x=some .cell \/
   (names.map fun (n,k)=>if (k==NameKind.free&&X.env.scope.kind==.function&&X.env.kindOf n==some .cell) then (n,NameKind.cell) else (n,k)).lookup x=some .free:=by
   intro names;induction names with
   | nil=>intro h;cases h
   | cons y r ih =>
     obtain⟨n,j⟩:=y;intro h;rw[List.lookup_cons] at h;rw[List.map_cons];by_cases hq:(j==NameKind.free&&X.env.scope.kind==.function&&X.env.kindOf n==some .cell)=true
     ·simp only[hq,if_true,List.lookup_cons];cases hx:x==n with
      | true=>exact .inl rfl
      | false=>rw[hx] at h;exact ih h
     ·simp only[hq,Bool.false_eq_true,if_false,List.lookup_cons];cases hx:x==n with
      | true=>rw[hx] at h;cases h;exact .inr rfl
      | false=>rw[hx] at h;exact ih h
  exact go sc.names h
 have stk:∀b∈nj X.stack,b∈X.env.locals::X.fs:=I.stkSub;have neC:∀b,b<s.heap.objs.size->b≠C:=fun b hb=>Nat.ne_of_lt (Nat.lt_of_lt_of_le hb hC);have hall:∀x,(X.env.kindOf x=some .cell\/X.env.kindOf x=some .free)->∃c,X.env.cells.lookup x=some c:=I.ok.has;have okY:(fN X sc N C s H fp).Ok:=by
  refine⟨I.ok.mod,S.kind,I.ok.glob,I.ok.blt,hC,fun x y c h1 h2=>I.ok.inj x y c (hcl x c h1) (hcl y c h2),fun x hx=>?_,fun x c h _=>?_,I.ok.hd,I.ok.frames,.inl rfl,fun b hb=>?_,I.bs,Nat.le_trans I.ok.bsz I.sz,fun b o e hb=>?_,fun b hb hb'=>?_,I.stack,I.stkFree⟩
  ·have hx':sc.names.lookup x=some .free:=jq (env:=X.env) S.nocell hx;obtain⟨c,hc⟩:=hall x (.inl (hfree x hx'));exact fG (mL hc (jI hx'))
  ·exact absurd (show false=true from h) Bool.false_ne_true
  ·exact⟨neC b (hfl b hb),fun x c e=>(hf b hb).2.2.2.2.1 x c (hcl x c e)⟩
  ·have Ca:=(hf b hb).2.2.2.1;rcases Ca with z | z
   ·exact I.ok.noex b o e z
   ·exact absurd (Nat.lt_of_lt_of_le (Heap.lt_size e) (Nat.le_trans I.ok.bsz z)) (Nat.lt_irrefl _)
  ·rcases List.mem_cons.mp (stk b hb') with z | z
   ·exact(hf b hb).2.1 z
   ·exact(hf b hb).2.2.1 z
 refine⟨okY,rfl,I.bare,Un.kept kept,⟨m,hns,fun i x v e1 e2 e3=>?_⟩,fun x c e=>?_,I.hok.fresh hC,fun x c e=>I.freeC x c (hcl x c e),fun p hp=>absurd (show p∈([]:List (Addr×Obj)) from hp) (by simp),I.hok.kept kept,?_⟩
 ·obtain⟨t,j,rfl,f1,f2⟩:=nO e2;have ht:t<fv.length:=(List.getElem?_eq_some_iff.mp f1).1;obtain⟨q1,q2⟩:=S.fvs t ht;have hj:fv.getD t 0=j:=by rw[List.getD_eq_getElem?_getD,f1];rfl
  rw[hj] at q1;have e1':N[k+t]? = some x:=e1;rw[e1'] at q1 q2;have q2':sc.names.lookup x=some .free:=q2;obtain⟨m0,_,hl⟩:=I.loc;obtain⟨u,r,l⟩:=hl j x v (by rw[hN];exact q1) f2 (.inr (.inl (hfree x q2')));refine⟨u,r,.inr ⟨hrel x q2',?_⟩⟩;rcases l with ⟨kx,_⟩ | ⟨_,c,ec,ic⟩
  ·rw[hfree x q2'] at kx;cases kx
  ·obtain⟨c',ni⟩:=fG (mL ec (jI q2'));have:c'=c:=by
    have:=hcl x c' ni;rw[ec] at this;exact(Option.some.inj this).symm
   subst this;obtain⟨o,ho,hd⟩:=ic;exact⟨c',ni,o,kept _ _ ho,hd⟩
 ·obtain⟨v,o,ho,hd⟩:=I.cell x c (hcl x c e);exact⟨v,o,kept _ _ ho,hd⟩
 ·rw[fk];exact S.len.symm
end
section
variable {X:Cx}{scX sc:Scope}{NX N:List Str}{k:Nat}{fv:List Nat}
noncomputable def vb (M:Model)(A:Around)(env:Env)(Er:Value->Shared->Prop)(k:Bool->Shared->Prop):List Expr->Shared->Prop
 | [],s=>k true s
 | [c],s=>wpAny M A (isTrue c env (eval c env)) k Er s
 | _,_=>False
def wV {Y:Cx}{os:List Addr}{pins:List (Addr×Obj)}{σ:L2.St}{H:Hp}{s:Shared}{δ:Ev}{b:Bool}{mc:MT}{Er:Value->Shared->Prop}{k:Bool->Shared->Prop}{ifs:List Expr}(h:qL Y ifs mc)(I:Inv Y pins σ H s)(sl:Sl Y os H δ σ)(e:mc δ=some b)
 (hk:∀s' H',Inv Y pins σ H' s'->Same H H'->k b s') (hx:∀v s',Y.xe v s'->Er v s'):vb (model Y.prog Y.w) Y.A Y.env Er k ifs s:=by
 match ifs,h with
 | [],h =>
   have h':mc=tT:=h;subst h';cases e;exact hk s H I (Same.refl _)
 | [c],h =>
   obtain⟨t,p,q⟩:=(show DT Y c mc from h);refine wpAny_mono (p pins s σ H (fun z H'=>z=b/\Same H H') I (q os σ H δ b _ sl e fun H' g=>⟨rfl,g⟩)) (fun z s' r=>?_) hx;obtain⟨H',I',rfl,g'⟩:=r;exact hk s' H' I' g'
def B1 {prog:Program}{w:World}{A:Around}{R:Result->Shared->Prop}{s:Shared}{elt target iter:Expr}{ifs:List Expr}{scope:Scope}{pos:Pos}{it acc:Value}{env:Env}(hi:ifs.length<=1)(J:Nat->Shared->Prop)
 (round:∀n s,J n s->wpAny (model prog w) A (pyNext it) (fun r s1=>r.elim (R (.ok .next) s1) fun v =>
  wpAny (model prog w) A (letOwnedTupleGo target it v) (fun _ s2=>wpAny (model prog w) A (assign target env v) (fun _ s3 =>
   vb (model prog w) A env (notedBy (model prog w) A env fun x z=>R (.error x) z) (fun ok s4=>if ok=true then
    wpAny (model prog w) A (eval elt env) (fun x s5=>wpAny (model prog w) A (call (.builtin "list.append") [acc,x]) (fun _ s6=>∃m,m<n/\J m s6) (notedBy (model prog w) A env fun x z=>R (.error x) z) s5) (notedBy (model prog w) A env fun x z=>R (.error x) z) s4
    else ∃m,m<n/\J m s4) ifs s3)
   (notedBy (model prog w) A env fun x z=>R (.error x) z) s2) (notedBy (model prog w) A env fun x z=>R (.error x) z) s1) (notedBy (model prog w) A env fun x z=>R (.error x) z) s)
 (n:Nat) (h:J n s):codeAny (model prog w) A (.compLoop (.ListComp elt [⟨target,iter,ifs,0⟩] scope pos) 0 it acc env) R s:=by
 match ifs,hi,round with
 | [],_,round =>
   refine PySem.W.kcp_loop J (fun n s hJ=>wpAny_mono (round n s hJ) (fun r s1 q=>?_) fun _ _ q=>q) n h;cases r with
   | none=>exact q
   | some v=>exact wpAny_mono q (fun _ s2 q=>wpAny_mono q (fun _ s3 q=>by simpa only[vb,if_true] using q) fun _ _ q=>q) fun _ _ q=>q
 | [c],_,round =>
   refine PySem.W.kct_loop J (fun n s hJ=>wpAny_mono (round n s hJ) (fun r s1 q=>?_) fun _ _ q=>q) n h;cases r with
   | none=>exact q
   | some v=>exact q
 | _::_::_,hi,_=>exact absurd hi (by simp)
def yd {pins:List (Addr×Obj)}{σ σ':L2.St}{H H':Hp}{s s':Shared}{fp:List Addr}{C D:Addr}{its:List Value}{cnt:Nat}{vs:List V}{h':Heap}(I:Inv X pins σ H s)(hf:∀b∈fp,ik X pins H b)(hD:s.heap.objs.size<=D)(hDC:D≠C)(hC:s.heap.objs.size<=C)
 (J:Inv (fN X sc N C s H fp) [(D,{ cls:=.type "list",data:=.seq its.toArray cnt })] σ' H' s') (rv:Vals vs its) (hz:vs.length<=sizeLine) (sb:Heap.SameBut C s'.heap h') :
 Inv X pins σ (bm H' D (.lst vs)) { s' with heap:=h' }:=by
 obtain⟨eD,nD,_,_,_⟩:=J.pin (D,{ cls:=.type "list",data:=.seq its.toArray cnt }) (by simp);have nC:H' C=none:=J.free;have kp:∀b o,b≠C->s'.heap.get? b=some o->h'.get? b=some o:=fun b o hb e=>(sb.2 b hb).trans e;have ltC:∀b,b<s.heap.objs.size->b≠C:=fun b hb=>Nat.ne_of_lt (Nat.lt_of_lt_of_le hb hC);have ltD:∀b,b<s.heap.objs.size->b≠D:=fun b hb=>Nat.ne_of_lt (Nat.lt_of_lt_of_le hb hD);have un:=J.base;have u2:Un (nj X.stack) fp H (bm H' D (.lst vs)) s.heap h':=by
  refine⟨fun b o e n h1 h2=>kp b o (ltC b (Heap.lt_size e)) (un.keep b o e n h1 h2),fun b o e n h1 h2=>?_,fun b o e n h2=>?_,fun b o e h2=>?_,fun b xs e=>?_,fun b o u e=>?_,fun b ps e=>?_⟩
  ·obtain⟨sl,q⟩:=un.slot b o e n h1 h2;exact⟨sl,kp b _ (ltC b (Heap.lt_size e)) q⟩
  ·rw[ay (ltD b (Heap.lt_size e))];exact un.free b o e n h2
  ·obtain⟨o',q⟩:=un.there b o e h2;exact⟨o',kp b o' (ltC b (Heap.lt_size e)) q⟩
  ·have q:=un.tups b xs e;rw[ay (aC q nD)];exact q
  ·have q:=un.frzs b o u e;rw[ay (aC q nD)];exact q
  ·obtain⟨more,q⟩:=un.tbls b ps e;exact⟨more,by rw[ay (aC q nD)];exact q⟩
 have hok:HOk X.prog X.w (bm H' D (.lst vs)) h':=by
  intro b u e;by_cases hb:b=D
  ·subst hb;rw[aA] at e;cases e;exact⟨hz,its,cnt,rv,kp _ _ hDC eD⟩
  ·rw[ay hb] at e;refine(J.hok b u e).stay (fun c v hc q=>kp c v ?_ q) (fun c q=>by rw[ay (aC q nD)];exact q) fun c xs q=>by rw[ay (aC q nD)];exact q
   rcases hc with z | z
   ·rw[z];exact aC e nC
   ·exact aC z nC
 exact I.call' (s':={ s' with heap:=h' }) (ch:=fp) J.os u2 hok J.bare fun b hb=>⟨(hf b hb).2.2.2.1,(hf b hb).2.1,(hf b hb).2.2.2.2.1,(hf b hb).2.2.2.2.2⟩
def mK {use:Option (Value->Sem Unit)}{QQ:Value->Shared->Prop}{elt tg iter:Expr}{ifs:List Expr}{pos:Pos}{mi:MI}{g:MG}{mc:MT}{me:ME}{B:Ev->Ev}(hB:Blk X k fv B)(hc:X.calm=true)(S:bv scX sc NX N k fv)(hX:X.env.scope=scX)(hN:X.N=NX)(hi:DI X tg iter mi)(hbl:Below k g)(hil:ifs.length<=1)
 {os:List Addr} {H0:Hp} (J:Hp->List D->List V->Prop) (J0:∀H,J H [] []) (Jm:∀{H H' ys vs},Same H H'->J H ys vs->J H' ys vs) (Jl:∀{H ys vs},J H ys vs->ys.length=vs.length)
 (hb:∀C s H fp,DG (fN X sc N C s H fp) tg g/\qL (fN X sc N C s H fp) ifs mc/\∃tE:TE,PE (fN X sc N C s H fp) elt tE/\∀σ' H7 δ1 dd,Sl (fN X sc N C s H fp) os H7 δ1 σ'->Same H0 H7->me δ1=some dd->tE σ' H7 fun v H8=>Same H7 H8/\∀ys vs,J H7 ys vs->J H8 (ys++[dd]) (vs++[v]))
 (hs:∀x,foldedSetIterable iter X.env x=pure x:=by intro _;rfl)
 {pins:List (Addr×Obj)} {s:Shared} {σ:L2.St} {δ:Ev} {d:D} (I:Inv X pins σ H0 s) (sl:Sl X os H0 δ σ) (m:ib B mi g mc me δ=some d)
 (fin:∀(Cc Dd:Addr) (s4:Shared) (Hd:Hp),(∀h',Heap.SameBut Cc s4.heap h'->Inv X pins σ Hd { s4 with heap:=h' })->(∃m,s4.heap.Ns Cc m)->ik X pins Hd Cc->Same H0 Hd->H0 Dd=none->(∃H3 ys vs,d=.lst ys/\J H3 ys vs/\H3 Dd=none/\Hd=bm H3 Dd (.lst vs)) ->
  compPost (model X.prog X.w) X.A X.xe use QQ (.ref Dd) Cc (.ok .next) s4) :
 wpAny (model X.prog X.w) X.A (comprehension (.ListComp elt [⟨tg,iter,ifs,0⟩] sc pos) sc X.env (firstIterPos [⟨tg,iter,ifs,0⟩] pos) (newList []) (firstAsync [⟨tg,iter,ifs,0⟩]) (firstIter [⟨tg,iter,ifs,0⟩] X.env) use) QQ X.xe s:=by
 obtain⟨wi,pi,qi⟩:=hi;obtain⟨xs,e1,m⟩:=af m;have m':(if xs.length<=16777216 then (kL (fun x=>(g x (B δ)).bind fun δ1=>(mc δ1).bind fun b=>if b=true then (me δ1).bind fun d=>some (some d) else some none) xs).bind fun r=>some (D.lst r) else none)=some d:=m;split at m'
 case isFalse=>cases m'
 rename_i hlen;obtain⟨r,e2,m'⟩:=af m';cases m';have hsl:sizeLine=16777216:=sizeLine_eq;have hcells:∀y∈sc.names,y.2=.free->∃c,X.env.cells.lookup y.1=some c:=fun y hy hf=>I.ok.has y.1 (.inl (by show X.env.scope.names.lookup y.1=_;rw[hX];exact S.freeX y hy hf));refine wpAny_comprehension_free (use:=use) rfl hs (uY hcells) S.kind S.names (bC (pi pins s σ H0 (fun J H'=>Same H0 H'/\Walk X.K J (hide os H') xs) I (qi os σ H0 δ xs _ sl e1 fun J H' g w=>⟨g,w⟩)) fun v s1 h1=>bC h1 fun itv s2 h2=>?_);obtain⟨it,fp,tn,JJ,H2,rfl,I2,T,st2,f2,g2,wk⟩:=h2;have hfl:∀b∈fp,b<s2.heap.objs.size:=fun b hb=>let ⟨o,e,_⟩:=T.obj _ _ st2 b hb;Heap.lt_size e
 refine wpAny_newObj_type (wpAny_newFunctionEnv S.nocell (by intro y hy;simp at hy) (fun h₁ hns₁ hsb₁=>?_) S.kind);dsimp only at hns₁ hsb₁ ⊢;generalize hP2:s2.heap.push { cls:=.type "list",dict:=none,data:=.seq ([]:List Value).toArray }=P2 at hns₁ hsb₁ ⊢;generalize hDd:s2.heap.objs.size=Dd;generalize hCc:P2.objs.size=Cc at hns₁ hsb₁ ⊢;have hC1:Cc=Dd+1:=by rw[<-hCc,<-hP2,Heap.size_push,hDd]
 have hDC:Dd≠Cc:=fun e=>by rw[hC1] at e;exact absurd e (Nat.ne_of_lt (Nat.lt_succ_self _))
 have ltC:∀b:Addr,b<s2.heap.objs.size->b≠Cc:=fun b hb e=>by rw[e,hC1,<-hDd] at hb;exact absurd (Nat.lt_of_succ_lt hb) (Nat.lt_irrefl _)
 have ltD:∀b:Addr,b<s2.heap.objs.size->b≠Dd:=fun b hb e=>by rw[e,<-hDd] at hb;exact absurd hb (Nat.lt_irrefl _)
 have leC:s2.heap.objs.size<=Cc:=by rw[hC1,hDd];exact Nat.le_succ _
 have old:∀b o,s2.heap.get? b=some o->h₁.get? b=some o:=fun b o e =>
  hsb₁.extBut b o (ltC b (Heap.lt_size e)) (Heap.get?_push_of_some _ (hP2 ▸ Heap.get?_push_of_some _ e))
 have hacc:h₁.get? Dd=some { cls:=.type "list",data:=.seq ([]:List Value).toArray 0 } :=
  hsb₁.extBut _ _ hDC (Heap.get?_push_of_some _ (by rw[<-hP2,<-hDd];exact Heap.get?_push_size _ rfl))
 have fpD:∀b∈fp,b≠Dd:=fun b hb=>ltD b (hfl b hb);obtain⟨⟨tG,pG,qG⟩,hI,tE,pE,qE⟩:=hb Cc s2 H2 fp;have loop:∀s₃:Shared,s₃={ s2 with heap:=h₁,toks:=s2.toks+([]:List (Str×Value)).length } ->
  codeAny (model X.prog X.w) X.A (.compLoop (.ListComp elt [⟨tg,iter,ifs,0⟩] sc pos) 0 (.ref it) (.ref Dd) (compEnvC sc (kg X.env.cells sc.names) Cc X.env))
   (compPost (model X.prog X.w) X.A X.xe use QQ (.ref Dd) Cc) s₃:=by
  rintro s₃ rfl;have I0:Inv (fN X sc N Cc s2 H2 fp) [] (pick k fv σ) H2 { s2 with heap:=h₁,toks:=s2.toks+([]:List (Str×Value)).length } :=
   xK I2 S hX hN f2 hfl leC hns₁ old
  have nfs:Dd∉(fN X sc N Cc s2 H2 fp).fs:=fun z=>by
   rcases List.mem_cons.mp (I2.stkSub Dd z) with e | e
   ·exact ltD _ I2.lt e.symm
   ·exact I2.nofs (Nat.le_of_eq hDd) e
  have cne:∀x c,(fN X sc N Cc s2 H2 fp).env.cells.lookup x=some c->c≠Dd:=fun x c e z=>by
   obtain⟨v,o,ho,_⟩:=I2.cell x c (jP (PySem.mem_of_lookup e));exact ltD _ (Heap.lt_size ho) z
  have I0':Inv (fN X sc N Cc s2 H2 fp) [(Dd,{ cls:=.type "list",data:=.seq ([]:List Value).toArray 0 })] (pick k fv σ) H2 { s2 with heap:=h₁,toks:=s2.toks+([]:List (Str×Value)).length }:=by
   refine I0.pins_of fun p hp=>?_;have hp':p=(Dd,{ cls:=.type "list",data:=.seq ([]:List Value).toArray 0 }):=by simpa using hp
   subst hp';exact⟨hacc,I2.hok.fresh (Nat.le_of_eq hDd),hDC,nfs,fun v z=>nomatch z⟩
  have statF:∀{H':Hp} {o:Obj},(∀b∈fp,H' b=none)->∀b∈fp,ik (fN X sc N Cc s2 H2 fp) [(Dd,o)] H' b:=fun {H' o} hn b hb=>by
   refine⟨hn b hb,?_,?_,.inl hb,fun x c e=>(f2 b hb).2.2.2.2.1 x c (jP (PySem.mem_of_lookup e)),fun p hp=>?_⟩
   ·exact ltC b (hfl b hb)
   ·intro z;rcases List.mem_cons.mp (I2.stkSub b z) with e | e
    ·exact(f2 b hb).2.1 e
    ·exact(f2 b hb).2.2.1 e
   ·have hp':p=(Dd,o):=by simpa using hp
    subst hp';exact(fpD b hb).symm
  have st1:tn 0 h₁:=T.keep _ _ _ st2 fun b hb o e=>old b o e;refine B1 hil (fun n s'=>∃(i:Nat) (σ':L2.St) (H':Hp) (its:List Value) (cnt:Nat) (vs:List V) (ys rest:List D),
   Inv (fN X sc N Cc s2 H2 fp) [(Dd,{ cls:=.type "list",data:=.seq its.toArray cnt })] σ' H' s'/\Vals vs its/\tn i s'.heap/\(∀b∈fp,H' b=none)/\Same H2 H'/\Sl (fN X sc N Cc s2 H2 fp) os H' (B δ) σ'/\J H' ys vs /\
   kL (fun x=>(g x (B δ)).bind fun δ1=>(mc δ1).bind fun b=>if b=true then (me δ1).bind fun d=>some (some d) else some none) (xs.drop i)=some rest/\ys++rest=r/\i<=xs.length/\ys.length<=i/\n=xs.length-i) ?_ xs.length
   ⟨0,_,H2,[],0,[],[],r,I0',.nil,st1,fun b hb=>(f2 b hb).1,Same.refl _,EV hB S hN (sl.mono g2),J0 _,by simpa using e2,rfl,Nat.zero_le _,Nat.le_refl _,by simp⟩
  rintro n s3 ⟨i,σ3,H3,its,cnt,vs,ys,rest,I3,rv,st3,fr3,g3,sl3,dv,cm,hr,hi,hyl,rfl⟩;by_cases hlt:i<xs.length
  ·have hx:xs[i]? = some xs[i]:=List.getElem?_eq_getElem hlt;obtain⟨go,yl⟩:=(wk i os H3 sl3.live g3.hd).1 _ hx;rw[List.drop_eq_getElem_cons hlt,kL] at cm;obtain⟨o,e3,cm⟩:=af cm;obtain⟨rest',e4,cm⟩:=af cm;obtain⟨δ1,e5,e3⟩:=af e3;obtain⟨b,e6,e3⟩:=af e3;refine bC (T.item (fN X sc N Cc s2 H2 fp) rfl rfl rfl hc i _ s3 σ3 H3 _ I3 (statF fr3) st3 go) fun rr s4 ⟨u,hrr,h4⟩=>?_;subst hrr;refine bC h4 fun _ s5 ⟨x,H5,I5,r5,y5,st5,fr5⟩=>?_;obtain⟨g5,dx⟩:=yl x H5 y5;have I5':=I5.pinned (statF fr5) (T.obj _ _ st5);refine wpAny_mono (pG _ s5 σ3 H5 x u (fun σ6 H6=>Same H5 H6/\Sl (fN X sc N Cc s2 H2 fp) os H6 δ1 σ6) I5' r5 (qG os x σ3 H5 _ (B δ) δ1 _ (sl3.mono g5) dx e5 fun σ6 H6 g6 s6=>⟨g6,s6⟩)) (fun _ s6 r6=>?_) fun _ _ z=>z.elim;obtain⟨σ6,H6,I6,g6,sl6⟩:=r6;refine wV hI I6 sl6 e6 (fun s7 H7 I7 g7=>?_) fun _ _ z=>z.elim;obtain⟨bl1,bl2⟩:=hbl _ _ _ e5;have g37:Same H3 H7:=g5.trans (g6.trans g7);have sl7:Sl (fN X sc N Cc s2 H2 fp) os H7 (B δ) σ6:=(sl6.mono g7).back hB S.len sl.len bl1 bl2;cases b with
   | false =>
     rw[if_neg Bool.false_ne_true] at e3;cases e3;cases cm;rw[if_neg Bool.false_ne_true];refine⟨xs.length-(i+1),by omega,i+1,σ6,H7,its,cnt,vs,ys,rest',?_,rv,?_,?_,g3.trans g37,sl7,Jm g37 dv,e4,hr,hlt,by omega,rfl⟩
     ·exact I7.unpinned
     ·exact T.keep _ _ _ st5 fun b hb o e=>(I7.pin (b,o) (List.mem_append_right _ (List.mem_append_right _ (cr hb e)))).1
     ·intro b hb;obtain⟨o,e,_⟩:=T.obj _ _ st5 b hb;exact(I7.pin (b,o) (List.mem_append_right _ (List.mem_append_right _ (cr hb e)))).2.1
   | true =>
     rw[if_pos rfl] at e3;obtain⟨dd,e7,e3⟩:=af e3;cases e3;cases cm;rw[if_pos rfl];refine wpAny_mono (pE _ s7 σ6 H7 _ I7 (qE σ6 H7 δ1 dd (sl6.mono g7) (g2.trans (g3.trans g37)) e7)) (fun u8 s8 r=>?_) fun _ _ z=>z.elim;obtain⟨v8,H8,I8,r8,g8,den8⟩:=r;obtain⟨eD,nD,neD,nfD,_⟩:=I8.pin (Dd,{ cls:=.type "list",data:=.seq its.toArray cnt }) (List.mem_append_right _ (List.mem_append_left _ (List.mem_singleton.mpr rfl)));have hlv:its.length=ys.length:=by rw[<-rv.length,<-Jl dv]
     refine call_meets F.slot_list_append ⟨_,eD,rfl⟩ F.entry_list_append (F.args_list_append_2 _ _) (PySem.list_append Dd its.toArray cnt u8 (by rw[List.size_toArray];omega)) ⟨eD,?_⟩;have hpush:its.toArray.push u8=(its++[u8]).toArray:=by simp
     obtain⟨cnt',q⟩:∃c,(s8.heap.update Dd (Obj.mapSeq (·.push u8))).get? Dd=some { cls:=.type "list",data:=.seq (its++[u8]).toArray c } :=
      ⟨_,by have q:=PySem.IsL.update eD (·.push u8);rw[hpush] at q;exact q⟩
     have I9:=(I8.pins_of (pins':=[]) fun p hp=>absurd hp (by simp)).turned (it:=Dd) (h':=s8.heap.update Dd (Obj.mapSeq (·.push u8))) (t':=s8.toks)
      (fun b o hb e=>(Heap.get?_update_other s8.heap _ (Ne.symm hb)).trans e) nD neD (.inr (Nat.le_of_eq hDd)) cne (fun p hp=>absurd hp (by simp))
     refine⟨xs.length-(i+1),by omega,i+1,σ6,H8,its++[u8],cnt',vs++[v8],ys++[dd],rest',I9.pins_of fun p hp=>?_,rv.append (.cons r8 .nil),?_,?_,g3.trans (g37.trans g8),sl7.mono g8,den8 _ _ (Jm g37 dv),e4,?_,hlt,?_,rfl⟩
     ·have hp':=List.mem_singleton.mp hp;subst hp';exact⟨q,nD,neD,nfD,fun v z=>nomatch z⟩
     ·refine T.keep _ _ _ st5 fun b hb o e=>?_;have:=(I8.pin (b,o) (List.mem_append_right _ (List.mem_append_right _ (cr hb e)))).1;exact(Heap.get?_update_other s8.heap _ (Ne.symm (fpD b hb))).trans this
     ·intro b hb;obtain⟨o,e,_⟩:=T.obj _ _ st5 b hb;exact(I8.pin (b,o) (List.mem_append_right _ (List.mem_append_right _ (cr hb e)))).2.1
     ·rw[List.append_assoc];exact hr
     ·rw[List.length_append,List.length_singleton];omega
  ·have e:i=xs.length:=by omega
   subst e;rw[List.drop_length] at cm;cases cm;rw[List.append_nil] at hr;subst hr;refine bC (T.done (fN X sc N Cc s2 H2 fp) rfl rfl rfl hc _ _ s3 σ3 H3 _ I3 (statF fr3) st3 ((wk _ os H3 sl3.live g3.hd).2 rfl)) fun rr s4 ⟨hrr,I4⟩=>?_;subst hrr;obtain⟨mm,hnn,_⟩:=I4.loc;have hlv:=Jl dv;have nD:H3 Dd=none:=(I4.pin (Dd,{ cls:=.type "list",data:=.seq its.toArray cnt }) (List.mem_append_right _ (List.mem_singleton.mpr rfl))).2.1;exact fin Cc Dd s4 _ (fun h' sb=>yd I2 f2 (Nat.le_of_eq hDd) hDC leC I4 rv (by omega) sb) ⟨mm,hnn⟩ (I2.fpOk leC ((ay hDC.symm).trans I4.free)) (g2.trans (g3.trans (aF nD _))) ((g2.trans g3).free nD) ⟨H3,_,vs,rfl,dv,nD,rfl⟩
 exact codeAny_compStart_list (loop _ rfl) (T.self X.A 0 _ _ _ (T.keep _ _ _ st2 fun b hb o e=>old b o e) (loop _ rfl))
def oF {use:Option (Value->Sem Unit)}{QQ:Value->Shared->Prop}{elt tg iter:Expr}{ifs:List Expr}{pos:Pos}{mi:MI}{g:MG}{mc:MT}{me:ME}{B:Ev->Ev}(hB:Blk X k fv B)(hc:X.calm=true)(S:bv scX sc NX N k fv)(hX:X.env.scope=scX)(hN:X.N=NX)(hi:DI X tg iter mi)(hbl:Below k g)(hil:ifs.length<=1)
 (hb:∀C s H fp,DG (fN X sc N C s H fp) tg g/\qL (fN X sc N C s H fp) ifs mc/\DE (fN X sc N C s H fp) elt me)
 (hs:∀x,foldedSetIterable iter X.env x=pure x:=by intro _;rfl)
 {pins:List (Addr×Obj)} {s:Shared} {σ:L2.St} {H:Hp} {os:List Addr} {δ:Ev} {d:D} (I:Inv X pins σ H s) (sl:Sl X os H δ σ) (m:ib B mi g mc me δ=some d)
 (fin:∀(Cc Dd:Addr) (s4:Shared) (Hd:Hp),(∀h',Heap.SameBut Cc s4.heap h'->Inv X pins σ Hd { s4 with heap:=h' })->(∃m,s4.heap.Ns Cc m)->ik X pins Hd Cc->Same H Hd->H Dd=none->Own X.K (hide (Dd::os) Hd) Hd Dd d ->
  compPost (model X.prog X.w) X.A X.xe use QQ (.ref Dd) Cc (.ok .next) s4) :
 wpAny (model X.prog X.w) X.A (comprehension (.ListComp elt [⟨tg,iter,ifs,0⟩] sc pos) sc X.env (firstIterPos [⟨tg,iter,ifs,0⟩] pos) (newList []) (firstAsync [⟨tg,iter,ifs,0⟩]) (firstIter [⟨tg,iter,ifs,0⟩] X.env) use) QQ X.xe s:=by
 refine mK (os:=os) (H0:=H) hB hc S hX hN hi hbl hil (fun H ys vs=>Dens X.K (hide os H) ys vs) (fun _=>.nil) (fun g h=>h.mono g.hd _ _) (fun h=>h.length) (fun C s' H' fp=>?_) hs I sl m fun Cc Dd s4 Hd a1 a2 a3 a4 a5 a6=>?_
 ·obtain⟨h1,h2,tE,pE,qE⟩:=hb C s' H' fp;exact⟨h1,h2,tE,pE,fun σ' H7 δ1 dd s1 _ e=>qE os σ' H7 δ1 dd _ s1 e fun v H8 g8 r8=>⟨g8,fun ys vs h=>(h.mono g8.hd _ _).append (.cons r8 .nil)⟩⟩
 ·obtain⟨H3,ys,vs,rfl,h1,h2,rfl⟩:=a6;exact fin Cc Dd s4 _ a1 a2 a3 a4 a5 ⟨vs,aA,h1.mono (vU h2 _) _ _⟩
def AC {elt tg iter:Expr}{ifs:List Expr}{pos:Pos}{mi:MI}{g:MG}{mc:MT}{me:ME}{B:Ev->Ev}(hB:Blk X k fv B)(hc:X.calm=true)(S:bv scX sc NX N k fv)(hX:X.env.scope=scX)(hN:X.N=NX)(hi:DI X tg iter mi)(hbl:Below k g)(hil:ifs.length<=1)
 (hb:∀C s H fp,DG (fN X sc N C s H fp) tg g/\qL (fN X sc N C s H fp) ifs mc/\DE (fN X sc N C s H fp) elt me)
 (hs:∀x,foldedSetIterable iter X.env x=pure x:=by intro _;rfl) :
 DF X (.ListComp elt [⟨tg,iter,ifs,0⟩] sc pos) (ib B mi g mc me):=by
 refine⟨fun σ H Q=>∃os δ d,Sl X os H δ σ/\ib B mi g mc me δ=some d/\(∀p H',Same H H'->H p=none->Own X.K (hide (p::os) H') H' p d->Q (.ref p) H'),?_,fun os σ H δ d Q s m k=>⟨os,δ,d,s,m,k⟩⟩;intro pins s σ H Q I h;obtain⟨os,δ,d,sl,m,kq⟩:=h;rw[eval_ListComp];refine oF (use:=none) hB hc S hX hN hi hbl hil hb hs I sl m fun Cc Dd s4 Hd hI hns _ g hn ow=>?_;obtain⟨mm,hnn⟩:=hns;exact⟨mm,hnn,fun h' sb=>⟨.ref Dd,Hd,hI h' sb,rfl,kq _ _ g hn ow⟩⟩
def Dn (X:Cx)(i:Nat)(m:ME):TS:=fun D σ H=>∃os δ d,Sl X os H δ σ/\m δ=some d/\∀p H',Same H H'->H p=none->Own X.K (hide (p::os) H') H' p d->D.nx (σ.set i (some (.ref p))) H'
def zi {x:Str}{p2 spos:Pos}{i:Nat}{elt tg iter:Expr}{ifs:List Expr}{pos:Pos}{mi:MI}{g:MG}{mc:MT}{me:ME}{B:Ev->Ev}(hB:Blk X k fv B)(hc:X.calm=true)(S:bv scX sc NX N k fv)(hX:X.env.scope=scX)(hN:X.N=NX)(hi:DI X tg iter mi)(hbl:Below k g)(hil:ifs.length<=1)
 (hb:∀C s H fp,DG (fN X sc N C s H fp) tg g/\qL (fN X sc N C s H fp) ifs mc/\DE (fN X sc N C s H fp) elt me) (hpg:PG X (.Name x p2) (dj i))
 (hsw:swapsWith (.ListComp elt [⟨tg,iter,ifs,0⟩] sc pos) (some (.Name x p2)) spos.line X.env=pure true) (hs:∀x,foldedSetIterable iter X.env x=pure x) :
 PS X (.Assign [.Name x p2] (.ListComp elt [⟨tg,iter,ifs,0⟩] sc pos) spos) (Dn X i (ib B mi g mc me)):=by
 intro pins s σ H D I h;obtain⟨os,δ,d,sl,m,kq⟩:=h;rw[exec_Assign_Name_used _ _ _ _ hsw];refine wpAny_bind (wpAny_standAt (wpAny_bind ?_));show wpAny _ _ (comprehension (.ListComp elt [⟨tg,iter,ifs,0⟩] sc pos) sc X.env (firstIterPos [⟨tg,iter,ifs,0⟩] pos) (newList []) (firstAsync [⟨tg,iter,ifs,0⟩]) (firstIter [⟨tg,iter,ifs,0⟩] X.env) (some (assign (.Name x p2) X.env)) >>= fun _=>pure ()) _ _ _;refine wpAny_bind (oF (use:=some (assign (.Name x p2) X.env)) hB hc S hX hN hi hbl hil hb hs I sl m fun Cc Dd s4 Hd hI hns hf gs hn ow=>?_);obtain⟨mm,o,es,ep,ho,hr⟩:=hns;have J:Inv X pins σ Hd s4:=hI s4.heap (Heap.SameBut.refl _ _);have hnc:∀v,o.data≠.cell v:=fun v z=>by
  rw[hr.1] at z;cases z
 have J':=J.pinned (fp:=[Cc]) (fun b hb=>by rw[List.mem_singleton.mp hb];exact hf) (fun b hb=>by rw[List.mem_singleton.mp hb];exact⟨o,ho,hnc⟩);refine wpAny_mono (hpg _ s4 σ Hd (.ref Dd) (.ref Dd) (fun σ' H'=>D.nx σ' H') J' rfl (kq Dd Hd gs hn ow)) (fun _ s5 q=>?_) fun _ _ z=>z;obtain⟨σ',H',J5,q5⟩:=q;have pin:=J5.pin (Cc,o) (List.mem_append_right _ (List.mem_append_right _ (cr (by simp) ho)));refine⟨mm,⟨o,es,ep,pin.1,hr⟩,fun h' sb=>wpAny_pure (wpAny_pure ?_)⟩;have J6:=J5.unpinned;exact⟨σ',H',J6.turned (it:=Cc) (h':=h') (t':=s5.toks) (fun b ob hb e=>(sb.2 b hb).trans e) pin.2.1 hf.2.1 hf.2.2.2.1 hf.2.2.2.2.1 hf.2.2.2.2.2,q5⟩
def Cs {elt tg iter:Expr}{ifs:List Expr}{pos:Pos}{mi:MI}{g:MG}{mc:MT}{me:ME}(hc:X.calm=true)(S:bv scX sc NX N k fv)(hX:X.env.scope=scX)(hN:X.N=NX)(hi:DI X tg iter mi)(hbl:Below k g)
 (hb:∀C s H fp,DG (fN X sc N C s H fp) tg g/\qL (fN X sc N C s H fp) ifs mc/\DE (fN X sc N C s H fp) elt me)
 (hs:∀x,foldedSetIterable iter X.env x=pure x:=by intro _;rfl) (hil:ifs.length<=1:=by decide) :
 DF X (.ListComp elt [⟨tg,iter,ifs,0⟩] sc pos) (bq k fv mi g mc me):=AC (B:=pick k fv) mO hc S hX hN hi hbl hil hb hs
def ck {elt tg iter:Expr}{ifs:List Expr}{pos:Pos}{mi:MI}{g:MG}{mc:MT}{me:ME}(hc:X.calm=true)(S:bv scX sc NX N k fv)(hX:X.env.scope=scX)(hN:X.N=NX)(hi:DI X tg iter mi)(hbl:Below k g)
 (hb:∀C s H fp,DG (fN X sc N C s H fp) tg g/\qL (fN X sc N C s H fp) ifs mc/\DE (fN X sc N C s H fp) elt me)
 (hs:∀x,foldedSetIterable iter X.env x=pure x:=by intro _;rfl) (hil:ifs.length<=1:=by decide) :
 DE X (.ListComp elt [⟨tg,iter,ifs,0⟩] sc pos) (bq k fv mi g mc me):=(Cs hc S hX hN hi hbl hb hs hil).de (n4 _ mi g mc me)
end
open AutoSeq1 (wpAny_loadPart')
section
variable {X:Cx}{a b c e:Expr}{es:List Expr}{ma mb mc me:ME}{pos p:Pos}
def tP (l:Addr)(items:Array Value)(n:Nat)(u:Tok)(dd:Option Addr)(sl:Array (Option Value)) :
 Meets (Builtin.«tuple.__mul__» ⟨[.ref l,.int 1 u],[]⟩) (fun _ R s=>s.heap.get? l=some { cls:=.type "tuple",dict:=dd,data:=.seq items n,slots:=sl }/\R (.ok (.ret (Value.ref l))) s) :=
 .of_wp fun prog w A R s h=>by
  obtain⟨hp,g,d,tk,os⟩:=s;obtain⟨hl,h⟩:=h;have f1:=AutoSeq1.idx_int;have f2:=AutoSeq1.sub_tuple_tuple;have hc1:(items.isEmpty||(1:Int)==1)=true:=by simp
  wp_walk using wpAny_loadPart' hl
  exact⟨_,rfl,h⟩
def tO (l:Addr)(items:Array Value)(n:Nat)(x:Int)(u:Tok)(dd:Option Addr)(sl:Array (Option Value))(hc0:¬(decide (x < -(2 ^ 63))||decide (x≥2 ^ 63))=true)(hc1:¬(items.isEmpty||x==1)=true)(hc2:¬(decide (x<=0)||items.isEmpty)=true)
 (hc3:¬(items.size:Int)*x>(2 ^ 63-1) / 8) (hc4:¬Builtin.Tuple.tupleTooMany ((items.size:Int)*x)=true) (hsz:sizeOk (.seq (List.foldl (fun x1 x2=>x1++x2) #[] (List.replicate x.toNat items)))) :
 Meets (Builtin.«tuple.__mul__» ⟨[.ref l,.int x u],[]⟩) (fun _ R s=>s.heap.get? l=some { cls:=.type "tuple",dict:=dd,data:=.seq items n,slots:=sl } /\
  R (.ok (.ret (Value.ref s.heap.objs.size))) { s with heap:=s.heap.push { cls:=Value.type "tuple",data:=Data.seq (List.foldl (fun x1 x2=>x1++x2) #[] (List.replicate x.toNat items)) } }) :=
 .of_wp fun prog w A R s h=>by
  obtain⟨hp,g,d,tk,os⟩:=s;obtain⟨hl,h⟩:=h;have f1:=AutoSeq1.idx_int;have f2:=AutoSeq1.sub_tuple_tuple
  wp_walk using wpAny_loadPart' hl
  refine wpAny_ite_false (decide_eq_false hc0) ?_
  wp_walk using wpAny_loadPart' hl
  refine wpAny_ite_false (decide_eq_false hc3) ?_
  wp_walk using wpAny_loadPart' hl
  refine wpAny_ite_false (decide_eq_false (Nat.not_lt.mpr hsz)) ?_
  wp_walk using wpAny_loadPart' hl
  exact⟨_,rfl,h⟩
def FA (K:PySem.W.Frag):R2:=fun x y H Q=>∃l k xs,x=.ref l/\y=.int k/\SqT K H l xs/\0<k/\k<=1000/\0<xs.length/\xs.length<=1000/\(k=1->Q (.ref l) H) /\
 (k≠1->∀p,H p=none->Q (.ref p) (bm H p (.tup (List.replicate k.toNat xs).flatten)))
def BP:OpR X (binaryOp .Mult) (FA X.K):=by
 intro pins s σ H x y v u Q I rx ry h;obtain⟨l,k,xs,rfl,rfl,hl,h0,h1,h2,h3,q1,q2⟩:=h;cases rx;obtain⟨t,rfl⟩:=ry;obtain⟨its,r,⟨⟨c1,d1,dt1,sl1⟩,e1,c1',n1,t1'⟩,_⟩:=I.tuple hl;simp only at c1' t1';subst c1' t1';have hlen:=r.length;refine wpAny_binaryOp_repeat_ref (T:="tuple") (U:="int") (by decide) ⟨_,e1,rfl⟩ (fun s'=>typeIs_int s' k t) j9 F.fills_int_mul F.slot_int_rmul o6 F.slot_int_index.lookup
  (call_meets F.slot_int_rmul (typeIs_int s k t) F.entry_int_rmul (F.args_int_rmul_2 _ _) (mj k t l its.toArray n1 d1 sl1) ⟨e1,rfl,⟨_,e1,rfl⟩,?_⟩)
 by_cases hk:k=1
 ·subst hk;exact call_meets F.slot_tuple_mul ⟨_,e1,rfl⟩ F.entry_tuple_mul (F.args_tuple_mul_2 _ _) (tP l its.toArray n1 t d1 sl1) ⟨e1,⟨.ref l,H,I,rfl,q1 rfl⟩⟩
 ·have hnew:List.foldl (fun x1 x2=>x1++x2) #[] (List.replicate k.toNat its.toArray)=(List.replicate k.toNat its).flatten.toArray:=by
   have:=foldl_rep its k.toNat [];rw[List.nil_append] at this;exact this
  have hfl:(List.replicate k.toNat its).flatten.length=k.toNat*its.length:=len_rep its k.toNat;have hb:k.toNat*its.length<=1000*1000:=Nat.mul_le_mul (by omega) (by omega);have hbi:(its.length:Int)*k<=1000*1000:=by
   have e:(its.length:Int)*k=((k.toNat*its.length:Nat):Int):=by
    rw[Nat.mul_comm];push_cast;rw[Int.toNat_of_nonneg (by omega)]
   rw[e];exact_mod_cast hb
  have hne:its≠[]:=by intro z;rw[z,List.length_nil] at hlen;omega
  have hie:its.toArray.isEmpty=false:=by simpa using hne
  have hz:(List.replicate k.toNat its).flatten.length<=sizeLine:=by rw[hfl,bH];omega
  refine call_meets F.slot_tuple_mul ⟨_,e1,rfl⟩ F.entry_tuple_mul (F.args_tuple_mul_2 _ _) (tO l its.toArray n1 k t d1 sl1 (by simp;omega) (by rw[hie];simpa using hk) (by rw[hie];simp;omega)
   (by rw[List.size_toArray];omega) (by rw[List.size_toArray];have hsz:=bH;simp[Builtin.Tuple.tupleTooMany];omega) (by rw[hnew];show (List.replicate k.toNat its).flatten.toArray.size<=sizeLine;rw[List.size_toArray];exact hz)) ⟨e1,?_⟩
  rw[hnew];refine⟨.ref s.heap.objs.size,_,I.laid (t':=s.toks) (o:=.tup (List.replicate k.toNat xs).flatten) (fun b ob q=>Heap.get?_push_of_some _ q) (Nat.le_refl _) ?_,rfl,q2 hk _ (I.hok.fresh (Nat.le_refl _))⟩;exact⟨by rw[len_rep,hlen,<-hfl];exact hz,_,r.rep k.toNat,IsTup.new _ _⟩
def cL:tw X (binaryOp .Mult) bQ:=by
 refine⟨_,op_mul.or BP,fun os H L dx dy d x y Q rx ry m k=>?_⟩;cases dy with
 | int j =>
   cases dx with
   | int i =>
     have m':(if (small j||small i)=true then some (D.int (i*j)) else none)=some d:=m;split at m'
     ·rename_i hs;cases m';refine .inl ⟨i,j,rx.int_inv,ry.int_inv,?_,k _ H (Same.refl _) (.int _)⟩;simp[small] at hs;rcases hs with hs | hs
      ·exact .inr ⟨hs.1,hs.2⟩
      ·exact .inl ⟨hs.1,hs.2⟩
     ·cases m'
   | tup xs =>
     have m':(if (decide (0<j)&&decide (j<=1000)&&decide (0<xs.length)&&decide (xs.length<=1000))=true then some (D.tup (List.replicate j.toNat xs).flatten) else none)=some d:=m;split at m'
     ·rename_i hs;cases m';simp only[Bool.and_eq_true,decide_eq_true_eq] at hs;obtain⟨⟨⟨h1,h2⟩,h3⟩,h4⟩:=hs;obtain⟨a,vs,rfl,g1,g2⟩:=rx.tup_up;have hl:=g2.length;refine .inr ⟨a,j,vs,rfl,ry.int_inv,g1,h1,h2,by omega,by omega,fun e=>?_,fun _ p hp=>?_⟩
      ·subst e;exact k _ H (Same.refl _) (by simpa using rx)
      ·exact k _ _ (aF hp (.tup (List.replicate j.toNat vs).flatten)) (.newT L hp (g2.flat j.toNat))
     ·cases m'
   | _=>cases m
 | _=>cases dx <;> cases m
def lQ:tw X (compareOp .Lt) oLt:=by
 refine⟨_,FI,fun os H L dx dy d x y Q rx ry m k=>?_⟩;obtain⟨i,j,rfl,rfl,m⟩:=gk m;cases m;exact⟨i,j,rx.int_inv,ry.int_inv,k _ H (Same.refl _) (.bl _)⟩
def CP:tw X (compareOp .LtE) oLe:=by
 refine⟨_,FJ,fun os H L dx dy d x y Q rx ry m k=>?_⟩;obtain⟨i,j,rfl,rfl,m⟩:=gk m;cases m;exact⟨i,j,rx.int_inv,ry.int_inv,k _ H (Same.refl _) (.bl _)⟩
def FN:tw X (compareOp .Gt) FP:=by
 refine⟨_,FK,fun os H L dx dy d x y Q rx ry m k=>?_⟩;obtain⟨i,j,rfl,rfl,m⟩:=gk m;cases m;exact⟨i,j,rx.int_inv,ry.int_inv,k _ H (Same.refl _) (.bl _)⟩
def FO:tw X (compareOp .GtE) Gk:=by
 refine⟨_,FL,fun os H L dx dy d x y Q rx ry m k=>?_⟩;obtain⟨i,j,rfl,rfl,m⟩:=gk m;cases m;exact⟨i,j,rx.int_inv,ry.int_inv,k _ H (Same.refl _) (.bl _)⟩
def De:He X (unaryOp .USub) Fh:=by
 refine⟨_,yo,fun os H L dx d x Q rx m k=>?_⟩;cases dx with
 | int i=>cases m;exact⟨i,rx.int_inv,k _ H (Same.refl _) (.int _)⟩
 | _=>cases m
def wF {g:Int->Int->Bool}{dx dy d:D}(h:oI (fun i j=>some (.bl (g i j))) dx dy=some d):∃k,d=.bl k:=by
 obtain⟨i,j,rfl,rfl,m⟩:=gk h;cases m;exact⟨_,rfl⟩
def oH (x y d:D)(h:oLt x y=some d):∃k,d=.bl k:=wF h
def C6 (x y d:D)(h:oLe x y=some d):∃k,d=.bl k:=wF h
def F8 (x y d:D)(h:FP x y=some d):∃k,d=.bl k:=wF h
def F9 (x y d:D)(h:Gk x y=some d):∃k,d=.bl k:=wF h
def AW (x y d:D)(h:oEq x y=some d):∃k,d=.bl k:=by
 unfold oEq at h;split at h
 ·cases h;exact⟨_,rfl⟩
 ·cases h
def wG (x y d:D)(h:pH x y=some d):∃k,d=.bl k:=by
 unfold pH at h;split at h
 ·cases h;exact⟨_,rfl⟩
 ·cases h
def C7 (x y d:D)(h:Ba x y=some d):∃k,d=.bl k:=by
 unfold Ba at h;split at h
 ·split at h
  ·cases h;exact⟨_,rfl⟩
  ·cases h
 ·split at h
  ·cases h;exact⟨_,rfl⟩
  ·cases h
 ·cases h;exact⟨_,rfl⟩
 ·cases h
end
section
variable {X:Cx}{pins:List (Addr×Obj)}{σ:L2.St}{H:Hp}{s:Shared}
def rP (I:Inv X pins σ H s){a:Addr}{xs ys:List V}(h1:SqL X.K H a xs)(h2:SqT X.K H a ys):False:=by
 obtain⟨i1,_,p1,_⟩:=I.list h1;obtain⟨i2,_,p2,_⟩:=I.tuple h2;exact(SeqAt.ne_of_list_tuple (s:=s) p1.isList p2) rfl
mutual
def Den.inj (I:Inv X pins σ H s):∀{d e:D} {v:V},bg d<=30->bg e<=30->Den X.K H d v->Den X.K H e v->d=e
 | .non,e,v,_,he,h,g=>by
   rw[h.non_inv] at g;cases e with
   | non=>rfl
   | bl z=>cases g.bl_inv
   | int z=>cases g.int_inv
   | str z=>cases g.str_inv
   | tup z=>obtain⟨_,_,q,_⟩:=g.tup_sq;cases q
   | lst z=>obtain⟨_,_,q,_⟩:=g.lst_inv;cases q
   | dic z0 z w=>simp[bg] at he
 | .bl b,e,v,_,he,h,g=>by
   rw[h.bl_inv] at g;cases e with
   | non=>cases g.non_inv
   | bl z=>cases g.bl_inv;rfl
   | int z=>cases g.int_inv
   | str z=>cases g.str_inv
   | tup z=>obtain⟨_,_,q,_⟩:=g.tup_sq;cases q
   | lst z=>obtain⟨_,_,q,_⟩:=g.lst_inv;cases q
   | dic z0 z w=>simp[bg] at he
 | .int b,e,v,_,he,h,g=>by
   rw[h.int_inv] at g;cases e with
   | non=>cases g.non_inv
   | bl z=>cases g.bl_inv
   | int z=>cases g.int_inv;rfl
   | str z=>cases g.str_inv
   | tup z=>obtain⟨_,_,q,_⟩:=g.tup_sq;cases q
   | lst z=>obtain⟨_,_,q,_⟩:=g.lst_inv;cases q
   | dic z0 z w=>simp[bg] at he
 | .str b,e,v,_,he,h,g=>by
   rw[h.str_inv] at g;cases e with
   | non=>cases g.non_inv
   | bl z=>cases g.bl_inv
   | int z=>cases g.int_inv
   | str z=>cases g.str_inv;rfl
   | tup z=>obtain⟨_,_,q,_⟩:=g.tup_sq;cases q
   | lst z=>obtain⟨_,_,q,_⟩:=g.lst_inv;cases q
   | dic z0 z w=>simp[bg] at he
 | .tup ds,e,v,hd,he,h,g=>by
   obtain⟨a,xs,rfl,h1,h2⟩:=h.tup_sq;simp only[bg] at hd;cases e with
   | non=>cases g.non_inv
   | bl z=>cases g.bl_inv
   | int z=>cases g.int_inv
   | str z=>cases g.str_inv
   | dic z0 z w=>simp[bg] at he
   | tup es =>
     simp only[bg] at he;obtain⟨b,ys,q,g1,g2⟩:=g.tup_sq;cases q;rw[<-I.tuple_inj h1 g1] at g2;rw[Dens.inj I (by omega) (by omega) h2 g2]
   | lst es =>
     obtain⟨b,ys,q,g1,g2⟩:=g.lst_inv;cases q;exact(rP I g1 h1).elim
 | .lst ds,e,v,hd,he,h,g=>by
   obtain⟨a,xs,rfl,h1,h2⟩:=h.lst_inv;simp only[bg] at hd;cases e with
   | non=>cases g.non_inv
   | bl z=>cases g.bl_inv
   | int z=>cases g.int_inv
   | str z=>cases g.str_inv
   | dic z0 z w=>simp[bg] at he
   | lst es =>
     simp only[bg] at he;obtain⟨b,ys,q,g1,g2⟩:=g.lst_inv;cases q;rw[<-I.list_inj h1 g1] at g2;rw[Dens.inj I (by omega) (by omega) h2 g2]
   | tup es =>
     obtain⟨b,ys,q,g1,g2⟩:=g.tup_sq;cases q;exact(rP I h1 g1).elim
 | .dic t ks vs,e,v,hd,_,_,_=>by simp[bg] at hd
def Dens.inj (I:Inv X pins σ H s):∀{ds es:List D} {xs:List V},bu ds<=30->bu es<=30->Dens X.K H ds xs->Dens X.K H es xs->ds=es
 | [],[],_,_,_,_,_=>rfl
 | [],e::es,_,_,_,h,g=>by obtain⟨x,r,q,_⟩:=g.uncons;rw[h.unnil] at q;cases q
 | d::ds,[],_,_,_,h,g=>by obtain⟨x,r,q,_⟩:=h.uncons;rw[g.unnil] at q;cases q
 | d::ds,e::es,_,hd,he,h,g=>by
   obtain⟨x,r,rfl,h1,h2⟩:=h.uncons;obtain⟨y,t,q,g1,g2⟩:=g.uncons;cases q;simp only[bu] at hd he;rw[Den.inj I (by omega) (by omega) h1 g1,Dens.inj I (by omega) (by omega) h2 g2]
end
abbrev El (A:Around)(s:Shared)(ds es:List D)(its its2:List Value):Prop :=
 ∀j (h1:j<its.toArray.size) (h2:j<its2.toArray.size),SeqAt.EqAt A.in1 s its.toArray[j] its2.toArray[j] (bP (ds.getD j .non) (es.getD j .non))
def yV {A:Around}{l b:Addr}{its its2:List Value}{ds es:List D}{xs ys:List V}(I:Inv X pins σ H s)(hu:A.units<cLine)(hl:IsTup s.heap l its.toArray)(hb:IsTup s.heap b its2.toArray)(r1:Vals xs its)(r2:Vals ys its2)(d1:Dens X.K H ds xs)(d2:Dens X.K H es ys)(he:El A s ds es its its2) :
 SeqAt.RcAt A s (.ref l) (.ref b) (bP (.tup ds) (.tup es)):=by
 have q:=SeqAt.RcAt.tuples (A:=A) (s:=s) hl hb hu he;have e1:its.toArray.size=ds.length:=by rw[List.size_toArray,<-r1.length,d1.length]
 have e2:its2.toArray.size=es.length:=by rw[List.size_toArray,<-r2.length,d2.length]
 rw[e1,e2,fe] at q;rw[bP];exact q
def Dw {A:Around}{l b:Addr}{its its2:List Value}{ds es:List D}{xs ys:List V}(I:Inv X pins σ H s)(hu:A.units<cLine)(hl:IsTup s.heap l its.toArray)(hb:IsTup s.heap b its2.toArray)(r1:Vals xs its)(r2:Vals ys its2)(d1:Dens X.K H ds xs)(d2:Dens X.K H es ys)(he:El A s ds es its its2) :
 SeqAt.RcNeAt A s (.ref l) (.ref b) (!bP (.tup ds) (.tup es)):=by
 have q:=SeqAt.RcNeAt.tuples (A:=A) (s:=s) hl hb hu he;have e1:its.toArray.size=ds.length:=by rw[List.size_toArray,<-r1.length,d1.length]
 have e2:its2.toArray.size=es.length:=by rw[List.size_toArray,<-r2.length,d2.length]
 rw[e1,e2,fe] at q;rw[bP];exact q
def yW {A:Around}{l b:Addr}{its its2:List Value}{ds es:List D}{xs ys:List V}(I:Inv X pins σ H s)(hu:A.units<cLine)(hl:PlainL s.heap l its.toArray)(hb:PlainL s.heap b its2.toArray)(r1:Vals xs its)(r2:Vals ys its2)(d1:Dens X.K H ds xs)(d2:Dens X.K H es ys)(he:El A s ds es its its2) :
 SeqAt.RcAt A s (.ref l) (.ref b) (bP (.lst ds) (.lst es)):=by
 have e1:its.toArray.size=ds.length:=by rw[List.size_toArray,<-r1.length,d1.length]
 have e2:its2.toArray.size=es.length:=by rw[List.size_toArray,<-r2.length,d2.length]
 have er:=fe ds es;rw[bP,<-er];by_cases hs:ds.length=es.length
 ·have q:=SeqAt.RcAt.lists (A:=A) (s:=s) hl.isList hb.isList (by rw[e1,e2];exact hs) hu he;rw[e1] at q;rw[hs,Nat.min_self,beq_self_eq_true,Bool.and_true,<-hs];exact q
 ·have q:=SeqAt.RcAt.lists_lengths (A:=A) (s:=s) hl.isList hb.isList (by rw[e1,e2];simpa using hs) hu;have hb':(ds.length==es.length)=false:=by simpa using hs
  rw[hb',Bool.and_false];exact q
def Dx {A:Around}{l b:Addr}{its its2:List Value}{ds es:List D}{xs ys:List V}(I:Inv X pins σ H s)(hu:A.units<cLine)(hl:PlainL s.heap l its.toArray)(hb:PlainL s.heap b its2.toArray)(r1:Vals xs its)(r2:Vals ys its2)(d1:Dens X.K H ds xs)(d2:Dens X.K H es ys)(he:El A s ds es its its2) :
 SeqAt.RcNeAt A s (.ref l) (.ref b) (!bP (.lst ds) (.lst es)):=by
 have e1:its.toArray.size=ds.length:=by rw[List.size_toArray,<-r1.length,d1.length]
 have e2:its2.toArray.size=es.length:=by rw[List.size_toArray,<-r2.length,d2.length]
 have er:=fe ds es;rw[bP,<-er];by_cases hs:ds.length=es.length
 ·have q:=SeqAt.RcNeAt.lists (A:=A) (s:=s) hl.isList hb.isList (by rw[e1,e2];exact hs) hu he;rw[e1] at q;rw[hs,Nat.min_self,beq_self_eq_true,Bool.and_true,<-hs];exact q
 ·have q:=SeqAt.RcNeAt.lists_lengths (A:=A) (s:=s) hl.isList hb.isList (by rw[e1,e2];simpa using hs) hu;have hb':(ds.length==es.length)=false:=by simpa using hs
  rw[hb',Bool.and_false];exact q
def sr {A:Around}{n:Nat}(el:∀(A:Around) (dx dy:D) (x y:V) (v u:Value),bg dx<=n->(bg dx<=30/\bg dy<=30)->A.units+n<cLine->Den X.K H dx x->Den X.K H dy y->RelV x v->RelV y u->SeqAt.EqAt A s v u (bP dx dy))
 {ds es:List D} {xs ys:List V} {its its2:List Value} (hd:∀d∈ds,bg d<=n) (hb:(∀d∈ds,bg d<=30)/\(∀d∈es,bg d<=30)) (hu:A.units+1+n<cLine) (d1:Dens X.K H ds xs) (d2:Dens X.K H es ys) (r1:Vals xs its) (r2:Vals ys its2):El A s ds es its its2:=by
 intro j h1 h2;rw[List.size_toArray] at h1 h2;have l1:=r1.length;have l2:=r2.length;have m1:=d1.length;have m2:=d2.length;have j1:j<ds.length:=by omega
 have j2:j<es.length:=by omega
 obtain⟨x,hx,q1⟩:=d1.get (i:=j) (d:=ds[j]) (List.getElem?_eq_getElem j1);obtain⟨y,hy,q2⟩:=d2.get (i:=j) (d:=es[j]) (List.getElem?_eq_getElem j2);obtain⟨v,hv,w1⟩:=r1.get hx;obtain⟨u,hu',w2⟩:=r2.get hy;have ev:its.toArray[j]=v:=by
  rw[List.getElem?_eq_getElem h1] at hv;simpa using hv
 have eu:its2.toArray[j]=u:=by
  rw[List.getElem?_eq_getElem h2] at hu';simpa using hu'
 rw[ev,eu,List.getD_eq_getElem?_getD,List.getD_eq_getElem?_getD,List.getElem?_eq_getElem j1,List.getElem?_eq_getElem j2];exact el A.in1 ds[j] es[j] x y v u (hd _ (List.getElem_mem j1)) ⟨hb.1 _ (List.getElem_mem j1),hb.2 _ (List.getElem_mem j2)⟩ hu q1 q2 w1 w2
inductive View (X:Cx)(H:Hp)(s:Shared):D->Value->Prop where
 | non:View X H s .non .none
 | bl (b:Bool):View X H s (.bl b) (.bool b)
 | int (i:Int) (t:Tok):View X H s (.int i) (.int i t)
 | str (x:Str) (t:Tok):View X H s (.str x) (.str x t)
 | lst {ds:List D} {a:Addr} {xs:List V} {its:List Value} (h:SqL X.K H a xs) (d:Dens X.K H ds xs) (r:Vals xs its) (p:PlainL s.heap a its.toArray) (q:s.heap.IsList a its.toArray):View X H s (.lst ds) (.ref a)
 | tup {ds:List D} {a:Addr} {xs:List V} {its:List Value} (h:SqT X.K H a xs) (d:Dens X.K H ds xs) (r:Vals xs its) (p:IsTup s.heap a its.toArray) (q:s.heap.IsTuple a its.toArray):View X H s (.tup ds) (.ref a)
def view (I:Inv X pins σ H s){d:D}{x:V}{v:Value}(h:bg d<=30)(r:Den X.K H d x)(w:RelV x v):View X H s d v:=by
 cases d with
 | dic _ _ _=>exact absurd h (by simp[bg])
 | non=>rw[r.non_inv] at w;cases w;exact .non
 | bl b=>rw[r.bl_inv] at w;cases w;exact .bl b
 | int i=>rw[r.int_inv] at w;obtain⟨t,rfl⟩:=w;exact .int i t
 | str z=>rw[r.str_inv] at w;obtain⟨t,rfl⟩:=w;exact .str z t
 | lst ds=>obtain⟨a,xs,rfl,h1,h2⟩:=r.lst_inv;cases w;obtain⟨its,r',p,_⟩:=I.list h1;exact .lst h1 h2 r' p p.isList
 | tup ds=>obtain⟨a,xs,rfl,h1,h2⟩:=r.tup_sq;cases w;obtain⟨its,r',p,_⟩:=I.tuple h1;exact .tup h1 h2 r' p p
def Gy {P:Bool->Prop}{b c:Bool}(h:P b)(e:b=c):P c:=e ▸ h
noncomputable def both:D->D->Bool
 | .lst _,.lst _=>true
 | .tup _,.tup _=>true
 | _,_=>false
def kinds {A:Around}{dx dy:D}{v u:Value}(hx:View X H s dx v)(hy:View X H s dy u)(hb:both dx dy=false)(hu:A.units<cLine):SeqAt.EqAt A s v u (bP dx dy)/\SeqAt.RcAt A s v u (bP dx dy)/\SeqAt.RcNeAt A s v u (!bP dx dy):=by
 cases hx <;> cases hy <;> first
 | exact Bool.noConfusion hb
 | refine⟨?_,?_,?_⟩
 all_goals
  apply Gy
  ·first
   | with_reducible first | exact .same _ | exact .none_none | exact .none_bool _ | exact .none_int _ _ | exact .none_str _ _ | exact .none_list ‹_› ‹_› | exact .none_tuple ‹_› ‹_› | exact .bool_none _ | exact .bool_bool _ _ | exact .bool_int _ _ _ | exact .bool_str _ _ _ | exact .bool_list _ ‹_› ‹_› | exact .bool_tuple _ ‹_› ‹_› | exact .int_none _ _ | exact .int_bool _ _ _ | exact .int_int _ _ _ _ | exact .int_str _ _ _ _ | exact .int_list _ _ ‹_› ‹_› | exact .int_tuple _ _ ‹_› ‹_› | exact .str_none _ _ | exact .str_bool _ _ _ | exact .str_int _ _ _ _ | exact .str_str _ _ _ _ | exact .str_list _ _ ‹_› ‹_› | exact .str_tuple _ _ ‹_› ‹_› | exact .list_none ‹_› ‹_› | exact .list_bool _ ‹_› ‹_› | exact .list_int _ _ ‹_› ‹_› | exact .list_str _ _ ‹_› ‹_› | exact .list_tuple ‹_› ‹_› ‹_› | exact .tuple_none ‹_› ‹_› | exact .tuple_bool _ ‹_› ‹_› | exact .tuple_int _ _ ‹_› ‹_› | exact .tuple_str _ _ ‹_› ‹_› | exact .tuple_list ‹_› ‹_› ‹_›
   | exact .of_refs (SeqAt.ne_of_list_tuple (s:=s) ‹_› ‹_›) (.list_tuple ‹_› ‹_› ‹_›)
   | exact .of_refs (SeqAt.ne_of_list_tuple (s:=s) ‹_› ‹_›).symm (.tuple_list ‹_› ‹_› ‹_›)
  ·rfl
def Ar (I:Inv X pins σ H s):∀(n:Nat) (A:Around) (dx dy:D) (x y:V) (v u:Value),bg dx<=n->(bg dx<=30/\bg dy<=30)->A.units+n<cLine->Den X.K H dx x->Den X.K H dy y->RelV x v->RelV y u->SeqAt.EqAt A s v u (bP dx dy):=by
 intro n;induction n with
 | zero =>
   intro A dx dy x y v u hd hb hu0 rx ry vx vy;have ht:both dx dy=false:=by cases dx <;> first | rfl | simp[bg] at hd
   exact(kinds (view I hb.1 rx vx) (view I hb.2 ry vy) ht (by omega)).1
 | succ n ih =>
   intro A dx dy x y v u hd hb hu0 rx ry vx vy;have hu:A.units<cLine:=by omega
   have items:∀{ds es:List D} {xs ys:List V} {its its2:List Value},bu ds<=n->bu ds<=29->bu es<=29->Dens X.K H ds xs->Dens X.K H es ys->Vals xs its->Vals ys its2->El A s ds es its its2:=fun a b c=>sr ih (depDs_le.mp a) ⟨depDs_le.mp (by omega),depDs_le.mp (by omega)⟩ (by omega);cases ht:both dx dy with
   | false=>exact(kinds (view I hb.1 rx vx) (view I hb.2 ry vy) ht hu).1
   | true =>
     cases view I hb.1 rx vx <;> cases view I hb.2 ry vy <;> first | exact Bool.noConfusion ht | skip
     ·rename_i ds1 a1 _ _ h1 d1 r1 p1 q1 ds2 a2 _ _ h2 d2 r2 p2 q2;simp only[bg] at hd hb;by_cases hab:a1=a2
      ·subst hab;have e:ds1=ds2:=Dens.inj I (by omega) (by omega) d1 (by rw[I.list_inj h1 h2];exact d2);subst e;rw[ia];exact .same _
      ·exact .of_refs hab (yW I hu p1 p2 r1 r2 d1 d2 (items (by omega) (by omega) (by omega) d1 d2 r1 r2))
     ·rename_i ds1 a1 _ _ h1 d1 r1 p1 q1 ds2 a2 _ _ h2 d2 r2 p2 q2;simp only[bg] at hd hb;by_cases hab:a1=a2
      ·subst hab;have e:ds1=ds2:=Dens.inj I (by omega) (by omega) d1 (by rw[I.tuple_inj h1 h2];exact d2);subst e;rw[ia];exact .same _
      ·exact .of_refs hab (yV I hu p1 p2 r1 r2 d1 d2 (items (by omega) (by omega) (by omega) d1 d2 r1 r2))
section
variable {n:Nat}{A:Around}{dx dy:D}{x y:V}{v u:Value}
def CM (I:Inv X pins σ H s)(hd:bg dx<=n+1)(hb:bg dx<=30/\bg dy<=30)(hu0:A.units+(n+1)<cLine)(rx:Den X.K H dx x)(ry:Den X.K H dy y)(vx:RelV x v)(vy:RelV y u):SeqAt.RcAt A s v u (bP dx dy)/\SeqAt.RcNeAt A s v u (!bP dx dy):=by
 have hu:A.units<cLine:=by omega
 cases ht:both dx dy with
 | false=>exact(kinds (view I hb.1 rx vx) (view I hb.2 ry vy) ht hu).2
 | true =>
   cases view I hb.1 rx vx <;> cases view I hb.2 ry vy <;> first | exact Bool.noConfusion ht | skip
   all_goals
    rename_i ds1 a1 _ _ h1 d1 r1 p1 q1 ds2 a2 _ _ h2 d2 r2 p2 q2;simp only[bg] at hd hb;have el:=sr (Ar I n) (A:=A) (depDs_le.mp (show bu ds1<=n by omega)) ⟨depDs_le.mp (by omega),depDs_le.mp (show bu ds2<=30 by omega)⟩ (by omega) d1 d2 r1 r2
    first
    | exact⟨yW I hu p1 p2 r1 r2 d1 d2 el,Dx I hu p1 p2 r1 r2 d1 d2 el⟩
    | exact⟨yV I hu p1 p2 r1 r2 d1 d2 el,Dw I hu p1 p2 r1 r2 d1 d2 el⟩
end
end
section
variable {X:Cx}{a b c e:Expr}{es:List Expr}{ma mb mc md me:ME}{pos p p2 p3:Pos}
def rO (hu:X.A.units+64<cLine):tw X (compareOp .Eq) oEq:=by
 refine⟨fun x y H Q=>∃dx dy,Den X.K H dx x/\Den X.K H dy y/\(bg dx<=30/\bg dy<=30)/\Q (.bl (bP dx dy)) H,?_,fun os H L dx dy d x y Q rx ry m k=>?_⟩
 ·intro pins s σ H x y v u Q I rx ry h;obtain⟨dx,dy,d1,d2,hd,q⟩:=h;exact(CM (n:=30) I (Nat.le_succ_of_le hd.1) hd (by omega) d1 d2 rx ry).1 X.prog X.w X.xe _ ⟨.bl _,H,I,rfl,q⟩
 ·unfold oEq at m;split at m
  ·rename_i hd;cases m;exact⟨dx,dy,rx.up,ry.up,hd,k _ H (Same.refl _) (.bl _)⟩
  ·cases m
def rN (hu:X.A.units+64<cLine):tw X (compareOp .NotEq) pH:=by
 refine⟨fun x y H Q=>∃dx dy,Den X.K H dx x/\Den X.K H dy y/\(bg dx<=30/\bg dy<=30)/\Q (.bl (!bP dx dy)) H,?_,fun os H L dx dy d x y Q rx ry m k=>?_⟩
 ·intro pins s σ H x y v u Q I rx ry h;obtain⟨dx,dy,d1,d2,hd,q⟩:=h;exact(CM (n:=30) I (Nat.le_succ_of_le hd.1) hd (by omega) d1 d2 rx ry).2 X.prog X.w X.xe _ ⟨.bl _,H,I,rfl,q⟩
 ·unfold pH at m;split at m
  ·rename_i hd;cases m;exact⟨dx,dy,rx.up,ry.up,hd,k _ H (Same.refl _) (.bl _)⟩
  ·cases m
open Classical in
def iV (K:PySem.W.Frag)(H:Hp)(dx:D)(u:Value):Bool:=if h:∃d v,(RelV v u/\bg d<=30)/\Den K H d v then bP (Classical.choose h) dx else false
def sE {pins:List (Addr×Obj)}{σ:L2.St}{H:Hp}{s:Shared}(I:Inv X pins σ H s){dx d:D}{v:V}{u:Value}(r:RelV v u)(hd:bg d<=30)(h:Den X.K H d v):iV X.K H dx u=bP d dx:=by
 have hx:∃d v,(RelV v u/\bg d<=30)/\Den X.K H d v:=⟨d,v,⟨r,hd⟩,h⟩;unfold iV;rw[dif_pos hx];obtain⟨v',⟨r',hd'⟩,h'⟩:=Classical.choose_spec hx;rw[RelV.inj r' r] at h';rw[Den.inj I hd' hd h' h]
def km {pins:List (Addr×Obj)}{σ:L2.St}{H:Hp}{s:Shared}(I:Inv X pins σ H s){dx:D}:∀{ds:List D} {xs:List V} {us:List Value},(∀d∈ds,bg d<=30)->Dens X.K H ds xs->Vals xs us->us.any (iV X.K H dx)=ds.any fun y=>bP y dx
 | [],_,_,_,h,r=>by rw[h.unnil] at r;cases r;rfl
 | d::ds,_,_,hd,h,r=>by
   obtain⟨x,t,rfl,h1,h2⟩:=h.uncons;cases r with
   | cons r1 r2=>rw[List.any_cons,List.any_cons,sE I r1 (hd d List.mem_cons_self) h1,km I (fun d' h'=>hd d' (List.mem_cons_of_mem _ h')) h2 r2]
def ka {A:Around}{pins:List (Addr×Obj)}{σ:L2.St}{H:Hp}{s:Shared}(I:Inv X pins σ H s)(hu:A.units+40<cLine){dx:D}{x:V}{v:Value}(rx:RelV x v)(hx:Den X.K H dx x)(hxd:bg dx<=30):∀{ds:List D} {xs:List V} {us:List Value},(∀d∈ds,bg d<=30)->Dens X.K H ds xs->Vals xs us->∀u∈us,SeqAt.EqAt A s u v (iV X.K H dx u)
 | [],_,_,_,h,r=>fun u hm=>by rw[h.unnil] at r;cases r;cases hm
 | d::ds,_,_,hd,h,r=>fun u hm=>by
   obtain⟨y,t,rfl,h1,h2⟩:=h.uncons;cases r with
   | cons r1 r2 =>
     rcases List.mem_cons.mp hm with rfl | hm
     ·rw[sE I r1 (hd d List.mem_cons_self) h1];exact Ar I 30 A d dx y x u v (hd d List.mem_cons_self) ⟨hd d List.mem_cons_self,hxd⟩ (by omega) h1 hx r1 rx
     ·exact ka I hu rx hx hxd (fun d' h'=>hd d' (List.mem_cons_of_mem _ h')) h2 r2 u hm
def CQ (hu:X.A.units+64<cLine):tw X (compareOp .In) Ba:=by
 have hu1:X.A.in1.units+40<cLine:=by show X.A.units+1+40<cLine;omega
 refine⟨fun x y H Q=>(∃i j,x=V.str i/\y=V.str j/\Q (.bl (!(Builtin.Str.occurrences j i 0 j.length 1).isEmpty)) H)\/∃dx p ds xs,Den X.K H dx x/\y=.ref p/\(SqL X.K H p xs\/SqT X.K H p xs)/\Dens X.K H ds xs/\(bu ds<=30/\bg dx<=30)/\Q (.bl (ds.any fun y=>bP y dx)) H,?_,fun os H L dx dy d x y Q rx ry m k=>?_⟩
 ·intro pins s σ H x y v u Q I rx ry h;rcases h with h | h
  ·exact xw pins s σ H x y v u Q I rx ry h
  obtain⟨dx,p,ds,xs,hx,rfl,hq,hs,hd,q⟩:=h;cases ry;have hd':=depDs_le.mp hd.1;rcases hq with hq | hq
  ·obtain⟨its,r,pl,hz⟩:=I.list hq;refine SeqAt.in_listAt (iV X.K H dx) pl.isList (fun w hw=>ka I hu1 rx hx hd.2 hd' hs r w (by simpa using hw)) ⟨.bl _,H,I,rfl,?_⟩;rw[show its.toArray.any (iV X.K H dx)=its.any (iV X.K H dx) by simp,km I hd' hs r];exact q
  ·obtain⟨its,r,pl,hz⟩:=I.tuple hq;refine SeqAt.in_tupleAt (iV X.K H dx) pl (fun w hw=>ka I hu1 rx hx hd.2 hd' hs r w (by simpa using hw)) ⟨.bl _,H,I,rfl,?_⟩;rw[show its.toArray.any (iV X.K H dx)=its.any (iV X.K H dx) by simp,km I hd' hs r];exact q
 ·cases dy with
  | tup ys =>
    have m':(if bu ys<=30/\bg dx<=30 then some (D.bl (ys.any fun y=>bP y dx)) else none)=some d:=m;split at m'
    ·rename_i hd;cases m';obtain⟨p,xs,rfl,h1,h2⟩:=ry.tup_up;exact .inr ⟨dx,p,ys,xs,rx.up,rfl,.inr h1,h2.up,hd,k _ H (Same.refl _) (.bl _)⟩
    ·cases m'
  | lst ys =>
    have m':(if bu ys<=30/\bg dx<=30 then some (D.bl (ys.any fun y=>bP y dx)) else none)=some d:=m;split at m'
    ·rename_i hd;cases m';obtain⟨p,xs,rfl,h1,h2⟩:=ry.lst_up;exact .inr ⟨dx,p,ys,xs,rx.up,rfl,.inl h1,h2.up,hd,k _ H (Same.refl _) (.bl _)⟩
    ·cases m'
  | str y =>
    cases dx with
    | str x=>cases m;exact .inl ⟨x,y,rx.str_inv,ry.str_inv,k _ H (Same.refl _) (.bl _)⟩
    | _=>cases m
  | _=>cases dx <;> cases m
noncomputable def Gw:Ty->String
 | .int=>"int" | .bool=>"bool" | .str=>"str" | .list=>"list" | .tuple=>"tuple"
def AT (t:Ty):dr X (.builtin "isinstance") (fun xs H Q=>∃x d,xs=[x,.ty (Gw t)]/\Den X.K H d x/\Q (.bl (GQ t d)) H):=by
 intro pins s σ H xs us Q I r h;obtain⟨x,d,rfl,hd,q⟩:=h;obtain⟨u,w',rfl,rx,rw'⟩:=vals2 r;cases rw';have fin:∀tk,EP X pins σ Q (.bool (GQ t d)) { s with toks:=tk }:=fun tk=>⟨.bl _,H,I.tok tk,rfl,q⟩;cases d with
 | non =>
   rw[hd.non_inv] at rx;cases rx;cases t <;> exact PySem.W.kia_one PySem.W.kitx_none I.kIn True.intro (by rfl) (fun z=>nomatch z) fin
 | bl z =>
   rw[hd.bl_inv] at rx;cases rx;cases t <;> exact PySem.W.kia_one PySem.W.kitx_bool I.kIn True.intro (by rfl) (fun z=>nomatch z) fin
 | int z =>
   rw[hd.int_inv] at rx;obtain⟨tt,rfl⟩:=rx;cases t <;> exact PySem.W.kia_one PySem.W.kitx_int I.kIn True.intro (by rfl) (fun z=>nomatch z) fin
 | str z =>
   rw[hd.str_inv] at rx;obtain⟨tt,rfl⟩:=rx;cases t <;> exact PySem.W.kia_one PySem.W.kitx_str I.kIn True.intro (by rfl) (fun z=>nomatch z) fin
 | tup ds =>
   obtain⟨aa,xs,rfl,h1,_⟩:=hd.tup_sq;cases rx;obtain⟨its,_,⟨o,e1,e2,_⟩,_⟩:=I.tuple h1;cases t <;> exact PySem.W.kia_one PySem.W.kitx_tuple I.kIn ⟨o,e1,e2⟩ (by rfl) (fun z=>nomatch z) fin
 | lst ds =>
   obtain⟨aa,xs,rfl,h1,_⟩:=hd.lst_inv;cases rx;obtain⟨its,_,⟨o,n,e1,e2,_⟩,_⟩:=I.list h1;cases t <;> exact PySem.W.kia_one PySem.W.kitx_list I.kIn ⟨o,e1,e2⟩ (by rfl) (fun z=>nomatch z) fin
 | dic tk ks ds =>
   obtain⟨aa,xs,rfl,h1,_⟩:=hd.dic_inv;cases rx;have z:∃o,s.heap.get? aa=some o/\o.cls=.type "dict":=by
    rcases h1 with ⟨_,_,kvs,h1,_⟩ | ⟨_,_,kvs,h1,_⟩
    ·obtain⟨_,_,_,_,_,o,_,_,e,ex,_⟩:=I.hok aa _ h1;exact⟨o,e,ex.1⟩
    ·obtain⟨_,_,_,_,_,o,_,_,e,ex,_⟩:=I.hok aa _ h1;exact⟨o,e,ex.1⟩
   cases t <;> exact PySem.W.kia_one PySem.W.kitx_dict I.kIn z (by rfl) (fun z=>nomatch z) fin
def EH (t:Ty){tn:Str}(hg:Gl X "isinstance")(hm:X.mg "isinstance"=none)(hgT:Gl X tn)(hmT:X.mg tn=none)(hv:bootBuiltins tn=some (.type (Gw t)))(ha:DE X a ma)(hn:tn≠"__name__":=by decide)(hd:(tn==("__debug__":Str))=false:=by decide)
 (h1:starEach [a,.Name tn p2] X.env=(false,eval a X.env)::starEach [.Name tn p2] X.env:=by rfl) (h2:starEach [.Name tn p2] X.env=(false,eval (.Name tn p2) X.env)::starEach [] X.env:=by rfl)
 (hpl:(backTo pos (starEach [.Name tn p2] X.env)).any (·.1)=false:=by rfl) :
 DE X (.Call (.Name "isinstance" p) [a,.Name tn p2] [] pos) (ah (GV t) (ac ma ak)):=by
 obtain⟨ta,pa,qa⟩:=ha;have hT:PE X (.Name tn p2) (L2.tC (.ty (Gw t))):=BN hgT hmT hv rfl hn hd;refine⟨_,gU (AT t) hg hm (by rfl) (aI pa (aI hT bF h2) h1) (by decide) (by decide) h1 hpl,fun os σ H δ d Q s m kq=>?_⟩;rw[C5] at m;obtain⟨dx,e1,m⟩:=af m;cases m;exact qa os σ H δ dx _ s e1 fun x H1 g1 r1=>⟨x,dx,rfl,r1.up,kq _ H1 g1 (.bl _)⟩
def gj {K:PySem.W.Frag}{H:Hp}{d:D}{vs:List V}(h:Dens K H [d] vs):∃v,vs=[v]/\Den K H d v:=by
 obtain⟨x,r,rfl,h1,h2⟩:=h.uncons;exact⟨x,by rw[h2.unnil],h1⟩
def AV {f:Value}{r r':List V->Hp->VK->Prop}(a:dr X f r)(b:dr X f r'):dr X f (fun xs H Q=>r xs H Q\/r' xs H Q):=fun pins s σ H xs us Q I rel h=>by
 rcases h with h | h
 ·exact a pins s σ H xs us Q I rel h
 ·exact b pins s σ H xs us Q I rel h
def fK:jV X (.builtin "len") cM:=by
 refine⟨_,AV qA qz,fun os H L ds d vs Q r m k=>?_⟩
 match ds,m with
 | [.tup xs],m =>
   cases m;obtain⟨v,rfl,h⟩:=gj r;obtain⟨p,ys,rfl,h1,h2⟩:=h.tup_up;exact .inl ⟨p,ys,rfl,.inr h1,by rw[<-h2.length];exact k _ H (Same.refl _) (.int _)⟩
 | [.lst xs],m =>
   cases m;obtain⟨v,rfl,h⟩:=gj r;obtain⟨p,ys,rfl,h1,h2⟩:=h.lst_up;exact .inl ⟨p,ys,rfl,.inl h1,by rw[<-h2.length];exact k _ H (Same.refl _) (.int _)⟩
 | [.str x],m =>
   have m':(if x.length<=16777216 then some (D.int x.length) else none)=some d:=m;split at m'
   ·rename_i hz;cases m';obtain⟨v,rfl,h⟩:=gj r;exact .inr ⟨x,by rw[h.str_inv],by rw[bH];exact hz,k _ H (Same.refl _) (.int _)⟩
   ·cases m'
def EU:jV X (.builtin "abs") Et:=by
 refine⟨_,AU,fun os H L ds d vs Q r m k=>?_⟩
 match ds,m with
 | [.int i],m =>
   cases m;obtain⟨v,rfl,h⟩:=gj r;exact⟨i,by rw[h.int_inv],k _ H (Same.refl _) (.int _)⟩
def fZ:jV X (.type "tuple") fc:=by
 refine⟨_,nk,fun os H L ds d vs Q r m k=>?_⟩
 match ds,m with
 | [.tup xs],m =>
   cases m;obtain⟨v,rfl,h⟩:=gj r;obtain⟨p,ys,rfl,h1,h2⟩:=h.tup_up;exact⟨p,ys,rfl,.inr ⟨h1,k _ H (Same.refl _) h⟩⟩
 | [.lst xs],m =>
   cases m;obtain⟨v,rfl,h⟩:=gj r;obtain⟨p,ys,rfl,h1,h2⟩:=h.lst_up;refine⟨p,ys,rfl,.inl ⟨h1,fun l hl=>?_⟩⟩;exact k _ _ (aF hl (.tup ys)) (.newT L hl h2)
def ba:Hj X bN:=by
 refine⟨_,ix_list.or (ix_tup.or Ec),fun os H L dx dy d x y Q rx ry m k=>?_⟩;cases dy with
 | int i =>
   cases dx with
   | lst ds =>
     obtain⟨j,e1,e2⟩:=af (show (qQ ds.length i).bind (fun j=>ds[j]?)=some d from m);obtain⟨a,xs,rfl,h1,h2⟩:=rx.lst_up;obtain⟨v,hv,rv⟩:=h2.get e2;refine .inl ⟨a,xs,i,v,rfl,ry.int_inv,h1,?_,k v H (Same.refl _) rv⟩;show (qQ xs.length i).bind (fun j=>xs[j]?)=some v;rw[<-h2.length,e1];exact hv
   | tup ds =>
     obtain⟨j,e1,e2⟩:=af (show (qQ ds.length i).bind (fun j=>ds[j]?)=some d from m);obtain⟨a,xs,rfl,h1,h2⟩:=rx.tup_up;obtain⟨v,hv,rv⟩:=h2.get e2;refine .inr (.inl ⟨a,xs,i,v,rfl,ry.int_inv,h1,?_,k v H (Same.refl _) rv⟩);show (qQ xs.length i).bind (fun j=>xs[j]?)=some v;rw[<-h2.length,e1];exact hv
   | str z =>
     have m':(if z.length<=16777216 then (qQ z.cps.toList.length i).bind fun j=>z.cps.toList[j]?.bind fun c=>some (D.str ⟨#[c]⟩) else none)=some d:=m;split at m'
     ·rename_i hz;obtain⟨j,e1,m'⟩:=af m';obtain⟨c,e2,m'⟩:=af m';cases m';refine .inr (.inr ⟨z,i,c,rx.str_inv,ry.int_inv,by rw[bH];exact hz,?_,k _ H (Same.refl _) (.str _)⟩);show (qQ z.cps.toList.length i).bind (fun j=>z.cps.toList[j]?)=some c;rw[e1];exact e2
     ·cases m'
   | _=>cases m
 | _=>cases dx <;> cases m
end
section
variable {prog:Program}{w:World}{A:Around}{E:Value->Shared->Prop}{s:Shared}
def iG {t sl:Addr}{items:Array Value}{vl vu:Value}{lo hi:Option Int}{Q:Value->Shared->Prop}(ht:IsTup s.heap t items)(hs:s.heap.IsSliceOf sl vl vu .none)(pl:IsPart vl lo)(pu:IsPart vu hi)
 (hw:HT.sIx items.size 0 lo=0/\HT.sIx items.size items.size hi=items.size) (h:Q (.ref t) s):wpAny (model prog w) A (getItem (.ref t) (.ref sl)) Q E s:=by
 obtain⟨os,hos,hcs,hds⟩:=id hs;have hTs:s.TypeIs (.ref sl) "slice":=⟨os,hos,hcs⟩;unfold getItem;try with_reducible refine wpAny_holding ?_
 first | refine wpAny_bind (wpAny_pure ?_) | skip
 refine wpAny_bind (wpAny_sequenceKey ht.typeIs (by decide) ?_);refine wpAny_bind (wpAny_callSpecial?_slot (name:=Str.ofString "__getitem__") ht.typeIs PyProof.Rows.slot_tuple_getitem
  (wpAny_call_entry PyProof.Rows.slot_tuple_getitem ht.typeIs entry_tuple_getitem ?_ (args_tuple_getitem _ _)))
 show wpAny _ _ (Builtin.Tuple.tupleItemsOf (.ref t) >>= _) _ _ s;refine wpAny_bind (tupleItemsOf_ ht ?_);refine wpAny_bind (wpAny_typeOf hTs ?_);rw[if_pos (by decide)];refine wpAny_bind (HT.sliceApplied_gen hs pl pu ?_);have hyes:((((HT.sIx items.size 0 lo:Nat):Int)==0&&(1:Int)==1&&(HT.sIx items.size items.size hi-HT.sIx items.size 0 lo)==items.size)=true):=by
  rw[hw.1,hw.2];simp
 show wpAny _ _ (if (((HT.sIx items.size 0 lo:Nat):Int)==0&&(1:Int)==1&&(HT.sIx items.size items.size hi-HT.sIx items.size 0 lo)==items.size)=true then _ else _) _ _ s;rw[if_pos hyes];unfold Builtin.Tuple.tupleIsExact;refine wpAny_bind (wpAny_bind (wpAny_typeOf ht.typeIs (wpAny_pure ?_)));rw[if_pos (by decide)];refine wpAny_bind (wpAny_rule ?_)
 first
  | exact wpAny_pure ⟨_,rfl,wpAny_pure h⟩
  | exact wpAny_bind (wpAny_pure (wpAny_pure ⟨_,rfl,wpAny_pure h⟩))
end
section
variable {X:Cx}{a b c e:Expr}{es:List Expr}{ma mb mc md me:ME}{pos p p2 p3:Pos}
def GG (K:PySem.W.Frag):V->Option Int->Option Int->Hp->VK->Prop:=fun x lo hi H Q=>∃a xs,x=.ref a/\SqT K H a xs/\(HT.sIx xs.length 0 lo=0/\HT.sIx xs.length xs.length hi=xs.length)/\Q (.ref a) H
def oY:SlR X (GG X.K):=by
 intro pins s σ H x v vl vu lo hi sl Q I rx hs pl pu h;obtain⟨a,xs,rfl,hx,hw,q⟩:=h;cases rx;obtain⟨its,r,ht,hz⟩:=I.tuple hx;have hlen:its.toArray.size=xs.length:=by rw[List.size_toArray];exact r.length.symm
 exact⟨"tuple",_,PyProof.Rows.slot_tuple_getitem.lookup,ht.typeIs,iG ht hs pl pu (by rw[hlen];exact hw) ⟨.ref a,H,I,rfl,q⟩⟩
def oC (xs:List V)(k:Nat):jO xs none (some (k:Int))=xs.take k:=by
 unfold jO;rw[HT.sIx_none,HT.sIx_nat,List.drop_zero,Nat.sub_zero];rcases Nat.le_total k xs.length with h | h
 ·rw[Nat.min_eq_left h]
 ·rw[Nat.min_eq_right h,List.take_length,List.take_of_length_le h]
def AG (k:Nat){j:Nat}(he:DE X e me):DE X (.Subscript e (.Slice none (some (.Constant (.int k) j p3)) none p2) pos) (kF (Df k) me):=by
 obtain⟨te,pe,qe⟩:=he;refine⟨_,lI (sl_list.or (sl_tup.or oY)) pe vK (pq gR),fun os σ H δ d Q s m kq=>?_⟩;obtain⟨dx,e1,m⟩:=af m;refine qe os σ H δ dx _ s e1 fun x H1 g1 r1=>⟨(k:Int),rfl,?_⟩;cases dx with
 | lst ds =>
   cases m;obtain⟨a,xs,rfl,h1,h2⟩:=r1.lst_up;refine .inl ⟨a,xs,rfl,h1,fun q hq=>?_⟩;rw[oC];exact kq _ _ (g1.trans (aF hq (.lst (xs.take k)))) (.newL (s.live.mono g1) hq (h2.take k))
 | tup ds =>
   cases m;obtain⟨a,xs,rfl,h1,h2⟩:=r1.tup_up;have hl:=h2.length;by_cases hw:xs.length<=k
   ·refine .inr (.inr ⟨a,xs,rfl,h1,⟨HT.sIx_none _ _,by rw[HT.sIx_nat];omega⟩,?_⟩);rw[List.take_of_length_le (by omega)] at kq;exact kq _ H1 g1 r1
   ·refine .inr (.inl ⟨a,xs,rfl,h1,fun z=>?_,fun q hq=>?_⟩)
    ·rw[HT.sIx_nat] at z;omega
    ·rw[oC];exact kq _ _ (g1.trans (aF hq (.tup (xs.take k)))) (.newT (s.live.mono g1) hq (h2.take k))
 | _=>cases m
end
open AutoSeq1 (wpAny_loadPart')
section
variable {prog:Program}{w:World}{A:Around}{E:Value->Shared->Prop}{s:Shared}{it l:Addr}{i:Nat}{items:Array Value}
def yu {x:Value}{Q:PySem.Fin->Shared->Prop}(a:s.heap.IsTupleIter it l i)(b:s.heap.IsTuple l items)(hx:items[i]? = some x)
 (k:∀h',h'.IsTupleIter it l (i+1)->Heap.SameBut it s.heap h'->Q (.done (.ret x)) { s with heap:=h' }):wpAny (model prog w) A (Builtin.«tuple_iterator.__next__» ⟨[.ref it],[]⟩) Q E s:=by
 obtain⟨o,ho,hc,hd⟩:=a;obtain⟨p,hp,_,n,hq⟩:=b
 wp_walk using wpAny_field ho hd (x:=.ref l) rfl,wpAny_field ho hd (x:=.int i 0) rfl,wpAny_seqItems hp hq
 rw[show items[(i:Int).toNat]? = some x from hx];refine wpAny_bind (wpAny_setField ho hd (Nat.lt_succ_self 1) (wpAny_pure (k _ ⟨_,Heap.get?_update_self _ ho ?_,?_,?_⟩ (Heap.SameBut.update ..))))
 ·exact Obj.isFreed_of_fields (Obj.data_mapFields hd _)
 ·rw[Obj.cls_mapFields,hc]
 ·rw[Obj.data_mapFields hd];rfl
def yt {Q:PySem.Fin->Shared->Prop}(hh:A.handled=none)(a:s.heap.IsTupleIter it l i)(b:s.heap.IsTuple l items)(hx:items[i]? = none)
 (k:∀h' e,Heap.ExtBut it s.heap h'->(∃o,h'.get? e=some o/\o.cls=.type "StopIteration")->E (.ref e) { s with heap:=h' }):wpAny (model prog w) A (Builtin.«tuple_iterator.__next__» ⟨[.ref it],[]⟩) Q E s:=by
 obtain⟨o,ho,hc,hd⟩:=a;obtain⟨p,hp,_,n,hq⟩:=b
 wp_walk using wpAny_field ho hd (x:=.ref l) rfl,wpAny_field ho hd (x:=.int i 0) rfl,wpAny_seqItems hp hq
 rw[show items[(i:Int).toNat]? = none from hx];refine wpAny_bind (wpAny_rule (wpAny_bind (wpAny_setField ho hd (Nat.succ_pos 1) ?_)));unfold Builtin.SmallTypes.stopIteration;wp_walk;refine wpAny_raiseNew_none hh (k _ _ (((Heap.SameBut.update s.heap it _).extBut.push _).push _) ?_);exact⟨_,Heap.get?_push_size _ rfl,rfl⟩
end
noncomputable def jf (l:Addr):Obj:={ cls:=.type "tuple_iterator",data:=.fields #[.ref l,.int 0 0] }
noncomputable def mB (j:Addr):Obj:={ cls:=.type "enumerate",data:=.fields #[.none,.bool false,.ref j,rawInt 0,.none,.none] }
def xP (l:Addr)(items:Array Value)(n:Nat)(dd:Option Addr)(sl:Array (Option Value)):Meets (Builtin.«enumerate.__new__» ⟨[.type "enumerate",.ref l],[]⟩) fun _ R s =>
 s.heap.get? l=some ⟨.type "tuple",dd,.seq items n,sl⟩/\R (.ok (.ret (.ref (s.heap.objs.size+1)))) { s with heap:=(s.heap.push (jf l)).push (mB s.heap.objs.size) }:=by
 refine .of_wp fun prog w A R s h=>?_;rcases s with ⟨hp,g,d,tk,os⟩;have tup:Heap.IsTuple hp l items:=⟨_,h.1,rfl,n,rfl⟩;have sub:=sub_enumerate;have fin:=h.2;rw[<-Heap.size_push hp (jf l)] at fin;wp_walk using wpAny_loadPart' h.1;refine wpAny_stack_any fun _=>wpAny_pure ?_;split <;> (try (rename_i c _ _ _ _ _;cases (c==Value.type "enumerate"))) <;> (wp_walk using wpAny_loadPart' h.1,wpAny_pyIter_tuple (s:=⟨hp,g,d,tk,os⟩) tup) <;> exact⟨_,rfl,fin⟩
section
variable {prog:Program}{w:World}{A:Around}{E:Value->Shared->Prop}{s:Shared}{it l:Addr}{items:Array Value}
def kQ {Q:Value->Shared->Prop}(t:s.heap.IsTuple l items)
 (k:∀h',IsEnum h' (s.heap.objs.size+1) s.heap.objs.size 0 .none->h'.IsTupleIter s.heap.objs.size l 0->(∀b o,s.heap.get? b=some o->h'.get? b=some o)->Q (.ref (s.heap.objs.size+1)) { s with heap:=h' }) :
 wpAny (model prog w) A (call (.type "enumerate") [.ref l]) Q E s:=by
 obtain⟨⟨c,dd,dt,sl⟩,hl,rfl,n,rfl⟩:=t;have z:=Heap.size_push s.heap (jf l);have top:=Heap.get?_push_size (s.heap.push (jf l)) (o:=mB s.heap.objs.size) rfl;rw[z] at top;have low:=Heap.get?_push_of_some (mB s.heap.objs.size) (Heap.get?_push_size s.heap (o:=jf l) rfl);exact callType_new F.called_enumerate (by decide) (F.typeCall_enumerate_1 _) (F.newCall_enumerate_1 _) (fun _=>F.args_object_init_2 _ _) F.entry_enumerate_new (xP l items n dd sl)
  ⟨hl,⟨_,top,rfl⟩,k _ top ⟨_,low,rfl,rfl⟩ fun b o q=>Heap.get?_push_of_some _ (Heap.get?_push_of_some _ q)⟩
def vT {Q:Value->Shared->Prop}{i:Nat}(a:s.heap.IsTupleIter it l i)(h:wpAny (model prog w) A.in1 (Builtin.«tuple_iterator.__next__» ⟨[.ref it],[]⟩) (fun f s'=>∃x,f=.done (.ret x)/\Q x s') E s):wpAny (model prog w) A (Builtin.SmallTypes.nextOf (.ref it)) Q E s:=by
 refine wpAny_bind (wpAny_callSpecial?_slot a.typeIs F.slot_tuple_iterator_next (wpAny_call_entry F.slot_tuple_iterator_next a.typeIs F.entry_tuple_iterator_next (wpAny_mono h (fun f s' r=>?_) fun _ _ z=>z) (F.args_tuple_iterator_next_1 _)));obtain⟨x,rfl,q⟩:=r;exact⟨x,rfl,wpAny_pure q⟩
def kH (hh:A.handled=none)(ne:l≠it)(items:Array Value):Draws prog w A it [it,l] items.size (fun i v=>items[i]? = some v) fun i h=>h.IsTupleIter it l i/\h.IsTuple l items:=by
 constructor
 ·rintro i h ⟨⟨o,q,_⟩,_⟩;exact⟨o,q⟩
 ·rintro i h h' ⟨a,b⟩ k;exact⟨a.at (k it (by simp)),b.at (k l (by simp))⟩
 ·rintro i s Q E hi ⟨a,b⟩ k;have hx:items[i]? = some items[i]:=by simp[hi]
  exact vT a (yu a b hx fun h' a' sb=>⟨_,rfl,k _ h' s.toks hx ⟨a',b.extBut sb.extBut ne⟩ sb⟩)
 ·rintro s Q E ⟨a,b⟩ k;exact vT a (yt hh a b (by simp) k)
end
section
variable {X:Cx}{pins:List (Addr×Obj)}{σ:L2.St}{H:Hp}{s:Shared}{h':Heap}
def je {fp:List Addr}{t':Nat}(I:Inv X pins σ H s)(hf:∀b∈fp,ik X pins H b)(k:∀b o,b∉fp->s.heap.get? b=some o->h'.get? b=some o):Inv X pins σ H { s with heap:=h',toks:=t' }:=by
 have nit:∀b u,H b=some u->b∉fp:=fun b u e z=>by rw[(hf b z).1] at e;cases e
 refine I.step (g':=s.gens) (d':=s.drawn) (ch:=fp) (fun b hb=>⟨(hf b hb).2.2.2.1,(hf b hb).2.1,(hf b hb).2.2.2.2.1,(hf b hb).2.2.2.2.2⟩) (fun b o _ _ hc e _=>k b o hc e) (fun b o _ _ hc e _=>⟨o.slots,k b o hc e⟩) (fun _ _ _ _ n=>n)
  (fun b o hc e=>⟨o,k b o hc e⟩) (fun _ _ e=>e) (fun _ _ _ e=>e) (fun b ps e=>⟨#[],by rw[e];simp⟩) (fun m hm=>?_) (fun b u e=>?_) I.bare
 ·obtain⟨o,es,ep,ho,r⟩:=hm;exact⟨o,es,ep,k _ o (fun z=>(hf _ z).2.1 rfl) ho,r⟩
 ·refine(I.hok b u e).stay (fun c v hc q=>k c v ?_ q) (fun _ q=>q) fun _ _ q=>q;rcases hc with z | z
  ·rw[z];exact nit b u e
  ·exact nit c _ z
def Gf (sq:Hp->Addr->List V->Prop)(a:Addr):It :=
 ⟨fun i H=>∃xs x,sq H a xs/\xs[i]? = some x,fun i H p H'=>∃x t,(∀xs,sq H a xs->xs[i]? = some x)/\H t=none/\p=.ref t/\H'=bm H t (.tup [.int i,x]),fun i H=>∃xs,sq H a xs/\i=xs.length⟩
def sI {e it T:Addr}{tk tk':Nat}{i:Int}{x:V}{u:Value}{h2:Heap}(I:Inv X pins σ H s)(hf:∀b∈[e,it],ik X pins H b)(hlt:∀b∈[e,it],b<s.heap.objs.size)(hT:T=s.heap.objs.size)(ru:RelV x u)
 (hk:∀b o,b≠e->b≠it->s.heap.get? b=some o->h2.get? b=some o) (ht:h2.get? T=some { cls:=.type "tuple",data:=.seq #[.int i tk,u] }) :
 Inv X pins σ (bm H T (.tup [.int i,x])) { s with heap:=h2,toks:=tk' }:=by
 subst hT;have I1:Inv X pins σ (bm H s.heap.objs.size (.tup [.int i,x])) { s with heap:=s.heap.push { cls:=.type "tuple",data:=.seq [Value.int i tk,u].toArray },toks:=tk' }:=by
  refine I.laid (t':=tk') (fun b o q=>Heap.get?_push_of_some _ q) (Nat.le_refl _) ?_;exact⟨by show 2<=sizeLine;rw[bH];decide,[.int i tk,u],.cons ⟨tk,rfl⟩ (.cons ru .nil),IsTup.new _ _⟩
 have T1:=je (t':=tk') (h':=h2) (fp:=[e,it]) I1;refine T1 (fun b hb=>⟨?_,(hf b hb).2⟩) fun b o hb q=>?_
 ·rw[ay (Nat.ne_of_lt (hlt b hb))];exact(hf b hb).1
 ·by_cases hz:b=s.heap.objs.size
  ·subst hz;have q':=(Heap.get?_push_size s.heap (o:={ cls:=.type "tuple",data:=.seq [Value.int i tk,u].toArray }) rfl).symm.trans q;cases q';exact ht
  ·have q':(s.heap.push { cls:=.type "tuple",data:=.seq [Value.int i tk,u].toArray }).get? b=some o:=q;have hlt':b<(s.heap.push { cls:=.type "tuple",data:=.seq [Value.int i tk,u].toArray }).objs.size:=Heap.lt_size q';rw[Heap.size_push] at hlt';have hb':b<s.heap.objs.size:=Nat.lt_of_le_of_ne (Nat.le_of_lt_succ hlt') hz;refine hk b o (fun z=>hb (by simp[z])) (fun z=>hb (by simp[z])) ?_;obtain⟨o1,ho1⟩:∃o1,s.heap.get? b=some o1:=by
    cases hg:s.heap.get? b with
    | some o1=>exact⟨o1,rfl⟩
    | none =>
      exfalso;obtain⟨q1,q2⟩:=Heap.get?_some_iff.mp q';have q3:s.heap.objs[b]? = some o:=by
       revert q1
       generalize s.heap=hh at hb' ⊢;cases hh;intro q1;simpa[Heap.push,Array.getElem?_push,Nat.ne_of_lt hb'] using q1
      rw[Heap.get?_some_iff.mpr ⟨q3,q2⟩] at hg;cases hg
   have:=Heap.get?_push_of_some { cls:=.type "tuple",data:=.seq [Value.int i tk,u].toArray } ho1;rw[q'] at this;cases this;exact ho1
def tM {P:Program}{w:World}{K:PySem.W.Frag}{elts:List Expr}{k:Nat}{pos:Pos}(a e it:Addr):Turn P w K (.Tuple elts k pos) (Gf (SqT K) a) [e,it] e (fun i h=>e≠it/\(∃old,IsEnum h e it i old)/\h.IsTupleIter it a i) where
 mem:=by simp
 obj:=fun i h st b hb=>by
  obtain⟨_,⟨old,he⟩,o,ho,c,d⟩:=st;rcases List.mem_cons.mp hb with rfl | hb
  ·exact⟨_,he,fun v z=>by cases z⟩
  ·rw[List.mem_singleton.mp hb];exact⟨o,ho,fun v z=>by rw[d] at z;cases z⟩
 keep:=fun i h h' st k=>by
  obtain⟨ne,⟨old,he⟩,o,ho,r⟩:=st;exact⟨ne,⟨old,k e (by simp) _ he⟩,o,k it (by simp) o ho,r⟩
 item:=by
  intro X hP hw hK hc i pins s σ H E I hf st hg;subst hP hw hK;obtain⟨hne,⟨old,he⟩,hit⟩:=st;obtain⟨xs,x,hq,hx⟩:=hg;obtain⟨its,rv,p,hz⟩:=I.tuple hq;obtain⟨u,hu,ru⟩:=rv.get hx;have p':s.heap.IsTuple a its.toArray:=p;have hai:a≠it:=fun z=>by
   obtain⟨o,e1,c1,_⟩:=p';obtain⟨o',e2,c2,_⟩:=hit;rw[z,e2] at e1;cases e1;rw[c2] at c1;injection c1 with c1;exact absurd c1 (by decide)
  have hae:e≠a:=fun z=>by
   obtain⟨o,e1,c1,_⟩:=p';rw[<-z,he] at e1;cases e1;injection c1 with c1;exact absurd c1 (by decide)
  have hil:i<its.toArray.size:=by
   rw[List.size_toArray];exact(List.getElem?_eq_some_iff.mp hu).1
  have ltE:e<s.heap.objs.size:=Heap.lt_size he;have ltI:it<s.heap.objs.size:=by obtain⟨o,q,_⟩:=hit;exact Heap.lt_size q
  refine wpAny_pyNext_enum_itemD (kH (A:=X.A.in1) (I.ok.hd hc) hai its.toArray) he ⟨hit,p'⟩ hil hne (by simp[hne,hae]) fun y h1 tk hy ho hs1 hT hsz hk=>?_;have hyu:y=u:=by
   have hy':its.toArray[i]? = some y:=hy;have hu':its.toArray[i]? = some u:=by simpa using hu
   rw[hu'] at hy';exact(Option.some.inj hy').symm
  subst hyu;refine⟨_,rfl,wpAny_letOwnedTupleGo_enum ho fun h2 he2 hs2=>?_⟩;have hs2':Heap.SameBut e h1 h2:=hs2;refine⟨.ref s.heap.objs.size,bm H s.heap.objs.size (.tup [.int i,x]),?_,rfl,⟨x,s.heap.objs.size,fun ys hy'=>by rw[I.tuple_inj hy' hq];exact hx,I.fresh,rfl,rfl⟩,⟨hne,⟨_,by simpa using he2⟩,?_⟩,fun b hb=>?_⟩
  ·refine sI (s:=s) (tk':=tk+1) I hf (fun b hb=>?_) rfl ru (fun b o n1 n2 q=>(hs2'.2 b n1).trans (hk b o n1 n2 q)) ((hs2'.2 _ (Nat.ne_of_gt ltE)).trans hT);rcases List.mem_cons.mp hb with rfl | hb
   ·exact ltE
   ·rw[List.mem_singleton.mp hb];exact ltI
  ·obtain⟨o,q,r⟩:=hs1.1;exact⟨o,(hs2'.2 it hne.symm).trans q,r⟩
  ·have hlt:b<s.heap.objs.size:=by
    rcases List.mem_cons.mp hb with rfl | hb
    ·exact ltE
    ·rw[List.mem_singleton.mp hb];exact ltI
   rw[ay (Nat.ne_of_lt hlt)];exact(hf b hb).1
 done:=by
  intro X hP hw hK hc i pins s σ H E I hf st hg;subst hP hw hK;obtain⟨hne,⟨old,he⟩,hit⟩:=st;obtain⟨xs,hq,hx⟩:=hg;obtain⟨its,rv,p,hz⟩:=I.tuple hq;have hl:=rv.length;have hai:a≠it:=fun z=>by
   obtain⟨o,e1,c1,_⟩:=(show s.heap.IsTuple a its.toArray from p);obtain⟨o',e2,c2,_⟩:=hit;rw[z,e2] at e1;cases e1;rw[c2] at c1;injection c1 with c1;exact absurd c1 (by decide)
  have hi:i=its.toArray.size:=by rw[List.size_toArray];omega
  subst hi;refine wpAny_pyNext_enum_endD (kH (A:=X.A.in1) (I.ok.hd hc) hai its.toArray) he ⟨hit,(show s.heap.IsTuple a its.toArray from p)⟩ fun h' hx'=>⟨rfl,?_⟩;exact je (t':=s.toks) I hf fun b o hb q=>hx' b o (fun z=>hb (by simp[z])) q
 self:=fun _ _ _ _ _ st h=>by
  obtain⟨_,⟨old,he⟩,_⟩:=st;exact wpAny_pyIter_enum he h
def tN {P:Program}{w:World}{K:PySem.W.Frag}{elts:List Expr}{k:Nat}{pos:Pos}(a e it:Addr):Turn P w K (.Tuple elts k pos) (Gf (SqL K) a) [e,it] e (fun i h=>e≠it/\(∃old,IsEnum h e it i old)/\h.IsListIter it a i) where
 mem:=by simp
 obj:=fun i h st b hb=>by
  obtain⟨_,⟨old,he⟩,o,ho,c,d⟩:=st;rcases List.mem_cons.mp hb with rfl | hb
  ·exact⟨_,he,fun v z=>by cases z⟩
  ·rw[List.mem_singleton.mp hb];exact⟨o,ho,fun v z=>by rw[d] at z;cases z⟩
 keep:=fun i h h' st k=>by
  obtain⟨ne,⟨old,he⟩,o,ho,r⟩:=st;exact⟨ne,⟨old,k e (by simp) _ he⟩,o,k it (by simp) o ho,r⟩
 item:=by
  intro X hP hw hK hc i pins s σ H E I hf st hg;subst hP hw hK;obtain⟨hne,⟨old,he⟩,hit⟩:=st;obtain⟨xs,x,hq,hx⟩:=hg;obtain⟨its,rv,p,hz⟩:=I.list hq;obtain⟨u,hu,ru⟩:=rv.get hx;have p':s.heap.IsList a its.toArray:=p.isList;have hai:a≠it:=fun z=>by
   obtain⟨o,e1,c1,_⟩:=p';obtain⟨o',e2,c2,_⟩:=hit;rw[z,e2] at e1;cases e1;rw[c2] at c1;injection c1 with c1;exact absurd c1 (by decide)
  have hae:e≠a:=fun z=>by
   obtain⟨o,e1,c1,_⟩:=p';rw[<-z,he] at e1;cases e1;injection c1 with c1;exact absurd c1 (by decide)
  have hil:i<its.toArray.size:=by
   rw[List.size_toArray];exact(List.getElem?_eq_some_iff.mp hu).1
  have ltE:e<s.heap.objs.size:=Heap.lt_size he;have ltI:it<s.heap.objs.size:=by obtain⟨o,q,_⟩:=hit;exact Heap.lt_size q
  refine wpAny_pyNext_enum_itemD (Draws.list (A:=X.A.in1) (I.ok.hd hc) it a hai its.toArray) he ⟨hit,p'⟩ hil hne (by simp[hne,hae]) fun y h1 tk hy ho hs1 hT hsz hk=>?_;have hyu:y=u:=by
   have hy':its.toArray[i]? = some y:=hy;have hu':its.toArray[i]? = some u:=by simpa using hu
   rw[hu'] at hy';exact(Option.some.inj hy').symm
  subst hyu;refine⟨_,rfl,wpAny_letOwnedTupleGo_enum ho fun h2 he2 hs2=>?_⟩;have hs2':Heap.SameBut e h1 h2:=hs2;refine⟨.ref s.heap.objs.size,bm H s.heap.objs.size (.tup [.int i,x]),?_,rfl,⟨x,s.heap.objs.size,fun ys hy'=>by rw[I.list_inj hy' hq];exact hx,I.fresh,rfl,rfl⟩,⟨hne,⟨_,by simpa using he2⟩,?_⟩,fun b hb=>?_⟩
  ·refine sI (s:=s) (tk':=tk+1) I hf (fun b hb=>?_) rfl ru (fun b o n1 n2 q=>(hs2'.2 b n1).trans (hk b o n1 n2 q)) ((hs2'.2 _ (Nat.ne_of_gt ltE)).trans hT);rcases List.mem_cons.mp hb with rfl | hb
   ·exact ltE
   ·rw[List.mem_singleton.mp hb];exact ltI
  ·obtain⟨o,q,r⟩:=hs1.1;exact⟨o,(hs2'.2 it hne.symm).trans q,r⟩
  ·have hlt:b<s.heap.objs.size:=by
    rcases List.mem_cons.mp hb with rfl | hb
    ·exact ltE
    ·rw[List.mem_singleton.mp hb];exact ltI
   rw[ay (Nat.ne_of_lt hlt)];exact(hf b hb).1
 done:=by
  intro X hP hw hK hc i pins s σ H E I hf st hg;subst hP hw hK;obtain⟨hne,⟨old,he⟩,hit⟩:=st;obtain⟨xs,hq,hx⟩:=hg;obtain⟨its,rv,p,hz⟩:=I.list hq;have hl:=rv.length;have hai:a≠it:=fun z=>by
   obtain⟨o,e1,c1,_⟩:=p.isList;obtain⟨o',e2,c2,_⟩:=hit;rw[z,e2] at e1;cases e1;rw[c2] at c1;injection c1 with c1;exact absurd c1 (by decide)
  have hi:i=its.toArray.size:=by rw[List.size_toArray];omega
  subst hi;refine wpAny_pyNext_enum_endD (Draws.list (A:=X.A.in1) (I.ok.hd hc) it a hai its.toArray) he ⟨hit,p.isList⟩ fun h' hx'=>⟨rfl,?_⟩;exact je (t':=s.toks) I hf fun b o hb q=>hx' b o (fun z=>hb (by simp[z])) q
 self:=fun _ _ _ _ _ st h=>by
  obtain⟨_,⟨old,he⟩,_⟩:=st;exact wpAny_pyIter_enum he h
end
section
variable {X:Cx}{a:Expr}{ma:ME}{pos pos' p:Pos}{elts:List Expr}{kt:Nat}
def Eh (K:PySem.W.Frag)(ta:TA):TI:=fun σ H R=>ta σ H fun vs H1=>∃a,vs=[.ref a]/\(((∃xs,SqL K H1 a xs)/\R (Gf (SqL K) a) H1)\/((∃xs,SqT K H1 a xs)/\R (Gf (SqT K) a) H1))
def BH {ta:TA}(hg:Gl X "enumerate")(hm:X.mg "enumerate"=none)(ha:PA X [a] ta)(hs:starEach [a] X.env=[(false,eval a X.env)]:=by rfl) :
 PI X (.Tuple elts kt pos') (.Call (.Name "enumerate" p) [a] [] pos) (Eh X.K ta):=by
 intro pins s σ H R I h;refine Call_ (gp I hg hm boot_enumerate (PyProof.Rows.callWith_type1 (bC (ha pos pins s σ H _ I h) fun us s1 ⟨vs,H1,I1,r1,q1⟩=>?_) hs rfl));obtain⟨a,e,q⟩:=q1;subst e;cases r1 with
 | cons r rr =>
   cases rr;cases r;have fp:∀b∈[s1.heap.objs.size+1,s1.heap.objs.size],ik X pins H1 b:=fun b hb=>by
    have e:s1.heap.objs.size<=b:=by
     rcases List.mem_cons.mp hb with rfl | hb
     ·exact Nat.le_succ _
     ·rw[List.mem_singleton.mp hb];exact Nat.le_refl _
    exact I1.fpOk e (I1.hok.fresh e)
   rcases q with ⟨⟨xs,hq⟩,q⟩ | ⟨⟨xs,hq⟩,q⟩
   ·obtain⟨its,rv,p,hz⟩:=I1.list hq;refine call_enumerate_list p.isList fun h' he hit hsz hk=>wpAny_pyIter_enum he ?_;exact⟨s1.heap.objs.size+1,[s1.heap.objs.size+1,s1.heap.objs.size],_,_,H1,rfl,I1.kept (t':=s1.toks) hk,tN a _ _,⟨Nat.succ_ne_self _,⟨_,he⟩,hit⟩,fp,q⟩
   ·obtain⟨its,rv,p,hz⟩:=I1.tuple hq;refine kQ (show s1.heap.IsTuple a its.toArray from p) fun h' he hit hk=>wpAny_pyIter_enum he ?_;exact⟨s1.heap.objs.size+1,[s1.heap.objs.size+1,s1.heap.objs.size],_,_,H1,rfl,I1.kept (t':=s1.toks) hk,tM a _ _,⟨Nat.succ_ne_self _,⟨_,he⟩,hit⟩,fp,q⟩
def mz:∀(ds:List D) (k i:Nat) (d:D),(cQ k ds)[i]? = some d->∃e,ds[i]? = some e/\d=.tup [.int ((k+i:Nat):Int),e]
 | [],_,_,_,h=>by simp[cQ] at h
 | e::ds,k,0,d,h=>by
   simp[cQ] at h;exact⟨e,rfl,by rw[<-h];rfl⟩
 | e::ds,k,i+1,d,h=>by
   have h':(cQ (k+1) ds)[i]? = some d:=by simpa[cQ] using h
   obtain⟨e',h1,h2⟩:=mz ds (k+1) i d h';refine⟨e',by simpa using h1,?_⟩;rw[h2,show k+1+i=k+(i+1) by omega]
def iy:∀(ds:List D) (k:Nat),(cQ k ds).length=ds.length
 | [],_=>rfl
 | _::ds,k=>by simp[cQ,iy ds (k+1)]
def nw {K:PySem.W.Frag}{B:Hp}{a:Addr}{ds:List D}{xs:List V}{sq:Hp->Addr->List V->Prop}(hm:∀{H':Hp},Same B H'->sq H' a xs)(h2:Dens K B ds xs):Walk K (Gf sq a) B (cQ 0 ds):=by
 intro i os1 H1 L g;have gu:=g.trans hide_le;refine⟨fun d hd=>?_,fun hl=>⟨xs,hm gu,by rw[<-h2.length,<-iy ds 0];exact hl⟩⟩;obtain⟨e,he,rfl⟩:=mz ds 0 i d hd;obtain⟨x,hx,r⟩:=h2.get he;refine⟨⟨xs,x,hm gu,hx⟩,fun y H2 z=>?_⟩;obtain⟨x',t,z,ht,rfl,rfl⟩:=z;have:=z xs (hm gu);rw[hx] at this;cases this;refine⟨aF ht (.tup [.int i,x]),.newT L ht ?_⟩;rw[Nat.zero_add];exact .cons (.int _) (.cons (r.mono g _ _) .nil)
def ww (hg:Gl X "enumerate")(hm:X.mg "enumerate"=none)(h:DE X a ma)(hs:starEach [a] X.env=(false,eval a X.env)::starEach [] X.env:=by rfl)(hs':starEach [a] X.env=[(false,eval a X.env)]:=by rfl) :
 DI X (.Tuple elts kt pos') (.Call (.Name "enumerate" p) [a] [] pos) (mq ma):=by
 obtain⟨t,pt,q⟩:=h;refine⟨_,BH hg hm (aI pt bF hs) hs',fun os σ H δ xs R s m k=>?_⟩;obtain⟨d,e1,m⟩:=af m;refine q os σ H δ d _ s e1 fun v H1 g1 r1=>?_;cases d with
 | tup ds =>
   cases m;obtain⟨a,ys,rfl,h1,h2⟩:=r1.tup_inv;exact⟨a,rfl,.inr ⟨⟨ys,.of (hide_le _ _ h1)⟩,k _ H1 g1 (nw (fun g=>.of (g _ _ h1)) h2)⟩⟩
 | lst ds =>
   cases m;obtain⟨a,ys,rfl,h1,h2⟩:=r1.lst_inv;exact⟨a,rfl,.inl ⟨⟨ys,hide_le.seq h1⟩,k _ H1 g1 (nw (fun g=>g.seq h1) h2)⟩⟩
 | _=>cases m
end
def Eo {P:Program}{w:World}{K:PySem.W.Frag}{mg:Str->Option Value}{base:Heap}{x qual:Str}{st:Stmt}{f:Addr}{fd:FuncData}{N ps:List Str}{k kk:Nat}{m:MS}{M:MF}(hkk:N.length<=kk)(F:Fun K x qual st f fd)(S:dG N ps (au st))
 (hM:M=fJ ps.length kk m)
 (h:∀(cdv:Value) (A:Around) (outer:List Env) (s:Shared) (H:Hp) (E:XK),Room k (A.deeper (envOfC qual (au st) s.heap.objs.size f cdv)) ->
  tz (kf lc P w K mg base N qual (au st) f cdv A outer s H E).nox False (cW st) m) :
 gC P w K mg base lc (k+1) f fd ps (tD K M):=by
 rw[hM];exact F2 hkk F S h
section
variable {X:Cx}{os:List Addr}{H H':Hp}{δ:Ev}{σ:L2.St}
def xf {i:Nat}(h:i<δ.length)(e:slot δ i=none):δ[i]? = some none:=by
 unfold slot at e;rw[List.getElem?_eq_getElem h] at e ⊢;exact congrArg some e
def Sl.own_at (s:Sl X os H δ σ){n i:Nat}{d:D}(hn:X.N.length=n)(hi:i<n)(h:ownAt n i δ=some d) :
 δ[i]? = some none/\δ[n+i]? = some (some d)/\∃a,σ[i]? = some (some (.ref a))/\a∈os/\(X.fn ""=true->X.H₀ a=none)/\Own X.K (hide os H) H a d:=by
 subst hn;unfold ownAt at h;cases e:slot δ i with
 | some y=>rw[e] at h;cases h
 | none =>
   rw[e] at h;have h1:=xf (Nat.lt_of_lt_of_le hi s.len) e;have h2:=im h;exact⟨h1,h2,s.ow i d hi h1 h2⟩
def Sl.make (s:Sl X os H δ σ){n i:Nat}{d:D}{p:Addr}(hn:X.N.length=n)(hi:i<n)(g:Same H H')(hp:H p=none)(o:Own X.K (hide (p::os) H') H' p d):Sl X (p::os) H' (f9 n i d δ) (σ.set i (some (.ref p))):=by
 subst hn;have np:=s.live.ne hp;have big:Same (hide os H) (hide (p::os) H'):=fun b u e=>by
  have hb:b∉os:=fun z=>by rw[aX z] at e;cases e
  rw[ao hb] at e;have hbp:b≠p:=aC e hp;rw[ao (by simp[hb,hbp])];exact g _ _ e
 have lv:∃u,H' p=some u/\C9 u:=by
  cases d with
  | lst ds=>obtain⟨xs,h1,_⟩:=o;exact⟨_,h1,True.intro⟩
  | dic t ks vs=>obtain⟨xs,h1,_⟩:=o;rcases h1 with ⟨_,_,h1,_⟩ | ⟨_,_,h1,_⟩ <;> exact⟨_,h1,True.intro⟩
  | _=>exact o.elim
 have own_up:∀{a:Addr} {e:D},Own X.K (hide os H) H a e->Own X.K (hide (p::os) H') H' a e:=fun {a e} h=>by
  cases e with
  | lst ds=>obtain⟨xs,h1,h2⟩:=h;exact⟨xs,g _ _ h1,h2.mono big _ _⟩
  | dic t ks vs=>obtain⟨xs,h1,h2⟩:=h;exact⟨xs,h1.mono g,h2.mono big _ _⟩
  | _=>exact h
 have hid:i<δ.length:=Nat.lt_of_lt_of_le hi s.len;have ie:∀{e:D},(f9 X.N.length i d δ)[X.N.length+i]? = some (some e)->e=d:=fun {e} h=>by
  unfold f9 at h;by_cases hl:X.N.length+i<δ.length
  ·rw[List.getElem?_set_self (by simpa using hl)] at h;cases h;rfl
  ·rw[List.getElem?_eq_none (by simpa using hl)] at h;cases h
 have off:∀{j:Nat},j≠i->j≠X.N.length+i->(f9 X.N.length i d δ)[j]? = δ[j]?:=fun {j} h1 h2=>by
  unfold f9;rw[List.getElem?_set_ne (Ne.symm h2),List.getElem?_set_ne (Ne.symm h1)]
 have self_none:(f9 X.N.length i d δ)[i]? = some none:=by
  unfold f9;rw[List.getElem?_set_ne (by omega),List.getElem?_set_self hid]
 have sig:∀{j:Nat},j≠i->(σ.set i (some (V.ref p)))[j]? = σ[j]?:=fun {j} h=>List.getElem?_set_ne (Ne.symm h);have sigi:(σ.set i (some (V.ref p)))[i]? = some (some (.ref p)):=List.getElem?_set_self (by rw[s.n];exact hi);have p0:X.H₀ p=none:=s.keep.free hp;refine⟨by simpa using s.n,by unfold f9;simpa using s.len,fun j e hj h=>?_,fun j e hj h1 h2=>?_,fun j k e f a hj hk h1 h2 h3 h4 h5 h6=>?_,fun a ha=>?_,s.keep.trans g⟩
 ·by_cases hji:j=i
  ·subst hji;rw[self_none] at h;cases h
  ·rw[off hji (by omega)] at h;obtain⟨v,e1,r⟩:=s.pl j e hj h;exact⟨v,(sig hji).trans e1,r.mono big _ _⟩
 ·by_cases hji:j=i
  ·subst hji;have:=ie h2;subst this;exact⟨p,sigi,List.mem_cons_self,fun _=>p0,o⟩
  ·rw[off hji (by omega)] at h1;rw[off (by omega) (by omega)] at h2;obtain⟨a,e1,e2,e3,e4⟩:=s.ow j e hj h1 h2;exact⟨a,(sig hji).trans e1,List.mem_cons_of_mem _ e2,e3,own_up e4⟩
 ·by_cases hji:j=i
  ·by_cases hki:k=i
   ·rw[hji,hki]
   ·exfalso;subst hji;rw[off hki (by omega)] at h2;rw[off (by omega) (by omega)] at h4;obtain⟨a',e1,e2,_⟩:=s.ow k f hk h2 h4;rw[sigi] at h5;rw[sig hki,e1] at h6;cases h5;cases h6;exact np e2
  ·rw[off hji (by omega)] at h1;rw[off (by omega) (by omega)] at h3;by_cases hki:k=i
   ·exfalso;subst hki;obtain⟨a',e1,e2,_⟩:=s.ow j e hj h1 h3;rw[sigi] at h6;rw[sig hji,e1] at h5;cases h5;cases h6;exact np e2
   ·rw[off hki (by omega)] at h2;rw[off (by omega) (by omega)] at h4;exact s.inj j k e f a hj hk h1 h2 h3 h4 ((sig hji).symm.trans h5) ((sig hki).symm.trans h6)
 ·rcases List.mem_cons.mp ha with rfl | ha
  ·exact lv
  ·exact(s.live.mono g) a ha
def Ce {p:Addr}(g:Same H H')(hp:H p=none):Fr X os H (p::os) H':=by
 refine⟨fun b u e=>?_,fun b h _=>List.mem_cons_of_mem _ h⟩;have hb:b∉os:=fun z=>by rw[aX z] at e;cases e
 rw[ao hb] at e;have hbp:b≠p:=aC e hp;rw[ao (by simp[hb,hbp])];exact g _ _ e
def Sl.chg (s:Sl X os H δ σ){n i:Nat}{d d':D}{a:Addr}{o:HO}(hn:X.N.length=n)(hi:i<n)(hfn:X.fn ""=true)(h:ownAt n i δ=some d)(ha:σ[i]? = some (some (.ref a)))(ho:Own X.K (hide os H) (bm H a o) a d') :
 Sl X os (bm H a o) (δ.set (n+i) (some d')) σ/\Fr X os H os (bm H a o):=by
 obtain⟨h1,h2,a',e1,e2,e3,e4⟩:=s.own_at hn hi h;subst hn;rw[ha] at e1;cases e1;have hd:hide os (bm H a o)=hide os H:=by
  funext b
  by_cases hb:b∈os
  ·rw[aX hb,aX hb]
  ·rw[ao hb,ao hb,ay (fun z:b=a=>hb (by rw[z];exact e2))]
 have off:∀{j:Nat},j≠X.N.length+i->(δ.set (X.N.length+i) (some d'))[j]? = δ[j]?:=fun {j} h=>List.getElem?_set_ne (Ne.symm h);have ie:∀{e:D},(δ.set (X.N.length+i) (some d'))[X.N.length+i]? = some (some e)->e=d':=fun {e} h=>by
  by_cases hl:X.N.length+i<δ.length
  ·rw[List.getElem?_set_self hl] at h;cases h;rfl
  ·rw[List.getElem?_eq_none (by simpa using hl)] at h;cases h
 have back:∀{j:Nat} {e:D},j<X.N.length->(δ.set (X.N.length+i) (some d'))[X.N.length+j]? = some (some e)->∃e',δ[X.N.length+j]? = some (some e'):=fun {j e} hj h=>by
  by_cases hji:j=i
  ·subst hji;exact⟨d,h2⟩
  ·rw[off (by omega)] at h;exact⟨e,h⟩
 refine⟨⟨s.n,by simpa using s.len,fun j e hj h=>?_,fun j e hj q1 q2=>?_,fun j k e f b hj hk q1 q2 q3 q4 q5 q6=>?_,fun b hb=>?_,fun b u e=>?_⟩,⟨by rw[hd];exact Same.refl _,fun _ h _=>h⟩⟩
 ·rw[off (by omega)] at h;obtain⟨v,r1,r2⟩:=s.pl j e hj h;exact⟨v,r1,by rw[hd];exact r2⟩
 ·rw[off (by omega)] at q1;by_cases hji:j=i
  ·subst hji;have:=ie q2;subst this;exact⟨a,ha,e2,e3,by rw[hd];exact ho⟩
  ·rw[off (by omega)] at q2;obtain⟨b,r1,r2,r3,r4⟩:=s.ow j e hj q1 q2;have hba:b≠a:=fun z=>by
    subst z;exact hji (s.inj j i e d b hj hi q1 h1 q2 h2 r1 ha)
   refine⟨b,r1,r2,r3,?_⟩;rw[hd];cases e with
   | lst ds=>obtain⟨xs,w1,w2⟩:=r4;exact⟨xs,(ay hba).trans w1,w2⟩
   | dic t ks vs =>
     obtain⟨xs,w1,w2⟩:=r4;refine⟨xs,?_,w2⟩;rcases w1 with ⟨z,kvs,w1,r⟩ | ⟨z,kvs,w1,r⟩
     ·exact .inl ⟨z,kvs,(ay hba).trans w1,r⟩
     ·exact .inr ⟨z,kvs,(ay hba).trans w1,r⟩
   | _=>exact r4
 ·rw[off (by omega)] at q1 q2;obtain⟨e',w1⟩:=back hj q3;obtain⟨f',w2⟩:=back hk q4;exact s.inj j k e' f' b hj hk q1 q2 w1 w2 q5 q6
 ·by_cases hba:b=a
  ·subst hba;refine⟨o,aA,?_⟩;cases d' with
   | lst ds=>obtain⟨xs,w1,_⟩:=ho;rw[aA] at w1;cases w1;exact True.intro
   | dic t ks vs=>obtain⟨xs,w1,_⟩:=ho;rcases w1 with ⟨_,_,w1,_⟩ | ⟨_,_,w1,_⟩ <;> (rw[aA] at w1;cases w1;exact True.intro)
   | _=>exact ho.elim
  ·obtain⟨u,e,n⟩:=s.live b hb;exact⟨u,(ay hba).trans e,n⟩
 ·rw[ay (aC e (e3 hfn))];exact s.keep b u e
def Sl.frz (s:Sl X os H δ σ){n i:Nat}(hn:X.N.length=n)(hi:i<n):∃os',Sl X os' H (frz n i δ) σ/\(∀b∈os',b∈os)/\(∀b∈os,b∉os'->(X.fn ""=true->X.H₀ b=none)/\∃d,Own X.K (hide os H) H b d):=by
 by_cases hl:∃ds,ownAt n i δ=some (.lst ds)
 ·obtain⟨ds,h⟩:=hl;have ef:DL.frz n i δ=(δ.set i (some (.lst ds))).set (n+i) none:=by unfold DL.frz;rw[h]
  rw[ef];obtain⟨h1,h2,a,e1,e2,e3,e4⟩:=s.own_at hn hi h;subst hn;generalize hd:D.lst ds=d at *;have hid:i<δ.length:=Nat.lt_of_lt_of_le hi s.len;have hid2:X.N.length+i<δ.length:=(List.getElem?_eq_some_iff.mp h2).1;have mem:∀b,b∈os.filter (fun c=>decide (c≠a))↔b∈os/\b≠a:=fun b=>by simp
  have na:a∉os.filter (fun c=>decide (c≠a)):=fun z=>((mem a).mp z).2 rfl;have big:Same (hide os H) (hide (os.filter (fun c=>decide (c≠a))) H):=fun b u e=>by
   have hb:b∉os:=fun z=>by rw[aX z] at e;cases e
   rw[ao hb] at e;rw[ao (fun z=>hb ((mem b).mp z).1)];exact e
  have dn:Den X.K (hide (os.filter (fun c=>decide (c≠a))) H) d (.ref a):=by
   subst hd;obtain⟨xs,w1,w2⟩:=e4;exact .lst (.of ((ao na).trans w1)) (w2.mono big _ _)
  have off:∀{j:Nat},j≠i->j≠X.N.length+i->((δ.set i (some d)).set (X.N.length+i) none)[j]? = δ[j]?:=fun {j} q1 q2=>by
   rw[List.getElem?_set_ne (Ne.symm q2),List.getElem?_set_ne (Ne.symm q1)]
  have ie:((δ.set i (some d)).set (X.N.length+i) none)[i]? = some (some d):=by
   rw[List.getElem?_set_ne (by omega),List.getElem?_set_self hid]
  have at_n:((δ.set i (some d)).set (X.N.length+i) none)[X.N.length+i]? = some none:=by
   rw[List.getElem?_set_self (by simpa using hid2)]
  refine⟨os.filter (fun c=>decide (c≠a)),⟨s.n,by simpa using s.len,fun j e hj q=>?_,fun j e hj q1 q2=>?_,fun j k e f b hj hk q1 q2 q3 q4 q5 q6=>?_,fun b hb=>s.live b ((mem b).mp hb).1,s.keep⟩,fun b hb=>((mem b).mp hb).1,fun b hb hn=>?_⟩
  ·by_cases hji:j=i
   ·subst hji;rw[ie] at q;cases q;exact⟨_,e1,dn⟩
   ·rw[off hji (by omega)] at q;obtain⟨v,r1,r2⟩:=s.pl j e hj q;exact⟨v,r1,r2.mono big _ _⟩
  ·by_cases hji:j=i
   ·subst hji;rw[ie] at q1;cases q1
   ·rw[off hji (by omega)] at q1;rw[off (by omega) (by omega)] at q2;obtain⟨b,r1,r2,r3,r4⟩:=s.ow j e hj q1 q2;have hba:b≠a:=fun z=>by
     subst z;exact hji (s.inj j i e d b hj hi q1 h1 q2 h2 r1 e1)
    refine⟨b,r1,(mem b).mpr ⟨r2,hba⟩,r3,?_⟩;cases e with
    | lst ds=>obtain⟨xs,w1,w2⟩:=r4;exact⟨xs,w1,w2.mono big _ _⟩
    | dic t ks vs=>obtain⟨xs,w1,w2⟩:=r4;exact⟨xs,w1,w2.mono big _ _⟩
    | _=>exact r4
  ·by_cases hji:j=i
   ·subst hji;rw[ie] at q1;cases q1
   ·by_cases hki:k=i
    ·subst hki;rw[ie] at q2;cases q2
    ·rw[off hji (by omega)] at q1;rw[off hki (by omega)] at q2;rw[off (by omega) (by omega)] at q3 q4;exact s.inj j k e f b hj hk q1 q2 q3 q4 q5 q6
  ·have:b=a:=Classical.byContradiction fun z=>hn ((mem b).mpr ⟨hb,z⟩);subst this;exact⟨e3,d,e4⟩
 ·have ef:DL.frz n i δ=δ:=by
   unfold DL.frz;split
   ·rename_i ds h;exact absurd ⟨ds,h⟩ hl
   ·rfl
  rw[ef];exact⟨os,s,fun _ z=>z,fun b h1 h2=>absurd h1 h2⟩
def Sl.frzs {n:Nat}(hn:X.N.length=n):∀(is:List Nat) {os:List Addr} {δ:Ev},(∀i∈is,i<n)->Sl X os H δ σ->∃os',Sl X os' H (frzs n is δ) σ/\(∀b∈os',b∈os)/\(∀b∈os,b∉os'->(X.fn ""=true->X.H₀ b=none)/\∃B d,Own X.K B H b d)
 | [],os,δ,_,s=>⟨os,s,fun _ z=>z,fun b h1 h2=>absurd h1 h2⟩
 | i::is,os,δ,hi,s=>by
   obtain⟨os1,s1,a1,b1⟩:=s.frz hn (hi i List.mem_cons_self);obtain⟨os2,s2,a2,b2⟩:=Sl.frzs hn is (fun j h=>hi j (List.mem_cons_of_mem _ h)) s1;refine⟨os2,s2,fun b h=>a1 b (a2 b h),fun b h h'=>?_⟩;by_cases h1:b∈os1
   ·exact b2 b h1 h'
   ·obtain⟨q1,d,q2⟩:=b1 b h h1;exact⟨q1,_,d,q2⟩
def Em {os':List Addr}(hfn:X.fn ""=true)(h1:∀b∈os',b∈os)(h2:∀b∈os,b∉os'->(X.fn ""=true->X.H₀ b=none)/\∃B d,Own X.K B H b d):Fr X os H os' H:=by
 refine⟨fun b u e=>?_,fun b h n=>?_⟩
 ·have hb:b∉os:=fun z=>by rw[aX z] at e;cases e
  rw[ao hb] at e;rw[ao (fun z=>hb (h1 b z))];exact e
 ·exact Classical.byContradiction fun z=>n ((h2 b h z).1 hfn)
mutual
def Den.fl {K:PySem.W.Frag}{B B':Hp}(h:∀a xs,B a=some (.tup xs)->B' a=some (.tup xs)):∀(d:D) (v:V),DL.flat d=true->Den K B d v->Den K B' d v
 | .non,_,_,q=>by simp only[Den] at q ⊢;exact q
 | .bl _,_,_,q=>by simp only[Den] at q ⊢;exact q
 | .int _,_,_,q=>by simp only[Den] at q ⊢;exact q
 | .str _,_,_,q=>by simp only[Den] at q ⊢;exact q
 | .tup ds,_,f,q=>by
   simp only[Den] at q ⊢;obtain⟨a,xs,e1,h1,h2⟩:=q;exact⟨a,xs,e1,h a xs h1,Dens.fl h ds xs (by simpa only[DL.flat] using f) h2⟩
 | .lst ds,_,f,_=>by simp[DL.flat] at f
 | .dic t ks ds,_,f,_=>by simp[DL.flat] at f
def Dens.fl {K:PySem.W.Frag}{B B':Hp}(h:∀a xs,B a=some (.tup xs)->B' a=some (.tup xs)):∀(ds:List D) (xs:List V),DL.flats ds=true->Dens K B ds xs->Dens K B' ds xs
 | [],_,_,q=>by simp only[Dens] at q ⊢;exact q
 | d::ds,_,f,q=>by
   simp only[Dens] at q ⊢;obtain⟨x,r,e1,h1,h2⟩:=q;simp only[DL.flats,Bool.and_eq_true] at f;exact⟨x,r,e1,Den.fl h d x f.1 h1,Dens.fl h ds r f.2 h2⟩
end
def Bk {os os':List Addr}{H':Hp}(l:Live os H')(a:Addr)(xs:List V)(q:hide os' H' a=some (.tup xs)):hide os H' a=some (.tup xs):=mv l (hide_le _ _ q)
variable {e:Expr}{ma mb:ME}{mc:MT}{m:MS}{PX:Prop}{pos p2 p3:Pos}
def mI {n:Nat}{is:List Nat}(hn:X.N.length=n)(his:∀i∈is,i<n)(h:DE X e ma):DE X e (i8 n is ma):=by
 obtain⟨t,p,q⟩:=h;refine⟨t,p,fun os σ H δ d Q s m k=>?_⟩;obtain⟨d',e1,m⟩:=af m;split at m
 ·rename_i hf;cases m;obtain⟨os',s',a1,b1⟩:=Sl.frzs hn is his s;refine q os' σ H _ d Q s' e1 fun v H' g r=>k v H' g (Den.fl (Bk (s.live.mono g)) d v hf r)
 ·cases m
def fo {n:Nat}{is:List Nat}{sts:List Stmt}(hn:X.N.length=n)(his:∀i∈is,i<n)(hfn:X.fn ""=true)(h:tz X PX sts m):tz X PX sts (mY n is m):=by
 obtain⟨t,p,q⟩:=h;refine⟨t,p,fun os σ H δ r D s me k=>?_⟩;obtain⟨os',s',a1,b1⟩:=Sl.frzs hn is his s;exact q os' σ H _ r D s' me (k.mono (Em hfn a1 b1))
def dB {n i:Nat}{x:Str}(hn:X.N.length=n)(hi:i<n)(he:DF X e ma)(hg:PG X (.Name x p2) (dj i))(hs:swapsWithSole [.Name x p2] e pos.line X.env=pure false:=by rfl)(hw:swappedStores [.Name x p2] e X.env=pure none:=by rfl)
 (h1:(assignEach [.Name x p2] X.env).map (·.2)=[assign (.Name x p2) X.env]:=by rfl):DS X PX (.Assign [.Name x p2] e pos) (du n i ma):=by
 obtain⟨t,p,q⟩:=he;refine⟨_,zk p hg hs hw h1,fun os σ H δ r D s m k=>?_⟩;obtain⟨d,e1,m⟩:=af m;cases m;exact q os σ H δ d _ s e1 fun a H' g ha o=>k _ H' (a::os) (Ce g ha) (s.make hn hi g ha o)
def ke {n i:Nat}{xo:Expr}{p4:Pos}(hn:X.N.length=n)(hi:i<n)(hfn:X.fn ""=true)(hv:PE X xo (cn i))(he:DE X e ma)
 (hbase:attributeBase xo "append" X.env (eval xo X.env)=eval xo X.env:=by rfl)
 (hfew:((backTo p3 (starEach [e] X.env)).all (fun x => !x.1)&&(backToKw p3 (keywordEach [] X.env)).all (fun x=>x.1.isSome)
  && decide ([e].length+([]:List Keyword).length+(if ([]:List Keyword).isEmpty then 0 else 1)<30))=true:=by rfl)
 (hline:(p2.endLine==p3.line)=true:=by rfl) (hs:starEach [e] X.env=(false,eval e X.env)::starEach [] X.env:=by rfl) (hplain:(backTo p3 (starEach [] X.env)).any (·.1)=false:=by rfl) :
 DS X PX (.Expr (.Call (.Attribute xo "append" p2) [e] [] p3) p4) (kN n i ma):=by
 obtain⟨t,p,q⟩:=he;refine⟨_,iq (vR PySem.F.plainAttrs_list PySem.F.slot_list_append PySem.F.type_list_append nX hv (aI p bF hs) hbase hfew hline hs hplain),fun os σ H δ r D s m k=>?_⟩;obtain⟨y,e1,m⟩:=af m;split at m
 ·rename_i ds ho;split at m
  ·rename_i hl;cases m;obtain⟨w1,w2,a,w3,w4,w5,xs,w6,w7⟩:=s.own_at hn hi ho;refine⟨_,w3,.inl ⟨rfl,xs,.of w6⟩,q os σ H δ y _ s e1 fun v H' g rv=>?_⟩;refine⟨a,xs,v,rfl,rfl,g _ _ w6,by rw[<-w7.length,sizeLine_eq];exact hl,?_⟩;obtain⟨s2,f2⟩:=(s.mono g).chg (d':=.lst (ds++[y])) (o:=.lst (xs++[v])) hn hi hfn ho w3 ⟨_,aA,(w7.mono g.hd _ _).append (.cons rv .nil)⟩;exact k σ _ os ((Fr.of g).trans f2) s2
  ·cases m
 ·cases m
end
section
variable {X:Cx}{scX sc:Scope}{NX N:List Str}{k:Nat}{fv:List Nat}{PX:Prop}
def qf {x:Str}{p2 spos:Pos}{i:Nat}{elt tg iter:Expr}{ifs:List Expr}{pos:Pos}{mi:MI}{g:MG}{mc:MT}{me:ME}(hlt:Nat.blt i X.N.length=true)(hpg:PG X (.Name x p2) (dj i))(hc:X.calm=true)(S:bv scX sc NX N k fv)(hX:X.env.scope=scX)(hN:X.N=NX)(hi:DI X tg iter mi)(hbl:Below k g)
 (hb:∀C s H fp,DG (fN X sc N C s H fp) tg g/\qL (fN X sc N C s H fp) ifs mc/\DE (fN X sc N C s H fp) elt me)
 (hsw:swapsWith (.ListComp elt [⟨tg,iter,ifs,0⟩] sc pos) (some (.Name x p2)) spos.line X.env=pure true:=by rfl) (hs:∀x,foldedSetIterable iter X.env x=pure x:=by intro _;rfl) (hil:ifs.length<=1:=by decide) :
 DS X PX (.Assign [.Name x p2] (.ListComp elt [⟨tg,iter,ifs,0⟩] sc pos) spos) (bp (bq k fv mi g mc me) (gN i)):=by
 refine⟨_,zi mO hc S hX hN hi hbl hil hb hpg hsw hs,fun os σ H δ r D s m kq=>?_⟩;obtain⟨d,e1,m⟩:=af m;cases m;obtain⟨ds,rfl⟩:=n4 (pick k fv) mi g mc me δ d e1;refine⟨os,δ,_,s,e1,fun p H' g hp ow=>?_⟩;exact kq _ H' os (.of g) ((s.mono g).set i (kc hlt) (ow.den (s.live.ne hp)))
end
end DL
namespace DL
open PySem
noncomputable def Cg:MF:=fun ds=>match ds with | [.int i,.int j]=>some (.int (if j>i then j else i)) | _=>none
noncomputable def Ao:MF:=fun ds=>match ds with | [.int i,.int j]=>some (.int (if j<i then j else i)) | _=>none
noncomputable def eA (a:Int)(n:Nat):List D:=(List.range n).map fun (i:Nat)=>D.int (a+i)
def jF (a b:ME):MI:=fun δ=>(a δ).bind fun x=>(b δ).bind fun y=>match x,y with
 | .int i,.int j=>if -1073741824<i/\i<1073741824 /\ -1073741824<j/\j<1073741824 then some (eA i (j-i).toNat) else none
 | _,_=>none
noncomputable def re (k:Nat):D->Option D
 | .tup xs=>some (.tup (xs.drop k))
 | .lst xs=>some (.lst (xs.drop k))
 | _=>none
noncomputable def mD (a b:ME):ME:=fun δ=>(a δ).bind fun x=>(b δ).bind fun y=>match x,y with
 | .lst ds,.int k=>if -9223372036854775808<=k/\k<9223372036854775808/\ds.length*k.toNat<=16777216 then some (.lst (List.replicate k.toNat ds).flatten) else none
 | _,_=>none
def Fx (i:Nat)(f:D->D->Option D)(a:ME):MS:=fun δ=>(slot δ i).bind fun x=>(a δ).bind fun y=>(f x y).bind fun z=>some (.nx (δ.set i (some z)))
def yQ (n i:Nat)(k a:ME):MS:=fun δ=>(k δ).bind fun z=>(a δ).bind fun y=>match ownAt n i δ,z,y with
 | some (.lst ds),.int j,.int b=>(qQ ds.length j).bind fun q=>(ds[q]?).bind fun o=>match o with
   | .int c=>some (.nx (δ.set (n+i) (some (.lst (ds.set q (.int (c+b)))))))
   | _=>none
 | _,_,_=>none
def yP (n i:Nat)(a:ME):MS:=fun δ=>(a δ).bind fun y=>match ownAt n i δ,y with
 | some (.lst ds),.tup es=>if ds.length+es.length<=16777216 then some (.nx (δ.set (n+i) (some (.lst (ds++es))))) else none
 | some (.lst ds),.lst es=>if ds.length+es.length<=16777216 then some (.nx (δ.set (n+i) (some (.lst (ds++es))))) else none
 | _,_=>none
noncomputable def jW (xs ys:List D):List D:=(xs.zip ys).map fun p=>.tup [p.1,p.2]
def nh (a b:ME):MI:=fun δ=>(a δ).bind fun x=>(b δ).bind fun y=>match x,y with
 | .lst xs,.lst ys=>some (jW xs ys)
 | _,_=>none
def mE (a b:ME):ME:=fun δ=>(nh a b δ).bind fun xs=>if xs.length<=16777216 then some (.lst xs) else none
noncomputable def intsOf:List D->Option (List Int)
 | []=>some []
 | .int i::r=>(intsOf r).bind fun q=>some (i::q)
 | _=>none
noncomputable def isKey:D->Bool
 | .int _=>true
 | .str _=>true
 | _=>false
def fI:D->Bool
 | .tup ds=>ds.all isKey
 | _=>false
def rp (n i:Nat)(k a:ME):MS:=fun δ=>(a δ).bind fun y=>(k δ).bind fun z=>match ownAt n i δ with
 | some (.dic true ks vs)=>if fI z=true/\(ks.all fun q => !bP q z)=true/\ks.length<16777216 then some (.nx (δ.set (n+i) (some (.dic true (ks++[z]) (vs++[y]))))) else none
 | _=>none
noncomputable def hU:List D->List D->Int->Option D
 | .int j::ks,v::vs,i=>if j=i then some v else hU ks vs i
 | _::ks,_::vs,i=>hU ks vs i
 | _,_,_=>none
def wq (d k x:ME):ME:=fun δ=>(d δ).bind fun dd=>(k δ).bind fun z=>(x δ).bind fun y=>match dd,z with
 | .dic false ks vs,.int i=>some ((hU ks vs i).getD y)
 | _,_=>none
noncomputable def fb (ks:List Int)(n:Int):List Int:=if n∈ks then ks else ks++[n]
noncomputable def sortI (ks:List Int):List Int:=ks.mergeSort fun a b=>decide (a<=b)
def jd:D->Option D
 | .lst xs=>(intsOf xs).bind fun is=>if is.length+1<4096/\(is.foldl fb []).length<64 then some (.lst ((sortI (is.foldl fb [])).map D.int)) else none
 | _=>none
def pY:MF:=fun ds=>match ds with
 | [.tup xs]=>(intsOf xs).bind fun is=>some (.int is.sum)
 | [.lst xs]=>(intsOf xs).bind fun is=>some (.int is.sum)
 | _=>none
end DL
namespace DL
open PySem PySem.Spec PyProof.Rows L2
section
variable {X:Cx}{PX:Prop}{a b e:Expr}{ma mb me:ME}{pos p p2 p3:Pos}
def yp {K:PySem.W.Frag}{H:Hp}{d d':D}{vs:List V}(h:Dens K H [d,d'] vs):∃v w,vs=[v,w]/\Den K H d v/\Den K H d' w:=by
 obtain⟨x,r,rfl,h1,h2⟩:=h.uncons;obtain⟨y,r2,rfl,h3,h4⟩:=h2.uncons;exact⟨x,y,by rw[h4.unnil],h1,h3⟩
def AQ (hc:X.calm=true):jV X (.builtin "max") Cg:=by
 refine⟨_,yc hc,fun os H L ds d vs Q r m k=>?_⟩
 match ds,m with
 | [.int i,.int j],m =>
   cases m;obtain⟨v,w,rfl,h1,h2⟩:=yp r;exact⟨i,j,by rw[h1.int_inv,h2.int_inv],k _ H (Same.refl _) (.int _)⟩
def AO (hc:X.calm=true):jV X (.builtin "min") Ao:=by
 refine⟨_,yb hc,fun os H L ds d vs Q r m k=>?_⟩
 match ds,m with
 | [.int i,.int j],m =>
   cases m;obtain⟨v,w,rfl,h1,h2⟩:=yp r;exact⟨i,j,by rw[h1.int_inv,h2.int_inv],k _ H (Same.refl _) (.int _)⟩
def EC {i:Nat}{x:Str}(hN:X.N.Nodup)(hi:X.N[i]? = some x)(hx:X.env.scope.names.lookup x=some .local)(ha:DE X e me):DS X PX (.AugAssign (.Name x p2) .Add e pos) (Fx i (oI fun u v=>some (.int (u+v))) me):=by
 obtain⟨t,pt,q⟩:=ha;refine⟨_,DN hN hi (.inl hx) pt uD (.inr hx),fun os σ H δ r D s m k=>?_⟩;have hil:i<X.N.length:=(List.getElem?_eq_some_iff.mp hi).1;obtain⟨dx,e1,m⟩:=af m;obtain⟨dy,e2,m⟩:=af m;obtain⟨dz,e3,m⟩:=af m;cases m;obtain⟨u,w,rfl,rfl,e3⟩:=gk e3;cases e3;obtain⟨v,h1,r1⟩:=s.pl i _ hil (im e1);rw[r1.int_inv] at h1;refine⟨.int u,h1,q os σ H δ _ _ s e2 fun y H1 g1 r2=>⟨u,w,rfl,r2.int_inv,?_⟩⟩;exact k _ H1 os (.of g1) ((s.mono g1).set i hil (.int _))
def uQ (ha:DF X a ma)(hb:DE X b mb):DF X (.BinOp a .Mult b pos) (mD ma mb):=by
 obtain⟨ta,pa,qa⟩:=ha;obtain⟨tb,pb,qb⟩:=hb;refine⟨_,zu zD pa pb,fun os σ H δ d Q s m k=>?_⟩;obtain⟨dx,e1,m⟩:=af m;obtain⟨dy,e2,m⟩:=af m;refine qa os σ H δ dx _ s e1 fun l H1 g1 hl o1=>?_;refine qb os σ H1 δ dy _ (s.mono g1) e2 fun y H2 g2 r2=>?_
 match dx,dy,m with
 | .lst ds,.int n,m =>
   have m':(if -9223372036854775808<=n/\n<9223372036854775808/\ds.length*n.toNat<=16777216 then some (D.lst (List.replicate n.toNat ds).flatten) else none)=some d:=m;split at m'
   ·rename_i hz;cases m';obtain⟨xs,h1,h2⟩:=o1;have hlen:=h2.length;refine⟨l,n,xs,rfl,r2.int_inv,g2 _ _ h1,by omega,by omega,by rw[bH,<-hlen];exact hz.2.2,fun q hq=>?_⟩;have nl:l∉os:=s.live.ne hl;refine k q _ ((g1.trans g2).trans (aF hq _)) ((g1.trans g2).free hq) ⟨_,aA,?_⟩;refine(h2.flat n.toNat).mono (fun c u hc=>?_) _ _;have hc2:c∉l::os:=fun z=>by rw[aX z] at hc;cases hc
    rw[ao hc2] at hc;have hc3:H2 c=some u:=g2 _ _ hc;have hcq:c≠q:=aC hc3 hq;rw[ao (by simp only[List.mem_cons,not_or];exact⟨hcq,fun z=>hc2 (List.mem_cons_of_mem _ z)⟩),ay hcq];exact hc3
   ·cases m'
def uK (l b:Addr)(us ws:Array Value)(n n2:Nat)(dd:Option Addr)(sl:Array (Option Value))(hlong:¬(!us.isEmpty&&Builtin.List.listTooLong (us.size+ws.size))=true)(h1:us.size<=sizeLine)(h2:(us++ws).size<=sizeLine+1) :
 Meets (Builtin.«list.extend» ⟨[.ref l,.ref b],[]⟩) (fun _ R s=>s.heap.get? l=some { cls:=.type "list",data:=.seq us n }/\s.heap.get? b=some { cls:=.type "tuple",dict:=dd,data:=.seq ws n2,slots:=sl } /\
  R (.ok (.ret Value.none)) { s with heap:=s.heap.update l (Obj.mapSeq fun x=>x++ws) }) :=
 .of_wp fun prog w A R s h=>by
  obtain⟨hp,g,d,tk,os⟩:=s;obtain⟨hl,hb,h⟩:=h;have f1:=AutoSeq1.idx_int;have f2:=AutoSeq1.sub_tuple_tuple;have f3:=AutoSeq1.sub_list_list;have f4:=AutoSeq1.sub_tuple_list;have f5:=AutoSeq1.sub_list_tuple
  wp_walk using (wpAny_updateSeq hl rfl (hz:=h1) (_hz':=h2)),AutoSeq1.wpAny_loadPart' hl,AutoSeq1.wpAny_loadPart' hb
  exact⟨_,rfl,h⟩
def xO:Fe X "list.extend" (fun x vs H Q=>∃l b xs zs,x=.ref l/\vs=[.ref b]/\H l=some (.lst xs)/\SqT X.K H b zs/\xs.length+zs.length<=sizeLine/\Q .non (bm H l (.lst (xs++zs)))):=by
 intro pins s σ H x vs v us Q I rx rv h;obtain⟨l,b,xs,zs,rfl,rfl,hH,hB,hz,q⟩:=h;cases rx;obtain⟨u,rfl,ru⟩:=rv.one;cases ru;obtain⟨z,its,n,r,hl,e⟩:=I.lstM hH;obtain⟨its2,r2,⟨⟨c2,d2,dt2,sl2⟩,e2,c2',n2,t2'⟩,_⟩:=I.tuple hB;simp only at c2' t2';subst c2' t2';have hl2:=r2.length;have hsz:its.toArray.size+its2.toArray.size<=sizeLine:=by rw[List.size_toArray,List.size_toArray];omega
 have hlong:¬ (!its.toArray.isEmpty&&Builtin.List.listTooLong (its.toArray.size+its2.toArray.size))=true:=by
  rw[lR hsz,Bool.and_false];exact Bool.false_ne_true
 refine call_meets F.slot_list_extend ⟨_,e,rfl⟩ F.entry_list_extend (F.args_list_extend_2 _ _)
  (uK l b its.toArray its2.toArray n n2 d2 sl2 hlong (by rw[List.size_toArray];omega) (by rw[Array.size_append];omega)) ⟨e,e2,?_⟩
 refine⟨.non,_,I.lset (its':=its++its2) hH e (by simp) (r.append r2) ?_,rfl,q⟩;rw[List.length_append];omega
def uL (l b:Addr)(us ws:Array Value)(n n2:Nat)(sl:Array (Option Value))(hlong:¬(!us.isEmpty&&Builtin.List.listTooLong (us.size+ws.size))=true)(h1:us.size<=sizeLine)(h2:(us++ws).size<=sizeLine+1) :
 Meets (Builtin.«list.extend» ⟨[.ref l,.ref b],[]⟩) (fun _ R s=>s.heap.get? l=some { cls:=.type "list",data:=.seq us n }/\s.heap.get? b=some { cls:=.type "list",data:=.seq ws n2,slots:=sl } /\
  R (.ok (.ret Value.none)) { s with heap:=s.heap.update l (Obj.mapSeq fun x=>x++ws) }) :=
 .of_wp fun prog w A R s h=>by
  obtain⟨hp,g,d,tk,os⟩:=s;obtain⟨hl,hb,h⟩:=h;have f1:=AutoSeq1.idx_int;have f2:=AutoSeq1.sub_tuple_tuple;have f3:=AutoSeq1.sub_list_list;have f4:=AutoSeq1.sub_tuple_list;have f5:=AutoSeq1.sub_list_tuple
  wp_walk using (wpAny_updateSeq hl rfl (hz:=h1) (_hz':=h2)),AutoSeq1.wpAny_loadPart' hl,AutoSeq1.wpAny_loadPart' hb
  exact⟨_,rfl,h⟩
def Ap:Fe X "list.extend" (fun x vs H Q=>∃l b xs zs,x=.ref l/\vs=[.ref b]/\H l=some (.lst xs)/\SqL X.K H b zs/\xs.length+zs.length<=sizeLine/\Q .non (bm H l (.lst (xs++zs)))):=by
 intro pins s σ H x vs v us Q I rx rv h;obtain⟨l,b,xs,zs,rfl,rfl,hH,hB,hz,q⟩:=h;cases rx;obtain⟨u,rfl,ru⟩:=rv.one;cases ru;obtain⟨z,its,n,r,hl,e⟩:=I.lstM hH;obtain⟨its2,r2,⟨⟨c2,d2,dt2,sl2⟩,n2,e2,c2',d2',t2'⟩,_⟩:=I.list hB;simp only at c2' d2' t2';subst c2' d2' t2';have hl2:=r2.length;have hsz:its.toArray.size+its2.toArray.size<=sizeLine:=by rw[List.size_toArray,List.size_toArray];omega
 have hlong:¬ (!its.toArray.isEmpty&&Builtin.List.listTooLong (its.toArray.size+its2.toArray.size))=true:=by
  rw[lR hsz,Bool.and_false];exact Bool.false_ne_true
 refine call_meets F.slot_list_extend ⟨_,e,rfl⟩ F.entry_list_extend (F.args_list_extend_2 _ _)
  (uL l b its.toArray its2.toArray n n2 sl2 hlong (by rw[List.size_toArray];omega) (by rw[Array.size_append];omega)) ⟨e,e2,?_⟩
 refine⟨.non,_,I.lset (its':=its++its2) hH e (by simp) (r.append r2) ?_,rfl,q⟩;rw[List.length_append];omega
def D5 {id:String}{r r':V->List V->Hp->VK->Prop}(h:Fe X id r)(h':Fe X id r'):Fe X id (fun x vs H Q=>r x vs H Q\/r' x vs H Q):=by
 intro pins s σ H x vs v us Q I rx rv q;rcases q with q | q
 ·exact h pins s σ H x vs v us Q I rx rv q
 ·exact h' pins s σ H x vs v us Q I rx rv q
def Av {n i:Nat}{xo:Expr}{p4:Pos}(hn:X.N.length=n)(hi:i<n)(hfn:X.fn ""=true)(hv:PE X xo (cn i))(he:DE X e me)
 (hbase:attributeBase xo "extend" X.env (eval xo X.env)=eval xo X.env:=by rfl)
 (hfew:((backTo p3 (starEach [e] X.env)).all (fun x => !x.1)&&(backToKw p3 (keywordEach [] X.env)).all (fun x=>x.1.isSome)
  && decide ([e].length+([]:List Keyword).length+(if ([]:List Keyword).isEmpty then 0 else 1)<30))=true:=by rfl)
 (hline:(p2.endLine==p3.line)=true:=by rfl) (hs:starEach [e] X.env=(false,eval e X.env)::starEach [] X.env:=by rfl) (hplain:(backTo p3 (starEach [] X.env)).any (·.1)=false:=by rfl) :
 DS X PX (.Expr (.Call (.Attribute xo "extend" p2) [e] [] p3) p4) (yP n i me):=by
 obtain⟨t,p,q⟩:=he;refine⟨_,iq (vR PySem.F.plainAttrs_list PySem.F.slot_list_extend PySem.F.type_list_extend (D5 xO Ap) hv (aI p bF hs) hbase hfew hline hs hplain),fun os σ H δ r D s m k=>?_⟩;obtain⟨y,e1,m⟩:=af m;split at m
 ·rename_i ds es ho;split at m
  ·rename_i hl;cases m;obtain⟨w1,w2,a,w3,w4,w5,xs,w6,w7⟩:=s.own_at hn hi ho;refine⟨_,w3,.inl ⟨rfl,xs,.of w6⟩,q os σ H δ _ _ s e1 fun v H' g rv=>?_⟩;obtain⟨b,zs,rfl,hb,hd⟩:=rv.tup_inv;have l1:=w7.length;have l2:=hd.length;refine .inl ⟨a,b,xs,zs,rfl,rfl,g _ _ w6,.of (hide_le _ _ hb),by rw[bH];omega,?_⟩;obtain⟨s2,f2⟩:=(s.mono g).chg (d':=.lst (ds++es)) (o:=.lst (xs++zs)) hn hi hfn ho w3 ⟨_,aA,(w7.mono g.hd _ _).append hd⟩;exact k σ _ os ((Fr.of g).trans f2) s2
  ·cases m
 ·rename_i ds es ho;split at m
  ·rename_i hl;cases m;obtain⟨w1,w2,a,w3,w4,w5,xs,w6,w7⟩:=s.own_at hn hi ho;refine⟨_,w3,.inl ⟨rfl,xs,.of w6⟩,q os σ H δ _ _ s e1 fun v H' g rv=>?_⟩;obtain⟨b,zs,rfl,hb,hd⟩:=rv.lst_inv;have l1:=w7.length;have l2:=hd.length;refine .inr ⟨a,b,xs,zs,rfl,rfl,g _ _ w6,hide_le.seq hb,by rw[bH];omega,?_⟩;obtain⟨s2,f2⟩:=(s.mono g).chg (d':=.lst (ds++es)) (o:=.lst (xs++zs)) hn hi hfn ho w3 ⟨_,aA,(w7.mono g.hd _ _).append hd⟩;exact k σ _ os ((Fr.of g).trans f2) s2
  ·cases m
 ·cases m
def sB:Ge X (zb X.K):=by
 intro pins s σ H o i ov iv Q I ro ri h;obtain⟨p,xs,k,z,rfl,rfl,hq,he,q⟩:=h;cases ro;obtain⟨t,rfl⟩:=ri;obtain⟨its,r,pl,hz⟩:=I.list hq;obtain⟨j,h1,h2,h3,h4,h5⟩:=lb he;obtain⟨w,ew,rw'⟩:=r.get h2;have hl:=r.length;have hn:=hV;by_cases h0:0<=k
 ·have hj:k.toNat=j:=by
   rw[seqIndex_of h0 h5] at h1;exact Option.some.inj h1
  exact wpAny_getItem_list pl.isList h0 (by omega) (by rw[hj];simpa using ew) ⟨z,H,I,rw',q⟩
 ·have hj:(k+(its.toArray.size:Int)).toNat=j:=by
   rw[seqIndex_neg (by omega) h4] at h1;rw[List.size_toArray,<-hl];exact Option.some.inj h1
  exact wpAny_getItem_list_neg pl.isList (by omega) (by rw[List.size_toArray] <;> omega) (by omega) (by rw[hj];simpa using ew) ⟨z,H,I,rw',q⟩
def EX {α:Type}{xs:List α}{i:Int}{j:Nat}{v:α}(h:qQ xs.length i=some j)(hv:xs[j]? = some v):CF xs i=some v:=by
 unfold CF;rw[show Bb xs.length i=some j from h];exact hv
def sQ {K:PySem.W.Frag}{B:Hp}:∀{ds:List D} {xs:List V} {d:D} {v:V} (q:Nat),Dens K B ds xs->Den K B d v->Dens K B (ds.set q d) (xs.set q v)
 | [],_,_,_,_,h,_=>by rw[h.unnil];exact .nil
 | c::ds,_,_,_,0,h,hv=>by
   obtain⟨x,r,rfl,h1,h2⟩:=h.uncons;exact .cons hv h2
 | c::ds,_,_,_,q+1,h,hv=>by
   obtain⟨x,r,rfl,h1,h2⟩:=h.uncons;exact .cons h1 (sQ q h2 hv)
def Cq {n i:Nat}{xo kx:Expr}{tp:Pos}{mk:ME}(hn:X.N.length=n)(hi:i<n)(hfn:X.fn ""=true)(hv:PE X xo (cn i))(hk:DE X kx mk)(he:DE X e me)
 (ha:∀ov iv new,augStore kx ov iv new=(do holding [new,ov,iv] (setItem ov iv new);release [new,ov,iv] [];pure .next):=by intros;rfl) :
 DS X PX (.AugAssign (.Subscript xo kx tp) .Add e pos) (yQ n i mk me):=by
 obtain⟨te,pe,qe⟩:=he;obtain⟨tk,pk,qk⟩:=hk;refine⟨_,vJ hv pk sB pe uD set_list ha,fun os σ H δ r D s m k=>?_⟩;obtain⟨z,e2,m⟩:=af m;obtain⟨y,e1,m⟩:=af m;split at m
 ·rename_i ds j b ho _;obtain⟨q,e3,m⟩:=af m;obtain⟨o,e4,m⟩:=af m;cases o with
  | int c =>
    cases m;obtain⟨w1,w2,a,w3,w4,w5,xs,w6,w7⟩:=s.own_at hn hi ho;refine⟨_,w3,qk os σ H δ _ _ s e2 fun u H1 g1 ru=>?_⟩;obtain⟨v,hv1,hv2⟩:=w7.get e4;refine⟨a,xs,j,v,rfl,ru.int_inv,.of (g1 _ _ w6),EX (by rw[<-w7.length];exact e3) hv1,?_⟩;refine qe os σ H1 δ _ _ (s.mono g1) e1 fun w H2 g2 rw'=>⟨c,b,hv2.int_inv,rw'.int_inv,?_⟩;have g12:=g1.trans g2;refine⟨a,xs,j,q,rfl,ru.int_inv,g12 _ _ w6,by rw[<-w7.length];exact e3,?_⟩;obtain⟨s2,f2⟩:=(s.mono g12).chg (d':=.lst (ds.set q (.int (c+b)))) (o:=.lst (xs.set q (.int (c+b)))) hn hi hfn ho w3 ⟨_,aA,sQ q (w7.mono g12.hd _ _) (.int _)⟩;exact k σ _ os ((Fr.of g12).trans f2) s2
  | _=>cases m
 ·cases m
def oD (xs:List V)(k:Nat):jO xs (some (k:Int)) none=xs.drop k:=by
 unfold jO;rw[HT.sIx_none,HT.sIx_nat,List.take_of_length_le (by rw[List.length_drop];omega)];rcases Nat.le_total k xs.length with h | h
 ·rw[Nat.min_eq_left h]
 ·rw[Nat.min_eq_right h,List.drop_of_length_le (Nat.le_refl _),List.drop_of_length_le h]
def _root_.DL.Dens.drop {K:PySem.W.Frag}{B:Hp}:∀{ds:List D} {xs:List V} (n:Nat),Dens K B ds xs->Dens K B (ds.drop n) (xs.drop n)
 | _,_,0,h=>by rw[List.drop_zero,List.drop_zero];exact h
 | [],_,n+1,h=>by rw[h.unnil];exact .nil
 | d::ds,_,n+1,h=>by
   obtain⟨x,r,rfl,h1,h2⟩:=h.uncons;exact h2.drop n
def wy (k:Nat){j:Nat}(he:DE X e me):DE X (.Subscript e (.Slice (some (.Constant (.int k) j p3)) none none p2) pos) (kF (re k) me):=by
 obtain⟨te,pe,qe⟩:=he;refine⟨_,lI (sl_list.or (sl_tup.or oY)) pe (pq gR) vK,fun os σ H δ d Q s m kq=>?_⟩;obtain⟨dx,e1,m⟩:=af m;refine qe os σ H δ dx _ s e1 fun x H1 g1 r1=>⟨(k:Int),rfl,?_⟩;cases dx with
 | lst ds =>
   cases m;obtain⟨a,xs,rfl,h1,h2⟩:=r1.lst_up;refine .inl ⟨a,xs,rfl,h1,fun q hq=>?_⟩;rw[oD];exact kq _ _ (g1.trans (aF hq (.lst (xs.drop k)))) (.newL (s.live.mono g1) hq (h2.drop k))
 | tup ds =>
   cases m;obtain⟨a,xs,rfl,h1,h2⟩:=r1.tup_up;have hl:=h2.length;by_cases hw:k=0
   ·subst hw;refine .inr (.inr ⟨a,xs,rfl,h1,⟨by rw[HT.sIx_nat];omega,HT.sIx_none _ _⟩,?_⟩);exact kq _ H1 g1 r1
   ·by_cases h0:xs.length=0
    ·have ex:xs=[]:=List.length_eq_zero_iff.mp h0;have ed:ds=[]:=List.length_eq_zero_iff.mp (by omega);subst ex ed;refine .inr (.inr ⟨a,[],rfl,h1,⟨by rw[HT.sIx_nat];simp,HT.sIx_none _ _⟩,?_⟩);rw[List.drop_nil] at kq;exact kq _ H1 g1 r1
    ·refine .inr (.inl ⟨a,xs,rfl,h1,fun z=>?_,fun q hq=>?_⟩)
     ·rw[HT.sIx_nat] at z;omega
     ·rw[oD];exact kq _ _ (g1.trans (aF hq (.tup (xs.drop k)))) (.newT (s.live.mono g1) hq (h2.drop k))
 | _=>cases m
end
section
variable {X:Cx}{pins:List (Addr×Obj)}{σ:L2.St}{H:Hp}{s:Shared}
def zB {fp:List Addr}{T:Addr}{x y:V}{u w:Value}{h2:Heap}{tk':Nat}(I:Inv X pins σ H s)(hf:∀b∈fp,ik X pins H b)(hlt:∀b∈fp,b<s.heap.objs.size)(hT:T=s.heap.objs.size)(ru:RelV x u)(rw':RelV y w)
 (hk:∀b o,b∉fp->s.heap.get? b=some o->h2.get? b=some o) (ht:h2.get? T=some { cls:=.type "tuple",data:=.seq #[u,w] }) :
 Inv X pins σ (bm H T (.tup [x,y])) { s with heap:=h2,toks:=tk' }:=by
 subst hT;have I1:Inv X pins σ (bm H s.heap.objs.size (.tup [x,y])) { s with heap:=s.heap.push { cls:=.type "tuple",data:=.seq [u,w].toArray },toks:=tk' }:=by
  refine I.laid (t':=tk') (fun b o q=>Heap.get?_push_of_some _ q) (Nat.le_refl _) ?_;exact⟨by show 2<=sizeLine;rw[bH];decide,[u,w],.cons ru (.cons rw' .nil),IsTup.new _ _⟩
 have T1:=je (t':=tk') (h':=h2) (fp:=fp) I1;refine T1 (fun b hb=>⟨?_,(hf b hb).2⟩) fun b o hb q=>?_
 ·rw[ay (Nat.ne_of_lt (hlt b hb))];exact(hf b hb).1
 ·by_cases hz:b=s.heap.objs.size
  ·subst hz;have q':=(Heap.get?_push_size s.heap (o:={ cls:=.type "tuple",data:=.seq [u,w].toArray }) rfl).symm.trans q;cases q';exact ht
  ·have q':(s.heap.push { cls:=.type "tuple",data:=.seq [u,w].toArray }).get? b=some o:=q;have hlt':b<(s.heap.push { cls:=.type "tuple",data:=.seq [u,w].toArray }).objs.size:=Heap.lt_size q';rw[Heap.size_push] at hlt';have hb':b<s.heap.objs.size:=Nat.lt_of_le_of_ne (Nat.le_of_lt_succ hlt') hz;refine hk b o hb ?_;obtain⟨q1,q2⟩:=Heap.get?_some_iff.mp q';have q3:s.heap.objs[b]? = some o:=by
    revert q1
    generalize s.heap=hh at hb' ⊢;cases hh;intro q1;simpa[Heap.push,Array.getElem?_push,Nat.ne_of_lt hb'] using q1
   exact Heap.get?_some_iff.mpr ⟨q3,q2⟩
def G2 (K:PySem.W.Frag)(l1 l2:Addr):It :=
 ⟨fun i H=>∃xs ys x y,SqL K H l1 xs/\SqL K H l2 ys/\xs[i]? = some x/\ys[i]? = some y,
  fun i H v H'=>∃x y t,(∀xs,SqL K H l1 xs->xs[i]? = some x)/\(∀ys,SqL K H l2 ys->ys[i]? = some y)/\H t=none/\v=.ref t/\H'=bm H t (.tup [x,y]),
  fun i H=>∃xs ys,SqL K H l1 xs/\SqL K H l2 ys/\(xs[i]? = none\/ys[i]? = none)⟩
def Hx (z TI TO i1 i2 l1 l2:Addr)(i:Nat)(h:Heap):Prop:=IsZip h z TI TO .none/\IsPair h TI (.ref i1) (.ref i2)/\(∃a b,IsPair h TO a b)/\h.IsListIter i1 l1 i/\h.IsListIter i2 l2 i
def yq {P:Program}{w:World}{K:PySem.W.Frag}{elts:List Expr}{k:Nat}{pos:Pos}{z TI TO i1 i2 l1 l2:Addr}(D:ZipApart z TI TO i1 i2 l1 l2) :
 Turn P w K (.Tuple elts k pos) (G2 K l1 l2) [z,TI,TO,i1,i2] z (Hx z TI TO i1 i2 l1 l2) where
 mem:=by simp
 obj:=fun i h st b hb=>by
  obtain⟨a1,a2,⟨a,b',a3⟩,⟨o1,a4,_,c4⟩,⟨o2,a5,_,c5⟩⟩:=st;simp only[List.mem_cons,List.not_mem_nil,or_false] at hb;rcases hb with rfl | rfl | rfl | rfl | rfl
  ·exact⟨_,a1,fun v z=>by cases z⟩
  ·exact⟨_,a2,fun v z=>by cases z⟩
  ·exact⟨_,a3,fun v z=>by cases z⟩
  ·exact⟨_,a4,fun v z=>by rw[c4] at z;cases z⟩
  ·exact⟨_,a5,fun v z=>by rw[c5] at z;cases z⟩
 keep:=fun i h h' st kp=>by
  obtain⟨a1,a2,⟨a,b',a3⟩,a4,a5⟩:=st;exact⟨kp z (by simp) _ a1,kp TI (by simp) _ a2,⟨a,b',kp TO (by simp) _ a3⟩,a4.at fun o q=>kp i1 (by simp) o q,a5.at fun o q=>kp i2 (by simp) o q⟩
 item:=by
  intro X hP hw hK hc i pins s σ H E I hf st hg;subst hP hw hK;obtain⟨xs,ys,x,y,hq1,hq2,hx,hy⟩:=hg;obtain⟨its1,rv1,p1,_⟩:=I.list hq1;obtain⟨its2,rv2,p2,_⟩:=I.list hq2;obtain⟨u,hu,ru⟩:=rv1.get hx;obtain⟨v,hv,rv⟩:=rv2.get hy;obtain⟨a1,a2,⟨a,b',a3⟩,a4,a5⟩:=st;have lt:∀b∈[z,TI,TO,i1,i2],b<s.heap.objs.size:=fun b hb=>by
   simp only[List.mem_cons,List.not_mem_nil,or_false] at hb;rcases hb with rfl | rfl | rfl | rfl | rfl
   ·exact Heap.lt_size a1
   ·exact Heap.lt_size a2
   ·exact Heap.lt_size a3
   ·obtain⟨o,q,_⟩:=a4;exact Heap.lt_size q
   ·obtain⟨o,q,_⟩:=a5;exact Heap.lt_size q
  refine wpAny_pyNext_zip_item D a1 a2 a3 a4 a5 p1.isList p2.isList (x:=u) (y:=v) (by simpa using hu) (by simpa using hv) fun h1 b1 b2 b3 b4 b5 b6 b7=>?_;refine⟨_,rfl,wpAny_letOwnedTupleGo_zip b1 fun h2 c1 c2=>?_⟩;have c2':Heap.SameBut z h1 h2:=c2;have ne:∀b∈[z,TI,TO,i1,i2],s.heap.objs.size≠b:=fun b hb=>Nat.ne_of_gt (lt b hb);refine⟨.ref s.heap.objs.size,bm H s.heap.objs.size (.tup [x,y]),?_,rfl,⟨x,y,s.heap.objs.size,fun ws hw'=>by rw[I.list_inj hw' hq1];exact hx,fun ws hw'=>by rw[I.list_inj hw' hq2];exact hy,I.fresh,rfl,rfl⟩,⟨c1,?_,⟨_,_,(c2'.2 _ D.TOz).trans b2⟩,?_,?_⟩,fun b hb=>?_⟩
  ·refine zB (s:=s) (fp:=[z,TI,TO,i1,i2]) (tk':=s.toks) I hf lt rfl ru rv (fun b o hb q=>?_) ((c2'.2 _ (ne z (by simp))).trans b5);have n1:b≠z:=fun e=>hb (by simp[e]);exact(c2'.2 _ n1).trans (b7 b o n1 (fun e=>hb (by simp[e])) (fun e=>hb (by simp[e])) (fun e=>hb (by simp[e])) q)
  ·exact(c2'.2 _ D.TIz).trans (b7 _ _ D.TIz D.TITO D.TIi1 D.TIi2 a2)
  ·obtain⟨o,q,r⟩:=b3;exact⟨o,(c2'.2 _ D.i1z).trans q,r⟩
  ·obtain⟨o,q,r⟩:=b4;exact⟨o,(c2'.2 _ D.i2z).trans q,r⟩
  ·rw[ay (Nat.ne_of_lt (lt b hb))];exact(hf b hb).1
 done:=by
  intro X hP hw hK hc i pins s σ H E I hf st hg;subst hP hw hK;obtain⟨xs,ys,hq1,hq2,hn⟩:=hg;obtain⟨its1,rv1,p1,_⟩:=I.list hq1;obtain⟨its2,rv2,p2,_⟩:=I.list hq2;have e1:=rv1.length;have e2:=rv2.length;obtain⟨a1,a2,⟨a,b',a3⟩,a4,a5⟩:=st;refine wpAny_pyNext_zip_end (I.ok.hd hc) D a1 a2 a3 a4 a5 p1.isList p2.isList ?_ fun h' hk'=>⟨rfl,?_⟩
  ·rcases hn with hn | hn
   ·left;rw[List.getElem?_eq_none_iff] at hn;simp;omega
   ·right;rw[List.getElem?_eq_none_iff] at hn;simp;omega
  ·exact je (t':=s.toks) I hf fun b o hb q=>hk' b o (fun e=>hb (by simp[e])) (fun e=>hb (by simp[e])) (fun e=>hb (by simp[e])) (fun e=>hb (by simp[e])) q
 self:=fun _ _ _ _ _ st h=>wpAny_pyIter_zip st.1 h
end
section
variable {X:Cx}{a b:Expr}{ma mb:ME}{pos pos' p:Pos}{elts:List Expr}{kt:Nat}
def FV (K:PySem.W.Frag)(ta:TA):TI:=fun σ H R=>ta σ H fun vs H1=>∃l1 l2 xs ys,vs=[.ref l1,.ref l2]/\SqL K H1 l1 xs/\SqL K H1 l2 ys/\R (G2 K l1 l2) H1
def DO {ta:TA}(hg:Gl X "zip")(hm:X.mg "zip"=none)(ha:PA X [a,b] ta)(h1:starEach [a,b] X.env=(false,eval a X.env)::starEach [b] X.env:=by rfl)(hpl:(backTo pos (starEach [b] X.env)).any (·.1)=false:=by rfl) :
 PI X (.Tuple elts kt pos') (.Call (.Name "zip" p) [a,b] [] pos) (FV X.K ta):=by
 intro pins s σ H R I h;refine Call_ (gp I hg hm (by rfl) (PyProof.Rows.callWith_type1 (bC (ha pos pins s σ H _ I h) fun us s1 ⟨vs,H1,I1,r1,q1⟩=>?_) h1 hpl));obtain⟨l1,l2,xs,ys,e,hq1,hq2,q⟩:=q1;subst e;obtain⟨u,v,rfl,ru,rv⟩:=vals2 r1;cases ru;cases rv;obtain⟨its1,rv1,p1,_⟩:=I1.list hq1;obtain⟨its2,rv2,p2,_⟩:=I1.list hq2;have a1:l1<s1.heap.objs.size:=by obtain⟨_,q,_⟩:=p1.isList;exact Heap.lt_size q
 have a2:l2<s1.heap.objs.size:=by obtain⟨_,q,_⟩:=p2.isList;exact Heap.lt_size q
 refine call_zip_2 p1.isList p2.isList fun h' hz hTI hTO hi1 hi2 hsz hk=>wpAny_pyIter_zip hz ?_;refine⟨s1.heap.objs.size+4,[s1.heap.objs.size+4,s1.heap.objs.size+2,s1.heap.objs.size+3,s1.heap.objs.size,s1.heap.objs.size+1],_,_,H1,rfl,I1.kept (t':=s1.toks) hk,yq (zipApart_new a1 a2),⟨hz,hTI,⟨_,_,hTO⟩,hi1,hi2⟩,fun b hb=>?_,q⟩;have hb':s1.heap.objs.size<=b:=by
  simp only[List.mem_cons,List.not_mem_nil,or_false] at hb;rcases hb with rfl | rfl | rfl | rfl | rfl
  ·exact Nat.le_add_right _ _
  ·exact Nat.le_add_right _ _
  ·exact Nat.le_add_right _ _
  ·exact Nat.le_refl _
  ·exact Nat.le_add_right _ _
 exact I1.fpOk hb' (I1.hok.fresh hb')
def qU (xs ys:List D)(i:Nat)(d:D)(h:(jW xs ys)[i]? = some d):∃x y,xs[i]? = some x/\ys[i]? = some y/\d=.tup [x,y]:=by
 unfold jW at h;rw[List.getElem?_map] at h;cases hz:(xs.zip ys)[i]? with
 | none=>rw[hz] at h;cases h
 | some q =>
   rw[hz] at h;obtain⟨e1,e2⟩:=List.getElem?_zip_eq_some.mp hz;exact⟨q.1,q.2,e1,e2,(Option.some.inj h).symm⟩
def yk {K:PySem.W.Frag}{B:Hp}{l1 l2:Addr}{ds es:List D}{xs ys:List V}(h1:SqL K B l1 xs)(d1:Dens K B ds xs)(h2:SqL K B l2 ys)(d2:Dens K B es ys):Walk K (G2 K l1 l2) B (jW ds es):=by
 intro i os1 H1 L g;have gu:=g.trans hide_le;refine⟨fun d hd=>?_,fun hl=>⟨xs,ys,gu.seq h1,gu.seq h2,?_⟩⟩
 ·obtain⟨x,y,e1,e2,rfl⟩:=qU ds es i d hd;obtain⟨v,hv,rv⟩:=d1.get e1;obtain⟨w,hw,rw'⟩:=d2.get e2;refine⟨⟨xs,ys,v,w,gu.seq h1,gu.seq h2,hv,hw⟩,fun u H2 z=>?_⟩;obtain⟨v',w',t,z1,z2,ht,rfl,rfl⟩:=z;have q1:=z1 xs (gu.seq h1);have q2:=z2 ys (gu.seq h2);rw[hv] at q1;rw[hw] at q2;cases q1;cases q2;exact⟨aF ht (.tup [v,w]),.newT L ht (.cons (rv.mono g _ _) (.cons (rw'.mono g _ _) .nil))⟩
 ·have l1:=d1.length;have l2:=d2.length;have hz:(jW ds es).length=min ds.length es.length:=by simp[jW]
  rw[List.getElem?_eq_none_iff,List.getElem?_eq_none_iff];omega
def Ay (hg:Gl X "zip")(hm:X.mg "zip"=none)(ha:DE X a ma)(hb:DE X b mb)(h1:starEach [a,b] X.env=(false,eval a X.env)::starEach [b] X.env:=by rfl)(h2:starEach [b] X.env=(false,eval b X.env)::starEach [] X.env:=by rfl)(hpl:(backTo pos (starEach [b] X.env)).any (·.1)=false:=by rfl) :
 DI X (.Tuple elts kt pos') (.Call (.Name "zip" p) [a,b] [] pos) (nh ma mb):=by
 obtain⟨ta,pa,qa⟩:=ha;obtain⟨tb,pb,qb⟩:=hb;refine⟨_,DO hg hm (aI pa (aI pb bF h2) h1) h1 hpl,fun os σ H δ xs R s m k=>?_⟩;obtain⟨dx,e1,m⟩:=af m;obtain⟨dy,e2,m⟩:=af m;refine qa os σ H δ dx _ s e1 fun v H1 g1 r1=>?_;refine qb os σ H1 δ dy _ (s.mono g1) e2 fun w H2 g2 r2=>?_
 match dx,dy,m with
 | .lst ds,.lst es,m =>
   cases m;obtain⟨l1,xs,rfl,h1,d1⟩:=(r1.mono g2.hd _ _).lst_inv;obtain⟨l2,ys,rfl,h2,d2⟩:=r2.lst_inv;exact⟨l1,l2,xs,ys,rfl,hide_le.seq h1,hide_le.seq h2,k _ H2 (g1.trans g2) (yk h1 d1 h2 d2)⟩
end
end DL
namespace DL
open PySem
def Cut (xs:Array Nat)(j r:Nat):Prop:=r<=xs.size/\(∀i v,i<r->xs[i]? = some v->v<j)/\∀i v,r<=i->xs[i]? = some v->j<=v
def Ris (xs:Array Nat):Prop:=xs.toList.Pairwise (·<·)
def Ris.lt {xs:Array Nat}(h:Ris xs){i k u v:Nat}(hk:i<k)(h1:xs[i]? = some u)(h2:xs[k]? = some v):u<v:=by
 rw[<-Array.getElem?_toList] at h1 h2;obtain⟨a1,e1⟩:=List.getElem?_eq_some_iff.mp h1;obtain⟨a2,e2⟩:=List.getElem?_eq_some_iff.mp h2;have:=List.pairwise_iff_getElem.mp h i k a1 a2 hk;rw[e1,e2] at this;exact this
def mP {xs:Array Nat}(h:Ris xs)(j:Nat):∀(f lo hi:Nat),hi-lo<=f->lo<=hi->hi<=xs.size->(∀i v,i<lo->xs[i]? = some v->v<j)->(∀i v,hi<=i->xs[i]? = some v->j<=v)->Cut xs j (SetTable.below.go xs j f lo hi)
 | 0,lo,hi,hf,hl,hs,h1,h2=>by
   rw[SetTable.below.go];exact⟨by omega,h1,fun i v hi'=>h2 i v (by omega)⟩
 | f+1,lo,hi,hf,hl,hs,h1,h2=>by
   rw[SetTable.below.go];by_cases hlt:lo<hi
   ·rw[if_pos hlt];have hm:(lo+hi) / 2<xs.size:=by omega
    have e:xs[(lo+hi) / 2]? = some xs[(lo+hi) / 2]:=Array.getElem?_eq_getElem hm;have eD:xs.getD ((lo+hi) / 2) j=xs[(lo+hi) / 2]:=by simp[hm]
    simp only[eD];by_cases hc:xs[(lo+hi) / 2]<j
    ·rw[if_pos hc];refine mP h j f _ _ (by omega) (by omega) hs (fun i v hi' q=>?_) h2;by_cases hq:i=(lo+hi) / 2
     ·subst hq;rw[e] at q;cases q;exact hc
     ·have:=h.lt (show i<(lo+hi) / 2 by omega) q e;omega
    ·rw[if_neg hc];refine mP h j f _ _ (by omega) (by omega) (by omega) h1 fun i v hi' q=>?_;by_cases hq:i=(lo+hi) / 2
     ·subst hq;rw[e] at q;cases q;omega
     ·have:=h.lt (show (lo+hi) / 2<i by omega) e q;omega
   ·rw[if_neg hlt];exact⟨by omega,h1,fun i v hi'=>h2 i v (by omega)⟩
def ki {xs:Array Nat}(h:Ris xs)(j:Nat):Cut xs j (SetTable.below xs j):=by
 unfold SetTable.below;refine mP h j _ _ _ (by omega) (by omega) (Nat.le_refl _) (fun i v hi=>by omega) fun i v hi q=>?_;rw[Array.getElem?_eq_none hi] at q;cases q
def Cut.uniq {xs:Array Nat}{j r r':Nat}(h:Cut xs j r)(h':Cut xs j r'):r=r':=by
 rcases Nat.lt_trichotomy r r' with q | q | q
 ·have hr:=Nat.lt_of_lt_of_le q h'.1;have e:xs[r]? = some xs[r]:=Array.getElem?_eq_getElem hr;have a:=h'.2.1 r _ q e;have b:=h.2.2 r _ (Nat.le_refl _) e;omega
 ·exact q
 ·have hr:=Nat.lt_of_lt_of_le q h.1;have e:xs[r']? = some xs[r']:=Array.getElem?_eq_getElem hr;have a:=h.2.1 r' _ q e;have b:=h'.2.2 r' _ (Nat.le_refl _) e;omega
def u5 {xs:Array Nat}(h:Ris xs){i v:Nat}(e:xs[i]? = some v):SetTable.below xs (v+1)=i+1:=by
 have hi:i<xs.size:=(Array.getElem?_eq_some_iff.mp e).1;refine(ki h (v+1)).uniq ⟨by omega,fun k u hk q=>?_,fun k u hk q=>?_⟩
 ·by_cases z:k=i
  ·subst z;rw[e] at q;cases q;omega
  ·have:=h.lt (show k<i by omega) q e;omega
 ·exact h.lt (show i<k by omega) e q
def u4 (xs:Array Nat)(h:Ris xs):SetTable.below xs 0=0 :=
 (ki h 0).uniq ⟨Nat.zero_le _,fun i v hi=>by omega,fun _ _ _ _=>Nat.zero_le _⟩
def Bw {xs:Array Nat}(h:Ris xs){j:Nat}(hn:xs[SetTable.below xs j]?≠some j):Ris (SetTable.insertAt xs (SetTable.below xs j) j):=by
 obtain⟨c1,c2,c3⟩:=ki h j;generalize SetTable.below xs j=p at *;unfold Ris;rw[SetTable.toList_insertAt,List.pairwise_append];refine⟨h.sublist (List.take_sublist _ _),List.pairwise_cons.mpr ⟨fun b hb=>?_,h.sublist (List.drop_sublist _ _)⟩,fun a ha b hb=>?_⟩
 ·obtain⟨k,hk⟩:=List.mem_iff_getElem?.mp hb;rw[List.getElem?_drop,Array.getElem?_toList] at hk;have h1:=c3 _ _ (Nat.le_add_right _ _) hk;by_cases z:k=0
  ·subst z;rcases Nat.lt_or_eq_of_le h1 with q | q
   ·exact q
   ·subst q;exact absurd hk hn
  ·have hp:p<xs.size:=by
    have:=(Array.getElem?_eq_some_iff.mp hk).1;omega
   have e:xs[p]? = some xs[p]:=Array.getElem?_eq_getElem hp;have h2:=c3 _ _ (Nat.le_refl _) e;have h3:=h.lt (show p<p+k by omega) e hk;omega
 ·obtain⟨k,hk⟩:=List.mem_iff_getElem?.mp ha;have hkp:k<p:=Classical.byContradiction fun z=>by
   rw[List.getElem?_eq_none (by rw[List.length_take];omega)] at hk;cases hk
  rw[List.getElem?_take_of_lt hkp,Array.getElem?_toList] at hk;have h1:=c2 _ _ hkp hk;rcases List.mem_cons.mp hb with rfl | hb
  ·exact h1
  ·obtain⟨q,hq⟩:=List.mem_iff_getElem?.mp hb;rw[List.getElem?_drop,Array.getElem?_toList] at hq;have h2:=c3 _ _ (Nat.le_add_right _ _) hq;omega
structure Tb (bt:Bool)(t:SetTable)(n:Nat):Prop where
 fit:t.fits n=true
 ris:Ris t.place
 nod:t.dummies=#[]
 led:bt=true\/t.led=true
def yy (bt:Bool):Tb bt (.fresh 0 0 (!bt)) 0:=⟨by decide +revert,by simp[SetTable.fresh,Ris],rfl,by cases bt <;> simp[SetTable.fresh]⟩
def zH (j:Nat):SetTable.has #[] j=false:=by unfold SetTable.has;simp
def rH {t:SetTable}(hd:t.dummies=#[])(g:Nat->Int)(h:Int):∀(f:Nat) (p:SetTable.Probe) (j:Nat) (d:Option Nat),p.dummy=none->SetTable.probe.go t g h f p=some (.empty j d)->d=none/\t.slot j=.empty
 | 0,p,j,d,_,e=>by rw[SetTable.probe.go] at e;cases e
 | f+1,p,j,d,hp,e=>by
   rw[SetTable.probe.go] at e;have adv:(t.advance p).dummy=none:=by unfold SetTable.advance;split <;> exact hp
   split at e
   ·rename_i hs;simp only[Option.some.injEq,SetTable.Met.empty.injEq] at e;obtain⟨rfl,rfl⟩:=e;exact⟨hp,hs⟩
   ·rename_i hs;exfalso;unfold SetTable.slot at hs;simp only[hd,zH] at hs;split at hs <;> simp at hs
   ·split at e
    ·cases e
    ·exact rH hd g h f _ j d adv e
def xN {t:SetTable}(hd:t.dummies=#[]){h:Int}{j:Nat}{b:Bool}(e:t.freeSlot h=some (j,b)):t.place[SetTable.below t.place j]?≠some j:=by
 unfold SetTable.freeSlot at e;split at e
 ·rename_i j' d hp;obtain⟨rfl,hs⟩:=rH hd _ h _ _ _ _ rfl hp;simp only[Option.getD_none,Option.isSome_none,Option.some.injEq,Prod.mk.injEq] at e;obtain⟨rfl,_⟩:=e;intro z;unfold SetTable.slot at hs;simp[z] at hs
 ·cases e
def jg {bt:Bool}{t:SetTable}(h:bt=true\/t.led=true)(n:Nat):Tb bt (t.standIn n) n :=
 ⟨SetTable.standIn_fits t n,by unfold Ris SetTable.standIn;simp[List.pairwise_lt_range],rfl,h⟩
def Di {bt:Bool}{t:SetTable}{es:Array (Int×Value)}(T:Tb bt t es.size)(h:Int)(x:Value):Tb bt (layNew t es h x).2.1 (layNew t es h x).1.size:=by
 unfold layNew;cases e:t.freeSlot h with
 | none =>
   dsimp only;rw[Array.size_push];exact jg T.led _
 | some q =>
   obtain⟨j,b⟩:=q;have hn:=xN T.nod e;dsimp only;unfold SetTable.orStandIn;split
   ·rename_i hf;refine⟨hf,Bw T.ris hn,?_,T.led⟩;show (if SetTable.has t.dummies j=true then _ else t.dummies)=#[];rw[T.nod,zH];rfl
   ·exact jg T.led _
def yx {bt:Bool}{t:SetTable}{es:Array (Int×Value)}(hl:bt=true\/t.led=true)(k:Nat):Tb bt (relayAll t es k).2.1 (relayAll t es k).1.size:=by
 unfold relayAll;cases e:t.relaid (es.map (·.1)) k with
 | none=>exact jg hl _
 | some q =>
   obtain⟨t',order⟩:=q;dsimp only;split
   ·rename_i hc;simp only[Bool.and_eq_true] at hc;unfold SetTable.relaid SetTable.laid at e;obtain⟨ow,_,e⟩:=Option.bind_eq_some_iff.mp e;simp only[Option.pure_def,Option.some.injEq,Prod.mk.injEq] at e;obtain⟨rfl,_⟩:=e;refine⟨hc.2,?_,rfl,hl⟩;show List.Pairwise (·<·) (List.map _ _).toArray.toList;rw[List.toList_toArray,List.pairwise_map];refine List.Pairwise.filterMap _ (fun a a' haa b hb b' hb'=>?_) List.pairwise_lt_range;obtain⟨u,_,rfl⟩:=Option.map_eq_some_iff.mp hb;obtain⟨u',_,rfl⟩:=Option.map_eq_some_iff.mp hb';exact haa
   ·exact jg hl _
end DL
namespace DL
open PySem PyProof.Rows
noncomputable def yh (e:Int×Value):Int:=match e.2 with
 | .int k _=>k
 | _=>0
def AllI (es:List (Int×Value)):Prop:=∀e∈es,∃t,e.2=.int (yh e) t/\e.1=hashInt (yh e)
noncomputable def bt (w:World):Bool:=w.params.followText "set-order"
def SetS (w:World)(h:Heap)(a:Addr)(ks:List Int):Prop :=
 ∃o es ep t,h.get? a=some o/\o.ExactSet/\o.data=.set es ep t/\AllI es.toList/\(es.toList.map yh).Perm ks/\es.size<scanBound/\Tb (bt w) t es.size
def AllI.elems {P:Program}{w:World}{es:List (Int×Value)}(h:AllI es):ElemsOf (intKind P w) es:=fun e he=>by
 obtain⟨t,h1,h2⟩:=h e he;refine⟨⟨yh e,?_,h2⟩,?_⟩
 ·rw[h1];exact intKind_is P w _ _
 ·rw[h1];rfl
def AllI.perm {l l':List (Int×Value)}(h:AllI l)(p:l'.Perm l):AllI l':=fun e he=>h e (p.mem_iff.mp he)
def AllI.snoc {l:List (Int×Value)}(h:AllI l)(n:Int)(t:Tok):AllI (l++[(hashInt n,.int n t)]):=fun e he=>by
 rcases List.mem_append.mp he with q | q
 ·exact h e q
 ·rw[List.mem_singleton.mp q];exact⟨t,rfl,rfl⟩
def SetS.at' {w:World}{h h':Heap}{a:Addr}{ks:List Int}(x:SetS w h a ks)(k:∀o,h.get? a=some o->h'.get? a=some o):SetS w h' a ks :=
 let ⟨o,es,ep,t,e,r⟩:=x;⟨o,es,ep,t,k _ e,r⟩
section
variable {P:Program}{w:World}{A:Around}{E:Value->Shared->Prop}{s:Shared}
def sj {h:Heap}{a:Addr}{o:Obj}{es es':Array (Int×Value)}{ep:Nat}{t t':SetTable}(ho:h.get? a=some o)(hx:o.ExactSet)(hd:o.data=.set es ep t) :
 ∃o',(h.update a (Obj.putSet es' t')).get? a=some o'/\o'.ExactSet/\o'.data=.set es' (ep+1) t':=by
 have q:=Heap.get?_update_self (Obj.putSet es' t') ho (by rw[putSet_of es' t' hd];rfl);rw[putSet_of es' t' hd] at q;exact⟨_,q,hx,rfl⟩
def Bs {a:Addr}{ks:List Int}{n:Int}{tk:Tok}{Q:Bool->Shared->Prop}(hS:SetS w s.heap a ks)(hr:ks.length+1<scanBound)
 (k:∀b h',Heap.SameBut a s.heap h'->SetS w h' a (fb ks n)->Q b { s with heap:=h' }):wpAny (model P w) A (setAddHashed a (.int n tk) (hashInt n)) Q E s:=by
 obtain⟨o,es,ep,t,ho,hx,hd,hi,hp,hb,hT⟩:=hS;have hlen:es.size=ks.length:=by rw[<-hp.length_eq,List.length_map,Array.length_toList]
 have hel:=hi.elems (P:=P) (w:=w);have hkey:=intKind_is P w n tk;unfold setAddHashed setAddHashedIn;refine wpAny_holding (wpAny_bind ?_);refine wpAny_setState_of ho hd hT.fit ?_;dsimp only;rw[if_pos (byScan_of (knd:=intKind P w) (x:=.int n tk) rfl hb hel)];unfold setAddByScan;refine wpAny_bind (wpAny_bind (wpAny_rule (wpAny_bind ?_)));refine wpAny_setScan_of (knd:=intKind P w) (k:=n) hkey ho hd hT.fit hel ?_;have hmem:n∈ks↔∃e∈es.toList,(intKind P w).is n e.2=true:=by
  rw[<-hp.mem_iff,List.mem_map];constructor
  ·rintro⟨e,he,rfl⟩;obtain⟨tt,q,_⟩:=hi e he;exact⟨e,he,by rw[q];exact intKind_is P w _ _⟩
  ·rintro⟨e,he,q⟩;obtain⟨tt,q',_⟩:=hi e he;refine⟨e,he,?_⟩;rw[q'] at q;exact(intKind P w).inj _ _ _ (intKind_is P w _ _) q
 cases hf:List.findIdx? (fun e=>(intKind P w).is n e.2) es.toList with
 | some j =>
   obtain⟨hj,hpj,_⟩:=List.findIdx?_eq_some_iff_getElem.mp hf;have hin:n∈ks:=hmem.mpr ⟨_,List.getElem_mem hj,hpj⟩;dsimp only;refine wpAny_pure (wpAny_pure ?_);refine k false s.heap (Heap.SameBut.refl a _) ?_;unfold fb;rw[if_pos hin];exact⟨o,es,ep,t,ho,hx,hd,hi,hp,hb,hT⟩
 | none =>
   have hin:n∉ks:=fun z=>by
    obtain⟨e,he,q⟩:=hmem.mp z;have:=List.findIdx?_eq_none_iff.mp hf e he;rw[q] at this;cases this
   dsimp only;have p1:=layNew_perm t es (hashInt n) (.int n tk);have T1:=Di hT (hashInt n) (.int n tk);generalize layNew t es (hashInt n) (.int n tk)=L at p1 T1 ⊢;obtain⟨es1,t1,dm,gv⟩:=L;dsimp only at p1 T1 ⊢;rw[Array.toList_push] at p1;have i1:AllI es1.toList:=(hi.snoc n tk).perm p1;have n1:es1.size=es.size+1:=by
    have:=p1.length_eq;simpa using this
   have b1:es1.size<scanBound:=by omega
   have q1:(es1.toList.map yh).Perm (fb ks n):=by
    unfold fb;rw[if_neg hin];refine(p1.map yh).trans ?_;rw[List.map_append];exact hp.append_right _
   have gw:∀(b:Bool) (s₁:Shared) (Q':Unit->Shared->Prop),Q' () s₁->wpAny (model P w) A (match b with | true=>rule "set.scan.the-table-gave-way" | false=>pure ()) Q' E s₁:=fun b s₁ Q' z=>by
    cases b
    ·exact wpAny_pure z
    ·exact wpAny_rule z
   obtain⟨o1,g1,x1,d1⟩:=sj (es':=es1) (t':=t1) ho hx hd;have sb1:=Heap.SameBut.update s.heap a (Obj.putSet es1 t1);have p2:=relayAll_perm t1 es1 (SetTable.grown es1.size);have T3:=yx (es:=es1) T1.led (SetTable.grown es1.size);obtain⟨o2,g2,x2,d2⟩:=sj (es':=(relayAll t1 es1 (SetTable.grown es1.size)).1) (t':=(relayAll t1 es1 (SetTable.grown es1.size)).2.1) g1 x1 d1;have n2:(relayAll t1 es1 (SetTable.grown es1.size)).1.size=es1.size:=by simpa using p2.length_eq
   have end2:=k true _ (sb1.trans (Heap.SameBut.update _ a _)) ⟨o2,_,_,_,g2,x2,d2,i1.perm p2,(p2.map yh).trans q1,by omega,T3⟩;have end1:=k true _ sb1 ⟨o1,es1,_,t1,g1,x1,d1,i1,q1,b1,T1⟩;refine wpAny_bind (gw gv s _ ?_);have st:∀(R':Unit->Shared->Prop),R' () { s with heap:=s.heap.update a (Obj.putSet es1 t1) }->wpAny (model P w) A (storeSet a es1 t1) R' E s:=fun R' z=>wpAny_storeSet_of ho hd z (fits_of_scanBound b1);have st2:∀(R':Unit->Shared->Prop),R' () { s with heap:=(s.heap.update a (Obj.putSet es1 t1)).update a (Obj.putSet (relayAll t1 es1 (SetTable.grown es1.size)).1 (relayAll t1 es1 (SetTable.grown es1.size)).2.1) } ->
    wpAny (model P w) A (storeSet a (relayAll t1 es1 (SetTable.grown es1.size)).1 (relayAll t1 es1 (SetTable.grown es1.size)).2.1) R' E { s with heap:=s.heap.update a (Obj.putSet es1 t1) }:=fun R' z=>wpAny_storeSet_of g1 d1 z (fits_of_scanBound (by omega))
   have hv:=hashByValue_scannable 8 (x:=.int n tk) rfl;refine wpAny_ite_split (c:=t1.plain=true) (fun _=>?_) fun _=>?_
   all_goals try rw[hv]
   all_goals refine wpAny_bind (wpAny_pure ?_)
   all_goals refine wpAny_bind (m:=storeSet a es1 t1) (st _ ?_)
   all_goals exact wpAny_ite_split (c:=(!dm&&t1.tooFull)=true) (fun _=>wpAny_bind (gw _ _ _ (wpAny_bind (st2 _ (wpAny_pure (wpAny_pure end2)))))) fun _=>wpAny_pure (wpAny_pure end1)
end
section
variable {P:Program}{w:World}{A:Around}{E:Value->Shared->Prop}{s:Shared}
def ym {β:Type}{m:Sem β}{k:β->Sem PySem.Fin}{vs:List Value}{R:Result->Shared->Prop}(h:wpAny (model P w) A.in1 m (fun b s'=>wpAny (model P w) A.in1 (k b) (fun fin s'=>match fin with | .done f=>R (.ok f) s' | .again c'=>c'.quiet=true/\codeAny (model P w) A c' R s') (fun e s'=>R (.error e) s') s') (fun e s'=>R (.error e) s') s)
 (e:Builtin.«set.update.loop» ⟨vs,[]⟩=m >>= k):codeAny (model P w) A (.builtin "set.update.loop" ⟨vs,[]⟩) R s :=
 codeAny_builtin PyProof.Rows.F.entry_set_update_loop (by rw[Around.under_plainId PyProof.Rows.F.plain_set_update_loop _,e];exact wpAny_bind h)
def yM {R:Result->Shared->Prop}{I:Addr}{fp wr:List Addr}{G:Array GenState->Array GenState->Prop}{n:Nat}{PI:Nat->Value->Prop}{St:Nat->Shared->Prop}(W:WalksS P w A.in1 I fp wr G n PI St){a:Addr}(ha:a∉fp)
 (val:Nat->Int) (hv:∀i v,PI i v->∃t,v=.int (val i) t) (hb:n+1<scanBound):∀(m i:Nat) (s:Shared) (ks:List Int),n-i=m->i<=n->ks.length<=i->St i s->SetS w s.heap a ks ->
  (∀s',Moved (a::wr) G s s'->SetS w s'.heap a (((List.range' i (n-i)).map val).foldl fb ks)->R (.ok (.ret .none)) s') ->
  codeAny (model P w) A (.builtin "set.update.loop" ⟨[.ref a,.ref I],[]⟩) R s:=by
 have haw:a∉wr:=fun z=>ha (W.sub _ z);have up:∀b∈wr,b∈a::wr:=fun b z=>List.mem_cons_of_mem _ z;intro m;induction m with
 | zero =>
   intro i s ks hm hi hl hst hS k;have e:i=n:=by omega
   subst e;refine ym (m:=pyNext (.ref I)) ?_ rfl;refine W.done s _ _ hst fun s' hm'=>wpAny_pure (k s' (hm'.mono up) ?_);rw[Nat.sub_self];exact hS.at' fun o q=>hm'.heap a o haw q
 | succ m ih =>
   intro i s ks hm hi hl hst hS k;have hlt:i<n:=by omega
   refine ym (m:=pyNext (.ref I)) ?_ rfl;refine W.item i s _ _ hlt hst fun v s' hp hst' hm'=>?_;obtain⟨t,rfl⟩:=hv i v hp;have hS':=hS.at' (h':=s'.heap) fun o q=>hm'.heap a o haw q;refine wpAny_bind (m:=holding [Value.int (val i) t] (setAdd a (.int (val i) t))) (wpAny_holding (wpAny_holding (wpAny_bind ((intKind P w).pyHash (k:=val i) (intKind_is _ _ _ _) ?_))));refine Bs (P:=P) (s:={ s' with toks:=s'.toks+1 }) hS' (by omega) fun b h' sb hS2=>?_;have hlen:(fb ks (val i)).length<=i+1:=by
    unfold fb;split
    ·omega
    ·rw[List.length_append,List.length_singleton];omega
   refine wpAny_pure ⟨plainId_quiet PyProof.Rows.F.plain_set_update_loop _,ih (i+1) _ _ (by omega) hlt hlen (W.frame _ s' _ _ hst' (Nat.le_succ _) fun c hc o q=>?_) hS2 fun s2 m2 hS3=>?_⟩
   ·rw[sb.2 c fun z:c=a=>ha (z ▸ hc)];exact q
   ·refine k s2 (Moved.trans W.gtrans ((hm'.mono up).then_heap (Nat.le_succ _) fun c o hc q=>?_) m2) ?_
    ·rw[sb.2 c fun z:c=a=>hc (z ▸ List.mem_cons_self)];exact q
    ·have e:n-i=(n-(i+1))+1:=by omega
     rw[e,List.range'_succ];exact hS3
def Br (x:Value){Q₁:Value->Shared->Prop}(k:Q₁ (.ref s.heap.objs.size) { s with heap:=s.heap.push { cls:=.type "set",dict:=none,data:=.set #[] 0 (.fresh 0 0 (!bt w)) } }) :
 codeAny (model P w) A (.call (.builtin "set.__new__") ⟨[.type "set",x],[]⟩) (wants Q₁ E) s:=by
 refine codeAny_of_tree ?_;show wpAny _ _ (checkBuiltinCall "set.__new__" ⟨[.type "set",x],[]⟩ >>= fun _=>again (.builtin "set.__new__" ⟨[.type "set",x],[]⟩)) _ _ _;refine wpAny_bind (wpAny_of_eq (PySem.F.newCall_set_1 x) ?_);refine wpAny_pure ⟨plainId_quiet PySem.F.plain_set_new _,codeAny_builtin PySem.F.entry_set_new ?_⟩;rw[Around.under_plainId PySem.F.plain_set_new _];unfold Builtin.«set.__new__» Builtin.Frozenset.newClass;have q:=sub_set_self;obtain⟨hp,g,d,tk,os⟩:=s;dsimp only at k ⊢
 wp_walk
 refine wpAny_askSetting (wpAny_pure ?_);simp only[newObj];exact wpAny_bind (wpAny_alloc (wpAny_pure (wpAny_pure k)))
end
section
variable {P:Program}{w:World}{A:Around}{E:Value->Shared->Prop}{s:Shared}
set_option maxHeartbeats 3200000 in
def ya {l:Addr}{vs:List Value}{ns:List Int}{Q:Value->Shared->Prop}(hh:A.handled=none)(hl:s.heap.IsList l vs.toArray)(hi:IntsAre vs ns)(hb:vs.length+1<scanBound)
 (k:∀h' tk,SetS w h' s.heap.objs.size (ns.foldl fb [])->(∀b o,s.heap.get? b=some o->h'.get? b=some o)->Q (.ref s.heap.objs.size) { s with heap:=h',toks:=tk }) :
 wpAny (model P w) A (call (.type "set") [.ref l]) Q E s:=by
 obtain⟨c0,tl0,hm0⟩:=PySem.F.called_set.mro;have f1:=PySem.F.called_set.made;have f2:=PySem.F.called_set.sub;have f3:=PySem.F.called_set.notType;have f4:=PySem.F.called_set.canCreate;have f5:=PySem.F.typeCall_set_1 (.ref l);refine wpAny_call (codeAny_of_tree (show wpAny _ _ (callAny (.type "set") _) _ _ _ from wpAny_pure ⟨Code.quiet_builtin _ (by decide +kernel),codeAny_builtin PySem.F.entry_type_call ?_⟩));rw[Around.under_plain (weight_type_call_type "set" [.ref l] []) rfl]
 repeat (any_goals (first | assumption | wp_step))
 refine codeAny_mono (Br (.ref l) (E:=E) (Q₁:=fun v s1=>v=.ref s.heap.objs.size/\s1={ s with heap:=s.heap.push { cls:=.type "set",dict:=none,data:=.set #[] 0 (.fresh 0 0 (!bt w)) } }) ⟨rfl,rfl⟩) fun r s1 hr=>?_
 match r,hr with
 | .error e,hr=>exact hr
 | .ok (.ret v),hr =>
   obtain⟨rfl,rfl⟩:=hr;generalize ho:({ cls:=.type "set",dict:=none,data:=.set #[] 0 (.fresh 0 0 (!bt w)) }:Obj)=ob;have g0:(s.heap.push ob).get? s.heap.objs.size=some ob:=Heap.get?_push_size _ (by rw[<-ho];rfl);have g1:Shared.TypeIs { s with heap:=s.heap.push ob } (.ref s.heap.objs.size) "set":=⟨_,g0,by rw[<-ho]⟩;have g2:=PySem.F.called_set.init.lookup;have g3:=PySem.F.called_set.init.bind (.ref s.heap.objs.size)
   repeat (any_goals (first | assumption | wp_step))
   refine codeAny_mono (codeAny_call_builtin (R:=wants (fun r s2=>r=.none/\∃h' tk,s2={ s with heap:=h',toks:=tk }/\SetS w h' s.heap.objs.size (ns.foldl fb [])/\(∀b o,s.heap.get? b=some o->h'.get? b=some o)) E)
    PySem.F.called_set.init.plain PySem.F.entry_set_init (check_set_init_1 g1 ?_)) fun r2 s2 hr2=>?_
   ·obtain⟨ol,hol,cl,nl,dl⟩:=hl;obtain⟨oc,od,oda,os⟩:=ol;simp only at cl dl;subst cl dl;have hol':(s.heap.push ob).get? l=some { cls:=.type "list",dict:=od,data:=.seq vs.toArray nl,slots:=os }:=Heap.get?_push_of_some _ hol;have q1:=PySem.F.sub_list_set;have q2:=PySem.F.sub_list_frozenset;have q3:(Value.type "list"==Value.type "dict")=false:=by decide
    have q4:(s.heap.push ob).IsList l vs.toArray:=⟨_,hol',rfl,nl,rfl⟩;subst ho;unfold Builtin.«set.__init__» noKeywords Builtin.Frozenset.updateFrom;generalize hPI:pyIter=PI
    wp_walk
    subst hPI;have lt:l<s.heap.objs.size:=Heap.lt_size hol;refine wpAny_pyIter_list q4 (wpAny_bind (wpAny_runValue ?_));have sz:=Heap.size_push s.heap { cls:=.type "set",dict:=none,data:=.set #[] 0 (.fresh 0 0 (!bt w)) };have hne:l≠(s.heap.push { cls:=.type "set",dict:=none,data:=.set #[] 0 (.fresh 0 0 (!bt w)) }).objs.size:=by rw[sz];exact Nat.ne_of_lt (Nat.lt_succ_of_lt lt)
    have hnf:s.heap.objs.size∉[(s.heap.push { cls:=.type "set",dict:=none,data:=.set #[] 0 (.fresh 0 0 (!bt w)) }).objs.size,l]:=by
     rw[sz];simp only[List.mem_cons,List.not_mem_nil,or_false,not_or];exact⟨Nat.ne_of_lt (Nat.lt_succ_self _),Nat.ne_of_gt lt⟩
    have W:=Walks.list (prog:=P) (w:=w) (A:=A.in1.in1.in1) (by simp[hh]) (s.heap.push { cls:=.type "set",dict:=none,data:=.set #[] 0 (.fresh 0 0 (!bt w)) }).objs.size l hne vs.toArray;refine yM W.toS hnf (fun i=>ns.getD i 0) (fun i v hv=>?_) (by simpa using hb) _ 0 _ [] rfl (Nat.zero_le _) (Nat.le_refl _) ⟨⟨_,Heap.get?_push_size _ rfl,rfl,rfl⟩,q4.push _⟩ ?_ ?_
    ·exact IntsAre.int_at hi i v (by rw[<-Array.getElem?_toList] at hv;exact hv)
    ·refine⟨_,#[],0,_,Heap.get?_push_of_some _ g0,⟨rfl,rfl,rfl⟩,rfl,fun e he=>by simp at he,.refl _,by decide,yy (bt w)⟩
    ·intro s' hm' hS;have e:((List.range' 0 (vs.toArray.size-0)).map fun i=>ns.getD i 0)=ns:=by
      have hz:vs.toArray.size-0=ns.length:=by rw[List.size_toArray,IntsAre.length hi];rfl
      rw[hz,<-List.range_eq_range'];refine List.ext_getElem? fun i=>?_;rw[List.getElem?_map];by_cases hi':i<ns.length
      ·simp[hi']
      ·simp[hi',Nat.not_lt.mp hi']
     rw[e] at hS;obtain⟨h',g',d',tk',os'⟩:=s';have e1:g'=s.gens:=hm'.gens;have e2:d'=s.drawn:=hm'.drawn;have e3:os'=s.os:=hm'.os;subst e1 e2 e3;refine wpAny_pure (wpAny_pure ⟨rfl,h',tk',rfl,hS,fun b o q=>?_⟩);have hlt:=Heap.lt_size q;refine hm'.heap b o ?_ (Heap.get?_push_of_some _ (Heap.get?_push_of_some _ q));rw[sz];simp only[List.mem_cons,List.not_mem_nil,or_false,not_or];exact⟨Nat.ne_of_lt hlt,Nat.ne_of_lt (Nat.lt_succ_of_lt hlt)⟩
   ·match r2,hr2 with
    | .error e,hr2=>exact hr2
    | .ok (.ret v),hr2 =>
      obtain⟨rfl,h',tk,rfl,z1,z2⟩:=hr2
      repeat (any_goals (first | assumption | wp_step))
      exact k _ _ z1 z2
end
def si_slot:Slot "set_iterator" "__next__" "set_iterator.__next__" :=
 Slot.of (owner:="set_iterator") (n:="__next__") (by rw[typeLookup_type,builtinLookup_eq_fast];kernel_rfl) (by decide +kernel) (by decide +kernel) (by decide +kernel) (by first | exact .inl (by decide +kernel) | exact .inr (by decide +kernel)) (by rw[isSubtype_type];kernel_rfl)
def ji:entryFor table "set_iterator.__next__"=some Builtin.«set_iterator.__next__»:=entryFor_of_tree (by kernel_rfl)
def rm:Manifest.owners.lookup (String.ofList ['r','o','t','a','r','e','t','i','_','t','e','s'].reverse)=some Manifest.sig_set_iterator:=by kernel_rfl
def kR (a:Value):argsOk "set_iterator.__next__" ⟨[a],[]⟩:=by
 unfold argsOk;rw[signature?_of (id:="set_iterator.__next__") (n:=['_','_','t','x','e','n','_','_']) (o:=['r','o','t','a','r','e','t','i','_','t','e','s']) (by kernel_rfl) rm];kernel_rfl
def nF:Slot "set_iterator" "__iter__" "set_iterator.__iter__" :=
 Slot.of (owner:="set_iterator") (n:="__iter__") (by rw[typeLookup_type,builtinLookup_eq_fast];kernel_rfl) (by decide +kernel) (by decide +kernel) (by decide +kernel) (by first | exact .inl (by decide +kernel) | exact .inr (by decide +kernel)) (by rw[isSubtype_type];kernel_rfl)
def tZ:entryFor table "set_iterator.__iter__"=some Builtin.«dict_keyiterator.__iter__»:=entryFor_alias (id':="dict_keyiterator.__iter__") (by kernel_rfl) (by decide +kernel) (by decide +kernel) (by kernel_rfl)
def xg (a:Value):argsOk "set_iterator.__iter__" ⟨[a],[]⟩:=by
 unfold argsOk;rw[signature?_of (id:="set_iterator.__iter__") (n:=['_','_','r','e','t','i','_','_']) (o:=['r','o','t','a','r','e','t','i','_','t','e','s']) (by kernel_rfl) rm];kernel_rfl
def lu:entryFor table "set.__iter__"=some Builtin.«frozenset.__iter__»:=entryFor_alias (id':="frozenset.__iter__") (by kernel_rfl) (by decide +kernel) (by decide +kernel) (by kernel_rfl)
def SIt (h:Heap)(it a:Addr)(f0:Value)(i n ep:Nat):Prop:=∃o,h.get? it=some o/\o.cls=.type "set_iterator"/\o.data=.fields #[f0,.int i 0,.ref a,.int n 0,.int ep 0]
def SAt (w:World)(h:Heap)(a:Addr)(es:Array (Int×Value))(ep:Nat)(t:SetTable):Prop:=∃o,h.get? a=some o/\o.cls=.type "set"/\o.data=.set es ep t/\Tb (bt w) t es.size
section
variable {P:Program}{w:World}{A:Around}{E:Value->Shared->Prop}{s:Shared}{it a:Addr}{es:Array (Int×Value)}{ep:Nat}{t:SetTable}
def iJ {slot i:Nat}{Q:Option (Value×Nat)->Shared->Prop}(hS:SAt w s.heap a es ep t)(hb:bt w=true)(k:Q (((pickOrder (w.params.setOrder a ep) es)[i]?).map fun e=>(e.2,slot)) s):wpAny (model P w) A (setNext a slot i ep) Q E s:=by
 obtain⟨o,ho,_,hd,hT⟩:=hS;unfold setNext;refine wpAny_bind (wpAny_setState_of ho hd hT.fit (wpAny_bind (wpAny_bind (wpAny_askSetting (wpAny_pure ?_)))));show wpAny _ _ (if bt w=true then _ else _) _ _ _;rw[if_pos hb];show wpAny _ _ (if (ep != ep)=true then _ else _) _ _ _;rw[if_neg (by simp)];refine wpAny_bind ?_;unfold setWalk;refine wpAny_bind (wpAny_setState_of ho hd hT.fit (wpAny_bind (wpAny_bind (wpAny_askSetting (wpAny_pure ?_)))));show wpAny _ _ (if bt w=true then _ else _) _ _ _;rw[if_pos hb];exact wpAny_bind (wpAny_askSetting (wpAny_pure (wpAny_pure k)))
def gM {slot i:Nat}{Q:Option (Value×Nat)->Shared->Prop}(hS:SAt w s.heap a es ep t)(hb:bt w=false)(hp:(!t.plain&&decide (es.size>1))=false)
 (k:Q (match es[SetTable.below t.place slot]?,t.place[SetTable.below t.place slot]? with | some (_,x),some j=>some (x,j+1) | _,_=>none) s):wpAny (model P w) A (setNext a slot i ep) Q E s:=by
 obtain⟨o,ho,_,hd,hT⟩:=hS;unfold setNext;refine wpAny_bind (wpAny_setState_of ho hd hT.fit (wpAny_bind (wpAny_bind (wpAny_askSetting (wpAny_pure ?_)))));show wpAny _ _ (if bt w=true then _ else _) _ _ _;rw[hb];show wpAny _ _ (if (!t.plain&&decide (es.size>1))=true then _ else _) _ _ _;rw[hp];refine wpAny_bind (m:=if (!t.led && !es.isEmpty)=true then unsupported "set:maker-not-led" else pure ()) ?_;rw[show t.led=true from hT.led.resolve_left (by rw[hb];simp)];exact wpAny_pure (wpAny_pure k)
def j0 {f0:Value}{i n ep:Nat}{Q:Unit->Shared->Prop}{j:Nat}{x:Value}(hI:SIt s.heap it a f0 i n ep)(hj:j<5)(k:∀h' o',Heap.SameBut it s.heap h'->h'.get? it=some o'->o'.cls=.type "set_iterator"->o'.data=.fields ((#[f0,.int i 0,.ref a,.int n 0,.int ep 0]:Array Value).setIfInBounds j x)->Q () { s with heap:=h' }) :
 wpAny (model P w) A (setField (.ref it) j x) Q E s:=by
 obtain⟨o,ho,hc,hd⟩:=hI;exact wpAny_setField ho hd hj (k _ _ (Heap.SameBut.update ..) (Heap.get?_update_self _ ho (Obj.isFreed_of_fields (Obj.data_mapFields hd _))) ((Obj.cls_mapFields ..).trans hc) (Obj.data_mapFields hd _))
def vt {x:Value}{slot i:Nat}{Q:Option Value->Shared->Prop}(hI:SIt s.heap it a (.int slot 0) i es.size ep)(hS:SAt w s.heap a es ep t){nx:Nat}
 (hn:∀(A:Around) (E:Value->Shared->Prop) (Q:Option (Value×Nat)->Shared->Prop),Q (some (x,nx)) s->wpAny (model P w) A (setNext a slot i ep) Q E s)
 (k:∀h',SIt h' it a (.int nx 0) (i+1) es.size ep->Heap.SameBut it s.heap h'->Q (some x) { s with heap:=h' }):wpAny (model P w) A (pyNext (.ref it)) Q E s:=by
 have hII:=hI;obtain⟨o,ho,hc,hd⟩:=hI;obtain⟨oS,hoS,hcS,hdS,hT⟩:=hS;have hTy:s.TypeIs (.ref it) "set_iterator":=⟨o,ho,hc⟩;unfold pyNext;refine wpAny_bind (wpAny_attempt (wpAny_callSpecial?_slot (name:=Str.ofString "__next__") hTy si_slot (wpAny_call_entry si_slot hTy ji ?_ (kR _))));unfold Builtin.«set_iterator.__next__»;refine wpAny_bind (wpAny_pure (wpAny_bind (wpAny_fieldsOf ho hd ?_)));dsimp only;refine wpAny_bind (wpAny_setEntries_of hoS hdS hT.fit ?_);rw[if_neg (by simp)];refine wpAny_bind ?_;simp only[Int.toNat_natCast];refine hn _ _ _ ?_;dsimp only;refine wpAny_bind (j0 hII (by decide) fun h1 o1 sb1 g1 c1 d1=>?_);have I1:SIt h1 it a (.int nx 0) i es.size ep:=⟨o1,g1,c1,by rw[d1];rfl⟩;refine wpAny_bind (j0 (s:={ s with heap:=h1 }) I1 (by decide) fun h2 o2 sb2 g2 c2 d2=>?_);exact wpAny_pure ⟨_,rfl,wpAny_pure (k h2 ⟨o2,g2,c2,by rw[d2];rfl⟩ (sb1.trans sb2))⟩
def i3 {α:Type}{Q:α->Shared->Prop}{E':Value->Shared->Prop}(hh:A.handled=none)(k:∀h' e o,(∀b ob,s.heap.get? b=some ob->h'.get? b=some ob)->h'.get? e=some o->o.cls=.type "StopIteration"->E' (.ref e) { s with heap:=h' }) :
 wpAny (model P w) A (newExc (.type "StopIteration") [] >>= fun e=>raiseNew e) Q E' s:=by
 simp only[newExc,newTuple,raiseNew];refine wpAny_bind (wpAny_bind (wpAny_newObj_type (wpAny_bind (m:=firstArgMember _ _) (wpAny_of_eq (a:=Value.none) (by simp only[firstArgMember];rfl) (wpAny_newObj_type ?_ (by size_fits)))) (by size_fits)));refine wpAny_bind (wpAny_handled ?_);rw[hh];exact wpAny_bind (wpAny_pure (wpAny_throw (k _ _ _ (fun b ob q=>Heap.get?_push_of_some _ (Heap.get?_push_of_some _ q)) (Heap.get?_push_size _ rfl) rfl)))
def yL {slot i:Nat}{Q:Option Value->Shared->Prop}(hh:A.handled=none)(hI:SIt s.heap it a (.int slot 0) i es.size ep)(hS:SAt w s.heap a es ep t)
 (hn:∀(A:Around) (E:Value->Shared->Prop) (Q:Option (Value×Nat)->Shared->Prop),Q none s->wpAny (model P w) A (setNext a slot i ep) Q E s)
 (k:∀h',Heap.ExtBut it s.heap h'->Q none { s with heap:=h' }):wpAny (model P w) A (pyNext (.ref it)) Q E s:=by
 have hII:=hI;obtain⟨o,ho,hc,hd⟩:=hI;obtain⟨oS,hoS,hcS,hdS,hT⟩:=hS;have hTy:s.TypeIs (.ref it) "set_iterator":=⟨o,ho,hc⟩;unfold pyNext;refine wpAny_bind (wpAny_attempt (wpAny_callSpecial?_slot (name:=Str.ofString "__next__") hTy si_slot (wpAny_call_entry si_slot hTy ji ?_ (kR _))));unfold Builtin.«set_iterator.__next__»;refine wpAny_bind (wpAny_pure (wpAny_bind (wpAny_fieldsOf ho hd ?_)));dsimp only;refine wpAny_bind (wpAny_setEntries_of hoS hdS hT.fit ?_);rw[if_neg (by simp)];refine wpAny_bind ?_;simp only[Int.toNat_natCast];refine hn _ _ _ ?_;dsimp only;refine wpAny_bind (j0 hII (by decide) fun h1 o1 sb1 g1 c1 d1=>?_);refine i3 (s:={ s with heap:=h1 }) hh fun h2 e oe k2 ge ce=>?_;refine wpAny_bind (wpAny_isInstance (T:="StopIteration") (b:=true) ⟨oe,ge,ce⟩ isSubtype_stop (wpAny_pure (k h2 fun b ob hb q=>k2 _ _ ?_)));rw[sb1.2 b hb];exact q
def Bu {pl:Addr}{ps:Array Value}{np i p:Nat}{x:Int×Value}{Q:Option Value->Shared->Prop}(hI:SIt s.heap it a (.ref pl) i es.size ep)(hS:SAt w s.heap a es ep t)(hp:∃o,s.heap.get? pl=some o/\o.data=.seq ps np)
 (hi:ps[i]? = some (.int p 0)) (hx:es[p]? = some x)
 (k:∀h',SIt h' it a (.ref pl) (i+1) es.size ep->Heap.SameBut it s.heap h'->Q (some x.2) { s with heap:=h' }):wpAny (model P w) A (pyNext (.ref it)) Q E s:=by
 have hII:=hI;obtain⟨o,ho,hc,hd⟩:=hI;obtain⟨oS,hoS,hcS,hdS,hT⟩:=hS;obtain⟨op,hop,hdp⟩:=hp;have hTy:s.TypeIs (.ref it) "set_iterator":=⟨o,ho,hc⟩;unfold pyNext;refine wpAny_bind (wpAny_attempt (wpAny_callSpecial?_slot (name:=Str.ofString "__next__") hTy si_slot (wpAny_call_entry si_slot hTy ji ?_ (kR _))));unfold Builtin.«set_iterator.__next__»;refine wpAny_bind (wpAny_pure (wpAny_bind (wpAny_fieldsOf ho hd ?_)));dsimp only;refine wpAny_bind (wpAny_setEntries_of hoS hdS hT.fit ?_);rw[if_neg (by simp)];refine wpAny_bind (wpAny_seqItems hop hdp ?_);simp only[Int.toNat_natCast,hi];refine wpAny_bind ?_;unfold setNextDrawn;refine wpAny_bind (wpAny_setState_of hoS hdS hT.fit ?_);dsimp only;rw[if_neg (by simp),hx];refine wpAny_pure (wpAny_bind (j0 hII (by decide) fun h1 o1 sb1 g1 c1 d1=>?_));exact wpAny_pure ⟨_,rfl,wpAny_pure (k h1 ⟨o1,g1,c1,by rw[d1];rfl⟩ sb1)⟩
def Dt {pl:Addr}{ps:Array Value}{np i:Nat}{Q:Option Value->Shared->Prop}(hh:A.handled=none)(hI:SIt s.heap it a (.ref pl) i es.size ep)(hS:SAt w s.heap a es ep t)(hp:∃o,s.heap.get? pl=some o/\o.data=.seq ps np)
 (hi:ps[i]? = none)
 (k:∀h',Heap.ExtBut it s.heap h'->Q none { s with heap:=h' }):wpAny (model P w) A (pyNext (.ref it)) Q E s:=by
 have hII:=hI;obtain⟨o,ho,hc,hd⟩:=hI;obtain⟨oS,hoS,hcS,hdS,hT⟩:=hS;obtain⟨op,hop,hdp⟩:=hp;have hTy:s.TypeIs (.ref it) "set_iterator":=⟨o,ho,hc⟩;unfold pyNext;refine wpAny_bind (wpAny_attempt (wpAny_callSpecial?_slot (name:=Str.ofString "__next__") hTy si_slot (wpAny_call_entry si_slot hTy ji ?_ (kR _))));unfold Builtin.«set_iterator.__next__»;refine wpAny_bind (wpAny_pure (wpAny_bind (wpAny_fieldsOf ho hd ?_)));dsimp only;refine wpAny_bind (wpAny_setEntries_of hoS hdS hT.fit ?_);rw[if_neg (by simp)];refine wpAny_bind (wpAny_seqItems hop hdp ?_);simp only[Int.toNat_natCast,hi];refine wpAny_bind (j0 hII (by decide) fun h1 o1 sb1 g1 c1 d1=>?_);have I1:SIt h1 it a (.int 0 0) i es.size ep:=⟨o1,g1,c1,by rw[d1];rfl⟩;refine wpAny_bind (j0 (s:={ s with heap:=h1 }) I1 (by decide) fun h2 o2 sb2 g2 c2 d2=>?_);refine i3 (s:={ s with heap:=h2 }) hh fun h3 e oe k3 ge ce=>?_;refine wpAny_bind (wpAny_isInstance (T:="StopIteration") (b:=true) ⟨oe,ge,ce⟩ isSubtype_stop (wpAny_pure (k h3 fun b ob hb q=>k3 _ _ ?_)));rw[sb2.2 b hb,sb1.2 b hb];exact q
def o0 {f0:Value}{i n ep:Nat}{Q:Value->Shared->Prop}(hI:SIt s.heap it a f0 i n ep)(k:Q (.ref it) s):wpAny (model P w) A (pyIter (.ref it)) Q E s:=by
 obtain⟨o,ho,hc,hd⟩:=hI;have hTy:s.TypeIs (.ref it) "set_iterator":=⟨o,ho,hc⟩;refine wpAny_pyIter_slot hTy nF (wpAny_call_entry nF hTy tZ (show wpAny _ _ (ret (.ref it)) _ _ s from wpAny_pure ⟨_,rfl,"set_iterator",_,hTy,si_slot.lookup,k⟩) (xg _))
def uZ {Q:Nat->Shared->Prop}{n:Nat}(hn:n≠0)(k:∀i d,i<n->Q i { s with drawn:=d }):wpAny (model P w) A (choose .order n) Q E s:=fun Γ p hΓ=>⟨hn,k _ _ (Nat.mod_lt _ (Nat.pos_of_ne_zero hn))⟩
def jZ {α:Type}:∀{l:List α} {i:Nat} {x:α},l[i]? = some x->(x::l.eraseIdx i).Perm l
 | [],i,x,e=>by simp at e
 | y::l,0,x,e=>by
   simp only[List.getElem?_cons_zero,Option.some.injEq] at e;subst e;exact .refl _
 | y::l,i+1,x,e=>by
   rw[List.eraseIdx_cons_succ];exact(List.Perm.swap y x _).trans ((jZ (by simpa using e)).cons y)
def mG {α:Type}:∀(n:Nat) (xs:List α) (s:Shared) (Q:List α->Shared->Prop),xs.length=n->(∀ys d,ys.Perm xs->Q ys { s with drawn:=d })->wpAny (model P w) A (drawOrder n xs) Q E s
 | 0,xs,s,Q,hl,k=>by
   have e:xs=[]:=List.length_eq_zero_iff.mp hl;subst e;exact wpAny_pure (k [] s.drawn (.refl _))
 | n+1,[],s,Q,hl,k=>by simp at hl
 | n+1,x::xs,s,Q,hl,k=>by
   rw[drawOrder];refine wpAny_bind (uZ (by simp) fun i d hi=>?_);obtain⟨y,hy⟩:∃y,(x::xs)[i]? = some y:=⟨_,List.getElem?_eq_getElem hi⟩;rw[hy];have hp:=jZ hy;refine wpAny_bind (mG n _ { s with drawn:=d } _ (by have:=hp.length_eq;simp only[List.length_cons] at this hl ⊢;omega) fun ys d' q=>wpAny_pure (k (y::ys) d' ((q.cons y).trans hp)));intro z;cases z
def vL {α:Type}(next:Nat->Nat):∀(f k:Nat) (left:List α) (out:Array α),left.length=f->((pickOrder.go next f k left out).toList).Perm (out.toList++left)
 | 0,k,left,out,hl=>by
   have e:left=[]:=List.length_eq_zero_iff.mp hl;subst e;rw[pickOrder.go,List.append_nil]
 | f+1,k,left,out,hl=>by
   rw[pickOrder.go];have hi:next k % left.length<left.length:=Nat.mod_lt _ (by omega)
   have e:left[next k % left.length]? = some left[next k % left.length]:=List.getElem?_eq_getElem hi;have hp:=jZ e;simp only[e];refine(vL next f (k+1) _ _ (by have:=hp.length_eq;simp only[List.length_cons] at this;omega)).trans ?_;rw[Array.toList_push,List.append_assoc];exact hp.append_left _
def j5 {α:Type}(next:Nat->Nat)(xs:Array α):(pickOrder next xs).toList.Perm xs.toList:=by
 unfold pickOrder;simpa using vL next xs.size 0 xs.toList #[] (by simp)
end
def mV (ord:List (Int×Value))(i:Nat)(v:Value):Prop:=∃e,ord[i]? = some e/\v=e.2
def uG {ord:List (Int×Value)}(hi:AllI ord){acc:Array Value}(h:ItemsOf (mV ord) acc ord.length):IntsAre acc.toList (ord.map yh):=by
 have key:∀(ord:List (Int×Value)) (l:List Value),AllI ord->l.length=ord.length->(∀j v,l[j]? = some v->mV ord j v)->IntsAre l (ord.map yh):=by
  intro ord;induction ord with
  | nil =>
    intro l _ hl _;have e:l=[]:=List.length_eq_zero_iff.mp (by simpa using hl);subst e;exact .nil
  | cons e ord ih =>
    intro l hi hl hv;cases l with
    | nil=>simp at hl
    | cons v l =>
      obtain⟨e',q1,q2⟩:=hv 0 v rfl;simp only[List.getElem?_cons_zero,Option.some.injEq] at q1;subst q1;obtain⟨t,q3,_⟩:=hi e List.mem_cons_self;rw[q3] at q2;subst q2;rw[List.map_cons];refine .cons _ _ (ih l (fun e' he=>hi e' (List.mem_cons_of_mem _ he)) (by simpa using hl) fun j v hj=>?_);obtain⟨e',q4,q5⟩:=hv (j+1) v (by simpa using hj);exact⟨e',by simpa using q4,q5⟩
 exact key ord acc.toList hi (by simpa using h.1) fun j v hj=>h.2 j v (by rw[<-Array.getElem?_toList];exact hj)
section
variable {P:Program}{w:World}{A:Around}{E:Value->Shared->Prop}{s:Shared}{a:Addr}
def SIt.at' {h h':Heap}{it a:Addr}{f0:Value}{i n ep:Nat}(x:SIt h it a f0 i n ep)(k:∀o,h.get? it=some o->h'.get? it=some o):SIt h' it a f0 i n ep:=let ⟨o,e,r⟩:=x;⟨o,k _ e,r⟩
def SAt.at' {h h':Heap}{a:Addr}{es:Array (Int×Value)}{ep:Nat}{t:SetTable}(x:SAt w h a es ep t)(k:∀o,h.get? a=some o->h'.get? a=some o):SAt w h' a es ep t:=let ⟨o,e,r⟩:=x;⟨o,k _ e,r⟩
def tH (hh:A.handled=none){it a:Addr}{es:Array (Int×Value)}{ep:Nat}{t:SetTable}(hb:bt w=true)(hne:a≠it) :
 Walks P w A it [it,a] [it] es.size (mV (pickOrder (w.params.setOrder a ep) es).toList) (fun i h=>SIt h it a (.int (0:Nat) 0) i es.size ep/\SAt w h a es ep t) where
 sub:=fun b hb=>List.mem_cons.mpr (.inl (List.mem_singleton.mp hb))
 frame:=fun _ _ _ st hk=>⟨st.1.at' fun o e=>hk it (by simp) o e,st.2.at' fun o e=>hk a (by simp) o e⟩
 item:=by
  intro i s Q E hi st hQ;have hz:(pickOrder (w.params.setOrder a ep) es).size=es.size:=by simpa using (j5 (w.params.setOrder a ep) es).length_eq
  obtain⟨e,he⟩:∃e,(pickOrder (w.params.setOrder a ep) es)[i]? = some e:=⟨_,Array.getElem?_eq_getElem (by omega)⟩;refine vt (t:=t) (x:=e.2) (nx:=0) st.1 st.2 (fun A E Q z=>iJ st.2 hb (by rw[he];exact z)) fun h' I' sb=>?_;exact hQ _ h' s.toks ⟨e,by rw[Array.getElem?_toList];exact he,rfl⟩ ⟨I',st.2.at' fun o q=>(sb.2 a hne).trans q⟩ fun b o hb' q=>(sb.2 b (fun z=>hb' (by simp[z]))).trans q
 done:=fun s Q E st hQ=>by
  have hz:(pickOrder (w.params.setOrder a ep) es).size=es.size:=by simpa using (j5 (w.params.setOrder a ep) es).length_eq
  refine yL (t:=t) hh st.1 st.2 (fun A E Q z=>iJ st.2 hb (by rw[Array.getElem?_eq_none (by omega)];exact z)) fun h' ext=>hQ h' s.toks fun b o hb' q=>ext b o (fun z=>hb' (by simp[z])) q
 self:=fun _ _ _ _ st hQ=>o0 st.1 hQ
noncomputable def slotAt (xs:Array Nat):Nat->Nat
 | 0=>0
 | i+1=>xs.getD i 0+1
def jh {xs:Array Nat}(h:Ris xs):∀i,i<=xs.size->SetTable.below xs (slotAt xs i)=i
 | 0,_=>u4 xs h
 | i+1,hi=>by
   have e:xs[i]? = some xs[i]:=Array.getElem?_eq_getElem hi;have eD:xs.getD i 0=xs[i]:=by simp[show i<xs.size from hi]
   show SetTable.below xs (xs.getD i 0+1)=i+1;rw[eD];exact u5 h e
def qW (hh:A.handled=none){it a:Addr}{es:Array (Int×Value)}{ep:Nat}{t:SetTable}(hb:bt w=false)(hp:(!t.plain&&decide (es.size>1))=false)(hne:a≠it) :
 Walks P w A it [it,a] [it] es.size (mV es.toList) (fun i h=>SIt h it a (.int (slotAt t.place i) 0) i es.size ep/\SAt w h a es ep t/\Tb (bt w) t es.size) where
 sub:=fun b hb=>List.mem_cons.mpr (.inl (List.mem_singleton.mp hb))
 frame:=fun _ _ _ st hk=>⟨st.1.at' fun o e=>hk it (by simp) o e,st.2.1.at' fun o e=>hk a (by simp) o e,st.2.2⟩
 item:=by
  intro i s Q E hi st hQ;have T:=st.2.2;have hz:t.place.size=es.size:=by
   have:=T.fit;simp only[SetTable.fits,Bool.and_eq_true,beq_iff_eq] at this;exact this.1
  have hbl:=jh T.ris i (by omega);have e1:es[i]? = some es[i]:=Array.getElem?_eq_getElem hi;have e2:t.place[i]? = some t.place[i]:=Array.getElem?_eq_getElem (by omega);have e3:slotAt t.place (i+1)=t.place[i]+1:=by show t.place.getD i 0+1=_;simp[show i<t.place.size by omega]
  refine vt (t:=t) (x:=es[i].2) (nx:=slotAt t.place (i+1)) st.1 st.2.1 (fun A E Q z=>gM st.2.1 hb hp (by rw[hbl,e1,e2];dsimp only;rw[<-e3];exact z)) fun h' I' sb=>?_;exact hQ _ h' s.toks ⟨es[i],by rw[Array.getElem?_toList];exact e1,rfl⟩ ⟨I',st.2.1.at' fun o q=>(sb.2 a hne).trans q,T⟩ fun b o hb' q=>(sb.2 b (fun z=>hb' (by simp[z]))).trans q
 done:=fun s Q E st hQ=>by
  have T:=st.2.2;have hz:t.place.size=es.size:=by
   have:=T.fit;simp only[SetTable.fits,Bool.and_eq_true,beq_iff_eq] at this;exact this.1
  have hbl:=jh T.ris es.size (by omega);refine yL (t:=t) hh st.1 st.2.1 (fun A E Q z=>gM st.2.1 hb hp (by rw[hbl,Array.getElem?_eq_none (Nat.le_refl _)];exact z)) fun h' ext=>hQ h' s.toks fun b o hb' q=>ext b o (fun z=>hb' (by simp[z])) q
 self:=fun _ _ _ _ st hQ=>o0 st.1 hQ
def qX (hh:A.handled=none){it a pl:Addr}{es:Array (Int×Value)}{ep:Nat}{t:SetTable}{ps:List Nat}{np:Nat}(hp:ps.Perm (List.range es.size))(hne:a≠it)(hnp:pl≠it) :
 Walks P w A it [it,a,pl] [it] es.size (mV (ps.filterMap (es[·]?))) (fun i h=>SIt h it a (.ref pl) i es.size ep/\SAt w h a es ep t/\∃o,h.get? pl=some o/\o.data=.seq (ps.map fun (i:Nat)=>rawInt i).toArray np) where
 sub:=fun b hb=>List.mem_cons.mpr (.inl (List.mem_singleton.mp hb))
 frame:=fun _ _ _ st hk=>⟨st.1.at' fun o e=>hk it (by simp) o e,st.2.1.at' fun o e=>hk a (by simp) o e,let ⟨o,q,r⟩:=st.2.2;⟨o,hk pl (by simp) o q,r⟩⟩
 item:=by
  intro i s Q E hi st hQ;have hl:ps.length=es.size:=by simpa using hp.length_eq
  have hlt:∀p∈ps,p<es.size:=fun p z=>by simpa using hp.mem_iff.mp z
  have hi':i<ps.length:=by omega
  have e1:ps[i]? = some ps[i]:=List.getElem?_eq_getElem hi';have hpi:ps[i]<es.size:=hlt _ (List.getElem_mem hi');have e2:es[ps[i]]? = some es[ps[i]]:=Array.getElem?_eq_getElem hpi;have e3:(ps.filterMap (es[·]?))[i]? = some es[ps[i]]:=by
   have:ps.filterMap (es[·]?)=ps.map fun p=>es.getD p (0,.none):=by
    clear e1 hi' hpi e2 hp hl hQ st;induction ps with
    | nil=>rfl
    | cons p ps ih =>
      have q:=hlt p List.mem_cons_self;rw[List.filterMap_cons,List.map_cons,ih fun p' z=>hlt p' (List.mem_cons_of_mem _ z)];simp[q]
   rw[this,List.getElem?_map,e1];simp[hpi]
  refine Bu (t:=t) (p:=ps[i]) (x:=es[ps[i]]) st.1 st.2.1 st.2.2 (by simp[e1,rawInt]) e2 fun h' I' sb=>?_;exact hQ _ h' s.toks ⟨_,e3,rfl⟩ ⟨I',st.2.1.at' fun o q=>(sb.2 a hne).trans q,let ⟨o,q,r⟩:=st.2.2;⟨o,(sb.2 pl hnp).trans q,r⟩⟩ fun b o hb' q=>(sb.2 b (fun z=>hb' (by simp[z]))).trans q
 done:=fun s Q E st hQ=>by
  have hl:ps.length=es.size:=by simpa using hp.length_eq
  refine Dt (t:=t) hh st.1 st.2.1 st.2.2 (by simp[hl]) fun h' ext=>hQ h' s.toks fun b o hb' q=>ext b o (fun z=>hb' (by simp[z])) q
 self:=fun _ _ _ _ st hQ=>o0 st.1 hQ
def yN {ks:List Int}{Q:Value->Shared->Prop}(hS:SetS w s.heap a ks)
 (k:∀(it:Addr) (fp:List Addr) (ord:List (Int×Value)) (St:Nat->Heap->Prop) (h':Heap) (d':Drawn),(∀A':Around,A'.handled=none->Walks P w A' it fp [it] ord.length (mV ord) St)->St 0 h'->AllI ord->(ord.map yh).Perm ks ->
  (∀b o,s.heap.get? b=some o->h'.get? b=some o)->s.heap.objs.size<=it->(∀b∈fp,b=a\/s.heap.objs.size<=b)->Q (.ref it) { s with heap:=h',drawn:=d' }) :
 wpAny (model P w) A (pyIter (.ref a)) Q E s:=by
 obtain⟨o,es,ep,t,ho,hx,hd,hi,hp,hb,hT⟩:=hS;have hTy:s.TypeIs (.ref a) "set":=⟨o,ho,hx.1⟩;have hlt:a<s.heap.objs.size:=Heap.lt_size ho;have S0:SAt w s.heap a es ep t:=⟨o,ho,hx.1,hd,hT⟩;refine wpAny_pyIter_slot hTy PySem.F.slot_set_iter (wpAny_call_entry PySem.F.slot_set_iter hTy lu ?_ (PySem.F.args_set_iter_1 _));unfold Builtin.«frozenset.__iter__»;refine wpAny_bind (wpAny_pure (wpAny_bind (wpAny_bind (wpAny_setEntries_of ho hd hT.fit (wpAny_pure ?_)))));refine wpAny_bind ?_;unfold setDrawn;refine wpAny_bind (wpAny_setState_of ho hd hT.fit (wpAny_bind (wpAny_bind (wpAny_askSetting (wpAny_pure ?_)))));refine wpAny_pure ?_;show wpAny _ _ (if (!bt w&&(!t.plain&&decide (es.size>1)))=true then _ else _) _ _ _;cases hc:(!bt w&&(!t.plain&&decide (es.size>1))) with
 | true =>
   rw[if_pos rfl];refine wpAny_bind (mG es.size (List.range es.size) s _ (by simp) fun ps d hps=>?_);have hl:ps.length=es.size:=by simpa using hps.length_eq
   have hz:(ps.map fun (i:Nat)=>rawInt i).length<=sizeLine:=by rw[List.length_map,hl];exact fits_of_scanBound hb
   refine wpAny_bind (wpAny_newTuple ?_ hz);generalize hob:({ cls:=.type "tuple",data:=.seq (ps.map fun (i:Nat)=>rawInt i).toArray }:Obj)=ob;have g1:(s.heap.push ob).get? s.heap.objs.size=some ob:=Heap.get?_push_size _ (by rw[<-hob];rfl);have sz:(s.heap.push ob).objs.size=s.heap.objs.size+1:=Heap.size_push _ _;refine wpAny_bind (wpAny_setEpoch_of (Heap.get?_push_of_some _ ho) hd hT.fit ?_);refine wpAny_bind (wpAny_newObj_type (wpAny_pure ⟨_,rfl,"set_iterator",_,⟨_,Heap.get?_push_size _ rfl,rfl⟩,si_slot.lookup,?_⟩));refine k _ [(s.heap.push ob).objs.size,a,s.heap.objs.size] (ps.filterMap (es[·]?)) (fun i h=>SIt h (s.heap.push ob).objs.size a (.ref s.heap.objs.size) i es.size ep/\SAt w h a es ep t/\∃o,h.get? s.heap.objs.size=some o/\o.data=.seq (ps.map fun (i:Nat)=>rawInt i).toArray 0) _ d (fun A' hh=>?_) ⟨⟨_,Heap.get?_push_size _ rfl,rfl,rfl⟩,S0.at' fun o q=>Heap.get?_push_of_some _ (Heap.get?_push_of_some _ q),ob,Heap.get?_push_of_some _ g1,by rw[<-hob]⟩ ?_ ?_ (fun b o q=>Heap.get?_push_of_some _ (Heap.get?_push_of_some _ q)) (by rw[sz];exact Nat.le_succ _) fun b hb=>?_
   ·have W:=qX (P:=P) (w:=w) (A:=A') hh (it:=(s.heap.push ob).objs.size) (a:=a) (pl:=s.heap.objs.size) (es:=es) (ep:=ep) (t:=t) (np:=0) hps (by rw[sz];exact Nat.ne_of_lt (Nat.lt_succ_of_lt hlt)) (by rw[sz];exact Nat.ne_of_lt (Nat.lt_succ_self _));have e:(ps.filterMap (es[·]?)).length=es.size:=by
     have:=(hps.filterMap (es[·]?)).length_eq;rw[this,filterMap_getElem?_range,Array.length_toList]
    rw[e];exact W
   ·refine hi.perm ?_;rw[<-filterMap_getElem?_range];exact hps.filterMap _
   ·refine List.Perm.trans ?_ hp;refine List.Perm.map _ ?_;rw[<-filterMap_getElem?_range];exact hps.filterMap _
   ·simp only[List.mem_cons,List.not_mem_nil,or_false] at hb;rcases hb with rfl | rfl | rfl
    ·exact .inr (by rw[sz];exact Nat.le_succ _)
    ·exact .inl rfl
    ·exact .inr (Nat.le_refl _)
 | false =>
   rw[if_neg (by simp)];refine wpAny_bind (wpAny_pure ?_);refine wpAny_bind (wpAny_setEpoch_of ho hd hT.fit ?_);refine wpAny_bind (wpAny_newObj_type (wpAny_pure ⟨_,rfl,"set_iterator",_,⟨_,Heap.get?_push_size _ rfl,rfl⟩,si_slot.lookup,?_⟩));have hne:a≠s.heap.objs.size:=Nat.ne_of_lt hlt;have fin:∀b∈[s.heap.objs.size,a],b=a\/s.heap.objs.size<=b:=fun b z=>by
    simp only[List.mem_cons,List.not_mem_nil,or_false] at z;rcases z with rfl | rfl
    ·exact .inr (Nat.le_refl _)
    ·exact .inl rfl
   cases hbt:bt w with
   | true =>
     have pp:=j5 (w.params.setOrder a ep) es;have e:(pickOrder (w.params.setOrder a ep) es).toList.length=es.size:=by simpa using pp.length_eq
     refine k _ [s.heap.objs.size,a] (pickOrder (w.params.setOrder a ep) es).toList (fun i h=>SIt h s.heap.objs.size a (.int (0:Nat) 0) i es.size ep/\SAt w h a es ep t) _ s.drawn (fun A' hh=>?_) ⟨⟨_,Heap.get?_push_size _ rfl,rfl,rfl⟩,S0.at' fun o q=>Heap.get?_push_of_some _ q⟩ (hi.perm pp) ((pp.map yh).trans hp) (fun b o q=>Heap.get?_push_of_some _ q) (Nat.le_refl _) fin;rw[e];exact tH hh hbt hne
   | false =>
     have hpl:(!t.plain&&decide (es.size>1))=false:=by rw[hbt] at hc;simpa using hc
     have e:es.toList.length=es.size:=by simp
     refine k _ [s.heap.objs.size,a] es.toList (fun i h=>SIt h s.heap.objs.size a (.int (slotAt t.place i) 0) i es.size ep/\SAt w h a es ep t/\Tb (bt w) t es.size) _ s.drawn (fun A' hh=>?_) ⟨⟨_,Heap.get?_push_size _ rfl,rfl,rfl⟩,S0.at' fun o q=>Heap.get?_push_of_some _ q,hT⟩ hi hp (fun b o q=>Heap.get?_push_of_some _ q) (Nat.le_refl _) fin;rw[e];exact qW hh hbt hpl hne
end
section
variable {P:Program}{w:World}{A:Around}{E:Value->Shared->Prop}{s:Shared}
def A4 (P:Program)(w:World)(A:Around)(S r:Addr)(T:String)(res:Value)(R:Result->Shared->Prop)(v:Value)(s1:Shared):Prop :=
 ∃(I:Addr) (fp wr:List Addr) (G:Array GenState->Array GenState->Prop) (n:Nat) (PI:Nat->Value->Prop) (St:Nat->Shared->Prop) (c:Nat),v=.ref I/\WalksS P w A I fp wr G n PI St/\St 0 s1/\S∉fp/\n<=sizeLine /\
  s1.heap.get? S=some { cls:=.type "list",data:=.seq #[] c }/\s1.TypeIs (.ref r) T /\
  ∀s' acc c',Moved (S::wr) G s1 s'->s'.heap.get? S=some { cls:=.type "list",dict:=none,data:=.seq acc c',slots:=#[] }->ItemsOf PI acc n->R (.ok (.ret res)) s'
def Ci {S r:Addr}{T:String}{res:Value}{R:Result->Shared->Prop}(hT:s.TypeIs (.ref r) T)(nl:(Value.type T==Value.type "list")=false)(nt:(Value.type T==Value.type "tuple")=false)(hne:S≠r)
 (hit:wpAny (model P w) A.in1 (pyIter (.ref r)) (A4 P w A.in1 S r T res R) (fun e s'=>R (.error e) s') s)
 (hint:∀(E:Value->Shared->Prop) (Q:Bool->Shared->Prop) (s:Shared),s.TypeIs (.ref r) T->(∀b,Q b s)->wpAny (model P w) A.in1 (Builtin.List.listLengthHint (.ref r)) Q E s) :
 wpAny (model P w) A.in1 (Builtin.List.listExtendWith (.ref S) (.ref r) res)
  (fun fin s'=>match fin with | .done f=>R (.ok f) s' | .again c'=>c'.quiet=true/\codeAny (model P w) A c' R s') (fun e s'=>R (.error e) s') s:=by
 unfold Builtin.List.listExtendWith;refine wpAny_bind (wpAny_typeOf (T:=T) hT ?_);have h1:Builtin.List.listSameRef (.ref S) (.ref r)=false:=by simp[Builtin.List.listSameRef,hne]
 simp only[h1,nl,nt,Bool.or_false,Bool.false_eq_true,if_false];refine wpAny_bind (wpAny_mono hit (fun v s1 z=>?_) fun _ _ z=>z);obtain⟨I,fp,wr,G,n,PI,St,c,rfl,W,st,hSf,hn,gS,hT1,k⟩:=z;refine wpAny_bind (wpAny_holding (hint _ _ _ hT1 fun b=>?_));have run:∀(h:Heap) (c1:Nat),(∀b o,b≠S->s1.heap.get? b=some o->h.get? b=some o)->h.get? S=some { cls:=.type "list",data:=.seq #[] c1 }->codeAny (model P w) A (.builtin "list.extend.loop" ⟨[.ref S,.ref I,res],[]⟩) R { s1 with heap:=h }:=fun h c1 hk g1=>by
  have hm0:Moved (S::wr) G s1 { s1 with heap:=h }:=(Moved.refl W.grefl).then_heap (Nat.le_refl _) fun b o hb q=>hk b o (fun z=>hb (by simp[z])) q;refine codeAny_extend_loopS W hn S hSf res n 0 _ #[] c1 rfl (Nat.zero_le _) (W.frame 0 s1 _ _ st (Nat.le_refl _) fun b hb o q=>hk b o (fun z=>hSf (z ▸ hb)) q) g1 (ItemsOf.nil _) fun s' acc' c' hm gS' hacc=>?_;exact k s' acc' c' (Moved.trans W.gtrans hm0 hm) gS' hacc
 refine wpAny_ite_split (fun _=>?_) fun _=>wpAny_pure ⟨plainId_quiet PySem.F.plain_extend_loop _,run s1.heap c (fun _ _ _ q=>q) gS⟩;refine wpAny_bind (wpAny_rule (wpAny_bind ?_));have g2:=Heap.get?_update_self (Obj.mapSeq (·.push Value.none)) gS rfl;have g3:=Heap.get?_update_self (Obj.mapSeq (·.pop)) g2 rfl;refine wpAny_bind (m:=updateSeq S (·.push .none)) (wpAny_updateSeq gS rfl (wpAny_updateSeq (hz:=by seq_fits) g2 rfl ?_));exact wpAny_pure ⟨plainId_quiet PySem.F.plain_extend_loop _,run _ _ (fun b o hb q=>(Heap.get?_update_other _ _ (Ne.symm hb)).trans ((Heap.get?_update_other _ _ (Ne.symm hb)).trans q)) g3⟩
def Af {r:Addr}{Q:Bool->Shared->Prop}(hT:s.TypeIs (.ref r) "set")(k:Q false s):wpAny (model P w) A (Builtin.List.listLengthHint (.ref r)) Q E s:=by
 unfold Builtin.List.listLengthHint;refine wpAny_bind (wpAny_specialOf hT PySem.F.slot_set_len.lookup ?_);generalize hid:("set.__len__":String)=lid
 wp_delta
 rw[show splitId lid=some ("set","__len__") from by subst hid;decide +kernel];subst hid;refine wpAny_bind (wpAny_isInstance (T:="set") (b:=true) hT sub_set_self ?_);refine wpAny_ite_split (fun z=>absurd z (by decide)) fun _=>wpAny_ite_split (fun _=>?_) fun z=>absurd (by decide +kernel) z;exact wpAny_bind (wpAny_typeOf hT (wpAny_pure k))
end
end DL
namespace DL
open PySem PyProof.Rows PySem.W
section
variable {P:Program}{w:World}{A:Around}{E:Value->Shared->Prop}{s:Shared}
def rn {r:Addr}{ks:List Int}{R:List Value->Shared->Prop}(hh:A.handled=none)(hS:SetS w s.heap r ks)(hn:ks.length<=sizeLine)
 (k:∀h' d' tk vs ns,(∀b o,s.heap.get? b=some o->h'.get? b=some o)->s.heap.objs.size<=h'.objs.size->IntsAre vs ns->ns.Perm ks->R vs { s with heap:=h',drawn:=d',toks:=tk }) :
 wpAny (model P w) A (collect (.ref r)) R E s:=by
 have hlt:r<s.heap.objs.size:=by obtain⟨o,_,_,_,q,_⟩:=hS;exact Heap.lt_size q
 have hTy:s.TypeIs (.ref r) "set":=by obtain⟨o,_,_,_,q,x,_⟩:=hS;exact⟨o,q,x.1⟩
 unfold collect;refine wpAny_bind (wpAny_runValue (codeAny_builtin entry_proto_collect' ?_));rw[Around.under_plainId PySem.F.plain_proto_collect _];show wpAny _ _ (newList [] >>= fun l=>again (.builtin "list.__iadd__" ⟨[l,.ref r],[]⟩)) _ _ s;refine wpAny_bind (wpAny_newObj_type (wpAny_pure ⟨plainId_quiet PySem.F.plain_list_iadd _,codeAny_builtin entry_list_iadd' ?_⟩));rw[Around.under_plainId PySem.F.plain_list_iadd _];have g0:(s.heap.push { cls:=.type "list",data:=.seq ([]:List Value).toArray }).get? s.heap.objs.size=some { cls:=.type "list",data:=.seq #[] }:=Heap.get?_push_size _ rfl;have sz:=Heap.size_push s.heap { cls:=.type "list",data:=.seq ([]:List Value).toArray };show wpAny _ _ (Builtin.List.listExtendWith (.ref s.heap.objs.size) (.ref r) (.ref s.heap.objs.size)) _ _ _;have S1:SetS w (s.heap.push { cls:=.type "list",data:=.seq ([]:List Value).toArray }) r ks:=hS.at' fun o q=>Heap.get?_push_of_some _ q;have key:=Ci (P:=P) (w:=w) (A:=A) (s:={ s with heap:=s.heap.push { cls:=.type "list",data:=.seq ([]:List Value).toArray } }) (S:=s.heap.objs.size) (r:=r) (T:="set") (res:=.ref s.heap.objs.size)
  (R:=fun q s'=>∃h' d' tk acc c ns,q=.ok (.ret (.ref s.heap.objs.size))/\s'={ s with heap:=h',drawn:=d',toks:=tk }/\(∀b o,s.heap.get? b=some o->h'.get? b=some o)/\s.heap.objs.size<=h'.objs.size/\h'.get? s.heap.objs.size=some { cls:=.type "list",dict:=none,data:=.seq acc c,slots:=#[] }/\IntsAre acc.toList ns/\ns.Perm ks)
  (by obtain⟨o,q,c⟩:=hTy;exact⟨o,Heap.get?_push_of_some _ q,c⟩) (by decide) (by decide) (Nat.ne_of_gt hlt)
  (yN S1 fun it fp ord St h' d' W st hi hp hk hit hfp=>?_) fun E Q s hT z=>Af hT (z false)
 ·refine wpAny_mono key (fun fin s' x=>?_) fun e s' x=>?_
  ·cases fin with
   | done f =>
     obtain⟨h',d',tk,acc,c,ns,e,rfl,k1,k0,k2,k3,k4⟩:=x;cases e;exact wpAny_bind (m:=load s.heap.objs.size) (wpAny_load k2 (wpAny_pure (k h' d' tk acc.toList ns k1 k0 k3 k4)))
   | again c1 =>
     refine⟨x.1,codeAny_mono x.2 fun q s2 y=>?_⟩;obtain⟨h',d',tk,acc,c,ns,rfl,rfl,k1,k0,k2,k3,k4⟩:=y;exact wpAny_bind (m:=load s.heap.objs.size) (wpAny_load k2 (wpAny_pure (k h' d' tk acc.toList ns k1 k0 k3 k4)))
  ·obtain⟨_,_,_,_,_,_,e',_⟩:=x;cases e'
 ·have hlen:ord.length=ks.length:=by simpa using hp.length_eq
  rw[sz] at hit;refine⟨it,fp,[it],_,ord.length,mV ord,_,0,rfl,(W A.in1 hh).toS,st,fun z=>?_,by omega,hk _ _ g0,?_,fun s' acc c' hm gS hacc=>?_⟩
  ·rcases hfp _ z with q | q
   ·exact Nat.ne_of_gt hlt q
   ·rw[sz] at q;exact absurd q (Nat.not_succ_le_self _)
  ·obtain⟨o,q,c⟩:=hTy;exact⟨o,hk _ _ (Heap.get?_push_of_some _ q),c⟩
  ·obtain⟨h2,g2,d2,t2,o2⟩:=s';have e1:g2=s.gens:=hm.gens;have e2:d2=d':=hm.drawn;have e3:o2=s.os:=hm.os;subst e1 e2 e3;refine⟨h2,d2,t2,acc,c',ord.map yh,rfl,rfl,fun b o q=>?_,Nat.le_of_lt (Heap.lt_size gS),gS,uG hi hacc,hp⟩;have hb:=Heap.lt_size q;refine hm.heap b o ?_ (hk _ _ (Heap.get?_push_of_some _ q));simp only[List.mem_cons,List.not_mem_nil,or_false,not_or];exact⟨Nat.ne_of_lt hb,Nat.ne_of_lt (Nat.lt_of_lt_of_le (Nat.lt_succ_of_lt hb) hit)⟩
def qx {r:Addr}{ks:List Int}{Q:Value->Shared->Prop}(hh:A.handled=none)(hS:SetS w s.heap r ks)(h64:ks.length<64)
 (k:∀h' d' tk l vs e ns,(∀b o,s.heap.get? b=some o->h'.get? b=some o)->h'.get? l=some (seqObj "list" vs e)->s.heap.objs.size<=l->IntsAre vs.toList ns->ns.Perm ks->ns.Pairwise (·<=·)->Q (.ref l) { s with heap:=h',drawn:=d',toks:=tk }) :
 wpAny (model P w) A (call (.builtin "sorted") [.ref r]) Q E s:=by
 refine Calls.call_function_entry kind_sorted plain_sorted entry_sorted (args_sorted1 _) ?_;unfold Builtin.«sorted»;refine wpAny_bind (m:=checkCount "sorted" 1 1 _) (wpAny_pure (wpAny_bind (rn (A:=A.in1) hh hS (by rw[sizeLine_eq];omega) fun h' d' tk vs ns k1 k0 hi hp=>?_)));have hl:vs.length<64:=by rw[IntsAre.length hi,hp.length_eq];exact h64
 refine wpAny_bind (wpAny_newList ?_ (by rw[sizeLine_eq];omega));have gL:(h'.push (seqObj "list" vs.toArray 0)).get? h'.objs.size=some (seqObj "list" vs.toArray 0):=Heap.get?_push_size _ rfl;refine wpAny_bind (wpAny_holding (wpAny_call_entry slot_list_sort ⟨_,gL,rfl⟩ entry_list_sort (list_sort_tree gL hi hl fun out ns' a1 a2 a3=>⟨_,rfl,?_⟩) (args_list_sort _)));obtain⟨e,he⟩:=sortedHeap_at (out:=out) gL;refine wpAny_pure ⟨_,rfl,k _ d' tk h'.objs.size out e ns' (fun b o q=>?_) he k0 a1 (a2.trans hp) a3⟩;have hb:=Heap.lt_size (k1 _ _ q);rw[sortedHeap_old (Nat.ne_of_lt hb) (by rw[size_push'];exact Nat.lt_succ_of_lt hb)];exact Heap.get?_push_of_some _ (k1 _ _ q)
end
end DL
namespace DL
open PySem PySem.Spec PyProof.Rows L2
section
variable {X:Cx}{e a b tg:Expr}{me ma mb:ME}{pos p p2 p3:Pos}
def Inv.drw {pins:List (Addr×Obj)}{σ:L2.St}{H:Hp}{s:Shared}(I:L2.Inv X pins σ H s)(d:Drawn):L2.Inv X pins σ H { s with drawn:=d } :=
 ⟨I.ok,I.os,I.bare,I.base,I.loc,I.cell,I.free,I.freeC,I.pin,I.hok,I.len⟩
noncomputable def A6 (w:World)(p:Addr)(ks:List Int):HO:=.ext fun h=>SetS w h p ks
def Bt {P:Program}{w:World}{H:Hp}{h:Heap}{p:Addr}{ks:List Int}(x:SetS w h p ks):ObjOk P w H h p (A6 w p ks) :=
 ⟨x,let ⟨o,_,_,_,q,_⟩:=x;⟨o,q⟩,fun _ _ z k=>z.at' k⟩
def EO (hc:X.calm=true):dr X (.type "set") (fun xs H Q=>∃(l:Addr) (ns:List Int),xs=[.ref l]/\SqL X.K H l (ns.map V.int)/\ns.length+1<4096/\∀p,H p=none->Q (.ref p) (bm H p (A6 X.w p (ns.foldl fb [])))):=by
 intro pins s σ H xs us Q I r h;obtain⟨l,ns,rfl,hq,hb,q⟩:=h;obtain⟨u,rfl,ru⟩:=Vals.one r;cases ru;obtain⟨its,rv,p1,_⟩:=I.list hq;have hi:=intsAre_of rv;refine ya (I.ok.hd hc) p1.isList hi (by rw[IntsAre.length hi];exact hb) fun h' tk hS hk=>?_;exact⟨.ref s.heap.objs.size,bm H s.heap.objs.size (A6 X.w s.heap.objs.size (ns.foldl fb [])),I.laid (t':=tk) hk (Nat.le_refl _) (Bt hS),rfl,q _ I.fresh⟩
def yK {ns ks:List Int}(hp:ns.Perm ks)(hs:ns.Pairwise (·<=·)):ns=sortI ks:=by
 refine PySem.W.ksm_same (hp.trans (List.mergeSort_perm _ _).symm) hs ?_;have:=List.pairwise_mergeSort (le:=fun a b:Int=>decide (a<=b)) (fun a b c h1 h2=>by simp only[decide_eq_true_eq] at *;omega) (fun a b=>by simp only[Bool.or_eq_true,decide_eq_true_eq];omega) ks;exact this.imp fun h=>by simpa using h
def om:∀{vs:List Value} {ns:List Int},IntsAre vs ns->Vals (ns.map V.int) vs
 | _,_,.nil=>.nil
 | _,_,.cons n t h=>.cons ⟨t,rfl⟩ (om h)
def xV (hc:X.calm=true):dr X (.builtin "sorted") (fun xs H Q=>∃(q:Addr) (ks:List Int),xs=[.ref q]/\H q=some (A6 X.w q ks)/\ks.length<64/\∀p,H p=none->Q (.ref p) (bm H p (.lst ((sortI ks).map V.int)))):=by
 intro pins s σ H xs us Q I r h;obtain⟨l,ks,rfl,hq,hb,q⟩:=h;obtain⟨u,rfl,ru⟩:=Vals.one r;cases ru;have hS:SetS X.w s.heap l ks:=(I.hok l _ hq).1;refine qx (I.ok.hd hc) hS hb fun h' d' tk l' vs e ns k1 g1 hlt hi hp hs=>?_;have en:=yK hp hs;have hz:((sortI ks).map V.int).length<=sizeLine:=by rw[List.length_map,<-en,hp.length_eq,bH];omega
 refine⟨.ref l',bm H l' (.lst ((sortI ks).map V.int)),Inv.drw (I.laid (o:=.lst ((sortI ks).map V.int)) (t':=tk) k1 hlt ⟨hz,vs.toList,e,om (en ▸ hi),by rw[g1]⟩) d',rfl,q _ (I.hok.fresh hlt)⟩
def cH {K:PySem.W.Frag}{B:Hp}:∀{ds:List D} {is:List Int} {xs:List V},intsOf ds=some is->Dens K B ds xs->xs=is.map V.int
 | [],is,xs,e,h=>by cases e;exact h.unnil
 | .int i::ds,is,xs,e,h=>by
   obtain⟨q,e1,e2⟩:=Option.bind_eq_some_iff.mp e;cases e2;obtain⟨x,r,rfl,h1,h2⟩:=h.uncons;rw[h1.int_inv,cH e1 h2];rfl
def uS (hc:X.calm=true)(hg1:Gl X "sorted")(hm1:X.mg "sorted"=none)(hg2:Gl X "set")(hm2:X.mg "set"=none)(he:DE X e me)
 (s1:starEach [e] X.env=(false,eval e X.env)::starEach [] X.env:=by rfl) (s2:starEach [Expr.Call (.Name "set" p2) [e] [] p3] X.env=(false,eval (Expr.Call (.Name "set" p2) [e] [] p3) X.env)::starEach [] X.env:=by rfl) (hpl:∀pos:Pos,(backTo pos (starEach [] X.env)).any (·.1)=false:=by intro _;rfl) :
 DE X (.Call (.Name "sorted" p) [.Call (.Name "set" p2) [e] [] p3] [] pos) (kF jd me):=by
 obtain⟨te,pe,qe⟩:=he;refine⟨_,gU (xV hc) hg1 hm1 boot_sorted (aI (j6 (EO hc) hg2 hm2 rfl (aI pe bF s1) (he:=s1) (hpl:=hpl _)) bF s2) (he:=s2) (hpl:=hpl _),fun os σ H δ d Q s m k=>?_⟩;obtain⟨dx,e1,m⟩:=af m;refine qe os σ H δ dx _ s e1 fun v H1 g1 r1=>?_;cases dx with
 | lst xs =>
   obtain⟨is,e2,m⟩:=af m;split at m
   ·rename_i hb;cases m;obtain⟨l,ys,rfl,h1,h2⟩:=r1.lst_up;have:=cH e2 h2;subst this;refine⟨l,is,rfl,h1,hb.1,fun p hp=>⟨p,_,rfl,aA,hb.2,fun q hq=>?_⟩⟩;have g2:=aF hp (A6 X.w p (is.foldl fb []));refine k _ _ (g1.trans (g2.trans (aF hq _))) (.newL ((s.live.mono g1).mono g2) hq (Dens.ints _))
   ·cases m
 | _=>cases m
def EN (hc:X.calm=true):dr X (.builtin "sum") (fun xs H Q=>∃(l:Addr) (ns:List Int),xs=[.ref l]/\(SqL X.K H l (ns.map V.int)\/SqT X.K H l (ns.map V.int))/\Q (.int ns.sum) H):=by
 intro pins s σ H xs us Q I r h;obtain⟨l,ns,rfl,hq,q⟩:=h;obtain⟨u,rfl,ru⟩:=Vals.one r;cases ru;have hh:X.A.in1.handled=none:=by have:=I.ok.hd hc;simpa using this
 have pre:∀{its:List Value},IntsAre its ns->preSum (fun i=>ns.getD i 0) its.toArray.size=ns.sum:=fun {its} hi=>by
  rw[preSum_getD,List.take_of_length_le (by rw[List.size_toArray,IntsAre.length hi];exact Nat.le_refl _)]
 have kept:∀{it:Addr} {o:Obj} {h':Heap} {ax:Addr},it=s.heap.objs.size->(∀b ob,b∉[it]->(s.heap.push o).get? b=some ob->h'.get? b=some ob)->∀b ob,s.heap.get? b=some ob->h'.get? b=some ob:=fun {it o h' ax} e k b ob q=>k b ob (fun z=>by rw[List.mem_singleton.mp z,e] at q;exact absurd (Heap.lt_size q) (Nat.lt_irrefl _)) (Heap.get?_push_of_some _ q);refine call_sum_walkG ?_;rcases hq with hq | hq
 ·obtain⟨its,rv,p1,_⟩:=I.list hq;have hi:=intsAre_of rv;have hlt:l<s.heap.objs.size:=by obtain⟨_,q,_⟩:=p1.isList;exact Heap.lt_size q
  refine wpAny_pyIter_list p1.isList ⟨s.heap.objs.size,_,_,_,_,_,fun i=>ns.getD i 0,rfl,Walks.list hh _ l (Nat.ne_of_lt hlt) its.toArray,⟨⟨_,Heap.get?_push_size _ rfl,rfl,rfl⟩,p1.isList.push _⟩,fun b hb=>?_,fun i v hv=>IntsAre.int_at hi i v (by rw[<-Array.getElem?_toList] at hv;exact hv),fun h' tk t' k=>?_⟩
  ·rw[size_push'];simp only[List.mem_cons,List.not_mem_nil,or_false] at hb;rcases hb with rfl | rfl
   ·exact Nat.lt_succ_self _
   ·exact Nat.lt_succ_of_lt hlt
  ·rw[pre hi];exact⟨.int ns.sum,H,I.kept (t':=tk) (kept (ax:=l) rfl k),⟨t',rfl⟩,q⟩
 ·obtain⟨its,rv,p1,_⟩:=I.tuple hq;have hi:=intsAre_of rv;have hlt:l<s.heap.objs.size:=p1.lt;have ht:s.heap.IsTuple l its.toArray:=p1;refine wpAny_pyIter_tuple ht ⟨s.heap.objs.size,_,_,_,_,_,fun i=>ns.getD i 0,rfl,Walks.tuple hh _ l (Nat.ne_of_lt hlt) its.toArray,⟨⟨_,Heap.get?_push_size _ rfl,rfl,rfl⟩,p1.push _⟩,fun b hb=>?_,fun i v hv=>IntsAre.int_at hi i v (by rw[<-Array.getElem?_toList] at hv;exact hv),fun h' tk t' k=>?_⟩
  ·rw[size_push'];simp only[List.mem_cons,List.not_mem_nil,or_false] at hb;rcases hb with rfl | rfl
   ·exact Nat.lt_succ_self _
   ·exact Nat.lt_succ_of_lt hlt
  ·rw[pre hi];exact⟨.int ns.sum,H,I.kept (t':=tk) (kept (ax:=l) rfl k),⟨t',rfl⟩,q⟩
def qv (hc:X.calm=true):jV X (.builtin "sum") pY:=by
 refine⟨_,EN hc,fun os H L ds d vs Q r m k=>?_⟩
 match ds,m with
 | [.tup xs],m =>
   obtain⟨is,e,m⟩:=af m;cases m;obtain⟨v,rfl,h⟩:=gj r;obtain⟨p,ys,rfl,h1,h2⟩:=h.tup_up;have:=cH e h2;subst this;exact⟨p,is,rfl,.inr h1,k _ H (Same.refl _) (.int _)⟩
 | [.lst xs],m =>
   obtain⟨is,e,m⟩:=af m;cases m;obtain⟨v,rfl,h⟩:=gj r;obtain⟨p,ys,rfl,h1,h2⟩:=h.lst_up;have:=cH e h2;subst this;exact⟨p,is,rfl,.inl h1,k _ H (Same.refl _) (.int _)⟩
def qZ {K:PySem.W.Frag}{B:Hp}(a:Int)(n:Nat):Walk K (Ff a n) B (eA a n):=by
 intro i os1 H1 L g;have hlen:(eA a n).length=n:=by simp[eA]
 refine⟨fun d hd=>?_,fun hl=>by rw[hlen] at hl;exact Nat.le_of_eq hl.symm⟩;have hi:i<n:=by have:=(List.getElem?_eq_some_iff.mp hd).1;omega
 refine⟨hi,fun y H2 z=>?_⟩;obtain⟨rfl,rfl⟩:=z;unfold eA at hd;rw[List.getElem?_map,List.getElem?_range hi] at hd;cases hd;exact⟨Same.refl _,.int _⟩
def xQ {p:Pos}(hg:Gl X "range")(hm:X.mg "range"=none)(ha:DE X a ma)(hb:DE X b mb)(h1:starEach [a,b] X.env=(false,eval a X.env)::starEach [b] X.env:=by rfl)(h2:starEach [b] X.env=(false,eval b X.env)::starEach [] X.env:=by rfl)(h3:starEach [a,b] X.env=[(false,eval a X.env),(false,eval b X.env)]:=by rfl)(h4:starEach [b] X.env=[(false,eval b X.env)]:=by rfl) :
 DI X tg (.Call (.Name "range" p) [a,b] [] pos) (jF ma mb):=by
 obtain⟨ta,pa,qa⟩:=ha;obtain⟨tb,pb,qb⟩:=hb;refine⟨_,xt hg hm (aI pa (aI pb bF h2) h1) h3 h4,fun os σ H δ xs R s m k=>?_⟩;obtain⟨dx,e1,m⟩:=af m;obtain⟨dy,e2,m⟩:=af m;refine qa os σ H δ dx _ s e1 fun v H1 g1 r1=>?_;refine qb os σ H1 δ dy _ (s.mono g1) e2 fun w H2 g2 r2=>?_
 match dx,dy,m with
 | .int i,.int j,m =>
   have m':(if -1073741824<i/\i<1073741824 /\ -1073741824<j/\j<1073741824 then some (eA i (j-i).toNat) else none)=some xs:=m;split at m'
   ·rename_i hj;cases m';rw[r1.int_inv,r2.int_inv];exact⟨i,j,rfl,by omega,k _ H2 (g1.trans g2) (qZ _ _)⟩
   ·cases m'
end
end DL
namespace DL
open PySem PyProof.Rows
section
variable {P:Program}{w:World}{A:Around}{E:Value->Shared->Prop}{s:Shared}
def qN (h:Heap)(z TI TO T:Addr)(f:Bool):Prop:=h.get? z=some { cls:=.type "zip",dict:=none,data:=.fields #[.int T 0,.bool f,.bool false,.ref TI,.ref TO],slots:=#[] }
structure Apart (z TI i1 i2 l1 l2:Addr):Prop where
 TIz:TI≠z
 i1z:i1≠z
 i2z:i2≠z
 TIi1:TI≠i1
 TIi2:TI≠i2
 i12:i1≠i2
 l1z:l1≠z
 l1i1:l1≠i1
 l1i2:l1≠i2
 l2z:l2≠z
 l2i1:l2≠i1
 l2i2:l2≠i2
def ye {a:Addr}{Q:Option Obj->Shared->Prop}(h:Q (s.heap.get? a) s):wpAny (model P w) A (loadIfAlive a) Q E s:=fun _ _ _=>h
def Bi {z TI TO T:Addr}{f:Bool}{Q:Bool->Shared->Prop}(hz:qN s.heap z TI TO T f)(hT:∃o,s.heap.get? T=some o)(k:∀h',qN h' z TI TO T true->Heap.SameBut z s.heap h'->Q false { s with heap:=h' }) :
 wpAny (model P w) A (Builtin.SmallTypes.ownedTupleIsFree (.ref z)) Q E s:=by
 obtain⟨o,ho⟩:=hT;refine wpAny_bind (m:=field (.ref z) 0) (wpAny_field hz rfl (x:=.int T 0) rfl (wpAny_bind (ye ?_)));rw[Int.toNat_natCast,ho];rw[if_neg (by simp)];refine wpAny_bind (wpAny_field hz rfl (x:=.bool f) rfl ?_);cases f with
 | true =>
   rw[if_neg (by decide)];exact wpAny_pure (k s.heap hz (Heap.SameBut.refl _ _))
 | false =>
   rw[if_pos (by decide)];exact wpAny_bind (wpAny_setField_rec hz (by simp) fun h1 z1 sb=>wpAny_pure (k h1 z1 sb))
def Da {z TI TO T i1 i2 l1 l2:Addr}{f:Bool}{m:Nat}{us ws:Array Value}{Q:PySem.Fin->Shared->Prop}(hh:A.handled=none)(D:Apart z TI i1 i2 l1 l2)(hz:qN s.heap z TI TO T f)(hT:∃o,s.heap.get? T=some o)(hTI:IsPair s.heap TI (.ref i1) (.ref i2))
 (a1:s.heap.IsListIter i1 l1 m) (b1:s.heap.IsList l1 us) (a2:s.heap.IsListIter i2 l2 m) (b2:s.heap.IsList l2 ws)
 (go:∀x y h',us[m]? = some x->ws[m]? = some y->qN h' z TI TO T true->h'.IsListIter i1 l1 (m+1)->h'.IsListIter i2 l2 (m+1)->IsPair h' s.heap.objs.size x y->(∀c o,c≠z->c≠i1->c≠i2->s.heap.get? c=some o->h'.get? c=some o)->Q (.done (.ret (.ref s.heap.objs.size))) { s with heap:=h' })
 (no:∀h' e,us[m]? = none\/ws[m]? = none->(∀c o,c≠z->c≠i1->c≠i2->s.heap.get? c=some o->h'.get? c=some o)->(∃o,h'.get? e=some o/\o.cls=.type "StopIteration")->E (.ref e) { s with heap:=h' }) :
 wpAny (model P w) A (Builtin.«zip.__next__» ⟨[.ref z],[]⟩) Q E s:=by
 refine wpAny_bind (m:=field (.ref z) 2) (wpAny_field hz rfl (x:=.bool false) rfl (wpAny_bind (m:=field (.ref z) 3) (wpAny_field hz rfl (x:=.ref TI) rfl (wpAny_bind (wpAny_seqItems hTI rfl ?_)))));refine wpAny_bind (m:=Builtin.SmallTypes.ownedTupleIsFree (.ref z)) (Bi hz hT fun g0 z0 s0=>?_);simp only[Bool.false_eq_true,if_false,List.forIn_toArray,List.forIn_cons,List.forIn_nil];have c1:=a1.extBut s0.extBut D.i1z;have d1:=b1.extBut s0.extBut D.l1z;refine wpAny_bind (wpAny_bind (wpAny_bind (wpAny_holding (wpAny_bind (m:=Builtin.SmallTypes.nextOf (.ref i1)) ?_))));cases e1:us[m]? with
 | none=>exact wpAny_nextOf_list_end hh c1 d1 e1 fun g1 e x1 he=>no g1 e (.inl e1) (fun c o n1 n2 _ q=>x1 _ _ n2 (s0.extBut _ _ n1 q)) he
 | some x =>
   refine wpAny_nextOf_list_item c1 d1 e1 fun g1 j1 s1=>wpAny_pure (wpAny_pure (wpAny_bind (wpAny_bind (wpAny_holding (wpAny_bind (m:=Builtin.SmallTypes.nextOf (.ref i2)) ?_)))));have c2:=(a2.extBut s0.extBut D.i2z).extBut s1.extBut D.i12.symm;have d2:=(b2.extBut s0.extBut D.l2z).extBut s1.extBut D.l2i1;cases e2:ws[m]? with
   | none=>exact wpAny_nextOf_list_end hh c2 d2 e2 fun g2 e x2 he=>no g2 e (.inr e2) (fun c o n1 n2 n3 q=>x2 _ _ n3 (s1.extBut _ _ n2 (s0.extBut _ _ n1 q))) he
   | some y =>
     refine wpAny_nextOf_list_item c2 d2 e2 fun g2 j2 s2=>wpAny_pure ?_;refine wpAny_pure (wpAny_pure (wpAny_bind (wpAny_newTuple (wpAny_pure ?_) (by show 2<=sizeLine;rw[sizeLine_eq];decide))));have sz:g2.objs.size=s.heap.objs.size:=by rw[s2.1,s1.1,s0.1]
     have q:=go x y (g2.push { cls:=.type "tuple",data:=.seq #[x,y] }) e1 e2 (Heap.get?_push_of_some _ (s2.extBut _ _ D.i2z.symm (s1.extBut _ _ D.i1z.symm z0))) ((j1.extBut s2.extBut D.i12).at fun o e=>Heap.get?_push_of_some _ e) (j2.at fun o e=>Heap.get?_push_of_some _ e)
      (by rw[<-sz];exact Heap.get?_push_size _ rfl) fun c o n1 n2 n3 e=>Heap.get?_push_of_some _ (s2.extBut _ _ n3 (s1.extBut _ _ n2 (s0.extBut _ _ n1 e)))
     rw[<-sz] at q;exact q
def vg {z TI TO T i1 i2 l1 l2:Addr}{f:Bool}{m:Nat}{us ws:Array Value}{Q:Option Value->Shared->Prop}(hh:A.handled=none)(D:Apart z TI i1 i2 l1 l2)(hz:qN s.heap z TI TO T f)(hT:∃o,s.heap.get? T=some o)(hTI:IsPair s.heap TI (.ref i1) (.ref i2))
 (a1:s.heap.IsListIter i1 l1 m) (b1:s.heap.IsList l1 us) (a2:s.heap.IsListIter i2 l2 m) (b2:s.heap.IsList l2 ws)
 (go:∀x y h',us[m]? = some x->ws[m]? = some y->qN h' z TI TO T true->h'.IsListIter i1 l1 (m+1)->h'.IsListIter i2 l2 (m+1)->IsPair h' s.heap.objs.size x y->(∀c o,c≠z->c≠i1->c≠i2->s.heap.get? c=some o->h'.get? c=some o)->Q (some (.ref s.heap.objs.size)) { s with heap:=h' })
 (no:∀h',us[m]? = none\/ws[m]? = none->(∀c o,c≠z->c≠i1->c≠i2->s.heap.get? c=some o->h'.get? c=some o)->Q none { s with heap:=h' }) :
 wpAny (model P w) A (pyNext (.ref z)) Q E s:=by
 have hTy:s.TypeIs (.ref z) "zip":=⟨_,hz,rfl⟩;unfold pyNext;refine wpAny_bind (wpAny_attempt (wpAny_callSpecial?_slot (name:=Str.ofString "__next__") hTy PySem.F.slot_zip_next (wpAny_call_entry PySem.F.slot_zip_next hTy PySem.F.entry_zip_next (Da (A:=A.in1) hh D hz hT hTI a1 b1 a2 b2
  (fun x y h' e1 e2 k1 k2 k3 k4 k5=>⟨_,rfl,wpAny_pure (go x y h' e1 e2 k1 k2 k3 k4 k5)⟩) fun h' e hn hk he=>?_) (PySem.F.args_zip_next_1 _))))
 obtain⟨o,ho,hc⟩:=he;exact wpAny_bind (wpAny_isInstance (T:="StopIteration") (b:=true) ⟨o,ho,hc⟩ isSubtype_stop (wpAny_pure (no _ hn hk)))
end
structure ZL (B z TI TO i1 i2 S:Addr)(l1 l2:Addr)(xs ys:Array Value)(i:Nat)(ts:List Addr)(h0 h:Heap):Prop where
 zs:(i=0/\IsZip h z TI TO .none/\∃a b,IsPair h TO a b)\/∃T f,qN h z TI TO T f/\T∈ts
 ti:IsPair h TI (.ref i1) (.ref i2)
 a1:h.IsListIter i1 l1 i
 a2:h.IsListIter i2 l2 i
 old:∀b o,b<B->h0.get? b=some o->h.get? b=some o
 at_:∃c,h.get? S=some { cls:=.type "list",dict:=none,data:=.seq (ts.map Value.ref).toArray c,slots:=#[] }
 tl:ts.length=i
 tp:∀(j:Nat) (t:Addr),ts[j]? = some t->(B<=t/\t≠z/\t≠TI/\t≠TO/\t≠i1/\t≠i2/\t≠S)/\∃x y,xs[j]? = some x/\ys[j]? = some y/\IsPair h t x y
 nd:ts.Nodup
section
variable {P:Program}{w:World}{A:Around}{E:Value->Shared->Prop}{s:Shared}{B z TI TO i1 i2 S l1 l2:Addr}{xs ys:Array Value}{h0:Heap}
structure ZApart (B z TI TO i1 i2 S l1 l2:Addr):Prop where
 D:ZipApart z TI TO i1 i2 l1 l2
 Sz:S≠z
 STI:S≠TI
 STO:S≠TO
 Si1:S≠i1
 Si2:S≠i2
 bz:B<=z
 bTO:B<=TO
 b1:B<=i1
 b2:B<=i2
 bS:B<=S
 l1B:l1<B
 l2B:l2<B
def ZApart.ap (q:ZApart B z TI TO i1 i2 S l1 l2):Apart z TI i1 i2 l1 l2:=⟨q.D.TIz,q.D.i1z,q.D.i2z,q.D.TIi1,q.D.TIi2,q.D.i12,q.D.l1z,q.D.l1i1,q.D.l1i2,q.D.l2z,q.D.l2i1,q.D.l2i2⟩
def ZL.more (q:ZApart B z TI TO i1 i2 S l1 l2){i:Nat}{ts:List Addr}{h h1:Heap}{T:Addr}{f:Bool}{x y:Value}(L:ZL B z TI TO i1 i2 S l1 l2 xs ys i ts h0 h)(hx:xs[i]? = some x)(hy:ys[i]? = some y)
 (bz:qN h1 z TI TO T f) (hT:T=h.objs.size\/T∈ts) (j1:h1.IsListIter i1 l1 (i+1)) (j2:h1.IsListIter i2 l2 (i+1)) (hp:IsPair h1 h.objs.size x y)
 (k:∀b o,b≠z->b≠TO->b≠i1->b≠i2->h.get? b=some o->h1.get? b=some o) (bTOlt:TO<h.objs.size) (bTIlt:TI<h.objs.size) :
 ZL B z TI TO i1 i2 S l1 l2 xs ys (i+1) (ts++[h.objs.size]) h0 (h1.update S (Obj.mapSeq (·.push (.ref h.objs.size)))):=by
 have ltz:z<h.objs.size:=by rcases L.zs with ⟨_,q,_⟩ | ⟨_,_,q,_⟩ <;> exact Heap.lt_size q
 have lt1:i1<h.objs.size:=by obtain⟨_,q,_⟩:=L.a1;exact Heap.lt_size q
 have lt2:i2<h.objs.size:=by obtain⟨_,q,_⟩:=L.a2;exact Heap.lt_size q
 obtain⟨c,aS⟩:=L.at_;have ltS:S<h.objs.size:=Heap.lt_size aS;have gS:h1.get? S=_:=k S _ q.Sz q.STO q.Si1 q.Si2 aS;have up:∀{b:Addr} {o:Obj},b≠S->h1.get? b=some o->(h1.update S (Obj.mapSeq (·.push (.ref h.objs.size)))).get? b=some o:=fun {b o} hb e=>(Heap.get?_update_other _ _ (Ne.symm hb)).trans e;refine⟨.inr ⟨T,f,up q.Sz.symm bz,?_⟩,up q.STI.symm (k _ _ q.D.TIz q.D.TITO q.D.TIi1 q.D.TIi2 L.ti),j1.at fun o e=>up q.Si1.symm e,j2.at fun o e=>up q.Si2.symm e,fun b o hb e=>?_,?_,by simp[L.tl],fun j t hj=>?_,?_⟩
 ·rcases hT with rfl | hT
  ·simp
  ·simp[hT]
 ·exact up (Nat.ne_of_lt (Nat.lt_of_lt_of_le hb q.bS)) (k b o (Nat.ne_of_lt (Nat.lt_of_lt_of_le hb q.bz)) (Nat.ne_of_lt (Nat.lt_of_lt_of_le hb q.bTO)) (Nat.ne_of_lt (Nat.lt_of_lt_of_le hb q.b1)) (Nat.ne_of_lt (Nat.lt_of_lt_of_le hb q.b2)) (L.old b o hb e))
 ·have g:=Heap.get?_update_self (Obj.mapSeq (·.push (.ref h.objs.size))) gS rfl;simp only[Obj.mapSeq,List.push_toArray] at g;rw[List.map_append];exact⟨_,g⟩
 ·by_cases hji:j<ts.length
  ·rw[List.getElem?_append_left hji] at hj;obtain⟨⟨b1,b2,b3,b4,b5,b6,b7⟩,u,v,e1,e2,e3⟩:=L.tp j t hj;exact⟨⟨b1,b2,b3,b4,b5,b6,b7⟩,u,v,e1,e2,up b7 (k t _ b2 b4 b5 b6 e3)⟩
  ·have hj':=(List.getElem?_eq_some_iff.mp hj).1;simp only[List.length_append,List.length_cons,List.length_nil] at hj';have ej:j=ts.length:=by omega
   subst ej;simp only[List.getElem?_concat_length,Option.some.injEq] at hj;subst hj;refine⟨⟨Nat.le_trans q.bS (Nat.le_of_lt ltS),Nat.ne_of_gt ltz,Nat.ne_of_gt bTIlt,Nat.ne_of_gt bTOlt,Nat.ne_of_gt lt1,Nat.ne_of_gt lt2,Nat.ne_of_gt ltS⟩,x,y,by rw[L.tl];exact hx,by rw[L.tl];exact hy,up (Nat.ne_of_gt ltS) hp⟩
 ·rw[List.nodup_append];refine⟨L.nd,by simp,fun a ha b hb e=>?_⟩;simp only[List.mem_singleton] at hb;subst hb;subst e;obtain⟨j,hj⟩:=List.mem_iff_getElem?.mp ha;obtain⟨_,u,v,_,_,e3⟩:=L.tp j _ hj;exact Nat.lt_irrefl _ (Heap.lt_size e3)
def vY {β:Type}{m:Sem β}{k:β->Sem PySem.Fin}{vs:List Value}{R:Result->Shared->Prop}(h:wpAny (model P w) A.in1 m (fun b s'=>wpAny (model P w) A.in1 (k b) (fun fin s'=>match fin with | .done f=>R (.ok f) s' | .again c'=>c'.quiet=true/\codeAny (model P w) A c' R s') (fun e s'=>R (.error e) s') s') (fun e s'=>R (.error e) s') s)
 (e:Builtin.«list.extend.loop» ⟨vs,[]⟩=m >>= k):codeAny (model P w) A (.builtin "list.extend.loop" ⟨vs,[]⟩) R s :=
 codeAny_builtin PySem.F.entry_extend_loop (by rw[Around.under_plainId PySem.F.plain_extend_loop _,e];exact wpAny_bind h)
def Bh (hh:A.handled=none)(q:ZApart B z TI TO i1 i2 S l1 l2)(o1:h0.IsList l1 xs)(o2:h0.IsList l2 ys)(hn:min xs.size ys.size<=sizeLine){res:Value}{R:Result->Shared->Prop} :
 ∀(m i:Nat) (s:Shared) (ts:List Addr),min xs.size ys.size-i=m->i<=min xs.size ys.size->ZL B z TI TO i1 i2 S l1 l2 xs ys i ts h0 s.heap->(TO<s.heap.objs.size) ->
  (∀(h':Heap) (ts':List Addr),(∀b o,b<B->h0.get? b=some o->h'.get? b=some o)->(∃c,h'.get? S=some { cls:=.type "list",dict:=none,data:=.seq (ts'.map Value.ref).toArray c,slots:=#[] })->ts'.length=min xs.size ys.size->ts'.Nodup ->
   (∀(j:Nat) (t:Addr),ts'[j]? = some t->B<=t/\t≠S/\∃x y,xs[j]? = some x/\ys[j]? = some y/\IsPair h' t x y)->R (.ok (.ret res)) { s with heap:=h' }) ->
  codeAny (model P w) A (.builtin "list.extend.loop" ⟨[.ref S,.ref z,res],[]⟩) R s:=by
 intro m;induction m with
 | zero =>
   intro i s ts hm hi L lTO k;have e:i=min xs.size ys.size:=by omega
   refine vY (m:=pyNext (.ref z)) ?_ rfl;have p1:s.heap.IsList l1 xs:=let ⟨o,g,r⟩:=o1;⟨o,L.old _ _ q.l1B g,r⟩
   have p2:s.heap.IsList l2 ys:=let ⟨o,g,r⟩:=o2;⟨o,L.old _ _ q.l2B g,r⟩
   have hend:xs[i]? = none\/ys[i]? = none:=by
    simp only[Array.getElem?_eq_none_iff];omega
   have fin:∀h',(∀b o,b≠z->b≠TO->b≠i1->b≠i2->s.heap.get? b=some o->h'.get? b=some o)->R (.ok (.ret res)) { s with heap:=h' }:=fun h' kk=>by
    obtain⟨c,aS⟩:=L.at_;refine k h' ts (fun b o hb e=>kk b o (Nat.ne_of_lt (Nat.lt_of_lt_of_le hb q.bz)) (Nat.ne_of_lt (Nat.lt_of_lt_of_le hb q.bTO)) (Nat.ne_of_lt (Nat.lt_of_lt_of_le hb q.b1)) (Nat.ne_of_lt (Nat.lt_of_lt_of_le hb q.b2)) (L.old b o hb e)) ⟨c,kk S _ q.Sz q.STO q.Si1 q.Si2 aS⟩ (by rw[L.tl,e]) L.nd fun j t hj=>?_;obtain⟨⟨b1,b2,b3,b4,b5,b6,b7⟩,u,v,e1,e2,e3⟩:=L.tp j t hj;exact⟨b1,b7,u,v,e1,e2,kk t _ b2 b4 b5 b6 e3⟩
   rcases L.zs with ⟨_,hz,a,b,hTO⟩ | ⟨T,f,hz,hTm⟩
   ·exact wpAny_pyNext_zip_end (A:=A.in1) hh q.D hz L.ti hTO L.a1 L.a2 p1 p2 hend fun h' kk=>wpAny_pure (fin h' fun b o c1 c2 c3 c4 e=>kk b o c1 c2 c3 c4 e)
   ·obtain⟨j,hj⟩:=List.mem_iff_getElem?.mp hTm;obtain⟨_,u,v,_,_,e3⟩:=L.tp j T hj;exact vg (A:=A.in1) hh q.ap hz ⟨_,e3⟩ L.ti L.a1 p1 L.a2 p2 (fun x y h' e1 e2=>absurd hend (by rw[e1,e2];simp)) fun h' _ kk=>wpAny_pure (fin h' fun b o c1 c2 c3 c4 e=>kk b o c1 c3 c4 e)
 | succ m ih =>
   intro i s ts hm hi L lTO k;have hlt:i<min xs.size ys.size:=by omega
   refine vY (m:=pyNext (.ref z)) ?_ rfl;have p1:s.heap.IsList l1 xs:=let ⟨o,g,r⟩:=o1;⟨o,L.old _ _ q.l1B g,r⟩
   have p2:s.heap.IsList l2 ys:=let ⟨o,g,r⟩:=o2;⟨o,L.old _ _ q.l2B g,r⟩
   obtain⟨x,hx⟩:∃x,xs[i]? = some x:=⟨_,Array.getElem?_eq_getElem (by omega)⟩;obtain⟨y,hy⟩:∃y,ys[i]? = some y:=⟨_,Array.getElem?_eq_getElem (by omega)⟩;have lTI:TI<s.heap.objs.size:=Heap.lt_size L.ti;have go:∀h1 T f,qN h1 z TI TO T f->(T=s.heap.objs.size\/T∈ts)->h1.IsListIter i1 l1 (i+1)->h1.IsListIter i2 l2 (i+1)->IsPair h1 s.heap.objs.size x y->(∀b o,b≠z->b≠TO->b≠i1->b≠i2->s.heap.get? b=some o->h1.get? b=some o) ->
    wpAny (model P w) A.in1 (updateSeq S (·.push (.ref s.heap.objs.size)) >>= fun _=>again (.builtin "list.extend.loop" ⟨[.ref S,.ref z,res],[]⟩)) (fun fin s'=>match fin with | .done f=>R (.ok f) s' | .again c'=>c'.quiet=true/\codeAny (model P w) A c' R s') (fun e s'=>R (.error e) s') { s with heap:=h1 }:=fun h1 T f bz hT j1 j2 hp kk=>by
    obtain⟨c,aS⟩:=L.at_;have gS:=kk S _ q.Sz q.STO q.Si1 q.Si2 aS;have L1:=L.more q hx hy bz hT j1 j2 hp kk lTO lTI;refine wpAny_bind (wpAny_updateSeq (s:={ s with heap:=h1 }) gS rfl (wpAny_pure ⟨plainId_quiet PySem.F.plain_extend_loop _,ih (i+1) _ _ (by omega) hlt L1 ?_ k⟩) (by simp[L.tl];omega) (by simp[L.tl];omega));rw[Heap.size_update];exact Nat.lt_of_lt_of_le lTO (Nat.le_of_lt (Heap.lt_size hp))
   rcases L.zs with ⟨_,hz,a,b,hTO⟩ | ⟨T,f,hz,hTm⟩
   ·exact wpAny_pyNext_zip_item q.D hz L.ti hTO L.a1 L.a2 p1 p2 hx hy fun h' b1 b2 b3 b4 b5 b6 b7=>go h' s.heap.objs.size false b1 (.inl rfl) b3 b4 b5 b7
   ·obtain⟨j,hj⟩:=List.mem_iff_getElem?.mp hTm;obtain⟨_,u,v,_,_,e3⟩:=L.tp j T hj;refine vg (A:=A.in1) hh q.ap hz ⟨_,e3⟩ L.ti L.a1 p1 L.a2 p2 (fun x' y' h' e1 e2 b1 b2 b3 b4 b5=>?_) fun h' hn _=>absurd hn (by rw[hx,hy];simp);cases hx.symm.trans e1;cases hy.symm.trans e2;exact go h' T true b1 (.inr hTm) b2 b3 b4 fun b o c1 c2 c3 c4 e=>b5 b o c1 c3 c4 e
end
end DL
namespace DL
open PySem PySem.Spec PyProof.Rows L2
section
variable {P:Program}{w:World}{A:Around}{E:Value->Shared->Prop}{s:Shared}
def Ae {r:Addr}{Q:Bool->Shared->Prop}(hT:s.TypeIs (.ref r) "zip")(k:∀b,Q b s):wpAny (model P w) A (Builtin.List.listLengthHint (.ref r)) Q E s:=by
 unfold Builtin.List.listLengthHint;refine wpAny_bind (wpAny_specialOf hT (r:=none) (by rw[typeLookup_type,builtinLookup_eq_fast];kernel_rfl) ?_);dsimp only;rw[if_neg (by decide)];rw[if_neg (by decide)];refine wpAny_bind (wpAny_specialOf hT (r:=none) (by rw[typeLookup_type,builtinLookup_eq_fast];kernel_rfl) ?_);exact wpAny_pure (k true)
def nq {B z TI TO i1 i2 l1 l2:Addr}{xs ys:Array Value}{Q:Value->Shared->Prop}(hh:A.handled=none)(D:ZipApart z TI TO i1 i2 l1 l2)(hz:IsZip s.heap z TI TO .none)(hTI:IsPair s.heap TI (.ref i1) (.ref i2))(hTO:∃a b,IsPair s.heap TO a b)
 (h1:s.heap.IsListIter i1 l1 0) (h2:s.heap.IsListIter i2 l2 0) (hl1:s.heap.IsList l1 xs) (hl2:s.heap.IsList l2 ys) (bz:B<=z) (bTO:B<=TO) (b1:B<=i1) (b2:B<=i2) (l1B:l1<B) (l2B:l2<B) (hn:min xs.size ys.size<=sizeLine)
 (k:∀(h':Heap) (ts:List Addr),(∀b o,b<B->s.heap.get? b=some o->h'.get? b=some o)->(∃c,h'.get? s.heap.objs.size=some { cls:=.type "list",dict:=none,data:=.seq (ts.map Value.ref).toArray c,slots:=#[] })->ts.length=min xs.size ys.size->ts.Nodup ->
  (∀(j:Nat) (t:Addr),ts[j]? = some t->B<=t/\t≠s.heap.objs.size/\∃x y,xs[j]? = some x/\ys[j]? = some y/\IsPair h' t x y)->Q (.ref s.heap.objs.size) { s with heap:=h' }) :
 wpAny (model P w) A (call (.type "list") [.ref z]) Q E s:=by
 have ltz:z<s.heap.objs.size:=Heap.lt_size hz;have ltI:TI<s.heap.objs.size:=Heap.lt_size hTI;have ltO:TO<s.heap.objs.size:=by obtain⟨_,_,q⟩:=hTO;exact Heap.lt_size q
 have lt1:i1<s.heap.objs.size:=by obtain⟨_,q,_⟩:=h1;exact Heap.lt_size q
 have lt2:i2<s.heap.objs.size:=by obtain⟨_,q,_⟩:=h2;exact Heap.lt_size q
 have q:ZApart B z TI TO i1 i2 s.heap.objs.size l1 l2:=⟨D,Nat.ne_of_gt ltz,Nat.ne_of_gt ltI,Nat.ne_of_gt ltO,Nat.ne_of_gt lt1,Nat.ne_of_gt lt2,bz,bTO,b1,b2,Nat.le_trans bz (Nat.le_of_lt ltz),l1B,l2B⟩;refine callType_codes (Q₁:=fun v s1=>v=.ref s.heap.objs.size/\s1={ s with heap:=s.heap.push { cls:=.type "list",data:=.seq #[] } }) PySem.F.called_list (PySem.F.typeCall_list_1 _) PySem.F.entry_list_init (code_list_new _ ⟨rfl,rfl⟩) fun v s1 z1=>?_;obtain⟨rfl,rfl⟩:=z1;have g0:(s.heap.push { cls:=.type "list",data:=.seq #[] }).get? s.heap.objs.size=some { cls:=.type "list",data:=.seq #[] }:=Heap.get?_push_size _ rfl;refine⟨⟨_,g0,rfl⟩,PySem.F.args_list_init_2 _ _,?_⟩;show wpAny _ _ (Builtin.List.listItems (.ref s.heap.objs.size) >>= fun old=>Builtin.List.listUpdate (.ref s.heap.objs.size) (fun _=>#[]) >>= fun _=>letGo old.toList.reverse >>= fun _=>Builtin.List.listExtendWith (.ref s.heap.objs.size) (.ref z) .none) _ _ _;refine wpAny_bind (wpAny_bind (wpAny_seqItems g0 rfl (wpAny_pure ?_)));refine wpAny_bind (show wpAny _ _ (updateSeq s.heap.objs.size fun _=>#[]) _ _ _ from wpAny_updateSeq g0 rfl (wpAny_bind (wpAny_letGo ?_)));have g1:=Heap.get?_update_self (Obj.mapSeq fun _=>(#[]:Array Value)) g0 rfl;generalize hG:(s.heap.push { cls:=.type "list",data:=.seq #[] }).update s.heap.objs.size (Obj.mapSeq fun _=>(#[]:Array Value))=G at g1 ⊢;have kG:∀b o,b≠s.heap.objs.size->s.heap.get? b=some o->G.get? b=some o:=fun b o hb e=>by rw[<-hG];exact(Heap.get?_update_other _ _ (Ne.symm hb)).trans (Heap.get?_push_of_some _ e)
 have kG':∀b o,s.heap.get? b=some o->G.get? b=some o:=fun b o e=>kG b o (Nat.ne_of_lt (Heap.lt_size e)) e;unfold Builtin.List.listExtendWith;have hTy:Shared.TypeIs { s with heap:=G } (.ref z) "zip":=⟨_,kG' _ _ hz,rfl⟩;refine wpAny_bind (wpAny_typeOf (T:="zip") hTy ?_);have e1:Builtin.List.listSameRef (.ref s.heap.objs.size) (.ref z)=false:=by simp[Builtin.List.listSameRef,Nat.ne_of_gt ltz]
 have e2:(Value.type "zip"==Value.type "list")=false:=by decide
 have e3:(Value.type "zip"==Value.type "tuple")=false:=by decide
 simp only[e1,e2,e3,Bool.or_false,Bool.false_eq_true,if_false];refine wpAny_bind (wpAny_pyIter_zip (s:={ s with heap:=G }) (kG' _ _ hz) ?_);refine wpAny_bind (wpAny_holding (Ae hTy fun b=>?_));have run:∀(h:Heap) (c1:Nat),(∀b o,b≠s.heap.objs.size->G.get? b=some o->h.get? b=some o)->h.get? s.heap.objs.size=some { cls:=.type "list",data:=.seq #[] c1 }->codeAny (model P w) A.in1 (.builtin "list.extend.loop" ⟨[.ref s.heap.objs.size,.ref z,.none],[]⟩) (wants (fun r s2=>r=.none/\Q (.ref s.heap.objs.size) s2) E) { s with heap:=h }:=fun h c1 hk gh=>by
  have kk:∀b o,s.heap.get? b=some o->h.get? b=some o:=fun b o e=>hk b o (Nat.ne_of_lt (Heap.lt_size e)) (kG' b o e);refine Bh (A:=A.in1) (h0:=s.heap) hh q hl1 hl2 hn _ 0 { s with heap:=h } [] rfl (Nat.zero_le _) ⟨.inl ⟨rfl,kk _ _ hz,let ⟨a,b,e⟩:=hTO;⟨a,b,kk _ _ e⟩⟩,kk _ _ hTI,h1.at fun o e=>kk _ o e,h2.at fun o e=>kk _ o e,fun b o _ e=>kk b o e,⟨c1,gh⟩,rfl,fun j t hj=>by simp at hj,List.nodup_nil⟩ ?_ fun h' ts k1 k2 k3 k4 k5=>⟨rfl,k h' ts k1 k2 k3 k4 k5⟩;obtain⟨a,b,e⟩:=hTO;exact Heap.lt_size (kk _ _ e)
 refine wpAny_ite_split (fun _=>?_) fun _=>wpAny_pure ⟨plainId_quiet PySem.F.plain_extend_loop _,run G _ (fun _ _ _ e=>e) g1⟩;refine wpAny_bind (wpAny_rule (wpAny_bind ?_));show wpAny _ _ (updateSeq s.heap.objs.size (·.push .none) >>= fun _=>updateSeq s.heap.objs.size (·.pop)) _ _ _;have g2:=Heap.get?_update_self (Obj.mapSeq (·.push Value.none)) g1 rfl;have g3:=Heap.get?_update_self (Obj.mapSeq (·.pop)) g2 rfl;refine wpAny_bind (wpAny_updateSeq (s:={ s with heap:=G }) g1 rfl (wpAny_updateSeq (hz:=by seq_fits) g2 rfl ?_));exact wpAny_pure ⟨plainId_quiet PySem.F.plain_extend_loop _,run _ _ (fun b o hb e=>(Heap.get?_update_other _ _ (Ne.symm hb)).trans ((Heap.get?_update_other _ _ (Ne.symm hb)).trans e)) g3⟩
end
section
variable {X:Cx}{pins:List (Addr×Obj)}{σ:L2.St}{H H':Hp}{s:Shared}{h':Heap}
def Inv.lays {t':Nat}(I:L2.Inv X pins σ H s)(k:∀b u,s.heap.get? b=some u->h'.get? b=some u)(hold:∀a o,H a=some o->H' a=some o)
 (hnew:∀a o,H' a=some o->H a=some o\/s.heap.objs.size<=a/\ObjOk X.prog X.w H' h' a o):L2.Inv X pins σ H' { s with heap:=h',toks:=t' }:=by
 refine I.un (t':=t') ⟨fun b o q _ _ _=>k b o q,fun b o q _ _ _=>⟨o.slots,k b o q⟩,fun b o q n _=>?_,fun b o q _=>⟨o,k b o q⟩,fun b xs q=>hold _ _ q,fun b o u q=>hold _ _ q,fun b ps q=>⟨#[],by rw[hold _ _ q];simp⟩⟩ fun a o e=>?_
 ·cases e:H' b with
  | none=>rfl
  | some u =>
    rcases hnew b u e with z | z
    ·rw[n] at z;cases z
    ·exact absurd (Nat.lt_of_lt_of_le (Heap.lt_size q) z.1) (Nat.lt_irrefl _)
 ·rcases hnew a o e with z | z
  ·exact(I.hok a o z).stay (fun b u _ q=>k b u q) (fun b q=>hold _ _ q) fun b xs q=>hold _ _ q
  ·exact z.2
end
def zh (ts:List Addr)(ps:List (List V))(H:Hp):Hp:=fun b=>match (ts.zip ps).lookup b with
 | some xs=>some (.tup xs)
 | none=>H b
def pM {β:Type}:∀{ts:List Addr} {ps:List β} {b:Addr} {p:β},(ts.zip ps).lookup b=some p->∃j:Nat,ts[j]? = some b/\ps[j]? = some p
 | [],_,_,_,h=>by simp at h
 | _::_,[],_,_,h=>by simp at h
 | t::ts,q::ps,b,p,h=>by
   rw[List.zip_cons_cons,List.lookup_cons] at h;split at h
   ·rename_i e;cases h;exact⟨0,by simp[eq_of_beq e],rfl⟩
   ·obtain⟨j,e1,e2⟩:=pM h;exact⟨j+1,by simpa using e1,by simpa using e2⟩
def CV {β:Type}:∀{ts:List Addr} {ps:List β} {b:Addr} {p:β} {j:Nat},ts.Nodup->ts[j]? = some b->ps[j]? = some p->(ts.zip ps).lookup b=some p
 | [],_,_,_,_,_,h,_=>by simp at h
 | _::_,[],_,_,_,_,_,h=>by simp at h
 | t::ts,q::ps,b,p,0,hn,h1,h2=>by
   simp only[List.getElem?_cons_zero,Option.some.injEq] at h1 h2;subst h1 h2;rw[List.zip_cons_cons,List.lookup_cons];simp
 | t::ts,q::ps,b,p,j+1,hn,h1,h2=>by
   rw[List.nodup_cons] at hn;have hb:b≠t:=fun z=>hn.1 (z ▸ List.mem_of_getElem? (by simpa using h1));rw[List.zip_cons_cons,List.lookup_cons];have e:(b==t)=false:=by simpa using hb
   rw[e];exact CV hn.2 (by simpa using h1) (by simpa using h2)
section
variable {X:Cx}{a b:Expr}{ma mb:ME}{pos p p2 p3:Pos}
noncomputable def Hm (K:PySem.W.Frag)(ta:TA):TE:=fun σ H Q=>ta σ H fun vs H1=>∃l1 l2 xs ys,vs=[.ref l1,.ref l2]/\SqL K H1 l1 xs/\SqL K H1 l2 ys/\min xs.length ys.length<=sizeLine /\
 ∀(H2:Hp) (S:Addr) (ts:List Addr),Same H1 H2->H1 S=none->H2 S=some (.lst (ts.map V.ref))->ts.length=min xs.length ys.length ->
  (∀(j:Nat) (t:Addr),ts[j]? = some t->H1 t=none/\∃x y,xs[j]? = some x/\ys[j]? = some y/\H2 t=some (.tup [x,y]))->Q (.ref S) H2
def oT {xs:List V}{us:List Value}{i:Nat}{u:Value}(r:Vals xs us)(h:us[i]? = some u):∃x,xs[i]? = some x/\RelV x u:=by
 have hi:=(List.getElem?_eq_some_iff.mp h).1;have hx:i<xs.length:=by rw[r.length];exact hi
 obtain⟨u',e1,e2⟩:=r.get (List.getElem?_eq_getElem hx);rw[h] at e1;cases e1;exact⟨_,List.getElem?_eq_getElem hx,e2⟩
def um {ta:TA}(hc:X.calm=true)(hg1:Gl X "list")(hm1:X.mg "list"=none)(hg2:Gl X "zip")(hm2:X.mg "zip"=none)(ha:PA X [a,b] ta)(h1:starEach [a,b] X.env=(false,eval a X.env)::starEach [b] X.env:=by rfl)(hpl:(backTo p3 (starEach [b] X.env)).any (·.1)=false:=by rfl)
 (s1:starEach [Expr.Call (.Name "zip" p2) [a,b] [] p3] X.env=(false,eval (Expr.Call (.Name "zip" p2) [a,b] [] p3) X.env)::starEach [] X.env:=by rfl) (hp0:(backTo pos (starEach [] X.env)).any (·.1)=false:=by rfl) :
 PE X (.Call (.Name "list" p) [.Call (.Name "zip" p2) [a,b] [] p3] [] pos) (Hm X.K ta):=by
 intro pins s σ H Q I h;refine Call_ (gp I hg1 hm1 (by rfl) (PyProof.Rows.callWith_type1 ?_ s1 hp0));rw[s1];show wpAny _ _ (spliced ((false,eval (Expr.Call (.Name "zip" p2) [a,b] [] p3) X.env)::backTo pos (starEach [] X.env))) _ _ s;refine Calls.spliced_cons ?_;refine Call_ (gp I hg2 hm2 (by rfl) (PyProof.Rows.callWith_type1 (bC (ha p3 pins s σ H _ I h) fun us s1 ⟨vs,H1,I1,r1,q1⟩=>?_) h1 hpl));obtain⟨l1,l2,xs,ys,e,hq1,hq2,hn,q⟩:=q1;subst e;obtain⟨u,v,rfl,ru,rv⟩:=vals2 r1;cases ru;cases rv;obtain⟨its1,rv1,p1,_⟩:=I1.list hq1;obtain⟨its2,rv2,p2',_⟩:=I1.list hq2;have a1:l1<s1.heap.objs.size:=by obtain⟨_,q,_⟩:=p1.isList;exact Heap.lt_size q
 have a2:l2<s1.heap.objs.size:=by obtain⟨_,q,_⟩:=p2'.isList;exact Heap.lt_size q
 refine call_zip_2 p1.isList p2'.isList fun h2 hz hTI hTO hi1 hi2 hsz hk=>?_;refine Calls.spliced_nil ?_;have m1:h2.IsList l1 its1.toArray:=let ⟨o,g,r⟩:=p1.isList;⟨o,hk _ _ g,r⟩
 have m2:h2.IsList l2 its2.toArray:=let ⟨o,g,r⟩:=p2'.isList;⟨o,hk _ _ g,r⟩
 have hlen:min its1.toArray.size its2.toArray.size=min xs.length ys.length:=by rw[List.size_toArray,List.size_toArray,rv1.length,rv2.length]
 refine nq (s:={ s1 with heap:=h2 }) (B:=s1.heap.objs.size) (I1.ok.hd hc) (zipApart_new a1 a2) hz hTI ⟨_,_,hTO⟩ hi1 hi2 m1 m2 (Nat.le_add_right _ _) (Nat.le_add_right _ _) (Nat.le_refl _) (Nat.le_add_right _ _) a1 a2 (by rw[hlen];exact hn) fun h3 ts k1 k2 k3 k4 k5=>?_;have hS:s1.heap.objs.size<=h2.objs.size:=by rw[hsz];exact Nat.le_add_right _ _
 have kk:∀c o,s1.heap.get? c=some o->h3.get? c=some o:=fun c o e=>k1 c o (Heap.lt_size e) (hk c o e);have pz:∀(j:Nat) (t:Addr),ts[j]? = some t->∃x y ux uy,xs[j]? = some x/\ys[j]? = some y/\RelV x ux/\RelV y uy/\IsPair h3 t ux uy:=fun j t hj=>by
  obtain⟨_,_,ux,uy,e1,e2,e3⟩:=k5 j t hj;obtain⟨x,f1,f2⟩:=oT rv1 (i:=j) (u:=ux) (by simpa using e1);obtain⟨y,f3,f4⟩:=oT rv2 (i:=j) (u:=uy) (by simpa using e2);exact⟨x,y,ux,uy,f1,f3,f2,f4,e3⟩
 let ps:List (List V):=(xs.zip ys).map fun q=>[q.1,q.2]
 have hps:∀(j:Nat) x y,xs[j]? = some x->ys[j]? = some y->ps[j]? = some [x,y]:=fun j x y e1 e2=>by
  simp only[ps,List.getElem?_map];have z:(xs.zip ys)[j]? = some (x,y):=List.getElem?_zip_eq_some.mpr ⟨e1,e2⟩;rw[z];rfl
 let H2:Hp:=bm (zh ts ps H1) h2.objs.size (.lst (ts.map V.ref))
 have zt:∀(j:Nat) (t:Addr) x y,ts[j]? = some t->xs[j]? = some x->ys[j]? = some y->zh ts ps H1 t=some (.tup [x,y]):=fun j t x y e1 e2 e3=>by
  unfold zh;rw[CV k4 e1 (hps j x y e2 e3)]
 have zo:∀c o,zh ts ps H1 c=some o->H1 c=some o\/∃(j:Nat) (x y:V),ts[j]? = some c/\xs[j]? = some x/\ys[j]? = some y/\o=.tup [x,y]:=fun c o e=>by
  unfold zh at e;split at e
  ·rename_i vs el;cases e;obtain⟨j,e1,e2⟩:=pM el;obtain⟨x,y,_,_,f1,f2,_⟩:=pz j c e1;rw[hps j x y f1 f2] at e2;cases e2;exact .inr ⟨j,x,y,e1,f1,f2,rfl⟩
  ·exact .inl e
 have fr:∀(j:Nat) (t:Addr),ts[j]? = some t->H1 t=none:=fun j t hj=>I1.hok.fresh (k5 j t hj).1;have hold:∀c o,H1 c=some o->H2 c=some o:=fun c o e=>by
  have hc:c≠h2.objs.size:=aC e (I1.hok.fresh hS);show bm _ _ _ c=_;rw[ay hc];unfold zh;split
  ·rename_i vs el;obtain⟨j,e1,_⟩:=pM el;rw[fr j c e1] at e;cases e
  ·exact e
 have H2S:H2 h2.objs.size=some (.lst (ts.map V.ref)):=aA;have H2t:∀(j:Nat) (t:Addr) x y,ts[j]? = some t->xs[j]? = some x->ys[j]? = some y->H2 t=some (.tup [x,y]):=fun j t x y e1 e2 e3=>by
  show bm _ _ _ t=_;rw[ay (k5 j t e1).2.1];exact zt j t x y e1 e2 e3
 have J:L2.Inv X pins σ H2 { s1 with heap:=h3,toks:=s1.toks }:=by
  refine Inv.lays (s:=s1) (t':=s1.toks) I1 kk hold fun c o e=>?_;by_cases hcS:c=h2.objs.size
  ·subst hcS;rw[H2S] at e;cases e;obtain⟨cc,gS⟩:=k2;refine .inr ⟨hS,by rw[List.length_map,k3,hlen];exact hn,ts.map Value.ref,cc,?_,gS⟩;clear pz hps zt zo fr H2t k3 k4 k5 gS hold H2S;induction ts with
   | nil=>exact .nil
   | cons t ts ih=>exact .cons rfl ih
  ·have e':zh ts ps H1 c=some o:=by
    have:bm (zh ts ps H1) h2.objs.size (.lst (ts.map V.ref)) c=some o:=e;rw[ay hcS] at this;exact this
   rcases zo c o e' with z | ⟨j,x,y,e1,e2,e3,rfl⟩
   ·exact .inl z
   ·obtain⟨x',y',ux,uy,f1,f2,f3,f4,f5⟩:=pz j c e1;rw[e2] at f1;rw[e3] at f2;cases f1;cases f2;exact .inr ⟨(k5 j c e1).1,by show 2<=sizeLine;rw[bH];decide,[ux,uy],.cons f3 (.cons f4 .nil),_,f5,rfl,_,rfl⟩
 refine⟨.ref h2.objs.size,H2,J,rfl,q H2 h2.objs.size ts (fun c o e=>hold c o e) (I1.hok.fresh hS) H2S (by rw[k3,hlen]) fun j t hj=>?_⟩;obtain⟨x,y,_,_,f1,f2,_⟩:=pz j t hj;exact⟨fr j t hj,x,y,f1,f2,H2t j t x y hj f1 f2⟩
def uT (hc:X.calm=true)(hg1:Gl X "list")(hm1:X.mg "list"=none)(hg2:Gl X "zip")(hm2:X.mg "zip"=none)(ha:DE X a ma)(hb:DE X b mb)(h1:starEach [a,b] X.env=(false,eval a X.env)::starEach [b] X.env:=by rfl)(h2:starEach [b] X.env=(false,eval b X.env)::starEach [] X.env:=by rfl)(hpl:(backTo p3 (starEach [b] X.env)).any (·.1)=false:=by rfl)
 (s1:starEach [Expr.Call (.Name "zip" p2) [a,b] [] p3] X.env=(false,eval (Expr.Call (.Name "zip" p2) [a,b] [] p3) X.env)::starEach [] X.env:=by rfl) (hp0:(backTo pos (starEach [] X.env)).any (·.1)=false:=by rfl) :
 DE X (.Call (.Name "list" p) [.Call (.Name "zip" p2) [a,b] [] p3] [] pos) (mE ma mb):=by
 obtain⟨ta,pa,qa⟩:=ha;obtain⟨tb,pb,qb⟩:=hb;refine⟨_,um hc hg1 hm1 hg2 hm2 (aI pa (aI pb bF h2) h1) h1 hpl s1 hp0,fun os σ H δ d Q s m k=>?_⟩;obtain⟨zs,m0,m⟩:=af m;obtain⟨dx,e1,m0⟩:=af m0;obtain⟨dy,e2,m0⟩:=af m0;refine qa os σ H δ dx _ s e1 fun v H1 g1 r1=>?_;refine qb os σ H1 δ dy _ (s.mono g1) e2 fun w H2 g2 r2=>?_
 match dx,dy,m0 with
 | .lst ds,.lst es,m0 =>
   cases m0;split at m
   ·rename_i hz;cases m;obtain⟨l1,xs,rfl,q1,d1⟩:=(r1.mono g2.hd _ _).lst_up;obtain⟨l2,ys,rfl,q2,d2⟩:=r2.lst_up;have zl:(jW ds es).length=min xs.length ys.length:=by simp[jW,d1.length,d2.length]
    refine⟨l1,l2,xs,ys,rfl,q1,q2,by rw[<-zl,bH];exact hz,fun H3 S ts g3 hS h3 hl ht=>?_⟩;have L:=(s.live.mono g1).mono g2;refine k _ H3 (g1.trans (g2.trans g3)) (.lst (.of ((ao (L.ne hS)).trans h3)) ?_);have key:∀(zs:List D) (us:List Addr),zs.length=us.length->(∀(j:Nat) (t:Addr) (d:D),us[j]? = some t->zs[j]? = some d->Den X.K (hide os H3) d (.ref t))->Dens X.K (hide os H3) zs (us.map V.ref):=by
     intro zs;induction zs with
     | nil=>intro us hl _;rw[List.length_eq_zero_iff.mp hl.symm];exact .nil
     | cons z zs ih =>
       intro us hl hd;cases us with
       | nil=>simp at hl
       | cons u us=>exact .cons (hd 0 u z rfl rfl) (ih us (by simpa using hl) fun j t d e1 e2=>hd (j+1) t d (by simpa using e1) (by simpa using e2))
    refine key _ _ (by rw[zl,hl]) fun j t d ej ed=>?_;obtain⟨x,y,f1,f2,rfl⟩:=qU ds es j d ed;obtain⟨tn,u,v,w1,w2,w3⟩:=ht j t ej;obtain⟨u',z1,z2⟩:=d1.get f1;obtain⟨v',z3,z4⟩:=d2.get f2;rw[w1] at z1;rw[w2] at z3;cases z1;cases z3;exact .tup ((ao (L.ne tn)).trans w3) (.cons (z2.mono g3.hd _ _) (.cons (z4.mono g3.hd _ _) .nil))
   ·cases m
end
end DL
namespace DL
open PySem PyProof.Rows
def DRaw (h:Heap)(d:Addr)(es:Array DictEntry)(ep:Nat):Prop:=∃o,h.get? d=some o/\o.ExactDict/\o.data=.dict es ep
def DRaw.at' {h h':Heap}{d:Addr}{es:Array DictEntry}{ep:Nat}(x:DRaw h d es ep)(k:∀o,h.get? d=some o->h'.get? d=some o):DRaw h' d es ep:=let ⟨o,e,r⟩:=x;⟨o,k _ e,r⟩
section
variable {P:Program}{w:World}{A:Around}{E:Value->Shared->Prop}{s:Shared}{d:Addr}{es:Array DictEntry}{ep:Nat}
end
end DL
namespace L2
open PySem PySem.Spec PyProof.Rows
section
variable {κ:Type}[DecidableEq κ]
noncomputable def cB (kvs:List (κ×V))(k:κ):Option V:=(kvs.find? fun kv=>decide (kv.1=k)).map (·.2)
noncomputable def putK (kvs:List (κ×V))(k:κ)(v:V):List (κ×V) :=
 if (kvs.any fun kv=>decide (kv.1=k))=true then kvs.map (fun kv=>if kv.1=k then (kv.1,v) else kv) else kvs++[(k,v)]
def eX {p:κ×V}{r:List (κ×V)}{k:κ}(e:p.1=k):cB (p::r) k=some p.2:=by simp[cB,List.find?_cons,e]
def dW {p:κ×V}{r:List (κ×V)}{k:κ}(e:¬ p.1=k):cB (p::r) k=cB r k:=by simp[cB,List.find?_cons,e]
def gI (k:κ):∀kvs:List (κ×V),(kvs.any fun kv=>decide (kv.1=k))=(cB kvs k).isSome
 | []=>rfl
 | p::r=>by
   rw[List.any_cons];by_cases e:p.1=k
   ·simp only[eX e,decide_eq_true e,Bool.true_or,Option.isSome_some]
   ·rw[dW e,decide_eq_false e,Bool.false_or];exact gI k r
def fm (kvs:List (κ×V))(k:κ)(v:V):(putK kvs k v).length<=kvs.length+1:=by
 unfold putK;split
 ·rw[List.length_map];omega
 ·rw[List.length_append,List.length_cons,List.length_nil];omega
def jt {kvs:List (κ×V)}{k:κ}(v:V)(h:cB kvs k=none):putK kvs k v=kvs++[(k,v)]:=by
 unfold putK;rw[gI,h];exact if_neg (by decide)
def RelO.isSome_eq {o:Option V}{u:Option Value}(r:RelO o u):o.isSome=u.isSome:=by
 cases o with
 | none=>cases u with
   | none=>rfl
   | some _=>exact(show False from r).elim
 | some _=>cases u with
   | none=>exact(show False from r).elim
   | some _=>rfl
def RelO.getD {o:Option V}{u:Option Value}{d:V}{d':Value}(r:RelO o u)(rd:RelV d d'):RelV (o.getD d) (u.getD d'):=by
 cases o with
 | none=>cases u with
   | none=>exact rd
   | some _=>exact(show False from r).elim
 | some _=>cases u with
   | none=>exact(show False from r).elim
   | some _=>exact r
def KV.val {kvs:List (κ×V)}{vs:List (κ×Value)}(r:KV kvs vs)(k:κ):RelO (cB kvs k) (valueAt vs k):=by
 unfold KV at r;induction r with
 | nil=>exact True.intro
 | @cons p q ps qs h t ih =>
   obtain⟨h1,h2⟩:=h;by_cases e:p.1=k
   ·have e':q.1=k:=h1.symm.trans e;have b:valueAt (q::qs) k=some q.2:=by simp[valueAt,List.find?_cons,e']
    rw[eX e,b];exact h2
   ·have e':¬ q.1=k:=fun z=>e (h1.trans z);have b:valueAt (q::qs) k=valueAt qs k:=by simp[valueAt,List.find?_cons,e']
    rw[dW e,b];exact ih
def KV.any {kvs:List (κ×V)}{vs:List (κ×Value)}(r:KV kvs vs)(k:κ):(kvs.any fun kv=>decide (kv.1=k))=vs.any fun kv=>decide (kv.1=k):=by
 unfold KV at r;induction r with
 | nil=>rfl
 | cons h t ih=>rw[List.any_cons,List.any_cons,ih,h.1]
def KV.repl {kvs:List (κ×V)}{vs:List (κ×Value)}(r:KV kvs vs)(k:κ){y:V}{u:Value}(ry:RelV y u) :
 KV (kvs.map fun kv=>if kv.1=k then (kv.1,y) else kv) (vs.map fun kv=>if kv.1=k then (kv.1,u) else kv):=by
 unfold KV at r ⊢
 induction r with
 | nil=>exact .nil
 | @cons p q ps qs h t ih =>
   rw[List.map_cons,List.map_cons];refine .cons ?_ ih;obtain⟨h1,h2⟩:=h;by_cases e:p.1=k
   ·rw[if_pos e,if_pos (h1.symm.trans e)];exact⟨h1,ry⟩
   ·rw[if_neg e,if_neg (fun z=>e (h1.trans z))];exact⟨h1,h2⟩
def KV.put {kvs:List (κ×V)}{vs:List (κ×Value)}(r:KV kvs vs)(k:κ){y:V}{u:Value}(ry:RelV y u):KV (putK kvs k y) (stored vs k u):=by
 unfold putK stored;rw[r.any k];by_cases e:(vs.any fun kv=>decide (kv.1=k))=true
 ·rw[if_pos e,if_pos e];exact r.repl k ry
 ·rw[if_neg e,if_neg e];exact Paired.snoc r ⟨rfl,ry⟩
def KV.keys {kvs:List (κ×V)}{vs:List (κ×Value)}(r:KV kvs vs):kvs.map (·.1)=vs.map (·.1):=by
 unfold KV at r;induction r with
 | nil=>rfl
 | cons h t ih=>rw[List.map_cons,List.map_cons,ih,h.1]
def KV.length {kvs:List (κ×V)}{vs:List (κ×Value)}(r:KV kvs vs):kvs.length=vs.length:=Paired.length r
end
def kC {P:Program}{w:World}{k:Key}{u:Value}(r:RelV (kV k) u):(aW P w).is k u=true:=by
 cases k with
 | inl i=>obtain⟨t,e⟩:=(show ∃t,u=Value.int i t from r);subst e;exact rS P w i t
 | inr x=>obtain⟨t,e⟩:=(show ∃t,u=Value.str x t from r);subst e;exact rR P w x t
def oj {P:Program}{w:World}:∀{ks:List Key} {us:List Value},Vals (ks.map kV) us->ItemsAre (aW P w) ks us
 | [],_,r=>by rw[List.map_nil] at r;cases r;exact .nil
 | k::ks,_,r=>by
   rw[List.map_cons] at r;cases r with
   | cons h t=>exact .cons (kC h) (oj t)
abbrev KT (H:Hp):List (List Key×V)->List (List Key×Addr×Value)->Prop:=Paired fun p q=>p.1=q.1/\H q.2.1=some (.tup (p.1.map kV))/\RelV p.2 q.2.2
def KT.val {H:Hp}{kvs:List (List Key×V)}{xs:List (List Key×Addr×Value)}(r:KT H kvs xs)(k:List Key):RelO (cB kvs k) ((atKey xs k).map (·.2)):=by
 induction r with
 | nil=>exact True.intro
 | @cons p q ps qs h t ih =>
   obtain⟨h1,_,h2⟩:=h;by_cases e:p.1=k
   ·have e':q.1=k:=h1.symm.trans e;have b:atKey (q::qs) k=some q.2:=by simp[atKey,List.find?_cons,e']
    rw[eX e,b];exact h2
   ·have e':¬ q.1=k:=fun z=>e (h1.trans z);have b:atKey (q::qs) k=atKey qs k:=by simp[atKey,List.find?_cons,e']
    rw[dW e,b];exact ih
def KT.repl {H:Hp}{kvs:List (List Key×V)}{xs:List (List Key×Addr×Value)}(r:KT H kvs xs)(k:List Key){y:V}{u:Value}(ry:RelV y u) :
 KT H (kvs.map fun kv=>if kv.1=k then (kv.1,y) else kv) (xs.map (putAt k u)):=by
 induction r with
 | nil=>exact .nil
 | @cons p q ps qs h t ih =>
   rw[List.map_cons,List.map_cons];refine .cons ?_ ih;obtain⟨h1,h2,h3⟩:=h;unfold putAt;by_cases e:p.1=k
   ·rw[if_pos e,if_pos (h1.symm.trans e)];exact⟨h1,h2,ry⟩
   ·rw[if_neg e,if_neg (fun z=>e (h1.trans z))];exact⟨h1,h2,h3⟩
def KT.put {H:Hp}{kvs:List (List Key×V)}{xs:List (List Key×Addr×Value)}(r:KT H kvs xs)(k:List Key){b:Addr}{y:V}{u:Value}(hb:H b=some (.tup (k.map kV)))(ry:RelV y u) :
 KT H (putK kvs k y) (storedH xs k b u):=by
 have e:(kvs.any fun kv=>decide (kv.1=k))=(atKey xs k).isSome:=by
  rw[gI,(r.val k).isSome_eq,Option.isSome_map]
 unfold putK storedH;rw[e];by_cases q:(atKey xs k).isSome=true
 ·rw[if_pos q,if_pos q];exact r.repl k ry
 ·rw[if_neg q,if_neg q];exact Paired.snoc r ⟨rfl,hb,ry⟩
def KT.keeps {H H':Hp}{kvs:List (List Key×V)}{xs:List (List Key×Addr×Value)}(r:KT H kvs xs)(ht:∀b ys,H b=some (.tup ys)->H' b=some (.tup ys)):KT H' kvs xs :=
 Paired.mapP r fun _ _ z=>⟨z.1,ht _ _ z.2.1,z.2.2⟩
section
variable {P:Program}{w:World}{H:Hp}{h:Heap}{a:Addr}
def CL {u:HO}(ok:HOk P w H h)(e:Rd H a u):ObjOk P w H h a u:=e.ok ok
def jN {kvs:List (Key×V)}(ok:HOk P w H h)(e:Rd H a (.dK kvs)):kvs.length<=sizeLine/\(a==sysModules)=false/\∃vs,KV kvs vs/\h.DictOf (aW P w) a vs :=
 show ObjOk P w H h a (.dK kvs) from CL ok e
def wu {kvs:List (Key×V)}(ok:HOk P w H h)(e:H a=some (.dK kvs)):kvs.length<=sizeLine/\(a==sysModules)=false/\∃vs,KV kvs vs/\h.DictOf (aW P w) a vs:=jN ok (.inl e)
def key_of {ks:List Key}(ok:HOk P w H h)(e:H a=some (.tup (ks.map kV))):(tupleKind (aW P w)).is h ks a:=by
 obtain⟨_,its,r,o,h1,h2,n,h3⟩:=(show ObjOk P w H h a (.tup (ks.map kV)) from ok a _ e);exact⟨o,its.toArray,n,h1,h2,h3,by simpa using oj r⟩
def mF {kvs:List (List Key×V)}(ok:HOk P w H h)(e:Rd H a (.dT kvs)):kvs.length<=sizeLine/\(a==sysModules)=false /\
 ∃xs,KT H kvs xs/\h.DictOfH (tupleKind (aW P w)) a xs:=by
 obtain⟨z,y,xs,r,o,es,ep,h1,h2,h3,h4,h5⟩:=(show ObjOk P w H h a (.dT kvs) from CL ok e);refine⟨z,y,xs,r,o,es,ep,h1,h2,h3,h4,fun x hx=>?_,h5⟩;have all:∀{l:List (List Key×V)} {m:List (List Key×Addr×Value)},KT H l m->∀x∈m,(tupleKind (aW P w)).is h x.1 x.2.1:=by
  intro l m q;induction q with
  | nil=>intro x hx;exact nomatch hx
  | @cons p q ps qs hq t ih =>
    intro x hx;rcases List.mem_cons.mp hx with e | hx
    ·subst e;exact key_of ok (by rw[<-hq.1];exact hq.2.1)
    ·exact ih x hx
 exact all r x hx
def C4 {kvs:List (List Key×V)}(ok:HOk P w H h)(e:H a=some (.dT kvs)):kvs.length<=sizeLine/\(a==sysModules)=false /\
 ∃xs,KT H kvs xs/\h.DictOfH (tupleKind (aW P w)) a xs:=mF ok (.inl e)
end
def nr (H:Hp)(a:Addr)(y:V)(r:Option V):Prop :=
 (∃kvs k,Rd H a (.dK kvs)/\y=kV k/\r=cB kvs k)\/∃kvs k b,Rd H a (.dT kvs)/\y=.ref b/\H b=some (.tup (k.map kV))/\r=cB kvs k
def DPut (H:Hp)(a:Addr)(y v:V)(H':Hp):Prop :=
 (∃kvs k,H a=some (.dK kvs)/\y=kV k/\kvs.length<sizeLine/\H'=bm H a (.dK (putK kvs k v))) \/
 ∃kvs k b,H a=some (.dT kvs)/\y=.ref b/\H b=some (.tup (k.map kV))/\kvs.length<sizeLine/\H'=bm H a (.dT (putK kvs k v))
def DPut.k {H:Hp}{a:Addr}{kvs:List (Key×V)}{k:Key}{v:V}(e:H a=some (.dK kvs))(hl:kvs.length<sizeLine):DPut H a (kV k) v (bm H a (.dK (putK kvs k v))):=.inl ⟨kvs,k,e,rfl,hl,rfl⟩
def DPut.t {H:Hp}{a b:Addr}{kvs:List (List Key×V)}{k:List Key}{v:V}(e:H a=some (.dT kvs))(eb:H b=some (.tup (k.map kV)))(hl:kvs.length<sizeLine) :
 DPut H a (.ref b) v (bm H a (.dT (putK kvs k v))):=.inr ⟨kvs,k,b,e,rfl,eb,hl,rfl⟩
section
variable {X:Cx}{pins:List (Addr×Obj)}{σ:St}{H:Hp}{s:Shared}{a:Addr}{y v:V}{u r:Value}{o:Option V}{A:Around}{E:Value->Shared->Prop}
def Inv.big (I:Inv X pins σ H s):sysModules<s.heap.objs.size:=by
 have h:mainGlobals<s.heap.objs.size:=(I.mod.glob.keeps I.bk).lt;exact Nat.lt_trans (by decide) h
def xT {Q:Value->Shared->Prop}(hu:A.units+1<cLine)(I:Inv X pins σ H s)(g:nr H a y (some v))(ry:RelV y u)(h:∀w' s',Inv X pins σ H s'->RelV v w'->Q w' s') :
 wpAny (model X.prog X.w) A (getItem (.ref a) u) Q E s:=by
 rcases g with ⟨kvs,k,e,ey,l⟩ | ⟨kvs,k,b,e,ey,eb,l⟩
 ·subst ey;obtain⟨z,hd,vs,rel,dd⟩:=jN I.hok e;obtain⟨w',hw,rw'⟩:=RelO.some_of (v:=v) (o:=valueAt vs k) (by rw[l];exact rel.val k);exact wpAny_getItem_of (kC ry) dd.mapOf hw (h w' _ (I.tok _) rw')
 ·subst ey;cases (show u=Value.ref b from ry);obtain⟨z,hd,xs,rel,dd⟩:=mF I.hok e;obtain⟨w',hw,rw'⟩:=RelO.some_of (v:=v) (o:=(atKey xs k).map (·.2)) (by rw[l];exact rel.val k);obtain⟨p,hp,hp2⟩:=Option.map_eq_some_iff.mp hw;refine wpAny_getItem_heap (tupleKind_room_in1 hu) (key_of I.hok eb) dd hp ?_;rw[hp2];exact h w' _ (I.tok _) rw'
def GX {Q:Value->Shared->Prop}(hu:A.units+1<cLine)(I:Inv X pins σ H s)(g:nr H a y o)(ry:RelV y u)(h:∀s',Inv X pins σ H s'->Q (.bool o.isSome) s') :
 wpAny (model X.prog X.w) A (compareOp .In u (.ref a)) Q E s:=by
 rcases g with ⟨kvs,k,e,ey,l⟩ | ⟨kvs,k,b,e,ey,eb,l⟩
 ·subst ey;obtain⟨z,hd,vs,rel,dd⟩:=jN I.hok e;refine wpAny_in_of (kC ry) hd dd.mapOf ?_;rw[<-(rel.val k).isSome_eq,<-l];exact h _ (I.tok _)
 ·subst ey;cases (show u=Value.ref b from ry);obtain⟨z,hd,xs,rel,dd⟩:=mF I.hok e;refine wpAny_in_heap (tupleKind_room_in1 hu) (key_of I.hok eb) hd dd ?_;have q:=(rel.val k).isSome_eq;rw[Option.isSome_map] at q;rw[<-q,<-l];exact h _ (I.tok _)
def Cz {Q:Value->Shared->Prop}(hu:A.units+1<cLine)(I:Inv X pins σ H s)(g:nr H a y o)(ry:RelV y u)(h:∀s',Inv X pins σ H s'->Q (.bool (!o.isSome)) s') :
 wpAny (model X.prog X.w) A (compareOp .NotIn u (.ref a)) Q E s:=by
 rcases g with ⟨kvs,k,e,ey,l⟩ | ⟨kvs,k,b,e,ey,eb,l⟩
 ·subst ey;obtain⟨z,hd,vs,rel,dd⟩:=jN I.hok e;refine wpAny_notIn_of (kC ry) hd dd.mapOf ?_;rw[<-(rel.val k).isSome_eq,<-l];exact h _ (I.tok _)
 ·subst ey;cases (show u=Value.ref b from ry);obtain⟨z,hd,xs,rel,dd⟩:=mF I.hok e;refine wpAny_notIn_heap (tupleKind_room_in1 hu) (key_of I.hok eb) hd dd ?_;have q:=(rel.val k).isSome_eq;rw[Option.isSome_map] at q;rw[<-q,<-l];exact h _ (I.tok _)
def iB {h':Heap}{t':Nat}{ob:HO}(I:Inv X pins σ H s)(mu:Fc (H a))(hs:Heap.SameBut a s.heap h')(he:∃q,h'.get? a=some q)(new:ObjOk X.prog X.w (bm H a ob) h' a ob) :
 Inv X pins σ (bm H a ob) { s with heap:=h',toks:=t' } :=
 I.write (x:=a) (e:=a) mu (.inl rfl) (fun b q hb z=>(hs.2 b hb).trans z) he new
def qg {P:Program}{w:World}{H':Hp}{h':Heap}{kvs:List (Key×V)}{vs:List (Key×Value)}(z:kvs.length<=sizeLine)(hd:(a==sysModules)=false)(rel:KV kvs vs)(dd:h'.DictOf (aW P w) a vs) :
 ObjOk P w H' h' a (.dK kvs):=⟨z,hd,vs,rel,dd⟩
def xS {H':Hp}{Q:Unit->Shared->Prop}(hu:A.units+1<cLine)(I:Inv X pins σ H s)(g:DPut H a y v H')(ry:RelV y u)(rv:RelV v r)(h:∀s',Inv X pins σ H' s'->Q () s') :
 wpAny (model X.prog X.w) A (setItem (.ref a) u r) Q E s:=by
 rcases g with ⟨kvs,k,e,ey,l,eH⟩ | ⟨kvs,k,b,e,ey,eb,l,eH⟩
 ·subst ey eH;obtain⟨z,hd,vs,rel,dd⟩:=wu I.hok e;have hz:vs.length<=sizeLine:=by rw[<-rel.length];exact z
  have hl:(putK kvs k v).length<=sizeLine:=by have:=fm kvs k v;omega
  refine wpAny_setItem_pairs (hsz:=hz) (kC ry) dd fun h' dd' hs=>h _ ?_;have he:∃q,h'.get? a=some q:=let ⟨q,_,_,hq,_⟩:=dd';⟨q,hq⟩
  exact iB I (by rw[e];exact True.intro) hs he (qg hl hd (rel.put k rv) dd')
 ·subst ey eH;cases (show u=Value.ref b from ry);obtain⟨z,hd,xs,rel,dd⟩:=C4 I.hok e;have hz:xs.length<=sizeLine:=by rw[<-Paired.length rel];exact z
  have hl:(putK kvs k v).length<=sizeLine:=by have:=fm kvs k v;omega
  refine wpAny_setItem_heap (hsz:=hz) (tupleKind_room_in1 hu) (key_of I.hok eb) dd fun h' dd' hs=>h _ ?_;obtain⟨q,es,ep,hq,h2,h3,h4,_,h5⟩:=dd';refine iB I (by rw[e];exact True.intro) hs ⟨q,hq⟩ ⟨hl,hd,_,(rel.put k eb rv).keeps fun c ys ec=>?_,q,es,ep,hq,h2,h3,h4,h5⟩;rw[ay (CS ec e (fun z=>nomatch z))];exact ec
end
section
variable {X:Cx}{pins:List (Addr×Obj)}{σ:St}{H:Hp}{s:Shared}{a:Addr}{kvs:List (Key×V)}{k:Key}{u:Value}{A:Around}{E:Value->Shared->Prop}
end
def E8 (i:Expr):Prop:=∀ov iv,subscripted i false ov iv=operate [ov,iv] (getItem ov iv)
def Bp {prog:Program}{w:World}{A:Around}{E:Value->Shared->Prop}{s:Shared}{env:Env}{value slice:Expr}{pos:Pos}{T id:String}{Q:Value->Shared->Prop}
 (hl:typeLookup (.type T) "__getitem__"=pure (some (.builtin id))) (hs:E8 slice)
 (h:wpAny (model prog w) A (eval value env) (fun o s₁=>wpAny (model prog w) A (eval slice env) (fun i s₂=>s₂.TypeIs o T/\wpAny (model prog w) A (getItem o i) Q E s₂) E s₁) E s) :
 wpAny (model prog w) A (eval (.Subscript value slice pos) env) Q E s:=by
 refine Subscript_ (wpAny_mono h (fun o s₁ h₁=>wpAny_mono h₁ (fun i s₂ h₂=>?_) fun _ _ x=>x) fun _ _ x=>x);obtain⟨hT,h₂⟩:=h₂;unfold subscriptTail;refine wpAny_bind ?_;rw[getitemInPython_of_ne hT.not_modules];refine wpAny_bind (wpAny_specialOf hT hl ?_);have fin:wpAny (model prog w) A (subscripted slice false o i) (fun r s₃=>wpAny (model prog w) A (letTemporaryGo value o r >>= fun _=>pure r) Q E s₃) E s₂:=by
  rw[hs o i];exact wpAny_operating (wpAny_mono h₂ (fun r s₃ h₃=>wpAny_bind (wpAny_letTemporaryGo (wpAny_pure h₃))) fun _ _ x=>x)
 first
  | exact wpAny_pure (wpAny_bind fin)
  | exact wpAny_bind (wpAny_pure (wpAny_bind fin))
  | exact wpAny_bind fin
def sO {X:Cx}{pins:List (Addr×Obj)}{σ:St}{H:Hp}{s:Shared}{a:Addr}{y:V}{o:Option V}(I:Inv X pins σ H s)(g:nr H a y o):s.TypeIs (.ref a) "dict":=by
 rcases g with ⟨kvs,k,e,_,_⟩ | ⟨kvs,k,b,e,_,_,_⟩
 ·obtain⟨_,_,vs,_,dd⟩:=jN I.hok e;exact dd.typeIs
 ·obtain⟨_,_,xs,_,dd⟩:=mF I.hok e;exact dd.typeIs
noncomputable def Fs (td ty:TE):TE:=fun σ H Q=>td σ H fun x H1=>ty σ H1 fun y H2=>∃a v,x=.ref a/\nr H2 a y (some v)/\Q v H2
noncomputable def GD (ty td:TE):TE:=fun σ H Q=>ty σ H fun y H1=>td σ H1 fun x H2=>∃a o,x=.ref a/\nr H2 a y o/\Q (.bl o.isSome) H2
noncomputable def Bo (ty td:TE):TE:=fun σ H Q=>ty σ H fun y H1=>td σ H1 fun x H2=>∃a o,x=.ref a/\nr H2 a y o/\Q (.bl (!o.isSome)) H2
noncomputable def Fw (td ty tv:TE):TS:=fun D σ H=>tv σ H fun v H1=>td σ H1 fun x H2=>ty σ H2 fun y H3=>∃a H4,x=.ref a/\DPut H3 a y v H4/\D.nx σ H4
section
variable {X:Cx}{o i e value:Expr}{pos pos' tpos:Pos}{td ty tv:TE}
def BL (hu:X.A.units+1<cLine)(ho:PE X o td)(hi:PE X i ty)(hs:E8 i):PE X (.Subscript o i pos) (Fs td ty):=by
 intro pins s σ H Q I h;refine Bp PySem.F.slot_dict_getitem.lookup hs (bC (ho pins s σ H _ I h) fun u s1 ⟨x,H1,I1,rx,q1⟩=>bC (hi pins s1 σ H1 _ I1 q1) fun iv s2 ⟨y,H2,I2,ry,a,v,ex,g,q2⟩=>?_);subst ex;obtain rfl:u=Value.ref a:=rx;exact⟨sO I2 g,xT hu I2 g ry fun w' s3 I3 rw'=>⟨v,H2,I3,rw',q2⟩⟩
def zA (hu:X.A.units+1<cLine)(hi:PE X i ty)(ho:PE X o td):PC X .In i o (GD ty td):=by
 intro pins s σ H Q I h;refine bC (hi pins s σ H _ I h) fun iv s1 ⟨y,H1,I1,ry,q1⟩=>bC (ho pins s1 σ H1 _ I1 q1) fun u s2 ⟨x,H2,I2,rx,a,ov,ex,g,q2⟩=>?_;subst ex;obtain rfl:u=Value.ref a:=rx;exact GX hu I2 g ry fun s3 I3=>⟨.bl ov.isSome,H2,I3,rfl,q2⟩
def nP (hu:X.A.units+1<cLine)(hi:PE X i ty)(ho:PE X o td):PC X .NotIn i o (Bo ty td):=by
 intro pins s σ H Q I h;refine bC (hi pins s σ H _ I h) fun iv s1 ⟨y,H1,I1,ry,q1⟩=>bC (ho pins s1 σ H1 _ I1 q1) fun u s2 ⟨x,H2,I2,rx,a,ov,ex,g,q2⟩=>?_;subst ex;obtain rfl:u=Value.ref a:=rx;exact Cz hu I2 g ry fun s3 I3=>⟨.bl (!ov.isSome),H2,I3,rfl,q2⟩
def vI (hu:X.A.units+1<cLine)(ho:PE X o td)(hi:PE X i ty)(hv:PE X value tv)(hs:swapsWith value (some (.Subscript o i pos')) pos.line X.env=pure false) :
 PS X (.Assign [.Subscript o i pos'] value pos) (Fw td ty tv):=by
 intro pins s σ H D I h;refine wpAny_Assign_Subscript (bC (hv pins s σ H _ I h) fun r s1 ⟨v,H1,I1,rv,q1⟩=>bC (ho pins s1 σ H1 _ I1 q1) fun u s2 ⟨x,H2,I2,rx,q2⟩=>bC (hi pins s2 σ H2 _ I2 q2) fun iv s3 ⟨y,H3,I3,ry,a,H4,ex,g,q3⟩=>?_) hs;subst ex;obtain rfl:u=Value.ref a:=rx;exact xS hu I3 g ry rv fun s4 I4=>⟨σ,H4,I4,q3⟩
end
def sN {P:Program}{w:World}{H:Hp}(h:Heap)(hb:sysModules<h.objs.size):ObjOk P w H (h.push { cls:=.type "dict",data:=.dict #[] }) h.objs.size (.dK []) :=
 ⟨Nat.zero_le _,beq_eq_false_iff_ne.mpr (Ne.symm (Nat.ne_of_lt hb)),[],.nil,Heap.DictOf.new h⟩
def sM {P:Program}{w:World}{H:Hp}(h:Heap)(hb:sysModules<h.objs.size):ObjOk P w H (h.push { cls:=.type "dict",data:=.dict #[] }) h.objs.size (.dT []) :=
 ⟨Nat.zero_le _,beq_eq_false_iff_ne.mpr (Ne.symm (Nat.ne_of_lt hb)),[],.nil,_,#[],0,Heap.get?_push_size _ rfl,⟨rfl,rfl,rfl⟩,rfl,rfl,List.nodup_nil⟩
def yC:TE:=fun _ H Q=>∀p,H p=none->Q (.ref p) (bm H p (.dK []))
def Dl:TE:=fun _ H Q=>∀p,H p=none->Q (.ref p) (bm H p (.dT []))
section
variable {X:Cx}{pos:Pos}
def zx:PE X (.Dict [] [] pos) yC:=fun pins s σ H Q I h =>
 wpAny_Dict_empty ⟨.ref s.heap.objs.size,_,I.laid (a:=s.heap.objs.size) (o:=.dK []) (t':=s.toks) (fun _ _ q=>Heap.get?_push_of_some _ q) (Nat.le_refl _) (sN s.heap I.big),rfl,h _ (I.hok.fresh (Nat.le_refl _))⟩
def zw:PE X (.Dict [] [] pos) Dl:=fun pins s σ H Q I h =>
 wpAny_Dict_empty ⟨.ref s.heap.objs.size,_,I.laid (a:=s.heap.objs.size) (o:=.dT []) (t':=s.toks) (fun _ _ q=>Heap.get?_push_of_some _ q) (Nat.le_refl _) (sM s.heap I.big),rfl,h _ (I.hok.fresh (Nat.le_refl _))⟩
end
def tQ:List (TE×TE)->St->Hp->(List (V×V)->Hp->Prop)->Prop
 | [],_,H,Q=>Q [] H
 | (tk,tv)::r,σ,H,Q=>tk σ H fun x H1=>tv σ H1 fun y H2=>tQ r σ H2 fun ps H3=>Q ((x,y)::ps) H3
abbrev VV:List (V×V)->List (Value×Value)->Prop:=Paired fun p q=>RelV p.1 q.1/\RelV p.2 q.2
def Gp (X:Cx)(pos:Pos)(keys:List (Option Expr))(values:List Expr)(trs:List (TE×TE)):Prop :=
 ∀(pins:List (Addr×Obj)) (s:Shared) (σ:St) (H:Hp) (Q:List (V×V)->Hp->Prop),Inv X pins σ H s->tQ trs σ H Q ->
  wpAny (model X.prog X.w) X.A (evalPairs (pairTrees keys values X.env pos)) (fun vs s'=>∃ps H',Inv X pins σ H' s'/\VV ps vs/\Q ps H') X.xe s
def BF {X:Cx}{pos:Pos}:Gp X pos [] [] []:=fun pins s σ H Q I h=>pairTrees_nil_walk ⟨[],H,I,.nil,h⟩
def zp {X:Cx}{pos:Pos}{k v:Expr}{ks:List (Option Expr)}{vs:List Expr}{tk tv:TE}{trs:List (TE×TE)}(hk:PE X k tk)(hv:PE X v tv)(hr:Gp X pos ks vs trs) :
 Gp X pos (some k::ks) (v::vs) ((tk,tv)::trs):=fun pins s σ H Q I h =>
 pairTrees_cons_walk (bC (hk pins s σ H _ I h) fun u s1 ⟨x,H1,I1,rx,q1⟩=>bC (hv pins s1 σ H1 _ I1 q1) fun w2 s2 ⟨y,H2,I2,ry,q2⟩ =>
  bC (hr pins s2 σ H2 _ I2 q2) fun ws s3 ⟨ps,H3,I3,rel,q3⟩=>⟨(x,y)::ps,H3,I3,.cons ⟨rx,ry⟩ rel,q3⟩)
def eZ (kvs more:List (Key×V)):List (Key×V):=more.foldl (fun acc kv=>putK acc kv.1 kv.2) kvs
def KV.merge:∀{more:List (Key×V)} {rs:List (Key×Value)} {kvs:List (Key×V)} {vs:List (Key×Value)},KV more rs->KV kvs vs->KV (eZ kvs more) (merged vs rs):=by
 intro more rs kvs vs r;unfold KV at r;induction r generalizing kvs vs with
 | nil=>intro q;exact q
 | @cons p q ps qs h t ih =>
   intro r0;have e:KV (putK kvs p.1 p.2) (stored vs q.1 q.2):=by
    have:=r0.put p.1 h.2;rw[<-h.1];exact this
   exact ih e
def fH:∀(more kvs:List (Key×V)),(eZ kvs more).length<=kvs.length+more.length
 | [],kvs=>by show kvs.length<=kvs.length+0;omega
 | p::r,kvs=>by
   have h1:=fH r (putK kvs p.1 p.2);have h2:=fm kvs p.1 p.2;show (eZ (putK kvs p.1 p.2) r).length<=_;rw[List.length_cons];omega
def mN {P:Program}{w:World}:∀{kvs:List (Key×V)} {ws:List (Value×Value)},VV (kvs.map fun kv=>(kV kv.1,kv.2)) ws->∃rs,Carries (aW P w) ws rs/\KV kvs rs
 | [],_,r=>by rw[List.map_nil] at r;cases r;exact⟨[],True.intro,.nil⟩
 | p::kvs,_,r=>by
   rw[List.map_cons] at r;cases r with
   | @cons a b as bs h t =>
     obtain⟨rs,c,q⟩:=mN (P:=P) (w:=w) t;obtain⟨b1,b2⟩:=b;exact⟨(p.1,b2)::rs,⟨kC h.1,rfl,c⟩,.cons ⟨rfl,h.2⟩ q⟩
def Fp (trs:List (TE×TE)):TE:=fun σ H Q=>∀p,H p=none->tQ trs σ (bm H p (.dK [])) fun ps H2=>H2 p=some (.dK [])/\∃kvs:List (Key×V),ps=kvs.map (fun kv=>(kV kv.1,kv.2))/\kvs.length<=15/\Q (.ref p) (bm H2 p (.dK (eZ [] kvs)))
def BK {X:Cx}{pos:Pos}{keys:List (Option Expr)}{values:List Expr}{trs:List (TE×TE)}(h:Gp X pos keys values trs)(hall:keys.all (·.isSome)=true)(hl:keys.length=values.length)(h0:keys≠[])
 (h15:keys.length<=15):PE X (.Dict keys values pos) (Fp trs):=by
 intro pins s σ H Q I q;have hn:=I.hok.fresh (Nat.le_refl s.heap.objs.size);have I1:=I.laid (a:=s.heap.objs.size) (o:=.dK []) (h':=s.heap.push { cls:=.type "dict",data:=.dict #[] }) (t':=s.toks) (fun _ _ q=>Heap.get?_push_of_some _ q) (Nat.le_refl _) (sN s.heap I.big);refine wpAny_Dict_walk (knd:=aW X.prog X.w) hall hl h0 h15 (bC (h pins _ σ _ _ I1 (q _ hn)) fun ws s2 ⟨ps,H2,I2,rel,e,kvs,ep,lk,q2⟩=>?_);subst ep;obtain⟨rs,c,rk⟩:=mN (P:=X.prog) (w:=X.w) rel;obtain⟨z,hd,vs0,r0,dd⟩:=wu I2.hok e;cases r0;refine⟨rs,c,dd,fun h' dd' hs=>⟨.ref s.heap.objs.size,_,?_,rfl,q2⟩⟩;have hz:(eZ [] kvs).length<=sizeLine:=by
  have h1:=fH kvs [];rw[List.length_nil] at h1;rw[sizeLine_eq];omega
 have he:∃q,h'.get? s.heap.objs.size=some q:=let ⟨q,_,_,hq,_⟩:=dd';⟨q,hq⟩
 exact iB I2 (by rw[e];exact True.intro) hs he (qg hz hd (rk.merge .nil) dd')
structure M1 (X:Cx)(o:Expr)(m:Str)(apos:Pos)(e:Expr)(cpos:Pos):Prop where
 base:attributeBase o m X.env (eval o X.env)=eval o X.env
 few:((backTo cpos (starEach [e] X.env)).all (fun x => !x.1)&&(backToKw cpos (keywordEach [] X.env)).all (fun x=>x.1.isSome)
  && decide (([e]:List Expr).length+([]:List Keyword).length+(if ([]:List Keyword).isEmpty then 0 else 1)<30))=true
 line:(apos.endLine==cpos.line)=true
 trees:backTo cpos (starEach [e] X.env)=[(false,eval e X.env)]
structure M2 (X:Cx)(o:Expr)(m:Str)(apos:Pos)(e f:Expr)(cpos:Pos):Prop where
 base:attributeBase o m X.env (eval o X.env)=eval o X.env
 few:((backTo cpos (starEach [e,f] X.env)).all (fun x => !x.1)&&(backToKw cpos (keywordEach [] X.env)).all (fun x=>x.1.isSome)
  && decide (([e,f]:List Expr).length+([]:List Keyword).length+(if ([]:List Keyword).isEmpty then 0 else 1)<30))=true
 line:(apos.endLine==cpos.line)=true
 trees:backTo cpos (starEach [e,f] X.env)=[(false,eval e X.env),(false,eval f X.env)]
def Gr (H:Hp)(a:Addr):Prop:=(∃kvs,Rd H a (.dK kvs))\/∃kvs,Rd H a (.dT kvs)
def uC {X:Cx}{pins:List (Addr×Obj)}{σ:St}{H:Hp}{s:Shared}{a:Addr}(I:Inv X pins σ H s)(d:Gr H a) :
 s.TypeIs (.ref a) "dict"/\(∀b,Value.ref a=.ref b->∃ob,s.heap.get? b=some ob/\ob.dict=none)/\(a==sysModules)=false:=by
 rcases d with ⟨kvs,e⟩ | ⟨kvs,e⟩
 ·obtain⟨_,hd,vs,_,dd⟩:=jN I.hok e;refine⟨dd.typeIs,fun b q=>?_,hd⟩;cases q;obtain⟨ob,_,_,h1,h2,_⟩:=dd;exact⟨ob,h1,h2.2.1⟩
 ·obtain⟨_,hd,xs,_,dd⟩:=mF I.hok e;refine⟨dd.typeIs,fun b q=>?_,hd⟩;cases q;obtain⟨ob,_,_,h1,h2,_⟩:=dd;exact⟨ob,h1,h2.2.1⟩
section
variable {X:Cx}{pins:List (Addr×Obj)}{σ:St}{H:Hp}{s:Shared}{a:Addr}{y d:V}{u r:Value}{o:Option V}{A:Around}{E:Value->Shared->Prop}
def EM {Q:Value->Shared->Prop}(hu:A.units+1<cLine)(I:Inv X pins σ H s)(g:nr H a y o)(ry:RelV y u)(rd:RelV d r)(h:∀w' s',Inv X pins σ H s'->RelV (o.getD d) w'->Q w' s') :
 wpAny (model X.prog X.w) A (call (.builtin "dict.get") [.ref a,u,r]) Q E s:=by
 rcases g with ⟨kvs,k,e,ey,l⟩ | ⟨kvs,k,b,e,ey,eb,l⟩
 ·subst ey;obtain⟨z,hd,vs,rel,dd⟩:=jN I.hok e;refine call_meetsIn PySem.F.slot_dict_get dd.typeIs PySem.F.entry_dict_get (PySem.F.args_dict_get_3 _ _ _) (meets_dict_get_default (aW X.prog X.w) a (kC ry) hd r) ⟨_,dd.mapOf,h _ _ (I.tok _) ?_⟩;rw[l];exact(rel.val k).getD rd
 ·subst ey;cases (show u=Value.ref b from ry);obtain⟨z,hd,xs,rel,dd⟩:=mF I.hok e;refine call_meetsIn PySem.F.slot_dict_get dd.typeIs PySem.F.entry_dict_get (PySem.F.args_dict_get_3 _ _ _) (meetsH_dict_get_default (tupleKind (aW X.prog X.w)) a b hd r) ⟨tupleKind_room_in1 hu,k,xs,key_of I.hok eb,dd,h _ _ (I.tok _) ?_⟩;rw[l];exact(rel.val k).getD rd
end
noncomputable def Dm (td ty tx:TE):TE:=fun σ H Q=>td σ H fun x H1=>∃a,x=.ref a/\Gr H1 a/\ty σ H1 fun y H2=>tx σ H2 fun z H3=>∃o,nr H3 a y o/\Q (o.getD z) H3
section
variable {X:Cx}{o e f:Expr}{apos cpos:Pos}{td ty tx:TE}
def zz (hu:X.A.units+1<cLine)(ho:PE X o td)(he:PE X e ty)(hf:PE X f tx)(m:M2 X o "get" apos e f cpos):PE X (.Call (.Attribute o "get" apos) [e,f] [] cpos) (Dm td ty tx):=by
 intro pins s σ H Q I h;refine wpAny_Call_method m.base m.few m.line PySem.F.plainAttrs_dict PySem.F.slot_dict_get PySem.F.type_dict_get (bC (ho pins s σ H _ I h) fun u s1 ⟨x,H1,I1,rx,a,ex,d,q1⟩=>?_);subst ex;obtain rfl:u=Value.ref a:=rx;obtain⟨t1,t2,_⟩:=uC I1 d;refine⟨t1,t2,?_⟩;rw[m.trees];refine Calls.callWith_builtin rfl (Calls.evalArgs_plain (Calls.spliced_cons (bC (he pins s1 σ H1 _ I1 q1) fun iv s2 ⟨y,H2,I2,ry,q2⟩ =>
  Calls.spliced_cons (bC (hf pins s2 σ H2 _ I2 q2) fun fv s3 ⟨z,H3,I3,rz,ov,g,q3⟩=>Calls.spliced_nil ?_))))
 exact EM hu I3 g ry rz fun w' s4 I4 rw'=>⟨_,H3,I4,rw',q3⟩
end
section
variable {X:Cx}{pins:List (Addr×Obj)}{σ:St}{H:Hp}{s:Shared}{a:Addr}{kvs:List (Key×V)}{A:Around}{E:Value->Shared->Prop}
end
section
variable {X:Cx}{pins:List (Addr×Obj)}{σ:St}{H:Hp}{s:Shared}{a:Addr}{y:V}{u:Value}{A:Around}{E:Value->Shared->Prop}
end
end L2
namespace DL
open PySem PySem.Spec PyProof.Rows L2
def key_of {d:D}(h:isKey d=true):∃k,d=kD k:=by
 cases d with
 | int i=>exact⟨.inl i,rfl⟩
 | str x=>exact⟨.inr x,rfl⟩
 | _=>cases h
def v9:∀{ds:List D},ds.all isKey=true->∃ks:List Key,ds=ks.map kD
 | [],_=>⟨[],rfl⟩
 | d::ds,h=>by
   rw[List.all_cons,Bool.and_eq_true] at h;obtain⟨k,rfl⟩:=key_of h.1;obtain⟨ks,rfl⟩:=v9 h.2;exact⟨k::ks,rfl⟩
def kW {d:D}(h:fI d=true):∃ks,d=kT ks:=by
 cases d with
 | tup ds=>obtain⟨ks,rfl⟩:=v9 h;exact⟨ks,rfl⟩
 | _=>cases h
def wx {K:PySem.W.Frag}{B:Hp}(k:Key):Den K B (kD k) (kV k):=by
 cases k with
 | inl i=>exact .int i
 | inr x=>exact .str x
def oz {K:PySem.W.Frag}{B:Hp}:∀(ks:List Key),Dens K B (ks.map kD) (ks.map kV)
 | []=>.nil
 | k::ks=>.cons (wx k) (oz ks)
def cR {K:PySem.W.Frag}{B:Hp}:∀{ks:List Key} {xs:List V},Dens K B (ks.map kD) xs->xs=ks.map kV
 | [],_,h=>h.unnil
 | k::ks,_,h=>by
   obtain⟨x,r,rfl,h1,h2⟩:=h.uncons;rw[cR h2];cases k with
   | inl i=>rw[Den.int_inv h1];rfl
   | inr z=>rw[Den.str_inv h1];rfl
section
variable {X:Cx}{pins:List (Addr×Obj)}{σ:L2.St}{H:Hp}{s:Shared}
def Inv.still {a:Addr}{u:HO}(I:L2.Inv X pins σ H s)(hu:(∃kvs,u=.dK kvs)\/∃kvs,u=.dT kvs)(e:H a=some u):∃o,L2.Inv X pins σ (bm H a (.frz o u)) s:=by
 obtain⟨o,ho⟩:∃o,s.heap.get? a=some o:=by
  have:=(I.hok a u e);rcases hu with ⟨kvs,rfl⟩ | ⟨kvs,rfl⟩
  ·obtain⟨_,_,_,_,o,_,_,q,_⟩:=this;exact⟨o,q⟩
  ·obtain⟨_,_,_,_,o,_,_,q,_⟩:=this;exact⟨o,q⟩
 have mu:Fc (H a):=by rw[e];rcases hu with ⟨kvs,rfl⟩ | ⟨kvs,rfl⟩ <;> exact True.intro
 have ne:∀{b:Addr} {v:HO},H b=some v->(∀z,v≠.dK z)->(∀z,v≠.dT z)->b≠a:=fun {b v} q n1 n2 z=>by
  subst z;rw[e] at q;cases q;rcases hu with ⟨kvs,rfl⟩ | ⟨kvs,rfl⟩
  ·exact n1 _ rfl
  ·exact n2 _ rfl
 have st:ObjOk X.prog X.w (bm H a (.frz o u)) s.heap a u:=(I.hok a u e).stay (fun _ _ _ q=>q) (fun b q=>by rw[ay (ne q (fun _ z=>nomatch z) (fun _ z=>nomatch z))];exact q) fun b xs q=>by rw[ay (ne q (fun _ z=>nomatch z) (fun _ z=>nomatch z))];exact q
 have:=I.write (o:=.frz o u) (t':=s.toks) (h':=s.heap) mu (.inl rfl) (fun _ _ _ q=>q) ⟨o,ho⟩ ⟨ho,st⟩;exact⟨o,this⟩
end
section
variable {X:Cx}{e k a b o:Expr}{me mk ma mb mo:ME}{m:MS}{PX:Prop}{pos p2 p3 pos':Pos}{elts:List Expr}{kt:Nat}
def AA:DF X (.Dict [] [] pos) (eC (.dic true [] [])):=by
 refine⟨_,zw,fun os σ H δ d Q s m k p hp=>?_⟩;cases m;exact k p _ (aF hp _) hp ⟨[],.inr ⟨rfl,[],aA,rfl,rfl⟩,.nil⟩
def jJ {n i:Nat}{sts:List Stmt}(hn:X.N.length=n)(hi:i<n)(hfn:X.fn ""=true)(h:tz X PX sts m):tz X PX sts (nH n i m):=by
 obtain⟨t,p,q⟩:=h;refine⟨fun D σ H=>∃a u,((∃kvs,u=.dK kvs)\/∃kvs,u=.dT kvs)/\H a=some u/\∀o,t D σ (bm H a (.frz o u)),fun pins s σ H D I hh=>?_,fun os σ H δ r D s me k=>?_⟩
 ·obtain⟨a,u,hu,e,hh⟩:=hh;obtain⟨o,I'⟩:=Inv.still I hu e;exact p pins s σ _ D I' (hh o)
 ·unfold nH at me;split at me
  ·rename_i tt ks vs ho;obtain⟨h1,h2,a,e1,e2,e3,xs,hd,hv⟩:=s.own_at hn hi ho;obtain⟨u,hu,ea,hF⟩:∃u,((∃kvs,u=HO.dK kvs)\/∃kvs,u=HO.dT kvs)/\H a=some u/\∀(o:Obj) (B:Hp),B a=some (.frz o u)->DcF B a tt ks xs:=by
    rcases hd with ⟨rfl,kvs,z,r⟩ | ⟨rfl,kvs,z,r⟩
    ·exact⟨_,.inl ⟨kvs,rfl⟩,z,fun o B hB=>.inl ⟨rfl,o,kvs,hB,r⟩⟩
    ·exact⟨_,.inr ⟨kvs,rfl⟩,z,fun o B hB=>.inr ⟨rfl,o,kvs,hB,r⟩⟩
   refine⟨a,u,hu,ea,fun o=>?_⟩;subst hn;generalize hH:bm H a (.frz o u)=H1;have H1a:H1 a=some (.frz o u):=by rw[<-hH];exact aA
   have H1n:∀{b:Addr},b≠a->H1 b=H b:=fun {b} z=>by rw[<-hH];exact ay z
   have mem:∀b,b∈os.filter (fun c=>decide (c≠a))↔b∈os/\b≠a:=fun b=>by simp
   have na:a∉os.filter (fun c=>decide (c≠a)):=fun z=>((mem a).mp z).2 rfl;have big:Same (hide os H) (hide (os.filter (fun c=>decide (c≠a))) H1):=fun b v z=>by
    have hb:b∉os:=fun y=>by rw[aX y] at z;cases z
    rw[ao hb] at z;rw[ao (fun y=>hb ((mem b).mp y).1),H1n (fun y=>hb (by rw[y];exact e2))];exact z
   have hid:i<δ.length:=Nat.lt_of_lt_of_le hi s.len;have hid2:X.N.length+i<δ.length:=(List.getElem?_eq_some_iff.mp h2).1;have off:∀{j:Nat},j≠i->j≠X.N.length+i->((δ.set i (some (.dic tt ks vs))).set (X.N.length+i) none)[j]? = δ[j]?:=fun {j} q1 q2=>by
    rw[List.getElem?_set_ne (Ne.symm q2),List.getElem?_set_ne (Ne.symm q1)]
   have ie:((δ.set i (some (DL.D.dic tt ks vs))).set (X.N.length+i) none)[i]? = some (some (.dic tt ks vs)):=by
    rw[List.getElem?_set_ne (by omega),List.getElem?_set_self hid]
   have sl:Sl X (os.filter (fun c=>decide (c≠a))) H1 ((δ.set i (some (.dic tt ks vs))).set (X.N.length+i) none) σ:=by
    refine⟨s.n,by simpa using s.len,fun j d hj q=>?_,fun j d hj q1 q2=>?_,fun j l d f b hj hl q1 q2 q3 q4 q5 q6=>?_,fun b hb=>?_,fun b v z=>?_⟩
    ·by_cases hji:j=i
     ·subst hji;rw[ie] at q;cases q;exact⟨_,e1,.dic (hF o _ ((ao na).trans H1a)) (hv.mono big _ _)⟩
     ·rw[off hji (by omega)] at q;obtain⟨v,r1,r2⟩:=s.pl j d hj q;exact⟨v,r1,r2.mono big _ _⟩
    ·by_cases hji:j=i
     ·subst hji;rw[ie] at q1;cases q1
     ·rw[off hji (by omega)] at q1;rw[off (by omega) (by omega)] at q2;obtain⟨b,r1,r2,r3,r4⟩:=s.ow j d hj q1 q2;have hba:b≠a:=fun z=>by
       subst z;exact hji (s.inj j i d _ b hj hi q1 h1 q2 h2 r1 e1)
      refine⟨b,r1,(mem b).mpr ⟨r2,hba⟩,r3,?_⟩;cases d with
      | lst ds=>obtain⟨xs,w1,w2⟩:=r4;exact⟨xs,(H1n hba).trans w1,w2.mono big _ _⟩
      | dic t' ks vs =>
        obtain⟨xs,w1,w2⟩:=r4;refine⟨xs,?_,w2.mono big _ _⟩;rcases w1 with ⟨z,kvs,w1,r⟩ | ⟨z,kvs,w1,r⟩
        ·exact .inl ⟨z,kvs,(H1n hba).trans w1,r⟩
        ·exact .inr ⟨z,kvs,(H1n hba).trans w1,r⟩
      | _=>exact r4
    ·by_cases hji:j=i
     ·subst hji;rw[ie] at q1;cases q1
     ·by_cases hki:l=i
      ·subst hki;rw[ie] at q2;cases q2
      ·rw[off hji (by omega)] at q1;rw[off hki (by omega)] at q2;rw[off (by omega) (by omega)] at q3 q4;exact s.inj j l d f b hj hl q1 q2 q3 q4 q5 q6
    ·obtain⟨y1,y2⟩:=(mem b).mp hb;obtain⟨v,z1,z2⟩:=s.live b y1;exact⟨v,(H1n y2).trans z1,z2⟩
    ·have hb:b≠a:=fun y=>by
      have:=e3 hfn;rw[y,this] at z;cases z
     exact(H1n hb).trans (s.keep b v z)
   refine q _ σ H1 _ r D sl me (k.mono ⟨big,fun b hb hn=>?_⟩);refine(mem b).mpr ⟨hb,fun y=>hn (by rw[y];exact e3 hfn)⟩
  ·cases me
def tJ {kvs:List (List Key×V)}{kk:List Key}(h:((kvs.map fun p=>kT p.1).all fun q => !bP q (kT kk))=true):cB kvs kk=none:=by
 cases hv:cB kvs kk with
 | none=>rfl
 | some v =>
   exfalso;unfold cB at hv;obtain⟨p,hp,_⟩:=Option.map_eq_some_iff.mp hv;have hm:=List.mem_of_find?_eq_some hp;have hk:=List.find?_some hp;simp only[decide_eq_true_eq] at hk;have:=List.all_eq_true.mp h (kT p.1) (List.mem_map.mpr ⟨p,hm,rfl⟩);rw[hk,ia] at this;cases this
def wt {n i:Nat}(hu:X.A.units+1<cLine)(hn:X.N.length=n)(hi:i<n)(hfn:X.fn ""=true)(hv:PE X o (cn i))(hk:DE X k mk)(he:DE X e me)
 (hs:swapsWith e (some (.Subscript o k pos')) pos.line X.env=pure false:=by rfl):DS X PX (.Assign [.Subscript o k pos'] e pos) (rp n i mk me):=by
 obtain⟨te,pe,qe⟩:=he;obtain⟨tk,pk,qk⟩:=hk;refine⟨_,vI hu hv pk pe hs,fun os σ H δ r D s m kq=>?_⟩;obtain⟨y,e1,m⟩:=af m;obtain⟨z,e2,m⟩:=af m;split at m
 ·rename_i ks vs ho;split at m
  ·rename_i hc;cases m;obtain⟨kk,rfl⟩:=kW hc.1;refine qe os σ H δ y _ s e1 fun v H1 g1 r1=>?_;obtain⟨w1,w2,a,w3,w4,w5,xs,w6,w7⟩:=s.own_at hn hi ho;refine⟨_,w3,qk os σ H1 δ _ _ (s.mono g1) e2 fun u H2 g2 r2=>?_⟩;have g12:=g1.trans g2;rcases w6 with ⟨z,_⟩ | ⟨_,kvs,w6,rfl,rfl⟩
   ·cases z
   obtain⟨b,bs,rfl,hb,hbs⟩:=r2.tup_inv;have:=cR hbs;subst this;have hlen:kvs.length<sizeLine:=by rw[bH];have:=hc.2.2;simpa using this
   have hnew:=tJ hc.2.1;refine⟨a,_,rfl,DPut.t (k:=kk) (g12 _ _ w6) (hide_le _ _ hb) hlen,?_⟩;rw[jt v hnew];obtain⟨s2,f2⟩:=(s.mono g12).chg (d':=.dic true (kvs.map (fun p=>kT p.1)++[kT kk]) (vs++[y])) (o:=.dT (kvs++[(kk,v)])) hn hi hfn ho w3
    ⟨_,.inr ⟨rfl,_,aA,by simp,rfl⟩,by rw[List.map_append];exact(w7.mono g12.hd _ _).append (.cons (r1.mono g2.hd _ _) .nil)⟩
   exact kq σ _ os ((Fr.of g12).trans f2) s2
  ·cases m
 ·cases m
def nR {α β:Type}{F:α->β->Prop}:∀{l:List α} {r:List β} {i:Nat} {x:α},Paired F l r->l[i]? = some x->∃y,r[i]? = some y/\F x y
 | _,_,_,_,.nil,e=>by simp at e
 | _,_,0,_,.cons r _,e=>by simp at e;subst e;exact⟨_,rfl,r⟩
 | _,_,i+1,x,.cons _ t,e=>by
   obtain⟨y,h1,h2⟩:=nR (i:=i) (x:=x) t (by simpa using e);exact⟨y,by simpa using h1,h2⟩
def Ex {P:Program}{w:World}{H:Hp}{h:Heap}{a:Addr}{o:Obj}{kvs:List (List Key×V)}(x:ObjOk P w H h a (.frz o (.dT kvs))) :
 (a==sysModules)=false/\∃es ep,DRaw h a es ep/\o.data=.dict es ep/\es.size=kvs.length/\∀(i:Nat) (p:List Key×V),kvs[i]? = some p->∃b u e,es[i]? = some e/\e.key=.ref b/\e.val=u/\H b=some (.tup (p.1.map kV))/\RelV p.2 u:=by
 obtain⟨g,hz,hd,xs,rel,o',es,ep,h1,h2,h3,h4,h5⟩:=x;rw[g] at h1;cases h1;refine⟨hd,es,ep,⟨o,g,h2,h3⟩,h3,?_,fun i p hp=>?_⟩
 ·rw[<-Array.length_toList,h4,List.length_map];exact(Paired.length rel).symm
 ·obtain⟨q,e1,e2,e3,e4⟩:=nR rel hp;refine⟨q.2.1,q.2.2,entryOfKey (tupleKind (aW P w)) q,?_,rfl,rfl,e3,e4⟩;rw[<-Array.getElem?_toList,h4,List.getElem?_map,e1];rfl
def lU {K:PySem.W.Frag}{B:Hp}(i:Int):∀{kvs:List (Key×V)} {vs:List D},Dens K B vs (kvs.map (·.2))->(hU (kvs.map fun p=>kD p.1) vs i=none/\cB kvs (.inl i)=none)\/∃d v,hU (kvs.map fun p=>kD p.1) vs i=some d/\cB kvs (.inl i)=some v/\Den K B d v
 | [],vs,h=>by
   rw[List.map_nil];exact .inl ⟨by cases vs <;> rfl,rfl⟩
 | p::kvs,[],h=>by
   have:=h.length;simp at this
 | (k,x)::kvs,d::vs,h=>by
   obtain⟨y,r,e,h1,h2⟩:=h.uncons;rw[List.map_cons] at e;cases e;rw[List.map_cons];cases k with
   | inl j =>
     show ((if j=i then some d else hU (kvs.map fun p=>kD p.1) vs i)=none/\_)\/∃d' v,(if j=i then some d else hU (kvs.map fun p=>kD p.1) vs i)=some d'/\_;by_cases hj:j=i
     ·subst hj;rw[if_pos rfl,eX rfl];exact .inr ⟨d,x,rfl,rfl,h1⟩
     ·rw[if_neg hj,dW (by simpa using hj)];exact lU i h2
   | inr z =>
     show (hU (kvs.map fun p=>kD p.1) vs i=none/\_)\/∃d' v,hU (kvs.map fun p=>kD p.1) vs i=some d'/\_;rw[dW (by simp)];exact lU i h2
def Cu {apos:Pos}(hu:X.A.units+1<cLine)(ho:DE X o mo)(hk:DE X k mk)(he:DE X e me)(h1:attributeBase o "get" X.env (eval o X.env)=eval o X.env:=by rfl)
 (h2:((backTo pos (starEach [k,e] X.env)).all (fun x => !x.1)&&(backToKw pos (keywordEach [] X.env)).all (fun x=>x.1.isSome)&&decide (([k,e]:List Expr).length+([]:List Keyword).length+(if ([]:List Keyword).isEmpty then 0 else 1)<30))=true:=by rfl)
 (h3:(apos.endLine==pos.line)=true:=by rfl) (h4:backTo pos (starEach [k,e] X.env)=[(false,eval k X.env),(false,eval e X.env)]:=by rfl) :
 DE X (.Call (.Attribute o "get" apos) [k,e] [] pos) (wq mo mk me):=by
 obtain⟨to,po,qo⟩:=ho;obtain⟨tk,pk,qk⟩:=hk;obtain⟨te,pe,qe⟩:=he;refine⟨_,zz hu po pk pe ⟨h1,h2,h3,h4⟩,fun os σ H δ d Q s m kq=>?_⟩;obtain⟨dd,e1,m⟩:=af m;obtain⟨z,e2,m⟩:=af m;obtain⟨y,e3,m⟩:=af m
 match dd,z,e1,e2,m with
 | .dic false ks vs,.int i,e1,e2,m =>
   cases m;refine qo os σ H δ _ _ s e1 fun v H1 g1 r1=>?_;obtain⟨a,ys,rfl,hF,hv⟩:=r1.dic_inv;rcases hF with ⟨_,ob,kvs,f1,rfl,rfl⟩ | ⟨z,_⟩
   ·refine⟨a,rfl,.inl ⟨kvs,.inr ⟨ob,hide_le _ _ f1⟩⟩,?_⟩;refine qk os σ H1 δ _ _ (s.mono g1) e2 fun u H2 g2 r2=>?_;refine qe os σ H2 δ _ _ ((s.mono g1).mono g2) e3 fun w H3 g3 r3=>?_;have g23:=g2.trans g3;rw[r2.int_inv];refine⟨cB kvs (.inl i),.inl ⟨kvs,.inl i,.inr ⟨ob,g23 _ _ (hide_le _ _ f1)⟩,rfl,rfl⟩,?_⟩;have gt:=g1.trans g23;rcases lU i hv with ⟨c1,c2⟩ | ⟨d,v,c1,c2,c3⟩
    ·rw[c1] at kq;rw[c2];exact kq _ H3 gt r3
    ·rw[c1] at kq;rw[c2];exact kq _ H3 gt (c3.mono g23.hd _ _)
   ·cases z
end
end DL
namespace DL
open PySem
abbrev Tab:=List (Int×List Int)
noncomputable def bi (r:List Int)(ts:List Int)(b:Int):List Int:=ts.foldl (fun r t=>r.set t.toNat (r.getD t.toNat 0+b)) r
def d3:Tab->Int->List Int->Int->Tab
 | [],far,ts,b=>[(far,bi (List.replicate 24 0) ts b)]
 | (k,r)::T,far,ts,b=>if k=far then (k,bi r ts b)::T else (k,r)::d3 T far ts b
def oU:D->Option (List Int)
 | .lst ds=>(intsOf ds).bind fun is=>if (is.all fun t=>decide (0<=t)&&decide (t<24))=true then some is else none
 | _=>none
noncomputable def vo:D->Option (Int×Int)
 | .tup [.int a,.int b]=>some (a,b)
 | _=>none
def qu (sp tu:MF):List D->Tab->Option Tab
 | [],T=>some T
 | p::ps,T=>(sp [p]).bind fun s=>(vo s).bind fun q=>(tu [p]).bind fun t=>(oU t).bind fun ts =>
   if T.length+2<=1000000 then qu sp tu ps (d3 (d3 T q.1 ts 1) q.2 ts (-1)) else none
noncomputable def gG (T:Tab):D:=.dic false (T.map fun p=>.int p.1) (T.map fun p=>.lst (p.2.map D.int))
def fT (sp tu:MF):MF:=fun ds=>match ds with
 | [.tup ps]=>(qu sp tu ps []).bind fun T=>some (gG T)
 | _=>none
def b8 (b:Int):∀(ts r:List Int),(bi r ts b).length=r.length
 | [],_=>rfl
 | t::ts,r=>by
   show (bi (r.set t.toNat _) ts b).length=_;rw[b8 b ts];simp
def jS:∀(T:Tab) (far:Int) (ts:List Int) (b:Int),(d3 T far ts b).length<=T.length+1
 | [],_,_,_=>by simp[d3]
 | (k,r)::T,far,ts,b=>by
   unfold d3;split
   ·simp
   ·have:=jS T far ts b;simp only[List.length_cons];omega
end DL
namespace DL
open PySem PySem.Spec PyProof.Rows L2
section
variable {X:Cx}{pins:List (Addr×Obj)}{σ:L2.St}{H:Hp}{s:Shared}{A:Around}{E:Value->Shared->Prop}{a:Addr}{kvs:List (Key×V)}{k:Key}{z:V}{u r:Value}
def EL {Q:Value->Shared->Prop}(I:L2.Inv X pins σ H s)(e:H a=some (.dK kvs))(hl:kvs.length<sizeLine)(ry:RelV (kV k) u)(rz:RelV z r)
 (h1:∀v w s',cB kvs k=some v->L2.Inv X pins σ H s'->RelV v w->Q w s') (h2:∀s',cB kvs k=none->L2.Inv X pins σ (bm H a (.dK (kvs++[(k,z)]))) s'->Q r s') :
 wpAny (model X.prog X.w) A (call (.builtin "dict.setdefault") [.ref a,u,r]) Q E s:=by
 obtain⟨hz,hd,vs,rel,dd⟩:=wu I.hok e;have hz':vs.length<=sizeLine:=by rw[<-rel.length];exact hz
 refine call_meetsIn PySem.F.slot_dict_setdefault dd.typeIs PySem.F.entry_dict_setdefault (PySem.F.args_dict_setdefault_3 _ _ _) (kt_meets_setdefault (aW X.prog X.w) a (kC ry) hd r) ⟨vs,dd,hz',fun v hv=>?_,fun hn h' dd' hs=>?_⟩
 ·have rv:=rel.val k;rw[hv] at rv;cases hk:cB kvs k with
  | none=>rw[hk] at rv;exact rv.elim
  | some y=>rw[hk] at rv;exact h1 y v _ hk (I.tok _) rv
 ·have rv:=rel.val k;rw[hn] at rv;have hk:cB kvs k=none:=by
   cases hk:cB kvs k with
   | none=>rfl
   | some y=>rw[hk] at rv;exact rv.elim
  refine h2 _ hk ?_;rw[<-jt z hk];have he:∃q,h'.get? a=some q:=let ⟨q,_,_,hq,_⟩:=dd';⟨q,hq⟩
  have hl':(putK kvs k z).length<=sizeLine:=by have:=fm kvs k z;omega
  exact iB I (by rw[e];exact True.intro) hs he (qg hl' hd (rel.put k rz) dd')
end
def CJ (td ty tx:TE):TE:=fun σ H Q=>td σ H fun x H1=>∃a,x=.ref a/\Gr H1 a/\ty σ H1 fun y H2=>tx σ H2 fun z H3=>∃kvs k,H3 a=some (.dK kvs)/\kvs.length<sizeLine/\y=kV k /\
 (∀v,cB kvs k=some v->Q v H3)/\(cB kvs k=none->Q z (bm H3 a (.dK (kvs++[(k,z)]))))
def BI {X:Cx}{o e f:Expr}{td ty tx:TE}{apos cpos:Pos}(ho:PE X o td)(he:PE X e ty)(hf:PE X f tx)(h1:attributeBase o "setdefault" X.env (eval o X.env)=eval o X.env:=by rfl)
 (h2:((backTo cpos (starEach [e,f] X.env)).all (fun x => !x.1)&&(backToKw cpos (keywordEach [] X.env)).all (fun x=>x.1.isSome)&&decide (([e,f]:List Expr).length+([]:List Keyword).length+(if ([]:List Keyword).isEmpty then 0 else 1)<30))=true:=by rfl)
 (h3:(apos.endLine==cpos.line)=true:=by rfl) (h4:backTo cpos (starEach [e,f] X.env)=[(false,eval e X.env),(false,eval f X.env)]:=by rfl) :
 PE X (.Call (.Attribute o "setdefault" apos) [e,f] [] cpos) (CJ td ty tx):=by
 intro pins s σ H Q I h;refine wpAny_Call_method h1 h2 h3 PySem.F.plainAttrs_dict PySem.F.slot_dict_setdefault PySem.F.type_dict_setdefault (bC (ho pins s σ H _ I h) fun u s1 ⟨x,H1,I1,rx,a,ex,d,q1⟩=>?_);subst ex;obtain rfl:u=Value.ref a:=rx;obtain⟨t1,t2,_⟩:=uC I1 d;refine⟨t1,t2,?_⟩;rw[h4];refine Calls.callWith_builtin rfl (Calls.evalArgs_plain (Calls.spliced_cons (bC (he pins s1 σ H1 _ I1 q1) fun iv s2 ⟨y,H2,I2,ry,q2⟩ =>
  Calls.spliced_cons (bC (hf pins s2 σ H2 _ I2 q2) fun fv s3 ⟨z,H3,I3,rz,kvs,k,e,hl,ey,qa,qb⟩=>Calls.spliced_nil ?_))))
 subst ey;exact EL I3 e hl ry rz (fun v w s' hv I' rv=>⟨v,H3,I',rv,qa v hv⟩) fun s' hn I'=>⟨z,_,I',rz,qb hn⟩
noncomputable def Rows (H:Hp):List Addr->Tab->Prop
 | [],[]=>True
 | l::ls,(_,r)::T=>H l=some (.lst (r.map V.int))/\r.length=24/\Rows H ls T
 | _,_=>False
noncomputable def kvsOf:List Addr->Tab->List (Key×V)
 | l::ls,(k,_)::T=>(.inl k,.ref l)::kvsOf ls T
 | _,_=>[]
structure ChAt (H:Hp)(a:Addr)(ls:List Addr)(T:Tab):Prop where
 d:H a=some (.dK (kvsOf ls T))
 r:Rows H ls T
 n:ls.Nodup
def Rows.len {H:Hp}:∀{ls:List Addr} {T:Tab},Rows H ls T->ls.length=T.length
 | [],[],_=>rfl
 | _::ls,(_,_)::T,h=>by simp[Rows.len h.2.2]
def og:∀{ls:List Addr} {T:Tab},ls.length=T.length->(kvsOf ls T).length=T.length
 | [],[],_=>rfl
 | _::ls,(_,_)::T,h=>by simp[kvsOf,og (ls:=ls) (T:=T) (by simpa using h)]
def Rows.mem {H:Hp}:∀{ls:List Addr} {T:Tab} {l:Addr},Rows H ls T->l∈ls->∃xs,H l=some (.lst xs)
 | [],_,_,_,h=>by cases h
 | m::ls,(_,r)::T,l,h,q=>by
   rcases List.mem_cons.mp q with rfl | q
   ·exact⟨_,h.1⟩
   ·exact Rows.mem h.2.2 q
def Rows.keep {H H':Hp}:∀{ls:List Addr} {T:Tab},Rows H ls T->(∀l∈ls,H' l=H l)->Rows H' ls T
 | [],[],_,_=>True.intro
 | l::ls,(_,r)::T,h,k=>⟨(k l List.mem_cons_self).trans h.1,h.2.1,Rows.keep h.2.2 fun m q=>k m (List.mem_cons_of_mem _ q)⟩
def yT {H:Hp}(far:Int):∀{ls:List Addr} {T:Tab} {v:V},Rows H ls T->ls.Nodup->cB (kvsOf ls T) (.inl far)=some v ->
 ∃l r,v=.ref l/\l∈ls/\H l=some (.lst (r.map V.int))/\r.length=24/\∀ts b,kvsOf ls (d3 T far ts b)=kvsOf ls T/\∀H':Hp,H' l=some (.lst ((bi r ts b).map V.int))->(∀m∈ls,m≠l->H' m=H m)->Rows H' ls (d3 T far ts b)
 | [],[],v,_,_,h=>by cases h
 | l::ls,(k,r)::T,v,h,n,e=>by
   rw[kvsOf] at e;by_cases hk:k=far
   ·rw[eX (by rw[hk])] at e;cases e;refine⟨l,r,rfl,List.mem_cons_self,h.1,h.2.1,fun ts b=>?_⟩;rw[d3,if_pos hk];refine⟨rfl,fun H' h1 h2=>⟨h1,by rw[b8];exact h.2.1,h.2.2.keep fun m q=>h2 m (List.mem_cons_of_mem _ q) fun z=>?_⟩⟩;rw[List.nodup_cons] at n;exact n.1 (z ▸ q)
   ·rw[dW (by simpa using hk)] at e;rw[List.nodup_cons] at n;obtain⟨l',r',e1,e2,e3,e4,e5⟩:=yT far h.2.2 n.2 e;refine⟨l',r',e1,List.mem_cons_of_mem _ e2,e3,e4,fun ts b=>?_⟩;rw[d3,if_neg hk];obtain⟨f1,f2⟩:=e5 ts b;refine⟨by rw[kvsOf,kvsOf,f1],fun H' h1 h2=>⟨(h2 l List.mem_cons_self fun z=>n.1 (z ▸ e2)).trans h.1,h.2.1,f2 H' h1 fun m q z=>h2 m (List.mem_cons_of_mem _ q) z⟩⟩
def vw {H:Hp}(far:Int):∀{ls:List Addr} {T:Tab},Rows H ls T->cB (kvsOf ls T) (.inl far)=none ->
 ∀ts b l,kvsOf (ls++[l]) (d3 T far ts b)=kvsOf ls T++[(.inl far,.ref l)]/\∀H':Hp,H' l=some (.lst ((bi (List.replicate 24 0) ts b).map V.int))->(∀m∈ls,H' m=H m)->Rows H' (ls++[l]) (d3 T far ts b)
 | [],[],_,_,ts,b,l=>⟨rfl,fun H' h1 _=>⟨h1,by rw[b8];rfl,True.intro⟩⟩
 | m::ls,(k,r)::T,h,e,ts,b,l=>by
   rw[kvsOf] at e;have hk:k≠far:=fun z=>by rw[eX (by rw[z])] at e;cases e
   rw[dW (by simpa using hk)] at e;obtain⟨f1,f2⟩:=vw far h.2.2 e ts b l;rw[d3,if_neg hk];refine⟨?_,fun H' h1 h2=>⟨(h2 m List.mem_cons_self).trans h.1,h.2.1,f2 H' h1 fun c q=>h2 c (List.mem_cons_of_mem _ q)⟩⟩;show (Sum.inl k,V.ref m)::kvsOf (ls++[l]) (d3 T far ts b)=_;rw[f1];rfl
def ChAt.live {H:Hp}{a:Addr}{ls:List Addr}{T:Tab}(c:ChAt H a ls T):Live (a::ls) H:=fun b hb=>by
 rcases List.mem_cons.mp hb with rfl | hb
 ·exact⟨_,c.d,True.intro⟩
 ·obtain⟨xs,e⟩:=c.r.mem hb;exact⟨_,e,True.intro⟩
def ChAt.na {H:Hp}{a:Addr}{ls:List Addr}{T:Tab}(c:ChAt H a ls T):a∉ls:=fun z=>by
 obtain⟨xs,e⟩:=c.r.mem z;rw[c.d] at e;cases e
def ChAt.mono {H H':Hp}{a:Addr}{ls:List Addr}{T:Tab}(c:ChAt H a ls T)(g:Same H H'):ChAt H' a ls T :=
 ⟨g _ _ c.d,c.r.keep fun l hl=>by obtain⟨xs,e⟩:=c.r.mem hl;rw[e];exact g _ _ e,c.n⟩
def vp (K:PySem.W.Frag)(fnT:MF):Sp:=fun vs H Q _=>∃a far pd pv b ls T ts,vs=[.ref a,.int far,pv,.int b]/\ChAt H a ls T/\Den K (hide (a::ls) H) pd pv/\(∃d,fnT [pd]=some d/\oU d=some ts)/\T.length+1<=1000000 /\
 ∀H' ls',ChAt H' a ls' (d3 T far ts b)->Same (hide (a::ls) H) (hide (a::ls') H')->(∀m∈ls',m∈ls\/H m=none)->Q .non H'
def tK {d:D}{ts:List Int}(h:oU d=some ts):∃ds,d=.lst ds/\intsOf ds=some ts/\∀t∈ts,0<=t/\t<24:=by
 cases d with
 | lst ds =>
   obtain⟨is,e1,e2⟩:=Option.bind_eq_some_iff.mp h;split at e2
   ·rename_i hc;cases e2;refine⟨ds,rfl,e1,fun t ht=>?_⟩;have:=List.all_eq_true.mp hc t ht;simpa using this
   ·cases e2
 | _=>cases h
def yz:TE:=Bm FB (Fn (fO (tC (.int 0)) tS)) (tC (.int 24))
def GF (K:PySem.W.Frag)(fnT:MF)(E:XK):TS:=wW (yE (CJ (cn 0) (cn 1) yz) (dj 4))
 (wX (C2 K (rh (tD K fnT) [] E (fO (cn 2) tS))) (dj 5) (yD (cn 4) (cn 5) (cn 3) (zb K) (GR fun i j=>i+j) za))
def tF {σ:L2.St}{H:Hp}{Q:VK}(h:∀p H',Same H H'->H p=none->H' p=some (.lst ((List.replicate 24 (0:Int)).map V.int))->Q (.ref p) H'):yz σ H Q:=by
 refine⟨by show 1<=sizeLine;rw[bH];decide,fun p hp=>⟨p,24,[.int 0],rfl,rfl,aA,by decide,by decide,by show 1*24<=sizeLine;rw[bH];decide,fun q hq=>?_⟩⟩;have g1:=aF (H:=H) hp (HO.lst [V.int 0]);have hq':H q=none:=g1.free hq;exact h q _ (g1.trans (aF hq _)) hq' aA
def tm (r:List Int)(ts:List Int)(t b:Int):bi r (ts++[t]) b=(bi r ts b).set t.toNat ((bi r ts b).getD t.toNat 0+b):=by
 unfold bi;rw[List.foldl_append];rfl
def tj {K:PySem.W.Frag}{H:Hp}{σ:L2.St}{m l:Addr}{r ts:List Int}{b:Int}{D:Ends}(hm:SqL K H m (ts.map V.int))(hml:∀xs,SqL K (bm H l (.lst xs)) m (ts.map V.int))(hl:H l=some (.lst (r.map V.int)))(hr:r.length=24)(ht:∀t∈ts,0<=t/\t<24)
 (h6:σ.length=6) (s3:σ[3]? = some (some (.int b))) (s4:σ[4]? = some (some (.ref l))) (k:∀σ',D.nx σ' (bm H l (.lst ((bi r ts b).map V.int)))) :
 ∃W:Nat->Nat->L2.St->Hp->Prop,(∃m,W 0 m σ H)/\∀i n σ H,W i n σ H->((Be K m).stop i H/\D.nx σ H)\/((Be K m).go i H/\∃N:L2.St->Hp->Prop,(∀σ' H',N σ' H'->∃m',m'<n/\W (i+1) m' σ' H')/\∀x H',(Be K m).yld i H x H'->dj 5 x σ H' fun σ2 H2=>yD (cn 4) (cn 5) (cn 3) (zb K) (GR fun i j=>i+j) za { D with nx:=N,ct:=N,bk:=D.nx } σ2 H2):=by
 have e0:bm H l (.lst ((bi r (ts.take 0) b).map V.int))=H:=by
  funext c
  by_cases hc:c=l
  ·subst hc;rw[aA,hl];rfl
  ·rw[ay hc]
 refine Am (xs:=ts.map V.int) (fun i σ' H'=>σ'.length=6/\σ'[3]? = some (some (.int b))/\σ'[4]? = some (some (.ref l))/\H'=bm H l (.lst ((bi r (ts.take i) b).map V.int))) ⟨h6,s3,s4,e0.symm⟩ (fun i σ' H' _ p=>?_) (fun i x σ' H' hx p=>?_) fun σ' H' p=>?_
 ·obtain⟨_,_,_,rfl⟩:=p;exact hml _
 ·obtain⟨p6,p3,p4,rfl⟩:=p;rw[List.getElem?_map] at hx;cases ht':ts[i]? with
  | none=>rw[ht'] at hx;cases hx
  | some t =>
    rw[ht'] at hx;cases hx;have hti:i<ts.length:=(List.getElem?_eq_some_iff.mp ht').1;have hlen:(bi r (ts.take i) b).length=24:=by rw[b8];exact hr
    obtain⟨t0,t24⟩:=ht t (List.mem_of_getElem? ht');have hj:Bb ((bi r (ts.take i) b).map V.int).length t=some t.toNat:=by
     unfold Bb;rw[List.length_map,hlen,if_pos t0,if_pos (by omega)]
    have hlt:t.toNat<(bi r (ts.take i) b).length:=by omega
    have hat:((bi r (ts.take i) b).map V.int)[t.toNat]? = some (.int ((bi r (ts.take i) b).getD t.toNat 0)):=by
     rw[List.getElem?_map,List.getElem?_eq_getElem hlt];simp[hlt]
    refine⟨_,by rw[List.getElem?_set_ne (by decide)];exact p4,_,by rw[List.getElem?_set_self (by omega)],l,_,t,_,rfl,rfl,.of aA,by unfold CF;rw[hj];exact hat,?_⟩;refine⟨_,by rw[List.getElem?_set_ne (by decide)];exact p3,_,_,rfl,rfl,l,_,t,t.toNat,rfl,rfl,aA,hj,?_⟩;refine⟨by rw[List.length_set];exact p6,by rw[List.getElem?_set_ne (by decide)];exact p3,by rw[List.getElem?_set_ne (by decide)];exact p4,?_⟩;rw[Bj];have et:ts.take (i+1)=ts.take i++[t]:=by
     rw[List.take_succ,ht'];rfl
    rw[et,tm,List.map_set]
 ·obtain⟨_,_,_,rfl⟩:=p;have:=k σ';rw[List.length_map,List.take_length];exact this
def A3 {K:PySem.W.Frag}{fnT:MF}{E E':XK}{N:List Str}{vs:List V}{H:Hp}{Q:VK}{D:Ends}(hN:N.length=6)(h:vp K fnT vs H Q E')(hD:∀σ H',Q .non H'->D.nx σ H'):GF K fnT E D (L2.start N vs) H:=by
 obtain⟨a,far,pd,pv,b,ls,T,ts,rfl,c,dp,⟨d,hf,hti⟩,hT,k⟩:=h;obtain⟨ds,rfl,hints,hrange⟩:=tK hti;have hst:L2.start N [V.ref a,.int far,pv,.int b]=[some (V.ref a),some (.int far),some pv,some (.int b),none,none]:=by
  unfold L2.start;rw[hN];rfl
 rw[hst];have hkl:=og c.r.len;refine⟨_,rfl,a,rfl,.inl ⟨_,.inl c.d⟩,_,rfl,tF fun p H1 g1 hp h1=>?_⟩;have c1:=c.mono g1;refine⟨kvsOf ls T,.inl far,c1.d,by rw[hkl,bH];omega,rfl,fun v hv=>?_,fun hv=>?_⟩
 ·obtain⟨l,r,rfl,ml,hl,hr,q⟩:=yT far c1.r c1.n hv;refine⟨_,rfl,?_⟩;have dp1:Den K (hide (a::ls) H1) pd pv:=dp.mono g1.hd _ _;show tD K fnT ([pv]++[]) H1 _ E;refine⟨a::ls,[pd],.lst ds,c1.live,.cons dp1 .nil,hf,fun v H2 g2 rv=>?_⟩;obtain⟨m,ms,rfl,hm,dm⟩:=rv.lst_inv;have:=cH hints dm;subst this;have c2:=c1.mono g2;have hh:∀xs,hide (a::ls) (bm H2 l (.lst xs))=hide (a::ls) H2:=fun xs=>by
   funext y
   by_cases hy:y∈a::ls
   ·rw[aX hy,aX hy]
   ·rw[ao hy,ao hy,ay (fun z:y=l=>hy (by rw[z];exact List.mem_cons_of_mem _ ml))]
  refine⟨m,rfl,⟨_,hide_le.seq hm⟩,tj (hide_le.seq hm) (fun xs=>hide_le.seq (by rw[hh];exact hm)) (g2 _ _ hl) hr hrange rfl rfl rfl fun σ'=>hD _ _ ?_⟩;obtain⟨f1,f2⟩:=q ts b;have nal:a≠l:=fun z=>c.na (z ▸ ml);refine k _ ls ⟨by rw[ay nal,f1];exact c2.d,f2 _ aA fun y hy hn=>?_,c.n⟩ (fun y o e=>?_) fun y hy=>.inl hy
  ·rw[ay hn];obtain⟨xs,e⟩:=c1.r.mem hy;rw[e];exact g2 _ _ e
  ·rw[hh];exact(g1.trans g2).hd _ _ e
 ·refine⟨_,rfl,?_⟩;have npa:a≠p:=fun z=>by
   have:=c.d;rw[z,hp] at this;cases this
  have npl:∀{y:Addr},y∈ls->y≠p:=fun {y} hy z=>by
   obtain⟨xs,e⟩:=c.r.mem hy;rw[z,hp] at e;cases e
  generalize hH:bm H1 a (.dK (kvsOf ls T++[(.inl far,.ref p)]))=H1';have ha:H1' a=some (.dK (kvsOf ls T++[(.inl far,.ref p)])):=by rw[<-hH];exact aA
  have hne:∀{y:Addr},y≠a->H1' y=H1 y:=fun {y} z=>by rw[<-hH];exact ay z
  have lv:Live (a::(ls++[p])) H1':=fun y hy=>by
   rcases List.mem_cons.mp hy with rfl | hy
   ·exact⟨_,ha,True.intro⟩
   ·rcases List.mem_append.mp hy with hy | hy
    ·obtain⟨xs,e⟩:=c1.r.mem hy;exact⟨_,(hne fun z=>c.na (z ▸ hy)).trans e,True.intro⟩
    ·rw[List.mem_singleton.mp hy];exact⟨_,(hne npa.symm).trans h1,True.intro⟩
  have big:Same (hide (a::ls) H) (hide (a::(ls++[p])) H1'):=fun y o e=>by
   have hy:y∉a::ls:=fun z=>by rw[aX z] at e;cases e
   rw[ao hy] at e;have hyp:y≠p:=aC e hp;have hy2:y∉a::(ls++[p]):=fun z=>by
    rcases List.mem_cons.mp z with z | z
    ·exact hy (by rw[z];exact List.mem_cons_self)
    ·rcases List.mem_append.mp z with z | z
     ·exact hy (List.mem_cons_of_mem _ z)
     ·exact hyp (List.mem_singleton.mp z)
   rw[ao hy2,hne (fun z=>hy (by rw[z];exact List.mem_cons_self))];exact g1 _ _ e
  show tD K fnT ([pv]++[]) H1' _ E;refine⟨a::(ls++[p]),[pd],.lst ds,lv,.cons (dp.mono big _ _) .nil,hf,fun v H2 g2 rv=>?_⟩;obtain⟨m,ms,rfl,hm,dm⟩:=rv.lst_inv;have:=cH hints dm;subst this;have hh:∀xs,hide (a::(ls++[p])) (bm H2 p (.lst xs))=hide (a::(ls++[p])) H2:=fun xs=>by
   funext y
   by_cases hy:y∈a::(ls++[p])
   ·rw[aX hy,aX hy]
   ·rw[ao hy,ao hy,ay (fun z:y=p=>hy (by rw[z];simp))]
  refine⟨m,rfl,⟨_,hide_le.seq hm⟩,tj (hide_le.seq hm) (fun xs=>hide_le.seq (by rw[hh];exact hm)) (g2 _ _ ((hne npa.symm).trans h1)) (by simp) hrange rfl rfl rfl fun σ'=>hD _ _ ?_⟩;obtain⟨f1,f2⟩:=vw far c.r hv ts b p;refine k _ (ls++[p]) ⟨by rw[ay npa,f1];exact g2 _ _ ha,f2 _ aA fun y hy=>?_,?_⟩ (fun y o e=>?_) fun y hy=>?_
  ·rw[ay (npl hy)];obtain⟨xs,e⟩:=c.r.mem hy;rw[e];exact g2 _ _ ((hne fun z=>c.na (z ▸ hy)).trans (g1 _ _ e))
  ·rw[List.nodup_append];exact⟨c.n,by simp,fun y hy z hz e=>npl hy (e.trans (List.mem_singleton.mp hz))⟩
  ·rw[hh];exact g2.hd _ _ (big _ _ e)
  ·rcases List.mem_append.mp hy with hy | hy
   ·exact .inl hy
   ·exact .inr (by rw[List.mem_singleton.mp hy];exact hp)
def yA (t:TS):TS:=fun D σ H=>∃a u,((∃kvs,u=.dK kvs)\/∃kvs,u=.dT kvs)/\H a=some u/\∀o,t D σ (bm H a (.frz o u))
def xq {X:Cx}{sts:List Stmt}{t:TS}(h:PSs X sts t):PSs X sts (yA t):=fun pins s σ H D I hh=>by
 obtain⟨a,u,hu,e,hh⟩:=hh;obtain⟨o,I'⟩:=Inv.still I hu e;exact h pins s σ _ D I' (hh o)
def Fm:TE:=G6 (rU fun i=>.int (-i)) (tC (.int 1))
def Hn (K:PySem.W.Frag)(fnS fnT:MF)(E1 E2 E3:XK):TS:=wW (yE yC (dj 1)) (wW (wX (FW K (cn 0)) (dj 2)
 (wW (yE (rh (tD K fnS) [] E1 (fO (cn 2) tS)) (dj 3))
 (wW (vj (rh (vp K fnT) [] E2 (fO (cn 1) (fO (Bm (DB K) (cn 3) (tC (.int 0))) (fO (cn 2) (fO (tC (.int 1)) tS))))))
 (vj (rh (vp K fnT) [] E3 (fO (cn 1) (fO (Bm (DB K) (cn 3) (tC (.int 1))) (fO (cn 2) (fO Fm tS)))))))))
 (yA (Fj (cn 1))))
def xa {d:D}{q:Int×Int}(h:vo d=some q):d=.tup [.int q.1,.int q.2]:=by
 unfold vo at h;split at h
 ·cases h;rfl
 ·cases h
def rA {K:PySem.W.Frag}{B:Hp}:∀{ls:List Addr} {T:Tab},Rows B ls T->Dens K B (T.map fun p=>.lst (p.2.map D.int)) ((kvsOf ls T).map (·.2))
 | [],[],_=>.nil
 | l::ls,(k,r)::T,h=>.cons (.lst (.of h.1) (Dens.ints r)) (rA h.2.2)
def nJ:∀{H:Hp} {ls:List Addr} {T:Tab},Rows H ls T->(T.map fun p=>D.int p.1)=(kvsOf ls T).map fun p=>kD p.1
 | _,[],[],_=>rfl
 | _,l::ls,(k,r)::T,h=>by
   rw[List.map_cons,nJ h.2.2];rfl
def Cy {K:PySem.W.Frag}{fnS fnT:MF}{E0 E1 E2 E3:XK}{N:List Str}{vs:List V}{H:Hp}{Q:VK}(hN:N.length=4)(h:tD K (fT fnS fnT) vs H Q E0):Hn K fnS fnT E1 E2 E3 { nx:=fun _ H'=>Q .non H',rt:=Q } (L2.start N vs) H:=by
 obtain⟨os,ds,r,L,dn,hm,fin⟩:=h;have hds:∃ps,ds=[.tup ps]:=by
  unfold fT at hm;split at hm
  ·exact⟨_,rfl⟩
  ·cases hm
 obtain⟨ps,rfl⟩:=hds;obtain⟨TF,hT,hr⟩:=Option.bind_eq_some_iff.mp (show (qu fnS fnT ps []).bind (fun T=>some (gG T))=some r from hm);cases hr;obtain⟨v,rr,rfl,hv,hn⟩:=dn.uncons;have:=hn.unnil;subst this;obtain⟨tt,xs,rfl,htt,hxs⟩:=hv.tup_inv;have hst:L2.start N [V.ref tt]=[some (V.ref tt),none,none,none]:=by
  unfold L2.start;rw[hN];rfl
 rw[hst];intro a ha;have wk:=qY (K:=K) (B:=hide os H) (.of htt) hxs;have g0:=aF ha (HO.dK []);refine⟨_,rfl,tt,rfl,⟨xs,.of (g0 _ _ (hide_le _ _ htt))⟩,?_⟩;refine⟨fun i n σ H'=>n=ps.length-i/\i<=ps.length/\σ.length=4/\σ[1]? = some (some (.ref a))/\∃ls T,ChAt H' a ls T/\Same H H'/\(∀l∈ls,H l=none)/\qu fnS fnT (ps.drop i) T=some TF,
  ⟨ps.length,by simp,Nat.zero_le _,rfl,rfl,[],[],⟨aA,True.intro,List.nodup_nil⟩,g0,(fun l hl=>by cases hl),by rw[List.drop_zero];exact hT⟩,?_⟩
 rintro i n σ H1 ⟨rfl,hi,h4,s1,ls,T,c,g1,hls,hch⟩;have free:∀{y:Addr} {o:HO},H y=some o->y∉a::ls:=fun {y o} e z=>by
  rcases List.mem_cons.mp z with rfl | z
  ·rw[ha] at e;cases e
  ·rw[hls y z] at e;cases e
 have lv:Live (os++a::ls) H1:=fun y hy=>by
  rcases List.mem_append.mp hy with hy | hy
  ·exact(L.mono g1) y hy
  ·exact c.live y hy
 have big:Same (hide os H) (hide (os++a::ls) H1):=fun y o e=>by
  have hy:y∉os:=fun z=>by rw[aX z] at e;cases e
  rw[ao hy] at e;rw[ao (fun z=>(List.mem_append.mp z).elim hy (free e))];exact g1 _ _ e
 obtain⟨w1,w2⟩:=wk i (os++a::ls) H1 lv big;by_cases hlt:i<ps.length
 ·have hp:ps[i]? = some ps[i]:=List.getElem?_eq_getElem hlt;obtain⟨go,yl⟩:=w1 _ hp;rw[List.drop_eq_getElem_cons hlt,qu] at hch;obtain⟨sd,f1,hc1⟩:=Option.bind_eq_some_iff.mp hch;obtain⟨q,f2,hc2⟩:=Option.bind_eq_some_iff.mp hc1;obtain⟨td,f3,hc3⟩:=Option.bind_eq_some_iff.mp hc2;obtain⟨ts,f4,hc4⟩:=Option.bind_eq_some_iff.mp hc3;clear hch hc1 hc2 hc3;split at hc4
  ·rename_i hroom;have:=xa f2;subst this;refine .inr ⟨go,fun σ' H'=>∃m',m'<ps.length-i/\(m'=ps.length-(i+1)/\i+1<=ps.length/\σ'.length=4/\σ'[1]? = some (some (.ref a))/\∃ls T,ChAt H' a ls T/\Same H H'/\(∀l∈ls,H l=none)/\qu fnS fnT (ps.drop (i+1)) T=some TF),fun σ' H' z=>z,fun x H2 y=>?_⟩;obtain⟨g2,rx⟩:=yl x H2 y;have e2:∀{σ:L2.St},σ.length=4->(σ.set 2 (some x))[2]? = some (some x):=fun {σ} z=>List.getElem?_set_self (by omega);refine⟨_,e2 h4,?_⟩;show tD K fnS ([x]++[]) H2 _ E1;refine⟨os++a::ls,[ps[i]],_,lv.mono g2,.cons rx .nil,f1,fun v H3 g3 rv=>?_⟩;obtain⟨ta,ys,rfl,hta,hys⟩:=rv.tup_inv;obtain⟨y1,yr,rfl,d1,hys⟩:=hys.uncons;obtain⟨y2,yr,rfl,d2,hys⟩:=hys.uncons;have:=hys.unnil;subst this;have:=d1.int_inv;have:=d2.int_inv;subst y1 y2;have g23:=g2.trans g3;have c3:=c.mono g23;have hta3:H3 ta=some (.tup [.int q.1,.int q.2]):=hide_le _ _ hta;have rx3:Den K (hide (a::ls) H3) ps[i] x:=rx.mono (fun y o e=>by
    have hy:y∉os++a::ls:=fun z=>by rw[aX z] at e;cases e
    rw[ao hy] at e;rw[ao (fun z=>hy (List.mem_append_right _ z))];exact g3 _ _ e) _ _
   have z4:((σ.set 2 (some x)).set 3 (some (V.ref ta))).length=4:=by simpa using h4
   have z1:((σ.set 2 (some x)).set 3 (some (V.ref ta)))[1]? = some (some (.ref a)):=by rw[List.getElem?_set_ne (by decide),List.getElem?_set_ne (by decide)];exact s1
   have z2:((σ.set 2 (some x)).set 3 (some (V.ref ta)))[2]? = some (some x):=by rw[List.getElem?_set_ne (by decide)];exact e2 h4
   have z3:((σ.set 2 (some x)).set 3 (some (V.ref ta)))[3]? = some (some (.ref ta)):=by exact List.getElem?_set_self (by simpa using (by omega:3<σ.length))
   refine⟨.ref a,z1,.ref ta,z3,ta,[.int q.1,.int q.2],0,.int q.1,rfl,rfl,.of hta3,rfl,x,z2,?_⟩;refine⟨a,q.1,ps[i],x,1,ls,T,ts,rfl,c3,rx3,⟨td,f3,f4⟩,by omega,fun H5 ls5 c5 g5 l5=>?_⟩;have ta5:H5 ta=some (.tup [.int q.1,.int q.2]):=hide_le _ _ (g5 _ _ (mv c3.live hta3));have rx5:=rx3.mono g5 _ _;refine⟨.ref a,z1,.ref ta,z3,ta,[.int q.1,.int q.2],1,.int q.2,rfl,rfl,.of ta5,rfl,x,z2,1,rfl,?_⟩;refine⟨a,q.2,ps[i],x,-1,ls5,_,ts,rfl,c5,rx5,⟨td,f3,f4⟩,by have:=jS T q.1 ts 1;omega,fun H6 ls6 c6 g6 l6=>?_⟩;have n5:∀l∈ls5,H l=none:=fun l hl=>by
    rcases l5 l hl with z | z
    ·exact hls l z
    ·exact(g1.trans g23).free z
   have s5:Same H H5:=fun y o e=>hide_le _ _ (g5 _ _ ((ao (free e)).trans ((g1.trans g23) _ _ e)));have free5:∀{y:Addr} {o:HO},H y=some o->y∉a::ls5:=fun {y o} e z=>by
    rcases List.mem_cons.mp z with rfl | z
    ·rw[ha] at e;cases e
    ·rw[n5 y z] at e;cases e
   have s6:Same H H6:=fun y o e=>hide_le _ _ (g6 _ _ ((ao (free5 e)).trans (s5 _ _ e)));have n6:∀l∈ls6,H l=none:=fun l hl=>by
    rcases l6 l hl with z | z
    ·exact n5 l z
    ·exact s5.free z
   exact⟨ps.length-(i+1),by omega,rfl,hlt,z4,z1,ls6,_,c6,s6,n6,hc4⟩
  ·cases hc4
 ·have e:i=ps.length:=by omega
  subst e;rw[List.drop_length,qu] at hch;cases hch;refine .inl ⟨w2 rfl,a,_,.inl ⟨_,rfl⟩,c.d,fun o=>⟨_,s1,fin _ _ (fun y ob e=>?_) ?_⟩⟩
  ·rw[ay (fun z=>free e (by rw[z];exact List.mem_cons_self))];exact g1 _ _ e
  ·have nao:a∉os:=L.ne ha;have rows:Rows (hide os (bm H1 a (.frz o (.dK (kvsOf ls TF))))) ls TF:=c.r.keep fun l hl=>by
    rw[ao (L.ne (hls l hl)),ay (fun z:l=a=>c.na (by rw[<-z];exact hl))]
   exact .dic (.inl ⟨rfl,o,_,(ao nao).trans aA,nJ c.r,rfl⟩) (rA rows)
def EK {K:PySem.W.Frag}{fnS fnT:MF}{vs:List V}{H:Hp}{Q:VK}{E:XK}(h:tD K (fT fnS fnT) vs H Q E):vs.length=1:=by
 obtain⟨os,ds,r,L,dn,hm,fin⟩:=h;rw[<-dn.length];unfold fT at hm;split at hm
 ·rfl
 ·cases hm
def rV (a b:ME):A8 (mD a b):=fun δ d h=>by
 obtain⟨x,_,h⟩:=Option.bind_eq_some_iff.mp h;obtain⟨y,_,h⟩:=Option.bind_eq_some_iff.mp h;split at h
 ·split at h
  ·cases h;exact⟨_,rfl⟩
  ·cases h
 ·cases h
end DL
namespace DL
open PySem PyProof.Rows
section
variable {P:Program}{w:World}{A:Around}{E:Value->Shared->Prop}{s:Shared}
end
open AutoSeq1 (wpAny_loadPart')
section
variable {P:Program}{w:World}{A:Around}{E:Value->Shared->Prop}{s:Shared}
end
section
variable {P:Program}{w:World}{A:Around}{E:Value->Shared->Prop}{s:Shared}
end
section
variable {P:Program}{w:World}{A:Around}{E:Value->Shared->Prop}{s:Shared}{d:Addr}{es:Array DictEntry}{ep:Nat}
def xE {Q:Value->Shared->Prop}(hd:(d==sysModules)=false)(hm:DRaw s.heap d es ep)
 (k:Q (.ref s.heap.objs.size) { s with heap:=s.heap.push { cls:=.type "dict_keyiterator",data:=.fields #[.ref d,.int 0 0,.int es.size 0,.int ep 0] } }) :
 wpAny (model P w) A (pyIter (.ref d)) Q E s:=by
 obtain⟨o,ho,hx,hdat⟩:=hm;have hTy:s.TypeIs (.ref d) "dict":=⟨o,ho,hx.1⟩;refine wpAny_pyIter_slot hTy PySem.F.slot_dict_iter (wpAny_call_entry PySem.F.slot_dict_iter hTy PySem.F.entry_dict_iter ?_ (PySem.F.args_dict_iter_1 _));refine wpAny_bind (m:=Builtin.Dict.dictSlotNone "__iter__" ⟨[.ref d],[]⟩) (wpAny_bind (wpAny_notOrdered_dict hTy (wpAny_of_eq (a:=Value.ref d) rfl (wpAny_bind (m:=Builtin.Dict.showsAll d) ?_))));unfold Builtin.Dict.showsAll;rw[if_neg (by rw[hd];decide)];refine wpAny_pure (wpAny_bind (wpAny_dictEntries ho hdat (wpAny_bind (wpAny_dictEpoch ho hdat (wpAny_bind (wpAny_newObj_type (wpAny_pure ⟨_,rfl,"dict_keyiterator",_,⟨_,Heap.get?_push_size _ rfl,rfl⟩,PySem.F.slot_dict_keyiterator_next.lookup,?_⟩)))))));simpa[rawInt] using k
def si {it:Addr}{i:Nat}{Q:Option Value->Shared->Prop}(hh:A.handled=none)(hit:s.heap.IsKeyIter it d i es.size ep)(hm:DRaw s.heap d es ep)
 (go:∀e h',es[i]? = some e->h'.IsKeyIter it d (i+1) es.size ep->Heap.SameBut it s.heap h'->Q (some e.key) { s with heap:=h' })
 (no:∀h',es[i]? = none->Heap.ExtBut it s.heap h'->Q none { s with heap:=h' }):wpAny (model P w) A (pyNext (.ref it)) Q E s:=by
 have t0:=hit.typeIs;obtain⟨o,ho,hc,hd⟩:=hit;obtain⟨od,hod,_,hdd⟩:=hm;have ow:Builtin.Dict_items.ownsTuple "dict_keyiterator"=false:=by decide
 unfold pyNext;refine wpAny_bind (wpAny_attempt (wpAny_callSpecial?_slot (name:=Str.ofString "__next__") t0 PySem.F.slot_dict_keyiterator_next (wpAny_call_entry PySem.F.slot_dict_keyiterator_next t0 PySem.F.entry_dict_keyiterator_next ?_ (PySem.F.args_dict_keyiterator_next_1 _))));refine wpAny_bind (wpAny_pure (wpAny_bind (wpAny_bind (wpAny_bind (wpAny_typeNameOfWhole_keyiter t0 (wpAny_pure (wpAny_bind (wpAny_fieldsOf ho hd ?_))))))));simp only[ow,Bool.false_eq_true,if_false];have nn:¬ (Value.ref d==Value.none)=true:=by intro z;cases z
 refine(?_:wpAny _ _ (ite ((Value.ref d==Value.none)=true) _ _) _ _ _);rw[if_neg nn];refine wpAny_bind (wpAny_pure (wpAny_bind (wpAny_dictEntries hod hdd ?_)));rw[if_neg (by simp)];refine wpAny_bind (wpAny_pure (wpAny_bind (wpAny_dictEpoch hod hdd ?_)));rw[if_neg (by simp)];refine wpAny_pure ?_;cases hx:es[i]? with
 | none =>
   simp only[show ¬ ((i:Int)<0) from by omega,if_false,Int.toNat_natCast,hx];refine wpAny_bind (wpAny_bind (wpAny_typeNameOfWhole_keyiter t0 (wpAny_pure (wpAny_bind (m:=setField (.ref it) 0 .none) (wpAny_setField ho hd (by simp) ?_)))));refine i3 (s:={ s with heap:=s.heap.update it (Obj.mapFields (·.setIfInBounds 0 .none)) }) hh fun h2 e oe k2 ge ce=>?_;exact wpAny_bind (wpAny_isInstance (T:="StopIteration") (b:=true) ⟨oe,ge,ce⟩ isSubtype_stop (wpAny_pure (no h2 hx fun b ob hb q=>k2 _ _ ((Heap.SameBut.update ..).extBut b ob hb q))))
 | some e =>
   simp only[show ¬ ((i:Int)<0) from by omega,if_false,Int.toNat_natCast,hx];refine wpAny_bind (wpAny_bind (wpAny_typeNameOfWhole_keyiter t0 (wpAny_pure (wpAny_bind (wpAny_isOneOf_keyiter t0 (wpAny_bind (m:=setField (.ref it) 1 (rawInt ((i:Int)+1))) (wpAny_setField ho hd (by simp) ?_)))))));have j1:(s.heap.update it (Obj.mapFields (·.setIfInBounds 1 (rawInt ((i:Int)+1))))).IsKeyIter it d (i+1) es.size ep :=
    by
     refine⟨_,Heap.get?_update_self _ ho ?_,?_,?_⟩
     ·exact Obj.isFreed_of_fields (Obj.data_mapFields hd _)
     ·rw[Obj.cls_mapFields,hc]
     ·rw[Obj.data_mapFields hd];simp[rawInt]
   have t1:=Heap.IsKeyIter.typeIs (s:={ s with heap:=s.heap.update it (Obj.mapFields (·.setIfInBounds 1 (rawInt ((i:Int)+1)))) }) j1;exact wpAny_bind (wpAny_holding (wpAny_bind (wpAny_isOneOf_keyiter t1 (wpAny_of_eq (a:=e.key) rfl (wpAny_pure ⟨_,rfl,wpAny_pure (go e _ hx j1 (Heap.SameBut.update ..))⟩)))))
end
end DL
namespace DL
open PySem
noncomputable def G9 (a:ME):MI:=fun δ=>(a δ).bind fun d=>match d with
 | .dic true ks _=>some ks
 | _=>none
def lV:List D->List D->D->Option D
 | k::ks,v::vs,z=>if bP k z=true then some v else lV ks vs z
 | _,_,_=>none
def p7 (d k:ME):ME:=fun δ=>(d δ).bind fun x=>(k δ).bind fun z=>match x with
 | .dic true ks vs=>if fI z=true then lV ks vs z else none
 | _=>none
end DL
namespace DL
open PySem PySem.Spec PyProof.Rows L2
section
variable {X:Cx}{e k a b o:Expr}{me mk ma mb mo:ME}{pos p2 pos':Pos}{tg:Expr}
def CZ (a b:Key):bP (kD a) (kD b)=decide (a=b):=by
 cases a with
 | inl i =>
   cases b with
   | inl j=>simp only[kD,bP];rw[Bool.eq_iff_iff];simp
   | inr y=>simp only[kD,bP];rw[Bool.eq_iff_iff];simp
 | inr x =>
   cases b with
   | inl j=>simp only[kD,bP];rw[Bool.eq_iff_iff];simp
   | inr y=>simp only[kD,bP];rw[Bool.eq_iff_iff];simp
def zY:∀a b:List Key,eI (a.map kD) (b.map kD)=decide (a=b)
 | [],[]=>by simp[eI]
 | [],_::_=>by simp[eI]
 | _::_,[]=>by simp[eI]
 | x::a,y::b=>by
   rw[List.map_cons,List.map_cons,eI,CZ,zY a b,Bool.eq_iff_iff];simp
def CY (a b:List Key):bP (kT a) (kT b)=decide (a=b):=by
 unfold kT;rw[bP,zY]
def rY {K:PySem.W.Frag}{B:Hp}(z:List Key){d:D}:∀{kvs:List (List Key×V)} {vs:List D},Dens K B vs (kvs.map (·.2))->lV (kvs.map fun p=>kT p.1) vs (kT z)=some d->∃v,cB kvs z=some v/\Den K B d v
 | [],vs,h,e=>by
   rw[List.map_nil] at e;cases vs <;> cases e
 | p::kvs,[],h,e=>by
   rw[List.map_cons] at e;cases e
 | (q,x)::kvs,d'::vs,h,e=>by
   obtain⟨y,r,e1,h1,h2⟩:=h.uncons;rw[List.map_cons] at e1;cases e1;rw[List.map_cons,lV,CY] at e;by_cases hq:q=z
   ·rw[if_pos (by simpa using hq)] at e;cases e;exact⟨x,eX hq,h1⟩
   ·rw[if_neg (by simpa using hq)] at e;obtain⟨v,v1,v2⟩:=rY z h2 e;exact⟨v,(dW hq).trans v1,v2⟩
def uU (hu:X.A.units+1<cLine)(ho:DE X o mo)(hk:DE X k mk)(hs:E8 k):DE X (.Subscript o k pos) (p7 mo mk):=by
 obtain⟨to,po,qo⟩:=ho;obtain⟨tk,pk,qk⟩:=hk;refine⟨_,BL hu po pk hs,fun os σ H δ d Q s m kq=>?_⟩;obtain⟨x,e1,m⟩:=af m;obtain⟨z,e2,m⟩:=af m;refine qo os σ H δ x _ s e1 fun v H1 g1 r1=>?_;refine qk os σ H1 δ z _ (s.mono g1) e2 fun u H2 g2 r2=>?_;split at m
 ·rename_i ks vs;split at m
  ·rename_i hz;obtain⟨kk,rfl⟩:=kW hz;obtain⟨a,ys,rfl,hF,hv⟩:=(r1.mono g2.hd _ _).dic_inv;rcases hF with ⟨z,_⟩ | ⟨_,ob,kvs,h1,rfl,rfl⟩
   ·cases z
   obtain⟨b,bs,rfl,hb,hbs⟩:=r2.tup_inv;have:=cR hbs;subst this;obtain⟨y,y1,y2⟩:=rY kk hv m;exact⟨a,y,rfl,.inr ⟨kvs,kk,b,.inr ⟨ob,hide_le _ _ h1⟩,rfl,hide_le _ _ hb,y1.symm⟩,kq _ H2 (g1.trans g2) y2⟩
  ·cases m
 ·cases m
end
end DL
namespace DL
open PySem
noncomputable def isInt:D->Bool
 | .int _=>true
 | _=>false
def i7:D->D->Option D
 | .lst ds,.int i=>(intsOf ds).bind fun is=>if i∈is then some (.int (is.idxOf i:Nat)) else none
 | _,_=>none
def As (k v:ME):ME:=fun δ=>(k δ).bind fun z=>(v δ).bind fun y=>match z with
 | .int i=>if flat y=true then some (.dic false [.int i] [y]) else none
 | _=>none
def kX (k v:ME):ME:=fun δ=>(k δ).bind fun z=>(v δ).bind fun y=>if fI z=true/\flat y=true then some (.dic true [z] [y]) else none
def yO (n i:Nat)(k a:ME):MS:=fun δ=>(a δ).bind fun y=>(k δ).bind fun z=>match ownAt n i δ,z with
 | some (.dic false ks vs),.int j=>if (ks.all fun q => !bP q (.int j))=true/\ks.length<16777216 then some (.nx (δ.set (n+i) (some (.dic false (ks++[.int j]) (vs++[y]))))) else none
 | _,_=>none
def B8:D->D->Option Bool
 | .dic true ks _,z=>if fI z=true then some (ks.any fun q=>bP q z) else none
 | .dic false ks _,.int i=>some (ks.any fun q=>bP q (.int i))
 | _,_=>none
def uM (n i:Nat)(neg:Bool)(a:ME):ME:=fun δ=>(a δ).bind fun z=>(ownAt n i δ).bind fun d=>(B8 d z).bind fun b=>some (.bl (b != neg))
def pJ (neg:Bool)(z d:D):Option D:=(B8 d z).bind fun b=>some (.bl (b != neg))
def nj:List D->List D->Bool
 | _,[]=>true
 | ks,l::ls=>(ks.all fun q => !bP q l)&&nj (ks++[l]) ls
def Bv (n i:Nat)(a:ME):MS:=fun δ=>(a δ).bind fun y=>match ownAt n i δ,y with
 | some (.dic false ks vs),.dic false ls ws=>if nj ks ls=true/\(ls.all isInt)=true/\ks.length+ls.length<=16777216 then some (.nx (δ.set (n+i) (some (.dic false (ks++ls) (vs++ws))))) else none
 | _,_=>none
def rc:D->Option D
 | .dic false ks _=>if (ks.all isInt)=true/\ks.length<=16777216 then some (.lst ks) else none
 | _=>none
noncomputable def b9 (rows:List (List Int))(n:Int)(cs:List Int):List (List Int):=cs.foldl (fun rs c=>rs.set c.toNat (rs.getD c.toNat []++[n])) rows
def ng (fn:MF)(es:D):Nat->List D->List (List Int)->Option (List (List Int))
 | _,[],rows=>some rows
 | n,p::ps,rows=>(fn [p,es]).bind fun d=>match d with
   | .lst ds=>(intsOf ds).bind fun cs=>if (cs.all fun c=>decide (0<=c)&&decide (c<rows.length))=true/\(rows.all fun r=>decide (r.length+cs.length<=1000000))=true then ng fn es (n+1) ps (b9 rows n cs) else none
   | _=>none
noncomputable def rB (rows:List (List Int)):D:=.lst (rows.map fun r=>.lst (r.map D.int))
def jp (cm:ME)(fn:MF)(m:MS):MS:=fun δ=>match δ with
 | [some (.tup ps),some (.lst es),none,none,none,none]=>(cm δ).bind fun c=>match c with
   | .lst cs=>if cs.length<=1000000 then (ng fn (.lst es) 0 ps (List.replicate cs.length [])).bind fun rows=>m [some (.tup ps),some (.lst es),some (rB rows),none,none,none] else none
   | _=>none
 | _=>none
noncomputable def FS:D->D->Bool
 | .tup [.int a,.int b],.tup [.int c,.int d]=>decide (a<c)||(decide (a=c)&&decide (b<d))
 | _,_=>false
def lC:List D->Bool
 | x::y::l=>FS x y&&lC (y::l)
 | [.tup [.int _,.int _]]=>true
 | []=>true
 | _=>false
def jY:D->Option D
 | .dic true ks _=>if lC ks=true/\2<=ks.length/\ks.length<=1000 then some (.lst ks) else none
 | _=>none
def CK (n i:Nat):MS:=fun δ=>(ownAt n i δ).bind fun d=>some (.rt d)
noncomputable def lB (a b:MS):MS:=fun δ=>(a δ).bind fun r=>match r with | .nx δ'=>b δ' | _=>none
noncomputable def Fa (n k:Nat)(m:MS):MF:=fun ds=>if ds.length=n then (m (ds.map some++List.replicate (k-n) none)).bind fun r=>match r with
 | .rt d=>some d
 | _=>none
 else none
end DL
namespace DL
open PySem PySem.Spec PyProof.Rows L2
def Gi (K:PySem.W.Frag)(f:MF):Sp:=fun vs H Q _=>∃os ds r,Live os H/\Dens K (hide os H) ds vs/\f ds=some r/\∀p H',Same H H'->H p=none->Own K (hide (p::os) H') H' p r->Q (.ref p) H'
def Gg (X:Cx)(st:List Stmt)(m:MS):Prop:=∃t:TS,PSs X st t/\∀os σ H δ d D,Sl X os H δ σ->m δ=some (.rt d) ->
 (∀p H' os',Fr X os H os' H'->Same X.H₀ H'->X.H₀ p=none->p∈os'->Own X.K (hide os' H') H' p d->D.rt (.ref p) H')->t D σ H
section
variable {X:Cx}{PX:Prop}{st:Stmt}{rest:List Stmt}{m m':MS}{e a b k o:Expr}{me ma mb mk mo:ME}{pos p p2 p3 p4:Pos}
def Co {n i:Nat}(hn:X.N.length=n)(hi:i<n)(hfn:X.fn ""=true)(hv:PE X e (cn i)):Gg X [.Return (some e) pos] (CK n i):=by
 refine⟨_,fj (ug hv),fun os σ H δ d D s m k=>?_⟩;obtain⟨d',e1,m⟩:=af m;cases m;obtain⟨h1,h2,a,e2,e3,e4,e5⟩:=s.own_at hn hi e1;exact⟨_,e2,k a H os (.of (Same.refl _)) s.keep (e4 hfn) e3 e5⟩
def jK (h1:DS X False st m)(h2:Gg X rest m'):Gg X (st::rest) (lB m m'):=by
 obtain⟨t,p,q⟩:=h1;obtain⟨t',p',q'⟩:=h2;refine⟨_,dw p p',fun os σ H δ d D s m k=>?_⟩;obtain⟨r1,e1,m⟩:=af m;refine q os σ H δ r1 _ s e1 ?_;cases r1 with
 | nx δ'=>exact fun σ' H' os' g s'=>q' os' σ' H' δ' d D s' m fun p H2 os2 g2=>k p H2 os2 (g.trans g2)
 | bk δ'=>cases m
 | ct δ'=>cases m
 | rt d=>cases m
 | ex=>cases m
def Ep {P:Program}{w:World}{K:PySem.W.Frag}{mg:Str->Option Value}{base:Heap}{x qual:Str}{st:Stmt}{f:Addr}{fd:FuncData}{N ps:List Str}{k kk:Nat}{m:MS}{M:MF}(hkk:N.length<=kk)(F:Fun K x qual st f fd)(S:dG N ps (au st))(hM:M=Fa ps.length kk m)
 (h:∀(cdv:Value) (A:Around) (outer:List Env) (s:Shared) (H:Hp) (E:XK),Room k (A.deeper (envOfC qual (au st) s.heap.objs.size f cdv)) ->
  Gg (kf lc P w K mg base N qual (au st) f cdv A outer s H E).nox (cW st) m) :
 gC P w K mg base lc (k+1) f fd ps (Gi K M):=by
 subst hM;have hpl:ps.length<=N.length:=by have:=congrArg List.length S.pre;rw[List.length_take] at this;omega
 have inv:∀ds r,Fa ps.length kk m ds=some r->ds.length=ps.length/\m (ds.map some++List.replicate (kk-ps.length) none)=some (.rt r):=by
  intro ds r e;unfold Fa at e;split at e
  ·rename_i hl;obtain⟨q,e1,e⟩:=af e;refine⟨hl,?_⟩;cases q with
   | rt d=>cases e;exact e1
   | nx δ=>cases e
   | bk δ=>cases e
   | ct δ=>cases e
   | ex=>cases e
  ·cases e
 refine F.ok S (fun vs H Q E hq=>?_) (fun cdv A outer s H vs Q E hr hq=>?_)
 ·obtain⟨os,ds,r,L,d,e,_⟩:=hq;rw[<-d.length];exact(inv ds r e).1
 ·obtain⟨os,ds,r,L,d,e,kq⟩:=hq;obtain⟨t,p,q⟩:=h cdv A outer s H E hr;obtain⟨hl,e2⟩:=inv ds r e;have s0:=rl (X:=(kf lc P w K mg base N qual (au st) f cdv A outer s H E).nox) (kk:=kk) L rfl d hl hpl hkk;refine⟨t,p,q os _ H _ r _ s0 e2 fun p H' os' fr sm hp mp ow=>kq p H' sm hp ?_⟩;have big:Same (hide os' H') (hide (p::os) H'):=fun b o z=>by
   have hb:b∉os':=fun y=>by rw[aX y] at z;cases z
   rw[ao hb] at z;have hb2:b∉os:=fun y=>hb (fr.2 b y fun n=>by
    obtain⟨o',e',_⟩:=L b y;have n':H b=none:=n;rw[n'] at e';cases e')
   have hbp:b≠p:=fun y=>hb (y ▸ mp);rw[ao (by simp[hb2,hbp])];exact z
  cases r with
  | lst ds=>obtain⟨xs,w1,w2⟩:=ow;exact⟨xs,w1,w2.mono big _ _⟩
  | dic t ks vs=>obtain⟨xs,w1,w2⟩:=ow;exact⟨xs,w1,w2.mono big _ _⟩
  | _=>exact ow
def AD {f:Addr}{fd:FuncData}{ps:List Str}{k:Nat}{x:Str}{fn:MF}{m:MA}{es:List Expr}(F:gC X.prog X.w X.K X.mg X.base lc k f fd ps (Gi X.K fn))(hr:Room k X.A)(hg:Gl X x)(hm:X.mg x=some (.ref f))(hk:PySem.W.keepIn X.K (.ref f)=true)
 (hb:Binds X.K fd ps []) (ha:DA X (e::es) m) (hdb:(x==("__debug__":Str))=false:=by decide) (he:starEach (e::es) X.env=(false,eval e X.env)::starEach es X.env:=by rfl) (hpl:(backTo pos (starEach es X.env)).any (·.1)=false:=by rfl) :
 DF X (.Call (.Name x p) (e::es) [] pos) (ah fn m):=by
 obtain⟨hl,t,pt,q⟩:=ha;refine⟨_,ir F hr hg hm hk hb .nil nQ pt hdb he hpl,fun os σ H δ d Q s m k=>?_⟩;obtain⟨ds,e1,m⟩:=af m;refine q os σ H δ ds _ s e1 fun vs H1 g1 r1=>?_;rw[List.append_nil];exact⟨os,ds,d,s.live.mono g1,r1,m,fun p H' g hp o=>k p H' (g1.trans g) (g1.free hp) o⟩
def AB (hk:DE X k mk)(he:DE X e me):DF X (.Dict [some k] [e] pos) (As mk me):=by
 obtain⟨tk,pk,qk⟩:=hk;obtain⟨te,pe,qe⟩:=he;refine⟨_,BK (zp pk pe BF) rfl rfl (by simp) (by show 1<=15;decide),fun os σ H δ d Q s m kq=>?_⟩;obtain⟨z,e1,m⟩:=af m;obtain⟨y,e2,m⟩:=af m;intro p hp;have s1:=s.mono (aF hp (.dK []));refine qk os σ _ δ z _ s1 e1 fun u H1 g1 r1=>?_;refine qe os σ H1 δ y _ (s1.mono g1) e2 fun v H2 g2 r2=>?_
 match z,m with
 | .int i,m =>
   obtain⟨hf,m⟩:flat y=true/\some (D.dic false [.int i] [y])=some d:=by
    have m':(if flat y=true then some (D.dic false [.int i] [y]) else none)=some d:=m;split at m'
    ·rename_i h;exact⟨h,m'⟩
    ·cases m'
   cases m;have g12:=g1.trans g2;have hp2:H2 p=some (.dK []):=g12 _ _ aA;refine⟨hp2,[(.inl i,v)],by rw[r1.int_inv];rfl,by show 1<=15;decide,kq p _ (fun b w z=>?_) hp ?_⟩
   ·rw[ay (aC z hp)];exact g12 _ _ ((ay (aC z hp)).trans z)
   ·refine⟨[v],.inl ⟨rfl,[(.inl i,v)],aA,rfl,rfl⟩,.cons (Den.fl (fun c xs z=>?_) y v hf r2) .nil⟩;have hc:c≠p:=fun z'=>by
     rw[z'] at z;have:=hide_le _ _ z;rw[hp2] at this;cases this
    have hos:c∉os:=fun y=>by rw[aX y] at z;cases z
    rw[ao (by simp[hos,hc]),ay hc];exact hide_le _ _ z
def q8 {kvs:List (Key×V)}{j:Int}(h:((kvs.map fun p=>kD p.1).all fun q => !bP q (.int j))=true):cB kvs (.inl j)=none:=by
 cases hv:cB kvs (.inl j) with
 | none=>rfl
 | some v =>
   exfalso;unfold cB at hv;obtain⟨p,hp,_⟩:=Option.map_eq_some_iff.mp hv;have hm:=List.mem_of_find?_eq_some hp;have hk:=List.find?_some hp;simp only[decide_eq_true_eq] at hk;have:=List.all_eq_true.mp h (kD p.1) (List.mem_map.mpr ⟨p,hm,rfl⟩);rw[hk] at this;simp[kD,bP] at this
def Cp {n i:Nat}{p5:Pos}(hu:X.A.units+1<cLine)(hn:X.N.length=n)(hi:i<n)(hfn:X.fn ""=true)(hv:PE X o (cn i))(hk:DE X k mk)(he:DE X e me)
 (hs:swapsWith e (some (.Subscript o k p5)) pos.line X.env=pure false:=by rfl):DS X PX (.Assign [.Subscript o k p5] e pos) (yO n i mk me):=by
 obtain⟨te,pe,qe⟩:=he;obtain⟨tk,pk,qk⟩:=hk;refine⟨_,vI hu hv pk pe hs,fun os σ H δ r D s m kq=>?_⟩;obtain⟨y,e1,m⟩:=af m;obtain⟨z,e2,m⟩:=af m;split at m
 ·rename_i ks vs j ho;split at m
  ·rename_i hc;cases m;refine qe os σ H δ y _ s e1 fun v H1 g1 r1=>?_;obtain⟨w1,w2,a,w3,w4,w5,xs,w6,w7⟩:=s.own_at hn hi ho;refine⟨_,w3,qk os σ H1 δ _ _ (s.mono g1) e2 fun u H2 g2 r2=>?_⟩;have g12:=g1.trans g2;rcases w6 with ⟨_,kvs,w6,rfl,rfl⟩ | ⟨z,_⟩
   ·have hlen:kvs.length<sizeLine:=by rw[bH];have:=hc.2;simpa using this
    have hnew:=q8 hc.1;refine⟨a,_,rfl,by rw[r2.int_inv];exact DPut.k (k:=.inl j) (g12 _ _ w6) hlen,?_⟩;rw[jt v hnew];obtain⟨s2,f2⟩:=(s.mono g12).chg (d':=.dic false (kvs.map (fun p=>kD p.1)++[.int j]) (vs++[y])) (o:=.dK (kvs++[(.inl j,v)])) hn hi hfn ho w3
     ⟨_,.inl ⟨rfl,_,aA,by simp[kD],rfl⟩,by rw[List.map_append];exact(w7.mono g12.hd _ _).append (.cons (r1.mono g2.hd _ _) .nil)⟩
    exact kq σ _ os ((Fr.of g12).trans f2) s2
   ·cases z
  ·cases m
 ·cases m
def Hu {kvs:List (Key×V)}(j:Int):((kvs.map fun p=>kD p.1).any fun q=>bP q (.int j))=(cB kvs (.inl j)).isSome:=by
 rw[<-gI,List.any_map];refine congrArg (List.any kvs) (funext fun p=>?_);exact CZ p.1 (.inl j)
def Ht {kvs:List (List Key×V)}(z:List Key):((kvs.map fun p=>kT p.1).any fun q=>bP q (kT z))=(cB kvs z).isSome:=by
 rw[<-gI,List.any_map];refine congrArg (List.any kvs) (funext fun p=>?_);exact CY p.1 z
def pS {K:PySem.W.Frag}{os:List Addr}{H:Hp}{a:Addr}{t:Bool}{ks vs:List D}{xs:List V}{z:D}{u:V}{b:Bool}(L:Live os H)(hd:DcAt H a t ks xs\/DcF H a t ks xs)(r:Den K (hide os H) z u)(m:B8 (.dic t ks vs) z=some b):∃w,nr H a u w/\w.isSome=b:=by
 have rd:(t=false/\∃kvs:List (Key×V),Rd H a (.dK kvs)/\ks=kvs.map fun p=>kD p.1)\/t=true/\∃kvs:List (List Key×V),Rd H a (.dT kvs)/\ks=kvs.map fun p=>kT p.1:=by
  rcases hd with (⟨h1,kvs,h2,h3,_⟩ | ⟨h1,kvs,h2,h3,_⟩) | (⟨h1,o,kvs,h2,h3,_⟩ | ⟨h1,o,kvs,h2,h3,_⟩)
  ·exact .inl ⟨h1,kvs,.inl h2,h3⟩
  ·exact .inr ⟨h1,kvs,.inl h2,h3⟩
  ·exact .inl ⟨h1,kvs,.inr ⟨o,h2⟩,h3⟩
  ·exact .inr ⟨h1,kvs,.inr ⟨o,h2⟩,h3⟩
 rcases rd with ⟨rfl,kvs,h,rfl⟩ | ⟨rfl,kvs,h,rfl⟩
 ·cases z with
  | int i =>
    have m':some ((kvs.map fun p=>kD p.1).any fun q=>bP q (.int i))=some b:=m;rw[Hu] at m';cases m';rw[r.int_inv];exact⟨cB kvs (.inl i),.inl ⟨kvs,.inl i,h,rfl,rfl⟩,rfl⟩
  | _=>cases m
 ·have m':(if fI z=true then some ((kvs.map fun p=>kT p.1).any fun q=>bP q z) else none)=some b:=by
   cases z <;> exact m
  split at m'
  ·rename_i hz;obtain⟨kk,rfl⟩:=kW hz;rw[Ht] at m';cases m';obtain⟨c,bs,rfl,hb,hbs⟩:=r.tup_inv;have:=cR hbs;subst this;exact⟨cB kvs kk,.inr ⟨kvs,kk,c,h,rfl,hide_le _ _ hb,rfl⟩,rfl⟩
  ·cases m'
end
section
variable {X:Cx}{PX:Prop}{e a b k o:Expr}{me ma mb mk mo:ME}{pos p p2 p3 p4:Pos}
def qd {n i:Nat}(hu:X.A.units+1<cLine)(hn:X.N.length=n)(hi:i<n)(ha:DE X a ma)(hv:PE X o (cn i))(hmk:behindInMarks .NotIn o=false:=by rfl):DT X (.Compare a [.NotIn] [o] pos) (tV (uM n i true ma)):=by
 obtain⟨ta,pa,qa⟩:=ha;refine⟨_,ue (nP hu pa hv) hmk,fun os σ H δ z Q s m kq=>?_⟩;obtain⟨d,m1,m2⟩:=af m;obtain⟨y,e1,m1⟩:=af m1;obtain⟨dd,e2,m1⟩:=af m1;obtain⟨c,e3,m1⟩:=af m1;cases m1;cases m2;refine qa os σ H δ y _ s e1 fun u H1 g1 r1=>?_;obtain⟨h1,h2,a,w3,w4,w5,w6⟩:=(s.mono g1).own_at hn hi e2;cases dd with
 | dic t ks vs =>
   obtain⟨xs,w6,_⟩:=w6;obtain⟨w,w7,w8⟩:=pS (vs:=vs) (s.mono g1).live (.inl w6) r1 e3;exact⟨_,w3,a,w,rfl,w7,_,rfl,by rw[w8,<-Bool.bne_true];exact kq H1 g1⟩
 | _=>cases e3
def Ez (hu:X.A.units+1<cLine)(ha:DE X a ma)(hb:DE X b mb)(hmk:behindInMarks .In b=false:=by rfl):DT X (.Compare a [.In] [b] pos) (tV (az (pJ false) ma mb)):=by
 obtain⟨ta,pa,qa⟩:=ha;obtain⟨tb,pb,qb⟩:=hb;refine⟨_,ue (zA hu pa pb) hmk,fun os σ H δ z Q s m kq=>?_⟩;obtain⟨d,m1,m2⟩:=af m;obtain⟨y,e1,m1⟩:=af m1;obtain⟨dd,e2,m1⟩:=af m1;obtain⟨c,e3,m1⟩:=af m1;cases m1;cases m2;refine qa os σ H δ y _ s e1 fun u H1 g1 r1=>?_;refine qb os σ H1 δ dd _ (s.mono g1) e2 fun v H2 g2 r2=>?_;cases dd with
 | dic t ks vs =>
   obtain⟨a,xs,rfl,hF,_⟩:=r2.dic_inv;have hF':DcF H2 a t ks xs:=by
    rcases hF with ⟨q1,ob,kvs,q2,q3⟩ | ⟨q1,ob,kvs,q2,q3⟩
    ·exact .inl ⟨q1,ob,kvs,hide_le _ _ q2,q3⟩
    ·exact .inr ⟨q1,ob,kvs,hide_le _ _ q2,q3⟩
   obtain⟨w,w7,w8⟩:=pS (vs:=vs) ((s.mono g1).mono g2).live (.inr hF') (r1.mono g2.hd _ _) e3;exact⟨a,w,rfl,w7,_,rfl,by rw[w8];have z:=kq H2 (g1.trans g2);rwa [Bool.bne_false] at z⟩
 | _=>cases e3
def Cm (hu:X.A.units+1<cLine)(ha:DE X a ma)(hb:DE X b mb)(hmk:behindInMarks .NotIn b=false:=by rfl):DT X (.Compare a [.NotIn] [b] pos) (tV (az (pJ true) ma mb)):=by
 obtain⟨ta,pa,qa⟩:=ha;obtain⟨tb,pb,qb⟩:=hb;refine⟨_,ue (nP hu pa pb) hmk,fun os σ H δ z Q s m kq=>?_⟩;obtain⟨d,m1,m2⟩:=af m;obtain⟨y,e1,m1⟩:=af m1;obtain⟨dd,e2,m1⟩:=af m1;obtain⟨c,e3,m1⟩:=af m1;cases m1;cases m2;refine qa os σ H δ y _ s e1 fun u H1 g1 r1=>?_;refine qb os σ H1 δ dd _ (s.mono g1) e2 fun v H2 g2 r2=>?_;cases dd with
 | dic t ks vs =>
   obtain⟨a,xs,rfl,hF,_⟩:=r2.dic_inv;have hF':DcF H2 a t ks xs:=by
    rcases hF with ⟨q1,ob,kvs,q2,q3⟩ | ⟨q1,ob,kvs,q2,q3⟩
    ·exact .inl ⟨q1,ob,kvs,hide_le _ _ q2,q3⟩
    ·exact .inr ⟨q1,ob,kvs,hide_le _ _ q2,q3⟩
   obtain⟨w,w7,w8⟩:=pS (vs:=vs) ((s.mono g1).mono g2).live (.inr hF') (r1.mono g2.hd _ _) e3;exact⟨a,w,rfl,w7,_,rfl,by rw[w8,<-Bool.bne_true];exact kq H2 (g1.trans g2)⟩
 | _=>cases e3
def Fq (td ty:TE):TE:=fun σ H Q=>td σ H fun x H1=>∃a,x=.ref a/\Gr H1 a/\ty σ H1 fun y H2=>∃b kvs more,y=.ref b/\a≠b/\H2 a=some (.dK kvs)/\Rd H2 b (.dK more)/\kvs.length+more.length<=sizeLine/\Q .non (bm H2 a (.dK (eZ kvs more)))
def BJ {td ty:TE}{apos cpos:Pos}(ho:PE X o td)(he:PE X e ty)(m:M1 X o "update" apos e cpos):PE X (.Call (.Attribute o "update" apos) [e] [] cpos) (Fq td ty):=by
 intro pins s σ H Q I h;refine wpAny_Call_method m.base m.few m.line PySem.F.plainAttrs_dict PySem.F.slot_dict_update PySem.F.type_dict_update (bC (ho pins s σ H _ I h) fun u s1 ⟨x,H1,I1,rx,a,ex,d,q1⟩=>?_);subst ex;obtain rfl:u=Value.ref a:=rx;obtain⟨t1,t2,_⟩:=uC I1 d;refine⟨t1,t2,?_⟩;rw[m.trees];refine Calls.callWith_builtin rfl (Calls.evalArgs_plain (Calls.spliced_cons (bC (he pins s1 σ H1 _ I1 q1) fun iv s2 ⟨y,H2,I2,ry,b,kvs,more,ey,hab,ea,eb,hl,q2⟩=>Calls.spliced_nil ?_)));subst ey;obtain rfl:iv=Value.ref b:=ry;obtain⟨z,hd,vs,rel,dd⟩:=wu I2.hok ea;obtain⟨z',hd',ws,rel',dd'⟩:=jN I2.hok eb;have l1:=rel.length;have l2:=rel'.length;refine call_meetsIn PySem.F.slot_dict_update dd.typeIs PySem.F.entry_dict_update (PySem.F.args_dict_update_2 _ _) (meets_dict_update (aW X.prog X.w) a b hab hd') ⟨vs,ws,dd,dd',by omega,fun h' e1 e2 sb=>⟨.non,_,?_,rfl,q2⟩⟩;have hz:(eZ kvs more).length<=sizeLine:=by have:=fH more kvs;omega
 exact iB (t':=s2.toks) I2 (by rw[ea];exact True.intro) sb (let ⟨q,_,_,hq,_⟩:=e1;⟨q,hq⟩) (qg hz hd (rel'.merge rel) e1)
def nY:∀(more kvs:List (Key×V)),(∀q∈more,∃j,q.1=.inl j)->nj (kvs.map fun p=>kD p.1) (more.map fun p=>kD p.1)=true->eZ kvs more=kvs++more
 | [],kvs,_,_=>by simp[eZ]
 | (k,v)::more,kvs,hk,h=>by
   rw[List.map_cons,nj,Bool.and_eq_true] at h;obtain⟨j,hj⟩:=hk _ List.mem_cons_self;simp only at hj;subst hj;have e:putK kvs (.inl j) v=kvs++[(.inl j,v)]:=jt v (q8 h.1);have:eZ kvs ((.inl j,v)::more)=eZ (putK kvs (.inl j) v) more:=rfl;rw[this,e,nY more _ (fun q hq=>hk q (List.mem_cons_of_mem _ hq)) (by rw[List.map_append];exact h.2),List.append_assoc];rfl
def EA {n i:Nat}(hn:X.N.length=n)(hi:i<n)(hfn:X.fn ""=true)(hv:PE X o (cn i))(he:DE X e me)(hb:attributeBase o "update" X.env (eval o X.env)=eval o X.env:=by rfl)
 (hf:((backTo p3 (starEach [e] X.env)).all (fun x => !x.1)&&(backToKw p3 (keywordEach [] X.env)).all (fun x=>x.1.isSome)&&decide (([e]:List Expr).length+([]:List Keyword).length+(if ([]:List Keyword).isEmpty then 0 else 1)<30))=true:=by rfl)
 (hl:(p2.endLine==p3.line)=true:=by rfl) (ht:backTo p3 (starEach [e] X.env)=[(false,eval e X.env)]:=by rfl) :
 DS X PX (.Expr (.Call (.Attribute o "update" p2) [e] [] p3) p4) (Bv n i me):=by
 obtain⟨te,pe,qe⟩:=he;refine⟨_,iq (BJ hv pe ⟨hb,hf,hl,ht⟩),fun os σ H δ r D s m kq=>?_⟩;obtain⟨y,e1,m⟩:=af m;split at m
 ·rename_i ks vs ls ws ho;split at m
  ·rename_i hc;cases m;obtain⟨w1,w2,a,w3,w4,w5,xs,w6,w7⟩:=s.own_at hn hi ho;rcases w6 with ⟨_,kvs,w6,rfl,rfl⟩ | ⟨z,_⟩
   ·refine⟨_,w3,a,rfl,.inl ⟨kvs,.inl w6⟩,qe os σ H δ _ _ s e1 fun v H1 g1 r1=>?_⟩;obtain⟨b,ys,rfl,hF,hy⟩:=r1.dic_inv;rcases hF with ⟨_,ob,more,f1,rfl,rfl⟩ | ⟨z,_⟩
    ·have ea:=g1 _ _ w6;have eb:=hide_le _ _ f1;have hab:a≠b:=fun z=>by
      subst z;rw[ea] at eb;cases eb
     have hk:∀q∈more,∃j,q.1=.inl j:=fun q hq=>by
      have:=List.all_eq_true.mp hc.2.1 (kD q.1) (List.mem_map.mpr ⟨q,hq,rfl⟩);cases hq1:q.1 with
      | inl j=>exact⟨j,rfl⟩
      | inr x=>rw[hq1] at this;cases this
     have hmg:=nY more kvs hk hc.1;refine⟨b,kvs,more,rfl,hab,ea,.inr ⟨ob,eb⟩,by rw[bH];have:=hc.2.2;simpa using this,?_⟩;rw[hmg];obtain⟨s2,f2⟩:=(s.mono g1).chg (d':=.dic false (kvs.map (fun p=>kD p.1)++more.map (fun p=>kD p.1)) (vs++ws)) (o:=.dK (kvs++more)) hn hi hfn ho w3
      ⟨_,.inl ⟨rfl,_,aA,by simp,rfl⟩,by rw[List.map_append];exact(w7.mono g1.hd _ _).append hy⟩
     exact kq σ _ os ((Fr.of g1).trans f2) s2
    ·cases z
   ·cases z
  ·cases m
 ·cases m
end
section
variable {X:Cx}{PX:Prop}{e a b k o:Expr}{me ma mb mk mo:ME}{pos p p2 p3 p4:Pos}
def B3 {P:Program}{w:World}{k:Key}{v:Value}(h:(aW P w).is k v=true):RelV (kV k) v:=by
 cases k with
 | inl i =>
   have h':Value.isInt i v=true:=h;cases v with
   | int j t =>
     have e:(j==i)=true:=h';exact⟨t,by rw[eq_of_beq e]⟩
   | _=>cases h'
 | inr x =>
   have h':Value.isStrOf x v=true:=h;cases v with
   | str y t =>
     have e:(y==x)=true:=h';exact⟨t,by rw[eq_of_beq e]⟩
   | _=>cases h'
def AK (hc:X.calm=true):dr X (.type "list") (fun xs H Q=>∃a kvs,xs=[.ref a]/\Rd H a (.dK kvs)/\∀p,H p=none->Q (.ref p) (bm H p (.lst (kvs.map fun q=>kV q.1)))):=by
 intro pins s σ H xs us Q I r h;obtain⟨a,kvs,rfl,hq,q⟩:=h;obtain⟨u,rfl,ru⟩:=vals1 r;cases ru;obtain⟨z,hd,vs,rel,dd⟩:=jN I.hok hq;obtain⟨ep,da⟩:=dd.dictAt;have hl:=rel.length;refine PySem.W.kdl_call (PySem.W.kdl_dict (knd:=aW X.prog X.w) (kvs:=vs) (ep:=ep) hd) (I.ok.hd hc) da (by omega) fun h' tk acc c hk hS hacc=>?_;refine⟨.ref s.heap.objs.size,bm H s.heap.objs.size (.lst (kvs.map fun q=>kV q.1)),I.laid (o:=.lst (kvs.map fun q=>kV q.1)) (t':=tk) hk (Nat.le_refl _) ⟨by rw[List.length_map];exact z,acc.toList,c,?_,by simpa using hS⟩,rfl,q _ I.fresh⟩;have hlen:acc.toList.length=vs.length:=by simpa using hacc.1
 have hat:∀(j:Nat) (v:Value),acc.toList[j]? = some v->∃k x,vs[j]? = some (k,x)/\(aW X.prog X.w).is k v=true:=fun j v e=>hacc.2 j v (by rw[<-Array.getElem?_toList];exact e);have keys:=rel.keys;clear hS hacc da dd hk q;generalize acc.toList=l at hlen hat;clear rel hl z hq;induction vs generalizing kvs l with
 | nil =>
   cases l with
   | nil =>
     cases kvs with
     | nil=>exact .nil
     | cons _ _=>cases keys
   | cons _ _=>simp at hlen
 | cons w vs ih =>
   cases kvs with
   | nil=>cases keys
   | cons q kvs =>
     cases l with
     | nil=>simp at hlen
     | cons v l =>
       rw[List.map_cons,List.map_cons] at keys;injection keys with k1 k2;obtain⟨k,x,e1,e2⟩:=hat 0 v rfl;simp at e1;subst e1;refine .cons (by show RelV (kV q.1) v;rw[k1];exact B3 e2) (ih kvs k2 l (by simpa using hlen) fun j v' e=>?_);obtain⟨k',x',e3,e4⟩:=hat (j+1) v' (by simpa using e);exact⟨k',x',by simpa using e3,e4⟩
def sR {K:PySem.W.Frag}{B:Hp}:∀(kvs:List (Key×V)),((kvs.map fun p=>kD p.1).all isInt)=true->Dens K B (kvs.map fun p=>kD p.1) (kvs.map fun q=>kV q.1)
 | [],_=>.nil
 | (k,v)::kvs,h=>by
   rw[List.map_cons,List.map_cons];exact .cons (wx k) (sR kvs (by rw[List.map_cons,List.all_cons,Bool.and_eq_true] at h;exact h.2))
def Az (hc:X.calm=true)(hg:Gl X "list")(hm:X.mg "list"=none)(he:DE X e me)(s1:starEach [e] X.env=(false,eval e X.env)::starEach [] X.env:=by rfl)(hpl:(backTo pos (starEach [] X.env)).any (·.1)=false:=by rfl) :
 DF X (.Call (.Name "list" p) [e] [] pos) (kF rc me):=by
 obtain⟨te,pe,qe⟩:=he;refine⟨_,j6 (AK hc) hg hm rfl (aI pe bF s1) (he:=s1) (hpl:=hpl),fun os σ H δ d Q s m k=>?_⟩;obtain⟨dx,e1,m⟩:=af m;refine qe os σ H δ dx _ s e1 fun v H1 g1 r1=>?_
 match dx,m with
 | .dic false ks vs,m =>
   have m':(if (ks.all isInt)=true/\ks.length<=16777216 then some (D.lst ks) else none)=some d:=m;split at m'
   ·rename_i hc;cases m';obtain⟨a,xs,rfl,hF,_⟩:=r1.dic_inv;rcases hF with ⟨_,ob,kvs,f1,rfl,rfl⟩ | ⟨z,_⟩
    ·refine⟨a,kvs,rfl,.inr ⟨ob,hide_le _ _ f1⟩,fun p hp=>?_⟩;exact k p _ (g1.trans (aF hp _)) (g1.free hp) ⟨_,aA,(sR kvs hc.1)⟩
    ·cases z
   ·cases m'
def xy (m:ME):A8 (kF rc m):=fun δ d h=>by
 obtain⟨x,_,h⟩:=Option.bind_eq_some_iff.mp h;cases x with
 | dic t ks vs =>
   cases t with
   | true=>cases h
   | false =>
     have h':(if (ks.all isInt)=true/\ks.length<=16777216 then some (D.lst ks) else none)=some d:=h;split at h'
     ·cases h';exact⟨ks,rfl⟩
     ·cases h'
 | _=>cases h
end
section
variable {X:Cx}{PX:Prop}{e a b k o:Expr}{me ma mb mk mo:ME}{pos p p2 p3 p4:Pos}
noncomputable def Hc (i:Int):Value->Bool
 | .int j _=>j==i
 | _=>false
def zI:Hi X "list.index" (fun x vs H Q=>∃(l:Addr) (is:List Int) (i:Int),x=.ref l/\vs=[.int i]/\SqL X.K H l (is.map V.int)/\i∈is/\Q (.int (is.idxOf i:Nat)) H):=by
 intro pins s σ H x vs v us Q I rx rv h;obtain⟨l,is,i,rfl,rfl,hq,hi,q⟩:=h;cases rx;obtain⟨u,rfl,t,rfl⟩:=vals1 rv;obtain⟨its,r,⟨⟨c2,d2,dt2,sl2⟩,n2,e2,c2',d2',t2'⟩,hz⟩:=I.list hq;simp only at c2' d2' t2';subst c2' d2' t2';have hints:=intsAre_of r;have hlen:its.length=is.length:=IntsAre.length hints;have hat:∀(m:Nat) (hm:m<its.length),∃t',its[m]=.int (is[m]'(by omega)) t':=fun m hm=>by
  obtain⟨t',e⟩:=IntsAre.int_at hints m its[m] (List.getElem?_eq_getElem hm);exact⟨t',by rw[e];simp[show m<is.length by omega]⟩
 have hj:is.idxOf i<is.length:=List.idxOf_lt_length_of_mem hi;have hzz:its.length<=sizeLine:=by rw[hlen];rw[List.length_map] at hz;exact hz
 have hbig:sizeLine<2 ^ 63-1:=by rw[sizeLine_eq];decide
 refine call_meets PySem.F.slot_list_index ⟨_,e2,rfl⟩ PySem.F.entry_list_index (PySem.F.args_list_index_2 _ _)
  (SeqAt.list_indexAt l its.toArray n2 none sl2 (.int i t) (Hc i) (is.idxOf i) (by simp;omega) (by omega) ?_ ?_) ⟨e2,fun y hy=>?_,⟨.int (is.idxOf i:Nat),H,I.tok _,⟨_,rfl⟩,q⟩⟩
 ·obtain⟨t',e'⟩:=hat (is.idxOf i) (by omega);simp only[List.getElem_toArray];rw[e'];simp[Hc]
 ·intro m hm hlt;obtain⟨t',e'⟩:=hat m (by simpa using hm);simp only[List.getElem_toArray];rw[e'];have hz:(is[m]'(by simp at hm;omega)==i)=false:=List.not_of_lt_findIdx (p:=(·==i)) (show m<List.findIdx (·==i) is from hlt);exact hz
 ·obtain⟨m,hm,rfl⟩:=List.mem_iff_getElem.mp (by simpa using hy);obtain⟨t',e'⟩:=hat m hm;rw[e'];exact SeqAt.EqAt.int_int _ _ _ _
def sU (ho:DE X o mo)(he:DE X e me)(hb:attributeBase o "index" X.env (eval o X.env)=eval o X.env:=by rfl)
 (hf:((backTo p3 (starEach [e] X.env)).all (fun x => !x.1)&&(backToKw p3 (keywordEach [] X.env)).all (fun x=>x.1.isSome)&&decide ([e].length+([]:List Keyword).length+(if ([]:List Keyword).isEmpty then 0 else 1)<30))=true:=by rfl)
 (hl:(p2.endLine==p3.line)=true:=by rfl) (hs:starEach [e] X.env=(false,eval e X.env)::starEach [] X.env:=by rfl) (hpl:(backTo p3 (starEach [] X.env)).any (·.1)=false:=by rfl) :
 DE X (.Call (.Attribute o "index" p2) [e] [] p3) (az i7 mo me):=by
 obtain⟨to,po,qo⟩:=ho;obtain⟨te,pe,qe⟩:=he;refine⟨_,vR PySem.F.plainAttrs_list PySem.F.slot_list_index PySem.F.type_list_index zI po (aI pe bF hs) hb hf hl hs hpl,fun os σ H δ d Q s m k=>?_⟩;obtain⟨x,e1,m⟩:=af m;obtain⟨y,e2,m⟩:=af m;refine qo os σ H δ x _ s e1 fun v H1 g1 r1=>?_
 match x,y,e1,e2,m with
 | .lst ds,.int i,e1,e2,m =>
   obtain⟨is,m1,m⟩:=af m;obtain⟨hi,m⟩:i∈is/\some (D.int (is.idxOf i:Nat))=some d:=by
    split at m
    ·rename_i h;exact⟨h,m⟩
    ·cases m
   cases m;obtain⟨l,xs,rfl,h1,d1⟩:=r1.lst_inv;refine⟨.inl ⟨rfl,xs,hide_le.seq h1⟩,qe os σ H1 δ _ _ (s.mono g1) e2 fun w H2 g2 r2=>?_⟩;rw[cH m1 d1] at h1;exact⟨l,is,i,rfl,by rw[r2.int_inv],(g2.hd.trans hide_le).seq h1,hi,k _ H2 (g1.trans g2) (.int _)⟩
end
section
variable {X:Cx}{PX:Prop}{e a b k o:Expr}{me ma mb mk mo:ME}{pos p p2 p3 p4:Pos}
def Dk (tk te:TE):TE:=fun σ H Q=>∀p,H p=none->tk σ (bm H p (.dT [])) fun y H1=>te σ H1 fun v H2=>H2 p=some (.dT [])/\∃b kk,y=.ref b/\H2 b=some (.tup (kk.map kV))/\Q (.ref p) (bm H2 p (.dT [(kk,v)]))
def zy {tk te:TE}(hu:X.A.units<cLine)(hk:PE X k tk)(he:PE X e te):PE X (.Dict [some k] [e] pos) (Dk tk te):=by
 intro pins s σ H Q I q;have hn:=I.hok.fresh (Nat.le_refl s.heap.objs.size);have I1:=I.laid (a:=s.heap.objs.size) (o:=.dT []) (h':=s.heap.push { cls:=.type "dict",data:=.dict #[] }) (t':=s.toks) (fun _ _ q=>Heap.get?_push_of_some _ q) (Nat.le_refl _) (sM s.heap I.big);refine wpAny_Dict_any rfl rfl (by simp) (by show 1<=15;decide) ?_;refine pairTrees_cons_walk (bC (hk pins _ σ _ _ I1 (q _ hn)) fun kv s1 ⟨y,H1,I1',ry,q1⟩=>bC (he pins s1 σ H1 _ I1' q1) fun vv s2 ⟨v,H2,I2,rv,ed,b,kk,ey,eb,q2⟩=>pairTrees_nil_walk ?_);subst ey;obtain rfl:kv=Value.ref b:=ry;obtain⟨z,hd,xs,rel,dd⟩:=C4 I2.hok ed;cases rel;unfold storeAll;simp only[List.forIn_cons,List.forIn_nil];refine wpAny_bind (wpAny_bind (wpAny_dictSet_heap (hsz:=by simp) (knd:=tupleKind (aW X.prog X.w)) hu (L2.key_of I2.hok eb) dd fun h' dd' hs=>wpAny_pure (wpAny_pure ⟨.ref s.heap.objs.size,_,?_,rfl,q2⟩)));obtain⟨ob,es,ep,hq,h2,h3,h4,_,h5⟩:=dd';refine iB I2 (by rw[ed];exact True.intro) hs ⟨ob,hq⟩ ⟨by rw[sizeLine_eq];show 1<=_;decide,hd,[(kk,b,vv)],.cons ⟨rfl,?_,rv⟩ .nil,ob,es,ep,hq,h2,h3,h4,h5⟩;show bm H2 _ _ b=_;rw[ay (CS eb ed (fun z=>nomatch z))];exact eb
def xR (hu:X.A.units<cLine)(hk:DE X k mk)(he:DE X e me):DF X (.Dict [some k] [e] pos) (kX mk me):=by
 obtain⟨tk,pk,qk⟩:=hk;obtain⟨te,pe,qe⟩:=he;refine⟨_,zy hu pk pe,fun os σ H δ d Q s m kq=>?_⟩;obtain⟨z,e1,m⟩:=af m;obtain⟨y,e2,m⟩:=af m;intro p hp;have s1:=s.mono (aF hp (.dT []));refine qk os σ _ δ z _ s1 e1 fun u H1 g1 r1=>?_;refine qe os σ H1 δ y _ (s1.mono g1) e2 fun v H2 g2 r2=>?_;split at m
 ·rename_i hc;cases m;obtain⟨kk,rfl⟩:=kW hc.1;have g12:=g1.trans g2;have hp2:H2 p=some (.dT []):=g12 _ _ aA;obtain⟨b,bs,rfl,hb,hbs⟩:=r1.tup_inv;have:=cR hbs;subst this;refine⟨hp2,b,kk,rfl,g2 _ _ (hide_le _ _ hb),kq p _ (fun b w z=>?_) hp ?_⟩
  ·rw[ay (aC z hp)];exact g12 _ _ ((ay (aC z hp)).trans z)
  ·refine⟨[v],.inr ⟨rfl,[(kk,v)],aA,rfl,rfl⟩,.cons (Den.fl (fun c xs z=>?_) y v hc.2 r2) .nil⟩;have hcp:c≠p:=fun z'=>by
    rw[z'] at z;have:=hide_le _ _ z;rw[hp2] at this;cases this
   have hos:c∉os:=fun y=>by rw[aX y] at z;cases z
   rw[ao (by simp[hos,hcp]),ay hcp];exact hide_le _ _ z
 ·cases m
end
section
variable {X:Cx}{scX sc:Scope}{NX N:List Str}{k n:Nat}{fv:List Nat}{PX:Prop}
end
section
variable {X:Cx}{scX sc:Scope}{NX N:List Str}{k:Nat}{fv:List Nat}
def uX {use:Option (Value->Sem Unit)}{QQ:Value->Shared->Prop}{tg iter:Expr}{lp:Pos}{pos:Pos}{mi:MI}{g:MG}{B:Ev->Ev}(hB:Blk X k fv B)(hc:X.calm=true)(S:bv scX sc NX N k fv)(hX:X.env.scope=scX)(hN:X.N=NX)(hi:DI X tg iter mi)(hbl:Below k g)
 (hb:∀C s H fp,DG (fN X sc N C s H fp) tg g)
 (hs:∀x,foldedSetIterable iter X.env x=pure x:=by intro _;rfl)
 {pins:List (Addr×Obj)} {s:Shared} {σ:L2.St} {H:Hp} {os:List Addr} {δ:Ev} {d:D} (I:Inv X pins σ H s) (sl:Sl X os H δ σ) (m:ib B mi g tT (cw ak) δ=some d)
 (fin:∀(Cc Dd:Addr) (s4:Shared) (Hd:Hp),(∀h',Heap.SameBut Cc s4.heap h'->Inv X pins σ Hd { s4 with heap:=h' })->(∃m,s4.heap.Ns Cc m)->ik X pins Hd Cc->Same H Hd->H Dd=none->(∃as:List Addr,d=.lst (List.replicate as.length (.lst []))/\Hd Dd=some (.lst (as.map V.ref))/\as.Nodup/\∀y∈as,Hd y=some (.lst [])/\H y=none) ->
  compPost (model X.prog X.w) X.A X.xe use QQ (.ref Dd) Cc (.ok .next) s4) :
 wpAny (model X.prog X.w) X.A (comprehension (.ListComp (.List [] lp) [⟨tg,iter,[],0⟩] sc pos) sc X.env (firstIterPos [⟨tg,iter,[],0⟩] pos) (newList []) (firstAsync [⟨tg,iter,[],0⟩]) (firstIter [⟨tg,iter,[],0⟩] X.env) use) QQ X.xe s:=by
 refine mK (os:=os) (H0:=H) (ifs:=[]) (mc:=tT) (me:=cw ak) hB hc S hX hN hi hbl (Nat.zero_le _) (fun H' ys vs=>∃as:List Addr,vs=as.map V.ref/\ys=List.replicate as.length (.lst [])/\as.Nodup/\∀y∈as,H' y=some (.lst [])/\H y=none) (fun _=>⟨[],rfl,rfl,List.nodup_nil,fun y h=>by cases h⟩) (fun g h=>?_) (fun h=>?_) (fun C s' H' fp=>⟨hb C s' H' fp,(show qL (fN X sc N C s' H' fp) [] tT from rfl),_,uk bF,fun σ' H7 δ1 dd s1 g e=>?_⟩) hs I sl m fun Cc Dd s4 Hd a1 a2 a3 a4 a5 a6=>?_
 ·obtain⟨as,h1,h2,h3,h4⟩:=h;exact⟨as,h1,h2,h3,fun y hy=>⟨g _ _ (h4 y hy).1,(h4 y hy).2⟩⟩
 ·obtain⟨as,rfl,rfl,_⟩:=h;simp
 ·cases e;refine⟨Nat.zero_le _,fun p hp=>⟨aF hp _,?_⟩⟩;rintro _ _ ⟨as,rfl,rfl,nd,ha⟩;have n8:p∉as:=fun z=>by
   have:=(ha p z).1;rw[hp] at this;cases this
  refine⟨as++[p],by simp,by rw[List.length_append];exact(List.replicate_succ' ..).symm,List.nodup_append.mpr ⟨nd,by simp,fun x hx y hy=>by rw[List.mem_singleton] at hy;subst hy;exact fun z=>n8 (z ▸ hx)⟩,fun y hy=>?_⟩;rcases List.mem_append.mp hy with hy | hy
  ·exact⟨aF hp _ _ _ (ha y hy).1,(ha y hy).2⟩
  ·rw[List.mem_singleton.mp hy];exact⟨aA,g.free hp⟩
 ·obtain⟨H3,ys,vs,rfl,⟨as,rfl,rfl,nd,ha⟩,h2,rfl⟩:=a6;exact fin Cc Dd s4 _ a1 a2 a3 a4 a5 ⟨as,rfl,aA,nd,fun y hy=>⟨aF h2 _ _ _ (ha y hy).1,(ha y hy).2⟩⟩
end
structure Mat (H:Hp)(p:Addr)(as:List Addr)(rows:List (List Int)):Prop where
 top:H p=some (.lst (as.map V.ref))
 nd:as.Nodup
 len:as.length=rows.length
 at_:∀(j:Nat) (a:Addr) (r:List Int),as[j]? = some a->rows[j]? = some r->H a=some (.lst (r.map V.int))
def Mat.mono {H H':Hp}{p:Addr}{as:List Addr}{rows:List (List Int)}(m:Mat H p as rows)(g:Same H H'):Mat H' p as rows:=⟨g _ _ m.top,m.nd,m.len,fun j a r h1 h2=>g _ _ (m.at_ j a r h1 h2)⟩
def Mat.ne {H:Hp}{p a:Addr}{as:List Addr}{rows:List (List Int)}{j:Nat}(m:Mat H p as rows)(h:as[j]? = some a):p≠a:=fun z=>by
 have hj:j<rows.length:=by rw[<-m.len];exact(List.getElem?_eq_some_iff.mp h).1
 have e:=m.at_ j a rows[j] h (List.getElem?_eq_getElem hj);rw[<-z,m.top] at e;have e2:as.map V.ref=rows[j].map V.int:=by injection e with e;injection e
 have:V.ref a∈rows[j].map V.int:=e2 ▸ List.mem_map.mpr ⟨a,List.mem_of_getElem? h,rfl⟩;obtain⟨_,_,q⟩:=List.mem_map.mp this;cases q
def Mat.app {H:Hp}{p a:Addr}{as:List Addr}{rows:List (List Int)}{j:Nat}{r:List Int}(m:Mat H p as rows)(h:as[j]? = some a)(hr:rows[j]? = some r)(n:Int):Mat (bm H a (.lst (r.map V.int++[.int n]))) p as (rows.set j (r++[n])):=by
 refine⟨(ay (m.ne h)).trans m.top,m.nd,by rw[List.length_set];exact m.len,fun i b q h1 h2=>?_⟩;have hj:j<rows.length:=(List.getElem?_eq_some_iff.mp hr).1;by_cases hij:i=j
 ·subst hij;rw[h] at h1;cases h1;rw[List.getElem?_set_self hj] at h2;cases h2;rw[aA,List.map_append];rfl
 ·rw[List.getElem?_set_ne (Ne.symm hij)] at h2;have hb:b≠a:=fun z=>hij (by
   subst z;have l1:=(List.getElem?_eq_some_iff.mp h1);have l2:=(List.getElem?_eq_some_iff.mp h);exact ut m.nd l1.1 l2.1 (l1.2.trans l2.2.symm))
  rw[ay hb];exact m.at_ i b q h1 h2
structure Lay (X:Cx)(os:List Addr)(p:Addr)(as:List Addr)(H:Hp)(δ:Ev)(σ:L2.St)(rows:List (List Int)):Prop where
 sl:Sl X (p::(as++os)) H δ σ
 mt:Mat H p as rows
 s2:σ[2]? = some (some (.ref p))
 six:σ.length=6
 d6:δ.length=6
 d2:δ[2]? = some none
 nu:∀y∈p::as,X.H₀ y=none
section
variable {X:Cx}{os:List Addr}{p:Addr}{as:List Addr}{H H':Hp}{δ:Ev}{σ:L2.St}{rows:List (List Int)}
def Lay.mono (h:Lay X os p as H δ σ rows)(g:Same H H'):Lay X os p as H' δ σ rows:=⟨h.sl.mono g,h.mt.mono g,h.s2,h.six,h.d6,h.d2,h.nu⟩
def Lay.set (h:Lay X os p as H δ σ rows)(hN:X.N.length=6){i:Nat}{d:D}{v:V}(hi:i<6)(h2:i≠2)(r:Den X.K (hide (p::(as++os)) H) d v):Lay X os p as H (δ.set i (some d)) (σ.set i (some v)) rows :=
 ⟨h.sl.set i (by rw[hN];exact hi) r,h.mt,by rw[List.getElem?_set_ne h2];exact h.s2,by rw[List.length_set];exact h.six,by rw[List.length_set];exact h.d6,by rw[List.getElem?_set_ne h2];exact h.d2,h.nu⟩
def Lay.app (h:Lay X os p as H δ σ rows)(hN:X.N.length=6){j:Nat}{a:Addr}{r:List Int}(ha:as[j]? = some a)(hr:rows[j]? = some r)(n:Int) :
 Lay X os p as (bm H a (.lst (r.map V.int++[.int n]))) δ σ (rows.set j (r++[n]))/\hide (p::(as++os)) (bm H a (.lst (r.map V.int++[.int n])))=hide (p::(as++os)) H:=by
 have ma:a∈p::(as++os):=List.mem_cons_of_mem _ (List.mem_append_left _ (List.mem_of_getElem? ha));have hd:hide (p::(as++os)) (bm H a (.lst (r.map V.int++[.int n])))=hide (p::(as++os)) H:=by
  funext b
  by_cases hb:b∈p::(as++os)
  ·rw[aX hb,aX hb]
  ·rw[ao hb,ao hb,ay (fun z:b=a=>hb (by rw[z];exact ma))]
 have h0:X.H₀ a=none:=h.nu a (List.mem_cons_of_mem _ (List.mem_of_getElem? ha));refine⟨⟨⟨h.sl.n,h.sl.len,fun i d hi q=>?_,fun i d hi q1 q2=>?_,fun i k d e b hi hk q1 q2 q3=>?_,fun b hb=>?_,fun b u e=>?_⟩,h.mt.app ha hr n,h.s2,h.six,h.d6,h.d2,h.nu⟩,hd⟩
 ·rw[hd];exact h.sl.pl i d hi q
 ·rw[List.getElem?_eq_none (by rw[h.d6,hN];omega)] at q2;cases q2
 ·rw[List.getElem?_eq_none (by rw[h.d6,hN];omega)] at q3;cases q3
 ·by_cases hba:b=a
  ·subst hba;exact⟨_,aA,True.intro⟩
  ·obtain⟨u,e,q⟩:=h.sl.live b hb;exact⟨u,(ay hba).trans e,q⟩
 ·rw[ay (aC e h0)];exact h.sl.keep b u e
def tq (rows:List (List Int))(n c:Int)(cs:List Int):b9 rows n (cs++[c])=(b9 rows n cs).set c.toNat ((b9 rows n cs).getD c.toNat []++[n]):=by
 unfold b9;rw[List.foldl_append];rfl
def fh (n:Int):∀(cs:List Int) (rows:List (List Int)),(b9 rows n cs).length=rows.length
 | [],_=>rfl
 | c::cs,rows=>by
   show (b9 (rows.set _ _) n cs).length=_;rw[fh n cs,List.length_set]
def jT (n:Int){B:Nat}:∀(cs:List Int) (rows:List (List Int)),(∀r∈rows,r.length+cs.length<=B)->∀r∈b9 rows n cs,r.length<=B
 | [],rows,h,r,hr=>h r hr
 | c::cs,rows,h,r,hr=>by
   refine jT n cs (rows.set c.toNat (rows.getD c.toNat []++[n])) (fun q hq=>?_) r hr;rcases List.mem_or_eq_of_mem_set hq with z | z
   ·have:=h q z;simp only[List.length_cons] at this;omega
   ·rw[z,List.length_append,List.length_singleton];by_cases hc:c.toNat<rows.length
    ·have:=h _ (List.getElem_mem hc);simp only[List.length_cons] at this;simp[List.getD_eq_getElem?_getD,hc];omega
    ·have:rows.getD c.toNat []=[]:=by simp[List.getD_eq_getElem?_getD,Nat.not_lt.mp hc]
     rw[this];by_cases hz:c.toNat<rows.length
     ·exact absurd hz hc
     ·rw[List.set_eq_of_length_le (Nat.not_lt.mp hz)] at hq;have:=h q hq;simp only[List.length_cons] at this;simp;omega
end
section
variable {X:Cx}{scX sc:Scope}{NX N:List Str}{k:Nat}{fv:List Nat}{PX:Prop}
noncomputable def Do (X:Cx)(i:Nat)(m:ME):TS:=fun D σ H=>∃os δ d,Sl X os H δ σ/\m δ=some d/\∀(p:Addr) (H':Hp) (as:List Addr),Same H H'->H p=none->d=.lst (List.replicate as.length (.lst []))->H' p=some (.lst (as.map V.ref))->as.Nodup->(∀y∈as,H' y=some (.lst [])/\H y=none)->D.nx (σ.set i (some (.ref p))) H'
def zj {x:Str}{p2 spos lp:Pos}{i:Nat}{tg iter:Expr}{pos:Pos}{mi:MI}{g:MG}{B:Ev->Ev}(hB:Blk X k fv B)(hc:X.calm=true)(S:bv scX sc NX N k fv)(hX:X.env.scope=scX)(hN:X.N=NX)(hi:DI X tg iter mi)(hbl:Below k g)
 (hb:∀C s H fp,DG (fN X sc N C s H fp) tg g) (hpg:PG X (.Name x p2) (dj i))
 (hsw:swapsWith (.ListComp (.List [] lp) [⟨tg,iter,[],0⟩] sc pos) (some (.Name x p2)) spos.line X.env=pure true) (hs:∀x,foldedSetIterable iter X.env x=pure x) :
 PS X (.Assign [.Name x p2] (.ListComp (.List [] lp) [⟨tg,iter,[],0⟩] sc pos) spos) (Do X i (ib B mi g tT (cw ak))):=by
 intro pins s σ H D I h;obtain⟨os,δ,d,sl,m,kq⟩:=h;rw[exec_Assign_Name_used _ _ _ _ hsw];refine wpAny_bind (wpAny_standAt (wpAny_bind ?_));refine wpAny_bind (m:=comprehension (.ListComp (.List [] lp) [⟨tg,iter,[],0⟩] sc pos) sc X.env (firstIterPos [⟨tg,iter,[],0⟩] pos) (newList []) (firstAsync [⟨tg,iter,[],0⟩]) (firstIter [⟨tg,iter,[],0⟩] X.env) (some (assign (.Name x p2) X.env))) (uX (use:=some (assign (.Name x p2) X.env)) hB hc S hX hN hi hbl hb hs I sl m fun Cc Dd s4 Hd hI hns hf gs hn ow=>?_);obtain⟨mm,o,es,ep,ho,hr⟩:=hns;obtain⟨as,o1,o2,o3,o4⟩:=ow;have J:Inv X pins σ Hd s4:=hI s4.heap (Heap.SameBut.refl _ _);have hnc:∀v,o.data≠.cell v:=fun v z=>by
  rw[hr.1] at z;cases z
 have J':=J.pinned (fp:=[Cc]) (fun b hb=>by rw[List.mem_singleton.mp hb];exact hf) (fun b hb=>by rw[List.mem_singleton.mp hb];exact⟨o,ho,hnc⟩);refine wpAny_mono (hpg _ s4 σ Hd (.ref Dd) (.ref Dd) (fun σ' H'=>D.nx σ' H') J' rfl (kq Dd Hd as gs hn o1 o2 o3 o4)) (fun _ s5 q=>?_) fun _ _ z=>z;obtain⟨σ',H',J5,q5⟩:=q;have pin:=J5.pin (Cc,o) (List.mem_append_right _ (List.mem_append_right _ (cr (by simp) ho)));refine⟨mm,⟨o,es,ep,pin.1,hr⟩,fun h' sb=>wpAny_pure (wpAny_pure ?_)⟩;have J6:=J5.unpinned;exact⟨σ',H',J6.turned (it:=Cc) (h':=h') (t':=s5.toks) (fun b ob hb e=>(sb.2 b hb).trans e) pin.2.1 hf.2.1 hf.2.2.2.1 hf.2.2.2.2.1 hf.2.2.2.2.2,q5⟩
end
section
variable {X:Cx}{os:List Addr}{p:Addr}{as:List Addr}{PX:Prop}
def yF (K:PySem.W.Frag):TS:=vj (G8 K "list" vH (Bm (zb K) (cn 2) (cn 5)) (fO (cn 3) tS))
def A1 {H:Hp}{δ:Ev}{σ:L2.St}{rows:List (List Int)}{n c:Int}{D:Ends}(h:Lay X os p as H δ σ rows)(hN:X.N.length=6)(h3:σ[3]? = some (some (.int n)))(h5:σ[5]? = some (some (.int c)))(c0:0<=c)(c1:c<rows.length)(hs:∀r∈rows,r.length<=1000000)
 (k:∀H',Lay X os p as H' δ σ (rows.set c.toNat (rows.getD c.toNat []++[n]))->hide (p::(as++os)) H'=hide (p::(as++os)) H->D.nx σ H'):yF X.K D σ H:=by
 have hj:c.toNat<rows.length:=by omega
 have ha:c.toNat<as.length:=by rw[h.mt.len];exact hj
 have ea:as[c.toNat]? = some as[c.toNat]:=List.getElem?_eq_getElem ha;have er:rows[c.toNat]? = some rows[c.toNat]:=List.getElem?_eq_getElem hj;have hat:=h.mt.at_ _ _ _ ea er;have hg:rows.getD c.toNat []=rows[c.toNat]:=by simp[List.getD_eq_getElem?_getD,hj]
 obtain⟨l1,l2⟩:=h.app hN ea er n;have hix:Bb (as.map V.ref).length c=some c.toNat:=by
  unfold Bb;rw[List.length_map,if_pos c0,if_pos (by rw[h.mt.len];omega)]
 refine⟨_,h.s2,_,h5,p,as.map V.ref,c,.ref as[c.toNat],rfl,rfl,.of h.mt.top,by unfold CF;rw[hix];simp[ea],.inl ⟨rfl,_,.of hat⟩,_,h3,as[c.toNat],rows[c.toNat].map V.int,.int n,rfl,rfl,hat,?_,?_⟩
 ·rw[List.length_map,bH];have:=hs _ (List.getElem_mem hj);omega
 ·exact k _ (by rw[hg];exact l1) l2
end
def oq:∀{ds:List D} {cs:List Int},intsOf ds=some cs->ds=cs.map DL.D.int
 | [],cs,h=>by cases h;rfl
 | .int i::ds,cs,h=>by
   obtain⟨q,h1,h2⟩:=Option.bind_eq_some_iff.mp h;cases h2;rw[oq h1];rfl
section
variable {X:Cx}{os:List Addr}{p:Addr}{as:List Addr}{PX:Prop}{fn:MF}{wi wi2:TI}
def uF {H:Hp}{δ:Ev}{σ:L2.St}{rows:List (List Int)}{n:Int}{es pc:D}{ds:List D}{cs:List Int}{D:Ends}(hN:X.N.length=6)
 (qi:∀os σ H δ xs R,Sl X os H δ σ->br (ah fn (ac (ab 4) (ac (ab 1) ak))) δ=some xs->(∀J H',Same H H'->Walk X.K J (hide os H') xs->R J H')->wi2 σ H R)
 (h:Lay X os p as H δ σ rows) (d1:δ[1]? = some (some es)) (d4:δ[4]? = some (some pc)) (h3:σ[3]? = some (some (.int n))) (hf:fn [pc,es]=some (.lst ds)) (hc:intsOf ds=some cs)
 (h1:∀c∈cs,0<=c/\c<rows.length) (h2:∀r∈rows,r.length+cs.length<=1000000)
 (k:∀H' σ' δ',Lay X os p as H' δ' σ' (b9 rows n cs)->Same (hide (p::(as++os)) H) (hide (p::(as++os)) H')->(∀j,j≠5->δ'[j]? = δ[j]?)->D.nx σ' H') :
 wX wi2 (dj 5) (yF X.K) D σ H:=by
 have hds:=oq hc;subst hds;have e1:ab 1 δ=some es:=by unfold ab slot;rw[d1];rfl
 have e4:ab 4 δ=some pc:=by unfold ab slot;rw[d4];rfl
 have hm:br (ah fn (ac (ab 4) (ac (ab 1) ak))) δ=some (cs.map DL.D.int):=by
  unfold br;rw[aV e4 e1,hf];rfl
 refine qi _ σ H δ _ _ h.sl hm fun J H1 g1 wk=>?_;refine⟨fun i m σ2 H2=>m=cs.length-i/\i<=cs.length/\∃δ2,Lay X os p as H2 δ2 σ2 (b9 rows n (cs.take i))/\Same (hide (p::(as++os)) H1) (hide (p::(as++os)) H2)/\(∀j,j≠5->δ2[j]? = δ[j]?)/\σ2[3]? = some (some (.int n)),
  ⟨cs.length,by simp,Nat.zero_le _,δ,h.mono g1,Same.refl _,fun _ _=>rfl,h3⟩,?_⟩
 rintro i m σ2 H2 ⟨rfl,hi,δ2,L2,g2,hd,s3⟩;obtain⟨w1,w2⟩:=wk i _ H2 L2.sl.live g2;by_cases hlt:i<cs.length
 ·have hx:(cs.map DL.D.int)[i]? = some (.int cs[i]):=by rw[List.getElem?_map,List.getElem?_eq_getElem hlt];rfl
  obtain⟨go,yl⟩:=w1 _ hx;refine .inr ⟨go,fun σ' H'=>∃δ2,Lay X os p as H' δ2 σ' (b9 rows n (cs.take (i+1)))/\Same (hide (p::(as++os)) H1) (hide (p::(as++os)) H')/\(∀j,j≠5->δ2[j]? = δ[j]?)/\σ'[3]? = some (some (.int n)),fun σ' H' q=>⟨cs.length-(i+1),by omega,rfl,hlt,q⟩,fun x H3 y=>?_⟩;obtain⟨g3,r⟩:=yl x H3 y;have hx3:=r.int_inv;subst hx3;have L3:=(L2.mono g3).set hN (i:=5) (by decide) (by decide) r;have hl:(b9 rows n (cs.take i)).length=rows.length:=fh n _ _;obtain⟨c0,c1⟩:=h1 cs[i] (List.getElem_mem hlt);have et:cs.take (i+1)=cs.take i++[cs[i]]:=by rw[List.take_succ,List.getElem?_eq_getElem hlt];rfl
  refine A1 L3 hN (by rw[List.getElem?_set_ne (by decide)];exact s3) (by rw[List.getElem?_set_self (by rw[L2.six];decide)]) c0 (by rw[hl];exact c1) (fun r hr=>jT n (cs.take i) rows (fun q hq=>by have:=h2 q hq;rw[List.length_take];omega) r hr) fun H4 L4 e4=>?_;refine⟨δ2.set 5 (some (.int cs[i])),by rw[et,tq];exact L4,g2.trans ((g3.hd).trans (by rw[e4];exact Same.refl _)),fun j hj=>by rw[List.getElem?_set_ne (Ne.symm hj)];exact hd j hj,by rw[List.getElem?_set_ne (by decide)];exact s3⟩
 ·have e:i=cs.length:=by omega
  subst e;rw[List.take_length] at L2;exact .inl ⟨w2 (by rw[List.length_map]),k H2 σ2 δ2 L2 (g1.hd.trans g2) hd⟩
def FZ (K:PySem.W.Frag):TG:=F0 K 2 (Al (dj 3) (Al (dj 4) F1))
def uo {H:Hp}{δ:Ev}{σ:L2.St}{rows fin:List (List Int)}{es:List D}{ps:List D}{D:Ends}(hN:X.N.length=6)
 (qo:∀os σ H δ xs R,Sl X os H δ σ->mq (ab 0) δ=some xs->(∀J H',Same H H'->Walk X.K J (hide os H') xs->R J H')->wi σ H R)
 (qi:∀os σ H δ xs R,Sl X os H δ σ->br (ah fn (ac (ab 4) (ac (ab 1) ak))) δ=some xs->(∀J H',Same H H'->Walk X.K J (hide os H') xs->R J H')->wi2 σ H R)
 (h:Lay X os p as H δ σ rows) (d0:δ[0]? = some (some (.tup ps))) (d1:δ[1]? = some (some (.lst es))) (hl:ng fn (.lst es) 0 ps rows=some fin)
 (k:∀H' σ' δ',Lay X os p as H' δ' σ' fin->Same (hide (p::(as++os)) H) (hide (p::(as++os)) H')->δ'[0]? = some (some (.tup ps))->δ'[1]? = some (some (.lst es))->D.nx σ' H') :
 wX wi (FZ X.K) (wX wi2 (dj 5) (yF X.K)) D σ H:=by
 have hm:mq (ab 0) δ=some (cQ 0 ps):=by
  unfold mq ab slot;rw[d0];rfl
 refine qo _ σ H δ _ _ h.sl hm fun J H1 g1 wk=>?_;refine⟨fun i m σ2 H2=>m=ps.length-i/\i<=ps.length/\∃δ2 rows2,Lay X os p as H2 δ2 σ2 rows2/\Same (hide (p::(as++os)) H1) (hide (p::(as++os)) H2)/\δ2[0]? = some (some (.tup ps))/\δ2[1]? = some (some (.lst es))/\ng fn (.lst es) i (ps.drop i) rows2=some fin,
  ⟨ps.length,by simp,Nat.zero_le _,δ,rows,h.mono g1,Same.refl _,d0,d1,hl⟩,?_⟩
 rintro i m σ2 H2 ⟨rfl,hi,δ2,rows2,L2,g2,f0,f1,hl2⟩;obtain⟨w1,w2⟩:=wk i _ H2 L2.sl.live g2;by_cases hlt:i<ps.length
 ·have hx:(cQ 0 ps)[i]? = some (.tup [.int (i:Nat),ps[i]]):=by
   have hi':i<(cQ 0 ps).length:=by rw[iy];exact hlt
   obtain⟨e,e1,e2⟩:=mz ps 0 i _ (List.getElem?_eq_getElem hi');rw[List.getElem?_eq_getElem hlt] at e1;cases e1;rw[List.getElem?_eq_getElem hi',e2,Nat.zero_add]
  obtain⟨go,yl⟩:=w1 _ hx;rw[List.drop_eq_getElem_cons hlt,ng] at hl2;obtain⟨d,f2,hl2⟩:=af hl2
  match d,f2,hl2 with
  | .lst ds,f2,hl2 =>
    obtain⟨cs,f3,hl2⟩:=af hl2;split at hl2
    ·rename_i hb;have b1:∀c∈cs,0<=c/\c<rows2.length:=fun c hc=>by
      have:=List.all_eq_true.mp hb.1 c hc;simpa using this
     have b2:∀r∈rows2,r.length+cs.length<=1000000:=fun r hr=>by
      have:=List.all_eq_true.mp hb.2 r hr;simpa using this
     refine .inr ⟨go,fun σ' H'=>∃δ2 rows2,Lay X os p as H' δ2 σ' rows2/\Same (hide (p::(as++os)) H1) (hide (p::(as++os)) H')/\δ2[0]? = some (some (.tup ps))/\δ2[1]? = some (some (.lst es))/\ng fn (.lst es) (i+1) (ps.drop (i+1)) rows2=some fin,fun σ' H' q=>⟨ps.length-(i+1),by omega,rfl,hlt,q⟩,fun x H3 y=>?_⟩;obtain⟨g3,r⟩:=yl x H3 y;obtain⟨t,vs,rfl,ht,dv⟩:=r.tup_inv;obtain⟨v0,r0,rfl,hv0,dv⟩:=dv.uncons;obtain⟨v1,r1,rfl,hv1,dv⟩:=dv.uncons;have:=dv.unnil;subst this;have hv0':=hv0.int_inv;subst hv0';refine⟨t,_,rfl,.of (hide_le _ _ ht),rfl,_,_,rfl,_,_,rfl,rfl,?_⟩;have L3:=((L2.mono g3).set hN (i:=3) (by decide) (by decide) hv0).set hN (i:=4) (by decide) (by decide) hv1;refine uF hN qi L3 (es:=.lst es) (pc:=ps[i]) (n:=(i:Nat)) (cs:=cs) (ds:=ds) (by rw[List.getElem?_set_ne (by decide),List.getElem?_set_ne (by decide)];exact f1) (by rw[List.getElem?_set_self (by rw[List.length_set,L2.d6];decide)])
      (by rw[List.getElem?_set_ne (by decide),List.getElem?_set_self (by rw[L2.six];decide)]) f2 f3 b1 b2 fun H4 σ4 δ4 L4 g4 hd=>?_
     refine⟨δ4,_,L4,g2.trans (g3.hd.trans g4),?_,?_,hl2⟩
     ·rw[hd 0 (by decide),List.getElem?_set_ne (by decide),List.getElem?_set_ne (by decide)];exact f0
     ·rw[hd 1 (by decide),List.getElem?_set_ne (by decide),List.getElem?_set_ne (by decide)];exact f1
    ·cases hl2
 ·have e:i=ps.length:=by omega
  subst e;rw[List.drop_length] at hl2;cases hl2;exact .inl ⟨w2 (by rw[iy]),k H2 σ2 δ2 L2 (g1.hd.trans g2) f0 f1⟩
end
section
variable {X:Cx}{scX sc:Scope}{NX N:List Str}{k:Nat}{fv:List Nat}{PX:Prop}
def zm {o i e:Expr}{p2 p3 p4 p5:Pos}(h2:PE X o (cn 2))(h5:PE X i (cn 5))(h3:PE X e (cn 3))(hix:qK i)(hb:attributeBase (.Subscript o i p5) "append" X.env (eval (.Subscript o i p5) X.env)=eval (.Subscript o i p5) X.env:=by rfl)
 (hf:((backTo p3 (starEach [e] X.env)).all (fun x => !x.1)&&(backToKw p3 (keywordEach [] X.env)).all (fun x=>x.1.isSome)&&decide ([e].length+([]:List Keyword).length+(if ([]:List Keyword).isEmpty then 0 else 1)<30))=true:=by rfl)
 (hl:(p2.endLine==p3.line)=true:=by rfl) (hs:starEach [e] X.env=(false,eval e X.env)::starEach [] X.env:=by rfl) (hpl:(backTo p3 (starEach [] X.env)).any (·.1)=false:=by rfl) :
 PS X (.Expr (.Call (.Attribute (.Subscript o i p5) "append" p2) [e] [] p3) p4) (yF X.K) :=
 iq (vR PySem.F.plainAttrs_list PySem.F.slot_list_append PySem.F.type_list_append nX (vP ix_list h2 h5 hix) (aI h3 bF hs) hb hf hl hs hpl)
def uP {x:Str}{p2 spos lp pos pos1 pos2:Pos}{tg iter tgO iterO tgI iterI:Expr}{stA:Stmt}{rest:List Stmt}{mi:MI}{g:MG}{fn:MF}{m:MS}(h6:X.N.length=6)(hp:PassesOwn (model X.prog X.w) X.A X.env X.xe)(hc:X.calm=true)(S:bv scX sc NX N k fv)(hX:X.env.scope=scX)(hN:X.N=NX)(hi:DI X tg iter mi)(hbl:Below k g)
 (hb:∀C s H fp,DG (fN X sc N C s H fp) tg g) (hpg:PG X (.Name x p2) (dj 2)) (hiO:DI X tgO iterO (mq (ab 0))) (hgO:PG X tgO (FZ X.K)) (hiI:DI X tgI iterI (br (ah fn (ac (ab 4) (ac (ab 1) ak))))) (hgI:PG X tgI (dj 5)) (hA:PS X stA (yF X.K)) (hr:tz X PX rest m)
 (hsw:swapsWith (.ListComp (.List [] lp) [⟨tg,iter,[],0⟩] sc pos) (some (.Name x p2)) spos.line X.env=pure true:=by rfl) (hs:∀x,foldedSetIterable iter X.env x=pure x:=by intro _;rfl)
 (hsO:∀x,foldedSetIterable iterO X.env x=pure x:=by intro _;rfl) (hsI:∀x,foldedSetIterable iterI X.env x=pure x:=by intro _;rfl) :
 tz X PX (.Assign [.Name x p2] (.ListComp (.List [] lp) [⟨tg,iter,[],0⟩] sc pos) spos::.For tgO iterO [.For tgI iterI [stA] [] pos1] [] pos2::rest) (jp (bq k fv mi g tT (cw ak)) fn m):=by
 obtain⟨wO,pO,qO⟩:=hiO;obtain⟨wI,pI,qI⟩:=hiI;obtain⟨t',p',q'⟩:=hr;refine⟨_,dw (zj mO hc S hX hN hi hbl hb hpg hsw hs) (dw (lF hp hc pO hgO (fj (lF hp hc pI hgI (fj hA) hsI)) hsO) p'),fun os σ H δ r D s me kq=>?_⟩;unfold jp at me;split at me
 ·rename_i ps es;obtain⟨c,e1,me⟩:=af me
  match c,e1,me with
  | .lst cs,e1,me =>
    have me':(if cs.length<=1000000 then (ng fn (.lst es) 0 ps (List.replicate cs.length [])).bind fun rows=>m [some (.tup ps),some (.lst es),some (rB rows),none,none,none] else none)=some r:=me;by_cases hcs:cs.length<=1000000
    ·rw[if_pos hcs] at me';obtain⟨rows,e2,me⟩:=af me';refine⟨os,_,_,s,e1,fun p H1 as g1 hp1 hd htop hnd has=>?_⟩;have hlen:cs.length=as.length:=by
      injection hd with hd;rw[hd,List.length_replicate]
     have fresh:∀y∈p::as,H y=none:=fun y hy=>by
      rcases List.mem_cons.mp hy with z | z
      ·rw[z];exact hp1
      ·exact(has y z).2
     have big:Same (hide os H) (hide (p::(as++os)) H1):=fun b o z=>by
      have hb':b∉os:=fun y=>by rw[aX y] at z;cases z
      rw[ao hb'] at z;have hn:b∉p::(as++os):=fun y=>by
       rcases List.mem_cons.mp y with y | y
       ·rw[y,hp1] at z;cases z
       ·rcases List.mem_append.mp y with y | y
        ·rw[(has b y).2] at z;cases z
        ·exact hb' y
      rw[ao hn];exact g1 _ _ z
     have hsn:σ.length=6:=by rw[s.n];exact h6
     have L:Lay X os p as H1 [some (.tup ps),some (.lst es),none,none,none,none] (σ.set 2 (some (.ref p))) (List.replicate cs.length []):=by
      refine⟨⟨by rw[List.length_set];exact s.n,by rw[h6];exact Nat.le_refl 6,fun i d hi q=>?_,fun i d hi q1 q2=>?_,fun i j d e b hi hj q1 q2 q3=>?_,fun b hb'=>?_,s.keep.trans g1⟩,⟨htop,hnd,by rw[List.length_replicate];exact hlen.symm,fun j a r' q1 q2=>?_⟩,by rw[List.getElem?_set_self (by omega)],by rw[List.length_set];exact hsn,rfl,rfl,fun y hy=>s.keep.free (fresh y hy)⟩
      ·have h2:i≠2:=fun z=>by subst z;cases q
       obtain⟨v,v1,v2⟩:=s.pl i d hi q;exact⟨v,by rw[List.getElem?_set_ne (Ne.symm h2)];exact v1,v2.mono big _ _⟩
      ·rw[List.getElem?_eq_none (by rw[h6];show 6<=6+i;omega)] at q2;cases q2
      ·rw[List.getElem?_eq_none (by rw[h6];show 6<=6+i;omega)] at q3;cases q3
      ·rcases List.mem_cons.mp hb' with y | y
       ·rw[y];exact⟨_,htop,True.intro⟩
       ·rcases List.mem_append.mp y with y | y
        ·exact⟨_,(has b y).1,True.intro⟩
        ·obtain⟨u,e,q⟩:=s.live b y;exact⟨u,g1 _ _ e,q⟩
      ·have hr0:r'=[]:=by
        rw[List.getElem?_replicate] at q2;split at q2
        ·cases q2;rfl
        ·cases q2
       subst hr0;exact(has a (List.mem_of_getElem? q1)).1
     refine uo h6 qO qI L rfl rfl e2 fun H2 σ2 δ2 L2 g2 f0 f1=>?_;have np:∀y∈p::as,y∉os:=fun y hy z=>by
      obtain⟨u,e,_⟩:=s.live y z;rw[fresh y hy] at e;cases e
     have less:Same (hide (p::(as++os)) H2) (hide os H2):=fun b o z=>by
      have hn:b∉p::(as++os):=fun y=>by rw[aX y] at z;cases z
      rw[ao hn] at z;rw[ao (fun y=>hn (List.mem_cons_of_mem _ (List.mem_append_right _ y)))];exact z
     refine q' os σ2 H2 [some (.tup ps),some (.lst es),some (rB rows),none,none,none] r D ⟨L2.sl.n,by rw[h6];exact Nat.le_refl 6,fun i d hi q=>?_,fun i d hi q1 q2=>?_,fun i j d e b hi hj q1 q2 q3=>?_,fun b hb'=>L2.sl.live b (List.mem_cons_of_mem _ (List.mem_append_right _ hb')),L2.sl.keep⟩ me (kq.mono ⟨(big.trans g2).trans less,fun b hb' _=>hb'⟩)
     ·by_cases i0:i=0
      ·subst i0;cases q;obtain⟨v,v1,v2⟩:=L2.sl.pl 0 _ hi f0;exact⟨v,v1,v2.mono less _ _⟩
      ·by_cases i1:i=1
       ·subst i1;cases q;obtain⟨v,v1,v2⟩:=L2.sl.pl 1 _ hi f1;exact⟨v,v1,v2.mono less _ _⟩
       ·by_cases i2:i=2
        ·subst i2;cases q;refine⟨_,L2.s2,.lst (.of ((ao (np p List.mem_cons_self)).trans L2.mt.top)) ?_⟩;have key:∀(l:List Addr) (rs:List (List Int)),l.length=rs.length->(∀y∈l,y∉os)->(∀(j:Nat) (a:Addr) (r:List Int),l[j]? = some a->rs[j]? = some r->H2 a=some (.lst (r.map V.int)))->Dens X.K (hide os H2) (rs.map fun r=>.lst (r.map DL.D.int)) (l.map V.ref):=fun l=>by
          induction l with
          | nil =>
            intro rs hl _ _;cases rs with
            | nil=>exact .nil
            | cons _ _=>cases hl
          | cons a l ih =>
            intro rs hl hn hat;cases rs with
            | nil=>cases hl
            | cons r0 rs =>
              exact .cons (.lst (.of ((ao (hn a List.mem_cons_self)).trans (hat 0 a r0 rfl rfl))) (Dens.ints r0)) (ih rs (by simpa using hl) (fun y hy=>hn y (List.mem_cons_of_mem _ hy)) fun j a' r' q1 q2=>hat (j+1) a' r' (by simpa using q1) (by simpa using q2))
         exact key as rows L2.mt.len (fun y hy=>np y (List.mem_cons_of_mem _ hy)) L2.mt.at_
        ·exfalso
         match i,i0,i1,i2,q with
         | 3,_,_,_,q=>cases q
         | 4,_,_,_,q=>cases q
         | 5,_,_,_,q=>cases q
         | i+6,_,_,_,q=>rw[h6] at hi;omega
     ·rw[List.getElem?_eq_none (by rw[h6];show 6<=6+i;omega)] at q2;cases q2
     ·rw[List.getElem?_eq_none (by rw[h6];show 6<=6+i;omega)] at q3;cases q3
    ·rw[if_neg hcs] at me';cases me'
 ·cases me
end
def ou {X:Cx}{a b c:Expr}{ma mb mc:ME}{pos:Pos}{op op':CmpOp}{f g:D->D->Option D}(ho:tw X (compareOp op) f)(ho':tw X (compareOp op') g)(hf:∀x y d,f x y=some d->∃k,d=.bl k)(hg:∀x y d,g x y=some d->∃k,d=.bl k)
 (ha:DE X a ma) (hb:DE X b mb) (hc:DE X c mc) (hm:lastMarks [op,op'] [b,c]=false:=by with_unfolding_all rfl):DT X (.Compare a [op,op'] [b,c] pos) (tV (cV f g ma mb mc)):=by
 obtain⟨r,hr,qr⟩:=ho;obtain⟨r',hr',qr'⟩:=ho';obtain⟨ta,pa,qa⟩:=ha;obtain⟨tb,pb,qb⟩:=hb;obtain⟨tc,pc,qc⟩:=hc;refine⟨_,zd hr hr' pa pb pc hm,fun os σ H δ d Q s m kq=>?_⟩;obtain⟨w,m,mt⟩:=af m;obtain⟨x,e1,m⟩:=af m;obtain⟨y,e2,m⟩:=af m;obtain⟨z,e3,m⟩:=af m;obtain⟨k,rfl⟩:=hf x y z e3;refine qa os σ H δ x _ s e1 fun vx H1 g1 r1=>?_;refine qb os σ H1 δ y _ (s.mono g1) e2 fun vy H2 g2 r2=>?_;refine qr os H2 (s.live.mono (g1.trans g2)) x y _ vx vy _ (r1.mono (g2).hd _ _) r2 e3 fun vz H3 g3 r3=>⟨k,r3.bl_inv,?_⟩;have g13:=g1.trans (g2.trans g3);cases k with
 | false =>
   cases m;cases mt;exact xI ⟨false,rfl,kq H3 g13⟩
 | true =>
   obtain⟨u,e4,m⟩:=af m;refine xH (qc os σ H3 δ u _ (s.mono g13) e4 fun vu H4 g4 r4=>qr' os H4 (s.live.mono (g13.trans g4)) y u w vy vu _ (r2.mono ((g3.trans g4)).hd _ _) r4 m fun v H5 g5 r5=>?_);obtain⟨k',rfl⟩:=hg y u w m;cases mt;exact⟨_,r5.bl_inv,kq H5 (g13.trans (g4.trans g5))⟩
end DL
namespace DL
open PySem PyProof.Rows PySem.W
section
variable {P:Program}{w:World}{A:Around}{E:Value->Shared->Prop}{s:Shared}
def xj (hh:A.handled=none){d it:Addr}(hne:d≠it)(es:Array DictEntry)(ep:Nat):Walks P w A it [it,d] [it] es.size (fun i v=>∃e,es[i]? = some e/\v=e.key) (fun i h=>h.IsKeyIter it d i es.size ep/\DRaw h d es ep) where
 sub:=fun b hb=>List.mem_cons.mpr (.inl (List.mem_singleton.mp hb))
 frame:=fun i h h' st k=>by
  obtain⟨⟨o,q,r⟩,st2⟩:=st;exact⟨⟨o,k it (by simp) _ q,r⟩,st2.at' fun o q=>k d (by simp) o q⟩
 item:=fun i s Q E hi st hQ=>si hh st.1 st.2 (fun e h' z j sb=>hQ e.key h' s.toks ⟨e,z,rfl⟩ ⟨j,st.2.at' fun o q=>(sb.2 d hne).trans q⟩ fun b o hb q=>(sb.2 b fun z=>hb (by simp[z])).trans q) fun h' z _=>absurd (Array.getElem?_eq_none_iff.mp z) (by omega)
 done:=fun s Q E st hQ=>si hh st.1 st.2 (fun e h' z=>absurd (Array.getElem?_eq_some_iff.mp z).1 (by omega)) fun h' _ x=>hQ h' s.toks fun b o hb q=>x b o (fun z=>hb (by simp[z])) q
 self:=fun i s Q E st hQ=>by
  have t:=st.1.typeIs;exact wpAny_pyIter_slot t PySem.F.slot_dict_keyiterator_iter (wpAny_call_entry PySem.F.slot_dict_keyiterator_iter t PySem.F.entry_dict_keyiterator_iter (wpAny_of_eq (a:=.done (.ret (.ref it))) rfl ⟨_,rfl,"dict_keyiterator",_,t,PySem.F.slot_dict_keyiterator_next.lookup,hQ⟩) (PySem.F.args_dict_keyiterator_iter_1 _))
def Bx {d:Addr}{es:Array DictEntry}{ep:Nat}(hd:(d==sysModules)=false):KdlSrc P w "dict" d d es.size (fun i v=>∃e,es[i]? = some e/\v=e.key) (fun h=>DRaw h d es ep) where
 type:=fun s ⟨o,ho,hx,_⟩=>⟨o,ho,hx.1⟩
 there:=fun h ⟨o,ho,_⟩=>⟨Heap.lt_size ho,Heap.lt_size ho⟩
 keep:=fun h h' x k=>x.at' fun o q=>k d (.inl rfl) o q
 notList:=by decide
 notTuple:=by decide
 hint:=fun A E s Q ⟨o,ho,hx,_⟩ q=>kdl_hint_dict ⟨o,ho,hx.1⟩ q
 iter:=fun A s hh x=>⟨_,_,fun E Q q=>xE hd x q,xj hh (by obtain⟨o,ho,_⟩:=x;exact Nat.ne_of_lt (Heap.lt_size ho)) es ep,⟨_,Heap.get?_push_size _ rfl,rfl,rfl⟩,x.at' fun o q=>Heap.get?_push_of_some _ q⟩
def wK {κ:SortKind}{it:Array Keyed}{n:Nat}{G:Nat->Shared->Prop}(hc:∀(i:Nat) (C:Bool->Shared->Prop),1<=i->i<n->C false s->kas_cmp P w A κ it i (i-1) C s) :
 ∀(f k:Nat),1<=k->k+f<=n->G (k+f) s->(kas_asc (List.toArray (List.range n)) f k).kasWp (kas_cmp P w A κ it) G s
 | 0,k,_,_,g=>g
 | f+1,k,h1,h2,g=>by
   have at':∀j,j<n->(List.toArray (List.range n)).getD j 0=j:=fun j hj=>by simp[Array.getD,hj]
   show kas_cmp P w A κ it ((List.toArray (List.range n)).getD k 0) ((List.toArray (List.range n)).getD (k-1) 0) _ s;rw[at' k (by omega),at' (k-1) (by omega)];exact hc k _ h1 (by omega) (wK hc f (k+1) (by omega) (by omega) (by rw[show k+1+f=k+(f+1) by omega];exact g))
def CT:∀(f m r:Nat),r<=1->minRun' f m r<=m+r
 | 0,m,r,_=>Nat.le_refl _
 | f+1,m,r,hr=>by
   rw[minRun'_succ];split
   ·exact Nat.le_refl _
   ·have:=CT f (m / 2) (max r (m % 2)) (by omega);omega
section
variable {M:Model}{σ β:Type}{n:Nat}{c:β}{f:Nat->β->StateT σ Sem (ForInStep β)}{Q:β->σ->Shared->Prop}{st:σ}
def FU (hn:1<=n)(h:kasC M A E (f 0 c) (fun r st' s'=>∃c',r=.done c'/\Q c' st' s') st s):kasC M A E (forIn [0:n] c f) Q st s:=by
 obtain⟨m,rfl⟩:∃m,n=m+1:=⟨n-1,by omega⟩;refine kasC_range (kasC_cons (l:=List.range' 1 m) (wpAny_mono h (fun r s' z=>?_) fun _ _ z=>z));obtain⟨r,st'⟩:=r;obtain⟨c',e,q⟩:=z;cases e;exact q
def FT (hn:2<=n)(h:kasC M A E (f 0 c) (fun r st' s'=>∃c1,r=.yield c1/\kasC M A E (f 1 c1) (fun r st' s'=>∃c',r=.done c'/\Q c' st' s') st' s') st s):kasC M A E (forIn [0:n] c f) Q st s:=by
 obtain⟨m,rfl⟩:∃m,n=m+2:=⟨n-2,by omega⟩;refine kasC_range (kasC_cons (l:=1::List.range' 2 m) (wpAny_mono h (fun r s' z=>?_) fun _ _ z=>z));obtain⟨r,st'⟩:=r;obtain⟨c1,e,q⟩:=z;cases e;refine kasC_cons (wpAny_mono q (fun r s'' z=>?_) fun _ _ z=>z);obtain⟨r,st''⟩:=r;obtain⟨c',e,q⟩:=z;cases e;exact q
end
def yR {κ:SortKind}{it:Array Keyed}{n:Nat}{Q:Unit->SortSt->Shared->Prop}(h2:2<=n)(hz:it.size=n)(hc:∀(i:Nat) (C:Bool->Shared->Prop),1<=i->i<n->C false s->kas_cmp P w A κ it i (i-1) C s)
 (hQ:∀st',arrOf st'=it->failedOf st'=none->Q () st' s):kasC (model P w) A E sortRuns' Q (SortSt.mk' κ it #[] 7 none) s:=by
 have est:SortSt.mk' κ it #[] 7 none=kas_st κ it (List.toArray (List.range n)):=by
  unfold kas_st;rw[<-hz,kas_range]
 have hal:arrOf (kas_st κ it (List.toArray (List.range n)))=it:=by rw[<-est]
 rw[est,sortRuns'_eq];refine kasC_bind (kasC_get ?_);have hsz:(arrOf (kas_st κ it (List.toArray (List.range n)))).size=n:=by rw[hal,hz]
 simp only[hsz];refine kasC_bind (FT h2 ?_);dsimp only;rw[if_neg (by omega)];have hcount:(kas_count n (List.toArray (List.range n))).kasWp (kas_cmp P w A κ it) (fun r s'=>r=(n,List.toArray (List.range n))/\s'=s) s:=by
  unfold kas_count;rw[KasT.kasWp_bind];refine wK hc (n-1) 1 (Nat.le_refl _) (by omega) ?_;rw[show 1+(n-1)=n by omega,if_pos (beq_self_eq_true n)];exact⟨rfl,rfl⟩
 refine kasC_bind (kas_count_ (p:=List.toArray (List.range n)) (by omega) (by simp) (fun m p' s' _ _ _ hg=>?_) hcount);obtain⟨e,rfl⟩:=hg;cases e;dsimp only;rw[if_neg (by have:=CT n n 0 (by omega);omega)];refine kasC_bind (kasC_get ?_);rw[show (pendingOf (kas_st κ it (List.toArray (List.range n)))).back? = none from rfl];refine kasC_bind (kasC_modify (kasC_pure ⟨_,rfl,?_⟩));dsimp only;rw[if_pos (by omega)];refine kasC_pure ⟨_,rfl,?_⟩;dsimp only;refine kasC_bind (FU (by omega) (kasC_bind (kasC_get ?_)));rw[if_pos (show (pendingOf (setPending (kas_st κ it (List.toArray (List.range n))) ((pendingOf (kas_st κ it (List.toArray (List.range n)))).push (0,n,0)))).size<=1 from Nat.le_refl 1)];exact kasC_pure ⟨_,rfl,kasC_pure (hQ _ hal rfl)⟩
end
section
variable {P:Program}{w:World}{A:Around}{E:Value->Shared->Prop}{s:Shared}
def Bg (a:Addr)(h h':Heap):Prop:=∀b o,b≠a->h.get? b=some o->h'.get? b=some o
def xc {a:Addr}{vs:List Value}{c:Nat}{κ:SortKind}{R:PySem.Fin->Shared->Prop}(ho:s.heap.get? a=some (seqObj "list" vs.toArray c))(h2:2<=vs.length)(hz:vs.length<=1000)
 (hk:∀(h':Heap) (Q:SortKind->Shared->Prop),Bg a s.heap h'->Q κ { s with heap:=h' }->wpAny (model P w) A (keyKind' vs.toArray) Q E { s with heap:=h' })
 (hc:∀(h':Heap) (i:Nat) (C:Bool->Shared->Prop),Bg a s.heap h'->1<=i->i<vs.length->C false { s with heap:=h' }->kas_ask P w A κ vs i (i-1) C { s with heap:=h' })
 (k:R (.done (.ret .none)) { s with heap:=sortedHeap s.heap a vs vs.toArray }):wpAny (model P w) A (Builtin.«list.sort» ⟨[.ref a],[]⟩) R E s:=by
 have hs:vs.toArray.size=vs.length:=by simp
 have e0:=get?_update_seq ho fun _=>(#[]:Array Value);have hlt:=Heap.lt_size ho;generalize hh:((s.heap.update a (Obj.mapSeq fun _=>(#[]:Array Value))).push (seqObj "tuple" vs.toArray 0)).push (seqObj "list" #[] 0)=h1;have g1:=Heap.get?_push_of_some (seqObj "list" #[] 0) (Heap.get?_push_of_some (seqObj "tuple" vs.toArray 0) e0);rw[hh] at g1;have b1:Bg a s.heap h1:=fun b o hb q=>by
  rw[<-hh];exact Heap.get?_push_of_some _ (Heap.get?_push_of_some _ ((Heap.get?_update_other _ _ (Ne.symm hb)).trans q))
 rw[list_sort_plain];refine wpAny_bind (listItems_at ho rfl (wpAny_bind (listUpdate_at ho rfl (wpAny_bind (seqEpoch_at e0 rfl (wpAny_bind (wpAny_newTuple (wpAny_bind (wpAny_newList (wpAny_holding ?_) (by simp))) (by rw[sizeLine_eq];simp;omega))))) (by rw[hs,sizeLine_eq];omega) (Nat.zero_le _))));show wpAny _ _ _ _ _ { s with heap:=((s.heap.update a (Obj.mapSeq fun _=>(#[]:Array Value))).push (seqObj "tuple" vs.toArray 0)).push (seqObj "list" #[] 0) };rw[hh,if_neg (by omega),if_neg (by omega)];refine wpAny_bind (hk h1 _ b1 ?_);have hps:=pairsOf_size vs;have run:=yR (P:=P) (w:=w) (A:=A) (E:=E) (s:={ s with heap:=h1 }) (κ:=κ) (it:=pairsOf vs) (n:=vs.length) (Q:=fun _ st' s'=>arrOf st'=pairsOf vs/\failedOf st'=none/\s'={ s with heap:=h1 }) h2 hps
  (fun i C a1 a2 q=>by rw[<-kas_ask_eq];exact hc h1 i C b1 a1 a2 q) fun st' e1 e2=>⟨e1,e2,rfl⟩
 refine wpAny_bind (wpAny_mono run (fun r s' z=>?_) fun _ _ z=>z);obtain⟨u,st'⟩:=r;obtain⟨e1,e2,rfl⟩:=z;have hm:(arrOf st').map (·.2)=vs.toArray:=by
  rw[e1];unfold pairsOf;apply Array.toList_inj.mp;simp only[Array.toList_map,Array.toList_zip];exact List.map_snd_zip (Nat.le_refl _)
 refine wpAny_bind (seqEpoch_at g1 rfl (wpAny_bind (listUpdate_at g1 rfl ?_ (Nat.zero_le _) (by show ((arrOf st').map (·.2)).size<=_;rw[hm,hs,sizeLine_eq];omega))));rw[e2,hm];simp only[bne_self_eq_false,Bool.false_eq_true,if_false];refine wpAny_pure ?_;unfold sortedHeap at k;rw[hh] at k;exact k
def rj {T:String}{r d:Addr}{n:Nat}{Pn:Nat->Value->Prop}{OK:Heap->Prop}{R:List Value->Shared->Prop}(K:KdlSrc P w T r d n Pn OK)(hh:A.handled=none)(hok:OK s.heap)(hn:n<=sizeLine)
 (k:∀h' tk vs,(∀b o,s.heap.get? b=some o->h'.get? b=some o)->s.heap.objs.size<=h'.objs.size->vs.length=n->(∀j v,vs[j]? = some v->Pn j v)->R vs { s with heap:=h',toks:=tk }):wpAny (model P w) A (collect (.ref r)) R E s:=by
 obtain⟨l1,l2⟩:=K.there _ hok;have g0:=Heap.get?_push_size s.heap (o:=seqObj "list" #[] 0) rfl;have fin:∀(h':Heap) (tk:Nat) (acc:Array Value) (c:Nat),(∀b o,b≠s.heap.objs.size->(s.heap.push (seqObj "list" #[] 0)).get? b=some o->h'.get? b=some o)->h'.get? s.heap.objs.size=some { cls:=.type "list",dict:=none,data:=.seq acc c,slots:=#[] }->ItemsOf Pn acc n->R acc.toList { s with heap:=h',toks:=tk }:=fun h' tk acc c a1 a2 a3=>by
  refine k h' tk acc.toList (fun b o q=>a1 b o (Nat.ne_of_lt (Heap.lt_size q)) (Heap.get?_push_of_some _ q)) (Nat.le_of_lt (Heap.lt_size a2)) (by rw[Array.length_toList,a3.1]) fun j v hj=>a3.2 j v ?_;rw[<-Array.getElem?_toList];exact hj
 have ext:=kdl_extend (A:=A) (s:={ s with heap:=s.heap.push (seqObj "list" #[] 0) }) (R:=fun q s'=>∃acc c,q=.ok (.ret (.ref s.heap.objs.size))/\s'.heap.get? s.heap.objs.size=some { cls:=.type "list",dict:=none,data:=.seq acc c,slots:=#[] }/\R acc.toList s')
  K hh (K.keep _ _ hok fun b _ o q=>Heap.get?_push_of_some _ q) s.heap.objs.size (Nat.ne_of_gt l1) (Nat.ne_of_gt l2) (.ref s.heap.objs.size) 0 g0 (fun h' tk acc c a1 a2 a3=>⟨acc,c,rfl,a2,fin h' tk acc c a1 a2 a3⟩) hn
 unfold collect;refine wpAny_bind (wpAny_runValue (codeAny_builtin entry_proto_collect' ?_));rw[Around.under_plainId PySem.F.plain_proto_collect _];refine wpAny_bind (m:=newList []) (wpAny_newObj_type (wpAny_pure ⟨plainId_quiet PySem.F.plain_list_iadd _,codeAny_builtin entry_list_iadd' ?_⟩));rw[Around.under_plainId PySem.F.plain_list_iadd _];refine wpAny_mono ext (fun fin s' x=>?_) fun e s' x=>by obtain⟨_,_,z,_⟩:=x;cases z
 have last:∀{s':Shared} {acc:Array Value} {c:Nat},s'.heap.get? s.heap.objs.size=some { cls:=.type "list",dict:=none,data:=.seq acc c,slots:=#[] }->R acc.toList s'->wpAny (model P w) A (do
  let o <-load s.heap.objs.size
  match o.data with
  | .seq xs _=>pure xs.toList
  | _=>unsupported "internal:collect") R E s':=fun g q=>wpAny_bind (wpAny_load g (wpAny_pure q))
 cases fin with
 | done f =>
   obtain⟨acc,c,e,g,q⟩:=x;cases e;exact last g q
 | again c1 =>
   refine⟨x.1,codeAny_mono x.2 fun q s2 y=>?_⟩;obtain⟨acc,c,rfl,g,q⟩:=y;exact last g q
def PrAt (h:Heap)(v:Value)(p:Int×Int):Prop:=∃b o c t u,v=.ref b/\h.get? b=some o/\o.cls=.type "tuple"/\o.data=.seq #[.int p.1 t,.int p.2 u] c
def PrAt.but {h h':Heap}{a:Addr}{v:Value}{p:Int×Int}(x:PrAt h v p)(k:Bg a h h')(n:v≠.ref a):PrAt h' v p:=by
 obtain⟨b,o,c,t,u,e,q,r⟩:=x;exact⟨b,o,c,t,u,e,k b o (fun z=>n (by rw[e,z])) q,r⟩
def zQ (p q:Int×Int):Prop:=p.1<q.1\/(p.1=q.1/\p.2<q.2)
def FR {v v':Value}{p q:Int×Int}{Q:Bool->Shared->Prop}(hv:PrAt s.heap v p)(hv':PrAt s.heap v' q)(hl:zQ q p)(h:Q false s):wpAny (model P w) A (keyLt' (tuples' true) v v') Q E s:=by
 obtain⟨b,o,c,t,u,rfl,g1,_,g3⟩:=hv;obtain⟨b',o',c',t',u',rfl,g1',_,g3'⟩:=hv';refine kat_lt g1 g3 g1' g3' (kat_cons (wpAny_eqBool_int (kat_go (fun e=>?_) fun e=>?_)))
 ·have e:p.1=q.1:=eq_of_beq e;refine kat_yes (kat_cons (wpAny_eqBool_int ?_));have hy:(p.2==q.2)=false:=by
   rw[beq_eq_false_iff_ne];rcases hl with z | ⟨_,z⟩ <;> omega
  rw[hy];refine kat_no (kat_one _ _ (wpAny_lt_int ?_));show Q (decide (p.2<q.2)) s;have:decide (p.2<q.2)=false:=by
   rw[decide_eq_false_iff_not];rcases hl with z | ⟨_,z⟩ <;> omega
  rw[this];exact h
 ·have e:p.1≠q.1:=fun z=>by rw[z] at e;simp at e
  refine kat_no (oneLt_int ?_);have:decide (p.1<q.1)=false:=by
   rw[decide_eq_false_iff_not];rcases hl with z | ⟨z,_⟩ <;> omega
  rw[this];exact h
def PrsAt (h:Heap):List Value->List (Int×Int)->Prop
 | [],[]=>True
 | v::vs,p::ps=>PrAt h v p/\PrsAt h vs ps
 | _,_=>False
def PrsAt.but {h h':Heap}{a:Addr}(k:Bg a h h'):∀{vs:List Value} {ps:List (Int×Int)},PrsAt h vs ps->(∀v∈vs,v≠.ref a)->PrsAt h' vs ps
 | [],[],_,_=>trivial
 | _::_,_::_,x,n=>⟨x.1.but k (n _ List.mem_cons_self),PrsAt.but k x.2 fun v hv=>n v (List.mem_cons_of_mem _ hv)⟩
def PrsAt.len {h:Heap}:∀{vs:List Value} {ps:List (Int×Int)},PrsAt h vs ps->vs.length=ps.length
 | [],[],_=>rfl
 | _::_,_::_,x=>by rw[List.length_cons,List.length_cons,PrsAt.len x.2]
def PrsAt.at {h:Heap}:∀{vs:List Value} {ps:List (Int×Int)} (i:Nat),PrsAt h vs ps->i<vs.length->PrAt h (vs.getD i .none) (ps.getD i (0,0))
 | [],[],_,_,hi=>by simp at hi
 | _::_,_::_,0,x,_=>x.1
 | _::_,_::_,i+1,x,hi=>by
   rw[List.getD_cons_succ,List.getD_cons_succ];exact PrsAt.at i x.2 (by simpa using hi)
def PrsAt.tups {h:Heap}:∀{vs:List Value} {ps:List (Int×Int)},PrsAt h vs ps->∃fs:List Value,KatTups h vs fs/\fs.length=vs.length/\∀v∈fs,∃i t,v=.int i t
 | [],[],_=>⟨[],.nil,rfl,fun v hv=>by cases hv⟩
 | _::_,p::_,x=>by
   obtain⟨⟨b,o,c,t,u,rfl,g1,g2,g3⟩,r⟩:=x;obtain⟨fs,a1,a2,a3⟩:=PrsAt.tups r;refine⟨.int p.1 t::fs,.cons g1 g2 g3 rfl a1,by rw[List.length_cons,List.length_cons,a2],fun v hv=>?_⟩;rcases List.mem_cons.mp hv with rfl | hv
   ·exact⟨_,_,rfl⟩
   ·exact a3 v hv
def qw {d:Addr}{es:Array DictEntry}{ep:Nat}{ps:List (Int×Int)}{Q:Value->Shared->Prop}(hh:A.handled=none)(hd:(d==sysModules)=false)(hm:DRaw s.heap d es ep)(hp:PrsAt s.heap (es.toList.map (·.key)) ps)
 (hr:∀i,1<=i->i<ps.length->zQ (ps.getD (i-1) (0,0)) (ps.getD i (0,0))) (h2:2<=ps.length) (hz:ps.length<=1000)
 (k:∀h' tk l c,(∀b o,s.heap.get? b=some o->h'.get? b=some o)->s.heap.objs.size<=l->h'.get? l=some (seqObj "list" (es.toList.map (·.key)).toArray c)->Q (.ref l) { s with heap:=h',toks:=tk }) :
 wpAny (model P w) A (call (.builtin "sorted") [.ref d]) Q E s:=by
 have hl:=hp.len;have hse:es.size=ps.length:=by rw[<-hl,List.length_map,Array.length_toList]
 refine Calls.call_function_entry kind_sorted plain_sorted entry_sorted (args_sorted1 _) ?_;unfold Builtin.«sorted»;refine wpAny_bind (m:=checkCount "sorted" 1 1 _) (wpAny_pure (wpAny_bind (rj (A:=A.in1) (Bx (es:=es) (ep:=ep) hd) hh hm (by rw[sizeLine_eq];omega) fun h' tk vs k1 k0 hvl hv=>?_)));have ev:vs=es.toList.map (·.key):=by
  refine List.ext_getElem (by rw[hvl,List.length_map,Array.length_toList]) fun i h1 h2=>?_;obtain⟨e,e1,e2⟩:=hv i vs[i] (List.getElem?_eq_getElem h1);have hi:i<es.size:=by rw[List.length_map,Array.length_toList] at h2;exact h2
  rw[Array.getElem?_eq_getElem hi] at e1;cases e1;simp[e2]
 subst ev;have hl':(es.toList.map (·.key)).length<=1000:=by omega
 refine wpAny_bind (wpAny_newList ?_ (by rw[sizeLine_eq];omega));have gL:(h'.push (seqObj "list" (es.toList.map (·.key)).toArray 0)).get? h'.objs.size=some (seqObj "list" (es.toList.map (·.key)).toArray 0):=Heap.get?_push_size _ rfl;have hb:Bg h'.objs.size s.heap (h'.push (seqObj "list" (es.toList.map (·.key)).toArray 0)):=fun b o _ q=>Heap.get?_push_of_some _ (k1 b o q);have hn:∀v∈es.toList.map (·.key),v≠.ref h'.objs.size:=by
  intro v hv z;obtain⟨i,hi,e⟩:=List.getElem_of_mem hv;have:=hp.at i hi;obtain⟨b,o,_,_,_,e1,e2,_⟩:=this;have e3:(es.toList.map (·.key)).getD i .none=v:=by rw[List.getD_eq_getElem?_getD,List.getElem?_eq_getElem hi,e];rfl
  rw[e3,z] at e1;cases e1;exact absurd (Heap.lt_size (k1 _ _ e2)) (Nat.lt_irrefl _)
 have hp1:=hp.but hb hn;refine wpAny_bind (wpAny_holding (wpAny_call_entry slot_list_sort ⟨_,gL,rfl⟩ entry_list_sort (xc (κ:=tuples' true) gL (by omega) hl' (fun h2 Q k2 q=>?_) (fun h2 i C k2 a1 a2 q=>?_) ⟨_,rfl,?_⟩) (args_list_sort _)))
 ·obtain⟨fs,b1,b2,b3⟩:=(hp1.but k2 hn).tups;exact kat_kind (T:=.type "int") b1 (by omega) (fun v hv=>by obtain⟨i,t,rfl⟩:=b3 v hv;exact Looks.of_pure rfl) (by decide) q
 ·have hp2:=hp1.but k2 hn;unfold kas_ask;exact FR (hp2.at i a2) (hp2.at (i-1) (by omega)) (hr i a1 (by omega)) q
 ·obtain⟨e,he⟩:=sortedHeap_at (out:=(es.toList.map (·.key)).toArray) gL;refine wpAny_pure ⟨_,rfl,k _ tk h'.objs.size e (fun b o q=>?_) k0 he⟩;have hlt:=Heap.lt_size (k1 _ _ q);rw[sortedHeap_old (Nat.ne_of_lt hlt) (by rw[size_push'];exact Nat.lt_succ_of_lt hlt)];exact Heap.get?_push_of_some _ (k1 _ _ q)
end
end DL
namespace DL
open PySem PySem.Spec PyProof.Rows L2
section
variable {X:Cx}{e:Expr}{me:ME}{pos p:Pos}
def mU (H:Hp):List Addr->List (List Key×V)->Prop
 | [],[]=>True
 | b::bs,q::kvs=>H b=some (.tup (q.1.map kV))/\mU H bs kvs
 | _,_=>False
def vi {H:Hp}:∀(l:List DictEntry) (kvs:List (List Key×V)),l.length=kvs.length->(∀(i:Nat) (q:List Key×V),kvs[i]? = some q->∃b e,l[i]? = some e/\e.key=.ref b/\H b=some (.tup (q.1.map kV)))->∃bs:List Addr,l.map (·.key)=bs.map Value.ref/\mU H bs kvs
 | [],[],_,_=>⟨[],rfl,trivial⟩
 | e::l,q::kvs,hl,h=>by
   obtain⟨b,e',e1,e2,e3⟩:=h 0 q rfl;cases e1;obtain⟨bs,a1,a2⟩:=vi l kvs (by simpa using hl) fun i q' hq=>by
    obtain⟨b,e',e1,e2,e3⟩:=h (i+1) q' (by simpa using hq);exact⟨b,e',by simpa using e1,e2,e3⟩
   exact⟨b::bs,by rw[List.map_cons,List.map_cons,a1,e2],e3,a2⟩
def oy {K:PySem.W.Frag}{os:List Addr}{H:Hp}(L:Live os H):∀{bs:List Addr} {kvs:List (List Key×V)},mU H bs kvs->Dens K (hide os H) (kvs.map fun q=>kT q.1) (bs.map V.ref)
 | [],[],_=>.nil
 | b::bs,q::kvs,h=>by
   rw[List.map_cons,List.map_cons];exact .cons (.tup (mv L h.1) (oz q.1)) (oy L h.2)
noncomputable def nS:List Key->Int×Int
 | [.inl a,.inl b]=>(a,b)
 | _=>(0,0)
def BY {x y:D}(h:FS x y=true):∃a b c d:Int,x=.tup [.int a,.int b]/\y=.tup [.int c,.int d]/\zQ (a,b) (c,d):=by
 unfold FS at h;split at h
 ·rename_i a b c d;refine⟨a,b,c,d,rfl,rfl,?_⟩;rw[Bool.or_eq_true,Bool.and_eq_true,decide_eq_true_eq,decide_eq_true_eq,decide_eq_true_eq] at h;exact h
 ·cases h
def pQ {ks:List Key}{a b:Int}(h:kT ks=.tup [.int a,.int b]):ks=[.inl a,.inl b]:=by
 unfold kT at h;injection h with h
 match ks,h with
 | [.inl x,.inl y],h =>
   simp only[List.map_cons,List.map_nil,kD] at h;injection h with h1 h2;injection h1 with h1;injection h2 with h2 _;injection h2 with h2;rw[h1,h2]
 | [.inr x,_],h=>simp[kD] at h
 | [.inl x,.inr y],h=>simp[kD] at h
 | [],h=>cases h
 | [_],h=>simp at h
 | _::_::_::_,h=>simp at h
def vA:∀{kvs:List (List Key×V)},lC (kvs.map fun q=>kT q.1)=true->(∀q∈kvs,∃a b:Int,q.1=[.inl a,.inl b])/\∀i,1<=i->i<kvs.length->zQ ((kvs.map fun q=>nS q.1).getD (i-1) (0,0)) ((kvs.map fun q=>nS q.1).getD i (0,0))
 | [],_=>⟨fun q h=>(by cases h),fun i _ h=>by simp at h⟩
 | [q],h=>by
   refine⟨fun q' hq=>?_,fun i h1 h2=>by simp at h2;omega⟩;rw[List.mem_singleton] at hq;subst hq;have h':lC [kT q'.1]=true:=h;unfold lC at h';split at h'
   ·rename_i heq;cases heq
   ·rename_i a b heq;injection heq with heq _;exact⟨a,b,pQ heq⟩
   ·rename_i heq;cases heq
   ·cases h'
 | q::q'::kvs,h=>by
   have h':(FS (kT q.1) (kT q'.1)&&lC ((q'::kvs).map fun q=>kT q.1))=true:=h;rw[Bool.and_eq_true] at h';obtain⟨i1,i2⟩:=vA h'.2;obtain⟨a,b,c,d,e1,e2,e3⟩:=BY h'.1;have k1:=pQ e1;have k2:=pQ e2;refine⟨fun x hx=>?_,fun i h1 h2=>?_⟩
   ·rcases List.mem_cons.mp hx with rfl | hx
    ·exact⟨a,b,k1⟩
    ·exact i1 x hx
   ·match i,h1,h2 with
    | 1,_,_ =>
      show zQ (nS q.1) (nS q'.1);rw[k1,k2];exact e3
    | i+2,_,h2 =>
      have:=i2 (i+1) (by omega) (by simp only[List.length_cons] at h2 ⊢;omega);exact this
def zn {P:Program}{w:World}{H:Hp}{h:Heap}(hok:∀a o,H a=some o->ObjOk P w H h a o):∀{bs:List Addr} {kvs:List (List Key×V)},mU H bs kvs->(∀q∈kvs,∃a b:Int,q.1=[.inl a,.inl b])->PrsAt h (bs.map Value.ref) (kvs.map fun q=>nS q.1)
 | [],[],_,_=>trivial
 | b::bs,q::kvs,t,hq=>by
   rw[List.map_cons,List.map_cons];refine⟨?_,zn hok t.2 fun x hx=>hq x (List.mem_cons_of_mem _ hx)⟩;obtain⟨x,y,e⟩:=hq q List.mem_cons_self;have t1:=t.1;rw[e] at t1 ⊢;obtain⟨_,its,rv,ht⟩:=hok b _ t1;cases rv with
   | cons r1 rr =>
     cases rr with
     | cons r2 rr =>
       cases rr;obtain⟨t,rfl⟩:=r1;obtain⟨u,rfl⟩:=r2;obtain⟨o,g1,g2,c,g3⟩:=ht;exact⟨b,o,c,t,u,rfl,g1,g2,g3⟩
def uV (hc:X.calm=true):dr X (.builtin "sorted") (fun xs H Q=>∃a o kvs,xs=[.ref a]/\H a=some (.frz o (.dT kvs))/\(lC (kvs.map fun q=>kT q.1)=true/\2<=kvs.length/\kvs.length<=1000)/\∀p bs,H p=none->mU H bs kvs->Q (.ref p) (bm H p (.lst (bs.map V.ref)))):=by
 intro pins s σ H xs us Q I r h;obtain⟨a,o,kvs,rfl,hq,⟨hr,h2,hz⟩,q⟩:=h;obtain⟨u,rfl,ru⟩:=Vals.one r;cases ru;obtain⟨hd,es,ep,hraw,_,hsz,hat⟩:=Ex (I.hok a _ hq);obtain⟨bs,eb,tb⟩:=vi (H:=H) es.toList kvs (by rw[Array.length_toList];exact hsz) fun i q' hq'=>by
  obtain⟨b,_,en,e1,e2,_,e3,_⟩:=hat i q' hq';exact⟨b,en,by rw[Array.getElem?_toList];exact e1,e2,e3⟩
 obtain⟨i1,i2⟩:=vA hr;have hp:PrsAt s.heap (es.toList.map (·.key)) (kvs.map fun q=>nS q.1):=by rw[eb];exact zn I.hok tb i1
 have hbl:bs.length=kvs.length:=by
  have:=congrArg List.length eb;rw[List.length_map,List.length_map,Array.length_toList] at this;omega
 refine qw (I.ok.hd hc) hd hraw hp (fun i a1 a2=>i2 i a1 (by rw[List.length_map] at a2;exact a2)) (by rw[List.length_map];exact h2) (by rw[List.length_map];exact hz) fun h' tk l c k1 hlt g1=>?_;rw[eb] at g1;refine⟨.ref l,bm H l (.lst (bs.map V.ref)),I.laid (o:=.lst (bs.map V.ref)) (t':=tk) k1 hlt ⟨by rw[List.length_map,bH];omega,bs.map Value.ref,c,?_,g1⟩,rfl,q _ bs (I.hok.fresh hlt) tb⟩;clear g1 eb tb hp hbl;induction bs with
 | nil=>exact .nil
 | cons b bs ih=>exact .cons rfl ih
def sS (hc:X.calm=true)(hg:Gl X "sorted")(hm:X.mg "sorted"=none)(he:DE X e me)(s1:starEach [e] X.env=(false,eval e X.env)::starEach [] X.env:=by rfl)(hpl:(backTo pos (starEach [] X.env)).any (·.1)=false:=by rfl) :
 DE X (.Call (.Name "sorted" p) [e] [] pos) (kF jY me):=by
 obtain⟨te,pe,qe⟩:=he;refine⟨_,gU (uV hc) hg hm boot_sorted (aI pe bF s1) (he:=s1) (hpl:=hpl),fun os σ H δ d Q s m k=>?_⟩;obtain⟨dx,e1,m⟩:=af m;refine qe os σ H δ dx _ s e1 fun v H1 g1 r1=>?_
 match dx,m with
 | .dic true ks vs,m =>
   have m':(if lC ks=true/\2<=ks.length/\ks.length<=1000 then some (D.lst ks) else none)=some d:=m;split at m'
   ·rename_i hb;cases m';obtain⟨a,xs,rfl,hF,_⟩:=r1.dic_inv;rcases hF with ⟨z,_⟩ | ⟨_,ob,kvs,f1,rfl,rfl⟩
    ·cases z
    ·rw[List.length_map] at hb;refine⟨a,ob,kvs,rfl,hide_le _ _ f1,hb,fun p bs hp tb=>?_⟩;exact k _ _ (g1.trans (aF hp _)) (.newL (s.live.mono g1) hp (oy (s.live.mono g1) tb))
   ·cases m'
end
end DL
namespace DL
open PySem
abbrev MP:=Ev->Option (Option Int)
noncomputable def FH (m:ME):MP:=fun δ=>(m δ).bind fun d=>match d with | .int i=>some (some i) | _=>none
noncomputable def Bq (n k:Nat):Option Int->Nat
 | none=>k
 | some i=>if i<0 then (if i+n<0 then 0 else (i+n).toNat) else (if i<n then i.toNat else n)
def cutD (xs:List D)(l h:Option Int):List D:=(xs.drop (Bq xs.length 0 l)).take (Bq xs.length xs.length h-Bq xs.length 0 l)
def GW (a:ME)(lo hi:MP):ME:=fun δ=>(a δ).bind fun x=>(lo δ).bind fun l=>(hi δ).bind fun h=>match x with
 | .tup xs=>some (.tup (cutD xs l h))
 | .lst xs=>some (.lst (cutD xs l h))
 | _=>none
def Cj (a b:ME):ME:=fun δ=>(a δ).bind fun z=>(b δ).bind fun d=>(B8 d z).bind fun k=>some (.bl k)
end DL
namespace DL
open PySem PySem.Spec PyProof.Rows L2
section
variable {X:Cx}{a b e o k:Expr}{ma mb me mo mk:ME}{pos p2:Pos}
def G3 (X:Cx)(o:Option Expr)(m:MP):Prop:=∃t:TO,PO X o t/\∀os σ H δ r Q,Sl X os H δ σ->m δ=some r->(∀H',Same H H'->Q r H')->t σ H Q
def Aw (h:DE X e me):G3 X (some e) (FH me):=by
 obtain⟨t,p,q⟩:=h;refine⟨_,pq p,fun os σ H δ r Q s m k=>?_⟩;obtain⟨d,e1,m⟩:=af m;refine q os σ H δ d _ s e1 fun v H1 g1 r1=>?_;cases d with
 | int i=>cases m;exact⟨i,r1.int_inv,k H1 g1⟩
 | _=>cases m
def oZ (n k:Nat)(o:Option Int):Bq n k o=HT.sIx n k o:=by
 cases o with
 | none=>rfl
 | some i =>
   show (if i<0 then (if i+n<0 then 0 else (i+n).toNat) else (if i<n then i.toNat else n))=if i<0 then (i+(n:Int)).toNat else min i.toNat n
   by_cases h:i<0
   ·rw[if_pos h,if_pos h];split <;> omega
   ·rw[if_neg h,if_neg h];split <;> omega
def Dens.cut {K:PySem.W.Frag}{H:Hp}{ds:List D}{xs:List V}(h:Dens K H ds xs)(l u:Option Int):Dens K H (cutD ds l u) (jO xs l u):=by
 unfold cutD jO;rw[oZ,oZ,h.length];exact(h.drop _).take _
def F6 {lo hi:Option Expr}{ml mh:MP}(he:DE X e me)(hl:G3 X lo ml)(hh:G3 X hi mh):DE X (.Subscript e (.Slice lo hi none p2) pos) (GW me ml mh):=by
 obtain⟨t,p,q⟩:=he;obtain⟨tl,pl,ql⟩:=hl;obtain⟨th,ph,qh⟩:=hh;refine⟨_,lI (sl_list.or (sl_tup.or oY)) p pl ph,fun os σ H δ d Q s m kq=>?_⟩;obtain⟨x,e1,m⟩:=af m;obtain⟨l,e2,m⟩:=af m;obtain⟨h,e3,m⟩:=af m;refine q os σ H δ x _ s e1 fun v H1 g1 r1=>?_;refine ql os σ H1 δ l _ (s.mono g1) e2 fun H2 g2=>?_;refine qh os σ H2 δ h _ (s.mono (g1.trans g2)) e3 fun H3 g3=>?_;have g:=g1.trans (g2.trans g3);have r3:=r1.mono (g2.trans g3).hd _ _;cases x with
 | lst ds =>
   cases m;obtain⟨a,xs,rfl,h1,h2⟩:=r3.lst_up;exact .inl ⟨a,xs,rfl,h1,fun q hq=>kq _ _ (g.trans (aF hq (.lst (jO xs l h)))) (.newL (s.live.mono g) hq (h2.cut l h))⟩
 | tup ds =>
   cases m;obtain⟨a,xs,rfl,h1,h2⟩:=r3.tup_up;by_cases hw:HT.sIx xs.length 0 l=0/\HT.sIx xs.length xs.length h=xs.length
   ·refine .inr (.inr ⟨a,xs,rfl,h1,hw,kq _ H3 g ?_⟩);have:cutD ds l h=ds:=by
     unfold cutD;rw[oZ,oZ,h2.length,hw.1,hw.2,Nat.sub_zero,List.drop_zero,<-h2.length,List.take_length]
    rw[this];exact r3
   ·exact .inr (.inl ⟨a,xs,rfl,h1,hw,fun q hq=>kq _ _ (g.trans (aF hq (.tup (jO xs l h)))) (.newT (s.live.mono g) hq (h2.cut l h))⟩)
 | _=>cases m
end
section
variable {X:Cx}{a b:Expr}{ma mb:ME}{pos:Pos}
def EI (hu:X.A.units+1<cLine)(ha:DE X a ma)(hb:DF X b mb)(hmk:behindInMarks .In b=false:=by rfl):DE X (.Compare a [.In] [b] pos) (Cj ma mb):=by
 obtain⟨ta,pa,qa⟩:=ha;obtain⟨tb,pb,qb⟩:=hb;refine⟨_,DX (zA hu pa pb) hmk,fun os σ H δ d Q s m kq=>?_⟩;obtain⟨y,e1,m⟩:=af m;obtain⟨dd,e2,m⟩:=af m;obtain⟨c,e3,m⟩:=af m;cases m;refine qa os σ H δ y _ s e1 fun u H1 g1 r1=>?_;refine qb os σ H1 δ dd _ (s.mono g1) e2 fun p H2 g2 hp ow=>?_;cases dd with
 | dic t ks vs =>
   obtain⟨xs,w6,_⟩:=ow;obtain⟨w,w7,w8⟩:=pS (vs:=vs) ((s.mono g1).mono g2).live (.inl w6) (r1.mono g2.hd _ _) e3;exact⟨p,w,rfl,w7,by rw[w8];exact kq _ H2 (g1.trans g2) (.bl c)⟩
 | _=>cases e3
end
end DL
namespace DL
open PySem PySem.W PyProof.Rows
noncomputable def e9 {α:Type}(lt:Nat->Nat->Bool):KasT α->α
 | .ret a=>a
 | .ask i j k=>e9 lt (k (lt i j))
noncomputable def zR:List Int->List Int->Bool
 | _,[]=>false
 | [],_::_=>true
 | a::x,b::y=>if a=b then zR x y else decide (a<b)
def Ed:D->Option (List Int×Int)
 | .tup [.tup ks,.int a]=>(intsOf ks).bind fun is=>some (is,a)
 | _=>none
def uA:List D->Option (List (List Int×Int))
 | []=>some []
 | d::ds=>(Ed d).bind fun q=>(uA ds).bind fun r=>some (q::r)
def CU (x y:List Int×Int):Bool:=if x.1=y.1 then decide (x.2<y.2) else zR x.1 y.1
def ltAt (qs:List (List Int×Int))(i j:Nat):Bool:=CU (qs.getD i ([],0)) (qs.getD j ([],0))
def nB (qs:List (List Int×Int))(ds:List D):List D:=if ds.length<2 then ds else (e9 (ltAt qs) (kas_sort ds.length)).toList.map fun i=>ds.getD i .non
def jX:D->Option D
 | .lst ds=>(uA ds).bind fun qs=>if ds.length<64 then some (.lst (nB qs ds)) else none
 | _=>none
noncomputable def kb:Int->List Int->Int
 | i,[]=>i
 | i,j::r=>kb (if j>i then j else i) r
def wl:MF:=fun ds=>match ds with
 | [.lst xs]=>(intsOf xs).bind fun is=>match is with
   | []=>none
   | i::r=>if r.length<=100000 then some (.int (kb i r)) else none
 | _=>none
noncomputable def eh {α:Type}(n:Nat)(lt:Nat->Nat->Bool)(Q:α->Prop):KasT α->Prop
 | .ret a=>Q a
 | .ask i j k=>i<n/\j<n/\eh n lt Q (k (lt i j))
section
variable {n:Nat}{lt:Nat->Nat->Bool}
def fV {α β:Type}{Q:β->Prop}{f:α->KasT β}:∀(t:KasT α),eh n lt (fun a=>eh n lt Q (f a)) t->eh n lt Q (t.bind f)
 | .ret a,h=>h
 | .ask i j k,⟨h1,h2,h3⟩=>⟨h1,h2,fV (k (lt i j)) h3⟩
def jC {α:Type}{Q:α->Prop}:∀(t:KasT α),eh n lt Q t->Q (e9 lt t)
 | .ret a,h=>h
 | .ask i j k,⟨_,_,h3⟩=>jC (k (lt i j)) h3
def fU {α:Type}{Q R:α->Prop}(hqr:∀a,Q a->R a):∀(t:KasT α),eh n lt Q t->eh n lt R t
 | .ret a,h=>hqr a h
 | .ask i j k,⟨h1,h2,h3⟩=>⟨h1,h2,fU hqr (k (lt i j)) h3⟩
def Pm (n:Nat)(p:Array Nat):Prop:=p.toList.Perm (List.range n)
def Pm.in_ {p:Array Nat}(hn:0<n)(h:Pm n p)(i:Nat):p.getD i 0<n:=by
 by_cases hi:i<p.size
 ·have e:p.getD i 0=p[i]:=by simp[Array.getD,hi]
  rw[e];have:p[i]∈p.toList:=by simp
  exact List.mem_range.mp (h.mem_iff.mp this)
 ·have e:p.getD i 0=0:=by simp[Array.getD,hi]
  rw[e];exact hn
def Pm.rev {p:Array Nat}(h:Pm n p)(i j:Nat):Pm n (kas_rev p i j):=(Array.perm_iff_toList_perm.mp (mirror_perm p i j _)).trans h
def Pm.bub {p:Array Nat}(h:Pm n p)(i j:Nat):Pm n (bubble p i j):=(Array.perm_iff_toList_perm.mp (bubble_perm p i j)).trans h
def pP {p:Array Nat}(hn:0<n)(h:Pm n p):∀(f m:Nat),eh n lt (fun _=>True) (kas_asc p f m)
 | 0,m=>trivial
 | f+1,m=>by
   refine⟨h.in_ hn _,h.in_ hn _,?_⟩;dsimp only;split
   ·trivial
   ·exact pP hn h f (m+1)
def jD (hn:0<n):∀(f:Nat) (p:Array Nat) (m q:Nat),Pm n p->eh n lt (fun r=>Pm n r.1) (kas_desc f p m q)
 | 0,p,m,q,h=>h
 | f+1,p,m,q,h=>by
   refine⟨h.in_ hn _,h.in_ hn _,?_⟩;dsimp only;split
   ·split
    ·exact jD hn f _ _ _ (h.rev _ _)
    ·exact jD hn f _ _ _ h
   ·refine⟨h.in_ hn _,h.in_ hn _,?_⟩;dsimp only;split
    ·exact h
    ·exact jD hn f _ _ _ h
def oh (hn:0<n){p:Array Nat}(h:Pm n p)(m k:Nat):eh n lt (fun r=>Pm n r.2) (kas_tail3 m k p):=fV _ (fU (fun _ _=>h.rev _ _) _ (pP hn (h.rev _ _) _ _))
def sg (hn:0<n){p:Array Nat}(h:Pm n p)(m k:Nat):eh n lt (fun r=>Pm n r.2) (kas_descPart m k p):=by
 refine fV _ (fU (fun r hr=>?_) _ (jD hn _ _ _ _ h));split
 ·exact oh hn (hr.rev _ _) _ _
 ·exact oh hn hr _ _
def xD (hn:0<n){p:Array Nat}(h:Pm n p)(k:Nat):eh n lt (fun r=>Pm n r.2) (kas_count k p):=by
 refine fV _ (fU (fun m _=>?_) _ (pP hn h _ _));split
 ·exact h
 ·split
  ·refine⟨h.in_ hn _,h.in_ hn _,?_⟩;dsimp only;split
   ·exact h
   ·exact sg hn (h.rev _ _) _ _
  ·exact sg hn h _ _
def kd (hn:0<n){p:Array Nat}(h:Pm n p)(k:Nat):∀f l r,eh n lt (fun _=>True) (kas_place p k f l r)
 | 0,l,r=>trivial
 | f+1,l,r=>by
   unfold kas_place;split
   ·trivial
   ·refine⟨h.in_ hn _,h.in_ hn _,?_⟩;dsimp only;split
    ·exact kd hn h k f _ _
    ·exact kd hn h k f _ _
def v7 (hn:0<n):∀(f:Nat) (p:Array Nat) (k:Nat),Pm n p->eh n lt (Pm n) (kas_bin f p k)
 | 0,p,k,h=>h
 | f+1,p,k,h=>fV _ (fU (fun l _=>v7 hn f _ _ (h.bub _ _)) _ (kd hn h k _ _ _))
def hZ (hn:0<n):eh n lt (Pm n) (kas_sort n):=by
 refine fV _ (fU (fun r hr=>?_) _ (xD hn (p:=List.toArray (List.range n)) (List.Perm.refl _) n));split
 ·exact v7 hn _ _ _ hr
 ·exact hr
end
def Ak (ds:List D):(List.range ds.length).map (fun i=>ds.getD i .non)=ds:=by
 refine List.ext_getElem (by simp) fun i h1 h2=>?_;simp[h2]
def tY (qs:List (List Int×Int))(ds:List D):(nB qs ds).Perm ds:=by
 unfold nB;split
 ·exact List.Perm.refl _
 ·have:=(jC _ (hZ (n:=ds.length) (lt:=ltAt qs) (by omega))).map fun i=>ds.getD i .non;rw[Ak] at this;exact this
end DL
namespace DL
open PySem PyProof.Rows PySem.W
section
variable {P:Program}{w:World}{A:Around}{E:Value->Shared->Prop}{s:Shared}
def zX {α:Type}{n:Nat}{lt:Nat->Nat->Bool}{Q:α->Prop}{cmp:Nat->Nat->(Bool->Shared->Prop)->Shared->Prop}(hc:∀i j C,i<n->j<n->C (lt i j) s->cmp i j C s):∀t:KasT α,eh n lt Q t->t.kasWp cmp (fun a s'=>a=e9 lt t/\s'=s) s
 | .ret a,_=>⟨rfl,rfl⟩
 | .ask i j k,⟨h1,h2,h3⟩=>hc i j _ h1 h2 (zX hc (k (lt i j)) h3)
def fQ (lt:Nat->Nat->Bool)(vs:List Value):List Value:=if vs.length<2 then vs else (e9 lt (kas_sort vs.length)).toList.map fun i=>vs.getD i .none
def vS (lt:Nat->Nat->Bool)(vs:List Value):(fQ lt vs).length=vs.length:=by
 unfold fQ;split
 ·rfl
 ·have:=(jC _ (hZ (n:=vs.length) (lt:=lt) (by omega))).length_eq;rw[List.length_map,this,List.length_range]
def yJ {a:Addr}{vs:List Value}{c:Nat}{κ:SortKind}{lt:Nat->Nat->Bool}{R:PySem.Fin->Shared->Prop}(ho:s.heap.get? a=some (seqObj "list" vs.toArray c))(h64:vs.length<64)
 (hk:2<=vs.length->∀(h':Heap) (Q:SortKind->Shared->Prop),Bg a s.heap h'->Q κ { s with heap:=h' }->wpAny (model P w) A (keyKind' vs.toArray) Q E { s with heap:=h' })
 (hc:∀(h':Heap) (i j:Nat) (C:Bool->Shared->Prop),Bg a s.heap h'->i<vs.length->j<vs.length->C (lt i j) { s with heap:=h' }->kas_ask P w A κ vs i j C { s with heap:=h' })
 (k:R (.done (.ret .none)) { s with heap:=sortedHeap s.heap a vs (fQ lt vs).toArray }):wpAny (model P w) A (Builtin.«list.sort» ⟨[.ref a],[]⟩) R E s:=by
 have hs:vs.toArray.size=vs.length:=by simp
 have e0:=get?_update_seq ho fun _=>(#[]:Array Value);generalize hh:((s.heap.update a (Obj.mapSeq fun _=>(#[]:Array Value))).push (seqObj "tuple" vs.toArray 0)).push (seqObj "list" #[] 0)=h1;have g1:=Heap.get?_push_of_some (seqObj "list" #[] 0) (Heap.get?_push_of_some (seqObj "tuple" vs.toArray 0) e0);rw[hh] at g1;have b1:Bg a s.heap h1:=fun b o hb q=>by
  rw[<-hh];exact Heap.get?_push_of_some _ (Heap.get?_push_of_some _ ((Heap.get?_update_other _ _ (Ne.symm hb)).trans q))
 have hol:=vS lt vs;have hzip:(pairsOf vs).map (·.2)=vs.toArray:=by
  unfold pairsOf;apply Array.toList_inj.mp;simp only[Array.toList_map,Array.toList_zip];exact List.map_snd_zip (Nat.le_refl _)
 unfold sortedHeap at k;rw[hh] at k;rw[list_sort_plain];refine wpAny_bind (listItems_at ho rfl (wpAny_bind (listUpdate_at ho rfl (wpAny_bind (seqEpoch_at e0 rfl (wpAny_bind (wpAny_newTuple (wpAny_bind (wpAny_newList (wpAny_holding ?_) (by simp))) (by rw[sizeLine_eq];simp;omega))))) (by rw[hs,sizeLine_eq];omega) (Nat.zero_le _))));show wpAny _ _ _ _ _ { s with heap:=((s.heap.update a (Obj.mapSeq fun _=>(#[]:Array Value))).push (seqObj "tuple" vs.toArray 0)).push (seqObj "list" #[] 0) };rw[hh];by_cases h2:vs.length<2
 ·rw[if_pos (by omega),if_pos (by omega)];have eo:fQ lt vs=vs:=by unfold fQ;rw[if_pos h2]
  rw[eo] at k;refine wpAny_bind (wpAny_pure (wpAny_bind (wpAny_pure ?_)));have hm:(arrOf (SortSt.mk' general' (vs.toArray.zip vs.toArray) #[] 7 none)).map (·.2)=vs.toArray:=hzip;refine wpAny_bind (seqEpoch_at g1 rfl (wpAny_bind (listUpdate_at g1 rfl ?_ (Nat.zero_le _) (by show ((arrOf (SortSt.mk' general' (vs.toArray.zip vs.toArray) #[] 7 none)).map (·.2)).size<=_;rw[hm,hs,sizeLine_eq];omega))));rw[show failedOf (SortSt.mk' general' (vs.toArray.zip vs.toArray) #[] 7 none)=none from rfl,hm];simp only[bne_self_eq_false,Bool.false_eq_true,if_false];exact wpAny_pure k
 ·rw[if_neg (by omega),if_neg (by omega)];have eo:fQ lt vs=(e9 lt (kas_sort vs.length)).toList.map fun i=>vs.getD i .none:=by unfold fQ;rw[if_neg h2]
  refine wpAny_bind (hk (by omega) h1 _ b1 ?_);have hps:=pairsOf_size vs;have tree:=zX (s:={ s with heap:=h1 }) (cmp:=kas_cmp P w A κ (pairsOf vs)) (fun i j C hi hj q=>by rw[<-kas_ask_eq];exact hc h1 i j C b1 hi hj q) _ (hZ (n:=vs.length) (lt:=lt) (by omega));have run:=kas_runs (E:=E) (Q:=fun _ st' s'=>(arrOf st').map (·.2)=(fQ lt vs).toArray/\failedOf st'=none/\s'={ s with heap:=h1 }) (by omega) h64 (fun p' st' s' _ a2 a3 a4=>⟨by
   obtain⟨rfl,_⟩:=a4;rw[a2,eo];apply Array.toList_inj.mp;rw[Array.map_map,Array.toList_map];refine List.map_congr_left fun i _=>?_;simp only[Function.comp];rw[kas_item_eq],a3,a4.2⟩) tree
  have est:SortSt.mk' κ (pairsOf vs) #[] 7 none=kas_st κ (pairsOf vs) (List.toArray (List.range vs.length)):=by
   unfold kas_st;rw[<-hps,kas_range]
  rw[<-est] at run;refine wpAny_bind (wpAny_mono run (fun r s' z=>?_) fun _ _ z=>z);obtain⟨u,st'⟩:=r;obtain⟨hm,e2,rfl⟩:=z;refine wpAny_bind (seqEpoch_at g1 rfl (wpAny_bind (listUpdate_at g1 rfl ?_ (Nat.zero_le _) (by show ((arrOf st').map (·.2)).size<=_;rw[hm,List.size_toArray,hol,sizeLine_eq];omega))));rw[e2,hm];simp only[bne_self_eq_false,Bool.false_eq_true,if_false];exact wpAny_pure k
def qy {l:Addr}{vs:List Value}{κ:SortKind}{lt:Nat->Nat->Bool}{Q:Value->Shared->Prop}(hl:s.heap.IsList l vs.toArray)(h64:vs.length<64)
 (hk:2<=vs.length->∀(E':Value->Shared->Prop) (h':Heap) (Q:SortKind->Shared->Prop),(∀b o,s.heap.get? b=some o->h'.get? b=some o)->Q κ { s with heap:=h' }->wpAny (model P w) A.in1.in1 (keyKind' vs.toArray) Q E' { s with heap:=h' })
 (hc:∀(h':Heap) (i j:Nat) (C:Bool->Shared->Prop),(∀b o,s.heap.get? b=some o->h'.get? b=some o)->i<vs.length->j<vs.length->C (lt i j) { s with heap:=h' }->kas_ask P w A.in1.in1 κ vs i j C { s with heap:=h' })
 (k:∀h' a c,(∀b o,s.heap.get? b=some o->h'.get? b=some o)->s.heap.objs.size<=a->h'.get? a=some (seqObj "list" (fQ lt vs).toArray c)->Q (.ref a) { s with heap:=h' }) :
 wpAny (model P w) A (call (.builtin "sorted") [.ref l]) Q E s:=by
 refine Calls.call_function_entry kind_sorted plain_sorted entry_sorted (args_sorted1 _) ?_;unfold Builtin.«sorted»;refine wpAny_bind (m:=checkCount "sorted" 1 1 _) (wpAny_pure (wpAny_bind (collect_list hl (wpAny_bind (wpAny_newList ?_ (by rw[sizeLine_eq];omega))) (by rw[sizeLine_eq];omega))));generalize hg:(s.heap.push (seqObj "list" #[] 0)).update s.heap.objs.size (Obj.mapSeq (·++vs.toArray))=h1;have k1:∀b o,s.heap.get? b=some o->h1.get? b=some o:=fun b o q=>by
  rw[<-hg];exact(Heap.get?_update_other _ _ (Nat.ne_of_gt (Heap.lt_size q))).trans (Heap.get?_push_of_some _ q)
 have sz:s.heap.objs.size<=h1.objs.size:=by rw[<-hg,Heap.size_update,size_push'];exact Nat.le_succ _
 have gL:(h1.push (seqObj "list" vs.toArray 0)).get? h1.objs.size=some (seqObj "list" vs.toArray 0):=Heap.get?_push_size _ rfl;have keep:∀h2,Bg h1.objs.size (h1.push (seqObj "list" vs.toArray 0)) h2->∀b o,s.heap.get? b=some o->h2.get? b=some o:=fun h2 hb b o q=>hb b o (Nat.ne_of_lt (Heap.lt_size (k1 b o q))) (Heap.get?_push_of_some _ (k1 b o q));refine wpAny_bind (wpAny_holding (wpAny_call_entry slot_list_sort ⟨_,gL,rfl⟩ entry_list_sort (yJ (κ:=κ) (lt:=lt) gL h64 (fun h2 h' Q hb q=>hk h2 _ h' Q (keep h' hb) q) (fun h' i j C hb hi hj q=>hc h' i j C (keep h' hb) hi hj q) ⟨_,rfl,?_⟩) (args_list_sort _)));obtain⟨e,he⟩:=sortedHeap_at (out:=(fQ lt vs).toArray) gL;refine wpAny_pure ⟨_,rfl,k _ h1.objs.size e (fun b o q=>?_) sz he⟩;have hlt:=Heap.lt_size (k1 _ _ q);rw[sortedHeap_old (Nat.ne_of_lt hlt) (by rw[size_push'];exact Nat.lt_succ_of_lt hlt)];exact Heap.get?_push_of_some _ (k1 _ _ q)
end
end DL
namespace DL
open PySem PySem.Spec PyProof.Rows L2 PySem.W
section
variable {X:Cx}{pins:List (Addr×Obj)}{σ:L2.St}{H:Hp}{s:Shared}{e:Expr}{me:ME}{pos p:Pos}
def zP:∀a b:List Int,HT.lexLt a b=zR a b
 | [],[]=>rfl
 | [],_::_=>rfl
 | _::_,[]=>rfl
 | x::a,y::b=>by rw[HT.lexLt,zR,zP a b]
def wm:∀{ks ls:List D} {is js:List Int},intsOf ks=some is->intsOf ls=some js->eI ks ls=decide (is=js)
 | [],[],_,_,h1,h2=>by cases h1;cases h2;rfl
 | [],d::ls,_,js,h1,h2=>by
   cases h1;cases d with
   | int j =>
     obtain⟨r,_,e⟩:=af h2;cases e;rfl
   | _=>cases h2
 | d::ks,[],is,_,h1,h2=>by
   cases h2;cases d with
   | int j =>
     obtain⟨r,_,e⟩:=af h1;cases e;rfl
   | _=>cases h1
 | d::ks,d'::ls,is,js,h1,h2=>by
   cases d with
   | int i =>
     cases d' with
     | int j =>
       obtain⟨r,e1,e⟩:=af h1;cases e;obtain⟨r',e2,e⟩:=af h2;cases e;show ((i==j)&&eI ks ls)=_;rw[wm e1 e2,Bool.eq_iff_iff];simp
     | _=>cases h2
   | _=>cases h1
def mH:∀{ks:List D} {is:List Int},intsOf ks=some is->bu ks=0
 | [],_,_=>rfl
 | d::ks,is,h=>by
   cases d with
   | int i =>
     obtain⟨r,e1,_⟩:=af h;show max 0 (bu ks)=0;rw[mH e1];rfl
   | _=>cases h
def B4 {d:D}{q:List Int×Int}(h:Ed d=some q):∃ks,d=.tup [.tup ks,.int q.2]/\intsOf ks=some q.1:=by
 unfold Ed at h;split at h
 ·obtain⟨is,e,h⟩:=af h;cases h;exact⟨_,rfl,e⟩
 ·cases h
def pB (I:L2.Inv X pins σ H s){d:D}{q:List Int×Int}{y:V}{v:Value}(hd:Den X.K H d y)(rv:RelV y v)(hq:Ed d=some q):∃ks b c o b' its t,intsOf ks=some q.1/\v=.ref b/\s.heap.get? b=some o/\o.cls=.type "tuple"/\o.data=.seq #[.ref b',.int q.2 t] c/\Den X.K H (.tup ks) (.ref b')/\IsTup s.heap b' its/\IntsAre its.toList q.1:=by
 obtain⟨ks,rfl,hk⟩:=B4 hq;obtain⟨b,xs,rfl,h1,h2⟩:=hd.tup_inv;cases rv;obtain⟨z1,r,rfl,d1,h2⟩:=h2.uncons;obtain⟨z2,r,rfl,d2,h2⟩:=h2.uncons;have:=h2.unnil;subst this;obtain⟨b',zs,rfl,h3,h4⟩:=d1.tup_inv;rw[d2.int_inv] at h1;obtain⟨_,us,rv,ht⟩:=I.hok b _ h1;obtain⟨_,us',rv',ht'⟩:=I.hok b' _ h3;cases rv with
 | cons r1 rr =>
   cases rr with
   | cons r2 rr =>
     cases rr;cases r1;obtain⟨t,rfl⟩:=r2;obtain⟨o,g1,g2,c,g3⟩:=ht;have ez:=cH hk h4;subst ez;exact⟨ks,b,c,o,b',us'.toArray,t,hk,rfl,g1,g2,g3,d1,ht',intsAre_of rv'⟩
def BO (I:L2.Inv X pins σ H s){A:Around}{E:Value->Shared->Prop}(hu:A.units+2<cLine){d d':D}{q q':List Int×Int}{y y':V}{v v':Value}(hd:Den X.K H d y)(hd':Den X.K H d' y')(rv:RelV y v)(rv':RelV y' v')(hq:Ed d=some q)(hq':Ed d'=some q'){C:Bool->Shared->Prop}(h:C (CU q q') s):wpAny (model X.prog X.w) A (keyLt' (tuples' false) v v') C E s:=by
 obtain⟨ks,b,c,o,b',its,t,k1,rfl,g1,g2,g3,d1,t1,i1⟩:=pB I hd rv hq;obtain⟨ks',c1,c',o',c2,its',t',k1',rfl,g1',g2',g3',d1',t1',i1'⟩:=pB I hd' rv' hq';have dp:bg (.tup ks)=1:=by show bu ks+1=1;rw[mH k1]
 have dp':bg (.tup ks')=1:=by show bu ks'+1=1;rw[mH k1']
 have eqa:=Ar I 1 A (.tup ks) (.tup ks') (.ref b') (.ref c2) (.ref b') (.ref c2) (by omega) ⟨by omega,by omega⟩ (by omega) d1 d1' rfl rfl;have ee:bP (.tup ks) (.tup ks')=decide (q.1=q'.1):=wm k1 k1';rw[ee] at eqa;refine kat_lt g1 g3 g1' g3' (kat_cons (eqa _ _ _ _ (kat_go (fun e=>?_) fun e=>?_)))
 ·have e:q.1=q'.1:=of_decide_eq_true e;refine kat_yes (kat_cons (wpAny_eqBool_int (kat_go (fun e2=>?_) fun e2=>?_)))
  ·have e2:q.2=q'.2:=eq_of_beq e2;refine kat_yes (kat_nil ?_);have:CU q q'=false:=by unfold CU;rw[if_pos e,e2,decide_eq_false (Int.lt_irrefl _)]
   rw[this] at h;exact h
  ·refine kat_no (kat_one _ _ (wpAny_lt_int ?_));have:CU q q'=decide (q.2<q'.2):=by unfold CU;rw[if_pos e]
   rw[this] at h;exact h
 ·have e:q.1≠q'.1:=of_decide_eq_false e;refine kat_no (kat_one _ _ (HT.lt_tupInts t1 t1' i1 i1' (by omega) ?_));have:CU q q'=zR q.1 q'.1:=by unfold CU;rw[if_neg e]
  rw[this,<-zP] at h;exact h
end
section
variable {X:Cx}{pins:List (Addr×Obj)}{σ:L2.St}{H:Hp}{s:Shared}{e:Expr}{me:ME}{pos p:Pos}
def kat_tups (I:L2.Inv X pins σ H s):∀{ds:List D} {ys:List V} {its:List Value} {qs:List (List Int×Int)},Dens X.K H ds ys->Vals ys its->uA ds=some qs->∃fs:List Value,KatTups s.heap its fs/\fs.length=its.length/\∀v∈fs,Looks (model X.prog X.w) s.heap (typeOf v) (.type "tuple")
 | [],_,_,_,hd,rv,_=>by
   rw[hd.unnil] at rv;cases rv;exact⟨[],.nil,rfl,fun v hv=>by cases hv⟩
 | d::ds,_,_,_,hd,rv,hq=>by
   obtain⟨y,r,rfl,d1,d2⟩:=hd.uncons;obtain⟨q,e1,hq⟩:=af hq;obtain⟨qs,e2,_⟩:=af hq;cases rv with
   | cons r1 rr =>
     obtain⟨fs,a1,a2,a3⟩:=kat_tups I d2 rr e2;obtain⟨ks,b,c,o,b',its',t,_,rfl,g1,g2,g3,_,t1,_⟩:=pB I d1 r1 e1;refine⟨.ref b'::fs,.cons g1 g2 g3 rfl a1,by rw[List.length_cons,List.length_cons,a2],fun v hv=>?_⟩;rcases List.mem_cons.mp hv with rfl | hv
     ·obtain⟨o',g1',g2',_⟩:=t1;have:Looks (model X.prog X.w) s.heap (typeOf (.ref b')) o'.cls:=(Looks.ld g1').andThen .now;rw[g2'] at this;exact this
     ·exact a3 v hv
def ie:∀{ds:List D} {ys:List V} {its:List Value} {qs:List (List Int×Int)} (i:Nat),Dens X.K H ds ys->Vals ys its->uA ds=some qs->i<its.length->∃d,Den X.K H d (ys.getD i .non)/\RelV (ys.getD i .non) (its.getD i .none)/\Ed d=some (qs.getD i ([],0))
 | [],_,_,_,i,hd,rv,_,hi=>by
   rw[hd.unnil] at rv;cases rv;simp at hi
 | d::ds,_,_,_,i,hd,rv,hq,hi=>by
   obtain⟨y,r,rfl,d1,d2⟩:=hd.uncons;obtain⟨q,e1,hq⟩:=af hq;obtain⟨qs,e2,hq⟩:=af hq;cases hq;cases rv with
   | cons r1 rr =>
     cases i with
     | zero=>exact⟨d,d1,r1,e1⟩
     | succ i =>
       obtain⟨d',a1,a2,a3⟩:=ie i d2 rr e2 (by simpa using hi);exact⟨d',a1,a2,a3⟩
def uq (lt:Nat->Nat->Bool)(ys:List V):List V:=if ys.length<2 then ys else (e9 lt (kas_sort ys.length)).toList.map fun i=>ys.getD i .non
def rK {lt:Nat->Nat->Bool}{ys:List V}{its:List Value}(r:Vals ys its):Vals (uq lt ys) (fQ lt its):=by
 have hl:=r.length;unfold uq fQ;rw[hl];split
 ·exact r
 ·rename_i h2;have hm:∀i∈(e9 lt (kas_sort its.length)).toList,i<its.length:=fun i hi=>List.mem_range.mp ((jC _ (hZ (n:=its.length) (lt:=lt) (by omega))).mem_iff.mp hi);generalize (e9 lt (kas_sort its.length)).toList=l at hm
  induction l with
  | nil=>exact .nil
  | cons i l ih =>
    have hi:=hm i List.mem_cons_self;refine .cons ?_ (ih fun j hj=>hm j (List.mem_cons_of_mem _ hj));obtain⟨x,e1,e2⟩:=oT r (i:=i) (u:=its.getD i .none) (by simp[hi]);have:ys.getD i .non=x:=by simp[e1]
    show RelV (ys.getD i .non) (its.getD i .none);rw[this];exact e2
def zC {K:PySem.W.Frag}{B:Hp}{qs:List (List Int×Int)}{ds:List D}{ys:List V}(r:Dens K B ds ys):Dens K B (nB qs ds) (uq (ltAt qs) ys):=by
 have hl:=r.length;unfold nB uq;rw[hl];split
 ·exact r
 ·rename_i h2;have hm:∀i∈(e9 (ltAt qs) (kas_sort ys.length)).toList,i<ys.length:=fun i hi=>List.mem_range.mp ((jC _ (hZ (n:=ys.length) (lt:=ltAt qs) (by omega))).mem_iff.mp hi);generalize (e9 (ltAt qs) (kas_sort ys.length)).toList=l at hm
  induction l with
  | nil=>exact .nil
  | cons i l ih =>
    have hi:=hm i List.mem_cons_self;refine .cons ?_ (ih fun j hj=>hm j (List.mem_cons_of_mem _ hj));obtain⟨x,e1,e2⟩:=r.get (i:=i) (d:=ds.getD i .non) (by simp[show i<ds.length by omega]);have:ys.getD i .non=x:=by simp[e1]
    show Den K B (ds.getD i .non) (ys.getD i .non);rw[this];exact e2
def uW (hu:X.A.units+64<cLine):dr X (.builtin "sorted") (fun xs H Q=>∃a ds ys qs,xs=[.ref a]/\SqL X.K H a ys/\Dens X.K H ds ys/\uA ds=some qs/\ds.length<64/\∀p,H p=none->Q (.ref p) (bm H p (.lst (uq (ltAt qs) ys)))):=by
 intro pins s σ H xs us Q I r h;obtain⟨a,ds,ys,qs,rfl,hq,hd,hi,h64,q⟩:=h;obtain⟨u,rfl,ru⟩:=Vals.one r;cases ru;obtain⟨its,rv,pl,hz⟩:=I.list hq;have l1:=hd.length;have l2:=rv.length;refine qy (lt:=ltAt qs) (κ:=tuples' false) pl.isList (by omega) (fun h2 E' h' Q' keep q'=>?_) (fun h' i j C keep hi' hj' q'=>?_) fun h' a' c keep hle g=>?_
 ·have I':L2.Inv X pins σ H { s with heap:=h' }:=I.kept (t':=s.toks) keep;obtain⟨fs,b1,b2,b3⟩:=kat_tups I' hd rv hi;exact kat_kind (T:=.type "tuple") b1 (by omega) b3 (by decide) q'
 ·have I':L2.Inv X pins σ H { s with heap:=h' }:=I.kept (t':=s.toks) keep;obtain⟨d,a1,a2,a3⟩:=ie i hd rv hi hi';obtain⟨d',a1',a2',a3'⟩:=ie j hd rv hi hj';exact BO I' (A:=X.A.in1.in1) (by show X.A.units+1+1+2<cLine;omega) a1 a1' a2 a2' a3 a3' q'
 ·have hol:=vS (ltAt qs) its;have hov:=(rK (lt:=ltAt qs) rv).length;refine⟨.ref a',bm H a' (.lst (uq (ltAt qs) ys)),I.laid (o:=.lst (uq (ltAt qs) ys)) (t':=s.toks) keep hle ⟨by rw[hov,hol,<-l2];exact hz,fQ (ltAt qs) its,c,rK rv,g⟩,rfl,q _ (I.hok.fresh hle)⟩
def sT (hu:X.A.units+64<cLine)(hg:Gl X "sorted")(hm:X.mg "sorted"=none)(he:DE X e me)(s1:starEach [e] X.env=(false,eval e X.env)::starEach [] X.env:=by rfl)(hpl:(backTo pos (starEach [] X.env)).any (·.1)=false:=by rfl) :
 DE X (.Call (.Name "sorted" p) [e] [] pos) (kF jX me):=by
 obtain⟨te,pe,qe⟩:=he;refine⟨_,gU (uW hu) hg hm boot_sorted (aI pe bF s1) (he:=s1) (hpl:=hpl),fun os σ H δ d Q s m k=>?_⟩;obtain⟨dx,e1,m⟩:=af m;refine qe os σ H δ dx _ s e1 fun v H1 g1 r1=>?_;cases dx with
 | lst ds =>
   obtain⟨qs,e2,m⟩:=af m;split at m
   ·rename_i hb;cases m;obtain⟨a,ys,rfl,h1,h2⟩:=r1.lst_up;exact⟨a,ds,ys,qs,rfl,h1,h2.up,e2,hb,fun p hp=>k _ _ (g1.trans (aF hp _)) (.newL (s.live.mono g1) hp (zC h2))⟩
   ·cases m
 | _=>cases m
end
end DL
namespace DL
open PySem PySem.Spec PyProof.Rows L2
section
variable {X:Cx}
def nZ:∀(r:List Int) (i:Int),kb i r∈i::r/\∀a∈i::r,a<=kb i r
 | [],i=>⟨List.mem_cons_self,fun a h=>by rw[List.mem_singleton] at h;subst h;exact Int.le_refl _⟩
 | j::r,i=>by
   obtain⟨h1,h2⟩:=nZ r (if j>i then j else i);rw[kb];have top:=h2 _ List.mem_cons_self;have hi:i<=if j>i then j else i:=by split <;> omega
   have hj:j<=if j>i then j else i:=by split <;> omega
   refine⟨?_,fun a ha=>?_⟩
   ·rcases List.mem_cons.mp h1 with e | e
    ·rw[e];split
     ·exact List.mem_cons_of_mem _ List.mem_cons_self
     ·exact List.mem_cons_self
    ·exact List.mem_cons_of_mem _ (List.mem_cons_of_mem _ e)
   ·rcases List.mem_cons.mp ha with e | e
    ·subst e;exact Int.le_trans hi top
    ·rcases List.mem_cons.mp e with e | e
     ·subst e;exact Int.le_trans hj top
     ·exact h2 a (List.mem_cons_of_mem _ e)
def EQ (hc:X.calm=true):dr X (.builtin "max") (fun xs H Q=>∃(l:Addr) (i:Int) (r:List Int),xs=[.ref l]/\SqL X.K H l ((i::r).map V.int)/\Q (.int (kb i r)) H):=by
 intro pins s σ H xs us Q I rr h;obtain⟨l,i,r,rfl,hq,q⟩:=h;obtain⟨u,rfl,ru⟩:=Vals.one rr;cases ru;obtain⟨its,rv,pl,_⟩:=I.list hq;have hi:=intsAre_of rv;obtain⟨zs,e⟩:=hi.allInts.items;have hns:(i::r)=zs.toList.map (·.1):=by rw[<-hi.numsOf,<-nums_intItems,<-e]
 have hl:=pl.isList;rw[e] at hl;have hz:0<zs.size:=by
  have:=congrArg List.length hns;simp only[List.length_cons,List.length_map,Array.length_toList] at this;omega
 refine max_intList (I.ok.hd hc) hl hz fun v h' tk hv hk=>?_;obtain⟨t,rfl⟩:=intItems_at hv;obtain⟨h1,h2⟩:=argBest_gt (numAt zs) (zs.size-1);obtain⟨m1,m2⟩:=nZ r i;have em:numAt zs (argBest (fun a b=>decide (numAt zs a>numAt zs b)) (zs.size-1))=kb i r:=by
  refine Int.le_antisymm (m2 _ ?_) ?_
  ·rw[hns,numAt_eq];exact getD_mem (by rw[List.length_map,Array.length_toList];omega)
  ·rw[hns] at m1;obtain⟨j,hj,ej⟩:=mem_getD m1;rw[List.length_map,Array.length_toList] at hj;rw[<-ej,<-numAt_eq];exact h2 j (by omega)
 rw[em];exact⟨.int (kb i r),H,I.kept (t':=tk) hk,⟨t,rfl⟩,q⟩
def CC (hc:X.calm=true):jV X (.builtin "max") wl:=by
 refine⟨_,EQ hc,fun os H L ds d vs Q r m k=>?_⟩
 match ds,m with
 | [.lst xs],m =>
   obtain⟨is,e,m⟩:=af m;obtain⟨v,rfl,h⟩:=gj r;obtain⟨p,ys,rfl,h1,h2⟩:=h.lst_up;have:=cH e h2;subst this;cases is with
   | nil=>cases m
   | cons i is =>
     have m':(if is.length<=100000 then some (D.int (kb i is)) else none)=some d:=m;split at m'
     ·cases m';exact⟨p,i,is,rfl,h1,k _ H (Same.refl _) (.int _)⟩
     ·cases m'
end
structure FnI (K:PySem.W.Frag)(nm:Str)(st:Stmt) where
 f:Addr
 fd:FuncData
 F:Fun K nm nm st f fd
 a:PySem.W.nsIn K mainGlobals nm=some (some (.ref f))
noncomputable def fnI {K:PySem.W.Frag}{nm:Str}{st:Stmt}{f:Addr}{od an:Option Addr}{sl:Array (Option Value)}{oc kV dc pm cd ct:Value}(a:PySem.W.nsIn K mainGlobals nm=some (some (.ref f)))
 (l:K.lookup f=some ⟨oc,od,.func (PySem.W.fnOf nm nm (iA st) (cW st) (au st) .none kV dc pm an cd ct),sl⟩) (c:PySem.W.codeIn K cd nm=true) (k:PySem.W.keepIn K (.ref f)=true):FnI K nm st:=⟨f,_,Ek l c k,a⟩
structure f7 (K:PySem.W.Frag)(mg:Str->Option Value)(nm:Str)(st:Stmt)(ps:List Str) where
 f:Addr
 fd:FuncData
 F:Fun K nm nm st f fd
 g:mg nm=some (.ref f)
 b:Binds K fd ps []
def FnI.g {K:PySem.W.Frag}{nm:Str}{st:Stmt}{h:Heap}{mg:Str->Option Value}{ps:List Str}(x:FnI K nm st)(X:K.In h)(G:h.Ns mainGlobals mg)
 (b:∀(kV doc pm:Value) (an:Option Addr) (cdv ct:Value) (us:List Value),us.length=ps.length->bindArgs (PySem.W.fnOf nm nm (iA st) (cW st) (au st) .none kV doc pm an cdv ct) ⟨us,[]⟩=pure (ps.zip us):=by intro _ _ _ _ _ _ us hl;rcases us with _ | ⟨_,_ | ⟨_,_ | ⟨_,_ | ⟨_,_ | ⟨_,_⟩⟩⟩⟩⟩ <;> first | rfl | cases hl):f7 K mg nm st ps:=⟨x.f,x.fd,x.F,PySem.W.mg_of X G x.a,x.F.binds b⟩
section
variable {X:Cx}{e:Expr}{es:List Expr}{pos p:Pos}{nm:Str}{st:Stmt}{ps:List Str}{k k':Nat}{fn:MF}{m:MA}
def aB {x:f7 X.K X.mg nm st ps}(F:gC X.prog X.w X.K X.mg X.base lc k x.f x.fd ps (tD X.K fn))(hr:Room k' X.A)(ha:DA X (e::es) m)(hk:k<=k':=by decide)(hg:Gl X nm:=by rfl)(hdb:(nm==("__debug__":Str))=false:=by decide)
 (he:starEach (e::es) X.env=(false,eval e X.env)::starEach es X.env:=by rfl) (hpl:(backTo pos (starEach es X.env)).any (·.1)=false:=by rfl):DE X (.Call (.Name nm p) (e::es) [] pos) (ah fn m):=Cv F (hr.mono hk) hg x.g x.F.kp x.b ha hdb he hpl
def uR {x:f7 X.K X.mg nm st ps}(F:gC X.prog X.w X.K X.mg X.base lc k x.f x.fd ps (Gi X.K fn))(hr:Room k' X.A)(ha:DA X (e::es) m)(hk:k<=k':=by decide)(hg:Gl X nm:=by rfl)(hdb:(nm==("__debug__":Str))=false:=by decide)
 (he:starEach (e::es) X.env=(false,eval e X.env)::starEach es X.env:=by rfl) (hpl:(backTo pos (starEach es X.env)).any (·.1)=false:=by rfl):DF X (.Call (.Name nm p) (e::es) [] pos) (ah fn m):=AD F (hr.mono hk) hg x.g x.F.kp x.b ha hdb he hpl
end
def ul {u j k c:Nat}(h:u+k<c)(d:j<=k:=by decide):u+j<c:=Nat.lt_of_le_of_lt (Nat.add_le_add_left d _) h
section
variable {X:Cx}{pos:Pos}{x:Str}
def dv (i:Nat)(hN:X.N[i]? = some x:=by rfl)(hv:Gb X.env.scope x:=by first | exact Or.inl rfl | exact Or.inr (Or.inl rfl) | exact Or.inr (Or.inr rfl))(hd:(x==("__debug__":Str))=false:=by decide)
 (hcd:(x==("__classdict__":Str))=false:=by decide) (hi:Nat.blt i X.N.length=true:=by rfl):DE X (.Name x pos) (ab i):=EE i (pv i hN hv hd hcd) hi
def bX (i:Nat)(hN:X.N.Nodup)(hi:X.N[i]? = some x:=by rfl)(hx:Loc X.env.scope x:=by first | exact Or.inl rfl | exact Or.inr rfl)(hf:X.fn x=true\/X.env.scope.names.lookup x=some .local:=by first | exact .inl rfl | exact .inr rfl)(hb:Nat.blt i X.N.length=true:=by rfl):DG X (.Name x pos) (gN i):=Cr (vO hN hi hx hf) hb
end
def Gm {N P:List Str}{sc:Scope}(a:sc.kind=.function:=by rfl)(b:sc.isCoroutine=false:=by rfl)(c:sc.isGenerator=false:=by rfl)(d:N.Nodup:=by decide +kernel)(e:N.take P.length=P:=by rfl)
 (f:∀x∈P,sc.names.lookup x=some .local\/sc.names.lookup x=some .cell:=by decide +kernel) (g:∀y∈sc.names,y.2≠.free:=by decide +kernel):dG N P sc:=⟨a,b,c,d,e,f,g⟩
def qS {scX sc:Scope}{NX N:List Str}{k:Nat}{fv:List Nat}(a:sc.kind=.function:=by rfl)(b:∀y∈sc.names,y.2≠.cell:=by decide +kernel)(c:∀y∈sc.names,y.2=.local->sc.names.lookup y.1=some .local:=by decide +kernel)
 (d:∀y∈sc.names,y.2=.free->scX.names.lookup y.1=some .cell:=by decide +kernel) (e:N.length=k+fv.length:=by rfl) (f:N.Nodup:=by decide +kernel)
 (g:∀t,t<fv.length->NX[fv.getD t 0]? = N[k+t]?/\(N[k+t]?.bind fun x=>sc.names.lookup x)=some .free:=by decide +kernel):bv scX sc NX N k fv:=⟨a,b,c,d,e,f,g⟩
def nod (l:List Str)(h:l.Nodup:=by decide +kernel):l.Nodup:=h
abbrev iH {K:PySem.W.Frag}{mg:Str->Option Value}{nm:Str}{st:Stmt}{ps:List Str}(P:Program)(w:World)(base:Heap)(x:f7 K mg nm st ps)(d:Nat)(m:MF):Prop:=gC P w K mg base lc d x.f x.fd ps (tD K m)
abbrev Hh {K:PySem.W.Frag}{mg:Str->Option Value}{nm:Str}{st:Stmt}{ps:List Str}(P:Program)(w:World)(base:Heap)(x:f7 K mg nm st ps)(d:Nat)(m:MF):Prop:=gC P w K mg base lc d x.f x.fd ps (Gi K m)
section
variable {P:Program}{w:World}{K:PySem.W.Frag}{mg:Str->Option Value}{base:Heap}{nm:Str}{st:Stmt}{ps:List Str}{x:f7 K mg nm st ps}{M:MF}
def aU (N:List Str)(k kk:Nat)(m:MS)(hM:M=fJ ps.length kk m)(h:∀(cdv:Value) (A:Around) (outer:List Env) (s:Shared) (H:Hp) (E:XK),N.Nodup->Room k (A.deeper (envOfC nm (au st) s.heap.objs.size x.f cdv))->(A.deeper (envOfC nm (au st) s.heap.objs.size x.f cdv)).units+64<cLine ->
 tz (kf lc P w K mg base N nm (au st) x.f cdv A outer s H E).nox False (cW st) m) (S:dG N ps (au st):=by exact Gm) (hkk:N.length<=kk:=by decide):iH P w base x (k+1) M:=Eo hkk x.F S hM fun cdv A outer s H E hr=>h cdv A outer s H E S.nd hr hr.units
def En (N:List Str)(k kk:Nat)(m:MS)(hM:M=Fa ps.length kk m)(h:∀(cdv:Value) (A:Around) (outer:List Env) (s:Shared) (H:Hp) (E:XK),N.Nodup->Room k (A.deeper (envOfC nm (au st) s.heap.objs.size x.f cdv))->(A.deeper (envOfC nm (au st) s.heap.objs.size x.f cdv)).units+64<cLine ->
 Gg (kf lc P w K mg base N nm (au st) x.f cdv A outer s H E).nox (cW st) m) (S:dG N ps (au st):=by exact Gm) (hkk:N.length<=kk:=by decide):Hh P w base x (k+1) M:=Ep hkk x.F S hM fun cdv A outer s H E hr=>h cdv A outer s H E S.nd hr hr.units
end
section
variable {X:Cx}{pos:Pos}{x:Str}
def lH (i:Nat)(hN:X.N.Nodup)(hi:X.N[i]? = some x:=by rfl)(hx:Loc X.env.scope x:=by first | exact Or.inl rfl | exact Or.inr rfl)(hf:X.fn x=true\/X.env.scope.names.lookup x=some .local:=by first | exact .inl rfl | exact .inr rfl):PG X (.Name x pos) (dj i):=vO (i:=i) hN hi hx hf
end
end DL
namespace DL.Pg
open PySem DL
def cX:MS:=(bM (mE (ab 0) (kF (re 1) (ab 0))))
def cU:MF:=fJ 1 1 cX
def kj:MS:=(aJ (bp (ah Cg (ac (az bN (ab 0) (eC (.int 0))) (ac (eC (.int 0)) ak))) (gN 1))
 (bM (cG (ac (ab 1) (ac (ah Cg (ac (az bN (ab 0) (eC (.int 1))) (ac (ab 1) ak))) ak)))))
def dI:MF:=fJ 1 2 kj
def dD:MS:=(yP 3 1 (ah dI (ac (ab 2) ak)))
def gz:MS:=(aJ (du 3 1 (cw (ac (eC (.int 0)) ak)))
 (aJ (gQ (br (ab 0)) (gN 2)
 dD)
 (mY 3 [1] (bM (kF jd (ab 1))))))
def e8:MF:=fJ 1 6 gz
def gy:MS:=(aJ (bp (ah Ao (ac (az bN (ab 0) (eC (.int 3))) (ac (eC (.int 24)) ak))) (gN 1))
 (bM (bq 1 [0] (cv (ab 1)) (gN 0) tT (az oMod (az bG (az bN (ab 1) (eC (.int 2))) (ab 0)) (eC (.int 24))))))
def dH:MF:=fJ 1 2 gy
def cT:MF:=fT dI dH
def cz:MS:=(aJ (bp (wq (ab 2) (az bN (ab 5) (eC (.int 0))) (mD (cw (ac (eC (.int 0)) ak)) (eC (.int 24)))) (gN 6))
 (aJ (bp (bq 2 [] (nh (ab 4) (ab 6)) (gT (be (gN 0) (be (gN 1) eg))) tT (az bG (ab 0) (ab 1))) (gN 4))
 (kN 7 3 (ab 4))))
def eO:MS:=(aJ (bp (ah cT (ac (ab 0) ak)) (gN 2))
 (aJ (du 7 3 (cw ak))
 (aJ (bp (mD (cw (ac (eC (.int 0)) ak)) (eC (.int 24))) (gN 4))
 (aJ (gQ (br (ab 1)) (gN 5)
 cz)
 (mY 7 [3] (bM (ab 3)))))))
def eE:MF:=fJ 2 14 eO
def fu:MS:=(bM (az jw (az bQ (az bN (ab 0) (eC (.int 1))) (az bN (ab 0) (eC (.int 1)))) (az bQ (az bN (ab 0) (eC (.int 0))) (az bN (ab 0) (eC (.int 0))))))
def cu:MF:=fJ 1 1 fu
def cb:MS:=(yQ 6 1 (ab 5) (ah cu (ac (ab 3) ak)))
def d9:MS:=(gQ (br (ab 4)) (gN 5)
 cb)
def dQ:MS:=(aJ (du 6 1 (mD (cw (ac (eC (.int 0)) ak)) (az bG (ah cM (ac (ab 0) ak)) (eC (.int 1)))))
 (aJ (bp (ah cU (ac (ah e8 (ac (ab 0) ak)) ak)) (gN 2))
 (aJ (gQ (nh (ab 2) (ah eE (ac (ab 0) (ac (ab 2) ak)))) (gT (be (gN 3) (be (gN 4) eg)))
 d9)
 (mY 6 [1] (bM (ah fc (ac (kF (re 1) (ab 1)) ak)))))))
def dO:MF:=fJ 1 12 dQ
def dE:MS:=(bM (ah pY (ac (ah dO (ac (ab 0) ak)) ak)))
def dA:MF:=fJ 1 1 dE
def eQ:MS:=(yP 6 4 (bq 1 [5] (br (ab 3)) (gN 0) tT (az bG (az bQ (eC (.int 24)) (ab 1)) (ab 0))))
def gA:MS:=(aJ (bp (ah dI (ac (ab 0) ak)) (gN 2))
 (aJ (bp (ah dH (ac (ab 0) ak)) (gN 3))
 (aJ (du 6 4 (cw ak))
 (aJ (gQ (jF (az i7 (ab 1) (az bN (ab 2) (eC (.int 0)))) (az i7 (ab 1) (az bN (ab 2) (eC (.int 1))))) (gN 5)
 eQ)
 (mY 6 [4] (bM (ab 4)))))))
def gm:MF:=fJ 2 12 gA
def dR:MS:=(jp (bq 1 [] (cv (az bQ (eC (.int 24)) (ah cM (ac (ab 1) ak)))) (gN 0) tT (cw ak)) gm (bM (bq 1 [] (br (ab 2)) (gN 0) tT (ah fc (ac (ab 0) ak)))))
def cN:MF:=fJ 2 6 dR
def iW:MS:=(aJ (bp (az oMod (ab 0) (eC (.int 24))) (gN 2))
 (bM (az bG (az jw (ab 0) (ab 2)) (az oMod (az bG (ab 2) (ab 1)) (eC (.int 24))))))
def cO:MF:=fJ 2 3 iW
def eL:MS:=(aJ (bp (cw (ac (ah cO (ac (ab 0) (ac (eC (.int 1)) ak))) (ac (ah cO (ac (ab 0) (ac (kF Fh (eC (.int 1))) ak))) ak))) (gN 2))
 (aJ (bp (cw (ac (az bG (ab 0) (eC (.int 24))) (ac (az jw (ab 0) (eC (.int 24))) ak))) (gN 3))
 (bM (az bG (ab 2) (bq 1 [1] (br (ab 3)) (gN 0) (tV (cV oLe oLt (eC (.int 0)) (ab 0) (ab 1))) (ab 0))))))
def gl:MF:=fJ 2 4 eL
def cJ:MS:=(qP (lj (tV (uM 7 2 true (ab 6))) (tV (az oEq (az bN (ab 0) (ab 6)) (az bN (ab 0) (ab 1))))) (aJ (yO 7 2 (ab 6) (ab 5))
 (kN 7 3 (ab 6))) iF)
def dM:MS:=(aJ (bp (i8 7 [3] (az bN (ab 3) (ab 4))) (gN 5))
 (aJ (gQ (br (ah gl (ac (ab 5) (ac (ah cM (ac (ab 0) ak)) ak)))) (gN 6)
 cJ)
 (Fx 4 (oI fun u v=>some (.int (u+v))) (eC (.int 1)))))
def cy:MS:=(lB (du 7 2 (As (ab 1) (eC .non)))
 (lB (du 7 3 (cw (ac (ab 1) ak)))
 (lB (bp (eC (.int 0)) (gN 4))
 (lB (fB (tV (az oLt (ab 4) (i8 7 [3] (ah cM (ac (ab 3) ak)))))
 dM)
 (CK 7 2)))))
def aN:MF:=Fa 2 14 cy
def bK:MS:=(qP (tV (uM 5 1 true (ab 3))) (aJ (du 5 4 (ah aN (ac (ab 0) (ac (ab 3) ak))))
 (nH 5 4 (aJ (Bv 5 1 (ab 4))
 (kN 5 2 (kF rc (ab 4)))))) iF)
def cK:MS:=(aJ (du 5 1 (ah aN (ac (ab 0) (ac (az jw (ah cM (ac (ab 0) ak)) (eC (.int 1))) ak))))
 (aJ (du 5 2 (cw ak))
 (aJ (gQ (cv (ah cM (ac (ab 0) ak))) (gN 3)
 bK)
 (mY 5 [2] (nH 5 1 (bM (ab 2)))))))
def cD:MF:=fJ 1 10 cK
structure Pc where
 i:Nat
 o:Nat
 b:Nat
 w:Nat
def Pc.ok (p:Pc):Prop:=p.i<p.o/\p.o<=1000/\p.b<24/\1<=p.w/\p.w<=24
noncomputable def pD (p:Pc):D:=.tup [.int p.i,.int p.o,.int p.b,.int p.w]
def bD (s:List Pc):D:=.tup (s.map pD)
noncomputable def Pc.at (p:Pc)(t:Nat):Bool:=decide ((t+24-p.b) % 24<p.w)
def Pc.has (p:Pc)(r t:Nat):Bool:=decide (p.i<=r)&&decide (r<p.o)&&p.at t
def qR (s:List Pc)(r t:Nat):Nat:=s.countP fun p=>p.has r t
noncomputable def bU (p:Pc):List Int:=(List.range p.w).map fun k=>(((p.b+k) % 24:Nat):Int)
def t9 {p:Pc}(h:p.ok):dI [pD p]=some (.tup [.int p.i,.int p.o]):=by
 have h1:¬ ((0:Int)>p.i):=by omega
 have h2:¬ ((p.i:Int)>p.o):=by have:=h.1;omega
 simp[dI,fJ,kj,aJ,bp,bM,ah,ac,ak,az,ab,slot,eC,bN,qQ,Cg,gN,cG,pD];have:=h.1;omega
def nM {n:Nat}{x:D}(h:x∈cf n):∃k:Nat,k<n/\x=.int k:=by
 unfold cf at h;obtain⟨k,h1,h2⟩:=List.mem_map.mp h;exact⟨k,List.mem_range.mp h1,h2.symm⟩
def rE {a:ME}{δ:Ev}{j:Int}(h:a δ=some (.int j))(h1 : -1073741824<j/\j<1073741824):cv a δ=some (cf j.toNat):=by
 unfold cv;rw[h];simp only[Option.bind_some];rw[if_pos h1]
def ip {a:ME}{δ:Ev}{n:Nat}(h:a δ=some (.int n))(h1:n<1073741824):cv a δ=some (cf n):=by
 have e:=rE h ⟨by omega,by omega⟩
 rwa [Int.toNat_natCast] at e
def vC {p:Pc}(h:p.ok):dH [pD p]=some (.lst ((bU p).map D.int)):=by
 obtain⟨_,_,_,h4,h5⟩:=h;have e0:gy [some (pD p),none]=bM (bq 1 [0] (cv (ab 1)) (gN 0) tT (az oMod (az bG (az bN (ab 1) (eC (.int 2))) (ab 0)) (eC (.int 24)))) [some (pD p),some (.int p.w)]:=by
  unfold gy;refine aw (aQ (d:=.int p.w) ?_ rfl);have:¬ ((24:Int)<p.w):=by omega
  simp[ah,ac,ak,az,ab,slot,eC,bN,qQ,Ao,pD];omega
 refine bW rfl (e0.trans ?_);have hi:cv (ab 1) [some (pD p),some (.int p.w)]=some (cf p.w):=ip rfl (by omega);refine bA ((bL (fun x=>match x with | .int k=>some (.int ((p.b+k) % 24)) | _=>none) hi (by simp[cf];omega) fun x hx=>?_).trans ?_)
 ·obtain⟨k,_,rfl⟩:=nM hx;refine⟨[some (.int k),some (pD p)],rfl,.inl ⟨rfl,.int ((p.b+k) % 24),?_,rfl⟩⟩;simp[az,ab,slot,eC,bN,qQ,pD,bG,oMod,oI]
 ·refine congrArg (fun l=>some (D.lst l)) ?_;unfold bU cf;generalize List.range p.w=l
  induction l with
  | nil=>rfl
  | cons a l ih =>
    have e:(((p.b+a) % 24:Nat):Int)=((p.b:Int)+(a:Int)) % 24:=by omega
    simp only[List.map_cons,List.filterMap_cons];rw[ih,e]
def ints_map:∀(l:List Int),intsOf (l.map D.int)=some l
 | []=>rfl
 | a::l=>by simp[intsOf,ints_map l]
def rf {p:Pc}:∀t∈bU p,0<=t/\t<24:=fun t h=>by
 unfold bU at h;obtain⟨k,_,rfl⟩:=List.mem_map.mp h;have:=Nat.mod_lt (p.b+k) (show 0<24 by decide);omega
def wU (p:Pc):oU (.lst ((bU p).map D.int))=some (bU p):=by
 show (intsOf ((bU p).map D.int)).bind _=_;rw[ints_map];simp only[Option.bind_some];rw[if_pos];rw[List.all_eq_true];intro t ht;have:=rf t ht;simp[this]
def il (T:Tab)(p:Pc):Tab:=d3 (d3 T p.i (bU p) 1) p.o (bU p) (-1)
def tabOf (s:List Pc):Tab:=s.foldl il []
def wB:∀(s:List Pc) (T:Tab),(∀p∈s,p.ok)->T.length+2*s.length<=1000000->qu dI dH (s.map pD) T=some (s.foldl il T)
 | [],T,_,_=>rfl
 | p::s,T,h,hl=>by
   have hp:=h p List.mem_cons_self;simp only[List.length_cons] at hl;rw[List.map_cons,qu,t9 hp];simp only[Option.bind_some,vo];rw[vC hp];simp only[Option.bind_some,wU];rw[if_pos (by omega)];have h1:=jS T p.i (bU p) 1;have h2:=jS (d3 T p.i (bU p) 1) p.o (bU p) (-1);exact wB s _ (fun q hq=>h q (List.mem_cons_of_mem _ hq)) (by omega)
def xm {s:List Pc}(h:∀p∈s,p.ok)(hl:s.length<=400000):cT [bD s]=some (gG (tabOf s)):=by
 unfold cT fT bD;simp only;rw[wB s [] h (by simp only[List.length_nil];omega)];rfl
noncomputable def zeros:List Int:=List.replicate 24 0
def gH (T:Tab)(e:Int):List Int:=(T.lookup e).getD zeros
def iE (T:Tab)(e:Int)(t:Nat):Int:=(gH T e).getD t 0
def iY (T:Tab):Prop:=∀q∈T,q.2.length=24
def rZ (far:Int)(ts:List Int)(b:Int):∀(T:Tab) (e:Int),(d3 T far ts b).lookup e=if e=far then some (bi (gH T far) ts b) else T.lookup e
 | [],e=>by
   unfold d3 gH;by_cases h:e=far
   ·subst h;simp[List.lookup,zeros]
   ·have h':(e==far)=false:=by simpa using h
    simp[List.lookup,h,h']
 | (k,r)::T,e=>by
   unfold d3;by_cases hk:k=far
   ·subst hk;rw[if_pos rfl,List.lookup_cons];by_cases he:e=k
    ·subst he;simp[gH,List.lookup_cons]
    ·have:(e==k)=false:=by simpa using he
     simp[this,he,List.lookup_cons]
   ·rw[if_neg hk,List.lookup_cons,List.lookup_cons,rZ far ts b T e];by_cases he:e=k
    ·subst he;simp[hk]
    ·have h1:(e==k)=false:=by simpa using he
     have h2:(far==k)=false:=by simpa using Ne.symm hk
     simp only[h1,gH,List.lookup_cons,h2]
def good_add {T:Tab}(h:iY T)(far:Int)(ts:List Int)(b:Int):iY (d3 T far ts b):=by
 induction T with
 | nil =>
   intro q hq;unfold d3 at hq;rw[List.mem_singleton.mp hq,b8];rfl
 | cons kr T ih =>
   obtain⟨k,r⟩:=kr;intro q hq;have hr:r.length=24:=h (k,r) List.mem_cons_self;unfold d3 at hq;split at hq
   ·rcases List.mem_cons.mp hq with rfl | hq
    ·rw[b8];exact hr
    ·exact h q (List.mem_cons_of_mem _ hq)
   ·rcases List.mem_cons.mp hq with rfl | hq
    ·exact hr
    ·exact ih (fun q' hq'=>h q' (List.mem_cons_of_mem _ hq')) q hq
def rC {T:Tab}(h:iY T)(e:Int):(gH T e).length=24:=by
 unfold gH;cases hl:T.lookup e with
 | none=>rfl
 | some r =>
   obtain⟨_,_,hm⟩:∃k,k=e/\(k,r)∈T:=by
    clear h;induction T with
    | nil=>simp at hl
    | cons kr T ih =>
      obtain⟨k,r'⟩:=kr;rw[List.lookup_cons] at hl;split at hl
      ·rename_i hk;cases hl;exact⟨k,(eq_of_beq hk).symm,List.mem_cons_self⟩
      ·obtain⟨k',h1,h2⟩:=ih hl;exact⟨k',h1,List.mem_cons_of_mem _ h2⟩
   exact h _ hm
def jc (b:Int):∀(ts r:List Int) (t:Nat),(∀z∈ts,0<=z/\z<r.length)->(bi r ts b).getD t 0=r.getD t 0+b*(ts.count (t:Int):Nat)
 | [],r,t,_=>by simp[bi]
 | z::ts,r,t,h=>by
   obtain⟨z0,z1⟩:=h z List.mem_cons_self;have e:bi r (z::ts) b=bi (r.set z.toNat (r.getD z.toNat 0+b)) ts b:=rfl;rw[e,jc b ts _ t fun y hy=>by rw[List.length_set];exact h y (List.mem_cons_of_mem _ hy),List.count_cons];by_cases hz:z=t
   ·subst hz;have:t<r.length:=by omega
    simp[List.getD_eq_getElem?_getD,List.getElem?_set,this,Int.mul_add];omega
   ·have h1:z.toNat≠t:=by omega
    have h2:(z==(t:Int))=false:=by simpa using hz
    simp[List.getD_eq_getElem?_getD,List.getElem?_set,h1,h2]
def kJ:∀b,b<24->∀w,w<25->∀t,t<24->((List.range w).map fun k=>(b+k) % 24).count t=if (t+24-b) % 24<w then 1 else 0:=by decide +kernel
def xW {p:Pc}(h:p.ok){t:Nat}(ht:t<24):(bU p).count (t:Int)=if p.at t=true then 1 else 0:=by
 obtain⟨_,_,h3,_,h5⟩:=h;have:=kJ p.b h3 p.w (by omega) t ht;unfold Pc.at;simp only[decide_eq_true_eq];rw[<-this];unfold bU;generalize List.range p.w=l
 induction l with
 | nil=>rfl
 | cons a l ih =>
   rw[List.map_cons,List.map_cons,List.count_cons,List.count_cons,ih];congr 1;have:((((p.b+a) % 24:Nat):Int)==(t:Int))=((p.b+a) % 24==t):=by
    rw[Bool.eq_iff_iff];simp only[beq_iff_eq];omega
   rw[this]
def ra {T:Tab}(h:iY T){p:Pc}(hp:p.ok)(far b:Int)(e:Int){t:Nat}(ht:t<24):iE (d3 T far (bU p) b) e t=iE T e t+if e=far then b*(if p.at t=true then 1 else 0) else 0:=by
 unfold iE;have:gH (d3 T far (bU p) b) e=if e=far then bi (gH T far) (bU p) b else gH T e:=by
  unfold gH;rw[rZ];split <;> rfl
 rw[this];by_cases he:e=far
 ·subst he;rw[if_pos rfl,if_pos rfl,jc b _ _ t fun z hz=>by rw[rC h];exact rf z hz,xW hp ht];split <;> simp
 ·rw[if_neg he,if_neg he];simp
def chg (p:Pc)(e t:Nat):Int:=if p.at t=true then (if e=p.i then 1 else 0)-(if e=p.o then 1 else 0) else 0
def q9:∀(s:List Pc) (T:Tab),iY T->(∀p∈s,p.ok)->∀(e t:Nat),t<24->iE (s.foldl il T) e t=iE T e t+(s.map fun p=>chg p e t).sum
 | [],T,_,_,e,t,_=>by simp
 | p::s,T,h,hs,e,t,ht=>by
   have hp:=hs p List.mem_cons_self;have h1:=good_add h p.i (bU p) 1;have h2:iY (il T p):=good_add h1 p.o (bU p) (-1);rw[List.foldl_cons,q9 s _ h2 (fun q hq=>hs q (List.mem_cons_of_mem _ hq)) e t ht,List.map_cons,List.sum_cons];unfold il;rw[ra h1 hp _ _ _ ht,ra h hp _ _ _ ht];unfold chg;have e1:((e:Int)=(p.i:Int))↔e=p.i:=by omega
   have e2:((e:Int)=(p.o:Int))↔e=p.o:=by omega
   simp only[e1,e2];by_cases ha:p.at t=true <;> by_cases h1:e=p.i <;> by_cases h2:e=p.o <;> simp[ha,h1,h2] <;> omega
def sy:∀(s:List Pc) (T:Tab),iY T->iY (s.foldl il T)
 | [],T,h=>h
 | p::s,T,h=>sy s _ (good_add (good_add h _ _ _) _ _ _)
def sA:iY []:=fun q h=>by cases h
noncomputable def rowOf (f:Nat->Int):List Int:=(List.range 24).map f
noncomputable def dX (r:List Int):D:=.lst (r.map D.int)
noncomputable def aE (q:Nat×Nat):D:=.tup [.int q.1,.int q.2]
def nK (f:Nat->Int):(rowOf f).length=24:=by simp[rowOf]
def kz {f g:Nat->Int}(h:∀t,t<24->f t=g t):rowOf f=rowOf g:=List.map_congr_left fun t ht=>h t (List.mem_range.mp ht)
def xi {r:List Int}(h:r.length=24):rowOf (fun t=>r.getD t 0)=r:=by
 refine List.ext_getElem (by rw[nK,h]) fun i h1 h2=>?_;simp[rowOf,h2]
def zip_rows (f g:Nat->Int):List.zipWith (·+·) (rowOf f) (rowOf g)=rowOf fun t=>f t+g t:=by
 unfold rowOf;rw[List.zipWith_map];generalize List.range 24=l
 induction l with
 | nil=>rfl
 | cons a l ih=>rw[List.zipWith_cons_cons,ih];rfl
def rX:∀(T:Tab) (e:Int),hU (T.map fun p=>.int p.1) (T.map fun p=>.lst (p.2.map D.int)) e=(T.lookup e).map fun r=>.lst (r.map D.int)
 | [],e=>rfl
 | (k,r)::T,e=>by
   rw[List.map_cons,List.map_cons,hU,rX T e,List.lookup_cons];by_cases h:k=e
   ·subst h;simp
   ·have:(e==k)=false:=by simpa using Ne.symm h
    rw[if_neg h,this]
def Ei {o k x:ME}{δ:Ev}{T:Tab}{e:Int}(ho:o δ=some (gG T))(hk:k δ=some (.int e))(hx:x δ=some (dX zeros)):wq o k x δ=some (dX (gH T e)):=by
 unfold wq;rw[ho,hk,hx];simp only[Option.bind_some,gG];rw[rX];unfold gH;cases T.lookup e <;> rfl
def qV (δ:Ev):mD (cw (ac (eC (.int 0)) ak)) (eC (.int 24)) δ=some (dX zeros):=by
 unfold mD;simp[cw,ac,ak,eC];rfl
def nv:∀(a b:List Int),jW (a.map D.int) (b.map D.int)=(a.zip b).map fun p=>D.tup [.int p.1,.int p.2]
 | [],_=>rfl
 | _::_,[]=>rfl
 | x::a,y::b=>by
   have:=nv a b;unfold jW at this ⊢;rw[List.map_cons,List.map_cons,List.zip_cons_cons,List.zip_cons_cons,List.map_cons,List.map_cons,this]
def AL {x y:ME}{δ:Ev}{a b:List Int}(hx:x δ=some (dX a))(hy:y δ=some (dX b))(hl:a.length<=1000):bq 2 [] (nh x y) (gT (be (gN 0) (be (gN 1) eg))) tT (az bG (ab 0) (ab 1)) δ=some (dX (List.zipWith (·+·) a b)):=by
 have hi:nh x y δ=some ((a.zip b).map fun p=>D.tup [.int p.1,.int p.2]):=by
  unfold nh;rw[hx,hy];simp only[Option.bind_some,dX];rw[nv]
 refine(bL (fun d=>match d with | .tup [.int u,.int v]=>some (.int (u+v)) | _=>none) hi (by simp;omega) fun d hd=>?_).trans ?_
 ·obtain⟨p,_,rfl⟩:=List.mem_map.mp hd;exact⟨[some (.int p.1),some (.int p.2)],rfl,.inl ⟨rfl,.int (p.1+p.2),rfl,rfl⟩⟩
 ·refine congrArg (fun l=>some (D.lst l)) ?_;clear hi hx hy hl;induction a generalizing b with
  | nil=>rfl
  | cons u a ih =>
    cases b with
    | nil=>rfl
    | cons v b =>
      rw[List.zip_cons_cons,List.map_cons,List.filterMap_cons,List.zipWith_cons_cons,List.map_cons];simp only;rw[ih]
def ky (T:Tab):(Nat->Int)->List (Nat×Nat)->List (List Int)
 | _,[]=>[]
 | f,q::qs=>rowOf (fun t=>f t+iE T q.1 t)::ky T (fun t=>f t+iE T q.1 t) qs
def nI {T:Tab}(hT:iY T)(sh bd:D):∀(qs:List (Nat×Nat)) (f:Nat->Int) (rs:List D) (x5 x6:Option D),rs.length+qs.length<=1000->∃y4 y5 y6,
 cF (gN 5) cz (qs.map aE) [some sh,some bd,some (gG T),none,some (dX (rowOf f)),x5,x6,none,none,none,some (.lst rs),none,none,none] =
  some (.nx [some sh,some bd,some (gG T),none,y4,y5,y6,none,none,none,some (.lst (rs++(ky T f qs).map dX)),none,none,none])
 | [],f,rs,x5,x6,_=>⟨_,_,_,by rw[List.map_nil,cF,ky,List.map_nil,List.append_nil]⟩
 | q::qs,f,rs,x5,x6,hl=>by
   simp only[List.length_cons] at hl;have e:cz [some sh,some bd,some (gG T),none,some (dX (rowOf f)),some (aE q),x6,none,none,none,some (.lst rs),none,none,none] =
    some (.nx [some sh,some bd,some (gG T),none,some (dX (rowOf fun t=>f t+iE T q.1 t)),some (aE q),some (dX (gH T q.1)),none,none,none,some (.lst (rs++[dX (rowOf fun t=>f t+iE T q.1 t)])),none,none,none]):=by
    unfold cz;rw[aw (aQ (Ei (T:=T) (e:=q.1) rfl rfl (qV _)) rfl)];have hz:List.zipWith (·+·) (rowOf f) (gH T q.1)=rowOf fun t=>f t+iE T q.1 t:=by
     rw[<-xi (rC hT q.1),zip_rows];rfl
    rw[aw (aQ ((AL (a:=rowOf f) (b:=gH T q.1) rfl rfl (by rw[nK];decide)).trans (by rw[hz])) rfl)];unfold kN;have:(rs.length<16777216):=by omega
    simp[ab,slot,gN,ownAt,this]
   obtain⟨y4,y5,y6,ih⟩:=nI hT sh bd qs (fun t=>f t+iE T q.1 t) (rs++[dX (rowOf fun t=>f t+iE T q.1 t)]) (some (aE q)) (some (dX (gH T q.1))) (by simp;omega);refine⟨y4,y5,y6,?_⟩;rw[List.map_cons,cF];show (cz [some sh,some bd,some (gG T),none,some (dX (rowOf f)),some (aE q),x6,none,none,none,some (.lst rs),none,none,none]).bind _=_;rw[e];simp only[Option.bind_some];rw[ih,ky,List.map_cons,List.append_assoc];rfl
def Dz {s:List Pc}(h:∀p∈s,p.ok)(hl:s.length<=400000){qs:List (Nat×Nat)}(hq:qs.length<=1000):eE [bD s,.lst (qs.map aE)]=some (.lst ((ky (tabOf s) (fun _=>0) qs).map dX)):=by
 have hz:dX zeros=dX (rowOf fun _=>0):=rfl;obtain⟨y4,y5,y6,e⟩:=nI (T:=tabOf s) (sy s [] sA) (bD s) (.lst (qs.map aE)) qs (fun _=>0) [] none none (by simpa using hq);refine bW rfl ?_;show eO [some (bD s),some (.lst (qs.map aE)),none,none,none,none,none,none,none,none,none,none,none,none]=_;unfold eO;rw[aw (aQ ((av rfl).trans (xm h hl)) rfl)];rw[aw (show du 7 3 (cw ak) _=some (.nx [some (bD s),some (.lst (qs.map aE)),some (gG (tabOf s)),none,none,none,none,none,none,none,some (.lst []),none,none,none]) from rfl)];rw[aw (aQ (δ':=[some (bD s),some (.lst (qs.map aE)),some (gG (tabOf s)),none,some (dX (rowOf fun _=>0)),none,none,none,none,none,some (.lst []),none,none,none]) (qV _) rfl)];rw[aw ((cj (xs:=qs.map aE) rfl).trans e)];rfl
def xU (s:List Pc)(e t:Nat):Int:=(s.map fun p=>if p.at t=true then ((if p.i<e then 1 else 0)-(if p.o<e then 1 else 0):Int) else 0).sum
def zF {i o e:Nat}(h:i<o):((if i<e then 1 else 0)-(if o<e then 1 else 0):Int)+((if e=i then 1 else 0)-(if e=o then 1 else 0))=if i<=e/\e<o then 1 else 0:=by
 split <;> split <;> split <;> split <;> split <;> omega
def zG {i o e e':Nat}(h:i<o)(h1:i<e'↔i<=e)(h2:o<e'↔o<=e):((if i<e' then 1 else 0)-(if o<e' then 1 else 0):Int)=if i<=e/\e<o then 1 else 0:=by
 split <;> split <;> split <;> omega
def AI {s:List Pc}(h:∀p∈s,p.ok)(e t:Nat):xU s e t+(s.map fun p=>chg p e t).sum=(qR s e t:Int):=by
 unfold xU qR;induction s with
 | nil=>rfl
 | cons p s ih =>
   have ih':=ih fun q hq=>h q (List.mem_cons_of_mem _ hq);have hp:=(h p List.mem_cons_self).1;rw[List.map_cons,List.map_cons,List.sum_cons,List.sum_cons,List.countP_cons,Int.natCast_add,<-ih'];have:(if p.at t=true then ((if p.i<e then 1 else 0)-(if p.o<e then 1 else 0):Int) else 0)+chg p e t=((if p.has e t=true then 1 else 0:Nat):Int):=by
    unfold chg Pc.has;cases ha:p.at t
    ·simp
    ·simp only[if_true,Bool.and_true,Bool.and_eq_true,decide_eq_true_eq];rw[zF hp];split <;> rfl
   omega
def AJ {s:List Pc}{e e':Nat}(h:∀p∈s,p.i<p.o/\(p.i<e'↔p.i<=e)/\(p.o<e'↔p.o<=e))(t:Nat):xU s e' t=(qR s e t:Int):=by
 unfold xU qR;induction s with
 | nil=>rfl
 | cons p s ih =>
   obtain⟨h0,h1,h2⟩:=h p List.mem_cons_self;rw[List.map_cons,List.sum_cons,List.countP_cons,Int.natCast_add,ih fun q hq=>h q (List.mem_cons_of_mem _ hq)];have:(if p.at t=true then ((if p.i<e' then 1 else 0)-(if p.o<e' then 1 else 0):Int) else 0)=((if p.has e t=true then 1 else 0:Nat):Int):=by
    unfold Pc.has;cases ha:p.at t
    ·simp
    ·simp only[if_true,Bool.and_true,Bool.and_eq_true,decide_eq_true_eq];rw[zG h0 h1 h2];split <;> rfl
   omega
def Left (s:List Pc)(e:Nat)(es:List Nat):Prop:=∀p∈s,(p.i<e\/p.i∈e::es)/\(p.o<e\/p.o∈e::es)
def Left.next {s:List Pc}{e e':Nat}{es:List Nat}(h:Left s e (e'::es))(hs:(e::e'::es).Pairwise (·<·)):Left s e' es:=by
 have hlt:e<e':=(List.pairwise_cons.mp hs).1 e' List.mem_cons_self;have key:∀x,x<e\/x∈e::e'::es->x<e'\/x∈e'::es:=fun x hx=>by
  rcases hx with hx | hx
  ·exact .inl (by omega)
  ·rcases List.mem_cons.mp hx with rfl | hx
   ·exact .inl hlt
   ·exact .inr hx
 exact fun p hp=>⟨key _ (h p hp).1,key _ (h p hp).2⟩
def Left.iff {s:List Pc}{e e':Nat}{es:List Nat}(h:Left s e (e'::es))(hs:(e::e'::es).Pairwise (·<·)):∀p∈s,(p.i<e'↔p.i<=e)/\(p.o<e'↔p.o<=e):=by
 have hlt:e<e':=(List.pairwise_cons.mp hs).1 e' List.mem_cons_self;have h2:=(List.pairwise_cons.mp (List.pairwise_cons.mp hs).2).1;have key:∀x,x<e\/x∈e::e'::es->(x<e'↔x<=e):=fun x hx=>by
  rcases hx with hx | hx
  ·omega
  ·rcases List.mem_cons.mp hx with rfl | hx
   ·omega
   ·rcases List.mem_cons.mp hx with rfl | hx
    ·omega
    ·have:=h2 x hx;omega
 exact fun p hp=>⟨key _ (h p hp).1,key _ (h p hp).2⟩
def bV (s:List Pc)(e:Nat):List Int:=rowOf fun t=>(qR s e t:Int)
def rq {s:List Pc}(h:∀p∈s,p.ok):∀(es:List Nat) (e:Nat) (f:Nat->Int),(e::es).Pairwise (·<·)->Left s e es->(∀t,t<24->f t=xU s e t) ->
 ky (tabOf s) f ((e::es).zip es)=((e::es).zip es).map fun q=>bV s q.1
 | [],e,f,_,_,_=>rfl
 | e'::es,e,f,hs,hL,hf=>by
   have hrow:∀t,t<24->f t+iE (tabOf s) e t=(qR s e t:Int):=fun t ht=>by
    rw[hf t ht];unfold tabOf;rw[q9 s [] sA h e t ht,<-AI h e t];have:iE [] (e:Int) t=0:=by
     unfold iE gH zeros;rw[List.lookup_nil,Option.getD_none,List.getD_eq_getElem?_getD,List.getElem?_replicate];split <;> rfl
    omega
   rw[List.zip_cons_cons,ky,List.map_cons];simp only;rw[kz hrow,rq h es e' (fun t=>f t+iE (tabOf s) e t) (List.pairwise_cons.mp hs).2 (hL.next hs) fun t ht=>?_]
   ·rfl
   ·rw[hrow t ht];exact(AJ (fun p hp=>⟨(h p hp).1,hL.iff hs p hp⟩) t).symm
noncomputable def gr (s:List Pc):List Nat:=0::s.flatMap fun p=>[p.i,p.o]
def ag (s:List Pc):List Nat:=(List.range 1001).filter fun r=>decide (r∈gr s)
def aY (s:List Pc):(ag s).Pairwise (·<·):=List.pairwise_lt_range.filter _
def di {s:List Pc}(h:∀p∈s,p.ok)(x:Nat):x∈ag s↔x∈gr s:=by
 unfold ag;rw[List.mem_filter,List.mem_range,decide_eq_true_eq];refine⟨fun z=>z.2,fun z=>⟨?_,z⟩⟩;unfold gr at z;rcases List.mem_cons.mp z with rfl | z
 ·decide
 ·obtain⟨p,hp,hx⟩:=List.mem_flatMap.mp z;have:=h p hp;have h1:=this.1;have h2:=this.2.1;simp only[List.mem_cons,List.not_mem_nil,or_false] at hx;omega
def Ab (ks:List Int)(n x:Int):x∈fb ks n↔x∈ks\/x=n:=by
 unfold fb;split
 ·rename_i h;exact⟨.inl,fun z=>z.elim id fun e=>e ▸ h⟩
 ·simp
def uE {ks:List Int}(h:ks.Nodup)(n:Int):(fb ks n).Nodup:=by
 unfold fb;split
 ·exact h
 ·rename_i hn;rw[List.nodup_append];exact⟨h,by simp,fun a ha b hb e=>hn (by rw[List.mem_singleton.mp hb] at e;exact e ▸ ha)⟩
def oA:∀(l ks:List Int),ks.Nodup->(l.foldl fb ks).Nodup/\∀x,x∈l.foldl fb ks↔x∈ks\/x∈l
 | [],ks,h=>⟨h,fun x=>by simp⟩
 | n::l,ks,h=>by
   obtain⟨h1,h2⟩:=oA l (fb ks n) (uE h n);refine⟨h1,fun x=>?_⟩;rw[List.foldl_cons,h2,Ab,List.mem_cons,or_assoc]
def xb {a b:List Int}(hp:a.Perm b)(ha:a.Pairwise (·<=·))(hb:b.Pairwise (·<=·)):a=b :=
 hp.eq_of_pairwise (fun x y _ _ h1 h2=>Int.le_antisymm h1 h2) ha hb
def oW (ks:List Int):(sortI ks).Pairwise (·<=·):=by
 have:=List.pairwise_mergeSort (le:=fun a b:Int=>decide (a<=b)) (fun a b c h1 h2=>by simp only[decide_eq_true_eq] at *;omega) (fun a b=>by simp only[Bool.or_eq_true,decide_eq_true_eq];omega) ks;exact this.imp fun h=>by simpa using h
def tX {s:List Pc}(h:∀p∈s,p.ok):sortI (((gr s).map fun (n:Nat)=>(n:Int)).foldl fb [])=(ag s).map fun (n:Nat)=>(n:Int):=by
 obtain⟨n1,n2⟩:=oA ((gr s).map fun (n:Nat)=>(n:Int)) [] List.nodup_nil;have hs:((ag s).map fun (n:Nat)=>(n:Int)).Pairwise (·<·):=by
  rw[List.pairwise_map];exact(aY s).imp fun z=>by omega
 refine xb ?_ (oW _) (hs.imp fun z=>by omega);refine(List.mergeSort_perm _ _).trans ?_;refine(List.perm_ext_iff_of_nodup n1 (hs.imp fun z=>by omega)).mpr fun x=>?_;rw[n2];simp only[List.not_mem_nil,false_or,List.mem_map,di h]
noncomputable def ai (E:List Nat):List D:=E.map fun (n:Nat)=>D.int (n:Int)
def mf (E:List Nat):intsOf (ai E)=some (E.map fun (n:Nat)=>(n:Int)):=by
 have:ai E=(E.map fun (n:Nat)=>(n:Int)).map D.int:=by unfold ai;rw[List.map_map];rfl
 rw[this,ints_map]
def mC (sh:D):∀(s:List Pc) (ds:List D) (x2:Option D),(∀p∈s,p.ok)->ds.length+2*s.length<=10000->∃y2,
 cF (gN 2) dD (s.map pD) [some sh,none,x2,none,some (.lst ds),none]=some (.nx [some sh,none,y2,none,some (.lst (ds++ai (s.flatMap fun p=>[p.i,p.o]))),none])
 | [],ds,x2,_,_=>⟨x2,by simp[cF,ai]⟩
 | p::s,ds,x2,h,hl=>by
   simp only[List.length_cons] at hl;have e:dD [some sh,none,some (pD p),none,some (.lst ds),none]=some (.nx [some sh,none,some (pD p),none,some (.lst (ds++[.int p.i,.int p.o])),none]):=by
    unfold dD yP;rw[av (x:=pD p) rfl,t9 (h p List.mem_cons_self)];have:ds.length+2<=16777216:=by omega
    simp[ownAt,slot,this]
   obtain⟨y2,ih⟩:=mC sh s (ds++[.int p.i,.int p.o]) (some (pD p)) (fun q hq=>h q (List.mem_cons_of_mem _ hq)) (by simp;omega);refine⟨y2,?_⟩;rw[List.map_cons,cF];show (dD [some sh,none,some (pD p),none,some (.lst ds),none]).bind _=_;rw[e];simp only[Option.bind_some];rw[ih];simp[ai]
def pj {s:List Pc}(h:∀p∈s,p.ok)(hl:s.length<=1000)(he:(ag s).length<64):e8 [bD s]=some (.lst (ai (ag s))):=by
 obtain⟨y2,e⟩:=mC (bD s) s [.int 0] none h (by simp;omega);refine bW rfl ?_;show gz [some (bD s),none,none,none,none,none]=_;unfold gz;rw[aw (show du 3 1 (cw (ac (eC (.int 0)) ak)) _=some (.nx [some (bD s),none,none,none,some (.lst [.int 0]),none]) from rfl)];rw[aw ((cj (xs:=s.map pD) rfl).trans e)];have ef:[D.int 0]++ai (s.flatMap fun p=>[p.i,p.o])=ai (gr s):=rfl;rw[ef];show bM (kF jd (ab 1)) [some (bD s),some (.lst (ai (gr s))),y2,none,none,none]=_;refine bA ((vh (x:=.lst (ai (gr s))) rfl).trans ?_);unfold jd;simp only;rw[mf];simp only[Option.bind_some];have hs:=tX h;have h1:((gr s).map fun (n:Nat)=>(n:Int)).length+1<4096:=by
  unfold gr;simp;have:(s.flatMap fun p=>[p.i,p.o]).length=2*s.length:=by
   clear h hl he e ef hs;induction s with
   | nil=>rfl
   | cons p s ih=>rw[List.flatMap_cons,List.length_append,ih];simp;omega
  simp at this;omega
 have h2:(((gr s).map fun (n:Nat)=>(n:Int)).foldl fb []).length<64:=by
  have:=congrArg List.length hs;rw[List.length_map] at this;unfold sortI at this;rw[List.length_mergeSort] at this;omega
 rw[if_pos ⟨h1,h2⟩,hs];unfold ai;rw[List.map_map];rfl
noncomputable def bx (E:List Nat):List (Nat×Nat):=E.zip E.tail
def vf:∀(E F:List Nat),jW (ai E) (ai F)=(E.zip F).map aE
 | [],_=>rfl
 | _::_,[]=>rfl
 | a::E,b::F=>by
   have:=vf E F;unfold jW ai at this ⊢;rw[List.map_cons,List.map_cons,List.zip_cons_cons,List.zip_cons_cons,List.map_cons,List.map_cons,this];rfl
def vG {E:List Nat}(hl:E.length<=1000):cU [.lst (ai E)]=some (.lst ((bx E).map aE)):=by
 refine bW rfl ?_;show cX [some (.lst (ai E))]=_;unfold cX;refine bA ?_;unfold mE nh;have e:kF (re 1) (ab 0) [some (.lst (ai E))]=some (.lst (ai E.tail)):=by
  show some (D.lst ((ai E).drop 1))=_;rw[show (ai E).drop 1=ai E.tail by cases E <;> rfl]
 rw[e,show ab 0 [some (.lst (ai E))]=some (.lst (ai E)) from rfl];simp only[Option.bind_some];rw[vf];have:((E.zip E.tail).map aE).length<=16777216:=by simp;omega
 rw[if_pos this];rfl
noncomputable def ar (q:Nat×Nat):Int:=(q.2:Int)*q.2-(q.1:Int)*q.1
def nE {n:Nat}(h:n<=1000):small (n:Int)=true:=by
 unfold small;simp only[Bool.and_eq_true,decide_eq_true_eq];omega
def nW {i j:Int}(h:small j=true):bQ (.int i) (.int j)=some (.int (i*j)):=by
 simp[bQ,h]
def Dy {a b:ME}{δ:Ev}{ds:List D}{k:Int}(ha:a δ=some (.lst ds))(hb:b δ=some (.int k))(h : -9223372036854775808<=k/\k<9223372036854775808/\ds.length*k.toNat<=16777216):mD a b δ=some (.lst (List.replicate k.toNat ds).flatten):=by
 unfold mD;rw[ha,hb];simp only[Option.bind_some];rw[if_pos h]
def xY {a b:Int}(ha:small a=true)(hb:small b=true):cu [.tup [.int a,.int b]]=some (.int (b*b-a*a)):=by
 refine bW rfl ?_;show fu [some (.tup [.int a,.int b])]=_;unfold fu;refine bA ((aZ ((aZ (x:=.int b) (y:=.int b) rfl rfl).trans (nW hb)) ((aZ (x:=.int a) (y:=.int a) rfl rfl).trans (nW ha))).trans rfl)
def kA {q:Nat×Nat}(h1:q.1<=1000)(h2:q.2<=1000):cu [aE q]=some (.int (ar q)):=xY (nE h1) (nE h2)
def oO (sh bd bn rw':D)(A:Int)(hA:cu [bn]=some (.int A)):∀(row hs:List Int) (x5:Option D),(∀z∈row,0<=z/\z<hs.length)->∃y5,
 cF (gN 5) cb (row.map D.int) [some sh,none,some bd,some bn,some rw',x5,none,some (.lst (hs.map D.int)),none,none,none,none] =
  some (.nx [some sh,none,some bd,some bn,some rw',y5,none,some (.lst ((bi hs row A).map D.int)),none,none,none,none])
 | [],hs,x5,_=>⟨x5,rfl⟩
 | z::row,hs,x5,h=>by
   obtain⟨z0,z1⟩:=h z List.mem_cons_self;have hz:z.toNat<hs.length:=by omega
   have e:cb [some sh,none,some bd,some bn,some rw',some (.int z),none,some (.lst (hs.map D.int)),none,none,none,none] =
    some (.nx [some sh,none,some bd,some bn,some rw',some (.int z),none,some (.lst ((hs.set z.toNat (hs.getD z.toNat 0+A)).map D.int)),none,none,none,none]):=by
    unfold cb yQ;rw[show ab 5 [some sh,none,some bd,some bn,some rw',some (.int z),none,some (.lst (hs.map D.int)),none,none,none,none]=some (.int z) from rfl,av (x:=bn) rfl,hA];have hi:qQ (hs.map D.int).length z=some z.toNat:=by
     unfold qQ;rw[List.length_map,if_pos z0,if_pos (by omega)]
    have hg:(hs.map D.int)[z.toNat]? = some (.int (hs.getD z.toNat 0)):=by
     rw[List.getElem?_map,List.getElem?_eq_getElem hz];simp[hz]
    simp only[Option.bind_some];rw[show ownAt 6 1 [some sh,none,some bd,some bn,some rw',some (.int z),none,some (.lst (hs.map D.int)),none,none,none,none]=some (.lst (hs.map D.int)) from rfl];simp only;rw[hi];simp only[Option.bind_some];rw[hg];simp only[Option.bind_some];rw[List.map_set];rfl
   obtain⟨y5,ih⟩:=oO sh bd bn rw' A hA row (hs.set z.toNat (hs.getD z.toNat 0+A)) (some (.int z)) fun y hy=>by rw[List.length_set];exact h y (List.mem_cons_of_mem _ hy)
   refine⟨y5,?_⟩;rw[List.map_cons,cF];show (cb [some sh,none,some bd,some bn,some rw',some (.int z),none,some (.lst (hs.map D.int)),none,none,none,none]).bind _=_;rw[e];simp only[Option.bind_some];rw[ih];rfl
def cP {g:MG}{body:MS}{x:D}{xs:List D}{δ δ1 δ2:Ev}(hg:g x δ=some δ1)(hb:body δ1=some (.nx δ2)):cF g body (x::xs) δ=cF g body xs δ2:=by
 rw[cF,hg];simp only[Option.bind_some];rw[hb];rfl
def ii (s:List Pc)(hs:List Int)(qs:List (Nat×Nat)):List Int:=qs.foldl (fun hs q=>bi hs (bV s q.1) (ar q)) hs
def ig (s:List Pc)(hs:List Int)(q:Nat×Nat)(qs:List (Nat×Nat)):ii s hs (q::qs)=ii s (bi hs (bV s q.1) (ar q)) qs:=by
 unfold ii;rw[List.foldl_cons]
def ox {s:List Pc}{e:Nat}:∀z∈bV s e,0<=z/\z<s.length+1:=fun z hz=>by
 unfold bV rowOf at hz;obtain⟨t,_,rfl⟩:=List.mem_map.mp hz;have:qR s e t<=s.length:=List.countP_le_length;omega
def mQ (s:List Pc)(sh bd:D):∀(qs:List (Nat×Nat)) (hs:List Int) (x3 x4 x5:Option D),hs.length=s.length+1->(∀q∈qs,q.1<=1000/\q.2<=1000)->∃y3 y4 y5,
 cF (gT (be (gN 3) (be (gN 4) eg))) d9 (qs.map fun q=>.tup [aE q,dX (bV s q.1)]) [some sh,none,some bd,x3,x4,x5,none,some (.lst (hs.map D.int)),none,none,none,none] =
  some (.nx [some sh,none,some bd,y3,y4,y5,none,some (.lst ((ii s hs qs).map D.int)),none,none,none,none])
 | [],hs,x3,x4,x5,_,_=>⟨x3,x4,x5,rfl⟩
 | q::qs,hs,x3,x4,x5,hl,hq=>by
   obtain⟨q1,q2⟩:=hq q List.mem_cons_self;obtain⟨z5,e⟩:=oO sh bd (aE q) (dX (bV s q.1)) (ar q) (kA q1 q2) (bV s q.1) hs x5 fun z hz=>by have:=ox z hz;omega
   obtain⟨y3,y4,y5,ih⟩:=mQ s sh bd qs (bi hs (bV s q.1) (ar q)) (some (aE q)) (some (dX (bV s q.1))) z5 (by rw[b8,hl]) fun p hp=>hq p (List.mem_cons_of_mem _ hp);refine⟨y3,y4,y5,?_⟩;have eb:d9 [some sh,none,some bd,some (aE q),some (dX (bV s q.1)),x5,none,some (.lst (hs.map D.int)),none,none,none,none]=_:=(cj (xs:=(bV s q.1).map D.int) rfl).trans e;rw[List.map_cons,cP (δ1:=[some sh,none,some bd,some (aE q),some (dX (bV s q.1)),x5,none,some (.lst (hs.map D.int)),none,none,none,none]) rfl eb,ig];exact ih
def qT {α:Type}:∀l:List α,l.zip l=l.map fun q=>(q,q)
 | []=>rfl
 | a::l=>by rw[List.zip_cons_cons,qT l,List.map_cons]
def ff (s:List Pc):∃es,ag s=0::es:=by
 unfold ag;rw[List.range_succ_eq_map,List.filter_cons_of_pos (by unfold gr;simp)];exact⟨_,rfl⟩
def t6 {s:List Pc}(h:∀p∈s,p.ok):ky (tabOf s) (fun _=>0) (bx (ag s))=(bx (ag s)).map fun q=>bV s q.1:=by
 obtain⟨es,e⟩:=ff s;have hs:=aY s;have hm:=di h;unfold bx;rw[e] at hs hm ⊢;refine rq h es 0 _ hs (fun p hp=>?_) fun t _=>?_
 ·have:∀x,x∈[p.i,p.o]->x∈gr s:=fun x hx=>List.mem_cons_of_mem _ (List.mem_flatMap.mpr ⟨p,hp,hx⟩);exact⟨.inr ((hm _).mpr (this _ (by simp))),.inr ((hm _).mpr (this _ (by simp)))⟩
 ·unfold xU;have:∀l:List Pc,(l.map fun p=>if p.at t=true then ((if p.i<0 then 1 else 0)-(if p.o<0 then 1 else 0):Int) else 0).sum=0:=fun l=>by
   induction l with
   | nil=>rfl
   | cons p l ih=>rw[List.map_cons,List.sum_cons,ih];simp
  exact(this s).symm
def sK {s:List Pc}{x:Nat}(hx:x∈ag s):x<=1000:=by
 unfold ag at hx;have:=List.mem_range.mp (List.mem_filter.mp hx).1;omega
def AY {s:List Pc}:∀q∈bx (ag s),q.1<=1000/\q.2<=1000:=fun q hq=>by
 have:=List.of_mem_zip hq;exact⟨sK this.1,sK (List.mem_of_mem_tail this.2)⟩
def fL (s:List Pc):List Int:=ii s (List.replicate (s.length+1) 0) (bx (ag s))
def mZ {s:List Pc}(h:∀p∈s,p.ok)(hl:s.length<=1000)(he:(ag s).length<64):dO [bD s]=some (.tup ((fL s).tail.map D.int)):=by
 have hbl:(bx (ag s)).length<=1000:=by unfold bx;simp;omega
 obtain⟨y3,y4,y5,e⟩:=mQ s (bD s) (.lst ((bx (ag s)).map aE)) (bx (ag s)) (List.replicate (s.length+1) 0) none none none (by simp) AY;refine bW rfl ?_;show dQ [some (bD s),none,none,none,none,none,none,none,none,none,none,none]=_;unfold dQ;have e0:du 6 1 (mD (cw (ac (eC (.int 0)) ak)) (az bG (ah cM (ac (ab 0) ak)) (eC (.int 1)))) [some (bD s),none,none,none,none,none,none,none,none,none,none,none] =
  some (.nx [some (bD s),none,none,none,none,none,none,some (.lst ((List.replicate (s.length+1) (0:Int)).map D.int)),none,none,none,none]):=by
  have er:mD (cw (ac (eC (.int 0)) ak)) (az bG (ah cM (ac (ab 0) ak)) (eC (.int 1))) [some (bD s),none,none,none,none,none,none,none,none,none,none,none]=some (.lst ((List.replicate (s.length+1) (0:Int)).map D.int)):=by
   have e1:az bG (ah cM (ac (ab 0) ak)) (eC (.int 1)) [some (bD s),none,none,none,none,none,none,none,none,none,none,none]=some (.int ((s.length+1:Nat):Int)):=by
    rw[aZ (x:=.int (s.length:Nat)) (y:=.int 1) ((av (x:=bD s) rfl).trans (by unfold bD cM;simp)) rfl];simp[bG]
   refine(Dy (ds:=[.int 0]) rfl e1 ⟨by omega,by omega,?_⟩).trans ?_
   ·rw[Int.toNat_natCast];simp;omega
   rw[Int.toNat_natCast];have:∀n,(List.replicate n [D.int 0]).flatten=(List.replicate n (0:Int)).map D.int:=fun n=>by
    induction n with
    | zero=>rfl
    | succ n ih=>rw[List.replicate_succ,List.flatten_cons,ih,List.replicate_succ,List.map_cons];rfl
   rw[this]
  unfold du;rw[er];rfl
 rw[aw e0];rw[aw (aQ (δ':=[some (bD s),none,some (.lst ((bx (ag s)).map aE)),none,none,none,none,some (.lst ((List.replicate (s.length+1) (0:Int)).map D.int)),none,none,none,none]) ((av ((av (x:=bD s) rfl).trans (pj h hl he))).trans (vG (by omega))) rfl)];have hz:nh (ab 2) (ah eE (ac (ab 0) (ac (ab 2) ak))) [some (bD s),none,some (.lst ((bx (ag s)).map aE)),none,none,none,none,some (.lst ((List.replicate (s.length+1) (0:Int)).map D.int)),none,none,none,none] =
  some ((bx (ag s)).map fun q=>.tup [aE q,dX (bV s q.1)]):=by
  unfold nh;rw[aV (x:=bD s) (y:=.lst ((bx (ag s)).map aE)) rfl rfl,Dz h (by omega) hbl,t6 h,show ab 2 [some (bD s),none,some (.lst ((bx (ag s)).map aE)),none,none,none,none,some (.lst ((List.replicate (s.length+1) (0:Int)).map D.int)),none,none,none,none]=some (.lst ((bx (ag s)).map aE)) from rfl];simp only[Option.bind_some];unfold jW;rw[List.map_map,List.zip_map,qT,List.map_map,List.map_map];rfl
 rw[aw ((cj hz).trans e)];show bM _ [some (bD s),some (.lst ((fL s).map D.int)),_,y3,y4,y5,none,none,none,none,none,none]=_;refine bA ((av (x:=.lst (((fL s).map D.int).drop 1)) ((vh (f:=re 1) (x:=.lst ((fL s).map D.int)) rfl).trans rfl)).trans ?_);show some (D.tup (((fL s).map D.int).drop 1))=_;rw[<-List.map_drop,List.drop_one]
def cnt (s:List Pc)(r k:Nat):Nat:=(bV s r).count (k:Int)
def mR (s:List Pc):∀(qs:List (Nat×Nat)) (hs:List Int),(ii s hs qs).length=hs.length
 | [],_=>rfl
 | q::qs,hs=>by rw[ig,mR s qs,b8]
def mS (s:List Pc)(k:Nat):∀(qs:List (Nat×Nat)) (hs:List Int),hs.length=s.length+1->(ii s hs qs).getD k 0=hs.getD k 0+(qs.map fun q=>ar q*(cnt s q.1 k:Int)).sum
 | [],hs,_=>by simp[ii]
 | q::qs,hs,hl=>by
   rw[ig,mS s k qs _ (by rw[b8,hl]),jc (ar q) _ _ k fun z hz=>by have:=ox z hz;omega,List.map_cons,List.sum_cons];unfold cnt;omega
def AE {s:List Pc}{a r:Nat}(h:∀p∈s,(p.i<=r↔p.i<=a)/\(r<p.o↔a<p.o))(t:Nat):qR s r t=qR s a t:=by
 unfold qR;refine List.countP_congr fun p hp=>?_;obtain⟨h1,h2⟩:=h p hp;unfold Pc.has;simp only[Bool.and_eq_true,decide_eq_true_eq,h1,h2]
def yS {s:List Pc}{a r:Nat}(h:∀p∈s,(p.i<=r↔p.i<=a)/\(r<p.o↔a<p.o)):bV s r=bV s a:=kz fun t _=>by rw[AE h t]
def sP {s:List Pc}{r:Nat}(h:∀p∈s,p.o<=r)(t:Nat):qR s r t=0:=by
 unfold qR;rw[List.countP_eq_zero];intro p hp;have:=h p hp;unfold Pc.has;have h2:decide (r<p.o)=false:=by simp;omega
 simp[h2]
def AM {s:List Pc}{r k:Nat}(h:∀p∈s,p.o<=r)(hk:1<=k):cnt s r k=0:=by
 unfold cnt bV rowOf;rw[List.count_eq_zero];intro hm;obtain⟨t,_,e⟩:=List.mem_map.mp hm;rw[sP h t] at e;omega
def yI (c:Int):∀(n e:Nat),((List.range' e n).map fun (r:Nat)=>(2*(r:Int)+1)*c).sum=(((e+n:Nat):Int)*(e+n:Nat)-(e:Int)*e)*c
 | 0,e=>by simp
 | n+1,e=>by
   rw[List.range'_succ,List.map_cons,List.sum_cons,yI c n (e+1)];have h1:(((e+1+n:Nat):Int))=(e:Int)+1+n:=by omega
   have h2:(((e+(n+1):Nat):Int))=(e:Int)+1+n:=by omega
   have h3:(((e+1:Nat):Int))=(e:Int)+1:=by omega
   rw[h1,h2,h3];have:((e:Int)+1)*((e:Int)+1)=(e:Int)*e+2*e+1:=by rw[Int.add_mul,Int.mul_add];omega
   rw[this,<-Int.add_mul];congr 1;omega
def Fi {s:List Pc}(h:∀p∈s,p.i<p.o){k:Nat}(hk:1<=k)(R:Nat):∀(es:List Nat) (e:Nat),(e::es).Pairwise (·<·)->Left s e es->(∀x∈e::es,x<=R) ->
 (((e::es).zip es).map fun q=>ar q*(cnt s q.1 k:Int)).sum=((List.range' e (R-e)).map fun (r:Nat)=>(2*(r:Int)+1)*(cnt s r k:Int)).sum
 | [],e,_,hL,hR=>by
   have:∀l:List Nat,(∀r∈l,e<=r)->(l.map fun (r:Nat)=>(2*(r:Int)+1)*(cnt s r k:Int)).sum=0:=fun l hl=>by
    induction l with
    | nil=>rfl
    | cons r l ih =>
      rw[List.map_cons,List.sum_cons,ih fun x hx=>hl x (List.mem_cons_of_mem _ hx),AM (fun p hp=>?_) hk]
      ·simp
      ·have:=hl r List.mem_cons_self;rcases (hL p hp).2 with z | z
       ·omega
       ·rw[List.mem_singleton] at z;omega
   rw[this _ fun r hr=>by rw[List.mem_range'_1] at hr;exact hr.1];rfl
 | e'::es,e,hs,hL,hR=>by
   have hlt:e<e':=(List.pairwise_cons.mp hs).1 e' List.mem_cons_self;have hR':=hR e' (by simp);have split:List.range' e (R-e)=List.range' e (e'-e)++List.range' e' (R-e'):=by
    have:=List.range'_append_1 (s:=e) (m:=e'-e) (n:=R-e');rw[show e+(e'-e)=e' by omega,show (e'-e)+(R-e')=R-e by omega] at this;exact this.symm
   rw[List.zip_cons_cons,List.map_cons,List.sum_cons,Fi h hk R es e' (List.pairwise_cons.mp hs).2 (hL.next hs) fun x hx=>hR x (List.mem_cons_of_mem _ hx),split,List.map_append,List.sum_append];congr 1;have hc:(List.range' e (e'-e)).map (fun (r:Nat)=>(2*(r:Int)+1)*(cnt s r k:Int))=(List.range' e (e'-e)).map fun (r:Nat)=>(2*(r:Int)+1)*(cnt s e k:Int):=by
    refine List.map_congr_left fun r hr=>?_;rw[List.mem_range'_1] at hr;have:cnt s r k=cnt s e k:=by
     unfold cnt;rw[yS fun p hp=>?_];obtain⟨h1,h2⟩:=hL.iff hs p hp;have:=h p hp;omega
    rw[this]
   rw[hc,yI,show e+(e'-e)=e' by omega];rfl
def da (s:List Pc)(R k:Nat):Int:=((List.range R).map fun (r:Nat)=>(2*(r:Int)+1)*(cnt s r k:Int)).sum
def AZ {s:List Pc}(h:∀p∈s,p.ok){R:Nat}(hR:∀p∈s,p.o<=R):(fL s).tail=(List.range s.length).map fun k=>da s R (k+1):=by
 have hlen:(fL s).length=s.length+1:=by unfold fL;rw[mR];simp
 refine List.ext_getElem (by simp[hlen]) fun k h1 h2=>?_;have hk:k<s.length:=by simpa using h2
 obtain⟨es,e⟩:=ff s;have hs:=aY s;have hm:=di h;have g:(fL s).getD (k+1) 0=da s R (k+1):=by
  unfold fL da bx;rw[mS s (k+1) _ _ (by simp)];rw[e] at hs hm ⊢;have hL:Left s 0 es:=fun p hp=>by
   have:∀x,x∈[p.i,p.o]->x∈gr s:=fun x hx=>List.mem_cons_of_mem _ (List.mem_flatMap.mpr ⟨p,hp,hx⟩);exact⟨.inr ((hm _).mpr (this _ (by simp))),.inr ((hm _).mpr (this _ (by simp)))⟩
  have hle:∀x∈0::es,x<=R:=fun x hx=>by
   have:=(hm x).mp hx;unfold gr at this;rcases List.mem_cons.mp this with rfl | z
   ·omega
   ·obtain⟨p,hp,hx⟩:=List.mem_flatMap.mp z;have h1:=hR p hp;have h2:=(h p hp).1;simp only[List.mem_cons,List.not_mem_nil,or_false] at hx;omega
  have:=Fi (fun p hp=>(h p hp).1) (k:=k+1) (by omega) R es 0 hs hL hle;rw[List.tail_cons,this,Nat.sub_zero,<-List.range_eq_range'];simp[List.getD_eq_getElem?_getD,List.getElem?_replicate];split <;> simp
 rw[List.getElem_tail,List.getElem_map,List.getElem_range,<-g];simp[hlen,hk]
def BB {s:List Pc}(h:∀p∈s,p.ok)(hl:s.length<=1000)(he:(ag s).length<64){R:Nat}(hR:∀p∈s,p.o<=R):dO [bD s]=some (.tup ((List.range s.length).map fun k=>.int (da s R (k+1)))):=by
 rw[mZ h hl he,AZ h hR,List.map_map];rfl
def gi:∀(l:List Nat) (lo hi:Nat),l.Pairwise (·<·)->(∀x∈l,lo<=x/\x<hi)->l.length<=hi-lo
 | [],_,_,_,_=>Nat.zero_le _
 | a::l,lo,hi,h,hx=>by
   obtain⟨h1,h2⟩:=List.pairwise_cons.mp h;have:=gi l (a+1) hi h2 fun x hm=>⟨h1 x hm,(hx x (List.mem_cons_of_mem _ hm)).2⟩;have:=hx a List.mem_cons_self;rw[List.length_cons];omega
def iz {s:List Pc}(h:∀p∈s,p.ok){R:Nat}(hR:∀p∈s,p.o<=R):(ag s).length<=R+1:=by
 have h1:∀x∈ag s,x<R+1:=fun x hx=>by
  have:=(di h x).mp hx;unfold gr at this;rcases List.mem_cons.mp this with rfl | z
  ·omega
  ·obtain⟨p,hp,hx⟩:=List.mem_flatMap.mp z;have h1:=hR p hp;have h2:=(h p hp).1;simp only[List.mem_cons,List.not_mem_nil,or_false] at hx;omega
 have:=gi (ag s) 0 (R+1) (aY s) fun x hx=>⟨Nat.zero_le _,h1 x hx⟩;omega
section
variable {β:Type}[DecidableEq β]{nb:Nat->List Nat}{v:Nat->β}{n:Nat}
inductive Hg (nb:Nat->List Nat)(v:Nat->β)(a:Nat):Nat->Prop where
 | refl:Hg nb v a a
 | step {b c:Nat}:Hg nb v a b->c∈nb b->v c=v b->Hg nb v a c
def Hg.val {a b:Nat}(h:Hg nb v a b):v b=v a:=by
 induction h with
 | refl=>rfl
 | step _ _ e ih=>rw[e,ih]
def Hg.trans {a b c:Nat}(h:Hg nb v a b)(g:Hg nb v b c):Hg nb v a c:=by
 induction g with
 | refl=>exact h
 | step _ m e ih=>exact .step ih m e
def yf (nb:Nat->List Nat)(n:Nat):Prop:=∀b c,b<n->c∈nb b->c<n/\b∈nb c
def Hg.lt (hs:yf nb n){a b:Nat}(ha:a<n)(h:Hg nb v a b):b<n:=by
 induction h with
 | refl=>exact ha
 | step _ m _ ih=>exact(hs _ _ ih m).1
def Hg.symm (hs:yf nb n){a b:Nat}(ha:a<n)(h:Hg nb v a b):Hg nb v b a:=by
 induction h with
 | refl=>exact .refl
 | step g m e ih=>exact Hg.trans (.step .refl (hs _ _ (g.lt hs ha) m).2 e.symm) ih
noncomputable def grow (P:Nat->Bool):List Nat->List Nat->List Nat
 | R,[]=>R
 | R,o::ns=>grow P (if o∉R/\P o=true then R++[o] else R) ns
def jH (P:Nat->Bool):∀(ns R:List Nat),∃T,grow P R ns=R++T/\∀x∈T,x∈ns/\P x=true
 | [],R=>⟨[],by simp[grow],fun x h=>by cases h⟩
 | o::ns,R=>by
   rw[grow];by_cases h:o∉R/\P o=true
   ·rw[if_pos h];obtain⟨T,e,q⟩:=jH P ns (R++[o]);refine⟨o::T,by rw[e];simp,fun x hx=>?_⟩;rcases List.mem_cons.mp hx with rfl | hx
    ·exact⟨List.mem_cons_self,h.2⟩
    ·exact⟨List.mem_cons_of_mem _ (q x hx).1,(q x hx).2⟩
   ·rw[if_neg h];obtain⟨T,e,q⟩:=jH P ns R;exact⟨T,e,fun x hx=>⟨List.mem_cons_of_mem _ (q x hx).1,(q x hx).2⟩⟩
def mw (P:Nat->Bool):∀(ns R:List Nat),R.Nodup->(grow P R ns).Nodup
 | [],R,h=>h
 | o::ns,R,h=>by
   rw[grow];refine mw P ns _ ?_;split
   ·rename_i q;rw[List.nodup_append];refine⟨h,by simp,fun a ha b hb=>?_⟩;rw[List.mem_singleton] at hb;subst hb;exact fun z=>q.1 (z ▸ ha)
   ·exact h
def sv (P:Nat->Bool)(ns R:List Nat):∀x∈R,x∈grow P R ns:=fun x hx=>by
 obtain⟨T,e,_⟩:=jH P ns R;rw[e];exact List.mem_append_left _ hx
def sw (P:Nat->Bool):∀(ns R:List Nat),∀o∈ns,P o=true->o∈grow P R ns
 | [],_,_,h,_=>by cases h
 | q::ns,R,o,h,hp=>by
   rw[grow];rcases List.mem_cons.mp h with rfl | h
   ·refine sv P ns _ _ ?_;by_cases z:o∈R
    ·split
     ·exact List.mem_append_left _ z
     ·exact z
    ·rw[if_pos ⟨z,hp⟩];simp
   ·exact sw P ns _ o h hp
def j8:∀(n:Nat) (l:List Nat),l.Nodup->(∀x∈l,x<n)->l.length<=n
 | 0,l,_,h=>by
   cases l with
   | nil=>simp
   | cons a l=>exact absurd (h a List.mem_cons_self) (by omega)
 | n+1,l,hn,h=>by
   have h1:=j8 n (l.erase n) (hn.erase n) fun x hx=>by
    have h2:=h x (List.mem_of_mem_erase hx);have h3:x≠n:=fun z=>by
     subst z;exact(List.Nodup.not_mem_erase hn) hx
    omega
   by_cases hm:n∈l
   ·rw[List.length_erase_of_mem hm] at h1;omega
   ·rw[List.erase_of_not_mem hm] at h1;omega
structure Bf (nb:Nat->List Nat)(v:Nat->β)(n a:Nat)(R:List Nat)(k:Nat):Prop where
 nd:R.Nodup
 hd:R.head? = some a
 hg:∀x∈R,Hg nb v a x
 cl:∀j x,j<k->R[j]? = some x->∀c∈nb x,v c=v a->c∈R
 kl:k<=R.length
 lt:∀x∈R,x<n
def Bf.start {a:Nat}(ha:a<n):Bf nb v n a [a] 0 where
 nd:=by simp
 hd:=rfl
 hg:=fun x hx=>by rw[List.mem_singleton] at hx;subst hx;exact .refl
 cl:=fun j x h=>absurd h (by omega)
 kl:=Nat.zero_le _
 lt:=fun x hx=>by rw[List.mem_singleton] at hx;omega
def Bf.next (hs:yf nb n){a:Nat}{R:List Nat}{k x:Nat}(h:Bf nb v n a R k)(hx:R[k]? = some x):Bf nb v n a (grow (fun c=>decide (v c=v a)) R (nb x)) (k+1):=by
 obtain⟨T,e,q⟩:=jH (fun c=>decide (v c=v a)) (nb x) R;have hxm:=List.mem_of_getElem? hx;have hxa:=(h.hg x hxm).val;have hk:k<R.length:=by
  rcases Nat.lt_or_ge k R.length with z | z
  ·exact z
  ·rw[List.getElem?_eq_none z] at hx;cases hx
 constructor
 ·exact mw _ _ _ h.nd
 ·rw[e];have:=h.hd;cases R with
  | nil=>cases this
  | cons b R=>exact this
 ·intro y hy;rw[e] at hy;rcases List.mem_append.mp hy with z | z
  ·exact h.hg y z
  ·have:=(q y z).2;simp only[decide_eq_true_eq] at this;exact .step (h.hg x hxm) (q y z).1 (by rw[this,hxa])
 ·intro j y hj hy c hc hv;have hjR:R[j]? = some y:=by
   rw[e,List.getElem?_append_left (by omega)] at hy;exact hy
  by_cases hjk:j=k
  ·subst hjk;rw[hx] at hjR;cases hjR;exact sw _ _ _ c hc (by simp[hv])
  ·exact sv _ _ _ _ (h.cl j y (by omega) hjR c hc hv)
 ·rw[e,List.length_append];omega
 ·intro y hy;rw[e] at hy;rcases List.mem_append.mp hy with z | z
  ·exact h.lt y z
  ·exact(hs x y (h.lt x hxm) (q y z).1).1
def Bf.mem {a:Nat}{R:List Nat}(h:Bf nb v n a R R.length)(x:Nat):x∈R↔Hg nb v a x:=by
 refine⟨h.hg x,fun g=>?_⟩
 induction g with
 | refl =>
   have:=h.hd;cases R with
   | nil=>cases this
   | cons b R=>cases this;exact List.mem_cons_self
 | step g m e ih =>
   obtain⟨j,hj⟩:=List.getElem?_of_mem ih;refine h.cl j _ ?_ hj _ m (by rw[e,g.val]);rcases Nat.lt_or_ge j R.length with z | z
   ·exact z
   ·rw[List.getElem?_eq_none z] at hj;cases hj
def Bf.few {a:Nat}{R:List Nat}{k:Nat}(h:Bf nb v n a R k):R.length<=n:=j8 n R h.nd h.lt
def lg (hs:yf nb n){a:Nat}{c:MT}{b:MS}(S:List Nat->Nat->Ev->Prop)(hc:∀R k δ,k<=R.length->S R k δ->c δ=some (decide (k<R.length)))
 (hb:∀R k x δ,Bf nb v n a R k->R[k]? = some x->S R k δ->∃δ',b δ=some (.nx δ')/\S (grow (fun c=>decide (v c=v a)) R (nb x)) (k+1) δ') :
 ∀(m:Nat) (R:List Nat) (k:Nat) (δ:Ev),n-k<=m->Bf nb v n a R k->S R k δ->∃(N:Nat) (R':List Nat) (δ':Ev),kM c b N δ=some (.nx δ')/\S R' R'.length δ'/\Bf nb v n a R' R'.length
 | m,R,k,δ,hm,h,hS=>by
   have h1:=hc R k δ h.kl hS;by_cases hk:k<R.length
   ·have hx:R[k]? = some R[k]:=List.getElem?_eq_getElem hk;obtain⟨δ1,e1,S1⟩:=hb R k _ δ h hx hS;have:=h.few;cases m with
    | zero=>omega
    | succ m =>
      obtain⟨N,R',δ',e2,S2,h2⟩:=lg hs S hc hb m _ (k+1) δ1 (by omega) (h.next hs hx) S1;refine⟨N+1,R',δ',?_,S2,h2⟩;rw[kM,h1];simp[hk,e1,e2]
   ·have hkl:=h.kl;have:k=R.length:=by omega
    subst this;refine⟨1,R,δ,?_,hS,h⟩;rw[kM,h1];simp
end
noncomputable def qB (c:Nat):Nat:=c-c % 24+(c % 24+1) % 24
noncomputable def qC (c:Nat):Nat:=c-c % 24+(c % 24+23) % 24
def bO (n c:Nat):List Nat:=[qB c,qC c]++((if c+24<n then [c+24] else [])++(if 24<=c then [c-24] else []))
def nb_mem {n c d:Nat}:d∈bO n c↔d=qB c\/d=qC c\/(d=c+24/\c+24<n)\/(24<=c/\d=c-24):=by
 unfold bO;simp only[List.mem_append,List.mem_cons,List.not_mem_nil,or_false];by_cases h1:c+24<n <;> by_cases h2:24<=c <;> simp[h1,h2] <;> omega
def cg (N:Nat):yf (bO (24*N)) (24*N):=fun b c hb hc=>by
 rw[nb_mem] at hc;rw[nb_mem];unfold qB qC at *;omega
def xn (c:Nat):cO [.int c,.int 1]=some (.int (qB c:Nat)):=by
 have e:(((qB c:Nat)):Int)=(c:Int)-(c:Int) % 24+((c:Int) % 24+1) % 24:=by unfold qB;omega
 rw[e];rfl
def xp (c:Nat):cO [.int c,.int (-1)]=some (.int (qC c:Nat)):=by
 have e:(((qC c:Nat)):Int)=(c:Int)-(c:Int) % 24+((c:Int) % 24 + -1) % 24:=by unfold qC;omega
 rw[e];rfl
noncomputable def B7 (n:Nat):D->Option D
 | .int i=>if 0<=i/\i<n then some (.int i) else none
 | _=>none
def BZ {a b:ME}{δ:Ev}{x y:D}(ha:a δ=some x)(hb:b δ=some y):cw (ac a (ac b ak)) δ=some (.lst [x,y]):=by
 unfold cw ac ak;rw[ha,hb];rfl
def o7 {n c:Nat}(hc:c<n):gl [.int c,.int n]=some (.lst (ai (bO n c))):=by
 refine bW rfl ?_;show eL [some (.int c),some (.int n),none,none]=_;unfold eL;rw[aw (aQ (d:=.lst [.int (qB c:Nat),.int (qC c:Nat)]) (δ':=[some (.int c),some (.int n),some (.lst [.int (qB c:Nat),.int (qC c:Nat)]),none]) (BZ ((aV (x:=.int c) (y:=.int 1) rfl rfl).trans (xn c)) ((aV (x:=.int c) (y:=.int (-1)) rfl rfl).trans (xp c))) rfl)];rw[aw (aQ (d:=.lst [.int ((c:Int)+24),.int ((c:Int)-24)]) (δ':=[some (.int c),some (.int n),some (.lst [.int (qB c:Nat),.int (qC c:Nat)]),some (.lst [.int ((c:Int)+24),.int ((c:Int)-24)])]) rfl rfl)];have hcm:=bL (k:=1) (fv:=[1]) (i:=br (ab 3)) (g:=gN 0) (c:=tV (cV oLe oLt (eC (.int 0)) (ab 0) (ab 1))) (e:=ab 0) (δ:=[some (.int c),some (.int n),some (.lst [.int (qB c:Nat),.int (qC c:Nat)]),some (.lst [.int ((c:Int)+24),.int ((c:Int)-24)])]) (xs:=[.int ((c:Int)+24),.int ((c:Int)-24)]) (B7 n) rfl (by simp) fun x hx=>by
  have hx':∃i:Int,x=.int i:=by
   simp only[List.mem_cons,List.not_mem_nil,or_false] at hx;rcases hx with rfl | rfl <;> exact⟨_,rfl⟩
  obtain⟨i,rfl⟩:=hx';refine⟨[some (.int i),some (.int n)],rfl,?_⟩;by_cases h1:0<=i
  ·by_cases h2:i<n
   ·exact .inl ⟨by simp[tV,cV,eC,ab,slot,oLe,oLt,oI,h1,h2,truth],.int i,rfl,by simp[B7,h1,h2]⟩
   ·exact .inr ⟨by simp[tV,cV,eC,ab,slot,oLe,oLt,oI,h1,h2,truth],by simp[B7,h1,h2]⟩
  ·exact .inr ⟨by simp[tV,cV,eC,ab,slot,oLe,oLt,oI,h1,truth],by simp[B7,h1]⟩
 refine bA ((aZ (x:=.lst [.int (qB c:Nat),.int (qC c:Nat)]) rfl hcm).trans ?_);have hl:([D.int ((c:Int)+24),.int ((c:Int)-24)].filterMap (B7 n)).length<=2:=List.length_filterMap_le _ _;unfold bG;simp only;rw[if_pos (by simp only[List.length_cons,List.length_nil];omega)];refine congrArg (fun l=>some (D.lst l)) ?_;unfold bO ai;simp only[List.map_append];refine congrArg _ ?_;have f1:B7 n (.int ((c:Int)+24))=if c+24<n then some (.int ((c+24:Nat):Int)) else none:=by
  unfold B7;by_cases h1:c+24<n
  ·rw[if_pos h1];simp only;rw[if_pos (by omega)];rfl
  ·rw[if_neg h1];simp only;rw[if_neg (by omega)]
 have f2:B7 n (.int ((c:Int)-24))=if 24<=c then some (.int ((c-24:Nat):Int)) else none:=by
  unfold B7;by_cases h1:24<=c
  ·rw[if_pos h1];simp only;rw[if_pos (by omega),Int.ofNat_sub h1];rfl
  ·rw[if_neg h1];simp only;rw[if_neg (by omega)]
 rw[List.filterMap_cons,List.filterMap_cons,List.filterMap_nil,f1,f2];by_cases h1:c+24<n <;> by_cases h2:24<=c <;> simp[h1,h2]
section
variable {β:Type}[DecidableEq β]
noncomputable def aD (f:β->D)(v:Nat->β)(n:Nat):D:=.lst ((List.range n).map fun c=>f (v c))
structure Fd (f:β->D):Prop where
 eq:∀x y,bP (f x) (f y)=decide (x=y)
 dp:∀x,bg (f x)<=30
structure Pt (nb:Nat->List Nat)(R:List Nat)(V:List D):Prop where
 len:V.length=R.length
 zero:V[0]? = some .non
 bef:∀i x,0<i->R[i]? = some x->∃j y,j<i/\R[j]? = some y/\V[i]? = some (.int (y:Nat))/\x∈nb y
def Pt.app {nb:Nat->List Nat}{R:List Nat}{V:List D}(h:Pt nb R V){k x o:Nat}(hx:R[k]? = some x)(ho:o∈nb x):Pt nb (R++[o]) (V++[.int (x:Nat)]):=by
 have hk:k<R.length:=by
  rcases Nat.lt_or_ge k R.length with z | z
  ·exact z
  ·rw[List.getElem?_eq_none z] at hx;cases hx
 constructor
 ·simp[h.len]
 ·rw[List.getElem?_append_left (by rw[h.len];omega)];exact h.zero
 ·intro i y hi hy;rcases Nat.lt_or_ge i R.length with z | z
  ·rw[List.getElem?_append_left z] at hy;obtain⟨j,u,a1,a2,a3,a4⟩:=h.bef i y hi hy;refine⟨j,u,a1,?_,?_,a4⟩
   ·rw[List.getElem?_append_left (by omega)];exact a2
   ·rw[List.getElem?_append_left (by rw[h.len];omega)];exact a3
  ·have hi':i=R.length:=by
    rcases Nat.lt_or_ge i (R++[o]).length with q | q
    ·simp at q;omega
    ·rw[List.getElem?_eq_none q] at hy;cases hy
   subst hi';rw[List.getElem?_append_right (Nat.le_refl _)] at hy;simp at hy;subst hy;refine⟨k,x,hk,?_,?_,ho⟩
   ·rw[List.getElem?_append_left hk];exact hx
   ·rw[List.getElem?_append_right (by rw[h.len];exact Nat.le_refl _),h.len];simp
def qD (R:List Nat)(o:Nat):((ai R).any fun q=>bP q (.int o))=decide (o∈R):=by
 unfold ai;rw[List.any_map,Bool.eq_iff_iff,List.any_eq_true,decide_eq_true_eq];constructor
 ·rintro⟨x,hx,e⟩;simp only[Function.comp,bP,beq_iff_eq] at e;have:x=o:=by omega
  exact this ▸ hx
 ·intro h;exact⟨o,h,by simp[bP]⟩
def wL (R:List Nat)(o:Nat)(h:o∉R):((ai R).all fun q => !bP q (.int o))=true:=by
 rw[List.all_eq_true];intro q hq;unfold ai at hq;obtain⟨x,hx,rfl⟩:=List.mem_map.mp hq;have:x≠o:=fun z=>h (z ▸ hx);simp[bP];omega
def h7 {l:List D}{c:Nat}{d:D}(h:l[c]? = some d):bN (.lst l) (.int (c:Nat))=some d:=by
 have hc:c<l.length:=by
  rcases Nat.lt_or_ge c l.length with z | z
  ·exact z
  ·rw[List.getElem?_eq_none z] at h;cases h
 unfold bN;simp only;unfold qQ;rw[if_pos (by omega),if_pos (by omega)];simpa using h
def pR (f:β->D)(v:Nat->β){n c:Nat}(hc:c<n):bN (aD f v n) (.int (c:Nat))=some (f (v c)):=by
 unfold aD;refine h7 ?_;rw[List.getElem?_map,List.getElem?_range hc];rfl
abbrev HS (vs:D)(a:Nat)(R:List Nat)(V:List D)(k:Nat)(x5 x6:Option D):Ev:=[some vs,some (.int a),none,none,some (.int k),x5,x6,none,none,some (.dic false (ai R) V),some (.lst (ai R)),none,none,none]
variable {f:β->D}{v:Nat->β}{n a:Nat}
def Ai (hf:Fd f)(ha:a<n){R:List Nat}{V:List D}(k:Nat){x o:Nat}(ho:o<n)(hl:R.length<=100000):cJ (HS (aD f v n) a R V k (some (.int x)) (some (.int o))) =
 some (.nx (if o∉R/\decide (v o=v a)=true then HS (aD f v n) a (R++[o]) (V++[.int x]) k (some (.int x)) (some (.int o)) else HS (aD f v n) a R V k (some (.int x)) (some (.int o)))):=by
 have t1:tV (uM 7 2 true (ab 6)) (HS (aD f v n) a R V k (some (.int x)) (some (.int o)))=some (!decide (o∈R)):=by
  have e:B8 (.dic false (ai R) V) (.int o)=some (decide (o∈R)):=by
   show some ((ai R).any fun q=>bP q (.int o))=_;rw[qD]
  show ((B8 (.dic false (ai R) V) (.int o)).bind fun b=>some (.bl (b != true))).bind truth=_;rw[e];cases decide (o∈R) <;> rfl
 have t2:tV (az oEq (az bN (ab 0) (ab 6)) (az bN (ab 0) (ab 1))) (HS (aD f v n) a R V k (some (.int x)) (some (.int o)))=some (decide (v o=v a)):=by
  refine iI (d:=.bl (decide (v o=v a))) ((aZ ((aZ (x:=aD f v n) (y:=.int o) rfl rfl).trans (pR f v ho)) ((aZ (x:=aD f v n) (y:=.int a) rfl rfl).trans (pR f v ha))).trans ?_) rfl;unfold oEq;rw[if_pos ⟨hf.dp _,hf.dp _⟩,hf.eq]
 unfold cJ qP lj;rw[t1];simp only[Option.bind_some];by_cases h1:o∈R
 ·simp[h1,iF]
 ·simp only[h1,decide_false,Bool.not_false,if_true,t2,Option.bind_some];by_cases h2:v o=v a
  ·simp only[h2,decide_true,if_true,not_false_eq_true,and_self];have p:yO 7 2 (ab 6) (ab 5) (HS (aD f v n) a R V k (some (.int x)) (some (.int o)))=some (.nx [some (aD f v n),some (.int a),none,none,some (.int k),some (.int x),some (.int o),none,none,some (.dic false (ai R++[.int o]) (V++[.int x])),some (.lst (ai R)),none,none,none]):=by
    show (if ((ai R).all fun q => !bP q (.int o))=true/\(ai R).length<16777216 then _ else _)=_;rw[if_pos ⟨wL R o h1,by unfold ai;rw[List.length_map];omega⟩];rfl
   rw[aw p];show (if (ai R).length<16777216 then _ else _)=_;rw[if_pos (by unfold ai;rw[List.length_map];omega)];have ea:ai R++[.int o]=ai (R++[o]):=by unfold ai;rw[List.map_append];rfl
   unfold HS;rw[<-ea];rfl
  ·simp[h2,iF]
def pU (hf:Fd f)(ha:a<n){nb:Nat->List Nat}{k x:Nat}:∀(ns R:List Nat) (V:List D) (x6:Option D),R[k]? = some x->(∀o∈ns,o<n/\o∈nb x)->Pt nb R V->R.length+ns.length<=100000->∃V' y6,
 cF (gN 6) cJ (ai ns) (HS (aD f v n) a R V k (some (.int x)) x6)=some (.nx (HS (aD f v n) a (grow (fun c=>decide (v c=v a)) R ns) V' k (some (.int x)) y6))/\Pt nb (grow (fun c=>decide (v c=v a)) R ns) V'
 | [],R,V,x6,_,_,hp,_=>⟨V,x6,rfl,hp⟩
 | o::ns,R,V,x6,hx,hn,hp,hl=>by
   simp only[List.length_cons] at hl;obtain⟨ho,hob⟩:=hn o List.mem_cons_self;have e0:ai (o::ns)=.int o::ai ns:=rfl;have e1:=Ai (v:=v) hf ha (R:=R) (V:=V) k (x:=x) ho (by omega);rw[grow];by_cases h:o∉R/\decide (v o=v a)=true
   ·rw[if_pos h] at e1 ⊢;have hk:k<R.length:=by
     rcases Nat.lt_or_ge k R.length with z | z
     ·exact z
     ·rw[List.getElem?_eq_none z] at hx;cases hx
    obtain⟨V',y6,ih,hp'⟩:=pU hf ha (nb:=nb) ns (R++[o]) (V++[.int x]) (some (.int o)) (by rw[List.getElem?_append_left hk];exact hx) (fun q hq=>hn q (List.mem_cons_of_mem _ hq)) (hp.app hx hob) (by simp;omega);refine⟨V',y6,?_,hp'⟩;rw[e0,cP (δ1:=HS (aD f v n) a R V k (some (.int x)) (some (.int o))) rfl e1,ih]
   ·rw[if_neg h] at e1 ⊢;obtain⟨V',y6,ih,hp'⟩:=pU hf ha (nb:=nb) ns R V (some (.int o)) hx (fun q hq=>hn q (List.mem_cons_of_mem _ hq)) hp (by omega);refine⟨V',y6,?_,hp'⟩;rw[e0,cP (δ1:=HS (aD f v n) a R V k (some (.int x)) (some (.int o))) rfl e1,ih]
def lY (f:β->D)(v:Nat->β)(n:Nat):cM [aD f v n]=some (.int n):=by
 unfold aD cM;simp
def D4 (n c:Nat):(bO n c).length<=4:=by
 unfold bO;split <;> split <;> simp
def uc (hf:Fd f){N:Nat}(hn:n=24*N)(hN:N<=1000)(ha:a<n):∃R V,aN [aD f v n,.int a]=some (.dic false (ai R) V)/\Bf (bO n) v n a R R.length/\Pt (bO n) R V:=by
 have hs:yf (bO n) n:=hn ▸ cg N
 let S:List Nat->Nat->Ev->Prop:=fun R k δ=>∃V x5 x6,δ=HS (aD f v n) a R V k x5 x6/\Pt (bO n) R V
 obtain⟨M,R,δ',e,⟨V,x5,x6,rfl,hp⟩,hb⟩:=lg (v:=v) (a:=a) hs (c:=tV (az oLt (ab 4) (i8 7 [3] (ah cM (ac (ab 3) ak))))) (b:=dM) S
  (fun R k δ hk ⟨V,x5,x6,e,_⟩=>by
   subst e;have:tV (az oLt (ab 4) (i8 7 [3] (ah cM (ac (ab 3) ak)))) (HS (aD f v n) a R V k x5 x6)=some (decide ((k:Int)<((ai R).length:Nat))):=rfl;rw[this];unfold ai;rw[List.length_map];simp)
  (fun R k x δ hB hx ⟨V,x5,x6,e,hp⟩=>by
   subst e;have hxn:=hB.lt x (List.mem_of_getElem? hx);have hfew:=hB.few;have h4:=D4 n x;obtain⟨V',y6,e2,hp'⟩:=pU (v:=v) hf ha (nb:=bO n) (k:=k) (x:=x) (bO n x) R V x6 hx (fun o ho=>⟨(hs x o hxn ho).1,ho⟩) hp (by omega);refine⟨HS (aD f v n) a (grow (fun c=>decide (v c=v a)) R (bO n x)) V' (k+1) (some (.int x)) y6,?_,V',_,_,rfl,hp'⟩;unfold dM;have e1:i8 7 [3] (az bN (ab 3) (ab 4)) (HS (aD f v n) a R V k x5 x6)=some (.int x):=by
    show (bN (.lst (ai R)) (.int k)).bind (fun d=>if flat d=true then some d else none)=_;have:(ai R)[k]? = some (.int x):=by unfold ai;rw[List.getElem?_map,hx];rfl
    rw[h7 this];rfl
   rw[aw (aQ (δ':=HS (aD f v n) a R V k (some (.int x)) x6) e1 rfl)];rw[aw ((cj (xs:=ai (bO n x)) (by
    unfold br;rw[aV (x:=.int x) (y:=.int n) rfl ((av (x:=aD f v n) rfl).trans (lY f v n)),o7 hxn];rfl)).trans e2)]
   unfold HS;rw[Int.natCast_succ];rfl)
  n [a] 0 (HS (aD f v n) a [a] [.non] 0 none none) (by omega) (Bf.start ha) ⟨_,_,_,rfl,rfl,rfl,fun i x hi hx=>by
   have:([a]:List Nat)[i]? = none:=List.getElem?_eq_none (by simp;omega);rw[this] at hx;cases hx⟩
 refine⟨R,V,?_,hb,hp⟩;unfold aN Fa;rw[if_pos (show ([aD f v n,D.int (a:Int)]:List D).length=2 from rfl)];show (cy [some (aD f v n),some (.int a),none,none,none,none,none,none,none,none,none,none,none,none]).bind _=_;have:cy [some (aD f v n),some (.int a),none,none,none,none,none,none,none,none,none,none,none,none]=some (.rt (.dic false (ai R) V)):=by
  unfold cy;have sn:∀{a b:MS} {δ δ':Ev},a δ=some (.nx δ')->lB a b δ=b δ':=fun h=>by unfold lB;rw[h];rfl
  rw[sn (δ':=[some (aD f v n),some (.int a),none,none,none,none,none,none,none,some (.dic false [.int a] [.non]),none,none,none,none]) rfl];rw[sn (δ':=[some (aD f v n),some (.int a),none,none,none,none,none,none,none,some (.dic false [.int a] [.non]),some (.lst [.int a]),none,none,none]) rfl];rw[sn (δ':=HS (aD f v n) a [a] [.non] 0 none none) rfl];rw[sn (io e)];rfl
 rw[this];rfl
end
section
variable {β:Type}[DecidableEq β]
noncomputable def mn (nb:Nat->List Nat)(v:Nat->β)(c:Nat):Bool:=@decide (∀d,Hg nb v c d->c<=d) (Classical.propDecidable _)
noncomputable def out (nb:Nat->List Nat)(v:Nat->β)(n c:Nat):Bool:=@decide (Hg nb v (n-1) c) (Classical.propDecidable _)
def fD {nb:Nat->List Nat}{v:Nat->β}{c:Nat}:mn nb v c=true↔∀d,Hg nb v c d->c<=d:=by unfold mn;simp
def out_iff {nb:Nat->List Nat}{v:Nat->β}{n c:Nat}:out nb v n c=true↔Hg nb v (n-1) c:=by unfold out;simp
def sx (Gs:List (List Nat)):List D:=Gs.map fun R=>.lst (ai R)
variable {f:β->D}{v:Nat->β}{n:Nat}
structure Kn (nb:Nat->List Nat)(v:Nat->β)(n c:Nat)(K:List Nat)(KV:List D)(Gs:List (List Nat)):Prop where
 nd:K.Nodup
 lt:∀x∈K,x<n
 mem:∀x,x∈K↔(Hg nb v (n-1) x\/∃d,d<c/\Hg nb v d x)
 hds:Gs.map (fun R=>R.headD 0)=(List.range c).filter fun d=>mn nb v d && !out nb v n d
 bf:∀R∈Gs,∃a,a<n/\Bf nb v n a R R.length
def wf:∀(R K:List Nat),R.Nodup->(∀x∈R,x∉K)->nj (ai K) (ai R)=true
 | [],_,_,_=>rfl
 | o::R,K,h,hk=>by
   rw[List.nodup_cons] at h;have e:ai (o::R)=.int o::ai R:=rfl;have ea:ai K++[.int o]=ai (K++[o]):=by unfold ai;rw[List.map_append];rfl
   rw[e,nj,wL K o (hk o List.mem_cons_self),ea,wf R (K++[o]) h.2 fun x hx=>?_]
   ·rfl
   ·rw[List.mem_append,List.mem_singleton];rintro (z | z)
    ·exact hk x (List.mem_cons_of_mem _ hx) z
    ·subst z;exact h.1 hx
def wM (R:List Nat):(ai R).all isInt=true:=by
 rw[List.all_eq_true];intro q hq;unfold ai at hq;obtain⟨x,hx,rfl⟩:=List.mem_map.mp hq;rfl
def dY (R:List Nat):(ai R).length=R.length:=by unfold ai;rw[List.length_map]
abbrev BS (vs:D)(x3 x4:Option D)(K:List Nat)(KV:List D)(Gs:List (List Nat)):Ev:=[some vs,none,none,x3,x4,none,some (.dic false (ai K) KV),some (.lst (sx Gs)),none,none]
def kU {nb:Nat->List Nat}(hs:yf nb n){c:Nat}(hc:c<n):mn nb v c=true↔∀d,d<c->¬ Hg nb v d c:=by
 rw[fD];constructor
 ·intro h d hd g;have:=h d (g.symm hs (by omega));omega
 ·intro h d g;rcases Nat.lt_or_ge d c with z | z
  ·exact absurd (g.symm hs hc) (h d z)
  ·exact z
def wd {nb:Nat->List Nat}(hs:yf nb n){a b c:Nat}(ha:a<n)(hb:b<n)(h1:Hg nb v a c)(h2:Hg nb v b c):Hg nb v a b:=h1.trans (h2.symm hs hb)
def uH (hf:Fd f){N:Nat}(hn:n=24*N)(hN:N<=1000){c:Nat}(hc:c<n)(hGc:(∀Gs:List (List Nat),Gs.length<=c->Gs.length<16777216)){K:List Nat}{KV:List D}{Gs:List (List Nat)}(h:Kn (bO n) v n c K KV Gs)(x4:Option D):∃K' KV' Gs' y4,
 bK (BS (aD f v n) (some (.int c)) x4 K KV Gs)=some (.nx (BS (aD f v n) (some (.int c)) y4 K' KV' Gs'))/\Kn (bO n) v n (c+1) K' KV' Gs':=by
 have hs:yf (bO n) n:=hn ▸ cg N;have h0:n-1<n:=by omega
 have t1:tV (uM 5 1 true (ab 3)) (BS (aD f v n) (some (.int c)) x4 K KV Gs)=some (!decide (c∈K)):=by
  have e:B8 (.dic false (ai K) KV) (.int c)=some (decide (c∈K)):=by
   show some ((ai K).any fun q=>bP q (.int c))=_;rw[qD]
  show ((B8 (.dic false (ai K) KV) (.int c)).bind fun b=>some (.bl (b != true))).bind truth=_;rw[e];cases decide (c∈K) <;> rfl
 by_cases hk:c∈K
 ·refine⟨K,KV,Gs,x4,?_,h.nd,h.lt,fun x=>?_,?_,h.bf⟩
  ·unfold bK;rw[xL (by rw[t1];simp[hk])];rfl
  ·rw[h.mem];constructor
   ·rintro (z | ⟨d,hd,z⟩)
    ·exact .inl z
    ·exact .inr ⟨d,by omega,z⟩
   ·rintro (z | ⟨d,hd,z⟩)
    ·exact .inl z
    ·by_cases hdc:d=c
     ·subst hdc;rcases (h.mem d).mp hk with q | ⟨e,he,q⟩
      ·exact .inl (q.trans z)
      ·exact .inr ⟨e,he,q.trans z⟩
     ·exact .inr ⟨d,by omega,z⟩
  ·rw[List.range_succ,List.filter_append,h.hds];have:(mn (bO n) v c && !out (bO n) v n c)=false:=by
    rcases (h.mem c).mp hk with q | ⟨e,he,q⟩
    ·rw[out_iff.mpr q];simp
    ·have:mn (bO n) v c=false:=by
      cases hm:mn (bO n) v c with
      | false=>rfl
      | true=>exact absurd q ((kU hs hc).mp hm e he)
     rw[this];rfl
   simp[this]
 ·obtain⟨R,V,e,hB,hP⟩:=uc (v:=v) hf hn hN hc;have hdis:∀x∈R,x∉K:=fun x hx hxk=>hk ((h.mem c).mpr (by
   have hcx:=hB.hg x hx;rcases (h.mem x).mp hxk with q | ⟨d,hd,q⟩
   ·exact .inl (wd hs h0 hc q hcx)
   ·exact .inr ⟨d,hd,wd hs (by omega) hc q hcx⟩))
  have hmn:(mn (bO n) v c && !out (bO n) v n c)=true:=by
   rw[Bool.and_eq_true];refine⟨(kU hs hc).mpr fun d hd g=>hk ((h.mem c).mpr (.inr ⟨d,hd,g⟩)),?_⟩;cases ho:out (bO n) v n c with
   | false=>rfl
   | true=>exact absurd ((h.mem c).mpr (.inl (out_iff.mp ho))) hk
  have hcat:(K++R).Nodup:=by
   rw[List.nodup_append];exact⟨h.nd,hB.nd,fun a ha b hb z=>hdis b hb (z ▸ ha)⟩
  have hclt:∀x∈K++R,x<n:=fun x hx=>by
   rcases List.mem_append.mp hx with z | z
   ·exact h.lt x z
   ·exact hB.lt x z
  have hfew:=j8 n _ hcat hclt;rw[List.length_append] at hfew;have hGl:Gs.length<=c:=by
   have:=congrArg List.length h.hds;rw[List.length_map] at this;rw[this];have:=List.length_filter_le (fun d=>mn (bO n) v d && !out (bO n) v n d) (List.range c);rw[List.length_range] at this;exact this
  refine⟨K++R,KV++V,Gs++[R],some (.dic false (ai R) V),?_,hcat,hclt,fun x=>?_,?_,?_⟩
  ·unfold bK;rw[Ef (by rw[t1];simp[hk])];have eo:du 5 4 (ah aN (ac (ab 0) (ac (ab 3) ak))) (BS (aD f v n) (some (.int c)) x4 K KV Gs)=some (.nx [some (aD f v n),none,none,some (.int c),none,none,some (.dic false (ai K) KV),some (.lst (sx Gs)),none,some (.dic false (ai R) V)]):=by
    unfold du;rw[aV (x:=aD f v n) (y:=.int c) rfl rfl,e];rfl
   rw[aw eo];show aJ (Bv 5 1 (ab 4)) (kN 5 2 (kF rc (ab 4))) [some (aD f v n),none,none,some (.int c),some (.dic false (ai R) V),none,some (.dic false (ai K) KV),some (.lst (sx Gs)),none,none]=_;have eu:Bv 5 1 (ab 4) [some (aD f v n),none,none,some (.int c),some (.dic false (ai R) V),none,some (.dic false (ai K) KV),some (.lst (sx Gs)),none,none]=some (.nx [some (aD f v n),none,none,some (.int c),some (.dic false (ai R) V),none,some (.dic false (ai K++ai R) (KV++V)),some (.lst (sx Gs)),none,none]):=by
    show (if nj (ai K) (ai R)=true/\((ai R).all isInt)=true/\(ai K).length+(ai R).length<=16777216 then _ else _)=_;rw[if_pos ⟨wf R K hB.nd hdis,wM R,by rw[dY,dY];omega⟩];rfl
   rw[aw eu];unfold kN;have ek:kF rc (ab 4) [some (aD f v n),none,none,some (.int c),some (.dic false (ai R) V),none,some (.dic false (ai K++ai R) (KV++V)),some (.lst (sx Gs)),none,none]=some (.lst (ai R)):=by
    show (if ((ai R).all isInt)=true/\(ai R).length<=16777216 then _ else _)=_;rw[if_pos ⟨wM R,by rw[dY];omega⟩]
   rw[ek];show (if (sx Gs).length<16777216 then _ else _)=_;rw[if_pos (by unfold sx;rw[List.length_map];exact hGc Gs hGl)];have e1:ai K++ai R=ai (K++R):=by unfold ai;rw[List.map_append]
   have e2:sx Gs++[.lst (ai R)]=sx (Gs++[R]):=by unfold sx;rw[List.map_append];rfl
   unfold BS;rw[<-e1,<-e2];rfl
  ·rw[List.mem_append,h.mem,hB.mem];constructor
   ·rintro ((z | ⟨d,hd,z⟩) | z)
    ·exact .inl z
    ·exact .inr ⟨d,by omega,z⟩
    ·exact .inr ⟨c,by omega,z⟩
   ·rintro (z | ⟨d,hd,z⟩)
    ·exact .inl (.inl z)
    ·by_cases hdc:d=c
     ·subst hdc;exact .inr z
     ·exact .inl (.inr ⟨d,by omega,z⟩)
  ·rw[List.range_succ,List.filter_append,List.map_append,h.hds];have hh:R.headD 0=c:=by
    have:=hB.hd;cases R with
    | nil=>cases this
    | cons b R=>cases this;rfl
   simp only[List.map_cons,List.map_nil,hh,List.filter_cons,hmn,if_true,List.filter_nil]
  ·intro Q hQ;rcases List.mem_append.mp hQ with z | z
   ·exact h.bf Q z
   ·rw[List.mem_singleton] at z;subst z;exact⟨c,hc,hB⟩
def kE (hf:Fd f){N:Nat}(hn:n=24*N)(hN:N<=1000):∀(m c:Nat) (x3 x4:Option D) (K:List Nat) (KV:List D) (Gs:List (List Nat)),c+m=n->Kn (bO n) v n c K KV Gs->∃K' KV' Gs' y3 y4,
 cF (gN 3) bK (ai (List.range' c m)) (BS (aD f v n) x3 x4 K KV Gs)=some (.nx (BS (aD f v n) y3 y4 K' KV' Gs'))/\Kn (bO n) v n n K' KV' Gs'
 | 0,c,x3,x4,K,KV,Gs,hm,h=>⟨K,KV,Gs,x3,x4,rfl,by rw[Nat.add_zero] at hm;exact hm ▸ h⟩
 | m+1,c,x3,x4,K,KV,Gs,hm,h=>by
   obtain⟨K1,KV1,Gs1,z4,e1,h1⟩:=uH hf hn hN (c:=c) (by omega) (fun Gs hG=>by omega) h x4;obtain⟨K',KV',Gs',y3,y4,e2,h2⟩:=kE hf hn hN m (c+1) (some (.int c)) z4 K1 KV1 Gs1 (by omega) h1;refine⟨K',KV',Gs',y3,y4,?_,h2⟩;rw[List.range'_succ];have e0:ai (c::List.range' (c+1) m)=.int c::ai (List.range' (c+1) m):=rfl;rw[e0,cP (δ1:=BS (aD f v n) (some (.int c)) x4 K KV Gs) rfl e1,e2]
def yZ (hf:Fd f){N:Nat}(hn:n=24*N)(hN:N<=1000)(h1:1<=N):∃Gs,cD [aD f v n]=some (.lst (sx Gs))/\Gs.map (fun R=>R.headD 0)=((List.range n).filter fun d=>mn (bO n) v d && !out (bO n) v n d)/\∀R∈Gs,∃a,a<n/\Bf (bO n) v n a R R.length:=by
 have h0:n-1<n:=by omega
 obtain⟨R,V,e,hB,hP⟩:=uc (v:=v) hf hn hN h0;obtain⟨K',KV',Gs',y3,y4,e2,h2⟩:=kE (v:=v) hf hn hN n 0 none none R V [] (by omega) ⟨hB.nd,hB.lt,fun x=>by
  rw[hB.mem];exact⟨.inl,fun z=>by
   rcases z with z | ⟨d,hd,_⟩
   ·exact z
   ·omega⟩,rfl,fun R hR=>by cases hR⟩
 refine⟨Gs',?_,h2.hds,h2.bf⟩;refine bW rfl ?_;show cK [some (aD f v n),none,none,none,none,none,none,none,none,none]=_;unfold cK;have e1:az jw (ah cM (ac (ab 0) ak)) (eC (.int 1)) [some (aD f v n),none,none,none,none,none,none,none,none,none]=some (.int ((n-1:Nat):Int)):=by
  rw[aZ ((av (x:=aD f v n) rfl).trans (lY f v n)) (y:=.int 1) rfl,Int.ofNat_sub (by omega)];rfl
 have eo:du 5 1 (ah aN (ac (ab 0) (ac (az jw (ah cM (ac (ab 0) ak)) (eC (.int 1))) ak))) [some (aD f v n),none,none,none,none,none,none,none,none,none]=some (.nx [some (aD f v n),none,none,none,none,none,some (.dic false (ai R) V),none,none,none]):=by
  unfold du;rw[aV (x:=aD f v n) rfl e1,e];rfl
 rw[aw eo];rw[aw (δ':=BS (aD f v n) none none R V []) rfl];have hi:cv (ah cM (ac (ab 0) ak)) (BS (aD f v n) none none R V [])=some (ai (List.range' 0 n)):=by
  have:=ip (n:=n) ((av (x:=aD f v n) rfl).trans (lY f v n):ah cM (ac (ab 0) ak) (BS (aD f v n) none none R V [])=_) (by omega);rw[this,<-List.range_eq_range'];rfl
 rw[aw ((cj hi).trans e2)];rfl
end
def mJ (r:Nat):∀(E:List Nat),E.Pairwise (·<·)->∀j,j<E.length->(E.getD j 0<=r↔j<E.countP fun x=>decide (x<=r))
 | [],_,j,h=>by simp at h
 | e::es,hE,j,h=>by
   obtain⟨h1,h2⟩:=List.pairwise_cons.mp hE;rw[List.countP_cons];by_cases he:e<=r
   ·simp only[he,decide_true,if_true];cases j with
    | zero=>simp[he]
    | succ j =>
      have:=mJ r es h2 j (by simpa using h);rw[List.getD_cons_succ,this];omega
   ·have hz:es.countP (fun x=>decide (x<=r))=0:=by
     rw[List.countP_eq_zero];intro x hx;have:=h1 x hx;simp;omega
    have hx:(if decide (e<=r)=true then 1 else 0)=0:=by simp[he]
    rw[hz,hx];have:e<=(e::es).getD j 0:=by
     cases j with
     | zero=>simp
     | succ j =>
       rw[List.getD_cons_succ];have hj:j<es.length:=by simpa using h
       have:es.getD j 0∈es:=by
        rw[List.getD_eq_getElem?_getD,List.getElem?_eq_getElem hj];exact List.getElem_mem hj
       have:=h1 _ this;omega
    omega
section
variable {β:Type}[DecidableEq β]
structure Bd (E:List Nat)(val:Nat->Nat->β)(N:Nat):Prop where
 ris:E.Pairwise (·<·)
 pos:0<E.length
 zero:E.getD 0 0=0
 lt:∀b,b<E.length->E.getD b 0<N
 bc:∀b r t,b<E.length->E.getD b 0<=r->(b+1<E.length->r<E.getD (b+1) 0)->val r t=val (E.getD b 0) t
variable {E:List Nat}{val:Nat->Nat->β}{N:Nat}
noncomputable def bo (E:List Nat)(r:Nat):Nat:=(E.countP fun x=>decide (x<=r))-1
def Bd.mono (h:Bd E val N){a b:Nat}(hab:a<b)(hb:b<E.length):E.getD a 0<E.getD b 0:=by
 have:=List.pairwise_iff_getElem.mp h.ris a b (by omega) hb hab;simpa[show a<E.length by omega,hb] using this
def Bd.cnt (h:Bd E val N)(r:Nat):1<=(E.countP fun x=>decide (x<=r)):=(mJ r E h.ris 0 h.pos).mp (by rw[h.zero];omega)
def Bd.bo_lt (h:Bd E val N)(r:Nat):bo E r<E.length:=by
 have:=List.countP_le_length (p:=fun x=>decide (x<=r)) (l:=E);have:=h.cnt r;unfold bo;omega
def Bd.le_bo (h:Bd E val N){r j:Nat}(hj:j<E.length):E.getD j 0<=r↔j<=bo E r:=by
 rw[mJ r E h.ris j hj];have:=h.cnt r;unfold bo;omega
def Bd.bo_le (h:Bd E val N)(r:Nat):E.getD (bo E r) 0<=r:=(h.le_bo (h.bo_lt r)).mpr (Nat.le_refl _)
def Bd.bo_next (h:Bd E val N){r:Nat}(hn:bo E r+1<E.length):r<E.getD (bo E r+1) 0:=by
 rcases Nat.lt_or_ge r (E.getD (bo E r+1) 0) with z | z
 ·exact z
 ·have:=(h.le_bo hn).mp z;omega
def Bd.bo_at (h:Bd E val N){b:Nat}(hb:b<E.length):bo E (E.getD b 0)=b:=by
 have h1:=(h.le_bo (r:=E.getD b 0) hb).mp (Nat.le_refl _);have h2:=h.bo_le (E.getD b 0);have h3:=h.bo_lt (E.getD b 0);rcases Nat.lt_or_ge b (bo E (E.getD b 0)) with z | z
 ·have:=h.mono z h3;omega
 ·omega
def Bd.bo_val (h:Bd E val N)(r t:Nat):val r t=val (E.getD (bo E r) 0) t:=h.bc _ r t (h.bo_lt r) (h.bo_le r) h.bo_next
noncomputable def uv (val:Nat->Nat->β)(c:Nat):β:=val (c / 24) (c % 24)
noncomputable def vv (E:List Nat)(val:Nat->Nat->β)(c:Nat):β:=val (E.getD (c / 24) 0) (c % 24)
def ph (E:List Nat)(c:Nat):Nat:=24*bo E (c / 24)+c % 24
noncomputable def ps (E:List Nat)(c:Nat):Nat:=24*E.getD (c / 24) 0+c % 24
def zg (c:Nat):ps E c / 24=E.getD (c / 24) 0:=by unfold ps;omega
def zf (c:Nat):ps E c % 24=c % 24:=by unfold ps;omega
def uj (c:Nat):ph E c / 24=bo E (c / 24):=by unfold ph;omega
def ui (c:Nat):ph E c % 24=c % 24:=by unfold ph;omega
def rb (c:Nat):uv val (ps E c)=vv E val c:=by unfold uv vv;rw[zg,zf]
def Bd.vv_ph (h:Bd E val N)(c:Nat):vv E val (ph E c)=uv val c:=by unfold uv vv;rw[uj,ui,<-h.bo_val]
def Bd.ps_lt (h:Bd E val N){c:Nat}(hc:c<24*E.length):ps E c<24*N:=by
 have:=h.lt (c / 24) (by omega);unfold ps;omega
def Bd.ph_lt (h:Bd E val N)(c:Nat):ph E c<24*E.length:=by
 have:=h.bo_lt (c / 24);unfold ph;omega
def Bd.ph_ps (h:Bd E val N){c:Nat}(hc:c<24*E.length):ph E (ps E c)=c:=by
 unfold ph;rw[zg,zf,h.bo_at (by omega)];omega
def Bd.ps_ph (h:Bd E val N)(c:Nat):ps E (ph E c)<=c:=by
 have:=h.bo_le (c / 24);unfold ps;rw[uj,ui];omega
def Bd.ps_mono (h:Bd E val N){a b:Nat}(hab:a<b)(hb:b<24*E.length):ps E a<ps E b:=by
 unfold ps;rcases Nat.lt_or_ge (a / 24) (b / 24) with z | z
 ·have:=h.mono z (by omega);omega
 ·have:a / 24=b / 24:=by omega
  rw[this];omega
def lJ {val:Nat->Nat->β}{N t a:Nat}(ht:t<24):∀k,a+k<N->(∀r,a<=r->r<=a+k->val r t=val a t)->Hg (bO (24*N)) (uv val) (24*a+t) (24*(a+k)+t)
 | 0,_,_=>.refl
 | k+1,hN,hv=>by
   have ih:=lJ (val:=val) (N:=N) (a:=a) ht k (by omega) fun r h1 h2=>hv r h1 (by omega);refine Hg.step (b:=24*(a+k)+t) (c:=24*(a+(k+1))+t) ih (nb_mem.mpr (.inr (.inr (.inl ⟨by omega,by omega⟩)))) ?_;unfold uv;rw[show (24*(a+(k+1))+t) / 24=a+(k+1) by omega,show (24*(a+(k+1))+t) % 24=t by omega,show (24*(a+k)+t) / 24=a+k by omega,show (24*(a+k)+t) % 24=t by omega,hv _ (by omega) (by omega),hv (a+k) (by omega) (by omega)]
def Bd.inner (h:Bd E val N){c:Nat}(hc:c<24*N):Hg (bO (24*N)) (uv val) (ps E (ph E c)) c:=by
 have h1:=h.bo_le (c / 24);have:=lJ (val:=val) (N:=N) (t:=c % 24) (a:=E.getD (bo E (c / 24)) 0) (Nat.mod_lt _ (by decide)) (c / 24-E.getD (bo E (c / 24)) 0) (by omega) fun r h2 h3=>h.bc _ r _ (h.bo_lt _) h2 fun hn=>by
  have:=h.bo_next hn;omega
 rw[show 24*(E.getD (bo E (c / 24)) 0+(c / 24-E.getD (bo E (c / 24)) 0))+c % 24=c by omega] at this;unfold ps;rw[uj,ui];exact this
def Bd.up (h:Bd E val N){c:Nat}(hc:c+24<24*E.length)(hv:vv E val (c+24)=vv E val c):Hg (bO (24*N)) (uv val) (ps E c) (ps E (c+24)):=by
 have hb:c / 24+1<E.length:=by omega
 have hm:=h.mono (show c / 24<c / 24+1 by omega) hb;have hl:=h.lt _ hb;have:=lJ (val:=val) (N:=N) (t:=c % 24) (a:=E.getD (c / 24) 0) (Nat.mod_lt _ (by decide)) (E.getD (c / 24+1) 0-E.getD (c / 24) 0) (by omega) fun r h2 h3=>by
  rcases Nat.lt_or_ge r (E.getD (c / 24+1) 0) with z | z
  ·exact h.bc _ r _ (by omega) h2 fun _=>z
  ·have:r=E.getD (c / 24+1) 0:=by omega
   subst this;unfold vv at hv;rw[show (c+24) / 24=c / 24+1 by omega,show (c+24) % 24=c % 24 by omega] at hv;exact hv
 rw[show E.getD (c / 24) 0+(E.getD (c / 24+1) 0-E.getD (c / 24) 0)=E.getD (c / 24+1) 0 by omega] at this;unfold ps;rw[show (c+24) / 24=c / 24+1 by omega,show (c+24) % 24=c % 24 by omega];exact this
def Bd.fine (h:Bd E val N){a b:Nat}(ha:a<24*E.length)(g:Hg (bO (24*E.length)) (vv E val) a b):Hg (bO (24*N)) (uv val) (ps E a) (ps E b):=by
 induction g with
 | refl=>exact .refl
 | @step b c g m e ih =>
   have hb:=g.lt (cg _) ha;refine ih.trans ?_;rcases nb_mem.mp m with z | z | ⟨z,hz⟩ | ⟨hz,z⟩
   ·refine .step .refl (nb_mem.mpr (.inl ?_)) (by rw[rb,rb,e]);subst z;unfold ps qB;rw[show (b-b % 24+(b % 24+1) % 24) / 24=b / 24 by omega];omega
   ·refine .step .refl (nb_mem.mpr (.inr (.inl ?_))) (by rw[rb,rb,e]);subst z;unfold ps qC;rw[show (b-b % 24+(b % 24+23) % 24) / 24=b / 24 by omega];omega
   ·subst z;exact h.up hz e
   ·subst z;have:=h.up (c:=b-24) (by omega) (by rw[Nat.sub_add_cancel hz];exact e.symm);rw[Nat.sub_add_cancel hz] at this;exact this.symm (cg _) (h.ps_lt (by omega))
def Bd.bo_up (h:Bd E val N)(r:Nat):bo E (r+1)=bo E r\/(bo E (r+1)=bo E r+1):=by
 have h1:bo E r<=bo E (r+1):=(h.le_bo (h.bo_lt r)).mp (by have:=h.bo_le r;omega);rcases Nat.lt_or_ge (bo E r+1) (bo E (r+1)) with z | z
 ·have h3:=h.bo_lt (r+1);have a1:=h.bo_next (r:=r) (by omega);have a2:=h.mono z h3;have a3:=h.bo_le (r+1);omega
 ·omega
def Bd.coarse (h:Bd E val N){a b:Nat}(ha:a<24*N)(g:Hg (bO (24*N)) (uv val) a b):Hg (bO (24*E.length)) (vv E val) (ph E a) (ph E b):=by
 induction g with
 | refl=>exact .refl
 | @step b c g m e ih =>
   have hb:=g.lt (cg _) ha;refine ih.trans ?_;have ev:vv E val (ph E c)=vv E val (ph E b):=by rw[h.vv_ph,h.vv_ph,e]
   rcases nb_mem.mp m with z | z | ⟨z,hz⟩ | ⟨hz,z⟩
   ·refine .step .refl (nb_mem.mpr (.inl ?_)) ev;subst z;unfold ph qB;rw[show (b-b % 24+(b % 24+1) % 24) / 24=b / 24 by omega];omega
   ·refine .step .refl (nb_mem.mpr (.inr (.inl ?_))) ev;subst z;unfold ph qC;rw[show (b-b % 24+(b % 24+23) % 24) / 24=b / 24 by omega];omega
   ·subst z;have hp:ph E (b+24)=24*bo E (b / 24+1)+b % 24:=by
     unfold ph;rw[show (b+24) / 24=b / 24+1 by omega,show (b+24) % 24=b % 24 by omega]
    have hl:=h.ph_lt (b+24);rcases h.bo_up (b / 24) with q | q
    ·have:ph E (b+24)=ph E b:=by rw[hp,q];rfl
     rw[this];exact .refl
    ·have:ph E (b+24)=ph E b+24:=by rw[hp,q];unfold ph;omega
     rw[this] at ev hl ⊢;exact .step .refl (nb_mem.mpr (.inr (.inr (.inl ⟨rfl,hl⟩)))) ev
   ·subst z;have hp:ph E b=24*bo E ((b-24) / 24+1)+b % 24:=by
     unfold ph;rw[show b / 24=(b-24) / 24+1 by omega]
    have hq:ph E (b-24)=24*bo E ((b-24) / 24)+b % 24:=by
     unfold ph;rw[show (b-24) % 24=b % 24 by omega]
    rcases h.bo_up ((b-24) / 24) with q | q
    ·have:ph E (b-24)=ph E b:=by rw[hp,hq,q]
     rw[this];exact .refl
    ·have:ph E b=ph E (b-24)+24:=by rw[hp,hq,q];omega
     exact .step .refl (nb_mem.mpr (.inr (.inr (.inr ⟨by omega,by omega⟩)))) ev
def Bd.mn_fine (h:Bd E val N){c:Nat}(hc:c<24*N):mn (bO (24*N)) (uv val) c=true↔ps E (ph E c)=c/\mn (bO (24*E.length)) (vv E val) (ph E c)=true:=by
 rw[fD,fD];constructor
 ·intro hm;have h1:=hm _ ((h.inner hc).symm (cg _) (h.ps_lt (h.ph_lt c)));have h2:=h.ps_ph c;have h3:ps E (ph E c)=c:=by omega
  refine⟨h3,fun d g=>?_⟩;have hd:=g.lt (cg _) (h.ph_lt c);have:=h.fine (h.ph_lt c) g;rw[h3] at this;have h4:=hm _ this;rcases Nat.lt_or_ge d (ph E c) with z | z
  ·have:=h.ps_mono z (h.ph_lt c);omega
  ·exact z
 ·rintro⟨h3,hm⟩ d g;have hd:=g.lt (cg _) hc;have h4:=hm _ (h.coarse hc g);have h5:=h.ps_ph d;rcases Nat.lt_or_ge (ph E c) (ph E d) with z | z
  ·have:=h.ps_mono z (h.ph_lt d);omega
  ·have:ph E c=ph E d:=by omega
   rw[<-h3,this];exact h5
def Bd.mn_coarse (h:Bd E val N){c:Nat}(hc:c<24*E.length):mn (bO (24*N)) (uv val) (ps E c)=mn (bO (24*E.length)) (vv E val) c:=by
 rw[Bool.eq_iff_iff,h.mn_fine (h.ps_lt hc),h.ph_ps hc];simp
end
end DL.Pg
namespace DL.Lw
open PySem DL DL.Pg
def jb:MS:=(bM (az oMod (az oMod (az bQ (ab 0) (eC (.int 48271))) (ab 1)) (ab 2)))
def aK:MF:=fJ 3 3 jb
def eT:MS:=(aJ (bp (ah aK (ac (ab 0) (ac (eC (.int 9973)) (ac (ab 1) ak)))) (gN 2))
 (aJ (bp (az bG (az bG (ab 2) (eC (.int 1))) (ah aK (ac (ab 0) (ac (eC (.int 9967)) (ac (az jw (ab 1) (ab 2)) ak))))) (gN 3))
 (aJ (bp (az bG (eC (.int 1)) (ah aK (ac (ab 0) (ac (eC (.int 9949)) (ac (eC (.int 24)) ak))))) (gN 4))
 (aJ (qP (tV (az oEq (az oMod (ab 0) (eC (.int 4))) (eC (.int 0)))) (bp (eC (.int 24)) (gN 4)) iF)
 (bM (cG (ac (ab 2) (ac (ab 3) (ac (ah aK (ac (ab 0) (ac (eC (.int 9941)) (ac (eC (.int 24)) ak)))) (ac (ab 4) ak))))))))))
def cE:MF:=fJ 2 5 eT
def jR:MS:=(bM (ah fc (ac (bq 1 [1,0] (cv (ah aK (ac (ab 0) (ac (eC (.int 9931)) (ac (az bG (ab 2) (eC (.int 1))) ak))))) (gN 0) tT (ah cE (ac (az bG (ab 2) (az bQ (eC (.int 11)) (ab 0))) (ac (ab 1) ak)))) ak)))
def gn:MF:=fJ 3 3 jR
def gB:MS:=(aJ (bp (ab 0) (gT (be (gN 3) (be (gN 4) (be (gN 5) (be (gN 6) eg))))))
 (aJ (qP (Bl (tV (az oLt (az bN (ab 1) (eC (.int 0))) (az bQ (ab 3) (az bN (ab 1) (eC (.int 1)))))) (tV (az Gk (az bN (ab 1) (eC (.int 0))) (az bQ (ab 4) (az bN (ab 1) (eC (.int 1))))))) (bM (eC (.bl false))) iF)
 (bM (az oLt (az oMod (az jw (az bN (ab 2) (eC (.int 0))) (az bQ (ab 5) (az bN (ab 2) (eC (.int 1))))) (az bQ (eC (.int 24)) (az bN (ab 2) (eC (.int 1))))) (az bQ (ab 6) (az bN (ab 2) (eC (.int 1))))))))
def dJ:MF:=fJ 3 7 gB
def iX:MS:=(bM (ah fc (ac (bq 2 [1] (mq (ab 0)) (gT (be (gN 0) (be (gN 1) eg))) (tV (ah dJ (ac (ab 1) (ac (az bN (ab 2) (eC (.int 0))) (ac (az bN (ab 2) (eC (.int 1))) ak))))) (ab 0)) ak)))
def dP:MF:=fJ 2 2 iX
def dF:MS:=(rp 5 2 (cG (ac (ab 3) (ac (ab 4) ak))) (ah dP (ac (ab 0) (ac (cG (ac (cG (ac (az bG (az bQ (eC (.int 2)) (ab 3)) (eC (.int 1))) (ac (eC (.int 2)) ak))) (ac (cG (ac (az bG (az bQ (eC (.int 2)) (ab 4)) (eC (.int 1))) (ac (eC (.int 2)) ak))) ak))) ak))))
def fg:MS:=(gQ (cv (eC (.int 24))) (gN 4)
 dF)
def eU:MS:=(aJ (du 5 2 (eC (.dic true [] [])))
 (aJ (gQ (cv (az bG (ab 1) (eC (.int 1)))) (gN 3)
 fg)
 (nH 5 2 (bM (ab 2)))))
def eF:MF:=fJ 2 10 eU
noncomputable def df (c p m:Int):Int:=c*48271 % p % m
def lD {c p m:Int}(hp:0<p)(hm:0<m):aK [.int c,.int p,.int m]=some (.int (df c p m)):=by
 simp[aK,fJ,jb,bM,az,ab,slot,eC,oMod,oI,bQ,small,hp,hm,df]
def bE {c p m:Int}(hm:0<m):0<=df c p m/\df c p m<m:=⟨Int.emod_nonneg _ (by omega),Int.emod_lt_of_pos _ hm⟩
def pA (c M:Int):Pc:=⟨(df c 9973 M).toNat,(df c 9973 M+1+df c 9967 (M-df c 9973 M)).toNat,(df c 9941 24).toNat,(if c % 4=0 then 24 else 1+df c 9949 24).toNat⟩
def FG (c M:Int)(h1:1<=M)(h9:M<=999):(pA c M).ok/\((pA c M).o:Int)<=M:=by
 have q1:=bE (c:=c) (p:=9973) (m:=M) (by omega);have q2:=bE (c:=c) (p:=9967) (m:=M-df c 9973 M) (by omega);have q3:=bE (c:=c) (p:=9941) (m:=24) (by decide);have q4:=bE (c:=c) (p:=9949) (m:=24) (by decide);unfold Pc.ok pA;simp only;refine⟨⟨by omega,by omega,by omega,?_,?_⟩,by omega⟩ <;> (split <;> omega)
def GL (c M:Int)(h1:1<=M):pD (pA c M)=.tup [.int (df c 9973 M),.int (df c 9973 M+1+df c 9967 (M-df c 9973 M)),.int (df c 9941 24),.int (if c % 4=0 then 24 else 1+df c 9949 24)]:=by
 have q1:=bE (c:=c) (p:=9973) (m:=M) (by omega);have q2:=bE (c:=c) (p:=9967) (m:=M-df c 9973 M) (by omega);have q3:=bE (c:=c) (p:=9941) (m:=24) (by decide);have q4:=bE (c:=c) (p:=9949) (m:=24) (by decide);unfold pD pA;simp only;rw[Int.toNat_of_nonneg q1.1,Int.toNat_of_nonneg q3.1,Int.toNat_of_nonneg (by omega),Int.toNat_of_nonneg (by split <;> omega)]
def Bz (c M:Int)(h1:1<=M):cE [.int c,.int M]=some (pD (pA c M)):=by
 have q1:=bE (c:=c) (p:=9973) (m:=M) (by omega);have e1:aK [.int c,.int 9973,.int M]=some (.int (df c 9973 M)):=lD (by decide) (by omega);have e2:aK [.int c,.int 9967,.int (M-df c 9973 M)]=some (.int (df c 9967 (M-df c 9973 M))):=lD (by decide) (by omega);have e3:aK [.int c,.int 9941,.int 24]=some (.int (df c 9941 24)):=lD (by decide) (by decide);have e4:aK [.int c,.int 9949,.int 24]=some (.int (df c 9949 24)):=lD (by decide) (by decide);rw[GL c M h1];by_cases h:c % 4=0
 ·simp[cE,fJ,eT,aJ,bp,qP,bM,az,ab,slot,eC,ah,ac,ak,gN,bG,jw,oI,oMod,oEq,bg,bP,tV,truth,iF,cG,e1,e2,e3,e4,h]
 ·simp[cE,fJ,eT,aJ,bp,qP,bM,az,ab,slot,eC,ah,ac,ak,gN,bG,jw,oI,oMod,oEq,bg,bP,tV,truth,iF,cG,e1,e2,e3,e4,h]
def pf (c M:Int):D->D
 | .int k=>pD (pA (c+11*k) M)
 | d=>d
def E9 (c M:Int)(n:Nat):List Pc:=(List.range (df c 9931 (n+1)).toNat).map fun (k:Nat)=>pA (c+11*(k:Int)) M
def Fu (c M:Int)(n:Nat)(h1:1<=M)(h9:M<=999):(E9 c M n).length<=n/\∀p∈E9 c M n,p.ok/\(p.o:Int)<=M:=by
 have q:=bE (c:=c) (p:=9931) (m:=(n:Int)+1) (by omega);unfold E9;refine⟨by rw[List.length_map,List.length_range];omega,fun p hp=>?_⟩;obtain⟨k,_,rfl⟩:=List.mem_map.mp hp;exact FG _ _ h1 h9
def By (c M:Int)(n:Nat)(h1:1<=M)(hn:n<=1000):gn [.int c,.int M,.int n]=some (bD (E9 c M n)):=by
 have hm:=bE (c:=c) (p:=9931) (m:=(n:Int)+1) (by omega);have e1:aK [.int c,.int 9931,.int ((n:Int)+1)]=some (.int (df c 9931 ((n:Int)+1))):=lD (by decide) (by omega);have hi:cv (ah aK (ac (ab 0) (ac (eC (.int 9931)) (ac (az bG (ab 2) (eC (.int 1))) ak)))) [some (.int c),some (.int M),some (.int (n:Int))]=some (cf (df c 9931 ((n:Int)+1)).toNat) :=
  rE ((f6 (x:=.int c) (y:=.int 9931) (z:=.int ((n:Int)+1)) rfl rfl rfl).trans e1) ⟨by omega,by omega⟩
 have hc:=bL (k:=1) (fv:=[1,0]) (g:=gN 0) (c:=tT) (e:=ah cE (ac (az bG (ab 2) (az bQ (eC (.int 11)) (ab 0))) (ac (ab 1) ak))) (fun x=>some (pf c M x)) hi (by simp[cf];omega) fun x hx=>by
  obtain⟨k,_,rfl⟩:=nM hx;refine⟨[some (.int k),some (.int M),some (.int c)],rfl,.inl ⟨rfl,pD (pA (c+11*k) M),?_,rfl⟩⟩;have em:∀k:Int,bQ (.int 11) (.int k)=some (.int (11*k)):=fun k=>by simp[bQ,small]
  exact(aV (x:=.int (c+11*k)) (y:=.int M) ((aZ (x:=.int c) (y:=.int (11*k)) rfl ((aZ (x:=.int 11) (y:=.int k) rfl rfl).trans (em _))).trans rfl) rfl).trans (Bz _ _ h1)
 refine bW rfl (bA ((av hc).trans ?_));rw[List.filterMap_eq_map'];simp[fc,cf,E9,bD,pf,Function.comp_def]
def sm (i:Int):Prop := -1000000<i/\i<1000000
def gK {i:Int}(h:sm i):small i=true:=by
 unfold small sm at *;simp only[Bool.and_eq_true,decide_eq_true_eq];omega
noncomputable def Cb (i o b w u l v k:Int):Bool:=decide (i*l<=u/\u<o*l)&&decide ((v-b*k) % (24*k)<w*k)
def bY {i j:Int}(h:small i=true):bQ (.int i) (.int j)=some (.int (i*j)):=by simp[bQ,h]
def ua {i o b w u l v k:Int}(hi:sm i)(ho:sm o)(hb:sm b)(hw:sm w)(hk:0<k):dJ [.tup [.int i,.int o,.int b,.int w],.tup [.int u,.int l],.tup [.int v,.int k]]=some (.bl (Cb i o b w u l v k)):=by
 have em1:bQ (.int i) (.int l)=some (.int (i*l)):=bY (gK hi);have em2:bQ (.int o) (.int l)=some (.int (o*l)):=bY (gK ho);have em3:bQ (.int b) (.int k)=some (.int (b*k)):=bY (gK hb);have em4:bQ (.int 24) (.int k)=some (.int (24*k)):=bY (by decide);have em5:bQ (.int w) (.int k)=some (.int (w*k)):=bY (gK hw);refine bW rfl ?_;show gB [some (.tup [.int i,.int o,.int b,.int w]),some (.tup [.int u,.int l]),some (.tup [.int v,.int k]),none,none,none,none]=_;unfold gB;rw[aw (aQ (d:=.tup [.int i,.int o,.int b,.int w]) (δ':=[some (.tup [.int i,.int o,.int b,.int w]),some (.tup [.int u,.int l]),some (.tup [.int v,.int k]),some (.int i),some (.int o),some (.int b),some (.int w)]) rfl rfl)];have t0:Bl (tV (az oLt (az bN (ab 1) (eC (.int 0))) (az bQ (ab 3) (az bN (ab 1) (eC (.int 1)))))) (tV (az Gk (az bN (ab 1) (eC (.int 0))) (az bQ (ab 4) (az bN (ab 1) (eC (.int 1))))))
  [some (.tup [.int i,.int o,.int b,.int w]),some (.tup [.int u,.int l]),some (.tup [.int v,.int k]),some (.int i),some (.int o),some (.int b),some (.int w)]=some (decide (u<i*l)||decide (o*l<=u)):=by
  refine tR (iI (d:=.bl _) ((aZ (x:=.int u) (y:=.int (i*l)) rfl ((aZ (x:=.int i) (y:=.int l) rfl rfl).trans em1)).trans rfl) rfl) (iI (d:=.bl _) ((aZ (x:=.int u) (y:=.int (o*l)) rfl ((aZ (x:=.int o) (y:=.int l) rfl rfl).trans em2)).trans rfl) rfl)
 by_cases h:(i*l<=u/\u<o*l)
 ·have:(decide (u<i*l)||decide (o*l<=u))=false:=by simp;omega
  rw[this] at t0;rw[aw ((xL t0).trans rfl)];refine bA ?_;have hk2:0<24*k:=by omega
  simp[az,ab,slot,bN,qQ,eC,em3,em4,em5,jw,oI,oMod,hk2,hk,oLt];unfold Cb;simp[h]
 ·have:(decide (u<i*l)||decide (o*l<=u))=true:=by simp;omega
  rw[this] at t0;rw[Dr ((Ef t0).trans (bA rfl))];unfold Cb;simp[h]
def xl {p:Pc}(h:p.ok){r t:Nat}(ht:t<24):dJ [pD p,.tup [.int (2*(r:Int)+1),.int 2],.tup [.int (2*(t:Int)+1),.int 2]]=some (.bl (p.has r t)):=by
 obtain⟨h1,h2,h3,h4,h5⟩:=h;have e:=ua (i:=p.i) (o:=p.o) (b:=p.b) (w:=p.w) (u:=2*(r:Int)+1) (l:=2) (v:=2*(t:Int)+1) (k:=2) ⟨by omega,by omega⟩ ⟨by omega,by omega⟩ ⟨by omega,by omega⟩ ⟨by omega,by omega⟩ (by decide);unfold pD;rw[e];refine congrArg (fun b=>some (D.bl b)) ?_;unfold Cb Pc.has Pc.at;rw[Bool.eq_iff_iff];simp only[Bool.and_eq_true,decide_eq_true_eq];omega
def aO:Nat->List Pc->Nat->Nat->List Nat
 | _,[],_,_=>[]
 | k,p::s,r,t=>if p.has r t=true then k::aO (k+1) s r t else aO (k+1) s r t
noncomputable def Ga (r t:Nat):D:=.tup [.tup [.int (2*(r:Int)+1),.int 2],.tup [.int (2*(t:Int)+1),.int 2]]
noncomputable def DZ:D->Pc
 | .tup [.int i,.int o,.int b,.int w]=>⟨i.toNat,o.toNat,b.toNat,w.toNat⟩
 | _=>⟨0,0,0,0⟩
def lf (r t:Nat):D->Option D
 | .tup [.int j,d]=>if (DZ d).has r t=true then some (.int j) else none
 | _=>none
def CW (r t:Nat)(j:Int)(p:Pc):lf r t (.tup [.int j,pD p])=if p.has r t=true then some (.int j) else none:=rfl
def sH:∀(ds:List D) (k:Nat),(cQ k ds).length=ds.length
 | [],_=>rfl
 | _::r,k=>by simp[cQ,sH r (k+1)]
def sG:∀{s:List Pc} {k:Nat} {x:D},x∈cQ k (s.map pD)->∃(i:Nat) (p:Pc),s[i]? = some p/\x=.tup [.int ((k+i:Nat):Int),pD p]
 | [],_,_,h=>by cases h
 | p::s,k,x,h=>by
   rw[List.map_cons,cQ] at h;rcases List.mem_cons.mp h with rfl | h
   ·exact⟨0,p,rfl,rfl⟩
   ·obtain⟨i,p',h1,h2⟩:=sG h;refine⟨i+1,p',by simpa using h1,?_⟩;rw[h2,show k+1+i=k+(i+1) by omega]
def zO (r t:Nat):∀(s:List Pc) (k:Nat),(cQ k (s.map pD)).filterMap (lf r t)=ai (aO k s r t)
 | [],_=>rfl
 | p::s,k=>by
   rw[List.map_cons,cQ,List.filterMap_cons,CW,aO,zO r t s (k+1)];cases p.has r t <;> rfl
def o8 {s:List Pc}(h:∀p∈s,p.ok)(hl:s.length<=1000)(r:Nat){t:Nat}(ht:t<24):dP [bD s,Ga r t]=some (.tup (ai (aO 0 s r t))):=by
 have hc:=bL (k:=2) (fv:=[1]) (i:=mq (ab 0)) (g:=gT (be (gN 0) (be (gN 1) eg))) (c:=tV (ah dJ (ac (ab 1) (ac (az bN (ab 2) (eC (.int 0))) (ac (az bN (ab 2) (eC (.int 1))) ak))))) (e:=ab 0) (δ:=[some (bD s),some (Ga r t)]) (xs:=cQ 0 (s.map pD)) (lf r t) rfl (by rw[sH];simp;omega) fun x hx=>by
  obtain⟨i,p,hp,rfl⟩:=sG hx;refine⟨[some (.int ((0+i:Nat):Int)),some (pD p),some (Ga r t)],rfl,?_⟩;have ht':tV (ah dJ (ac (ab 1) (ac (az bN (ab 2) (eC (.int 0))) (ac (az bN (ab 2) (eC (.int 1))) ak)))) [some (.int ((0+i:Nat):Int)),some (pD p),some (Ga r t)]=some (p.has r t) :=
   iI ((f6 (x:=pD p) (y:=.tup [.int (2*(r:Int)+1),.int 2]) (z:=.tup [.int (2*(t:Int)+1),.int 2]) rfl rfl rfl).trans (xl (h p (List.mem_of_getElem? hp)) ht)) rfl
  rw[ht',CW];cases p.has r t with
  | true=>exact .inl ⟨rfl,_,rfl,rfl⟩
  | false=>exact .inr ⟨rfl,rfl⟩
 refine bW rfl (bA ((av hc).trans ?_));rw[zO];rfl
noncomputable def cells (R:Nat):List (Nat×Nat):=(List.range (R+1)).flatMap fun r=>(List.range 24).map fun t=>(r,t)
def iZ (s:List Pc)(c:Nat×Nat):D:=.tup (ai (aO 0 s c.1 c.2))
def se:∀(s:List Pc) (k r t:Nat),(aO k s r t).length=qR s r t
 | [],_,_,_=>rfl
 | p::s,k,r,t=>by
   unfold aO qR;rw[List.countP_cons];have:=se s (k+1) r t;unfold qR at this;cases p.has r t <;> simp[this]
def wn (a b:Nat×Nat):bP (aE a) (aE b)=decide (a=b):=by
 unfold aE;simp only[bP,eI,Bool.and_true];rw[Bool.eq_iff_iff];obtain⟨a1,a2⟩:=a;obtain⟨b1,b2⟩:=b;simp;omega
def zV (a:Nat×Nat):fI (aE a)=true:=rfl
def fi {a b:ME}{δ:Ev}{x y:D}(ha:a δ=some x)(hb:b δ=some y):cG (ac a (ac b ak)) δ=some (.tup [x,y]):=by
 unfold cG ac ak;rw[ha,hb];rfl
def sY {s:List Pc}(h:∀p∈s,p.ok)(hl:s.length<=1000)(R r:Nat):∀(ts:List Nat) (L:List (Nat×Nat)) (x4:Option D),(∀t∈ts,t<24)->ts.Nodup->(∀t∈ts,(r,t)∉L)->L.length+ts.length<=1000->∃y4,
 cF (gN 4) dF (ai ts) [some (bD s),some (.int (R:Int)),none,some (.int r),x4,none,none,some (.dic true (L.map aE) (L.map (iZ s))),none,none] =
  some (.nx [some (bD s),some (.int (R:Int)),none,some (.int r),y4,none,none,some (.dic true ((L++ts.map fun t=>(r,t)).map aE) ((L++ts.map fun t=>(r,t)).map (iZ s))),none,none])
 | [],L,x4,_,_,_,_=>⟨x4,by simp[ai,cF]⟩
 | t::ts,L,x4,h1,h2,h3,h4=>by
   have ht:=h1 t List.mem_cons_self;simp only[List.length_cons] at h4;rw[List.nodup_cons] at h2;have e:dF [some (bD s),some (.int (R:Int)),none,some (.int r),some (.int t),none,none,some (.dic true (L.map aE) (L.map (iZ s))),none,none] =
    some (.nx [some (bD s),some (.int (R:Int)),none,some (.int r),some (.int t),none,none,some (.dic true ((L++[(r,t)]).map aE) ((L++[(r,t)]).map (iZ s))),none,none]):=by
    have ek:cG (ac (ab 3) (ac (ab 4) ak)) [some (bD s),some (.int (R:Int)),none,some (.int r),some (.int t),none,none,some (.dic true (L.map aE) (L.map (iZ s))),none,none]=some (aE (r,t)):=rfl;have em:∀k:Int,bQ (.int 2) (.int k)=some (.int (2*k)):=fun k=>bY (by decide);have ea:∀{i:Nat} {k:Int} {δ:Ev},ab i δ=some (.int k)->az bG (az bQ (eC (.int 2)) (ab i)) (eC (.int 1)) δ=some (.int (2*k+1)):=fun {i k δ} he=>(aZ ((aZ (x:=.int 2) rfl he).trans (em k)) rfl).trans rfl;have ev:ah dP (ac (ab 0) (ac (cG (ac (cG (ac (az bG (az bQ (eC (.int 2)) (ab 3)) (eC (.int 1))) (ac (eC (.int 2)) ak))) (ac (cG (ac (az bG (az bQ (eC (.int 2)) (ab 4)) (eC (.int 1))) (ac (eC (.int 2)) ak))) ak))) ak)) [some (bD s),some (.int (R:Int)),none,some (.int r),some (.int t),none,none,some (.dic true (L.map aE) (L.map (iZ s))),none,none]=some (iZ s (r,t)):=by
     refine(aV (x:=bD s) (y:=Ga r t) rfl ?_).trans (o8 h hl r ht);exact fi (fi (ea (i:=3) (k:=r) rfl) rfl) (fi (ea (i:=4) (k:=t) rfl) rfl)
    unfold dF rp;rw[ev];simp only[Option.bind_some];rw[ek];simp only[Option.bind_some];rw[show ownAt 5 2 [some (bD s),some (.int (R:Int)),none,some (.int r),some (.int t),none,none,some (.dic true (L.map aE) (L.map (iZ s))),none,none]=some (.dic true (L.map aE) (L.map (iZ s))) from rfl];simp only;have hall:((L.map aE).all fun q => !bP q (aE (r,t)))=true:=by
     rw[List.all_eq_true];intro q hq;obtain⟨c,hc,rfl⟩:=List.mem_map.mp hq;rw[wn];have:c≠(r,t):=fun z=>h3 t List.mem_cons_self (z ▸ hc);simp[this]
    rw[if_pos ⟨zV _,hall,by rw[List.length_map];omega⟩,List.map_append,List.map_append];rfl
   obtain⟨y4,ih⟩:=sY h hl R r ts (L++[(r,t)]) (some (.int t)) (fun x hx=>h1 x (List.mem_cons_of_mem _ hx)) h2.2 (fun x hx=>by
    rw[List.mem_append,List.mem_singleton];rintro (z | z)
    ·exact h3 x (List.mem_cons_of_mem _ hx) z
    ·cases z;exact h2.1 hx) (by simp;omega)
   refine⟨y4,?_⟩;have e0:ai (t::ts)=.int t::ai ts:=rfl;rw[e0,cP (δ1:=[some (bD s),some (.int (R:Int)),none,some (.int r),some (.int t),none,none,some (.dic true (L.map aE) (L.map (iZ s))),none,none]) rfl e,ih,List.map_cons];simp only[List.append_assoc,List.singleton_append]
def nodup_range (n:Nat):(List.range n).Nodup:=List.nodup_range
def oG {s:List Pc}(h:∀p∈s,p.ok)(hl:s.length<=1000)(R:Nat):∀(rs:List Nat) (L:List (Nat×Nat)) (x3 x4:Option D),rs.Nodup->(∀c∈L,c.1∉rs)->L.length+24*rs.length<=900->∃y3 y4,
 cF (gN 3) fg (ai rs) [some (bD s),some (.int (R:Int)),none,x3,x4,none,none,some (.dic true (L.map aE) (L.map (iZ s))),none,none] =
  some (.nx [some (bD s),some (.int (R:Int)),none,y3,y4,none,none,some (.dic true ((L++rs.flatMap fun r=>(List.range 24).map fun t=>(r,t)).map aE) ((L++rs.flatMap fun r=>(List.range 24).map fun t=>(r,t)).map (iZ s))),none,none])
 | [],L,x3,x4,_,_,_=>⟨x3,x4,by simp[ai,cF]⟩
 | r::rs,L,x3,x4,h1,h2,h3=>by
   rw[List.nodup_cons] at h1;simp only[List.length_cons] at h3;obtain⟨z4,e⟩:=sY h hl R r (List.range 24) L x4 (fun t ht=>List.mem_range.mp ht) (nodup_range 24) (fun t ht z=>h2 _ z List.mem_cons_self) (by simp;omega);have eb:fg [some (bD s),some (.int (R:Int)),none,some (.int r),x4,none,none,some (.dic true (L.map aE) (L.map (iZ s))),none,none]=_:=(cj (i:=cv (eC (.int 24))) (xs:=ai (List.range 24)) rfl).trans e;obtain⟨y3,y4,ih⟩:=oG h hl R rs (L++(List.range 24).map fun t=>(r,t)) (some (.int r)) z4 h1.2 (fun c hc=>by
    rcases List.mem_append.mp hc with z | z
    ·exact fun q=>h2 c z (List.mem_cons_of_mem _ q)
    ·obtain⟨t,_,rfl⟩:=List.mem_map.mp z;exact h1.1) (by simp;omega)
   refine⟨y3,y4,?_⟩;have e0:ai (r::rs)=.int r::ai rs:=rfl;rw[e0,cP (δ1:=[some (bD s),some (.int (R:Int)),none,some (.int r),x4,none,none,some (.dic true (L.map aE) (L.map (iZ s))),none,none]) rfl eb,ih,List.flatMap_cons,List.append_assoc]
def u3 (s:List Pc)(R:Nat):D:=.dic true ((cells R).map aE) ((cells R).map (iZ s))
def rG {s:List Pc}(h:∀p∈s,p.ok)(hl:s.length<=1000){R:Nat}(hR:R<=30):eF [bD s,.int R]=some (u3 s R):=by
 obtain⟨y3,y4,e⟩:=oG h hl R (List.range (R+1)) [] none none (nodup_range _) (fun c hc=>by cases hc) (by rw[List.length_range,List.length_nil];omega);rw[List.map_nil,List.map_nil,List.nil_append] at e;refine bW rfl ?_;show eU [some (bD s),some (.int (R:Int)),none,none,none,none,none,none,none,none]=_;unfold eU;rw[aw (show du 5 2 (eC (.dic true [] [])) _=some (.nx [some (bD s),some (.int (R:Int)),none,none,none,none,none,some (.dic true [] []),none,none]) from rfl)];have hi:cv (az bG (ab 1) (eC (.int 1))) [some (bD s),some (.int (R:Int)),none,none,none,none,none,some (.dic true [] []),none,none]=some (ai (List.range (R+1))):=by
  have e1:az bG (ab 1) (eC (.int 1)) [some (bD s),some (.int (R:Int)),none,none,none,none,none,some (.dic true [] []),none,none]=some (.int ((R+1:Nat):Int)):=by
   rw[Int.natCast_succ];rfl
  exact ip e1 (by omega)
 rw[aw ((cj hi).trans e)];rfl
end DL.Lw
namespace DL.Pg
open PySem DL DL.Lw
noncomputable def aT (p:Pc):List Nat:=(List.range p.w).map fun k=>(p.b+k) % 24
def wR (p:Pc):(bU p).map D.int=ai (aT p):=by unfold bU ai aT;rw[List.map_map,List.map_map];rfl
def b0 (p:Pc)(bs:List Nat):List Nat:=bs.flatMap fun b=>(aT p).map fun t=>24*b+t
def wc (x:Nat):∀E:List Nat,(E.map fun (n:Nat)=>(n:Int)).idxOf (x:Int)=E.idxOf x
 | []=>rfl
 | e::E=>by
   rw[List.map_cons,List.idxOf_cons,List.idxOf_cons,wc x E];have:((e:Int)==(x:Int))=(e==x):=by rw[Bool.eq_iff_iff];simp;omega
   rw[this]
def vE {E:List Nat}{x:Nat}(hx:x∈E):i7 (.lst (ai E)) (.int x)=some (.int (E.idxOf x:Nat)):=by
 unfold i7;simp only;rw[mf];simp only[Option.bind_some];rw[if_pos (List.mem_map.mpr ⟨x,hx,rfl⟩),wc]
def t8 (a m:Nat):eA a m=ai (List.range' a m):=by
 unfold eA ai;rw[List.range'_eq_map_range,List.map_map];refine List.map_congr_left fun i _=>?_;simp
def xk {a b:ME}{δ:Ev}{i j:Int}(ha:a δ=some (.int i))(hb:b δ=some (.int j))(h : -1073741824<i/\i<1073741824 /\ -1073741824<j/\j<1073741824):jF a b δ=some (eA i (j-i).toNat):=by
 unfold jF;rw[ha,hb];simp only[Option.bind_some];rw[if_pos h]
noncomputable def EY (b:Nat):D->D
 | .int t=>.int (24*(b:Int)+t)
 | d=>d
def u6 {p:Pc}(x0 x1 x2 x4:Option D)(b:Nat)(r:Ev)(hw:p.w<=24) :
 bq 1 [5] (br (ab 3)) (gN 0) tT (az bG (az bQ (eC (.int 24)) (ab 1)) (ab 0)) ([x0,x1,x2,some (.lst (ai (aT p))),x4,some (.int b)]++r)=some (.lst (ai ((aT p).map fun t=>24*b+t))):=by
 have hl:(ai (aT p)).length<=16777216:=by unfold ai aT;simp;omega
 have hc:=bL (k:=1) (fv:=[5]) (i:=br (ab 3)) (g:=gN 0) (c:=tT) (e:=az bG (az bQ (eC (.int 24)) (ab 1)) (ab 0)) (δ:=[x0,x1,x2,some (.lst (ai (aT p))),x4,some (.int b)]++r) (xs:=ai (aT p)) (fun x=>some (EY b x)) rfl hl fun x hx=>by
  unfold ai at hx;obtain⟨t,_,rfl⟩:=List.mem_map.mp hx;refine⟨[some (.int t),some (.int b)],rfl,.inl ⟨rfl,EY b (.int t),?_,rfl⟩⟩;have em:bQ (.int 24) (.int b)=some (.int (24*b)):=bY (by decide);exact(aZ ((aZ (x:=.int 24) (y:=.int b) rfl rfl).trans em) (y:=.int t) rfl).trans rfl
 rw[hc,List.filterMap_eq_map'];unfold ai;rw[List.map_map,List.map_map];refine congrArg (fun l=>some (D.lst l)) (List.map_congr_left fun t _=>?_);simp only[Function.comp,EY];congr 1
def mM {p:Pc}(hw:p.w<=24)(x0 x1 x2:Option D):∀(bs:List Nat) (acc:List Nat) (x5:Option D),acc.length+24*bs.length<=100000->∃y5,
 cF (gN 5) eQ (ai bs) [x0,x1,x2,some (.lst (ai (aT p))),none,x5,none,none,none,none,some (.lst (ai acc)),none] =
  some (.nx [x0,x1,x2,some (.lst (ai (aT p))),none,y5,none,none,none,none,some (.lst (ai (acc++b0 p bs))),none])
 | [],acc,x5,_=>⟨x5,by simp[ai,cF,b0]⟩
 | b::bs,acc,x5,hl=>by
   simp only[List.length_cons] at hl;have hm:(aT p).length<=24:=by unfold aT;simp;exact hw
   have e:eQ [x0,x1,x2,some (.lst (ai (aT p))),none,some (.int b),none,none,none,none,some (.lst (ai acc)),none] =
    some (.nx [x0,x1,x2,some (.lst (ai (aT p))),none,some (.int b),none,none,none,none,some (.lst (ai (acc++(aT p).map fun t=>24*b+t))),none]):=by
    have eb:=u6 (p:=p) x0 x1 x2 none b [none,none,none,none,some (.lst (ai acc)),none] hw;unfold eQ yP;simp only[List.cons_append,List.nil_append] at eb;rw[eb];show (if (ai acc).length+(ai ((aT p).map fun t=>24*b+t)).length<=16777216 then _ else _)=_;rw[if_pos (by rw[dY,dY,List.length_map];omega)];have:ai acc++ai ((aT p).map fun t=>24*b+t)=ai (acc++(aT p).map fun t=>24*b+t):=by unfold ai;rw[List.map_append]
    rw[<-this];rfl
   obtain⟨y5,ih⟩:=mM hw x0 x1 x2 bs (acc++(aT p).map fun t=>24*b+t) (some (.int b)) (by rw[List.length_append,List.length_map];omega);refine⟨y5,?_⟩;have e0:ai (b::bs)=.int b::ai bs:=rfl;rw[e0,cP (δ1:=[x0,x1,x2,some (.lst (ai (aT p))),none,some (.int b),none,none,none,none,some (.lst (ai acc)),none]) rfl e,ih];unfold b0;rw[List.flatMap_cons,List.append_assoc]
noncomputable def cx (E:List Nat)(p:Pc):List Nat:=List.range' (E.idxOf p.i) (E.idxOf p.o-E.idxOf p.i)
def ud {p:Pc}(h:p.ok){E:List Nat}(hi:p.i∈E)(ho:p.o∈E)(hE:E.length<=1000):gm [pD p,.lst (ai E)]=some (.lst (ai (b0 p (cx E p)))):=by
 have hw:p.w<=24:=h.2.2.2.2;have l1:=List.idxOf_lt_length_of_mem hi;have l2:=List.idxOf_lt_length_of_mem ho;obtain⟨y5,e⟩:=mM hw (some (pD p)) (some (.lst (ai E))) (some (.tup [.int p.i,.int p.o])) (cx E p) [] none (by unfold cx;simp;omega);refine bW rfl ?_;show gA [some (pD p),some (.lst (ai E)),none,none,none,none,none,none,none,none,none,none]=_;unfold gA;rw[aw (aQ (d:=.tup [.int p.i,.int p.o]) (δ':=[some (pD p),some (.lst (ai E)),some (.tup [.int p.i,.int p.o]),none,none,none,none,none,none,none,none,none]) ((av (x:=pD p) rfl).trans (t9 h)) rfl)];rw[aw (aQ (d:=.lst (ai (aT p))) (δ':=[some (pD p),some (.lst (ai E)),some (.tup [.int p.i,.int p.o]),some (.lst (ai (aT p))),none,none,none,none,none,none,none,none]) ((av (x:=pD p) rfl).trans ((vC h).trans (by rw[wR]))) rfl)];rw[aw (δ':=[some (pD p),some (.lst (ai E)),some (.tup [.int p.i,.int p.o]),some (.lst (ai (aT p))),none,none,none,none,none,none,some (.lst (ai [])),none]) rfl];have hr:jF (az i7 (ab 1) (az bN (ab 2) (eC (.int 0)))) (az i7 (ab 1) (az bN (ab 2) (eC (.int 1)))) [some (pD p),some (.lst (ai E)),some (.tup [.int p.i,.int p.o]),some (.lst (ai (aT p))),none,none,none,none,none,none,some (.lst (ai [])),none]=some (ai (cx E p)):=by
  rw[xk ((aZ (x:=.lst (ai E)) (y:=.int p.i) rfl rfl).trans (vE hi)) ((aZ (x:=.lst (ai E)) (y:=.int p.o) rfl rfl).trans (vE ho)) (by omega),t8];unfold cx;rw[show (((E.idxOf p.o:Nat):Int)-((E.idxOf p.i:Nat):Int)).toNat=E.idxOf p.o-E.idxOf p.i by omega]
 rw[aw ((cj hr).trans e)];rfl
def oE (b t:Nat)(ht:t<24)(b':Nat):∀l:List Nat,(∀x∈l,x<24)->(l.map fun x=>24*b'+x).count (24*b+t)=if b'=b then l.count t else 0
 | [],_=>by simp
 | x::l,h=>by
   have hx:=h x List.mem_cons_self;rw[List.map_cons,List.count_cons,List.count_cons,oE b t ht b' l fun y hy=>h y (List.mem_cons_of_mem _ hy)];by_cases hb:b'=b
   ·subst hb;simp only[if_true];have:(24*b'+x==24*b'+t)=(x==t):=by rw[Bool.eq_iff_iff];simp
    rw[this]
   ·have:(24*b'+x==24*b+t)=false:=by simp;omega
    simp[hb,this]
def kK (p:Pc)(b t:Nat)(ht:t<24):∀bs:List Nat,(b0 p bs).count (24*b+t)=bs.count b*(aT p).count t
 | []=>by simp[b0]
 | b'::bs=>by
   have ih:=kK p b t ht bs;unfold b0 at ih ⊢;rw[List.flatMap_cons,List.count_append,ih,oE b t ht b' (aT p) fun x hx=>by
    unfold aT at hx;obtain⟨k,_,rfl⟩:=List.mem_map.mp hx;exact Nat.mod_lt _ (by decide),List.count_cons]
   by_cases hb:b'=b
   ·subst hb;simp[Nat.add_mul,Nat.add_comm]
   ·simp[hb]
def qq {p:Pc}(h:p.ok){t:Nat}(ht:t<24):(aT p).count t=if p.at t=true then 1 else 0:=by
 unfold aT Pc.at;rw[kJ p.b h.2.2.1 p.w (by have:=h.2.2.2.2;omega) t ht];simp only[decide_eq_true_eq]
def qt (b a m:Nat):(List.range' a m).count b=if a<=b/\b<a+m then 1 else 0:=by
 rw[(List.nodup_range' (s:=a) (n:=m)).count];simp[List.mem_range'_1]
def Ad {E:List Nat}(hE:E.Pairwise (·<·)){x:Nat}(hx:x∈E){b:Nat}(hb:b<E.length):E.idxOf x<=b↔x<=E[b]:=by
 have hl:=List.idxOf_lt_length_of_mem hx;have hg:E[E.idxOf x]=x:=List.getElem_idxOf hl;rw[List.pairwise_iff_getElem] at hE;constructor
 ·intro h;rcases Nat.lt_or_ge (E.idxOf x) b with z | z
  ·have:=hE _ _ hl hb z;omega
  ·have:E.idxOf x=b:=by omega
   subst this;omega
 ·intro h;rcases Nat.lt_or_ge b (E.idxOf x) with z | z
  ·have:=hE _ _ hb hl z;omega
  ·exact z
def sW {p:Pc}(h:p.ok){E:List Nat}(hE:E.Pairwise (·<·))(hi:p.i∈E)(ho:p.o∈E){c:Nat}(hc:c<24*E.length):(b0 p (cx E p)).count c=if p.has (E.getD (c / 24) 0) (c % 24)=true then 1 else 0:=by
 have hb:c / 24<E.length:=by omega
 have ht:c % 24<24:=Nat.mod_lt _ (by decide);have e:=kK p (c / 24) (c % 24) ht (cx E p);rw[show 24*(c / 24)+c % 24=c by omega] at e;rw[e,qq h ht];unfold cx;rw[qt];have h1:=Ad hE hi hb;have h2:=Ad hE ho hb;have hg:E.getD (c / 24) 0=E[c / 24]:=by simp[hb]
 rw[hg];unfold Pc.has;by_cases a1:p.i<=E[c / 24] <;> by_cases a2:E[c / 24]<p.o
 ·rw[if_pos (by omega)];simp[a1,a2]
 ·rw[if_neg (by omega)];simp[a2]
 ·rw[if_neg (by omega)];simp[a1]
 ·rw[if_neg (by omega)];simp[a1]
noncomputable def zs (l:List Nat):List Int:=l.map fun (n:Nat)=>(n:Int)
def Gv (l:List Nat):(zs l).map D.int=ai l:=by unfold zs ai;rw[List.map_map];rfl
def fh (n:Int):∀(cs:List Int) (rows:List (List Int)),(b9 rows n cs).length=rows.length
 | [],_=>rfl
 | c::cs,rows=>by
   show (b9 (rows.set c.toNat _) n cs).length=_;rw[fh n cs];simp
def mT (n:Int)(c:Nat):∀(cs:List Nat) (rows:List (List Int)),(∀x∈cs,x<rows.length)->(b9 rows n (zs cs)).getD c []=rows.getD c []++List.replicate (cs.count c) n
 | [],rows,_=>by simp[zs,b9]
 | x::cs,rows,h=>by
   have hx:=h x List.mem_cons_self;show (b9 (rows.set (x:Int).toNat (rows.getD (x:Int).toNat []++[n])) n (zs cs)).getD c []=_;rw[Int.toNat_natCast,mT n c cs _ fun y hy=>by rw[List.length_set];exact h y (List.mem_cons_of_mem _ hy),List.count_cons];by_cases e:x=c
   ·subst e;simp only[List.getD_eq_getElem?_getD,List.getElem?_set_self hx,Option.getD_some,beq_self_eq_true,if_true,List.append_assoc];rfl
   ·simp only[List.getD_eq_getElem?_getD,List.getElem?_set_ne e];have:(x==c)=false:=by simp[e]
    simp[this]
def xX {p:Pc}{E:List Nat}(ho:p.o∈E):∀c∈b0 p (cx E p),c<24*E.length:=fun c hc=>by
 unfold b0 cx at hc;obtain⟨b,hb,hx⟩:=List.mem_flatMap.mp hc;obtain⟨t,ht,rfl⟩:=List.mem_map.mp hx;rw[List.mem_range'_1] at hb;unfold aT at ht;obtain⟨k,_,rfl⟩:=List.mem_map.mp ht;have l2:=List.idxOf_lt_length_of_mem ho;have:=Nat.mod_lt (p.b+k) (show 0<24 by decide);omega
def u0 {p:Pc}(h:p.ok){E:List Nat}(ho:p.o∈E):(b0 p (cx E p)).length<=24*E.length:=by
 have l2:=List.idxOf_lt_length_of_mem ho;have hw:=h.2.2.2.2;have:∀bs:List Nat,(b0 p bs).length=p.w*bs.length:=fun bs=>by
  induction bs with
  | nil=>simp[b0]
  | cons b bs ih =>
    unfold b0 at ih ⊢;rw[List.flatMap_cons,List.length_append,ih,List.length_map,List.length_cons,Nat.mul_add];unfold aT;simp;omega
 rw[this];unfold cx;rw[List.length_range'];exact Nat.le_trans (Nat.mul_le_mul_right _ hw) (Nat.mul_le_mul_left _ (by omega))
def v5 {E:List Nat}(hE:E.Pairwise (·<·))(hEl:E.length<=1000):∀(s:List Pc) (k:Nat) (rows:List (List Int)),(∀p∈s,p.ok/\p.i∈E/\p.o∈E)->k+s.length<=1000->rows.length=24*E.length->(∀r∈rows,r.length<=k) ->
 ∃rows',ng gm (.lst (ai E)) k (s.map pD) rows=some rows'/\rows'.length=24*E.length/\∀c,c<24*E.length->rows'.getD c []=rows.getD c []++zs (aO k s (E.getD (c / 24) 0) (c % 24))
 | [],k,rows,_,_,hl,_=>⟨rows,rfl,hl,fun c _=>by simp[aO,zs]⟩
 | p::s,k,rows,h,hk,hl,hr=>by
   simp only[List.length_cons] at hk;obtain⟨hp,hi,ho⟩:=h p List.mem_cons_self;have hlt:=xX (p:=p) ho;have hcl:=u0 hp ho;have hget:∀c,c<24*E.length->(b9 rows (k:Int) (zs (b0 p (cx E p)))).getD c []=rows.getD c []++(if p.has (E.getD (c / 24) 0) (c % 24)=true then [(k:Int)] else []):=fun c hc=>by
    rw[mT _ c _ _ fun x hx=>by rw[hl];exact hlt x hx,sW hp hE hi ho hc];split <;> rfl
   have hlen:=fh (k:Int) (zs (b0 p (cx E p))) rows;obtain⟨rows',e,h1,h2⟩:=v5 hE hEl s (k+1) (b9 rows (k:Int) (zs (b0 p (cx E p)))) (fun q hq=>h q (List.mem_cons_of_mem _ hq)) (by omega) (by rw[hlen,hl]) fun r hrr=>by
    obtain⟨c,hc,rfl⟩:=List.getElem_of_mem hrr;have ni:c<24*E.length:=by rw[hlen,hl] at hc;exact hc
    have:=hget c ni;rw[List.getD_eq_getElem?_getD,List.getElem?_eq_getElem hc,Option.getD_some] at this;rw[this,List.length_append];have hrow:(rows.getD c []).length<=k:=by
     have hc2:c<rows.length:=by omega
     rw[List.getD_eq_getElem?_getD,List.getElem?_eq_getElem hc2,Option.getD_some];exact hr _ (List.getElem_mem hc2)
    split <;> simp only[List.length_cons,List.length_nil] <;> omega
   refine⟨rows',?_,h1,fun c hc=>?_⟩
   ·rw[List.map_cons,ng,ud hp hi ho hEl];simp only[Option.bind_some];rw[mf];simp only[Option.bind_some];have c1:(((b0 p (cx E p)).map fun (n:Nat)=>(n:Int)).all fun c=>decide (0<=c)&&decide (c<rows.length))=true:=by
     rw[List.all_eq_true];intro x hx;obtain⟨c,hc,rfl⟩:=List.mem_map.mp hx;have:=hlt c hc;rw[Bool.and_eq_true,decide_eq_true_eq,decide_eq_true_eq];omega
    have c2:(rows.all fun r=>decide (r.length+((b0 p (cx E p)).map fun (n:Nat)=>(n:Int)).length<=1000000))=true:=by
     rw[List.all_eq_true];intro r hrr;have:=hr r hrr;rw[List.length_map,decide_eq_true_eq];omega
    rw[if_pos ⟨c1,c2⟩];exact e
   ·rw[h2 c hc,hget c hc,aO];split <;> simp[zs]
def xB {cm:ME}{fn:MF}{m:MS}{ps es cs:List D}{rows:List (List Int)}(hc:cm [some (.tup ps),some (.lst es),none,none,none,none]=some (.lst cs))(hl:cs.length<=1000000)(e:ng fn (.lst es) 0 ps (List.replicate cs.length [])=some rows) :
 jp cm fn m [some (.tup ps),some (.lst es),none,none,none,none]=m [some (.tup ps),some (.lst es),some (rB rows),none,none,none]:=by
 unfold jp;simp only;rw[hc];simp only[Option.bind_some];rw[if_pos hl,e];rfl
def ly (s:List Pc)(E:List Nat)(c:Nat):List Nat:=aO 0 s (E.getD (c / 24) 0) (c % 24)
def fx (l:List Nat):D:=.tup (ai l)
noncomputable def Gx:D->D
 | .lst l=>.tup l
 | d=>d
def iM {s:List Pc}{E:List Nat}(hE:E.Pairwise (·<·))(hEl:E.length<=1000)(h:∀p∈s,p.ok/\p.i∈E/\p.o∈E)(hl:s.length<=1000):cN [bD s,.lst (ai E)]=some (aD fx (ly s E) (24*E.length)):=by
 obtain⟨rows,e,h1,h2⟩:=v5 hE hEl s 0 (List.replicate (24*E.length) []) h (by omega) (by simp) fun r hr=>by
  rw[List.eq_of_mem_replicate hr];simp
 have hrows:rows=(List.range (24*E.length)).map fun c=>zs (ly s E c):=by
  refine List.ext_getElem (by simp[h1]) fun c hc ni=>?_;have hcn:c<24*E.length:=by omega
  have:=h2 c hcn;rw[List.getD_eq_getElem?_getD,List.getElem?_eq_getElem hc,Option.getD_some] at this;rw[this];simp[ly,hcn]
 refine bW rfl ?_;show dR [some (bD s),some (.lst (ai E)),none,none,none,none]=_;unfold dR;have hcm:∃cs:List D,cs.length=24*E.length/\bq 1 [] (cv (az bQ (eC (.int 24)) (ah cM (ac (ab 1) ak)))) (gN 0) tT (cw ak) [some (bD s),some (.lst (ai E)),none,none,none,none]=some (.lst cs):=by
  have em:bQ (.int 24) (.int (E.length:Nat))=some (.int ((24*E.length:Nat):Int)):=by
   rw[bY (by decide)];simp
  have el:ah cM (ac (ab 1) ak) [some (bD s),some (.lst (ai E)),none,none,none,none]=some (.int (E.length:Nat)):=by
   rw[av (x:=.lst (ai E)) rfl];show some (D.int ((ai E).length:Nat))=_;rw[dY]
  have hi:=ip (n:=24*E.length) ((aZ (x:=.int 24) rfl el).trans em:az bQ (eC (.int 24)) (ah cM (ac (ab 1) ak)) [some (bD s),some (.lst (ai E)),none,none,none,none]=_) (by omega);refine⟨_,?_,bL (fun _=>some (.lst [])) hi (by unfold cf;simp;omega) fun x hx=>⟨_,rfl,.inl ⟨rfl,_,rfl,rfl⟩⟩⟩;rw[List.filterMap_eq_map'];unfold cf;simp
 obtain⟨cs,hcl,hcm⟩:=hcm;unfold bD at hcm ⊢;rw[<-hcl] at e;rw[xB hcm (by omega) e,hrows];have hrl:(List.map (fun r=>D.lst (List.map D.int r)) (List.map (fun c=>zs (ly s E c)) (List.range (24*E.length)))).length<=16777216:=by simp;omega
 have hc:=bL (k:=1) (fv:=[]) (i:=br (ab 2)) (g:=gN 0) (c:=tT) (e:=ah fc (ac (ab 0) ak)) (δ:=[some (.tup (s.map pD)),some (.lst (ai E)),some (rB ((List.range (24*E.length)).map fun c=>zs (ly s E c))),none,none,none]) (fun x=>some (Gx x)) rfl hrl fun x hx=>by
  obtain⟨r,_,rfl⟩:=List.mem_map.mp hx;exact⟨[some (.lst (r.map D.int))],rfl,.inl ⟨rfl,_,rfl,rfl⟩⟩
 refine bA (hc.trans ?_);rw[List.filterMap_eq_map',List.map_map,List.map_map];unfold aD;refine congrArg (fun l=>some (D.lst l)) (List.map_congr_left fun c _=>?_);show D.tup ((zs (ly s E c)).map D.int)=_;rw[Gv];rfl
def jE {s:List Pc}(h:∀p∈s,p.ok):∀p∈s,p.ok/\p.i∈ag s/\p.o∈ag s:=fun p hp=>by
 have:∀x,x∈[p.i,p.o]->x∈gr s:=fun x hx=>List.mem_cons_of_mem _ (List.mem_flatMap.mpr ⟨p,hp,hx⟩);exact⟨h p hp,(di h _).mpr (this _ (by simp)),(di h _).mpr (this _ (by simp))⟩
def wo {s:List Pc}(h:∀p∈s,p.ok){N:Nat}(h0:0<N)(hN:∀p∈s,p.o<N){x:Nat}(hx:x∈ag s):x<N:=by
 have:=(di h x).mp hx;unfold gr at this;rcases List.mem_cons.mp this with rfl | z
 ·exact h0
 ·obtain⟨p,hp,hx⟩:=List.mem_flatMap.mp z;have h1:=hN p hp;have h2:=(h p hp).1;simp only[List.mem_cons,List.not_mem_nil,or_false] at hx;omega
def getD_mem {E:List Nat}{b:Nat}(hb:b<E.length):E.getD b 0∈E:=by
 rw[List.getD_eq_getElem?_getD,List.getElem?_eq_getElem hb];exact List.getElem_mem hb
def mem_getD {E:List Nat}{x:Nat}(hx:x∈E):∃j,j<E.length/\E.getD j 0=x:=by
 obtain⟨j,hj,e⟩:=List.getElem_of_mem hx;exact⟨j,hj,by simp[hj,e]⟩
def t7 {E:List Nat}(hE:E.Pairwise (·<·)){a b:Nat}(hab:a<=b)(hb:b<E.length):E.getD a 0<=E.getD b 0:=by
 rcases Nat.lt_or_ge a b with z | z
 ·have:=List.pairwise_iff_getElem.mp hE a b (by omega) hb z;have h2:E.getD a 0<E.getD b 0:=by simpa[show a<E.length by omega,hb] using this
  omega
 ·have:a=b:=by omega
  rw[this];exact Nat.le_refl _
def AX {β:Type}[DecidableEq β]{s:List Pc}(h:∀p∈s,p.ok){N:Nat}(h0:0<N)(hN:∀p∈s,p.o<N){val:Nat->Nat->β}(hv:∀r r' t,(∀p∈s,p.has r t=p.has r' t)->val r t=val r' t):Bd (ag s) val N where
 ris:=aY s
 pos:=by
  obtain⟨es,e⟩:=ff s;rw[e];simp
 zero:=by
  obtain⟨es,e⟩:=ff s;rw[e];rfl
 lt:=fun b hb=>wo h h0 hN (getD_mem hb)
 bc:=fun b r t hb h1 h2=>hv _ _ _ fun p hp=>by
  obtain⟨_,hi,ho⟩:=jE h p hp;have key:∀x∈ag s,(x<=r↔x<=(ag s).getD b 0):=fun x hx=>by
   obtain⟨j,hj,rfl⟩:=mem_getD hx;constructor
   ·intro z;rcases Nat.lt_or_ge b j with q | q
    ·have a1:=h2 (by omega);have a2:=t7 (aY s) (show b+1<=j by omega) hj;omega
    ·exact t7 (aY s) q hb
   ·intro z;omega
  have k1:=key _ hi;have k2:=key _ ho;unfold Pc.has;rw[show (decide (p.i<=r))=decide (p.i<=(ag s).getD b 0) by simp only[k1],show (decide (r<p.o))=decide ((ag s).getD b 0<p.o) by rw[Bool.eq_iff_iff,decide_eq_true_eq,decide_eq_true_eq];omega]
def wv (s:List Pc)(r t:Nat):Bool:=decide (0<qR s r t)
def Dc {s:List Pc}{r:Nat}(h:∀p∈s,p.o<=r)(t:Nat):wv s r t=false:=by
 unfold wv;rw[sP h t];rfl
def oa {α:Type}(p q:α->Bool):∀l:List α,(l.filter p).length=(l.filter fun c=>p c&&q c).length+(l.filter fun c=>p c && !q c).length
 | []=>rfl
 | a::l=>by
   have ih:=oa p q l;simp only[List.filter_cons];cases p a <;> cases q a <;> simp[ih] <;> omega
def least {P:Nat->Prop}:∀(n k:Nat),k<=n->P k->∃m,P m/\∀d,P d->m<=d
 | 0,k,h,hk=>⟨k,hk,fun d _=>by omega⟩
 | n+1,k,h,hk=>by
   by_cases q:∃d,d<k/\P d
   ·obtain⟨d,hd,hp⟩:=q;exact least n d (by omega) hp
   ·refine⟨k,hk,fun d hd=>?_⟩;rcases Nat.lt_or_ge d k with z | z
    ·exact absurd ⟨d,z,hd⟩ q
    ·exact z
def BV {β:Type}[DecidableEq β]{v:Nat->β}{K:Nat}(hK:1<=K):((List.range (24*K)).filter fun c=>mn (bO (24*K)) v c&&out (bO (24*K)) v (24*K) c).length=1:=by
 have hs:=cg K;generalize hn:24*K=n at *;have h0:n-1<n:=by omega
 obtain⟨m,hm,hl⟩:=least (P:=fun d=>Hg (bO n) v (n-1) d) (n-1) (n-1) (Nat.le_refl _) .refl;have hmn:=hm.lt hs h0;have:((List.range n).filter fun c=>mn (bO n) v c&&out (bO n) v n c).Perm [m]:=(List.perm_ext_iff_of_nodup (List.nodup_range.filter _) (by simp)).mpr fun c=>by
  rw[List.mem_filter,List.mem_range,Bool.and_eq_true,fD,out_iff,List.mem_singleton];constructor
  ·rintro⟨hc,h1,h2⟩;have a1:=hl c h2;have a2:=h1 m ((h2.symm hs h0).trans hm);omega
  ·rintro rfl;exact⟨hmn,fun d g=>hl d (hm.trans g),hm⟩
 rw[this.length_eq];rfl
section
variable {s:List Pc}{N:Nat}
noncomputable def Sm (F:Nat->Int)(m:Nat):Int:=((List.range m).map F).sum
def ca (F:Nat->Int)(m:Nat):Sm F (m+1)=Sm F m+F m:=by unfold Sm;rw[List.range_succ,List.map_append,List.sum_append];simp
def cA {F G:Nat->Int}:∀m,(∀r,r<m->F r=G r)->Sm F m=Sm G m
 | 0,_=>rfl
 | m+1,h=>by rw[ca,ca,cA m fun r hr=>h r (by omega),h m (by omega)]
def wN {F:Nat->Int}{x:Int}(a:Nat):∀k,(∀r,a<=r->r<a+k->F r=x)->Sm F (a+k)=Sm F a+(k:Int)*x
 | 0,_=>by simp
 | k+1,h=>by
   rw[show a+(k+1)=(a+k)+1 by omega,ca,wN a k fun r h1 h2=>h r h1 (by omega),h (a+k) (by omega) (by omega),show ((k+1:Nat):Int)=(k:Int)+1 by omega,Int.add_mul];omega
def E5 {F:Nat->Int}{a m:Nat}(ham:a<=m)(h:∀r,a<=r->F r=0):Sm F m=Sm F a:=by
 have:=wN (F:=F) (x:=0) a (m-a) fun r h1 _=>h r h1;rw[show a+(m-a)=m by omega] at this;rw[this];simp
def qH (F:Nat->Int)(x:Int):∀m,Sm (fun t=>x*F t) m=x*Sm F m
 | 0=>by simp[Sm]
 | m+1=>by rw[ca,ca,qH F x m,Int.mul_add]
def vc (F:Nat->Int)(a:Nat):∀k,Sm F (a+k)=Sm F a+Sm (fun t=>F (a+t)) k
 | 0=>by simp[Sm]
 | k+1=>by rw[show a+(k+1)=(a+k)+1 by omega,ca,ca,vc F a k];omega
def jU (F:Nat->Int):∀m,Sm F (24*m)=Sm (fun r=>Sm (fun t=>F (24*r+t)) 24) m
 | 0=>rfl
 | m+1=>by rw[show 24*(m+1)=24*m+24 by omega,vc,jU F m,ca (fun r=>Sm (fun t=>F (24*r+t)) 24) m]
noncomputable def B6 (b:Bool):Int:=if b=true then 1 else 0
def B5 (b:Bool)(x:Int):(if b=true then x else 0)=x*B6 b:=by cases b <;> simp[B6]
variable {E:List Nat}{w:Nat->Nat->Bool}
end
section
variable {β:Type}[DecidableEq β]{E:List Nat}{val:Nat->Nat->β}{N:Nat}
def wb:∀(l l':List Nat),l.Pairwise (·<·)->l'.Pairwise (·<·)->(∀x,x∈l↔x∈l')->l=l'
 | [],[],_,_,_=>rfl
 | [],b::l',_,_,h=>absurd ((h b).mpr List.mem_cons_self) (by simp)
 | a::l,[],_,_,h=>absurd ((h a).mp List.mem_cons_self) (by simp)
 | a::l,b::l',h1,h2,h=>by
   rw[List.pairwise_cons] at h1 h2;have e:a=b:=by
    rcases List.mem_cons.mp ((h a).mp List.mem_cons_self) with z | z
    ·exact z
    ·rcases List.mem_cons.mp ((h b).mpr List.mem_cons_self) with y | y
     ·exact y.symm
     ·have:=h1.1 b y;have:=h2.1 a z;omega
   subst e;refine congrArg _ (wb l l' h1.2 h2.2 fun x=>?_);constructor
   ·intro hx;rcases List.mem_cons.mp ((h x).mp (List.mem_cons_of_mem _ hx)) with z | z
    ·subst z;exact absurd (h1.1 x hx) (Nat.lt_irrefl _)
    ·exact z
   ·intro hx;rcases List.mem_cons.mp ((h x).mpr (List.mem_cons_of_mem _ hx)) with z | z
    ·subst z;exact absurd (h2.1 x hx) (Nat.lt_irrefl _)
    ·exact z
def Bd.hg_iff (h:Bd E val N){a b:Nat}(ha:a<24*N)(hb:b<24*N):Hg (bO (24*N)) (uv val) a b↔Hg (bO (24*E.length)) (vv E val) (ph E a) (ph E b) :=
 ⟨fun g=>h.coarse ha g,fun g=>(((h.inner ha).symm (cg _) (h.ps_lt (h.ph_lt a))).trans (h.fine (h.ph_lt a) g)).trans (h.inner hb)⟩
def GA (nb:Nat->List Nat)(v:Nat->β)(n:Nat)(F:Nat->Int)(a:Nat):Int:=Sm (fun c=>@ite _ (Hg nb v a c) (Classical.propDecidable _) (F c) 0) n
def sum_filter (F:Nat->Int)(q:Nat->Bool):∀l:List Nat,((l.filter q).map F).sum=(l.map fun c=>if q c=true then F c else 0).sum
 | []=>rfl
 | c::l=>by
   rw[List.filter_cons,List.map_cons,List.sum_cons,<-sum_filter F q l];cases q c <;> simp
def rJ {l l':List Int}(h:l.Perm l'):l.sum=l'.sum:=by
 induction h with
 | nil=>rfl
 | cons x _ ih=>rw[List.sum_cons,List.sum_cons,ih]
 | swap x y l=>simp only[List.sum_cons];omega
 | trans _ _ h1 h2=>exact h1.trans h2
def C3 {nb:Nat->List Nat}{v:Nat->β}{n a:Nat}{R:List Nat}(h:Bf nb v n a R R.length)(F:Nat->Int):(R.map F).sum=GA nb v n F a:=by
 have hp:R.Perm ((List.range n).filter fun c=>@decide _ (Classical.propDecidable (Hg nb v a c))):=(List.perm_ext_iff_of_nodup h.nd (List.nodup_range.filter _)).mpr fun c=>by
  rw[h.mem,List.mem_filter,List.mem_range];constructor
  ·intro g;exact⟨h.lt c ((h.mem c).mpr g),by simpa using g⟩
  ·rintro⟨_,g⟩;simpa using g
 rw[rJ (hp.map F),sum_filter];unfold GA Sm;refine congrArg List.sum (List.map_congr_left fun c _=>?_);by_cases g:Hg nb v a c
 ·simp[g]
 ·simp[g]
noncomputable def oP (c:Nat):Int:=2*((c / 24:Nat):Int)+1
def A0 (E:List Nat)(c:Nat):Int:=ar (E.getD (c / 24) 0,E.getD (c / 24+1) 0)
def j4 {n b:Nat}{v:Nat->β}(hv:∀t,t<24->v (24*b+t)=v (24*b)):∀t,t<24->Hg (bO n) v (24*b) (24*b+t)
 | 0,_=>.refl
 | t+1,h=>.step (j4 hv t (by omega)) (nb_mem.mpr (.inl (by unfold qB;omega))) (by rw[hv (t+1) h,hv t (by omega)])
structure Far (E:List Nat)(val:Nat->Nat->β)(N:Nat):Prop where
 bd:Bd E val N
 K:E.getD (E.length-1) 0<N
 same:∀r t t',E.getD (E.length-1) 0<=r->val r t=val r t'
def Far.last (h:Far E val N):bo E (N-1)=E.length-1:=by
 have h1:=h.bd.bo_lt (N-1);have h2:=(h.bd.le_bo (r:=N-1) (j:=E.length-1) (by have:=h.bd.pos;omega)).mp (by have:=h.K;omega);omega
def Far.ph_last (h:Far E val N):ph E (24*N-1)=24*E.length-1:=by
 have hN:=h.K;have hp:=h.bd.pos;unfold ph;rw[show (24*N-1) / 24=N-1 by omega,show (24*N-1) % 24=23 by omega,h.last];omega
def Far.vlast (h:Far E val N)(t:Nat)(ht:t<24):vv E val (24*(E.length-1)+t)=vv E val (24*(E.length-1)):=by
 unfold vv;rw[show (24*(E.length-1)+t) / 24=E.length-1 by omega,show 24*(E.length-1) / 24=E.length-1 by omega];exact h.same _ _ _ (Nat.le_refl _)
def Far.out_last (h:Far E val N){a t:Nat}(ht:t<24)(g:Hg (bO (24*E.length)) (vv E val) a (24*(E.length-1)+t))(ha:a<24*E.length):out (bO (24*E.length)) (vv E val) (24*E.length) a=true:=by
 have hp:=h.bd.pos;have hs:=cg E.length;have g1:=j4 (n:=24*E.length) (v:=vv E val) h.vlast t ht;have g2:=j4 (n:=24*E.length) (v:=vv E val) h.vlast 23 (by decide);rw[out_iff,show 24*E.length-1=24*(E.length-1)+23 by omega];have h0:24*(E.length-1)<24*E.length:=by omega
 exact((g.trans (g1.symm hs h0)).trans g2).symm hs ha
def Far.out_iff (h:Far E val N){c:Nat}(hc:c<24*N):out (bO (24*N)) (uv val) (24*N) c=out (bO (24*E.length)) (vv E val) (24*E.length) (ph E c):=by
 have hN:=h.K;rw[Bool.eq_iff_iff,Pg.out_iff,Pg.out_iff,h.bd.hg_iff (by omega) hc,h.ph_last]
def Far.out_ring (h:Far E val N){a c:Nat}(ha:a<24*N)(g:Hg (bO (24*N)) (uv val) a c)(hc:c / 24=N-1):out (bO (24*N)) (uv val) (24*N) a=true:=by
 have hN:=h.K;have hcl:=g.lt (cg N) ha;rw[h.out_iff ha];refine h.out_last (t:=c % 24) (Nat.mod_lt _ (by decide)) ?_ (h.bd.ph_lt a);have:=(h.bd.hg_iff ha hcl).mp g;have e:ph E c=24*(E.length-1)+c % 24:=by unfold ph;rw[hc,h.last]
 rw[e] at this;exact this
def ni (E:List Nat)(val:Nat->Nat->β):List Nat:=(List.range (24*E.length)).filter fun d=>mn (bO (24*E.length)) (vv E val) d && !out (bO (24*E.length)) (vv E val) (24*E.length) d
def Ca (val:Nat->Nat->β)(N:Nat):List Nat:=(List.range (24*N)).filter fun d=>mn (bO (24*N)) (uv val) d && !out (bO (24*N)) (uv val) (24*N) d
def Far.heads (h:Far E val N):Ca val N=(ni E val).map (ps E):=by
 refine wb _ _ (List.Pairwise.filter _ List.pairwise_lt_range) ?_ fun c=>?_
 ·rw[List.pairwise_map];refine List.Pairwise.imp_of_mem (R:=(·<·)) (fun {a b} ha hb hab=>h.bd.ps_mono hab ?_) (List.Pairwise.filter _ List.pairwise_lt_range);exact List.mem_range.mp (List.mem_filter.mp hb).1
 ·unfold Ca ni;rw[List.mem_filter,List.mem_range,List.mem_map];constructor
  ·rintro⟨hc,hm⟩;rw[Bool.and_eq_true,h.bd.mn_fine hc,h.out_iff hc] at hm;exact⟨ph E c,List.mem_filter.mpr ⟨List.mem_range.mpr (h.bd.ph_lt c),by rw[Bool.and_eq_true];exact⟨hm.1.2,hm.2⟩⟩,hm.1.1⟩
  ·rintro⟨d,hd,rfl⟩;rw[List.mem_filter,List.mem_range,Bool.and_eq_true] at hd;have hlt:=h.bd.ps_lt hd.1;refine⟨hlt,?_⟩;rw[Bool.and_eq_true,h.bd.mn_coarse hd.1,h.out_iff hlt,h.bd.ph_ps hd.1];exact hd.2
def A5 (W:Int)(a:Nat):∀k,Sm (fun t=>(2*((a+t:Nat):Int)+1)*W) k=(((a+k:Nat):Int)*((a+k:Nat):Int)-(a:Int)*a)*W
 | 0=>by rw[Nat.add_zero,Int.sub_self,Int.zero_mul];rfl
 | k+1=>by
   rw[ca,A5 W a k,<-Int.add_mul];refine congrArg (·*W) ?_;have e:(((a+(k+1):Nat):Int))=((a+k:Nat):Int)+1:=by omega
   rw[e,Int.add_mul,Int.mul_add];omega
def Bd.rings (h:Bd E val N)(W:Nat->Int):∀b,b<E.length->Sm (fun r=>(2*(r:Int)+1)*W (bo E r)) (E.getD b 0)=Sm (fun b=>ar (E.getD b 0,E.getD (b+1) 0)*W b) b
 | 0,_=>by rw[h.zero];rfl
 | b+1,hb=>by
   have hm:=h.mono (a:=b) (b:=b+1) (by omega) hb;have e:E.getD (b+1) 0=E.getD b 0+(E.getD (b+1) 0-E.getD b 0):=by omega
   rw[ca,<-h.rings W b (by omega)]
   conv=>lhs;rw[e]
   rw[vc];refine congrArg _ ?_;have:Sm (fun t=>(2*((E.getD b 0+t:Nat):Int)+1)*W (bo E (E.getD b 0+t))) (E.getD (b+1) 0-E.getD b 0)=Sm (fun t=>(2*((E.getD b 0+t:Nat):Int)+1)*W b) (E.getD (b+1) 0-E.getD b 0):=cA _ fun t ht=>by
    have hbo:bo E (E.getD b 0+t)=b:=by
     have h1:=(h.le_bo (r:=E.getD b 0+t) (j:=b) (by omega)).mp (by omega);have h2:=h.le_bo (r:=E.getD b 0+t) (j:=b+1) hb;omega
    rw[hbo]
   rw[this,A5,<-e];rfl
def qF {F:Nat->Int}:∀m,(∀r,r<m->F r=0)->Sm F m=0
 | 0,_=>rfl
 | m+1,h=>by rw[ca,qF m fun r hr=>h r (by omega),h m (by omega)];rfl
def Far.area (h:Far E val N){a:Nat}(ha:a<24*E.length)(hb:out (bO (24*E.length)) (vv E val) (24*E.length) a=false):GA (bO (24*N)) (uv val) (24*N) oP (ps E a)=GA (bO (24*E.length)) (vv E val) (24*E.length) (A0 E) a:=by
 have hN:=h.K;have hp:=h.bd.pos;have hpa:=h.bd.ps_lt ha
 let J:Nat->Bool:=fun c=>@decide _ (Classical.propDecidable (Hg (bO (24*E.length)) (vv E val) a c))
 have hJ:∀c,J c=true↔Hg (bO (24*E.length)) (vv E val) a c:=fun c=>by simp only[J,decide_eq_true_eq]
 let W:Nat->Int:=fun b=>Sm (fun t=>B6 (J (24*b+t))) 24
 have hW:W (E.length-1)=0:=qF 24 fun t ht=>by
  unfold B6;rw[if_neg];intro z;have:=h.out_last ht ((hJ _).mp z) ha;rw[hb] at this;cases this
 have e1:GA (bO (24*N)) (uv val) (24*N) oP (ps E a)=Sm (fun r=>(2*(r:Int)+1)*W (bo E r)) N:=by
  unfold GA;rw[jU];refine cA N fun r hr=>?_;rw[<-qH];refine cA 24 fun t ht=>?_;have hc:24*r+t<24*N:=by omega
  have hiff:Hg (bO (24*N)) (uv val) (ps E a) (24*r+t)↔J (24*bo E r+t)=true:=by
   rw[h.bd.hg_iff hpa hc,h.bd.ph_ps ha,hJ];have:ph E (24*r+t)=24*bo E r+t:=by unfold ph;rw[show (24*r+t) / 24=r by omega,show (24*r+t) % 24=t by omega]
   rw[this]
  unfold oP B6;rw[show (24*r+t) / 24=r by omega];by_cases z:J (24*bo E r+t)=true
  ·rw[if_pos (hiff.mpr z),if_pos z,Int.mul_one]
  ·rw[if_neg fun y=>z (hiff.mp y),if_neg z,Int.mul_zero]
 have e2:GA (bO (24*E.length)) (vv E val) (24*E.length) (A0 E) a=Sm (fun b=>ar (E.getD b 0,E.getD (b+1) 0)*W b) E.length:=by
  unfold GA;rw[jU];refine cA _ fun b hb=>?_;rw[<-qH];refine cA 24 fun t ht=>?_;unfold A0 B6;rw[show (24*b+t) / 24=b by omega];by_cases z:J (24*b+t)=true
  ·rw[if_pos ((hJ _).mp z),if_pos z,Int.mul_one]
  ·rw[if_neg fun y=>z ((hJ _).mpr y),if_neg z,Int.mul_zero]
 rw[e1,e2];have hK:E.length=(E.length-1)+1:=by omega
 have e3:Sm (fun b=>ar (E.getD b 0,E.getD (b+1) 0)*W b) E.length=Sm (fun b=>ar (E.getD b 0,E.getD (b+1) 0)*W b) (E.length-1):=by
  conv=>lhs;rw[hK]
  rw[ca,hW,Int.mul_zero,Int.add_zero]
 rw[e3,<-h.bd.rings W (E.length-1) (by omega)];refine E5 (Nat.le_of_lt hN) fun r hr=>?_;have:bo E r=E.length-1:=by
  have h1:=h.bd.bo_lt r;have h2:=(h.bd.le_bo (r:=r) (j:=E.length-1) (by omega)).mp hr;omega
 rw[this,hW,Int.mul_zero]
end
section
variable {β:Type}[DecidableEq β]{n:Nat}{v:Nat->β}{N:Nat}
def tU {α:Type}(f:α->Nat->Int)(m:Nat):∀l:List α,(l.map fun a=>Sm (f a) m).sum=Sm (fun c=>(l.map fun a=>f a c).sum) m
 | []=>(qF m fun _ _=>rfl).symm
 | a::l=>by
   rw[List.map_cons,List.sum_cons,tU f m l];have:∀m,Sm (f a) m+Sm (fun c=>(l.map fun a=>f a c).sum) m=Sm (fun c=>((a::l).map fun a=>f a c).sum) m:=fun m=>by
    induction m with
    | zero=>rfl
    | succ m ih =>
      rw[ca,ca,ca,<-ih,List.map_cons,List.sum_cons];omega
   exact this m
def lm {α:Type}(f:α->Int):∀l:List α,(∀a∈l,f a=0)->(l.map f).sum=0
 | [],_=>rfl
 | a::l,h=>by rw[List.map_cons,List.sum_cons,h a List.mem_cons_self,lm f l fun b hb=>h b (List.mem_cons_of_mem _ hb)];rfl
def ll {f:Nat->Int}{m:Nat}{x:Int}(hx:f m=x):∀l:List Nat,l.Nodup->m∈l->(∀a∈l,a≠m->f a=0)->(l.map f).sum=x
 | [],_,h,_=>by cases h
 | a::l,hn,hm,h=>by
   rw[List.nodup_cons] at hn;rw[List.map_cons,List.sum_cons];by_cases z:a=m
   ·subst z;rw[hx,lm f l fun b hb=>h b (List.mem_cons_of_mem _ hb) fun y=>hn.1 (y ▸ hb)];omega
   ·rcases List.mem_cons.mp hm with y | y
    ·exact absurd y.symm z
    ·rw[h a List.mem_cons_self z,ll hx l hn.2 y fun b hb=>h b (List.mem_cons_of_mem _ hb)];omega
def u7 {nb:Nat->List Nat}(hs:yf nb n)(h0:0<n)(q:β->Bool)(hq:q (v (n-1))=false)(F:Nat->Int) :
 ((((List.range n).filter fun d=>mn nb v d && !out nb v n d).filter fun a=>q (v a)).map (GA nb v n F)).sum=Sm (fun c=>if q (v c)=true then F c else 0) n:=by
 unfold GA;rw[tU (fun a c=>@ite _ (Hg nb v a c) (Classical.propDecidable _) (F c) 0)];refine cA n fun c hc=>?_;have hnd:(((List.range n).filter fun d=>mn nb v d && !out nb v n d).filter fun a=>q (v a)).Nodup:=(List.nodup_range.filter _).filter _;by_cases hqc:q (v c)=true
 ·rw[if_pos hqc];obtain⟨m,hm,hl⟩:=least (P:=fun d=>Hg nb v c d) c c (Nat.le_refl _) .refl;have hmn:=hm.lt hs hc;have hmc:=hm.symm hs hc;refine ll (m:=m) (by rw[if_pos hmc]) _ hnd ?_ fun a ha hne=>?_
  ·rw[List.mem_filter,List.mem_filter,List.mem_range,Bool.and_eq_true,fD,hm.val];refine⟨⟨hmn,fun d g=>hl d (hm.trans g),?_⟩,hqc⟩;cases z:out nb v n m with
   | false=>rfl
   | true =>
     rw[out_iff] at z;have:=z.val;rw[hm.val] at this;rw[this,hq] at hqc;cases hqc
  ·rw[if_neg];intro g;rw[List.mem_filter,List.mem_filter,List.mem_range,Bool.and_eq_true,fD] at ha;have a1:=hl a (g.symm hs ha.1.1);have a2:=ha.1.2.1 m (g.trans hm);omega
 ·rw[if_neg hqc];refine lm _ _ fun a ha=>?_;rw[if_neg];intro g;rw[List.mem_filter] at ha;rw[g.val] at hqc;exact hqc ha.2
end
def nT:∀(l l':List Nat),l.Nodup->(∀x∈l,x∈l')->l.length<=l'.length
 | [],_,_,_=>Nat.zero_le _
 | a::l,l',hn,h=>by
   rw[List.nodup_cons] at hn;have hm:=h a List.mem_cons_self;have:=nT l (l'.erase a) hn.2 fun x hx=>(List.mem_erase_of_ne (show x≠a from fun z=>hn.1 (z ▸ hx))).mpr (h x (List.mem_cons_of_mem _ hx));rw[List.length_erase_of_mem hm] at this;have:=List.length_pos_of_mem hm;rw[List.length_cons];omega
def pN (r t r' t':Nat):∀(s:List Pc) (k:Nat),(∀p∈s,p.has r t=p.has r' t')->aO k s r t=aO k s r' t'
 | [],_,_=>rfl
 | p::s,k,h=>by rw[aO,aO,h p List.mem_cons_self,pN r t r' t' s (k+1) fun q hq=>h q (List.mem_cons_of_mem _ hq)]
def GY (p:Pc)(r:Nat):Nat:=(List.range 23).countP fun t=>p.has r t != p.has r (t+1)
def ES:∀b,b<24->∀w,w<=24->(List.range 23).countP (fun t=>decide ((t+24-b) % 24<w) != decide ((t+1+24-b) % 24<w))<=2:=by decide +kernel
def ET {p:Pc}(h:p.ok)(r:Nat):GY p r<=if p.i<=r/\r<p.o then 2 else 0:=by
 obtain⟨h1,h2,h3,h4,h5⟩:=h;unfold GY Pc.has Pc.at;split
 ·rename_i z;have:=ES p.b (by omega) p.w (by omega);simpa[z.1,z.2] using this
 ·rename_i z;rw[Nat.le_zero,List.countP_eq_zero];intro t _;have:(decide (p.i<=r)&&decide (r<p.o))=false:=by simp;omega
  simp[this]
def oQ {α:Type}(q:Nat->α->Bool):∀(s:List α) (l:List Nat),l.countP (fun t=>s.any (q t))<=(s.map fun p=>l.countP fun t=>q t p).sum
 | [],l=>by simp
 | p::s,l=>by
   have ih:=oQ q s l;rw[List.map_cons,List.sum_cons];have:l.countP (fun t=>(p::s).any (q t))<=l.countP (fun t=>q t p)+l.countP fun t=>s.any (q t):=by
    clear ih;induction l with
    | nil=>simp
    | cons t l ih =>
      simp only[List.any_cons] at ih ⊢;rw[List.countP_cons,List.countP_cons,List.countP_cons];cases q t p <;> cases s.any (q t) <;> simp <;> omega
   omega
noncomputable def AS (E:List Nat)(v:Nat->List Nat)(b:Nat):List Nat:=(24*b)::((List.range 23).filter fun t=>v (24*b+t) != v (24*b+t+1)).map fun t=>24*b+t+1
def AR {s:List Pc}(h:∀p∈s,p.ok)(E:List Nat)(b:Nat):(AS E (vv E (aO 0 s)) b).length<=1+(s.map fun p=>if p.i<=E.getD b 0/\E.getD b 0<p.o then 2 else 0).sum:=by
 unfold AS;rw[List.length_cons,List.length_map,<-List.countP_eq_length_filter];have h1:(List.range 23).countP (fun t=>vv E (aO 0 s) (24*b+t) != vv E (aO 0 s) (24*b+t+1))<=(List.range 23).countP fun t=>s.any fun p=>p.has (E.getD b 0) t != p.has (E.getD b 0) (t+1):=List.countP_mono_left fun t ht hne=>by
  rw[List.mem_range] at ht;unfold vv at hne;rw[show (24*b+t) / 24=b by omega,show (24*b+t) % 24=t by omega,show (24*b+t+1) / 24=b by omega,show (24*b+t+1) % 24=t+1 by omega] at hne;cases z:s.any fun p=>p.has (E.getD b 0) t != p.has (E.getD b 0) (t+1) with
  | true=>rfl
  | false =>
    rw[List.any_eq_false] at z;have:=pN (E.getD b 0) t (E.getD b 0) (t+1) s 0 fun p hp=>by simpa using z p hp
    rw[this] at hne;simp at hne
 have h2:=oQ (fun t (p:Pc)=>p.has (E.getD b 0) t != p.has (E.getD b 0) (t+1)) s (List.range 23);have h3:(s.map fun p=>(List.range 23).countP fun t=>p.has (E.getD b 0) t != p.has (E.getD b 0) (t+1)).sum<=(s.map fun p=>if p.i<=E.getD b 0/\E.getD b 0<p.o then 2 else 0).sum:=by
  clear h1 h2;induction s with
  | nil=>simp
  | cons p s ih =>
    have a1:=ET (h p List.mem_cons_self) (E.getD b 0);have a2:=ih fun q hq=>h q (List.mem_cons_of_mem _ hq);unfold GY at a1;rw[List.map_cons,List.sum_cons,List.map_cons,List.sum_cons];omega
 omega
def su {E:List Nat}{val:Nat->Nat->List Nat}{N:Nat}(h:Far E val N):∀c∈ni E val,c∈(List.range (E.length-1)).flatMap (AS E (vv E val)):=fun c hc=>by
 have hp:=h.bd.pos;unfold ni at hc;rw[List.mem_filter,List.mem_range,Bool.and_eq_true,fD] at hc;obtain⟨hlt,hm,ho⟩:=hc;rw[List.mem_flatMap];refine⟨c / 24,List.mem_range.mpr ?_,?_⟩
 ·rcases Nat.lt_or_ge (c / 24) (E.length-1) with z | z
  ·exact z
  ·exfalso;have e:c=24*(E.length-1)+c % 24:=by omega
   have:=h.out_last (t:=c % 24) (a:=c) (Nat.mod_lt _ (by decide)) (e ▸ .refl) hlt;rw[this] at ho;cases ho
 ·unfold AS;by_cases z:c % 24=0
  ·exact List.mem_cons.mpr (.inl (by omega))
  ·refine List.mem_cons_of_mem _ (List.mem_map.mpr ⟨c % 24-1,List.mem_filter.mpr ⟨List.mem_range.mpr (by omega),?_⟩,by omega⟩);rw[show 24*(c / 24)+(c % 24-1)+1=c by omega];have hne:vv E val (24*(c / 24)+(c % 24-1))≠vv E val c:=fun e=>by
    have g:Hg (bO (24*E.length)) (vv E val) c (24*(c / 24)+(c % 24-1)):=.step .refl (nb_mem.mpr (.inr (.inl (by unfold qC;omega)))) e;have:=hm _ g;omega
   simpa using hne
def sD (f:Nat->List Nat):∀l:List Nat,(l.flatMap f).length=(l.map fun b=>(f b).length).sum
 | []=>rfl
 | b::l=>by rw[List.flatMap_cons,List.length_append,List.map_cons,List.sum_cons,sD f l]
def yH {f g:Nat->Nat}:∀l:List Nat,(∀b∈l,f b<=g b)->(l.map f).sum<=(l.map g).sum
 | [],_=>Nat.le_refl _
 | b::l,h=>by
   rw[List.map_cons,List.map_cons,List.sum_cons,List.sum_cons];have:=h b List.mem_cons_self;have:=yH l fun c hc=>h c (List.mem_cons_of_mem _ hc);omega
noncomputable def yg (E:List Nat)(p:Pc)(m:Nat):Nat:=((List.range m).map fun b=>if p.i<=E.getD b 0/\E.getD b 0<p.o then 2 else 0).sum
def vn (E:List Nat):∀(s:List Pc) (m:Nat),((List.range m).map fun b=>1+(s.map fun p=>if p.i<=E.getD b 0/\E.getD b 0<p.o then 2 else 0).sum).sum=m+(s.map fun p=>yg E p m).sum
 | [],m=>by
   induction m with
   | zero=>rfl
   | succ m ih=>rw[List.range_succ,List.map_append,List.sum_append,ih];simp
 | p::s,m=>by
   have ih:=vn E s m;rw[List.map_cons,List.sum_cons];have:((List.range m).map fun b=>1+((p::s).map fun p=>if p.i<=E.getD b 0/\E.getD b 0<p.o then 2 else 0).sum).sum=yg E p m+((List.range m).map fun b=>1+(s.map fun p=>if p.i<=E.getD b 0/\E.getD b 0<p.o then 2 else 0).sum).sum:=by
    clear ih;unfold yg;induction m with
    | zero=>rfl
    | succ m ih =>
      rw[List.range_succ,List.map_append,List.sum_append,List.map_append,List.sum_append,List.map_append,List.sum_append,ih];simp only[List.map_cons,List.map_nil,List.sum_cons,List.sum_nil];omega
   omega
def tW (E:List Nat)(p:Pc):∀m,yg E p m<=2*m
 | 0=>Nat.le_refl _
 | m+1=>by
   have ih:=tW E p m;unfold yg at ih ⊢;rw[List.range_succ,List.map_append,List.sum_append];simp only[List.map_cons,List.map_nil,List.sum_cons,List.sum_nil];split <;> omega
def pX {f:Pc->Nat}{x:Nat}:∀s:List Pc,(∀p∈s,f p<=x)->(s.map f).sum<=x*s.length
 | [],_=>Nat.zero_le _
 | p::s,h=>by
   have a1:=h p List.mem_cons_self;have a2:=pX s fun q hq=>h q (List.mem_cons_of_mem _ hq);rw[List.map_cons,List.sum_cons,List.length_cons,Nat.mul_succ];omega
def sa {f:Pc->Nat}{x y:Nat}{p0:Pc}(hy:f p0+y<=x):∀s:List Pc,(∀p∈s,f p<=x)->p0∈s->(s.map f).sum+y<=x*s.length
 | [],_,h=>by cases h
 | p::s,h,hm=>by
   have a1:=h p List.mem_cons_self;rw[List.map_cons,List.sum_cons,List.length_cons,Nat.mul_succ];rcases List.mem_cons.mp hm with e | e
   ·subst e;have a2:=pX s fun q hq=>h q (List.mem_cons_of_mem _ hq);omega
   ·have a2:=sa hy s (fun q hq=>h q (List.mem_cons_of_mem _ hq)) e;omega
def oR:∀(E:List Nat) (a:Nat),E.Pairwise (·<·)->(∀x∈E,a<=x/\x<7)->E.length=7-a->∀b,b<E.length->E.getD b 0=a+b
 | [],_,_,_,_,b,hb=>by simp at hb
 | e::E,a,hp,hr,hl,b,hb=>by
   rw[List.pairwise_cons] at hp;have hlen:=gi E (e+1) 7 hp.2 fun x hx=>⟨hp.1 x hx,(hr x (List.mem_cons_of_mem _ hx)).2⟩;have he:=hr e List.mem_cons_self;rw[List.length_cons] at hl hb;have ea:e=a:=by omega
   subst ea;cases b with
   | zero=>simp
   | succ b =>
     rw[List.getD_cons_succ,oR E (e+1) hp.2 (fun x hx=>⟨hp.1 x hx,(hr x (List.mem_cons_of_mem _ hx)).2⟩) (by omega) b (by omega)];omega
def uI {s:List Pc}(h:∀p∈s,p.ok)(ho:∀p∈s,p.o<=6)(hl:s.length<=5){N:Nat}(hF:Far (ag s) (aO 0 s) N):(ni (ag s) (aO 0 s)).length<64:=by
 have h1:=nT _ _ (List.nodup_range.filter _) (su hF);rw[sD] at h1;have h2:=yH (f:=fun b=>(AS (ag s) (vv (ag s) (aO 0 s)) b).length) (List.range ((ag s).length-1)) fun b _=>AR h (ag s) b;rw[vn] at h2;have hE:=iz h ho;have h3:(ni (ag s) (aO 0 s)).length<=((ag s).length-1)+(s.map fun p=>yg (ag s) p ((ag s).length-1)).sum:=Nat.le_trans h1 h2;by_cases z:(ag s).length<=6
 ·have h4:=pX (f:=fun p=>yg (ag s) p ((ag s).length-1)) (x:=10) s fun p _=>Nat.le_trans (tW _ p _) (by omega);omega
 ·have e7:(ag s).length=7:=by omega
  have lt7:∀x∈ag s,0<=x/\x<7:=fun x hx=>⟨Nat.zero_le _,wo h (N:=7) (by decide) (fun p hp=>by have:=ho p hp;omega) hx⟩;have hE7:=oR (ag s) 0 (aY s) lt7 (by omega);have h2m:2∈ag s:=by
   have:=getD_mem (E:=ag s) (b:=2) (by omega);rw[hE7 2 (by omega)] at this;exact this
  have:=(di h 2).mp h2m;unfold gr at this;rcases List.mem_cons.mp this with q | q
  ·omega
  obtain⟨p0,hp0,hx⟩:=List.mem_flatMap.mp q;simp only[List.mem_cons,List.not_mem_nil,or_false] at hx;rw[e7] at h3;have hs0:yg (ag s) p0 6+4<=12:=by
   have g:∀b,b<7->(ag s).getD b 0=b:=fun b hb=>by rw[hE7 b (by omega)];omega
   have i0:=(h p0 hp0).1;unfold yg;rw[show List.range 6=[0,1,2,3,4,5] from rfl];simp only[List.map_cons,List.map_nil,List.sum_cons,List.sum_nil,g 0 (by decide),g 1 (by decide),g 2 (by decide),g 3 (by decide),g 4 (by decide),g 5 (by decide)];rcases hx with e | e
   ·rw[<-e];repeat' split
    all_goals omega
   ·rw[<-e];repeat' split
    all_goals omega
  have h4:=sa (f:=fun p=>yg (ag s) p 6) (x:=12) (y:=4) hs0 s (fun p _=>tW _ p 6) hp0;have:(ag s).length-1=6:=by omega
  have h5:(s.map fun p=>yg (ag s) p (7-1)).sum=(s.map fun p=>yg (ag s) p 6).sum:=rfl;omega
end DL.Pg
namespace DL.Pg
open PySem DL
def eK:MS:=(bM (az gF (az bN (ab 0) (eC (.int 0))) (az bN (ab 0) (eC (.int 1)))))
def bR:MF:=fJ 1 1 eK
def iC:MS:=(aJ (bp (ah bR (ac (az bN (ab 1) (eC (.int 0))) ak)) (gN 2))
 (aJ (bp (ah cM (ac (bq 1 [2] (br (ab 0)) (gN 0) (tV (cV oLt oLe (eC (.int 0)) (ab 0) (ab 1))) (ab 0)) ak)) (gN 3))
 (bM (az bG (az bQ (eC (.int 24)) (ab 3)) (az oMod (ah bR (ac (az bN (ab 1) (eC (.int 1))) ak)) (eC (.int 24)))))))
def eV:MF:=fJ 2 4 iC
def dh:MS:=(aJ (bp (az oMod (ab 0) (ab 1)) (gN 2))
 (aJ (bp (ab 1) (gN 0))
 (bp (ab 2) (gN 1))))
def ft:MS:=(aJ (bp (ah e8 (ac (ab 0) ak)) (gN 3))
 (bM (Cj (ah eV (ac (ab 3) (ac (ab 2) ak))) (ah aN (ac (ah cN (ac (ab 0) (ac (ab 3) ak))) (ac (ah eV (ac (ab 3) (ac (ab 1) ak))) ak))))))
def g9:MF:=fJ 3 4 ft
end DL.Pg
namespace DL.K06
open PySem DL DL.Pg DL.Lw
def b__law_fraction_1:MS:=(Fv 2 3 (ab 3) (az oMod (ab 2) (ab 3)))
def b__law_fraction:MS:=(aJ (bp (ah Et (ac (ab 0) ak)) (gN 2))
 (aJ (bp (ab 1) (gN 3))
 (aJ (fB (tV (az FP (ab 3) (eC (.int 0))))
 b__law_fraction_1)
 (bM (cG (ac (az gF (ab 0) (ab 2)) (ac (az gF (ab 1) (ab 2)) ak)))))))
def m__law_fraction:MF:=fJ 2 4 b__law_fraction
def b__law_point:MS:=(aJ (bp (ah m__law_fraction (ac (az bG (eC (.int 1)) (ah aK (ac (ab 0) (ac (eC (.int 9929)) (ac (az bG (az bQ (eC (.int 4)) (ab 1)) (eC (.int 8))) ak))))) (ac (eC (.int 4)) ak))) (gN 2))
 (bM (cG (ac (ab 2) (ac (ah m__law_fraction (ac (ah aK (ac (ab 0) (ac (eC (.int 9923)) (ac (eC (.int 72)) ak)))) (ac (eC (.int 3)) ak))) ak)))))
def m__law_point:MF:=fJ 2 3 b__law_point
end DL.K06
namespace DL.Lw
open PySem DL DL.Pg
def dU:MS:=(aJ (bp (ab 1) (gT (be (gN 2) (be (gN 3) eg))))
 (aJ (bp (cw (ac (cG (ac (az jw (ab 2) (eC (.int 1))) (ac (ab 3) ak))) (ac (cG (ac (az bG (ab 2) (eC (.int 1))) (ac (ab 3) ak))) (ac (cG (ac (ab 2) (ac (az oMod (az bG (ab 3) (eC (.int 1))) (eC (.int 24))) ak))) (ac (cG (ac (ab 2) (ac (az oMod (az jw (ab 3) (eC (.int 1))) (eC (.int 24))) ak))) ak))))) (gN 4))
 (bM (bq 1 [0] (br (ab 4)) (gN 0) (tV (az (pJ false) (ab 0) (ab 1))) (ab 0)))))
def fF:MF:=fJ 2 5 dU
def cY:MS:=(qP (lj (tV (uM 7 4 true (ab 6))) (tV (az oEq (p7 (ab 0) (ab 6)) (p7 (ab 0) (i8 7 [3] (az bN (ab 3) (eC (.int 0)))))))) (aJ (rp 7 4 (ab 6) (eC (.bl true)))
 (kN 7 3 (ab 6))) iF)
def cZ:MS:=(aJ (gQ (br (ah fF (ac (ab 0) (ac (i8 7 [3] (az bN (ab 3) (ab 5))) ak)))) (gN 6)
 cY)
 (bp (az bG (ab 5) (eC (.int 1))) (gN 5)))
def db:MS:=(aJ (du 7 3 (cw (ac (az bN (ab 1) (eC (.int 0))) ak)))
 (aJ (du 7 4 (kX (az bN (ab 1) (eC (.int 0))) (eC (.bl true))))
 (aJ (bp (eC (.int 0)) (gN 5))
 (aJ (fB (tV (az oLt (ab 5) (i8 7 [3] (ah cM (ac (ab 3) ak)))))
 cZ)
 (mY 7 [3] (nH 7 4 (aJ (bp (bq 1 [4] (br (ab 1)) (gN 0) (tV (az (pJ true) (ab 0) (ab 1))) (ab 0)) (gN 1))
 (kN 7 2 (ab 3)))))))))
def dS:MS:=(aJ (bp (kF jY (ab 0)) (gN 1))
 (aJ (du 7 2 (cw ak))
 (aJ (fB (tV (ab 1))
 db)
 (mY 7 [2] (bM (ab 2))))))
def fE:MF:=fJ 1 14 dS
end DL.Lw
namespace DL.Pg
open PySem DL
def eM:MS:=(bM (ah pY (ac (bq 1 [1] (br (ab 0)) (gN 0) tT (ah cu (ac (az bN (ab 1) (az gF (ab 0) (eC (.int 24)))) ak))) ak)))
def cC:MF:=fJ 2 2 eM
def la:MS:=(aJ (bp (ah e8 (ac (ab 0) ak)) (gN 1))
 (aJ (bp (ah cU (ac (ab 1) ak)) (gN 2))
 (aJ (bp (ah cN (ac (ab 0) (ac (ab 1) ak))) (gN 3))
 (bM (ah fc (ac (kF jX (bq 1 [3,2] (br (ah cD (ac (ab 3) ak))) (gN 0) tT (cG (ac (az bN (ab 1) (az bN (ab 0) (eC (.int 0)))) (ac (ah cC (ac (ab 0) (ac (ab 2) ak))) ak))))) ak))))))
def eB:MF:=fJ 1 4 la
def eN:MS:=(bM (az bG (ah cM (ac (ah eB (ac (ab 0) ak)) ak)) (eC (.int 1))))
def bZ:MF:=fJ 1 1 eN
end DL.Pg
namespace DL.K05
open PySem DL DL.Pg DL.Lw
noncomputable abbrev m__law_fraction:MF:=K06.m__law_fraction
noncomputable abbrev b__law_fraction:MS:=K06.b__law_fraction
noncomputable abbrev b__law_fraction_1:MS:=K06.b__law_fraction_1
noncomputable abbrev m__law_point:MF:=K06.m__law_point
noncomputable abbrev b__law_point:MS:=K06.b__law_point
def fw:MS:=(bM (az bG (az bQ (eC (.int 2)) (az bN (ab 0) (eC (.int 0)))) (eC (.int 1))))
def dZ:MF:=fJ 1 1 fw
def eS:MS:=(aJ (bp (ab 0) (gT (be (gN 1) (be (gN 2) eg))))
 (bM (cG (ac (ah Ao (ac (eC (.int 7)) (ac (az gF (az bN (ab 1) (eC (.int 0))) (az bN (ab 1) (eC (.int 1)))) ak))) (ac (az gF (az bN (ab 2) (eC (.int 0))) (az bN (ab 2) (eC (.int 1)))) ak)))))
def bj:MF:=fJ 1 3 eS
def jQ:MS:=(qP (tV (az oLt (ah wl (ac (bq 1 [] (br (ab 6)) (gN 0) tT (az bN (ab 0) (eC (.int 0)))) ak)) (eC (.int 7)))) (kN 13 5 (cG (ac (p7 (ab 3) (az bN (ab 6) (eC (.int 0)))) (ac (ah pY (ac (bq 1 [] (br (ab 6)) (gN 0) tT (ah dZ (ac (ab 0) ak))) ak)) ak)))) iF)
def kY:MS:=(aJ (bp (az pH (bq 1 [9,10] (br (ab 4)) (gN 0) (lj (tV (az Ba (ah bj (ac (ab 1) ak)) (ab 0))) (tV (az Ba (ah bj (ac (ab 2) ak)) (ab 0)))) (ab 0)) (cw ak)) (gN 11))
 (aJ (bp (ah g9 (ac (ab 2) (ac (ab 9) (ac (ab 10) ak)))) (gN 12))
 (qP (Bl (yB (tV (ah (GV .bool) (ac (ab 12) ak)))) (tV (az pH (ab 12) (ab 11)))) (bM (eC (.bl false))) iF)))
def wH:MS:=(gQ (br (kF (Df 3) (ab 8))) (gN 10)
 kY)
def kZ:MS:=(aJ (bp (ah gn (ac (ab 1) (ac (eC (.int 6)) (ac (eC (.int 5)) ak)))) (gN 2))
 (aJ (bp (ah eF (ac (ab 2) (ac (eC (.int 7)) ak))) (gN 3))
 (aJ (bp (ah fE (ac (ab 3) ak)) (gN 4))
 (aJ (du 13 5 (cw ak))
 (aJ (gQ (br (ab 4)) (gN 6)
 jQ)
 (mY 13 [5] (aJ (bp (ah eB (ac (ab 2) ak)) (gN 7))
 (aJ (qP (Bl (tV (az pH (ab 7) (ah fc (ac (kF jX (ab 5)) ak)))) (tV (az pH (ah bZ (ac (ab 2) ak)) (ah cM (ac (ab 4) ak))))) (bM (eC (.bl false))) iF)
 (aJ (qP (tV (az pH (ah pY (ac (bq 2 [] (br (ab 7)) (gT (be (gN 0) (be (gN 1) eg))) (tV (ab 0)) (ab 1)) ak)) (ah dA (ac (ab 2) ak)))) (bM (eC (.bl false))) iF)
 (aJ (bp (bq 1 [] (br (GW (ab 0) (FH (eC (.int 2))) (FH (eC (.int 8))))) (gN 0) tT (ah m__law_point (ac (ab 0) (ac (eC (.int 6)) ak)))) (gN 8))
 (gQ (br (ab 8)) (gN 9)
 wH)))))))))))
def wJ:MS:=(aJ (gQ (br (kF (Df 2) (ab 0))) (gN 1)
 kZ)
 (bM (Eu (az oEq (ah eB (ac (cG ak) ak)) (cG ak)) (az oEq (ah bZ (ac (cG ak) ak)) (eC (.int 1))))))
def rT:MF:=fJ 1 26 wJ
end DL.K05
namespace DL.Lw
open PySem DL DL.Pg
def aL (c:Nat):D:=aE (c / 24,c % 24)
def pZ (c d:Nat):bP (aL c) (aL d)=decide (c=d):=by
 unfold aL;rw[wn,Bool.eq_iff_iff,decide_eq_true_eq,decide_eq_true_eq,Prod.mk.injEq];omega
def iD (R:List Nat)(o:Nat):((R.map aL).any fun q=>bP q (aL o))=decide (o∈R):=by
 rw[List.any_map,Bool.eq_iff_iff,List.any_eq_true,decide_eq_true_eq];constructor
 ·rintro⟨x,hx,e⟩;simp only[Function.comp,pZ,decide_eq_true_eq] at e;exact e ▸ hx
 ·intro h;exact⟨o,h,by simp[pZ]⟩
def CG (R:List Nat)(o:Nat)(h:o∉R):((R.map aL).all fun q => !bP q (aL o))=true:=by
 rw[List.all_eq_true];intro q hq;obtain⟨x,hx,rfl⟩:=List.mem_map.mp hq;have:x≠o:=fun z=>h (z ▸ hx);simp[pZ,this]
def rW (g:Nat->D)(c:Nat):∀l:List Nat,c∈l->lV (l.map aL) (l.map g) (aL c)=some (g c)
 | [],h=>by cases h
 | x::l,h=>by
   rw[List.map_cons,List.map_cons,lV,pZ];by_cases e:x=c
   ·subst e;simp
   ·simp only[e,decide_false];rcases List.mem_cons.mp h with z | z
    ·exact absurd z.symm e
    ·exact rW g c l z
def or3 (A B C:Prop):((A\/B)\/C)↔(C\/(B\/A)):=by
 constructor
 ·rintro ((h | h) | h)
  ·exact .inr (.inr h)
  ·exact .inr (.inl h)
  ·exact .inl h
 ·rintro (h | h | h)
  ·exact .inr h
  ·exact .inl (.inr h)
  ·exact .inl (.inl h)
section
variable {β:Type}[DecidableEq β]
def bI (f:β->D)(v:Nat->β)(n:Nat):D:=.dic true ((List.range n).map aL) ((List.range n).map fun c=>f (v c))
variable {f:β->D}{v:Nat->β}{n:Nat}
def Ax {d k:ME}{δ:Ev}{c:Nat}(hc:c<n)(hd:d δ=some (bI f v n))(hk:k δ=some (aL c)):p7 d k δ=some (f (v c)):=by
 unfold p7;rw[hd,hk];show (if fI (aL c)=true then lV ((List.range n).map aL) ((List.range n).map fun c=>f (v c)) (aL c) else none)=_;rw[if_pos (show fI (aL c)=true from rfl),rW (fun c=>f (v c)) c _ (List.mem_range.mpr hc)]
noncomputable def Aa (n:Nat)(a b:Int):Bool:=decide (0<=a/\0<=b/\b<24/\24*a+b<n)
def A2 (n:Nat)(a b:Int):(((List.range n).map aL).any fun q=>bP q (.tup [.int a,.int b]))=Aa n a b:=by
 rw[List.any_map,Bool.eq_iff_iff,List.any_eq_true];unfold Aa;rw[decide_eq_true_eq];have hq:∀c:Nat,bP (aL c) (.tup [.int a,.int b])=true↔((c / 24:Nat):Int)=a/\((c % 24:Nat):Int)=b:=fun c=>by
  unfold aL aE;simp only[bP,eI,Bool.and_true,Bool.and_eq_true,beq_iff_eq]
 constructor
 ·rintro⟨c,hc,e⟩;have:=(hq c).mp e;rw[List.mem_range] at hc;omega
 ·intro h;refine⟨(24*a+b).toNat,List.mem_range.mpr (by omega),(hq _).mpr ?_⟩;omega
def Bc (n:Nat):D->Option D
 | .tup [.int a,.int b]=>if Aa n a b=true then some (.tup [.int a,.int b]) else none
 | _=>none
def iR (n c:Nat):List Nat:=((if 24<=c then [c-24] else [])++(if c+24<n then [c+24] else []))++[qB c,qC c]
def nbL_mem {n c d:Nat}:d∈iR n c↔d∈bO n c:=by
 unfold iR bO;simp only[List.mem_append];exact or3 _ _ _
def Hg.congr {nb nb':Nat->List Nat}(h:∀c d,d∈nb c↔d∈nb' c){a b:Nat}:Hg nb v a b↔Hg nb' v a b:=by
 constructor
 ·intro g;induction g with
  | refl=>exact .refl
  | step _ m e ih=>exact .step ih ((h _ _).mp m) e
 ·intro g;induction g with
  | refl=>exact .refl
  | step _ m e ih=>exact .step ih ((h _ _).mpr m) e
def vV (N:Nat):yf (iR (24*N)) (24*N):=fun b c hb hc=>by
 have:=cg N b c hb (nbL_mem.mp hc);exact⟨this.1,nbL_mem.mpr this.2⟩
def li {a b:Int}{c:Nat}(h1:a=((c / 24:Nat):Int))(h2:b=((c % 24:Nat):Int)):D.tup [.int a,.int b]=aL c:=by
 rw[h1,h2];rfl
def y0 {N c:Nat}(hn:n=24*N)(hc:c<n):fF [bI f v n,aL c]=some (.lst ((iR n c).map aL)):=by
 refine bW rfl ?_;show dU [some (bI f v n),some (aL c),none,none,none]=_;unfold dU;rw[aw (aQ (d:=aL c) (δ':=[some (bI f v n),some (aL c),some (.int (c / 24:Nat)),some (.int (c % 24:Nat)),none]) rfl rfl)];generalize hr:((c / 24:Nat):Int)=r;generalize ht:((c % 24:Nat):Int)=t;rw[aw (aQ (d:=.lst [.tup [.int (r-1),.int t],.tup [.int (r+1),.int t],.tup [.int r,.int ((t+1) % 24)],.tup [.int r,.int ((t-1) % 24)]]) (δ':=[some (bI f v n),some (aL c),some (.int r),some (.int t),some (.lst [.tup [.int (r-1),.int t],.tup [.int (r+1),.int t],.tup [.int r,.int ((t+1) % 24)],.tup [.int r,.int ((t-1) % 24)]])]) rfl rfl)];have hcm:=bL (k:=1) (fv:=[0]) (i:=br (ab 4)) (g:=gN 0) (c:=tV (az (pJ false) (ab 0) (ab 1))) (e:=ab 0) (δ:=[some (bI f v n),some (aL c),some (.int r),some (.int t),some (.lst [.tup [.int (r-1),.int t],.tup [.int (r+1),.int t],.tup [.int r,.int ((t+1) % 24)],.tup [.int r,.int ((t-1) % 24)]])]) (Bc n) rfl (by simp) fun x hx=>by
  have hx':∃a b:Int,x=.tup [.int a,.int b]:=by
   simp only[List.mem_cons,List.not_mem_nil,or_false] at hx;rcases hx with rfl | rfl | rfl | rfl <;> exact⟨_,_,rfl⟩
  obtain⟨a,b,rfl⟩:=hx';refine⟨[some (.tup [.int a,.int b]),some (bI f v n)],rfl,?_⟩;have t1:tV (az (pJ false) (ab 0) (ab 1)) [some (.tup [.int a,.int b]),some (bI f v n)]=some (Aa n a b):=by
   show ((some (((List.range n).map aL).any fun q=>bP q (.tup [.int a,.int b]))).bind fun b=>some (D.bl (b != false))).bind truth=_;rw[A2];cases Aa n a b <;> rfl
  have eP:Bc n (.tup [.int a,.int b])=if Aa n a b=true then some (.tup [.int a,.int b]) else none:=rfl
  rw[t1,eP];by_cases h:Aa n a b=true
  ·exact .inl ⟨by rw[h],_,rfl,by rw[if_pos h]⟩
  ·exact .inr ⟨by simpa using h,by rw[if_neg h]⟩
 refine bA (hcm.trans (congrArg (fun l=>some (D.lst l)) ?_));have f1:Bc n (.tup [.int (r-1),.int t])=if 24<=c then some (aL (c-24)) else none:=by
  unfold Bc Aa;simp only[decide_eq_true_eq];by_cases h:24<=c
  ·rw[if_pos h,if_pos (by omega),li (c:=c-24) (by omega) (by omega)]
  ·rw[if_neg h,if_neg (by omega)]
 have f2:Bc n (.tup [.int (r+1),.int t])=if c+24<n then some (aL (c+24)) else none:=by
  unfold Bc Aa;simp only[decide_eq_true_eq];by_cases h:c+24<n
  ·rw[if_pos h,if_pos (by omega),li (c:=c+24) (by omega) (by omega)]
  ·rw[if_neg h,if_neg (by omega)]
 have f3:Bc n (.tup [.int r,.int ((t+1) % 24)])=some (aL (qB c)):=by
  unfold Bc Aa;simp only[decide_eq_true_eq];rw[if_pos (by omega),li (c:=qB c) (by unfold qB;omega) (by unfold qB;omega)]
 have f4:Bc n (.tup [.int r,.int ((t-1) % 24)])=some (aL (qC c)):=by
  unfold Bc Aa;simp only[decide_eq_true_eq];rw[if_pos (by omega),li (c:=qC c) (by unfold qC;omega) (by unfold qC;omega)]
 rw[List.filterMap_cons,List.filterMap_cons,List.filterMap_cons,List.filterMap_cons,List.filterMap_nil,f1,f2,f3,f4];unfold iR;by_cases h1:c+24<n <;> by_cases h2:24<=c <;> simp[h1,h2]
abbrev LS (cs left:D)(found:List D)(R:List Nat)(k:Nat)(x6:Option D):Ev:=[some cs,some left,none,none,none,some (.int k),x6,none,none,some (.lst found),some (.lst (R.map aL)),some (.dic true (R.map aL) (R.map fun _=>.bl true)),none,none]
def B2 (hf:Fd f){a:Nat}(ha:a<n){R:List Nat}(hd:R.head? = some a)(left:D)(found:List D)(k:Nat){o:Nat}(ho:o<n)(hl:R.length<=100000):cY (LS (bI f v n) left found R k (some (aL o))) =
 some (.nx (if o∉R/\decide (v o=v a)=true then LS (bI f v n) left found (R++[o]) k (some (aL o)) else LS (bI f v n) left found R k (some (aL o)))):=by
 have t1:tV (uM 7 4 true (ab 6)) (LS (bI f v n) left found R k (some (aL o)))=some (!decide (o∈R)):=by
  show ((some ((R.map aL).any fun q=>bP q (aL o))).bind fun b=>some (D.bl (b != true))).bind truth=_;rw[iD];cases decide (o∈R) <;> rfl
 have e0:i8 7 [3] (az bN (ab 3) (eC (.int 0))) (LS (bI f v n) left found R k (some (aL o)))=some (aL a):=by
  cases R with
  | nil=>cases hd
  | cons b R =>
    cases hd;show (bN (.lst ((a::R).map aL)) (.int 0)).bind (fun d=>if flat d=true then some d else none)=_;have ei:bN (.lst ((a::R).map aL)) (.int ((0:Nat):Int))=some (aL a):=h7 rfl;rw[show (D.int 0)=D.int ((0:Nat):Int) from rfl,ei];rfl
 have t2:tV (az oEq (p7 (ab 0) (ab 6)) (p7 (ab 0) (i8 7 [3] (az bN (ab 3) (eC (.int 0)))))) (LS (bI f v n) left found R k (some (aL o)))=some (decide (v o=v a)):=by
  refine iI (d:=.bl (decide (v o=v a))) ((aZ (Ax (c:=o) ho rfl rfl) (Ax (c:=a) ha rfl e0)).trans ?_) rfl;unfold oEq;rw[if_pos ⟨hf.dp _,hf.dp _⟩,hf.eq]
 unfold cY qP lj;rw[t1];simp only[Option.bind_some];by_cases h1:o∈R
 ·simp[h1,iF]
 ·simp only[h1,decide_false,Bool.not_false,if_true,t2,Option.bind_some];by_cases h2:v o=v a
  ·simp only[h2,decide_true,if_true,not_false_eq_true,and_self];have hlen:(R.map aL).length<16777216:=by rw[List.length_map];omega
   have p:rp 7 4 (ab 6) (eC (.bl true)) (LS (bI f v n) left found R k (some (aL o)))=some (.nx [some (bI f v n),some left,none,none,none,some (.int k),some (aL o),none,none,some (.lst found),some (.lst (R.map aL)),some (.dic true (R.map aL++[aL o]) ((R.map fun _=>D.bl true)++[.bl true])),none,none]):=by
    show (if fI (aL o)=true/\((R.map aL).all fun q => !bP q (aL o))=true/\(R.map aL).length<16777216 then _ else _)=_;rw[if_pos ⟨rfl,CG R o h1,hlen⟩];rfl
   rw[aw p];show (if (R.map aL).length<16777216 then _ else _)=_;rw[if_pos hlen];have e1:R.map aL++[aL o]=(R++[o]).map aL:=by rw[List.map_append];rfl
   have e2:(R.map fun _=>D.bl true)++[.bl true]=(R++[o]).map fun _=>D.bl true:=by rw[List.map_append];rfl
   unfold LS;rw[<-e1,<-e2];rfl
  ·simp[h2,iF]
def Ah {a:Nat}{R:List Nat}(h:R.head? = some a)(T:List Nat):(R++T).head? = some a:=by
 cases R with
 | nil=>cases h
 | cons b R=>exact h
def uz (hf:Fd f){a:Nat}(ha:a<n)(left:D)(found:List D)(k:Nat):∀(ns R:List Nat) (x6:Option D),R.head? = some a->(∀o∈ns,o<n)->R.length+ns.length<=100000->∃y6,
 cF (gN 6) cY (ns.map aL) (LS (bI f v n) left found R k x6)=some (.nx (LS (bI f v n) left found (grow (fun c=>decide (v c=v a)) R ns) k y6))
 | [],R,x6,_,_,_=>⟨x6,rfl⟩
 | o::ns,R,x6,hd,hn,hl=>by
   simp only[List.length_cons] at hl;have e1:=B2 (v:=v) hf ha hd left found k (hn o List.mem_cons_self) (by omega);rw[grow,List.map_cons];by_cases h:o∉R/\decide (v o=v a)=true
   ·rw[if_pos h] at e1 ⊢;obtain⟨y6,ih⟩:=uz hf ha left found k ns (R++[o]) (some (aL o)) (Ah hd _) (fun q hq=>hn q (List.mem_cons_of_mem _ hq)) (by simp;omega);exact⟨y6,by rw[cP (δ1:=LS (bI f v n) left found R k (some (aL o))) rfl e1,ih]⟩
   ·rw[if_neg h] at e1 ⊢;obtain⟨y6,ih⟩:=uz hf ha left found k ns R (some (aL o)) hd (fun q hq=>hn q (List.mem_cons_of_mem _ hq)) (by omega);exact⟨y6,by rw[cP (δ1:=LS (bI f v n) left found R k (some (aL o))) rfl e1,ih]⟩
def BX (n c:Nat):(iR n c).length<=4:=by
 unfold iR;split <;> split <;> simp
def xC (hf:Fd f){N:Nat}(hn:n=24*N)(hN:N<=1000){a:Nat}(ha:a<n)(left:D)(found:List D)(x6:Option D):∃R y6,
 fB (tV (az oLt (ab 5) (i8 7 [3] (ah cM (ac (ab 3) ak))))) cZ (LS (bI f v n) left found [a] 0 x6)=some (.nx (LS (bI f v n) left found R R.length y6))/\Bf (iR n) v n a R R.length:=by
 have hs:yf (iR n) n:=hn ▸ vV N
 let S:List Nat->Nat->Ev->Prop:=fun R k δ=>∃x6,δ=LS (bI f v n) left found R k x6
 obtain⟨M,R,δ',e,⟨y6,rfl⟩,hb⟩:=lg (v:=v) (a:=a) hs (c:=tV (az oLt (ab 5) (i8 7 [3] (ah cM (ac (ab 3) ak))))) (b:=cZ) S
  (fun R k δ hk ⟨x6,e⟩=>by
   subst e;have:tV (az oLt (ab 5) (i8 7 [3] (ah cM (ac (ab 3) ak)))) (LS (bI f v n) left found R k x6)=some (decide ((k:Int)<((R.map aL).length:Nat))):=rfl;rw[this,List.length_map];simp)
  (fun R k x δ hB hx ⟨x6,e⟩=>by
   subst e;have hxn:=hB.lt x (List.mem_of_getElem? hx);have hfew:=hB.few;have h4:=BX n x;obtain⟨y6,e2⟩:=uz (v:=v) hf ha left found k (iR n x) R x6 hB.hd (fun o ho=>(hs x o hxn ho).1) (by omega);refine⟨LS (bI f v n) left found (grow (fun c=>decide (v c=v a)) R (iR n x)) (k+1) y6,?_,_,rfl⟩;unfold cZ;have e1:i8 7 [3] (az bN (ab 3) (ab 5)) (LS (bI f v n) left found R k x6)=some (aL x):=by
    show (bN (.lst (R.map aL)) (.int k)).bind (fun d=>if flat d=true then some d else none)=_;have:(R.map aL)[k]? = some (aL x):=by rw[List.getElem?_map,hx];rfl
    rw[h7 this];rfl
   rw[aw ((cj (xs:=(iR n x).map aL) (by
    unfold br;rw[aV (x:=bI f v n) (y:=aL x) rfl e1,y0 hn hxn];rfl)).trans e2)]
   unfold LS;rw[Int.natCast_succ];rfl)
  n [a] 0 (LS (bI f v n) left found [a] 0 x6) (by omega) (Bf.start ha) ⟨_,rfl⟩
 exact⟨R,y6,io e,hb⟩
end
def nL:∀(m a:Nat),lC ((List.range' a m).map aL)=true
 | 0,_=>rfl
 | 1,a=>rfl
 | m+2,a=>by
   have ih:=nL (m+1) (a+1);rw[List.range'_succ,List.map_cons] at ih ⊢;rw[List.range'_succ,List.map_cons];rw[lC,ih];have:FS (aL a) (aL (a+1))=true:=by
    show (decide (((a / 24:Nat):Int)<(((a+1) / 24:Nat):Int))||(decide (((a / 24:Nat):Int)=(((a+1) / 24:Nat):Int))&&decide (((a % 24:Nat):Int)<(((a+1) % 24:Nat):Int))))=true;simp only[Bool.or_eq_true,Bool.and_eq_true,decide_eq_true_eq];omega
   rw[this];rfl
section
variable {β:Type}[DecidableEq β]{f:β->D}{v:Nat->β}{n:Nat}
def fM (Gs:List (List Nat)):List D:=Gs.map fun R=>.lst (R.map aL)
structure Kl (nb:Nat->List Nat)(v:Nat->β)(n:Nat)(Lf:List Nat)(Gs:List (List Nat)):Prop where
 ris:Lf.Pairwise (·<·)
 mem:∀u,u∈Lf↔u<n/\∀h∈Gs.map (fun R=>R.headD 0),¬ Hg nb v h u
 hds:Gs.map (fun R=>R.headD 0)++Lf.filter (mn nb v)=(List.range n).filter (mn nb v)
 bf:∀R∈Gs,∃a,a<n/\Bf nb v n a R R.length
abbrev GS (cs:D)(Lf:List Nat)(x3 x4 x5 x6:Option D)(Gs:List (List Nat)):Ev:=[some cs,some (.lst (Lf.map aL)),none,x3,x4,x5,x6,none,none,some (.lst (fM Gs)),none,none,none,none]
def jG {nb:Nat->List Nat}{a:Nat}{R:List Nat}{k:Nat}(h:Bf nb v n a R k):R.headD 0=a:=by
 have:=h.hd;cases R with
 | nil=>cases this
 | cons b R=>cases this;rfl
def zW (R:List Nat):D->Option D
 | .tup [.int r,.int t]=>if ((R.map aL).any fun q=>bP q (.tup [.int r,.int t]))=true then none else some (.tup [.int r,.int t])
 | _=>none
def sk (R:List Nat)(c:Nat):zW R (aL c)=if c∈R then none else some (aL c):=by
 show (if ((R.map aL).any fun q=>bP q (aL c))=true then none else some (aL c))=_;rw[iD];by_cases h:c∈R <;> simp[h]
def so (R:List Nat):∀l:List Nat,(l.map aL).filterMap (zW R)=(l.filter fun c=>decide (c∉R)).map aL
 | []=>rfl
 | c::l=>by
   rw[List.map_cons,List.filterMap_cons,sk,List.filter_cons,so R l];by_cases h:c∈R <;> simp[h]
def zT (hf:Fd f){N:Nat}(hn:n=24*N)(hN:N<=1000){a:Nat}{Lf:List Nat}{Gs:List (List Nat)}(h:Kl (iR n) v n (a::Lf) Gs)(x3 x4 x5 x6:Option D):∃R y3 y4 y5 y6,
 db (GS (bI f v n) (a::Lf) x3 x4 x5 x6 Gs)=some (.nx (GS (bI f v n) ((a::Lf).filter fun c=>decide (c∉R)) y3 y4 y5 y6 (Gs++[R])))/\Kl (iR n) v n ((a::Lf).filter fun c=>decide (c∉R)) (Gs++[R])/\a∈R:=by
 have hs:yf (iR n) n:=hn ▸ vV N;have ham:=(h.mem a).mp List.mem_cons_self;have ha:=ham.1;obtain⟨R,y6,e,hB⟩:=xC (v:=v) hf hn hN ha (.lst ((a::Lf).map aL)) (fM Gs) x6;have haR:a∈R:=(hB.mem a).mpr .refl;have hLl:(a::Lf).length<=n:=by
  have:=gi (a::Lf) 0 n h.ris fun x hx=>⟨Nat.zero_le _,((h.mem x).mp hx).1⟩;omega
 have hGl:Gs.length<=n:=by
  have:=congrArg List.length h.hds;rw[List.length_append,List.length_map] at this;have:=List.length_filter_le (mn (iR n) v) (List.range n);rw[List.length_range] at this;omega
 refine⟨R,some (.lst (R.map aL)),some (.dic true (R.map aL) (R.map fun _=>.bl true)),some (.int R.length),y6,?_,?_,haR⟩
 ·unfold db;have i0:bN (.lst ((a::Lf).map aL)) (.int 0)=some (aL a):=by
   have:bN (.lst ((a::Lf).map aL)) (.int ((0:Nat):Int))=some (aL a):=h7 rfl;exact this
  have o1:du 7 3 (cw (ac (az bN (ab 1) (eC (.int 0))) ak)) (GS (bI f v n) (a::Lf) x3 x4 x5 x6 Gs)=some (.nx [some (bI f v n),some (.lst ((a::Lf).map aL)),none,none,x4,x5,x6,none,none,some (.lst (fM Gs)),some (.lst [aL a]),none,none,none]):=by
   unfold du cw ac ak;rw[aZ (x:=.lst ((a::Lf).map aL)) (y:=.int 0) rfl rfl,i0];rfl
  rw[aw o1];have o2:du 7 4 (kX (az bN (ab 1) (eC (.int 0))) (eC (.bl true))) [some (bI f v n),some (.lst ((a::Lf).map aL)),none,none,x4,x5,x6,none,none,some (.lst (fM Gs)),some (.lst [aL a]),none,none,none]=some (.nx [some (bI f v n),some (.lst ((a::Lf).map aL)),none,none,none,x5,x6,none,none,some (.lst (fM Gs)),some (.lst [aL a]),some (.dic true [aL a] [.bl true]),none,none]):=by
   unfold du kX;rw[aZ (x:=.lst ((a::Lf).map aL)) (y:=.int 0) rfl rfl,i0];rfl
  rw[aw o2];rw[aw (aQ (d:=.int 0) (δ':=LS (bI f v n) (.lst ((a::Lf).map aL)) (fM Gs) [a] 0 x6) rfl rfl)];rw[aw e];show aJ (bp (bq 1 [4] (br (ab 1)) (gN 0) (tV (az (pJ true) (ab 0) (ab 1))) (ab 0)) (gN 1)) (kN 7 2 (ab 3)) [some (bI f v n),some (.lst ((a::Lf).map aL)),none,some (.lst (R.map aL)),some (.dic true (R.map aL) (R.map fun _=>.bl true)),some (.int R.length),y6,none,none,some (.lst (fM Gs)),none,none,none,none]=_;have hc:=bL (k:=1) (fv:=[4]) (i:=br (ab 1)) (g:=gN 0) (c:=tV (az (pJ true) (ab 0) (ab 1))) (e:=ab 0) (δ:=[some (bI f v n),some (.lst ((a::Lf).map aL)),none,some (.lst (R.map aL)),some (.dic true (R.map aL) (R.map fun _=>.bl true)),some (.int R.length),y6,none,none,some (.lst (fM Gs)),none,none,none,none]) (xs:=(a::Lf).map aL) (zW R) rfl (by rw[List.length_map];omega) fun x hx=>by
   obtain⟨c,_,rfl⟩:=List.mem_map.mp hx;refine⟨[some (aL c),some (.dic true (R.map aL) (R.map fun _=>.bl true))],rfl,?_⟩;have t1:tV (az (pJ true) (ab 0) (ab 1)) [some (aL c),some (.dic true (R.map aL) (R.map fun _=>.bl true))]=some (!decide (c∈R)):=by
    show ((some ((R.map aL).any fun q=>bP q (aL c))).bind fun b=>some (D.bl (b != true))).bind truth=_;rw[iD];cases decide (c∈R) <;> rfl
   rw[t1,sk];by_cases hcr:c∈R
   ·exact .inr ⟨by simp[hcr],by simp[hcr]⟩
   ·exact .inl ⟨by simp[hcr],_,rfl,by simp[hcr]⟩
  rw[so] at hc;rw[aw (aQ (δ':=[some (bI f v n),some (.lst (((a::Lf).filter fun c=>decide (c∉R)).map aL)),none,some (.lst (R.map aL)),some (.dic true (R.map aL) (R.map fun _=>.bl true)),some (.int R.length),y6,none,none,some (.lst (fM Gs)),none,none,none,none]) hc rfl)];show (if (fM Gs).length<16777216 then _ else _)=_;rw[if_pos (by unfold fM;rw[List.length_map];omega)];have e2:fM Gs++[.lst (R.map aL)]=fM (Gs++[R]):=by unfold fM;rw[List.map_append];rfl
  unfold GS;rw[<-e2];rfl
 ·have hh:=jG hB;have hmin:mn (iR n) v a=true:=(kU hs ha).mpr fun d hd g=>by
   have hdL:d∉a::Lf:=fun z=>by
    rcases List.mem_cons.mp z with z | z
    ·omega
    ·have:=(List.pairwise_cons.mp h.ris).1 d z;omega
   have:¬ ∀q∈Gs.map (fun R=>R.headD 0),¬ Hg (iR n) v q d:=fun z=>hdL ((h.mem d).mpr ⟨by omega,z⟩);refine this fun q hq gq=>ham.2 q hq (gq.trans g)
  constructor
  ·exact h.ris.filter _
  ·intro u;rw[List.mem_filter,h.mem,decide_eq_true_eq,hB.mem,List.map_append,List.map_cons,List.map_nil,hh];constructor
   ·rintro⟨⟨h1,h2⟩,h3⟩;refine⟨h1,fun q hq=>?_⟩;rcases List.mem_append.mp hq with z | z
    ·exact h2 q z
    ·rw[List.mem_singleton] at z;subst z;exact h3
   ·rintro⟨h1,h2⟩;exact⟨⟨h1,fun q hq=>h2 q (List.mem_append_left _ hq)⟩,h2 a (List.mem_append_right _ (by simp))⟩
  ·rw[<-h.hds,List.map_append,List.map_cons,List.map_nil,hh,List.append_assoc];refine congrArg _ ?_;rw[List.filter_cons,if_neg (by simp[haR]),List.filter_cons,if_pos hmin,List.singleton_append,List.filter_filter];refine congrArg _ (List.filter_congr fun b hb=>?_);cases hm:mn (iR n) v b with
   | false=>rfl
   | true =>
     have hab:=(List.pairwise_cons.mp h.ris).1 b hb;have hbn:=((h.mem b).mp (List.mem_cons_of_mem _ hb)).1;have:b∉R:=fun z=>(kU hs hbn).mp hm a hab ((hB.mem b).mp z);simp[this]
  ·intro Q hQ;rcases List.mem_append.mp hQ with z | z
   ·exact h.bf Q z
   ·rw[List.mem_singleton] at z;subst z;exact⟨a,ha,hB⟩
def v6 (hf:Fd f){N:Nat}(hn:n=24*N)(hN:N<=1000):∀(m:Nat) (Lf:List Nat) (Gs:List (List Nat)) (x3 x4 x5 x6:Option D),Lf.length<=m->Kl (iR n) v n Lf Gs->∃M Gs' y3 y4 y5 y6,
 kM (tV (ab 1)) db M (GS (bI f v n) Lf x3 x4 x5 x6 Gs)=some (.nx (GS (bI f v n) [] y3 y4 y5 y6 Gs'))/\Kl (iR n) v n [] Gs'
 | m,[],Gs,x3,x4,x5,x6,_,h=>⟨1,Gs,x3,x4,x5,x6,rfl,h⟩
 | 0,a::Lf,Gs,x3,x4,x5,x6,hm,h=>by simp at hm
 | m+1,a::Lf,Gs,x3,x4,x5,x6,hm,h=>by
   obtain⟨R,z3,z4,z5,z6,e,h1,haR⟩:=zT hf hn hN h x3 x4 x5 x6;have hlt:((a::Lf).filter fun c=>decide (c∉R)).length<=m:=by
    rw[List.filter_cons,if_neg (by simp[haR])];have:=List.length_filter_le (fun c=>decide (c∉R)) Lf;simp only[List.length_cons] at hm;omega
   obtain⟨M,Gs',y3,y4,y5,y6,e2,h2⟩:=v6 hf hn hN m _ (Gs++[R]) z3 z4 z5 z6 hlt h1;refine⟨M+1,Gs',y3,y4,y5,y6,?_,h2⟩;rw[kM,show tV (ab 1) (GS (bI f v n) (a::Lf) x3 x4 x5 x6 Gs)=some true from rfl];simp only[Option.bind_some,if_true];rw[e];simp only[Option.bind_some];exact e2
def o9 (hf:Fd f){N:Nat}(hn:n=24*N)(hN:N<=40)(h1:1<=N):∃Gs,fE [bI f v n]=some (.lst (fM Gs))/\Gs.map (fun R=>R.headD 0)=(List.range n).filter (mn (iR n) v)/\∀R∈Gs,∃a,a<n/\Bf (iR n) v n a R R.length:=by
 obtain⟨M,Gs',y3,y4,y5,y6,e,h⟩:=v6 (v:=v) hf hn (by omega) n (List.range n) [] none none none none (by simp) ⟨List.pairwise_lt_range,fun u=>by simp,rfl,fun R hR=>by cases hR⟩;refine⟨Gs',?_,?_,h.bf⟩
 ·refine bW rfl ?_;show dS [some (bI f v n),none,none,none,none,none,none,none,none,none,none,none,none,none]=_;unfold dS;have es:kF jY (ab 0) [some (bI f v n),none,none,none,none,none,none,none,none,none,none,none,none,none]=some (.lst ((List.range n).map aL)):=by
   show (if lC ((List.range n).map aL)=true/\2<=((List.range n).map aL).length/\((List.range n).map aL).length<=1000 then _ else _)=_;rw[if_pos ⟨by rw[List.range_eq_range'];exact nL n 0,by simp;omega,by simp;omega⟩]
  rw[aw (aQ (δ':=[some (bI f v n),some (.lst ((List.range n).map aL)),none,none,none,none,none,none,none,none,none,none,none,none]) es rfl)];rw[aw (δ':=GS (bI f v n) (List.range n) none none none none []) rfl];rw[aw (io e)];rfl
 ·have:=h.hds;simpa using this
end
end DL.Lw
namespace DL.Pg
open PySem DL DL.Lw
noncomputable def pV (p:Int×Int):D:=.tup [.int p.1,.int p.2]
noncomputable def low (u l:Int):Int×Int:=(u / (Int.gcd u l:Nat),l / (Int.gcd u l:Nat))
def mx (a:Int){b:Int}(hb:0<b):Int.gcd b (a % b)=Int.gcd a b:=by
 have e:=Int.emod_add_mul_ediv a b;have:=Int.gcd_add_mul_left_right b (a % b) (a / b);rw[e] at this;rw[<-this,Int.gcd_comm]
def sC (a:Int):Int.gcd a 0=a.natAbs:=by simp
def iw {u l:Int}(h:0<l):(0:Int)<(Int.gcd u l:Nat):=by
 have:=Int.gcd_pos_of_ne_zero_right u (b:=l) (by omega);omega
def Ej {u l:Int}(h:0<l):((Int.gcd u l:Nat):Int)<=l:=Int.le_of_dvd h (Int.gcd_dvd_right u l)
def zN {u l:Int}(h:0<l):(low u l).1*(Int.gcd u l:Nat)=u:=Int.ediv_mul_cancel (Int.gcd_dvd_left u l)
def vX {u l:Int}(h:0<l):(low u l).2*(Int.gcd u l:Nat)=l:=Int.ediv_mul_cancel (Int.gcd_dvd_right u l)
def jB {u l:Int}(h:0<l):0<(low u l).2:=by
 have h1:=vX (u:=u) h;have h2:=iw (u:=u) h;by_cases z:0<(low u l).2
 ·exact z
 ·have:=Int.mul_nonpos_of_nonpos_of_nonneg (show (low u l).2<=0 by omega) (Int.le_of_lt h2);omega
def pL {u l:Int}(h:0<l):Int.gcd (low u l).1 (low u l).2=1:=Int.gcd_ediv_gcd_ediv_gcd (by have:=iw (u:=u) h;omega)
def n9 {u l:Int}(h:0<l):(low u l).1*l=u*(low u l).2:=by
 have h1:=zN (u:=u) h;have h2:=vX (u:=u) h;generalize hg:((Int.gcd u l:Nat):Int)=g at *;generalize (low u l).1=a at *;generalize (low u l).2=b at *;rw[<-h1,<-h2];ac_rfl
def zL {a b c d:Int}(hb:0<b)(hd:0<d)(h1:Int.gcd a b=1)(h2:Int.gcd c d=1)(h:a*d=c*b):a=c/\b=d:=by
 have k1:b.natAbs∣d.natAbs:=by
  have:b.natAbs∣a.natAbs*d.natAbs:=by rw[<-Int.natAbs_mul,h,Int.natAbs_mul];exact Nat.dvd_mul_left _ _
  exact Nat.Coprime.dvd_of_dvd_mul_left (by rw[Nat.Coprime,Nat.gcd_comm];exact h1) this
 have k2:d.natAbs∣b.natAbs:=by
  have:d.natAbs∣c.natAbs*b.natAbs:=by rw[<-Int.natAbs_mul,<-h,Int.natAbs_mul];exact Nat.dvd_mul_left _ _
  exact Nat.Coprime.dvd_of_dvd_mul_left (by rw[Nat.Coprime,Nat.gcd_comm];exact h2) this
 have e:=Nat.dvd_antisymm k1 k2;have e':b=d:=by omega
 subst e';exact⟨Int.eq_of_mul_eq_mul_right (by omega) h,rfl⟩
def D7 {u l u' l':Int}(h:0<l)(h':0<l')(e:u*l'=u'*l):low u l=low u' l':=by
 have c1:=n9 (u:=u) h;have c2:=n9 (u:=u') h';obtain⟨x,y⟩:=zL (jB (u:=u) h) (jB (u:=u') h') (pL (u:=u) h) (pL (u:=u') h') (by
  generalize (low u l).1=a at *;generalize (low u l).2=b at *;generalize (low u' l').1=c at *;generalize (low u' l').2=d at *;have s1:(a*d)*(l*l')=(c*b)*(l*l'):=by
   have t1:(a*d)*(l*l')=(a*l)*(d*l'):=by ac_rfl
   have t2:(c*b)*(l*l')=(c*l')*(b*l):=by ac_rfl
   rw[t1,t2,c1,c2];have t3:u*b*(d*l')=(u*l')*(b*d):=by ac_rfl
   have t4:u'*d*(b*l)=(u'*l)*(b*d):=by ac_rfl
   rw[t3,t4,e]
  exact Int.eq_of_mul_eq_mul_right (by have:=Int.mul_pos h h';omega) s1)
 exact Prod.ext x y
def xA {u l:Int}(h:0<l):(low u l).1 / (low u l).2=u / l:=by
 have h1:=zN (u:=u) h;have h2:=vX (u:=u) h;have h3:=iw (u:=u) h;have:u / l=((Int.gcd u l:Nat)*(low u l).1) / ((Int.gcd u l:Nat)*(low u l).2):=by rw[Int.mul_comm _ (low u l).1,Int.mul_comm _ (low u l).2,h1,h2]
 rw[this,Int.mul_ediv_mul_of_pos _ _ h3]
def zM {u l:Int}(h:0<l):(low u l).2<=l:=by
 have h2:=vX (u:=u) h;have h3:=iw (u:=u) h;have h4:=jB (u:=u) h;have:(low u l).2*1<=(low u l).2*(Int.gcd u l:Nat):=Int.mul_le_mul_of_nonneg_left (by omega) (by omega);omega
def Fz:∀(n:Nat) (a b:Int) (x2:Option D),0<=b->b.toNat<=n->∃N y2,kM (tV (az pH (ab 1) (eC (.int 0)))) dh N [some (.int a),some (.int b),x2]=some (.nx [some (.int (if b=0 then a else (Int.gcd a b:Nat))),some (.int 0),y2])
 | n,a,b,x2,hb,hn=>by
   by_cases h:b=0
   ·subst h;exact⟨1,x2,rfl⟩
   ·have hp:0<b:=by omega
    have hlt:=Int.emod_lt_of_pos a hp;have hge:=Int.emod_nonneg a h;cases n with
    | zero=>omega
    | succ n =>
      obtain⟨N,y2,e⟩:=Fz n b (a % b) (some (.int (a % b))) hge (by omega);refine⟨N+1,y2,?_⟩;have hc:tV (az pH (ab 1) (eC (.int 0))) [some (.int a),some (.int b),x2]=some true:=by
       show some (!(b==0))=_;simp[h]
      have hs:dh [some (.int a),some (.int b),x2]=some (.nx [some (.int b),some (.int (a % b)),some (.int (a % b))]):=by
       unfold dh;have:az oMod (ab 0) (ab 1) [some (.int a),some (.int b),x2]=some (.int (a % b)):=by
        show (if 0<b then some (D.int (a % b)) else none)=_;rw[if_pos hp]
       rw[aw (aQ (δ':=[some (.int a),some (.int b),some (.int (a % b))]) this rfl)];rfl
      rw[kM,hc];simp only[Option.bind_some,if_true];rw[hs];simp only[Option.bind_some];rw[e,if_neg h];have:(if a % b=0 then b else ((Int.gcd b (a % b):Nat):Int))=(Int.gcd a b:Nat):=by
       by_cases z:a % b=0
       ·rw[if_pos z,<-mx a hp,z,sC];omega
       ·rw[if_neg z,mx a hp]
      rw[this]
def ix {a b:ME}{δ:Ev}{i j:Int}(ha:a δ=some (.int i))(hb:b δ=some (.int j))(h:0<j/\j<1073741824):az gF a b δ=some (.int (i / j)):=by
 rw[aZ ha hb];show (if 0<j/\j<1073741824 then some (D.int (i / j)) else none)=_;rw[if_pos h]
end DL.Pg
namespace DL.K06
open PySem DL DL.Pg DL.Lw
def vZ:∀(n:Nat) (x0 x1:Option D) (a b:Int),0<=a->0<=b->b.toNat<=n->∃N,kM (tV (az FP (ab 3) (eC (.int 0)))) b__law_fraction_1 N [x0,x1,some (.int a),some (.int b)]=some (.nx [x0,x1,some (.int (Int.gcd a b:Nat)),some (.int 0)])
 | n,x0,x1,a,b,ha,hb,hn=>by
   by_cases h:b=0
   ·subst h;refine⟨1,?_⟩;rw[sC,show ((a.natAbs:Nat):Int)=a by omega];rfl
   ·have hp:0<b:=by omega
    have hlt:=Int.emod_lt_of_pos a hp;have hge:=Int.emod_nonneg a h;cases n with
    | zero=>omega
    | succ n =>
      obtain⟨N,e⟩:=vZ n x0 x1 b (a % b) hb hge (by omega);refine⟨N+1,?_⟩;have hc:tV (az FP (ab 3) (eC (.int 0))) [x0,x1,some (.int a),some (.int b)]=some true:=by
       show some (decide (0<b))=_;simp[hp]
      have hs:b__law_fraction_1 [x0,x1,some (.int a),some (.int b)]=some (.nx [x0,x1,some (.int b),some (.int (a % b))]):=by
       show ((if 0<b then some (D.int (a % b)) else none).bind _)=_;rw[if_pos hp];rfl
      rw[kM,hc];simp only[Option.bind_some,if_true];rw[hs];simp only[Option.bind_some];rw[e,mx a hp]
def lE {u l:Int}(h:0<l)(hl:l<1000000):m__law_fraction [.int u,.int l]=some (pV (low u l)):=by
 have h1:=iw (u:=u) h;have h2:=Ej (u:=u) h;have hab:(if u<0 then -u else u)=((u.natAbs:Nat):Int):=by split <;> omega
 obtain⟨N,e⟩:=vZ l.toNat (some (.int u)) (some (.int l)) ((u.natAbs:Nat):Int) l (by omega) (by omega) (Nat.le_refl _);have hg:Int.gcd ((u.natAbs:Nat):Int) l=Int.gcd u l:=by unfold Int.gcd;simp
 rw[hg] at e;refine bW rfl ?_;show b__law_fraction [some (.int u),some (.int l),none,none]=_;unfold b__law_fraction;have ea:ah Et (ac (ab 0) ak) [some (.int u),some (.int l),none,none]=some (.int ((u.natAbs:Nat):Int)):=by
  rw[av (x:=.int u) rfl,<-hab];rfl
 rw[aw (aQ (δ':=[some (.int u),some (.int l),some (.int ((u.natAbs:Nat):Int)),none]) ea rfl)];rw[aw (aQ (d:=.int l) (δ':=[some (.int u),some (.int l),some (.int ((u.natAbs:Nat):Int)),some (.int l)]) rfl rfl)];rw[aw (io e)];unfold low;generalize ((Int.gcd u l:Nat):Int)=g at *;exact bA (fi (ix (i:=u) (j:=g) rfl rfl ⟨h1,by omega⟩) (ix (i:=l) (j:=g) rfl rfl ⟨h1,by omega⟩))
end DL.K06
namespace DL.Pg
open PySem DL DL.Lw
def wj (A:Int):Int×Int:=low A 6
def wg (A:Int):0<(wj A).2:=jB (by decide)
def ot (A:Int):(wj A).1 / (wj A).2=A / 6:=xA (by decide)
def AF (A:Int):(wj A).2<=6:=zM (by decide)
def FQ {a b:ME}{δ:Ev}{i j:Int}(ha:a δ=some (.int i))(hb:b δ=some (.int j))(h : -100000<=i/\i<=100000):az bQ a b δ=some (.int (i*j)):=(aZ ha hb).trans (bY (gK ⟨by omega,by omega⟩))
def va {a b:ME}{δ:Ev}{i j:Int}(ha:a δ=some (.int i))(hb:b δ=some (.int j)):az bG a b δ=some (.int (i+j)):=(aZ ha hb).trans rfl
def vB {p:Int×Int}(h:0<p.2)(hl:p.2<1000000):bR [pV p]=some (.int (p.1 / p.2)):=by
 refine bW rfl ?_;show eK [some (pV p)]=_;unfold eK;exact bA (ix (i:=p.1) (j:=p.2) rfl rfl ⟨h,by omega⟩)
def yY (A:Int):bR [pV (wj A)]=some (.int (A / 6)):=by
 rw[vB (wg A) (by have:=AF A;omega),ot]
end DL.Pg
namespace DL.K06
open PySem DL DL.Pg DL.Lw
end DL.K06
namespace DL.Pg
open PySem DL DL.Lw
structure Fo (f:Int×Int):Prop where
 n:0<f.1
 d:0<f.2
 n1:f.1<=1000
 d4:f.2<=4
 g:Int.gcd f.1 f.2=1
def To (T:Int):Prop:=0<=T/\T<144
def cS (p:(Int×Int)×Int):D:=.tup [pV p.1,pV (wj p.2)]
noncomputable def rg (f:Int×Int):Nat:=(f.1 / f.2).toNat
noncomputable def tt (T:Int):Nat:=(T / 6).toNat
def nA {T:Int}(h:To T):tt T<24:=by unfold tt;unfold To at h;omega
def yU {f:Int×Int}(h:Fo f):((rg f:Nat):Int)=f.1 / f.2:=by
 unfold rg;have:=Int.ediv_nonneg (Int.le_of_lt h.n) (Int.le_of_lt h.d);omega
def yv {T:Int}(h:0<=T):((tt T:Nat):Int)=T / 6:=by unfold tt;omega
structure Eg (E:List Nat):Prop where
 ris:E.Pairwise (·<·)
 hd:∃es,E=0::es
 few:E.length<=60
def cellAt (E:List Nat)(p:(Int×Int)×Int):Nat:=24*bo E (rg p.1)+tt p.2
noncomputable def upTo (r:Int):D->Option D
 | .int e=>if 0<e/\e<=r then some (.int e) else none
 | _=>none
def yn (r:Nat):∀es:List Nat,(∀e∈es,0<e)->((ai es).filterMap (upTo r)).length=es.countP fun x=>decide (x<=r)
 | [],_=>rfl
 | e::es,h=>by
   have h0:=h e List.mem_cons_self;have ih:=yn r es fun x hx=>h x (List.mem_cons_of_mem _ hx);have en:ai (e::es)=.int e::ai es:=rfl;rw[en,List.filterMap_cons,List.countP_cons];have eu:upTo (r:Int) (.int (e:Nat))=if e<=r then some (.int (e:Nat)) else none:=by
    show (if (0:Int)<(e:Nat)/\((e:Nat):Int)<=r then _ else _)=_;by_cases z:e<=r
    ·rw[if_pos z,if_pos (by omega)]
    ·rw[if_neg z,if_neg (by omega)]
   rw[eu];by_cases z:e<=r
   ·simp[z,ih]
   ·simp[z,ih]
def Fg {E:List Nat}(h:Eg E)(r:Nat):((ai E).filterMap (upTo r)).length=bo E r:=by
 obtain⟨es,rfl⟩:=h.hd;have hp:∀e∈es,0<e:=fun e he=>(List.pairwise_cons.mp h.ris).1 e he;have en:ai (0::es)=.int ((0:Nat):Int)::ai es:=rfl;have e0:upTo (r:Int) (.int ((0:Nat):Int))=none:=by
  show (if (0:Int)<((0:Nat):Int)/\((0:Nat):Int)<=(r:Int) then some (D.int ((0:Nat):Int)) else none)=none;rw[if_neg (by omega)]
 rw[en,List.filterMap_cons,e0];show ((ai es).filterMap (upTo r)).length=_;rw[yn r es hp];unfold bo;rw[List.countP_cons];simp
def nN {E:List Nat}(h:Eg E){p:(Int×Int)×Int}(hf:Fo p.1)(hT:To p.2):eV [.lst (ai E),cS p]=some (.int (cellAt E p:Nat)):=by
 have d1:=hf.d;have d2:=hf.d4;refine bW rfl ?_;show iC [some (.lst (ai E)),some (cS p),none,none]=_;unfold iC;have e1:ah bR (ac (az bN (ab 1) (eC (.int 0))) ak) [some (.lst (ai E)),some (cS p),none,none]=some (.int (rg p.1:Nat)):=by
  rw[av (x:=pV p.1) rfl,vB d1 (by omega),yU hf]
 rw[aw (aQ (δ':=[some (.lst (ai E)),some (cS p),some (.int (rg p.1:Nat)),none]) e1 rfl)];have hl:(ai E).length<=16777216:=by rw[dY];have:=h.few;omega
 have hc:=bL (k:=1) (fv:=[2]) (i:=br (ab 0)) (g:=gN 0) (c:=tV (cV oLt oLe (eC (.int 0)) (ab 0) (ab 1))) (e:=ab 0) (δ:=[some (.lst (ai E)),some (cS p),some (.int (rg p.1:Nat)),none]) (xs:=ai E) (upTo (rg p.1:Nat)) rfl hl fun x hx=>by
  unfold ai at hx;obtain⟨e,_,rfl⟩:=List.mem_map.mp hx;refine⟨[some (.int (e:Nat)),some (.int (rg p.1:Nat))],rfl,?_⟩;by_cases h1:(0:Int)<(e:Nat)
  ·by_cases h2:((e:Nat):Int)<=(rg p.1:Nat)
   ·refine .inl ⟨?_,.int (e:Nat),rfl,?_⟩
    ·simp only[tV,cV,eC,ab,slot,oLt,oLe,oI,Option.bind_some,List.getElem?_cons_zero,List.getElem?_cons_succ,Option.getD_some,h1,h2,decide_true,decide_false,truth]
    ·show (if (0:Int)<(e:Nat)/\((e:Nat):Int)<=_ then _ else _)=_;rw[if_pos ⟨h1,h2⟩]
   ·refine .inr ⟨?_,?_⟩
    ·simp only[tV,cV,eC,ab,slot,oLt,oLe,oI,Option.bind_some,List.getElem?_cons_zero,List.getElem?_cons_succ,Option.getD_some,h1,h2,decide_true,decide_false,truth]
    ·show (if (0:Int)<(e:Nat)/\((e:Nat):Int)<=_ then _ else _)=_;rw[if_neg (fun z=>h2 z.2)]
  ·refine .inr ⟨?_,?_⟩
   ·simp only[tV,cV,eC,ab,slot,oLt,oLe,oI,Option.bind_some,List.getElem?_cons_zero,List.getElem?_cons_succ,Option.getD_some,h1,decide_true,decide_false,truth]
   ·show (if (0:Int)<(e:Nat)/\((e:Nat):Int)<=_ then _ else _)=_;rw[if_neg (fun z=>h1 z.1)]
 have e2:ah cM (ac (bq 1 [2] (br (ab 0)) (gN 0) (tV (cV oLt oLe (eC (.int 0)) (ab 0) (ab 1))) (ab 0)) ak) [some (.lst (ai E)),some (cS p),some (.int (rg p.1:Nat)),none]=some (.int (bo E (rg p.1):Nat)):=by
  rw[av hc];show some (D.int (((ai E).filterMap (upTo (rg p.1:Nat))).length:Nat))=_;rw[Fg h]
 rw[aw (aQ (δ':=[some (.lst (ai E)),some (cS p),some (.int (rg p.1:Nat)),some (.int (bo E (rg p.1):Nat))]) e2 rfl)];refine bA ?_;have hm:az bQ (eC (.int 24)) (ab 3) [some (.lst (ai E)),some (cS p),some (.int (rg p.1:Nat)),some (.int (bo E (rg p.1):Nat))]=some (.int (24*(bo E (rg p.1):Nat))):=FQ rfl rfl (by omega);have hw:ah bR (ac (az bN (ab 1) (eC (.int 1))) ak) [some (.lst (ai E)),some (cS p),some (.int (rg p.1:Nat)),some (.int (bo E (rg p.1):Nat))]=some (.int (p.2 / 6)):=by rw[av (x:=pV (wj p.2)) rfl,yY]
 have hmod:az oMod (ah bR (ac (az bN (ab 1) (eC (.int 1))) ak)) (eC (.int 24)) [some (.lst (ai E)),some (cS p),some (.int (rg p.1:Nat)),some (.int (bo E (rg p.1):Nat))]=some (.int (p.2 / 6 % 24)):=(aZ hw (y:=.int 24) rfl).trans rfl;rw[va hm hmod];have:=yv hT.1;have h24:=nA hT;unfold cellAt;refine congrArg (fun z=>some (D.int z)) ?_;omega
abbrev Pn:=(Int×Int)×Int
def zE (p:Pn):Prop:=Fo p.1/\To p.2
def Cf (i j:Int):Ao [.int i,.int j]=some (.int (min i j)):=by
 show some (D.int (if j<i then j else i))=_;refine congrArg (fun z=>some (D.int z)) ?_;split <;> omega
def bo_le {E:List Nat}(h:Eg E)(r:Nat):bo E r<E.length/\E.length<=60:=by
 have:=List.countP_le_length (p:=fun x=>decide (x<=r)) (l:=E);obtain⟨es,rfl⟩:=h.hd;unfold bo;have h2:=h.few;simp only[List.length_cons] at *;omega
def sF:∀x y:List Nat,eI (ai x) (ai y)=decide (x=y)
 | [],[]=>rfl
 | [],_::_=>rfl
 | _::_,[]=>rfl
 | a::x,b::y=>by
   show (bP (.int (a:Nat)) (.int (b:Nat))&&eI (ai x) (ai y))=_;rw[sF x y,Bool.eq_iff_iff];simp[bP];omega
def qj:∀x:List Nat,bu (ai x)=0
 | []=>rfl
 | a::x=>by
   show max (bg (.int (a:Nat))) (bu (ai x))=0;rw[qj x];rfl
def uJ:Fd fx:=⟨fun x y=>by unfold fx;rw[bP];exact sF x y,fun x=>by unfold fx;show bu (ai x)+1<=30;rw[qj];decide⟩
def xZ {E:List Nat}(hE:Eg E){p:Pn}(h:zE p):cellAt E p<24*E.length:=by
 have ht:=nA h.2;have b1:=bo_le hE (rg p.1);unfold cellAt;omega
def sJ {s:List Pc}(he:(ag s).length<=60):Eg (ag s):=⟨aY s,ff s,he⟩
variable {s:List Pc}{E:List Nat}
def Cd {s:List Pc}(h:∀p∈s,p.ok)(hl:s.length<=1000)(he:(ag s).length<=60){one:Pn}(h1:zE one):∃R V,aN [aD fx (ly s (ag s)) (24*(ag s).length),.int (cellAt (ag s) one:Nat)]=some (.dic false (ai R) V)/\Bf (bO (24*(ag s).length)) (ly s (ag s)) (24*(ag s).length) (cellAt (ag s) one) R R.length/\Pt (bO (24*(ag s).length)) R V :=
 uc uJ rfl (by omega) (xZ (sJ he) h1)
def Ee {a b:ME}{δ:Ev}{c:Nat}{R:List Nat}{V:List D}(ha:a δ=some (.int (c:Nat)))(hb:b δ=some (.dic false (ai R) V)):Cj a b δ=some (.bl (decide (c∈R))):=by
 unfold Cj;rw[ha,hb];simp only[Option.bind_some,B8,qD]
def rF {s:List Pc}(h:∀p∈s,p.ok)(hl:s.length<=1000)(he:(ag s).length<=60){one oth:Pn}(h1:zE one)(h2:zE oth){R:List Nat}{V:List D}(hh:aN [aD fx (ly s (ag s)) (24*(ag s).length),.int (cellAt (ag s) one:Nat)]=some (.dic false (ai R) V)) :
 g9 [bD s,cS one,cS oth]=some (.bl (decide (cellAt (ag s) oth∈R))):=by
 have hE:=sJ he;refine bW rfl ?_;show ft [some (bD s),some (cS one),some (cS oth),none]=_;unfold ft;rw[aw (aQ (d:=.lst (ai (ag s))) (δ':=[some (bD s),some (cS one),some (cS oth),some (.lst (ai (ag s)))]) ((av (x:=bD s) rfl).trans (pj h hl (by omega))) rfl)];have a1:ah eV (ac (ab 3) (ac (ab 2) ak)) [some (bD s),some (cS one),some (cS oth),some (.lst (ai (ag s)))]=some (.int (cellAt (ag s) oth:Nat)):=(aV (x:=.lst (ai (ag s))) (y:=cS oth) rfl rfl).trans (nN hE h2.1 h2.2);have a2:ah aN (ac (ah cN (ac (ab 0) (ac (ab 3) ak))) (ac (ah eV (ac (ab 3) (ac (ab 1) ak))) ak)) [some (bD s),some (cS one),some (cS oth),some (.lst (ai (ag s)))]=some (.dic false (ai R) V) :=
  (aV (f:=aN) ((aV (x:=bD s) (y:=.lst (ai (ag s))) rfl rfl).trans (iM (aY s) (by omega) (jE h) hl)) ((aV (x:=.lst (ai (ag s))) (y:=cS one) rfl rfl).trans (nN hE h1.1 h1.2))).trans hh
 exact bA (Ee a1 a2)
def fW {s:List Pc}(h:∀p∈s,p.ok){N:Nat}(h0:0<N)(hN:∀p∈s,p.o<N):Far (ag s) (aO 0 s) N:=by
 have bd:Bd (ag s) (aO 0 s) N:=AX h h0 hN fun r r' t hh=>pN r t r' t s 0 hh;have hp:=bd.pos;refine⟨bd,bd.lt _ (by omega),fun r t t' hr=>pN r t r t' s 0 fun p hp'=>?_⟩;obtain⟨_,_,ho⟩:=jE h p hp';obtain⟨j,hj,e⟩:=mem_getD ho;have:=t7 (aY s) (show j<=(ag s).length-1 by omega) (by omega);have z:(decide (r<p.o))=false:=by rw[decide_eq_false_iff_not];omega
 unfold Pc.has;rw[z,Bool.and_false];rfl
def my (q:List Nat×Int):D:=.tup [fx q.1,.int q.2]
noncomputable def Ha (q:List Nat×Int):List Int×Int:=(q.1.map fun (x:Nat)=>(x:Int),q.2)
def oV (qs:List (List Nat×Int)):List D:=nB (qs.map Ha) (qs.map my)
def oo:∀l:List Nat,intsOf (ai l)=some (l.map fun (x:Nat)=>(x:Int))
 | []=>rfl
 | x::l=>by
   show (intsOf (ai l)).bind _=_;rw[oo l];rfl
def zZ:∀qs:List (List Nat×Int),uA (qs.map my)=some (qs.map Ha)
 | []=>rfl
 | q::qs=>by
   rw[List.map_cons,uA,zZ qs];show ((intsOf (ai q.1)).bind fun is=>some (is,q.2)).bind _=_;rw[oo];rfl
def vq {qs:List (List Nat×Int)}(h:qs.length<64):jX (.lst (qs.map my))=some (.lst (oV qs)):=by
 unfold jX;simp only;rw[zZ];simp only[Option.bind_some,List.length_map];rw[if_pos h];rfl
def lq (qs:List (List Nat×Int)):(oV qs).Perm (qs.map my):=tY _ _
def CD {E:List Nat}{b:Nat}(h:b+1<E.length):((bx E).map aE)[b]? = some (aE (E.getD b 0,E.getD (b+1) 0)):=by
 unfold bx;rw[List.getElem?_map];have:(E.zip E.tail)[b]? = some (E.getD b 0,E.getD (b+1) 0):=List.getElem?_zip_eq_some.mpr ⟨by
  have:b<E.length:=by omega
  simp[this],by
  simp[h]⟩
 rw[this];rfl
def h8 (F:Nat->Int):∀R:List Nat,intsOf (R.map fun c=>D.int (F c))=some (R.map F)
 | []=>rfl
 | c::R=>by
   show (intsOf (R.map fun c=>D.int (F c))).bind _=_;rw[h8 F R];rfl
def Hw (E:List Nat):D->D
 | .int c=>.int (A0 E c.toNat)
 | d=>d
def pg {E:List Nat}(hE:∀b,b<E.length->E.getD b 0<=1000){R:List Nat}(hR:∀c∈R,c / 24+1<E.length)(hl:R.length<=100000):cC [.lst (ai R),.lst ((bx E).map aE)]=some (.int (R.map (A0 E)).sum):=by
 refine bW rfl ?_;show eM [some (.lst (ai R)),some (.lst ((bx E).map aE))]=_;unfold eM;have hc:=bL (k:=1) (fv:=[1]) (i:=br (ab 0)) (g:=gN 0) (c:=tT) (e:=ah cu (ac (az bN (ab 1) (az gF (ab 0) (eC (.int 24)))) ak)) (δ:=[some (.lst (ai R)),some (.lst ((bx E).map aE))]) (xs:=ai R) (fun x=>some (Hw E x)) rfl (by rw[dY];omega) fun x hx=>by
  unfold ai at hx;obtain⟨c,hcm,rfl⟩:=List.mem_map.mp hx;have hb:=hR c hcm;refine⟨[some (.int (c:Nat)),some (.lst ((bx E).map aE))],rfl,.inl ⟨rfl,.int (A0 E c),?_,rfl⟩⟩;have ef:az gF (ab 0) (eC (.int 24)) [some (.int (c:Nat)),some (.lst ((bx E).map aE))]=some (.int ((c / 24:Nat):Int)):=by
   rw[ix (i:=(c:Nat)) (j:=24) rfl rfl (by decide)];rfl
  rw[av ((aZ (x:=.lst ((bx E).map aE)) rfl ef).trans (h7 (CD hb)))];exact kA (hE _ (by omega)) (hE _ hb)
 refine bA ((av hc).trans ?_);rw[List.filterMap_eq_map'];unfold ai;rw[List.map_map];show ((intsOf (R.map fun (c:Nat)=>D.int (A0 E c))).bind fun is=>some (D.int is.sum))=_;rw[h8];rfl
def fq (s:List Pc)(a:Nat):List Nat×Int:=(vv (ag s) (aO 0 s) a,GA (bO (24*(ag s).length)) (vv (ag s) (aO 0 s)) (24*(ag s).length) (A0 (ag s)) a)
def Qs (s:List Pc):List (List Nat×Int):=(ni (ag s) (aO 0 s)).map (fq s)
def vF {s:List Pc}(h:∀p∈s,p.ok)(hl:s.length<=1000)(he:(ag s).length<=60){N:Nat}(hF:Far (ag s) (aO 0 s) N)(hN:N<=1000)(hq:(Qs s).length<64):eB [bD s]=some (.tup (oV (Qs s))):=by
 have hpos:=hF.bd.pos;obtain⟨Gs,eG,hG,hB⟩:=yZ (f:=fx) (v:=ly s (ag s)) uJ (n:=24*(ag s).length) rfl (by omega) (by omega);have hG':Gs.map (fun R=>R.headD 0)=ni (ag s) (aO 0 s):=hG;have key:∀R∈Gs,Bf (bO (24*(ag s).length)) (vv (ag s) (aO 0 s)) (24*(ag s).length) (R.headD 0) R R.length/\(∀c∈R,c / 24+1<(ag s).length):=fun R hR=>by
  obtain⟨a,ha,hb⟩:=hB R hR;have ea:=jG hb;have hm:R.headD 0∈ni (ag s) (aO 0 s):=by rw[<-hG'];exact List.mem_map.mpr ⟨R,hR,rfl⟩
  rw[ea];refine⟨hb,fun c hc=>?_⟩;have hlt:=hb.lt c hc;rw[ea] at hm;unfold ni at hm;rw[List.mem_filter,Bool.and_eq_true] at hm;rcases Nat.lt_or_ge (c / 24+1) (ag s).length with z | z
  ·exact z
  ·exfalso;have e:c=24*((ag s).length-1)+c % 24:=by omega
   have g:=hb.hg c hc;rw[e] at g;have:=hF.out_last (Nat.mod_lt _ (by decide)) g ha;rw[this] at hm;cases hm.2.2
 have hlist:Gs.map (fun R=>my (ly s (ag s) (R.headD 0),(R.map (A0 (ag s))).sum))=(Qs s).map my:=by
  unfold Qs;rw[<-hG',List.map_map,List.map_map];refine List.map_congr_left fun R hR=>?_;show my _=my (fq s (R.headD 0));unfold fq;rw[C3 (key R hR).1];rfl
 refine bW rfl ?_;show la [some (bD s),none,none,none]=_;unfold la;rw[aw (aQ (d:=.lst (ai (ag s))) (δ':=[some (bD s),some (.lst (ai (ag s))),none,none]) ((av (x:=bD s) rfl).trans (pj h hl (by omega))) rfl)];rw[aw (aQ (d:=.lst ((bx (ag s)).map aE)) (δ':=[some (bD s),some (.lst (ai (ag s))),some (.lst ((bx (ag s)).map aE)),none]) ((av (x:=.lst (ai (ag s))) rfl).trans (vG (by omega))) rfl)];rw[aw (aQ (d:=aD fx (ly s (ag s)) (24*(ag s).length)) (δ':=[some (bD s),some (.lst (ai (ag s))),some (.lst ((bx (ag s)).map aE)),some (aD fx (ly s (ag s)) (24*(ag s).length))]) ((aV (x:=bD s) (y:=.lst (ai (ag s))) rfl rfl).trans (iM (aY s) (by omega) (jE h) hl)) rfl)];have hGl:Gs.length<64:=by
  have:=congrArg List.length hlist;rw[List.length_map,List.length_map] at this;omega
 have hi:br (ah cD (ac (ab 3) ak)) [some (bD s),some (.lst (ai (ag s))),some (.lst ((bx (ag s)).map aE)),some (aD fx (ly s (ag s)) (24*(ag s).length))]=some (sx Gs):=by
  unfold br;rw[av (x:=aD fx (ly s (ag s)) (24*(ag s).length)) rfl,eG];rfl
 have each:∀R∈Gs,cG (ac (az bN (ab 1) (az bN (ab 0) (eC (.int 0)))) (ac (ah cC (ac (ab 0) (ac (ab 2) ak))) ak)) [some (.lst (ai R)),some (aD fx (ly s (ag s)) (24*(ag s).length)),some (.lst ((bx (ag s)).map aE))]=some (my (ly s (ag s) (R.headD 0),(R.map (A0 (ag s))).sum)):=fun R hR=>by
  obtain⟨hb,hin⟩:=key R hR;have hfew:=hb.few;have hhd:(ai R)[0]? = some (.int (R.headD 0:Nat)):=by
   have:=hb.hd;cases R with
   | nil=>cases this
   | cons a R=>rfl
  have hlt:=hb.lt (R.headD 0) (by
   have:=hb.hd;cases R with
   | nil=>cases this
   | cons a R=>exact List.mem_cons_self)
  refine fi ((aZ (x:=aD fx (ly s (ag s)) (24*(ag s).length)) rfl ((aZ (x:=.lst (ai R)) (y:=.int ((0:Nat):Int)) rfl rfl).trans (h7 hhd))).trans (pR fx _ hlt)) ((aV (x:=.lst (ai R)) (y:=.lst ((bx (ag s)).map aE)) rfl rfl).trans (pg (fun b hb'=>by have:=hF.bd.lt b hb';omega) hin (by omega)))
 obtain⟨g,hg⟩:∃g:D->D,∀R∈Gs,g (.lst (ai R))=my (ly s (ag s) (R.headD 0),(R.map (A0 (ag s))).sum):=by
  refine⟨fun x=>(cG (ac (az bN (ab 1) (az bN (ab 0) (eC (.int 0)))) (ac (ah cC (ac (ab 0) (ac (ab 2) ak))) ak)) [some x,some (aD fx (ly s (ag s)) (24*(ag s).length)),some (.lst ((bx (ag s)).map aE))]).getD .non,fun R hR=>?_⟩;simp only[each R hR,Option.getD_some]
 have hc:=bL (k:=1) (fv:=[3,2]) (g:=gN 0) (c:=tT) (e:=cG (ac (az bN (ab 1) (az bN (ab 0) (eC (.int 0)))) (ac (ah cC (ac (ab 0) (ac (ab 2) ak))) ak))) (fun x=>some (g x)) hi (by unfold sx;rw[List.length_map];omega) fun x hx=>by
  unfold sx at hx;obtain⟨R,hR,rfl⟩:=List.mem_map.mp hx;exact⟨[some (.lst (ai R)),some (aD fx (ly s (ag s)) (24*(ag s).length)),some (.lst ((bx (ag s)).map aE))],rfl,.inl ⟨rfl,_,each R hR,by rw[hg R hR]⟩⟩
 have hcl:(sx Gs).filterMap (fun x=>some (g x))=(Qs s).map my:=by
  rw[List.filterMap_eq_map',<-hlist];unfold sx;rw[List.map_map];exact List.map_congr_left fun R hR=>hg R hR
 rw[hcl] at hc;refine bA ((av ((vh hc).trans (vq hq))).trans ?_);rfl
def vm (qs:List (List Nat×Int)):(oV qs).length=qs.length:=by rw[(lq qs).length_eq,List.length_map]
def jr {s:List Pc}(hf:eB [bD s]=some (.tup (oV (Qs s)))):bZ [bD s]=some (.int ((Qs s).length+1:Nat)):=by
 refine bW rfl ?_;show eN [some (bD s)]=_;unfold eN;refine bA ((aZ ((av ((av (x:=bD s) rfl).trans hf)).trans (show cM [.tup (oV (Qs s))]=some (.int ((oV (Qs s)).length:Nat)) from rfl)) (y:=.int 1) rfl).trans ?_);rw[vm];rfl
def vd:Qs []=[]:=by
 have hF:=fW (s:=[]) (fun p hp=>by cases hp) (N:=1) (by decide) fun p hp=>by cases hp
 have hE:(ag []).length=1:=by
  have h1:=hF.bd.pos;have h2:=iz (s:=[]) (R:=0) (fun p hp=>by cases hp) fun p hp=>by cases hp
  omega
 have:ni (ag []) (aO 0 [])=[]:=by
  refine List.eq_nil_iff_forall_not_mem.mpr fun c hc=>?_;have:=su hF c hc;rw[hE] at this;cases this
 unfold Qs;rw[this];rfl
end DL.Pg
namespace DL.K06
open PySem DL DL.Pg DL.Lw
variable {s:List Pc}{E:List Nat}{N:Nat}
def B0 {u l:Int}(hu:0<u)(h:0<l):0<(low u l).1/\(low u l).1<=u:=by
 have h1:=zN (u:=u) h;have h2:=iw (u:=u) h;have h3:0<(low u l).1:=by
  by_cases z:0<(low u l).1
  ·exact z
  ·have:=Int.mul_nonpos_of_nonpos_of_nonneg (show (low u l).1<=0 by omega) (Int.le_of_lt h2);omega
 have:(low u l).1*1<=(low u l).1*(Int.gcd u l:Nat):=Int.mul_le_mul_of_nonneg_left (by omega) (by omega);omega
def r_point (x:Int):∃p:Pn,zE p/\m__law_point [.int x,.int 6]=some (cS p):=by
 have q1:=bE (c:=x) (p:=9929) (m:=32) (by decide);have q2:=bE (c:=x) (p:=9923) (m:=72) (by decide);have e1:aK [.int x,.int 9929,.int 32]=some (.int (df x 9929 32)):=lD (by decide) (by decide);have e2:aK [.int x,.int 9923,.int 72]=some (.int (df x 9923 72)):=lD (by decide) (by decide);generalize df x 9929 32=u at *;generalize df x 9923 72=v at *;have hl:=B0 (u:=1+u) (l:=4) (by omega) (by decide);refine⟨(low (1+u) 4,2*v),⟨⟨hl.1,jB (by decide),by have:=hl.2;show (low (1+u) 4).1<=1000;omega,zM (by decide),pL (by decide)⟩,by show 0<=2*v/\2*v<144;omega⟩,?_⟩;refine bW rfl ?_;show b__law_point [some (.int x),some (.int 6),none]=_;unfold b__law_point;have a1:ah m__law_fraction (ac (az bG (eC (.int 1)) (ah aK (ac (ab 0) (ac (eC (.int 9929)) (ac (az bG (az bQ (eC (.int 4)) (ab 1)) (eC (.int 8))) ak))))) (ac (eC (.int 4)) ak)) [some (.int x),some (.int 6),none]=some (pV (low (1+u) 4)) :=
  (aV (x:=.int (1+u)) (y:=.int 4) (va rfl ((f6 (x:=.int x) (y:=.int 9929) (z:=.int 32) rfl rfl rfl).trans e1)) rfl).trans (lE (by decide) (by decide))
 rw[aw (aQ (δ':=[some (.int x),some (.int 6),some (pV (low (1+u) 4))]) a1 rfl)];have e3:low v 3=wj (2*v):=D7 (by decide) (by decide) (by omega);have a2:ah m__law_fraction (ac (ah aK (ac (ab 0) (ac (eC (.int 9923)) (ac (eC (.int 72)) ak)))) (ac (eC (.int 3)) ak)) [some (.int x),some (.int 6),some (pV (low (1+u) 4))]=some (pV (wj (2*v))):=by
  rw[aV (x:=.int v) (y:=.int 3) ((f6 (x:=.int x) (y:=.int 9923) (z:=.int 72) rfl rfl rfl).trans e2) rfl,lE (by decide) (by decide),e3]
 exact bA (fi (x:=pV (low (1+u) 4)) rfl a2)
end DL.K06
namespace DL.Pg
open PySem DL DL.Lw
def qJ {s:List Pc}{N:Nat}(hF:Far (ag s) (aO 0 s) N):Qs s=(Ca (aO 0 s) N).map fun a=>(uv (aO 0 s) a,GA (bO (24*N)) (uv (aO 0 s)) (24*N) oP a):=by
 rw[hF.heads,List.map_map];refine List.map_congr_left fun a ha=>?_;unfold ni at ha;rw[List.mem_filter,List.mem_range,Bool.and_eq_true] at ha;have ho:out (bO (24*(ag s).length)) (vv (ag s) (aO 0 s)) (24*(ag s).length) a=false:=by
  have:=ha.2.2;cases z:out (bO (24*(ag s).length)) (vv (ag s) (aO 0 s)) (24*(ag s).length) a with
  | false=>rfl
  | true=>rw[z] at this;cases this
 show fq s a=(uv (aO 0 s) (ps (ag s) a),GA (bO (24*N)) (uv (aO 0 s)) (24*N) oP (ps (ag s) a));rw[rb,hF.area ha.1 ho];rfl
def E6 {s:List Pc}{N:Nat}(hF:Far (ag s) (aO 0 s) N):(Qs s).length+1=((List.range (24*N)).filter (mn (bO (24*N)) (uv (aO 0 s)))).length:=by
 have hN:=hF.K;rw[qJ hF,List.length_map,oa _ (out (bO (24*N)) (uv (aO 0 s)) (24*N)),BV (by omega)];unfold Ca;omega
def v4 {s:List Pc}{r t:Nat}:(!(aO 0 s r t).isEmpty)=wv s r t:=by
 have h:=se s 0 r t;unfold wv;cases e:aO 0 s r t with
 | nil =>
   rw[e] at h;rw[<-h];rfl
 | cons a l =>
   rw[e] at h;rw[<-h];rfl
def wY {s:List Pc}(h:∀p∈s,p.ok){N:Nat}(hN:∀p∈s,p.o<N)(h0:0<N):(((Qs s).filter fun q => !q.1.isEmpty).map Prod.snd).sum=Sm (fun c=>if wv s (c / 24) (c % 24)=true then oP c else 0) (24*N):=by
 have hF:=fW h h0 hN;rw[qJ hF,List.filter_map,List.map_map];have:=u7 (v:=uv (aO 0 s)) (cg N) (by omega) (fun l => !l.isEmpty) (by
  show (!(aO 0 s ((24*N-1) / 24) ((24*N-1) % 24)).isEmpty)=false;rw[v4,show (24*N-1) / 24=N-1 by omega];exact Dc (fun p hp=>by have:=hN p hp;omega) _) oP
 refine Eq.trans ?_ (this.trans (cA _ fun c _=>?_))
 ·rfl
 ·show (if (!(aO 0 s (c / 24) (c % 24)).isEmpty)=true then _ else _)=_;rw[v4]
def wz (row:List Int):∀m:Nat,((List.range m).map fun (k:Nat)=>(row.count ((k+1:Nat):Int):Int)).sum=(row.countP (fun z=>decide (1<=z/\z<=(m:Int))):Nat)
 | 0=>by
   have:row.countP (fun z=>decide (1<=z/\z<=((0:Nat):Int)))=0:=List.countP_eq_zero.mpr fun z _=>by simp;omega
   rw[this];rfl
 | m+1=>by
   rw[List.range_succ,List.map_append,List.sum_append,wz row m];have:row.countP (fun z=>decide (1<=z/\z<=((m+1:Nat):Int)))=row.countP (fun z=>decide (1<=z/\z<=(m:Int)))+row.count ((m+1:Nat):Int):=by
    induction row with
    | nil=>rfl
    | cons z row ih =>
      rw[List.countP_cons,List.countP_cons,List.count_cons,ih];by_cases e:z=((m+1:Nat):Int)
      ·have e1:(z==((m+1:Nat):Int))=true:=by simpa using e
       rw[e1,decide_eq_true (show 1<=z/\z<=((m+1:Nat):Int) by omega),decide_eq_false (show ¬ (1<=z/\z<=(m:Int)) by omega),if_pos rfl,if_neg (by decide)];omega
      ·have e2:(z==((m+1:Nat):Int))=false:=by simpa using e
       rw[e2,if_neg (show ¬ (false=true) by decide)];by_cases q:1<=z/\z<=(m:Int)
       ·rw[decide_eq_true q,decide_eq_true (show 1<=z/\z<=((m+1:Nat):Int) by omega),if_pos rfl];omega
       ·rw[decide_eq_false q,decide_eq_false (show ¬ (1<=z/\z<=((m+1:Nat):Int)) by omega),if_neg (by decide)];omega
   rw[this];simp
def CB (s:List Pc)(r:Nat):((bV s r).countP (fun z=>decide (1<=z/\z<=(s.length:Int))):Nat)=Sm (fun t=>B6 (wv s r t)) 24:=by
 unfold bV rowOf Sm;rw[List.countP_map];generalize List.range 24=l
 induction l with
 | nil=>rfl
 | cons t l ih =>
   rw[List.countP_cons,List.map_cons,List.sum_cons,<-ih];have hd:qR s r t<=s.length:=List.countP_le_length;have:((fun z=>decide (1<=z/\z<=(s.length:Int)))∘fun t=>((qR s r t:Nat):Int)) t=wv s r t:=by
    unfold wv;simp only[Function.comp];rw[Bool.eq_iff_iff,decide_eq_true_eq,decide_eq_true_eq];omega
   rw[this];unfold B6;cases wv s r t <;> simp <;> omega
def BA {s:List Pc}(h:∀p∈s,p.ok)(hl:s.length<=1000)(he:(ag s).length<64){N:Nat}(hN:∀p∈s,p.o<=N):dA [bD s]=some (.int (Sm (fun c=>if wv s (c / 24) (c % 24)=true then oP c else 0) (24*N))):=by
 refine bW rfl ?_;show dE [some (bD s)]=_;unfold dE;refine bA ((av ((av (x:=bD s) rfl).trans (BB h hl he hN))).trans ?_);show ((intsOf ((List.range s.length).map fun k=>D.int (da s N (k+1)))).bind fun is=>some (D.int is.sum))=_;rw[h8 (fun k=>da s N (k+1))];refine congrArg (fun z=>some (D.int z)) ?_;have e1:((List.range s.length).map fun k=>da s N (k+1))=(List.range s.length).map fun k=>Sm (fun r=>(2*(r:Int)+1)*(cnt s r (k+1):Int)) N:=rfl;rw[e1,tU (fun k r=>(2*(r:Int)+1)*(cnt s r (k+1):Int)),jU];refine cA N fun r _=>?_;have e2:∀l:List Nat,(l.map fun k=>(2*(r:Int)+1)*(cnt s r (k+1):Int)).sum=(2*(r:Int)+1)*(l.map fun k=>(cnt s r (k+1):Int)).sum:=fun l=>by
  induction l with
  | nil=>rw[List.map_nil,List.map_nil];show (0:Int)=_*0;rw[Int.mul_zero]
  | cons k l ih=>rw[List.map_cons,List.map_cons,List.sum_cons,List.sum_cons,ih,Int.mul_add]
 have e3:((List.range s.length).map fun k=>(cnt s r (k+1):Int)).sum=Sm (fun t=>B6 (wv s r t)) 24:=by
  rw[<-CB,<-wz];rfl
 rw[e2,e3,<-qH];refine cA 24 fun t ht=>?_;rw[show (24*r+t) / 24=r by omega,show (24*r+t) % 24=t by omega,B5];unfold oP;rw[show (24*r+t) / 24=r by omega]
end DL.Pg
namespace DL.K07
open PySem DL DL.Pg DL.Lw
def cells_num (R:Nat):cells R=(List.range (24*(R+1))).map fun c=>(c / 24,c % 24):=by
 unfold cells;have:∀m,(List.range m).flatMap (fun r=>(List.range 24).map fun t=>(r,t))=(List.range (24*m)).map fun c=>(c / 24,c % 24):=fun m=>by
  induction m with
  | zero=>rfl
  | succ m ih =>
    rw[List.range_succ (n:=m),List.flatMap_append,ih,show 24*(m+1)=24*m+24 by omega,List.range_add,List.map_append,List.map_map,List.flatMap_singleton];refine congrArg _ (List.map_congr_left fun t ht=>?_);rw[List.mem_range] at ht;simp only[Function.comp,Prod.mk.injEq];omega
 exact this (R+1)
variable {u:Nat->Bool}
end DL.K07
namespace DL.K05
open PySem DL DL.Pg DL.Lw
abbrev QF (x0 x1 x2 x3 x4 x5 x6 x7 x8 x9 x10 x11 x12 x18:Option D):Ev:=[x0,x1,x2,x3,x4,x5,x6,x7,x8,x9,x10,x11,x12,none,none,none,none,none,x18,none,none,none,none,none,none,none]
section
variable {β:Type}[DecidableEq β]{v:Nat->β}{n:Nat}
def hg_L {a b:Nat}:Hg (iR n) v a b↔Hg (bO n) v a b:=Hg.congr fun c d=>nbL_mem
def D6 (c:Nat):mn (iR n) v c=mn (bO n) v c:=by
 rw[Bool.eq_iff_iff,fD,fD];exact⟨fun h d g=>h d (hg_L.mpr g),fun h d g=>h d (hg_L.mp g)⟩
def GU (F:Nat->Int)(a:Nat):GA (iR n) v n F a=GA (bO n) v n F a:=by
 unfold GA;refine cA n fun c _=>?_;by_cases g:Hg (bO n) v a c
 ·rw[if_pos g,if_pos (hg_L.mpr g)]
 ·rw[if_neg g,if_neg fun z=>g (hg_L.mp z)]
end
noncomputable def wD (R:List Nat):Bool:=R.all fun c=>decide (c / 24<7)
def zJ:∀(l:List Int) (i:Int),decide (kb i l<7)=((decide (i<7))&&l.all fun j=>decide (j<7))
 | [],i=>by show decide (i<7)=(decide (i<7)&&true);rw[Bool.and_true]
 | j::l,i=>by
   rw[kb,zJ l,List.all_cons];generalize (l.all fun j=>decide (j<7))=B;rw[<-Bool.and_assoc];refine congrArg (·&&B) ?_;rw[Bool.eq_iff_iff,Bool.and_eq_true,decide_eq_true_eq,decide_eq_true_eq,decide_eq_true_eq];split <;> omega
noncomputable def Ho:D->D
 | .tup [.int r,_]=>.int r
 | d=>d
noncomputable def Hs:D->D
 | .tup [.int r,_]=>.int (2*r+1)
 | d=>d
def ub (c:Nat):dZ [aL c]=some (.int (oP c)):=by
 refine bW rfl ?_;show fw [some (aL c)]=_;unfold fw;exact bA (va (FQ (i:=2) (j:=((c / 24:Nat):Int)) rfl rfl (by omega)) rfl)
abbrev SF (s:List Pc):D:=bI fx (uv (aO 0 s)) 192
def Ck {s:List Pc}{R:List Nat}{a:Nat}(hB:Bf (iR 192) (uv (aO 0 s)) 192 a R R.length)(x0 x1 x2 x4 x7 x8 x9 x10 x11 x12:Option D){ds:List D}(hl:ds.length<100000) :
 jQ (QF x0 x1 x2 (some (SF s)) x4 none (some (.lst (R.map aL))) x7 x8 x9 x10 x11 x12 (some (.lst ds)))=some (.nx (QF x0 x1 x2 (some (SF s)) x4 none (some (.lst (R.map aL))) x7 x8 x9 x10 x11 x12 (some (.lst (if wD R=true then ds++[my (uv (aO 0 s) (R.headD 0),(R.map oP).sum)] else ds))))):=by
 have hfew:=hB.few;obtain⟨r0,R',hR⟩:∃r0 R',R=r0::R':=by
  have:=hB.hd;cases R with
  | nil=>cases this
  | cons a R=>exact⟨a,R,rfl⟩
 have h0:r0<192:=hB.lt r0 (by rw[hR];exact List.mem_cons_self);unfold jQ;have hRl:(R.map aL).length<=16777216:=by rw[List.length_map];omega
 have hc1:=bL (k:=1) (fv:=[]) (i:=br (ab 6)) (g:=gN 0) (c:=tT) (e:=az bN (ab 0) (eC (.int 0))) (δ:=QF x0 x1 x2 (some (SF s)) x4 none (some (.lst (R.map aL))) x7 x8 x9 x10 x11 x12 (some (.lst ds))) (xs:=R.map aL) (fun x=>some (Ho x)) rfl hRl fun x hx=>by
  obtain⟨c,_,rfl⟩:=List.mem_map.mp hx;exact⟨[some (aL c)],rfl,.inl ⟨rfl,.int ((c / 24:Nat):Int),rfl,rfl⟩⟩
 rw[List.filterMap_eq_map',List.map_map] at hc1;have hm:ah wl (ac (bq 1 [] (br (ab 6)) (gN 0) tT (az bN (ab 0) (eC (.int 0)))) ak) (QF x0 x1 x2 (some (SF s)) x4 none (some (.lst (R.map aL))) x7 x8 x9 x10 x11 x12 (some (.lst ds)))=some (.int (kb ((r0 / 24:Nat):Int) (R'.map fun c=>((c / 24:Nat):Int)))):=by
  rw[av hc1];show (intsOf (R.map fun c=>D.int ((c / 24:Nat):Int))).bind _=_;rw[h8 (fun c=>((c / 24:Nat):Int)),hR];show (if (R'.map fun c=>((c / 24:Nat):Int)).length<=100000 then _ else _)=_;rw[if_pos (by rw[List.length_map];rw[hR] at hfew;simp at hfew;omega)]
 have t:tV (az oLt (ah wl (ac (bq 1 [] (br (ab 6)) (gN 0) tT (az bN (ab 0) (eC (.int 0)))) ak)) (eC (.int 7))) (QF x0 x1 x2 (some (SF s)) x4 none (some (.lst (R.map aL))) x7 x8 x9 x10 x11 x12 (some (.lst ds)))=some (wD R):=by
  refine iI (d:=.bl (wD R)) ((aZ hm (y:=.int 7) rfl).trans ?_) rfl;show some (D.bl (decide (kb ((r0 / 24:Nat):Int) (R'.map fun c=>((c / 24:Nat):Int))<7)))=_;refine congrArg (fun z=>some (D.bl z)) ?_;rw[zJ,hR];unfold wD;rw[List.all_cons,List.all_map,Bool.eq_iff_iff];simp only[Bool.and_eq_true,decide_eq_true_eq,List.all_eq_true,Function.comp];constructor
  ·rintro⟨a1,a2⟩;exact⟨by omega,fun c hc=>by have:=a2 c hc;omega⟩
  ·rintro⟨a1,a2⟩;exact⟨by omega,fun c hc=>by have:=a2 c hc;omega⟩
 cases hb:wD R with
 | false =>
   rw[hb] at t;rw[xL t];rfl
 | true =>
   rw[hb] at t;rw[Ef t];have hc2:=bL (k:=1) (fv:=[]) (i:=br (ab 6)) (g:=gN 0) (c:=tT) (e:=ah dZ (ac (ab 0) ak)) (δ:=QF x0 x1 x2 (some (SF s)) x4 none (some (.lst (R.map aL))) x7 x8 x9 x10 x11 x12 (some (.lst ds))) (xs:=R.map aL) (fun x=>some (Hs x)) rfl hRl fun x hx=>by
    obtain⟨c,_,rfl⟩:=List.mem_map.mp hx;exact⟨[some (aL c)],rfl,.inl ⟨rfl,.int (oP c),(av (x:=aL c) rfl).trans (ub c),rfl⟩⟩
   rw[List.filterMap_eq_map',List.map_map] at hc2;have hs:ah pY (ac (bq 1 [] (br (ab 6)) (gN 0) tT (ah dZ (ac (ab 0) ak))) ak) (QF x0 x1 x2 (some (SF s)) x4 none (some (.lst (R.map aL))) x7 x8 x9 x10 x11 x12 (some (.lst ds)))=some (.int (R.map oP).sum):=by
    rw[av hc2];show ((intsOf (R.map fun c=>D.int (oP c))).bind fun is=>some (D.int is.sum))=_;rw[h8 oP];rfl
   have hd:p7 (ab 3) (az bN (ab 6) (eC (.int 0))) (QF x0 x1 x2 (some (SF s)) x4 none (some (.lst (R.map aL))) x7 x8 x9 x10 x11 x12 (some (.lst ds)))=some (fx (uv (aO 0 s) (R.headD 0))):=by
    refine Ax (c:=R.headD 0) (by rw[hR];exact h0) rfl ((aZ (x:=.lst (R.map aL)) (y:=.int ((0:Nat):Int)) rfl rfl).trans (h7 ?_));rw[hR];rfl
   have ht:=fi hd hs;unfold kN;rw[ht];show (if ds.length<16777216 then _ else _)=_;rw[if_pos (by omega)];rfl
def sL {s:List Pc}(x0 x1 x2 x4 x7 x8 x9 x10 x11 x12:Option D):∀(Gs:List (List Nat)) (ds:List D) (x6:Option D),(∀R∈Gs,∃a,a<192/\Bf (iR 192) (uv (aO 0 s)) 192 a R R.length)->ds.length+Gs.length<=10000->∃y6,
 cF (gN 6) jQ (fM Gs) (QF x0 x1 x2 (some (SF s)) x4 none x6 x7 x8 x9 x10 x11 x12 (some (.lst ds)))=some (.nx (QF x0 x1 x2 (some (SF s)) x4 none y6 x7 x8 x9 x10 x11 x12 (some (.lst (ds++(Gs.filter wD).map fun R=>my (uv (aO 0 s) (R.headD 0),(R.map oP).sum))))))
 | [],ds,x6,_,_=>⟨x6,by show _=some (Rs.nx (QF x0 x1 x2 (some (SF s)) x4 none x6 x7 x8 x9 x10 x11 x12 (some (.lst (ds++[])))));rw[List.append_nil];rfl⟩
 | R::Gs,ds,x6,h,hl=>by
   rw[List.length_cons] at hl;obtain⟨a,_,hB⟩:=h R List.mem_cons_self;have e:=Ck hB x0 x1 x2 x4 x7 x8 x9 x10 x11 x12 (ds:=ds) (by omega);obtain⟨y6,ih⟩:=sL x0 x1 x2 x4 x7 x8 x9 x10 x11 x12 Gs (if wD R=true then ds++[my (uv (aO 0 s) (R.headD 0),(R.map oP).sum)] else ds) (some (.lst (R.map aL))) (fun q hq=>h q (List.mem_cons_of_mem _ hq)) (by split <;> first | omega | (rw[List.length_append];simp only[List.length_cons,List.length_nil];omega));refine⟨y6,?_⟩;show cF (gN 6) jQ (.lst (R.map aL)::fM Gs) _=_;rw[cP (δ1:=QF x0 x1 x2 (some (SF s)) x4 none (some (.lst (R.map aL))) x7 x8 x9 x10 x11 x12 (some (.lst ds))) rfl e,ih,List.filter_cons];cases wD R <;> simp
def Ew {s:List Pc}(hF:Far (ag s) (aO 0 s) 8){Gs:List (List Nat)}(h1:Gs.map (fun R=>R.headD 0)=(List.range 192).filter (mn (iR 192) (uv (aO 0 s))))(h2:∀R∈Gs,∃a,a<192/\Bf (iR 192) (uv (aO 0 s)) 192 a R R.length) :
 ((Gs.filter wD).map fun R=>my (uv (aO 0 s) (R.headD 0),(R.map oP).sum))=(Qs s).map my/\Gs.length=(Qs s).length+1:=by
 have hout:∀R∈Gs,wD R = !out (bO 192) (uv (aO 0 s)) 192 (R.headD 0):=fun R hR=>by
  obtain⟨a,ha,hB⟩:=h2 R hR;rw[jG hB];rw[Bool.eq_iff_iff];unfold wD;rw[List.all_eq_true,Bool.not_eq_true'];constructor
  ·intro h;cases z:out (bO 192) (uv (aO 0 s)) 192 a with
   | false=>rfl
   | true =>
     rw[out_iff] at z;have:=h 191 ((hB.mem 191).mpr (hg_L.mpr (z.symm (cg 8) (by decide))));simp at this
  ·intro h c hc;rw[decide_eq_true_eq];have hlt:=hB.lt c hc;rcases Nat.lt_or_ge (c / 24) 7 with z | z
   ·exact z
   ·exfalso;have:=hF.out_ring (c:=c) ha (hg_L.mp (hB.hg c hc)) (by omega);rw[h] at this;cases this
 constructor
 ·rw[qJ hF,List.map_map];have e1:(Gs.filter wD).map (fun R=>my (uv (aO 0 s) (R.headD 0),(R.map oP).sum))=((Gs.filter wD).map fun R=>R.headD 0).map (my∘fun a=>(uv (aO 0 s) a,GA (bO (24*8)) (uv (aO 0 s)) (24*8) oP a)):=by
   rw[List.map_map];refine List.map_congr_left fun R hR=>?_;obtain⟨a,ha,hB⟩:=h2 R (List.mem_filter.mp hR).1;simp only[Function.comp];rw[C3 hB,GU,jG hB]
  rw[e1];refine congrArg _ ?_;have e2:Gs.filter wD=Gs.filter ((fun a => !out (bO 192) (uv (aO 0 s)) 192 a)∘fun R=>R.headD 0):=List.filter_congr fun R hR=>hout R hR;rw[e2,<-List.filter_map,h1,List.filter_filter];unfold Ca;refine List.filter_congr fun c _=>?_;rw[D6,Bool.and_comm]
 ·have:=congrArg List.length h1;rw[List.length_map] at this;rw[this,E6 hF];refine congrArg List.length (List.filter_congr fun c _=>D6 c)
def fine (p:Pn):Nat:=24*min 7 (rg p.1)+tt p.2
def vD {p:Pn}(h:zE p):bj [cS p]=some (aL (fine p)):=by
 have ht:=nA h.2;have hti:=yv h.2.1;have hr:=yU h.1;refine bW rfl ?_;show eS [some (cS p),none,none]=_;unfold eS;rw[aw (aQ (d:=cS p) (δ':=[some (cS p),some (pV p.1),some (pV (wj p.2))]) rfl rfl)];have e1:az gF (az bN (ab 1) (eC (.int 0))) (az bN (ab 1) (eC (.int 1))) [some (cS p),some (pV p.1),some (pV (wj p.2))]=some (.int (p.1.1 / p.1.2)):=ix rfl rfl ⟨h.1.d,by have:=h.1.d4;omega⟩;have e2:az gF (az bN (ab 2) (eC (.int 0))) (az bN (ab 2) (eC (.int 1))) [some (cS p),some (pV p.1),some (pV (wj p.2))]=some (.int ((wj p.2).1 / (wj p.2).2)):=ix rfl rfl ⟨wg _,by have:=AF p.2;omega⟩;rw[ot,<-hti] at e2;rw[<-hr] at e1;refine bA ((fi ((aV (x:=.int 7) rfl e1).trans (Cf _ _)) e2).trans (congrArg some (li (c:=fine p) ?_ ?_)))
 ·unfold fine;omega
 ·unfold fine;omega
def vM {E:List Nat}{β:Type}[DecidableEq β]{val:Nat->Nat->β}(hB:Bd E val 7){p:Pn}(h:zE p):ph E (fine p)=cellAt E p:=by
 have ht:=nA h.2;unfold ph fine cellAt;rw[show (24*min 7 (rg p.1)+tt p.2) / 24=min 7 (rg p.1) by omega,show (24*min 7 (rg p.1)+tt p.2) % 24=tt p.2 by omega];have:bo E (min 7 (rg p.1))=bo E (rg p.1):=by
  rcases Nat.le_total (rg p.1) 7 with z | z
  ·rw[Nat.min_eq_right z]
  ·rw[Nat.min_eq_left z];have last:∀r,7<=r->bo E r=E.length-1:=fun r hr=>by
    have h1:=hB.bo_lt r;have h2:=(hB.le_bo (r:=r) (j:=E.length-1) (by omega)).mp (by have:=hB.lt (E.length-1) (by omega);omega);omega
   rw[last 7 (by decide),last _ z]
 rw[this]
def F4 (R:List Nat):bu (R.map aL)<=1:=depDs_le.mpr fun d hd=>by
 obtain⟨c,_,rfl⟩:=List.mem_map.mp hd;exact Nat.le_refl _
def C1 {a b:ME}{δ:Ev}{c:Nat}{R:List Nat}(ha:a δ=some (aL c))(hb:b δ=some (.lst (R.map aL))):tV (az Ba a b) δ=some (decide (c∈R)):=by
 refine iI (d:=.bl (decide (c∈R))) ((aZ ha hb).trans ?_) rfl;show (if bu (R.map aL)<=30/\bg (aL c)<=30 then some (D.bl ((R.map aL).any fun y=>bP y (aL c))) else none)=_;rw[if_pos ⟨by have:=F4 R;omega,by show (1:Nat)<=30;decide⟩,iD]
def wC (f g:Nat):D->Option D
 | .lst xs=>if ((xs.any fun y=>bP y (aL f))&&xs.any fun y=>bP y (aL g))=true then some (.lst xs) else none
 | _=>none
def s9 (f g:Nat)(R:List Nat):wC f g (.lst (R.map aL))=if (decide (f∈R)&&decide (g∈R))=true then some (.lst (R.map aL)) else none:=by
 show (if (((R.map aL).any fun y=>bP y (aL f))&&(R.map aL).any fun y=>bP y (aL g))=true then _ else _)=_;rw[iD,iD]
def tf (f g:Nat):∀Gs:List (List Nat),(fM Gs).filterMap (wC f g)=fM (Gs.filter fun R=>decide (f∈R)&&decide (g∈R))
 | []=>rfl
 | R::Gs=>by
   show (D.lst (R.map aL)::fM Gs).filterMap (wC f g)=_;rw[List.filterMap_cons,s9,tf f g Gs,List.filter_cons];cases decide (f∈R)&&decide (g∈R) <;> rfl
def D3 (Gs:List (List Nat)):pH (.lst (fM Gs)) (.lst [])=some (.bl (!Gs.isEmpty)):=by
 unfold pH;have hd:bg (.lst (fM Gs))<=30:=by
  show bu (fM Gs)+1<=30;have:bu (fM Gs)<=2:=depDs_le.mpr fun d hd=>by
   unfold fM at hd;obtain⟨R,_,rfl⟩:=List.mem_map.mp hd;show bu (R.map aL)+1<=2;have:=F4 R;omega
  omega
 rw[if_pos ⟨hd,by show (1:Nat)<=30;decide⟩];cases Gs <;> rfl
def GN {s:List Pc}(hok:∀p∈s,p.ok)(hl:s.length<=1000)(he:(ag s).length<=60)(hB7:Bd (ag s) (aO 0 s) 7)(hF:Far (ag s) (aO 0 s) 8){Gs:List (List Nat)}(h1:Gs.map (fun R=>R.headD 0)=(List.range 192).filter (mn (iR 192) (uv (aO 0 s))))(h2:∀R∈Gs,∃a,a<192/\Bf (iR 192) (uv (aO 0 s)) 192 a R R.length)(hGl:Gs.length<=1000){one oth:Pn}(o1:zE one)(o2:zE oth)(x0 x1 x3 x5 x6 x7 x8 x11 x12:Option D):∃y11 y12,
 kY (QF x0 x1 (some (bD s)) x3 (some (.lst (fM Gs))) x5 x6 x7 x8 (some (cS one)) (some (cS oth)) x11 x12 none)=some (.nx (QF x0 x1 (some (bD s)) x3 (some (.lst (fM Gs))) x5 x6 x7 x8 (some (cS one)) (some (cS oth)) y11 y12 none)):=by
 have f1:fine one<192:=by have:=nA o1.2;unfold fine;omega
 have f2:fine oth<192:=by have:=nA o2.2;unfold fine;omega
 obtain⟨R0,V0,hh,hB0,_⟩:=Cd hok hl he o1;have sf:=rF hok hl he o1 o2 hh;have key:(!(Gs.filter fun R=>decide (fine one∈R)&&decide (fine oth∈R)).isEmpty)=decide (cellAt (ag s) oth∈R0):=by
  have k1:cellAt (ag s) oth∈R0↔Hg (bO 192) (uv (aO 0 s)) (fine one) (fine oth):=by
   rw[hB0.mem,<-vM hB7 o1,<-vM hB7 o2];exact(hF.bd.hg_iff f1 f2).symm
  rw[Bool.eq_iff_iff,decide_eq_true_eq,k1];constructor
  ·intro h;cases e:Gs.filter fun R=>decide (fine one∈R)&&decide (fine oth∈R) with
   | nil=>rw[e] at h;cases h
   | cons R l =>
     have hm:R∈Gs.filter fun R=>decide (fine one∈R)&&decide (fine oth∈R):=by rw[e];exact List.mem_cons_self
     rw[List.mem_filter,Bool.and_eq_true,decide_eq_true_eq,decide_eq_true_eq] at hm;obtain⟨a,ha,hB⟩:=h2 R hm.1;exact((hg_L.mp (hB.hg _ hm.2.1)).symm (cg 8) ha).trans (hg_L.mp (hB.hg _ hm.2.2))
  ·intro g;obtain⟨m,hm,hlm⟩:=least (P:=fun d=>Hg (bO 192) (uv (aO 0 s)) (fine one) d) (fine one) (fine one) (Nat.le_refl _) .refl;have hmn:=hm.lt (cg 8) f1;have hmem:m∈Gs.map fun R=>R.headD 0:=by
    rw[h1,List.mem_filter,List.mem_range,D6,fD];exact⟨hmn,fun d g'=>hlm d (hm.trans g')⟩
   obtain⟨R,hR,eR⟩:=List.mem_map.mp hmem;obtain⟨a,ha,hB⟩:=h2 R hR;have ea:a=m:=(jG hB).symm.trans eR;subst ea;have hin:∀c,Hg (bO 192) (uv (aO 0 s)) (fine one) c->c∈R:=fun c gc=>(hB.mem c).mpr (hg_L.mpr ((hm.symm (cg 8) f1).trans gc));have:R∈Gs.filter fun R=>decide (fine one∈R)&&decide (fine oth∈R):=List.mem_filter.mpr ⟨hR,by rw[Bool.and_eq_true,decide_eq_true_eq,decide_eq_true_eq];exact⟨hin _ .refl,hin _ g⟩⟩;cases e:Gs.filter fun R=>decide (fine one∈R)&&decide (fine oth∈R) with
   | nil=>rw[e] at this;cases this
   | cons _ _=>rfl
 refine⟨some (.bl (decide (cellAt (ag s) oth∈R0))),some (.bl (decide (cellAt (ag s) oth∈R0))),?_⟩;unfold kY;have hc:=bL (k:=1) (fv:=[9,10]) (i:=br (ab 4)) (g:=gN 0) (c:=lj (tV (az Ba (ah bj (ac (ab 1) ak)) (ab 0))) (tV (az Ba (ah bj (ac (ab 2) ak)) (ab 0)))) (e:=ab 0) (δ:=QF x0 x1 (some (bD s)) x3 (some (.lst (fM Gs))) x5 x6 x7 x8 (some (cS one)) (some (cS oth)) x11 x12 none) (xs:=fM Gs) (wC (fine one) (fine oth)) rfl (by unfold fM;rw[List.length_map];omega) fun x hx=>by
  unfold fM at hx;obtain⟨R,_,rfl⟩:=List.mem_map.mp hx;refine⟨[some (.lst (R.map aL)),some (cS one),some (cS oth)],rfl,?_⟩;have a1:=C1 (a:=ah bj (ac (ab 1) ak)) (b:=ab 0) (δ:=[some (.lst (R.map aL)),some (cS one),some (cS oth)]) ((av (x:=cS one) rfl).trans (vD o1)) (R:=R) rfl;have a2:=C1 (a:=ah bj (ac (ab 2) ak)) (b:=ab 0) (δ:=[some (.lst (R.map aL)),some (cS one),some (cS oth)]) ((av (x:=cS oth) rfl).trans (vD o2)) (R:=R) rfl;have t:lj (tV (az Ba (ah bj (ac (ab 1) ak)) (ab 0))) (tV (az Ba (ah bj (ac (ab 2) ak)) (ab 0))) [some (.lst (R.map aL)),some (cS one),some (cS oth)]=some (decide (fine one∈R)&&decide (fine oth∈R)):=by
   unfold lj;rw[a1];cases decide (fine one∈R) with
   | false=>rfl
   | true=>exact a2
  rw[t,s9];cases decide (fine one∈R)&&decide (fine oth∈R) with
  | true=>exact .inl ⟨rfl,_,rfl,rfl⟩
  | false=>exact .inr ⟨rfl,rfl⟩
 rw[tf] at hc;rw[aw (aQ (d:=.bl (decide (cellAt (ag s) oth∈R0))) (δ':=QF x0 x1 (some (bD s)) x3 (some (.lst (fM Gs))) x5 x6 x7 x8 (some (cS one)) (some (cS oth)) (some (.bl (decide (cellAt (ag s) oth∈R0)))) x12 none) ((aZ hc (y:=.lst []) rfl).trans (by rw[D3,key])) rfl)];rw[aw (aQ (δ':=QF x0 x1 (some (bD s)) x3 (some (.lst (fM Gs))) x5 x6 x7 x8 (some (cS one)) (some (cS oth)) (some (.bl (decide (cellAt (ag s) oth∈R0)))) (some (.bl (decide (cellAt (ag s) oth∈R0)))) none) ((f6 (x:=bD s) (y:=cS one) (z:=cS oth) rfl rfl rfl).trans sf) rfl)];generalize decide (cellAt (ag s) oth∈R0)=b;have t1:yB (tV (ah (GV .bool) (ac (ab 12) ak))) (QF x0 x1 (some (bD s)) x3 (some (.lst (fM Gs))) x5 x6 x7 x8 (some (cS one)) (some (cS oth)) (some (.bl b)) (some (.bl b)) none)=some false:=rfl;have t2:tV (az pH (ab 12) (ab 11)) (QF x0 x1 (some (bD s)) x3 (some (.lst (fM Gs))) x5 x6 x7 x8 (some (cS one)) (some (cS oth)) (some (.bl b)) (some (.bl b)) none)=some false:=by cases b <;> rfl
 rw[xL (tR t1 t2)];rfl
noncomputable def iv:D->Int
 | .int i=>i
 | _=>0
def yG {l:List D}{is:List Int}(h:l.Perm (is.map D.int)):pY [.lst l]=some (.int is.sum):=by
 have e1:l=(l.map iv).map D.int:=by
  rw[List.map_map];have:l.map (D.int∘iv)=l.map id:=List.map_congr_left fun d hd=>by
   obtain⟨i,_,rfl⟩:=List.mem_map.mp (h.mem_iff.mp hd);rfl
  rw[this,List.map_id]
 have e2:(l.map iv).Perm is:=by
  have:=h.map iv;rw[List.map_map] at this;have e:is.map (iv∘D.int)=is:=by
   have:is.map (iv∘D.int)=is.map id:=List.map_congr_left fun i _=>rfl;rw[this,List.map_id]
  rw[e] at this;exact this
 show ((intsOf l).bind fun is=>some (D.int is.sum))=_;rw[e1,ints_map,<-rJ e2];rfl
noncomputable def GT:D->Option D
 | .tup [.tup l,a]=>if l.isEmpty=true then none else some a
 | _=>none
def C0 (q:List Nat×Int):GT (my q)=if (!q.1.isEmpty)=true then some (.int q.2) else none:=by
 show (if (ai q.1).isEmpty=true then none else some (D.int q.2))=_;cases q.1 <;> rfl
def Ac:∀qs:List (List Nat×Int),(qs.map my).filterMap GT=((qs.filter fun q => !q.1.isEmpty).map Prod.snd).map D.int
 | []=>rfl
 | q::qs=>by
   rw[List.map_cons,List.filterMap_cons,C0,Ac qs,List.filter_cons];cases q.1.isEmpty <;> rfl
def Dq {qs:List (List Nat×Int)}(hl:qs.length<64)(x0 x1 x2 x3 x4 x5 x6 x8 x9 x10 x11 x12 x18:Option D) :
 ah pY (ac (bq 2 [] (br (ab 7)) (gT (be (gN 0) (be (gN 1) eg))) (tV (ab 0)) (ab 1)) ak) (QF x0 x1 x2 x3 x4 x5 x6 (some (.tup (oV qs))) x8 x9 x10 x11 x12 x18)=some (.int ((qs.filter fun q => !q.1.isEmpty).map Prod.snd).sum):=by
 have hp:=lq qs;have hc:=bL (k:=2) (fv:=[]) (i:=br (ab 7)) (g:=gT (be (gN 0) (be (gN 1) eg))) (c:=tV (ab 0)) (e:=ab 1) (δ:=QF x0 x1 x2 x3 x4 x5 x6 (some (.tup (oV qs))) x8 x9 x10 x11 x12 x18) (xs:=oV qs) GT rfl (by rw[vm];omega) fun x hx=>by
  obtain⟨q,_,rfl⟩:=List.mem_map.mp (hp.mem_iff.mp hx);refine⟨[some (fx q.1),some (.int q.2)],rfl,?_⟩;rw[C0];cases e:q.1 with
  | nil=>exact .inr ⟨rfl,rfl⟩
  | cons a l=>exact .inl ⟨rfl,_,rfl,rfl⟩
 rw[av hc];refine yG ?_;rw[<-Ac];exact hp.filterMap _
def ED (q:List Nat×Int):bg (my q)=2:=by
 show max (bu (ai q.1)+1) (max 0 0)+1=2;rw[qj];rfl
def Ct (qs:List (List Nat×Int)):bg (.tup (oV qs))<=30:=by
 show bu (oV qs)+1<=30;have:bu (oV qs)<=2:=depDs_le.mpr fun d hd=>by
  obtain⟨q,_,rfl⟩:=List.mem_map.mp ((lq qs).mem_iff.mp hd);rw[ED];exact Nat.le_refl _
 omega
def pK {d:D}(h:bg d<=30):pH d d=some (.bl false):=by
 unfold pH;rw[if_pos ⟨h,h⟩,ia];rfl
def AN (s:List Pc):u3 s 7=SF s:=by
 unfold u3;rw[DL.K07.cells_num,List.map_map,List.map_map];rfl
noncomputable def Gj (x:Int):Pn:=Classical.choose (K06.r_point x)
def DJ (x:Int):zE (Gj x):=(Classical.choose_spec (K06.r_point x)).1
def DK (x:Int):m__law_point [.int x,.int 6]=some (cS (Gj x)):=(Classical.choose_spec (K06.r_point x)).2
def GK:D->D
 | .int x=>cS (Gj x)
 | d=>d
def sV (ns:List Int)(l h:Option Int):List Int:=(ns.drop (Bq ns.length 0 l)).take (Bq ns.length ns.length h-Bq ns.length 0 l)
def AH (ns:List Int)(l h:Option Int):cutD (ns.map D.int) l h=(sV ns l h).map D.int:=by
 unfold cutD sV;rw[List.length_map,List.map_take,List.map_drop]
def CA (ns:List Int)(l:Option Int){k:Nat}:(sV ns l (some (k:Int))).length<=k:=by
 unfold sV;have:Bq ns.length ns.length (some (k:Int))<=k:=by
  unfold Bq;simp only;rw[if_neg (by omega)];split <;> omega
 rw[List.length_take];omega
abbrev LQ (ns:List Int)(c:Int)(s:List Pc)(Gs:List (List Nat))(x5 x6 x7 x8 x9 x10 x11 x12 x18:Option D):Ev:=QF (some (.lst (ns.map .int))) (some (.int c)) (some (bD s)) (some (SF s)) (some (.lst (fM Gs))) x5 x6 x7 x8 x9 x10 x11 x12 x18
noncomputable abbrev dq (s:List Pc):Option D:=some (.lst ((Qs s).map my))
noncomputable abbrev sq (s:List Pc):Option D:=some (.tup (oV (Qs s)))
def GO (ns:List Int)(c:Int)(x2 x3 x4 x5 x6 x7 x8 x9 x10 x11 x12:Option D):∃y2 y3 y4 y5 y6 y7 y8 y9 y10 y11 y12,
 kZ (QF (some (.lst (ns.map .int))) (some (.int c)) x2 x3 x4 x5 x6 x7 x8 x9 x10 x11 x12 none)=some (.nx (QF (some (.lst (ns.map .int))) (some (.int c)) y2 y3 y4 y5 y6 y7 y8 y9 y10 y11 y12 none)):=by
 obtain⟨q1,q2⟩:=Fu c 6 5 (by decide) (by decide);have es:=By c 6 5 (by decide) (by decide);generalize E9 c 6 5=s at *;have hok:∀p∈s,p.ok:=fun p hp=>(q2 p hp).1;have ho:∀p∈s,p.o<=6:=fun p hp=>by have:=(q2 p hp).2;omega
 have he:=iz hok ho;have hF:=fW hok (N:=8) (by decide) fun p hp=>by have:=ho p hp;omega
 have hB7:=(fW hok (N:=7) (by decide) fun p hp=>by have:=ho p hp;omega).bd;have hq:(Qs s).length<64:=by
  unfold Qs;rw[List.length_map];exact uI hok ho q1 hF
 have hf:=vF hok (by omega) (by omega) hF (by decide) hq;have hfc:=jr hf;have hcv:=BA hok (by omega) (by omega) (N:=8) fun p hp=>by have:=ho p hp;omega
 have hsum:=wY hok (N:=8) (fun p hp=>by have:=ho p hp;omega) (by decide);obtain⟨Gs,eG,h1,h2⟩:=o9 (f:=fx) (v:=uv (aO 0 s)) uJ (n:=192) (N:=8) rfl (by decide) (by decide);obtain⟨hd,hGl⟩:=Ew hF h1 h2;have ec:eF [bD s,.int 7]=some (SF s):=by
  rw[<-AN];exact rG (R:=7) hok (by omega) (by decide)
 unfold kZ;rw[aw (aQ (δ':=QF (some (.lst (ns.map .int))) (some (.int c)) (some (bD s)) x3 x4 x5 x6 x7 x8 x9 x10 x11 x12 none) ((f6 (x:=.int c) (y:=.int 6) (z:=.int 5) rfl rfl rfl).trans es) rfl)];rw[aw (aQ (δ':=QF (some (.lst (ns.map .int))) (some (.int c)) (some (bD s)) (some (SF s)) x4 x5 x6 x7 x8 x9 x10 x11 x12 none) ((aV (x:=bD s) (y:=.int 7) rfl rfl).trans ec) rfl)];rw[aw (aQ (δ':=LQ ns c s Gs x5 x6 x7 x8 x9 x10 x11 x12 none) ((av (x:=SF s) rfl).trans eG) rfl)];rw[aw (show du 13 5 (cw ak) (LQ ns c s Gs x5 x6 x7 x8 x9 x10 x11 x12 none)=some (.nx (LQ ns c s Gs none x6 x7 x8 x9 x10 x11 x12 (some (.lst [])))) from rfl)];obtain⟨y6,ed⟩:=sL (s:=s) (some (.lst (ns.map .int))) (some (.int c)) (some (bD s)) (some (.lst (fM Gs))) x7 x8 x9 x10 x11 x12 Gs [] x6 h2 (by simp only[List.length_nil];omega);rw[List.nil_append,hd] at ed;rw[aw ((cj (xs:=fM Gs) rfl).trans ed)];have frz5:∀m:MS,mY 13 [5] m (LQ ns c s Gs none y6 x7 x8 x9 x10 x11 x12 (dq s))=m (LQ ns c s Gs (dq s) y6 x7 x8 x9 x10 x11 x12 none):=fun m=>rfl;rw[frz5];rw[aw (aQ (δ':=LQ ns c s Gs (dq s) y6 (sq s) x8 x9 x10 x11 x12 none) ((av (x:=bD s) rfl).trans hf) rfl)];have t1:tV (az pH (ab 7) (ah fc (ac (kF jX (ab 5)) ak))) (LQ ns c s Gs (dq s) y6 (sq s) x8 x9 x10 x11 x12 none)=some false :=
  iI (d:=.bl false) ((aZ (x:=.tup (oV (Qs s))) rfl ((av ((vh (x:=.lst ((Qs s).map my)) rfl).trans (vq hq))).trans (show fc [.lst (oV (Qs s))]=some (.tup (oV (Qs s))) from rfl))).trans (pK (Ct _))) rfl
 have t2:tV (az pH (ah bZ (ac (ab 2) ak)) (ah cM (ac (ab 4) ak))) (LQ ns c s Gs (dq s) y6 (sq s) x8 x9 x10 x11 x12 none)=some false:=by
  have el:ah cM (ac (ab 4) ak) (LQ ns c s Gs (dq s) y6 (sq s) x8 x9 x10 x11 x12 none)=some (.int (((Qs s).length+1:Nat):Int)):=by
   rw[av (x:=.lst (fM Gs)) rfl,<-hGl];show some (D.int ((fM Gs).length:Nat))=_;unfold fM;rw[List.length_map]
  exact iI (d:=.bl false) ((aZ ((av (x:=bD s) rfl).trans hfc) el).trans (pK (Nat.zero_le _))) rfl
 rw[aw ((xL (tR t1 t2)).trans rfl)];have t3:tV (az pH (ah pY (ac (bq 2 [] (br (ab 7)) (gT (be (gN 0) (be (gN 1) eg))) (tV (ab 0)) (ab 1)) ak)) (ah dA (ac (ab 2) ak))) (LQ ns c s Gs (dq s) y6 (sq s) x8 x9 x10 x11 x12 none)=some false:=by
  have ea:=Dq hq (some (.lst (ns.map .int))) (some (.int c)) (some (bD s)) (some (SF s)) (some (.lst (fM Gs))) (dq s) y6 x8 x9 x10 x11 x12 none;rw[hsum] at ea;exact iI (d:=.bl false) ((aZ ea ((av (x:=bD s) rfl).trans hcv)).trans (pK (Nat.zero_le _))) rfl
 rw[aw ((xL t3).trans rfl)];have hi:br (GW (ab 0) (FH (eC (.int 2))) (FH (eC (.int 8)))) (LQ ns c s Gs (dq s) y6 (sq s) x8 x9 x10 x11 x12 none)=some ((sV ns (some 2) (some 8)).map D.int):=by
  rw[<-AH];rfl
 have hcl:=CA ns (some 2) (k:=8);have hc:=bL (k:=1) (fv:=[]) (g:=gN 0) (c:=tT) (e:=ah m__law_point (ac (ab 0) (ac (eC (.int 6)) ak))) (fun x=>some (GK x)) hi (by rw[List.length_map];show (sV ns (some 2) (some ((8:Nat):Int))).length<=16777216;omega) fun x hx=>by
  obtain⟨k,_,rfl⟩:=List.mem_map.mp hx;exact⟨[some (.int k)],rfl,.inl ⟨rfl,cS (Gj k),(aV (x:=.int k) (y:=.int 6) rfl rfl).trans (DK k),rfl⟩⟩
 rw[List.filterMap_eq_map',List.map_map] at hc;have mem:∀d∈(sV ns (some 2) (some 8)).map (GK∘D.int),∃p:Pn,zE p/\d=cS p:=fun d hd=>by
  obtain⟨x,_,rfl⟩:=List.mem_map.mp hd;exact⟨_,DJ x,rfl⟩
 generalize (sV ns (some 2) (some 8)).map (GK∘D.int)=ps at *;rw[aw (aQ (δ':=LQ ns c s Gs (dq s) y6 (sq s) (some (.lst ps)) x9 x10 x11 x12 none) hc rfl)];obtain⟨δ',e1,z9,z10,z11,z12,rfl⟩:=pW (g:=gN 9) (body:=wH) (fun δ=>∃z9 z10 z11 z12,δ=LQ ns c s Gs (dq s) y6 (sq s) (some (.lst ps)) z9 z10 z11 z12 none) ps (LQ ns c s Gs (dq s) y6 (sq s) (some (.lst ps)) x9 x10 x11 x12 none) ⟨_,_,_,_,rfl⟩ fun d hd δ hP=>by
  obtain⟨z9,z10,z11,z12,rfl⟩:=hP;obtain⟨one,o1,rfl⟩:=mem d hd;obtain⟨δ',e1,w10,w11,w12,rfl⟩:=pW (g:=gN 10) (body:=kY) (fun δ=>∃z10 z11 z12,δ=LQ ns c s Gs (dq s) y6 (sq s) (some (.lst ps)) (some (cS one)) z10 z11 z12 none) (ps.take 3) (LQ ns c s Gs (dq s) y6 (sq s) (some (.lst ps)) (some (cS one)) z10 z11 z12 none) ⟨_,_,_,rfl⟩ fun d hd δ hP=>by
   obtain⟨v10,v11,v12,rfl⟩:=hP;obtain⟨oth,o2,rfl⟩:=mem d (List.mem_of_mem_take hd);obtain⟨u11,u12,e⟩:=GN hok (by omega) (by omega) hB7 hF h1 h2 (by omega) o1 o2 (some (.lst (ns.map .int))) (some (.int c)) (some (SF s)) (dq s) y6 (sq s) (some (.lst ps)) v11 v12;exact⟨LQ ns c s Gs (dq s) y6 (sq s) (some (.lst ps)) (some (cS one)) (some (cS oth)) v11 v12 none,_,rfl,.inl e,_,_,_,rfl⟩
  exact⟨LQ ns c s Gs (dq s) y6 (sq s) (some (.lst ps)) (some (cS one)) z10 z11 z12 none,_,rfl,.inl ((cj (xs:=ps.take 3) rfl).trans e1),_,_,_,_,rfl⟩
 exact⟨_,_,_,_,_,_,_,_,_,_,_,(cj (xs:=ps) rfl).trans e1⟩
def vk:oV (Qs [])=[]:=by rw[vd];rfl
def An:eB [.tup []]=some (.tup []):=by
 have hF:=fW (s:=[]) (fun p hp=>by cases hp) (N:=8) (by decide) fun p hp=>by cases hp
 have he:=iz (s:=[]) (R:=0) (fun p hp=>by cases hp) fun p hp=>by cases hp
 have:=vF (s:=[]) (fun p hp=>by cases hp) (by simp) (by omega) hF (by decide) (by rw[vd];decide);rw[vk] at this;exact this
def ER:bZ [.tup []]=some (.int 1):=by
 have h:eB [bD []]=some (.tup (oV (Qs []))):=by rw[vk];exact An
 have:=jr (s:=[]) h;rw[vd] at this;exact this
def Fy (ns:List Int):rT [.lst (ns.map .int)]=some (.bl true):=by
 refine bW rfl ?_;show wJ (QF (some (.lst (ns.map .int))) none none none none none none none none none none none none none)=_;unfold wJ;obtain⟨δ',e1,x1,x2,x3,x4,x5,x6,x7,x8,x9,x10,x11,x12,rfl⟩:=pW (g:=gN 1) (body:=kZ) (fun δ=>∃x1 x2 x3 x4 x5 x6 x7 x8 x9 x10 x11 x12,δ=QF (some (.lst (ns.map .int))) x1 x2 x3 x4 x5 x6 x7 x8 x9 x10 x11 x12 none) ((ns.map D.int).take 2) (QF (some (.lst (ns.map .int))) none none none none none none none none none none none none none) ⟨_,_,_,_,_,_,_,_,_,_,_,_,rfl⟩ fun x hx δ hP=>by
  obtain⟨z1,z2,z3,z4,z5,z6,z7,z8,z9,z10,z11,z12,rfl⟩:=hP;obtain⟨k,_,rfl⟩:=List.mem_map.mp (List.mem_of_mem_take hx);obtain⟨w2,w3,w4,w5,w6,w7,w8,w9,w10,w11,w12,h1⟩:=GO ns k z2 z3 z4 z5 z6 z7 z8 z9 z10 z11 z12;exact⟨QF (some (.lst (ns.map .int))) (some (.int k)) z2 z3 z4 z5 z6 z7 z8 z9 z10 z11 z12 none,_,rfl,.inl h1,_,_,_,_,_,_,_,_,_,_,_,_,rfl⟩
 refine(aw ((cj (xs:=(ns.map D.int).take 2) rfl).trans e1)).trans (bA ?_);have c1:∀δ:Ev,az oEq (ah eB (ac (cG ak) ak)) (cG ak) δ=some (.bl true):=fun δ=>(aZ ((av (x:=.tup []) rfl).trans An) (y:=.tup []) rfl).trans rfl;have c2:∀δ:Ev,az oEq (ah bZ (ac (cG ak) ak)) (eC (.int 1)) δ=some (.bl true):=fun δ=>(aZ ((av (x:=.tup []) rfl).trans ER) (y:=.int 1) rfl).trans rfl;unfold Eu;rw[c1];exact c2 _
end DL.K05
namespace DL.Pg
end DL.Pg
namespace DL.Lw
end DL.Lw
namespace DL.K05
open PySem PySem.Spec PyProof.Rows L2 DL DL.Pg DL.Lw
noncomputable def top (i:Nat):Stmt:=PySem.Challenge.pw_ringlayers_k05_whole_faces.main.body.getD i (.Pass ⟨0,0,0,0⟩)
abbrev lz:Stmt:=top 30
abbrev jn:Stmt:=top 31
abbrev gg:Stmt:=top 32
abbrev lA:Stmt:=top 35
abbrev fy:Stmt:=top 36
abbrev jo:Stmt:=top 37
abbrev fA:Stmt:=top 39
abbrev fz:Stmt:=top 40
abbrev nG:Stmt:=top 4
abbrev lx:Stmt:=top 6
abbrev gD:Stmt:=top 7
abbrev i4:Stmt:=top 5
abbrev i5:Stmt:=top 14
abbrev dN:Stmt:=top 13
abbrev ko:Stmt:=top 11
abbrev gb:Stmt:=top 23
abbrev iL:Stmt:=top 16
abbrev ga:Stmt:=top 17
abbrev gO:Stmt:=top 18
abbrev fP:Stmt:=top 19
abbrev o5:Stmt:=top 22
abbrev gf:Stmt:=top 9
abbrev d5:Stmt:=top 8
abbrev gd:Stmt:=top 10
abbrev iK:Stmt:=top 26
abbrev gP:Stmt:=top 27
abbrev gE:Stmt:=top 33
abbrev jm:Stmt:=top 34
abbrev jk:Stmt:=top 24
abbrev jj:Stmt:=top 1
abbrev j3:Stmt:=top 15
abbrev kn:Stmt:=top 21
abbrev ku:Stmt:=top 38
abbrev jl:Stmt:=top 41
abbrev lw:Stmt:=top 42
structure ij (K:PySem.W.Frag)(mg:Str->Option Value) where
 x0:f7 K mg "_law_mix" lz ["_law_cell_here","_law_prime","_law_many"]
 x1:f7 K mg "_law_piece" jn ["_law_cell_here","_law_most"]
 x2:f7 K mg "_law_sheet" gg ["_law_cell_here","_law_most","_law_many"]
 x3:f7 K mg "_law_has" lA ["_law_piece_here","_law_far","_law_turn"]
 x4:f7 K mg "_law_layers" fy ["_law_sheet_here","_law_point_here"]
 x5:f7 K mg "_law_cells" jo ["_law_sheet_here","_law_most"]
 x6:f7 K mg "_law_beside" fA ["_law_cells_here","_law_cell_here"]
 x7:f7 K mg "_law_groups" fz ["_law_cells_here"]
 x8:f7 K mg "span_of" nG ["piece"]
 x9:f7 K mg "edges_of" lx ["sheet"]
 x10:f7 K mg "bands_between" gD ["edges"]
 x11:f7 K mg "turns_of" i4 ["piece"]
 x12:f7 K mg "cells_of" i5 ["piece","edges"]
 x13:f7 K mg "cell_layers" dN ["sheet","edges"]
 x14:f7 K mg "cell_area" ko ["band"]
 x15:f7 K mg "group_area" gb ["group","bands"]
 x16:f7 K mg "cell_beside" iL ["cell","by"]
 x17:f7 K mg "neighbours" ga ["cell","count"]
 x18:f7 K mg "hanging_with" gO ["values","start"]
 x19:f7 K mg "bounded_groups" fP ["values"]
 x20:f7 K mg "faces" o5 ["sheet"]
 x21:f7 K mg "add_change" gf ["changes","far","piece","by"]
 x22:f7 K mg "depth_changes" d5 ["sheet"]
 x23:f7 K mg "depth_rows" gd ["sheet","bands"]
 x24:f7 K mg "depth_areas" iK ["sheet"]
 x25:f7 K mg "covered_area" gP ["sheet"]
 x26:f7 K mg "_law_fraction" gE ["_law_upper","_law_lower"]
 x27:f7 K mg "_law_point" jm ["_law_cell_here","_law_most"]
 x28:f7 K mg "face_count" jk ["sheet"]
 x29:f7 K mg "whole_part" jj ["fraction"]
 x30:f7 K mg "cell_at" j3 ["edges","point"]
 x31:f7 K mg "same_face" kn ["sheet","one","other"]
 x32:f7 K mg "_law_area" ku ["_law_cell_here"]
 x33:f7 K mg "_law_small" jl ["_law_point_here"]
 x34:f7 K mg "law" lw ["_law_script"]
 k_WHOLE_TURN:Tok
 c0:mg "WHOLE_TURN"=some (.int 24 k_WHOLE_TURN)
 z_abs:mg "abs"=none
 z_bool:mg "bool"=none
 z_enumerate:mg "enumerate"=none
 z_isinstance:mg "isinstance"=none
 z_len:mg "len"=none
 z_list:mg "list"=none
 z_max:mg "max"=none
 z_min:mg "min"=none
 z_range:mg "range"=none
 z_set:mg "set"=none
 z_sorted:mg "sorted"=none
 z_sum:mg "sum"=none
 z_tuple:mg "tuple"=none
 z_zip:mg "zip"=none
section
variable {P:Program}{w:World}{K:PySem.W.Frag}{mg:Str->Option Value}{base:Heap}
def cp (T:ij K mg):iH P w base T.x0 1 aK :=
 aU ["_law_cell_here","_law_prime","_law_many"] 0 3 jb rfl fun _ _ _ _ _ _ nd hr hu =>
  (aq (aP (aG eY (aG eY (aG cL (dv 0) am) (dv 1)) (dv 2))))
def m8 (T:ij K mg):iH P w base T.x1 2 cE :=
 aU ["_law_cell_here","_law_most","_law_inner","_law_outer","_law_wide"] 1 5 eT rfl fun _ _ _ _ _ _ nd hr hu =>
  (al (aM (aB (cp T) hr (ae (dv 0) (ae am (ae (dv 1) aj)))) (bX 2 nd))
  (al (aM (aG bB (aG bB (dv 2) am) (aB (cp T) hr (ae (dv 0) (ae am (ae (aG gZ (dv 1) (dv 2)) aj))))) (bX 3 nd))
  (al (aM (aG bB am (aB (cp T) hr (ae (dv 0) (ae am (ae am aj))))) (bX 4 nd))
  (al (jM (dg (rO hu) (aG eY (dv 0) am) am (cq _) AW) (aq (aM am (bX 4 nd))) eJ)
  (aq (aP (ci (ae (dv 2) (ae (dv 3) (ae (aB (cp T) hr (ae (dv 0) (ae am (ae am aj)))) (ae (dv 4) aj)))) (by decide))))))))
abbrev jA:List Str:=["_law_cell_here","_law_most","_law_many"]
def m6 (T:ij K mg):iH P w base T.x2 3 gn :=
 aU jA 2 3 jR rfl fun _ _ _ _ _ _ nd hr hu =>
  (aq (aP (eW fZ rfl T.z_tuple rfl (ae (ck (scX:=au gg) (NX:=jA) (N:=["_law_k","_law_most","_law_cell_here"]) (k:=1) (fv:=[1,0]) rfl qS rfl rfl (fY rfl T.z_range (aB (cp T) hr (ae (dv 0) (ae am (ae (aG bB (dv 2) am) aj))))) (aH (by decide)) (fun _ _ _ _=>⟨(bX 0 (nod ["_law_k","_law_most","_law_cell_here"])),rfl,(aB (m8 T) hr (ae (aG bB (dv 2) (aG cL am (dv 0))) (ae (dv 1) aj)))⟩)) aj))))
def rM (T:ij K mg):iH P w base T.x3 1 dJ :=
 aU ["_law_piece_here","_law_far","_law_turn","_law_inner","_law_outer","_law_begin","_law_wide"] 0 7 gB rfl fun _ _ _ _ _ _ nd hr hu =>
  (al (aM (dv 0) (i9 rfl (bw (bX 3 nd) (bw (bX 4 nd) (bw (bX 5 nd) (bw (bX 6 nd) gx)))) (aR (aR (aR (aR dL))))))
  (al (jM (DW.dt (Au (dg lQ (bb ba (dv 1) am (fun _ _=>rfl)) (aG cL (dv 3) (bb ba (dv 1) am (fun _ _=>rfl))) (cq _) oH) (uN (dg FO (bb ba (dv 1) am (fun _ _=>rfl)) (aG cL (dv 4) (bb ba (dv 1) am (fun _ _=>rfl))) (cq _) F9)))) (aq (aP oB)) eJ)
  (aq (aP (qp lQ (aG eY (aG gZ (bb ba (dv 2) am (fun _ _=>rfl)) (aG cL (dv 5) (bb ba (dv 2) am (fun _ _=>rfl)))) (aG cL am (bb ba (dv 2) am (fun _ _=>rfl)))) (aG cL (dv 6) (bb ba (dv 2) am (fun _ _=>rfl))) (cq _))))))
abbrev iS:List Str:=["_law_sheet_here","_law_point_here"]
def lN (T:ij K mg):iH P w base T.x4 2 dP :=
 aU iS 1 2 iX rfl fun _ _ _ _ _ _ nd hr hu =>
  (aq (aP (eW fZ rfl T.z_tuple rfl (ae (ck (scX:=au fy) (NX:=iS) (N:=["_law_k","_law_piece_here","_law_point_here"]) (k:=2) (fv:=[1]) rfl qS rfl rfl (ww rfl T.z_enumerate (dv 0)) (kh (dk (aH (by decide)) (dk (aH (by decide)) ja))) (fun _ _ _ _=>⟨(i9 rfl (bw (bX 0 (nod ["_law_k","_law_piece_here","_law_point_here"])) (bw (bX 1 (nod ["_law_k","_law_piece_here","_law_point_here"])) gx)) (aR (aR dL))),(p9 (aB (rM T) hr (ae (dv 1) (ae (bb ba (dv 2) am (fun _ _=>rfl)) (ae (bb ba (dv 2) am (fun _ _=>rfl)) aj))))),(dv 0)⟩)) aj))))
def m9 (T:ij K mg):iH P w base T.x5 3 eF :=
 aU ["_law_sheet_here","_law_most","_law_found","_law_ring","_law_turn"] 2 10 eU rfl fun _ _ _ _ _ _ nd hr hu =>
  (al (dB (n:=5) (i:=2) rfl (by decide) AA (lH 2 nd))
  (al (dC PassesOwn.never rfl (fY rfl T.z_range (aG bB (dv 1) am)) (bX 3 nd)
  (aq (dC PassesOwn.never rfl (fY rfl T.z_range am) (bX 4 nd)
  (aq (wt (n:=5) (i:=2) (ul hu) rfl (by decide) rfl (pv 2) (ci (ae (dv 3) (ae (dv 4) aj)) (by decide)) (aB (lN T) hr (ae (dv 0) (ae (ci (ae (ci (ae (aG bB (aG cL am (dv 3)) am) (ae am aj)) (by decide)) (ae (ci (ae (aG bB (aG cL am (dv 4)) am) (ae am aj)) (by decide)) aj)) (by decide)) aj))))))))
  (jJ (n:=5) (i:=2) rfl (by decide) rfl (aq (aP (dv 2))))))
abbrev iU:List Str:=["_law_cells_here","_law_cell_here","_law_ring","_law_turn","_law_some"]
def lP (T:ij K mg):iH P w base T.x6 1 fF :=
 aU iU 0 5 dU rfl fun _ _ _ _ _ _ nd hr hu =>
  (al (aM (dv 1) (i9 rfl (bw (bX 2 nd) (bw (bX 3 nd) gx)) (aR (aR dL))))
  (al (aM (qm (ae (ci (ae (aG gZ (dv 2) am) (ae (dv 3) aj)) (by decide)) (ae (ci (ae (aG bB (dv 2) am) (ae (dv 3) aj)) (by decide)) (ae (ci (ae (dv 2) (ae (aG eY (aG bB (dv 3) am) am) aj)) (by decide)) (ae (ci (ae (dv 2) (ae (aG eY (aG gZ (dv 3) am) am) aj)) (by decide)) aj)))) (by decide)) (bX 4 nd))
  (aq (aP (ck (scX:=au fA) (NX:=iU) (N:=["_law_other","_law_cells_here"]) (k:=1) (fv:=[0]) rfl qS rfl rfl (bJ (dv 4)) (aH (by decide)) (fun _ _ _ _=>⟨(bX 0 (nod ["_law_other","_law_cells_here"])),(Ez (ul hu) (dv 0) (dv 1)),(dv 0)⟩))))))
abbrev iT:List Str:=["_law_cells_here","_law_left","_law_found","_law_group","_law_seen","_law_at","_law_other"]
def lO (T:ij K mg):iH P w base T.x7 2 fE :=
 aU iT 1 14 dS rfl fun _ _ _ _ _ _ nd hr hu =>
  (al (aM (sS rfl rfl T.z_sorted (dv 0)) (bX 1 nd))
  (al (dB (n:=7) (i:=2) rfl (by decide) (d8 aj (by decide)) (lH 2 nd))
  (al (jL PassesOwn.never (p9 (dv 1))
  (al (dB (n:=7) (i:=3) rfl (by decide) (d8 (ae (bb ba (dv 1) am (fun _ _=>rfl)) aj) (by decide)) (lH 3 nd))
  (al (dB (n:=7) (i:=4) rfl (by decide) (xR (Nat.lt_of_le_of_lt (Nat.le_add_right _ _) hu) (bb ba (dv 1) am (fun _ _=>rfl)) oB) (lH 4 nd))
  (al (aM am (bX 5 nd))
  (al (jL PassesOwn.never (dg lQ (dv 5) (mI (n:=7) (is:=[3]) rfl (by decide) (bh fK rfl T.z_len PySem.boot_len (ae (dv 3) aj))) (cq _) oH)
  (al (dC PassesOwn.never rfl (bJ (aB (lP T) hr (ae (dv 0) (ae (mI (n:=7) (is:=[3]) rfl (by decide) (bb ba (dv 3) (dv 5) (fun _ _=>rfl))) aj)))) (bX 6 nd)
  (aq (jM (DW.dt (uO (qd (n:=7) (i:=4) (ul hu) rfl (by decide) (dv 6) (pv 4)) (p8 (dg (rO hu) (uU (ul hu) (dv 0) (dv 6) (fun _ _=>rfl)) (uU (ul hu) (dv 0) (mI (n:=7) (is:=[3]) rfl (by decide) (bb ba (dv 3) am (fun _ _=>rfl))) (fun _ _=>rfl)) (cq _) AW)))) (al (wt (n:=7) (i:=4) (ul hu) rfl (by decide) rfl (pv 4) (dv 6) oB)
  (aq (ke (n:=7) (i:=3) rfl (by decide) rfl (pv 3) (dv 6)))) eJ)))
  (aq (aM (aG bB (dv 5) am) (bX 5 nd)))))
  (fo (n:=7) (is:=[3]) rfl (by decide) rfl (jJ (n:=7) (i:=4) rfl (by decide) rfl (al (qf (i:=1) rfl (lH 1 nd) (scX:=au fz) (NX:=iT) (N:=["_law_cell_here","_law_seen"]) (k:=1) (fv:=[4]) rfl qS rfl rfl (bJ (dv 1)) (aH (by decide)) (fun _ _ _ _=>⟨(bX 0 (nod ["_law_cell_here","_law_seen"])),(Cm (ul hu) (dv 0) (dv 1)),(dv 0)⟩))
  (aq (ke (n:=7) (i:=2) rfl (by decide) rfl (pv 2) (dv 3)))))))))))
  (fo (n:=7) (is:=[2]) rfl (by decide) rfl (aq (aP (dv 2)))))))
def i6 (T:ij K mg):iH P w base T.x8 1 dI :=
 aU ["piece","inner"] 0 2 kj rfl fun _ _ _ _ _ _ nd hr hu =>
  (al (aM (bh (AQ rfl) rfl T.z_max rfl (ae (bb ba (dv 0) am (fun _ _=>rfl)) (ae am aj))) (bX 1 nd))
  (aq (aP (ci (ae (dv 1) (ae (bh (AQ rfl) rfl T.z_max rfl (ae (bb ba (dv 0) am (fun _ _=>rfl)) (ae (dv 1) aj))) aj)) (by decide)))))
def gW (T:ij K mg):iH P w base T.x9 2 e8 :=
 aU ["sheet","fars","piece"] 1 6 gz rfl fun _ _ _ _ _ _ nd hr hu =>
  (al (dB (n:=3) (i:=1) rfl (by decide) (d8 (ae am aj) (by decide)) (lH 1 nd))
  (al (dC PassesOwn.never rfl (bJ (dv 0)) (bX 2 nd)
  (aq (Av (n:=3) (i:=1) rfl (by decide) rfl (pv 1) (aB (i6 T) hr (ae (dv 2) aj)))))
  (fo (n:=3) (is:=[1]) rfl (by decide) rfl (aq (aP (uS rfl rfl T.z_sorted rfl T.z_set (dv 1)))))))
def fR (T:ij K mg):iH P w base T.x10 1 cU :=
 aU ["edges"] 0 1 cX rfl fun _ _ _ _ _ _ nd hr hu =>
  (aq (aP (uT rfl rfl T.z_list rfl T.z_zip (dv 0) (wy 1 (dv 0)))))
abbrev lS:List Str:=["piece","wide"]
def kB (T:ij K mg):iH P w base T.x11 1 dH :=
 aU lS 0 2 gy rfl fun _ _ _ _ _ _ nd hr hu =>
  (al (aM (bh (AO rfl) rfl T.z_min rfl (ae (bb ba (dv 0) am (fun _ _=>rfl)) (ae (cI rfl T.c0) aj))) (bX 1 nd))
  (aq (aP (ck (scX:=au i4) (NX:=lS) (N:=["step","piece"]) (k:=1) (fv:=[0]) rfl qS rfl rfl (fY rfl T.z_range (dv 1)) (aH (by decide)) (fun _ _ _ _=>⟨(bX 0 (nod ["step","piece"])),rfl,(aG eY (aG bB (bb ba (dv 1) am (fun _ _=>rfl)) (dv 0)) (cI rfl T.c0))⟩)))))
abbrev lT:List Str:=["piece","edges","span","turns","cells","band"]
def rL (T:ij K mg):iH P w base T.x12 2 gm :=
 aU lT 1 12 gA rfl fun _ _ _ _ _ _ nd hr hu =>
  (al (aM (aB (i6 T) hr (ae (dv 0) aj)) (bX 2 nd))
  (al (aM (aB (kB T) hr (ae (dv 0) aj)) (bX 3 nd))
  (al (dB (n:=6) (i:=4) rfl (by decide) (d8 aj (by decide)) (lH 4 nd))
  (al (dC PassesOwn.never rfl (xQ rfl T.z_range (sU (dv 1) (bb ba (dv 2) am (fun _ _=>rfl))) (sU (dv 1) (bb ba (dv 2) am (fun _ _=>rfl)))) (bX 5 nd)
  (aq (Av (n:=6) (i:=4) rfl (by decide) rfl (pv 4) (ck (scX:=au i5) (NX:=lT) (N:=["turn","band"]) (k:=1) (fv:=[5]) rfl qS rfl rfl (bJ (dv 3)) (aH (by decide)) (fun _ _ _ _=>⟨(bX 0 (nod ["turn","band"])),rfl,(aG bB (aG cL (cI rfl T.c0) (dv 1)) (dv 0))⟩)))))
  (fo (n:=6) (is:=[4]) rfl (by decide) rfl (aq (aP (dv 4))))))))
abbrev fC:List Str:=["sheet","edges","cells","number","piece","cell"]
def gX (T:ij K mg):iH P w base T.x13 3 cN :=
 aU fC 2 6 dR rfl fun _ _ _ _ _ _ nd hr hu =>
  uP (scX:=au dN) (NX:=fC) (N:=["place"]) (k:=1) (fv:=[]) rfl PassesOwn.never rfl qS rfl rfl (fY rfl T.z_range (aG cL (cI rfl T.c0) (bh fK rfl T.z_len PySem.boot_len (ae (dv 1) aj)))) (aH (by decide)) (fun _ _ _ _=>(bX 0 (nod ["place"]))) (lH 2 nd)
  (ww rfl T.z_enumerate (dv 0)) (zr rfl (lG (lH 3 nd) (lG (lH 4 nd) vN)))
  (bJ (aB (rL T) hr (ae (dv 4) (ae (dv 1) aj)))) (lH 5 nd) (zm (pv 2) (pv 5) (pv 3) (fun _ _=>rfl))
  (aq (aP (ck (scX:=au dN) (NX:=fC) (N:=["numbers"]) (k:=1) (fv:=[]) rfl qS rfl rfl (bJ (dv 2)) (aH (by decide)) (fun _ _ _ _=>⟨(bX 0 (nod ["numbers"])),rfl,(eW fZ rfl T.z_tuple rfl (ae (dv 0) aj))⟩))))
def ju (T:ij K mg):iH P w base T.x14 1 cu :=
 aU ["band"] 0 1 fu rfl fun _ _ _ _ _ _ nd hr hu =>
  (aq (aP (aG gZ (aG cL (bb ba (dv 0) am (fun _ _=>rfl)) (bb ba (dv 0) am (fun _ _=>rfl))) (aG cL (bb ba (dv 0) am (fun _ _=>rfl)) (bb ba (dv 0) am (fun _ _=>rfl))))))
abbrev jy:List Str:=["group","bands"]
def m4 (T:ij K mg):iH P w base T.x15 2 cC :=
 aU jy 1 2 eM rfl fun _ _ _ _ _ _ nd hr hu =>
  (aq (aP (bh (qv rfl) rfl T.z_sum rfl (ae (ck (scX:=au gb) (NX:=jy) (N:=["cell","bands"]) (k:=1) (fv:=[1]) rfl qS rfl rfl (bJ (dv 0)) (aH (by decide)) (fun _ _ _ _=>⟨(bX 0 (nod ["cell","bands"])),rfl,(aB (ju T) hr (ae (bb ba (dv 1) (aG iu (dv 0) (cI rfl T.c0)) (fun _ _=>rfl)) aj))⟩)) aj))))
def gY (T:ij K mg):iH P w base T.x16 1 cO :=
 aU ["cell","by","turn"] 0 3 iW rfl fun _ _ _ _ _ _ nd hr hu =>
  (al (aM (aG eY (dv 0) (cI rfl T.c0)) (bX 2 nd))
  (aq (aP (aG bB (aG gZ (dv 0) (dv 2)) (aG eY (aG bB (dv 2) (dv 1)) (cI rfl T.c0))))))
abbrev jx:List Str:=["cell","count","beside","across"]
def m3 (T:ij K mg):iH P w base T.x17 2 gl :=
 aU jx 1 4 eL rfl fun _ _ _ _ _ _ nd hr hu =>
  (al (aM (qm (ae (aB (gY T) hr (ae (dv 0) (ae am aj))) (ae (aB (gY T) hr (ae (dv 0) (ae (F5 De am) aj))) aj)) (by decide)) (bX 2 nd))
  (al (aM (qm (ae (aG bB (dv 0) (cI rfl T.c0)) (ae (aG gZ (dv 0) (cI rfl T.c0)) aj)) (by decide)) (bX 3 nd))
  (aq (aP (aG bB (dv 2) (ck (scX:=au ga) (NX:=jx) (N:=["other","count"]) (k:=1) (fv:=[1]) rfl qS rfl rfl (bJ (dv 3)) (aH (by decide)) (fun _ _ _ _=>⟨(bX 0 (nod ["other","count"])),(ou CP lQ C6 oH am (dv 0) (dv 1)),(dv 0)⟩)))))))
def d7 (T:ij K mg):Hh P w base T.x18 3 aN :=
 En ["values","start","before","row","place","cell","other"] 2 14 cy rfl fun _ _ _ _ _ _ nd hr hu =>
  (jK (dB (n:=7) (i:=2) rfl (by decide) (AB (dv 1) EG) (lH 2 nd))
  (jK (dB (n:=7) (i:=3) rfl (by decide) (d8 (ae (dv 1) aj) (by decide)) (lH 3 nd))
  (jK (aM am (bX 4 nd))
  (jK (jL PassesOwn.never (dg lQ (dv 4) (mI (n:=7) (is:=[3]) rfl (by decide) (bh fK rfl T.z_len PySem.boot_len (ae (dv 3) aj))) (cq _) oH)
  (al (aM (mI (n:=7) (is:=[3]) rfl (by decide) (bb ba (dv 3) (dv 4) (fun _ _=>rfl))) (bX 5 nd))
  (al (dC PassesOwn.never rfl (bJ (aB (m3 T) hr (ae (dv 5) (ae (bh fK rfl T.z_len PySem.boot_len (ae (dv 0) aj)) aj)))) (bX 6 nd)
  (aq (jM (DW.dt (uO (qd (n:=7) (i:=2) (ul hu) rfl (by decide) (dv 6) (pv 2)) (p8 (dg (rO hu) (bb ba (dv 0) (dv 6) (fun _ _=>rfl)) (bb ba (dv 0) (dv 1) (fun _ _=>rfl)) (cq _) AW)))) (al (Cp (n:=7) (i:=2) (ul hu) rfl (by decide) rfl (pv 2) (dv 6) (dv 5))
  (aq (ke (n:=7) (i:=3) rfl (by decide) rfl (pv 3) (dv 6)))) eJ)))
  (aq (EC (i:=4) nd rfl rfl am)))))
  (Co (n:=7) (i:=2) rfl (by decide) rfl (pv 2))))))
def jv (T:ij K mg):iH P w base T.x19 4 cD :=
 aU ["values","known","groups","cell","group"] 3 10 cK rfl fun _ _ _ _ _ _ nd hr hu =>
  (al (dB (n:=5) (i:=1) rfl (by decide) (uR (d7 T) hr (ae (dv 0) (ae (aG gZ (bh fK rfl T.z_len PySem.boot_len (ae (dv 0) aj)) am) aj))) (lH 1 nd))
  (al (dB (n:=5) (i:=2) rfl (by decide) (d8 aj (by decide)) (lH 2 nd))
  (al (dC PassesOwn.never rfl (fY rfl T.z_range (bh fK rfl T.z_len PySem.boot_len (ae (dv 0) aj))) (bX 3 nd)
  (aq (jM (qd (n:=5) (i:=1) (ul hu) rfl (by decide) (dv 3) (pv 1)) (al (dB (n:=5) (i:=4) rfl (by decide) (uR (d7 T) hr (ae (dv 0) (ae (dv 3) aj))) (lH 4 nd))
  (jJ (n:=5) (i:=4) rfl (by decide) rfl (al (EA (n:=5) (i:=1) rfl (by decide) rfl (pv 1) (dv 4))
  (aq (ke (n:=5) (i:=2) rfl (by decide) rfl (pv 2) (DF.de (Az rfl rfl T.z_list (dv 4)) (xy _))))))) eJ)))
  (fo (n:=5) (is:=[2]) rfl (by decide) rfl (jJ (n:=5) (i:=1) rfl (by decide) rfl (aq (aP (dv 2))))))))
abbrev vW:List Str:=["sheet","edges","bands","numbers"]
def lK (T:ij K mg):iH P w base T.x20 5 eB :=
 aU vW 4 4 la rfl fun _ _ _ _ _ _ nd hr hu =>
  (al (aM (aB (gW T) hr (ae (dv 0) aj)) (bX 1 nd))
  (al (aM (aB (fR T) hr (ae (dv 1) aj)) (bX 2 nd))
  (al (aM (aB (gX T) hr (ae (dv 0) (ae (dv 1) aj))) (bX 3 nd))
  (aq (aP (eW fZ rfl T.z_tuple rfl (ae (sT hu rfl T.z_sorted (ck (scX:=au o5) (NX:=vW) (N:=["group","numbers","bands"]) (k:=1) (fv:=[3,2]) rfl qS rfl rfl (bJ (aB (jv T) hr (ae (dv 3) aj))) (aH (by decide)) (fun _ _ _ _=>⟨(bX 0 (nod ["group","numbers","bands"])),rfl,(ci (ae (bb ba (dv 1) (bb ba (dv 0) am (fun _ _=>rfl)) (fun _ _=>rfl)) (ae (aB (m4 T) hr (ae (dv 0) (ae (dv 2) aj))) aj)) (by decide))⟩))) aj)))))))
def sc_add_change:dG ["changes","far","piece","by","row","turn"] ["changes","far","piece","by"] (au gf):=Gm
def iP (T:ij K mg):gC P w K mg base lc 2 T.x21.f T.x21.fd ["changes","far","piece","by"] (vp K dH) :=
 T.x21.F.ok sc_add_change (fun vs H Q E h=>by obtain⟨_,_,_,_,_,_,_,_,rfl,_⟩:=h;rfl) fun cdv A outer s H vs Q E hr hq =>
  ⟨_,dw (uf (i:=4) sc_add_change.nd rfl (Or.inl rfl) (BI (pv 0) (pv 1) (zu zD (uk (aI gR bF)) (vQ (v:=.int 24) rfl T.c0 ⟨_,rfl⟩)))) (fj (lF PassesOwn.never rfl (BG (ir (kB T) (hr.mono (by decide)) rfl T.x11.g T.x11.F.kp T.x11.b .nil nQ (aI (pv 2) bF))) (lH 5 sc_add_change.nd) (fj (vJ (pv 4) (pv 5) sB (pv 3) uD set_list)))),A3 rfl hq fun _ _ z=>z⟩
def sc_depth_changes:dG ["sheet","changes","piece","span"] ["sheet"] (au d5):=Gm
def j7 (T:ij K mg):gC P w K mg base lc 3 T.x22.f T.x22.fd ["sheet"] (tD K cT) :=
 T.x22.F.ok sc_depth_changes (fun vs H Q E h=>EK h) fun cdv A outer s H vs Q E hr hq =>
  ⟨_,dw (uf (i:=1) sc_depth_changes.nd rfl (Or.inl rfl) zx) (dw (lF PassesOwn.never rfl (DP (pv 0)) (lH 2 sc_depth_changes.nd) (dw (uf (i:=3) sc_depth_changes.nd rfl (Or.inl rfl) (ir (i6 T) (hr.mono (by decide)) rfl T.x8.g T.x8.F.kp T.x8.b .nil nQ (aI (pv 2) bF))) (dw (iq (ir (iP T) (hr.mono (by decide)) rfl T.x21.g T.x21.F.kp T.x21.b .nil nQ (aI (pv 1) (aI (vP ix_tup (pv 3) gR (fun _ _=>rfl)) (aI (pv 2) (aI gR bF)))))) (fj (iq (ir (iP T) (hr.mono (by decide)) rfl T.x21.g T.x21.F.kp T.x21.b .nil nQ (aI (pv 1) (aI (vP ix_tup (pv 3) gR (fun _ _=>rfl)) (aI (pv 2) (aI (CO yo gR) bF)))))))))) (xq (fj (ug (pv 1))))),Cy rfl hq⟩
abbrev jz:List Str:=["sheet","bands","changes","rows","row","band","change"]
def m5 (T:ij K mg):iH P w base T.x23 4 eE :=
 aU jz 3 14 eO rfl fun _ _ _ _ _ _ nd hr hu =>
  (al (aM (aB (j7 T) hr (ae (dv 0) aj)) (bX 2 nd))
  (al (dB (n:=7) (i:=3) rfl (by decide) (d8 aj (by decide)) (lH 3 nd))
  (al (aM (DF.de (uQ (d8 (ae am aj) (by decide)) (cI rfl T.c0)) (rV _ _)) (bX 4 nd))
  (al (dC PassesOwn.never rfl (bJ (dv 1)) (bX 5 nd)
  (al (aM (Cu (ul hu) (dv 2) (bb ba (dv 5) am (fun _ _=>rfl)) (DF.de (uQ (d8 (ae am aj) (by decide)) (cI rfl T.c0)) (rV _ _))) (bX 6 nd))
  (al (qf (i:=4) rfl (lH 4 nd) (scX:=au gd) (NX:=jz) (N:=["depth","by"]) (k:=2) (fv:=[]) rfl qS rfl rfl (Ay rfl T.z_zip (dv 4) (dv 6)) (kh (dk (aH (by decide)) (dk (aH (by decide)) ja))) (fun _ _ _ _=>⟨(i9 rfl (bw (bX 0 (nod ["depth","by"])) (bw (bX 1 (nod ["depth","by"])) gx)) (aR (aR dL))),rfl,(aG bB (dv 0) (dv 1))⟩))
  (aq (ke (n:=7) (i:=3) rfl (by decide) rfl (pv 3) (dv 4))))))
  (fo (n:=7) (is:=[3]) rfl (by decide) rfl (aq (aP (dv 3))))))))
def lL (T:ij K mg):iH P w base T.x24 5 dO :=
 aU ["sheet","areas","bands","band","row","depth"] 4 12 dQ rfl fun _ _ _ _ _ _ nd hr hu =>
  (al (dB (n:=6) (i:=1) rfl (by decide) (uQ (d8 (ae am aj) (by decide)) (aG bB (bh fK rfl T.z_len PySem.boot_len (ae (dv 0) aj)) am)) (lH 1 nd))
  (al (aM (aB (fR T) hr (ae (aB (gW T) hr (ae (dv 0) aj)) aj)) (bX 2 nd))
  (al (dC PassesOwn.never rfl (Ay rfl T.z_zip (dv 2) (aB (m5 T) hr (ae (dv 0) (ae (dv 2) aj)))) (i9 rfl (bw (bX 3 nd) (bw (bX 4 nd) gx)) (aR (aR dL)))
  (aq (dC PassesOwn.never rfl (bJ (dv 4)) (bX 5 nd)
  (aq (Cq (n:=6) (i:=1) rfl (by decide) rfl (pv 1) (dv 5) (aB (ju T) hr (ae (dv 3) aj)))))))
  (fo (n:=6) (is:=[1]) rfl (by decide) rfl (aq (aP (eW fZ rfl T.z_tuple rfl (ae (wy 1 (dv 1)) aj))))))))
def kO (T:ij K mg):iH P w base T.x25 6 dA :=
 aU ["sheet"] 5 1 dE rfl fun _ _ _ _ _ _ nd hr hu =>
  (aq (aP (bh (qv rfl) rfl T.z_sum rfl (ae (aB (lL T) hr (ae (dv 0) aj)) aj))))
def fS (T:ij K mg):iH P w base T.x26 1 m__law_fraction :=
 aU ["_law_upper","_law_lower","_law_one","_law_other"] 0 4 b__law_fraction rfl fun _ _ _ _ _ _ nd hr hu =>
  (al (aM (bh EU rfl T.z_abs rfl (ae (dv 0) aj)) (bX 2 nd))
  (al (aM (dv 1) (bX 3 nd))
  (al (jL PassesOwn.never (dg FN (dv 3) am (cq _) F8)
  (aq (EB (i:=2) (j:=3) rfl nd rfl rfl (by decide) rfl rfl (dv 3) (aG eY (dv 2) (dv 3)) rfl)))
  (aq (aP (ci (ae (aG iu (dv 0) (dv 2)) (ae (aG iu (dv 1) (dv 2)) aj)) (by decide)))))))
def m7 (T:ij K mg):iH P w base T.x27 2 m__law_point :=
 aU ["_law_cell_here","_law_most","_law_far"] 1 3 b__law_point rfl fun _ _ _ _ _ _ nd hr hu =>
  (al (aM (aB (fS T) hr (ae (aG bB am (aB (cp T) hr (ae (dv 0) (ae am (ae (aG bB (aG cL am (dv 1)) am) aj))))) (ae am aj))) (bX 2 nd))
  (aq (aP (ci (ae (dv 2) (ae (aB (fS T) hr (ae (aB (cp T) hr (ae (dv 0) (ae am (ae am aj)))) (ae am aj))) aj)) (by decide)))))
def iO (T:ij K mg):iH P w base T.x28 6 bZ :=
 aU ["sheet"] 5 1 eN rfl fun _ _ _ _ _ _ nd hr hu =>
  (aq (aP (aG bB (bh fK rfl T.z_len PySem.boot_len (ae (aB (lK T) hr (ae (dv 0) aj)) aj)) am)))
def iN (T:ij K mg):iH P w base T.x29 1 bR :=
 aU ["fraction"] 0 1 eK rfl fun _ _ _ _ _ _ nd hr hu =>
  (aq (aP (aG iu (bb ba (dv 0) am (fun _ _=>rfl)) (bb ba (dv 0) am (fun _ _=>rfl)))))
abbrev nV:List Str:=["edges","point","far","inward"]
def lM (T:ij K mg):iH P w base T.x30 2 eV :=
 aU nV 1 4 iC rfl fun _ _ _ _ _ _ nd hr hu =>
  (al (aM (aB (iN T) hr (ae (bb ba (dv 1) am (fun _ _=>rfl)) aj)) (bX 2 nd))
  (al (aM (bh fK rfl T.z_len PySem.boot_len (ae (ck (scX:=au j3) (NX:=nV) (N:=["edge","far"]) (k:=1) (fv:=[2]) rfl qS rfl rfl (bJ (dv 0)) (aH (by decide)) (fun _ _ _ _=>⟨(bX 0 (nod ["edge","far"])),(ou lQ CP oH C6 am (dv 0) (dv 1)),(dv 0)⟩)) aj)) (bX 3 nd))
  (aq (aP (aG bB (aG cL (cI rfl T.c0) (dv 3)) (aG eY (aB (iN T) hr (ae (bb ba (dv 1) am (fun _ _=>rfl)) aj)) (cI rfl T.c0)))))))
def pC (T:ij K mg):iH P w base T.x31 4 g9 :=
 aU ["sheet","one","other","edges"] 3 4 ft rfl fun _ _ _ _ _ _ nd hr hu =>
  (al (aM (aB (gW T) hr (ae (dv 0) aj)) (bX 3 nd))
  (aq (aP (EI (ul hu) (aB (lM T) hr (ae (dv 3) (ae (dv 2) aj))) (uR (d7 T) hr (ae (aB (gX T) hr (ae (dv 0) (ae (dv 3) aj))) (ae (aB (lM T) hr (ae (dv 3) (ae (dv 1) aj))) aj)))))))
def pF (T:ij K mg):iH P w base T.x32 1 dZ :=
 aU ["_law_cell_here"] 0 1 fw rfl fun _ _ _ _ _ _ nd hr hu =>
  (aq (aP (aG bB (aG cL am (bb ba (dv 0) am (fun _ _=>rfl))) am)))
def iQ (T:ij K mg):iH P w base T.x33 1 bj :=
 aU ["_law_point_here","_law_far","_law_turn"] 0 3 eS rfl fun _ _ _ _ _ _ nd hr hu =>
  (al (aM (dv 0) (i9 rfl (bw (bX 1 nd) (bw (bX 2 nd) gx)) (aR (aR dL))))
  (aq (aP (ci (ae (bh (AO rfl) rfl T.z_min rfl (ae am (ae (aG iu (bb ba (dv 1) am (fun _ _=>rfl)) (bb ba (dv 1) am (fun _ _=>rfl))) aj))) (ae (aG iu (bb ba (dv 2) am (fun _ _=>rfl)) (bb ba (dv 2) am (fun _ _=>rfl))) aj)) (by decide)))))
abbrev nU:List Str:=["_law_script","_law_cell_here","_law_sheet_here","_law_cells_here","_law_bunches","_law_due","_law_group","_law_found","_law_points","_law_one","_law_other","_law_same","_law_told"]
def D2 (T:ij K mg):iH P w base T.x34 7 rT :=
 aU nU 6 26 wJ rfl fun _ _ _ _ _ _ nd hr hu =>
  (al (dC PassesOwn.never rfl (bJ (AG 2 (dv 0))) (bX 1 nd)
  (al (aM (aB (m6 T) hr (ae (dv 1) (ae am (ae am aj)))) (bX 2 nd))
  (al (aM (aB (m9 T) hr (ae (dv 2) (ae am aj))) (bX 3 nd))
  (al (aM (aB (lO T) hr (ae (dv 3) aj)) (bX 4 nd))
  (al (dB (n:=13) (i:=5) rfl (by decide) (d8 aj (by decide)) (lH 5 nd))
  (al (dC PassesOwn.never rfl (bJ (dv 4)) (bX 6 nd)
  (aq (jM (dg lQ (bh (CC rfl) rfl T.z_max rfl (ae (ck (scX:=au lw) (NX:=nU) (N:=["_law_one"]) (k:=1) (fv:=[]) rfl qS rfl rfl (bJ (dv 6)) (aH (by decide)) (fun _ _ _ _=>⟨(bX 0 (nod ["_law_one"])),rfl,(bb ba (dv 0) am (fun _ _=>rfl))⟩)) aj)) am (cq _) oH) (aq (ke (n:=13) (i:=5) rfl (by decide) rfl (pv 5) (ci (ae (uU (ul hu) (dv 3) (bb ba (dv 6) am (fun _ _=>rfl)) (fun _ _=>rfl)) (ae (bh (qv rfl) rfl T.z_sum rfl (ae (ck (scX:=au lw) (NX:=nU) (N:=["_law_one"]) (k:=1) (fv:=[]) rfl qS rfl rfl (bJ (dv 6)) (aH (by decide)) (fun _ _ _ _=>⟨(bX 0 (nod ["_law_one"])),rfl,(aB (pF T) hr (ae (dv 0) aj))⟩)) aj)) aj)) (by decide)))) eJ)))
  (fo (n:=13) (is:=[5]) rfl (by decide) rfl (al (aM (aB (lK T) hr (ae (dv 2) aj)) (bX 7 nd))
  (al (jM (DW.dt (Au (dg (rN hu) (dv 7) (eW fZ rfl T.z_tuple rfl (ae (sT hu rfl T.z_sorted (dv 5)) aj)) (cq _) wG) (uN (dg (rN hu) (aB (iO T) hr (ae (dv 2) aj)) (bh fK rfl T.z_len PySem.boot_len (ae (dv 4) aj)) (cq _) wG)))) (aq (aP oB)) eJ)
  (al (jM (dg (rN hu) (bh (qv rfl) rfl T.z_sum rfl (ae (ck (scX:=au lw) (NX:=nU) (N:=["_law_inside","_law_area_here"]) (k:=2) (fv:=[]) rfl qS rfl rfl (bJ (dv 7)) (kh (dk (aH (by decide)) (dk (aH (by decide)) ja))) (fun _ _ _ _=>⟨(i9 rfl (bw (bX 0 (nod ["_law_inside","_law_area_here"])) (bw (bX 1 (nod ["_law_inside","_law_area_here"])) gx)) (aR (aR dL))),(p9 (dv 0)),(dv 1)⟩)) aj)) (aB (kO T) hr (ae (dv 2) aj)) (cq _) wG) (aq (aP oB)) eJ)
  (al (qf (i:=8) rfl (lH 8 nd) (scX:=au lw) (NX:=nU) (N:=["_law_more"]) (k:=1) (fv:=[]) rfl qS rfl rfl (bJ (F6 (dv 0) (Aw am) (Aw am))) (aH (by decide)) (fun _ _ _ _=>⟨(bX 0 (nod ["_law_more"])),rfl,(aB (m7 T) hr (ae (dv 0) (ae am aj)))⟩))
  (aq (dC PassesOwn.never rfl (bJ (dv 8)) (bX 9 nd)
  (aq (dC PassesOwn.never rfl (bJ (AG 3 (dv 8))) (bX 10 nd)
  (al (aM (qp (rN hu) (ck (scX:=au lw) (NX:=nU) (N:=["_law_group","_law_one","_law_other"]) (k:=1) (fv:=[9,10]) rfl qS rfl rfl (bJ (dv 4)) (aH (by decide)) (fun _ _ _ _=>⟨(bX 0 (nod ["_law_group","_law_one","_law_other"])),(DW.dt (uO (dg (CQ hu) (aB (iQ T) hr (ae (dv 1) aj)) (dv 0) rfl C7) (p8 (dg (CQ hu) (aB (iQ T) hr (ae (dv 2) aj)) (dv 0) rfl C7)))),(dv 0)⟩)) (qm aj (by decide)) (cq _)) (bX 11 nd))
  (al (aM (aB (pC T) hr (ae (dv 2) (ae (dv 9) (ae (dv 10) aj)))) (bX 12 nd))
  (aq (jM (DW.dt (Au (Ey (p9 (EH .bool rfl T.z_isinstance rfl T.z_bool rfl (dv 12)))) (uN (dg (rN hu) (dv 12) (dv 11) (cq _) wG)))) (aq (aP oB)) eJ)))))))))))))))))))
  (aq (aP (EJ (qp (rO hu) (aB (lK T) hr (ae (ci aj (by decide)) aj)) (ci aj (by decide)) (cq _)) (EF (qp (rO hu) (aB (iO T) hr (ae (ci aj (by decide)) aj)) am (cq _)))))))
end
set_option maxHeartbeats 0 in
def all_mk {l:PySem.W.OpenLaw}{w:World}{K:PySem.W.Frag}{h:Heap}{mg:Str->Option Value}{fa:Addr}(X:K.In h)(G:h.Ns mainGlobals mg)(hfa:mg "law"=some (.ref fa))
 (x0:FnI K "_law_mix" lz)
 (x1:FnI K "_law_piece" jn)
 (x2:FnI K "_law_sheet" gg)
 (x3:FnI K "_law_has" lA)
 (x4:FnI K "_law_layers" fy)
 (x5:FnI K "_law_cells" jo)
 (x6:FnI K "_law_beside" fA)
 (x7:FnI K "_law_groups" fz)
 (x8:FnI K "span_of" nG)
 (x9:FnI K "edges_of" lx)
 (x10:FnI K "bands_between" gD)
 (x11:FnI K "turns_of" i4)
 (x12:FnI K "cells_of" i5)
 (x13:FnI K "cell_layers" dN)
 (x14:FnI K "cell_area" ko)
 (x15:FnI K "group_area" gb)
 (x16:FnI K "cell_beside" iL)
 (x17:FnI K "neighbours" ga)
 (x18:FnI K "hanging_with" gO)
 (x19:FnI K "bounded_groups" fP)
 (x20:FnI K "faces" o5)
 (x21:FnI K "add_change" gf)
 (x22:FnI K "depth_changes" d5)
 (x23:FnI K "depth_rows" gd)
 (x24:FnI K "depth_areas" iK)
 (x25:FnI K "covered_area" gP)
 (x26:FnI K "_law_fraction" gE)
 (x27:FnI K "_law_point" jm)
 (x28:FnI K "face_count" jk)
 (x29:FnI K "whole_part" jj)
 (x30:FnI K "cell_at" j3)
 (x31:FnI K "same_face" kn)
 (x32:FnI K "_law_area" ku)
 (x33:FnI K "_law_small" jl)
 (x34:FnI K "law" lw)
 {tk0:Tok}
 (v0:PySem.W.nsIn K mainGlobals "WHOLE_TURN"=some (some (.int 24 tk0)))
 (z0:PySem.W.nsIn K mainGlobals "abs"=some none)
 (z1:PySem.W.nsIn K mainGlobals "bool"=some none)
 (z2:PySem.W.nsIn K mainGlobals "enumerate"=some none)
 (z3:PySem.W.nsIn K mainGlobals "isinstance"=some none)
 (z4:PySem.W.nsIn K mainGlobals "len"=some none)
 (z5:PySem.W.nsIn K mainGlobals "list"=some none)
 (z6:PySem.W.nsIn K mainGlobals "max"=some none)
 (z7:PySem.W.nsIn K mainGlobals "min"=some none)
 (z8:PySem.W.nsIn K mainGlobals "range"=some none)
 (z9:PySem.W.nsIn K mainGlobals "set"=some none)
 (z10:PySem.W.nsIn K mainGlobals "sorted"=some none)
 (z11:PySem.W.nsIn K mainGlobals "sum"=some none)
 (z12:PySem.W.nsIn K mainGlobals "tuple"=some none)
 (z13:PySem.W.nsIn K mainGlobals "zip"=some none) :
 ∃fd:FuncData,(∀(s:Shared) (v:Value),BindsTo s fd ⟨[v],[]⟩ [("_law_script",v)])/\∀base:Heap,K.In base->base.Ns mainGlobals mg->gC l.prog w K mg base lc 7 fa fd ["_law_script"] (tD K rT):=by
 cases hfa.symm.trans (PySem.W.mg_of X G x34.a);have hb:∀(s:Shared) (v:Value),BindsTo s x34.fd ⟨[v],[]⟩ [("_law_script",v)]:=by
  obtain⟨_,_,_,_,_,_,_,_,_,e,_⟩:=x34.F.ex;rw[e];exact fun s v=>.of_eq rfl
 exact⟨x34.fd,hb,fun base _ _=>D2 (T:={
  x0:=x0.g X G,
  x1:=x1.g X G,
  x2:=x2.g X G,
  x3:=x3.g X G,
  x4:=x4.g X G,
  x5:=x5.g X G,
  x6:=x6.g X G,
  x7:=x7.g X G,
  x8:=x8.g X G,
  x9:=x9.g X G,
  x10:=x10.g X G,
  x11:=x11.g X G,
  x12:=x12.g X G,
  x13:=x13.g X G,
  x14:=x14.g X G,
  x15:=x15.g X G,
  x16:=x16.g X G,
  x17:=x17.g X G,
  x18:=x18.g X G,
  x19:=x19.g X G,
  x20:=x20.g X G,
  x21:=x21.g X G,
  x22:=x22.g X G,
  x23:=x23.g X G,
  x24:=x24.g X G,
  x25:=x25.g X G,
  x26:=x26.g X G,
  x27:=x27.g X G,
  x28:=x28.g X G,
  x29:=x29.g X G,
  x30:=x30.g X G,
  x31:=x31.g X G,
  x32:=x32.g X G,
  x33:=x33.g X G,
  x34:=x34.g X G,
  k_WHOLE_TURN:=tk0,c0:=PySem.W.mg_of X G v0,
  z_abs:=PySem.W.mg_none_of X G z0,
  z_bool:=PySem.W.mg_none_of X G z1,
  z_enumerate:=PySem.W.mg_none_of X G z2,
  z_isinstance:=PySem.W.mg_none_of X G z3,
  z_len:=PySem.W.mg_none_of X G z4,
  z_list:=PySem.W.mg_none_of X G z5,
  z_max:=PySem.W.mg_none_of X G z6,
  z_min:=PySem.W.mg_none_of X G z7,
  z_range:=PySem.W.mg_none_of X G z8,
  z_set:=PySem.W.mg_none_of X G z9,
  z_sorted:=PySem.W.mg_none_of X G z10,
  z_sum:=PySem.W.mg_none_of X G z11,
  z_tuple:=PySem.W.mg_none_of X G z12,
  z_zip:=PySem.W.mg_none_of X G z13 })⟩
def walk {l:PySem.W.OpenLaw}{q:Program}{loose:List Str}{XP:(Str->Option Value)->Heap->Prop}{YP:World->Heap->Prop}{d:DefRec}{K:Params->PySem.W.Frag}(hn:l.most=some 63)(hdf:d.params.defaults=[])
 (hY:∀(w:World) (h:Heap),YP w h->(K w.params).In h)
 (F:∀(w:World) (mg:Str->Option Value) (fa:Addr) (h:Heap),(K w.params).In h->h.Ns mainGlobals mg->mg d.name=some (.ref fa) ->
  ∃fd:FuncData,(∀(s:Shared) (u:Value),BindsTo s fd ⟨[u],[]⟩ [("_law_script",u)])/\∀base:Heap,(K w.params).In base->base.Ns mainGlobals mg->gC l.prog w (K w.params) mg base lc 7 fa fd ["_law_script"] (tD (K w.params) rT)) :
 PySem.W.WalkO q loose XP YP l.row.toRowW d [] (fun f vs=>PySem.call f vs) :=
 L2.walk_of (n:=63) (k:=7) (x:="_law_script") (CX:=fun _=>lc) (sp:=fun w=>tD (K w.params) rT) hn (by decide) hdf ⟨rfl,by decide,by decide⟩ hY F
  (fun w H a ns hl _ hS=>⟨[],[.lst (ns.map .int)],.bl true,(fun _ z=>absurd z (by simp)),hide_nil.symm ▸ .cons (.lst hS (Dens.ints ns)) .nil,Fy ns,fun v H' _ r=>r.bl_inv⟩) fun _ _ _ _ _ z=>z
end DL.K05
open PySem PySem.W PyProof.Rows
namespace PySem.W.Fast
def tw12556923165893243067:=0
def tw14982667621392215151:=0
def tw6348920441232232056:=0
def tw11698406587546022925:=0
def tw15950914722270721046:=0
def tw17199517420278731246:=0
def tw8439542853031265473:=0
def tw7636366097462710226:=0
def tw1240926934896892539:=0
def tw17800427078860578845:=0
def tw13091710613538581628:=0
def tw2515059669687093567:=0
def tw7380620478823290588:=0
def tw2387762465429841283:=0
def tw1398558847535674455:=0
def tw6768965370311043937:=0
def tw11226523139079797471:=0
def tw13674980491492720064:=0
def tw3476686450473865941:=0
def tw2271122525367039287:=0
def tw8659002333064639538:=0
def tw11198882809132645406:=0
def tw263953402018088198:=0
def tw4264749658791170037:=0
def tw16570597488855323114:=0
def tw4179397251845888328:=0
def tw7975066354844154562:=0
def tw9291410193387569877:=0
def tw16055671594822779691:=0
def tw2659044038816673315:=0
def tw5043238727043327916:=0
def tw602900705552712150:=0
def tw882552557702307022:=0
def tw17163409176233966598:=0
def tw2685634025305897809:=0
def tw11275132755976877358:=0
def tw3620494428083568519:=0
def tw15183056811087144025:=0
def tw5110145043321560497:=0
def tw11110734850561979694:=0
def tw13733227132377232142:=0
def tw8431845739449175140:=0
def tw17983338753514669830:=0
def tw17657875062463563823:=0
def tw4591059824510516294:=0
def tw17997523880747992874:=0
def tw7470472246105800996:=0
def tw9681489467747325688:=0
def tw6557763481922244645:=0
def tw11135253718255739636:=0
def tw17338500107233533986:=0
def tw17674480271745861953:=0
def tw9683908046624111424:=0
def tw17188588449755244487:=0
def tw11702416138189700955:=0
def tw13983465053999696674:=0
def tw9890941996929236543:=0
def tw11904373188163554990:=0
def tw10581820929421062502:=0
def tw2878808243604676273:=0
def tw5539160557283851063:=0
def tw11249225208051215458:=0
def tw1011945962423917793:=0
def tw5865554017317154603:=0
def tw10906160051259929493:=0
def tw13939999437486879199:=0
def tw7734224471336501987:=0
def tw9100853451022482484:=0
def tw15943401779980779551:=0
def tw3016472312599595448:=0
def tw1740726278331197746:=0
def tw12134928139260460616:=0
def tw15958598134957494100:=0
def tw4380653055570819053:=0
def tw9854481712395577545:=0
def tw5954993131938831356:=0
def tw4901203512326837612:=0
def tw3136564912701318316:=0
def tw7902016084458028620:=0
def tw5475854934340316172:=0
def tw7169509767043819450:=0
def tw524650728422981215:=0
def tw52812618878161522:=0
def tw7778476424594383943:=0
def tw16041085768801536055:=0
def tw17994970946362175613:=0
def tw15631093162284520601:=0
def tw14865549396381180175:=0
def tw12496909527090569636:=0
def tw9784474843381696806:=0
def tw9446130674028120974:=0
def tw9389073051196008487:=0
def tw11365164389563946173:=0
def tw11071209842484753665:=0
def tw1259654546678615622:=0
def tw17785992758876059751:=0
def tw13286031623697256611:=0
def tw2261531034881425860:=0
def tw7934303380310847023:=0
def tw10089369197630023131:=0
end PySem.W.Fast
set_option maxRecDepth 100000 in
set_option maxHeartbeats 0 in
theorem PySem.Challenge.cw_ringlayers_k05_whole_faces_holds : PySem.Challenge.rw_ringlayers_k05_whole_faces.Holds := by
 w_on;o_law;k_head;(case hw=>w_witness2)
 k_fill
 refine DL.K05.walk (l:=PySem.Challenge.rw_ringlayers_k05_whole_faces) rfl rfl (fun w h Y=>PySem.W.kIn_of Y) ?F
 case F =>
  intro w mg fa h KX G hmg;refine' DL.K05.all_mk KX G hmg (DL.fnI ?a0 ?l0 ?c0 ?k0) (DL.fnI ?a1 ?l1 ?c1 ?k1) (DL.fnI ?a2 ?l2 ?c2 ?k2) (DL.fnI ?a3 ?l3 ?c3 ?k3) (DL.fnI ?a4 ?l4 ?c4 ?k4) (DL.fnI ?a5 ?l5 ?c5 ?k5) (DL.fnI ?a6 ?l6 ?c6 ?k6) (DL.fnI ?a7 ?l7 ?c7 ?k7) (DL.fnI ?a8 ?l8 ?c8 ?k8) (DL.fnI ?a9 ?l9 ?c9 ?k9) (DL.fnI ?a10 ?l10 ?c10 ?k10) (DL.fnI ?a11 ?l11 ?c11 ?k11) (DL.fnI ?a12 ?l12 ?c12 ?k12) (DL.fnI ?a13 ?l13 ?c13 ?k13) (DL.fnI ?a14 ?l14 ?c14 ?k14) (DL.fnI ?a15 ?l15 ?c15 ?k15) (DL.fnI ?a16 ?l16 ?c16 ?k16) (DL.fnI ?a17 ?l17 ?c17 ?k17) (DL.fnI ?a18 ?l18 ?c18 ?k18) (DL.fnI ?a19 ?l19 ?c19 ?k19) (DL.fnI ?a20 ?l20 ?c20 ?k20) (DL.fnI ?a21 ?l21 ?c21 ?k21) (DL.fnI ?a22 ?l22 ?c22 ?k22) (DL.fnI ?a23 ?l23 ?c23 ?k23) (DL.fnI ?a24 ?l24 ?c24 ?k24) (DL.fnI ?a25 ?l25 ?c25 ?k25) (DL.fnI ?a26 ?l26 ?c26 ?k26) (DL.fnI ?a27 ?l27 ?c27 ?k27) (DL.fnI ?a28 ?l28 ?c28 ?k28) (DL.fnI ?a29 ?l29 ?c29 ?k29) (DL.fnI ?a30 ?l30 ?c30 ?k30) (DL.fnI ?a31 ?l31 ?c31 ?k31) (DL.fnI ?a32 ?l32 ?c32 ?k32) (DL.fnI ?a33 ?l33 ?c33 ?k33) (DL.fnI ?a34 ?l34 ?c34 ?k34) ?v0 ?z0 ?z1 ?z2 ?z3 ?z4 ?z5 ?z6 ?z7 ?z8 ?z9 ?z10 ?z11 ?z12 ?z13
  (case a0=>k_is)
  (case l0=>k_is)
  (case c0=>k_is)
  (case k0=>k_is)
  (case a1=>k_is)
  (case l1=>k_is)
  (case c1=>k_is)
  (case k1=>k_is)
  (case a2=>k_is)
  (case l2=>k_is)
  (case c2=>k_is)
  (case k2=>k_is)
  (case a3=>k_is)
  (case l3=>k_is)
  (case c3=>k_is)
  (case k3=>k_is)
  (case a4=>k_is)
  (case l4=>k_is)
  (case c4=>k_is)
  (case k4=>k_is)
  (case a5=>k_is)
  (case l5=>k_is)
  (case c5=>k_is)
  (case k5=>k_is)
  (case a6=>k_is)
  (case l6=>k_is)
  (case c6=>k_is)
  (case k6=>k_is)
  (case a7=>k_is)
  (case l7=>k_is)
  (case c7=>k_is)
  (case k7=>k_is)
  (case a8=>k_is)
  (case l8=>k_is)
  (case c8=>k_is)
  (case k8=>k_is)
  (case a9=>k_is)
  (case l9=>k_is)
  (case c9=>k_is)
  (case k9=>k_is)
  (case a10=>k_is)
  (case l10=>k_is)
  (case c10=>k_is)
  (case k10=>k_is)
  (case a11=>k_is)
  (case l11=>k_is)
  (case c11=>k_is)
  (case k11=>k_is)
  (case a12=>k_is)
  (case l12=>k_is)
  (case c12=>k_is)
  (case k12=>k_is)
  (case a13=>k_is)
  (case l13=>k_is)
  (case c13=>k_is)
  (case k13=>k_is)
  (case a14=>k_is)
  (case l14=>k_is)
  (case c14=>k_is)
  (case k14=>k_is)
  (case a15=>k_is)
  (case l15=>k_is)
  (case c15=>k_is)
  (case k15=>k_is)
  (case a16=>k_is)
  (case l16=>k_is)
  (case c16=>k_is)
  (case k16=>k_is)
  (case a17=>k_is)
  (case l17=>k_is)
  (case c17=>k_is)
  (case k17=>k_is)
  (case a18=>k_is)
  (case l18=>k_is)
  (case c18=>k_is)
  (case k18=>k_is)
  (case a19=>k_is)
  (case l19=>k_is)
  (case c19=>k_is)
  (case k19=>k_is)
  (case a20=>k_is)
  (case l20=>k_is)
  (case c20=>k_is)
  (case k20=>k_is)
  (case a21=>k_is)
  (case l21=>k_is)
  (case c21=>k_is)
  (case k21=>k_is)
  (case a22=>k_is)
  (case l22=>k_is)
  (case c22=>k_is)
  (case k22=>k_is)
  (case a23=>k_is)
  (case l23=>k_is)
  (case c23=>k_is)
  (case k23=>k_is)
  (case a24=>k_is)
  (case l24=>k_is)
  (case c24=>k_is)
  (case k24=>k_is)
  (case a25=>k_is)
  (case l25=>k_is)
  (case c25=>k_is)
  (case k25=>k_is)
  (case a26=>k_is)
  (case l26=>k_is)
  (case c26=>k_is)
  (case k26=>k_is)
  (case a27=>k_is)
  (case l27=>k_is)
  (case c27=>k_is)
  (case k27=>k_is)
  (case a28=>k_is)
  (case l28=>k_is)
  (case c28=>k_is)
  (case k28=>k_is)
  (case a29=>k_is)
  (case l29=>k_is)
  (case c29=>k_is)
  (case k29=>k_is)
  (case a30=>k_is)
  (case l30=>k_is)
  (case c30=>k_is)
  (case k30=>k_is)
  (case a31=>k_is)
  (case l31=>k_is)
  (case c31=>k_is)
  (case k31=>k_is)
  (case a32=>k_is)
  (case l32=>k_is)
  (case c32=>k_is)
  (case k32=>k_is)
  (case a33=>k_is)
  (case l33=>k_is)
  (case c33=>k_is)
  (case k33=>k_is)
  (case a34=>k_is)
  (case l34=>k_is)
  (case c34=>k_is)
  (case k34=>k_is)
  (case v0=>k_is)
  (case z0=>k_is)
  (case z1=>k_is)
  (case z2=>k_is)
  (case z3=>k_is)
  (case z4=>k_is)
  (case z5=>k_is)
  (case z6=>k_is)
  (case z7=>k_is)
  (case z8=>k_is)
  (case z9=>k_is)
  (case z10=>k_is)
  (case z11=>k_is)
  (case z12=>k_is)
  (case z13=>k_is)