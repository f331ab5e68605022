import PyProof.Rows.All
import Wide.All
import OpenK.AllK
import Wide.FinOn
import Lean
import PyProof.EqAt
import PyProof.EqKinds
import PyProof.TupleCall
import PySem.Challenge.RW_ringlayers_k06_whole_ways
noncomputable section
set_option Elab.async false
set_option linter.all false
set_option maxRecDepth 100000
namespace L2
open PySem PySem.Spec PyProof.Rows
abbrev Key:=Sum Int Str
def oh:Key->Value->Bool
 | .inl k,v=>Value.isInt k v
 | .inr x,v=>Value.isStrOf x v
noncomputable def Ef (w:World):Key->Int
 | .inl k=>hashInt k
 | .inr x=>hashStr w x
def bQ:∀{k:Key} {v:Value},oh k v=true->(∃i t,k=Sum.inl i/\v=Value.int i t)\/(∃x t,k=Sum.inr x/\v=Value.str x t)
 | .inl i,v,h=>by
   obtain⟨t,e⟩:=Value.isInt_shape (k:=i) (v:=v) h;exact .inl ⟨i,t,rfl,e⟩
 | .inr x,v,h=>by
   obtain⟨t,e⟩:=Value.isStrOf_shape (x:=x) (v:=v) h;exact .inr ⟨x,t,rfl,e⟩
def vp (i:Int)(t:Tok):oh (.inl i) (.int i t)=true:=by simp[oh,Value.isInt]
def vo (x:Str)(t:Tok):oh (.inr x) (.str x t)=true:=by simp[oh,Value.isStrOf]
def BI (a b:Int):decide ((Sum.inl a:Key)=Sum.inl b)=(a==b):=by
 by_cases e:a=b
 ·subst e;simp
 ·have h:¬ (Sum.inl a:Key)=Sum.inl b:=fun q=>e (Sum.inl.inj q);rw[decide_eq_false h];exact(beq_eq_false_iff_ne.mpr e).symm
def BF (a b:Str):decide ((Sum.inr a:Key)=Sum.inr b)=decide (a=b):=by
 by_cases e:a=b
 ·subst e;simp
 ·have h:¬ (Sum.inr a:Key)=Sum.inr b:=fun q=>e (Sum.inr.inj q);rw[decide_eq_false h,decide_eq_false e]
def BH (a:Int)(b:Str):decide ((Sum.inl a:Key)=Sum.inr b)=false:=decide_eq_false (fun q=>nomatch q)
def BG (a:Str)(b:Int):decide ((Sum.inr a:Key)=Sum.inl b)=false:=decide_eq_false (fun q=>nomatch q)
def bW (prog:Program)(w:World):PySem.KeyKind prog w Key where
 is:=oh
 hash:=Ef w
 inj:=fun v a b ha hb=>by
  rcases bQ ha with ⟨i,t,rfl,rfl⟩ | ⟨x,t,rfl,rfl⟩
  ·rcases bQ hb with ⟨j,u,rfl,e⟩ | ⟨y,u,rfl,e⟩
   ·injection e with e1 _;rw[e1]
   ·exact nomatch e
  ·rcases bQ hb with ⟨j,u,rfl,e⟩ | ⟨y,u,rfl,e⟩
   ·exact nomatch e
   ·injection e with e1 _;rw[e1]
 byValue:=fun k v h=>by
  rcases bQ h with ⟨i,t,rfl,rfl⟩ | ⟨x,t,rfl,rfl⟩ <;> rfl
 pyHash:=fun hv h=>by
  rcases bQ hv with ⟨i,t,rfl,rfl⟩ | ⟨x,t,rfl,rfl⟩
  ·exact wpAny_pyHash_int h
  ·exact wpAny_pyHash_str h
 eqBool:=fun hu hv h=>by
  rcases bQ hu with ⟨i,t,rfl,rfl⟩ | ⟨x,t,rfl,rfl⟩
  ·rcases bQ hv with ⟨j,u,rfl,rfl⟩ | ⟨y,u,rfl,rfl⟩
   ·rw[BI] at h;exact wpAny_eqBool_int h
   ·rw[BH] at h;exact SeqAt.EqAt.int_str i t y u _ _ _ _ h
  ·rcases bQ hv with ⟨j,u,rfl,rfl⟩ | ⟨y,u,rfl,rfl⟩
   ·rw[BG] at h;exact SeqAt.EqAt.str_int x t j u _ _ _ _ h
   ·rw[BF] at h;exact wpAny_eqBool_str h
 «strs»:=fun k x t v h=>by
  rcases bQ h with ⟨i,u,rfl,e⟩ | ⟨y,u,rfl,e⟩
  ·exact nomatch e
  ·injection e with e1 _;subst e1;cases v <;> rfl
def qZ (prog:Program)(w:World)(i:Int)(t:Tok):(bW prog w).is (.inl i) (.int i t)=true:=vp i t
def qY (prog:Program)(w:World)(x:Str)(t:Tok):(bW prog w).is (.inr x) (.str x t)=true:=vo x t
inductive V where
 | non | bl (b:Bool) | int (i:Int) | str (x:Str) | byt (b:Array UInt8) | flt (b:UInt64) | ref (a:Addr) | ty (n:String)
 deriving DecidableEq
noncomputable def RelV:V->Value->Prop
 | .non,u=>u=Value.none
 | .bl b,u=>u=Value.bool b
 | .int i,u=>∃t,u=Value.int i t
 | .str x,u=>∃t,u=Value.str x t
 | .byt b,u=>∃t,u=Value.bytes b t
 | .flt b,u=>∃t,u=Value.float b t
 | .ref a,u=>u=Value.ref a
 | .ty n,u=>u=Value.type n
abbrev Vals:List V->List Value->Prop:=Paired RelV
def Vals.length {xs:List V}{us:List Value}(r:Vals xs us):xs.length=us.length:=Paired.length r
def Vals.get:∀{xs:List V} {us:List Value} {i:Nat} {x:V},Vals xs us->xs[i]? = some x->∃u,us[i]? = some u/\RelV x u
 | _,_,_,_,.nil,e=>by simp at e
 | _,_,0,_,.cons r _,e=>by simp at e;subst e;exact⟨_,rfl,r⟩
 | _,_,i+1,x,.cons _ t,e=>by
   obtain⟨u,h1,h2⟩:=Vals.get (i:=i) (x:=x) t (by simpa using e);exact⟨u,by simpa using h1,h2⟩
def Vals.append:∀{xs ys:List V} {us ws:List Value},Vals xs us->Vals ys ws->Vals (xs++ys) (us++ws)
 | _,_,_,_,.nil,s=>s
 | _,_,_,_,.cons r t,s=>.cons r (Vals.append t s)
def Vals.take:∀{xs:List V} {us:List Value} (n:Nat),Vals xs us->Vals (xs.take n) (us.take n)
 | _,_,0,_=>.nil
 | _,_,_+1,.nil=>.nil
 | _,_,n+1,.cons r t=>.cons r (Vals.take n t)
def Vals.drop:∀{xs:List V} {us:List Value} (n:Nat),Vals xs us->Vals (xs.drop n) (us.drop n)
 | _,_,0,r=>r
 | _,_,_+1,.nil=>.nil
 | _,_,n+1,.cons _ t=>Vals.drop n t
def RelO:Option V->Option Value->Prop
 | some v,some u=>RelV v u
 | none,none=>True
 | _,_=>False
def KV {κ:Type}:List (κ×V)->List (κ×Value)->Prop:=Paired fun (p:κ×V) (q:κ×Value)=>p.1=q.1/\RelV p.2 q.2
noncomputable def kV:Key->V
 | .inl i=>.int i
 | .inr x=>.str x
inductive HO where
 | lst (xs:List V)
 | tup (xs:List V)
 | dK (kvs:List (Key×V)) | dT (kvs:List (List Key×V))
 | set (S:Int->Bool) (n:Nat)
 | ins (C dx:Addr) (fs:List (Str×V))
 | own (x:Addr)
 | xd (fs:List (Str×V))
 | met (f x:Addr)
 | rng (lo hi:Int)
 | frz (o:Obj) (u:HO)
 | tbl (ps:Array Value)
 | ext (φ:Heap->Prop)
abbrev Hp:=Addr->Option HO
noncomputable def cr (H:Hp)(a:Addr)(o:HO):Hp:=fun b=>if b=a then some o else H b
def bn {H:Hp}{a:Addr}{o:HO}:cr H a o a=some o:=by unfold cr;rw[if_pos rfl]
def aN {H:Hp}{a b:Addr}{o:HO}(h:b≠a):cr H a o b=H b:=by unfold cr;rw[if_neg h]
def C9 {H:Hp}{a b:Addr}{o u:HO}(h:H a=some o)(h':H b=some u)(d:o≠u):a≠b:=by
 intro e;subst e;rw[h] at h';exact d (Option.some.inj h')
def aU {H:Hp}{a b:Addr}{o:HO}(h:H a=some o)(h':H b=none):a≠b:=by
 intro e;subst e;rw[h] at h';cases h'
section
variable (P:Program)(w:World)
def ObjOk (H:Hp)(h:Heap)(a:Addr):HO->Prop
 | .lst xs=>xs.length<=sizeLine/\∃(its:List Value) (n:Nat),Vals xs its/\h.get? a=some { cls:=.type "list",data:=.seq its.toArray n }
 | .tup xs=>xs.length<=sizeLine/\∃its:List Value,Vals xs its/\IsTup h a its.toArray
 | .dK kvs=>kvs.length<=sizeLine/\(a==sysModules)=false/\∃vs,KV kvs vs/\h.DictOf (bW P w) a vs
 | .dT kvs=>kvs.length<=sizeLine/\(a==sysModules)=false/\∃xs:List (List Key×Addr×Value),
  Paired (fun (p:List Key×V) (q:List Key×Addr×Value)=>p.1=q.1/\H q.2.1=some (.tup (p.1.map kV))/\RelV p.2 q.2.2) kvs xs /\
  ∃o es ep,h.get? a=some o/\o.ExactDict/\o.data=.dict es ep/\es.toList=xs.map (entryOfKey (tupleKind (bW P w)))/\(xs.map (·.1)).Nodup
 | .set S n=>h.SetOf (intKind P w) a S n
 | .ins C dx fs=>H dx=some (.own a)/\fs.length<=1000/\dx≠a/\h.get? a=some (PySem.W.instObj C dx) /\
  ∃mA,h.Ns1 dx mA/\(∀f,RelO (fs.lookup f) (mA f))/\PySem.Within mA (fs.map (·.1))
 | .own _=>∃o,h.get? a=some o
 | .xd fs=>∃mA,h.Ns1 a mA/\∀f,RelO (fs.lookup f) (mA f)
 | .rng lo hi=>∃t u v,h.get? a=some { cls:=.type "range",data:=.fields #[.int lo t,.int hi u,.int 1 v] }
 | .frz o u=>h.get? a=some o/\ObjOk H h a u
 | .tbl ps=>h.get? a=some { cls:=.none,data:=.fields ps }
 | .met f x=>h.get? a=some (PySem.W.methodObj (.ref f) (.ref x))
 | .ext φ=>φ h/\(∃o,h.get? a=some o)/\∀h1 h2:Heap,φ h1->(∀o,h1.get? a=some o->h2.get? a=some o)->φ h2
def HOk (H:Hp)(h:Heap):Prop:=∀a o,H a=some o->ObjOk P w H h a o
end
section
variable {P:Program}{w:World}{H H':Hp}{h h':Heap}{a:Addr}{o:HO}
def ObjOk.lt (x:ObjOk P w H h a o):a<h.objs.size:=by
 cases o with
 | lst xs=>obtain⟨_,_,_,_,e⟩:=x;exact Heap.lt_size e
 | tup xs=>obtain⟨_,_,_,p⟩:=x;exact p.lt
 | dK kvs=>obtain⟨_,_,_,_,o,_,_,e,_⟩:=x;exact Heap.lt_size e
 | dT kvs=>obtain⟨_,_,_,_,o,_,_,e,_⟩:=x;exact Heap.lt_size e
 | set S n=>obtain⟨o,_,_,_,e,_⟩:=x;exact Heap.lt_size e
 | ins C dx fs=>obtain⟨_,_,_,e,_⟩:=x;exact Heap.lt_size e
 | own y=>obtain⟨_,e⟩:=x;exact Heap.lt_size e
 | xd fs=>obtain⟨_,⟨_,_,_,e,_⟩,_⟩:=x;exact Heap.lt_size e
 | rng lo hi=>obtain⟨_,_,_,e⟩:=x;exact Heap.lt_size e
 | frz ob u=>obtain⟨e,_⟩:=x;exact Heap.lt_size e
 | tbl ps=>exact Heap.lt_size (show h.get? a=some _ from x)
 | met f y=>exact Heap.lt_size (show h.get? a=some _ from x)
 | ext φ=>obtain⟨_,⟨_,e⟩,_⟩:=x;exact Heap.lt_size e
def Paired.mapP {α β:Type}{F G:α->β->Prop}:∀{l₁:List α} {l₂:List β},Paired F l₁ l₂->(∀a b,F a b->G a b)->Paired G l₁ l₂
 | _,_,.nil,_=>.nil
 | _,_,.cons r t,f=>.cons (f _ _ r) (Paired.mapP t f)
def ObjOk.stay (x:ObjOk P w H h a o)(k:∀b u,(b=a\/H b=some (.own a))->h.get? b=some u->h'.get? b=some u)
 (ho:∀b,H b=some (.own a)->H' b=some (.own a)) (ht:∀b xs,H b=some (.tup xs)->H' b=some (.tup xs)):ObjOk P w H' h' a o:=by
 induction o with
 | lst xs=>obtain⟨z,its,n,r,e⟩:=x;exact⟨z,its,n,r,k _ _ (.inl rfl) e⟩
 | tup xs=>obtain⟨z,its,r,ob,e,c⟩:=x;exact⟨z,its,r,ob,k _ _ (.inl rfl) e,c⟩
 | dK kvs=>obtain⟨z,y,vs,r,ob,es,ep,e,c⟩:=x;exact⟨z,y,vs,r,ob,es,ep,k _ _ (.inl rfl) e,c⟩
 | dT kvs =>
   obtain⟨z,y,xs,r,ob,es,ep,e,c⟩:=x;exact⟨z,y,xs,Paired.mapP r fun p q z=>⟨z.1,ht _ _ z.2.1,z.2.2⟩,ob,es,ep,k _ _ (.inl rfl) e,c⟩
 | set S n=>obtain⟨ob,es,ep,t,e,c⟩:=x;exact⟨ob,es,ep,t,k _ _ (.inl rfl) e,c⟩
 | ins C dx fs =>
   obtain⟨d,z,ne,e,mA,⟨od,es,ep,e2,c⟩,r⟩:=x;exact⟨ho _ d,z,ne,k _ _ (.inl rfl) e,mA,⟨od,es,ep,k _ _ (.inr d) e2,c⟩,r⟩
 | own y=>obtain⟨ob,e⟩:=x;exact⟨ob,k _ _ (.inl rfl) e⟩
 | xd fs=>obtain⟨mA,⟨od,es,ep,e,c⟩,r⟩:=x;exact⟨mA,⟨od,es,ep,k _ _ (.inl rfl) e,c⟩,r⟩
 | rng lo hi=>obtain⟨t,u,v,e⟩:=x;exact⟨t,u,v,k _ _ (.inl rfl) e⟩
 | frz ob u ih=>obtain⟨e,q⟩:=x;exact⟨k _ _ (.inl rfl) e,ih q⟩
 | tbl ps =>
   have e:h.get? a=some { cls:=.none,data:=.fields ps }:=x;show h'.get? a=some { cls:=.none,data:=.fields ps };exact k a _ (.inl rfl) e
 | met f y =>
   have e:h.get? a=some (PySem.W.methodObj (.ref f) (.ref y)):=x;show h'.get? a=some (PySem.W.methodObj (.ref f) (.ref y));exact k a _ (.inl rfl) e
 | ext φ=>obtain⟨p,⟨o,e⟩,st⟩:=x;exact⟨st _ _ p fun o q=>k _ _ (.inl rfl) q,⟨o,k _ _ (.inl rfl) e⟩,st⟩
def HOk.lt (x:HOk P w H h)(e:H a=some o):a<h.objs.size:=(x a o e).lt
def HOk.fresh (x:HOk P w H h)(e:h.objs.size<=a):H a=none:=by
 cases q:H a with
 | none=>rfl
 | some u=>exact absurd (Nat.lt_of_lt_of_le (x.lt q) e) (Nat.lt_irrefl _)
def HOk.kept (x:HOk P w H h)(k:∀b u,h.get? b=some u->h'.get? b=some u):HOk P w H h':=fun a o e =>
 (x a o e).stay (fun b u _ q=>k b u q) (fun _ q=>q) fun _ _ q=>q
def HOk.laid (x:HOk P w H h)(k:∀b u,h.get? b=some u->h'.get? b=some u)(hp:h.objs.size<=a)(new:ObjOk P w (cr H a o) h' a o):HOk P w (cr H a o) h':=fun b u e=>by
 have hn:=x.fresh hp;by_cases hb:b=a
 ·subst hb;rw[bn] at e;cases e;exact new
 ·rw[aN hb] at e;exact(x b u e).stay (fun c v _ q=>k c v q) (fun c q=>by rw[aN (aU q hn)];exact q) fun c xs q=>by rw[aN (aU q hn)];exact q
end
def Rd (H:Hp)(a:Addr)(u:HO):Prop:=H a=some u\/∃o,H a=some (.frz o u)
def Rd.ok {P:Program}{w:World}{H:Hp}{h:Heap}{a:Addr}{u:HO}(r:Rd H a u)(x:HOk P w H h):ObjOk P w H h a u:=by
 rcases r with r | ⟨o,r⟩
 ·exact x a u r
 ·obtain⟨_,q⟩:=x a _ r;exact q
noncomputable def Cu:Option HO->Prop
 | some (.lst _)=>True
 | some (.dK _)=>True
 | some (.dT _)=>True
 | some (.set _ _)=>True
 | some (.ins _ _ _)=>True
 | some (.ext _)=>True
 | _=>False
section
variable {P:Program}{w:World}{H:Hp}{h h':Heap}{x e:Addr}{o':HO}
def HOk.write (ok:HOk P w H h)(mu:Cu (H x))(he:e=x\/H e=some (.own x))(k:∀b u,b≠e->h.get? b=some u->h'.get? b=some u)(heo:∃u,h'.get? e=some u)
 (new:ObjOk P w (cr H x o') h' x o'):HOk P w (cr H x o') h':=fun b u q=>by
 have nown:∀c y,H c=some (.own y)->c≠x:=fun c y r z=>by subst z;rw[r] at mu;exact mu
 have ntup:∀c xs,H c=some (.tup xs)->c≠x:=fun c xs r z=>by subst z;rw[r] at mu;exact mu
 by_cases hb:b=x
 ·subst hb;rw[bn] at q;cases q;exact new
 ·rw[aN hb] at q;by_cases hbe:b=e
  ·have q':H b=some (.own x):=by
    rcases he with z | z
    ·exact absurd (hbe.trans z) hb
    ·rw[hbe];exact z
   rw[q] at q';cases q';obtain⟨v,hv⟩:=heo;exact⟨v,by rw[hbe];exact hv⟩
  ·refine(ok b u q).stay (fun c v hc r=>k c v ?_ r) (fun c r=>by rw[aN (nown c b r)];exact r) fun c xs r=>by rw[aN (ntup c xs r)];exact r
   rcases hc with rfl | hc
   ·exact hbe
   ·rintro rfl;rcases he with z | z
    ·exact nown c b hc z
    ·rw[hc] at z;cases z;exact hb rfl
end
structure Un (fs ex:List Addr)(H H':Hp)(h h':Heap):Prop where
 keep:∀b o,h.get? b=some o->H b=none->b∉fs->b∉ex->h'.get? b=some o
 slot:∀b o,h.get? b=some o->H b=none->b∈fs->b∉ex->∃sl,h'.get? b=some { o with slots:=sl }
 free:∀b o,h.get? b=some o->H b=none->b∉ex->H' b=none
 there:∀b o,h.get? b=some o->b∉ex->∃o',h'.get? b=some o'
 tups:∀b xs,H b=some (.tup xs)->H' b=some (.tup xs)
 frzs:∀b o u,H b=some (.frz o u)->H' b=some (.frz o u)
 tbls:∀b ps,H b=some (.tbl ps)->∃more,H' b=some (.tbl (ps++more))
section
variable {fs fs' ex ex':List Addr}{H H1 H2:Hp}{h h1 h2 h':Heap}{a x e:Addr}{o:HO}
def Un.any (u:Un fs ex H H1 h h1){b:Addr}{ob:Obj}(q:h.get? b=some ob)(n:H b=none)(hx:b∉ex):∃sl,h1.get? b=some { ob with slots:=sl }:=by
 by_cases hb:b∈fs
 ·exact u.slot b ob q n hb hx
 ·exact⟨ob.slots,u.keep b ob q n hb hx⟩
def Un.kept (k:∀b u,h.get? b=some u->h'.get? b=some u):Un fs ex H H h h' :=
 ⟨fun b ob q _ _ _=>k b ob q,fun b ob q _ _ _=>⟨ob.slots,k b ob q⟩,fun _ _ _ n _=>n,fun b ob q _=>⟨ob,k b ob q⟩,fun _ _ q=>q,fun _ _ _ q=>q,fun _ ps q=>⟨#[],by rw[q];simp⟩⟩
def Un.refl:Un fs ex H H h h:=Un.kept fun _ _ q=>q
def Un.laid (k:∀b u,h.get? b=some u->h'.get? b=some u)(hp:h.objs.size<=a)(hn:H a=none):Un fs ex H (cr H a o) h h' where
 keep:=fun b u q _ _ _=>k b u q
 slot:=fun b u q _ _ _=>⟨u.slots,k b u q⟩
 free:=fun b u q n _=>by rw[aN (Nat.ne_of_lt (Nat.lt_of_lt_of_le (Heap.lt_size q) hp))];exact n
 there:=fun b u q _=>⟨u,k b u q⟩
 tups:=fun b xs q=>by rw[aN (aU q hn)];exact q
 frzs:=fun b u xs q=>by rw[aN (aU q hn)];exact q
 tbls:=fun b ps q=>⟨#[],by rw[aN (aU q hn),q];simp⟩
def Un.write (mu:Cu (H x))(he:e=x\/H e=some (.own x))(k:∀b u,b≠e->h.get? b=some u->h'.get? b=some u)(heo:∃u,h'.get? e=some u):Un fs ex H (cr H x o) h h':=by
 have hx:∀b,H b=none->b≠x:=fun b n z=>by subst z;rw[n] at mu;exact mu
 have hb:∀b,H b=none->b≠e:=fun b n z=>by
  subst z;rcases he with r | r
  ·exact hx b n r
  ·rw[n] at r;cases r
 have hm:∀b u,H b=some u->¬ Cu (some u)->b≠x:=fun b u q nm z=>by subst z;rw[q] at mu;exact nm mu
 refine⟨fun b u q n _ _=>k b u (hb b n) q,fun b u q n _ _=>⟨u.slots,k b u (hb b n) q⟩,fun b u q n _=>by rw[aN (hx b n)];exact n,fun b u q _=>?_,
  fun b xs q=>by rw[aN (hm b _ q fun z=>z)];exact q,fun b u xs q=>by rw[aN (hm b _ q fun z=>z)];exact q,fun b ps q=>⟨#[],by rw[aN (hm b _ q fun z=>z),q];simp⟩⟩
 by_cases hbe:b=e
 ·subst hbe;exact heo
 ·exact⟨u,k b u hbe q⟩
end
noncomputable def Dy (h:Heap)(H:Hp):List Addr:=(List.range h.objs.size).filter fun a=>(H a).isSome
def pq (h:Heap)(H:Hp):Heap:=PySem.W.hideAll h (Dy h H)
def vv (h:Heap)(H:Hp):(pq h H).objs.size=h.objs.size:=PySem.W.hideAll_size _ _
def xU {h:Heap}{H:Hp}{b:Addr}{o:Obj}(e:h.get? b=some o)(n:H b=none):(pq h H).get? b=some o :=
 PySem.W.hideAll_get _ e fun hm=>by
  have q:(H b).isSome=true:=(List.mem_filter.mp hm).2;rw[n] at q;simp at q
def zt {h:Heap}{H:Hp}{b:Addr}{o:Obj}(e:(pq h H).get? b=some o):h.get? b=some o/\H b=none:=by
 have e':h.get? b=some o:=PySem.W.of_hideAll (Dy h H) e;refine⟨e',?_⟩;cases q:H b with
 | none=>rfl
 | some x =>
   have hm:b∈Dy h H:=List.mem_filter.mpr ⟨List.mem_range.mpr (Heap.lt_size e'),by simp[q]⟩;have z:(pq h H).get? b=none:=PySem.W.hideAll_none (Dy h H) hm;rw[z] at e;cases e
structure Mod (K:PySem.W.Frag)(mg:Str->Option Value)(base:Heap):Prop where
 kin:K.In base
 glob:base.Ns mainGlobals mg
 blt:∃mb,base.Ns builtinsNs mb/\∀x:Str,x≠"__name__"->mb x=bootBuiltins x
 nolimit:base.NoLimit
structure Cx where
 prog:Program
 w:World
 K:PySem.W.Frag
 mg:Str->Option Value
 base:Heap
 A:Around
 N:List Str
 s₀:Shared
 H₀:Hp
 env:Env
 outer:List Env
 stack:List Env
 ex:List Addr
 fn:Str->Bool
 calm:Bool
 pn:List (Addr×Obj)
 xe:Value->Shared->Prop
noncomputable def vA (l:List Env):List Addr:=l.filterMap (·.frame)
abbrev Cx.fs (X:Cx):List Addr:=vA X.outer
def Du (sc:Scope)(x:Str):Prop:=sc.names.lookup x=some .local\/sc.names.lookup x=some .cell\/sc.names.lookup x=some .free
def Loc (sc:Scope)(x:Str):Prop:=sc.names.lookup x=some .local\/sc.names.lookup x=some .cell
def Look (env:Env)(h:Heap)(m:Str->Option Value)(x:Str)(u:Value):Prop :=
 (env.kindOf x=some .local/\m x=some u)\/((env.kindOf x=some .cell\/env.kindOf x=some .free)/\∃c,env.cells.lookup x=some c/\h.IsCell c (some u))
structure Cx.Ok (X:Cx):Prop where
 mod:Mod X.K X.mg X.base
 kind:X.env.scope.kind=.function
 glob:X.env.globals=mainGlobals
 blt:X.env.builtins=builtinsNs
 above:X.s₀.heap.objs.size<=X.env.locals
 inj:∀x y c,X.env.cells.lookup x=some c->X.env.cells.lookup y=some c->x=y
 has:∀x,(X.env.kindOf x=some .cell\/X.env.kindOf x=some .free)->∃c,X.env.cells.lookup x=some c
 cab:∀x c,X.fn x=true->X.env.cells.lookup x=some c->X.s₀.heap.objs.size<=c
 hd:X.calm=true->X.A.handled=none
 frames:X.A.frames=some X.stack
 stk:X.stack=X.outer\/(X.stack=X.env::X.outer/\X.env.frame=some X.env.locals)
 exf:∀b∈X.ex,b≠X.env.locals/\∀x c,X.env.cells.lookup x=some c->c≠b
 bs:∀b o,X.base.get? b=some o->X.s₀.heap.get? b=some o/\X.H₀ b=none
 bsz:X.base.objs.size<=X.s₀.heap.objs.size
 noex:∀b o,X.base.get? b=some o->b∉X.ex
 exfs:∀b∈X.ex,b∉X.fs
 funs:X.s₀.heap.FunFrames X.base X.outer
 frf:∀b∈X.fs,X.H₀ b=none
structure Inv (X:Cx)(pins:List (Addr×Obj))(σ:List (Option V))(H:Hp)(s:Shared):Prop where
 ok:X.Ok
 os:s.os=X.s₀.os
 bare:AllBare s.gens
 base:Un X.fs X.ex X.H₀ H X.s₀.heap s.heap
 loc:∃m,s.heap.Ns X.env.locals m/\∀(i:Nat) (x:Str) (v:V),X.N[i]? = some x->σ[i]? = some (some v)->Du X.env.scope x->∃u,RelV v u/\Look X.env s.heap m x u
 cell:∀x c,X.env.cells.lookup x=some c->∃v,s.heap.IsCell c v
 free:H X.env.locals=none
 freeC:∀x c,X.env.cells.lookup x=some c->H c=none
 pin:∀p∈X.pn++pins,s.heap.get? p.1=some p.2/\H p.1=none/\p.1≠X.env.locals/\p.1∉X.fs/\∀v,p.2.data≠.cell v
 hok:HOk X.prog X.w H s.heap
 len:σ.length=X.N.length
section
variable {X:Cx}{pins:List (Addr×Obj)}{σ:List (Option V)}{H H':Hp}{s:Shared}{h':Heap}
def Cx.Ok.nofr (ok:X.Ok){b:Addr}{o:Obj}(e:X.base.get? b=some o):b∉X.fs:=fun hb=>by
 have:=(ok.funs.mem hb).1;rw[e] at this;cases this
def Inv.bs (I:Inv X pins σ H s):∀b o,X.base.get? b=some o->s.heap.get? b=some o/\H b=none:=fun b o e =>
 ⟨I.base.keep b o (I.ok.bs b o e).1 (I.ok.bs b o e).2 (I.ok.nofr e) (I.ok.noex b o e),I.base.free b o (I.ok.bs b o e).1 (I.ok.bs b o e).2 (I.ok.noex b o e)⟩
def Inv.bk (I:Inv X pins σ H s):∀b o,X.base.get? b=some o->s.heap.get? b=some o:=fun b o e=>(I.bs b o e).1
def Inv.mod (I:Inv X pins σ H s):Mod X.K X.mg X.base:=I.ok.mod
def Inv.kIn (I:Inv X pins σ H s):X.K.In s.heap:=I.ok.mod.kin.keeps I.bk
def Inv.lt (I:Inv X pins σ H s):X.env.locals<s.heap.objs.size:=let ⟨_,hn,_⟩:=I.loc;hn.lt
def Inv.sz (I:Inv X pins σ H s):X.s₀.heap.objs.size<=s.heap.objs.size:=Nat.le_trans I.ok.above (Nat.le_of_lt I.lt)
def Inv.nofs (I:Inv X pins σ H s){a:Addr}(h:s.heap.objs.size<=a):a∉X.fs:=fun hb=>by
 obtain⟨_,o,ho,_⟩:=I.ok.funs.mem hb;exact absurd (Nat.lt_of_lt_of_le (Heap.lt_size ho) (Nat.le_trans I.sz h)) (Nat.lt_irrefl _)
def Inv.cne (I:Inv X pins σ H s):∀x c,X.env.cells.lookup x=some c->c≠X.env.locals:=fun x c e z=>by
 obtain⟨v,o,ho,hd⟩:=I.cell x c e;obtain⟨m,⟨o',es,ep,ho',hd',_⟩,_⟩:=I.loc;rw[z,ho'] at ho;cases ho;rw[hd'] at hd;cases hd
def Inv.funs (I:Inv X pins σ H s):s.heap.FunFrames X.base X.outer:=by
 have all:∀(l:List Env),(∀b∈vA l,b∈X.fs)->X.s₀.heap.FunFrames X.base l->s.heap.FunFrames X.base l:=by
  intro l;induction l with
  | nil=>intro _ _;trivial
  | cons env r ih =>
    intro hs hl;obtain⟨hk,⟨L,o,hf,hn,ho,hd⟩,hr⟩:=hl;have hL:L∈X.fs:=hs L (by unfold vA;rw[List.filterMap_cons,hf];exact List.mem_cons_self);obtain⟨sl,e⟩:=I.base.slot L o ho (I.ok.frf L hL) hL fun z=>I.ok.exfs L z hL;exact⟨hk,⟨L,_,hf,hn,e,hd⟩,ih (fun b hb=>hs b (by unfold vA;rw[List.filterMap_cons,hf];exact List.mem_cons_of_mem _ hb)) hr⟩
 exact all X.outer (fun _ hb=>hb) I.ok.funs
def Inv.stack (I:Inv X pins σ H s):s.heap.FunFrames X.base X.stack:=by
 rcases I.ok.stk with e | ⟨e,hf⟩
 ·rw[e];exact I.funs
 ·rw[e];obtain⟨m,hn,_⟩:=I.loc;refine .cons (by rw[I.ok.kind];decide) hf hn ?_ I.funs;exact Heap.get?_none_of_le (Nat.le_trans I.ok.bsz I.ok.above)
def Inv.stkSub (I:Inv X pins σ H s):∀b∈vA X.stack,b∈X.env.locals::X.fs:=fun b hb=>by
 rcases I.ok.stk with e | ⟨e,hf⟩
 ·rw[e] at hb;exact List.mem_cons_of_mem _ hb
 ·rw[e] at hb;unfold vA at hb;rw[List.filterMap_cons,hf] at hb;exact hb
def Inv.stkFree (I:Inv X pins σ H s):∀b∈vA X.stack,H b=none:=fun b hb=>by
 rcases List.mem_cons.mp (I.stkSub b hb) with e | hb
 ·rw[e];exact I.free
 ·obtain⟨_,o,ho,_⟩:=I.ok.funs.mem hb;exact I.base.free b o ho (I.ok.frf b hb) fun z=>I.ok.exfs b z hb
def Inv.step {g':Array GenState}{t':Nat}{d':Drawn}{ch:List Addr}(I:Inv X pins σ H s)
 (hch:∀b∈ch,(b∈X.ex\/X.s₀.heap.objs.size<=b)/\b≠X.env.locals/\(∀x c,X.env.cells.lookup x=some c->c≠b)/\∀p∈X.pn++pins,p.1≠b)
 (keep:∀b o,b≠X.env.locals->b∉X.fs->b∉ch->s.heap.get? b=some o->H b=none->h'.get? b=some o)
 (slot:∀b o,b≠X.env.locals->b∈X.fs->b∉ch->s.heap.get? b=some o->H b=none->∃sl,h'.get? b=some { o with slots:=sl }) (free:∀b o,b∉ch->s.heap.get? b=some o->H b=none->H' b=none)
 (there:∀b o,b∉ch->s.heap.get? b=some o->∃o',h'.get? b=some o')
 (tups:∀b xs,H b=some (.tup xs)->H' b=some (.tup xs)) (frzs:∀b o u,H b=some (.frz o u)->H' b=some (.frz o u)) (tbls:∀b ps,H b=some (.tbl ps)->∃more,H' b=some (.tbl (ps++more)))
 (ns:∀m,s.heap.Ns X.env.locals m->h'.Ns X.env.locals m) (hok:HOk X.prog X.w H' h') (hg:AllBare g') :
 Inv X pins σ H' { s with heap:=h',gens:=g',drawn:=d',toks:=t' }:=by
 have neL:∀b o,X.s₀.heap.get? b=some o->b≠X.env.locals:=fun b o e=>Nat.ne_of_lt (Nat.lt_of_lt_of_le (Heap.lt_size e) I.ok.above);have neC:∀b o,X.s₀.heap.get? b=some o->b∉X.ex->b∉ch:=fun b o e hx hb=>by
  rcases (hch b hb).1 with z | z
  ·exact hx z
  ·exact absurd (Nat.lt_of_lt_of_le (Heap.lt_size e) z) (Nat.lt_irrefl _)
 have cellK:∀x c,X.env.cells.lookup x=some c->∀v,s.heap.IsCell c v->h'.IsCell c v:=fun x c e v ⟨o,ho,hd⟩=>by
  have nch:c∉ch:=fun z=>(hch c z).2.2.1 x c e rfl;by_cases hc:c∈X.fs
  ·obtain⟨sl,q⟩:=slot c o (I.cne x c e) hc nch ho (I.freeC x c e);exact⟨_,q,hd⟩
  ·exact⟨o,keep c o (I.cne x c e) hc nch ho (I.freeC x c e),hd⟩
 refine⟨I.ok,I.os,hg,⟨fun b o e n hb hx=>?_,fun b o e n hb hx=>?_,fun b o e n hx=>?_,fun b o e hx=>?_,fun b xs e=>tups b xs (I.base.tups b xs e),fun b o xs e=>frzs b o xs (I.base.frzs b o xs e),fun b ps e=>?_⟩,?_,fun x c e=>?_,?_,fun x c e=>?_,fun p hp=>?_,hok,I.len⟩
 ·exact keep b o (neL b o e) hb (neC b o e hx) (I.base.keep b o e n hb hx) (I.base.free b o e n hx)
 ·obtain⟨sl,e1⟩:=I.base.slot b o e n hb hx;obtain⟨sl',e2⟩:=slot b _ (neL b o e) hb (neC b o e hx) e1 (I.base.free b o e n hx);exact⟨sl',e2⟩
 ·obtain⟨o',e1⟩:=I.base.there b o e hx;exact free b o' (neC b o e hx) e1 (I.base.free b o e n hx)
 ·obtain⟨o',e1⟩:=I.base.there b o e hx;exact there b o' (neC b o e hx) e1
 ·obtain⟨m1,e1⟩:=I.base.tbls b ps e;obtain⟨m2,e2⟩:=tbls b _ e1;exact⟨m1++m2,by rw[e2,Array.append_assoc]⟩
 ·obtain⟨m,hn,hl⟩:=I.loc;refine⟨m,ns m hn,fun i x v e1 e2 e3=>?_⟩;obtain⟨u,r,l⟩:=hl i x v e1 e2 e3;refine⟨u,r,?_⟩;rcases l with l | ⟨k,c,e,z⟩
  ·exact .inl l
  ·exact .inr ⟨k,c,e,cellK x c e _ z⟩
 ·obtain⟨v,z⟩:=I.cell x c e;exact⟨v,cellK x c e v z⟩
 ·obtain⟨m,⟨o,_,_,ho,_⟩,_⟩:=I.loc;exact free _ o (fun z=>(hch _ z).2.1 rfl) ho I.free
 ·obtain⟨v,o,ho,hd⟩:=I.cell x c e;exact free c o (fun z=>(hch c z).2.2.1 x c e rfl) ho (I.freeC x c e)
 ·obtain⟨e,n,ne,nf,d⟩:=I.pin p hp;have nch:p.1∉ch:=fun z=>(hch p.1 z).2.2.2 p hp rfl;exact⟨keep p.1 p.2 ne nf nch e n,free p.1 p.2 nch e n,ne,nf,d⟩
def Inv.un {t':Nat}(I:Inv X pins σ H s)(u:Un X.fs [] H H' s.heap h')(hok:HOk X.prog X.w H' h'):Inv X pins σ H' { s with heap:=h',toks:=t' }:=by
 obtain⟨m,⟨o,es,ep,ho,r⟩,_⟩:=id I.loc;obtain⟨sl,hL⟩:=u.any ho I.free (by simp);exact I.step (g':=s.gens) (d':=s.drawn) (ch:=[]) (fun _ z=>nomatch z) (fun b o _ hb _ e n=>u.keep b o e n hb (by simp)) (fun b o _ hb _ e n=>u.slot b o e n hb (by simp)) (fun b o _ e n=>u.free b o e n (by simp)) (fun b o _ e=>u.there b o e (by simp)) u.tups u.frzs u.tbls (fun m' hm=>by
  obtain⟨o',es',ep',ho',r'⟩:=hm;rw[ho] at ho';cases ho';exact⟨_,es',ep',hL,r'⟩) hok I.bare
def Inv.call {g':Array GenState}{t':Nat}{d':Drawn}{ch:List Addr}(I:Inv X pins σ H s)(u:Un (vA X.stack) ch H H' s.heap h')(hok:HOk X.prog X.w H' h')(hg:AllBare g')
 (hch:∀b∈ch,(b∈X.ex\/X.s₀.heap.objs.size<=b)/\b≠X.env.locals/\(∀x c,X.env.cells.lookup x=some c->c≠b)/\∀p∈X.pn++pins,p.1≠b) :
 Inv X pins σ H' { s with heap:=h',gens:=g',drawn:=d',toks:=t' }:=by
 obtain⟨m,⟨o,es,ep,ho,r⟩,_⟩:=id I.loc;obtain⟨sl,hL⟩:=u.any ho I.free fun z=>(hch _ z).2.1 rfl;exact I.step (ch:=ch) hch (fun b o hL hb hc e n=>u.keep b o e n (fun z=>(List.mem_cons.mp (I.stkSub b z)).elim hL hb) hc) (fun b o _ _ hc e n=>u.any e n hc) (fun b o hc e n=>u.free b o e n hc) (fun b o hc e=>u.there b o e hc) u.tups u.frzs u.tbls (fun m' hm=>by
  obtain⟨o',es',ep',ho',r'⟩:=hm;rw[ho] at ho';cases ho';exact⟨_,es',ep',hL,r'⟩) hok hg
def Inv.turned {t':Nat}{it:Addr}(I:Inv X pins σ H s)(k:∀b o,b≠it->s.heap.get? b=some o->h'.get? b=some o)(hn:H it=none)(hL:it≠X.env.locals)
 (h1:it∈X.ex\/X.s₀.heap.objs.size<=it) (h2:∀x c,X.env.cells.lookup x=some c->c≠it) (h3:∀p∈X.pn++pins,p.1≠it):Inv X pins σ H { s with heap:=h',toks:=t' }:=by
 have nit:∀b u,H b=some u->b≠it:=fun b u e z=>by rw[z,hn] at e;cases e
 refine I.step (g':=s.gens) (d':=s.drawn) (ch:=[it]) (fun b hb=>?_) (fun b o _ _ hc e _=>k b o (fun z=>hc (by simp[z])) e) (fun b o _ _ hc e _=>⟨o.slots,k b o (fun z=>hc (by simp[z])) e⟩) (fun _ _ _ _ n=>n)
  (fun b o hc e=>⟨o,k b o (fun z=>hc (by simp[z])) e⟩) (fun _ _ e=>e) (fun _ _ _ e=>e) (fun b ps e=>⟨#[],by rw[e];simp⟩) (fun m hm=>?_) (fun b u e=>?_) I.bare
 ·have e:b=it:=by simpa using hb
  subst e;exact⟨h1,hL,h2,h3⟩
 ·obtain⟨o,es,ep,ho,r⟩:=hm;exact⟨o,es,ep,k _ o (Ne.symm hL) ho,r⟩
 ·refine(I.hok b u e).stay (fun c v hc q=>k c v ?_ q) (fun _ q=>q) fun _ _ q=>q;rcases hc with z | z
  ·rw[z];exact nit b u e
  ·exact nit c _ z
def Inv.tok (I:Inv X pins σ H s)(t:Nat):Inv X pins σ H { s with toks:=t }:=I.un (h':=s.heap) (t':=t) Un.refl I.hok
def Inv.kept {t':Nat}(I:Inv X pins σ H s)(k:∀b u,s.heap.get? b=some u->h'.get? b=some u):Inv X pins σ H { s with heap:=h',toks:=t' }:=I.un (Un.kept k) (I.hok.kept k)
def Inv.laid {a:Addr}{o:HO}{t':Nat}(I:Inv X pins σ H s)(k:∀b u,s.heap.get? b=some u->h'.get? b=some u)(hp:s.heap.objs.size<=a)(new:ObjOk X.prog X.w (cr H a o) h' a o) :
 Inv X pins σ (cr H a o) { s with heap:=h',toks:=t' }:=I.un (Un.laid k hp (I.hok.fresh hp)) (I.hok.laid k hp new)
def Inv.write {x e:Addr}{o:HO}{t':Nat}(I:Inv X pins σ H s)(mu:Cu (H x))(he:e=x\/H e=some (.own x))(k:∀b u,b≠e->s.heap.get? b=some u->h'.get? b=some u)(heo:∃u,h'.get? e=some u)
 (new:ObjOk X.prog X.w (cr H x o) h' x o):Inv X pins σ (cr H x o) { s with heap:=h',toks:=t' }:=I.un (Un.write mu he k heo) (I.hok.write mu he k heo new)
def Inv.pins_of {pins':List (Addr×Obj)}(I:Inv X pins σ H s)(h:∀p∈pins',s.heap.get? p.1=some p.2/\H p.1=none/\p.1≠X.env.locals/\p.1∉X.fs/\∀v,p.2.data≠.cell v):Inv X pins' σ H s :=
 ⟨I.ok,I.os,I.bare,I.base,I.loc,I.cell,I.free,I.freeC,fun p hp=>(List.mem_append.mp hp).elim (fun z=>I.pin p (List.mem_append_left _ z)) (h p),I.hok,I.len⟩
def qX {N:List Str}(hN:N.Nodup){i j:Nat}{x:Str}(a:N[i]? = some x)(b:N[j]? = some x):i=j:=by
 obtain⟨h1,e1⟩:=List.getElem?_eq_some_iff.mp a;obtain⟨h2,e2⟩:=List.getElem?_eq_some_iff.mp b;exact(List.getElem_inj hN).mp (e1.trans e2.symm)
def uX {M:Model}{A:Around}{E:Value->Shared->Prop}{i:Nat}{x:Str}{v:V}{u:Value}{Q:Unit->Shared->Prop}(I:Inv X pins σ H s)(hN:X.N.Nodup)(hi:X.N[i]? = some x)(hx:Loc X.env.scope x)(r:RelV v u)
 (h:∀s',Inv X pins (σ.set i (some v)) H s'->(∃a,Heap.SameBut a s.heap s'.heap/\(a=X.env.locals\/X.env.cells.lookup x=some a))->Q () s') (hf:X.fn x=true\/X.env.scope.names.lookup x=some .local:=by first | exact .inl rfl | exact .inr rfl | assumption):wpAny M A (storeName X.env x u) Q E s:=by
 obtain⟨m,hn,hl⟩:=id I.loc;have hcls:(X.env.scope.kind==.class||(X.env.scope.kind==.module&&X.env.locals != X.env.globals))=false:=by rw[I.ok.kind];rfl
 have hiσ:i<σ.length:=by rw[I.len];exact(List.getElem?_eq_some_iff.mp hi).1
 have cne:=I.cne;have tracked:∀{a:Addr} {h':Heap},(∃o,s.heap.get? a=some o/\H a=none)->Heap.SameBut a s.heap h'->HOk X.prog X.w H h':=fun {a h'} ha hs b ob e=>by
  obtain⟨_,_,hfree⟩:=ha;refine(I.hok b ob e).stay (fun c w' hc q=>(hs.2 c ?_).trans q) (fun _ q=>q) fun _ _ q=>q;rintro rfl;rcases hc with rfl | hc
  ·rw[hfree] at e;cases e
  ·rw[hfree] at hc;cases hc
 rcases hx with hk | hk
 ·refine wpAny_storeName_local hk hn (fun h' hn' hs=>?_) hcls;obtain⟨oL,_,_,hoL,_⟩:=id hn;refine h _ ⟨I.ok,I.os,I.bare,⟨fun b o e n hb hx=>?_,fun b o e n hb hx=>?_,I.base.free,fun b o e hx=>?_,I.base.tups,I.base.frzs,I.base.tbls⟩,⟨_,hn',fun j y v' e1 e2 e3=>?_⟩,fun y c e=>?_,I.free,I.freeC,fun p hp=>?_,tracked ⟨oL,hoL,I.free⟩ hs,by simpa using I.len⟩ ⟨_,hs,.inl rfl⟩
  ·exact(hs.2 b (Nat.ne_of_lt (Nat.lt_of_lt_of_le (Heap.lt_size e) I.ok.above))).trans (I.base.keep b o e n hb hx)
  ·obtain⟨sl,e1⟩:=I.base.slot b o e n hb hx;exact⟨sl,(hs.2 b (Nat.ne_of_lt (Nat.lt_of_lt_of_le (Heap.lt_size e) I.ok.above))).trans e1⟩
  ·obtain⟨o',e1⟩:=I.base.there b o e hx;exact⟨o',(hs.2 b (Nat.ne_of_lt (Nat.lt_of_lt_of_le (Heap.lt_size e) I.ok.above))).trans e1⟩
  ·by_cases hj:j=i
   ·subst hj;rw[hi] at e1;cases e1;rw[List.getElem?_set_self hiσ] at e2;cases e2;exact⟨u,r,.inl ⟨hk,by simp⟩⟩
   ·rw[List.getElem?_set_ne (Ne.symm hj)] at e2;obtain⟨u',r',q⟩:=hl j y v' e1 e2 e3;refine⟨u',r',?_⟩;rcases q with ⟨k,e⟩ | ⟨k,c,e,z⟩
    ·refine .inl ⟨k,?_⟩;have:y≠x:=fun e=>hj (qX hN e1 (e ▸ hi));simp[this,e]
    ·exact .inr ⟨k,c,e,z.sameBut hs (cne y c e)⟩
  ·obtain⟨w',z⟩:=I.cell y c e;exact⟨w',z.sameBut hs (cne y c e)⟩
  ·obtain⟨e,n,ne,nf,d⟩:=I.pin p hp;exact⟨(hs.2 p.1 ne).trans e,n,ne,nf,d⟩
 ·have hfn:X.fn x=true:=by
   rcases hf with z | z
   ·exact z
   ·rw[z] at hk;cases hk
  obtain⟨c,hc⟩:=I.ok.has x (.inl hk);obtain⟨w',z⟩:=I.cell x c hc;refine wpAny_storeName_cell I.ok.kind hk hc z (fun h' hc' hs=>?_);obtain⟨oc,hoc,hocd⟩:=id z;refine h { s with heap:=h' } ⟨I.ok,I.os,I.bare,⟨fun b o e n hb hx=>?_,fun b o e n hb hx=>?_,I.base.free,fun b o e hx=>?_,I.base.tups,I.base.frzs,I.base.tbls⟩,⟨m,hn.sameBut hs (Ne.symm (cne x c hc)),fun j y v' e1 e2 e3=>?_⟩,fun y c' e=>?_,I.free,I.freeC,fun p hp=>?_,tracked ⟨oc,hoc,I.freeC x c hc⟩ hs,by simpa using I.len⟩ ⟨c,hs,.inr hc⟩
  ·exact(hs.2 b (Nat.ne_of_lt (Nat.lt_of_lt_of_le (Heap.lt_size e) (I.ok.cab x c hfn hc)))).trans (I.base.keep b o e n hb hx)
  ·obtain⟨sl,e1⟩:=I.base.slot b o e n hb hx;exact⟨sl,(hs.2 b (Nat.ne_of_lt (Nat.lt_of_lt_of_le (Heap.lt_size e) (I.ok.cab x c hfn hc)))).trans e1⟩
  ·obtain⟨o',e1⟩:=I.base.there b o e hx;exact⟨o',(hs.2 b (Nat.ne_of_lt (Nat.lt_of_lt_of_le (Heap.lt_size e) (I.ok.cab x c hfn hc)))).trans e1⟩
  ·by_cases hj:j=i
   ·subst hj;rw[hi] at e1;cases e1;rw[List.getElem?_set_self hiσ] at e2;cases e2;exact⟨u,r,.inr ⟨.inl hk,c,hc,hc'⟩⟩
   ·rw[List.getElem?_set_ne (Ne.symm hj)] at e2;obtain⟨u',r',q⟩:=hl j y v' e1 e2 e3;refine⟨u',r',?_⟩;rcases q with q | ⟨k,c',e,z'⟩
    ·exact .inl q
    ·refine .inr ⟨k,c',e,z'.sameBut hs ?_⟩;rintro rfl;exact hj (qX hN e1 (I.ok.inj _ _ _ e hc ▸ hi))
  ·by_cases hcc:c'=c
   ·subst hcc;exact⟨_,hc'⟩
   ·obtain⟨w2,z2⟩:=I.cell y c' e;exact⟨w2,z2.sameBut hs hcc⟩
  ·obtain⟨e,n,ne,nf,d⟩:=I.pin p hp;refine⟨(hs.2 p.1 ?_).trans e,n,ne,nf,d⟩;intro q;rw[q,hoc] at e;have q':oc=p.2:=Option.some.inj e;exact d w' (by rw[<-q'];exact hocd)
def jq {M:Model}{A:Around}{E:Value->Shared->Prop}{i:Nat}{x:Str}{v:V}{u:Value}{Q:Unit->Shared->Prop}(I:Inv X pins σ H s)(hN:X.N.Nodup)(hi:X.N[i]? = some x)(hx:Loc X.env.scope x)(r:RelV v u)
 (h:∀s',Inv X pins (σ.set i (some v)) H s'->Q () s') (hf:X.fn x=true\/X.env.scope.names.lookup x=some .local:=by first | exact .inl rfl | exact .inr rfl | assumption):wpAny M A (storeName X.env x u) Q E s :=
 uX I hN hi hx r (fun s' I' _=>h s' I') hf
def Inv.call' {s':Shared}{ch:List Addr}(I:Inv X pins σ H s)(ho:s'.os=s.os)(u:Un (vA X.stack) ch H H' s.heap s'.heap)(hok:HOk X.prog X.w H' s'.heap)(hg:AllBare s'.gens)
 (hch:∀b∈ch,(b∈X.ex\/X.s₀.heap.objs.size<=b)/\b≠X.env.locals/\(∀x c,X.env.cells.lookup x=some c->c≠b)/\∀p∈X.pn++pins,p.1≠b):Inv X pins σ H' s':=by
 obtain⟨h',g',d',t',o'⟩:=s';have e:o'=s.os:=ho;subst e;exact I.call (g':=g') (t':=t') (d':=d') u hok hg hch
end
abbrev XK:=Value->Option Addr->Hp->Prop
abbrev St:=List (Option V)
abbrev VK:=V->Hp->Prop
abbrev TE:=St->Hp->VK->Prop
abbrev TT:=St->Hp->(Bool->Hp->Prop)->Prop
abbrev TA:=St->Hp->(List V->Hp->Prop)->Prop
structure Ends where
 nx:St->Hp->Prop
 rt:VK
 bk:St->Hp->Prop:=fun _ _=>False
 ct:St->Hp->Prop:=fun _ _=>False
abbrev TS:=Ends->St->Hp->Prop
def EP (X:Cx)(pins:List (Addr×Obj))(σ:St)(Q:VK)(u:Value)(s':Shared):Prop:=∃v H',Inv X pins σ H' s'/\RelV v u/\Q v H'
def TP (X:Cx)(pins:List (Addr×Obj))(σ:St)(Q:Bool->Hp->Prop)(b:Bool)(s':Shared):Prop:=∃H',Inv X pins σ H' s'/\Q b H'
def AP (X:Cx)(pins:List (Addr×Obj))(σ:St)(Q:List V->Hp->Prop)(us:List Value)(s':Shared):Prop:=∃vs H',Inv X pins σ H' s'/\Vals vs us/\Q vs H'
def SP (X:Cx)(pins:List (Addr×Obj))(D:Ends)(f:Flow)(s':Shared):Prop :=
 match f with
 | .next=>∃σ' H',Inv X pins σ' H' s'/\D.nx σ' H'
 | .brk=>∃σ' H',Inv X pins σ' H' s'/\D.bk σ' H'
 | .cont=>∃σ' H',Inv X pins σ' H' s'/\D.ct σ' H'
 | .ret u=>∃v σ' H',Inv X pins σ' H' s'/\RelV v u/\D.rt v H'
def PE (X:Cx)(e:Expr)(t:TE):Prop :=
 ∀(pins:List (Addr×Obj)) (s:Shared) (σ:St) (H:Hp) (Q:VK),Inv X pins σ H s->t σ H Q->wpAny (model X.prog X.w) X.A (eval e X.env) (EP X pins σ Q) X.xe s
def PT (X:Cx)(e:Expr)(t:TT):Prop :=
 ∀(pins:List (Addr×Obj)) (s:Shared) (σ:St) (H:Hp) (Q:Bool->Hp->Prop),Inv X pins σ H s->t σ H Q->wpAny (model X.prog X.w) X.A (isTrue e X.env (eval e X.env)) (TP X pins σ Q) X.xe s
def PW (X:Cx)(e:Expr)(t:TT):Prop :=
 ∀(whole:Sem Value) (pins:List (Addr×Obj)) (s:Shared) (σ:St) (H:Hp) (Q:Bool->Hp->Prop),Inv X pins σ H s->t σ H Q->wpAny (model X.prog X.w) X.A (isTrue e X.env whole) (TP X pins σ Q) X.xe s
def PW.pt {X:Cx}{e:Expr}{t:TT}(h:PW X e t):PT X e t:=h _
def PA (X:Cx)(es:List Expr)(t:TA):Prop :=
 ∀(pos:Pos) (pins:List (Addr×Obj)) (s:Shared) (σ:St) (H:Hp) (Q:List V->Hp->Prop),Inv X pins σ H s->t σ H Q->wpAny (model X.prog X.w) X.A (spliced (backTo pos (starEach es X.env))) (AP X pins σ Q) X.xe s
def PS (X:Cx)(st:Stmt)(t:TS):Prop :=
 ∀(pins:List (Addr×Obj)) (s:Shared) (σ:St) (H:Hp) (D:Ends),Inv X pins σ H s->t D σ H->wpAny (model X.prog X.w) X.A (exec st X.env) (SP X pins D) X.xe s
def PSs (X:Cx)(st:List Stmt)(t:TS):Prop :=
 ∀(pins:List (Addr×Obj)) (s:Shared) (σ:St) (H:Hp) (D:Ends),Inv X pins σ H s->t D σ H->wpAny (model X.prog X.w) X.A (execs st X.env) (SP X pins D) X.xe s
def bU {α:Type}{t:Sem α}{Q Q':α->Shared->Prop}{M:Model}{A:Around}{E:Value->Shared->Prop}{s:Shared}(h:wpAny M A t Q E s)(hQ:∀a s,Q a s->Q' a s):wpAny M A t Q' E s:=wpAny_mono h hQ fun _ _ x=>x
section
variable {X:Cx}
def E4 {a b:Expr}{ta tb:TE}(ha:PE X a ta)(hb:PE X b tb){pins:List (Addr×Obj)}{s:Shared}{σ:St}{H:Hp}{R:V->V->Hp->Prop}(I:Inv X pins σ H s)(h:ta σ H fun x H1=>tb σ H1 fun y H2=>R x y H2)
 {α:Type} {Q:α->Shared->Prop} {f:Value->Value->Sem α}
 (hf:∀v u s2 x y H2,Inv X pins σ H2 s2->RelV x v->RelV y u->R x y H2->wpAny (model X.prog X.w) X.A (f v u) Q X.xe s2) :
 wpAny (model X.prog X.w) X.A (eval a X.env) (fun v s₁=>wpAny (model X.prog X.w) X.A (eval b X.env) (fun u s₂=>wpAny (model X.prog X.w) X.A (f v u) Q X.xe s₂) X.xe s₁) X.xe s:=by
 refine bU (ha pins s σ H _ I h) fun v s1 ⟨x,H1,I1,r1,q1⟩=>?_;refine bU (hb pins s1 σ H1 _ I1 q1) fun u s2 ⟨y,H2,I2,r2,q2⟩=>?_;exact hf v u s2 x y H2 I2 r1 r2 q2
noncomputable def jp (i:Nat):TE:=fun σ H Q=>∃v,σ[i]? = some (some v)/\Q v H
noncomputable def tC (v:V):TE:=fun _ H Q=>Q v H
def Bk {i:Nat}{x:Str}{pos:Pos}(hN:X.N[i]? = some x)(hv:Du X.env.scope x)(hd:(x==("__debug__":Str))=false:=by decide)(hcd:(x==("__classdict__":Str))=false:=by decide):PE X (.Name x pos) (jp i):=by
 intro pins s σ H Q I h;obtain⟨v,e,h⟩:=h;obtain⟨m,hn,hl⟩:=I.loc;obtain⟨u,r,l⟩:=hl i x v hN e hv;have fin:EP X pins σ Q u s:=⟨v,H,I,r,h⟩;rcases l with ⟨hk,hm⟩ | ⟨hk,c,hc,hcell⟩
 ·exact wpAny_Name (wpAny_loadName_local I.ok.kind hk hn hm fin) hd
 ·rcases hk with hk | hk
  ·exact wpAny_Name (wpAny_loadName_cell I.ok.kind hk hc hcell fin) hd
  ·exact wpAny_Name (wpAny_loadName_free I.ok.kind hk hc hcell fin hcd) hd
def xr {i j pos}:PE X (.Constant (.int i) j pos) (tC (.int i)):=fun _ _ _ H _ I h=>wpAny_Constant_int ⟨.int i,H,I.tok _,⟨_,rfl⟩,h⟩
def Az {b j pos}:PE X (.Constant (.bool b) j pos) (tC (.bl b)):=fun _ _ _ H _ I h=>Constant_bool ⟨.bl b,H,I,rfl,h⟩
def sy {j pos}:PE X (.Constant .none j pos) (tC .non):=fun _ _ _ H _ I h=>Constant_none ⟨.non,H,I,rfl,h⟩
def Bm {x j pos}:PE X (.Constant (.str x) j pos) (tC (.str x)):=fun _ _ _ H _ I h=>Calls.Constant_str ⟨.str x,H,I.tok _,⟨_,rfl⟩,h⟩
def Gl (X:Cx)(x:Str):Prop:=X.env.kindOf x=some .globalImplicit
def uo {E:Value->Shared->Prop}{pins:List (Addr×Obj)}{s:Shared}{σ:St}{H:Hp}{x:Str}{u:Value}{pos:Pos}{Q:Value->Shared->Prop}(I:Inv X pins σ H s)(hg:Gl X x)(hm:X.mg x=some u)(h:Q u s)
 (hd:(x==("__debug__":Str))=false:=by decide):wpAny (model X.prog X.w) X.A (eval (.Name x pos) X.env) Q E s :=
 Calls.Name_function_global I.ok.kind hg (Calls.loadGlobal_global (by rw[I.ok.glob];exact I.mod.glob.keeps I.bk) hm h) hd
def fj {E:Value->Shared->Prop}{pins:List (Addr×Obj)}{s:Shared}{σ:St}{H:Hp}{x:Str}{u:Value}{pos:Pos}{Q:Value->Shared->Prop}(I:Inv X pins σ H s)(hg:Gl X x)(hm:X.mg x=none)(hv:bootBuiltins x=some u)(h:Q u s)
 (hn:x≠"__name__":=by decide) (hd:(x==("__debug__":Str))=false:=by decide):wpAny (model X.prog X.w) X.A (eval (.Name x pos) X.env) Q E s:=by
 obtain⟨mb,h1,h2⟩:=I.mod.blt;exact Calls.Name_function_global I.ok.kind hg (Calls.loadGlobal_builtin (by rw[I.ok.glob];exact I.mod.glob.keeps I.bk) hm (by rw[I.ok.blt];exact h1.keeps I.bk) ((h2 x hn).trans hv) h) hd
def t9 {x:Str}{v:V}{u:Value}{pos:Pos}(hg:Gl X x)(hm:X.mg x=some u)(r:RelV v u)(hd:(x==("__debug__":Str))=false:=by decide):PE X (.Name x pos) (tC v) :=
 fun _ _ _ H _ I h=>uo I hg hm ⟨v,H,I,r,h⟩ hd
def zk {x:Str}{v:V}{u:Value}{pos:Pos}(hg:Gl X x)(hm:X.mg x=none)(hv:bootBuiltins x=some u)(r:RelV v u)(hn:x≠"__name__":=by decide)(hd:(x==("__debug__":Str))=false:=by decide):PE X (.Name x pos) (tC v) :=
 fun _ _ _ H _ I h=>fj I hg hm hv ⟨v,H,I,r,h⟩ hn hd
variable {a b:Expr}{ta tb:TE}{pos:Pos}
def PC (X:Cx)(op:CmpOp)(a b:Expr)(t:TE):Prop :=
 ∀(pins:List (Addr×Obj)) (s:Shared) (σ:St) (H:Hp) (Q:VK),Inv X pins σ H s->t σ H Q ->
  wpAny (model X.prog X.w) X.A (eval a X.env) (fun v s₁=>wpAny (model X.prog X.w) X.A (eval b X.env) (fun u s₂=>wpAny (model X.prog X.w) X.A (compareOp op v u) (EP X pins σ Q) X.xe s₂) X.xe s₁) X.xe s
noncomputable def tB (t:TE):TT:=fun σ H Q=>t σ H fun x H1=>∃c,x=.bl c/\Q c H1
def Bq {op:CmpOp}{t:TE}(h:PC X op a b t)(h1:behindInMarks op b=false:=by first | exact nobehind _ (by decide) (by decide) | rfl):PE X (.Compare a [op] [b] pos) t:=fun pins s σ H Q I hw=>wpAny_Compare1 (h pins s σ H Q I hw) h1
def xc {op:CmpOp}{t:TE}(h:PC X op a b t)(h1:behindInMarks op b=false:=by first | exact nobehind _ (by decide) (by decide) | rfl):PT X (.Compare a [op] [b] pos) (tB t):=by
 intro pins s σ H Q I hw;refine wpAny_isTrue_Compare1 (bU (h pins s σ H _ I hw) fun v s1 h1=>bU h1 fun u s2 h2=>bU h2 fun c s3 ⟨x,H1,I1,r1,q1⟩=>?_) h1;obtain⟨d,rfl,q⟩:=q1;cases r1;exact wpAny_truthy_bool ⟨H1,I1,q⟩
variable {tA tB':TT}{rest:List Expr}
noncomputable def j5 (t u:TT):TT:=fun σ H Q=>t σ H fun c H1=>if c=true then u σ H1 Q else Q false H1
noncomputable def la (t u:TT):TT:=fun σ H Q=>t σ H fun c H1=>if c=true then Q true H1 else u σ H1 Q
noncomputable def cq (t:TT):TT:=fun σ H Q=>t σ H fun c H1=>Q (!c) H1
def zc (ha:PT X a tA):PW X (.BoolOp .And [a] pos) tA:=by
 intro wh pins s σ H Q I h;refine isTrue_and (bU (ha pins s σ H Q I h) fun c s1 e=>?_);cases c with
 | true=>exact isTrue_and_nil e
 | false=>exact e
def Ba (ha:PT X a tA):PW X (.BoolOp .Or [a] pos) tA:=by
 intro wh pins s σ H Q I h;refine isTrue_or (bU (ha pins s σ H Q I h) fun c s1 e=>?_);cases c with
 | false=>exact isTrue_or_nil e
 | true=>exact e
def Bb (ha:PT X a tA)(hb:PW X (.BoolOp .And (b::rest) pos) tB'):PW X (.BoolOp .And (a::b::rest) pos) (j5 tA tB'):=by
 intro wh pins s σ H Q I h;refine isTrue_and (bU (ha pins s σ H _ I h) fun c s1 ⟨H1,I1,q1⟩=>?_);cases c with
 | true=>exact hb wh pins s1 σ H1 Q I1 q1
 | false=>exact⟨H1,I1,q1⟩
def CY (ha:PT X a tA)(hb:PW X (.BoolOp .Or (b::rest) pos) tB'):PW X (.BoolOp .Or (a::b::rest) pos) (la tA tB'):=by
 intro wh pins s σ H Q I h;refine isTrue_or (bU (ha pins s σ H _ I h) fun c s1 ⟨H1,I1,q1⟩=>?_);cases c with
 | true=>exact⟨H1,I1,q1⟩
 | false=>exact hb wh pins s1 σ H1 Q I1 q1
def Bc (ha:PT X a tA):PT X (.UnaryOp .Not a pos) (cq tA):=by
 intro pins s σ H Q I h;exact isTrue_not (ha pins s σ H (fun c H1=>Q (!c) H1) I h)
noncomputable def CK (ta tb:TE):TE:=fun σ H Q=>ta σ H fun x H1=>∃c,x=.bl c/\if c=true then tb σ H1 Q else Q (.bl false) H1
noncomputable def CD (ta:TE):TE:=fun σ H Q=>ta σ H fun x H1=>∃c,x=.bl c/\Q (.bl (!c)) H1
def Bo {op}{t:TE}(h:PE X a t):PE X (.BoolOp op [a] pos) t:=fun pins s σ H Q I hw=>BoolOp_one (h pins s σ H Q I hw)
def Br (ha:PE X a ta)(hb:PE X (.BoolOp .And (b::rest) pos) tb):PE X (.BoolOp .And (a::b::rest) pos) (CK ta tb):=by
 intro pins s σ H Q I h;refine BoolOp_and (bU (ha pins s σ H _ I h) fun v s1 ⟨x,H1,I1,r1,q1⟩=>?_);obtain⟨c,rfl,q1⟩:=q1;cases r1;refine wpAny_truthy_bool ?_;cases c with
 | true=>exact hb pins s1 σ H1 Q I1 q1
 | false=>exact⟨.bl false,H1,I1,rfl,q1⟩
def Bp (ha:PE X a ta):PE X (.UnaryOp .Not a pos) (CD ta):=by
 intro pins s σ H Q I h;refine UnaryOp_ (bU (ha pins s σ H _ I h) fun v s1 ⟨x,H1,I1,r1,q1⟩=>?_);obtain⟨c,rfl,q1⟩:=q1;cases r1;exact not_of (wpAny_truthy_bool ⟨.bl (!c),H1,I1,rfl,q1⟩)
end
def SqL (K:PySem.W.Frag)(H:Hp)(a:Addr)(xs:List V):Prop :=
 Rd H a (.lst xs) \/
  ∃(o:Obj) (its:Array Value) (n:Nat),K.lookup a=some o/\o.cls=.type "list"/\o.dict=none/\o.data=.seq its n/\its.size<=sizeLine/\Vals xs its.toList
def SqT (K:PySem.W.Frag)(H:Hp)(a:Addr)(xs:List V):Prop :=
 Rd H a (.tup xs) \/
  ∃(o:Obj) (its:Array Value) (n:Nat),K.lookup a=some o/\o.cls=.type "tuple"/\o.data=.seq its n/\its.size<=sizeLine/\Vals xs its.toList
noncomputable def Ek:Value->Option V
 | .none=>some .non
 | .bool b=>some (.bl b)
 | .int i _=>some (.int i)
 | .str x _=>some (.str x)
 | .bytes b _=>some (.byt b)
 | .float b _=>some (.flt b)
 | .ref a=>some (.ref a)
 | .type n=>some (.ty n)
 | _=>none
def RelV.abs {x:V}{u:Value}(r:RelV x u):Ek u=some x:=by
 cases x with
 | non=>cases r;rfl
 | bl _=>cases r;rfl
 | int _=>obtain⟨t,rfl⟩:=r;rfl
 | str _=>obtain⟨t,rfl⟩:=r;rfl
 | byt _=>obtain⟨t,rfl⟩:=r;rfl
 | flt _=>obtain⟨t,rfl⟩:=r;rfl
 | ref _=>cases r;rfl
 | ty _=>cases r;rfl
def RelV.inj {x y:V}{u:Value}(r:RelV x u)(q:RelV y u):x=y:=Option.some.inj (r.abs.symm.trans q.abs)
def Vals.inj:∀{xs ys:List V} {us:List Value},Vals xs us->Vals ys us->xs=ys
 | _,_,_,.nil,.nil=>rfl
 | _,_,_,.cons r t,.cons r' t'=>by rw[r.inj r',Vals.inj t t']
section
variable {X:Cx}{pins:List (Addr×Obj)}{σ:St}{H:Hp}{s:Shared}{a:Addr}{xs ys:List V}
def SqL.of {K:PySem.W.Frag}(h:H a=some (.lst xs)):SqL K H a xs:=.inl (.inl h)
def SqT.of {K:PySem.W.Frag}(h:H a=some (.tup xs)):SqT K H a xs:=.inl (.inl h)
def Inv.list (I:Inv X pins σ H s)(h:SqL X.K H a xs):∃its:List Value,Vals xs its/\PlainL s.heap a its.toArray/\xs.length<=sizeLine:=by
 rcases h with h | ⟨o,its,n,hk,hc,hd,hs,hz,r⟩
 ·obtain⟨z,its,n,r,e⟩:=h.ok I.hok;exact⟨its,r,⟨_,n,e,rfl,rfl,rfl⟩,z⟩
 ·refine⟨its.toList,r,⟨o,n,I.kIn a o hk,hc,hd,by simpa using hs⟩,?_⟩;have e:=r.length;simp only[Array.length_toList] at e;omega
def Inv.tuple (I:Inv X pins σ H s)(h:SqT X.K H a xs):∃its:List Value,Vals xs its/\IsTup s.heap a its.toArray/\xs.length<=sizeLine:=by
 rcases h with h | ⟨o,its,n,hk,hc,hs,hz,r⟩
 ·obtain⟨z,its,r,p⟩:=h.ok I.hok;exact⟨its,r,p,z⟩
 ·refine⟨its.toList,r,⟨o,I.kIn a o hk,hc,n,by simpa using hs⟩,?_⟩;have e:=r.length;simp only[Array.length_toList] at e;omega
def Inv.list_inj (I:Inv X pins σ H s)(h:SqL X.K H a xs)(h':SqL X.K H a ys):xs=ys:=by
 obtain⟨its,r,⟨o,n,e,_,_,d⟩,_⟩:=I.list h;obtain⟨its',r',⟨o',n',e',_,_,d'⟩,_⟩:=I.list h';rw[e] at e';cases e';rw[d] at d';injection d' with d1 _;have:its=its':=by simpa using congrArg Array.toList d1
 subst this;exact r.inj r'
def Inv.tuple_inj (I:Inv X pins σ H s)(h:SqT X.K H a xs)(h':SqT X.K H a ys):xs=ys:=by
 obtain⟨its,r,⟨o,e,_,n,d⟩,_⟩:=I.tuple h;obtain⟨its',r',⟨o',e',_,n',d'⟩,_⟩:=I.tuple h';rw[e] at e';cases e';rw[d] at d';injection d' with d1 _;have:its=its':=by simpa using congrArg Array.toList d1
 subst this;exact r.inj r'
end
abbrev Cx.wish (X:Cx)(E:Value->Shared->Prop):Cx:={ X with xe:=E }
abbrev Cx.nox (X:Cx):Cx:=X.wish fun _ _=>False
def Cx.Ok.wish {X:Cx}(ok:X.Ok)(E:Value->Shared->Prop):(X.wish E).Ok :=
 ⟨ok.mod,ok.kind,ok.glob,ok.blt,ok.above,ok.inj,ok.has,ok.cab,ok.hd,ok.frames,ok.stk,ok.exf,ok.bs,ok.bsz,ok.noex,ok.exfs,ok.funs,ok.frf⟩
def Cx.Ok.unwish {X:Cx}{E:Value->Shared->Prop}(ok:(X.wish E).Ok):X.Ok :=
 ⟨ok.mod,ok.kind,ok.glob,ok.blt,ok.above,ok.inj,ok.has,ok.cab,ok.hd,ok.frames,ok.stk,ok.exf,ok.bs,ok.bsz,ok.noex,ok.exfs,ok.funs,ok.frf⟩
section
variable {X:Cx}{pins:List (Addr×Obj)}{σ:St}{H:Hp}{s:Shared}{E:Value->Shared->Prop}
def Inv.wish (I:Inv X pins σ H s)(E:Value->Shared->Prop):Inv (X.wish E) pins σ H s:=⟨I.ok.wish E,I.os,I.bare,I.base,I.loc,I.cell,I.free,I.freeC,I.pin,I.hok,I.len⟩
def Inv.unwish (I:Inv (X.wish E) pins σ H s):Inv X pins σ H s:=⟨I.ok.unwish,I.os,I.bare,I.base,I.loc,I.cell,I.free,I.freeC,I.pin,I.hok,I.len⟩
def SP.unwish {D:Ends}{f:Flow}{s':Shared}(h:SP (X.wish E) pins D f s'):SP X pins D f s':=by
 cases f with
 | next=>obtain⟨σ',H',I,q⟩:=h;exact⟨σ',H',I.unwish,q⟩
 | brk=>obtain⟨σ',H',I,q⟩:=h;exact⟨σ',H',I.unwish,q⟩
 | cont=>obtain⟨σ',H',I,q⟩:=h;exact⟨σ',H',I.unwish,q⟩
 | ret u=>obtain⟨v,σ',H',I,r,q⟩:=h;exact⟨v,σ',H',I.unwish,r,q⟩
def PSs.nox {st:List Stmt}{t:TS}(h:PSs X.nox st t):PSs X st t:=fun pins s σ H D I hw =>
 wpAny_mono (h pins s σ H D (I.wish _) hw) (fun _ _ q=>q.unwish) fun _ _ z=>False.elim z
end
section
variable {X:Cx}{st:Stmt}{rest:List Stmt}{t u:TS}{e:Expr}{te:TE}{pos:Pos}
noncomputable def CG:TS:=fun D σ H=>D.nx σ H
noncomputable def DR (t u:TS):TS:=fun D σ H=>t { D with nx:=u D } σ H
def ze:PSs X [] CG:=fun _ _ σ H _ I h=>wpAny_execs_nil ⟨σ,H,I,h⟩
def jA (h1:PS X st t)(h2:PSs X rest u):PSs X (st::rest) (DR t u):=by
 intro pins s σ H D I h;refine wpAny_execs_cons (bU (h1 pins s σ H { D with nx:=u D } I h) fun f s1 q=>?_);cases f with
 | next =>
   obtain⟨σ',H',I',q⟩:=q;exact h2 pins s1 σ' H' D I' q
 | ret v=>exact q
 | brk=>exact q
 | cont=>exact q
def lh (h1:PS X st t):PSs X [st] t:=by
 intro pins s σ H D I h;refine wpAny_execs_cons (bU (h1 pins s σ H D I h) fun f s1 q=>?_);cases f with
 | next=>exact wpAny_execs_nil q
 | ret v=>exact q
 | brk=>exact q
 | cont=>exact q
def Inv.quiet {pins:List (Addr×Obj)}{σ:St}{H:Hp}{s:Shared}(I:Inv X pins σ H s):interactive X.env=false:=by simp[interactive,I.ok.kind]
noncomputable def Ak (te:TE):TS:=fun D σ H=>te σ H fun _ H1=>D.nx σ H1
def oX (he:PE X e te)(hs:swapsWith e none pos.line X.env=pure false:=by rfl):PS X (.Expr e pos) (Ak te):=by
 intro pins s σ H D I h;exact wpAny_Expr_any (bU (he pins s σ H _ I h) fun v s1 ⟨x,H1,I1,r1,q1⟩=>⟨σ,H1,I1,q1⟩) I.quiet hs
noncomputable def DU (te:TE):TS:=fun D σ H=>te σ H D.rt
def xh (he:PE X e te):PS X (.Return (some e) pos) (DU te):=by
 intro pins s σ H D I h;exact wpAny_Return_some (bU (he pins s σ H _ I h) fun v s1 ⟨x,H1,I1,r1,q1⟩=>⟨x,σ,H1,I1,r1,q1⟩)
noncomputable def DZ (c:TT)(t u:TS):TS:=fun D σ H=>c σ H fun b H1=>if b=true then t D σ H1 else u D σ H1
def CZ {c:Expr}{a b:List Stmt}{tc:TT}(hc:PT X c tc)(ha:PSs X a t)(hb:PSs X b u):PS X (.If c a b pos) (DZ tc t u):=by
 intro pins s σ H D I h;refine wpAny_If (bU (hc pins s σ H _ I h) fun d s1 ⟨H1,I1,q1⟩=>?_);cases d with
 | true=>exact ha pins s1 σ H1 D I1 q1
 | false=>exact hb pins s1 σ H1 D I1 q1
end
abbrev TG:=V->St->Hp->(St->Hp->Prop)->Prop
abbrev AN:=List V->St->Hp->(St->Hp->Prop)->Prop
def PG (X:Cx)(target:Expr)(t:TG):Prop :=
 ∀(pins:List (Addr×Obj)) (s:Shared) (σ:St) (H:Hp) (v:V) (u:Value) (Q:St->Hp->Prop),Inv X pins σ H s->RelV v u->t v σ H Q ->
  wpAny (model X.prog X.w) X.A (assign target X.env u) (fun _ s'=>∃σ' H',Inv X pins σ' H' s'/\Q σ' H') X.xe s
def Dv (X:Cx)(ts:List Expr)(t:AN):Prop :=
 ∀(pins:List (Addr×Obj)) (s:Shared) (σ:St) (H:Hp) (vs:List V) (us:List Value) (Q:St->Hp->Prop),Inv X pins σ H s->Vals vs us->t vs σ H Q ->
  wpAny (model X.prog X.w) X.A (assignInOrder ((assignEach ts X.env).map (·.2)) us) (fun _ s'=>∃σ' H',Inv X pins σ' H' s'/\Q σ' H') X.xe s
abbrev DC:=V->V->Hp->VK->Prop
def ED (X:Cx)(op:Operator)(t:DC):Prop :=
 ∀(pins:List (Addr×Obj)) (s:Shared) (σ:St) (H:Hp) (x y:V) (v u:Value) (Q:VK),Inv X pins σ H s->RelV x v->RelV y u->t x y H Q ->
  wpAny (model X.prog X.w) X.A (inplaceOp op v u) (EP X pins σ Q) X.xe s
section
variable {X:Cx}{pos:Pos}
noncomputable def gb (i:Nat):TG:=fun v σ H Q=>Q (σ.set i (some v)) H
def t8 {i:Nat}{x:Str}(hN:X.N.Nodup)(hi:X.N[i]? = some x)(hx:Loc X.env.scope x)(hf:X.fn x=true\/X.env.scope.names.lookup x=some .local:=by first | exact .inl rfl | exact .inr rfl | assumption):PG X (.Name x pos) (gb i):=by
 intro pins s σ H v u Q I r h;exact wpAny_assign_Name (jq I hN hi hx r (fun s' I'=>⟨_,H,I',h⟩) hf)
noncomputable def Dk:AN:=fun vs σ H Q=>vs=[]/\Q σ H
noncomputable def ya (t:TG)(u:AN):AN:=fun vs σ H Q=>∃v r,vs=v::r/\t v σ H fun σ' H'=>u r σ' H' Q
def t7:Dv X [] Dk:=by
 intro pins s σ H vs us Q I r h;obtain⟨e,h⟩:=h;subst e;cases r;exact assignInOrder_nil ⟨σ,H,I,h⟩
def lU {e:Expr}{es:List Expr}{t:TG}{u:AN}(h1:PG X e t)(h2:Dv X es u)
 (hs:(assignEach (e::es) X.env).map (·.2)=assign e X.env::(assignEach es X.env).map (·.2):=by rfl):Dv X (e::es) (ya t u):=by
 intro pins s σ H vs us Q I r h;obtain⟨v,vr,e1,h⟩:=h;subst e1;cases r with
 | cons r rr =>
   rw[hs];refine assignInOrder_cons (bU (h1 pins s σ H _ _ _ I r h) fun _ s1 ⟨σ1,H1,I1,q1⟩=>?_);exact h2 pins s1 σ1 H1 _ _ Q I1 rr q1
noncomputable def Dj (K:PySem.W.Frag)(n:Nat)(t:AN):TG:=fun v σ H Q=>∃a xs,v=.ref a/\SqT K H a xs/\xs.length=n/\t xs σ H Q
def xp {es:List Expr}{k:Nat}{t:AN}{n:Nat}(hc:X.calm=true)(h:Dv X es t)
 (hn:(assignEach es X.env).length=n:=by rfl) (hst:(assignEach es X.env).findIdx? (·.1)=none:=by rfl):PG X (.Tuple es k pos) (Dj X.K n t):=by
 intro pins s σ H v u Q I r hw;obtain⟨a,xs,e1,hq,hl,hw⟩:=hw;subst e1;cases r;obtain⟨its,rv,ht,hz⟩:=I.tuple hq;refine assign_Tuple_tuple (I.ok.hd hc) ht (by simp[hn,<-hl,rv.length]) hst fun h' hx=>?_;have I1:Inv X pins σ H { s with heap:=h' }:=I.kept (t':=s.toks) fun b o e=>hx b o (Nat.ne_of_lt (Heap.lt_size e)) e;exact h pins _ σ H xs _ Q I1 (by simpa using rv) hw
def D2 (te:TE)(g:TG):TS:=fun D σ H=>te σ H fun x H1=>g x σ H1 D.nx
def xk {tg e:Expr}{te:TE}{g:TG}(he:PE X e te)(hg:PG X tg g)(hs:swapsWithSole [tg] e pos.line X.env=pure false:=by rfl)(hw:swappedStores [tg] e X.env=pure none:=by rfl)
 (h1:(assignEach [tg] X.env).map (·.2)=[assign tg X.env]:=by rfl):PS X (.Assign [tg] e pos) (D2 te g):=by
 intro pins s σ H D I h;refine wpAny_Assign_stores (bU (he pins s σ H _ I h) fun v s1 ⟨x,H1,I1,r1,q1⟩=>?_) hs hw;rw[h1];exact bU (hg pins s1 σ H1 x v _ I1 r1 q1) fun _ s2 q=>q
noncomputable def DV (i j:Nat)(ta:TA):TS:=fun D σ H=>ta σ H fun vs H1=>∃v w,vs=[v,w]/\D.nx ((σ.set i (some v)).set j (some w)) H1
def Bh {i j:Nat}{x y:Str}{a b:Expr}{ta:TA}{px py pt:Pos}{kt k2 pt2}(hc:X.calm=true)(hN:X.N.Nodup)(hi:X.N[i]? = some x)(hj:X.N[j]? = some y)(hij:i≠j)
 (hx:X.env.scope.names.lookup x=some .local) (hy:X.env.scope.names.lookup y=some .local) (ha:PA X [a,b] ta)
 (hw:swappedStores [.Tuple [.Name x px,.Name y py] kt pt] (.Tuple [a,b] k2 pt2) X.env=pure (some [x,y]))
 (hs:swapsWithSole [.Tuple [.Name x px,.Name y py] kt pt] (.Tuple [a,b] k2 pt2) pos.line X.env=pure false:=by rfl) :
 PS X (.Assign [.Tuple [.Name x px,.Name y py] kt pt] (.Tuple [a,b] k2 pt2) pos) (DV i j ta):=by
 intro pins s σ H D I h;rw[exec_Assign_arm];refine wpAny_bind (wpAny_standAt ?_);rw[hs];refine wpAny_bind (wpAny_pure ?_);rw[if_neg (by decide)];refine wpAny_bind (Tuple_ (bU (ha _ pins s σ H _ I h) fun us s1 ⟨vs,H1,I1,r1,q1⟩=>?_));obtain⟨v,w,e1,q1⟩:=q1;subst e1;obtain⟨u1,u2,rfl,rv,rw'⟩:∃u1 u2,us=[u1,u2]/\RelV v u1/\RelV w u2:=by
  cases r1 with
  | cons p q =>
    cases q with
    | cons p' q' =>
      cases q';exact⟨_,_,rfl,p,p'⟩
 refine wpAny_newObj_type ?_ (by show 2<=sizeLine;decide);have I2:Inv X pins σ H1 { s1 with heap:=s1.heap.push { cls:=.type "tuple",data:=.seq [u1,u2].toArray } }:=I1.kept (t':=s1.toks) fun b o e=>Heap.get?_push_of_some _ e;rw[hw];refine wpAny_bind (wpAny_pure ?_);show wpAny (model X.prog X.w) X.A (do rule "assign.swapped-stores";let items <-unpackItems (.ref s1.heap.objs.size) 2 none;assignInOrder [fun v=>bindName X.env y v,fun v=>bindName X.env x v] items.reverse;pure Flow.next) _ _ _;refine wpAny_bind (wpAny_rule (wpAny_bind (unpackItems_tuple (items:=#[u1,u2]) (I.ok.hd hc) (IsTup.new s1.heap _) fun h' hx'=>?_)));have I3:=I2.kept (h':=h') (t':=s1.toks) fun b o e=>hx' b o (Nat.ne_of_lt (Heap.lt_size e)) e;show wpAny _ _ (assignInOrder [fun v=>bindName X.env y v,fun v=>bindName X.env x v] [u2,u1] >>= fun _=>pure Flow.next) _ _ _;refine wpAny_bind (assignInOrder_cons (wpAny_bindName (jq I3 hN hj (.inl hy) rw' (fun s2 I4=>?_) (.inr hy))));refine assignInOrder_cons (wpAny_bindName (jq I4 hN hi (.inl hx) rv (fun s3 I5=>assignInOrder_nil (wpAny_pure ?_)) (.inr hx)));rw[List.set_comm _ _ (Ne.symm hij)] at I5;exact⟨_,H1,I5,q1⟩
noncomputable def D1 (i:Nat)(te:TE)(ti:DC):TS:=fun D σ H=>∃x,σ[i]? = some (some x)/\te σ H fun y H1=>ti x y H1 fun z H2=>D.nx (σ.set i (some z)) H2
def Bi {i:Nat}{x:Str}{e:Expr}{te:TE}{op:Operator}{ti:DC}{pos':Pos}(hN:X.N.Nodup)(hi:X.N[i]? = some x)(hx:Loc X.env.scope x)(he:PE X e te)(ho:ED X op ti)(hf:X.fn x=true\/X.env.scope.names.lookup x=some .local:=by first | exact .inl rfl | exact .inr rfl | assumption) :
 PS X (.AugAssign (.Name x pos') op e pos) (D1 i te ti):=by
 intro pins s σ H D I h;obtain⟨v,e1,h⟩:=h;obtain⟨m,hn,hl⟩:=I.loc;have vis:Du X.env.scope x:=by rcases hx with k | k;exact .inl k;exact .inr (.inl k)
 obtain⟨u,r,l⟩:=hl i x v hi e1 vis;refine wpAny_AugAssign_Name ?_;have go:wpAny (model X.prog X.w) X.A (eval e X.env) (fun w s₂=>wpAny (model X.prog X.w) X.A (inplaceOp op u w) (fun r s₃=>wpAny (model X.prog X.w) X.A (storeName X.env x r) (fun _=>SP X pins D .next) X.xe s₃) X.xe s₂) X.xe s:=by
  refine bU (he pins s σ H _ I h) fun w s1 ⟨y,H1,I1,r1,q1⟩=>?_;refine bU (ho pins s1 σ H1 v y u w _ I1 r r1 q1) fun z s2 ⟨zv,H2,I2,r2,q2⟩=>?_;exact jq I2 hN hi hx r2 (fun s3 I3=>⟨_,H2,I3,q2⟩) hf
 rcases l with ⟨hk,hm⟩ | ⟨hk,c,hc,hcell⟩
 ·exact wpAny_loadName_local I.ok.kind hk hn hm go
 ·rcases hk with hk | hk
  ·exact wpAny_loadName_cell I.ok.kind hk hc hcell go
  ·rcases hx with k | k
   ·have:X.env.scope.names.lookup x=some .free:=hk;rw[k] at this;cases this
   ·have:X.env.scope.names.lookup x=some .free:=hk;rw[k] at this;cases this
noncomputable def EV (f:Int->Int->Int):DC:=fun x y H Q=>∃i j,x=.int i/\y=.int j/\Q (.int (f i j)) H
def BL:ED X .Add (EV fun i j=>i+j):=by
 intro pins s σ H x y v u Q I r1 r2 h;obtain⟨i,j,e1,e2,q⟩:=h;subst e1;subst e2;obtain⟨t,rfl⟩:=r1;obtain⟨t',rfl⟩:=r2;exact iadd_int ⟨.int _,H,I.tok _,⟨_,rfl⟩,q⟩
end
section
variable {X:Cx}{pos:Pos}
noncomputable def AX (c:TT)(tb:TS):TS:=fun D σ H=>∃W:Nat->St->Hp->Prop,(∃m,W m σ H)/\∀m σ H,W m σ H ->
 c σ H fun b H1=>if b=true then ∃N:St->Hp->Prop,(∀σ' H',N σ' H'->∃m',m'<m/\W m' σ' H')/\tb { D with nx:=N,ct:=N,bk:=D.nx } σ H1 else D.nx σ H1
def xg {c:Expr}{body:List Stmt}{tc:TT}{tb:TS}(hp:PassesOwn (model X.prog X.w) X.A X.env X.xe)(hc:PT X c tc)(hb:PSs X body tb):PS X (.While c body [] pos) (AX tc tb):=by
 intro pins s σ H D I h;obtain⟨W,⟨m0,w0⟩,turn⟩:=h;refine wpAny_While (codeAny_whileLoop (fun n s'=>∃σ' H',Inv X pins σ' H' s'/\W n σ' H') ?_ m0 ⟨σ,H,I,w0⟩);rintro n s1 ⟨σ1,H1,I1,w1⟩;refine wpAny_passesOwn hp (bU (hc pins s1 σ1 H1 _ I1 (turn n σ1 H1 w1)) fun b s2 ⟨H2,I2,q2⟩=>?_);cases b with
 | true =>
   obtain⟨N,hN,q2⟩:=q2;rw[if_pos rfl];refine wpAny_passesOwn hp (bU (hb pins s2 σ1 H2 _ I2 q2) fun f s3 q3=>?_);cases f with
   | next =>
     obtain⟨σ3,H3,I3,n3⟩:=q3;obtain⟨m',hm,w3⟩:=hN σ3 H3 n3;exact⟨m',hm,σ3,H3,I3,w3⟩
   | cont =>
     obtain⟨σ3,H3,I3,n3⟩:=q3;obtain⟨m',hm,w3⟩:=hN σ3 H3 n3;exact⟨m',hm,σ3,H3,I3,w3⟩
   | brk=>exact q3
   | ret v=>exact q3
 | false =>
   rw[if_neg Bool.false_ne_true];exact wpAny_execs_nil ⟨σ1,H2,I2,q2⟩
end
structure It where
 go:Nat->Hp->Prop
 yld:Nat->Hp->V->Hp->Prop
 stop:Nat->Hp->Prop
def ir (X:Cx)(pins:List (Addr×Obj))(H:Hp)(b:Addr):Prop :=
 H b=none/\b≠X.env.locals/\b∉X.fs/\(b∈X.ex\/X.s₀.heap.objs.size<=b)/\(∀x c,X.env.cells.lookup x=some c->c≠b)/\∀p∈X.pn++pins,p.1≠b
def Inv.fpOk {X:Cx}{pins:List (Addr×Obj)}{σ:St}{H H':Hp}{s:Shared}{b:Addr}(I:Inv X pins σ H s)(hb:s.heap.objs.size<=b)(hn:H' b=none):ir X pins H' b:=by
 refine⟨hn,Nat.ne_of_gt (Nat.lt_of_lt_of_le I.lt hb),I.nofs hb,.inr (Nat.le_trans I.sz hb),fun x c e z=>?_,fun p hp z=>?_⟩
 ·obtain⟨v,q⟩:=I.cell x c e;exact absurd (Nat.lt_of_lt_of_le q.lt (by rw[z];exact hb)) (Nat.lt_irrefl _)
 ·exact absurd (Nat.lt_of_lt_of_le (Heap.lt_size (I.pin p hp).1) (by rw[z];exact hb)) (Nat.lt_irrefl _)
structure Turn (P:Program)(w:World)(K:PySem.W.Frag)(tg:Expr)(J:It)(fp:List Addr)(it:Addr)(tn:Nat->Heap->Prop):Prop where
 mem:it∈fp
 obj:∀i h,tn i h->∀b∈fp,∃o,h.get? b=some o/\∀v,o.data≠.cell v
 keep:∀i h h',tn i h->(∀b∈fp,∀o,h.get? b=some o->h'.get? b=some o)->tn i h'
 item:∀(X:Cx),X.prog=P->X.w=w->X.K=K->X.calm=true->∀(i:Nat) (pins:List (Addr×Obj)) (s:Shared) (σ:St) (H:Hp) (E:Value->Shared->Prop),Inv X pins σ H s->(∀b∈fp,ir X pins H b)->tn i s.heap->J.go i H ->
  wpAny (model P w) X.A (pyNext (.ref it)) (fun r s1=>∃u,r=some u /\
   wpAny (model P w) X.A (letOwnedTupleGo tg (.ref it) u) (fun _ s2=>∃x H',Inv X pins σ H' s2/\RelV x u/\J.yld i H x H'/\tn (i+1) s2.heap/\∀b∈fp,H' b=none) E s1) E s
 done:∀(X:Cx),X.prog=P->X.w=w->X.K=K->X.calm=true->∀(i:Nat) (pins:List (Addr×Obj)) (s:Shared) (σ:St) (H:Hp) (E:Value->Shared->Prop),Inv X pins σ H s->(∀b∈fp,ir X pins H b)->tn i s.heap->J.stop i H ->
  wpAny (model P w) X.A (pyNext (.ref it)) (fun r s1=>r=none/\Inv X pins σ H s1) E s
 self:∀(A:Around) (i:Nat) (s:Shared) (Q:Value->Shared->Prop) (E:Value->Shared->Prop),tn i s.heap->Q (.ref it) s->wpAny (model P w) A (pyIter (.ref it)) Q E s
abbrev TI:=St->Hp->(It->Hp->Prop)->Prop
def EE (X:Cx)(pins:List (Addr×Obj))(σ:St)(tg:Expr)(R:It->Hp->Prop)(itv:Value)(s2:Shared):Prop :=
 ∃(it:Addr) (fp:List Addr) (tn:Nat->Heap->Prop) (J:It) (H':Hp),itv=.ref it/\Inv X pins σ H' s2/\Turn X.prog X.w X.K tg J fp it tn/\tn 0 s2.heap/\(∀b∈fp,ir X pins H' b)/\R J H'
def PI (X:Cx)(tg iter:Expr)(wi:TI):Prop :=
 ∀(pins:List (Addr×Obj)) (s:Shared) (σ:St) (H:Hp) (R:It->Hp->Prop),Inv X pins σ H s->wi σ H R ->
  wpAny (model X.prog X.w) X.A (eval iter X.env) (fun v s1=>wpAny (model X.prog X.w) X.A (pyIter v) (EE X pins σ tg R) X.xe s1) X.xe s
def xY {M:Model}{A:Around}{E:Value->Shared->Prop}{s:Shared}{tg:Expr}{it:Addr}{u:Value}{o:Obj}{n:String}{vs:Array Value}{Q:Unit->Shared->Prop}(ho:s.heap.get? it=some o)(hc:o.cls=.type n)(hd:o.data=.fields vs)
 (hn:["enumerate","zip","dict_itemiterator","dict_reverseitemiterator","odict_iterator","itertools.zip_longest","itertools.pairwise"].contains n=false) (hQ:Q () s):wpAny M A (letOwnedTupleGo tg (.ref it) u) Q E s:=by
 unfold letOwnedTupleGo;cases tg <;> first
  | exact wpAny_pure hQ
  | (cases u <;> first
   | exact wpAny_pure hQ
   | (refine wpAny_bind (wpAny_load ho ?_)
      rw[hc,hd];show wpAny M A (if (["enumerate","zip","dict_itemiterator","dict_reverseitemiterator","odict_iterator","itertools.zip_longest","itertools.pairwise"].contains n&&vs[0]?==some (rawInt _))=true then _ else _) Q E s;rw[if_neg (by intro h;rw[hn,Bool.false_and] at h;cases h)];exact wpAny_pure hQ))
noncomputable def Ep (K:PySem.W.Frag)(a:Addr):It :=
 ⟨fun i H=>∃xs x,SqL K H a xs/\xs[i]? = some x,fun i H x H'=>H'=H/\∀xs,SqL K H a xs->xs[i]? = some x,fun i H=>∃xs,SqL K H a xs/\xs.length<=i⟩
noncomputable def Eo (K:PySem.W.Frag)(a:Addr):It :=
 ⟨fun i H=>∃xs x,SqT K H a xs/\xs[i]? = some x,fun i H x H'=>H'=H/\∀xs,SqT K H a xs->xs[i]? = some x,fun i H=>∃xs,SqT K H a xs/\xs.length<=i⟩
noncomputable def Cw (lo:Int)(n:Nat):It:=⟨fun i _=>i<n,fun i H x H'=>H'=H/\x=.int (lo+i),fun i _=>n<=i⟩
def uV {P:Program}{w:World}{K:PySem.W.Frag}{tg:Expr}(a it:Addr):Turn P w K tg (Ep K a) [it] it (fun i h=>h.IsListIter it a i) where
 mem:=by simp
 obj:=fun i h st b hb=>by
  have e:b=it:=by simpa using hb
  subst e;obtain⟨o,e,c,d⟩:=st;exact⟨o,e,fun v z=>by rw[d] at z;cases z⟩
 keep:=fun i h h' st k=>st.at fun o e=>k it (by simp) o e
 item:=by
  intro X hP hw hK hc i pins s σ H E I hf st hg;subst hP hw hK;obtain⟨xs,x,hq,hx⟩:=hg;obtain⟨its,rv,p,hz⟩:=I.list hq;obtain⟨u,hu,ru⟩:=rv.get hx;obtain⟨f0,f1,f2,f3,f4,f5⟩:=hf it (by simp);refine wpAny_pyNext_list_item st p.isList (x:=u) (by simpa using hu) fun h' st' sb=>?_;have I1:Inv X pins σ H { s with heap:=h' }:=I.turned (t':=s.toks) (fun b o hb e=>(sb.2 b hb).trans e) f0 f1 f3 f4 f5;obtain⟨o,e,c,d⟩:=id st';exact⟨u,rfl,xY (s:={ s with heap:=h' }) e c d (by decide) ⟨x,H,I1,ru,⟨rfl,fun ys hy=>by rw[I.list_inj hy hq];exact hx⟩,st',fun b hb=>(hf b hb).1⟩⟩
 done:=by
  intro X hP hw hK hc i pins s σ H E I hf st hg;subst hP hw hK;obtain⟨xs,hq,hx⟩:=hg;obtain⟨its,rv,p,hz⟩:=I.list hq;obtain⟨f0,f1,f2,f3,f4,f5⟩:=hf it (by simp);have hl:=rv.length;exact wpAny_pyNext_list_end (I.ok.hd hc) st p.isList (by simp;omega) fun h' eb=>⟨rfl,I.turned (t':=s.toks) (fun b o hb e=>eb b o hb e) f0 f1 f3 f4 f5⟩
 self:=fun _ _ _ _ _ st h=>wpAny_pyIter_listiter st h
def rT {P:Program}{w:World}{K:PySem.W.Frag}{tg:Expr}(a it:Addr):Turn P w K tg (Eo K a) [it] it (fun i h=>h.IsTupleIter it a i) where
 mem:=by simp
 obj:=fun i h st b hb=>by
  have e:b=it:=by simpa using hb
  subst e;obtain⟨o,e,c,d⟩:=st;exact⟨o,e,fun v z=>by rw[d] at z;cases z⟩
 keep:=fun i h h' st k=>st.at fun o e=>k it (by simp) o e
 item:=by
  intro X hP hw hK hc i pins s σ H E I hf st hg;subst hP hw hK;obtain⟨xs,x,hq,hx⟩:=hg;obtain⟨its,rv,p,hz⟩:=I.tuple hq;obtain⟨u,hu,ru⟩:=rv.get hx;obtain⟨f0,f1,f2,f3,f4,f5⟩:=hf it (by simp);refine wpAny_pyNext_tuple_item st (show s.heap.IsTuple a its.toArray from p) (x:=u) (by simpa using hu) fun h' st' sb=>?_;have I1:Inv X pins σ H { s with heap:=h' }:=I.turned (t':=s.toks) (fun b o hb e=>(sb.2 b hb).trans e) f0 f1 f3 f4 f5;obtain⟨o,e,c,d⟩:=id st';exact⟨u,rfl,xY (s:={ s with heap:=h' }) e c d (by decide) ⟨x,H,I1,ru,⟨rfl,fun ys hy=>by rw[I.tuple_inj hy hq];exact hx⟩,st',fun b hb=>(hf b hb).1⟩⟩
 done:=by
  intro X hP hw hK hc i pins s σ H E I hf st hg;subst hP hw hK;obtain⟨xs,hq,hx⟩:=hg;obtain⟨its,rv,p,hz⟩:=I.tuple hq;obtain⟨f0,f1,f2,f3,f4,f5⟩:=hf it (by simp);have hl:=rv.length;exact wpAny_pyNext_tuple_end (I.ok.hd hc) st (show s.heap.IsTuple a its.toArray from p) (by simp;omega) fun h' eb=>⟨rfl,I.turned (t':=s.toks) (fun b o hb e=>eb b o hb e) f0 f1 f3 f4 f5⟩
 self:=fun _ _ _ _ _ st h=>wpAny_pyIter_tupleiter st h
def rV {P:Program}{w:World}{K:PySem.W.Frag}{tg:Expr}(it:Addr)(lo:Int)(n:Nat):Turn P w K tg (Cw lo n) [it] it (fun i h=>IsRangeIter h it (lo+(i:Nat)*1) ((n:Int)-(i:Nat)) 1) where
 mem:=by simp
 obj:=fun i h st b hb=>by
  have e:b=it:=by simpa using hb
  subst e;exact⟨_,st,fun v z=>by
   have z':Data.fields _=Data.cell v:=z;cases z'⟩
 keep:=fun i h h' st k=>k it (by simp) _ st
 item:=by
  intro X hP hw hK hc i pins s σ H E I hf st hg;subst hP hw hK;obtain⟨f0,f1,f2,f3,f4,f5⟩:=hf it (by simp);have W:=Walks.range (prog:=X.prog) (w:=X.w) (I.ok.hd hc) it lo 1 n;refine W.item i s _ _ hg st fun v h' tk hv st' kk=>?_;obtain⟨t,rfl⟩:=hv;have I1:Inv X pins σ H { s with heap:=h',toks:=tk }:=I.turned (fun b o hb e=>kk b o (by simpa using hb) e) f0 f1 f3 f4 f5;refine⟨_,rfl,xY (s:={ s with heap:=h',toks:=tk }) (n:="range_iterator") st' rfl rfl (by decide) ⟨.int (lo+i),H,I1,⟨t,?_⟩,⟨rfl,rfl⟩,st',fun b hb=>(hf b hb).1⟩⟩;rw[Int.mul_one]
 done:=by
  intro X hP hw hK hc i pins s σ H E I hf st hg;subst hP hw hK;obtain⟨f0,f1,f2,f3,f4,f5⟩:=hf it (by simp);exact wpAny_pyNext_range_end (I.ok.hd hc) st (by have:n<=i:=hg;omega) fun h' eb=>⟨rfl,I.turned (t':=s.toks) (fun b o hb e=>eb b o hb e) f0 f1 f3 f4 f5⟩
 self:=fun _ _ _ _ _ st h=>wpAny_pyIter_rangeiter st h
section
variable {X:Cx}{tg:Expr}
def qz {pins:List (Addr×Obj)}{σ:St}{H:Hp}{s:Shared}{R:It->Hp->Prop}{E:Value->Shared->Prop}{lo hi:Int}{t u v:Tok}{tk:Nat}(I:Inv X pins σ H s)(h1 : -(2 ^ 62)<=lo)(h2:lo<2 ^ 62)(h3 : -(2 ^ 62)<=hi)(h4:hi<2 ^ 62)
 (q:R (Cw lo (hi-lo).toNat) H):wpAny (model X.prog X.w) X.A (pyIter (.ref s.heap.objs.size)) (EE X pins σ tg R) E { s with heap:=s.heap.push { cls:=.type "range",data:=.fields #[.int lo t,.int hi u,.int 1 v] },toks:=tk }:=by
 refine wpAny_pyIter_range (IsRange.new ..) (small_one h1 h2 h3 h4) ?_;have I1:Inv X pins σ H { s with heap:=s.heap.push { cls:=.type "range",data:=.fields #[.int lo t,.int hi u,.int 1 v] },toks:=tk }:=I.kept fun b o e=>Heap.get?_push_of_some _ e;refine⟨(s.heap.push { cls:=.type "range",data:=.fields #[.int lo t,.int hi u,.int 1 v] }).objs.size,[(s.heap.push { cls:=.type "range",data:=.fields #[.int lo t,.int hi u,.int 1 v] }).objs.size],_,_,H,rfl,
  I1.kept (t':=tk) fun b o e=>Heap.get?_push_of_some _ e,rV _ lo (hi-lo).toNat,?_,fun b hb=>?_,q⟩
 ·have e1:lo+((0:Nat):Int)*1=lo:=by simp
  have e2:(((hi-lo).toNat:Nat):Int)-((0:Nat):Int)=Builtin.Range.rangeSize lo hi 1:=by rw[rangeSize_one];split <;> omega
  show IsRangeIter _ _ (lo+((0:Nat):Int)*1) ((((hi-lo).toNat:Nat):Int)-((0:Nat):Int)) 1;rw[e1,e2];exact Heap.get?_push_size _ rfl
 ·have e:b=(s.heap.push { cls:=.type "range",data:=.fields #[.int lo t,.int hi u,.int 1 v] }).objs.size:=by simpa using hb
  subst e;exact I1.fpOk (Nat.le_refl _) (I1.hok.fresh (Nat.le_refl _))
def Dh (ta:TA):TI:=fun σ H R=>ta σ H fun vs H1=>∃j:Int,vs=[.int j] /\ -(2 ^ 62)<=j/\j<2 ^ 62/\R (Cw 0 j.toNat) H1
def Dg (ta:TA):TI:=fun σ H R=>ta σ H fun vs H1=>∃i j:Int,vs=[.int i,.int j]/\(-(2 ^ 62)<=i/\i<2 ^ 62 /\ -(2 ^ 62)<=j/\j<2 ^ 62)/\R (Cw i (j-i).toNat) H1
def vf {a:Expr}{ta:TA}{p pos:Pos}(hg:Gl X "range")(hm:X.mg "range"=none)(ha:PA X [a] ta)(hs:starEach [a] X.env=[(false,eval a X.env)]:=by rfl):PI X tg (.Call (.Name "range" p) [a] [] pos) (Dh ta):=by
 intro pins s σ H R I h;refine Call_ (fj I hg hm boot_range (PyProof.Rows.callWith_type1 (bU (ha pos pins s σ H _ I h) fun us s1 ⟨vs,H1,I1,r1,q1⟩=>?_) hs rfl));obtain⟨j,e,q1,q2,q⟩:=q1;subst e;cases r1 with
 | cons r rr =>
   cases rr;obtain⟨t,rfl⟩:=r;exact call_range_1 (qz I1 (by omega) (by omega) q1 q2 (by simpa using q))
def ve {a b:Expr}{ta:TA}{p pos:Pos}(hg:Gl X "range")(hm:X.mg "range"=none)(ha:PA X [a,b] ta)(hs:starEach [a,b] X.env=[(false,eval a X.env),(false,eval b X.env)]:=by rfl)(hs2:starEach [b] X.env=[(false,eval b X.env)]:=by rfl) :
 PI X tg (.Call (.Name "range" p) [a,b] [] pos) (Dg ta):=by
 intro pins s σ H R I h;refine Call_ (fj I hg hm boot_range (PyProof.Rows.callWith_type1 (bU (ha pos pins s σ H _ I h) fun us s1 ⟨vs,H1,I1,r1,q1⟩=>?_) (by rw[hs,hs2]) (by rw[hs2];rfl)));obtain⟨i,j,e,⟨q1,q2,q3,q4⟩,q⟩:=q1;subst e;cases r1 with
 | cons r rr =>
   cases rr with
   | cons r' rr =>
     cases rr;obtain⟨t,rfl⟩:=r;obtain⟨t',rfl⟩:=r';exact call_range_2 (qz I1 q1 q2 q3 q4 q)
def yP (wi:TI)(g:TG)(tb:TS):TS:=fun D σ H=>wi σ H fun J H1=>∃W:Nat->Nat->St->Hp->Prop,(∃m,W 0 m σ H1)/\∀i m σ H,W i m σ H ->
 (J.stop i H/\D.nx σ H)\/(J.go i H/\∃N:St->Hp->Prop,(∀σ' H',N σ' H'->∃m',m'<m/\W (i+1) m' σ' H')/\∀x H',J.yld i H x H'->g x σ H' fun σ2 H2=>tb { D with nx:=N,ct:=N,bk:=D.nx } σ2 H2)
noncomputable def oY (fp:List Addr)(h:Heap):List (Addr×Obj):=fp.filterMap fun b=>(h.get? b).map fun o=>(b,o)
def cB {fp:List Addr}{h:Heap}{b:Addr}{o:Obj}(hb:b∈fp)(e:h.get? b=some o):(b,o)∈oY fp h:=List.mem_filterMap.mpr ⟨b,hb,by rw[e];rfl⟩
def vj {fp:List Addr}{h:Heap}{p:Addr×Obj}(hp:p∈oY fp h):p.1∈fp/\h.get? p.1=some p.2:=by
 obtain⟨b,hb,e⟩:=List.mem_filterMap.mp hp;cases q:h.get? b with
 | none=>rw[q] at e;cases e
 | some o =>
   rw[q] at e;have e':(b,o)=p:=Option.some.inj e;subst e';exact⟨hb,q⟩
def Inv.pinned {pins:List (Addr×Obj)}{σ:St}{H:Hp}{s:Shared}{fp:List Addr}(I:Inv X pins σ H s)(hf:∀b∈fp,ir X pins H b)(ho:∀b∈fp,∃o,s.heap.get? b=some o/\∀v,o.data≠.cell v):Inv X (pins++oY fp s.heap) σ H s :=
 I.pins_of fun p hp=>(List.mem_append.mp hp).elim (fun z=>I.pin p (List.mem_append_right _ z)) fun z=>by
  obtain⟨hb,e⟩:=vj z;obtain⟨f0,f1,f2,_⟩:=hf p.1 hb;obtain⟨o,e',d⟩:=ho p.1 hb;rw[e] at e';cases e';exact⟨e,f0,f1,f2,d⟩
def Inv.unpinned {pins pl:List (Addr×Obj)}{σ:St}{H:Hp}{s:Shared}(I:Inv X (pins++pl) σ H s):Inv X pins σ H s:=I.pins_of fun p hp=>I.pin p (List.mem_append_right _ (List.mem_append_left _ hp))
def sw {iter:Expr}{body:List Stmt}{wi:TI}{g:TG}{tb:TS}{pos:Pos}(hp:PassesOwn (model X.prog X.w) X.A X.env X.xe)(hc:X.calm=true)(hi:PI X tg iter wi)(hg:PG X tg g)(hb:PSs X body tb)
 (hs:∀x,foldedSetIterable iter X.env x=pure x:=by intro _;rfl):PS X (.For tg iter body [] pos) (yP wi g tb):=by
 intro pins s σ H D I h;refine wpAny_For (bU (hi pins s σ H _ I h) fun v s1 h1=>bU h1 fun itv s2 h2=>?_) hs;obtain⟨it,fp,tn,J,H2,e,I2,T,st2,f2,W,⟨m0,w0⟩,turn⟩:=h2;subst e;have stat:∀{H':Hp},(∀b∈fp,H' b=none)->∀b∈fp,ir X pins H' b:=fun hn b hb=>⟨hn b hb,(f2 b hb).2⟩;refine codeAny_forLoop_any (fun n s'=>∃i σ' H',Inv X pins σ' H' s'/\tn i s'.heap/\(∀b∈fp,H' b=none)/\W i n σ' H') ?_ m0 ⟨0,σ,H2,I2,st2,fun b hb=>(f2 b hb).1,w0⟩;rintro n s3 ⟨i,σ3,H3,I3,st3,fr3,w3⟩;rcases turn i n σ3 H3 w3 with ⟨stop,qn⟩ | ⟨go,N,hN,step⟩
 ·refine wpAny_passesOwn hp (bU (T.done X rfl rfl rfl hc i pins s3 σ3 H3 X.xe I3 (stat fr3) st3 stop) fun r s4 ⟨hr,I4⟩=>?_);subst hr;exact wpAny_execs_nil ⟨σ3,H3,I4,qn⟩
 ·refine wpAny_passesOwn hp (bU (T.item X rfl rfl rfl hc i pins s3 σ3 H3 X.xe I3 (stat fr3) st3 go) fun r s4 ⟨u,hr,h4⟩=>?_);subst hr;refine wpAny_passesOwn hp (bU h4 fun _ s5 ⟨x,H5,I5,r5,y5,st5,fr5⟩=>?_);have I5':=I5.pinned (stat fr5) (T.obj _ _ st5);refine wpAny_passesOwn hp (bU (hg _ s5 σ3 H5 x u _ I5' r5 (step x H5 y5)) fun _ s6 ⟨σ6,H6,I6,q6⟩=>?_);refine wpAny_passesOwn hp (bU (hb _ s6 σ6 H6 _ I6 q6) fun f s7 q7=>?_);have again:∀{σ7:St} {H7:Hp},Inv X (pins++oY fp s5.heap) σ7 H7 s7->N σ7 H7->∃m,m<n/\∃i σ' H',Inv X pins σ' H' s7/\tn i s7.heap/\(∀b∈fp,H' b=none)/\W i m σ' H':=fun {σ7 H7} I7 n7=>by
   obtain⟨m',hm,w7⟩:=hN σ7 H7 n7;refine⟨m',hm,i+1,σ7,H7,I7.unpinned,T.keep _ _ _ st5 fun b hb o e=>(I7.pin (b,o) (List.mem_append_right _ (List.mem_append_right _ (cB hb e)))).1,fun b hb=>?_,w7⟩;obtain⟨o,e,d⟩:=T.obj _ _ st5 b hb;exact(I7.pin (b,o) (List.mem_append_right _ (List.mem_append_right _ (cB hb e)))).2.1
  cases f with
  | next=>obtain⟨σ7,H7,I7,n7⟩:=q7;exact again I7 n7
  | cont=>obtain⟨σ7,H7,I7,n7⟩:=q7;exact again I7 n7
  | brk=>obtain⟨σ7,H7,I7,q7⟩:=q7;exact⟨σ7,H7,I7.unpinned,q7⟩
  | ret v=>obtain⟨x7,σ7,H7,I7,r7,q7⟩:=q7;exact⟨x7,σ7,H7,I7.unpinned,r7,q7⟩
end
abbrev R2:=V->V->Hp->VK->Prop
def OpR (X:Cx)(f:Value->Value->Sem Value)(r:R2):Prop :=
 ∀(pins:List (Addr×Obj)) (s:Shared) (σ:St) (H:Hp) (x y:V) (v u:Value) (Q:VK),Inv X pins σ H s->RelV x v->RelV y u->r x y H Q ->
  wpAny (model X.prog X.w) X.A (f v u) (EP X pins σ Q) X.xe s
def DB (X:Cx)(f:Value->Sem Value)(r:V->Hp->VK->Prop):Prop :=
 ∀(pins:List (Addr×Obj)) (s:Shared) (σ:St) (H:Hp) (x:V) (v:Value) (Q:VK),Inv X pins σ H s->RelV x v->r x H Q ->
  wpAny (model X.prog X.w) X.A (f v) (EP X pins σ Q) X.xe s
def ee (X:Cx)(f:Value)(r:List V->Hp->VK->Prop):Prop :=
 ∀(pins:List (Addr×Obj)) (s:Shared) (σ:St) (H:Hp) (xs:List V) (us:List Value) (Q:VK),Inv X pins σ H s->Vals xs us->r xs H Q ->
  wpAny (model X.prog X.w) X.A (call f us) (EP X pins σ Q) X.xe s
def Em (X:Cx)(r:V->Hp->(Bool->Hp->Prop)->Prop):Prop :=
 ∀(pins:List (Addr×Obj)) (s:Shared) (σ:St) (H:Hp) (x:V) (v:Value) (Q:Bool->Hp->Prop),Inv X pins σ H s->RelV x v->r x H Q ->
  wpAny (model X.prog X.w) X.A (truthy v) (TP X pins σ Q) X.xe s
noncomputable def Cm (r:R2)(ta tb:TE):TE:=fun σ H Q=>ta σ H fun x H1=>tb σ H1 fun y H2=>r x y H2 Q
noncomputable def EJ (r:V->Hp->VK->Prop)(ta:TE):TE:=fun σ H Q=>ta σ H fun x H1=>r x H1 Q
def rI (C:Int->Int->Prop)(g:Int->Int->V):R2:=fun x y H Q=>∃i j,x=.int i/\y=.int j/\C i j/\Q (g i j) H
def Av (g:Int->Int->V):R2:=fun x y H Q=>∃i j,x=.int i/\y=.int j/\Q (g i j) H
def rU (g:Int->V):V->Hp->VK->Prop:=fun x H Q=>∃i,x=.int i/\Q (g i) H
section
variable {X:Cx}{a b c:Expr}{ta tb tc:TE}{pos:Pos}
def Cd (ha:PE X a ta)(hb:PE X b tb){pins:List (Addr×Obj)}{s:Shared}{σ:St}{H:Hp}{R:V->V->Hp->Prop}(I:Inv X pins σ H s)
 (h:ta σ H fun x H1=>tb σ H1 fun y H2=>R x y H2) {Q:Value->Shared->Prop} {f:Value->Value->Sem Value}
 (hf:∀v u s2 x y H2,Inv X pins σ H2 s2->RelV x v->RelV y u->R x y H2->wpAny (model X.prog X.w) X.A (f v u) Q X.xe s2) :
 wpAny (model X.prog X.w) X.A (eval a X.env) (fun v s₁=>wpAny (model X.prog X.w) X.A (eval b X.env) (fun u s₂=>wpAny (model X.prog X.w) X.A (f v u) Q X.xe s₂) X.xe s₁) X.xe s:=by
 refine bU (ha pins s σ H _ I h) fun v s1 ⟨x,H1,I1,r1,q1⟩=>?_;refine bU (hb pins s1 σ H1 _ I1 q1) fun u s2 ⟨y,H2,I2,r2,q2⟩=>?_;exact hf v u s2 x y H2 I2 r1 r2 q2
def C1 {op:Operator}{r:R2}(ho:OpR X (binaryOp op) r)(ha:PE X a ta)(hb:PE X b tb):PE X (.BinOp a op b pos) (Cm r ta tb):=by
 intro pins s σ H Q I h;exact wpAny_BinOp (Cd ha hb I h fun v u s2 x y H2 I2 rx ry q=>ho pins s2 σ H2 x y v u Q I2 rx ry q)
def C0 {op:UnaryOp}{r:V->Hp->VK->Prop}(ho:DB X (unaryOp op) r)(ha:PE X a ta):PE X (.UnaryOp op a pos) (EJ r ta):=by
 intro pins s σ H Q I h;exact UnaryOp_ (bU (ha pins s σ H _ I h) fun v s1 ⟨x,H1,I1,r1,q1⟩=>ho pins s1 σ H1 x v Q I1 r1 q1)
def Ea {f:Value->Value->Sem Value}{C:Int->Int->Prop}{g:Int->Int->Int}
 (rule:∀(i j:Int) (t u:Tok) (s:Shared) (Q:Value->Shared->Prop) (E:Value->Shared->Prop),C i j->Q (.int (g i j) s.toks) { s with toks:=s.toks+1 }->wpAny (model X.prog X.w) X.A (f (.int i t) (.int j u)) Q E s) :
 OpR X f (rI C fun i j=>.int (g i j)):=by
 intro pins s σ H x y v u Q I rx ry h;obtain⟨i,j,rfl,rfl,hc,q⟩:=h;obtain⟨t,rfl⟩:=rx;obtain⟨t',rfl⟩:=ry;exact rule i j t t' s _ _ hc ⟨.int (g i j),H,I.tok _,⟨_,rfl⟩,q⟩
def C7 {f:Value->Value->Sem Value}{g:Int->Int->Int}
 (rule:∀(i j:Int) (t u:Tok) (s:Shared) (Q:Value->Shared->Prop) (E:Value->Shared->Prop),Q (.int (g i j) s.toks) { s with toks:=s.toks+1 }->wpAny (model X.prog X.w) X.A (f (.int i t) (.int j u)) Q E s) :
 OpR X f (Av fun i j=>.int (g i j)):=by
 intro pins s σ H x y v u Q I rx ry h;obtain⟨i,j,rfl,rfl,q⟩:=h;obtain⟨t,rfl⟩:=rx;obtain⟨t',rfl⟩:=ry;exact rule i j t t' s _ _ ⟨.int (g i j),H,I.tok _,⟨_,rfl⟩,q⟩
def zq {f:Value->Value->Sem Value}{g:Int->Int->Bool}
 (rule:∀(i j:Int) (t u:Tok) (s:Shared) (Q:Value->Shared->Prop) (E:Value->Shared->Prop),Q (.bool (g i j)) s->wpAny (model X.prog X.w) X.A (f (.int i t) (.int j u)) Q E s) :
 OpR X f (Av fun i j=>.bl (g i j)):=by
 intro pins s σ H x y v u Q I rx ry h;obtain⟨i,j,rfl,rfl,q⟩:=h;obtain⟨t,rfl⟩:=rx;obtain⟨t',rfl⟩:=ry;exact rule i j t t' s _ _ ⟨.bl (g i j),H,I,rfl,q⟩
def Es (i j:Int):Prop:=0<j/\j<1073741824
def CMul (i j:Int):Prop:=(-(2 ^ 64)<i/\i<2 ^ 64)\/(-(2 ^ 64)<j/\j<2 ^ 64)
def CMul.ok {i j:Int}(h:CMul i j):IntMulOk i j:=by
 rcases h with ⟨h1,h2⟩ | ⟨h1,h2⟩
 ·exact .of_left (intBits_le_64 h1 h2)
 ·exact .of_right (intBits_le_64 h1 h2)
def op_add:OpR X (binaryOp .Add) (Av fun i j=>.int (i+j)):=C7 fun _ _ _ _ _ _ _ q=>add_int q
def Bu:OpR X (binaryOp .Sub) (Av fun i j=>.int (i-j)):=C7 fun _ _ _ _ _ _ _ q=>sub_int q
def op_mul:OpR X (binaryOp .Mult) (rI CMul fun i j=>.int (i*j)):=Ea fun _ _ _ _ _ _ _ hc q=>mul_int q hc.ok
def zo:OpR X (binaryOp .FloorDiv) (rI Es fun i j=>.int (i / j)):=Ea fun i j _ _ _ _ _ hc q=>by
 have h1:(0:Int)<j:=hc.1;have h2:j<1073741824:=hc.2;exact floordiv_int (by omega) (by rw[Int.fdiv_eq_ediv_of_nonneg i (by omega)];exact q) (.inl (PyProof.noPylong_small (by omega)))
def Bv:OpR X (binaryOp .Mod) (rI (fun _ j=>0<j) fun i j=>.int (i % j)):=Ea fun i j _ _ _ _ _ hc q=>by
 have h1:(0:Int)<j:=hc;exact mod_int' (by omega) (by rw[Int.fmod_eq_emod_of_nonneg i (by omega)];exact q)
def EI {f:Value->Sem Value}{g:Int->Int}
 (rule:∀(i:Int) (t:Tok) (s:Shared) (Q:Value->Shared->Prop) (E:Value->Shared->Prop),Q (.int (g i) s.toks) { s with toks:=s.toks+1 }->wpAny (model X.prog X.w) X.A (f (.int i t)) Q E s) :
 DB X f (rU fun i=>.int (g i)):=by
 intro pins s σ H x v Q I rx h;obtain⟨i,rfl,q⟩:=h;obtain⟨t,rfl⟩:=rx;exact rule i t s _ _ ⟨.int (g i),H,I.tok _,⟨_,rfl⟩,q⟩
def AQ:DB X (unaryOp .USub) (rU fun i=>.int (-i)):=EI fun _ _ _ _ _ q=>neg_int q
end
section
variable {X:Cx}{a b c:Expr}{ta tb tc:TE}{pos:Pos}
def ye {pins:List (Addr×Obj)}{σ:St}{H:Hp}{s:Shared}{Q:VK}{k k':Bool}(I:Inv X pins σ H s)(q:Q (.bl k) H)(e:k=k'):EP X pins σ Q (.bool k') s:=by
 subst e;exact⟨.bl k,H,I,rfl,q⟩
def C3:OpR X (compareOp .Lt) (Av fun i j=>.bl (decide (i<j))):=zq fun _ _ _ _ _ _ _ q=>lt_int q
def C4:OpR X (compareOp .LtE) (Av fun i j=>.bl (decide (i<=j))):=zq fun _ _ _ _ _ _ _ q=>le_int q
def C5:OpR X (compareOp .Gt) (Av fun i j=>.bl (decide (j<i))):=zq fun _ _ _ _ _ _ _ q=>gt_int q
def C6:OpR X (compareOp .GtE) (Av fun i j=>.bl (decide (j<=i))):=zq fun _ _ _ _ _ _ _ q=>ge_int q
def Bw:OpR X (compareOp .Is) (fun x y H Q=>y=.non/\Q (.bl (decide (x=.non))) H):=by
 intro pins s σ H x y v u Q I rx ry h;obtain⟨rfl,q⟩:=h;cases ry;refine is_none_gen (ye I q ?_);cases x <;> first
  | (cases rx;rfl)
  | (obtain⟨t,rfl⟩:=rx;rfl)
def zn:OpR X (compareOp .IsNot) (fun x y H Q=>y=.non/\Q (.bl (!decide (x=.non))) H):=by
 intro pins s σ H x y v u Q I rx ry h;obtain⟨rfl,q⟩:=h;cases ry;refine isnot_none_gen (ye I q ?_);cases x <;> first
  | (cases rx;rfl)
  | (obtain⟨t,rfl⟩:=rx;rfl)
def OpR.or {f:Value->Value->Sem Value}{r r':R2}(h:OpR X f r)(h':OpR X f r'):OpR X f (fun x y H Q=>r x y H Q\/r' x y H Q):=by
 intro pins s σ H x y v u Q I rx ry q;rcases q with q | q
 ·exact h pins s σ H x y v u Q I rx ry q
 ·exact h' pins s σ H x y v u Q I rx ry q
def bg (b:Expr){op:CmpOp}(h:op≠.In:=by decide)(h2:op≠.NotIn:=by decide):behindInMarks op b=false:=by
 have e1:(op==CmpOp.In)=false:=by cases op <;> first | rfl | exact absurd rfl h
 have e2:(op==CmpOp.NotIn)=false:=by cases op <;> first | rfl | exact absurd rfl h2
 cases b <;> simp[behindInMarks,e1,e2]
def ua {op:CmpOp}{r:R2}(ho:OpR X (compareOp op) r)(ha:PE X a ta)(hb:PE X b tb)(hm:behindInMarks op b=false):PE X (.Compare a [op] [b] pos) (Cm r ta tb):=by
 intro pins s σ H Q I h;exact wpAny_Compare1 (Cd ha hb I h fun v u s2 x y H2 I2 rx ry q=>ho pins s2 σ H2 x y v u Q I2 rx ry q) hm
noncomputable def Ai (t:TE):TT:=fun σ H Q=>t σ H fun x H'=>∃k,x=.bl k/\Q k H'
def oW {op:CmpOp}{r:R2}(ho:OpR X (compareOp op) r)(ha:PE X a ta)(hb:PE X b tb)(hm:behindInMarks op b=false):PT X (.Compare a [op] [b] pos) (Ai (Cm r ta tb)):=by
 intro pins s σ H Q I h;refine wpAny_isTrue_Compare1 (bU (ha pins s σ H _ I h) fun v s1 ⟨x,H1,I1,r1,q1⟩=>bU (hb pins s1 σ H1 _ I1 q1) fun u s2 ⟨y,H2,I2,r2,q2⟩ =>
  bU (ho pins s2 σ H2 x y v u _ I2 r1 r2 q2) fun c s3 ⟨z,H3,I3,r3,k,e,q3⟩=>?_) hm
 subst e;cases r3;exact wpAny_truthy_bool ⟨H3,I3,q3⟩
noncomputable def A0 (r r':R2)(ta tb tc:TE):TE:=fun σ H Q=>ta σ H fun x H1=>tb σ H1 fun y H2=>r x y H2 fun z H3=>∃k,z=.bl k /\
 (if k=true then tc σ H3 fun w' H4=>r' y w' H4 Q else Q (.bl false) H3)
def xf {op op':CmpOp}{r r':R2}(ho:OpR X (compareOp op) r)(ho':OpR X (compareOp op') r')(ha:PE X a ta)(hb:PE X b tb)(hc:PE X c tc)
 (hm:lastMarks [op,op'] [b,c]=false:=by with_unfolding_all rfl):PT X (.Compare a [op,op'] [b,c] pos) (Ai (A0 r r' ta tb tc)):=by
 intro pins s σ H Q I h;refine isTrue_chain (bU (ha pins s σ H _ I h) fun v s1 ⟨x,H1,I1,r1,q1⟩=>test_link (bU (hb pins s1 σ H1 _ I1 q1) fun u s2 ⟨y,H2,I2,r2,q2⟩ =>
  bU (ho pins s2 σ H2 x y v u _ I2 r1 r2 q2) fun d s3 ⟨z,H3,I3,r3,k,e,q3⟩=>?_)) hm
 subst e;cases r3;refine wpAny_truthy_bool ?_;cases k with
 | false =>
   obtain⟨k',e',q'⟩:=q3;cases e';exact ite_ff ⟨H3,I3,q'⟩
 | true =>
   refine ite_tt (test_last (bU (hc pins s3 σ H3 _ I3 q3) fun w' s4 ⟨z',H4,I4,r4,q4⟩=>bU (ho' pins s4 σ H4 y z' u w' _ I4 r2 r4 q4) fun d' s5 ⟨z2,H5,I5,r5,k2,e2,q5⟩=>?_));subst e2;cases r5;exact wpAny_truthy_bool ⟨H5,I5,q5⟩
def Ag (K:PySem.W.Frag)(x:V)(H:Hp)(k:Bool):Prop :=
 match x with
 | .non=>k=false
 | .bl b=>k=b
 | .int i=>k=(i != 0)
 | .str y=>y.length<=sizeLine/\k=((y.length:Int) != 0)
 | .byt y=>y.size<=sizeLine/\k=((y.size:Int) != 0)
 | .ref p=>(∃xs,SqL K H p xs/\k = !xs.isEmpty)\/(∃xs,SqT K H p xs/\k = !xs.isEmpty)\/∃kvs,H p=some (.dK kvs)/\k = !kvs.isEmpty
 | _=>False
def sP {κ:Type}{kvs:List (κ×V)}{vs:List (κ×Value)}(r:KV kvs vs):(!vs.isEmpty) = !kvs.isEmpty:=by
 cases r <;> rfl
def mE {xs:List V}{its:List Value}(r:Vals xs its):(!its.toArray.isEmpty) = !xs.isEmpty:=by
 cases r <;> simp
def km:(sizeLine:Nat)<2 ^ 63:=by rw[sizeLine_eq];decide
def wv:Em X (fun x H Q=>∃k,Ag X.K x H k/\Q k H):=by
 intro pins s σ H x v Q I rx h;obtain⟨k,e,q⟩:=h;have hl:=km;have hs:sizeLine=16777216:=sizeLine_eq;cases x with
 | non =>
   cases rx;have e':k=false:=e;subst e';exact truthy_none ⟨H,I,q⟩
 | bl b =>
   cases rx;have e':k=b:=e;subst e';exact wpAny_truthy_bool ⟨H,I,q⟩
 | int i =>
   obtain⟨t,rfl⟩:=rx;have e':k=(i != 0):=e;subst e';exact PySem.P.truthy_int ⟨H,I,q⟩
 | str y =>
   obtain⟨t,rfl⟩:=rx;obtain⟨hy,e'⟩:y.length<=sizeLine/\k=((y.length:Int) != 0):=e;subst e';exact PySem.P.truthy_str (by omega) ⟨H,I.tok _,q⟩
 | byt y =>
   obtain⟨t,rfl⟩:=rx;obtain⟨hy,e'⟩:y.size<=sizeLine/\k=((y.size:Int) != 0):=e;subst e';exact PySem.W.truthy_bytes (by omega) ⟨H,I.tok _,q⟩
 | ref p =>
   cases rx;have e':(∃xs,SqL X.K H p xs/\k = !xs.isEmpty)\/(∃xs,SqT X.K H p xs/\k = !xs.isEmpty)\/∃kvs,H p=some (.dK kvs)/\k = !kvs.isEmpty:=e;rcases e' with ⟨xs,hx,e'⟩ | ⟨xs,hx,e'⟩ | ⟨kvs,hx,e'⟩
   ·subst e';obtain⟨its,r,pl,hz⟩:=I.list hx;have hlen:=r.length;exact wpAny_truthy_list pl.isList (by simp only[List.size_toArray];omega) ⟨H,I.tok _,by rw[mE r];exact q⟩
   ·subst e';obtain⟨its,r,pl,hz⟩:=I.tuple hx;have hlen:=r.length;exact truthy_tuple pl (by simp only[List.size_toArray];omega) ⟨H,I.tok _,by rw[mE r];exact q⟩
   ·subst e';obtain⟨hz,hS,vs,r,m⟩:kvs.length<=sizeLine/\(p==sysModules)=false/\∃vs,KV kvs vs/\s.heap.DictOf (bW X.prog X.w) p vs:=I.hok p _ hx;have hlen:kvs.length=vs.length:=Paired.length r;exact wpAny_truthy_dict hS m (by omega) ⟨H,I.tok _,by rw[sP r];exact q⟩
 | _=>exact(show False from e).elim
def xb (ha:PE X a ta)(he:∀whole,isTrue a X.env whole=(do let v <-whole;standAt a.pos;holding [v] (truthy v))) :
 PT X a (fun σ H Q=>ta σ H fun x H'=>∃k,Ag X.K x H' k/\Q k H'):=by
 intro pins s σ H Q I h;exact isTrue_plain (bU (ha pins s σ H _ I h) fun v s1 ⟨x,H1,I1,r1,q1⟩=>wv pins s1 σ H1 x v Q I1 r1 q1) (he _)
def sE:OpR X (binaryOp .Add) (fun x y H Q=>∃i j,x=.str i/\y=.str j/\i.length+j.length<=sizeLine/\Q (.str (i++j)) H):=by
 intro pins s σ H x y v u Q I rx ry h;obtain⟨i,j,rfl,rfl,hz,q⟩:=h;obtain⟨t,rfl⟩:=rx;obtain⟨t',rfl⟩:=ry;exact add_str (fun t' tk=>⟨.str (i++j),H,I.tok _,⟨_,rfl⟩,q⟩) hz
def vals1 {x:V}{us:List Value}(r:Vals [x] us):∃u,us=[u]/\RelV x u:=by
 cases r with
 | cons r1 r2=>cases r2;exact⟨_,rfl,r1⟩
def vals2 {x y:V}{us:List Value}(r:Vals [x,y] us):∃u w',us=[u,w']/\RelV x u/\RelV y w':=by
 cases r with
 | cons r1 r2 =>
   cases r2 with
   | cons r3 r4=>cases r4;exact⟨_,_,rfl,r1,r3⟩
def yD:ee X (.builtin "abs") (fun xs H Q=>∃i,xs=[.int i]/\Q (.int (if i<0 then -i else i)) H):=by
 intro pins s σ H xs us Q I r h;obtain⟨i,rfl,q⟩:=h;obtain⟨u,rfl,t,rfl⟩:=vals1 r;exact call_abs_int fun u tk=>⟨.int (if i<0 then -i else i),H,I.tok _,⟨_,rfl⟩,q⟩
def vS (hc:X.calm=true):ee X (.builtin "max") (fun xs H Q=>∃i j,xs=[.int i,.int j]/\Q (.int (if j>i then j else i)) H):=by
 intro pins s σ H xs us Q I r h;obtain⟨i,j,rfl,q⟩:=h;obtain⟨u,w',rfl,⟨t,rfl⟩,⟨t',rfl⟩⟩:=vals2 r;refine max_two_ints (I.ok.hd hc) fun h' tk k=>⟨_,H,I.kept k,?_,q⟩;by_cases hj:j>i
 ·rw[if_pos hj,if_pos hj];exact⟨_,rfl⟩
 ·rw[if_neg hj,if_neg hj];exact⟨_,rfl⟩
def vR (hc:X.calm=true):ee X (.builtin "min") (fun xs H Q=>∃i j,xs=[.int i,.int j]/\Q (.int (if j<i then j else i)) H):=by
 intro pins s σ H xs us Q I r h;obtain⟨i,j,rfl,q⟩:=h;obtain⟨u,w',rfl,⟨t,rfl⟩,⟨t',rfl⟩⟩:=vals2 r;refine min_two_ints (I.ok.hd hc) fun h' tk k=>⟨_,H,I.kept k,?_,q⟩;by_cases hj:j<i
 ·rw[if_pos hj,if_pos hj];exact⟨_,rfl⟩
 ·rw[if_neg hj,if_neg hj];exact⟨_,rfl⟩
end
section
variable {prog:Program}{w:World}{A:Around}{E:Value->Shared->Prop}{s:Shared}{K:PySem.W.Frag}{x dx C f:Addr}{mA:Str->Option Value}{name:Str}{v:Value}
end
def RelO.some_of {v:V}{o:Option Value}(r:RelO (some v) o):∃u,o=some u/\RelV v u:=by
 cases o with
 | none=>exact(show False from r).elim
 | some u=>exact⟨u,rfl,r⟩
section
variable {P:Program}{w:World}{H H':Hp}{h h':Heap}{a C dx:Addr}{fs fs':List (Str×V)}
end
section
variable {X:Cx}{pins:List (Addr×Obj)}{σ:St}{H:Hp}{s:Shared}{a C dx:Addr}{fs:List (Str×V)}{f:Str}{v:V}{A:Around}{E:Value->Shared->Prop}
end
section
variable {X:Cx}{o e value:Expr}{f:Str}{pos pos' tpos:Pos}{ta tv:TE}
end
section
variable {X:Cx}{pins:List (Addr×Obj)}{σ:St}{H:Hp}{s:Shared}{A:Around}{E:Value->Shared->Prop}{Q:Value->Shared->Prop}{c:Value}{b:Bool}
end
structure Room (k:Nat)(A:Around):Prop where
 hd:A.handled=none
 dp:A.depth+3*k+5<recursionLimit
 un:A.units+16*k+200<cLine
def Room.mono {j k:Nat}{A:Around}(r:Room k A)(h:j<=k):Room j A:=⟨r.hd,by have:=r.dp;omega,by have:=r.un;omega⟩
def Room.deeper {k:Nat}{A:Around}(r:Room (k+1) A)(env:Env):Room k (A.deeper env) :=
 ⟨r.hd,by have:=r.dp;show A.depth+1+3*k+5<_;omega,by have:=r.un;show A.units+3+16*k+200<_;omega⟩
def Room.depth {k:Nat}{A:Around}(r:Room k A):A.depth<recursionLimit:=by have:=r.dp;omega
def Room.units {k:Nat}{A:Around}(r:Room k A):A.units+64<cLine:=by have:=r.un;omega
noncomputable def CF:TA:=fun _ H Q=>Q [] H
noncomputable def Al (ta:TE)(tr:TA):TA:=fun σ H Q=>ta σ H fun x H1=>tr σ H1 fun xs H2=>Q (x::xs) H2
section
variable {X:Cx}{e:Expr}{es:List Expr}{te:TE}{t:TA}{pos:Pos}
def df:PA X [] CF:=fun _ _ _ _ H Q I h=>Calls.spliced_nil ⟨[],H,I,.nil,h⟩
def bN (ha:PE X e te)(hr:PA X es t)(hs:starEach (e::es) X.env=(false,eval e X.env)::starEach es X.env:=by rfl):PA X (e::es) (Al te t):=by
 intro pos pins s σ H Q I h;rw[hs];show wpAny _ _ (spliced ((false,eval e X.env)::backTo pos (starEach es X.env))) _ _ s;refine Calls.spliced_cons (bU (ha pins s σ H _ I h) fun u s1 ⟨x,H1,I1,r1,q1⟩=>?_);exact bU (hr pos pins s1 σ H1 _ I1 q1) fun us s2 ⟨xs,H2,I2,r2,q2⟩=>⟨x::xs,H2,I2,.cons r1 r2,q2⟩
def DQ (t:TA):TE:=fun σ H Q=>t σ H fun xs H1=>xs.length<=sizeLine/\∀p,H1 p=none->Q (.ref p) (cr H1 p (.tup xs))
def DY (t:TA):TE:=fun σ H Q=>t σ H fun xs H1=>xs.length<=sizeLine/\∀p,H1 p=none->Q (.ref p) (cr H1 p (.lst xs))
def Bl {x1}(h:PA X es t):PE X (.Tuple es x1 pos) (DQ t):=by
 intro pins s σ H Q I hq;refine wpAny_Tuple_spliced (bU (h pos pins s σ H _ I hq) fun us s1 ⟨xs,H1,I1,r,z,q⟩=>⟨by rw[<-r.length];exact z,?_⟩);have hf:H1 s1.heap.objs.size=none:=I1.hok.fresh (Nat.le_refl _);refine⟨.ref s1.heap.objs.size,cr H1 s1.heap.objs.size (.tup xs),I1.laid (t':=s1.toks) (fun b u e=>Heap.get?_push_of_some _ e) (Nat.le_refl _) ?_,rfl,q _ hf⟩;exact⟨z,us,r,⟨_,Heap.get?_push_size _ rfl,rfl,_,rfl⟩⟩
def xq (h:PA X es t):PE X (.List es pos) (DY t):=by
 intro pins s σ H Q I hq;refine wpAny_List_spliced (bU (h pos pins s σ H _ I hq) fun us s1 ⟨xs,H1,I1,r,z,q⟩=>⟨by rw[<-r.length];exact z,?_⟩);have hf:H1 s1.heap.objs.size=none:=I1.hok.fresh (Nat.le_refl _);refine⟨.ref s1.heap.objs.size,cr H1 s1.heap.objs.size (.lst xs),I1.laid (t':=s1.toks) (fun b u e=>Heap.get?_push_of_some _ e) (Nat.le_refl _) ?_,rfl,q _ hf⟩;exact⟨z,us,0,r,Heap.get?_push_size _ rfl⟩
end
abbrev Sp:=List V->Hp->VK->XK->Prop
abbrev yL:=List Env->Hp->Shared->XK->Value->Shared->Prop
structure Ah (P:Program)(w:World)(K:PySem.W.Frag)(mg:Str->Option Value)(base:Heap)(A:Around)(outer:List Env)(s:Shared)(H:Hp):Prop where
 frames:A.frames=some outer
 mod:Mod K mg base
 bs:∀b o,base.get? b=some o->s.heap.get? b=some o/\H b=none
 bsz:base.objs.size<=s.heap.objs.size
 funs:s.heap.FunFrames base outer
 frf:∀b∈vA outer,H b=none
 hok:HOk P w H s.heap
 bare:AllBare s.gens
def CE (outer:List Env)(P:Program)(w:World)(H:Hp)(s:Shared)(Q:VK)(u:Value)(s':Shared):Prop :=
 ∃v H',s'.os=s.os/\AllBare s'.gens/\Un (vA outer) [] H H' s.heap s'.heap/\HOk P w H' s'.heap/\RelV v u/\Q v H'
def CR (CX:yL)(outer:List Env)(P:Program)(w:World)(H:Hp)(s:Shared)(Q:VK)(E:XK)(r:Result)(s':Shared):Prop :=
 match r with
 | .ok (.ret u)=>CE outer P w H s Q u s'
 | .ok _=>False
 | .error e=>CX outer H s E e s'
structure iu (P:Program)(w:World)(K:PySem.W.Frag)(mg:Str->Option Value)(base:Heap)(CX:yL)(k:Nat)(f:Addr)(fd:FuncData)(ps:List Str)(sp:Sp):Prop where
 len:∀vs H Q E,sp vs H Q E->vs.length=ps.length
 run:∀(A:Around) (outer:List Env) (s:Shared) (H:Hp) (args:Args) (us:List Value) (vs:List V) (Q:VK) (E:XK),Room k A->Ah P w K mg base A outer s H->BindsTo s fd args (ps.zip us)->Vals vs us->sp vs H Q E ->
  codeAny (model P w) A (.call (.ref f) args) (CR CX outer P w H s Q E) s
section
variable {X:Cx}{pins:List (Addr×Obj)}{σ:St}{H:Hp}{s s':Shared}
def Inv.env0 (I:Inv X pins σ H s):Ah X.prog X.w X.K X.mg X.base X.A X.stack s H :=
 ⟨I.ok.frames,I.ok.mod,I.bs,Nat.le_trans I.ok.bsz I.sz,I.stack,I.stkFree,I.hok,I.bare⟩
def Inv.after {Q:VK}{u:Value}(I:Inv X pins σ H s)(h:CE X.stack X.prog X.w H s Q u s'):EP X pins σ Q u s':=by
 obtain⟨v,H',os,bare,un,hok,r,q⟩:=h;obtain⟨hh,g,d,t,os'⟩:=s';obtain rfl:os'=s.os:=os;exact⟨v,H',I.call (h':=hh) (g':=g) (d':=d) (t':=t) (ch:=[]) un hok bare (fun b z=>absurd z (by simp)),r,q⟩
end
noncomputable def CJ (sp:Sp)(dvs:List V)(E:XK)(t:TA):TE:=fun σ H Q=>t σ H fun vs H1=>sp (vs++dvs) H1 Q E
def Binds (K:PySem.W.Frag)(fd:FuncData)(ps:List Str)(ds:List Value):Prop :=
 ∀(s:Shared) (us:List Value),K.In s.heap->(us++ds).length=ps.length->BindsTo s fd ⟨us,[]⟩ (ps.zip (us++ds))
def Binds.all {K:PySem.W.Frag}{fd:FuncData}{ps:List Str}(h:∀us:List Value,us.length=ps.length->bindArgs fd ⟨us,[]⟩=pure (ps.zip us)):Binds K fd ps []:=fun s us _ hl=>by
 rw[List.append_nil] at hl ⊢;exact .of_eq (h us hl)
def tK (CX:yL)(X:Cx)(E:XK):Prop:=∀(pins:List (Addr×Obj)) (σ:St) (H:Hp) (s:Shared) (e:Value) (s':Shared),Inv X pins σ H s->CX X.stack H s E e s'->X.xe e s'
section
variable {X:Cx}{CX:yL}{k:Nat}{f C:Addr}{fd:FuncData}{ps:List Str}{sp:Sp}{dvs:List V}{ds:List Value}{E:XK}{x m:Str}{p pos apos:Pos}{e o:Expr}{es:List Expr}{ta:TE}{t:TA}
def A4 {pins:List (Addr×Obj)}{σ:St}{H:Hp}{s:Shared}{Q:VK}{us:List Value}{vs:List V}(F:iu X.prog X.w X.K X.mg X.base CX k f fd ps sp)(hr:Room k X.A)(hb:Binds X.K fd ps ds)(hd:Vals dvs ds)(hx:tK CX X E)
 (I:Inv X pins σ H s) (r:Vals vs us) (h:sp (vs++dvs) H Q E):wpAny (model X.prog X.w) X.A (call (.ref f) us) (EP X pins σ Q) X.xe s:=by
 have r2:Vals (vs++dvs) (us++ds):=r.append hd;have hl:(us++ds).length=ps.length:=by rw[<-r2.length];exact F.len _ _ _ _ h
 refine wpAny_call (codeAny_mono (F.run X.A X.stack s H ⟨us,[]⟩ (us++ds) (vs++dvs) Q E hr I.env0 (hb s us I.kIn hl) r2 h) fun r s' hq=>?_);cases r with
 | error e=>exact hx pins σ H s e s' I hq
 | ok fl =>
   cases fl with
   | ret u=>exact I.after hq
   | next=>exact False.elim hq
   | brk=>exact False.elim hq
   | cont=>exact False.elim hq
def ub (F:iu X.prog X.w X.K X.mg X.base CX k f fd ps sp)(hr:Room k X.A)(hg:Gl X x)(hm:X.mg x=some (.ref f))(hk:PySem.W.keepIn X.K (.ref f)=true)(hb:Binds X.K fd ps ds)(hd:Vals dvs ds)(hx:tK CX X E)
 (ha:PA X (e::es) t) (hdb:(x==("__debug__":Str))=false:=by decide) (he:starEach (e::es) X.env=(false,eval e X.env)::starEach es X.env:=by rfl) (hpl:(backTo pos (starEach es X.env)).any (·.1)=false:=by rfl) :
 PE X (.Call (.Name x p) (e::es) [] pos) (CJ sp dvs E t):=by
 intro pins s σ H Q I h;refine wpAny_Call_Name_kw (uo I hg hm ?_ hdb);refine PySem.W.callWith_K (h₀:=X.base) I.ok.mod.kin hk (bU (ha pos pins s σ H _ I h) fun us s1 ⟨vs,H1,I1,r,q⟩=>⟨I1.kIn,?_⟩) he hpl;exact A4 F hr hb hd hx I1 r q
end
section
variable {X:Cx}{CX:yL}{k:Nat}{f C:Addr}{fd:FuncData}{ps ks:List Str}{sp:Sp}{E:XK}{x m:Str}{p pos apos kpos:Pos}{e o:Expr}{es:List Expr}{kws:List Keyword}{te ta:TE}{t tk:TA}{nm:Option Str}
variable {g:List Value->List Value->List Value}{gV:List V->List V->List V}
end
structure eW (N P:List Str)(sc:Scope):Prop where
 kind:sc.kind=.function
 co:sc.isCoroutine=false
 gen:sc.isGenerator=false
 nd:N.Nodup
 pre:N.take P.length=P
 par:∀x∈P,sc.names.lookup x=some .local\/sc.names.lookup x=some .cell
 nofree:∀y∈sc.names,y.2≠.free
def oB {kindOf:Str->Option NameKind}{x:Str}:∀{binds:List (Str×Value)} {m:Str->Option Value},(∀v,(x,v)∉binds)->bindL kindOf binds m x=m x
 | [],_,_=>rfl
 | (n,v)::r,m,h=>by
   unfold bindL;rw[oB fun w hw=>h w (List.mem_cons_of_mem _ hw)];split
   ·have:x≠n:=by rintro rfl;exact h v List.mem_cons_self
    simp[this]
   ·rfl
def oD {kindOf:Str->Option NameKind}{x:Str}:∀{binds:List (Str×Value)} {m:Str->Option Value},(∀v,(x,v)∉binds)->bindC kindOf binds m x=m x
 | [],_,_=>rfl
 | (n,v)::r,m,h=>by
   unfold bindC;rw[oD fun w hw=>h w (List.mem_cons_of_mem _ hw)];split
   ·rfl
   ·have:x≠n:=by rintro rfl;exact h v List.mem_cons_self
    simp[this]
def oC {kindOf:Str->Option NameKind}{x:Str}{v:Value}:∀{P:List Str} {vs:List Value} {i:Nat} {m:Str->Option Value},P.Nodup->P[i]? = some x->vs[i]? = some v->kindOf x=some .local ->
 bindL kindOf (P.zip vs) m x=some v
 | [],_,_,_,_,h,_,_=>by simp at h
 | _::_,[],_,_,_,_,h,_=>by simp at h
 | p::P,w::vs,0,m,nd,h1,h2,hk=>by
   simp at h1 h2;subst h1;subst h2;show bindL kindOf ((p,w)::P.zip vs) m p=_;unfold bindL;rw[oB fun v hv=>(List.nodup_cons.mp nd).1 (List.of_mem_zip hv).1,if_pos hk];simp
 | p::P,w::vs,i+1,m,nd,h1,h2,hk=>by
   show bindL kindOf ((p,w)::P.zip vs) m x=_;unfold bindL;exact oC (i:=i) (List.nodup_cons.mp nd).2 (by simpa using h1) (by simpa using h2) hk
def oE {kindOf:Str->Option NameKind}{x:Str}{v:Value}:∀{P:List Str} {vs:List Value} {i:Nat} {m:Str->Option Value},P.Nodup->P[i]? = some x->vs[i]? = some v->kindOf x≠some .local ->
 bindC kindOf (P.zip vs) m x=some v
 | [],_,_,_,_,h,_,_=>by simp at h
 | _::_,[],_,_,_,_,h,_=>by simp at h
 | p::P,w::vs,0,m,nd,h1,h2,hk=>by
   simp at h1 h2;subst h1;subst h2;show bindC kindOf ((p,w)::P.zip vs) m p=_;unfold bindC;rw[oD fun v hv=>(List.nodup_cons.mp nd).1 (List.of_mem_zip hv).1,if_neg hk];simp
 | p::P,w::vs,i+1,m,nd,h1,h2,hk=>by
   show bindC kindOf ((p,w)::P.zip vs) m x=_;unfold bindC;exact oE (i:=i) (List.nodup_cons.mp nd).2 (by simpa using h1) (by simpa using h2) hk
noncomputable def start (N:List Str)(vs:List V):St:=vs.map some++List.replicate (N.length-vs.length) none
noncomputable def kr (CX:yL)(P:Program)(w:World)(K:PySem.W.Frag)(mg:Str->Option Value)(base:Heap)(N:List Str)(qual:Str)(scope:Scope)(f:Addr)(cd:Value)(A:Around)(outer:List Env)(s:Shared)(H:Hp)(E:XK):Cx where
 prog:=P
 w:=w
 K:=K
 mg:=mg
 base:=base
 A:=A.deeper (envOfC qual scope s.heap.objs.size f cd)
 N:=N
 s₀:=s
 H₀:=H
 env:=envOfC qual scope s.heap.objs.size f cd
 outer:=outer
 stack:=envOfC qual scope s.heap.objs.size f cd::outer
 ex:=[]
 calm:=true
 fn:=fun _=>true
 pn:=[]
 xe:=fun e s'=>wpAny (model P w) (A.deeper (envOfC qual scope s.heap.objs.size f cd)) (leaving (envOfC qual scope s.heap.objs.size f cd) e) (fun _ s''=>CX outer H s E e s'') (fun e' s''=>CX outer H s E e' s'') s'
def rH {sc:Scope}{n:Nat}{x:Str}(h:sc.names.lookup x=some .cell):∃c,(cellsFrom n sc.names []).lookup x=some c:=by
 have q:=PySem.W.cellsFrom_some sc.names n [] (.inl h);exact Option.isSome_iff_exists.mp q
def vq {CX:yL}{P:Program}{w:World}{K:PySem.W.Frag}{mg:Str->Option Value}{base:Heap}{N ps:List Str}{qual:Str}{scope:Scope}{f:Addr}{cd:Value}{A:Around}{outer:List Env}{s s1:Shared}{H:Hp}{E:XK}{us:List Value}{vs:List V}
 (S:eW N ps scope) (hd:A.handled=none) (e0:Ah P w K mg base A outer s H) (hl:vs.length=ps.length) (r:Vals vs us)
 (x:InCallC s s.heap.objs.size (bindL (envOfC qual scope s.heap.objs.size f cd).kindOf (ps.zip us) fun _=>none) (cellsFrom (s.heap.objs.size+1) scope.names []) (bindC (envOfC qual scope s.heap.objs.size f cd).kindOf (ps.zip us) fun _=>none) s1) :
 Inv (kr CX P w K mg base N qual scope f cd A outer s H E) [] (start N vs) H s1:=by
 have hpl:ps.length<=N.length:=by have:=congrArg List.length S.pre;rw[List.length_take] at this;omega
 obtain⟨h1,tk,rfl,hk⟩:=x.done;have noA:∀b:Addr,b∉(kr CX P w K mg base N qual scope f cd A outer s H E).ex:=fun b z=>absurd (show b∈([]:List Addr) from z) (by simp);refine⟨⟨e0.mod,S.kind,rfl,rfl,Nat.le_refl _,fun y z c h1 h2=>?_,fun y hy=>?_,fun y c _ h=>?_,fun _=>hd,Around.frames_deeper e0.frames,.inr ⟨rfl,rfl⟩,fun b z=>absurd z (noA b),e0.bs,e0.bsz,fun b _ _=>noA b,fun b z=>absurd z (noA b),e0.funs,e0.frf⟩,
  rfl,e0.bare,Un.kept hk,⟨_,x.toInCall.ns,fun i y v h1 h2 h3=>?_⟩,fun y c h=>⟨_,x.cell y c h⟩,e0.hok.fresh (Nat.le_refl _),fun y c h=>?_,fun p hp=>absurd (show p∈([]:List (Addr×Obj)) from hp) (by simp),e0.hok.kept hk,?_⟩
 ·exact name_of_addr x.apart (PySem.mem_of_lookup h1) (PySem.mem_of_lookup h2)
 ·have hy:scope.names.lookup y=some .cell\/scope.names.lookup y=some .free:=hy;rcases hy with hy | hy
  ·exact rH hy
  ·exact absurd rfl (S.nofree _ (PySem.mem_of_lookup hy))
 ·exact Nat.le_of_lt (x.above y c (PySem.mem_of_lookup h))
 ·have hi:i<vs.length:=by
   unfold start at h2;by_cases hi:i<vs.length
   ·exact hi
   ·rw[List.getElem?_append_right (by simpa using hi)] at h2;rw[List.getElem?_replicate] at h2;split at h2 <;> cases h2
  have ha:vs[i]? = some v:=by
   unfold start at h2;rw[List.getElem?_append_left (by simpa using hi),List.getElem?_map] at h2;cases e:vs[i]? with
   | none=>rw[e] at h2;cases h2
   | some a=>rw[e] at h2;cases h2;rfl
  obtain⟨u,hu,rv⟩:=r.get ha;have hp:ps[i]? = some y:=by
   rw[<-S.pre,List.getElem?_take_of_lt (by omega)];exact h1
  have ndP:ps.Nodup:=by rw[<-S.pre];exact S.nd.sublist (List.take_sublist _ _)
  refine⟨u,rv,?_⟩;rcases S.par y (List.mem_of_getElem? hp) with k | k
  ·exact .inl ⟨k,oC ndP hp hu k⟩
  ·obtain⟨c,e⟩:=rH (n:=s.heap.objs.size+1) k;refine .inr ⟨.inl k,c,e,?_⟩;have q:=x.cell y c e;rw[oE ndP hp hu (by show scope.names.lookup y≠_;rw[k];decide)] at q;exact q
 ·exact e0.hok.fresh (Nat.le_of_lt (x.above y c (PySem.mem_of_lookup h)))
 ·unfold start;show _=N.length;rw[List.length_append,List.length_map,List.length_replicate];omega
def Dm {CX:yL}{P:Program}{w:World}{K:PySem.W.Frag}{mg:Str->Option Value}{base:Heap}{k:Nat}{f:Addr}{name qual:Str}{params:Arguments}{body:List Stmt}{scope:Scope}{dV kV doc pm cdv ct oc:Value}{an od:Option Addr}
 {osl:Array (Option Value)} {N ps:List Str} {sp:Sp} (lk:K.lookup f=some ⟨oc,od,.func (PySem.W.fnOf name qual params body scope dV kV doc pm an cdv ct),osl⟩) (hcd:PySem.W.codeIn K cdv qual=true) (S:eW N ps scope)
 (len:∀vs H Q E,sp vs H Q E->vs.length=ps.length)
 (hbody:∀(A:Around) (outer:List Env) (s:Shared) (H:Hp) (vs:List V) (Q:VK) (E:XK),Room k (A.deeper (envOfC qual scope s.heap.objs.size f cdv))->sp vs H Q E ->
  ∃t,PSs (kr CX P w K mg base N qual scope f cdv A outer s H E) body t/\t { nx:=fun _ H'=>Q .non H',rt:=Q } (start N vs) H) :
 iu P w K mg base CX (k+1) f (PySem.W.fnOf name qual params body scope dV kV doc pm an cdv ct) ps sp:=by
 refine⟨len,fun A outer s H args us vs Q E hr e0 hb r hsp=>?_⟩;have hl:=len _ _ _ _ hsp;have KX:K.In s.heap:=e0.mod.kin.keeps fun b o e=>(e0.bs b o e).1;have lim:s.heap.NoLimit:=e0.mod.nolimit.keeps fun b o e=>(e0.bs b o e).1;have hkind:∀y∈ps.zip us,scope.names.lookup y.1=some .local\/(scope.names.lookup y.1=some .cell/\((cellsFrom (s.heap.objs.size+1) scope.names []).lookup y.1).isSome=true):=fun⟨n,v⟩ hy=>by
  rcases S.par n (List.of_mem_zip hy).1 with q | q
  ·exact .inl q
  ·exact .inr ⟨q,PySem.W.cellsFrom_some _ _ _ (.inl q)⟩
 refine codeAny_call_function hr.depth (KX _ _ lk) rfl S.co S.gen rfl (PySem.W.codeRec_of KX hcd) (hb _ _ _ _ ?_);refine wpAny_newFunctionEnv_cells S.kind hkind fun env he s1 x=>?_;subst he;refine⟨lim.keeps x.toInCall.keep,codeAny_func ?_⟩;obtain⟨t,ht,hq⟩:=hbody A outer s H vs Q E (hr.deeper _) hsp;have I:Inv (kr CX P w K mg base N qual scope f cdv A outer s H E) [] (start N vs) H s1:=vq S hr.hd e0 hl r x;refine wpAny_mono (ht [] s1 (start N vs) H _ I hq) (fun fl s' hs=>?_) fun e s' hs=>hs;have fin:∀{σ':St} {H':Hp} {v:V} {u:Value},Inv (kr CX P w K mg base N qual scope f cdv A outer s H E) [] σ' H' s'->RelV v u->Q v H'->CE outer P w H s Q u s' :=
  fun {σ' H' v u} J rv q=>⟨v,H',J.os,J.bare,J.base,J.hok,rv,q⟩
 cases fl with
 | ret u =>
   obtain⟨v,σ',H',J,rv,q⟩:=hs;exact fin J rv q
 | next =>
   obtain⟨σ',H',J,q⟩:=hs;exact fin (v:=V.non) (u:=Value.none) J rfl q
 | brk =>
   obtain⟨_,_,_,q⟩:=hs;exact False.elim q
 | cont =>
   obtain⟨_,_,_,q⟩:=hs;exact False.elim q
section
variable {X:Cx}{x:Str}{p pos:Pos}{e:Expr}{es:List Expr}{t:TA}{id T:String}{r:List V->Hp->VK->Prop}
noncomputable def Ex (r:List V->Hp->VK->Prop)(t:TA):TE:=fun σ H Q=>t σ H fun vs H1=>r vs H1 Q
def lV (hc:ee X (.builtin id) r)(hg:Gl X x)(hm:X.mg x=none)(hv:bootBuiltins x=some (.builtin id))(ha:PA X (e::es) t)(hn:x≠"__name__":=by decide)(hdb:(x==("__debug__":Str))=false:=by decide)
 (he:starEach (e::es) X.env=(false,eval e X.env)::starEach es X.env:=by rfl) (hpl:(backTo pos (starEach es X.env)).any (·.1)=false:=by rfl):PE X (.Call (.Name x p) (e::es) [] pos) (Ex r t):=by
 intro pins s σ H Q I h;refine wpAny_Call_Name_kw (fj I hg hm hv ?_ hn hdb);exact PyProof.Rows.callWith_builtin1 (bU (ha pos pins s σ H _ I h) fun us s1 ⟨vs,H1,I1,r1,q1⟩=>hc pins s1 σ H1 vs us Q I1 r1 q1) he hpl
def nV (hc:ee X (.type T) r)(hg:Gl X x)(hm:X.mg x=none)(hv:bootBuiltins x=some (.type T))(ha:PA X (e::es) t)(hn:x≠"__name__":=by decide)(hdb:(x==("__debug__":Str))=false:=by decide)
 (he:starEach (e::es) X.env=(false,eval e X.env)::starEach es X.env:=by rfl) (hpl:(backTo pos (starEach es X.env)).any (·.1)=false:=by rfl):PE X (.Call (.Name x p) (e::es) [] pos) (Ex r t):=by
 intro pins s σ H Q I h;refine wpAny_Call_Name_kw (fj I hg hm hv ?_ hn hdb);exact PyProof.Rows.callWith_type1 (bU (ha pos pins s σ H _ I h) fun us s1 ⟨vs,H1,I1,r1,q1⟩=>hc pins s1 σ H1 vs us Q I1 r1 q1) he hpl
end
end L2
namespace HT
open PySem PyProof.Rows
section
open PySem.SeqAt
open PySem.AutoSeq1 (wpAny_loadPart')
open PySem.MeetsSeq PySem.MeetsSeq2 PySem.MeetsSeq3
end
section
variable {prog:Program}{w:World}{A:Around}{E:Value->Shared->Prop}{s:Shared}
def cat_tup {t b:Addr}{vs ws:List Value}{Q:Value->Shared->Prop}(ht:IsTup s.heap t vs.toArray)(hb:IsTup s.heap b ws.toArray)(hv:vs≠[])
 (h1:ws=[]->Q (.ref t) s) (h2:ws≠[]->Q (.ref s.heap.objs.size) { s with heap:=s.heap.push { cls:=.type "tuple",data:=.seq (vs++ws).toArray } })
 (hsz:vs.length+ws.length<=sizeLine):wpAny (model prog w) A (binaryOp .Add (.ref t) (.ref b)) Q E s:=by
 obtain⟨⟨cls,dd,data,sl⟩,ho,hc,n,hd⟩:=id ht;obtain⟨⟨cls2,dd2,data2,sl2⟩,ho2,hc2,n2,hd2⟩:=id hb;simp only at hc hd hc2 hd2;subst hc hd hc2 hd2;have e:vs.toArray++ws.toArray=(vs++ws).toArray:=by simp
 by_cases hw:ws=[]
 ·exact concat_meets ⟨_,ho,rfl⟩ ⟨_,ho2,rfl⟩ noFill_tuple_add seq_tuple_add PySem.F.slot_tuple_add PySem.F.entry_tuple_add (PySem.F.args_tuple_add_2 _ _)
   (tuple_addW1 t b vs.toArray ws.toArray n n2 dd dd2 sl sl2 (by simpa using hv) (by simp[hw])) ⟨ho,ho2,h1 hw⟩
 ·refine concat_meets ⟨_,ho,rfl⟩ ⟨_,ho2,rfl⟩ noFill_tuple_add seq_tuple_add PySem.F.slot_tuple_add PySem.F.entry_tuple_add (PySem.F.args_tuple_add_2 _ _)
   (tuple_addW2 t b vs.toArray ws.toArray n n2 dd dd2 sl sl2 (by simpa using hv) (by simpa using hw) (by rw[List.size_toArray,List.size_toArray];exact hsz)) ⟨ho,ho2,?_⟩
  rw[e];exact h2 hw
noncomputable def sIx (n d:Nat):Option Int->Nat
 | none=>d
 | some v=>if v<0 then (v+(n:Int)).toNat else min v.toNat n
def sIx_none (n d:Nat):sIx n d none=d:=rfl
def sIx_nat (n d k:Nat):sIx n d (some (k:Int))=min k n:=by
 show (if (k:Int)<0 then ((k:Int)+(n:Int)).toNat else min (k:Int).toNat n)=min k n;rw[if_neg (by omega),Int.toNat_natCast]
def A3 (n d:Nat)(hd:d<=n)(o:Option Int):sIx n d o<=n:=by
 cases o with
 | none=>exact hd
 | some v =>
   show (if v<0 then (v+(n:Int)).toNat else min v.toNat n)<=n;by_cases hv:v<0
   ·rw[if_pos hv];omega
   ·rw[if_neg hv];exact Nat.min_le_right _ _
def uI (v:Int)(n d:Nat):(if v<0 then max (v+(n:Int)) 0 else min v (n:Int))=((sIx n d (some v):Nat):Int):=by
 show (if v<0 then max (v+(n:Int)) 0 else min v (n:Int))=(((if v<0 then (v+(n:Int)).toNat else min v.toNat n):Nat):Int);by_cases hv:v<0
 ·simp only[if_pos hv];omega
 ·simp only[if_neg hv];omega
def tI (lo hi:Option Int)(n:Nat):Builtin.Slice.sliceAdjust lo hi 1 (n:Int)=(((sIx n 0 lo:Nat):Int),((sIx n n hi:Nat):Int)):=by
 have h1:¬ ((1:Int)<0):=by omega
 unfold Builtin.Slice.sliceAdjust;simp only[h1,if_false];refine Prod.ext ?_ ?_
 ·cases lo with
  | none=>rfl
  | some v=>exact uI v n 0
 ·cases hi with
  | none=>rfl
  | some v=>exact uI v n n
def sx (i j:Nat):Builtin.Slice.slicePlaces (i:Int) (j:Int) 1=j-i:=by
 unfold Builtin.Slice.slicePlaces;have h1:(1:Int)>0:=by omega
 simp only[h1,if_true,Int.ediv_one];split <;> omega
def slicePart_ {v:Value}{o:Option Int}{Q:Option Int->Shared->Prop}(p:IsPart v o)(h:Q o s):wpAny (model prog w) A (Builtin.Slice.slicePartIndex v) Q E s:=by
 cases p with
 | none=>exact slicePart_none h
 | int i t=>exact slicePart_int h
def sliceApplied_gen {sl:Addr}{vl vu:Value}{lo hi:Option Int}{n:Nat}{Q:Int×Int×Nat->Shared->Prop}(hs:s.heap.IsSliceOf sl vl vu .none)(pl:IsPart vl lo)(pu:IsPart vu hi)
 (h:Q (((sIx n 0 lo:Nat):Int),1,sIx n n hi-sIx n 0 lo) s):wpAny (model prog w) A (Builtin.Slice.sliceApplied (.ref sl) (pure (n:Int))) Q E s:=by
 obtain⟨os,hos,hcs,hds⟩:=id hs;unfold Builtin.Slice.sliceApplied Builtin.Slice.sliceFields;refine wpAny_bind (wpAny_bind (wpAny_field hos hds (x:=vl) rfl (wpAny_bind (wpAny_field hos hds (x:=vu) rfl (wpAny_bind (wpAny_field hos hds (x:=.none) rfl (wpAny_pure ?_)))))));refine wpAny_bind (slicePart_none ?_);show wpAny _ _ (if ((1:Int)==0)=true then _ else _) _ _ s;rw[if_neg (by decide)];refine wpAny_bind (slicePart_ pl (wpAny_bind (slicePart_ pu (wpAny_bind (wpAny_pure ?_)))));show wpAny _ _ (match Builtin.Slice.sliceAdjust lo hi 1 (n:Int) with | (lo,hi)=>pure (lo,(1:Int),Builtin.Slice.slicePlaces lo hi 1)) _ _ s;rw[tI lo hi n];show wpAny _ _ (pure (((sIx n 0 lo:Nat):Int),(1:Int),Builtin.Slice.slicePlaces ((sIx n 0 lo:Nat):Int) ((sIx n n hi:Nat):Int) 1)) _ _ s;rw[sx];exact wpAny_pure h
def xn (xs:Array Value)(i k:Nat):((List.range k).filterMap fun (m:Nat)=>xs[((i:Int)+(m:Int)*1).toNat]?).toArray=((xs.toList.drop i).take k).toArray:=by
 have e:(fun (m:Nat)=>xs[((i:Int)+(m:Int)*1).toNat]?)=fun m=>xs[i+m]?:=by
  funext m
  have:((i:Int)+(m:Int)*1).toNat=i+m:=by omega
  rw[this]
 rw[e];have:=pick_run xs i k;rw[List.filterMap_map] at this;have e2:((fun x=>xs[x]?)∘fun x=>i+x)=fun m=>xs[i+m]?:=rfl;rw[e2] at this;rw[this]
def getItem_tuple_cut {t sl:Addr}{items:Array Value}{vl vu:Value}{lo hi:Option Int}{Q:Value->Shared->Prop}(ht:IsTup s.heap t items)(hs:s.heap.IsSliceOf sl vl vu .none)(pl:IsPart vl lo)(pu:IsPart vu hi)
 (hw:¬ (sIx items.size 0 lo=0/\sIx items.size items.size hi=items.size))
 (h:Q (.ref s.heap.objs.size) { s with heap:=s.heap.push { cls:=.type "tuple",data:=.seq ((items.toList.drop (sIx items.size 0 lo)).take (sIx items.size items.size hi-sIx items.size 0 lo)).toArray } })
 (hsz:items.size<=sizeLine):wpAny (model prog w) A (getItem (.ref t) (.ref sl)) Q E s:=by
 have htake:sizeOk (.seq ((items.toList.drop (sIx items.size 0 lo)).take (sIx items.size items.size hi-sIx items.size 0 lo)).toArray):=by
  show ((items.toList.drop (sIx items.size 0 lo)).take (sIx items.size items.size hi-sIx items.size 0 lo)).toArray.size<=sizeLine;rw[List.size_toArray,List.length_take,List.length_drop,Array.length_toList];omega
 have hj:sIx items.size items.size hi<=items.size:=A3 _ _ (Nat.le_refl _) hi;obtain⟨os,hos,hcs,hds⟩:=id hs;have hTs:s.TypeIs (.ref sl) "slice":=⟨os,hos,hcs⟩;unfold getItem;try with_reducible refine wpAny_holding ?_
 first | refine wpAny_bind (wpAny_pure ?_) | skip
 refine wpAny_bind (wpAny_sequenceKey ht.typeIs (by decide) ?_);refine wpAny_bind (wpAny_callSpecial?_slot (name:=Str.ofString "__getitem__") ht.typeIs PyProof.Rows.slot_tuple_getitem
  (wpAny_call_entry PyProof.Rows.slot_tuple_getitem ht.typeIs entry_tuple_getitem ?_ (args_tuple_getitem _ _)))
 show wpAny _ _ (Builtin.Tuple.tupleItemsOf (.ref t) >>= _) _ _ s;refine wpAny_bind (tupleItemsOf_ ht ?_);refine wpAny_bind (wpAny_typeOf hTs ?_);rw[if_pos (by decide)];refine wpAny_bind (sliceApplied_gen hs pl pu ?_);have hno:¬ ((((sIx items.size 0 lo:Nat):Int)==0&&(1:Int)==1&&(sIx items.size items.size hi-sIx items.size 0 lo)==items.size)=true):=by
  intro q;rw[Bool.and_eq_true,Bool.and_eq_true] at q;have q1:((sIx items.size 0 lo:Nat):Int)=0:=eq_of_beq q.1.1;have q2:sIx items.size items.size hi-sIx items.size 0 lo=items.size:=eq_of_beq q.2;exact hw ⟨by omega,by omega⟩
 show wpAny _ _ (if (((sIx items.size 0 lo:Nat):Int)==0&&(1:Int)==1&&(sIx items.size items.size hi-sIx items.size 0 lo)==items.size)=true then _ else _) _ _ s;rw[if_neg hno,xn];first
  | exact wpAny_bind (m:=Builtin.Tuple.tupleExact _) (wpAny_newObj_type (wpAny_pure ⟨_,rfl,wpAny_pure h⟩) htake)
  | exact wpAny_bind (m:=Builtin.Tuple.tupleExact _) (wpAny_newObj_type (wpAny_bind (wpAny_pure (wpAny_pure ⟨_,rfl,wpAny_pure h⟩))) htake)
  | exact wpAny_bind (wpAny_bind (m:=Builtin.Tuple.tupleExact _) (wpAny_newObj_type (wpAny_pure (wpAny_pure ⟨_,rfl,wpAny_pure h⟩)) htake))
  | exact wpAny_bind (wpAny_bind (m:=Builtin.Tuple.tupleExact _) (wpAny_newObj_type (wpAny_pure ⟨_,rfl,wpAny_pure h⟩) htake))
end
end HT
namespace L2
open PySem PySem.Spec PyProof.Rows
abbrev TO:=St->Hp->(Option Int->Hp->Prop)->Prop
def PO (X:Cx)(e:Option Expr)(t:TO):Prop :=
 ∀(pins:List (Addr×Obj)) (s:Shared) (σ:St) (H:Hp) (Q:Option Int->Hp->Prop),Inv X pins σ H s->t σ H Q ->
  wpAny (model X.prog X.w) X.A (evalPart e X.env) (fun u s'=>∃o H',Inv X pins σ H' s'/\IsPart u o/\Q o H') X.xe s
noncomputable def yO:TO:=fun _ H Q=>Q none H
noncomputable def CC (t:TE):TO:=fun σ H Q=>t σ H fun x H1=>∃i,x=.int i/\Q (some i) H1
def intsAre_of {ns:List Int}:∀{us:List Value},Vals (ns.map V.int) us->IntsAre us ns:=by
 induction ns with
 | nil=>intro us r;rw[List.map_nil] at r;cases r;exact .nil
 | cons n ns ih =>
   intro us r;rw[List.map_cons] at r;cases r with
   | cons r1 r2 =>
     obtain⟨t,e⟩:=r1;subst e;exact .cons n t (ih r2)
section
variable {X:Cx}{e:Expr}{te:TE}{lo hi:Option Expr}{tl th:TO}{pos p2:Pos}
def t5:PO X none yO:=by
 intro pins s σ H Q I h;rw[evalPart_none];exact wpAny_pure ⟨none,H,I,.none,h⟩
def tZ (h:PE X e te):PO X (some e) (CC te):=by
 intro pins s σ H Q I hw;rw[evalPart_some];refine bU (h pins s σ H _ I hw) fun u s1 ⟨x,H1,I1,r1,q1⟩=>?_;obtain⟨i,rfl,q⟩:=q1;obtain⟨t,rfl⟩:=r1;exact⟨some i,H1,I1,.int i t,q⟩
def SlR (X:Cx)(r:V->Option Int->Option Int->Hp->VK->Prop):Prop :=
 ∀(pins:List (Addr×Obj)) (s:Shared) (σ:St) (H:Hp) (x:V) (v vl vu:Value) (lo hi:Option Int) (sl:Addr) (Q:VK),Inv X pins σ H s->RelV x v->s.heap.IsSliceOf sl vl vu .none->IsPart vl lo->IsPart vu hi->r x lo hi H Q ->
  ∃T id,typeLookup (.type T) "__getitem__"=pure (some (.builtin id))/\s.TypeIs v T/\wpAny (model X.prog X.w) X.A (getItem v (.ref sl)) (EP X pins σ Q) X.xe s
def SlR.or {r r':V->Option Int->Option Int->Hp->VK->Prop}(h:SlR X r)(h':SlR X r'):SlR X (fun x lo hi H Q=>r x lo hi H Q\/r' x lo hi H Q):=by
 intro pins s σ H x v vl vu lo hi sl Q I rx hs pl pu q;rcases q with q | q
 ·exact h pins s σ H x v vl vu lo hi sl Q I rx hs pl pu q
 ·exact h' pins s σ H x v vl vu lo hi sl Q I rx hs pl pu q
noncomputable def EK (r:V->Option Int->Option Int->Hp->VK->Prop)(te:TE)(tl th:TO):TE:=fun σ H Q=>te σ H fun x H1=>tl σ H1 fun l H2=>th σ H2 fun u H3=>r x l u H3 Q
def qL {r:V->Option Int->Option Int->Hp->VK->Prop}(hr:SlR X r)(he:PE X e te)(hl:PO X lo tl)(hu:PO X hi th):PE X (.Subscript e (.Slice lo hi none p2) pos) (EK r te tl th):=by
 intro pins s σ H Q I h;refine Subscript_ (bU (he pins s σ H _ I h) fun v s1 ⟨x,H1,I1,r1,q1⟩=>?_);refine wpAny_Slice (bU (hl pins s1 σ H1 _ I1 q1) fun vl s2 ⟨l,H2,I2,pl,q2⟩=>bU (hu pins s2 σ H2 _ I2 q2) fun vu s3 ⟨u,H3,I3,pu,q3⟩=>?_);rw[evalPart_none];refine wpAny_pure ?_;have I4:Inv X pins σ H3 { s3 with heap:=s3.heap.push { cls:=.type "slice",data:=.fields #[vl,vu,.none] } }:=I3.kept (t':=s3.toks) fun b ob q=>Heap.get?_push_of_some _ q;obtain⟨T,id,hT,ht,hg⟩:=hr pins { s3 with heap:=s3.heap.push { cls:=.type "slice",data:=.fields #[vl,vu,.none] } } σ H3 x v vl vu l u s3.heap.objs.size Q I4 r1 (Heap.IsSliceOf.new ..) pl pu q3;show wpAny (model X.prog X.w) X.A (subscriptTail e (.Slice lo hi none p2) v (.ref s3.heap.objs.size)) (EP X pins σ Q) X.xe { s3 with heap:=s3.heap.push { cls:=.type "slice",data:=.fields #[vl,vu,.none] } };exact tail_any (ops:=[.ref s3.heap.objs.size,v]) ht hT hg (by with_unfolding_all rfl)
def kY (xs:List V)(lo hi:Option Int):List V:=(xs.drop (HT.sIx xs.length 0 lo)).take (HT.sIx xs.length xs.length hi-HT.sIx xs.length 0 lo)
def kN (xs:List V)(lo hi:Option Int):(kY xs lo hi).length<=xs.length:=by
 unfold kY;rw[List.length_take,List.length_drop];omega
def D5 (K:PySem.W.Frag):V->Option Int->Option Int->Hp->VK->Prop:=fun x lo hi H Q=>∃a xs,x=.ref a/\SqT K H a xs /\
 ¬ (HT.sIx xs.length 0 lo=0/\HT.sIx xs.length xs.length hi=xs.length)/\∀p,H p=none->Q (.ref p) (cr H p (.tup (kY xs lo hi)))
def sl_tup:SlR X (D5 X.K):=by
 intro pins s σ H x v vl vu lo hi sl Q I rx hs pl pu h;obtain⟨a,xs,rfl,hx,hw,q⟩:=h;cases rx;obtain⟨its,r,ht,hz⟩:=I.tuple hx;have hlen:its.toArray.size=xs.length:=by rw[List.size_toArray];exact r.length.symm
 refine⟨"tuple",_,PyProof.Rows.slot_tuple_getitem.lookup,ht.typeIs,?_⟩;refine HT.getItem_tuple_cut ht hs pl pu (by rw[hlen];exact hw) ?_ (by rw[hlen];exact hz);rw[hlen];refine⟨.ref s.heap.objs.size,_,I.laid (t':=s.toks) (o:=.tup (kY xs lo hi)) (fun b ob q=>Heap.get?_push_of_some _ q) (Nat.le_refl _) ?_,rfl,q _ (I.hok.fresh (Nat.le_refl _))⟩;exact⟨Nat.le_trans (kN xs lo hi) hz,_,(r.drop (HT.sIx xs.length 0 lo)).take (HT.sIx xs.length xs.length hi-HT.sIx xs.length 0 lo),IsTup.new _ _⟩
def CW (K:PySem.W.Frag):R2:=fun x y H Q=>∃a b xs ys,x=.ref a/\y=.ref b/\SqT K H a xs/\SqT K H b ys/\xs≠[]/\xs.length+ys.length<=sizeLine /\
 (ys=[]->Q (.ref a) H)/\(ys≠[]->∀p,H p=none->Q (.ref p) (cr H p (.tup (xs++ys))))
def Vals.nil_iff {xs:List V}{us:List Value}(r:Vals xs us):us=[]↔xs=[]:=by
 cases r with
 | nil=>simp
 | cons _ _=>simp
def zp:OpR X (binaryOp .Add) (CW X.K):=by
 intro pins s σ H x y v u Q I rx ry h;obtain⟨a,b,xs,ys,rfl,rfl,ha,hb,hx,hz,q1,q2⟩:=h;cases rx;cases ry;obtain⟨its,r1,p1,_⟩:=I.tuple ha;obtain⟨its2,r2,p2,_⟩:=I.tuple hb;refine HT.cat_tup p1 p2 (fun z=>hx (r1.nil_iff.mp z)) (fun z=>⟨.ref a,H,I,rfl,q1 (r2.nil_iff.mp z)⟩) (fun z=>?_) (by rw[<-r1.length,<-r2.length];exact hz);refine⟨.ref s.heap.objs.size,_,I.laid (t':=s.toks) (o:=.tup (xs++ys)) (fun b ob q=>Heap.get?_push_of_some _ q) (Nat.le_refl _) ?_,rfl,q2 (fun w=>z (r2.nil_iff.mpr w)) _ (I.hok.fresh (Nat.le_refl _))⟩;exact⟨by rw[List.length_append];exact hz,_,r1.append r2,IsTup.new _ _⟩
end
noncomputable def Cq (n:Nat)(i:Int):Option Nat:=if 0<=i then (if i<n then some i.toNat else none) else if -(n:Int)<=i then some (i+n).toNat else none
def Ct {α:Type}(xs:List α)(i:Int):Option α:=(Cq xs.length i).bind fun j=>xs[j]?
def zH {n:Nat}{i:Int}{j:Nat}(h:Cq n i=some j):seqIndex? i n=some j/\j<n /\ -(n:Int)<=i/\i<n:=by
 unfold Cq at h;by_cases h0:0<=i
 ·rw[if_pos h0] at h;by_cases h1:i<n
  ·rw[if_pos h1] at h;have e:i.toNat=j:=Option.some.inj h;exact⟨by rw[seqIndex_of h0 h1,e],by omega,by omega,h1⟩
  ·rw[if_neg h1] at h;cases h
 ·rw[if_neg h0] at h;by_cases h1 : -(n:Int)<=i
  ·rw[if_pos h1] at h;have e:(i+n).toNat=j:=Option.some.inj h;exact⟨by rw[seqIndex_neg (by omega) h1,e],by omega,h1,by omega⟩
  ·rw[if_neg h1] at h;cases h
def pU {α:Type}{xs:List α}{i:Int}{v:α}(h:Ct xs i=some v):∃j,seqIndex? i xs.length=some j/\xs[j]? = some v/\j<xs.length /\ -(xs.length:Int)<=i/\i<xs.length:=by
 unfold Ct at h;cases e:Cq xs.length i with
 | none=>rw[e] at h;cases h
 | some j =>
   rw[e] at h;obtain⟨h1,h2,h3,h4⟩:=zH e;exact⟨j,h1,h,h2,h3,h4⟩
def pW (b:Expr):Prop:=∀o i,subscripted b false o i=operate [o,i] (getItem o i)
def IxR (X:Cx)(r:R2):Prop :=
 ∀(value slice:Expr) (pins:List (Addr×Obj)) (s:Shared) (σ:St) (H:Hp) (x y:V) (v u:Value) (Q:VK),Inv X pins σ H s->RelV x v->RelV y u->r x y H Q ->
  subscripted slice false v u=operate [v,u] (getItem v u)->wpAny (model X.prog X.w) X.A (subscriptTail value slice v u) (EP X pins σ Q) X.xe s
def EG (X:Cx)(id:String)(r:V->List V->Hp->VK->Prop):Prop :=
 ∀(pins:List (Addr×Obj)) (s:Shared) (σ:St) (H:Hp) (x:V) (xs:List V) (v:Value) (us:List Value) (Q:VK),Inv X pins σ H s->RelV x v->Vals xs us->r x xs H Q ->
  wpAny (model X.prog X.w) X.A (call (.builtin id) (v::us)) (EP X pins σ Q) X.xe s
section
variable {X:Cx}{a b:Expr}{ta tb:TE}{pos:Pos}
def IxR.or {r r':R2}(h:IxR X r)(h':IxR X r'):IxR X (fun x y H Q=>r x y H Q\/r' x y H Q):=by
 intro value slice pins s σ H x y v u Q I rx ry q hs;rcases q with q | q
 ·exact h value slice pins s σ H x y v u Q I rx ry q hs
 ·exact h' value slice pins s σ H x y v u Q I rx ry q hs
def Ay {r:R2}(hr:IxR X r)(ha:PE X a ta)(hb:PE X b tb)(hs:pW b):PE X (.Subscript a b pos) (Cm r ta tb):=by
 intro pins s σ H Q I h;exact Subscript_ (Cd ha hb I h fun v u s2 x y H2 I2 rx ry q=>hr a b pins s2 σ H2 x y v u Q I2 rx ry q (hs _ _))
def CV (K:PySem.W.Frag):R2:=fun x y H Q=>∃p xs i v,x=.ref p/\y=.int i/\SqL K H p xs/\Ct xs i=some v/\Q v H
def D7 (K:PySem.W.Frag):R2:=fun x y H Q=>∃p xs i v,x=.ref p/\y=.int i/\SqT K H p xs/\Ct xs i=some v/\Q v H
def D8:R2:=fun x y H Q=>∃z i c,x=.str z/\y=.int i/\z.length<=sizeLine/\Ct z.cps.toList i=some c/\Q (.str ⟨#[c]⟩) H
def ix_list:IxR X (CV X.K):=by
 intro value slice pins s σ H x y v u Q I rx ry h hs;obtain⟨p,xs,i,z,rfl,rfl,hq,he,q⟩:=h;cases rx;obtain⟨t,rfl⟩:=ry;obtain⟨its,r,pl,hz⟩:=I.list hq;obtain⟨j,h1,h2,h3,h4,h5⟩:=pU he;obtain⟨w,ew,rw'⟩:=r.get h2;have hl:=r.length;have hn:=km;have fin:EP X pins σ Q w s:=⟨z,H,I,rw',q⟩;by_cases h0:0<=i
 ·have hj:i.toNat=j:=by
   rw[seqIndex_of h0 h5] at h1;exact Option.some.inj h1
  exact item_listR pl.isList h0 (by omega) (by rw[hj];simpa using ew) fin hs
 ·have hj:(i+(its.toArray.size:Int)).toNat=j:=by
   rw[seqIndex_neg (by omega) h4] at h1;rw[List.size_toArray,<-hl];exact Option.some.inj h1
  exact subscriptTail_builtinR (x:=w) pl.isList.typeIs slot_list_getitem.lookup
   (wpAny_getItem_list_neg (Q:=fun r s'=>r=w/\EP X pins σ Q r s') pl.isList (by omega) (by rw[List.size_toArray] <;> omega) (by omega) (by rw[hj];simpa using ew) ⟨rfl,fin⟩) hs
def ix_tup:IxR X (D7 X.K):=by
 intro value slice pins s σ H x y v u Q I rx ry h hs;obtain⟨p,xs,i,z,rfl,rfl,hq,he,q⟩:=h;cases rx;obtain⟨t,rfl⟩:=ry;obtain⟨its,r,pl,hz⟩:=I.tuple hq;obtain⟨j,h1,h2,h3,h4,h5⟩:=pU he;obtain⟨w,ew,rw'⟩:=r.get h2;have hl:=r.length;have hn:=km;have fin:EP X pins σ Q w s:=⟨z,H,I,rw',q⟩;exact subscriptTail_builtinR (x:=w) pl.typeIs slot_tuple_getitem.lookup
  (getItem_tuple (j:=j) (Q:=fun r s'=>r=w/\EP X pins σ Q r s') pl (by omega) (by omega) (by rw[List.size_toArray,<-hl];exact h1) (by simpa using ew) ⟨rfl,fin⟩) hs
def BJ:IxR X D8:=by
 intro value slice pins s σ H x y v u Q I rx ry h hs;obtain⟨z,i,c,rfl,rfl,hz,he,q⟩:=h;obtain⟨t,rfl⟩:=rx;obtain⟨t',rfl⟩:=ry;obtain⟨j,h1,h2,h3,h4,h5⟩:=pU he;have hl:z.cps.toList.length=z.length:=by simp[Str.length]
 rw[hl] at h1 h4 h5;have hn:=km;exact tail_any (typeIs_str s z t) slot_str_getitem.lookup (getItem_str (c:=c) (by
  have e1:decide (i < -(2 ^ 63:Int))=false:=decide_eq_false (by omega);have e2:decide (i≥2 ^ 63)=false:=decide_eq_false (by omega);rw[e1,e2,Bool.or_false]) (by rw[h1];simpa using h2) ⟨.str ⟨#[c]⟩,H,I.tok _,⟨_,rfl⟩,q⟩) hs
def oK (lo hi:Option Int)(n:Nat):(sliceBounds lo hi none n).1=((HT.sIx n 0 lo:Nat):Int)/\(sliceBounds lo hi none n).2.1=((HT.sIx n n hi:Nat):Int)/\(sliceBounds lo hi none n).2.2=1:=by
 refine⟨?_,?_,rfl⟩
 ·cases lo with
  | none=>simp[sliceBounds,HT.sIx]
  | some i =>
    simp only[sliceBounds,HT.sIx,Option.getD_none,show (1:Int)>0 by decide,if_true];by_cases h:i<0
    ·simp only[h,if_true] <;> omega
    ·simp only[h,if_false] <;> omega
 ·cases hi with
  | none=>simp[sliceBounds,HT.sIx]
  | some i =>
    simp only[sliceBounds,HT.sIx,Option.getD_none,show (1:Int)>0 by decide,if_true];by_cases h:i<0
    ·simp only[h,if_true] <;> omega
    ·simp only[h,if_false] <;> omega
def nv (its:List Value)(lo hi:Option Int):slicePick its.toArray lo hi none=((its.drop (HT.sIx its.length 0 lo)).take (HT.sIx its.length its.length hi-HT.sIx its.length 0 lo)).toArray:=by
 obtain⟨h1,h2,h3⟩:=oK lo hi its.toArray.size;unfold slicePick;rw[h1,h2,h3];simp only[sliceRange_one,pick_run,List.size_toArray] <;> rfl
def D6 (K:PySem.W.Frag):V->Option Int->Option Int->Hp->VK->Prop:=fun x lo hi H Q=>∃a xs,x=.ref a/\SqL K H a xs/\∀p,H p=none->Q (.ref p) (cr H p (.lst (kY xs lo hi)))
def sl_list:SlR X (D6 X.K):=by
 intro pins s σ H x v vl vu lo hi sl Q I rx hs pl pu h;obtain⟨a,xs,rfl,hx,q⟩:=h;cases rx;obtain⟨its,r,ht,hz⟩:=I.list hx;have hlen:=r.length;refine⟨"list",_,slot_list_getitem.lookup,ht.isList.typeIs,?_⟩;refine wpAny_getItem_list_slice ht.isList hs pl pu .none (by simp) ?_ (by rw[List.size_toArray] <;> omega);rw[nv,<-hlen];refine⟨.ref s.heap.objs.size,_,I.laid (t':=s.toks) (o:=.lst (kY xs lo hi)) (fun b ob q=>Heap.get?_push_of_some _ q) (Nat.le_refl _) ?_,rfl,q _ (I.hok.fresh (Nat.le_refl _))⟩;exact⟨Nat.le_trans (kN xs lo hi) hz,_,0,(r.drop (HT.sIx xs.length 0 lo)).take (HT.sIx xs.length xs.length hi-HT.sIx xs.length 0 lo),Heap.get?_push_size _ rfl⟩
def pS:ee X (.builtin "len") (fun xs H Q=>∃p ys,xs=[.ref p]/\(SqL X.K H p ys\/SqT X.K H p ys)/\Q (.int ys.length) H):=by
 intro pins s σ H xs us Q I r h;obtain⟨p,ys,rfl,hq,q⟩:=h;obtain⟨u,rfl,rx⟩:=vals1 r;cases rx;have hn:=km;rcases hq with hq | hq
 ·obtain⟨its,r',pl,hz⟩:=I.list hq;have hlen:=r'.length;exact Calls.call_len_list pl.isList (by simp only[List.size_toArray] <;> omega) ⟨.int ys.length,H,I.tok _,⟨s.toks+1,by rw[List.size_toArray,hlen]⟩,q⟩
 ·obtain⟨its,r',pl,hz⟩:=I.tuple hq;have hlen:=r'.length;exact len_tuple pl (by simp only[List.size_toArray] <;> omega) ⟨.int ys.length,H,I.tok _,⟨s.toks+1,by rw[List.size_toArray,hlen]⟩,q⟩
def pR:ee X (.builtin "len") (fun xs H Q=>∃z,xs=[.str z]/\z.length<=sizeLine/\Q (.int z.length) H):=by
 intro pins s σ H xs us Q I r h;obtain⟨z,rfl,hz,q⟩:=h;obtain⟨u,rfl,t,rfl⟩:=vals1 r;have hn:=km;exact len_str (by omega) ⟨.int z.length,H,I.tok _,⟨_,rfl⟩,q⟩
def pQ:ee X (.type "list") (fun xs H Q=>∃p ys,xs=[.ref p]/\(SqL X.K H p ys\/SqT X.K H p ys)/\∀l,H l=none->Q (.ref l) (cr H l (.lst ys))):=by
 intro pins s σ H xs us Q I r h;obtain⟨p,ys,rfl,hq,q⟩:=h;obtain⟨u,rfl,rx⟩:=vals1 r;cases rx;have fin:∀(its:List Value),Vals ys its->ys.length<=sizeLine->∀(h':Heap) (c':Nat),(∀b o',s.heap.get? b=some o'->h'.get? b=some o') ->
  h'.get? s.heap.objs.size=some { cls:=.type "list",dict:=none,data:=.seq its.toArray c',slots:=#[] }->EP X pins σ Q (.ref s.heap.objs.size) { s with heap:=h' }:=fun its r' hz h' c' kp e =>
  ⟨.ref s.heap.objs.size,_,I.laid (t':=s.toks) kp (Nat.le_refl _) (show ObjOk X.prog X.w _ h' _ (.lst ys) from ⟨hz,its,c',r',e⟩),rfl,q _ (I.hok.fresh (Nat.le_refl _))⟩
 rcases hq with hq | hq
 ·obtain⟨its,r',pl,hz⟩:=I.list hq;have hlen:=r'.length;obtain⟨o,ho,hc,n,hd⟩:=pl.isList;exact call_list_seq p (.inl rfl) ho hc hd (fun h' c' kp e=>fin its r' hz h' c' kp e) (by simp only[List.size_toArray] <;> omega)
 ·obtain⟨its,r',pl,hz⟩:=I.tuple hq;have hlen:=r'.length;obtain⟨o,ho,hc,n,hd⟩:=pl;exact call_list_seq p (.inr rfl) ho hc hd (fun h' c' kp e=>fin its r' hz h' c' kp e) (by simp only[List.size_toArray] <;> omega)
def nH:ee X (.type "tuple") (fun xs H Q=>∃p ys,xs=[.ref p]/\((SqL X.K H p ys/\∀l,H l=none->Q (.ref l) (cr H l (.tup ys)))\/(SqT X.K H p ys/\Q (.ref p) H))):=by
 intro pins s σ H xs us Q I r h;obtain⟨p,ys,rfl,h⟩:=h;obtain⟨u,rfl,rx⟩:=vals1 r;cases rx;rcases h with ⟨hq,q⟩ | ⟨hq,q⟩
 ·obtain⟨its,r',pl,hz⟩:=I.list hq;have hlen:=r'.length;refine call_tuple_list pl.isList (fun h' kp=>?_) (by simp only[List.size_toArray] <;> omega);have I1:Inv X pins σ H { s with heap:=h' }:=I.kept (t':=s.toks) kp;have I2:Inv X pins σ (cr H h'.objs.size (.tup ys)) { s with heap:=h'.push { cls:=.type "tuple",data:=.seq its.toArray } } :=
   I1.laid (t':=s.toks) (fun b o e=>Heap.get?_push_of_some _ e) (Nat.le_refl _) (show ObjOk X.prog X.w _ _ _ (.tup ys) from ⟨hz,its,r',IsTup.new _ _⟩)
  exact⟨.ref h'.objs.size,_,I2,rfl,q _ (I1.hok.fresh (Nat.le_refl _))⟩
 ·obtain⟨its,r',pl,hz⟩:=I.tuple hq;exact call_tuple_same pl ⟨.ref p,H,I,rfl,q⟩
def Ew (K:PySem.W.Frag)(T:String)(x:V)(H:Hp):Prop:=match x with
 | .str _=>T="str"
 | .int _=>T="int"
 | .ref p=>(T="list"/\∃xs,SqL K H p xs)\/(T="tuple"/\∃o,K.lookup p=some o/\o.cls=.type "tuple"/\o.dict=none) \/
  (T="dict"/\((∃kvs,H p=some (.dK kvs))\/∃kvs,H p=some (.dT kvs)))\/(T="set"/\∃S n,H p=some (.set S n))
 | _=>False
def AT {pins:List (Addr×Obj)}{σ:St}{H:Hp}{s:Shared}{T:String}{x:V}{v:Value}(I:Inv X pins σ H s)(r:RelV x v)(ty:Ew X.K T x H) :
 s.TypeIs v T/\∀a,v=.ref a->∃ob,s.heap.get? a=some ob/\ob.dict=none:=by
 cases x with
 | str z =>
   obtain⟨t,rfl⟩:=r;cases (show T="str" from ty);exact⟨typeIs_str s z t,fun _ e=>nomatch e⟩
 | int i =>
   obtain⟨t,rfl⟩:=r;cases (show T="int" from ty);exact⟨typeIs_int s i t,fun _ e=>nomatch e⟩
 | ref p =>
   cases r;rcases ty with ⟨rfl,xs,hq⟩ | ⟨rfl,o,hk,hc,hd⟩ | ⟨rfl,hk⟩ | ⟨rfl,S,n,hk⟩
   ·obtain⟨its,_,pl,_⟩:=I.list hq;refine⟨pl.isList.typeIs,fun a e=>?_⟩;cases e;obtain⟨o,n,e,c,hd,_⟩:=pl;exact⟨o,e,hd⟩
   ·refine⟨⟨o,I.kIn p o hk,hc⟩,fun a e=>?_⟩;cases e;exact⟨o,I.kIn _ o hk,hd⟩
   ·have z:∃o,s.heap.get? p=some o/\o.ExactDict:=by
     rcases hk with ⟨kvs,hk⟩ | ⟨kvs,hk⟩
     ·obtain⟨_,_,_,_,o,_,_,e,ex,_⟩:=I.hok p _ hk;exact⟨o,e,ex⟩
     ·obtain⟨_,_,_,_,o,_,_,e,ex,_⟩:=I.hok p _ hk;exact⟨o,e,ex⟩
    obtain⟨o,e,ex⟩:=z;refine⟨⟨o,e,ex.1⟩,fun a e2=>?_⟩;cases e2;exact⟨o,e,ex.2.1⟩
   ·obtain⟨o,_,_,_,e,ex,_⟩:=I.hok p _ hk;refine⟨⟨o,e,ex.1⟩,fun a e2=>?_⟩;cases e2;exact⟨o,e,ex.2.1⟩
 | _=>exact False.elim ty
noncomputable def Ey (K:PySem.W.Frag)(T:String)(r:V->List V->Hp->VK->Prop)(to:TE)(t:TA):TE:=fun σ H Q=>to σ H fun x H1=>Ew K T x H1/\t σ H1 fun xs H2=>r x xs H2 Q
variable {o e:Expr}{es:List Expr}{to:TE}{t:TA}{name:Str}{apos cpos:Pos}{T id:String}{r:V->List V->Hp->VK->Prop}
def uc (pa:PlainAttrs T)(slot:Slot T name id)(hty:typeOf (.builtin id)=pure (.type "method_descriptor"))(hm:EG X id r)(ho:PE X o to)(ha:PA X (e::es) t)
 (hbase:attributeBase o name X.env (eval o X.env)=eval o X.env:=by rfl)
 (hfew:((backTo cpos (starEach (e::es) X.env)).all (fun x => !x.1)&&(backToKw cpos (keywordEach [] X.env)).all (fun x=>x.1.isSome)
  && decide ((e::es).length+([]:List Keyword).length+(if ([]:List Keyword).isEmpty then 0 else 1)<30))=true:=by rfl)
 (hline:(apos.endLine==cpos.line)=true:=by rfl) (hs:starEach (e::es) X.env=(false,eval e X.env)::starEach es X.env:=by rfl) (hplain:(backTo cpos (starEach es X.env)).any (·.1)=false:=by rfl) :
 PE X (.Call (.Attribute o name apos) (e::es) [] cpos) (Ey X.K T r to t):=by
 intro pins s σ H Q I h;refine wpAny_Call_method_late hbase hfew hline rfl (bU (ho pins s σ H _ I h) fun v s1 ⟨x,H1,I1,r1,ty,q1⟩=>?_);obtain⟨h1,h2⟩:=AT I1 r1 ty;refine⟨T,id,pa,slot,hty,h1,h2,?_⟩;have hA:=ha cpos pins s1 σ H1 _ I1 q1;rw[hs] at hA ⊢;refine Calls.callWith_builtin (by show (false||(backTo cpos (starEach es X.env)).any (·.1))=false;rw[hplain] <;> rfl) (Calls.evalArgs_plain ?_);exact bU hA fun us s2 ⟨vs,H2,I2,r2,q2⟩=>hm pins s2 σ H2 x vs v us Q I2 r1 r2 q2
end
def Cv (X:Cx)(id:String)(r:V->List V->Hp->VK->Prop):Prop :=
 ∀(pins:List (Addr×Obj)) (s:Shared) (σ:St) (H:Hp) (x:V) (xs:List V) (v:Value) (us:List Value) (Q:VK),Inv X pins σ H s->RelV x v->Vals xs us->r x xs H Q ->
  wpAny (model X.prog X.w) X.A (call (.builtin id) (v::us)) (EP X pins σ Q) X.xe s
def Vals.one:∀{x:V} {us:List Value},Vals [x] us->∃u,us=[u]/\RelV x u
 | _,_,.cons r .nil=>⟨_,rfl,r⟩
def Vals.rep {xs:List V}{us:List Value}(h:Vals xs us):∀k:Nat,Vals (List.replicate k xs).flatten (List.replicate k us).flatten
 | 0=>.nil
 | k+1=>by
   rw[List.replicate_succ,List.replicate_succ,List.flatten_cons,List.flatten_cons];exact Vals.append h (Vals.rep h k)
def foldl_rep (its:List Value):∀(k:Nat) (acc:List Value),
 List.foldl (fun x1 x2=>x1++x2) acc.toArray (List.replicate k its.toArray)=(acc++(List.replicate k its).flatten).toArray
 | 0,acc=>by simp
 | k+1,acc=>by
   have e:acc.toArray++its.toArray=(acc++its).toArray:=by simp
   have e2:(acc++its)++(List.replicate k its).flatten=acc++(List.replicate (k+1) its).flatten:=by
    rw[List.replicate_succ,List.flatten_cons,List.append_assoc]
   rw[<-e2,<-foldl_rep its k (acc++its),<-e,List.replicate_succ,List.foldl_cons]
section
variable {X:Cx}{pins:List (Addr×Obj)}{σ:St}{H:Hp}{s:Shared}{l b:Addr}{xs ys zs:List V}
def Inv.lset {its its':List Value}{n:Nat}{f:Array Value->Array Value}{t':Nat}(I:Inv X pins σ H s)(hH:H l=some (.lst xs))
 (e:s.heap.get? l=some { cls:=.type "list",data:=.seq its.toArray n }) (hf:f its.toArray=its'.toArray) (hv:Vals ys its') (hz:ys.length<=sizeLine) :
 Inv X pins σ (cr H l (.lst ys)) { s with heap:=s.heap.update l (Obj.mapSeq f),toks:=t' }:=by
 have q:=PySem.IsL.update e f;rw[hf] at q;refine I.write (x:=l) (e:=l) (by rw[hH];exact trivial) (.inl rfl) (fun b' u hb hu=>(Heap.get?_update_other s.heap (Obj.mapSeq f) (Ne.symm hb)).trans hu) ⟨_,q⟩ ?_;exact⟨hz,its',_,hv,q⟩
def Inv.lnew {its:List Value}{t':Nat}(I:Inv X pins σ H s)(hv:Vals ys its)(hz:ys.length<=sizeLine) :
 Inv X pins σ (cr H s.heap.objs.size (.lst ys)) { s with heap:=s.heap.push { cls:=.type "list",data:=.seq its.toArray },toks:=t' } :=
 I.laid (fun _ _ q=>Heap.get?_push_of_some _ q) (Nat.le_refl _) ⟨hz,its,0,hv,Heap.get?_push_size _ rfl⟩
def Inv.fresh (I:Inv X pins σ H s):H s.heap.objs.size=none:=I.hok.fresh (Nat.le_refl _)
def Inv.lstM (I:Inv X pins σ H s)(hH:H l=some (.lst xs)):xs.length<=sizeLine/\∃(its:List Value) (n:Nat),Vals xs its/\xs.length=its.length/\s.heap.get? l=some { cls:=.type "list",data:=.seq its.toArray n }:=by
 obtain⟨z,its,n,r,e⟩:=I.hok l _ hH;exact⟨z,its,n,r,r.length,e⟩
def qW {n:Nat}(h:n<=sizeLine):Builtin.List.listTooLong n=false:=by
 unfold Builtin.List.listTooLong;exact decide_eq_false (by omega)
end
section
variable {X:Cx}
def tY:V->List V->Hp->VK->Prop:=fun x vs H Q=>∃l xs y,x=.ref l/\vs=[y]/\H l=some (.lst xs)/\xs.length<sizeLine/\Q .non (cr H l (.lst (xs++[y])))
def n9:Cv X "list.append" tY:=by
 intro pins s σ H x vs v us Q I rx rv h;obtain⟨l,xs,y,rfl,rfl,hH,hz,q⟩:=h;cases rx;obtain⟨u,rfl,ru⟩:=rv.one;obtain⟨z,its,n,r,hl,e⟩:=I.lstM hH;refine call_meets F.slot_list_append ⟨_,e,rfl⟩ F.entry_list_append (F.args_list_append_2 _ _) (PySem.list_append l its.toArray n u (by rw[List.size_toArray];omega)) ⟨e,?_⟩;refine⟨.non,_,I.lset (its':=its++[u]) hH e (by simp) (r.append (.cons ru .nil)) ?_,rfl,q⟩;rw[List.length_append,List.length_singleton];omega
def len_rep {α:Type}(xs:List α)(k:Nat):(List.replicate k xs).flatten.length=k*xs.length:=by
 induction k with
 | zero=>simp
 | succ k ih=>rw[List.replicate_succ,List.flatten_cons,List.length_append,ih,Nat.succ_mul,Nat.add_comm]
end
section
variable {prog:Program}{w:World}{A:Around}{E:Value->Shared->Prop}{s:Shared}
set_option maxRecDepth 100000 in
end
section
variable {X:Cx}
end
end L2
namespace Att
open PySem PySem.W PySem.Calls PyProof.Rows
def kW {P:Params}{h:Heap}:∀(ns:List Int) (vs:List Value),WellAll P h vs (ns.map WData.int)->IntsAre vs ns:=by
 intro ns;induction ns with
 | nil =>
   intro vs w;rw[List.map_nil] at w;cases w;exact .nil
 | cons n ns ih =>
   intro vs w;rw[List.map_cons] at w;cases w with
   | cons a b =>
     cases a;exact .cons _ _ (ih _ b)
def u4 {l:OpenLaw}{n:Nat}(hn:l.most=some n){P:Params}{h:Heap}{args:List WData}{vals:List Value}
 (hpre:l.row.toRowW.claim.pre args=true) (hwl:WellAll P h vals args) :
 ∃a vs ns,vals=[Value.ref a]/\args=[WData.list (ns.map WData.int)]/\h.get? a=some { cls:=.type "list",data:=.seq vs.toArray }/\IntsAre vs ns/\ns.length<=n:=by
 have hsh:WShape.hasAll [] args [.list .int]=true:=(pre_splitW hpre).1;have hc:l.pre.holds [] { args:=args }=true:=(pre_splitW hpre).2;obtain⟨d,r,rfl,h1,h2⟩:=hasAllW_cons hsh;obtain rfl:=hasAllW_nil h2;obtain⟨xs,rfl,h3⟩:=hasW_list h1;obtain⟨ns,rfl⟩:=items_int h3;have hlen:ns.length<=n:=by
  unfold OpenLaw.pre at hc;have h4:(WTm.not (.lt (.lit (.int (n:Int))) (.len (.arg 0)))).holds [] { args:=[.list (ns.map .int)] }=true:=by
   have h4:=(holds_andW hc).1;rw[hn] at h4;exact h4
  have h5:=condW_of h4 (w_not (w_lt w_lit (w_len_list (w_arg rfl))));rw[List.length_map] at h5;refine Nat.le_of_not_lt fun q=>?_;have q':(n:Int)<((ns.length:Nat):Int):=by omega
  first
   | (rw[decide_eq_true q'] at h5;exact absurd h5 (by decide))
   | (simp at h5;omega)
 cases hwl with
 | cons w1 w2 =>
   cases w2;cases w1 with
   | list ho hall=>exact⟨_,_,ns,rfl,rfl,ho,kW ns _ hall,hlen⟩
def vc (l:OpenLaw)(args:List WData):l.row.toRowW.claim.post args (.bool true) args=true :=
 postW_of (r:=l.row.toRowW) (X:=(true==true))
  (show WShape.has [] (.bool true) .bool=true by first | rfl | decide | simp[WShape.has,WShape.arms,WShape.armsAll])
  (show (WTm.eq .res (.lit (.bool true))).value [] { args:=args,res:=some (.bool true),after:=args }=some (.bool (true==true)) from w_eq_bool (w_res rfl) w_lit) rfl
def attach_call {l:OpenLaw}{n:Nat}{q:Program}{loose:List Str}{XP:(Str->Option Value)->Heap->Prop}{YP:World->Heap->Prop}{d:DefRec}
 (hn:l.most=some n) (hdf:d.params.defaults=[])
 (call:∀(w:World) (s₀ s₁:Shared) (mg mb:Str->Option Value) (fa:Addr) (o:Obj) (pm cd doc:Value) (a:Addr) (vs:List Value) (ns:List Int),
  Ground q loose [] XP w s₀ mg mb s₁.heap->YP w s₁.heap ->
  s₁.heap.get? fa=some o->o.data=.func (docDef d.name d.params d.body d.scope pm cd doc)->s₁.heap.CodeRec cd d.name->mg d.name=some (.ref fa) ->
  s₁.heap.get? a=some { cls:=.type "list",data:=.seq vs.toArray }->IntsAre vs ns->ns.length<=n->s₁.gens=#[] ->
  codeAny (model l.prog w) callerA (.call (.ref fa) ⟨[.ref a],[]⟩) (fun r s'=>r=.ok (.ret (.bool true))/\OldK s₁.heap s'.heap/\s'.os=s₁.os/\AllBare s'.gens) s₁) :
 WalkO q loose XP YP l.row.toRowW d [] (fun f vs=>PySem.call f vs):=by
 intro w s₀ s₁ mg mb G Y fa o pm cd doc dV kV ho hd hcd hD hmg hg args vals as hpre hlay hrd hwl hlo;obtain rfl:dV=.none:=Dflts.none hD hdf;obtain rfl:kV=.none:=Dflts.noKw hD;obtain⟨a,vs,ns,rfl,rfl,hobj,hints,hlen⟩:=u4 hn hpre hwl;refine enter_call (codeAny_mono (call w s₀ s₁ mg mb fa o pm cd doc a vs ns G Y ho (fd_plain hd) hcd hmg hobj hints hlen hg) fun r s' hq=>?_);obtain⟨rfl,h2,h3,h4⟩:=hq;exact⟨.inl ⟨.bool true,.bool true,[],rfl,fun _=>rfl,.bool true,vc l _,fun _=>⟨List.Pairwise.nil,fun _ hm=>(nomatch hm)⟩⟩,h2,h3,h4⟩
section
variable {prog:Program}{w:World}{A:Around}{E:Value->Shared->Prop}{s:Shared}{K:Frag}
end
end Att
namespace L2
open PySem PySem.Spec PyProof.Rows
def nK:∀{vs:List Value} {ns:List Int},IntsAre vs ns->Vals (ns.map V.int) vs
 | _,_,.nil=>.nil
 | _,_,.cons n t h=>.cons ⟨t,rfl⟩ (nK h)
def Ci (H:Hp):Prop:=∀b,H b=none\/∃o xs,H b=some (.frz o (.lst xs))
def xM {P:Program}{w:World}{K:PySem.W.Frag}{mg mb:Str->Option Value}{CX:yL}{k:Nat}{fa a:Addr}{fd:FuncData}{x:Str}{sp:Sp}{s₁:Shared}{vs:List Value}{ns:List Int}
 (KX:K.In s₁.heap) (hns:s₁.heap.Ns mainGlobals mg) (hb:s₁.heap.Ns builtinsNs mb) (hbb:∀x:Str,x≠"__name__"->mb x=bootBuiltins x) (hlim:s₁.heap.NoLimit) (hg:s₁.gens=#[])
 (ha:s₁.heap.get? a=some { cls:=.type "list",data:=.seq vs.toArray }) (hi:IntsAre vs ns) (hl:ns.length<=sizeLine) (hr:Room k callerA)
 (F:∀base:Heap,K.In base->base.Ns mainGlobals mg->iu P w K mg base CX k fa fd [x] sp) (hbind:∀(s:Shared) (u:Value),BindsTo s fd ⟨[u],[]⟩ [(x,u)])
 (hsp:∀H:Hp,Ci H->SqL K H a (ns.map V.int)->sp [.ref a] H (fun v _=>v=.bl true) fun _ _ _=>False)
 (hCX:∀H e s',CX [] H s₁ (fun _ _ _=>False) e s'->False) :
 codeAny (model P w) callerA (.call (.ref fa) ⟨[.ref a],[]⟩) (fun r s'=>r=.ok (.ret (.bool true))/\OldK s₁.heap s'.heap/\s'.os=s₁.os/\AllBare s'.gens) s₁:=by
 have rv:=nK hi;have lenV:=hi.length;have core:∀H:Hp,Ci H->SqL K H a (ns.map V.int)->HOk P w H s₁.heap->(∀b,H b≠none->b=a)->(H a≠none->K.lookup a=none) ->
  codeAny (model P w) callerA (.call (.ref fa) ⟨[.ref a],[]⟩) (fun r s'=>r=.ok (.ret (.bool true))/\OldK s₁.heap s'.heap/\s'.os=s₁.os/\AllBare s'.gens) s₁:=by
  intro H hO hS hok hA hK;have base_of:∀{b:Addr} {o:Obj},s₁.heap.get? b=some o->H b=none->(pq s₁.heap H).get? b=some o:=fun e n=>xU e n;have noA:∀{b:Addr} {o:Obj} {es:Array DictEntry} {ep:Nat},s₁.heap.get? b=some o->o.data=.dict es ep->H b=none:=fun {b o es ep} e d=>by
   cases q:H b with
   | none=>rfl
   | some u =>
     have e':b=a:=hA b (by rw[q];simp);subst e';rw[ha] at e;cases e;have d':Data.seq vs.toArray _=Data.dict es ep:=d;cases d'
  have nsK:∀{b:Addr} {m:Str->Option Value},s₁.heap.Ns b m->(pq s₁.heap H).Ns b m:=fun {b m} ⟨o,es,ep,e,d,r⟩=>⟨o,es,ep,base_of e (noA e d),d,r⟩;have hKb:K.In (pq s₁.heap H):=fun b o e=>base_of (KX b o e) (by
   cases q:H b with
   | none=>rfl
   | some u =>
     have e':b=a:=hA b (by rw[q];simp);subst e';rw[hK (by rw[q];simp)] at e;cases e)
  have hM:Mod K mg (pq s₁.heap H):=⟨hKb,nsK hns,⟨mb,nsK hb,hbb⟩,let ⟨mc,h1,h2⟩:=hlim;⟨mc,nsK h1,h2⟩⟩;have e0:Ah P w K mg (pq s₁.heap H) callerA [] s₁ H:=⟨rfl,hM,fun b o e=>zt e,Nat.le_of_eq (vv _ _),trivial,fun b hb=>absurd (show b∈([]:List Addr) from hb) (by simp),hok,.of_eq hg⟩;refine codeAny_mono ((F _ hKb (nsK hns)).run callerA [] s₁ H ⟨[.ref a],[]⟩ [.ref a] [.ref a] _ _ hr e0 (hbind s₁ (.ref a)) (.cons rfl .nil) (hsp H hO hS)) fun r s' h=>?_;cases r with
  | error e=>exact(hCX H e s' h).elim
  | ok fl =>
    cases fl with
    | next=>exact False.elim h
    | brk=>exact False.elim h
    | cont=>exact False.elim h
    | ret u =>
      obtain⟨v,H',os,bare,un,hok',r',q⟩:=h;have q':v=.bl true:=q;subst q';obtain rfl:u=Value.bool true:=r';refine⟨rfl,OldK.of_keep fun b o e=>?_,os,bare⟩;cases q:H b with
      | none=>exact un.keep b o e q (by intro z;exact absurd (show b∈([]:List Addr) from z) (by simp)) (by simp)
      | some u =>
        rcases hO b with z | ⟨ob,xs,z⟩
        ·rw[q] at z;cases z
        ·have z2:=un.frzs b ob _ z;obtain⟨e1,_⟩:=hok b _ z;obtain⟨e2,_⟩:=hok' b _ z2;rw[e] at e1;cases e1;exact e2
 cases hk:K.lookup a with
 | some o =>
   have e:=KX a o hk;rw[ha] at e;cases e;refine core (fun _=>none) (fun _=>.inl rfl) (.inr ⟨_,vs.toArray,_,hk,rfl,rfl,rfl,by rw[List.size_toArray,lenV];exact hl,by simpa using rv⟩) (fun b u z=>by have z':(none:Option HO)=some u:=z;cases z') (fun b z=>absurd rfl z) fun z=>absurd rfl z
 | none =>
   refine core (fun b=>if b=a then some (.frz { cls:=.type "list",data:=.seq vs.toArray } (.lst (ns.map V.int))) else none) (fun b=>?_) (.inl (.inr ⟨{ cls:=.type "list",data:=.seq vs.toArray },if_pos rfl⟩)) (fun b u z=>?_) (fun b z=>?_) fun _=>hk
   ·by_cases hb:b=a
    ·exact .inr ⟨_,_,if_pos hb⟩
    ·exact .inl (if_neg hb)
   ·by_cases hb:b=a
    ·have z':=(if_pos hb).symm.trans z;cases z';subst hb;exact⟨ha,by rw[List.length_map];exact hl,vs,_,rv,ha⟩
    ·have z':=(if_neg hb).symm.trans z;cases z'
   ·by_cases hb:b=a
    ·exact hb
    ·exact absurd (if_neg hb) z
def walk_of {l:PySem.W.OpenLaw}{n k:Nat}{q:Program}{loose:List Str}{XP:(Str->Option Value)->Heap->Prop}{YP:World->Heap->Prop}{d:DefRec}{K:Params->PySem.W.Frag}{CX:World->yL}{sp:World->Sp}{x:Str}
 (hn:l.most=some n) (hn2:n<=sizeLine) (hdf:d.params.defaults=[]) (hr:Room k callerA)
 (hY:∀(w:World) (h:Heap),YP w h->(K w.params).In h)
 (F:∀(w:World) (mg:Str->Option Value) (fa:Addr) (h:Heap),(K w.params).In h->h.Ns mainGlobals mg->mg d.name=some (.ref fa) ->
  ∃fd:FuncData,(∀(s:Shared) (u:Value),BindsTo s fd ⟨[u],[]⟩ [(x,u)]) /\
   ∀base:Heap,(K w.params).In base->base.Ns mainGlobals mg->iu l.prog w (K w.params) mg base (CX w) k fa fd [x] (sp w))
 (hsp:∀(w:World) (H:Hp) (a:Addr) (ns:List Int),ns.length<=n->Ci H->SqL (K w.params) H a (ns.map V.int)->sp w [.ref a] H (fun v _=>v=.bl true) fun _ _ _=>False)
 (hCX:∀(w:World) (H:Hp) (s:Shared) (e:Value) (s':Shared),CX w [] H s (fun _ _ _=>False) e s'->False) :
 PySem.W.WalkO q loose XP YP l.row.toRowW d [] (fun f vs=>PySem.call f vs):=by
 refine Att.attach_call hn hdf fun w s₀ s₁ mg mb fa o pm cd doc a vs ns G Y ho hd hcd hmg hobj hints hlen hg=>?_;have KX:=hY w _ Y;obtain⟨fd,hb,hF⟩:=F w mg fa _ KX G.T.g hmg;exact xM KX G.T.g G.T.b G.T.builtins G.T.nolimit hg hobj hints (Nat.le_trans hlen hn2) hr hF hb (fun H hO hS=>hsp w H a ns hlen hO hS) fun H e s'=>hCX w H s₁ e s'
noncomputable def iD (s:Stmt):Arguments:=match s with
 | .FunctionDef _ a _ _ _ _ _ _ _ _=>a
 | _=>{ posonlyargs:=[],args:=[],vararg:=none,kwonlyargs:=[],kw_defaults:=[],kwarg:=none,defaults:=[] }
noncomputable def cW (s:Stmt):List Stmt:=match s with
 | .FunctionDef _ _ b _ _ _ _ _ _ _=>b
 | _=>[]
noncomputable def aA (s:Stmt):Scope:=match s with
 | .FunctionDef _ _ _ _ _ _ sc _ _ _=>sc
 | _=>{ kind:=.function,names:=[],isGenerator:=false,isCoroutine:=false }
abbrev nq:yL:=fun _ _ _ _ _ _=>False
abbrev E0:XK:=fun _ _ _=>False
def AA {X:Cx}:tK nq X E0:=fun _ _ _ _ _ _ _ h=>h.elim
structure Fun (K:PySem.W.Frag)(x qual:Str)(st:Stmt)(f:Addr)(fd:FuncData):Prop where
 ex:∃(oc:Value) (od:Option Addr) (kV doc pm:Value) (an:Option Addr) (cdv ct:Value) (osl:Array (Option Value)),
  fd=PySem.W.fnOf x qual (iD st) (cW st) (aA st) .none kV doc pm an cdv ct/\K.lookup f=some ⟨oc,od,.func fd,osl⟩/\PySem.W.codeIn K cdv qual=true
 kp:PySem.W.keepIn K (.ref f)=true
section
variable {P:Program}{w:World}{K:PySem.W.Frag}{mg:Str->Option Value}{base:Heap}
def Fun.ok {x qual:Str}{st:Stmt}{f:Addr}{fd:FuncData}{N ps:List Str}{k:Nat}{sp:Sp}(F:Fun K x qual st f fd)(S:eW N ps (aA st))(len:∀vs H Q E,sp vs H Q E->vs.length=ps.length)
 (hbody:∀(cdv:Value) (A:Around) (outer:List Env) (s:Shared) (H:Hp) (vs:List V) (Q:VK) (E:XK),Room k (A.deeper (envOfC qual (aA st) s.heap.objs.size f cdv))->sp vs H Q E ->
  ∃t,PSs (kr nq P w K mg base N qual (aA st) f cdv A outer s H E).nox (cW st) t/\t { nx:=fun _ H'=>Q .non H',rt:=Q } (start N vs) H):iu P w K mg base nq (k+1) f fd ps sp:=by
 obtain⟨oc,od,kV,doc,pm,an,cdv,ct,osl,rfl,lk,hcd⟩:=F.ex;refine Dm lk hcd S len fun A outer s H vs Q E hr hsp=>?_;obtain⟨t,h,q⟩:=hbody cdv A outer s H vs Q E hr hsp;exact⟨t,h.nox,q⟩
def Fun.binds {x qual:Str}{st:Stmt}{f:Addr}{fd:FuncData}{ps:List Str}(F:Fun K x qual st f fd)
 (h:∀(kV doc pm:Value) (an:Option Addr) (cdv ct:Value) (us:List Value),us.length=ps.length->bindArgs (PySem.W.fnOf x qual (iD st) (cW st) (aA st) .none kV doc pm an cdv ct) ⟨us,[]⟩=pure (ps.zip us)):Binds K fd ps []:=by
 obtain⟨oc,od,kV,doc,pm,an,cdv,ct,osl,rfl,lk,hcd⟩:=F.ex;exact .all (h kV doc pm an cdv ct)
def BS {x qual:Str}{st:Stmt}{f:Addr}{oc:Value}{od an:Option Addr}{osl:Array (Option Value)}{kV doc pm cdv ct:Value}(l:K.lookup f=some ⟨oc,od,.func (PySem.W.fnOf x qual (iD st) (cW st) (aA st) .none kV doc pm an cdv ct),osl⟩)
 (c:PySem.W.codeIn K cdv qual=true) (k:PySem.W.keepIn K (.ref f)=true):Fun K x qual st f (PySem.W.fnOf x qual (iD st) (cW st) (aA st) .none kV doc pm an cdv ct):=⟨⟨oc,od,kV,doc,pm,an,cdv,ct,osl,rfl,l,c⟩,k⟩
end
section
variable {X:Cx}
def pv (i:Nat){x:Str}{pos:Pos}(hN:X.N[i]? = some x:=by rfl)(hv:Du X.env.scope x:=by first | exact Or.inl rfl | exact Or.inr (Or.inl rfl) | exact Or.inr (Or.inr rfl))(hd:(x==("__debug__":Str))=false:=by decide)
 (hcd:(x==("__classdict__":Str))=false:=by decide):PE X (.Name x pos) (jp i):=Bk hN hv hd hcd
end
def sN {A B:Prop}(h:B):if false=true then A else B:=by
 rw[if_neg Bool.false_ne_true];exact h
def sM {A B:Prop}(h:A):if true=true then A else B:=by
 rw[if_pos rfl];exact h
def Same (H H':Hp):Prop:=∀b o,H b=some o->H' b=some o
def Same.refl (H:Hp):Same H H:=fun _ _ h=>h
def Same.trans {H H1 H2:Hp}(a:Same H H1)(b:Same H1 H2):Same H H2:=fun c o h=>b c o (a c o h)
def Same.free {H H':Hp}(e:Same H H'){l:Addr}(h:H' l=Option.none):H l=Option.none:=by
 cases q:H l with
 | none=>rfl
 | some o =>
   rw[e l o q] at h;cases h
def Same.seq {K:PySem.W.Frag}{H H':Hp}{a:Addr}{xs:List V}(e:Same H H')(h:SqL K H a xs):SqL K H' a xs:=by
 rcases h with (h | ⟨o,h⟩) | h
 ·exact .inl (.inl (e _ _ h))
 ·exact .inl (.inr ⟨o,e _ _ h⟩)
 ·exact .inr h
end L2
namespace DL
open PySem
inductive D where
 | non | bl (b:Bool) | int (i:Int) | str (x:Str) | tup (ds:List D) | lst (ds:List D) | dic (t:Bool) (ks vs:List D)
abbrev Ev:=List (Option D)
inductive Rs where
 | nx (δ:Ev) | rt (d:D) | bk (δ:Ev) | ct (δ:Ev) | ex
abbrev ME:=Ev->Option D
abbrev MT:=Ev->Option Bool
abbrev MA:=Ev->Option (List D)
abbrev MS:=Ev->Option Rs
abbrev MG:=D->Ev->Option Ev
abbrev yK:=List D->Ev->Option Ev
abbrev MI:=Ev->Option (List D)
abbrev MF:=List D->Option D
noncomputable def slot {α:Type}(δ:List (Option α))(i:Nat):Option α:=(δ[i]?).getD none
def ac (i:Nat):ME:=fun δ=>slot δ i
noncomputable def eC (d:D):ME:=fun _=>some d
noncomputable def am (f:D->D->Option D)(a b:ME):ME:=fun δ=>(a δ).bind fun x=>(b δ).bind fun y=>f x y
noncomputable def gW (f:D->Option D)(a:ME):ME:=fun δ=>(a δ).bind f
noncomputable def ah:MA:=fun _=>some []
noncomputable def ab (a:ME)(r:MA):MA:=fun δ=>(a δ).bind fun x=>(r δ).bind fun xs=>some (x::xs)
noncomputable def ag (f:MF)(a:MA):ME:=fun δ=>(a δ).bind f
noncomputable def aP (a:MA):ME:=fun δ=>(a δ).bind fun xs=>some (.tup xs)
noncomputable def bK (a:MA):ME:=fun δ=>(a δ).bind fun xs=>some (.lst xs)
noncomputable def pB (a b:ME):ME:=fun δ=>(a δ).bind fun x=>match x with | .bl true=>b δ | .bl false=>some (.bl false) | _=>none
noncomputable def Dp (a:ME):ME:=fun δ=>(a δ).bind fun x=>match x with | .bl b=>some (.bl (!b)) | _=>none
noncomputable def truth:D->Option Bool
 | .non=>some false
 | .bl b=>some b
 | .int i=>some (i != 0)
 | .str _=>none
 | .tup ds=>some (!ds.isEmpty)
 | .lst ds=>some (!ds.isEmpty)
 | .dic _ _ _=>none
def tV (a:ME):MT:=fun δ=>(a δ).bind truth
noncomputable def j5 (a b:MT):MT:=fun δ=>(a δ).bind fun k=>if k=true then b δ else some false
noncomputable def la (a b:MT):MT:=fun δ=>(a δ).bind fun k=>if k=true then some true else b δ
noncomputable def cq (a:MT):MT:=fun δ=>(a δ).bind fun k=>some (!k)
def bD (f g:D->D->Option D)(a b c:ME):ME:=fun δ=>(a δ).bind fun x=>(b δ).bind fun y=>(f x y).bind fun z=>match z with
 | .bl true=>(c δ).bind fun u=>g y u
 | .bl false=>some (.bl false)
 | _=>none
def oI (g:Int->Int->Option D):D->D->Option D
 | .int i,.int j=>g i j
 | _,_=>none
noncomputable def small (i:Int):Bool:=decide (-(2 ^ 64)<i)&&decide (i<2 ^ 64)
noncomputable def aT:D->D->Option D
 | .int i,.int j=>some (.int (i+j))
 | .lst xs,.lst ys=>if xs.length+ys.length<=16777216 then some (.lst (xs++ys)) else none
 | .tup xs,.tup ys=>if xs.length+ys.length<=16777216 then some (.tup (xs++ys)) else none
 | .str x,.str y=>if x.length+y.length<=16777216 then some (.str (x++y)) else none
 | _,_=>none
def kU:D->D->Option D:=oI fun i j=>some (.int (i-j))
def aO:D->D->Option D
 | .int i,.int j=>if (small j||small i)=true then some (.int (i*j)) else none
 | .tup xs,.int k=>if (decide (0<k)&&decide (k<=1000)&&decide (0<xs.length)&&decide (xs.length<=1000))=true then some (.tup (List.replicate k.toNat xs).flatten) else none
 | _,_=>none
def oMod:D->D->Option D:=oI fun i j=>if 0<j then some (.int (i % j)) else none
def cQ:D->D->Option D:=oI fun i j=>if 0<j/\j<1073741824 then some (.int (i / j)) else none
def oLt:D->D->Option D:=oI fun i j=>some (.bl (decide (i<j)))
def oLe:D->D->Option D:=oI fun i j=>some (.bl (decide (i<=j)))
def xv:D->D->Option D:=oI fun i j=>some (.bl (decide (j<i)))
def Co:D->D->Option D:=oI fun i j=>some (.bl (decide (j<=i)))
noncomputable def wj:D->Option D
 | .int i=>some (.int (-i))
 | _=>none
mutual
def cP:D->D->Bool
 | .non,.non=>true
 | .bl a,.bl b=>a==b
 | .int a,.int b=>a==b
 | .bl a,.int b=>(if a then 1 else 0)==b
 | .int a,.bl b=>a==(if b then 1 else 0)
 | .str a,.str b=>a==b
 | .tup as,.tup bs=>eO as bs
 | .lst as,.lst bs=>eO as bs
 | .dic t ks vs,.dic u ls ws=>t==u&&eO ks ls&&eO vs ws
 | _,_=>false
def eO:List D->List D->Bool
 | [],[]=>true
 | a::as,b::bs=>cP a b&&eO as bs
 | _,_=>false
end
mutual
def bF:D->Nat
 | .tup ds=>dw ds+1
 | .lst ds=>dw ds+1
 | .dic _ _ _=>31
 | _=>0
def dw:List D->Nat
 | []=>0
 | d::ds=>max (bF d) (dw ds)
end
def oEq (a b:D):Option D:=if bF a<=30/\bF b<=30 then some (.bl (cP a b)) else none
def iP (a b:D):Option D:=if bF a<=30/\bF b<=30 then some (.bl (!cP a b)) else none
noncomputable def Et (c:Bool):D->Option D
 | .bl b=>some (.bl (b==c))
 | _=>some (.bl false)
def j3 (c:Bool)(d:D):Option D:=(Et c d).bind fun x=>match x with | .bl b=>some (.bl (!b)) | _=>none
def E3:D->D->Option D
 | x,.tup ys=>if dw ys<=30/\bF x<=30 then some (.bl (ys.any fun y=>cP y x)) else none
 | x,.lst ys=>if dw ys<=30/\bF x<=30 then some (.bl (ys.any fun y=>cP y x)) else none
 | .str x,.str y=>some (.bl (!(Builtin.Str.occurrences y x 0 y.length 1).isEmpty))
 | _,_=>none
noncomputable def sL (n:Nat)(i:Int):Option Nat:=if 0<=i then (if i<n then some i.toNat else none) else if -(n:Int)<=i then some (i+n).toNat else none
def aD:D->D->Option D
 | .tup xs,.int i=>(sL xs.length i).bind fun j=>xs[j]?
 | .lst xs,.int i=>(sL xs.length i).bind fun j=>xs[j]?
 | .str x,.int i=>if x.length<=16777216 then (sL x.cps.toList.length i).bind fun j=>x.cps.toList[j]?.bind fun c=>some (.str ⟨#[c]⟩) else none
 | _,_=>none
noncomputable def AS (k:Nat):D->Option D
 | .tup xs=>some (.tup (xs.take k))
 | .lst xs=>some (.lst (xs.take k))
 | _=>none
inductive Ty where | int | bool | str | list | tuple
noncomputable def AG:Ty->D->Bool
 | .int,.int _=>true
 | .int,.bl _=>true
 | .bool,.bl _=>true
 | .str,.str _=>true
 | .list,.lst _=>true
 | .tuple,.tup _=>true
 | _,_=>false
def lq (t:Ty):MF:=fun ds=>match ds with | [d]=>some (.bl (AG t d)) | _=>none
noncomputable def d8:MF:=fun ds=>match ds with
 | [.tup xs]=>some (.int xs.length)
 | [.lst xs]=>some (.int xs.length)
 | [.str x]=>if x.length<=16777216 then some (.int x.length) else none
 | _=>none
noncomputable def EY:MF:=fun ds=>match ds with | [.int i]=>if i.natAbs.log2<1920 then some (.str (toString i)) else none | _=>none
noncomputable def rj:MF:=fun ds=>match ds with | [.int i]=>some (.int (if i<0 then -i else i)) | _=>none
noncomputable def yf:MF:=fun ds=>match ds with | [.tup xs]=>some (.lst xs) | [.lst xs]=>some (.lst xs) | _=>none
noncomputable def je:MF:=fun ds=>match ds with | [.tup xs]=>some (.tup xs) | [.lst xs]=>some (.tup xs) | _=>none
noncomputable def allB:List D->Option Bool
 | []=>some true
 | .bl b::r=>(allB r).bind fun k=>some (b&&k)
 | _=>none
def vD:MF:=fun ds=>match ds with | [.lst xs]=>(allB xs).bind fun k=>some (.bl k) | _=>none
noncomputable def gN (i:Nat):MG:=fun d δ=>some (δ.set i (some d))
noncomputable def iT:yK:=fun ds δ=>match ds with | []=>some δ | _::_=>none
def cf (g:MG)(gs:yK):yK:=fun ds δ=>match ds with | d::r=>(g d δ).bind fun δ'=>gs r δ' | []=>none
noncomputable def gT (gs:yK):MG:=fun d δ=>match d with | .tup ds=>gs ds δ | _=>none
noncomputable def bz (a:ME):MI:=fun δ=>(a δ).bind fun d=>match d with | .tup ds=>some ds | .lst ds=>some ds | _=>none
noncomputable def cw (n:Nat):List D:=(List.range n).map fun (i:Nat)=>D.int i
def fo (a:ME):MI:=fun δ=>(a δ).bind fun d=>match d with | .int j=>if -1073741824<j/\j<1073741824 then some (cw j.toNat) else none | _=>none
noncomputable def cS:Nat->List D->List D
 | _,[]=>[]
 | k,d::r=>.tup [.int k,d]::cS (k+1) r
def mH (a:ME):MI:=fun δ=>(a δ).bind fun d=>match d with | .tup ds=>some (cS 0 ds) | .lst ds=>some (cS 0 ds) | _=>none
def pick {α:Type}(k:Nat)(fv:List Nat)(δ:List (Option α)):List (Option α):=List.replicate k none++fv.map (slot δ)
noncomputable def kP (turn:D->Option (Option D)):List D->Option (List D)
 | []=>some []
 | x::xs=>(turn x).bind fun o=>(kP turn xs).bind fun r=>some (match o with | some d=>d::r | none=>r)
def ij (B:Ev->Ev)(i:MI)(g:MG)(c:MT)(e:ME):ME:=fun δ=>(i δ).bind fun xs=>if xs.length<=16777216 then
 (kP (fun x=>(g x (B δ)).bind fun δ1=>(c δ1).bind fun b=>if b=true then (e δ1).bind fun d=>some (some d) else some none) xs).bind fun r=>some (.lst r)
 else none
def bw (k:Nat)(fv:List Nat)(i:MI)(g:MG)(c:MT)(e:ME):ME:=fun δ=>(i δ).bind fun xs=>if xs.length<=16777216 then
 (kP (fun x=>(g x (pick k fv δ)).bind fun δ1=>(c δ1).bind fun b=>if b=true then (e δ1).bind fun d=>some (some d) else some none) xs).bind fun r=>some (.lst r)
 else none
noncomputable def tT:MT:=fun _=>some true
noncomputable def cH:MS:=fun δ=>some (.nx δ)
noncomputable def aF (a b:MS):MS:=fun δ=>(a δ).bind fun r=>match r with | .nx δ'=>b δ' | r=>some r
noncomputable def gp (c:MT)(a b:MS):MS:=fun δ=>(c δ).bind fun k=>if k=true then a δ else b δ
noncomputable def bb (a:ME):MS:=fun δ=>(a δ).bind fun d=>some (.rt d)
def bm (a:ME)(g:MG):MS:=fun δ=>(a δ).bind fun d=>(g d δ).bind fun δ'=>some (.nx δ')
noncomputable def CN (i j:Nat)(a b:ME):MS:=fun δ=>(a δ).bind fun x=>(b δ).bind fun y=>some (.nx ((δ.set i (some x)).set j (some y)))
def dD (g:MG)(body:MS):List D->Ev->Option Rs
 | [],δ=>some (.nx δ)
 | x::xs,δ=>(g x δ).bind fun δ1=>(body δ1).bind fun r=>match r with
   | .nx δ2=>dD g body xs δ2
   | .ct δ2=>dD g body xs δ2
   | .bk δ2=>some (.nx δ2)
   | .rt d=>some (.rt d)
   | .ex=>some .ex
def i8 (i:MI)(g:MG)(body:MS):MS:=fun δ=>(i δ).bind fun xs=>dD g body xs δ
noncomputable def j0 (c:MT)(b:MS):Nat->Ev->Option Rs
 | 0,_=>none
 | n+1,δ=>(c δ).bind fun k=>if k=true then (b δ).bind fun r=>match r with
   | .nx δ2=>j0 c b n δ2
   | .ct δ2=>j0 c b n δ2
   | .bk δ2=>some (.nx δ2)
   | .rt d=>some (.rt d)
   | .ex=>some .ex
   else some (.nx δ)
open Classical in
def gn (c:MT)(b:MS):MS:=fun δ=>if h:∃n r,j0 c b n δ=some r then j0 c b (Classical.choose h) δ else none
noncomputable def dE (n k:Nat)(m:MS):MF:=fun ds=>if ds.length=n then (m (ds.map some++List.replicate (k-n) none)).bind fun r=>match r with
 | .rt d=>some d
 | .nx _=>some .non
 | _=>none
 else none
def ownAt (n i:Nat)(δ:Ev):Option D:=match slot δ i with
 | none=>slot δ (n+i)
 | some _=>none
noncomputable def gj (n i:Nat)(d:D)(δ:Ev):Ev:=(δ.set i none).set (n+i) (some d)
def fb (n i:Nat)(a:ME):MS:=fun δ=>(a δ).bind fun d=>some (.nx (gj n i d δ))
def frz (n i:Nat)(δ:Ev):Ev:=match ownAt n i δ with
 | some (.lst ds)=>(δ.set i (some (.lst ds))).set (n+i) none
 | _=>δ
def wL (n i:Nat)(m:MS):MS:=fun δ=>match ownAt n i δ with
 | some (.dic t ks vs)=>m ((δ.set i (some (.dic t ks vs))).set (n+i) none)
 | _=>none
def frzs (n:Nat):List Nat->Ev->Ev
 | [],δ=>δ
 | i::r,δ=>frzs n r (frz n i δ)
def oO (n:Nat)(is:List Nat)(m:MS):MS:=fun δ=>m (frzs n is δ)
mutual
def flat:D->Bool
 | .tup ds=>flats ds
 | .lst _=>false
 | .dic _ _ _=>false
 | _=>true
def flats:List D->Bool
 | []=>true
 | d::ds=>flat d&&flats ds
end
def vH (n:Nat)(is:List Nat)(a:ME):ME:=fun δ=>(a (frzs n is δ)).bind fun d=>if flat d=true then some d else none
def ka (n i:Nat)(a:ME):MS:=fun δ=>(a δ).bind fun y=>match ownAt n i δ with
 | some (.lst ds)=>if ds.length<16777216 then some (.nx (δ.set (n+i) (some (.lst (ds++[y]))))) else none
 | _=>none
def v3 (c:MT)(b:MS):∀(n:Nat) (δ:Ev) (r:Rs),j0 c b n δ=some r->j0 c b (n+1) δ=some r:=by
 intro n;induction n with
 | zero=>intro δ r h;simp[j0] at h
 | succ n ih =>
   intro δ r h;rw[j0] at h ⊢;cases hc:c δ with
   | none=>rw[hc] at h;simp at h
   | some k =>
     rw[hc] at h;simp only[Option.bind_some] at h ⊢;cases k with
     | false=>simpa using h
     | true =>
       simp only[if_true] at h ⊢;cases hb:b δ with
       | none=>rw[hb] at h;simp at h
       | some q =>
         rw[hb] at h;simp only[Option.bind_some] at h ⊢;cases q with
         | nx δ2=>exact ih _ _ h
         | ct δ2=>exact ih _ _ h
         | bk δ2=>exact h
         | rt d=>exact h
         | ex=>exact h
def v4 {c:MT}{b:MS}{n m:Nat}{δ:Ev}{r:Rs}(h:j0 c b n δ=some r)(hm:n<=m):j0 c b m δ=some r:=by
 induction hm with
 | refl=>exact h
 | step _ ih=>exact v3 _ _ _ _ _ ih
def ix {c:MT}{b:MS}{n:Nat}{δ:Ev}{r:Rs}(h:j0 c b n δ=some r):gn c b δ=some r:=by
 have hx:∃n r,j0 c b n δ=some r:=⟨n,r,h⟩;unfold gn;rw[dif_pos hx];obtain⟨r',h'⟩:=Classical.choose_spec hx;rcases Nat.le_total n (Classical.choose hx) with l | l
 ·exact v4 h l
 ·have:=v4 h' l;rw[h] at this;rw[h',this]
def sj {c:MT}{b:MS}{δ:Ev}{r:Rs}(h:gn c b δ=some r):∃n,j0 c b n δ=some r:=by
 unfold gn at h;split at h
 ·exact⟨_,h⟩
 ·cases h
def rG {turn:D->Option (Option D)}(f:D->Option D):∀(xs:List D),(∀x∈xs,turn x=some (f x))->kP turn xs=some (xs.filterMap f)
 | [],_=>rfl
 | x::xs,h=>by
   rw[kP,h x List.mem_cons_self,rG f xs fun y hy=>h y (List.mem_cons_of_mem _ hy)];simp only[Option.bind_some,List.filterMap_cons];cases f x <;> rfl
def iw {α:Type}{δ:List (Option α)}{i:Nat}{d:α}(h:slot δ i=some d):δ[i]? = some (some d):=by
 unfold slot at h;cases e:δ[i]? with
 | none=>rw[e] at h;cases h
 | some o=>rw[e] at h;exact congrArg some h
mutual
def mM:∀d:D,cP d d=true
 | .non=>rfl
 | .bl _=>by simp[cP]
 | .int _=>by simp[cP]
 | .str _=>by simp[cP]
 | .tup ds=>by simp only[cP];exact gc ds
 | .lst ds=>by simp only[cP];exact gc ds
 | .dic t ks vs=>by simp only[cP,gc ks,gc vs,beq_self_eq_true];rfl
def gc:∀ds:List D,eO ds ds=true
 | []=>by simp[eO]
 | d::ds=>by simp[eO,mM d,gc ds]
end
def fq:∀(ds es:List D),((List.range (min ds.length es.length)).all (fun j=>cP (ds.getD j .non) (es.getD j .non))&&ds.length==es.length)=eO ds es
 | [],[]=>by simp[eO]
 | [],_::_=>by simp[eO]
 | _::_,[]=>by simp[eO]
 | d::ds,e::es=>by
   have ih:=fq ds es;have hm:min (ds.length+1) (es.length+1)=min ds.length es.length+1:=by omega
   have hb:(ds.length+1==es.length+1)=(ds.length==es.length):=by simp
   simp only[List.length_cons,hm,hb,List.range_succ_eq_map,List.all_cons,List.all_map,List.getD_cons_zero,eO,<-ih,Bool.and_assoc];rfl
def depDs_le {n:Nat}:∀{ds:List D},dw ds<=n↔∀d∈ds,bF d<=n
 | []=>by simp[dw]
 | d::ds=>by
   have:=depDs_le (n:=n) (ds:=ds);simp only[dw,List.mem_cons,forall_eq_or_imp,<-this];omega
def bq {n k:Nat}{m:MS}{ds:List D}{r:D}(hl:ds.length=n)(h:m (ds.map some++List.replicate (k-n) none)=some (.rt r)):dE n k m ds=some r:=by
 unfold dE;rw[if_pos hl,h];rfl
def ap {a b:MS}{δ δ':Ev}(h:a δ=some (.nx δ')):aF a b δ=b δ':=by unfold aF;rw[h];rfl
def b9 {a b:MS}{δ:Ev}{d:D}(h:a δ=some (.rt d)):aF a b δ=some (.rt d):=by unfold aF;rw[h];rfl
def fm {c:MT}{a b:MS}{δ:Ev}(h:c δ=some true):gp c a b δ=a δ:=by unfold gp;rw[h];rfl
def cL {c:MT}{a b:MS}{δ:Ev}(h:c δ=some false):gp c a b δ=b δ:=by unfold gp;rw[h];rfl
def aK {a:ME}{δ:Ev}{d:D}(h:a δ=some d):bb a δ=some (.rt d):=by unfold bb;rw[h];rfl
def aG {a:ME}{g:MG}{δ δ':Ev}{d:D}(h:a δ=some d)(hg:g d δ=some δ'):bm a g δ=some (.nx δ'):=by unfold bm;rw[h];simp[hg]
def cp {a:ME}{δ:Ev}{d:D}{b:Bool}(h:a δ=some d)(hb:truth d=some b):tV a δ=some b:=by unfold tV;rw[h];exact hb
def cU {a:MT}{δ:Ev}{b:Bool}(h:a δ=some b):cq a δ=some (!b):=by unfold cq;rw[h];rfl
def e8 {a c:MT}{δ:Ev}{x y:Bool}(h:a δ=some x)(hc:c δ=some y):la a c δ=some (x||y):=by
 unfold la;rw[h];cases x <;> simp[hc]
def Aj {a c:MT}{δ:Ev}(h:a δ=some true):la a c δ=some true:=by unfold la;rw[h];rfl
def aY {f:D->D->Option D}{a b:ME}{δ:Ev}{x y:D}(h:a δ=some x)(hb:b δ=some y):am f a b δ=f x y:=by unfold am;rw[h,hb];rfl
def wg {f:D->Option D}{a:ME}{δ:Ev}{x:D}(h:a δ=some x):gW f a δ=f x:=by unfold gW;rw[h];rfl
def AK (f:MF)(a:ME)(δ:Ev):ag f (ab a ah) δ=(a δ).bind fun x=>f [x]:=by
 simp only[ag,ab,ah];cases a δ <;> rfl
def call2 (f:MF)(a b:ME)(δ:Ev):ag f (ab a (ab b ah)) δ=(a δ).bind fun x=>(b δ).bind fun y=>f [x,y]:=by
 simp only[ag,ab,ah];cases a δ <;> cases b δ <;> rfl
def Dr (f:MF)(a b c:ME)(δ:Ev):ag f (ab a (ab b (ab c ah))) δ=(a δ).bind fun x=>(b δ).bind fun y=>(c δ).bind fun z=>f [x,y,z]:=by
 simp only[ag,ab,ah];cases a δ <;> cases b δ <;> cases c δ <;> rfl
def aJ {f:MF}{a:ME}{δ:Ev}{x:D}(h:a δ=some x):ag f (ab a ah) δ=f [x]:=by rw[AK,h];rfl
def av {f:MF}{a b:ME}{δ:Ev}{x y:D}(h:a δ=some x)(hb:b δ=some y):ag f (ab a (ab b ah)) δ=f [x,y]:=by rw[call2,h,hb];rfl
def cE {f:MF}{a b c:ME}{δ:Ev}{x y z:D}(h:a δ=some x)(hb:b δ=some y)(hc:c δ=some z):ag f (ab a (ab b (ab c ah))) δ=f [x,y,z]:=by rw[Dr,h,hb,hc];rfl
def bO {k:Nat}{fv:List Nat}{i:MI}{g:MG}{c:MT}{e:ME}{δ:Ev}{xs:List D}(f:D->Option D)(hi:i δ=some xs)(hl:xs.length<=16777216)
 (h:∀x∈xs,∃δ1,g x (pick k fv δ)=some δ1/\((c δ1=some true/\∃d,e δ1=some d/\f x=some d)\/(c δ1=some false/\f x=none))) :
 bw k fv i g c e δ=some (.lst (xs.filterMap f)):=by
 unfold bw;rw[hi];simp only[Option.bind_some];rw[if_pos hl,rG f xs fun x hx=>?_]
 ·rfl
 ·obtain⟨δ1,e1,h | h⟩:=h x hx
  ·obtain⟨h1,d,h2,h3⟩:=h;rw[e1];simp[h1,h2,h3]
  ·obtain⟨h1,h3⟩:=h;rw[e1];simp[h1,h3]
def mK {g:MG}{body:MS}(P:Ev->Prop):∀(xs:List D) (δ:Ev),P δ->(∀x∈xs,∀δ,P δ->∃δ1 δ2,g x δ=some δ1/\(body δ1=some (.nx δ2)\/body δ1=some (.ct δ2))/\P δ2)->∃δ',dD g body xs δ=some (.nx δ')/\P δ'
 | [],δ,h0,_=>⟨δ,rfl,h0⟩
 | x::xs,δ,h0,h=>by
   obtain⟨δ1,δ2,e1,e2,h2⟩:=h x List.mem_cons_self δ h0;obtain⟨δ',e3,h3⟩:=mK P xs δ2 h2 fun y hy=>h y (List.mem_cons_of_mem _ hy);refine⟨δ',?_,h3⟩;rw[dD,e1];rcases e2 with e2 | e2 <;> simp[e2,e3]
def cx {i:MI}{g:MG}{body:MS}{δ:Ev}{xs:List D}(hi:i δ=some xs):i8 i g body δ=dD g body xs δ:=by unfold i8;rw[hi];rfl
end DL
namespace DL
open PySem PySem.Spec PyProof.Rows L2
noncomputable def kD:Key->D
 | .inl i=>.int i
 | .inr x=>.str x
def kT (ks:List Key):D:=.tup (ks.map kD)
def DcAt (H:Hp)(a:Addr)(t:Bool)(ks:List D)(xs:List V):Prop :=
 (t=false/\∃kvs:List (Key×V),H a=some (.dK kvs)/\ks=kvs.map (fun p=>kD p.1)/\xs=kvs.map (·.2)) \/
 (t=true/\∃kvs:List (List Key×V),H a=some (.dT kvs)/\ks=kvs.map (fun p=>kT p.1)/\xs=kvs.map (·.2))
def DcF (H:Hp)(a:Addr)(t:Bool)(ks:List D)(xs:List V):Prop :=
 (t=false/\∃(o:Obj) (kvs:List (Key×V)),H a=some (.frz o (.dK kvs))/\ks=kvs.map (fun p=>kD p.1)/\xs=kvs.map (·.2)) \/
 (t=true/\∃(o:Obj) (kvs:List (List Key×V)),H a=some (.frz o (.dT kvs))/\ks=kvs.map (fun p=>kT p.1)/\xs=kvs.map (·.2))
mutual
def Den (K:PySem.W.Frag)(H:Hp):D->V->Prop
 | .non,v=>v=.non
 | .bl b,v=>v=.bl b
 | .int i,v=>v=.int i
 | .str x,v=>v=.str x
 | .tup ds,v=>∃a xs,v=.ref a/\H a=some (.tup xs)/\Dens K H ds xs
 | .lst ds,v=>∃a xs,v=.ref a/\SqL K H a xs/\Dens K H ds xs
 | .dic t ks vs,v=>∃a xs,v=.ref a/\DcF H a t ks xs/\Dens K H vs xs
def Dens (K:PySem.W.Frag)(H:Hp):List D->List V->Prop
 | [],xs=>xs=[]
 | d::ds,xs=>∃x r,xs=x::r/\Den K H d x/\Dens K H ds r
end
section
variable {K:PySem.W.Frag}{H H':Hp}
def A1 {a:Addr}{xs:List V}(e:Same H H')(h:SqT K H a xs):SqT K H' a xs:=by
 rcases h with (h | ⟨o,h⟩) | h
 ·exact .inl (.inl (e _ _ h))
 ·exact .inl (.inr ⟨o,e _ _ h⟩)
 ·exact .inr h
def DcAt.mono {a:Addr}{t:Bool}{ks:List D}{xs:List V}(e:Same H H')(h:DcAt H a t ks xs):DcAt H' a t ks xs:=by
 rcases h with ⟨z,kvs,h,r⟩ | ⟨z,kvs,h,r⟩
 ·exact .inl ⟨z,kvs,e _ _ h,r⟩
 ·exact .inr ⟨z,kvs,e _ _ h,r⟩
def DcF.mono {a:Addr}{t:Bool}{ks:List D}{xs:List V}(e:Same H H')(h:DcF H a t ks xs):DcF H' a t ks xs:=by
 rcases h with ⟨z,o,kvs,h,r⟩ | ⟨z,o,kvs,h,r⟩
 ·exact .inl ⟨z,o,kvs,e _ _ h,r⟩
 ·exact .inr ⟨z,o,kvs,e _ _ h,r⟩
mutual
def Den.mono (e:Same H H'):∀(d:D) (v:V),Den K H d v->Den K H' d v
 | .non,_,h=>by simp only[Den] at h ⊢;exact h
 | .bl _,_,h=>by simp only[Den] at h ⊢;exact h
 | .int _,_,h=>by simp only[Den] at h ⊢;exact h
 | .str _,_,h=>by simp only[Den] at h ⊢;exact h
 | .tup ds,_,h=>by
   simp only[Den] at h ⊢;obtain⟨a,xs,e1,h1,h2⟩:=h;exact⟨a,xs,e1,e _ _ h1,Dens.mono e ds xs h2⟩
 | .lst ds,_,h=>by
   simp only[Den] at h ⊢;obtain⟨a,xs,e1,h1,h2⟩:=h;exact⟨a,xs,e1,e.seq h1,Dens.mono e ds xs h2⟩
 | .dic t ks ds,_,h=>by
   simp only[Den] at h ⊢;obtain⟨a,xs,e1,h1,h2⟩:=h;exact⟨a,xs,e1,h1.mono e,Dens.mono e ds xs h2⟩
def Dens.mono (e:Same H H'):∀(ds:List D) (xs:List V),Dens K H ds xs->Dens K H' ds xs
 | [],_,h=>by simp only[Dens] at h ⊢;exact h
 | d::ds,_,h=>by
   simp only[Dens] at h ⊢;obtain⟨x,r,e1,h1,h2⟩:=h;exact⟨x,r,e1,Den.mono e d x h1,Dens.mono e ds r h2⟩
end
def Dens.nil:Dens K H [] []:=by simp only[Dens]
def Dens.cons {d:D}{ds:List D}{x:V}{xs:List V}(h:Den K H d x)(hs:Dens K H ds xs):Dens K H (d::ds) (x::xs):=by
 simp only[Dens];exact⟨x,xs,rfl,h,hs⟩
def Dens.uncons {d:D}{ds:List D}{xs:List V}(h:Dens K H (d::ds) xs):∃x r,xs=x::r/\Den K H d x/\Dens K H ds r:=by
 simpa only[Dens] using h
def Dens.unnil {xs:List V}(h:Dens K H [] xs):xs=[]:=by simpa only[Dens] using h
def Dens.length:∀{ds:List D} {xs:List V},Dens K H ds xs->ds.length=xs.length
 | [],_,h=>by rw[h.unnil];rfl
 | d::ds,_,h=>by
   obtain⟨x,r,rfl,_,h2⟩:=h.uncons;simp[h2.length]
def Dens.get:∀{ds:List D} {xs:List V} {i:Nat} {d:D},Dens K H ds xs->ds[i]? = some d->∃x,xs[i]? = some x/\Den K H d x
 | [],_,_,_,_,e=>by simp at e
 | d::ds,_,i,d',h,e=>by
   obtain⟨x,r,rfl,h1,h2⟩:=h.uncons;cases i with
   | zero=>simp at e;subst e;exact⟨x,rfl,h1⟩
   | succ i=>simpa using h2.get (i:=i) (d:=d') (by simpa using e)
def Dens.append:∀{ds es:List D} {xs ys:List V},Dens K H ds xs->Dens K H es ys->Dens K H (ds++es) (xs++ys)
 | [],_,_,_,h,g=>by rw[h.unnil];exact g
 | d::ds,_,_,_,h,g=>by
   obtain⟨x,r,rfl,h1,h2⟩:=h.uncons;exact .cons h1 (h2.append g)
def Dens.take:∀{ds:List D} {xs:List V} (n:Nat),Dens K H ds xs->Dens K H (ds.take n) (xs.take n)
 | _,_,0,_=>by rw[List.take_zero,List.take_zero];exact .nil
 | [],_,n+1,h=>by rw[h.unnil];exact .nil
 | d::ds,_,n+1,h=>by
   obtain⟨x,r,rfl,h1,h2⟩:=h.uncons;exact .cons h1 (h2.take n)
def Dens.flat:∀{ds:List D} {xs:List V} (k:Nat),Dens K H ds xs->Dens K H (List.replicate k ds).flatten (List.replicate k xs).flatten
 | _,_,0,_=>.nil
 | ds,xs,k+1,h=>by
   rw[List.replicate_succ,List.replicate_succ,List.flatten_cons,List.flatten_cons];exact h.append (h.flat k)
def Den.int (i:Int):Den K H (.int i) (.int i):=by simp only[Den]
def Den.bl (b:Bool):Den K H (.bl b) (.bl b):=by simp only[Den]
def Den.non:Den K H .non .non:=by simp only[Den]
def Den.str (x:Str):Den K H (.str x) (.str x):=by simp only[Den]
def Den.tup {a:Addr}{ds:List D}{xs:List V}(h:H a=some (.tup xs))(hs:Dens K H ds xs):Den K H (.tup ds) (.ref a):=by
 simp only[Den];exact⟨a,xs,rfl,h,hs⟩
def Den.lst {a:Addr}{ds:List D}{xs:List V}(h:SqL K H a xs)(hs:Dens K H ds xs):Den K H (.lst ds) (.ref a):=by
 simp only[Den];exact⟨a,xs,rfl,h,hs⟩
def Den.int_inv {i:Int}{v:V}(h:Den K H (.int i) v):v=.int i:=by simpa only[Den] using h
def Den.bl_inv {i:Bool}{v:V}(h:Den K H (.bl i) v):v=.bl i:=by simpa only[Den] using h
def Den.str_inv {i:Str}{v:V}(h:Den K H (.str i) v):v=.str i:=by simpa only[Den] using h
def Den.non_inv {v:V}(h:Den K H .non v):v=.non:=by simpa only[Den] using h
def Den.tup_inv {ds:List D}{v:V}(h:Den K H (.tup ds) v):∃a xs,v=.ref a/\H a=some (.tup xs)/\Dens K H ds xs:=by simpa only[Den] using h
def Den.tup_sq {ds:List D}{v:V}(h:Den K H (.tup ds) v):∃a xs,v=.ref a/\SqT K H a xs/\Dens K H ds xs:=let ⟨a,xs,e,h1,h2⟩:=h.tup_inv;⟨a,xs,e,.of h1,h2⟩
def Den.lst_inv {ds:List D}{v:V}(h:Den K H (.lst ds) v):∃a xs,v=.ref a/\SqL K H a xs/\Dens K H ds xs:=by simpa only[Den] using h
def Den.dic {a:Addr}{t:Bool}{ks ds:List D}{xs:List V}(h:DcF H a t ks xs)(hs:Dens K H ds xs):Den K H (.dic t ks ds) (.ref a):=by
 simp only[Den];exact⟨a,xs,rfl,h,hs⟩
def Den.dic_inv {t:Bool}{ks ds:List D}{v:V}(h:Den K H (.dic t ks ds) v):∃a xs,v=.ref a/\DcF H a t ks xs/\Dens K H ds xs:=by simpa only[Den] using h
def aX {p:Addr}(h:H p=none)(o:HO):Same H (cr H p o):=fun b u q=>by rw[aN (aU q h)];exact q
def Dens.ints:∀(ns:List Int),Dens K H (ns.map D.int) (ns.map V.int)
 | []=>.nil
 | n::ns=>.cons (.int n) (Dens.ints ns)
noncomputable def hide (os:List Addr)(H:Hp):Hp:=fun b=>if b∈os then none else H b
noncomputable def AO:HO->Prop
 | .tup _=>False
 | _=>True
def Live (os:List Addr)(H:Hp):Prop:=∀a∈os,∃o,H a=some o/\AO o
section
variable {os:List Addr}{p:Addr}
def hide_le:Same (hide os H) H:=fun b o e=>by unfold hide at e;split at e;cases e;exact e
def hide_nil:hide [] H=H:=by funext b;simp[hide]
def aI {b:Addr}(h:b∉os):hide os H b=H b:=by simp[hide,h]
def bX {b:Addr}(h:b∈os):hide os H b=none:=by simp[hide,h]
def _root_.L2.Same.hd (g:Same H H'):Same (hide os H) (hide os H'):=fun b o e=>by
 unfold hide at e ⊢;split at e
 ·cases e
 ·rename_i h;rw[if_neg h];exact g b o e
def Live.mono (l:Live os H)(g:Same H H'):Live os H':=fun a h=>let ⟨o,e,n⟩:=l a h;⟨o,g _ _ e,n⟩
def Live.ne (l:Live os H)(h:H p=none):p∉os:=fun z=>by obtain⟨o,e,_⟩:=l p z;rw[h] at e;cases e
def xT (l:Live os H){xs:List V}(h:H p=some (.tup xs)):hide os H p=some (.tup xs):=by
 rw[aI fun z=>?_]
 ·exact h
 ·obtain⟨o,e,n⟩:=l p z;rw[h] at e;cases e;exact n
def re (l:Live os H)(h:H p=none)(o:HO):hide os (cr H p o) p=some o:=by rw[aI (l.ne h),bn]
def Den.newT {ds:List D}{xs:List V}(l:Live os H)(h:H p=none)(d:Dens K (hide os H) ds xs):Den K (hide os (cr H p (.tup xs))) (.tup ds) (.ref p):=.tup (re l h _) (d.mono (aX h _).hd _ _)
def Den.newL {ds:List D}{xs:List V}(l:Live os H)(h:H p=none)(d:Dens K (hide os H) ds xs):Den K (hide os (cr H p (.lst xs))) (.lst ds) (.ref p):=.lst (.of (re l h _)) (d.mono (aX h _).hd _ _)
def Den.tup_up {ds:List D}{v:V}(h:Den K (hide os H) (.tup ds) v):∃a xs,v=.ref a/\SqT K H a xs/\Dens K (hide os H) ds xs:=let ⟨a,xs,e,h1,h2⟩:=h.tup_inv;⟨a,xs,e,.of (hide_le _ _ h1),h2⟩
def Den.lst_up {ds:List D}{v:V}(h:Den K (hide os H) (.lst ds) v):∃a xs,v=.ref a/\SqL K H a xs/\Dens K (hide os H) ds xs:=let ⟨a,xs,e,h1,h2⟩:=h.lst_inv;⟨a,xs,e,hide_le.seq h1,h2⟩
def Den.up {d:D}{v:V}(h:Den K (hide os H) d v):Den K H d v:=h.mono hide_le _ _
end
def Own (K:PySem.W.Frag)(B H:Hp)(a:Addr):D->Prop
 | .lst ds=>∃xs,H a=some (.lst xs)/\Dens K B ds xs
 | .dic t ks vs=>∃xs,DcAt H a t ks xs/\Dens K B vs xs
 | _=>False
def Own.mono {os:List Addr}{a:Addr}{d:D}(g:Same H H')(h:Own K (hide os H) H a d):Own K (hide os H') H' a d:=by
 cases d with
 | lst ds=>obtain⟨xs,h1,h2⟩:=h;exact⟨xs,g _ _ h1,h2.mono g.hd _ _⟩
 | dic t ks vs=>obtain⟨xs,h1,h2⟩:=h;exact⟨xs,h1.mono g,h2.mono g.hd _ _⟩
 | _=>exact h
structure Sl (X:Cx)(os:List Addr)(H:Hp)(δ:Ev)(σ:L2.St):Prop where
 n:σ.length=X.N.length
 len:X.N.length<=δ.length
 pl:∀(i:Nat) (d:D),i<X.N.length->δ[i]? = some (some d)->∃v,σ[i]? = some (some v)/\Den X.K (hide os H) d v
 ow:∀(i:Nat) (d:D),i<X.N.length->δ[i]? = some none->δ[X.N.length+i]? = some (some d)->∃a,σ[i]? = some (some (.ref a))/\a∈os/\(X.fn ""=true->X.H₀ a=none)/\Own X.K (hide os H) H a d
 inj:∀(i j:Nat) (d e:D) (a:Addr),i<X.N.length->j<X.N.length->δ[i]? = some none->δ[j]? = some none->δ[X.N.length+i]? = some (some d)->δ[X.N.length+j]? = some (some e)->σ[i]? = some (some (.ref a))->σ[j]? = some (some (.ref a))->i=j
 live:Live os H
 keep:Same X.H₀ H
section
variable {os:List Addr}{X:Cx}
def Sl.mono {δ:Ev}{σ:L2.St}(e:Same H H')(h:Sl X os H δ σ):Sl X os H' δ σ :=
 ⟨h.n,h.len,fun i d l q=>let ⟨v,a,b⟩:=h.pl i d l q;⟨v,a,b.mono e.hd _ _⟩,fun i d l q1 q2=>let ⟨a,e1,e2,e4,e3⟩:=h.ow i d l q1 q2;⟨a,e1,e2,e4,e3.mono e⟩,h.inj,h.live.mono e,h.keep.trans e⟩
def Sl.set {δ:Ev}{σ:L2.St}{d:D}{v:V}(i:Nat)(hi:i<X.N.length)(h:Sl X os H δ σ)(r:Den X.K (hide os H) d v):Sl X os H (δ.set i (some d)) (σ.set i (some v)):=by
 have hid:i<δ.length:=Nat.lt_of_lt_of_le hi h.len;have ne:∀j,(δ.set i (some d))[j]? = some none->i≠j:=fun j q z=>by
  subst z;rw[List.getElem?_set_self hid] at q;cases q
 refine⟨by simpa using h.n,by simpa using h.len,fun j d' l q=>?_,fun j d' l q1 q2=>?_,fun j k d1 d2 a l1 l2 q1 q2 q3 q4 q5 q6=>?_,h.live,h.keep⟩
 ·by_cases hj:i=j
  ·subst hj;rw[List.getElem?_set_self hid] at q;cases q;exact⟨v,by rw[List.getElem?_set_self (by rw[h.n];exact hi)],r⟩
  ·rw[List.getElem?_set_ne hj] at q ⊢;exact h.pl j d' l q
 ·have hj:=ne j q1;rw[List.getElem?_set_ne hj] at q1 ⊢;rw[List.getElem?_set_ne (by omega)] at q2;exact h.ow j d' l q1 q2
 ·have hj:=ne j q1;have hk:=ne k q2;rw[List.getElem?_set_ne hj] at q1 q5;rw[List.getElem?_set_ne hk] at q2 q6;rw[List.getElem?_set_ne (by omega)] at q3;rw[List.getElem?_set_ne (by omega)] at q4;exact h.inj j k d1 d2 a l1 l2 q1 q2 q3 q4 q5 q6
end
end
def Fin (K:PySem.W.Frag)(os:List Addr)(H:Hp)(d:D)(Q:VK):Prop:=∀v H',Same H H'->Den K (hide os H') d v->Q v H'
def Fin.mono {K:PySem.W.Frag}{os:List Addr}{H H':Hp}{d:D}{Q:VK}(e:Same H H')(h:Fin K os H d Q):Fin K os H' d Q:=fun v H2 g r=>h v H2 (e.trans g) r
def DE (X:Cx)(e:Expr)(m:ME):Prop:=∃t:TE,PE X e t/\∀os σ H δ d Q,Sl X os H δ σ->m δ=some d->Fin X.K os H d Q->t σ H Q
def DF (X:Cx)(e:Expr)(m:ME):Prop:=∃t:TE,PE X e t/\∀os σ H δ d Q,Sl X os H δ σ->m δ=some d->(∀p H',Same H H'->H p=none->Own X.K (hide (p::os) H') H' p d->Q (.ref p) H')->t σ H Q
def ug {os:List Addr}{H:Hp}{p:Addr}(h:H p=none)(o:HO):Same (hide os H) (hide (p::os) (cr H p o)):=fun b u e=>by
 have hb:b∉os:=fun z=>by rw[bX z] at e;cases e
 rw[aI hb] at e;have hp:b≠p:=aU e h;rw[aI (by simp[hb,hp]),aN hp];exact e
def xK {os:List Addr}{H:Hp}{p:Addr}:Same (hide (p::os) H) (hide os H):=fun b u e=>by
 have hb:b∉p::os:=fun z=>by rw[bX z] at e;cases e
 rw[aI hb] at e;rw[aI (fun z=>hb (List.mem_cons_of_mem _ z))];exact e
def Own.den {K:PySem.W.Frag}{os:List Addr}{H:Hp}{p:Addr}{ds:List D}(hp:p∉os)(h:Own K (hide (p::os) H) H p (.lst ds)):Den K (hide os H) (.lst ds) (.ref p):=by
 obtain⟨xs,h1,h2⟩:=h;exact .lst (.of ((aI hp).trans h1)) (h2.mono xK _ _)
def Ck (m:ME):Prop:=∀δ d,m δ=some d->∃ds,d=.lst ds
def DF.de {X:Cx}{e:Expr}{m:ME}(h:DF X e m)(hm:Ck m):DE X e m:=by
 obtain⟨t,p,q⟩:=h;refine⟨t,p,fun os σ H δ d Q s m k=>?_⟩;obtain⟨ds,rfl⟩:=hm _ _ m;exact q os σ H δ _ Q s m fun a H' g ha o=>k _ H' g (o.den (s.live.ne ha))
def xF (m:MA):Ck (bK m):=fun δ d h=>by
 obtain⟨xs,_,h⟩:=Option.bind_eq_some_iff.mp h;cases h;exact⟨xs,rfl⟩
def og (B:Ev->Ev)(i:MI)(g:MG)(c:MT)(e:ME):Ck (ij B i g c e):=fun δ d h=>by
 obtain⟨xs,_,h⟩:=Option.bind_eq_some_iff.mp h;split at h
 ·obtain⟨ys,_,h⟩:=Option.bind_eq_some_iff.mp h;cases h;exact⟨ys,rfl⟩
 ·cases h
def DT (X:Cx)(e:Expr)(m:MT):Prop:=∃t:TT,PT X e t/\∀os σ H δ b Q,Sl X os H δ σ->m δ=some b->(∀H',Same H H'->Q b H')->t σ H Q
def DW (X:Cx)(e:Expr)(m:MT):Prop:=∃t:TT,PW X e t/\∀os σ H δ b Q,Sl X os H δ σ->m δ=some b->(∀H',Same H H'->Q b H')->t σ H Q
def DA (X:Cx)(es:List Expr)(m:MA):Prop:=(∀δ ds,m δ=some ds->ds.length=es.length)/\∃t:TA,PA X es t/\∀os σ H δ ds Q,Sl X os H δ σ->m δ=some ds->(∀vs H',Same H H'->Dens X.K (hide os H') ds vs->Q vs H')->t σ H Q
def DW.dt {X:Cx}{e:Expr}{m:MT}(h:DW X e m):DT X e m:=let ⟨t,p,q⟩:=h;⟨t,p.pt,q⟩
section
variable {X:Cx}{a b c e:Expr}{es:List Expr}{ma mb mc me:ME}{pos p:Pos}
def kh {i n:Nat}(h:Nat.blt i n=true):i<n:=Nat.le_of_ble_eq_true h
def B5 (i:Nat)(h:PE X e (jp i))(hi:Nat.blt i X.N.length=true:=by rfl):DE X e (ac i):=by
 refine⟨_,h,fun os σ H δ d Q s m k=>?_⟩;obtain⟨v,e1,r⟩:=s.pl i d (kh hi) (iw m);exact⟨v,e1,k v H (Same.refl _) r⟩
def vJ {d:D}{v:V}(h:PE X e (L2.tC v))(r:∀H,Den X.K H d v):DE X e (eC d):=by
 refine⟨_,h,fun os σ H δ d' Q s m k=>?_⟩;cases m;exact k v H (Same.refl _) (r _)
def af {i:Int}{j:Nat}:DE X (.Constant (.int i) j pos) (eC (.int i)):=vJ xr fun _=>.int i
def gX {i:Bool}{j:Nat}:DE X (.Constant (.bool i) j pos) (eC (.bl i)):=vJ Az fun _=>.bl i
def io {j:Nat}:DE X (.Constant .none j pos) (eC .non):=vJ sy fun _=>.non
def fS {x:Str}{j:Nat}:DE X (.Constant (.str x) j pos) (eC (.str x)):=vJ Bm fun _=>.str x
def bY {x:Str}{i:Int}{t:Tok}(hg:Gl X x)(hm:X.mg x=some (.int i t))(hd:(x==("__debug__":Str))=false:=by decide):DE X (.Name x pos) (eC (.int i)) :=
 vJ (t9 (v:=.int i) hg hm ⟨t,rfl⟩ hd) fun _=>.int i
def aj {α β:Type}{o:Option α}{f:α->Option β}{r:β}(h:o.bind f=some r):∃x,o=some x/\f x=some r:=by
 cases o with
 | none=>cases h
 | some x=>exact⟨x,rfl,h⟩
def rQ (X:Cx)(f:Value->Value->Sem Value)(g:D->D->Option D):Prop :=
 ∃r:R2,OpR X f r/\∀os H,Live os H->∀dx dy d x y Q,Den X.K (hide os H) dx x->Den X.K (hide os H) dy y->g dx dy=some d->Fin X.K os H d Q->r x y H Q
def EC (X:Cx)(f:Value->Sem Value)(g:D->Option D):Prop :=
 ∃r,DB X f r/\∀os H,Live os H->∀dx d x Q,Den X.K (hide os H) dx x->g dx=some d->Fin X.K os H d Q->r x H Q
def EH (X:Cx)(g:D->D->Option D):Prop :=
 ∃r:R2,IxR X r/\∀os H,Live os H->∀dx dy d x y Q,Den X.K (hide os H) dx x->Den X.K (hide os H) dy y->g dx dy=some d->Fin X.K os H d Q->r x y H Q
def jX (X:Cx)(f:Value)(g:MF):Prop :=
 ∃r,ee X f r/\∀os H,Live os H->∀ds d vs Q,Dens X.K (hide os H) ds vs->g ds=some d->Fin X.K os H d Q->r vs H Q
def two {g:D->D->Option D}{ta tb:TE}{r:R2}
 (qa:∀os σ H δ d Q,Sl X os H δ σ->ma δ=some d->Fin X.K os H d Q->ta σ H Q) (qb:∀os σ H δ d Q,Sl X os H δ σ->mb δ=some d->Fin X.K os H d Q->tb σ H Q)
 (qr:∀os H,Live os H->∀dx dy d x y Q,Den X.K (hide os H) dx x->Den X.K (hide os H) dy y->g dx dy=some d->Fin X.K os H d Q->r x y H Q) :
 ∀os σ H δ d Q,Sl X os H δ σ->am g ma mb δ=some d->Fin X.K os H d Q->Cm r ta tb σ H Q:=by
 intro os σ H δ d Q s m k;obtain⟨dx,e1,m⟩:=aj m;obtain⟨dy,e2,m⟩:=aj m;refine qa os σ H δ dx _ s e1 fun x H1 g1 r1=>?_;refine qb os σ H1 δ dy _ (s.mono g1) e2 fun y H2 g2 r2=>?_;exact qr os H2 (s.live.mono (g1.trans g2)) dx dy d x y Q (r1.mono (g2).hd _ _) r2 m (k.mono (g1.trans g2))
def ay {op:Operator}{g:D->D->Option D}(ho:rQ X (binaryOp op) g)(ha:DE X a ma)(hb:DE X b mb):DE X (.BinOp a op b pos) (am g ma mb):=by
 obtain⟨r,hr,qr⟩:=ho;obtain⟨ta,pa,qa⟩:=ha;obtain⟨tb,pb,qb⟩:=hb;exact⟨_,C1 hr pa pb,two qa qb qr⟩
def eG {op:CmpOp}{g:D->D->Option D}(ho:rQ X (compareOp op) g)(ha:DE X a ma)(hb:DE X b mb)(hm:behindInMarks op b=false):DE X (.Compare a [op] [b] pos) (am g ma mb):=by
 obtain⟨r,hr,qr⟩:=ho;obtain⟨ta,pa,qa⟩:=ha;obtain⟨tb,pb,qb⟩:=hb;exact⟨_,ua hr pa pb hm,two qa qb qr⟩
def ax {g:D->D->Option D}(ho:EH X g)(ha:DE X a ma)(hb:DE X b mb)(hs:pW b):DE X (.Subscript a b pos) (am g ma mb):=by
 obtain⟨r,hr,qr⟩:=ho;obtain⟨ta,pa,qa⟩:=ha;obtain⟨tb,pb,qb⟩:=hb;exact⟨_,Ay hr pa pb hs,two qa qb qr⟩
def uG {op:UnaryOp}{g:D->Option D}(ho:EC X (unaryOp op) g)(ha:DE X a ma):DE X (.UnaryOp op a pos) (gW g ma):=by
 obtain⟨r,hr,qr⟩:=ho;obtain⟨ta,pa,qa⟩:=ha;refine⟨_,C0 hr pa,fun os σ H δ d Q s m k=>?_⟩;obtain⟨dx,e1,m⟩:=aj m;exact qa os σ H δ dx _ s e1 fun x H1 g1 r1=>qr os H1 (s.live.mono g1) dx d x Q r1 m (k.mono g1)
def ko {op:BoolOp}(h:DE X a ma):DE X (.BoolOp op [a] pos) ma:=let ⟨t,p,q⟩:=h;⟨t,Bo p,q⟩
def mS {rest:List Expr}(ha:DE X a ma)(hb:DE X (.BoolOp .And (b::rest) pos) mb):DE X (.BoolOp .And (a::b::rest) pos) (pB ma mb):=by
 obtain⟨ta,pa,qa⟩:=ha;obtain⟨tb,pb,qb⟩:=hb;refine⟨_,Br pa pb,fun os σ H δ d Q s m k=>?_⟩;obtain⟨dx,e1,m⟩:=aj m;refine qa os σ H δ dx _ s e1 fun x H1 g1 r1=>?_;cases dx with
 | bl z =>
   refine⟨z,r1.bl_inv,?_⟩;cases z with
   | true=>exact sM (qb os σ H1 δ d Q (s.mono g1) m (k.mono g1))
   | false=>cases m;exact sN (k _ H1 g1 (.bl false))
 | _=>cases m
def B7 (ha:DE X a ma):DE X (.UnaryOp .Not a pos) (Dp ma):=by
 obtain⟨ta,pa,qa⟩:=ha;refine⟨_,Bp pa,fun os σ H δ d Q s m k=>?_⟩;obtain⟨dx,e1,m⟩:=aj m;refine qa os σ H δ dx _ s e1 fun x H1 g1 r1=>?_;cases dx with
 | bl z =>
   cases m;exact⟨z,r1.bl_inv,k _ H1 g1 (.bl _)⟩
 | _=>cases m
def qf {K:PySem.W.Frag}{os:List Addr}{H:Hp}{d:D}{x:V}{b:Bool}(r:Den K (hide os H) d x)(h:truth d=some b):Ag K x H b:=by
 cases d with
 | non=>rw[r.non_inv];cases h;exact rfl
 | bl z=>rw[r.bl_inv];cases h;exact rfl
 | int i=>rw[r.int_inv];cases h;exact rfl
 | str z=>cases h
 | dic t ks vs=>cases h
 | tup ds =>
   obtain⟨a,xs,rfl,h1,h2⟩:=r.tup_up;cases h;refine .inr (.inl ⟨xs,h1,?_⟩);have:=h2.length;cases ds <;> cases xs <;> simp_all
 | lst ds =>
   obtain⟨a,xs,rfl,h1,h2⟩:=r.lst_up;cases h;refine .inl ⟨xs,h1,?_⟩;have:=h2.length;cases ds <;> cases xs <;> simp_all
def cD (ha:DE X a ma)(he:∀whole,isTrue a X.env whole=(do let v <-whole;standAt a.pos;holding [v] (truthy v)):=by intro _;rfl):DT X a (tV ma):=by
 obtain⟨ta,pa,qa⟩:=ha;refine⟨_,xb pa he,fun os σ H δ b Q s m k=>?_⟩;obtain⟨dx,e1,m⟩:=aj m;exact qa os σ H δ dx _ s e1 fun x H1 g1 r1=>⟨b,qf r1 m,k H1 g1⟩
def bL {op:CmpOp}{g:D->D->Option D}(ho:rQ X (compareOp op) g)(ha:DE X a ma)(hb:DE X b mb)(hm:behindInMarks op b=false)
 (hg:∀x y d,g x y=some d->∃k,d=.bl k):DT X (.Compare a [op] [b] pos) (tV (am g ma mb)):=by
 obtain⟨r,hr,qr⟩:=ho;obtain⟨ta,pa,qa⟩:=ha;obtain⟨tb,pb,qb⟩:=hb;refine⟨_,oW hr pa pb hm,fun os σ H δ z Q s m k=>?_⟩;obtain⟨d,m1,m2⟩:=aj m;have hb':∃k,d=.bl k:=by
  obtain⟨x,_,m1⟩:=aj m1;obtain⟨y,_,m1⟩:=aj m1;exact hg x y d m1
 obtain⟨k',rfl⟩:=hb';cases m2;exact two qa qb qr os σ H δ _ _ s m1 fun v H1 g1 r1=>⟨z,r1.bl_inv,k H1 g1⟩
variable {na nb:MT}
def pC (ha:DT X a na):DW X (.BoolOp .And [a] pos) na:=let ⟨t,p,q⟩:=ha;⟨t,zc p,q⟩
def ik (ha:DT X a na):DW X (.BoolOp .Or [a] pos) na:=let ⟨t,p,q⟩:=ha;⟨t,Ba p,q⟩
def sX {rest:List Expr}(ha:DT X a na)(hb:DW X (.BoolOp .And (b::rest) pos) nb):DW X (.BoolOp .And (a::b::rest) pos) (j5 na nb):=by
 obtain⟨ta,pa,qa⟩:=ha;obtain⟨tb,pb,qb⟩:=hb;refine⟨_,Bb pa pb,fun os σ H δ z Q s m k=>?_⟩;obtain⟨x,e1,m⟩:=aj m;refine qa os σ H δ x _ s e1 fun H1 g1=>?_;cases x with
 | true=>exact sM (qb os σ H1 δ z Q (s.mono g1) m fun H2 g2=>k H2 (g1.trans g2))
 | false=>cases m;exact sN (k H1 g1)
def jL {rest:List Expr}(ha:DT X a na)(hb:DW X (.BoolOp .Or (b::rest) pos) nb):DW X (.BoolOp .Or (a::b::rest) pos) (la na nb):=by
 obtain⟨ta,pa,qa⟩:=ha;obtain⟨tb,pb,qb⟩:=hb;refine⟨_,CY pa pb,fun os σ H δ z Q s m k=>?_⟩;obtain⟨x,e1,m⟩:=aj m;refine qa os σ H δ x _ s e1 fun H1 g1=>?_;cases x with
 | false=>exact sN (qb os σ H1 δ z Q (s.mono g1) m fun H2 g2=>k H2 (g1.trans g2))
 | true=>cases m;exact sM (k H1 g1)
def dJ (ha:DT X a na):DT X (.UnaryOp .Not a pos) (cq na):=by
 obtain⟨ta,pa,qa⟩:=ha;refine⟨_,Bc pa,fun os σ H δ z Q s m k=>?_⟩;obtain⟨x,e1,m⟩:=aj m;cases m;exact qa os σ H δ x _ s e1 fun H1 g1=>k H1 g1
def ai:DA X [] ah:=⟨fun δ ds h=>by cases h;rfl,_,df,fun os σ H δ ds Q s m k=>by cases m;exact k [] H (Same.refl _) .nil⟩
def ae {mr:MA}(ha:DE X e me)(hr:DA X es mr)(hs:starEach (e::es) X.env=(false,eval e X.env)::starEach es X.env:=by rfl):DA X (e::es) (ab me mr):=by
 obtain⟨ta,pa,qa⟩:=ha;obtain⟨hl,tr,pr,qr⟩:=hr;refine⟨fun δ ds h=>?_,_,bN pa pr hs,fun os σ H δ ds Q s m k=>?_⟩
 ·obtain⟨x,_,h⟩:=aj h;obtain⟨xs,e2,h⟩:=aj h;cases h;simp[hl δ xs e2]
 ·obtain⟨x,e1,m⟩:=aj m;obtain⟨xs,e2,m⟩:=aj m;cases m;refine qa os σ H δ x _ s e1 fun v H1 g1 r1=>?_;exact qr os σ H1 δ xs _ (s.mono g1) e2 fun vs H2 g2 r2=>k (v::vs) H2 (g1.trans g2) (.cons (r1.mono (g2).hd _ _) r2)
def aR {x1:Nat}{m:MA}(h:DA X es m)(hn:es.length<=sizeLine):DE X (.Tuple es x1 pos) (aP m):=by
 obtain⟨hl,t,p,q⟩:=h;refine⟨_,Bl p,fun os σ H δ d Q s m k=>?_⟩;obtain⟨ds,e1,m⟩:=aj m;cases m;refine q os σ H δ ds _ s e1 fun vs H1 g1 r1=>⟨by rw[<-r1.length,hl δ ds e1];exact hn,fun a ha=>?_⟩;exact k _ _ (g1.trans (aX ha (.tup vs))) (.newT (s.live.mono g1) ha r1)
def fR {m:MA}(h:DA X es m)(hn:es.length<=sizeLine):DF X (.List es pos) (bK m):=by
 obtain⟨hl,t,p,q⟩:=h;refine⟨_,xq p,fun os σ H δ d Q s m k=>?_⟩;obtain⟨ds,e1,m⟩:=aj m;cases m;refine q os σ H δ ds _ s e1 fun vs H1 g1 r1=>⟨by rw[<-r1.length,hl δ ds e1];exact hn,fun a ha=>?_⟩;exact k a _ (g1.trans (aX ha (.lst vs))) (g1.free ha) ⟨vs,bn,r1.mono (ug ha _) _ _⟩
def ip {m:MA}(h:DA X es m)(hn:es.length<=sizeLine):DE X (.List es pos) (bK m):=(fR h hn).de (xF m)
def Am (K:PySem.W.Frag)(f:MF):Sp:=fun vs H Q _=>∃os ds r,Live os H/\Dens K (hide os H) ds vs/\f ds=some r/\Fin K os H r Q
def Ab {f:Addr}{fd:FuncData}{ps:List Str}{k:Nat}{x:Str}{fn:MF}{m:MA}(F:iu X.prog X.w X.K X.mg X.base nq k f fd ps (Am X.K fn))(hr:Room k X.A)(hg:Gl X x)(hm:X.mg x=some (.ref f))(hk:PySem.W.keepIn X.K (.ref f)=true)
 (hb:Binds X.K fd ps []) (ha:DA X (e::es) m) (hdb:(x==("__debug__":Str))=false:=by decide) (he:starEach (e::es) X.env=(false,eval e X.env)::starEach es X.env:=by rfl) (hpl:(backTo pos (starEach es X.env)).any (·.1)=false:=by rfl) :
 DE X (.Call (.Name x p) (e::es) [] pos) (ag fn m):=by
 obtain⟨hl,t,pt,q⟩:=ha;refine⟨_,ub F hr hg hm hk hb .nil AA pt hdb he hpl,fun os σ H δ d Q s m k=>?_⟩;obtain⟨ds,e1,m⟩:=aj m;refine q os σ H δ ds _ s e1 fun vs H1 g1 r1=>?_;rw[List.append_nil];exact⟨os,ds,d,s.live.mono g1,r1,m,k.mono g1⟩
def aW {id:String}{x:Str}{fn:MF}{m:MA}(hc:jX X (.builtin id) fn)(hg:Gl X x)(hm:X.mg x=none)(hv:bootBuiltins x=some (.builtin id))(ha:DA X (e::es) m)(hn:x≠"__name__":=by decide)(hdb:(x==("__debug__":Str))=false:=by decide)
 (he:starEach (e::es) X.env=(false,eval e X.env)::starEach es X.env:=by rfl) (hpl:(backTo pos (starEach es X.env)).any (·.1)=false:=by rfl) :
 DE X (.Call (.Name x p) (e::es) [] pos) (ag fn m):=by
 obtain⟨r,hr,qr⟩:=hc;obtain⟨hl,t,pt,q⟩:=ha;refine⟨_,lV hr hg hm hv pt hn hdb he hpl,fun os σ H δ d Q s m k=>?_⟩;obtain⟨ds,e1,m⟩:=aj m;exact q os σ H δ ds _ s e1 fun vs H1 g1 r1=>qr os H1 (s.live.mono g1) ds d vs Q r1 m (k.mono g1)
def gf {T:String}{x:Str}{fn:MF}{m:MA}(hc:jX X (.type T) fn)(hg:Gl X x)(hm:X.mg x=none)(hv:bootBuiltins x=some (.type T))(ha:DA X (e::es) m)(hn:x≠"__name__":=by decide)(hdb:(x==("__debug__":Str))=false:=by decide)
 (he:starEach (e::es) X.env=(false,eval e X.env)::starEach es X.env:=by rfl) (hpl:(backTo pos (starEach es X.env)).any (·.1)=false:=by rfl) :
 DE X (.Call (.Name x p) (e::es) [] pos) (ag fn m):=by
 obtain⟨r,hr,qr⟩:=hc;obtain⟨hl,t,pt,q⟩:=ha;refine⟨_,nV hr hg hm hv pt hn hdb he hpl,fun os σ H δ d Q s m k=>?_⟩;obtain⟨ds,e1,m⟩:=aj m;exact q os σ H δ ds _ s e1 fun vs H1 g1 r1=>qr os H1 (s.live.mono g1) ds d vs Q r1 m (k.mono g1)
end
section
variable {X:Cx}
def EQ (K:PySem.W.Frag):R2:=fun x y H Q=>∃l b xs ys,x=.ref l/\y=.ref b/\SqL K H l xs/\SqL K H b ys/\xs.length+ys.length<=sizeLine/\∀p,H p=none->Q (.ref p) (cr H p (.lst (xs++ys)))
def op_catL:OpR X (binaryOp .Add) (EQ X.K):=by
 intro pins s σ H x y v u Q I rx ry h;obtain⟨l,b,xs,ys,rfl,rfl,hl,hb,hz,q⟩:=h;cases rx;cases ry;obtain⟨its,r1,⟨⟨c1,d1,dt1,sl1⟩,n1,e1,c1',d1',t1'⟩,_⟩:=I.list hl;obtain⟨its2,r2,⟨⟨c2,d2,dt2,sl2⟩,n2,e2,c2',d2',t2'⟩,_⟩:=I.list hb;simp only at c1' d1' t1' c2' d2' t2';subst c1' d1' t1' c2' d2' t2';have l1:=r1.length;have l2:=r2.length;refine concat_meets ⟨_,e1,rfl⟩ ⟨_,e2,rfl⟩ noFill_list_add seq_list_add F.slot_list_add F.entry_list_add (F.args_list_add_2 _ _)
  (list_addW l b its.toArray its2.toArray n1 n2 none none sl1 sl2 (by rw[List.size_toArray,List.size_toArray];omega)) ⟨e1,e2,?_⟩
 have ea:its.toArray++its2.toArray=(its++its2).toArray:=by simp
 rw[ea];exact⟨.ref _,_,I.lnew (t':=s.toks) (r1.append r2) (by rw[List.length_append];omega),rfl,q _ I.fresh⟩
def EO (K:PySem.W.Frag):R2:=fun x y H Q=>∃a b xs ys,x=.ref a/\y=.ref b/\SqT K H a xs/\SqT K H b ys/\xs.length+ys.length<=sizeLine /\
 (xs=[]->Q (.ref b) H)/\(xs≠[]->ys=[]->Q (.ref a) H)/\(xs≠[]->ys≠[]->∀p,H p=none->Q (.ref p) (cr H p (.tup (xs++ys))))
def op_catTT:OpR X (binaryOp .Add) (EO X.K):=by
 intro pins s σ H x y v u Q I rx ry h;obtain⟨a,b,xs,ys,rfl,rfl,ha,hb,hz,q0,q1,q2⟩:=h;by_cases hx:xs=[]
 ·cases rx;cases ry;subst hx;obtain⟨its,r1,⟨⟨c1,d1,dt1,sl1⟩,e1,c1',n1,t1'⟩,_⟩:=I.tuple ha;obtain⟨its2,r2,⟨⟨c2,d2,dt2,sl2⟩,e2,c2',n2,t2'⟩,_⟩:=I.tuple hb;simp only at c1' t1' c2' t2';subst c1' t1' c2' t2';have hi:its=[]:=r1.nil_iff.mpr rfl;exact concat_meets ⟨_,e1,rfl⟩ ⟨_,e2,rfl⟩ noFill_tuple_add seq_tuple_add PySem.F.slot_tuple_add PySem.F.entry_tuple_add (PySem.F.args_tuple_add_2 _ _)
   (tuple_addW0 a b its.toArray its2.toArray n1 n2 d1 d2 sl1 sl2 (by simp[hi])) ⟨e1,e2,⟨.ref b,H,I,rfl,q0 rfl⟩⟩
 ·exact zp pins s σ H _ _ v u Q I rx ry ⟨a,b,xs,ys,rfl,rfl,ha,hb,hx,hz,q1 hx,q2 hx⟩
def di:sizeLine=16777216:=sizeLine_eq
def be:rQ X (binaryOp .Add) aT:=by
 refine⟨_,op_add.or (op_catL.or (op_catTT.or sE)),fun os H L dx dy d x y Q rx ry m k=>?_⟩;cases dx with
 | int i =>
   cases dy with
   | int j =>
     cases m;exact .inl ⟨i,j,rx.int_inv,ry.int_inv,k _ H (Same.refl _) (.int _)⟩
   | _=>cases m
 | lst xs =>
   cases dy with
   | lst ys =>
     have m':(if xs.length+ys.length<=16777216 then some (D.lst (xs++ys)) else none)=some d:=m;split at m'
     ·rename_i hz;cases m';obtain⟨a,vs,rfl,h1,h2⟩:=rx.lst_up;obtain⟨b,ws,rfl,h3,h4⟩:=ry.lst_up;refine .inr (.inl ⟨a,b,vs,ws,rfl,rfl,h1,h3,by rw[<-h2.length,<-h4.length,di];exact hz,fun p hp=>?_⟩);exact k _ _ (aX hp (.lst (vs++ws))) (.newL L hp (h2.append h4))
     ·cases m'
   | _=>cases m
 | tup xs =>
   cases dy with
   | tup ys =>
     have m':(if xs.length+ys.length<=16777216 then some (D.tup (xs++ys)) else none)=some d:=m;split at m'
     ·rename_i hz;cases m';obtain⟨a,vs,rfl,h1,h2⟩:=rx.tup_up;obtain⟨b,ws,rfl,h3,h4⟩:=ry.tup_up;refine .inr (.inr (.inl ⟨a,b,vs,ws,rfl,rfl,h1,h3,by rw[<-h2.length,<-h4.length,di];exact hz,fun e=>?_,fun _ e=>?_,fun _ _ p hp=>?_⟩))
      ·subst e;have:xs=[]:=by have:=h2.length;cases xs <;> simp_all
       subst this;exact k _ H (Same.refl _) ry
      ·subst e;have:ys=[]:=by have:=h4.length;cases ys <;> simp_all
       subst this;rw[List.append_nil] at k;exact k _ H (Same.refl _) rx
      ·exact k _ _ (aX hp (.tup (vs++ws))) (.newT L hp (h2.append h4))
     ·cases m'
   | _=>cases m
 | str x =>
   cases dy with
   | str y =>
     have m':(if x.length+y.length<=16777216 then some (D.str (x++y)) else none)=some d:=m;split at m'
     ·rename_i hz;cases m';exact .inr (.inr (.inr ⟨x,y,rx.str_inv,ry.str_inv,by rw[di];exact hz,k _ H (Same.refl _) (.str _)⟩))
     ·cases m'
   | _=>cases m
 | _=>cases m
def gr {g:Int->Int->Option D}{dx dy d:D}(h:oI g dx dy=some d):∃i j,dx=.int i/\dy=.int j/\g i j=some d:=by
 cases dx with
 | int i =>
   cases dy with
   | int j=>exact⟨i,j,rfl,rfl,h⟩
   | _=>cases h
 | _=>cases h
def ke:rQ X (binaryOp .Sub) kU:=by
 refine⟨_,Bu,fun os H L dx dy d x y Q rx ry m k=>?_⟩;obtain⟨i,j,rfl,rfl,m⟩:=gr m;cases m;exact⟨i,j,rx.int_inv,ry.int_inv,k _ H (Same.refl _) (.int _)⟩
def ca:rQ X (binaryOp .Mod) oMod:=by
 refine⟨_,Bv,fun os H L dx dy d x y Q rx ry m k=>?_⟩;obtain⟨i,j,rfl,rfl,m2⟩:=gr m;split at m2
 ·rename_i hj;cases m2;exact⟨i,j,rx.int_inv,ry.int_inv,hj,k _ H (Same.refl _) (.int _)⟩
 ·cases m2
def du:rQ X (binaryOp .FloorDiv) cQ:=by
 refine⟨_,zo,fun os H L dx dy d x y Q rx ry m k=>?_⟩;obtain⟨i,j,rfl,rfl,m2⟩:=gr m;split at m2
 ·rename_i hj;cases m2;exact⟨i,j,rx.int_inv,ry.int_inv,hj,k _ H (Same.refl _) (.int _)⟩
 ·cases m2
def kf:fillsNumberSlot (.type "tuple") "mul"=pure false :=
 PySem.fillsNumberSlot_seq (id:="tuple.__mul__") (r:=some (.builtin "tuple.__rmul__")) F.slot_tuple_mul.lookup (by decide +kernel) F.slot_tuple_rmul.lookup (by decide +kernel)
def oQ:seqRepeat? (.type "tuple")=pure (some (.builtin "tuple.__mul__")):=by
 unfold seqRepeat?;rw[PySem.seqSlot_of (T:="tuple") (name:="__mul__") (id:="tuple.__mul__") F.slot_tuple_mul.lookup (by decide +kernel),PySem.seqSlot_of (T:="tuple") (name:="__rmul__") (id:="tuple.__rmul__") F.slot_tuple_rmul.lookup (by decide +kernel)];rfl
def mG (a:Int)(t:Tok)(l:Addr)(items:Array Value)(n:Nat)(dd:Option Addr)(sl:Array (Option Value)) :
 Meets (Builtin.«int.__rmul__» ⟨[.int a t,.ref l],[]⟩) (fun _ R s=>s.heap.get? l=some { cls:=.type "tuple",dict:=dd,data:=.seq items n,slots:=sl }/\R (.ok (.ret Value.notImplemented)) s) :=
 .of_wp fun prog w A R s h=>by obtain⟨hp,g,d,tk,os⟩:=s;obtain⟨hl,h⟩:=h;wp_walk;exact⟨_,rfl,h⟩
end
def Fr (X:Cx)(os:List Addr)(H:Hp)(os':List Addr)(H':Hp):Prop:=Same (hide os H) (hide os' H')/\∀b∈os,X.H₀ b≠none->b∈os'
def Fr.of {X:Cx}{os:List Addr}{H H':Hp}(g:Same H H'):Fr X os H os H':=⟨g.hd,fun _ h _=>h⟩
def Fr.trans {X:Cx}{os os1 os2:List Addr}{H H1 H2:Hp}(a:Fr X os H os1 H1)(b:Fr X os1 H1 os2 H2):Fr X os H os2 H2:=⟨a.1.trans b.1,fun c h n=>b.2 c (a.2 c h n) n⟩
def Ok (X:Cx)(PX:Prop)(D:Ends)(os:List Addr)(H:Hp):Rs->Prop
 | .nx δ=>∀σ H' os',Fr X os H os' H'->Sl X os' H' δ σ->D.nx σ H'
 | .bk δ=>∀σ H' os',Fr X os H os' H'->Sl X os' H' δ σ->D.bk σ H'
 | .ct δ=>∀σ H' os',Fr X os H os' H'->Sl X os' H' δ σ->D.ct σ H'
 | .rt d=>∀v H' os',Fr X os H os' H'->Same X.H₀ H'->Den X.K (hide os' H') d v->D.rt v H'
 | .ex=>PX
def Ok.mono {X:Cx}{PX:Prop}{D:Ends}{os os':List Addr}{H H':Hp}{r:Rs}(e:Fr X os H os' H')(h:Ok X PX D os H r):Ok X PX D os' H' r:=by
 cases r with
 | nx δ=>exact fun σ H2 os2 g s=>h σ H2 os2 (e.trans g) s
 | bk δ=>exact fun σ H2 os2 g s=>h σ H2 os2 (e.trans g) s
 | ct δ=>exact fun σ H2 os2 g s=>h σ H2 os2 (e.trans g) s
 | rt d=>exact fun v H2 os2 g=>h v H2 os2 (e.trans g)
 | ex=>exact h
def DS (X:Cx)(PX:Prop)(st:Stmt)(m:MS):Prop:=∃t:TS,PS X st t/\∀os σ H δ r D,Sl X os H δ σ->m δ=some r->Ok X PX D os H r->t D σ H
def rO (X:Cx)(PX:Prop)(st:List Stmt)(m:MS):Prop:=∃t:TS,PSs X st t/\∀os σ H δ r D,Sl X os H δ σ->m δ=some r->Ok X PX D os H r->t D σ H
def DG (X:Cx)(e:Expr)(g:MG):Prop:=∃t:TG,PG X e t/\∀os v σ H d δ δ' Q,Sl X os H δ σ->Den X.K (hide os H) d v->g d δ=some δ'->(∀σ' H',Same H H'->Sl X os H' δ' σ'->Q σ' H')->t v σ H Q
def DK (X:Cx)(es:List Expr)(g:yK):Prop:=∃t:AN,Dv X es t/\∀os vs σ H ds δ δ' Q,Sl X os H δ σ->Dens X.K (hide os H) ds vs->g ds δ=some δ'->(∀σ' H',Same H H'->Sl X os H' δ' σ'->Q σ' H')->t vs σ H Q
section
variable {X:Cx}{PX:Prop}{st:Stmt}{rest sts sts':List Stmt}{m m':MS}{a b c e tg:Expr}{ma mb:ME}{mc:MT}{pos pos':Pos}
def br:rO X PX [] cH:=⟨_,ze,fun os σ H δ r D s m k=>by cases m;exact k σ H os (.of (Same.refl _)) s⟩
def ao (h:DS X PX st m):rO X PX [st] m:=let ⟨t,p,q⟩:=h;⟨t,lh p,q⟩
def ak (h1:DS X PX st m)(h2:rO X PX rest m'):rO X PX (st::rest) (aF m m'):=by
 obtain⟨t,p,q⟩:=h1;obtain⟨t',p',q'⟩:=h2;refine⟨_,jA p p',fun os σ H δ r D s m k=>?_⟩;obtain⟨r1,e1,m⟩:=aj m;refine q os σ H δ r1 _ s e1 ?_;cases r1 with
 | nx δ'=>exact fun σ' H' os' g s'=>q' os' σ' H' δ' r D s' m (k.mono g)
 | bk δ'=>cases m;exact k
 | ct δ'=>cases m;exact k
 | rt d=>cases m;exact k
 | ex=>cases m;exact k
def aC (h:DE X e ma):DS X PX (.Return (some e) pos) (bb ma):=by
 obtain⟨t,p,q⟩:=h;refine⟨_,xh p,fun os σ H δ r D s m k=>?_⟩;obtain⟨d,e1,m⟩:=aj m;cases m;exact q os σ H δ d _ s e1 fun v H' g r=>k v H' os (.of g) (s.keep.trans g) r
def b0 (hc:DT X c mc)(ha:rO X PX sts m)(hb:rO X PX sts' m'):DS X PX (.If c sts sts' pos) (gp mc m m'):=by
 obtain⟨tc,pc,qc⟩:=hc;obtain⟨ta,pa,qa⟩:=ha;obtain⟨tb,pb,qb⟩:=hb;refine⟨_,CZ pc pa pb,fun os σ H δ r D s m k=>?_⟩;obtain⟨x,e1,m⟩:=aj m;refine qc os σ H δ x _ s e1 fun H1 g1=>?_;cases x with
 | true=>exact sM (qa os σ H1 δ r D (s.mono g1) m (k.mono (.of g1)))
 | false=>exact sN (qb os σ H1 δ r D (s.mono g1) m (k.mono (.of g1)))
def zX {i:Nat}{x:Str}(h:PG X (.Name x pos) (gb i))(hi:Nat.blt i X.N.length=true:=by rfl):DG X (.Name x pos) (gN i):=by
 refine⟨_,h,fun os v σ H d δ δ' Q s r m k=>?_⟩;cases m;exact k _ H (Same.refl _) (s.set i (kh hi) r)
def lu:DK X [] iT:=by
 refine⟨_,t7,fun os vs σ H ds δ δ' Q s r m k=>?_⟩;cases ds with
 | nil=>cases m;exact⟨r.unnil,k σ H (Same.refl _) s⟩
 | cons d ds=>cases m
def cT {es:List Expr}{g:MG}{gs:yK}(h1:DG X e g)(h2:DK X es gs)
 (hs:(assignEach (e::es) X.env).map (·.2)=assign e X.env::(assignEach es X.env).map (·.2):=by rfl):DK X (e::es) (cf g gs):=by
 obtain⟨t,p,q⟩:=h1;obtain⟨t',p',q'⟩:=h2;refine⟨_,lU p p' hs,fun os vs σ H ds δ δ' Q s r m k=>?_⟩;cases ds with
 | nil=>cases m
 | cons d ds =>
   obtain⟨δ1,e1,m⟩:=aj m;obtain⟨x,xs,rfl,h1,h2⟩:=r.uncons;refine⟨x,xs,rfl,q os x σ H d δ δ1 _ s h1 e1 fun σ1 H1 g1 s1=>?_⟩;exact q' os xs σ1 H1 ds δ1 δ' Q s1 (h2.mono g1.hd _ _) m fun σ2 H2 g2 s2=>k σ2 H2 (g1.trans g2) s2
def pF {es:List Expr}{k:Nat}{gs:yK}(hc:X.calm=true)(h:DK X es gs)(hl:∀ds δ δ',gs ds δ=some δ'->ds.length=es.length)
 (hn:(assignEach es X.env).length=es.length:=by rfl) (hst:(assignEach es X.env).findIdx? (·.1)=none:=by rfl):DG X (.Tuple es k pos) (gT gs):=by
 obtain⟨t,p,q⟩:=h;refine⟨_,xp hc p hn hst,fun os v σ H d δ δ' Q s r m kq=>?_⟩;cases d with
 | tup ds =>
   obtain⟨a,xs,rfl,h1,h2⟩:=r.tup_up;exact⟨a,xs,rfl,h1,by rw[<-h2.length];exact hl ds δ δ' m,q os xs σ H ds δ δ' Q s h2 m kq⟩
 | _=>cases m
def iz (ds:List D)(δ δ':Ev)(h:iT ds δ=some δ'):ds.length=0:=by
 cases ds with
 | nil=>rfl
 | cons _ _=>cases h
def bT {g:MG}{gs:yK}{n:Nat}(h:∀ds δ δ',gs ds δ=some δ'->ds.length=n)(ds:List D)(δ δ':Ev)(e:cf g gs ds δ=some δ'):ds.length=n+1:=by
 cases ds with
 | nil=>cases e
 | cons d ds =>
   obtain⟨δ1,_,e⟩:=aj e;simp[h ds δ1 δ' e]
def aE {g:MG}(he:DE X e ma)(hg:DG X tg g)(hs:swapsWithSole [tg] e pos.line X.env=pure false:=by rfl)(hw:swappedStores [tg] e X.env=pure none:=by rfl)
 (h1:(assignEach [tg] X.env).map (·.2)=[assign tg X.env]:=by rfl):DS X PX (.Assign [tg] e pos) (bm ma g):=by
 obtain⟨t,p,q⟩:=he;obtain⟨t',p',q'⟩:=hg;refine⟨_,xk p p' hs hw h1,fun os σ H δ r D s m k=>?_⟩;obtain⟨d,e1,m⟩:=aj m;obtain⟨δ',e2,m⟩:=aj m;cases m;refine q os σ H δ d _ s e1 fun v H1 g1 r1=>?_;exact q' os v σ H1 d δ δ' _ (s.mono g1) r1 e2 fun σ2 H2 g2 s2=>k σ2 H2 os (.of (g1.trans g2)) s2
def BZ {i j:Nat}{x y:Str}{px py pt:Pos}{kt k2:Nat}{pt2:Pos}(hc:X.calm=true)(hN:X.N.Nodup)(hi:X.N[i]? = some x)(hj:X.N[j]? = some y)(hij:i≠j)
 (hx:X.env.scope.names.lookup x=some .local) (hy:X.env.scope.names.lookup y=some .local) (ha:DE X a ma) (hb:DE X b mb)
 (hw:swappedStores [.Tuple [.Name x px,.Name y py] kt pt] (.Tuple [a,b] k2 pt2) X.env=pure (some [x,y]))
 (hs:swapsWithSole [.Tuple [.Name x px,.Name y py] kt pt] (.Tuple [a,b] k2 pt2) pos.line X.env=pure false:=by rfl)
 (h1:starEach [a,b] X.env=(false,eval a X.env)::starEach [b] X.env:=by rfl) (h2:starEach [b] X.env=(false,eval b X.env)::starEach [] X.env:=by rfl) :
 DS X PX (.Assign [.Tuple [.Name x px,.Name y py] kt pt] (.Tuple [a,b] k2 pt2) pos) (CN i j ma mb):=by
 obtain⟨ta,pa,qa⟩:=ha;obtain⟨tb,pb,qb⟩:=hb;refine⟨_,Bh hc hN hi hj hij hx hy (bN pa (bN pb df h2) h1) hw hs,fun os σ H δ r D s m k=>?_⟩;obtain⟨dx,e1,m⟩:=aj m;obtain⟨dy,e2,m⟩:=aj m;cases m;refine qa os σ H δ dx _ s e1 fun v H1 g1 r1=>?_;refine qb os σ H1 δ dy _ (s.mono g1) e2 fun w H2 g2 r2=>?_;exact⟨v,w,rfl,k _ H2 os (.of (g1.trans g2)) (((s.mono (g1.trans g2)).set i (List.getElem?_eq_some_iff.mp hi).1 (r1.mono g2.hd _ _)).set j (List.getElem?_eq_some_iff.mp hj).1 r2)⟩
def Walk (K:PySem.W.Frag)(J:It)(B:Hp)(xs:List D):Prop:=∀i os1 H1,Live os1 H1->Same B (hide os1 H1)->(∀d,xs[i]? = some d->J.go i H1/\∀x H2,J.yld i H1 x H2->Same H1 H2/\Den K (hide os1 H2) d x)/\(i=xs.length->J.stop i H1)
def DI (X:Cx)(tg e:Expr)(m:MI):Prop:=∃wi:TI,PI X tg e wi/\∀os σ H δ xs R,Sl X os H δ σ->m δ=some xs->(∀J H',Same H H'->Walk X.K J (hide os H') xs->R J H')->wi σ H R
def eF {iter:Expr}{body:List Stmt}{mi:MI}{g:MG}(hp:PassesOwn (model X.prog X.w) X.A X.env X.xe)(hc:X.calm=true)(hi:DI X tg iter mi)(hg:DG X tg g)(hb:rO X PX body m)
 (hs:∀x,foldedSetIterable iter X.env x=pure x:=by intro _;rfl):DS X PX (.For tg iter body [] pos) (i8 mi g m):=by
 obtain⟨wi,pi,qi⟩:=hi;obtain⟨t',p',q'⟩:=hg;obtain⟨tb,pb,qb⟩:=hb;refine⟨_,sw hp hc pi p' pb hs,fun os σ H δ r D s me k=>?_⟩;obtain⟨xs,e1,me⟩:=aj me;refine qi os σ H δ xs _ s e1 fun J H1 g1 wk=>?_;refine⟨fun i n σ2 H2=>n=xs.length-i/\i<=xs.length/\∃os2 δ2,Fr X os H1 os2 H2/\Sl X os2 H2 δ2 σ2/\dD g m (xs.drop i) δ2=some r,⟨xs.length,by simp,Nat.zero_le _,os,δ,.of (Same.refl _),s.mono g1,by simpa using me⟩,?_⟩;rintro i n σ2 H2 ⟨rfl,hi,os2,δ2,g2,s2,m2⟩;obtain⟨w1,w2⟩:=wk i os2 H2 s2.live g2.1;by_cases hlt:i<xs.length
 ·have hx:xs[i]? = some xs[i]:=List.getElem?_eq_getElem hlt;obtain⟨go,yl⟩:=w1 _ hx;rw[List.drop_eq_getElem_cons hlt,dD] at m2;obtain⟨δ3,e3,m2⟩:=aj m2;obtain⟨r3,e4,m2⟩:=aj m2;refine .inr ⟨go,fun σ' H'=>∃m',m'<xs.length-i/\(m'=xs.length-(i+1)/\i+1<=xs.length/\∃os2 δ2,Fr X os H1 os2 H'/\Sl X os2 H' δ2 σ'/\dD g m (xs.drop (i+1)) δ2=some r),fun σ' H' h=>h,fun x H3 y=>?_⟩;obtain⟨g3,r1⟩:=yl x H3 y;refine q' os2 x σ2 H3 _ δ2 δ3 _ (s2.mono g3) r1 e3 fun σ4 H4 g4 s4=>?_;have g14:Fr X os H1 os2 H4:=g2.trans (.of (g3.trans g4));have again:∀δ5,dD g m (xs.drop (i+1)) δ5=some r->∀σ5 H5 os5,Fr X os2 H4 os5 H5->Sl X os5 H5 δ5 σ5->∃m',m'<xs.length-i/\(m'=xs.length-(i+1)/\i+1<=xs.length/\∃os2 δ2,Fr X os H1 os2 H5/\Sl X os2 H5 δ2 σ5/\dD g m (xs.drop (i+1)) δ2=some r) :=
   fun δ5 h5 σ5 H5 os5 g5 s5=>⟨xs.length-(i+1),by omega,rfl,hlt,os5,δ5,g14.trans g5,s5,h5⟩
  refine qb os2 σ4 H4 δ3 r3 _ s4 e4 ?_;have kk:Ok X PX D os2 H4 r->Ok X PX D os2 H4 r:=id;cases r3 with
  | nx δ5=>exact fun σ5 H5 os5 g5 s5=>again δ5 m2 σ5 H5 os5 g5 s5
  | ct δ5=>exact fun σ5 H5 os5 g5 s5=>again δ5 m2 σ5 H5 os5 g5 s5
  | bk δ5=>cases m2;exact fun σ5 H5 os5 g5 s5=>k σ5 H5 os5 ((Fr.of g1).trans (g14.trans g5)) s5
  | rt d=>cases m2;exact Ok.mono (r:=.rt d) ((Fr.of g1).trans g14) k
  | ex=>cases m2;exact k
 ·have e:i=xs.length:=by omega
  subst e;rw[List.drop_length] at m2;cases m2;exact .inl ⟨w2 rfl,k σ2 H2 os2 ((Fr.of g1).trans g2) s2⟩
def jN {body:List Stmt}(hp:PassesOwn (model X.prog X.w) X.A X.env X.xe)(hc:DT X c mc)(hb:rO X PX body m):DS X PX (.While c body [] pos) (gn mc m):=by
 obtain⟨tc,pc,qc⟩:=hc;obtain⟨tb,pb,qb⟩:=hb;refine⟨_,xg hp pc pb,fun os σ H δ r D s me k=>?_⟩;obtain⟨n0,h0⟩:=sj me;refine⟨fun n σ2 H2=>∃os2 δ2,Fr X os H os2 H2/\Sl X os2 H2 δ2 σ2/\j0 mc m n δ2=some r,⟨n0,os,δ,.of (Same.refl _),s,h0⟩,?_⟩;rintro n σ2 H2 ⟨os2,δ2,g2,s2,m2⟩;cases n with
 | zero=>cases m2
 | succ n =>
   rw[j0] at m2;obtain⟨b,e1,m2⟩:=aj m2;refine qc os2 σ2 H2 δ2 b _ s2 e1 fun H3 g3=>?_;cases b with
   | false =>
     rw[if_neg Bool.false_ne_true] at m2;cases m2;exact sN (k σ2 H3 os2 (g2.trans (.of g3)) (s2.mono g3))
   | true =>
     rw[if_pos rfl] at m2;obtain⟨r3,e3,m2⟩:=aj m2;refine sM ⟨fun σ' H'=>∃m',m'<n+1/\(∃os2 δ2,Fr X os H os2 H'/\Sl X os2 H' δ2 σ'/\j0 mc m m' δ2=some r),fun σ' H' h=>h,?_⟩;refine qb os2 σ2 H3 δ2 r3 _ (s2.mono g3) e3 ?_;have g23:=g2.trans (Fr.of g3);cases r3 with
     | nx δ5=>exact fun σ5 H5 os5 g5 s5=>⟨n,Nat.lt_succ_self _,os5,δ5,g23.trans g5,s5,m2⟩
     | ct δ5=>exact fun σ5 H5 os5 g5 s5=>⟨n,Nat.lt_succ_self _,os5,δ5,g23.trans g5,s5,m2⟩
     | bk δ5=>cases m2;exact fun σ5 H5 os5 g5 s5=>k σ5 H5 os5 (g23.trans g5) s5
     | rt d=>cases m2;exact Ok.mono (r:=.rt d) g23 k
     | ex=>cases m2;exact k
def uS {K:PySem.W.Frag}{B:Hp}{a:Addr}{ds:List D}{xs:List V}(h1:SqL K B a xs)(h2:Dens K B ds xs):Walk K (Ep K a) B ds:=by
 intro i os1 H1 L g;have gu:=g.trans hide_le;refine⟨fun d hd=>?_,fun hl=>⟨xs,gu.seq h1,by rw[<-h2.length,hl];exact Nat.le_refl _⟩⟩;obtain⟨x,hx,r⟩:=h2.get hd;refine⟨⟨xs,x,gu.seq h1,hx⟩,fun y H2 z=>?_⟩;obtain⟨rfl,z⟩:=z;have:=z xs (gu.seq h1);rw[hx] at this;cases this;exact⟨Same.refl _,r.mono g _ _⟩
def wb {K:PySem.W.Frag}{B:Hp}{a:Addr}{ds:List D}{xs:List V}(h1:SqT K B a xs)(h2:Dens K B ds xs):Walk K (Eo K a) B ds:=by
 intro i os1 H1 L g;have gu:=g.trans hide_le;refine⟨fun d hd=>?_,fun hl=>⟨xs,A1 gu h1,by rw[<-h2.length,hl];exact Nat.le_refl _⟩⟩;obtain⟨x,hx,r⟩:=h2.get hd;refine⟨⟨xs,x,A1 gu h1,hx⟩,fun y H2 z=>?_⟩;obtain⟨rfl,z⟩:=z;have:=z xs (A1 gu h1);rw[hx] at this;cases this;exact⟨Same.refl _,r.mono g _ _⟩
def rS {K:PySem.W.Frag}{H:Hp}(n:Nat):Walk K (Cw 0 n) H (cw n):=by
 intro i os1 H1 L g;have hlen:(cw n).length=n:=by simp[cw]
 refine⟨fun d hd=>?_,fun hl=>by rw[hlen] at hl;exact Nat.le_of_eq hl.symm⟩;have hi:i<n:=by
  have:=(List.getElem?_eq_some_iff.mp hd).1;rw[hlen] at this;exact this
 refine⟨hi,fun y H2 z=>?_⟩;obtain⟨rfl,rfl⟩:=z;have e:d=.int (0+(i:Int)):=by
  unfold cw at hd;rw[List.getElem?_map,List.getElem?_range hi] at hd;cases hd;simp
 subst e;exact⟨Same.refl _,.int _⟩
def zK (K:PySem.W.Frag)(tl:TE):TI:=fun σ H R=>tl σ H fun x H1=>∃a,x=.ref a/\(((∃xs,SqL K H1 a xs)/\R (Ep K a) H1)\/((∃xs,SqT K H1 a xs)/\R (Eo K a) H1))
def vg {l:Expr}{tl:TE}(hl:PE X l tl):PI X tg l (zK X.K tl):=by
 intro pins s σ H R I h;refine bU (hl pins s σ H _ I h) fun v s1 ⟨x,H1,I1,r1,q1⟩=>?_;obtain⟨a,e,q⟩:=q1;subst e;cases r1;have fp:∀b∈[s1.heap.objs.size],ir X pins H1 b:=fun b hb=>by
  have e:b=s1.heap.objs.size:=by simpa using hb
  subst e;exact I1.fpOk (Nat.le_refl _) (I1.hok.fresh (Nat.le_refl _))
 rcases q with ⟨⟨xs,hq⟩,q⟩ | ⟨⟨xs,hq⟩,q⟩
 ·obtain⟨its,rv,p,hz⟩:=I1.list hq;refine wpAny_pyIter_list p.isList ?_;exact⟨s1.heap.objs.size,[s1.heap.objs.size],_,_,H1,rfl,I1.kept (t':=s1.toks) fun b o e=>Heap.get?_push_of_some _ e,uV a _,⟨_,Heap.get?_push_size _ rfl,rfl,rfl⟩,fp,q⟩
 ·obtain⟨its,rv,p,hz⟩:=I1.tuple hq;refine wpAny_pyIter_tuple (show s1.heap.IsTuple a its.toArray from p) ?_;exact⟨s1.heap.objs.size,[s1.heap.objs.size],_,_,H1,rfl,I1.kept (t':=s1.toks) fun b o e=>Heap.get?_push_of_some _ e,rT a _,⟨_,Heap.get?_push_size _ rfl,rfl,rfl⟩,fp,q⟩
def bE {l:Expr}(h:DE X l ma):DI X tg l (bz ma):=by
 obtain⟨t,p,q⟩:=h;refine⟨_,vg p,fun os σ H δ xs R s m k=>?_⟩;obtain⟨d,e1,m⟩:=aj m;refine q os σ H δ d _ s e1 fun v H1 g1 r1=>?_;cases d with
 | tup ds =>
   cases m;obtain⟨a,ys,rfl,h1,h2⟩:=r1.tup_inv;exact⟨a,rfl,.inr ⟨⟨ys,.of (hide_le _ _ h1)⟩,k _ H1 g1 (wb (.of h1) h2)⟩⟩
 | lst ds =>
   cases m;obtain⟨a,ys,rfl,h1,h2⟩:=r1.lst_inv;exact⟨a,rfl,.inl ⟨⟨ys,hide_le.seq h1⟩,k _ H1 g1 (uS h1 h2)⟩⟩
 | _=>cases m
def mR {p:Pos}(hg:Gl X "range")(hm:X.mg "range"=none)(h:DE X a ma)(hs:starEach [a] X.env=(false,eval a X.env)::starEach [] X.env:=by rfl)(hs':starEach [a] X.env=[(false,eval a X.env)]:=by rfl) :
 DI X tg (.Call (.Name "range" p) [a] [] pos) (fo ma):=by
 obtain⟨t,pt,q⟩:=h;refine⟨_,vf hg hm (bN pt df hs) hs',fun os σ H δ xs R s m k=>?_⟩;obtain⟨d,e1,m⟩:=aj m;refine q os σ H δ d _ s e1 fun v H1 g1 r1=>?_;cases d with
 | int j =>
   have m':(if -1073741824<j/\j<1073741824 then some (cw j.toNat) else none)=some xs:=m;split at m'
   ·rename_i hj;cases m';rw[r1.int_inv];exact⟨j,rfl,by omega,by omega,k _ H1 g1 (rS _)⟩
   ·cases m'
 | _=>cases m
def qm {X:Cx}{os:List Addr}{H:Hp}{ds:List D}{vs:List V}{np kk:Nat}(L:Live os H)(hH:X.H₀=H)(d:Dens X.K (hide os H) ds vs)(hl:ds.length=np)(hp:np<=X.N.length)(hk:X.N.length<=kk) :
 Sl X os H (ds.map some++List.replicate (kk-np) none) (L2.start X.N vs):=by
 have hv:=d.length;have none_at:∀i z,ds.length<=i->(ds.map some++List.replicate (kk-np) none)[i]? = some (some z)->False:=fun i z hi hz=>by
  rw[List.getElem?_append_right (by simpa using hi),List.getElem?_replicate] at hz;split at hz <;> cases hz
 refine⟨by unfold L2.start;simp;omega,by simp;omega,fun i z hi hz=>?_,fun i z hi h1 h2=>(none_at _ z (by omega) h2).elim,fun i j z y a hi hj h1 h2 h3 h4=>(none_at _ z (by omega) h3).elim,L,hH ▸ Same.refl _⟩;by_cases hi':i<ds.length
 ·unfold L2.start;rw[List.getElem?_append_left (by simpa using hi'),List.getElem?_map] at hz;rw[List.getElem?_append_left (by rw[List.length_map,<-hv];exact hi'),List.getElem?_map];cases hq:ds[i]? with
  | none=>rw[hq] at hz;cases hz
  | some y =>
    rw[hq] at hz;cases hz;obtain⟨v,hv,rv⟩:=d.get hq;exact⟨v,by rw[hv];rfl,rv⟩
 ·exact(none_at i z (by omega) hz).elim
def Dl {P:Program}{w:World}{K:PySem.W.Frag}{mg:Str->Option Value}{base:Heap}{x qual:Str}{st:Stmt}{f:Addr}{fd:FuncData}{N ps:List Str}{k kk:Nat}(hkk:N.length<=kk)(F:Fun K x qual st f fd)(S:eW N ps (aA st))
 (h:∀(cdv:Value) (A:Around) (outer:List Env) (s:Shared) (H:Hp) (E:XK),Room k (A.deeper (envOfC qual (aA st) s.heap.objs.size f cdv)) ->
  rO (kr nq P w K mg base N qual (aA st) f cdv A outer s H E).nox False (cW st) m) :
 iu P w K mg base nq (k+1) f fd ps (Am K (dE ps.length kk m)):=by
 have hpl:ps.length<=N.length:=by have:=congrArg List.length S.pre;rw[List.length_take] at this;omega
 have inv:∀ds r,dE ps.length kk m ds=some r->ds.length=ps.length/\((m (ds.map some++List.replicate (kk-ps.length) none)=some (.rt r))\/(∃δ,m (ds.map some++List.replicate (kk-ps.length) none)=some (.nx δ)/\r=.non)):=by
  intro ds r e;unfold dE at e;split at e
  ·rename_i hl;obtain⟨q,e1,e⟩:=aj e;refine⟨hl,?_⟩;cases q with
   | rt d=>cases e;exact .inl e1
   | nx δ=>cases e;exact .inr ⟨δ,e1,rfl⟩
   | bk δ=>cases e
   | ct δ=>cases e
   | ex=>cases e
  ·cases e
 refine F.ok S (fun vs H Q E hq=>?_) (fun cdv A outer s H vs Q E hr hq=>?_)
 ·obtain⟨os,ds,r,L,d,e,_⟩:=hq;rw[<-d.length];exact(inv ds r e).1
 ·obtain⟨os,ds,r,L,d,e,kq⟩:=hq;obtain⟨t,p,q⟩:=h cdv A outer s H E hr;obtain⟨hl,e2⟩:=inv ds r e;have s0:=qm (X:=(kr nq P w K mg base N qual (aA st) f cdv A outer s H E).nox) (kk:=kk) L rfl d hl hpl hkk;refine⟨t,p,?_⟩;rcases e2 with e2 | ⟨δ,e2,e3⟩
  ·refine q os _ H _ (.rt r) _ s0 e2 fun v H' os' fr sm dn=>kq v H' sm (dn.mono (fun b o z=>?_) _ _);have hb:b∉os':=fun y=>by rw[bX y] at z;cases z
   rw[aI hb] at z;have hb2:b∉os:=fun y=>hb (fr.2 b y fun n=>by
    obtain⟨o',e',_⟩:=L b y;have n':H b=none:=n;rw[n'] at e';cases e')
   rw[aI hb2];exact z
  ·subst e3;exact q os _ H _ (.nx δ) _ s0 e2 fun σ H' os' fr sl=>kq .non H' sl.keep .non
end
noncomputable def ku (cells:List (Str×Addr)):List (Str×NameKind)->List (Str×Addr)
 | []=>[]
 | (n,k)::r=>ku cells r++(if k==.free then (match cells.lookup n with | some c=>[(n,c)] | none=>[]) else [])
def jO {cells:List (Str×Addr)}{x:Str}{c:Addr}:∀{names:List (Str×NameKind)},(x,c)∈ku cells names->cells.lookup x=some c
 | [],h=>by cases h
 | (n,k)::r,h=>by
   unfold ku at h;rcases List.mem_append.mp h with h | h
   ·exact jO h
   ·split at h
    ·split at h
     ·rename_i c' e;have:=List.mem_singleton.mp h;cases this;exact e
     ·cases h
    ·cases h
def mW {cells:List (Str×Addr)}{x:Str}{c:Addr}(hc:cells.lookup x=some c):∀{names:List (Str×NameKind)},(x,NameKind.free)∈names->(x,c)∈ku cells names
 | [],h=>by cases h
 | (n,k)::r,h=>by
   unfold ku;rcases List.mem_cons.mp h with h | h
   ·cases h;refine List.mem_append_right _ ?_;rw[if_pos (by rfl),hc];exact List.mem_singleton.mpr rfl
   ·exact List.mem_append_left _ (mW hc h)
def fQ {x:Str}{c:Addr}:∀{l:List (Str×Addr)},(x,c)∈l->∃c',l.lookup x=some c'
 | [],h=>by cases h
 | (n,d)::r,h=>by
   rw[List.lookup_cons];cases hx:x==n with
   | true=>exact⟨d,rfl⟩
   | false =>
     rcases List.mem_cons.mp h with h | h
     ·cases h;rw[beq_self_eq_true] at hx;cases hx
     ·exact fQ h
def tm {sc:Scope}{env:Env}(h:∀y∈sc.names,y.2=.free->∃c,env.cells.lookup y.1=some c):closureFor sc env=pure (ku env.cells sc.names):=by
 have go:∀(names:List (Str×NameKind)),(∀y∈names,y.2=.free->∃c,env.cells.lookup y.1=some c)->∀(acc:List (Str×Addr)),
  (forIn names acc fun (x:Str×NameKind) (r:List (Str×Addr))=>(if (x.2==NameKind.free)=true then do let c <-cellOf env x.1;pure (ForInStep.yield ((x.1,c)::r)) else pure (ForInStep.yield r):Sem (ForInStep (List (Str×Addr)))))=pure (ku env.cells names++acc):=by
  intro names;induction names with
  | nil=>intro _ acc;rfl
  | cons y r ih =>
    intro h acc;obtain⟨n,k⟩:=y;rw[List.forIn_cons];unfold ku;by_cases hk:k=.free
    ·subst hk;obtain⟨c,hc⟩:=h (n,.free) List.mem_cons_self rfl;have e1:cellOf env n=pure c:=by unfold cellOf;rw[hc]
     simp only[beq_self_eq_true,if_true,e1,pure_bind,hc];rw[ih (fun y hy=>h y (List.mem_cons_of_mem _ hy))];rw[List.append_assoc];rfl
    ·have hk':(k==NameKind.free)=false:=by simpa using hk
     simp only[hk',Bool.false_eq_true,if_false,pure_bind,List.append_nil];exact ih (fun y hy=>h y (List.mem_cons_of_mem _ hy)) acc
 have:=go sc.names h [];rw[List.append_nil] at this;unfold closureFor;first
  | (rw[show (pure (ku env.cells sc.names):Sem _)=(pure (ku env.cells sc.names) >>= fun cs=>pure cs) from rfl,<-this];rfl)
  | (simp only[this,pure_bind];done)
  | (refine Eq.trans ?_ this;simp)
abbrev fV (X:Cx)(sc:Scope)(N:List Str)(C:Addr)(s:Shared)(H:Hp)(fp:List Addr):Cx where
 prog:=X.prog
 w:=X.w
 K:=X.K
 mg:=X.mg
 base:=X.base
 A:=X.A
 N:=N
 s₀:=s
 H₀:=H
 env:=compEnvC sc (ku X.env.cells sc.names) C X.env
 outer:=X.stack
 stack:=X.stack
 ex:=fp
 fn:=fun _=>false
 calm:=X.calm
 pn:=[]
 xe:=fun _ _=>False
structure bC (scX sc:Scope)(NX N:List Str)(k:Nat)(fv:List Nat):Prop where
 kind:sc.kind=.function
 nocell:∀y∈sc.names,y.2≠.cell
 names:∀y∈sc.names,y.2=.local->sc.names.lookup y.1=some .local
 freeX:∀y∈sc.names,y.2=.free->scX.names.lookup y.1=some .cell
 len:N.length=k+fv.length
 nd:N.Nodup
 fvs:∀t,t<fv.length->NX[fv.getD t 0]? = N[k+t]?/\(N[k+t]?.bind fun x=>sc.names.lookup x)=some .free
def pX (Y:Cx):List Expr->MT->Prop
 | [],m=>m=tT
 | [c],m=>DT Y c m
 | _,_=>False
def Below (k:Nat)(g:MG):Prop:=∀d δ δ',g d δ=some δ'->δ'.length=δ.length/\∀i,k<=i->δ'[i]? = δ[i]?
def aS {k i:Nat}(h:i<k):Below k (gN i):=by
 intro d δ δ' e;cases e;exact⟨by simp,fun j hj=>by rw[List.getElem?_set_ne (by omega)]⟩
def pY (k:Nat)(g:yK):Prop:=∀ds δ δ',g ds δ=some δ'->δ'.length=δ.length/\∀i,k<=i->δ'[i]? = δ[i]?
def tz {k:Nat}:pY k iT:=by
 intro ds δ δ' e;cases ds with
 | nil=>cases e;exact⟨rfl,fun _ _=>rfl⟩
 | cons _ _=>cases e
def kR {k:Nat}{g:MG}{gs:yK}(h:Below k g)(hs:pY k gs):pY k (cf g gs):=by
 intro ds δ δ' e;cases ds with
 | nil=>cases e
 | cons d ds =>
   obtain⟨δ1,e1,e⟩:=aj e;obtain⟨a1,a2⟩:=h d δ δ1 e1;obtain⟨b1,b2⟩:=hs ds δ1 δ' e;exact⟨b1.trans a1,fun i hi=>(b2 i hi).trans (a2 i hi)⟩
def vV {k:Nat}{gs:yK}(h:pY k gs):Below k (gT gs):=by
 intro d δ δ' e;cases d with
 | tup ds=>exact h ds δ δ' e
 | _=>cases e
section
variable {X:Cx}{scX sc:Scope}{NX N:List Str}{k:Nat}{fv:List Nat}
def fC {α:Type}(k:Nat)(fv:List Nat)(δ:List (Option α)):(pick k fv δ).length=k+fv.length:=by simp[pick]
def nU {α:Type}{k:Nat}{fv:List Nat}{δ:List (Option α)}{i:Nat}{d:α}(h:(pick k fv δ)[i]? = some (some d)):∃t j,i=k+t/\fv[t]? = some j/\δ[j]? = some (some d):=by
 unfold pick at h;by_cases hi:i<k
 ·rw[List.getElem?_append_left (by simpa using hi),List.getElem?_replicate] at h;split at h <;> cases h
 ·rw[List.getElem?_append_right (by simpa using hi),List.length_replicate,List.getElem?_map] at h;cases q:fv[i-k]? with
  | none=>rw[q] at h;cases h
  | some j =>
    rw[q] at h;refine⟨i-k,j,by omega,q,?_⟩;exact iw (Option.some.inj h)
def li {α:Type}{k:Nat}{fv:List Nat}{δ:List (Option α)}{t j:Nat}{d:α}(h:fv[t]? = some j)(hd:δ[j]? = some (some d)):(pick k fv δ)[k+t]? = some (some d):=by
 unfold pick;rw[List.getElem?_append_right (by simp),List.length_replicate,List.getElem?_map,show k+t-k=t by omega,h];simp[slot,hd]
def sI {α:Type}:∀{l:List α} {i j:Nat},l.Nodup->(hi:i<l.length)->(hj:j<l.length)->l[i]=l[j]->i=j
 | [],_,_,_,hi,_,_=>absurd hi (by simp)
 | a::l,0,0,_,_,_,_=>rfl
 | a::l,0,j+1,nd,_,hj,e=>by
   rw[List.nodup_cons] at nd;exact absurd (by rw[show a=l[j]'(by simpa using hj) from by simpa using e];exact List.getElem_mem _) nd.1
 | a::l,i+1,0,nd,hi,_,e=>by
   rw[List.nodup_cons] at nd;exact absurd (by rw[show a=l[i]'(by simpa using hi) from by simpa using e.symm];exact List.getElem_mem _) nd.1
 | a::l,i+1,j+1,nd,hi,hj,e=>by
   rw[List.nodup_cons] at nd;exact congrArg (·+1) (sI (l:=l) nd.2 (by simpa using hi) (by simpa using hj) (by simpa using e))
def uy (S:bC scX sc NX N k fv){t j:Nat}(h:fv[t]? = some j):j<NX.length:=by
 have ht:t<fv.length:=(List.getElem?_eq_some_iff.mp h).1;obtain⟨q1,q2⟩:=S.fvs t ht;have hj:fv.getD t 0=j:=by rw[List.getD_eq_getElem?_getD,h];rfl
 rw[hj] at q1;cases e:N[k+t]? with
 | none=>rw[e] at q2;cases q2
 | some x=>rw[e] at q1;exact(List.getElem?_eq_some_iff.mp q1).1
structure Blk (X:Cx)(k:Nat)(fv:List Nat)(B:Ev->Ev):Prop where
 len:∀δ,k+fv.length<=(B δ).length
 pl:∀δ i d,i<k+fv.length->(B δ)[i]? = some (some d)->∃t j,i=k+t/\fv[t]? = some j/\δ[j]? = some (some d)
 own:∀δ i,i<k->(B δ)[i]? = some none
 ow:∀δ i d,X.N.length<=δ.length->i<k+fv.length->(B δ)[i]? = some none->(B δ)[k+fv.length+i]? = some (some d)->∃t j,i=k+t/\fv[t]? = some j/\(j<X.N.length->δ[j]? = some none)/\δ[X.N.length+j]? = some (some d)
def m5:Blk X k fv (pick k fv):=by
 refine⟨fun δ=>Nat.le_of_eq (fC k fv δ).symm,fun δ i d _ h=>nU h,fun δ i h=>?_,fun δ i d _ _ _ h=>?_⟩
 ·unfold pick;rw[List.getElem?_append_left (by simpa using h),List.getElem?_replicate,if_pos h]
 ·rw[List.getElem?_eq_none (by rw[fC];omega)] at h;cases h
def Cb {B:Ev->Ev}(hB:Blk X k fv B)(S:bC scX sc NX N k fv)(hN:X.N=NX){os:List Addr}{H:Hp}{δ:Ev}{σ:L2.St}{C:Addr}{s:Shared}{fp:List Addr}(sl:Sl X os H δ σ):Sl (fV X sc N C s H fp) os H (B δ) (pick k fv σ):=by
 have hl:(fV X sc N C s H fp).N.length=k+fv.length:=S.len;refine⟨by rw[fC,hl],by rw[hl];exact hB.len δ,fun i d hi h=>?_,fun i d hi h1 h2=>?_,fun i i' d e a hi hi' h1 h1' h2 h2' h3 h3'=>?_,sl.live,Same.refl _⟩
 ·rw[hl] at hi;obtain⟨t,j,rfl,e1,e2⟩:=hB.pl δ i d hi h;obtain⟨v,e3,r⟩:=sl.pl j d (by rw[hN];exact uy S e1) e2;exact⟨v,li e1 e3,r⟩
 ·rw[hl] at hi h2;obtain⟨t,j,rfl,e1,e2,e3⟩:=hB.ow δ i d sl.len hi h1 h2;have hj:j<X.N.length:=by rw[hN];exact uy S e1
  obtain⟨a,q1,q2,_,q3⟩:=sl.ow j d hj (e2 hj) e3;exact⟨a,li e1 q1,q2,fun z=>absurd (show false=true from z) Bool.false_ne_true,q3⟩
 ·rw[hl] at hi hi' h2 h2';obtain⟨t,j,rfl,e1,e2,e3⟩:=hB.ow δ i d sl.len hi h1 h2;obtain⟨t',j',rfl,e1',e2',e3'⟩:=hB.ow δ i' e sl.len hi' h1' h2';have hj:j<X.N.length:=by rw[hN];exact uy S e1
  have hj':j'<X.N.length:=by rw[hN];exact uy S e1'
  obtain⟨a1,q1,_⟩:=sl.ow j d hj (e2 hj) e3;obtain⟨a2,q1',_⟩:=sl.ow j' e hj' (e2' hj') e3';have p1:=li (k:=k) e1 q1;have p2:=li (k:=k) e1' q1';rw[h3] at p1;rw[h3'] at p2;cases p1;cases p2;have ej:=sl.inj j j' d e a hj hj' (e2 hj) (e2' hj') e3 e3' q1 q1';subst ej;obtain⟨f1,_⟩:=S.fvs t (List.getElem?_eq_some_iff.mp e1).1;obtain⟨f2,_⟩:=S.fvs t' (List.getElem?_eq_some_iff.mp e1').1;have g1:fv.getD t 0=j:=by rw[List.getD_eq_getElem?_getD,e1];rfl
  have g2:fv.getD t' 0=j:=by rw[List.getD_eq_getElem?_getD,e1'];rfl
  rw[g1] at f1;rw[g2] at f2;have nd:=S.nd;have l1:k+t<N.length:=by rw[S.len];omega
  have l2:k+t'<N.length:=by rw[S.len];omega
  rw[f1,List.getElem?_eq_getElem l1,List.getElem?_eq_getElem l2] at f2;exact sI nd l1 l2 (Option.some.inj f2)
def Sl.back {B:Ev->Ev}{Y:Cx}(hB:Blk X k fv B)(hY:Y.N.length=k+fv.length){os:List Addr}{H:Hp}{δ δ1:Ev}{σ:L2.St}(s:Sl Y os H δ1 σ)(hx:X.N.length<=δ.length)(hl:δ1.length=(B δ).length)(hb:∀i,k<=i->δ1[i]? = (B δ)[i]?):Sl Y os H (B δ) σ:=by
 have go:∀i d,i<Y.N.length->(B δ)[i]? = some none->(B δ)[Y.N.length+i]? = some (some d)->δ1[i]? = some none/\δ1[Y.N.length+i]? = some (some d):=fun i d hi h1 h2=>by
  rw[hY] at hi;obtain⟨t,j,rfl,_⟩:=hB.ow δ i d hx hi h1 (by rw[<-hY];exact h2);exact⟨(hb _ (Nat.le_add_right _ _)).trans h1,(hb _ (by rw[hY];omega)).trans h2⟩
 refine⟨s.n,by rw[hY];exact hB.len δ,fun i d hi h=>?_,fun i d hi h1 h2=>?_,fun i j d e a hi hj h1 h2 h3 h4 h5 h6=>?_,s.live,s.keep⟩
 ·obtain⟨t,j,rfl,_,_⟩:=hB.pl δ i d (by rw[<-hY];exact hi) h;exact s.pl _ d hi ((hb _ (Nat.le_add_right _ _)).trans h)
 ·obtain⟨q1,q2⟩:=go i d hi h1 h2;exact s.ow i d hi q1 q2
 ·obtain⟨q1,q2⟩:=go i d hi h1 h3;obtain⟨q3,q4⟩:=go j e hj h2 h4;exact s.inj i j d e a hi hj q1 q3 q2 q4 h5 h6
def jy {env:Env}:∀{names:List (Str×NameKind)} {x:Str},(∀y∈names,y.2≠.cell) ->
 ((names.map fun (n,k)=>if (k==NameKind.free&&env.scope.kind==.function&&env.kindOf n==some .cell) then (n,NameKind.cell) else (n,k)).lookup x=some .cell \/
  (names.map fun (n,k)=>if (k==NameKind.free&&env.scope.kind==.function&&env.kindOf n==some .cell) then (n,NameKind.cell) else (n,k)).lookup x=some .free)->names.lookup x=some .free
 | [],_,_,h=>by rcases h with h | h <;> cases h
 | (n,k)::r,x,hc,h=>by
   have ih:=@jy env r x fun y hy=>hc y (List.mem_cons_of_mem _ hy);rw[List.map_cons] at h;have e1:∀q:Str×NameKind,q=(if (k==NameKind.free&&env.scope.kind==.function&&env.kindOf n==some .cell) then (n,NameKind.cell) else (n,k))->q.1=n:=fun q hq=>by rw[hq];split <;> rfl
   rw[List.lookup_cons];have hk:=hc (n,k) List.mem_cons_self;cases hx:x==n with
   | true =>
     by_cases hf:k=.free
     ·subst hf;rfl
     ·have hf':(k==NameKind.free)=false:=by simpa using hf
      simp only[hf',Bool.false_and,Bool.false_eq_true,if_false,List.lookup_cons,hx] at h;rcases h with h | h
      ·cases h;exact absurd rfl hk
      ·cases h;exact absurd rfl hf
   | false =>
     refine ih ?_;by_cases hq:(k==NameKind.free&&env.scope.kind==.function&&env.kindOf n==some .cell)=true
     ·simpa only[hq,if_true,List.lookup_cons,hx] using h
     ·simpa only[hq,Bool.false_eq_true,if_false,List.lookup_cons,hx] using h
def jJ {x:Str}{k:NameKind}:∀{names:List (Str×NameKind)},names.lookup x=some k->(x,k)∈names
 | [],h=>by cases h
 | (n,j)::r,h=>by
   rw[List.lookup_cons] at h;cases hx:x==n with
   | true =>
     rw[hx] at h;cases h;have:=eq_of_beq hx;subst this;exact List.mem_cons_self
   | false =>
     rw[hx] at h;exact List.mem_cons_of_mem _ (jJ h)
def vt {pins:List (Addr×Obj)}{σ:L2.St}{H:Hp}{s:Shared}{fp:List Addr}{h1:Heap}{tk:Nat}{m:Str->Option Value}{C:Addr}(I:Inv X pins σ H s)(S:bC scX sc NX N k fv)(hX:X.env.scope=scX)(hN:X.N=NX)
 (hf:∀b∈fp,ir X pins H b) (hfl:∀b∈fp,b<s.heap.objs.size) (hC:s.heap.objs.size<=C) (hns:h1.Ns C m) (kept:∀b o,s.heap.get? b=some o->h1.get? b=some o) :
 Inv (fV X sc N C s H fp) [] (pick k fv σ) H { s with heap:=h1,toks:=tk }:=by
 have hcl:∀x c,(ku X.env.cells sc.names).lookup x=some c->X.env.cells.lookup x=some c:=fun x c h=>jO (PySem.mem_of_lookup h);have hfree:∀x,sc.names.lookup x=some .free->X.env.kindOf x=some .cell:=fun x h=>by
  have:=S.freeX (x,.free) (jJ h) rfl;show X.env.scope.names.lookup x=_;rw[hX];exact this
 have hkind:X.env.scope.kind=.function:=I.ok.kind;have hrel:∀x,sc.names.lookup x=some .free->(relabel sc X.env).names.lookup x=some .cell\/(relabel sc X.env).names.lookup x=some .free:=fun x h=>by
  have go:∀(names:List (Str×NameKind)),names.lookup x=some .free->(names.map fun (n,k)=>if (k==NameKind.free&&X.env.scope.kind==.function&&X.env.kindOf n==some .cell) then (n,NameKind.cell) else (n,k)).lookup x=some .cell \/
   (names.map fun (n,k)=>if (k==NameKind.free&&X.env.scope.kind==.function&&X.env.kindOf n==some .cell) then (n,NameKind.cell) else (n,k)).lookup x=some .free:=by
   intro names;induction names with
   | nil=>intro h;cases h
   | cons y r ih =>
     obtain⟨n,j⟩:=y;intro h;rw[List.lookup_cons] at h;rw[List.map_cons];by_cases hq:(j==NameKind.free&&X.env.scope.kind==.function&&X.env.kindOf n==some .cell)=true
     ·simp only[hq,if_true,List.lookup_cons];cases hx:x==n with
      | true=>exact .inl rfl
      | false=>rw[hx] at h;exact ih h
     ·simp only[hq,Bool.false_eq_true,if_false,List.lookup_cons];cases hx:x==n with
      | true=>rw[hx] at h;cases h;exact .inr rfl
      | false=>rw[hx] at h;exact ih h
  exact go sc.names h
 have stk:∀b∈vA X.stack,b∈X.env.locals::X.fs:=I.stkSub;have neC:∀b,b<s.heap.objs.size->b≠C:=fun b hb=>Nat.ne_of_lt (Nat.lt_of_lt_of_le hb hC);have hall:∀x,(X.env.kindOf x=some .cell\/X.env.kindOf x=some .free)->∃c,X.env.cells.lookup x=some c:=I.ok.has;have okY:(fV X sc N C s H fp).Ok:=by
  refine⟨I.ok.mod,S.kind,I.ok.glob,I.ok.blt,hC,fun x y c h1 h2=>I.ok.inj x y c (hcl x c h1) (hcl y c h2),fun x hx=>?_,fun x c h _=>?_,I.ok.hd,I.ok.frames,.inl rfl,fun b hb=>?_,I.bs,Nat.le_trans I.ok.bsz I.sz,fun b o e hb=>?_,fun b hb hb'=>?_,I.stack,I.stkFree⟩
  ·have hx':sc.names.lookup x=some .free:=jy (env:=X.env) S.nocell hx;obtain⟨c,hc⟩:=hall x (.inl (hfree x hx'));exact fQ (mW hc (jJ hx'))
  ·exact absurd (show false=true from h) Bool.false_ne_true
  ·exact⟨neC b (hfl b hb),fun x c e=>(hf b hb).2.2.2.2.1 x c (hcl x c e)⟩
  ·have hf':=(hf b hb).2.2.2.1;rcases hf' with z | z
   ·exact I.ok.noex b o e z
   ·exact absurd (Nat.lt_of_lt_of_le (Heap.lt_size e) (Nat.le_trans I.ok.bsz z)) (Nat.lt_irrefl _)
  ·rcases List.mem_cons.mp (stk b hb') with z | z
   ·exact(hf b hb).2.1 z
   ·exact(hf b hb).2.2.1 z
 refine⟨okY,rfl,I.bare,Un.kept kept,⟨m,hns,fun i x v e1 e2 e3=>?_⟩,fun x c e=>?_,I.hok.fresh hC,fun x c e=>I.freeC x c (hcl x c e),fun p hp=>absurd (show p∈([]:List (Addr×Obj)) from hp) (by simp),I.hok.kept kept,?_⟩
 ·obtain⟨t,j,rfl,f1,f2⟩:=nU e2;have ht:t<fv.length:=(List.getElem?_eq_some_iff.mp f1).1;obtain⟨q1,q2⟩:=S.fvs t ht;have hj:fv.getD t 0=j:=by rw[List.getD_eq_getElem?_getD,f1];rfl
  rw[hj] at q1;have e1':N[k+t]? = some x:=e1;rw[e1'] at q1 q2;have q2':sc.names.lookup x=some .free:=q2;obtain⟨m0,_,hl⟩:=I.loc;obtain⟨u,r,l⟩:=hl j x v (by rw[hN];exact q1) f2 (.inr (.inl (hfree x q2')));refine⟨u,r,.inr ⟨hrel x q2',?_⟩⟩;rcases l with ⟨kx,_⟩ | ⟨_,c,ec,ic⟩
  ·rw[hfree x q2'] at kx;cases kx
  ·obtain⟨c',hc'⟩:=fQ (mW ec (jJ q2'));have:c'=c:=by
    have:=hcl x c' hc';rw[ec] at this;exact(Option.some.inj this).symm
   subst this;obtain⟨o,ho,hd⟩:=ic;exact⟨c',hc',o,kept _ _ ho,hd⟩
 ·obtain⟨v,o,ho,hd⟩:=I.cell x c (hcl x c e);exact⟨v,o,kept _ _ ho,hd⟩
 ·rw[fC];exact S.len.symm
end
section
variable {X:Cx}{scX sc:Scope}{NX N:List Str}{k:Nat}{fv:List Nat}
noncomputable def tJ (M:Model)(A:Around)(env:Env)(Er:Value->Shared->Prop)(k:Bool->Shared->Prop):List Expr->Shared->Prop
 | [],s=>k true s
 | [c],s=>wpAny M A (isTrue c env (eval c env)) k Er s
 | _,_=>False
def uW {Y:Cx}{os:List Addr}{pins:List (Addr×Obj)}{σ:L2.St}{H:Hp}{s:Shared}{δ:Ev}{b:Bool}{mc:MT}{Er:Value->Shared->Prop}{k:Bool->Shared->Prop}{ifs:List Expr}(h:pX Y ifs mc)(I:Inv Y pins σ H s)(sl:Sl Y os H δ σ)(e:mc δ=some b)
 (hk:∀s' H',Inv Y pins σ H' s'->Same H H'->k b s') (hx:∀v s',Y.xe v s'->Er v s'):tJ (model Y.prog Y.w) Y.A Y.env Er k ifs s:=by
 match ifs,h with
 | [],h =>
   have h':mc=tT:=h;subst h';cases e;exact hk s H I (Same.refl _)
 | [c],h =>
   obtain⟨t,p,q⟩:=(show DT Y c mc from h);refine wpAny_mono (p pins s σ H (fun z H'=>z=b/\Same H H') I (q os σ H δ b _ sl e fun H' g=>⟨rfl,g⟩)) (fun z s' r=>?_) hx;obtain⟨H',I',rfl,g'⟩:=r;exact hk s' H' I' g'
def zE {prog:Program}{w:World}{A:Around}{R:Result->Shared->Prop}{s:Shared}{elt target iter:Expr}{ifs:List Expr}{scope:Scope}{pos:Pos}{it acc:Value}{env:Env}(hi:ifs.length<=1)(J:Nat->Shared->Prop)
 (round:∀n s,J n s->wpAny (model prog w) A (pyNext it) (fun r s1=>r.elim (R (.ok .next) s1) fun v =>
  wpAny (model prog w) A (letOwnedTupleGo target it v) (fun _ s2=>wpAny (model prog w) A (assign target env v) (fun _ s3 =>
   tJ (model prog w) A env (notedBy (model prog w) A env fun x z=>R (.error x) z) (fun ok s4=>if ok=true then
    wpAny (model prog w) A (eval elt env) (fun x s5=>wpAny (model prog w) A (call (.builtin "list.append") [acc,x]) (fun _ s6=>∃m,m<n/\J m s6) (notedBy (model prog w) A env fun x z=>R (.error x) z) s5) (notedBy (model prog w) A env fun x z=>R (.error x) z) s4
    else ∃m,m<n/\J m s4) ifs s3)
   (notedBy (model prog w) A env fun x z=>R (.error x) z) s2) (notedBy (model prog w) A env fun x z=>R (.error x) z) s1) (notedBy (model prog w) A env fun x z=>R (.error x) z) s)
 (n:Nat) (h:J n s):codeAny (model prog w) A (.compLoop (.ListComp elt [⟨target,iter,ifs,0⟩] scope pos) 0 it acc env) R s:=by
 match ifs,hi,round with
 | [],_,round =>
   refine PySem.W.kcp_loop J (fun n s hJ=>wpAny_mono (round n s hJ) (fun r s1 q=>?_) fun _ _ q=>q) n h;cases r with
   | none=>exact q
   | some v=>exact wpAny_mono q (fun _ s2 q=>wpAny_mono q (fun _ s3 q=>by simpa only[tJ,if_true] using q) fun _ _ q=>q) fun _ _ q=>q
 | [c],_,round =>
   refine PySem.W.kct_loop J (fun n s hJ=>wpAny_mono (round n s hJ) (fun r s1 q=>?_) fun _ _ q=>q) n h;cases r with
   | none=>exact q
   | some v=>exact q
 | _::_::_,hi,_=>exact absurd hi (by simp)
def vU {pins:List (Addr×Obj)}{σ σ':L2.St}{H H':Hp}{s s':Shared}{fp:List Addr}{C D:Addr}{its:List Value}{cnt:Nat}{vs:List V}{h':Heap}(I:Inv X pins σ H s)(hf:∀b∈fp,ir X pins H b)(hD:s.heap.objs.size<=D)(hDC:D≠C)(hC:s.heap.objs.size<=C)
 (J:Inv (fV X sc N C s H fp) [(D,{ cls:=.type "list",data:=.seq its.toArray cnt })] σ' H' s') (rv:Vals vs its) (hz:vs.length<=sizeLine) (sb:Heap.SameBut C s'.heap h') :
 Inv X pins σ (cr H' D (.lst vs)) { s' with heap:=h' }:=by
 obtain⟨eD,nD,_,_,_⟩:=J.pin (D,{ cls:=.type "list",data:=.seq its.toArray cnt }) (by simp);have nC:H' C=none:=J.free;have kp:∀b o,b≠C->s'.heap.get? b=some o->h'.get? b=some o:=fun b o hb e=>(sb.2 b hb).trans e;have ltC:∀b,b<s.heap.objs.size->b≠C:=fun b hb=>Nat.ne_of_lt (Nat.lt_of_lt_of_le hb hC);have ltD:∀b,b<s.heap.objs.size->b≠D:=fun b hb=>Nat.ne_of_lt (Nat.lt_of_lt_of_le hb hD);have un:=J.base;have u2:Un (vA X.stack) fp H (cr H' D (.lst vs)) s.heap h':=by
  refine⟨fun b o e n h1 h2=>kp b o (ltC b (Heap.lt_size e)) (un.keep b o e n h1 h2),fun b o e n h1 h2=>?_,fun b o e n h2=>?_,fun b o e h2=>?_,fun b xs e=>?_,fun b o u e=>?_,fun b ps e=>?_⟩
  ·obtain⟨sl,q⟩:=un.slot b o e n h1 h2;exact⟨sl,kp b _ (ltC b (Heap.lt_size e)) q⟩
  ·rw[aN (ltD b (Heap.lt_size e))];exact un.free b o e n h2
  ·obtain⟨o',q⟩:=un.there b o e h2;exact⟨o',kp b o' (ltC b (Heap.lt_size e)) q⟩
  ·have q:=un.tups b xs e;rw[aN (aU q nD)];exact q
  ·have q:=un.frzs b o u e;rw[aN (aU q nD)];exact q
  ·obtain⟨more,q⟩:=un.tbls b ps e;exact⟨more,by rw[aN (aU q nD)];exact q⟩
 have hok:HOk X.prog X.w (cr H' D (.lst vs)) h':=by
  intro b u e;by_cases hb:b=D
  ·subst hb;rw[bn] at e;cases e;exact⟨hz,its,cnt,rv,kp _ _ hDC eD⟩
  ·rw[aN hb] at e;refine(J.hok b u e).stay (fun c v hc q=>kp c v ?_ q) (fun c q=>by rw[aN (aU q nD)];exact q) fun c xs q=>by rw[aN (aU q nD)];exact q
   rcases hc with z | z
   ·rw[z];exact aU e nC
   ·exact aU z nC
 exact I.call' (s':={ s' with heap:=h' }) (ch:=fp) J.os u2 hok J.bare fun b hb=>⟨(hf b hb).2.2.2.1,(hf b hb).2.1,(hf b hb).2.2.2.2.1,(hf b hb).2.2.2.2.2⟩
def mV {use:Option (Value->Sem Unit)}{QQ:Value->Shared->Prop}{elt tg iter:Expr}{ifs:List Expr}{pos:Pos}{mi:MI}{g:MG}{mc:MT}{me:ME}{B:Ev->Ev}(hB:Blk X k fv B)(hc:X.calm=true)(S:bC scX sc NX N k fv)(hX:X.env.scope=scX)(hN:X.N=NX)(hi:DI X tg iter mi)(hbl:Below k g)(hil:ifs.length<=1)
 {os:List Addr} {H0:Hp} (J:Hp->List D->List V->Prop) (J0:∀H,J H [] []) (Jm:∀{H H' ys vs},Same H H'->J H ys vs->J H' ys vs) (Jl:∀{H ys vs},J H ys vs->ys.length=vs.length)
 (hb:∀C s H fp,DG (fV X sc N C s H fp) tg g/\pX (fV X sc N C s H fp) ifs mc/\∃tE:TE,PE (fV X sc N C s H fp) elt tE/\∀σ' H7 δ1 dd,Sl (fV X sc N C s H fp) os H7 δ1 σ'->Same H0 H7->me δ1=some dd->tE σ' H7 fun v H8=>Same H7 H8/\∀ys vs,J H7 ys vs->J H8 (ys++[dd]) (vs++[v]))
 (hs:∀x,foldedSetIterable iter X.env x=pure x:=by intro _;rfl)
 {pins:List (Addr×Obj)} {s:Shared} {σ:L2.St} {δ:Ev} {d:D} (I:Inv X pins σ H0 s) (sl:Sl X os H0 δ σ) (m:ij B mi g mc me δ=some d)
 (fin:∀(Cc Dd:Addr) (s4:Shared) (Hd:Hp),(∀h',Heap.SameBut Cc s4.heap h'->Inv X pins σ Hd { s4 with heap:=h' })->(∃m,s4.heap.Ns Cc m)->ir X pins Hd Cc->Same H0 Hd->H0 Dd=none->(∃H3 ys vs,d=.lst ys/\J H3 ys vs/\H3 Dd=none/\Hd=cr H3 Dd (.lst vs)) ->
  compPost (model X.prog X.w) X.A X.xe use QQ (.ref Dd) Cc (.ok .next) s4) :
 wpAny (model X.prog X.w) X.A (comprehension (.ListComp elt [⟨tg,iter,ifs,0⟩] sc pos) sc X.env (firstIterPos [⟨tg,iter,ifs,0⟩] pos) (newList []) (firstAsync [⟨tg,iter,ifs,0⟩]) (firstIter [⟨tg,iter,ifs,0⟩] X.env) use) QQ X.xe s:=by
 obtain⟨wi,pi,qi⟩:=hi;obtain⟨xs,e1,m⟩:=aj m;have m':(if xs.length<=16777216 then (kP (fun x=>(g x (B δ)).bind fun δ1=>(mc δ1).bind fun b=>if b=true then (me δ1).bind fun d=>some (some d) else some none) xs).bind fun r=>some (D.lst r) else none)=some d:=m;split at m'
 case isFalse=>cases m'
 rename_i hlen;obtain⟨r,e2,m'⟩:=aj m';cases m';have hsl:sizeLine=16777216:=sizeLine_eq;have hcells:∀y∈sc.names,y.2=.free->∃c,X.env.cells.lookup y.1=some c:=fun y hy hf=>I.ok.has y.1 (.inl (by show X.env.scope.names.lookup y.1=_;rw[hX];exact S.freeX y hy hf));refine wpAny_comprehension_free (use:=use) rfl hs (tm hcells) S.kind S.names (bU (pi pins s σ H0 (fun J H'=>Same H0 H'/\Walk X.K J (hide os H') xs) I (qi os σ H0 δ xs _ sl e1 fun J H' g w=>⟨g,w⟩)) fun v s1 h1=>bU h1 fun itv s2 h2=>?_);obtain⟨it,fp,tn,JJ,H2,rfl,I2,T,st2,f2,g2,wk⟩:=h2;have hfl:∀b∈fp,b<s2.heap.objs.size:=fun b hb=>let ⟨o,e,_⟩:=T.obj _ _ st2 b hb;Heap.lt_size e
 refine wpAny_newObj_type (wpAny_newFunctionEnv S.nocell (by intro y hy;simp at hy) (fun h₁ hns₁ hsb₁=>?_) S.kind);dsimp only at hns₁ hsb₁ ⊢;generalize hP2:s2.heap.push { cls:=.type "list",dict:=none,data:=.seq ([]:List Value).toArray }=P2 at hns₁ hsb₁ ⊢;generalize hDd:s2.heap.objs.size=Dd;generalize hCc:P2.objs.size=Cc at hns₁ hsb₁ ⊢;have hC1:Cc=Dd+1:=by rw[<-hCc,<-hP2,Heap.size_push,hDd]
 have hDC:Dd≠Cc:=fun e=>by rw[hC1] at e;exact absurd e (Nat.ne_of_lt (Nat.lt_succ_self _))
 have ltC:∀b:Addr,b<s2.heap.objs.size->b≠Cc:=fun b hb e=>by rw[e,hC1,<-hDd] at hb;exact absurd (Nat.lt_of_succ_lt hb) (Nat.lt_irrefl _)
 have ltD:∀b:Addr,b<s2.heap.objs.size->b≠Dd:=fun b hb e=>by rw[e,<-hDd] at hb;exact absurd hb (Nat.lt_irrefl _)
 have leC:s2.heap.objs.size<=Cc:=by rw[hC1,hDd];exact Nat.le_succ _
 have old:∀b o,s2.heap.get? b=some o->h₁.get? b=some o:=fun b o e =>
  hsb₁.extBut b o (ltC b (Heap.lt_size e)) (Heap.get?_push_of_some _ (hP2 ▸ Heap.get?_push_of_some _ e))
 have hacc:h₁.get? Dd=some { cls:=.type "list",data:=.seq ([]:List Value).toArray 0 } :=
  hsb₁.extBut _ _ hDC (Heap.get?_push_of_some _ (by rw[<-hP2,<-hDd];exact Heap.get?_push_size _ rfl))
 have fpD:∀b∈fp,b≠Dd:=fun b hb=>ltD b (hfl b hb);obtain⟨⟨tG,pG,qG⟩,hI,tE,pE,qE⟩:=hb Cc s2 H2 fp;have loop:∀s₃:Shared,s₃={ s2 with heap:=h₁,toks:=s2.toks+([]:List (Str×Value)).length } ->
  codeAny (model X.prog X.w) X.A (.compLoop (.ListComp elt [⟨tg,iter,ifs,0⟩] sc pos) 0 (.ref it) (.ref Dd) (compEnvC sc (ku X.env.cells sc.names) Cc X.env))
   (compPost (model X.prog X.w) X.A X.xe use QQ (.ref Dd) Cc) s₃:=by
  rintro s₃ rfl;have I0:Inv (fV X sc N Cc s2 H2 fp) [] (pick k fv σ) H2 { s2 with heap:=h₁,toks:=s2.toks+([]:List (Str×Value)).length } :=
   vt I2 S hX hN f2 hfl leC hns₁ old
  have nfs:Dd∉(fV X sc N Cc s2 H2 fp).fs:=fun z=>by
   rcases List.mem_cons.mp (I2.stkSub Dd z) with e | e
   ·exact ltD _ I2.lt e.symm
   ·exact I2.nofs (Nat.le_of_eq hDd) e
  have cne:∀x c,(fV X sc N Cc s2 H2 fp).env.cells.lookup x=some c->c≠Dd:=fun x c e z=>by
   obtain⟨v,o,ho,_⟩:=I2.cell x c (jO (PySem.mem_of_lookup e));exact ltD _ (Heap.lt_size ho) z
  have I0':Inv (fV X sc N Cc s2 H2 fp) [(Dd,{ cls:=.type "list",data:=.seq ([]:List Value).toArray 0 })] (pick k fv σ) H2 { s2 with heap:=h₁,toks:=s2.toks+([]:List (Str×Value)).length }:=by
   refine I0.pins_of fun p hp=>?_;have hp':p=(Dd,{ cls:=.type "list",data:=.seq ([]:List Value).toArray 0 }):=by simpa using hp
   subst hp';exact⟨hacc,I2.hok.fresh (Nat.le_of_eq hDd),hDC,nfs,fun v z=>nomatch z⟩
  have statF:∀{H':Hp} {o:Obj},(∀b∈fp,H' b=none)->∀b∈fp,ir (fV X sc N Cc s2 H2 fp) [(Dd,o)] H' b:=fun {H' o} hn b hb=>by
   refine⟨hn b hb,?_,?_,.inl hb,fun x c e=>(f2 b hb).2.2.2.2.1 x c (jO (PySem.mem_of_lookup e)),fun p hp=>?_⟩
   ·exact ltC b (hfl b hb)
   ·intro z;rcases List.mem_cons.mp (I2.stkSub b z) with e | e
    ·exact(f2 b hb).2.1 e
    ·exact(f2 b hb).2.2.1 e
   ·have hp':p=(Dd,o):=by simpa using hp
    subst hp';exact(fpD b hb).symm
  have st1:tn 0 h₁:=T.keep _ _ _ st2 fun b hb o e=>old b o e;refine zE hil (fun n s'=>∃(i:Nat) (σ':L2.St) (H':Hp) (its:List Value) (cnt:Nat) (vs:List V) (ys rest:List D),
   Inv (fV X sc N Cc s2 H2 fp) [(Dd,{ cls:=.type "list",data:=.seq its.toArray cnt })] σ' H' s'/\Vals vs its/\tn i s'.heap/\(∀b∈fp,H' b=none)/\Same H2 H'/\Sl (fV X sc N Cc s2 H2 fp) os H' (B δ) σ'/\J H' ys vs /\
   kP (fun x=>(g x (B δ)).bind fun δ1=>(mc δ1).bind fun b=>if b=true then (me δ1).bind fun d=>some (some d) else some none) (xs.drop i)=some rest/\ys++rest=r/\i<=xs.length/\ys.length<=i/\n=xs.length-i) ?_ xs.length
   ⟨0,_,H2,[],0,[],[],r,I0',.nil,st1,fun b hb=>(f2 b hb).1,Same.refl _,Cb hB S hN (sl.mono g2),J0 _,by simpa using e2,rfl,Nat.zero_le _,Nat.le_refl _,by simp⟩
  rintro n s3 ⟨i,σ3,H3,its,cnt,vs,ys,rest,I3,rv,st3,fr3,g3,sl3,dv,cm,hr,hi,hyl,rfl⟩;by_cases hlt:i<xs.length
  ·have hx:xs[i]? = some xs[i]:=List.getElem?_eq_getElem hlt;obtain⟨go,yl⟩:=(wk i os H3 sl3.live g3.hd).1 _ hx;rw[List.drop_eq_getElem_cons hlt,kP] at cm;obtain⟨o,e3,cm⟩:=aj cm;obtain⟨rest',e4,cm⟩:=aj cm;obtain⟨δ1,e5,e3⟩:=aj e3;obtain⟨b,e6,e3⟩:=aj e3;refine bU (T.item (fV X sc N Cc s2 H2 fp) rfl rfl rfl hc i _ s3 σ3 H3 _ I3 (statF fr3) st3 go) fun rr s4 ⟨u,hrr,h4⟩=>?_;subst hrr;refine bU h4 fun _ s5 ⟨x,H5,I5,r5,y5,st5,fr5⟩=>?_;obtain⟨g5,dx⟩:=yl x H5 y5;have I5':=I5.pinned (statF fr5) (T.obj _ _ st5);refine wpAny_mono (pG _ s5 σ3 H5 x u (fun σ6 H6=>Same H5 H6/\Sl (fV X sc N Cc s2 H2 fp) os H6 δ1 σ6) I5' r5 (qG os x σ3 H5 _ (B δ) δ1 _ (sl3.mono g5) dx e5 fun σ6 H6 g6 s6=>⟨g6,s6⟩)) (fun _ s6 r6=>?_) fun _ _ z=>z.elim;obtain⟨σ6,H6,I6,g6,sl6⟩:=r6;refine uW hI I6 sl6 e6 (fun s7 H7 I7 g7=>?_) fun _ _ z=>z.elim;obtain⟨bl1,bl2⟩:=hbl _ _ _ e5;have g37:Same H3 H7:=g5.trans (g6.trans g7);have sl7:Sl (fV X sc N Cc s2 H2 fp) os H7 (B δ) σ6:=(sl6.mono g7).back hB S.len sl.len bl1 bl2;cases b with
   | false =>
     rw[if_neg Bool.false_ne_true] at e3;cases e3;cases cm;rw[if_neg Bool.false_ne_true];refine⟨xs.length-(i+1),by omega,i+1,σ6,H7,its,cnt,vs,ys,rest',?_,rv,?_,?_,g3.trans g37,sl7,Jm g37 dv,e4,hr,hlt,by omega,rfl⟩
     ·exact I7.unpinned
     ·exact T.keep _ _ _ st5 fun b hb o e=>(I7.pin (b,o) (List.mem_append_right _ (List.mem_append_right _ (cB hb e)))).1
     ·intro b hb;obtain⟨o,e,_⟩:=T.obj _ _ st5 b hb;exact(I7.pin (b,o) (List.mem_append_right _ (List.mem_append_right _ (cB hb e)))).2.1
   | true =>
     rw[if_pos rfl] at e3;obtain⟨dd,e7,e3⟩:=aj e3;cases e3;cases cm;rw[if_pos rfl];refine wpAny_mono (pE _ s7 σ6 H7 _ I7 (qE σ6 H7 δ1 dd (sl6.mono g7) (g2.trans (g3.trans g37)) e7)) (fun u8 s8 r=>?_) fun _ _ z=>z.elim;obtain⟨v8,H8,I8,r8,g8,den8⟩:=r;obtain⟨eD,nD,neD,nfD,_⟩:=I8.pin (Dd,{ cls:=.type "list",data:=.seq its.toArray cnt }) (List.mem_append_right _ (List.mem_append_left _ (List.mem_singleton.mpr rfl)));have hlv:its.length=ys.length:=by rw[<-rv.length,<-Jl dv]
     refine call_meets F.slot_list_append ⟨_,eD,rfl⟩ F.entry_list_append (F.args_list_append_2 _ _) (PySem.list_append Dd its.toArray cnt u8 (by rw[List.size_toArray];omega)) ⟨eD,?_⟩;have hpush:its.toArray.push u8=(its++[u8]).toArray:=by simp
     obtain⟨cnt',q⟩:∃c,(s8.heap.update Dd (Obj.mapSeq (·.push u8))).get? Dd=some { cls:=.type "list",data:=.seq (its++[u8]).toArray c } :=
      ⟨_,by have q:=PySem.IsL.update eD (·.push u8);rw[hpush] at q;exact q⟩
     have I9:=(I8.pins_of (pins':=[]) fun p hp=>absurd hp (by simp)).turned (it:=Dd) (h':=s8.heap.update Dd (Obj.mapSeq (·.push u8))) (t':=s8.toks)
      (fun b o hb e=>(Heap.get?_update_other s8.heap _ (Ne.symm hb)).trans e) nD neD (.inr (Nat.le_of_eq hDd)) cne (fun p hp=>absurd hp (by simp))
     refine⟨xs.length-(i+1),by omega,i+1,σ6,H8,its++[u8],cnt',vs++[v8],ys++[dd],rest',I9.pins_of fun p hp=>?_,rv.append (.cons r8 .nil),?_,?_,g3.trans (g37.trans g8),sl7.mono g8,den8 _ _ (Jm g37 dv),e4,?_,hlt,?_,rfl⟩
     ·have hp':=List.mem_singleton.mp hp;subst hp';exact⟨q,nD,neD,nfD,fun v z=>nomatch z⟩
     ·refine T.keep _ _ _ st5 fun b hb o e=>?_;have:=(I8.pin (b,o) (List.mem_append_right _ (List.mem_append_right _ (cB hb e)))).1;exact(Heap.get?_update_other s8.heap _ (Ne.symm (fpD b hb))).trans this
     ·intro b hb;obtain⟨o,e,_⟩:=T.obj _ _ st5 b hb;exact(I8.pin (b,o) (List.mem_append_right _ (List.mem_append_right _ (cB hb e)))).2.1
     ·rw[List.append_assoc];exact hr
     ·rw[List.length_append,List.length_singleton];omega
  ·have e:i=xs.length:=by omega
   subst e;rw[List.drop_length] at cm;cases cm;rw[List.append_nil] at hr;subst hr;refine bU (T.done (fV X sc N Cc s2 H2 fp) rfl rfl rfl hc _ _ s3 σ3 H3 _ I3 (statF fr3) st3 ((wk _ os H3 sl3.live g3.hd).2 rfl)) fun rr s4 ⟨hrr,I4⟩=>?_;subst hrr;obtain⟨mm,hnn,_⟩:=I4.loc;have hlv:=Jl dv;have nD:H3 Dd=none:=(I4.pin (Dd,{ cls:=.type "list",data:=.seq its.toArray cnt }) (List.mem_append_right _ (List.mem_singleton.mpr rfl))).2.1;exact fin Cc Dd s4 _ (fun h' sb=>vU I2 f2 (Nat.le_of_eq hDd) hDC leC I4 rv (by omega) sb) ⟨mm,hnn⟩ (I2.fpOk leC ((aN hDC.symm).trans I4.free)) (g2.trans (g3.trans (aX nD _))) ((g2.trans g3).free nD) ⟨H3,_,vs,rfl,dv,nD,rfl⟩
 exact codeAny_compStart_list (loop _ rfl) (T.self X.A 0 _ _ _ (T.keep _ _ _ st2 fun b hb o e=>old b o e) (loop _ rfl))
def oz {use:Option (Value->Sem Unit)}{QQ:Value->Shared->Prop}{elt tg iter:Expr}{ifs:List Expr}{pos:Pos}{mi:MI}{g:MG}{mc:MT}{me:ME}{B:Ev->Ev}(hB:Blk X k fv B)(hc:X.calm=true)(S:bC scX sc NX N k fv)(hX:X.env.scope=scX)(hN:X.N=NX)(hi:DI X tg iter mi)(hbl:Below k g)(hil:ifs.length<=1)
 (hb:∀C s H fp,DG (fV X sc N C s H fp) tg g/\pX (fV X sc N C s H fp) ifs mc/\DE (fV X sc N C s H fp) elt me)
 (hs:∀x,foldedSetIterable iter X.env x=pure x:=by intro _;rfl)
 {pins:List (Addr×Obj)} {s:Shared} {σ:L2.St} {H:Hp} {os:List Addr} {δ:Ev} {d:D} (I:Inv X pins σ H s) (sl:Sl X os H δ σ) (m:ij B mi g mc me δ=some d)
 (fin:∀(Cc Dd:Addr) (s4:Shared) (Hd:Hp),(∀h',Heap.SameBut Cc s4.heap h'->Inv X pins σ Hd { s4 with heap:=h' })->(∃m,s4.heap.Ns Cc m)->ir X pins Hd Cc->Same H Hd->H Dd=none->Own X.K (hide (Dd::os) Hd) Hd Dd d ->
  compPost (model X.prog X.w) X.A X.xe use QQ (.ref Dd) Cc (.ok .next) s4) :
 wpAny (model X.prog X.w) X.A (comprehension (.ListComp elt [⟨tg,iter,ifs,0⟩] sc pos) sc X.env (firstIterPos [⟨tg,iter,ifs,0⟩] pos) (newList []) (firstAsync [⟨tg,iter,ifs,0⟩]) (firstIter [⟨tg,iter,ifs,0⟩] X.env) use) QQ X.xe s:=by
 refine mV (os:=os) (H0:=H) hB hc S hX hN hi hbl hil (fun H ys vs=>Dens X.K (hide os H) ys vs) (fun _=>.nil) (fun g h=>h.mono g.hd _ _) (fun h=>h.length) (fun C s' H' fp=>?_) hs I sl m fun Cc Dd s4 Hd a1 a2 a3 a4 a5 a6=>?_
 ·obtain⟨h1,h2,tE,pE,qE⟩:=hb C s' H' fp;exact⟨h1,h2,tE,pE,fun σ' H7 δ1 dd s1 _ e=>qE os σ' H7 δ1 dd _ s1 e fun v H8 g8 r8=>⟨g8,fun ys vs h=>(h.mono g8.hd _ _).append (.cons r8 .nil)⟩⟩
 ·obtain⟨H3,ys,vs,rfl,h1,h2,rfl⟩:=a6;exact fin Cc Dd s4 _ a1 a2 a3 a4 a5 ⟨vs,bn,h1.mono (ug h2 _) _ _⟩
def yr {elt tg iter:Expr}{ifs:List Expr}{pos:Pos}{mi:MI}{g:MG}{mc:MT}{me:ME}{B:Ev->Ev}(hB:Blk X k fv B)(hc:X.calm=true)(S:bC scX sc NX N k fv)(hX:X.env.scope=scX)(hN:X.N=NX)(hi:DI X tg iter mi)(hbl:Below k g)(hil:ifs.length<=1)
 (hb:∀C s H fp,DG (fV X sc N C s H fp) tg g/\pX (fV X sc N C s H fp) ifs mc/\DE (fV X sc N C s H fp) elt me)
 (hs:∀x,foldedSetIterable iter X.env x=pure x:=by intro _;rfl) :
 DF X (.ListComp elt [⟨tg,iter,ifs,0⟩] sc pos) (ij B mi g mc me):=by
 refine⟨fun σ H Q=>∃os δ d,Sl X os H δ σ/\ij B mi g mc me δ=some d/\(∀p H',Same H H'->H p=none->Own X.K (hide (p::os) H') H' p d->Q (.ref p) H'),?_,fun os σ H δ d Q s m k=>⟨os,δ,d,s,m,k⟩⟩;intro pins s σ H Q I h;obtain⟨os,δ,d,sl,m,kq⟩:=h;rw[eval_ListComp];refine oz (use:=none) hB hc S hX hN hi hbl hil hb hs I sl m fun Cc Dd s4 Hd hI hns _ g hn ow=>?_;obtain⟨mm,hnn⟩:=hns;exact⟨mm,hnn,fun h' sb=>⟨.ref Dd,Hd,hI h' sb,rfl,kq _ _ g hn ow⟩⟩
def AY (X:Cx)(i:Nat)(m:ME):TS:=fun D σ H=>∃os δ d,Sl X os H δ σ/\m δ=some d/\∀p H',Same H H'->H p=none->Own X.K (hide (p::os) H') H' p d->D.nx (σ.set i (some (.ref p))) H'
def xi {x:Str}{p2 spos:Pos}{i:Nat}{elt tg iter:Expr}{ifs:List Expr}{pos:Pos}{mi:MI}{g:MG}{mc:MT}{me:ME}{B:Ev->Ev}(hB:Blk X k fv B)(hc:X.calm=true)(S:bC scX sc NX N k fv)(hX:X.env.scope=scX)(hN:X.N=NX)(hi:DI X tg iter mi)(hbl:Below k g)(hil:ifs.length<=1)
 (hb:∀C s H fp,DG (fV X sc N C s H fp) tg g/\pX (fV X sc N C s H fp) ifs mc/\DE (fV X sc N C s H fp) elt me) (hpg:PG X (.Name x p2) (gb i))
 (hsw:swapsWith (.ListComp elt [⟨tg,iter,ifs,0⟩] sc pos) (some (.Name x p2)) spos.line X.env=pure true) (hs:∀x,foldedSetIterable iter X.env x=pure x) :
 PS X (.Assign [.Name x p2] (.ListComp elt [⟨tg,iter,ifs,0⟩] sc pos) spos) (AY X i (ij B mi g mc me)):=by
 intro pins s σ H D I h;obtain⟨os,δ,d,sl,m,kq⟩:=h;rw[exec_Assign_Name_used _ _ _ _ hsw];refine wpAny_bind (wpAny_standAt (wpAny_bind ?_));show wpAny _ _ (comprehension (.ListComp elt [⟨tg,iter,ifs,0⟩] sc pos) sc X.env (firstIterPos [⟨tg,iter,ifs,0⟩] pos) (newList []) (firstAsync [⟨tg,iter,ifs,0⟩]) (firstIter [⟨tg,iter,ifs,0⟩] X.env) (some (assign (.Name x p2) X.env)) >>= fun _=>pure ()) _ _ _;refine wpAny_bind (oz (use:=some (assign (.Name x p2) X.env)) hB hc S hX hN hi hbl hil hb hs I sl m fun Cc Dd s4 Hd hI hns hf gs hn ow=>?_);obtain⟨mm,o,es,ep,ho,hr⟩:=hns;have J:Inv X pins σ Hd s4:=hI s4.heap (Heap.SameBut.refl _ _);have hnc:∀v,o.data≠.cell v:=fun v z=>by
  rw[hr.1] at z;cases z
 have J':=J.pinned (fp:=[Cc]) (fun b hb=>by rw[List.mem_singleton.mp hb];exact hf) (fun b hb=>by rw[List.mem_singleton.mp hb];exact⟨o,ho,hnc⟩);refine wpAny_mono (hpg _ s4 σ Hd (.ref Dd) (.ref Dd) (fun σ' H'=>D.nx σ' H') J' rfl (kq Dd Hd gs hn ow)) (fun _ s5 q=>?_) fun _ _ z=>z;obtain⟨σ',H',J5,q5⟩:=q;have pin:=J5.pin (Cc,o) (List.mem_append_right _ (List.mem_append_right _ (cB (by simp) ho)));refine⟨mm,⟨o,es,ep,pin.1,hr⟩,fun h' sb=>wpAny_pure (wpAny_pure ?_)⟩;have J6:=J5.unpinned;exact⟨σ',H',J6.turned (it:=Cc) (h':=h') (t':=s5.toks) (fun b ob hb e=>(sb.2 b hb).trans e) pin.2.1 hf.2.1 hf.2.2.2.1 hf.2.2.2.2.1 hf.2.2.2.2.2,q5⟩
def zY {elt tg iter:Expr}{ifs:List Expr}{pos:Pos}{mi:MI}{g:MG}{mc:MT}{me:ME}(hc:X.calm=true)(S:bC scX sc NX N k fv)(hX:X.env.scope=scX)(hN:X.N=NX)(hi:DI X tg iter mi)(hbl:Below k g)
 (hb:∀C s H fp,DG (fV X sc N C s H fp) tg g/\pX (fV X sc N C s H fp) ifs mc/\DE (fV X sc N C s H fp) elt me)
 (hs:∀x,foldedSetIterable iter X.env x=pure x:=by intro _;rfl) (hil:ifs.length<=1:=by decide) :
 DF X (.ListComp elt [⟨tg,iter,ifs,0⟩] sc pos) (bw k fv mi g mc me):=yr (B:=pick k fv) m5 hc S hX hN hi hbl hil hb hs
def cg {elt tg iter:Expr}{ifs:List Expr}{pos:Pos}{mi:MI}{g:MG}{mc:MT}{me:ME}(hc:X.calm=true)(S:bC scX sc NX N k fv)(hX:X.env.scope=scX)(hN:X.N=NX)(hi:DI X tg iter mi)(hbl:Below k g)
 (hb:∀C s H fp,DG (fV X sc N C s H fp) tg g/\pX (fV X sc N C s H fp) ifs mc/\DE (fV X sc N C s H fp) elt me)
 (hs:∀x,foldedSetIterable iter X.env x=pure x:=by intro _;rfl) (hil:ifs.length<=1:=by decide) :
 DE X (.ListComp elt [⟨tg,iter,ifs,0⟩] sc pos) (bw k fv mi g mc me):=(zY hc S hX hN hi hbl hb hs hil).de (og _ mi g mc me)
end
open AutoSeq1 (wpAny_loadPart')
section
variable {X:Cx}{a b c e:Expr}{es:List Expr}{ma mb mc me:ME}{pos p:Pos}
def rZ (l:Addr)(items:Array Value)(n:Nat)(u:Tok)(dd:Option Addr)(sl:Array (Option Value)) :
 Meets (Builtin.«tuple.__mul__» ⟨[.ref l,.int 1 u],[]⟩) (fun _ R s=>s.heap.get? l=some { cls:=.type "tuple",dict:=dd,data:=.seq items n,slots:=sl }/\R (.ok (.ret (Value.ref l))) s) :=
 .of_wp fun prog w A R s h=>by
  obtain⟨hp,g,d,tk,os⟩:=s;obtain⟨hl,h⟩:=h;have f1:=AutoSeq1.idx_int;have f2:=AutoSeq1.sub_tuple_tuple;have hc1:(items.isEmpty||(1:Int)==1)=true:=by simp
  wp_walk using wpAny_loadPart' hl
  exact⟨_,rfl,h⟩
def rY (l:Addr)(items:Array Value)(n:Nat)(x:Int)(u:Tok)(dd:Option Addr)(sl:Array (Option Value))(hc0:¬(decide (x < -(2 ^ 63))||decide (x≥2 ^ 63))=true)(hc1:¬(items.isEmpty||x==1)=true)(hc2:¬(decide (x<=0)||items.isEmpty)=true)
 (hc3:¬(items.size:Int)*x>(2 ^ 63-1) / 8) (hc4:¬Builtin.Tuple.tupleTooMany ((items.size:Int)*x)=true) (hsz:sizeOk (.seq (List.foldl (fun x1 x2=>x1++x2) #[] (List.replicate x.toNat items)))) :
 Meets (Builtin.«tuple.__mul__» ⟨[.ref l,.int x u],[]⟩) (fun _ R s=>s.heap.get? l=some { cls:=.type "tuple",dict:=dd,data:=.seq items n,slots:=sl } /\
  R (.ok (.ret (Value.ref s.heap.objs.size))) { s with heap:=s.heap.push { cls:=Value.type "tuple",data:=Data.seq (List.foldl (fun x1 x2=>x1++x2) #[] (List.replicate x.toNat items)) } }) :=
 .of_wp fun prog w A R s h=>by
  obtain⟨hp,g,d,tk,os⟩:=s;obtain⟨hl,h⟩:=h;have f1:=AutoSeq1.idx_int;have f2:=AutoSeq1.sub_tuple_tuple
  wp_walk using wpAny_loadPart' hl
  refine wpAny_ite_false (decide_eq_false hc0) ?_
  wp_walk using wpAny_loadPart' hl
  refine wpAny_ite_false (decide_eq_false hc3) ?_
  wp_walk using wpAny_loadPart' hl
  refine wpAny_ite_false (decide_eq_false (Nat.not_lt.mpr hsz)) ?_
  wp_walk using wpAny_loadPart' hl
  exact⟨_,rfl,h⟩
def CU (K:PySem.W.Frag):R2:=fun x y H Q=>∃l k xs,x=.ref l/\y=.int k/\SqT K H l xs/\0<k/\k<=1000/\0<xs.length/\xs.length<=1000/\(k=1->Q (.ref l) H) /\
 (k≠1->∀p,H p=none->Q (.ref p) (cr H p (.tup (List.replicate k.toNat xs).flatten)))
def zm:OpR X (binaryOp .Mult) (CU X.K):=by
 intro pins s σ H x y v u Q I rx ry h;obtain⟨l,k,xs,rfl,rfl,hl,h0,h1,h2,h3,q1,q2⟩:=h;cases rx;obtain⟨t,rfl⟩:=ry;obtain⟨its,r,⟨⟨c1,d1,dt1,sl1⟩,e1,c1',n1,t1'⟩,_⟩:=I.tuple hl;simp only at c1' t1';subst c1' t1';have hlen:=r.length;refine wpAny_binaryOp_repeat_ref (T:="tuple") (U:="int") (by decide) ⟨_,e1,rfl⟩ (fun s'=>typeIs_int s' k t) kf F.fills_int_mul F.slot_int_rmul oQ F.slot_int_index.lookup
  (call_meets F.slot_int_rmul (typeIs_int s k t) F.entry_int_rmul (F.args_int_rmul_2 _ _) (mG k t l its.toArray n1 d1 sl1) ⟨e1,rfl,⟨_,e1,rfl⟩,?_⟩)
 by_cases hk:k=1
 ·subst hk;exact call_meets F.slot_tuple_mul ⟨_,e1,rfl⟩ F.entry_tuple_mul (F.args_tuple_mul_2 _ _) (rZ l its.toArray n1 t d1 sl1) ⟨e1,⟨.ref l,H,I,rfl,q1 rfl⟩⟩
 ·have hnew:List.foldl (fun x1 x2=>x1++x2) #[] (List.replicate k.toNat its.toArray)=(List.replicate k.toNat its).flatten.toArray:=by
   have:=foldl_rep its k.toNat [];rw[List.nil_append] at this;exact this
  have hfl:(List.replicate k.toNat its).flatten.length=k.toNat*its.length:=len_rep its k.toNat;have hb:k.toNat*its.length<=1000*1000:=Nat.mul_le_mul (by omega) (by omega);have hbi:(its.length:Int)*k<=1000*1000:=by
   have e:(its.length:Int)*k=((k.toNat*its.length:Nat):Int):=by
    rw[Nat.mul_comm];push_cast;rw[Int.toNat_of_nonneg (by omega)]
   rw[e];exact_mod_cast hb
  have hne:its≠[]:=by intro z;rw[z,List.length_nil] at hlen;omega
  have hie:its.toArray.isEmpty=false:=by simpa using hne
  have hz:(List.replicate k.toNat its).flatten.length<=sizeLine:=by rw[hfl,di];omega
  refine call_meets F.slot_tuple_mul ⟨_,e1,rfl⟩ F.entry_tuple_mul (F.args_tuple_mul_2 _ _) (rY l its.toArray n1 k t d1 sl1 (by simp;omega) (by rw[hie];simpa using hk) (by rw[hie];simp;omega)
   (by rw[List.size_toArray];omega) (by rw[List.size_toArray];have hsz:=di;simp[Builtin.Tuple.tupleTooMany];omega) (by rw[hnew];show (List.replicate k.toNat its).flatten.toArray.size<=sizeLine;rw[List.size_toArray];exact hz)) ⟨e1,?_⟩
  rw[hnew];refine⟨.ref s.heap.objs.size,_,I.laid (t':=s.toks) (o:=.tup (List.replicate k.toNat xs).flatten) (fun b ob q=>Heap.get?_push_of_some _ q) (Nat.le_refl _) ?_,rfl,q2 hk _ (I.hok.fresh (Nat.le_refl _))⟩;exact⟨by rw[len_rep,hlen,<-hfl];exact hz,_,r.rep k.toNat,IsTup.new _ _⟩
def aZ:rQ X (binaryOp .Mult) aO:=by
 refine⟨_,op_mul.or zm,fun os H L dx dy d x y Q rx ry m k=>?_⟩;cases dy with
 | int j =>
   cases dx with
   | int i =>
     have m':(if (small j||small i)=true then some (D.int (i*j)) else none)=some d:=m;split at m'
     ·rename_i hs;cases m';refine .inl ⟨i,j,rx.int_inv,ry.int_inv,?_,k _ H (Same.refl _) (.int _)⟩;simp[small] at hs;rcases hs with hs | hs
      ·exact .inr ⟨hs.1,hs.2⟩
      ·exact .inl ⟨hs.1,hs.2⟩
     ·cases m'
   | tup xs =>
     have m':(if (decide (0<j)&&decide (j<=1000)&&decide (0<xs.length)&&decide (xs.length<=1000))=true then some (D.tup (List.replicate j.toNat xs).flatten) else none)=some d:=m;split at m'
     ·rename_i hs;cases m';simp only[Bool.and_eq_true,decide_eq_true_eq] at hs;obtain⟨⟨⟨h1,h2⟩,h3⟩,h4⟩:=hs;obtain⟨a,vs,rfl,g1,g2⟩:=rx.tup_up;have hl:=g2.length;refine .inr ⟨a,j,vs,rfl,ry.int_inv,g1,h1,h2,by omega,by omega,fun e=>?_,fun _ p hp=>?_⟩
      ·subst e;exact k _ H (Same.refl _) (by simpa using rx)
      ·exact k _ _ (aX hp (.tup (List.replicate j.toNat vs).flatten)) (.newT L hp (g2.flat j.toNat))
     ·cases m'
   | _=>cases m
 | _=>cases dx <;> cases m
def qU:rQ X (compareOp .Lt) oLt:=by
 refine⟨_,C3,fun os H L dx dy d x y Q rx ry m k=>?_⟩;obtain⟨i,j,rfl,rfl,m⟩:=gr m;cases m;exact⟨i,j,rx.int_inv,ry.int_inv,k _ H (Same.refl _) (.bl _)⟩
def kL:rQ X (compareOp .LtE) oLe:=by
 refine⟨_,C4,fun os H L dx dy d x y Q rx ry m k=>?_⟩;obtain⟨i,j,rfl,rfl,m⟩:=gr m;cases m;exact⟨i,j,rx.int_inv,ry.int_inv,k _ H (Same.refl _) (.bl _)⟩
def ue:rQ X (compareOp .Gt) xv:=by
 refine⟨_,C5,fun os H L dx dy d x y Q rx ry m k=>?_⟩;obtain⟨i,j,rfl,rfl,m⟩:=gr m;cases m;exact⟨i,j,rx.int_inv,ry.int_inv,k _ H (Same.refl _) (.bl _)⟩
def AB:rQ X (compareOp .GtE) Co:=by
 refine⟨_,C6,fun os H L dx dy d x y Q rx ry m k=>?_⟩;obtain⟨i,j,rfl,rfl,m⟩:=gr m;cases m;exact⟨i,j,rx.int_inv,ry.int_inv,k _ H (Same.refl _) (.bl _)⟩
def oG:EC X (unaryOp .USub) wj:=by
 refine⟨_,AQ,fun os H L dx d x Q rx m k=>?_⟩;cases dx with
 | int i=>cases m;exact⟨i,rx.int_inv,k _ H (Same.refl _) (.int _)⟩
 | _=>cases m
def uN {g:Int->Int->Bool}{dx dy d:D}(h:oI (fun i j=>some (.bl (g i j))) dx dy=some d):∃k,d=.bl k:=by
 obtain⟨i,j,rfl,rfl,m⟩:=gr h;cases m;exact⟨_,rfl⟩
def uO (x y d:D)(h:oLt x y=some d):∃k,d=.bl k:=uN h
def m6 (x y d:D)(h:oLe x y=some d):∃k,d=.bl k:=uN h
def AL (x y d:D)(h:xv x y=some d):∃k,d=.bl k:=uN h
def Ds (x y d:D)(h:Co x y=some d):∃k,d=.bl k:=uN h
def jR (x y d:D)(h:oEq x y=some d):∃k,d=.bl k:=by
 unfold oEq at h;split at h
 ·cases h;exact⟨_,rfl⟩
 ·cases h
def kQ (x y d:D)(h:iP x y=some d):∃k,d=.bl k:=by
 unfold iP at h;split at h
 ·cases h;exact⟨_,rfl⟩
 ·cases h
end
section
variable {X:Cx}{pins:List (Addr×Obj)}{σ:L2.St}{H:Hp}{s:Shared}
def qV (I:Inv X pins σ H s){a:Addr}{xs ys:List V}(h1:SqL X.K H a xs)(h2:SqT X.K H a ys):False:=by
 obtain⟨i1,_,p1,_⟩:=I.list h1;obtain⟨i2,_,p2,_⟩:=I.tuple h2;exact(SeqAt.ne_of_list_tuple (s:=s) p1.isList p2) rfl
mutual
def Den.inj (I:Inv X pins σ H s):∀{d e:D} {v:V},bF d<=30->bF e<=30->Den X.K H d v->Den X.K H e v->d=e
 | .non,e,v,_,he,h,g=>by
   rw[h.non_inv] at g;cases e with
   | non=>rfl
   | bl z=>cases g.bl_inv
   | int z=>cases g.int_inv
   | str z=>cases g.str_inv
   | tup z=>obtain⟨_,_,q,_⟩:=g.tup_sq;cases q
   | lst z=>obtain⟨_,_,q,_⟩:=g.lst_inv;cases q
   | dic z0 z w=>simp[bF] at he
 | .bl b,e,v,_,he,h,g=>by
   rw[h.bl_inv] at g;cases e with
   | non=>cases g.non_inv
   | bl z=>cases g.bl_inv;rfl
   | int z=>cases g.int_inv
   | str z=>cases g.str_inv
   | tup z=>obtain⟨_,_,q,_⟩:=g.tup_sq;cases q
   | lst z=>obtain⟨_,_,q,_⟩:=g.lst_inv;cases q
   | dic z0 z w=>simp[bF] at he
 | .int b,e,v,_,he,h,g=>by
   rw[h.int_inv] at g;cases e with
   | non=>cases g.non_inv
   | bl z=>cases g.bl_inv
   | int z=>cases g.int_inv;rfl
   | str z=>cases g.str_inv
   | tup z=>obtain⟨_,_,q,_⟩:=g.tup_sq;cases q
   | lst z=>obtain⟨_,_,q,_⟩:=g.lst_inv;cases q
   | dic z0 z w=>simp[bF] at he
 | .str b,e,v,_,he,h,g=>by
   rw[h.str_inv] at g;cases e with
   | non=>cases g.non_inv
   | bl z=>cases g.bl_inv
   | int z=>cases g.int_inv
   | str z=>cases g.str_inv;rfl
   | tup z=>obtain⟨_,_,q,_⟩:=g.tup_sq;cases q
   | lst z=>obtain⟨_,_,q,_⟩:=g.lst_inv;cases q
   | dic z0 z w=>simp[bF] at he
 | .tup ds,e,v,hd,he,h,g=>by
   obtain⟨a,xs,rfl,h1,h2⟩:=h.tup_sq;simp only[bF] at hd;cases e with
   | non=>cases g.non_inv
   | bl z=>cases g.bl_inv
   | int z=>cases g.int_inv
   | str z=>cases g.str_inv
   | dic z0 z w=>simp[bF] at he
   | tup es =>
     simp only[bF] at he;obtain⟨b,ys,q,g1,g2⟩:=g.tup_sq;cases q;rw[<-I.tuple_inj h1 g1] at g2;rw[Dens.inj I (by omega) (by omega) h2 g2]
   | lst es =>
     obtain⟨b,ys,q,g1,g2⟩:=g.lst_inv;cases q;exact(qV I g1 h1).elim
 | .lst ds,e,v,hd,he,h,g=>by
   obtain⟨a,xs,rfl,h1,h2⟩:=h.lst_inv;simp only[bF] at hd;cases e with
   | non=>cases g.non_inv
   | bl z=>cases g.bl_inv
   | int z=>cases g.int_inv
   | str z=>cases g.str_inv
   | dic z0 z w=>simp[bF] at he
   | lst es =>
     simp only[bF] at he;obtain⟨b,ys,q,g1,g2⟩:=g.lst_inv;cases q;rw[<-I.list_inj h1 g1] at g2;rw[Dens.inj I (by omega) (by omega) h2 g2]
   | tup es =>
     obtain⟨b,ys,q,g1,g2⟩:=g.tup_sq;cases q;exact(qV I h1 g1).elim
 | .dic t ks vs,e,v,hd,_,_,_=>by simp[bF] at hd
def Dens.inj (I:Inv X pins σ H s):∀{ds es:List D} {xs:List V},dw ds<=30->dw es<=30->Dens X.K H ds xs->Dens X.K H es xs->ds=es
 | [],[],_,_,_,_,_=>rfl
 | [],e::es,_,_,_,h,g=>by obtain⟨x,r,q,_⟩:=g.uncons;rw[h.unnil] at q;cases q
 | d::ds,[],_,_,_,h,g=>by obtain⟨x,r,q,_⟩:=h.uncons;rw[g.unnil] at q;cases q
 | d::ds,e::es,_,hd,he,h,g=>by
   obtain⟨x,r,rfl,h1,h2⟩:=h.uncons;obtain⟨y,t,q,g1,g2⟩:=g.uncons;cases q;simp only[dw] at hd he;rw[Den.inj I (by omega) (by omega) h1 g1,Dens.inj I (by omega) (by omega) h2 g2]
end
abbrev El (A:Around)(s:Shared)(ds es:List D)(its its2:List Value):Prop :=
 ∀j (h1:j<its.toArray.size) (h2:j<its2.toArray.size),SeqAt.EqAt A.in1 s its.toArray[j] its2.toArray[j] (cP (ds.getD j .non) (es.getD j .non))
def wQ {A:Around}{l b:Addr}{its its2:List Value}{ds es:List D}{xs ys:List V}(I:Inv X pins σ H s)(hu:A.units<cLine)(hl:IsTup s.heap l its.toArray)(hb:IsTup s.heap b its2.toArray)(r1:Vals xs its)(r2:Vals ys its2)(d1:Dens X.K H ds xs)(d2:Dens X.K H es ys)(he:El A s ds es its its2) :
 SeqAt.RcAt A s (.ref l) (.ref b) (cP (.tup ds) (.tup es)):=by
 have q:=SeqAt.RcAt.tuples (A:=A) (s:=s) hl hb hu he;have e1:its.toArray.size=ds.length:=by rw[List.size_toArray,<-r1.length,d1.length]
 have e2:its2.toArray.size=es.length:=by rw[List.size_toArray,<-r2.length,d2.length]
 rw[e1,e2,fq] at q;rw[cP];exact q
def A5 {A:Around}{l b:Addr}{its its2:List Value}{ds es:List D}{xs ys:List V}(I:Inv X pins σ H s)(hu:A.units<cLine)(hl:IsTup s.heap l its.toArray)(hb:IsTup s.heap b its2.toArray)(r1:Vals xs its)(r2:Vals ys its2)(d1:Dens X.K H ds xs)(d2:Dens X.K H es ys)(he:El A s ds es its its2) :
 SeqAt.RcNeAt A s (.ref l) (.ref b) (!cP (.tup ds) (.tup es)):=by
 have q:=SeqAt.RcNeAt.tuples (A:=A) (s:=s) hl hb hu he;have e1:its.toArray.size=ds.length:=by rw[List.size_toArray,<-r1.length,d1.length]
 have e2:its2.toArray.size=es.length:=by rw[List.size_toArray,<-r2.length,d2.length]
 rw[e1,e2,fq] at q;rw[cP];exact q
def wR {A:Around}{l b:Addr}{its its2:List Value}{ds es:List D}{xs ys:List V}(I:Inv X pins σ H s)(hu:A.units<cLine)(hl:PlainL s.heap l its.toArray)(hb:PlainL s.heap b its2.toArray)(r1:Vals xs its)(r2:Vals ys its2)(d1:Dens X.K H ds xs)(d2:Dens X.K H es ys)(he:El A s ds es its its2) :
 SeqAt.RcAt A s (.ref l) (.ref b) (cP (.lst ds) (.lst es)):=by
 have e1:its.toArray.size=ds.length:=by rw[List.size_toArray,<-r1.length,d1.length]
 have e2:its2.toArray.size=es.length:=by rw[List.size_toArray,<-r2.length,d2.length]
 have er:=fq ds es;rw[cP,<-er];by_cases hs:ds.length=es.length
 ·have q:=SeqAt.RcAt.lists (A:=A) (s:=s) hl.isList hb.isList (by rw[e1,e2];exact hs) hu he;rw[e1] at q;rw[hs,Nat.min_self,beq_self_eq_true,Bool.and_true,<-hs];exact q
 ·have q:=SeqAt.RcAt.lists_lengths (A:=A) (s:=s) hl.isList hb.isList (by rw[e1,e2];simpa using hs) hu;have hb':(ds.length==es.length)=false:=by simpa using hs
  rw[hb',Bool.and_false];exact q
def A6 {A:Around}{l b:Addr}{its its2:List Value}{ds es:List D}{xs ys:List V}(I:Inv X pins σ H s)(hu:A.units<cLine)(hl:PlainL s.heap l its.toArray)(hb:PlainL s.heap b its2.toArray)(r1:Vals xs its)(r2:Vals ys its2)(d1:Dens X.K H ds xs)(d2:Dens X.K H es ys)(he:El A s ds es its its2) :
 SeqAt.RcNeAt A s (.ref l) (.ref b) (!cP (.lst ds) (.lst es)):=by
 have e1:its.toArray.size=ds.length:=by rw[List.size_toArray,<-r1.length,d1.length]
 have e2:its2.toArray.size=es.length:=by rw[List.size_toArray,<-r2.length,d2.length]
 have er:=fq ds es;rw[cP,<-er];by_cases hs:ds.length=es.length
 ·have q:=SeqAt.RcNeAt.lists (A:=A) (s:=s) hl.isList hb.isList (by rw[e1,e2];exact hs) hu he;rw[e1] at q;rw[hs,Nat.min_self,beq_self_eq_true,Bool.and_true,<-hs];exact q
 ·have q:=SeqAt.RcNeAt.lists_lengths (A:=A) (s:=s) hl.isList hb.isList (by rw[e1,e2];simpa using hs) hu;have hb':(ds.length==es.length)=false:=by simpa using hs
  rw[hb',Bool.and_false];exact q
def rc {A:Around}{n:Nat}(el:∀(A:Around) (dx dy:D) (x y:V) (v u:Value),bF dx<=n->(bF dx<=30/\bF dy<=30)->A.units+n<cLine->Den X.K H dx x->Den X.K H dy y->RelV x v->RelV y u->SeqAt.EqAt A s v u (cP dx dy))
 {ds es:List D} {xs ys:List V} {its its2:List Value} (hd:∀d∈ds,bF d<=n) (hb:(∀d∈ds,bF d<=30)/\(∀d∈es,bF d<=30)) (hu:A.units+1+n<cLine) (d1:Dens X.K H ds xs) (d2:Dens X.K H es ys) (r1:Vals xs its) (r2:Vals ys its2):El A s ds es its its2:=by
 intro j h1 h2;rw[List.size_toArray] at h1 h2;have l1:=r1.length;have l2:=r2.length;have m1:=d1.length;have m2:=d2.length;have j1:j<ds.length:=by omega
 have j2:j<es.length:=by omega
 obtain⟨x,hx,q1⟩:=d1.get (i:=j) (d:=ds[j]) (List.getElem?_eq_getElem j1);obtain⟨y,hy,q2⟩:=d2.get (i:=j) (d:=es[j]) (List.getElem?_eq_getElem j2);obtain⟨v,hv,w1⟩:=r1.get hx;obtain⟨u,hu',w2⟩:=r2.get hy;have ev:its.toArray[j]=v:=by
  rw[List.getElem?_eq_getElem h1] at hv;simpa using hv
 have eu:its2.toArray[j]=u:=by
  rw[List.getElem?_eq_getElem h2] at hu';simpa using hu'
 rw[ev,eu,List.getD_eq_getElem?_getD,List.getD_eq_getElem?_getD,List.getElem?_eq_getElem j1,List.getElem?_eq_getElem j2];exact el A.in1 ds[j] es[j] x y v u (hd _ (List.getElem_mem j1)) ⟨hb.1 _ (List.getElem_mem j1),hb.2 _ (List.getElem_mem j2)⟩ hu q1 q2 w1 w2
inductive View (X:Cx)(H:Hp)(s:Shared):D->Value->Prop where
 | non:View X H s .non .none
 | bl (b:Bool):View X H s (.bl b) (.bool b)
 | int (i:Int) (t:Tok):View X H s (.int i) (.int i t)
 | str (x:Str) (t:Tok):View X H s (.str x) (.str x t)
 | lst {ds:List D} {a:Addr} {xs:List V} {its:List Value} (h:SqL X.K H a xs) (d:Dens X.K H ds xs) (r:Vals xs its) (p:PlainL s.heap a its.toArray) (q:s.heap.IsList a its.toArray):View X H s (.lst ds) (.ref a)
 | tup {ds:List D} {a:Addr} {xs:List V} {its:List Value} (h:SqT X.K H a xs) (d:Dens X.K H ds xs) (r:Vals xs its) (p:IsTup s.heap a its.toArray) (q:s.heap.IsTuple a its.toArray):View X H s (.tup ds) (.ref a)
def view (I:Inv X pins σ H s){d:D}{x:V}{v:Value}(h:bF d<=30)(r:Den X.K H d x)(w:RelV x v):View X H s d v:=by
 cases d with
 | dic _ _ _=>exact absurd h (by simp[bF])
 | non=>rw[r.non_inv] at w;cases w;exact .non
 | bl b=>rw[r.bl_inv] at w;cases w;exact .bl b
 | int i=>rw[r.int_inv] at w;obtain⟨t,rfl⟩:=w;exact .int i t
 | str z=>rw[r.str_inv] at w;obtain⟨t,rfl⟩:=w;exact .str z t
 | lst ds=>obtain⟨a,xs,rfl,h1,h2⟩:=r.lst_inv;cases w;obtain⟨its,r',p,_⟩:=I.list h1;exact .lst h1 h2 r' p p.isList
 | tup ds=>obtain⟨a,xs,rfl,h1,h2⟩:=r.tup_sq;cases w;obtain⟨its,r',p,_⟩:=I.tuple h1;exact .tup h1 h2 r' p p
def DP {P:Bool->Prop}{b c:Bool}(h:P b)(e:b=c):P c:=e ▸ h
noncomputable def both:D->D->Bool
 | .lst _,.lst _=>true
 | .tup _,.tup _=>true
 | _,_=>false
def kinds {A:Around}{dx dy:D}{v u:Value}(hx:View X H s dx v)(hy:View X H s dy u)(hb:both dx dy=false)(hu:A.units<cLine):SeqAt.EqAt A s v u (cP dx dy)/\SeqAt.RcAt A s v u (cP dx dy)/\SeqAt.RcNeAt A s v u (!cP dx dy):=by
 cases hx <;> cases hy <;> first
 | exact Bool.noConfusion hb
 | refine⟨?_,?_,?_⟩
 all_goals
  apply DP
  ·first
   | with_reducible first | exact .same _ | exact .none_none | exact .none_bool _ | exact .none_int _ _ | exact .none_str _ _ | exact .none_list ‹_› ‹_› | exact .none_tuple ‹_› ‹_› | exact .bool_none _ | exact .bool_bool _ _ | exact .bool_int _ _ _ | exact .bool_str _ _ _ | exact .bool_list _ ‹_› ‹_› | exact .bool_tuple _ ‹_› ‹_› | exact .int_none _ _ | exact .int_bool _ _ _ | exact .int_int _ _ _ _ | exact .int_str _ _ _ _ | exact .int_list _ _ ‹_› ‹_› | exact .int_tuple _ _ ‹_› ‹_› | exact .str_none _ _ | exact .str_bool _ _ _ | exact .str_int _ _ _ _ | exact .str_str _ _ _ _ | exact .str_list _ _ ‹_› ‹_› | exact .str_tuple _ _ ‹_› ‹_› | exact .list_none ‹_› ‹_› | exact .list_bool _ ‹_› ‹_› | exact .list_int _ _ ‹_› ‹_› | exact .list_str _ _ ‹_› ‹_› | exact .list_tuple ‹_› ‹_› ‹_› | exact .tuple_none ‹_› ‹_› | exact .tuple_bool _ ‹_› ‹_› | exact .tuple_int _ _ ‹_› ‹_› | exact .tuple_str _ _ ‹_› ‹_› | exact .tuple_list ‹_› ‹_› ‹_›
   | exact .of_refs (SeqAt.ne_of_list_tuple (s:=s) ‹_› ‹_›) (.list_tuple ‹_› ‹_› ‹_›)
   | exact .of_refs (SeqAt.ne_of_list_tuple (s:=s) ‹_› ‹_›).symm (.tuple_list ‹_› ‹_› ‹_›)
  ·rfl
def Do (I:Inv X pins σ H s):∀(n:Nat) (A:Around) (dx dy:D) (x y:V) (v u:Value),bF dx<=n->(bF dx<=30/\bF dy<=30)->A.units+n<cLine->Den X.K H dx x->Den X.K H dy y->RelV x v->RelV y u->SeqAt.EqAt A s v u (cP dx dy):=by
 intro n;induction n with
 | zero =>
   intro A dx dy x y v u hd hb hu0 rx ry vx vy;have ht:both dx dy=false:=by cases dx <;> first | rfl | simp[bF] at hd
   exact(kinds (view I hb.1 rx vx) (view I hb.2 ry vy) ht (by omega)).1
 | succ n ih =>
   intro A dx dy x y v u hd hb hu0 rx ry vx vy;have hu:A.units<cLine:=by omega
   have items:∀{ds es:List D} {xs ys:List V} {its its2:List Value},dw ds<=n->dw ds<=29->dw es<=29->Dens X.K H ds xs->Dens X.K H es ys->Vals xs its->Vals ys its2->El A s ds es its its2:=fun a b c=>rc ih (depDs_le.mp a) ⟨depDs_le.mp (by omega),depDs_le.mp (by omega)⟩ (by omega);cases ht:both dx dy with
   | false=>exact(kinds (view I hb.1 rx vx) (view I hb.2 ry vy) ht hu).1
   | true =>
     cases view I hb.1 rx vx <;> cases view I hb.2 ry vy <;> first | exact Bool.noConfusion ht | skip
     ·rename_i ds1 a1 _ _ h1 d1 r1 p1 q1 ds2 a2 _ _ h2 d2 r2 p2 q2;simp only[bF] at hd hb;by_cases hab:a1=a2
      ·subst hab;have e:ds1=ds2:=Dens.inj I (by omega) (by omega) d1 (by rw[I.list_inj h1 h2];exact d2);subst e;rw[mM];exact .same _
      ·exact .of_refs hab (wR I hu p1 p2 r1 r2 d1 d2 (items (by omega) (by omega) (by omega) d1 d2 r1 r2))
     ·rename_i ds1 a1 _ _ h1 d1 r1 p1 q1 ds2 a2 _ _ h2 d2 r2 p2 q2;simp only[bF] at hd hb;by_cases hab:a1=a2
      ·subst hab;have e:ds1=ds2:=Dens.inj I (by omega) (by omega) d1 (by rw[I.tuple_inj h1 h2];exact d2);subst e;rw[mM];exact .same _
      ·exact .of_refs hab (wQ I hu p1 p2 r1 r2 d1 d2 (items (by omega) (by omega) (by omega) d1 d2 r1 r2))
section
variable {n:Nat}{A:Around}{dx dy:D}{x y:V}{v u:Value}
def Aq (I:Inv X pins σ H s)(hd:bF dx<=n+1)(hb:bF dx<=30/\bF dy<=30)(hu0:A.units+(n+1)<cLine)(rx:Den X.K H dx x)(ry:Den X.K H dy y)(vx:RelV x v)(vy:RelV y u):SeqAt.RcAt A s v u (cP dx dy)/\SeqAt.RcNeAt A s v u (!cP dx dy):=by
 have hu:A.units<cLine:=by omega
 cases ht:both dx dy with
 | false=>exact(kinds (view I hb.1 rx vx) (view I hb.2 ry vy) ht hu).2
 | true =>
   cases view I hb.1 rx vx <;> cases view I hb.2 ry vy <;> first | exact Bool.noConfusion ht | skip
   all_goals
    rename_i ds1 a1 _ _ h1 d1 r1 p1 q1 ds2 a2 _ _ h2 d2 r2 p2 q2;simp only[bF] at hd hb;have el:=rc (Do I n) (A:=A) (depDs_le.mp (show dw ds1<=n by omega)) ⟨depDs_le.mp (by omega),depDs_le.mp (show dw ds2<=30 by omega)⟩ (by omega) d1 d2 r1 r2
    first
    | exact⟨wR I hu p1 p2 r1 r2 d1 d2 el,A6 I hu p1 p2 r1 r2 d1 d2 el⟩
    | exact⟨wQ I hu p1 p2 r1 r2 d1 d2 el,A5 I hu p1 p2 r1 r2 d1 d2 el⟩
end
end
section
variable {X:Cx}{a b c e:Expr}{es:List Expr}{ma mb mc md me:ME}{pos p p2 p3:Pos}
def eJ (hu:X.A.units+64<cLine):rQ X (compareOp .Eq) oEq:=by
 refine⟨fun x y H Q=>∃dx dy,Den X.K H dx x/\Den X.K H dy y/\(bF dx<=30/\bF dy<=30)/\Q (.bl (cP dx dy)) H,?_,fun os H L dx dy d x y Q rx ry m k=>?_⟩
 ·intro pins s σ H x y v u Q I rx ry h;obtain⟨dx,dy,d1,d2,hd,q⟩:=h;exact(Aq (n:=30) I (Nat.le_succ_of_le hd.1) hd (by omega) d1 d2 rx ry).1 X.prog X.w X.xe _ ⟨.bl _,H,I,rfl,q⟩
 ·unfold oEq at m;split at m
  ·rename_i hd;cases m;exact⟨dx,dy,rx.up,ry.up,hd,k _ H (Same.refl _) (.bl _)⟩
  ·cases m
def kK (hu:X.A.units+64<cLine):rQ X (compareOp .NotEq) iP:=by
 refine⟨fun x y H Q=>∃dx dy,Den X.K H dx x/\Den X.K H dy y/\(bF dx<=30/\bF dy<=30)/\Q (.bl (!cP dx dy)) H,?_,fun os H L dx dy d x y Q rx ry m k=>?_⟩
 ·intro pins s σ H x y v u Q I rx ry h;obtain⟨dx,dy,d1,d2,hd,q⟩:=h;exact(Aq (n:=30) I (Nat.le_succ_of_le hd.1) hd (by omega) d1 d2 rx ry).2 X.prog X.w X.xe _ ⟨.bl _,H,I,rfl,q⟩
 ·unfold iP at m;split at m
  ·rename_i hd;cases m;exact⟨dx,dy,rx.up,ry.up,hd,k _ H (Same.refl _) (.bl _)⟩
  ·cases m
open Classical in
noncomputable def De (c:Bool):D->Bool
 | .bl b=>b==c
 | _=>false
def AR (c:Bool)(d:D):Et c d=some (.bl (De c d)):=by cases d <;> rfl
def uT (c:Bool)(d:D):j3 c d=some (.bl (!De c d)):=by unfold j3;rw[AR];rfl
def BK {K:PySem.W.Frag}{H:Hp}{d:D}{x:V}{v:Value}{c:Bool}(h:Den K H d x)(r:RelV x v):plainIs v (.bool c)=true/\(v==.bool c)=De c d:=by
 cases d with
 | non=>rw[h.non_inv] at r;cases r;exact⟨rfl,rfl⟩
 | bl b=>rw[h.bl_inv] at r;cases r;refine⟨rfl,?_⟩;cases b <;> cases c <;> rfl
 | int i=>rw[h.int_inv] at r;obtain⟨t,rfl⟩:=r;exact⟨rfl,rfl⟩
 | str i=>rw[h.str_inv] at r;obtain⟨t,rfl⟩:=r;exact⟨rfl,rfl⟩
 | tup ds=>obtain⟨a,xs,rfl,_⟩:=h.tup_inv;cases r;exact⟨rfl,rfl⟩
 | lst ds=>obtain⟨a,xs,rfl,_⟩:=h.lst_inv;cases r;exact⟨rfl,rfl⟩
 | dic tk ks ds=>obtain⟨a,xs,rfl,_⟩:=h.dic_inv;cases r;exact⟨rfl,rfl⟩
def ER (K:PySem.W.Frag)(neg:Bool):R2:=fun x y H Q=>∃d c,Den K H d x/\y=.bl c/\Q (.bl (if neg then !De c d else De c d)) H
def vh:OpR X (compareOp .IsNot) (ER X.K true):=by
 intro pins s σ H x y v u Q I rx ry h;obtain⟨d,c,hd,rfl,q⟩:=h;cases ry;obtain⟨h1,h2⟩:=BK (c:=c) hd rx;exact wpAny_isNot_plain h1 ⟨.bl _,H,I,by rw[h2];rfl,q⟩
def ym {k:Bool}{j:Nat}(ha:DE X a ma):DT X (.Compare a [.IsNot] [.Constant (.bool k) j p2] pos) (tV (gW (j3 k) ma)):=by
 obtain⟨ta,pa,qa⟩:=ha;refine⟨_,oW vh pa Az (bg _),fun os σ H δ z Q s m kq=>?_⟩;obtain⟨d,m1,m2⟩:=aj m;obtain⟨dx,e1,m1⟩:=aj m1;rw[uT] at m1;cases m1;cases m2;exact qa os σ H δ dx _ s e1 fun x H1 g1 r1=>⟨dx,k,r1.up,rfl,_,rfl,kq H1 g1⟩
noncomputable def DN:Ty->String
 | .int=>"int" | .bool=>"bool" | .str=>"str" | .list=>"list" | .tuple=>"tuple"
def yC (t:Ty):ee X (.builtin "isinstance") (fun xs H Q=>∃x d,xs=[x,.ty (DN t)]/\Den X.K H d x/\Q (.bl (AG t d)) H):=by
 intro pins s σ H xs us Q I r h;obtain⟨x,d,rfl,hd,q⟩:=h;obtain⟨u,w',rfl,rx,rw'⟩:=vals2 r;cases rw';have fin:∀tk,EP X pins σ Q (.bool (AG t d)) { s with toks:=tk }:=fun tk=>⟨.bl _,H,I.tok tk,rfl,q⟩;cases d with
 | non =>
   rw[hd.non_inv] at rx;cases rx;cases t <;> exact PySem.W.kia_one PySem.W.kitx_none I.kIn True.intro (by rfl) (fun z=>nomatch z) fin
 | bl z =>
   rw[hd.bl_inv] at rx;cases rx;cases t <;> exact PySem.W.kia_one PySem.W.kitx_bool I.kIn True.intro (by rfl) (fun z=>nomatch z) fin
 | int z =>
   rw[hd.int_inv] at rx;obtain⟨tt,rfl⟩:=rx;cases t <;> exact PySem.W.kia_one PySem.W.kitx_int I.kIn True.intro (by rfl) (fun z=>nomatch z) fin
 | str z =>
   rw[hd.str_inv] at rx;obtain⟨tt,rfl⟩:=rx;cases t <;> exact PySem.W.kia_one PySem.W.kitx_str I.kIn True.intro (by rfl) (fun z=>nomatch z) fin
 | tup ds =>
   obtain⟨aa,xs,rfl,h1,_⟩:=hd.tup_sq;cases rx;obtain⟨its,_,⟨o,e1,e2,_⟩,_⟩:=I.tuple h1;cases t <;> exact PySem.W.kia_one PySem.W.kitx_tuple I.kIn ⟨o,e1,e2⟩ (by rfl) (fun z=>nomatch z) fin
 | lst ds =>
   obtain⟨aa,xs,rfl,h1,_⟩:=hd.lst_inv;cases rx;obtain⟨its,_,⟨o,n,e1,e2,_⟩,_⟩:=I.list h1;cases t <;> exact PySem.W.kia_one PySem.W.kitx_list I.kIn ⟨o,e1,e2⟩ (by rfl) (fun z=>nomatch z) fin
 | dic tk ks ds =>
   obtain⟨aa,xs,rfl,h1,_⟩:=hd.dic_inv;cases rx;have z:∃o,s.heap.get? aa=some o/\o.cls=.type "dict":=by
    rcases h1 with ⟨_,_,kvs,h1,_⟩ | ⟨_,_,kvs,h1,_⟩
    ·obtain⟨_,_,_,_,_,o,_,_,e,ex,_⟩:=I.hok aa _ h1;exact⟨o,e,ex.1⟩
    ·obtain⟨_,_,_,_,_,o,_,_,e,ex,_⟩:=I.hok aa _ h1;exact⟨o,e,ex.1⟩
   cases t <;> exact PySem.W.kia_one PySem.W.kitx_dict I.kIn z (by rfl) (fun z=>nomatch z) fin
def fT (t:Ty){tn:Str}(hg:Gl X "isinstance")(hm:X.mg "isinstance"=none)(hgT:Gl X tn)(hmT:X.mg tn=none)(hv:bootBuiltins tn=some (.type (DN t)))(ha:DE X a ma)(hn:tn≠"__name__":=by decide)(hd:(tn==("__debug__":Str))=false:=by decide)
 (h1:starEach [a,.Name tn p2] X.env=(false,eval a X.env)::starEach [.Name tn p2] X.env:=by rfl) (h2:starEach [.Name tn p2] X.env=(false,eval (.Name tn p2) X.env)::starEach [] X.env:=by rfl)
 (hpl:(backTo pos (starEach [.Name tn p2] X.env)).any (·.1)=false:=by rfl) :
 DE X (.Call (.Name "isinstance" p) [a,.Name tn p2] [] pos) (ag (lq t) (ab ma ah)):=by
 obtain⟨ta,pa,qa⟩:=ha;have hT:PE X (.Name tn p2) (L2.tC (.ty (DN t))):=zk hgT hmT hv rfl hn hd;refine⟨_,lV (yC t) hg hm (by rfl) (bN pa (bN hT df h2) h1) (by decide) (by decide) h1 hpl,fun os σ H δ d Q s m kq=>?_⟩;rw[AK] at m;obtain⟨dx,e1,m⟩:=aj m;cases m;exact qa os σ H δ dx _ s e1 fun x H1 g1 r1=>⟨x,dx,rfl,r1.up,kq _ H1 g1 (.bl _)⟩
def gq {K:PySem.W.Frag}{H:Hp}{d:D}{vs:List V}(h:Dens K H [d] vs):∃v,vs=[v]/\Den K H d v:=by
 obtain⟨x,r,rfl,h1,h2⟩:=h.uncons;exact⟨x,by rw[h2.unnil],h1⟩
def yE {f:Value}{r r':List V->Hp->VK->Prop}(a:ee X f r)(b:ee X f r'):ee X f (fun xs H Q=>r xs H Q\/r' xs H Q):=fun pins s σ H xs us Q I rel h=>by
 rcases h with h | h
 ·exact a pins s σ H xs us Q I rel h
 ·exact b pins s σ H xs us Q I rel h
def gE:jX X (.builtin "len") d8:=by
 refine⟨_,yE pS pR,fun os H L ds d vs Q r m k=>?_⟩
 match ds,m with
 | [.tup xs],m =>
   cases m;obtain⟨v,rfl,h⟩:=gq r;obtain⟨p,ys,rfl,h1,h2⟩:=h.tup_up;exact .inl ⟨p,ys,rfl,.inr h1,by rw[<-h2.length];exact k _ H (Same.refl _) (.int _)⟩
 | [.lst xs],m =>
   cases m;obtain⟨v,rfl,h⟩:=gq r;obtain⟨p,ys,rfl,h1,h2⟩:=h.lst_up;exact .inl ⟨p,ys,rfl,.inl h1,by rw[<-h2.length];exact k _ H (Same.refl _) (.int _)⟩
 | [.str x],m =>
   have m':(if x.length<=16777216 then some (D.int x.length) else none)=some d:=m;split at m'
   ·rename_i hz;cases m';obtain⟨v,rfl,h⟩:=gq r;exact .inr ⟨x,by rw[h.str_inv],by rw[di];exact hz,k _ H (Same.refl _) (.int _)⟩
   ·cases m'
def pN:jX X (.builtin "abs") rj:=by
 refine⟨_,yD,fun os H L ds d vs Q r m k=>?_⟩
 match ds,m with
 | [.int i],m =>
   cases m;obtain⟨v,rfl,h⟩:=gq r;exact⟨i,by rw[h.int_inv],k _ H (Same.refl _) (.int _)⟩
def Ae:jX X (.type "list") yf:=by
 refine⟨_,pQ,fun os H L ds d vs Q r m k=>?_⟩
 match ds,m with
 | [.tup xs],m =>
   cases m;obtain⟨v,rfl,h⟩:=gq r;obtain⟨p,ys,rfl,h1,h2⟩:=h.tup_up;refine⟨p,ys,rfl,.inr h1,fun l hl=>?_⟩;exact k _ _ (aX hl (.lst ys)) (.newL L hl h2)
 | [.lst xs],m =>
   cases m;obtain⟨v,rfl,h⟩:=gq r;obtain⟨p,ys,rfl,h1,h2⟩:=h.lst_up;refine⟨p,ys,rfl,.inl h1,fun l hl=>?_⟩;exact k _ _ (aX hl (.lst ys)) (.newL L hl h2)
def jP:jX X (.type "tuple") je:=by
 refine⟨_,nH,fun os H L ds d vs Q r m k=>?_⟩
 match ds,m with
 | [.tup xs],m =>
   cases m;obtain⟨v,rfl,h⟩:=gq r;obtain⟨p,ys,rfl,h1,h2⟩:=h.tup_up;exact⟨p,ys,rfl,.inr ⟨h1,k _ H (Same.refl _) h⟩⟩
 | [.lst xs],m =>
   cases m;obtain⟨v,rfl,h⟩:=gq r;obtain⟨p,ys,rfl,h1,h2⟩:=h.lst_up;refine⟨p,ys,rfl,.inl ⟨h1,fun l hl=>?_⟩⟩;exact k _ _ (aX hl (.tup ys)) (.newT L hl h2)
def vT (hc:X.calm=true):ee X (.builtin "all") (fun xs H Q=>∃(p:Addr) (bs:List Bool),xs=[.ref p]/\SqL X.K H p (bs.map V.bl)/\Q (.bl (bs.all id)) H):=by
 intro pins s σ H xs us Q I r h;obtain⟨p,bs,rfl,hq,q⟩:=h;obtain⟨u,rfl,ru⟩:=vals1 r;cases ru;obtain⟨its,rv,pl,hz⟩:=I.list hq;have hlen:its.length=bs.length:=by rw[<-rv.length,List.length_map]
 have hne:p≠s.heap.objs.size:=fun e=>by
  obtain⟨o,ho,_⟩:=pl.isList;rw[e] at ho;exact absurd (Heap.lt_size ho) (Nat.lt_irrefl _)
 refine call_all_walk (wpAny_pyIter_list pl.isList ?_);refine⟨s.heap.objs.size,_,_,_,_,_,fun i=>(bs[i]?).getD true,rfl,Walks.list (A:=X.A.in1) (I.ok.hd hc) s.heap.objs.size p hne its.toArray,⟨⟨_,Heap.get?_push_size _ rfl,rfl,rfl⟩,?_⟩,?_,fun h' tk hk=>?_⟩
 ·obtain⟨o,ho,rr⟩:=pl.isList;exact⟨o,Heap.get?_push_of_some _ ho,rr⟩
 ·intro i v s' Q' E' hP hQ;have hv:its[i]? = some v:=by simpa using hP
  have hi:i<its.length:=(List.getElem?_eq_some_iff.mp hv).1;have hb:(bs.map V.bl)[i]? = some (.bl bs[i]):=by rw[List.getElem?_map,List.getElem?_eq_getElem (by omega)];rfl
  obtain⟨u',hu',ru'⟩:=rv.get hb;rw[hv] at hu';cases hu';cases ru';have:(bs[i]?).getD true=bs[i]:=by rw[List.getElem?_eq_getElem (by omega)];rfl
  have hQ':Q' ((bs[i]?).getD true) s':=hQ;rw[this] at hQ';exact wpAny_truthy_bool hQ'
 ·have I1:Inv X pins σ H { s with heap:=h',toks:=tk }:=I.kept fun b o e=>hk b o (by
   intro z;have z':b=s.heap.objs.size:=by simpa using z
   rw[z'] at e;exact absurd (Heap.lt_size e) (Nat.lt_irrefl _)) (Heap.get?_push_of_some _ e)
  refine⟨.bl _,H,I1,?_,q⟩;have e1:(List.range its.toArray.size).all (fun i=>(bs[i]?).getD true)=bs.all id:=by
   rw[List.size_toArray,hlen,Bool.eq_iff_iff,List.all_eq_true,List.all_eq_true];constructor
   ·intro hall z hz';obtain⟨i,hi,rfl⟩:=List.getElem_of_mem hz';have:=hall i (List.mem_range.mpr hi);rw[List.getElem?_eq_getElem hi] at this;exact this
   ·intro hall i hi;have hi':=List.mem_range.mp hi;rw[List.getElem?_eq_getElem hi'];exact hall _ (List.getElem_mem hi')
  show Value.bool _=Value.bool _;rw[e1]
def rM:∀{ds:List D} {k:Bool},allB ds=some k->∃bs:List Bool,ds=bs.map D.bl/\k=bs.all id
 | [],k,h=>by cases h;exact⟨[],rfl,rfl⟩
 | .bl b::r,k,h=>by
   obtain⟨k',e,h⟩:=aj h;cases h;obtain⟨bs,rfl,rfl⟩:=rM e;exact⟨b::bs,rfl,rfl⟩
 | .non::r,_,h=>by cases h
 | .int _::r,_,h=>by cases h
 | .str _::r,_,h=>by cases h
 | .tup _::r,_,h=>by cases h
 | .lst _::r,_,h=>by cases h
def rB {K:PySem.W.Frag}{H:Hp}:∀{bs:List Bool} {xs:List V},Dens K H (bs.map D.bl) xs->xs=bs.map V.bl
 | [],_,h=>h.unnil
 | b::bs,_,h=>by
   obtain⟨x,r,rfl,h1,h2⟩:=h.uncons;rw[h1.bl_inv,rB h2];rfl
def tu (hc:X.calm=true):jX X (.builtin "all") vD:=by
 refine⟨_,vT hc,fun os H L ds d vs Q r m k=>?_⟩
 match ds,m with
 | [.lst xs],m =>
   obtain⟨z,e1,m⟩:=aj (show (allB xs).bind (fun k=>some (D.bl k))=some d from m);cases m;obtain⟨v,rfl,h⟩:=gq r;obtain⟨p,ys,rfl,h1,h2⟩:=h.lst_up;obtain⟨bs,rfl,rfl⟩:=rM e1;rw[rB h2] at h1;exact⟨p,bs,rfl,h1,k _ H (Same.refl _) (.bl _)⟩
def aw:EH X aD:=by
 refine⟨_,ix_list.or (ix_tup.or BJ),fun os H L dx dy d x y Q rx ry m k=>?_⟩;cases dy with
 | int i =>
   cases dx with
   | lst ds =>
     obtain⟨j,e1,e2⟩:=aj (show (sL ds.length i).bind (fun j=>ds[j]?)=some d from m);obtain⟨a,xs,rfl,h1,h2⟩:=rx.lst_up;obtain⟨v,hv,rv⟩:=h2.get e2;refine .inl ⟨a,xs,i,v,rfl,ry.int_inv,h1,?_,k v H (Same.refl _) rv⟩;show (sL xs.length i).bind (fun j=>xs[j]?)=some v;rw[<-h2.length,e1];exact hv
   | tup ds =>
     obtain⟨j,e1,e2⟩:=aj (show (sL ds.length i).bind (fun j=>ds[j]?)=some d from m);obtain⟨a,xs,rfl,h1,h2⟩:=rx.tup_up;obtain⟨v,hv,rv⟩:=h2.get e2;refine .inr (.inl ⟨a,xs,i,v,rfl,ry.int_inv,h1,?_,k v H (Same.refl _) rv⟩);show (sL xs.length i).bind (fun j=>xs[j]?)=some v;rw[<-h2.length,e1];exact hv
   | str z =>
     have m':(if z.length<=16777216 then (sL z.cps.toList.length i).bind fun j=>z.cps.toList[j]?.bind fun c=>some (D.str ⟨#[c]⟩) else none)=some d:=m;split at m'
     ·rename_i hz;obtain⟨j,e1,m'⟩:=aj m';obtain⟨c,e2,m'⟩:=aj m';cases m';refine .inr (.inr ⟨z,i,c,rx.str_inv,ry.int_inv,by rw[di];exact hz,?_,k _ H (Same.refl _) (.str _)⟩);show (sL z.cps.toList.length i).bind (fun j=>z.cps.toList[j]?)=some c;rw[e1];exact e2
     ·cases m'
   | _=>cases m
 | _=>cases dx <;> cases m
end
section
variable {prog:Program}{w:World}{A:Around}{E:Value->Shared->Prop}{s:Shared}
def iI {t sl:Addr}{items:Array Value}{vl vu:Value}{lo hi:Option Int}{Q:Value->Shared->Prop}(ht:IsTup s.heap t items)(hs:s.heap.IsSliceOf sl vl vu .none)(pl:IsPart vl lo)(pu:IsPart vu hi)
 (hw:HT.sIx items.size 0 lo=0/\HT.sIx items.size items.size hi=items.size) (h:Q (.ref t) s):wpAny (model prog w) A (getItem (.ref t) (.ref sl)) Q E s:=by
 obtain⟨os,hos,hcs,hds⟩:=id hs;have hTs:s.TypeIs (.ref sl) "slice":=⟨os,hos,hcs⟩;unfold getItem;try with_reducible refine wpAny_holding ?_
 first | refine wpAny_bind (wpAny_pure ?_) | skip
 refine wpAny_bind (wpAny_sequenceKey ht.typeIs (by decide) ?_);refine wpAny_bind (wpAny_callSpecial?_slot (name:=Str.ofString "__getitem__") ht.typeIs PyProof.Rows.slot_tuple_getitem
  (wpAny_call_entry PyProof.Rows.slot_tuple_getitem ht.typeIs entry_tuple_getitem ?_ (args_tuple_getitem _ _)))
 show wpAny _ _ (Builtin.Tuple.tupleItemsOf (.ref t) >>= _) _ _ s;refine wpAny_bind (tupleItemsOf_ ht ?_);refine wpAny_bind (wpAny_typeOf hTs ?_);rw[if_pos (by decide)];refine wpAny_bind (HT.sliceApplied_gen hs pl pu ?_);have hyes:((((HT.sIx items.size 0 lo:Nat):Int)==0&&(1:Int)==1&&(HT.sIx items.size items.size hi-HT.sIx items.size 0 lo)==items.size)=true):=by
  rw[hw.1,hw.2];simp
 show wpAny _ _ (if (((HT.sIx items.size 0 lo:Nat):Int)==0&&(1:Int)==1&&(HT.sIx items.size items.size hi-HT.sIx items.size 0 lo)==items.size)=true then _ else _) _ _ s;rw[if_pos hyes];unfold Builtin.Tuple.tupleIsExact;refine wpAny_bind (wpAny_bind (wpAny_typeOf ht.typeIs (wpAny_pure ?_)));rw[if_pos (by decide)];refine wpAny_bind (wpAny_rule ?_)
 first
  | exact wpAny_pure ⟨_,rfl,wpAny_pure h⟩
  | exact wpAny_bind (wpAny_pure (wpAny_pure ⟨_,rfl,wpAny_pure h⟩))
end
section
variable {X:Cx}{a b c e:Expr}{es:List Expr}{ma mb mc md me:ME}{pos p p2 p3:Pos}
def D4 (K:PySem.W.Frag):V->Option Int->Option Int->Hp->VK->Prop:=fun x lo hi H Q=>∃a xs,x=.ref a/\SqT K H a xs/\(HT.sIx xs.length 0 lo=0/\HT.sIx xs.length xs.length hi=xs.length)/\Q (.ref a) H
def tQ:SlR X (D4 X.K):=by
 intro pins s σ H x v vl vu lo hi sl Q I rx hs pl pu h;obtain⟨a,xs,rfl,hx,hw,q⟩:=h;cases rx;obtain⟨its,r,ht,hz⟩:=I.tuple hx;have hlen:its.toArray.size=xs.length:=by rw[List.size_toArray];exact r.length.symm
 exact⟨"tuple",_,PyProof.Rows.slot_tuple_getitem.lookup,ht.typeIs,iI ht hs pl pu (by rw[hlen];exact hw) ⟨.ref a,H,I,rfl,q⟩⟩
def ou (xs:List V)(k:Nat):kY xs none (some (k:Int))=xs.take k:=by
 unfold kY;rw[HT.sIx_none,HT.sIx_nat,List.drop_zero,Nat.sub_zero];rcases Nat.le_total k xs.length with h | h
 ·rw[Nat.min_eq_left h]
 ·rw[Nat.min_eq_right h,List.take_length,List.take_of_length_le h]
def yx (k:Nat){j:Nat}(he:DE X e me):DE X (.Subscript e (.Slice none (some (.Constant (.int k) j p3)) none p2) pos) (gW (AS k) me):=by
 obtain⟨te,pe,qe⟩:=he;refine⟨_,qL (sl_list.or (sl_tup.or tQ)) pe t5 (tZ xr),fun os σ H δ d Q s m kq=>?_⟩;obtain⟨dx,e1,m⟩:=aj m;refine qe os σ H δ dx _ s e1 fun x H1 g1 r1=>⟨(k:Int),rfl,?_⟩;cases dx with
 | lst ds =>
   cases m;obtain⟨a,xs,rfl,h1,h2⟩:=r1.lst_up;refine .inl ⟨a,xs,rfl,h1,fun q hq=>?_⟩;rw[ou];exact kq _ _ (g1.trans (aX hq (.lst (xs.take k)))) (.newL (s.live.mono g1) hq (h2.take k))
 | tup ds =>
   cases m;obtain⟨a,xs,rfl,h1,h2⟩:=r1.tup_up;have hl:=h2.length;by_cases hw:xs.length<=k
   ·refine .inr (.inr ⟨a,xs,rfl,h1,⟨HT.sIx_none _ _,by rw[HT.sIx_nat];omega⟩,?_⟩);rw[List.take_of_length_le (by omega)] at kq;exact kq _ H1 g1 r1
   ·refine .inr (.inl ⟨a,xs,rfl,h1,fun z=>?_,fun q hq=>?_⟩)
    ·rw[HT.sIx_nat] at z;omega
    ·rw[ou];exact kq _ _ (g1.trans (aX hq (.tup (xs.take k)))) (.newT (s.live.mono g1) hq (h2.take k))
 | _=>cases m
end
open AutoSeq1 (wpAny_loadPart')
section
variable {prog:Program}{w:World}{A:Around}{E:Value->Shared->Prop}{s:Shared}{it l:Addr}{i:Nat}{items:Array Value}
def wt {x:Value}{Q:PySem.Fin->Shared->Prop}(a:s.heap.IsTupleIter it l i)(b:s.heap.IsTuple l items)(hx:items[i]? = some x)
 (k:∀h',h'.IsTupleIter it l (i+1)->Heap.SameBut it s.heap h'->Q (.done (.ret x)) { s with heap:=h' }):wpAny (model prog w) A (Builtin.«tuple_iterator.__next__» ⟨[.ref it],[]⟩) Q E s:=by
 obtain⟨o,ho,hc,hd⟩:=a;obtain⟨p,hp,_,n,hq⟩:=b
 wp_walk using wpAny_field ho hd (x:=.ref l) rfl,wpAny_field ho hd (x:=.int i 0) rfl,wpAny_seqItems hp hq
 rw[show items[(i:Int).toNat]? = some x from hx];refine wpAny_bind (wpAny_setField ho hd (Nat.lt_succ_self 1) (wpAny_pure (k _ ⟨_,Heap.get?_update_self _ ho ?_,?_,?_⟩ (Heap.SameBut.update ..))))
 ·exact Obj.isFreed_of_fields (Obj.data_mapFields hd _)
 ·rw[Obj.cls_mapFields,hc]
 ·rw[Obj.data_mapFields hd];rfl
def wq {Q:PySem.Fin->Shared->Prop}(hh:A.handled=none)(a:s.heap.IsTupleIter it l i)(b:s.heap.IsTuple l items)(hx:items[i]? = none)
 (k:∀h' e,Heap.ExtBut it s.heap h'->(∃o,h'.get? e=some o/\o.cls=.type "StopIteration")->E (.ref e) { s with heap:=h' }):wpAny (model prog w) A (Builtin.«tuple_iterator.__next__» ⟨[.ref it],[]⟩) Q E s:=by
 obtain⟨o,ho,hc,hd⟩:=a;obtain⟨p,hp,_,n,hq⟩:=b
 wp_walk using wpAny_field ho hd (x:=.ref l) rfl,wpAny_field ho hd (x:=.int i 0) rfl,wpAny_seqItems hp hq
 rw[show items[(i:Int).toNat]? = none from hx];refine wpAny_bind (wpAny_rule (wpAny_bind (wpAny_setField ho hd (Nat.succ_pos 1) ?_)));unfold Builtin.SmallTypes.stopIteration;wp_walk;refine wpAny_raiseNew_none hh (k _ _ (((Heap.SameBut.update s.heap it _).extBut.push _).push _) ?_);exact⟨_,Heap.get?_push_size _ rfl,rfl⟩
end
noncomputable def jn (l:Addr):Obj:={ cls:=.type "tuple_iterator",data:=.fields #[.ref l,.int 0 0] }
noncomputable def mO (j:Addr):Obj:={ cls:=.type "enumerate",data:=.fields #[.none,.bool false,.ref j,rawInt 0,.none,.none] }
def vF (l:Addr)(items:Array Value)(n:Nat)(dd:Option Addr)(sl:Array (Option Value)):Meets (Builtin.«enumerate.__new__» ⟨[.type "enumerate",.ref l],[]⟩) fun _ R s =>
 s.heap.get? l=some ⟨.type "tuple",dd,.seq items n,sl⟩/\R (.ok (.ret (.ref (s.heap.objs.size+1)))) { s with heap:=(s.heap.push (jn l)).push (mO s.heap.objs.size) }:=by
 refine .of_wp fun prog w A R s h=>?_;rcases s with ⟨hp,g,d,tk,os⟩;have tup:Heap.IsTuple hp l items:=⟨_,h.1,rfl,n,rfl⟩;have sub:=sub_enumerate;have fin:=h.2;rw[<-Heap.size_push hp (jn l)] at fin;wp_walk using wpAny_loadPart' h.1;refine wpAny_stack_any fun _=>wpAny_pure ?_;split <;> (try (rename_i c _ _ _ _ _;cases (c==Value.type "enumerate"))) <;> (wp_walk using wpAny_loadPart' h.1,wpAny_pyIter_tuple (s:=⟨hp,g,d,tk,os⟩) tup) <;> exact⟨_,rfl,fin⟩
section
variable {prog:Program}{w:World}{A:Around}{E:Value->Shared->Prop}{s:Shared}{it l:Addr}{items:Array Value}
def kZ {Q:Value->Shared->Prop}(t:s.heap.IsTuple l items)
 (k:∀h',IsEnum h' (s.heap.objs.size+1) s.heap.objs.size 0 .none->h'.IsTupleIter s.heap.objs.size l 0->(∀b o,s.heap.get? b=some o->h'.get? b=some o)->Q (.ref (s.heap.objs.size+1)) { s with heap:=h' }) :
 wpAny (model prog w) A (call (.type "enumerate") [.ref l]) Q E s:=by
 obtain⟨⟨c,dd,dt,sl⟩,hl,rfl,n,rfl⟩:=t;have z:=Heap.size_push s.heap (jn l);have top:=Heap.get?_push_size (s.heap.push (jn l)) (o:=mO s.heap.objs.size) rfl;rw[z] at top;have low:=Heap.get?_push_of_some (mO s.heap.objs.size) (Heap.get?_push_size s.heap (o:=jn l) rfl);exact callType_new F.called_enumerate (by decide) (F.typeCall_enumerate_1 _) (F.newCall_enumerate_1 _) (fun _=>F.args_object_init_2 _ _) F.entry_enumerate_new (vF l items n dd sl)
  ⟨hl,⟨_,top,rfl⟩,k _ top ⟨_,low,rfl,rfl⟩ fun b o q=>Heap.get?_push_of_some _ (Heap.get?_push_of_some _ q)⟩
def uf {Q:Value->Shared->Prop}{i:Nat}(a:s.heap.IsTupleIter it l i)(h:wpAny (model prog w) A.in1 (Builtin.«tuple_iterator.__next__» ⟨[.ref it],[]⟩) (fun f s'=>∃x,f=.done (.ret x)/\Q x s') E s):wpAny (model prog w) A (Builtin.SmallTypes.nextOf (.ref it)) Q E s:=by
 refine wpAny_bind (wpAny_callSpecial?_slot a.typeIs F.slot_tuple_iterator_next (wpAny_call_entry F.slot_tuple_iterator_next a.typeIs F.entry_tuple_iterator_next (wpAny_mono h (fun f s' r=>?_) fun _ _ z=>z) (F.args_tuple_iterator_next_1 _)));obtain⟨x,rfl,q⟩:=r;exact⟨x,rfl,wpAny_pure q⟩
def kM (hh:A.handled=none)(ne:l≠it)(items:Array Value):Draws prog w A it [it,l] items.size (fun i v=>items[i]? = some v) fun i h=>h.IsTupleIter it l i/\h.IsTuple l items:=by
 constructor
 ·rintro i h ⟨⟨o,q,_⟩,_⟩;exact⟨o,q⟩
 ·rintro i h h' ⟨a,b⟩ k;exact⟨a.at (k it (by simp)),b.at (k l (by simp))⟩
 ·rintro i s Q E hi ⟨a,b⟩ k;have hx:items[i]? = some items[i]:=by simp[hi]
  exact uf a (wt a b hx fun h' a' sb=>⟨_,rfl,k _ h' s.toks hx ⟨a',b.extBut sb.extBut ne⟩ sb⟩)
 ·rintro s Q E ⟨a,b⟩ k;exact uf a (wq hh a b (by simp) k)
end
section
variable {X:Cx}{pins:List (Addr×Obj)}{σ:L2.St}{H:Hp}{s:Shared}{h':Heap}
def jm {fp:List Addr}{t':Nat}(I:Inv X pins σ H s)(hf:∀b∈fp,ir X pins H b)(k:∀b o,b∉fp->s.heap.get? b=some o->h'.get? b=some o):Inv X pins σ H { s with heap:=h',toks:=t' }:=by
 have nit:∀b u,H b=some u->b∉fp:=fun b u e z=>by rw[(hf b z).1] at e;cases e
 refine I.step (g':=s.gens) (d':=s.drawn) (ch:=fp) (fun b hb=>⟨(hf b hb).2.2.2.1,(hf b hb).2.1,(hf b hb).2.2.2.2.1,(hf b hb).2.2.2.2.2⟩) (fun b o _ _ hc e _=>k b o hc e) (fun b o _ _ hc e _=>⟨o.slots,k b o hc e⟩) (fun _ _ _ _ n=>n)
  (fun b o hc e=>⟨o,k b o hc e⟩) (fun _ _ e=>e) (fun _ _ _ e=>e) (fun b ps e=>⟨#[],by rw[e];simp⟩) (fun m hm=>?_) (fun b u e=>?_) I.bare
 ·obtain⟨o,es,ep,ho,r⟩:=hm;exact⟨o,es,ep,k _ o (fun z=>(hf _ z).2.1 rfl) ho,r⟩
 ·refine(I.hok b u e).stay (fun c v hc q=>k c v ?_ q) (fun _ q=>q) fun _ _ q=>q;rcases hc with z | z
  ·rw[z];exact nit b u e
  ·exact nit c _ z
def Dw (sq:Hp->Addr->List V->Prop)(a:Addr):It :=
 ⟨fun i H=>∃xs x,sq H a xs/\xs[i]? = some x,fun i H p H'=>∃x t,(∀xs,sq H a xs->xs[i]? = some x)/\H t=none/\p=.ref t/\H'=cr H t (.tup [.int i,x]),fun i H=>∃xs,sq H a xs/\i=xs.length⟩
def ro {e it T:Addr}{tk tk':Nat}{i:Int}{x:V}{u:Value}{h2:Heap}(I:Inv X pins σ H s)(hf:∀b∈[e,it],ir X pins H b)(hlt:∀b∈[e,it],b<s.heap.objs.size)(hT:T=s.heap.objs.size)(ru:RelV x u)
 (hk:∀b o,b≠e->b≠it->s.heap.get? b=some o->h2.get? b=some o) (ht:h2.get? T=some { cls:=.type "tuple",data:=.seq #[.int i tk,u] }) :
 Inv X pins σ (cr H T (.tup [.int i,x])) { s with heap:=h2,toks:=tk' }:=by
 subst hT;have I1:Inv X pins σ (cr H s.heap.objs.size (.tup [.int i,x])) { s with heap:=s.heap.push { cls:=.type "tuple",data:=.seq [Value.int i tk,u].toArray },toks:=tk' }:=by
  refine I.laid (t':=tk') (fun b o q=>Heap.get?_push_of_some _ q) (Nat.le_refl _) ?_;exact⟨by show 2<=sizeLine;rw[di];decide,[.int i tk,u],.cons ⟨tk,rfl⟩ (.cons ru .nil),IsTup.new _ _⟩
 have T1:=jm (t':=tk') (h':=h2) (fp:=[e,it]) I1;refine T1 (fun b hb=>⟨?_,(hf b hb).2⟩) fun b o hb q=>?_
 ·rw[aN (Nat.ne_of_lt (hlt b hb))];exact(hf b hb).1
 ·by_cases hz:b=s.heap.objs.size
  ·subst hz;have q':=(Heap.get?_push_size s.heap (o:={ cls:=.type "tuple",data:=.seq [Value.int i tk,u].toArray }) rfl).symm.trans q;cases q';exact ht
  ·have q':(s.heap.push { cls:=.type "tuple",data:=.seq [Value.int i tk,u].toArray }).get? b=some o:=q;have hlt':b<(s.heap.push { cls:=.type "tuple",data:=.seq [Value.int i tk,u].toArray }).objs.size:=Heap.lt_size q';rw[Heap.size_push] at hlt';have hb':b<s.heap.objs.size:=Nat.lt_of_le_of_ne (Nat.le_of_lt_succ hlt') hz;refine hk b o (fun z=>hb (by simp[z])) (fun z=>hb (by simp[z])) ?_;obtain⟨o1,ho1⟩:∃o1,s.heap.get? b=some o1:=by
    cases hg:s.heap.get? b with
    | some o1=>exact⟨o1,rfl⟩
    | none =>
      exfalso;obtain⟨q1,q2⟩:=Heap.get?_some_iff.mp q';have q3:s.heap.objs[b]? = some o:=by
       revert q1
       generalize s.heap=hh at hb' ⊢;cases hh;intro q1;simpa[Heap.push,Array.getElem?_push,Nat.ne_of_lt hb'] using q1
      rw[Heap.get?_some_iff.mpr ⟨q3,q2⟩] at hg;cases hg
   have:=Heap.get?_push_of_some { cls:=.type "tuple",data:=.seq [Value.int i tk,u].toArray } ho1;rw[q'] at this;cases this;exact ho1
def rW {P:Program}{w:World}{K:PySem.W.Frag}{elts:List Expr}{k:Nat}{pos:Pos}(a e it:Addr):Turn P w K (.Tuple elts k pos) (Dw (SqT K) a) [e,it] e (fun i h=>e≠it/\(∃old,IsEnum h e it i old)/\h.IsTupleIter it a i) where
 mem:=by simp
 obj:=fun i h st b hb=>by
  obtain⟨_,⟨old,he⟩,o,ho,c,d⟩:=st;rcases List.mem_cons.mp hb with rfl | hb
  ·exact⟨_,he,fun v z=>by cases z⟩
  ·rw[List.mem_singleton.mp hb];exact⟨o,ho,fun v z=>by rw[d] at z;cases z⟩
 keep:=fun i h h' st k=>by
  obtain⟨ne,⟨old,he⟩,o,ho,r⟩:=st;exact⟨ne,⟨old,k e (by simp) _ he⟩,o,k it (by simp) o ho,r⟩
 item:=by
  intro X hP hw hK hc i pins s σ H E I hf st hg;subst hP hw hK;obtain⟨hne,⟨old,he⟩,hit⟩:=st;obtain⟨xs,x,hq,hx⟩:=hg;obtain⟨its,rv,p,hz⟩:=I.tuple hq;obtain⟨u,hu,ru⟩:=rv.get hx;have p':s.heap.IsTuple a its.toArray:=p;have hai:a≠it:=fun z=>by
   obtain⟨o,e1,c1,_⟩:=p';obtain⟨o',e2,c2,_⟩:=hit;rw[z,e2] at e1;cases e1;rw[c2] at c1;injection c1 with c1;exact absurd c1 (by decide)
  have hae:e≠a:=fun z=>by
   obtain⟨o,e1,c1,_⟩:=p';rw[<-z,he] at e1;cases e1;injection c1 with c1;exact absurd c1 (by decide)
  have hil:i<its.toArray.size:=by
   rw[List.size_toArray];exact(List.getElem?_eq_some_iff.mp hu).1
  have ltE:e<s.heap.objs.size:=Heap.lt_size he;have ltI:it<s.heap.objs.size:=by obtain⟨o,q,_⟩:=hit;exact Heap.lt_size q
  refine wpAny_pyNext_enum_itemD (kM (A:=X.A.in1) (I.ok.hd hc) hai its.toArray) he ⟨hit,p'⟩ hil hne (by simp[hne,hae]) fun y h1 tk hy ho hs1 hT hsz hk=>?_;have hyu:y=u:=by
   have hy':its.toArray[i]? = some y:=hy;have hu':its.toArray[i]? = some u:=by simpa using hu
   rw[hu'] at hy';exact(Option.some.inj hy').symm
  subst hyu;refine⟨_,rfl,wpAny_letOwnedTupleGo_enum ho fun h2 he2 hs2=>?_⟩;have hs2':Heap.SameBut e h1 h2:=hs2;refine⟨.ref s.heap.objs.size,cr H s.heap.objs.size (.tup [.int i,x]),?_,rfl,⟨x,s.heap.objs.size,fun ys hy'=>by rw[I.tuple_inj hy' hq];exact hx,I.fresh,rfl,rfl⟩,⟨hne,⟨_,by simpa using he2⟩,?_⟩,fun b hb=>?_⟩
  ·refine ro (s:=s) (tk':=tk+1) I hf (fun b hb=>?_) rfl ru (fun b o n1 n2 q=>(hs2'.2 b n1).trans (hk b o n1 n2 q)) ((hs2'.2 _ (Nat.ne_of_gt ltE)).trans hT);rcases List.mem_cons.mp hb with rfl | hb
   ·exact ltE
   ·rw[List.mem_singleton.mp hb];exact ltI
  ·obtain⟨o,q,r⟩:=hs1.1;exact⟨o,(hs2'.2 it hne.symm).trans q,r⟩
  ·have hlt:b<s.heap.objs.size:=by
    rcases List.mem_cons.mp hb with rfl | hb
    ·exact ltE
    ·rw[List.mem_singleton.mp hb];exact ltI
   rw[aN (Nat.ne_of_lt hlt)];exact(hf b hb).1
 done:=by
  intro X hP hw hK hc i pins s σ H E I hf st hg;subst hP hw hK;obtain⟨hne,⟨old,he⟩,hit⟩:=st;obtain⟨xs,hq,hx⟩:=hg;obtain⟨its,rv,p,hz⟩:=I.tuple hq;have hl:=rv.length;have hai:a≠it:=fun z=>by
   obtain⟨o,e1,c1,_⟩:=(show s.heap.IsTuple a its.toArray from p);obtain⟨o',e2,c2,_⟩:=hit;rw[z,e2] at e1;cases e1;rw[c2] at c1;injection c1 with c1;exact absurd c1 (by decide)
  have hi:i=its.toArray.size:=by rw[List.size_toArray];omega
  subst hi;refine wpAny_pyNext_enum_endD (kM (A:=X.A.in1) (I.ok.hd hc) hai its.toArray) he ⟨hit,(show s.heap.IsTuple a its.toArray from p)⟩ fun h' hx'=>⟨rfl,?_⟩;exact jm (t':=s.toks) I hf fun b o hb q=>hx' b o (fun z=>hb (by simp[z])) q
 self:=fun _ _ _ _ _ st h=>by
  obtain⟨_,⟨old,he⟩,_⟩:=st;exact wpAny_pyIter_enum he h
def rX {P:Program}{w:World}{K:PySem.W.Frag}{elts:List Expr}{k:Nat}{pos:Pos}(a e it:Addr):Turn P w K (.Tuple elts k pos) (Dw (SqL K) a) [e,it] e (fun i h=>e≠it/\(∃old,IsEnum h e it i old)/\h.IsListIter it a i) where
 mem:=by simp
 obj:=fun i h st b hb=>by
  obtain⟨_,⟨old,he⟩,o,ho,c,d⟩:=st;rcases List.mem_cons.mp hb with rfl | hb
  ·exact⟨_,he,fun v z=>by cases z⟩
  ·rw[List.mem_singleton.mp hb];exact⟨o,ho,fun v z=>by rw[d] at z;cases z⟩
 keep:=fun i h h' st k=>by
  obtain⟨ne,⟨old,he⟩,o,ho,r⟩:=st;exact⟨ne,⟨old,k e (by simp) _ he⟩,o,k it (by simp) o ho,r⟩
 item:=by
  intro X hP hw hK hc i pins s σ H E I hf st hg;subst hP hw hK;obtain⟨hne,⟨old,he⟩,hit⟩:=st;obtain⟨xs,x,hq,hx⟩:=hg;obtain⟨its,rv,p,hz⟩:=I.list hq;obtain⟨u,hu,ru⟩:=rv.get hx;have p':s.heap.IsList a its.toArray:=p.isList;have hai:a≠it:=fun z=>by
   obtain⟨o,e1,c1,_⟩:=p';obtain⟨o',e2,c2,_⟩:=hit;rw[z,e2] at e1;cases e1;rw[c2] at c1;injection c1 with c1;exact absurd c1 (by decide)
  have hae:e≠a:=fun z=>by
   obtain⟨o,e1,c1,_⟩:=p';rw[<-z,he] at e1;cases e1;injection c1 with c1;exact absurd c1 (by decide)
  have hil:i<its.toArray.size:=by
   rw[List.size_toArray];exact(List.getElem?_eq_some_iff.mp hu).1
  have ltE:e<s.heap.objs.size:=Heap.lt_size he;have ltI:it<s.heap.objs.size:=by obtain⟨o,q,_⟩:=hit;exact Heap.lt_size q
  refine wpAny_pyNext_enum_itemD (Draws.list (A:=X.A.in1) (I.ok.hd hc) it a hai its.toArray) he ⟨hit,p'⟩ hil hne (by simp[hne,hae]) fun y h1 tk hy ho hs1 hT hsz hk=>?_;have hyu:y=u:=by
   have hy':its.toArray[i]? = some y:=hy;have hu':its.toArray[i]? = some u:=by simpa using hu
   rw[hu'] at hy';exact(Option.some.inj hy').symm
  subst hyu;refine⟨_,rfl,wpAny_letOwnedTupleGo_enum ho fun h2 he2 hs2=>?_⟩;have hs2':Heap.SameBut e h1 h2:=hs2;refine⟨.ref s.heap.objs.size,cr H s.heap.objs.size (.tup [.int i,x]),?_,rfl,⟨x,s.heap.objs.size,fun ys hy'=>by rw[I.list_inj hy' hq];exact hx,I.fresh,rfl,rfl⟩,⟨hne,⟨_,by simpa using he2⟩,?_⟩,fun b hb=>?_⟩
  ·refine ro (s:=s) (tk':=tk+1) I hf (fun b hb=>?_) rfl ru (fun b o n1 n2 q=>(hs2'.2 b n1).trans (hk b o n1 n2 q)) ((hs2'.2 _ (Nat.ne_of_gt ltE)).trans hT);rcases List.mem_cons.mp hb with rfl | hb
   ·exact ltE
   ·rw[List.mem_singleton.mp hb];exact ltI
  ·obtain⟨o,q,r⟩:=hs1.1;exact⟨o,(hs2'.2 it hne.symm).trans q,r⟩
  ·have hlt:b<s.heap.objs.size:=by
    rcases List.mem_cons.mp hb with rfl | hb
    ·exact ltE
    ·rw[List.mem_singleton.mp hb];exact ltI
   rw[aN (Nat.ne_of_lt hlt)];exact(hf b hb).1
 done:=by
  intro X hP hw hK hc i pins s σ H E I hf st hg;subst hP hw hK;obtain⟨hne,⟨old,he⟩,hit⟩:=st;obtain⟨xs,hq,hx⟩:=hg;obtain⟨its,rv,p,hz⟩:=I.list hq;have hl:=rv.length;have hai:a≠it:=fun z=>by
   obtain⟨o,e1,c1,_⟩:=p.isList;obtain⟨o',e2,c2,_⟩:=hit;rw[z,e2] at e1;cases e1;rw[c2] at c1;injection c1 with c1;exact absurd c1 (by decide)
  have hi:i=its.toArray.size:=by rw[List.size_toArray];omega
  subst hi;refine wpAny_pyNext_enum_endD (Draws.list (A:=X.A.in1) (I.ok.hd hc) it a hai its.toArray) he ⟨hit,p.isList⟩ fun h' hx'=>⟨rfl,?_⟩;exact jm (t':=s.toks) I hf fun b o hb q=>hx' b o (fun z=>hb (by simp[z])) q
 self:=fun _ _ _ _ _ st h=>by
  obtain⟨_,⟨old,he⟩,_⟩:=st;exact wpAny_pyIter_enum he h
end
section
variable {X:Cx}{a:Expr}{ma:ME}{pos pos' p:Pos}{elts:List Expr}{kt:Nat}
def BQ (K:PySem.W.Frag)(ta:TA):TI:=fun σ H R=>ta σ H fun vs H1=>∃a,vs=[.ref a]/\(((∃xs,SqL K H1 a xs)/\R (Dw (SqL K) a) H1)\/((∃xs,SqT K H1 a xs)/\R (Dw (SqT K) a) H1))
def zh {ta:TA}(hg:Gl X "enumerate")(hm:X.mg "enumerate"=none)(ha:PA X [a] ta)(hs:starEach [a] X.env=[(false,eval a X.env)]:=by rfl) :
 PI X (.Tuple elts kt pos') (.Call (.Name "enumerate" p) [a] [] pos) (BQ X.K ta):=by
 intro pins s σ H R I h;refine Call_ (fj I hg hm boot_enumerate (PyProof.Rows.callWith_type1 (bU (ha pos pins s σ H _ I h) fun us s1 ⟨vs,H1,I1,r1,q1⟩=>?_) hs rfl));obtain⟨a,e,q⟩:=q1;subst e;cases r1 with
 | cons r rr =>
   cases rr;cases r;have fp:∀b∈[s1.heap.objs.size+1,s1.heap.objs.size],ir X pins H1 b:=fun b hb=>by
    have e:s1.heap.objs.size<=b:=by
     rcases List.mem_cons.mp hb with rfl | hb
     ·exact Nat.le_succ _
     ·rw[List.mem_singleton.mp hb];exact Nat.le_refl _
    exact I1.fpOk e (I1.hok.fresh e)
   rcases q with ⟨⟨xs,hq⟩,q⟩ | ⟨⟨xs,hq⟩,q⟩
   ·obtain⟨its,rv,p,hz⟩:=I1.list hq;refine call_enumerate_list p.isList fun h' he hit hsz hk=>wpAny_pyIter_enum he ?_;exact⟨s1.heap.objs.size+1,[s1.heap.objs.size+1,s1.heap.objs.size],_,_,H1,rfl,I1.kept (t':=s1.toks) hk,rX a _ _,⟨Nat.succ_ne_self _,⟨_,he⟩,hit⟩,fp,q⟩
   ·obtain⟨its,rv,p,hz⟩:=I1.tuple hq;refine kZ (show s1.heap.IsTuple a its.toArray from p) fun h' he hit hk=>wpAny_pyIter_enum he ?_;exact⟨s1.heap.objs.size+1,[s1.heap.objs.size+1,s1.heap.objs.size],_,_,H1,rfl,I1.kept (t':=s1.toks) hk,rW a _ _,⟨Nat.succ_ne_self _,⟨_,he⟩,hit⟩,fp,q⟩
def mN:∀(ds:List D) (k i:Nat) (d:D),(cS k ds)[i]? = some d->∃e,ds[i]? = some e/\d=.tup [.int ((k+i:Nat):Int),e]
 | [],_,_,_,h=>by simp[cS] at h
 | e::ds,k,0,d,h=>by
   simp[cS] at h;exact⟨e,rfl,by rw[<-h];rfl⟩
 | e::ds,k,i+1,d,h=>by
   have h':(cS (k+1) ds)[i]? = some d:=by simpa[cS] using h
   obtain⟨e',h1,h2⟩:=mN ds (k+1) i d h';refine⟨e',by simpa using h1,?_⟩;rw[h2,show k+1+i=k+(i+1) by omega]
def iA:∀(ds:List D) (k:Nat),(cS k ds).length=ds.length
 | [],_=>rfl
 | _::ds,k=>by simp[cS,iA ds (k+1)]
def nJ {K:PySem.W.Frag}{B:Hp}{a:Addr}{ds:List D}{xs:List V}{sq:Hp->Addr->List V->Prop}(hm:∀{H':Hp},Same B H'->sq H' a xs)(h2:Dens K B ds xs):Walk K (Dw sq a) B (cS 0 ds):=by
 intro i os1 H1 L g;have gu:=g.trans hide_le;refine⟨fun d hd=>?_,fun hl=>⟨xs,hm gu,by rw[<-h2.length,<-iA ds 0];exact hl⟩⟩;obtain⟨e,he,rfl⟩:=mN ds 0 i d hd;obtain⟨x,hx,r⟩:=h2.get he;refine⟨⟨xs,x,hm gu,hx⟩,fun y H2 z=>?_⟩;obtain⟨x',t,z,ht,rfl,rfl⟩:=z;have:=z xs (hm gu);rw[hx] at this;cases this;refine⟨aX ht (.tup [.int i,x]),.newT L ht ?_⟩;rw[Nat.zero_add];exact .cons (.int _) (.cons (r.mono g _ _) .nil)
def uD (hg:Gl X "enumerate")(hm:X.mg "enumerate"=none)(h:DE X a ma)(hs:starEach [a] X.env=(false,eval a X.env)::starEach [] X.env:=by rfl)(hs':starEach [a] X.env=[(false,eval a X.env)]:=by rfl) :
 DI X (.Tuple elts kt pos') (.Call (.Name "enumerate" p) [a] [] pos) (mH ma):=by
 obtain⟨t,pt,q⟩:=h;refine⟨_,zh hg hm (bN pt df hs) hs',fun os σ H δ xs R s m k=>?_⟩;obtain⟨d,e1,m⟩:=aj m;refine q os σ H δ d _ s e1 fun v H1 g1 r1=>?_;cases d with
 | tup ds =>
   cases m;obtain⟨a,ys,rfl,h1,h2⟩:=r1.tup_inv;exact⟨a,rfl,.inr ⟨⟨ys,.of (hide_le _ _ h1)⟩,k _ H1 g1 (nJ (fun g=>.of (g _ _ h1)) h2)⟩⟩
 | lst ds =>
   cases m;obtain⟨a,ys,rfl,h1,h2⟩:=r1.lst_inv;exact⟨a,rfl,.inl ⟨⟨ys,hide_le.seq h1⟩,k _ H1 g1 (nJ (fun g=>g.seq h1) h2)⟩⟩
 | _=>cases m
end
def BW {P:Program}{w:World}{K:PySem.W.Frag}{mg:Str->Option Value}{base:Heap}{x qual:Str}{st:Stmt}{f:Addr}{fd:FuncData}{N ps:List Str}{k kk:Nat}{m:MS}{M:MF}(hkk:N.length<=kk)(F:Fun K x qual st f fd)(S:eW N ps (aA st))
 (hM:M=dE ps.length kk m)
 (h:∀(cdv:Value) (A:Around) (outer:List Env) (s:Shared) (H:Hp) (E:XK),Room k (A.deeper (envOfC qual (aA st) s.heap.objs.size f cdv)) ->
  rO (kr nq P w K mg base N qual (aA st) f cdv A outer s H E).nox False (cW st) m) :
 iu P w K mg base nq (k+1) f fd ps (Am K M):=by
 rw[hM];exact Dl hkk F S h
section
variable {X:Cx}{os:List Addr}{H H':Hp}{δ:Ev}{σ:L2.St}
def u0 {i:Nat}(h:i<δ.length)(e:slot δ i=none):δ[i]? = some none:=by
 unfold slot at e;rw[List.getElem?_eq_getElem h] at e ⊢;exact congrArg some e
def Sl.own_at (s:Sl X os H δ σ){n i:Nat}{d:D}(hn:X.N.length=n)(hi:i<n)(h:ownAt n i δ=some d) :
 δ[i]? = some none/\δ[n+i]? = some (some d)/\∃a,σ[i]? = some (some (.ref a))/\a∈os/\(X.fn ""=true->X.H₀ a=none)/\Own X.K (hide os H) H a d:=by
 subst hn;unfold ownAt at h;cases e:slot δ i with
 | some y=>rw[e] at h;cases h
 | none =>
   rw[e] at h;have h1:=u0 (Nat.lt_of_lt_of_le hi s.len) e;have h2:=iw h;exact⟨h1,h2,s.ow i d hi h1 h2⟩
def Sl.make (s:Sl X os H δ σ){n i:Nat}{d:D}{p:Addr}(hn:X.N.length=n)(hi:i<n)(g:Same H H')(hp:H p=none)(o:Own X.K (hide (p::os) H') H' p d):Sl X (p::os) H' (gj n i d δ) (σ.set i (some (.ref p))):=by
 subst hn;have np:=s.live.ne hp;have big:Same (hide os H) (hide (p::os) H'):=fun b u e=>by
  have hb:b∉os:=fun z=>by rw[bX z] at e;cases e
  rw[aI hb] at e;have hbp:b≠p:=aU e hp;rw[aI (by simp[hb,hbp])];exact g _ _ e
 have lv:∃u,H' p=some u/\AO u:=by
  cases d with
  | lst ds=>obtain⟨xs,h1,_⟩:=o;exact⟨_,h1,True.intro⟩
  | dic t ks vs=>obtain⟨xs,h1,_⟩:=o;rcases h1 with ⟨_,_,h1,_⟩ | ⟨_,_,h1,_⟩ <;> exact⟨_,h1,True.intro⟩
  | _=>exact o.elim
 have own_up:∀{a:Addr} {e:D},Own X.K (hide os H) H a e->Own X.K (hide (p::os) H') H' a e:=fun {a e} h=>by
  cases e with
  | lst ds=>obtain⟨xs,h1,h2⟩:=h;exact⟨xs,g _ _ h1,h2.mono big _ _⟩
  | dic t ks vs=>obtain⟨xs,h1,h2⟩:=h;exact⟨xs,h1.mono g,h2.mono big _ _⟩
  | _=>exact h
 have hid:i<δ.length:=Nat.lt_of_lt_of_le hi s.len;have at_i:∀{e:D},(gj X.N.length i d δ)[X.N.length+i]? = some (some e)->e=d:=fun {e} h=>by
  unfold gj at h;by_cases hl:X.N.length+i<δ.length
  ·rw[List.getElem?_set_self (by simpa using hl)] at h;cases h;rfl
  ·rw[List.getElem?_eq_none (by simpa using hl)] at h;cases h
 have off:∀{j:Nat},j≠i->j≠X.N.length+i->(gj X.N.length i d δ)[j]? = δ[j]?:=fun {j} h1 h2=>by
  unfold gj;rw[List.getElem?_set_ne (Ne.symm h2),List.getElem?_set_ne (Ne.symm h1)]
 have self_none:(gj X.N.length i d δ)[i]? = some none:=by
  unfold gj;rw[List.getElem?_set_ne (by omega),List.getElem?_set_self hid]
 have sig:∀{j:Nat},j≠i->(σ.set i (some (V.ref p)))[j]? = σ[j]?:=fun {j} h=>List.getElem?_set_ne (Ne.symm h);have sigi:(σ.set i (some (V.ref p)))[i]? = some (some (.ref p)):=List.getElem?_set_self (by rw[s.n];exact hi);have p0:X.H₀ p=none:=s.keep.free hp;refine⟨by simpa using s.n,by unfold gj;simpa using s.len,fun j e hj h=>?_,fun j e hj h1 h2=>?_,fun j k e f a hj hk h1 h2 h3 h4 h5 h6=>?_,fun a ha=>?_,s.keep.trans g⟩
 ·by_cases hji:j=i
  ·subst hji;rw[self_none] at h;cases h
  ·rw[off hji (by omega)] at h;obtain⟨v,e1,r⟩:=s.pl j e hj h;exact⟨v,(sig hji).trans e1,r.mono big _ _⟩
 ·by_cases hji:j=i
  ·subst hji;have:=at_i h2;subst this;exact⟨p,sigi,List.mem_cons_self,fun _=>p0,o⟩
  ·rw[off hji (by omega)] at h1;rw[off (by omega) (by omega)] at h2;obtain⟨a,e1,e2,e3,e4⟩:=s.ow j e hj h1 h2;exact⟨a,(sig hji).trans e1,List.mem_cons_of_mem _ e2,e3,own_up e4⟩
 ·by_cases hji:j=i
  ·by_cases hki:k=i
   ·rw[hji,hki]
   ·exfalso;subst hji;rw[off hki (by omega)] at h2;rw[off (by omega) (by omega)] at h4;obtain⟨a',e1,e2,_⟩:=s.ow k f hk h2 h4;rw[sigi] at h5;rw[sig hki,e1] at h6;cases h5;cases h6;exact np e2
  ·rw[off hji (by omega)] at h1;rw[off (by omega) (by omega)] at h3;by_cases hki:k=i
   ·exfalso;subst hki;obtain⟨a',e1,e2,_⟩:=s.ow j e hj h1 h3;rw[sigi] at h6;rw[sig hji,e1] at h5;cases h5;cases h6;exact np e2
   ·rw[off hki (by omega)] at h2;rw[off (by omega) (by omega)] at h4;exact s.inj j k e f a hj hk h1 h2 h3 h4 ((sig hji).symm.trans h5) ((sig hki).symm.trans h6)
 ·rcases List.mem_cons.mp ha with rfl | ha
  ·exact lv
  ·exact(s.live.mono g) a ha
def zN {p:Addr}(g:Same H H')(hp:H p=none):Fr X os H (p::os) H':=by
 refine⟨fun b u e=>?_,fun b h _=>List.mem_cons_of_mem _ h⟩;have hb:b∉os:=fun z=>by rw[bX z] at e;cases e
 rw[aI hb] at e;have hbp:b≠p:=aU e hp;rw[aI (by simp[hb,hbp])];exact g _ _ e
def Sl.chg (s:Sl X os H δ σ){n i:Nat}{d d':D}{a:Addr}{o:HO}(hn:X.N.length=n)(hi:i<n)(hfn:X.fn ""=true)(h:ownAt n i δ=some d)(ha:σ[i]? = some (some (.ref a)))(ho:Own X.K (hide os H) (cr H a o) a d') :
 Sl X os (cr H a o) (δ.set (n+i) (some d')) σ/\Fr X os H os (cr H a o):=by
 obtain⟨h1,h2,a',e1,e2,e3,e4⟩:=s.own_at hn hi h;subst hn;rw[ha] at e1;cases e1;have hd:hide os (cr H a o)=hide os H:=by
  funext b
  by_cases hb:b∈os
  ·rw[bX hb,bX hb]
  ·rw[aI hb,aI hb,aN (fun z:b=a=>hb (by rw[z];exact e2))]
 have off:∀{j:Nat},j≠X.N.length+i->(δ.set (X.N.length+i) (some d'))[j]? = δ[j]?:=fun {j} h=>List.getElem?_set_ne (Ne.symm h);have at_i:∀{e:D},(δ.set (X.N.length+i) (some d'))[X.N.length+i]? = some (some e)->e=d':=fun {e} h=>by
  by_cases hl:X.N.length+i<δ.length
  ·rw[List.getElem?_set_self hl] at h;cases h;rfl
  ·rw[List.getElem?_eq_none (by simpa using hl)] at h;cases h
 have back:∀{j:Nat} {e:D},j<X.N.length->(δ.set (X.N.length+i) (some d'))[X.N.length+j]? = some (some e)->∃e',δ[X.N.length+j]? = some (some e'):=fun {j e} hj h=>by
  by_cases hji:j=i
  ·subst hji;exact⟨d,h2⟩
  ·rw[off (by omega)] at h;exact⟨e,h⟩
 refine⟨⟨s.n,by simpa using s.len,fun j e hj h=>?_,fun j e hj q1 q2=>?_,fun j k e f b hj hk q1 q2 q3 q4 q5 q6=>?_,fun b hb=>?_,fun b u e=>?_⟩,⟨by rw[hd];exact Same.refl _,fun _ h _=>h⟩⟩
 ·rw[off (by omega)] at h;obtain⟨v,r1,r2⟩:=s.pl j e hj h;exact⟨v,r1,by rw[hd];exact r2⟩
 ·rw[off (by omega)] at q1;by_cases hji:j=i
  ·subst hji;have:=at_i q2;subst this;exact⟨a,ha,e2,e3,by rw[hd];exact ho⟩
  ·rw[off (by omega)] at q2;obtain⟨b,r1,r2,r3,r4⟩:=s.ow j e hj q1 q2;have hba:b≠a:=fun z=>by
    subst z;exact hji (s.inj j i e d b hj hi q1 h1 q2 h2 r1 ha)
   refine⟨b,r1,r2,r3,?_⟩;rw[hd];cases e with
   | lst ds=>obtain⟨xs,w1,w2⟩:=r4;exact⟨xs,(aN hba).trans w1,w2⟩
   | dic t ks vs =>
     obtain⟨xs,w1,w2⟩:=r4;refine⟨xs,?_,w2⟩;rcases w1 with ⟨z,kvs,w1,r⟩ | ⟨z,kvs,w1,r⟩
     ·exact .inl ⟨z,kvs,(aN hba).trans w1,r⟩
     ·exact .inr ⟨z,kvs,(aN hba).trans w1,r⟩
   | _=>exact r4
 ·rw[off (by omega)] at q1 q2;obtain⟨e',w1⟩:=back hj q3;obtain⟨f',w2⟩:=back hk q4;exact s.inj j k e' f' b hj hk q1 q2 w1 w2 q5 q6
 ·by_cases hba:b=a
  ·subst hba;refine⟨o,bn,?_⟩;cases d' with
   | lst ds=>obtain⟨xs,w1,_⟩:=ho;rw[bn] at w1;cases w1;exact True.intro
   | dic t ks vs=>obtain⟨xs,w1,_⟩:=ho;rcases w1 with ⟨_,_,w1,_⟩ | ⟨_,_,w1,_⟩ <;> (rw[bn] at w1;cases w1;exact True.intro)
   | _=>exact ho.elim
  ·obtain⟨u,e,n⟩:=s.live b hb;exact⟨u,(aN hba).trans e,n⟩
 ·rw[aN (aU e (e3 hfn))];exact s.keep b u e
def Sl.frz (s:Sl X os H δ σ){n i:Nat}(hn:X.N.length=n)(hi:i<n):∃os',Sl X os' H (frz n i δ) σ/\(∀b∈os',b∈os)/\(∀b∈os,b∉os'->(X.fn ""=true->X.H₀ b=none)/\∃d,Own X.K (hide os H) H b d):=by
 by_cases hl:∃ds,ownAt n i δ=some (.lst ds)
 ·obtain⟨ds,h⟩:=hl;have ef:DL.frz n i δ=(δ.set i (some (.lst ds))).set (n+i) none:=by unfold DL.frz;rw[h]
  rw[ef];obtain⟨h1,h2,a,e1,e2,e3,e4⟩:=s.own_at hn hi h;subst hn;generalize hd:D.lst ds=d at *;have hid:i<δ.length:=Nat.lt_of_lt_of_le hi s.len;have hid2:X.N.length+i<δ.length:=(List.getElem?_eq_some_iff.mp h2).1;have mem:∀b,b∈os.filter (fun c=>decide (c≠a))↔b∈os/\b≠a:=fun b=>by simp
  have na:a∉os.filter (fun c=>decide (c≠a)):=fun z=>((mem a).mp z).2 rfl;have big:Same (hide os H) (hide (os.filter (fun c=>decide (c≠a))) H):=fun b u e=>by
   have hb:b∉os:=fun z=>by rw[bX z] at e;cases e
   rw[aI hb] at e;rw[aI (fun z=>hb ((mem b).mp z).1)];exact e
  have dn:Den X.K (hide (os.filter (fun c=>decide (c≠a))) H) d (.ref a):=by
   subst hd;obtain⟨xs,w1,w2⟩:=e4;exact .lst (.of ((aI na).trans w1)) (w2.mono big _ _)
  have off:∀{j:Nat},j≠i->j≠X.N.length+i->((δ.set i (some d)).set (X.N.length+i) none)[j]? = δ[j]?:=fun {j} q1 q2=>by
   rw[List.getElem?_set_ne (Ne.symm q2),List.getElem?_set_ne (Ne.symm q1)]
  have at_i:((δ.set i (some d)).set (X.N.length+i) none)[i]? = some (some d):=by
   rw[List.getElem?_set_ne (by omega),List.getElem?_set_self hid]
  have at_n:((δ.set i (some d)).set (X.N.length+i) none)[X.N.length+i]? = some none:=by
   rw[List.getElem?_set_self (by simpa using hid2)]
  refine⟨os.filter (fun c=>decide (c≠a)),⟨s.n,by simpa using s.len,fun j e hj q=>?_,fun j e hj q1 q2=>?_,fun j k e f b hj hk q1 q2 q3 q4 q5 q6=>?_,fun b hb=>s.live b ((mem b).mp hb).1,s.keep⟩,fun b hb=>((mem b).mp hb).1,fun b hb hn=>?_⟩
  ·by_cases hji:j=i
   ·subst hji;rw[at_i] at q;cases q;exact⟨_,e1,dn⟩
   ·rw[off hji (by omega)] at q;obtain⟨v,r1,r2⟩:=s.pl j e hj q;exact⟨v,r1,r2.mono big _ _⟩
  ·by_cases hji:j=i
   ·subst hji;rw[at_i] at q1;cases q1
   ·rw[off hji (by omega)] at q1;rw[off (by omega) (by omega)] at q2;obtain⟨b,r1,r2,r3,r4⟩:=s.ow j e hj q1 q2;have hba:b≠a:=fun z=>by
     subst z;exact hji (s.inj j i e d b hj hi q1 h1 q2 h2 r1 e1)
    refine⟨b,r1,(mem b).mpr ⟨r2,hba⟩,r3,?_⟩;cases e with
    | lst ds=>obtain⟨xs,w1,w2⟩:=r4;exact⟨xs,w1,w2.mono big _ _⟩
    | dic t ks vs=>obtain⟨xs,w1,w2⟩:=r4;exact⟨xs,w1,w2.mono big _ _⟩
    | _=>exact r4
  ·by_cases hji:j=i
   ·subst hji;rw[at_i] at q1;cases q1
   ·by_cases hki:k=i
    ·subst hki;rw[at_i] at q2;cases q2
    ·rw[off hji (by omega)] at q1;rw[off hki (by omega)] at q2;rw[off (by omega) (by omega)] at q3 q4;exact s.inj j k e f b hj hk q1 q2 q3 q4 q5 q6
  ·have:b=a:=Classical.byContradiction fun z=>hn ((mem b).mpr ⟨hb,z⟩);subst this;exact⟨e3,d,e4⟩
 ·have ef:DL.frz n i δ=δ:=by
   unfold DL.frz;split
   ·rename_i ds h;exact absurd ⟨ds,h⟩ hl
   ·rfl
  rw[ef];exact⟨os,s,fun _ z=>z,fun b h1 h2=>absurd h1 h2⟩
def Sl.frzs {n:Nat}(hn:X.N.length=n):∀(is:List Nat) {os:List Addr} {δ:Ev},(∀i∈is,i<n)->Sl X os H δ σ->∃os',Sl X os' H (frzs n is δ) σ/\(∀b∈os',b∈os)/\(∀b∈os,b∉os'->(X.fn ""=true->X.H₀ b=none)/\∃B d,Own X.K B H b d)
 | [],os,δ,_,s=>⟨os,s,fun _ z=>z,fun b h1 h2=>absurd h1 h2⟩
 | i::is,os,δ,hi,s=>by
   obtain⟨os1,s1,a1,b1⟩:=s.frz hn (hi i List.mem_cons_self);obtain⟨os2,s2,a2,b2⟩:=Sl.frzs hn is (fun j h=>hi j (List.mem_cons_of_mem _ h)) s1;refine⟨os2,s2,fun b h=>a1 b (a2 b h),fun b h h'=>?_⟩;by_cases h1:b∈os1
   ·exact b2 b h1 h'
   ·obtain⟨q1,d,q2⟩:=b1 b h h1;exact⟨q1,_,d,q2⟩
def BU {os':List Addr}(hfn:X.fn ""=true)(h1:∀b∈os',b∈os)(h2:∀b∈os,b∉os'->(X.fn ""=true->X.H₀ b=none)/\∃B d,Own X.K B H b d):Fr X os H os' H:=by
 refine⟨fun b u e=>?_,fun b h n=>?_⟩
 ·have hb:b∉os:=fun z=>by rw[bX z] at e;cases e
  rw[aI hb] at e;rw[aI (fun z=>hb (h1 b z))];exact e
 ·exact Classical.byContradiction fun z=>n ((h2 b h z).1 hfn)
mutual
def Den.fl {K:PySem.W.Frag}{B B':Hp}(h:∀a xs,B a=some (.tup xs)->B' a=some (.tup xs)):∀(d:D) (v:V),DL.flat d=true->Den K B d v->Den K B' d v
 | .non,_,_,q=>by simp only[Den] at q ⊢;exact q
 | .bl _,_,_,q=>by simp only[Den] at q ⊢;exact q
 | .int _,_,_,q=>by simp only[Den] at q ⊢;exact q
 | .str _,_,_,q=>by simp only[Den] at q ⊢;exact q
 | .tup ds,_,f,q=>by
   simp only[Den] at q ⊢;obtain⟨a,xs,e1,h1,h2⟩:=q;exact⟨a,xs,e1,h a xs h1,Dens.fl h ds xs (by simpa only[DL.flat] using f) h2⟩
 | .lst ds,_,f,_=>by simp[DL.flat] at f
 | .dic t ks ds,_,f,_=>by simp[DL.flat] at f
def Dens.fl {K:PySem.W.Frag}{B B':Hp}(h:∀a xs,B a=some (.tup xs)->B' a=some (.tup xs)):∀(ds:List D) (xs:List V),DL.flats ds=true->Dens K B ds xs->Dens K B' ds xs
 | [],_,_,q=>by simp only[Dens] at q ⊢;exact q
 | d::ds,_,f,q=>by
   simp only[Dens] at q ⊢;obtain⟨x,r,e1,h1,h2⟩:=q;simp only[DL.flats,Bool.and_eq_true] at f;exact⟨x,r,e1,Den.fl h d x f.1 h1,Dens.fl h ds r f.2 h2⟩
end
def yN {os os':List Addr}{H':Hp}(l:Live os H')(a:Addr)(xs:List V)(q:hide os' H' a=some (.tup xs)):hide os H' a=some (.tup xs):=xT l (hide_le _ _ q)
variable {e:Expr}{ma mb:ME}{mc:MT}{m:MS}{PX:Prop}{pos p2 p3:Pos}
def yy {n:Nat}{is:List Nat}(hn:X.N.length=n)(his:∀i∈is,i<n)(h:DE X e ma):DE X e (vH n is ma):=by
 obtain⟨t,p,q⟩:=h;refine⟨t,p,fun os σ H δ d Q s m k=>?_⟩;obtain⟨d',e1,m⟩:=aj m;split at m
 ·rename_i hf;cases m;obtain⟨os',s',a1,b1⟩:=Sl.frzs hn is his s;refine q os' σ H _ d Q s' e1 fun v H' g r=>k v H' g (Den.fl (yN (s.live.mono g)) d v hf r)
 ·cases m
def fG {n:Nat}{is:List Nat}{sts:List Stmt}(hn:X.N.length=n)(his:∀i∈is,i<n)(hfn:X.fn ""=true)(h:rO X PX sts m):rO X PX sts (oO n is m):=by
 obtain⟨t,p,q⟩:=h;refine⟨t,p,fun os σ H δ r D s me k=>?_⟩;obtain⟨os',s',a1,b1⟩:=Sl.frzs hn is his s;exact q os' σ H _ r D s' me (k.mono (BU hfn a1 b1))
def ft {n i:Nat}{x:Str}(hn:X.N.length=n)(hi:i<n)(he:DF X e ma)(hg:PG X (.Name x p2) (gb i))(hs:swapsWithSole [.Name x p2] e pos.line X.env=pure false:=by rfl)(hw:swappedStores [.Name x p2] e X.env=pure none:=by rfl)
 (h1:(assignEach [.Name x p2] X.env).map (·.2)=[assign (.Name x p2) X.env]:=by rfl):DS X PX (.Assign [.Name x p2] e pos) (fb n i ma):=by
 obtain⟨t,p,q⟩:=he;refine⟨_,xk p hg hs hw h1,fun os σ H δ r D s m k=>?_⟩;obtain⟨d,e1,m⟩:=aj m;cases m;exact q os σ H δ d _ s e1 fun a H' g ha o=>k _ H' (a::os) (zN g ha) (s.make hn hi g ha o)
def jf {n i:Nat}{xo:Expr}{p4:Pos}(hn:X.N.length=n)(hi:i<n)(hfn:X.fn ""=true)(hv:PE X xo (jp i))(he:DE X e ma)
 (hbase:attributeBase xo "append" X.env (eval xo X.env)=eval xo X.env:=by rfl)
 (hfew:((backTo p3 (starEach [e] X.env)).all (fun x => !x.1)&&(backToKw p3 (keywordEach [] X.env)).all (fun x=>x.1.isSome)
  && decide ([e].length+([]:List Keyword).length+(if ([]:List Keyword).isEmpty then 0 else 1)<30))=true:=by rfl)
 (hline:(p2.endLine==p3.line)=true:=by rfl) (hs:starEach [e] X.env=(false,eval e X.env)::starEach [] X.env:=by rfl) (hplain:(backTo p3 (starEach [] X.env)).any (·.1)=false:=by rfl) :
 DS X PX (.Expr (.Call (.Attribute xo "append" p2) [e] [] p3) p4) (ka n i ma):=by
 obtain⟨t,p,q⟩:=he;refine⟨_,oX (uc PySem.F.plainAttrs_list PySem.F.slot_list_append PySem.F.type_list_append n9 hv (bN p df hs) hbase hfew hline hs hplain),fun os σ H δ r D s m k=>?_⟩;obtain⟨y,e1,m⟩:=aj m;split at m
 ·rename_i ds ho;split at m
  ·rename_i hl;cases m;obtain⟨w1,w2,a,w3,w4,w5,xs,w6,w7⟩:=s.own_at hn hi ho;refine⟨_,w3,.inl ⟨rfl,xs,.of w6⟩,q os σ H δ y _ s e1 fun v H' g rv=>?_⟩;refine⟨a,xs,v,rfl,rfl,g _ _ w6,by rw[<-w7.length,sizeLine_eq];exact hl,?_⟩;obtain⟨s2,f2⟩:=(s.mono g).chg (d':=.lst (ds++[y])) (o:=.lst (xs++[v])) hn hi hfn ho w3 ⟨_,bn,(w7.mono g.hd _ _).append (.cons rv .nil)⟩;exact k σ _ os ((Fr.of g).trans f2) s2
  ·cases m
 ·cases m
end
section
variable {X:Cx}{scX sc:Scope}{NX N:List Str}{k:Nat}{fv:List Nat}{PX:Prop}
def lr {x:Str}{p2 spos:Pos}{i:Nat}{elt tg iter:Expr}{ifs:List Expr}{pos:Pos}{mi:MI}{g:MG}{mc:MT}{me:ME}(hlt:Nat.blt i X.N.length=true)(hpg:PG X (.Name x p2) (gb i))(hc:X.calm=true)(S:bC scX sc NX N k fv)(hX:X.env.scope=scX)(hN:X.N=NX)(hi:DI X tg iter mi)(hbl:Below k g)
 (hb:∀C s H fp,DG (fV X sc N C s H fp) tg g/\pX (fV X sc N C s H fp) ifs mc/\DE (fV X sc N C s H fp) elt me)
 (hsw:swapsWith (.ListComp elt [⟨tg,iter,ifs,0⟩] sc pos) (some (.Name x p2)) spos.line X.env=pure true:=by rfl) (hs:∀x,foldedSetIterable iter X.env x=pure x:=by intro _;rfl) (hil:ifs.length<=1:=by decide) :
 DS X PX (.Assign [.Name x p2] (.ListComp elt [⟨tg,iter,ifs,0⟩] sc pos) spos) (bm (bw k fv mi g mc me) (gN i)):=by
 refine⟨_,xi m5 hc S hX hN hi hbl hil hb hpg hsw hs,fun os σ H δ r D s m kq=>?_⟩;obtain⟨d,e1,m⟩:=aj m;cases m;obtain⟨ds,rfl⟩:=og (pick k fv) mi g mc me δ d e1;refine⟨os,δ,_,s,e1,fun p H' g hp ow=>?_⟩;exact kq _ H' os (.of g) ((s.mono g).set i (kh hlt) (ow.den (s.live.ne hp)))
end
end DL
namespace DL
open PySem
noncomputable def kX:MF:=fun ds=>match ds with | [.int i,.int j]=>some (.int (if j>i then j else i)) | _=>none
noncomputable def mL:MF:=fun ds=>match ds with | [.int i,.int j]=>some (.int (if j<i then j else i)) | _=>none
noncomputable def bV (a:Int)(n:Nat):List D:=(List.range n).map fun (i:Nat)=>D.int (a+i)
def fE (a b:ME):MI:=fun δ=>(a δ).bind fun x=>(b δ).bind fun y=>match x,y with
 | .int i,.int j=>if -1073741824<i/\i<1073741824 /\ -1073741824<j/\j<1073741824 then some (bV i (j-i).toNat) else none
 | _,_=>none
noncomputable def Eu (k:Nat):D->Option D
 | .tup xs=>some (.tup (xs.drop k))
 | .lst xs=>some (.lst (xs.drop k))
 | _=>none
noncomputable def E1 (a b:ME):ME:=fun δ=>(a δ).bind fun x=>(b δ).bind fun y=>match x,y with
 | .lst ds,.int k=>if -9223372036854775808<=k/\k<9223372036854775808/\ds.length*k.toNat<=16777216 then some (.lst (List.replicate k.toNat ds).flatten) else none
 | _,_=>none
def CQ (i:Nat)(f:D->D->Option D)(a:ME):MS:=fun δ=>(slot δ i).bind fun x=>(a δ).bind fun y=>(f x y).bind fun z=>some (.nx (δ.set i (some z)))
def Ez (n i:Nat)(k a:ME):MS:=fun δ=>(k δ).bind fun z=>(a δ).bind fun y=>match ownAt n i δ,z,y with
 | some (.lst ds),.int j,.int b=>(sL ds.length j).bind fun q=>(ds[q]?).bind fun o=>match o with
   | .int c=>some (.nx (δ.set (n+i) (some (.lst (ds.set q (.int (c+b)))))))
   | _=>none
 | _,_,_=>none
def sk (n i:Nat)(a:ME):MS:=fun δ=>(a δ).bind fun y=>match ownAt n i δ,y with
 | some (.lst ds),.tup es=>if ds.length+es.length<=16777216 then some (.nx (δ.set (n+i) (some (.lst (ds++es))))) else none
 | some (.lst ds),.lst es=>if ds.length+es.length<=16777216 then some (.nx (δ.set (n+i) (some (.lst (ds++es))))) else none
 | _,_=>none
noncomputable def nr (xs ys:List D):List D:=(xs.zip ys).map fun p=>.tup [p.1,p.2]
def BP (a b:ME):MI:=fun δ=>(a δ).bind fun x=>(b δ).bind fun y=>match x,y with
 | .lst xs,.lst ys=>some (nr xs ys)
 | _,_=>none
noncomputable def intsOf:List D->Option (List Int)
 | []=>some []
 | .int i::r=>(intsOf r).bind fun q=>some (i::q)
 | _=>none
noncomputable def isKey:D->Bool
 | .int _=>true
 | .str _=>true
 | _=>false
def sO:D->Bool
 | .tup ds=>ds.all isKey
 | _=>false
noncomputable def gU:List D->List D->Int->Option D
 | .int j::ks,v::vs,i=>if j=i then some v else gU ks vs i
 | _::ks,_::vs,i=>gU ks vs i
 | _,_,_=>none
noncomputable def fk (ks:List Int)(n:Int):List Int:=if n∈ks then ks else ks++[n]
noncomputable def sortI (ks:List Int):List Int:=ks.mergeSort fun a b=>decide (a<=b)
def jl:D->Option D
 | .lst xs=>(intsOf xs).bind fun is=>if is.length+1<4096/\(is.foldl fk []).length<64 then some (.lst ((sortI (is.foldl fk [])).map D.int)) else none
 | _=>none
end DL
namespace DL
open PySem PySem.Spec PyProof.Rows L2
section
variable {X:Cx}{PX:Prop}{a b e:Expr}{ma mb me:ME}{pos p p2 p3:Pos}
def wm {K:PySem.W.Frag}{H:Hp}{d d':D}{vs:List V}(h:Dens K H [d,d'] vs):∃v w,vs=[v,w]/\Den K H d v/\Den K H d' w:=by
 obtain⟨x,r,rfl,h1,h2⟩:=h.uncons;obtain⟨y,r2,rfl,h3,h4⟩:=h2.uncons;exact⟨x,y,by rw[h4.unnil],h1,h3⟩
def ky (hc:X.calm=true):jX X (.builtin "max") kX:=by
 refine⟨_,vS hc,fun os H L ds d vs Q r m k=>?_⟩
 match ds,m with
 | [.int i,.int j],m =>
   cases m;obtain⟨v,w,rfl,h1,h2⟩:=wm r;exact⟨i,j,by rw[h1.int_inv,h2.int_inv],k _ H (Same.refl _) (.int _)⟩
def mZ (hc:X.calm=true):jX X (.builtin "min") mL:=by
 refine⟨_,vR hc,fun os H L ds d vs Q r m k=>?_⟩
 match ds,m with
 | [.int i,.int j],m =>
   cases m;obtain⟨v,w,rfl,h1,h2⟩:=wm r;exact⟨i,j,by rw[h1.int_inv,h2.int_inv],k _ H (Same.refl _) (.int _)⟩
def B0 {i:Nat}{x:Str}(hN:X.N.Nodup)(hi:X.N[i]? = some x)(hx:X.env.scope.names.lookup x=some .local)(ha:DE X e me):DS X PX (.AugAssign (.Name x p2) .Add e pos) (CQ i (oI fun u v=>some (.int (u+v))) me):=by
 obtain⟨t,pt,q⟩:=ha;refine⟨_,Bi hN hi (.inl hx) pt BL (.inr hx),fun os σ H δ r D s m k=>?_⟩;have hil:i<X.N.length:=(List.getElem?_eq_some_iff.mp hi).1;obtain⟨dx,e1,m⟩:=aj m;obtain⟨dy,e2,m⟩:=aj m;obtain⟨dz,e3,m⟩:=aj m;cases m;obtain⟨u,w,rfl,rfl,e3⟩:=gr e3;cases e3;obtain⟨v,h1,r1⟩:=s.pl i _ hil (iw e1);rw[r1.int_inv] at h1;refine⟨.int u,h1,q os σ H δ _ _ s e2 fun y H1 g1 r2=>⟨u,w,rfl,r2.int_inv,?_⟩⟩;exact k _ H1 os (.of g1) ((s.mono g1).set i hil (.int _))
def sV (l b:Addr)(us ws:Array Value)(n n2:Nat)(dd:Option Addr)(sl:Array (Option Value))(hlong:¬(!us.isEmpty&&Builtin.List.listTooLong (us.size+ws.size))=true)(h1:us.size<=sizeLine)(h2:(us++ws).size<=sizeLine+1) :
 Meets (Builtin.«list.extend» ⟨[.ref l,.ref b],[]⟩) (fun _ R s=>s.heap.get? l=some { cls:=.type "list",data:=.seq us n }/\s.heap.get? b=some { cls:=.type "tuple",dict:=dd,data:=.seq ws n2,slots:=sl } /\
  R (.ok (.ret Value.none)) { s with heap:=s.heap.update l (Obj.mapSeq fun x=>x++ws) }) :=
 .of_wp fun prog w A R s h=>by
  obtain⟨hp,g,d,tk,os⟩:=s;obtain⟨hl,hb,h⟩:=h;have f1:=AutoSeq1.idx_int;have f2:=AutoSeq1.sub_tuple_tuple;have f3:=AutoSeq1.sub_list_list;have f4:=AutoSeq1.sub_tuple_list;have f5:=AutoSeq1.sub_list_tuple
  wp_walk using (wpAny_updateSeq hl rfl (hz:=h1) (_hz':=h2)),AutoSeq1.wpAny_loadPart' hl,AutoSeq1.wpAny_loadPart' hb
  exact⟨_,rfl,h⟩
def vE:Cv X "list.extend" (fun x vs H Q=>∃l b xs zs,x=.ref l/\vs=[.ref b]/\H l=some (.lst xs)/\SqT X.K H b zs/\xs.length+zs.length<=sizeLine/\Q .non (cr H l (.lst (xs++zs)))):=by
 intro pins s σ H x vs v us Q I rx rv h;obtain⟨l,b,xs,zs,rfl,rfl,hH,hB,hz,q⟩:=h;cases rx;obtain⟨u,rfl,ru⟩:=rv.one;cases ru;obtain⟨z,its,n,r,hl,e⟩:=I.lstM hH;obtain⟨its2,r2,⟨⟨c2,d2,dt2,sl2⟩,e2,c2',n2,t2'⟩,_⟩:=I.tuple hB;simp only at c2' t2';subst c2' t2';have hl2:=r2.length;have hsz:its.toArray.size+its2.toArray.size<=sizeLine:=by rw[List.size_toArray,List.size_toArray];omega
 have hlong:¬ (!its.toArray.isEmpty&&Builtin.List.listTooLong (its.toArray.size+its2.toArray.size))=true:=by
  rw[qW hsz,Bool.and_false];exact Bool.false_ne_true
 refine call_meets F.slot_list_extend ⟨_,e,rfl⟩ F.entry_list_extend (F.args_list_extend_2 _ _)
  (sV l b its.toArray its2.toArray n n2 d2 sl2 hlong (by rw[List.size_toArray];omega) (by rw[Array.size_append];omega)) ⟨e,e2,?_⟩
 refine⟨.non,_,I.lset (its':=its++its2) hH e (by simp) (r.append r2) ?_,rfl,q⟩;rw[List.length_append];omega
def sW (l b:Addr)(us ws:Array Value)(n n2:Nat)(sl:Array (Option Value))(hlong:¬(!us.isEmpty&&Builtin.List.listTooLong (us.size+ws.size))=true)(h1:us.size<=sizeLine)(h2:(us++ws).size<=sizeLine+1) :
 Meets (Builtin.«list.extend» ⟨[.ref l,.ref b],[]⟩) (fun _ R s=>s.heap.get? l=some { cls:=.type "list",data:=.seq us n }/\s.heap.get? b=some { cls:=.type "list",data:=.seq ws n2,slots:=sl } /\
  R (.ok (.ret Value.none)) { s with heap:=s.heap.update l (Obj.mapSeq fun x=>x++ws) }) :=
 .of_wp fun prog w A R s h=>by
  obtain⟨hp,g,d,tk,os⟩:=s;obtain⟨hl,hb,h⟩:=h;have f1:=AutoSeq1.idx_int;have f2:=AutoSeq1.sub_tuple_tuple;have f3:=AutoSeq1.sub_list_list;have f4:=AutoSeq1.sub_tuple_list;have f5:=AutoSeq1.sub_list_tuple
  wp_walk using (wpAny_updateSeq hl rfl (hz:=h1) (_hz':=h2)),AutoSeq1.wpAny_loadPart' hl,AutoSeq1.wpAny_loadPart' hb
  exact⟨_,rfl,h⟩
def yg:Cv X "list.extend" (fun x vs H Q=>∃l b xs zs,x=.ref l/\vs=[.ref b]/\H l=some (.lst xs)/\SqL X.K H b zs/\xs.length+zs.length<=sizeLine/\Q .non (cr H l (.lst (xs++zs)))):=by
 intro pins s σ H x vs v us Q I rx rv h;obtain⟨l,b,xs,zs,rfl,rfl,hH,hB,hz,q⟩:=h;cases rx;obtain⟨u,rfl,ru⟩:=rv.one;cases ru;obtain⟨z,its,n,r,hl,e⟩:=I.lstM hH;obtain⟨its2,r2,⟨⟨c2,d2,dt2,sl2⟩,n2,e2,c2',d2',t2'⟩,_⟩:=I.list hB;simp only at c2' d2' t2';subst c2' d2' t2';have hl2:=r2.length;have hsz:its.toArray.size+its2.toArray.size<=sizeLine:=by rw[List.size_toArray,List.size_toArray];omega
 have hlong:¬ (!its.toArray.isEmpty&&Builtin.List.listTooLong (its.toArray.size+its2.toArray.size))=true:=by
  rw[qW hsz,Bool.and_false];exact Bool.false_ne_true
 refine call_meets F.slot_list_extend ⟨_,e,rfl⟩ F.entry_list_extend (F.args_list_extend_2 _ _)
  (sW l b its.toArray its2.toArray n n2 sl2 hlong (by rw[List.size_toArray];omega) (by rw[Array.size_append];omega)) ⟨e,e2,?_⟩
 refine⟨.non,_,I.lset (its':=its++its2) hH e (by simp) (r.append r2) ?_,rfl,q⟩;rw[List.length_append];omega
def BE {id:String}{r r':V->List V->Hp->VK->Prop}(h:Cv X id r)(h':Cv X id r'):Cv X id (fun x vs H Q=>r x vs H Q\/r' x vs H Q):=by
 intro pins s σ H x vs v us Q I rx rv q;rcases q with q | q
 ·exact h pins s σ H x vs v us Q I rx rv q
 ·exact h' pins s σ H x vs v us Q I rx rv q
def sZ {n i:Nat}{xo:Expr}{p4:Pos}(hn:X.N.length=n)(hi:i<n)(hfn:X.fn ""=true)(hv:PE X xo (jp i))(he:DE X e me)
 (hbase:attributeBase xo "extend" X.env (eval xo X.env)=eval xo X.env:=by rfl)
 (hfew:((backTo p3 (starEach [e] X.env)).all (fun x => !x.1)&&(backToKw p3 (keywordEach [] X.env)).all (fun x=>x.1.isSome)
  && decide ([e].length+([]:List Keyword).length+(if ([]:List Keyword).isEmpty then 0 else 1)<30))=true:=by rfl)
 (hline:(p2.endLine==p3.line)=true:=by rfl) (hs:starEach [e] X.env=(false,eval e X.env)::starEach [] X.env:=by rfl) (hplain:(backTo p3 (starEach [] X.env)).any (·.1)=false:=by rfl) :
 DS X PX (.Expr (.Call (.Attribute xo "extend" p2) [e] [] p3) p4) (sk n i me):=by
 obtain⟨t,p,q⟩:=he;refine⟨_,oX (uc PySem.F.plainAttrs_list PySem.F.slot_list_extend PySem.F.type_list_extend (BE vE yg) hv (bN p df hs) hbase hfew hline hs hplain),fun os σ H δ r D s m k=>?_⟩;obtain⟨y,e1,m⟩:=aj m;split at m
 ·rename_i ds es ho;split at m
  ·rename_i hl;cases m;obtain⟨w1,w2,a,w3,w4,w5,xs,w6,w7⟩:=s.own_at hn hi ho;refine⟨_,w3,.inl ⟨rfl,xs,.of w6⟩,q os σ H δ _ _ s e1 fun v H' g rv=>?_⟩;obtain⟨b,zs,rfl,hb,hd⟩:=rv.tup_inv;have l1:=w7.length;have l2:=hd.length;refine .inl ⟨a,b,xs,zs,rfl,rfl,g _ _ w6,.of (hide_le _ _ hb),by rw[di];omega,?_⟩;obtain⟨s2,f2⟩:=(s.mono g).chg (d':=.lst (ds++es)) (o:=.lst (xs++zs)) hn hi hfn ho w3 ⟨_,bn,(w7.mono g.hd _ _).append hd⟩;exact k σ _ os ((Fr.of g).trans f2) s2
  ·cases m
 ·rename_i ds es ho;split at m
  ·rename_i hl;cases m;obtain⟨w1,w2,a,w3,w4,w5,xs,w6,w7⟩:=s.own_at hn hi ho;refine⟨_,w3,.inl ⟨rfl,xs,.of w6⟩,q os σ H δ _ _ s e1 fun v H' g rv=>?_⟩;obtain⟨b,zs,rfl,hb,hd⟩:=rv.lst_inv;have l1:=w7.length;have l2:=hd.length;refine .inr ⟨a,b,xs,zs,rfl,rfl,g _ _ w6,hide_le.seq hb,by rw[di];omega,?_⟩;obtain⟨s2,f2⟩:=(s.mono g).chg (d':=.lst (ds++es)) (o:=.lst (xs++zs)) hn hi hfn ho w3 ⟨_,bn,(w7.mono g.hd _ _).append hd⟩;exact k σ _ os ((Fr.of g).trans f2) s2
  ·cases m
 ·cases m
def _root_.DL.Dens.drop {K:PySem.W.Frag}{B:Hp}:∀{ds:List D} {xs:List V} (n:Nat),Dens K B ds xs->Dens K B (ds.drop n) (xs.drop n)
 | _,_,0,h=>by rw[List.drop_zero,List.drop_zero];exact h
 | [],_,n+1,h=>by rw[h.unnil];exact .nil
 | d::ds,_,n+1,h=>by
   obtain⟨x,r,rfl,h1,h2⟩:=h.uncons;exact h2.drop n
end
section
variable {X:Cx}{pins:List (Addr×Obj)}{σ:L2.St}{H:Hp}{s:Shared}
def xt {fp:List Addr}{T:Addr}{x y:V}{u w:Value}{h2:Heap}{tk':Nat}(I:Inv X pins σ H s)(hf:∀b∈fp,ir X pins H b)(hlt:∀b∈fp,b<s.heap.objs.size)(hT:T=s.heap.objs.size)(ru:RelV x u)(rw':RelV y w)
 (hk:∀b o,b∉fp->s.heap.get? b=some o->h2.get? b=some o) (ht:h2.get? T=some { cls:=.type "tuple",data:=.seq #[u,w] }) :
 Inv X pins σ (cr H T (.tup [x,y])) { s with heap:=h2,toks:=tk' }:=by
 subst hT;have I1:Inv X pins σ (cr H s.heap.objs.size (.tup [x,y])) { s with heap:=s.heap.push { cls:=.type "tuple",data:=.seq [u,w].toArray },toks:=tk' }:=by
  refine I.laid (t':=tk') (fun b o q=>Heap.get?_push_of_some _ q) (Nat.le_refl _) ?_;exact⟨by show 2<=sizeLine;rw[di];decide,[u,w],.cons ru (.cons rw' .nil),IsTup.new _ _⟩
 have T1:=jm (t':=tk') (h':=h2) (fp:=fp) I1;refine T1 (fun b hb=>⟨?_,(hf b hb).2⟩) fun b o hb q=>?_
 ·rw[aN (Nat.ne_of_lt (hlt b hb))];exact(hf b hb).1
 ·by_cases hz:b=s.heap.objs.size
  ·subst hz;have q':=(Heap.get?_push_size s.heap (o:={ cls:=.type "tuple",data:=.seq [u,w].toArray }) rfl).symm.trans q;cases q';exact ht
  ·have q':(s.heap.push { cls:=.type "tuple",data:=.seq [u,w].toArray }).get? b=some o:=q;have hlt':b<(s.heap.push { cls:=.type "tuple",data:=.seq [u,w].toArray }).objs.size:=Heap.lt_size q';rw[Heap.size_push] at hlt';have hb':b<s.heap.objs.size:=Nat.lt_of_le_of_ne (Nat.le_of_lt_succ hlt') hz;refine hk b o hb ?_;obtain⟨q1,q2⟩:=Heap.get?_some_iff.mp q';have q3:s.heap.objs[b]? = some o:=by
    revert q1
    generalize s.heap=hh at hb' ⊢;cases hh;intro q1;simpa[Heap.push,Array.getElem?_push,Nat.ne_of_lt hb'] using q1
   exact Heap.get?_some_iff.mpr ⟨q3,q2⟩
def En (K:PySem.W.Frag)(l1 l2:Addr):It :=
 ⟨fun i H=>∃xs ys x y,SqL K H l1 xs/\SqL K H l2 ys/\xs[i]? = some x/\ys[i]? = some y,
  fun i H v H'=>∃x y t,(∀xs,SqL K H l1 xs->xs[i]? = some x)/\(∀ys,SqL K H l2 ys->ys[i]? = some y)/\H t=none/\v=.ref t/\H'=cr H t (.tup [x,y]),
  fun i H=>∃xs ys,SqL K H l1 xs/\SqL K H l2 ys/\(xs[i]? = none\/ys[i]? = none)⟩
def E2 (z TI TO i1 i2 l1 l2:Addr)(i:Nat)(h:Heap):Prop:=IsZip h z TI TO .none/\IsPair h TI (.ref i1) (.ref i2)/\(∃a b,IsPair h TO a b)/\h.IsListIter i1 l1 i/\h.IsListIter i2 l2 i
def wo {P:Program}{w:World}{K:PySem.W.Frag}{elts:List Expr}{k:Nat}{pos:Pos}{z TI TO i1 i2 l1 l2:Addr}(D:ZipApart z TI TO i1 i2 l1 l2) :
 Turn P w K (.Tuple elts k pos) (En K l1 l2) [z,TI,TO,i1,i2] z (E2 z TI TO i1 i2 l1 l2) where
 mem:=by simp
 obj:=fun i h st b hb=>by
  obtain⟨a1,a2,⟨a,b',a3⟩,⟨o1,a4,_,c4⟩,⟨o2,a5,_,c5⟩⟩:=st;simp only[List.mem_cons,List.not_mem_nil,or_false] at hb;rcases hb with rfl | rfl | rfl | rfl | rfl
  ·exact⟨_,a1,fun v z=>by cases z⟩
  ·exact⟨_,a2,fun v z=>by cases z⟩
  ·exact⟨_,a3,fun v z=>by cases z⟩
  ·exact⟨_,a4,fun v z=>by rw[c4] at z;cases z⟩
  ·exact⟨_,a5,fun v z=>by rw[c5] at z;cases z⟩
 keep:=fun i h h' st kp=>by
  obtain⟨a1,a2,⟨a,b',a3⟩,a4,a5⟩:=st;exact⟨kp z (by simp) _ a1,kp TI (by simp) _ a2,⟨a,b',kp TO (by simp) _ a3⟩,a4.at fun o q=>kp i1 (by simp) o q,a5.at fun o q=>kp i2 (by simp) o q⟩
 item:=by
  intro X hP hw hK hc i pins s σ H E I hf st hg;subst hP hw hK;obtain⟨xs,ys,x,y,hq1,hq2,hx,hy⟩:=hg;obtain⟨its1,rv1,p1,_⟩:=I.list hq1;obtain⟨its2,rv2,p2,_⟩:=I.list hq2;obtain⟨u,hu,ru⟩:=rv1.get hx;obtain⟨v,hv,rv⟩:=rv2.get hy;obtain⟨a1,a2,⟨a,b',a3⟩,a4,a5⟩:=st;have lt:∀b∈[z,TI,TO,i1,i2],b<s.heap.objs.size:=fun b hb=>by
   simp only[List.mem_cons,List.not_mem_nil,or_false] at hb;rcases hb with rfl | rfl | rfl | rfl | rfl
   ·exact Heap.lt_size a1
   ·exact Heap.lt_size a2
   ·exact Heap.lt_size a3
   ·obtain⟨o,q,_⟩:=a4;exact Heap.lt_size q
   ·obtain⟨o,q,_⟩:=a5;exact Heap.lt_size q
  refine wpAny_pyNext_zip_item D a1 a2 a3 a4 a5 p1.isList p2.isList (x:=u) (y:=v) (by simpa using hu) (by simpa using hv) fun h1 b1 b2 b3 b4 b5 b6 b7=>?_;refine⟨_,rfl,wpAny_letOwnedTupleGo_zip b1 fun h2 c1 c2=>?_⟩;have c2':Heap.SameBut z h1 h2:=c2;have ne:∀b∈[z,TI,TO,i1,i2],s.heap.objs.size≠b:=fun b hb=>Nat.ne_of_gt (lt b hb);refine⟨.ref s.heap.objs.size,cr H s.heap.objs.size (.tup [x,y]),?_,rfl,⟨x,y,s.heap.objs.size,fun ws hw'=>by rw[I.list_inj hw' hq1];exact hx,fun ws hw'=>by rw[I.list_inj hw' hq2];exact hy,I.fresh,rfl,rfl⟩,⟨c1,?_,⟨_,_,(c2'.2 _ D.TOz).trans b2⟩,?_,?_⟩,fun b hb=>?_⟩
  ·refine xt (s:=s) (fp:=[z,TI,TO,i1,i2]) (tk':=s.toks) I hf lt rfl ru rv (fun b o hb q=>?_) ((c2'.2 _ (ne z (by simp))).trans b5);have n1:b≠z:=fun e=>hb (by simp[e]);exact(c2'.2 _ n1).trans (b7 b o n1 (fun e=>hb (by simp[e])) (fun e=>hb (by simp[e])) (fun e=>hb (by simp[e])) q)
  ·exact(c2'.2 _ D.TIz).trans (b7 _ _ D.TIz D.TITO D.TIi1 D.TIi2 a2)
  ·obtain⟨o,q,r⟩:=b3;exact⟨o,(c2'.2 _ D.i1z).trans q,r⟩
  ·obtain⟨o,q,r⟩:=b4;exact⟨o,(c2'.2 _ D.i2z).trans q,r⟩
  ·rw[aN (Nat.ne_of_lt (lt b hb))];exact(hf b hb).1
 done:=by
  intro X hP hw hK hc i pins s σ H E I hf st hg;subst hP hw hK;obtain⟨xs,ys,hq1,hq2,hn⟩:=hg;obtain⟨its1,rv1,p1,_⟩:=I.list hq1;obtain⟨its2,rv2,p2,_⟩:=I.list hq2;have e1:=rv1.length;have e2:=rv2.length;obtain⟨a1,a2,⟨a,b',a3⟩,a4,a5⟩:=st;refine wpAny_pyNext_zip_end (I.ok.hd hc) D a1 a2 a3 a4 a5 p1.isList p2.isList ?_ fun h' hk'=>⟨rfl,?_⟩
  ·rcases hn with hn | hn
   ·left;rw[List.getElem?_eq_none_iff] at hn;simp;omega
   ·right;rw[List.getElem?_eq_none_iff] at hn;simp;omega
  ·exact jm (t':=s.toks) I hf fun b o hb q=>hk' b o (fun e=>hb (by simp[e])) (fun e=>hb (by simp[e])) (fun e=>hb (by simp[e])) (fun e=>hb (by simp[e])) q
 self:=fun _ _ _ _ _ st h=>wpAny_pyIter_zip st.1 h
end
section
variable {X:Cx}{a b:Expr}{ma mb:ME}{pos pos' p:Pos}{elts:List Expr}{kt:Nat}
def Df (K:PySem.W.Frag)(ta:TA):TI:=fun σ H R=>ta σ H fun vs H1=>∃l1 l2 xs ys,vs=[.ref l1,.ref l2]/\SqL K H1 l1 xs/\SqL K H1 l2 ys/\R (En K l1 l2) H1
def Bj {ta:TA}(hg:Gl X "zip")(hm:X.mg "zip"=none)(ha:PA X [a,b] ta)(h1:starEach [a,b] X.env=(false,eval a X.env)::starEach [b] X.env:=by rfl)(hpl:(backTo pos (starEach [b] X.env)).any (·.1)=false:=by rfl) :
 PI X (.Tuple elts kt pos') (.Call (.Name "zip" p) [a,b] [] pos) (Df X.K ta):=by
 intro pins s σ H R I h;refine Call_ (fj I hg hm (by rfl) (PyProof.Rows.callWith_type1 (bU (ha pos pins s σ H _ I h) fun us s1 ⟨vs,H1,I1,r1,q1⟩=>?_) h1 hpl));obtain⟨l1,l2,xs,ys,e,hq1,hq2,q⟩:=q1;subst e;obtain⟨u,v,rfl,ru,rv⟩:=vals2 r1;cases ru;cases rv;obtain⟨its1,rv1,p1,_⟩:=I1.list hq1;obtain⟨its2,rv2,p2,_⟩:=I1.list hq2;have a1:l1<s1.heap.objs.size:=by obtain⟨_,q,_⟩:=p1.isList;exact Heap.lt_size q
 have a2:l2<s1.heap.objs.size:=by obtain⟨_,q,_⟩:=p2.isList;exact Heap.lt_size q
 refine call_zip_2 p1.isList p2.isList fun h' hz hTI hTO hi1 hi2 hsz hk=>wpAny_pyIter_zip hz ?_;refine⟨s1.heap.objs.size+4,[s1.heap.objs.size+4,s1.heap.objs.size+2,s1.heap.objs.size+3,s1.heap.objs.size,s1.heap.objs.size+1],_,_,H1,rfl,I1.kept (t':=s1.toks) hk,wo (zipApart_new a1 a2),⟨hz,hTI,⟨_,_,hTO⟩,hi1,hi2⟩,fun b hb=>?_,q⟩;have hb':s1.heap.objs.size<=b:=by
  simp only[List.mem_cons,List.not_mem_nil,or_false] at hb;rcases hb with rfl | rfl | rfl | rfl | rfl
  ·exact Nat.le_add_right _ _
  ·exact Nat.le_add_right _ _
  ·exact Nat.le_add_right _ _
  ·exact Nat.le_refl _
  ·exact Nat.le_add_right _ _
 exact I1.fpOk hb' (I1.hok.fresh hb')
def vZ (xs ys:List D)(i:Nat)(d:D)(h:(nr xs ys)[i]? = some d):∃x y,xs[i]? = some x/\ys[i]? = some y/\d=.tup [x,y]:=by
 unfold nr at h;rw[List.getElem?_map] at h;cases hz:(xs.zip ys)[i]? with
 | none=>rw[hz] at h;cases h
 | some q =>
   rw[hz] at h;obtain⟨e1,e2⟩:=List.getElem?_zip_eq_some.mp hz;exact⟨q.1,q.2,e1,e2,(Option.some.inj h).symm⟩
def wa {K:PySem.W.Frag}{B:Hp}{l1 l2:Addr}{ds es:List D}{xs ys:List V}(h1:SqL K B l1 xs)(d1:Dens K B ds xs)(h2:SqL K B l2 ys)(d2:Dens K B es ys):Walk K (En K l1 l2) B (nr ds es):=by
 intro i os1 H1 L g;have gu:=g.trans hide_le;refine⟨fun d hd=>?_,fun hl=>⟨xs,ys,gu.seq h1,gu.seq h2,?_⟩⟩
 ·obtain⟨x,y,e1,e2,rfl⟩:=vZ ds es i d hd;obtain⟨v,hv,rv⟩:=d1.get e1;obtain⟨w,hw,rw'⟩:=d2.get e2;refine⟨⟨xs,ys,v,w,gu.seq h1,gu.seq h2,hv,hw⟩,fun u H2 z=>?_⟩;obtain⟨v',w',t,z1,z2,ht,rfl,rfl⟩:=z;have q1:=z1 xs (gu.seq h1);have q2:=z2 ys (gu.seq h2);rw[hv] at q1;rw[hw] at q2;cases q1;cases q2;exact⟨aX ht (.tup [v,w]),.newT L ht (.cons (rv.mono g _ _) (.cons (rw'.mono g _ _) .nil))⟩
 ·have l1:=d1.length;have l2:=d2.length;have hz:(nr ds es).length=min ds.length es.length:=by simp[nr]
  rw[List.getElem?_eq_none_iff,List.getElem?_eq_none_iff];omega
def B3 (hg:Gl X "zip")(hm:X.mg "zip"=none)(ha:DE X a ma)(hb:DE X b mb)(h1:starEach [a,b] X.env=(false,eval a X.env)::starEach [b] X.env:=by rfl)(h2:starEach [b] X.env=(false,eval b X.env)::starEach [] X.env:=by rfl)(hpl:(backTo pos (starEach [b] X.env)).any (·.1)=false:=by rfl) :
 DI X (.Tuple elts kt pos') (.Call (.Name "zip" p) [a,b] [] pos) (BP ma mb):=by
 obtain⟨ta,pa,qa⟩:=ha;obtain⟨tb,pb,qb⟩:=hb;refine⟨_,Bj hg hm (bN pa (bN pb df h2) h1) h1 hpl,fun os σ H δ xs R s m k=>?_⟩;obtain⟨dx,e1,m⟩:=aj m;obtain⟨dy,e2,m⟩:=aj m;refine qa os σ H δ dx _ s e1 fun v H1 g1 r1=>?_;refine qb os σ H1 δ dy _ (s.mono g1) e2 fun w H2 g2 r2=>?_
 match dx,dy,m with
 | .lst ds,.lst es,m =>
   cases m;obtain⟨l1,xs,rfl,h1,d1⟩:=(r1.mono g2.hd _ _).lst_inv;obtain⟨l2,ys,rfl,h2,d2⟩:=r2.lst_inv;exact⟨l1,l2,xs,ys,rfl,hide_le.seq h1,hide_le.seq h2,k _ H2 (g1.trans g2) (wa h1 d1 h2 d2)⟩
end
end DL
namespace DL
open PySem
def Cut (xs:Array Nat)(j r:Nat):Prop:=r<=xs.size/\(∀i v,i<r->xs[i]? = some v->v<j)/\∀i v,r<=i->xs[i]? = some v->j<=v
def Ris (xs:Array Nat):Prop:=xs.toList.Pairwise (·<·)
def Ris.lt {xs:Array Nat}(h:Ris xs){i k u v:Nat}(hk:i<k)(h1:xs[i]? = some u)(h2:xs[k]? = some v):u<v:=by
 rw[<-Array.getElem?_toList] at h1 h2;obtain⟨a1,e1⟩:=List.getElem?_eq_some_iff.mp h1;obtain⟨a2,e2⟩:=List.getElem?_eq_some_iff.mp h2;have:=List.pairwise_iff_getElem.mp h i k a1 a2 hk;rw[e1,e2] at this;exact this
def m7 {xs:Array Nat}(h:Ris xs)(j:Nat):∀(f lo hi:Nat),hi-lo<=f->lo<=hi->hi<=xs.size->(∀i v,i<lo->xs[i]? = some v->v<j)->(∀i v,hi<=i->xs[i]? = some v->j<=v)->Cut xs j (SetTable.below.go xs j f lo hi)
 | 0,lo,hi,hf,hl,hs,h1,h2=>by
   rw[SetTable.below.go];exact⟨by omega,h1,fun i v hi'=>h2 i v (by omega)⟩
 | f+1,lo,hi,hf,hl,hs,h1,h2=>by
   rw[SetTable.below.go];by_cases hlt:lo<hi
   ·rw[if_pos hlt];have hm:(lo+hi) / 2<xs.size:=by omega
    have e:xs[(lo+hi) / 2]? = some xs[(lo+hi) / 2]:=Array.getElem?_eq_getElem hm;have eD:xs.getD ((lo+hi) / 2) j=xs[(lo+hi) / 2]:=by simp[hm]
    simp only[eD];by_cases hc:xs[(lo+hi) / 2]<j
    ·rw[if_pos hc];refine m7 h j f _ _ (by omega) (by omega) hs (fun i v hi' q=>?_) h2;by_cases hq:i=(lo+hi) / 2
     ·subst hq;rw[e] at q;cases q;exact hc
     ·have:=h.lt (show i<(lo+hi) / 2 by omega) q e;omega
    ·rw[if_neg hc];refine m7 h j f _ _ (by omega) (by omega) (by omega) h1 fun i v hi' q=>?_;by_cases hq:i=(lo+hi) / 2
     ·subst hq;rw[e] at q;cases q;omega
     ·have:=h.lt (show (lo+hi) / 2<i by omega) e q;omega
   ·rw[if_neg hlt];exact⟨by omega,h1,fun i v hi'=>h2 i v (by omega)⟩
def kz {xs:Array Nat}(h:Ris xs)(j:Nat):Cut xs j (SetTable.below xs j):=by
 unfold SetTable.below;refine m7 h j _ _ _ (by omega) (by omega) (Nat.le_refl _) (fun i v hi=>by omega) fun i v hi q=>?_;rw[Array.getElem?_eq_none hi] at q;cases q
def Cut.uniq {xs:Array Nat}{j r r':Nat}(h:Cut xs j r)(h':Cut xs j r'):r=r':=by
 rcases Nat.lt_trichotomy r r' with q | q | q
 ·have hr:=Nat.lt_of_lt_of_le q h'.1;have e:xs[r]? = some xs[r]:=Array.getElem?_eq_getElem hr;have a:=h'.2.1 r _ q e;have b:=h.2.2 r _ (Nat.le_refl _) e;omega
 ·exact q
 ·have hr:=Nat.lt_of_lt_of_le q h.1;have e:xs[r']? = some xs[r']:=Array.getElem?_eq_getElem hr;have a:=h.2.1 r' _ q e;have b:=h'.2.2 r' _ (Nat.le_refl _) e;omega
def tF {xs:Array Nat}(h:Ris xs){i v:Nat}(e:xs[i]? = some v):SetTable.below xs (v+1)=i+1:=by
 have hi:i<xs.size:=(Array.getElem?_eq_some_iff.mp e).1;refine(kz h (v+1)).uniq ⟨by omega,fun k u hk q=>?_,fun k u hk q=>?_⟩
 ·by_cases z:k=i
  ·subst z;rw[e] at q;cases q;omega
  ·have:=h.lt (show k<i by omega) q e;omega
 ·exact h.lt (show i<k by omega) e q
def tD (xs:Array Nat)(h:Ris xs):SetTable.below xs 0=0 :=
 (kz h 0).uniq ⟨Nat.zero_le _,fun i v hi=>by omega,fun _ _ _ _=>Nat.zero_le _⟩
def yX {xs:Array Nat}(h:Ris xs){j:Nat}(hn:xs[SetTable.below xs j]?≠some j):Ris (SetTable.insertAt xs (SetTable.below xs j) j):=by
 obtain⟨c1,c2,c3⟩:=kz h j;generalize SetTable.below xs j=p at *;unfold Ris;rw[SetTable.toList_insertAt,List.pairwise_append];refine⟨h.sublist (List.take_sublist _ _),List.pairwise_cons.mpr ⟨fun b hb=>?_,h.sublist (List.drop_sublist _ _)⟩,fun a ha b hb=>?_⟩
 ·obtain⟨k,hk⟩:=List.mem_iff_getElem?.mp hb;rw[List.getElem?_drop,Array.getElem?_toList] at hk;have h1:=c3 _ _ (Nat.le_add_right _ _) hk;by_cases z:k=0
  ·subst z;rcases Nat.lt_or_eq_of_le h1 with q | q
   ·exact q
   ·subst q;exact absurd hk hn
  ·have hp:p<xs.size:=by
    have:=(Array.getElem?_eq_some_iff.mp hk).1;omega
   have e:xs[p]? = some xs[p]:=Array.getElem?_eq_getElem hp;have h2:=c3 _ _ (Nat.le_refl _) e;have h3:=h.lt (show p<p+k by omega) e hk;omega
 ·obtain⟨k,hk⟩:=List.mem_iff_getElem?.mp ha;have hkp:k<p:=Classical.byContradiction fun z=>by
   rw[List.getElem?_eq_none (by rw[List.length_take];omega)] at hk;cases hk
  rw[List.getElem?_take_of_lt hkp,Array.getElem?_toList] at hk;have h1:=c2 _ _ hkp hk;rcases List.mem_cons.mp hb with rfl | hb
  ·exact h1
  ·obtain⟨q,hq⟩:=List.mem_iff_getElem?.mp hb;rw[List.getElem?_drop,Array.getElem?_toList] at hq;have h2:=c3 _ _ (Nat.le_add_right _ _) hq;omega
structure Tb (bt:Bool)(t:SetTable)(n:Nat):Prop where
 fit:t.fits n=true
 ris:Ris t.place
 nod:t.dummies=#[]
 led:bt=true\/t.led=true
def wx (bt:Bool):Tb bt (.fresh 0 0 (!bt)) 0:=⟨by decide +revert,by simp[SetTable.fresh,Ris],rfl,by cases bt <;> simp[SetTable.fresh]⟩
def xw (j:Nat):SetTable.has #[] j=false:=by unfold SetTable.has;simp
def qJ {t:SetTable}(hd:t.dummies=#[])(g:Nat->Int)(h:Int):∀(f:Nat) (p:SetTable.Probe) (j:Nat) (d:Option Nat),p.dummy=none->SetTable.probe.go t g h f p=some (.empty j d)->d=none/\t.slot j=.empty
 | 0,p,j,d,_,e=>by rw[SetTable.probe.go] at e;cases e
 | f+1,p,j,d,hp,e=>by
   rw[SetTable.probe.go] at e;have adv:(t.advance p).dummy=none:=by unfold SetTable.advance;split <;> exact hp
   split at e
   ·rename_i hs;simp only[Option.some.injEq,SetTable.Met.empty.injEq] at e;obtain⟨rfl,rfl⟩:=e;exact⟨hp,hs⟩
   ·rename_i hs;exfalso;unfold SetTable.slot at hs;simp only[hd,xw] at hs;split at hs <;> simp at hs
   ·split at e
    ·cases e
    ·exact qJ hd g h f _ j d adv e
def vB {t:SetTable}(hd:t.dummies=#[]){h:Int}{j:Nat}{b:Bool}(e:t.freeSlot h=some (j,b)):t.place[SetTable.below t.place j]?≠some j:=by
 unfold SetTable.freeSlot at e;split at e
 ·rename_i j' d hp;obtain⟨rfl,hs⟩:=qJ hd _ h _ _ _ _ rfl hp;simp only[Option.getD_none,Option.isSome_none,Option.some.injEq,Prod.mk.injEq] at e;obtain⟨rfl,_⟩:=e;intro z;unfold SetTable.slot at hs;simp[z] at hs
 ·cases e
def jo {bt:Bool}{t:SetTable}(h:bt=true\/t.led=true)(n:Nat):Tb bt (t.standIn n) n :=
 ⟨SetTable.standIn_fits t n,by unfold Ris SetTable.standIn;simp[List.pairwise_lt_range],rfl,h⟩
def AW {bt:Bool}{t:SetTable}{es:Array (Int×Value)}(T:Tb bt t es.size)(h:Int)(x:Value):Tb bt (layNew t es h x).2.1 (layNew t es h x).1.size:=by
 unfold layNew;cases e:t.freeSlot h with
 | none =>
   dsimp only;rw[Array.size_push];exact jo T.led _
 | some q =>
   obtain⟨j,b⟩:=q;have hn:=vB T.nod e;dsimp only;unfold SetTable.orStandIn;split
   ·rename_i hf;refine⟨hf,yX T.ris hn,?_,T.led⟩;show (if SetTable.has t.dummies j=true then _ else t.dummies)=#[];rw[T.nod,xw];rfl
   ·exact jo T.led _
def ww {bt:Bool}{t:SetTable}{es:Array (Int×Value)}(hl:bt=true\/t.led=true)(k:Nat):Tb bt (relayAll t es k).2.1 (relayAll t es k).1.size:=by
 unfold relayAll;cases e:t.relaid (es.map (·.1)) k with
 | none=>exact jo hl _
 | some q =>
   obtain⟨t',order⟩:=q;dsimp only;split
   ·rename_i hc;simp only[Bool.and_eq_true] at hc;unfold SetTable.relaid SetTable.laid at e;obtain⟨ow,_,e⟩:=Option.bind_eq_some_iff.mp e;simp only[Option.pure_def,Option.some.injEq,Prod.mk.injEq] at e;obtain⟨rfl,_⟩:=e;refine⟨hc.2,?_,rfl,hl⟩;show List.Pairwise (·<·) (List.map _ _).toArray.toList;rw[List.toList_toArray,List.pairwise_map];refine List.Pairwise.filterMap _ (fun a a' haa b hb b' hb'=>?_) List.pairwise_lt_range;obtain⟨u,_,rfl⟩:=Option.map_eq_some_iff.mp hb;obtain⟨u',_,rfl⟩:=Option.map_eq_some_iff.mp hb';exact haa
   ·exact jo hl _
end DL
namespace DL
open PySem PyProof.Rows
noncomputable def vY (e:Int×Value):Int:=match e.2 with
 | .int k _=>k
 | _=>0
def AllI (es:List (Int×Value)):Prop:=∀e∈es,∃t,e.2=.int (vY e) t/\e.1=hashInt (vY e)
noncomputable def bt (w:World):Bool:=w.params.followText "set-order"
def SetS (w:World)(h:Heap)(a:Addr)(ks:List Int):Prop :=
 ∃o es ep t,h.get? a=some o/\o.ExactSet/\o.data=.set es ep t/\AllI es.toList/\(es.toList.map vY).Perm ks/\es.size<scanBound/\Tb (bt w) t es.size
def AllI.elems {P:Program}{w:World}{es:List (Int×Value)}(h:AllI es):ElemsOf (intKind P w) es:=fun e he=>by
 obtain⟨t,h1,h2⟩:=h e he;refine⟨⟨vY e,?_,h2⟩,?_⟩
 ·rw[h1];exact intKind_is P w _ _
 ·rw[h1];rfl
def AllI.perm {l l':List (Int×Value)}(h:AllI l)(p:l'.Perm l):AllI l':=fun e he=>h e (p.mem_iff.mp he)
def AllI.snoc {l:List (Int×Value)}(h:AllI l)(n:Int)(t:Tok):AllI (l++[(hashInt n,.int n t)]):=fun e he=>by
 rcases List.mem_append.mp he with q | q
 ·exact h e q
 ·rw[List.mem_singleton.mp q];exact⟨t,rfl,rfl⟩
def SetS.at' {w:World}{h h':Heap}{a:Addr}{ks:List Int}(x:SetS w h a ks)(k:∀o,h.get? a=some o->h'.get? a=some o):SetS w h' a ks :=
 let ⟨o,es,ep,t,e,r⟩:=x;⟨o,es,ep,t,k _ e,r⟩
section
variable {P:Program}{w:World}{A:Around}{E:Value->Shared->Prop}{s:Shared}
def rb {h:Heap}{a:Addr}{o:Obj}{es es':Array (Int×Value)}{ep:Nat}{t t':SetTable}(ho:h.get? a=some o)(hx:o.ExactSet)(hd:o.data=.set es ep t) :
 ∃o',(h.update a (Obj.putSet es' t')).get? a=some o'/\o'.ExactSet/\o'.data=.set es' (ep+1) t':=by
 have q:=Heap.get?_update_self (Obj.putSet es' t') ho (by rw[putSet_of es' t' hd];rfl);rw[putSet_of es' t' hd] at q;exact⟨_,q,hx,rfl⟩
def yU {a:Addr}{ks:List Int}{n:Int}{tk:Tok}{Q:Bool->Shared->Prop}(hS:SetS w s.heap a ks)(hr:ks.length+1<scanBound)
 (k:∀b h',Heap.SameBut a s.heap h'->SetS w h' a (fk ks n)->Q b { s with heap:=h' }):wpAny (model P w) A (setAddHashed a (.int n tk) (hashInt n)) Q E s:=by
 obtain⟨o,es,ep,t,ho,hx,hd,hi,hp,hb,hT⟩:=hS;have hlen:es.size=ks.length:=by rw[<-hp.length_eq,List.length_map,Array.length_toList]
 have hel:=hi.elems (P:=P) (w:=w);have hkey:=intKind_is P w n tk;unfold setAddHashed setAddHashedIn;refine wpAny_holding (wpAny_bind ?_);refine wpAny_setState_of ho hd hT.fit ?_;dsimp only;rw[if_pos (byScan_of (knd:=intKind P w) (x:=.int n tk) rfl hb hel)];unfold setAddByScan;refine wpAny_bind (wpAny_bind (wpAny_rule (wpAny_bind ?_)));refine wpAny_setScan_of (knd:=intKind P w) (k:=n) hkey ho hd hT.fit hel ?_;have hmem:n∈ks↔∃e∈es.toList,(intKind P w).is n e.2=true:=by
  rw[<-hp.mem_iff,List.mem_map];constructor
  ·rintro⟨e,he,rfl⟩;obtain⟨tt,q,_⟩:=hi e he;exact⟨e,he,by rw[q];exact intKind_is P w _ _⟩
  ·rintro⟨e,he,q⟩;obtain⟨tt,q',_⟩:=hi e he;refine⟨e,he,?_⟩;rw[q'] at q;exact(intKind P w).inj _ _ _ (intKind_is P w _ _) q
 cases hf:List.findIdx? (fun e=>(intKind P w).is n e.2) es.toList with
 | some j =>
   obtain⟨hj,hpj,_⟩:=List.findIdx?_eq_some_iff_getElem.mp hf;have hin:n∈ks:=hmem.mpr ⟨_,List.getElem_mem hj,hpj⟩;dsimp only;refine wpAny_pure (wpAny_pure ?_);refine k false s.heap (Heap.SameBut.refl a _) ?_;unfold fk;rw[if_pos hin];exact⟨o,es,ep,t,ho,hx,hd,hi,hp,hb,hT⟩
 | none =>
   have hin:n∉ks:=fun z=>by
    obtain⟨e,he,q⟩:=hmem.mp z;have:=List.findIdx?_eq_none_iff.mp hf e he;rw[q] at this;cases this
   dsimp only;have p1:=layNew_perm t es (hashInt n) (.int n tk);have T1:=AW hT (hashInt n) (.int n tk);generalize layNew t es (hashInt n) (.int n tk)=L at p1 T1 ⊢;obtain⟨es1,t1,dm,gv⟩:=L;dsimp only at p1 T1 ⊢;rw[Array.toList_push] at p1;have i1:AllI es1.toList:=(hi.snoc n tk).perm p1;have n1:es1.size=es.size+1:=by
    have:=p1.length_eq;simpa using this
   have b1:es1.size<scanBound:=by omega
   have q1:(es1.toList.map vY).Perm (fk ks n):=by
    unfold fk;rw[if_neg hin];refine(p1.map vY).trans ?_;rw[List.map_append];exact hp.append_right _
   have gw:∀(b:Bool) (s₁:Shared) (Q':Unit->Shared->Prop),Q' () s₁->wpAny (model P w) A (match b with | true=>rule "set.scan.the-table-gave-way" | false=>pure ()) Q' E s₁:=fun b s₁ Q' z=>by
    cases b
    ·exact wpAny_pure z
    ·exact wpAny_rule z
   obtain⟨o1,g1,x1,d1⟩:=rb (es':=es1) (t':=t1) ho hx hd;have sb1:=Heap.SameBut.update s.heap a (Obj.putSet es1 t1);have p2:=relayAll_perm t1 es1 (SetTable.grown es1.size);have T3:=ww (es:=es1) T1.led (SetTable.grown es1.size);obtain⟨o2,g2,x2,d2⟩:=rb (es':=(relayAll t1 es1 (SetTable.grown es1.size)).1) (t':=(relayAll t1 es1 (SetTable.grown es1.size)).2.1) g1 x1 d1;have n2:(relayAll t1 es1 (SetTable.grown es1.size)).1.size=es1.size:=by simpa using p2.length_eq
   have end2:=k true _ (sb1.trans (Heap.SameBut.update _ a _)) ⟨o2,_,_,_,g2,x2,d2,i1.perm p2,(p2.map vY).trans q1,by omega,T3⟩;have end1:=k true _ sb1 ⟨o1,es1,_,t1,g1,x1,d1,i1,q1,b1,T1⟩;refine wpAny_bind (gw gv s _ ?_);have st:∀(R':Unit->Shared->Prop),R' () { s with heap:=s.heap.update a (Obj.putSet es1 t1) }->wpAny (model P w) A (storeSet a es1 t1) R' E s:=fun R' z=>wpAny_storeSet_of ho hd z (fits_of_scanBound b1);have st2:∀(R':Unit->Shared->Prop),R' () { s with heap:=(s.heap.update a (Obj.putSet es1 t1)).update a (Obj.putSet (relayAll t1 es1 (SetTable.grown es1.size)).1 (relayAll t1 es1 (SetTable.grown es1.size)).2.1) } ->
    wpAny (model P w) A (storeSet a (relayAll t1 es1 (SetTable.grown es1.size)).1 (relayAll t1 es1 (SetTable.grown es1.size)).2.1) R' E { s with heap:=s.heap.update a (Obj.putSet es1 t1) }:=fun R' z=>wpAny_storeSet_of g1 d1 z (fits_of_scanBound (by omega))
   have hv:=hashByValue_scannable 8 (x:=.int n tk) rfl;refine wpAny_ite_split (c:=t1.plain=true) (fun _=>?_) fun _=>?_
   all_goals try rw[hv]
   all_goals refine wpAny_bind (wpAny_pure ?_)
   all_goals refine wpAny_bind (m:=storeSet a es1 t1) (st _ ?_)
   all_goals exact wpAny_ite_split (c:=(!dm&&t1.tooFull)=true) (fun _=>wpAny_bind (gw _ _ _ (wpAny_bind (st2 _ (wpAny_pure (wpAny_pure end2)))))) fun _=>wpAny_pure (wpAny_pure end1)
end
section
variable {P:Program}{w:World}{A:Around}{E:Value->Shared->Prop}{s:Shared}
def we {β:Type}{m:Sem β}{k:β->Sem PySem.Fin}{vs:List Value}{R:Result->Shared->Prop}(h:wpAny (model P w) A.in1 m (fun b s'=>wpAny (model P w) A.in1 (k b) (fun fin s'=>match fin with | .done f=>R (.ok f) s' | .again c'=>c'.quiet=true/\codeAny (model P w) A c' R s') (fun e s'=>R (.error e) s') s') (fun e s'=>R (.error e) s') s)
 (e:Builtin.«set.update.loop» ⟨vs,[]⟩=m >>= k):codeAny (model P w) A (.builtin "set.update.loop" ⟨vs,[]⟩) R s :=
 codeAny_builtin PyProof.Rows.F.entry_set_update_loop (by rw[Around.under_plainId PyProof.Rows.F.plain_set_update_loop _,e];exact wpAny_bind h)
def wG {R:Result->Shared->Prop}{I:Addr}{fp wr:List Addr}{G:Array GenState->Array GenState->Prop}{n:Nat}{PI:Nat->Value->Prop}{St:Nat->Shared->Prop}(W:WalksS P w A.in1 I fp wr G n PI St){a:Addr}(ha:a∉fp)
 (val:Nat->Int) (hv:∀i v,PI i v->∃t,v=.int (val i) t) (hb:n+1<scanBound):∀(m i:Nat) (s:Shared) (ks:List Int),n-i=m->i<=n->ks.length<=i->St i s->SetS w s.heap a ks ->
  (∀s',Moved (a::wr) G s s'->SetS w s'.heap a (((List.range' i (n-i)).map val).foldl fk ks)->R (.ok (.ret .none)) s') ->
  codeAny (model P w) A (.builtin "set.update.loop" ⟨[.ref a,.ref I],[]⟩) R s:=by
 have haw:a∉wr:=fun z=>ha (W.sub _ z);have up:∀b∈wr,b∈a::wr:=fun b z=>List.mem_cons_of_mem _ z;intro m;induction m with
 | zero =>
   intro i s ks hm hi hl hst hS k;have e:i=n:=by omega
   subst e;refine we (m:=pyNext (.ref I)) ?_ rfl;refine W.done s _ _ hst fun s' hm'=>wpAny_pure (k s' (hm'.mono up) ?_);rw[Nat.sub_self];exact hS.at' fun o q=>hm'.heap a o haw q
 | succ m ih =>
   intro i s ks hm hi hl hst hS k;have hlt:i<n:=by omega
   refine we (m:=pyNext (.ref I)) ?_ rfl;refine W.item i s _ _ hlt hst fun v s' hp hst' hm'=>?_;obtain⟨t,rfl⟩:=hv i v hp;have hS':=hS.at' (h':=s'.heap) fun o q=>hm'.heap a o haw q;refine wpAny_bind (m:=holding [Value.int (val i) t] (setAdd a (.int (val i) t))) (wpAny_holding (wpAny_holding (wpAny_bind ((intKind P w).pyHash (k:=val i) (intKind_is _ _ _ _) ?_))));refine yU (P:=P) (s:={ s' with toks:=s'.toks+1 }) hS' (by omega) fun b h' sb hS2=>?_;have hlen:(fk ks (val i)).length<=i+1:=by
    unfold fk;split
    ·omega
    ·rw[List.length_append,List.length_singleton];omega
   refine wpAny_pure ⟨plainId_quiet PyProof.Rows.F.plain_set_update_loop _,ih (i+1) _ _ (by omega) hlt hlen (W.frame _ s' _ _ hst' (Nat.le_succ _) fun c hc o q=>?_) hS2 fun s2 m2 hS3=>?_⟩
   ·rw[sb.2 c fun z:c=a=>ha (z ▸ hc)];exact q
   ·refine k s2 (Moved.trans W.gtrans ((hm'.mono up).then_heap (Nat.le_succ _) fun c o hc q=>?_) m2) ?_
    ·rw[sb.2 c fun z:c=a=>hc (z ▸ List.mem_cons_self)];exact q
    ·have e:n-i=(n-(i+1))+1:=by omega
     rw[e,List.range'_succ];exact hS3
def yT (x:Value){Q₁:Value->Shared->Prop}(k:Q₁ (.ref s.heap.objs.size) { s with heap:=s.heap.push { cls:=.type "set",dict:=none,data:=.set #[] 0 (.fresh 0 0 (!bt w)) } }) :
 codeAny (model P w) A (.call (.builtin "set.__new__") ⟨[.type "set",x],[]⟩) (wants Q₁ E) s:=by
 refine codeAny_of_tree ?_;show wpAny _ _ (checkBuiltinCall "set.__new__" ⟨[.type "set",x],[]⟩ >>= fun _=>again (.builtin "set.__new__" ⟨[.type "set",x],[]⟩)) _ _ _;refine wpAny_bind (wpAny_of_eq (PySem.F.newCall_set_1 x) ?_);refine wpAny_pure ⟨plainId_quiet PySem.F.plain_set_new _,codeAny_builtin PySem.F.entry_set_new ?_⟩;rw[Around.under_plainId PySem.F.plain_set_new _];unfold Builtin.«set.__new__» Builtin.Frozenset.newClass;have q:=sub_set_self;obtain⟨hp,g,d,tk,os⟩:=s;dsimp only at k ⊢
 wp_walk
 refine wpAny_askSetting (wpAny_pure ?_);simp only[newObj];exact wpAny_bind (wpAny_alloc (wpAny_pure (wpAny_pure k)))
end
section
variable {P:Program}{w:World}{A:Around}{E:Value->Shared->Prop}{s:Shared}
set_option maxHeartbeats 3200000 in
def vQ {l:Addr}{vs:List Value}{ns:List Int}{Q:Value->Shared->Prop}(hh:A.handled=none)(hl:s.heap.IsList l vs.toArray)(hi:IntsAre vs ns)(hb:vs.length+1<scanBound)
 (k:∀h' tk,SetS w h' s.heap.objs.size (ns.foldl fk [])->(∀b o,s.heap.get? b=some o->h'.get? b=some o)->Q (.ref s.heap.objs.size) { s with heap:=h',toks:=tk }) :
 wpAny (model P w) A (call (.type "set") [.ref l]) Q E s:=by
 obtain⟨c0,tl0,hm0⟩:=PySem.F.called_set.mro;have f1:=PySem.F.called_set.made;have f2:=PySem.F.called_set.sub;have f3:=PySem.F.called_set.notType;have f4:=PySem.F.called_set.canCreate;have f5:=PySem.F.typeCall_set_1 (.ref l);refine wpAny_call (codeAny_of_tree (show wpAny _ _ (callAny (.type "set") _) _ _ _ from wpAny_pure ⟨Code.quiet_builtin _ (by decide +kernel),codeAny_builtin PySem.F.entry_type_call ?_⟩));rw[Around.under_plain (weight_type_call_type "set" [.ref l] []) rfl]
 repeat (any_goals (first | assumption | wp_step))
 refine codeAny_mono (yT (.ref l) (E:=E) (Q₁:=fun v s1=>v=.ref s.heap.objs.size/\s1={ s with heap:=s.heap.push { cls:=.type "set",dict:=none,data:=.set #[] 0 (.fresh 0 0 (!bt w)) } }) ⟨rfl,rfl⟩) fun r s1 hr=>?_
 match r,hr with
 | .error e,hr=>exact hr
 | .ok (.ret v),hr =>
   obtain⟨rfl,rfl⟩:=hr;generalize ho:({ cls:=.type "set",dict:=none,data:=.set #[] 0 (.fresh 0 0 (!bt w)) }:Obj)=ob;have g0:(s.heap.push ob).get? s.heap.objs.size=some ob:=Heap.get?_push_size _ (by rw[<-ho];rfl);have g1:Shared.TypeIs { s with heap:=s.heap.push ob } (.ref s.heap.objs.size) "set":=⟨_,g0,by rw[<-ho]⟩;have g2:=PySem.F.called_set.init.lookup;have g3:=PySem.F.called_set.init.bind (.ref s.heap.objs.size)
   repeat (any_goals (first | assumption | wp_step))
   refine codeAny_mono (codeAny_call_builtin (R:=wants (fun r s2=>r=.none/\∃h' tk,s2={ s with heap:=h',toks:=tk }/\SetS w h' s.heap.objs.size (ns.foldl fk [])/\(∀b o,s.heap.get? b=some o->h'.get? b=some o)) E)
    PySem.F.called_set.init.plain PySem.F.entry_set_init (check_set_init_1 g1 ?_)) fun r2 s2 hr2=>?_
   ·obtain⟨ol,hol,cl,nl,dl⟩:=hl;obtain⟨oc,od,oda,os⟩:=ol;simp only at cl dl;subst cl dl;have hol':(s.heap.push ob).get? l=some { cls:=.type "list",dict:=od,data:=.seq vs.toArray nl,slots:=os }:=Heap.get?_push_of_some _ hol;have q1:=PySem.F.sub_list_set;have q2:=PySem.F.sub_list_frozenset;have q3:(Value.type "list"==Value.type "dict")=false:=by decide
    have q4:(s.heap.push ob).IsList l vs.toArray:=⟨_,hol',rfl,nl,rfl⟩;subst ho;unfold Builtin.«set.__init__» noKeywords Builtin.Frozenset.updateFrom;generalize hPI:pyIter=PI
    wp_walk
    subst hPI;have lt:l<s.heap.objs.size:=Heap.lt_size hol;refine wpAny_pyIter_list q4 (wpAny_bind (wpAny_runValue ?_));have sz:=Heap.size_push s.heap { cls:=.type "set",dict:=none,data:=.set #[] 0 (.fresh 0 0 (!bt w)) };have hne:l≠(s.heap.push { cls:=.type "set",dict:=none,data:=.set #[] 0 (.fresh 0 0 (!bt w)) }).objs.size:=by rw[sz];exact Nat.ne_of_lt (Nat.lt_succ_of_lt lt)
    have hnf:s.heap.objs.size∉[(s.heap.push { cls:=.type "set",dict:=none,data:=.set #[] 0 (.fresh 0 0 (!bt w)) }).objs.size,l]:=by
     rw[sz];simp only[List.mem_cons,List.not_mem_nil,or_false,not_or];exact⟨Nat.ne_of_lt (Nat.lt_succ_self _),Nat.ne_of_gt lt⟩
    have W:=Walks.list (prog:=P) (w:=w) (A:=A.in1.in1.in1) (by simp[hh]) (s.heap.push { cls:=.type "set",dict:=none,data:=.set #[] 0 (.fresh 0 0 (!bt w)) }).objs.size l hne vs.toArray;refine wG W.toS hnf (fun i=>ns.getD i 0) (fun i v hv=>?_) (by simpa using hb) _ 0 _ [] rfl (Nat.zero_le _) (Nat.le_refl _) ⟨⟨_,Heap.get?_push_size _ rfl,rfl,rfl⟩,q4.push _⟩ ?_ ?_
    ·exact IntsAre.int_at hi i v (by rw[<-Array.getElem?_toList] at hv;exact hv)
    ·refine⟨_,#[],0,_,Heap.get?_push_of_some _ g0,⟨rfl,rfl,rfl⟩,rfl,fun e he=>by simp at he,.refl _,by decide,wx (bt w)⟩
    ·intro s' hm' hS;have e:((List.range' 0 (vs.toArray.size-0)).map fun i=>ns.getD i 0)=ns:=by
      have hz:vs.toArray.size-0=ns.length:=by rw[List.size_toArray,IntsAre.length hi];rfl
      rw[hz,<-List.range_eq_range'];refine List.ext_getElem? fun i=>?_;rw[List.getElem?_map];by_cases hi':i<ns.length
      ·simp[hi']
      ·simp[hi',Nat.not_lt.mp hi']
     rw[e] at hS;obtain⟨h',g',d',tk',os'⟩:=s';have e1:g'=s.gens:=hm'.gens;have e2:d'=s.drawn:=hm'.drawn;have e3:os'=s.os:=hm'.os;subst e1 e2 e3;refine wpAny_pure (wpAny_pure ⟨rfl,h',tk',rfl,hS,fun b o q=>?_⟩);have hlt:=Heap.lt_size q;refine hm'.heap b o ?_ (Heap.get?_push_of_some _ (Heap.get?_push_of_some _ q));rw[sz];simp only[List.mem_cons,List.not_mem_nil,or_false,not_or];exact⟨Nat.ne_of_lt hlt,Nat.ne_of_lt (Nat.lt_succ_of_lt hlt)⟩
   ·match r2,hr2 with
    | .error e,hr2=>exact hr2
    | .ok (.ret v),hr2 =>
      obtain⟨rfl,h',tk,rfl,z1,z2⟩:=hr2
      repeat (any_goals (first | assumption | wp_step))
      exact k _ _ z1 z2
end
def si_slot:Slot "set_iterator" "__next__" "set_iterator.__next__" :=
 Slot.of (owner:="set_iterator") (n:="__next__") (by rw[typeLookup_type,builtinLookup_eq_fast];kernel_rfl) (by decide +kernel) (by decide +kernel) (by decide +kernel) (by first | exact .inl (by decide +kernel) | exact .inr (by decide +kernel)) (by rw[isSubtype_type];kernel_rfl)
def js:entryFor table "set_iterator.__next__"=some Builtin.«set_iterator.__next__»:=entryFor_of_tree (by kernel_rfl)
def qp:Manifest.owners.lookup (String.ofList ['r','o','t','a','r','e','t','i','_','t','e','s'].reverse)=some Manifest.sig_set_iterator:=by kernel_rfl
def lc (a:Value):argsOk "set_iterator.__next__" ⟨[a],[]⟩:=by
 unfold argsOk;rw[signature?_of (id:="set_iterator.__next__") (n:=['_','_','t','x','e','n','_','_']) (o:=['r','o','t','a','r','e','t','i','_','t','e','s']) (by kernel_rfl) qp];kernel_rfl
def nL:Slot "set_iterator" "__iter__" "set_iterator.__iter__" :=
 Slot.of (owner:="set_iterator") (n:="__iter__") (by rw[typeLookup_type,builtinLookup_eq_fast];kernel_rfl) (by decide +kernel) (by decide +kernel) (by decide +kernel) (by first | exact .inl (by decide +kernel) | exact .inr (by decide +kernel)) (by rw[isSubtype_type];kernel_rfl)
def si:entryFor table "set_iterator.__iter__"=some Builtin.«dict_keyiterator.__iter__»:=entryFor_alias (id':="dict_keyiterator.__iter__") (by kernel_rfl) (by decide +kernel) (by decide +kernel) (by kernel_rfl)
def u3 (a:Value):argsOk "set_iterator.__iter__" ⟨[a],[]⟩:=by
 unfold argsOk;rw[signature?_of (id:="set_iterator.__iter__") (n:=['_','_','r','e','t','i','_','_']) (o:=['r','o','t','a','r','e','t','i','_','t','e','s']) (by kernel_rfl) qp];kernel_rfl
def lG:entryFor table "set.__iter__"=some Builtin.«frozenset.__iter__»:=entryFor_alias (id':="frozenset.__iter__") (by kernel_rfl) (by decide +kernel) (by decide +kernel) (by kernel_rfl)
def SIt (h:Heap)(it a:Addr)(f0:Value)(i n ep:Nat):Prop:=∃o,h.get? it=some o/\o.cls=.type "set_iterator"/\o.data=.fields #[f0,.int i 0,.ref a,.int n 0,.int ep 0]
def SAt (w:World)(h:Heap)(a:Addr)(es:Array (Int×Value))(ep:Nat)(t:SetTable):Prop:=∃o,h.get? a=some o/\o.cls=.type "set"/\o.data=.set es ep t/\Tb (bt w) t es.size
section
variable {P:Program}{w:World}{A:Around}{E:Value->Shared->Prop}{s:Shared}{it a:Addr}{es:Array (Int×Value)}{ep:Nat}{t:SetTable}
def iK {slot i:Nat}{Q:Option (Value×Nat)->Shared->Prop}(hS:SAt w s.heap a es ep t)(hb:bt w=true)(k:Q (((pickOrder (w.params.setOrder a ep) es)[i]?).map fun e=>(e.2,slot)) s):wpAny (model P w) A (setNext a slot i ep) Q E s:=by
 obtain⟨o,ho,_,hd,hT⟩:=hS;unfold setNext;refine wpAny_bind (wpAny_setState_of ho hd hT.fit (wpAny_bind (wpAny_bind (wpAny_askSetting (wpAny_pure ?_)))));show wpAny _ _ (if bt w=true then _ else _) _ _ _;rw[if_pos hb];show wpAny _ _ (if (ep != ep)=true then _ else _) _ _ _;rw[if_neg (by simp)];refine wpAny_bind ?_;unfold setWalk;refine wpAny_bind (wpAny_setState_of ho hd hT.fit (wpAny_bind (wpAny_bind (wpAny_askSetting (wpAny_pure ?_)))));show wpAny _ _ (if bt w=true then _ else _) _ _ _;rw[if_pos hb];exact wpAny_bind (wpAny_askSetting (wpAny_pure (wpAny_pure k)))
def hV {slot i:Nat}{Q:Option (Value×Nat)->Shared->Prop}(hS:SAt w s.heap a es ep t)(hb:bt w=false)(hp:(!t.plain&&decide (es.size>1))=false)
 (k:Q (match es[SetTable.below t.place slot]?,t.place[SetTable.below t.place slot]? with | some (_,x),some j=>some (x,j+1) | _,_=>none) s):wpAny (model P w) A (setNext a slot i ep) Q E s:=by
 obtain⟨o,ho,_,hd,hT⟩:=hS;unfold setNext;refine wpAny_bind (wpAny_setState_of ho hd hT.fit (wpAny_bind (wpAny_bind (wpAny_askSetting (wpAny_pure ?_)))));show wpAny _ _ (if bt w=true then _ else _) _ _ _;rw[hb];show wpAny _ _ (if (!t.plain&&decide (es.size>1))=true then _ else _) _ _ _;rw[hp];refine wpAny_bind (m:=if (!t.led && !es.isEmpty)=true then unsupported "set:maker-not-led" else pure ()) ?_;rw[show t.led=true from hT.led.resolve_left (by rw[hb];simp)];exact wpAny_pure (wpAny_pure k)
def j6 {f0:Value}{i n ep:Nat}{Q:Unit->Shared->Prop}{j:Nat}{x:Value}(hI:SIt s.heap it a f0 i n ep)(hj:j<5)(k:∀h' o',Heap.SameBut it s.heap h'->h'.get? it=some o'->o'.cls=.type "set_iterator"->o'.data=.fields ((#[f0,.int i 0,.ref a,.int n 0,.int ep 0]:Array Value).setIfInBounds j x)->Q () { s with heap:=h' }) :
 wpAny (model P w) A (setField (.ref it) j x) Q E s:=by
 obtain⟨o,ho,hc,hd⟩:=hI;exact wpAny_setField ho hd hj (k _ _ (Heap.SameBut.update ..) (Heap.get?_update_self _ ho (Obj.isFreed_of_fields (Obj.data_mapFields hd _))) ((Obj.cls_mapFields ..).trans hc) (Obj.data_mapFields hd _))
def tS {x:Value}{slot i:Nat}{Q:Option Value->Shared->Prop}(hI:SIt s.heap it a (.int slot 0) i es.size ep)(hS:SAt w s.heap a es ep t){nx:Nat}
 (hn:∀(A:Around) (E:Value->Shared->Prop) (Q:Option (Value×Nat)->Shared->Prop),Q (some (x,nx)) s->wpAny (model P w) A (setNext a slot i ep) Q E s)
 (k:∀h',SIt h' it a (.int nx 0) (i+1) es.size ep->Heap.SameBut it s.heap h'->Q (some x) { s with heap:=h' }):wpAny (model P w) A (pyNext (.ref it)) Q E s:=by
 have hII:=hI;obtain⟨o,ho,hc,hd⟩:=hI;obtain⟨oS,hoS,hcS,hdS,hT⟩:=hS;have hTy:s.TypeIs (.ref it) "set_iterator":=⟨o,ho,hc⟩;unfold pyNext;refine wpAny_bind (wpAny_attempt (wpAny_callSpecial?_slot (name:=Str.ofString "__next__") hTy si_slot (wpAny_call_entry si_slot hTy js ?_ (lc _))));unfold Builtin.«set_iterator.__next__»;refine wpAny_bind (wpAny_pure (wpAny_bind (wpAny_fieldsOf ho hd ?_)));dsimp only;refine wpAny_bind (wpAny_setEntries_of hoS hdS hT.fit ?_);rw[if_neg (by simp)];refine wpAny_bind ?_;simp only[Int.toNat_natCast];refine hn _ _ _ ?_;dsimp only;refine wpAny_bind (j6 hII (by decide) fun h1 o1 sb1 g1 c1 d1=>?_);have I1:SIt h1 it a (.int nx 0) i es.size ep:=⟨o1,g1,c1,by rw[d1];rfl⟩;refine wpAny_bind (j6 (s:={ s with heap:=h1 }) I1 (by decide) fun h2 o2 sb2 g2 c2 d2=>?_);exact wpAny_pure ⟨_,rfl,wpAny_pure (k h2 ⟨o2,g2,c2,by rw[d2];rfl⟩ (sb1.trans sb2))⟩
def lD {α:Type}{Q:α->Shared->Prop}{E':Value->Shared->Prop}(hh:A.handled=none)(k:∀h' e o,(∀b ob,s.heap.get? b=some ob->h'.get? b=some ob)->h'.get? e=some o->o.cls=.type "StopIteration"->E' (.ref e) { s with heap:=h' }) :
 wpAny (model P w) A (newExc (.type "StopIteration") [] >>= fun e=>raiseNew e) Q E' s:=by
 simp only[newExc,newTuple,raiseNew];refine wpAny_bind (wpAny_bind (wpAny_newObj_type (wpAny_bind (m:=firstArgMember _ _) (wpAny_of_eq (a:=Value.none) (by simp only[firstArgMember];rfl) (wpAny_newObj_type ?_ (by size_fits)))) (by size_fits)));refine wpAny_bind (wpAny_handled ?_);rw[hh];exact wpAny_bind (wpAny_pure (wpAny_throw (k _ _ _ (fun b ob q=>Heap.get?_push_of_some _ (Heap.get?_push_of_some _ q)) (Heap.get?_push_size _ rfl) rfl)))
def wD {slot i:Nat}{Q:Option Value->Shared->Prop}(hh:A.handled=none)(hI:SIt s.heap it a (.int slot 0) i es.size ep)(hS:SAt w s.heap a es ep t)
 (hn:∀(A:Around) (E:Value->Shared->Prop) (Q:Option (Value×Nat)->Shared->Prop),Q none s->wpAny (model P w) A (setNext a slot i ep) Q E s)
 (k:∀h',Heap.ExtBut it s.heap h'->Q none { s with heap:=h' }):wpAny (model P w) A (pyNext (.ref it)) Q E s:=by
 have hII:=hI;obtain⟨o,ho,hc,hd⟩:=hI;obtain⟨oS,hoS,hcS,hdS,hT⟩:=hS;have hTy:s.TypeIs (.ref it) "set_iterator":=⟨o,ho,hc⟩;unfold pyNext;refine wpAny_bind (wpAny_attempt (wpAny_callSpecial?_slot (name:=Str.ofString "__next__") hTy si_slot (wpAny_call_entry si_slot hTy js ?_ (lc _))));unfold Builtin.«set_iterator.__next__»;refine wpAny_bind (wpAny_pure (wpAny_bind (wpAny_fieldsOf ho hd ?_)));dsimp only;refine wpAny_bind (wpAny_setEntries_of hoS hdS hT.fit ?_);rw[if_neg (by simp)];refine wpAny_bind ?_;simp only[Int.toNat_natCast];refine hn _ _ _ ?_;dsimp only;refine wpAny_bind (j6 hII (by decide) fun h1 o1 sb1 g1 c1 d1=>?_);refine lD (s:={ s with heap:=h1 }) hh fun h2 e oe k2 ge ce=>?_;refine wpAny_bind (wpAny_isInstance (T:="StopIteration") (b:=true) ⟨oe,ge,ce⟩ isSubtype_stop (wpAny_pure (k h2 fun b ob hb q=>k2 _ _ ?_)));rw[sb1.2 b hb];exact q
def yW {pl:Addr}{ps:Array Value}{np i p:Nat}{x:Int×Value}{Q:Option Value->Shared->Prop}(hI:SIt s.heap it a (.ref pl) i es.size ep)(hS:SAt w s.heap a es ep t)(hp:∃o,s.heap.get? pl=some o/\o.data=.seq ps np)
 (hi:ps[i]? = some (.int p 0)) (hx:es[p]? = some x)
 (k:∀h',SIt h' it a (.ref pl) (i+1) es.size ep->Heap.SameBut it s.heap h'->Q (some x.2) { s with heap:=h' }):wpAny (model P w) A (pyNext (.ref it)) Q E s:=by
 have hII:=hI;obtain⟨o,ho,hc,hd⟩:=hI;obtain⟨oS,hoS,hcS,hdS,hT⟩:=hS;obtain⟨op,hop,hdp⟩:=hp;have hTy:s.TypeIs (.ref it) "set_iterator":=⟨o,ho,hc⟩;unfold pyNext;refine wpAny_bind (wpAny_attempt (wpAny_callSpecial?_slot (name:=Str.ofString "__next__") hTy si_slot (wpAny_call_entry si_slot hTy js ?_ (lc _))));unfold Builtin.«set_iterator.__next__»;refine wpAny_bind (wpAny_pure (wpAny_bind (wpAny_fieldsOf ho hd ?_)));dsimp only;refine wpAny_bind (wpAny_setEntries_of hoS hdS hT.fit ?_);rw[if_neg (by simp)];refine wpAny_bind (wpAny_seqItems hop hdp ?_);simp only[Int.toNat_natCast,hi];refine wpAny_bind ?_;unfold setNextDrawn;refine wpAny_bind (wpAny_setState_of hoS hdS hT.fit ?_);dsimp only;rw[if_neg (by simp),hx];refine wpAny_pure (wpAny_bind (j6 hII (by decide) fun h1 o1 sb1 g1 c1 d1=>?_));exact wpAny_pure ⟨_,rfl,wpAny_pure (k h1 ⟨o1,g1,c1,by rw[d1];rfl⟩ sb1)⟩
def A2 {pl:Addr}{ps:Array Value}{np i:Nat}{Q:Option Value->Shared->Prop}(hh:A.handled=none)(hI:SIt s.heap it a (.ref pl) i es.size ep)(hS:SAt w s.heap a es ep t)(hp:∃o,s.heap.get? pl=some o/\o.data=.seq ps np)
 (hi:ps[i]? = none)
 (k:∀h',Heap.ExtBut it s.heap h'->Q none { s with heap:=h' }):wpAny (model P w) A (pyNext (.ref it)) Q E s:=by
 have hII:=hI;obtain⟨o,ho,hc,hd⟩:=hI;obtain⟨oS,hoS,hcS,hdS,hT⟩:=hS;obtain⟨op,hop,hdp⟩:=hp;have hTy:s.TypeIs (.ref it) "set_iterator":=⟨o,ho,hc⟩;unfold pyNext;refine wpAny_bind (wpAny_attempt (wpAny_callSpecial?_slot (name:=Str.ofString "__next__") hTy si_slot (wpAny_call_entry si_slot hTy js ?_ (lc _))));unfold Builtin.«set_iterator.__next__»;refine wpAny_bind (wpAny_pure (wpAny_bind (wpAny_fieldsOf ho hd ?_)));dsimp only;refine wpAny_bind (wpAny_setEntries_of hoS hdS hT.fit ?_);rw[if_neg (by simp)];refine wpAny_bind (wpAny_seqItems hop hdp ?_);simp only[Int.toNat_natCast,hi];refine wpAny_bind (j6 hII (by decide) fun h1 o1 sb1 g1 c1 d1=>?_);have I1:SIt h1 it a (.int 0 0) i es.size ep:=⟨o1,g1,c1,by rw[d1];rfl⟩;refine wpAny_bind (j6 (s:={ s with heap:=h1 }) I1 (by decide) fun h2 o2 sb2 g2 c2 d2=>?_);refine lD (s:={ s with heap:=h2 }) hh fun h3 e oe k3 ge ce=>?_;refine wpAny_bind (wpAny_isInstance (T:="StopIteration") (b:=true) ⟨oe,ge,ce⟩ isSubtype_stop (wpAny_pure (k h3 fun b ob hb q=>k3 _ _ ?_)));rw[sb2.2 b hb,sb1.2 b hb];exact q
def oN {f0:Value}{i n ep:Nat}{Q:Value->Shared->Prop}(hI:SIt s.heap it a f0 i n ep)(k:Q (.ref it) s):wpAny (model P w) A (pyIter (.ref it)) Q E s:=by
 obtain⟨o,ho,hc,hd⟩:=hI;have hTy:s.TypeIs (.ref it) "set_iterator":=⟨o,ho,hc⟩;refine wpAny_pyIter_slot hTy nL (wpAny_call_entry nL hTy si (show wpAny _ _ (ret (.ref it)) _ _ s from wpAny_pure ⟨_,rfl,"set_iterator",_,hTy,si_slot.lookup,k⟩) (u3 _))
def tp {Q:Nat->Shared->Prop}{n:Nat}(hn:n≠0)(k:∀i d,i<n->Q i { s with drawn:=d }):wpAny (model P w) A (choose .order n) Q E s:=fun Γ p hΓ=>⟨hn,k _ _ (Nat.mod_lt _ (Nat.pos_of_ne_zero hn))⟩
def j4 {α:Type}:∀{l:List α} {i:Nat} {x:α},l[i]? = some x->(x::l.eraseIdx i).Perm l
 | [],i,x,e=>by simp at e
 | y::l,0,x,e=>by
   simp only[List.getElem?_cons_zero,Option.some.injEq] at e;subst e;exact .refl _
 | y::l,i+1,x,e=>by
   rw[List.eraseIdx_cons_succ];exact(List.Perm.swap y x _).trans ((j4 (by simpa using e)).cons y)
def mQ {α:Type}:∀(n:Nat) (xs:List α) (s:Shared) (Q:List α->Shared->Prop),xs.length=n->(∀ys d,ys.Perm xs->Q ys { s with drawn:=d })->wpAny (model P w) A (drawOrder n xs) Q E s
 | 0,xs,s,Q,hl,k=>by
   have e:xs=[]:=List.length_eq_zero_iff.mp hl;subst e;exact wpAny_pure (k [] s.drawn (.refl _))
 | n+1,[],s,Q,hl,k=>by simp at hl
 | n+1,x::xs,s,Q,hl,k=>by
   rw[drawOrder];refine wpAny_bind (tp (by simp) fun i d hi=>?_);obtain⟨y,hy⟩:∃y,(x::xs)[i]? = some y:=⟨_,List.getElem?_eq_getElem hi⟩;rw[hy];have hp:=j4 hy;refine wpAny_bind (mQ n _ { s with drawn:=d } _ (by have:=hp.length_eq;simp only[List.length_cons] at this hl ⊢;omega) fun ys d' q=>wpAny_pure (k (y::ys) d' ((q.cons y).trans hp)));intro z;cases z
def t6 {α:Type}(next:Nat->Nat):∀(f k:Nat) (left:List α) (out:Array α),left.length=f->((pickOrder.go next f k left out).toList).Perm (out.toList++left)
 | 0,k,left,out,hl=>by
   have e:left=[]:=List.length_eq_zero_iff.mp hl;subst e;rw[pickOrder.go,List.append_nil]
 | f+1,k,left,out,hl=>by
   rw[pickOrder.go];have hi:next k % left.length<left.length:=Nat.mod_lt _ (by omega)
   have e:left[next k % left.length]? = some left[next k % left.length]:=List.getElem?_eq_getElem hi;have hp:=j4 e;simp only[e];refine(t6 next f (k+1) _ _ (by have:=hp.length_eq;simp only[List.length_cons] at this;omega)).trans ?_;rw[Array.toList_push,List.append_assoc];exact hp.append_left _
def kb {α:Type}(next:Nat->Nat)(xs:Array α):(pickOrder next xs).toList.Perm xs.toList:=by
 unfold pickOrder;simpa using t6 next xs.size 0 xs.toList #[] (by simp)
end
def nk (ord:List (Int×Value))(i:Nat)(v:Value):Prop:=∃e,ord[i]? = some e/\v=e.2
def sU {ord:List (Int×Value)}(hi:AllI ord){acc:Array Value}(h:ItemsOf (nk ord) acc ord.length):IntsAre acc.toList (ord.map vY):=by
 have key:∀(ord:List (Int×Value)) (l:List Value),AllI ord->l.length=ord.length->(∀j v,l[j]? = some v->nk ord j v)->IntsAre l (ord.map vY):=by
  intro ord;induction ord with
  | nil =>
    intro l _ hl _;have e:l=[]:=List.length_eq_zero_iff.mp (by simpa using hl);subst e;exact .nil
  | cons e ord ih =>
    intro l hi hl hv;cases l with
    | nil=>simp at hl
    | cons v l =>
      obtain⟨e',q1,q2⟩:=hv 0 v rfl;simp only[List.getElem?_cons_zero,Option.some.injEq] at q1;subst q1;obtain⟨t,q3,_⟩:=hi e List.mem_cons_self;rw[q3] at q2;subst q2;rw[List.map_cons];refine .cons _ _ (ih l (fun e' he=>hi e' (List.mem_cons_of_mem _ he)) (by simpa using hl) fun j v hj=>?_);obtain⟨e',q4,q5⟩:=hv (j+1) v (by simpa using hj);exact⟨e',by simpa using q4,q5⟩
 exact key ord acc.toList hi (by simpa using h.1) fun j v hj=>h.2 j v (by rw[<-Array.getElem?_toList];exact hj)
section
variable {P:Program}{w:World}{A:Around}{E:Value->Shared->Prop}{s:Shared}{a:Addr}
def SIt.at' {h h':Heap}{it a:Addr}{f0:Value}{i n ep:Nat}(x:SIt h it a f0 i n ep)(k:∀o,h.get? it=some o->h'.get? it=some o):SIt h' it a f0 i n ep:=let ⟨o,e,r⟩:=x;⟨o,k _ e,r⟩
def SAt.at' {h h':Heap}{a:Addr}{es:Array (Int×Value)}{ep:Nat}{t:SetTable}(x:SAt w h a es ep t)(k:∀o,h.get? a=some o->h'.get? a=some o):SAt w h' a es ep t:=let ⟨o,e,r⟩:=x;⟨o,k _ e,r⟩
def rR (hh:A.handled=none){it a:Addr}{es:Array (Int×Value)}{ep:Nat}{t:SetTable}(hb:bt w=true)(hne:a≠it) :
 Walks P w A it [it,a] [it] es.size (nk (pickOrder (w.params.setOrder a ep) es).toList) (fun i h=>SIt h it a (.int (0:Nat) 0) i es.size ep/\SAt w h a es ep t) where
 sub:=fun b hb=>List.mem_cons.mpr (.inl (List.mem_singleton.mp hb))
 frame:=fun _ _ _ st hk=>⟨st.1.at' fun o e=>hk it (by simp) o e,st.2.at' fun o e=>hk a (by simp) o e⟩
 item:=by
  intro i s Q E hi st hQ;have hz:(pickOrder (w.params.setOrder a ep) es).size=es.size:=by simpa using (kb (w.params.setOrder a ep) es).length_eq
  obtain⟨e,he⟩:∃e,(pickOrder (w.params.setOrder a ep) es)[i]? = some e:=⟨_,Array.getElem?_eq_getElem (by omega)⟩;refine tS (t:=t) (x:=e.2) (nx:=0) st.1 st.2 (fun A E Q z=>iK st.2 hb (by rw[he];exact z)) fun h' I' sb=>?_;exact hQ _ h' s.toks ⟨e,by rw[Array.getElem?_toList];exact he,rfl⟩ ⟨I',st.2.at' fun o q=>(sb.2 a hne).trans q⟩ fun b o hb' q=>(sb.2 b (fun z=>hb' (by simp[z]))).trans q
 done:=fun s Q E st hQ=>by
  have hz:(pickOrder (w.params.setOrder a ep) es).size=es.size:=by simpa using (kb (w.params.setOrder a ep) es).length_eq
  refine wD (t:=t) hh st.1 st.2 (fun A E Q z=>iK st.2 hb (by rw[Array.getElem?_eq_none (by omega)];exact z)) fun h' ext=>hQ h' s.toks fun b o hb' q=>ext b o (fun z=>hb' (by simp[z])) q
 self:=fun _ _ _ _ st hQ=>oN st.1 hQ
noncomputable def slotAt (xs:Array Nat):Nat->Nat
 | 0=>0
 | i+1=>xs.getD i 0+1
def jr {xs:Array Nat}(h:Ris xs):∀i,i<=xs.size->SetTable.below xs (slotAt xs i)=i
 | 0,_=>tD xs h
 | i+1,hi=>by
   have e:xs[i]? = some xs[i]:=Array.getElem?_eq_getElem hi;have eD:xs.getD i 0=xs[i]:=by simp[show i<xs.size from hi]
   show SetTable.below xs (xs.getD i 0+1)=i+1;rw[eD];exact tF h e
def p8 (hh:A.handled=none){it a:Addr}{es:Array (Int×Value)}{ep:Nat}{t:SetTable}(hb:bt w=false)(hp:(!t.plain&&decide (es.size>1))=false)(hne:a≠it) :
 Walks P w A it [it,a] [it] es.size (nk es.toList) (fun i h=>SIt h it a (.int (slotAt t.place i) 0) i es.size ep/\SAt w h a es ep t/\Tb (bt w) t es.size) where
 sub:=fun b hb=>List.mem_cons.mpr (.inl (List.mem_singleton.mp hb))
 frame:=fun _ _ _ st hk=>⟨st.1.at' fun o e=>hk it (by simp) o e,st.2.1.at' fun o e=>hk a (by simp) o e,st.2.2⟩
 item:=by
  intro i s Q E hi st hQ;have T:=st.2.2;have hz:t.place.size=es.size:=by
   have:=T.fit;simp only[SetTable.fits,Bool.and_eq_true,beq_iff_eq] at this;exact this.1
  have hbl:=jr T.ris i (by omega);have e1:es[i]? = some es[i]:=Array.getElem?_eq_getElem hi;have e2:t.place[i]? = some t.place[i]:=Array.getElem?_eq_getElem (by omega);have e3:slotAt t.place (i+1)=t.place[i]+1:=by show t.place.getD i 0+1=_;simp[show i<t.place.size by omega]
  refine tS (t:=t) (x:=es[i].2) (nx:=slotAt t.place (i+1)) st.1 st.2.1 (fun A E Q z=>hV st.2.1 hb hp (by rw[hbl,e1,e2];dsimp only;rw[<-e3];exact z)) fun h' I' sb=>?_;exact hQ _ h' s.toks ⟨es[i],by rw[Array.getElem?_toList];exact e1,rfl⟩ ⟨I',st.2.1.at' fun o q=>(sb.2 a hne).trans q,T⟩ fun b o hb' q=>(sb.2 b (fun z=>hb' (by simp[z]))).trans q
 done:=fun s Q E st hQ=>by
  have T:=st.2.2;have hz:t.place.size=es.size:=by
   have:=T.fit;simp only[SetTable.fits,Bool.and_eq_true,beq_iff_eq] at this;exact this.1
  have hbl:=jr T.ris es.size (by omega);refine wD (t:=t) hh st.1 st.2.1 (fun A E Q z=>hV st.2.1 hb hp (by rw[hbl,Array.getElem?_eq_none (Nat.le_refl _)];exact z)) fun h' ext=>hQ h' s.toks fun b o hb' q=>ext b o (fun z=>hb' (by simp[z])) q
 self:=fun _ _ _ _ st hQ=>oN st.1 hQ
def p9 (hh:A.handled=none){it a pl:Addr}{es:Array (Int×Value)}{ep:Nat}{t:SetTable}{ps:List Nat}{np:Nat}(hp:ps.Perm (List.range es.size))(hne:a≠it)(hnp:pl≠it) :
 Walks P w A it [it,a,pl] [it] es.size (nk (ps.filterMap (es[·]?))) (fun i h=>SIt h it a (.ref pl) i es.size ep/\SAt w h a es ep t/\∃o,h.get? pl=some o/\o.data=.seq (ps.map fun (i:Nat)=>rawInt i).toArray np) where
 sub:=fun b hb=>List.mem_cons.mpr (.inl (List.mem_singleton.mp hb))
 frame:=fun _ _ _ st hk=>⟨st.1.at' fun o e=>hk it (by simp) o e,st.2.1.at' fun o e=>hk a (by simp) o e,let ⟨o,q,r⟩:=st.2.2;⟨o,hk pl (by simp) o q,r⟩⟩
 item:=by
  intro i s Q E hi st hQ;have hl:ps.length=es.size:=by simpa using hp.length_eq
  have hlt:∀p∈ps,p<es.size:=fun p z=>by simpa using hp.mem_iff.mp z
  have hi':i<ps.length:=by omega
  have e1:ps[i]? = some ps[i]:=List.getElem?_eq_getElem hi';have hpi:ps[i]<es.size:=hlt _ (List.getElem_mem hi');have e2:es[ps[i]]? = some es[ps[i]]:=Array.getElem?_eq_getElem hpi;have e3:(ps.filterMap (es[·]?))[i]? = some es[ps[i]]:=by
   have:ps.filterMap (es[·]?)=ps.map fun p=>es.getD p (0,.none):=by
    clear e1 hi' hpi e2 hp hl hQ st;induction ps with
    | nil=>rfl
    | cons p ps ih =>
      have q:=hlt p List.mem_cons_self;rw[List.filterMap_cons,List.map_cons,ih fun p' z=>hlt p' (List.mem_cons_of_mem _ z)];simp[q]
   rw[this,List.getElem?_map,e1];simp[hpi]
  refine yW (t:=t) (p:=ps[i]) (x:=es[ps[i]]) st.1 st.2.1 st.2.2 (by simp[e1,rawInt]) e2 fun h' I' sb=>?_;exact hQ _ h' s.toks ⟨_,e3,rfl⟩ ⟨I',st.2.1.at' fun o q=>(sb.2 a hne).trans q,let ⟨o,q,r⟩:=st.2.2;⟨o,(sb.2 pl hnp).trans q,r⟩⟩ fun b o hb' q=>(sb.2 b (fun z=>hb' (by simp[z]))).trans q
 done:=fun s Q E st hQ=>by
  have hl:ps.length=es.size:=by simpa using hp.length_eq
  refine A2 (t:=t) hh st.1 st.2.1 st.2.2 (by simp[hl]) fun h' ext=>hQ h' s.toks fun b o hb' q=>ext b o (fun z=>hb' (by simp[z])) q
 self:=fun _ _ _ _ st hQ=>oN st.1 hQ
def wH {ks:List Int}{Q:Value->Shared->Prop}(hS:SetS w s.heap a ks)
 (k:∀(it:Addr) (fp:List Addr) (ord:List (Int×Value)) (St:Nat->Heap->Prop) (h':Heap) (d':Drawn),(∀A':Around,A'.handled=none->Walks P w A' it fp [it] ord.length (nk ord) St)->St 0 h'->AllI ord->(ord.map vY).Perm ks ->
  (∀b o,s.heap.get? b=some o->h'.get? b=some o)->s.heap.objs.size<=it->(∀b∈fp,b=a\/s.heap.objs.size<=b)->Q (.ref it) { s with heap:=h',drawn:=d' }) :
 wpAny (model P w) A (pyIter (.ref a)) Q E s:=by
 obtain⟨o,es,ep,t,ho,hx,hd,hi,hp,hb,hT⟩:=hS;have hTy:s.TypeIs (.ref a) "set":=⟨o,ho,hx.1⟩;have hlt:a<s.heap.objs.size:=Heap.lt_size ho;have S0:SAt w s.heap a es ep t:=⟨o,ho,hx.1,hd,hT⟩;refine wpAny_pyIter_slot hTy PySem.F.slot_set_iter (wpAny_call_entry PySem.F.slot_set_iter hTy lG ?_ (PySem.F.args_set_iter_1 _));unfold Builtin.«frozenset.__iter__»;refine wpAny_bind (wpAny_pure (wpAny_bind (wpAny_bind (wpAny_setEntries_of ho hd hT.fit (wpAny_pure ?_)))));refine wpAny_bind ?_;unfold setDrawn;refine wpAny_bind (wpAny_setState_of ho hd hT.fit (wpAny_bind (wpAny_bind (wpAny_askSetting (wpAny_pure ?_)))));refine wpAny_pure ?_;show wpAny _ _ (if (!bt w&&(!t.plain&&decide (es.size>1)))=true then _ else _) _ _ _;cases hc:(!bt w&&(!t.plain&&decide (es.size>1))) with
 | true =>
   rw[if_pos rfl];refine wpAny_bind (mQ es.size (List.range es.size) s _ (by simp) fun ps d hps=>?_);have hl:ps.length=es.size:=by simpa using hps.length_eq
   have hz:(ps.map fun (i:Nat)=>rawInt i).length<=sizeLine:=by rw[List.length_map,hl];exact fits_of_scanBound hb
   refine wpAny_bind (wpAny_newTuple ?_ hz);generalize hob:({ cls:=.type "tuple",data:=.seq (ps.map fun (i:Nat)=>rawInt i).toArray }:Obj)=ob;have g1:(s.heap.push ob).get? s.heap.objs.size=some ob:=Heap.get?_push_size _ (by rw[<-hob];rfl);have sz:(s.heap.push ob).objs.size=s.heap.objs.size+1:=Heap.size_push _ _;refine wpAny_bind (wpAny_setEpoch_of (Heap.get?_push_of_some _ ho) hd hT.fit ?_);refine wpAny_bind (wpAny_newObj_type (wpAny_pure ⟨_,rfl,"set_iterator",_,⟨_,Heap.get?_push_size _ rfl,rfl⟩,si_slot.lookup,?_⟩));refine k _ [(s.heap.push ob).objs.size,a,s.heap.objs.size] (ps.filterMap (es[·]?)) (fun i h=>SIt h (s.heap.push ob).objs.size a (.ref s.heap.objs.size) i es.size ep/\SAt w h a es ep t/\∃o,h.get? s.heap.objs.size=some o/\o.data=.seq (ps.map fun (i:Nat)=>rawInt i).toArray 0) _ d (fun A' hh=>?_) ⟨⟨_,Heap.get?_push_size _ rfl,rfl,rfl⟩,S0.at' fun o q=>Heap.get?_push_of_some _ (Heap.get?_push_of_some _ q),ob,Heap.get?_push_of_some _ g1,by rw[<-hob]⟩ ?_ ?_ (fun b o q=>Heap.get?_push_of_some _ (Heap.get?_push_of_some _ q)) (by rw[sz];exact Nat.le_succ _) fun b hb=>?_
   ·have W:=p9 (P:=P) (w:=w) (A:=A') hh (it:=(s.heap.push ob).objs.size) (a:=a) (pl:=s.heap.objs.size) (es:=es) (ep:=ep) (t:=t) (np:=0) hps (by rw[sz];exact Nat.ne_of_lt (Nat.lt_succ_of_lt hlt)) (by rw[sz];exact Nat.ne_of_lt (Nat.lt_succ_self _));have e:(ps.filterMap (es[·]?)).length=es.size:=by
     have:=(hps.filterMap (es[·]?)).length_eq;rw[this,filterMap_getElem?_range,Array.length_toList]
    rw[e];exact W
   ·refine hi.perm ?_;rw[<-filterMap_getElem?_range];exact hps.filterMap _
   ·refine List.Perm.trans ?_ hp;refine List.Perm.map _ ?_;rw[<-filterMap_getElem?_range];exact hps.filterMap _
   ·simp only[List.mem_cons,List.not_mem_nil,or_false] at hb;rcases hb with rfl | rfl | rfl
    ·exact .inr (by rw[sz];exact Nat.le_succ _)
    ·exact .inl rfl
    ·exact .inr (Nat.le_refl _)
 | false =>
   rw[if_neg (by simp)];refine wpAny_bind (wpAny_pure ?_);refine wpAny_bind (wpAny_setEpoch_of ho hd hT.fit ?_);refine wpAny_bind (wpAny_newObj_type (wpAny_pure ⟨_,rfl,"set_iterator",_,⟨_,Heap.get?_push_size _ rfl,rfl⟩,si_slot.lookup,?_⟩));have hne:a≠s.heap.objs.size:=Nat.ne_of_lt hlt;have fin:∀b∈[s.heap.objs.size,a],b=a\/s.heap.objs.size<=b:=fun b z=>by
    simp only[List.mem_cons,List.not_mem_nil,or_false] at z;rcases z with rfl | rfl
    ·exact .inr (Nat.le_refl _)
    ·exact .inl rfl
   cases hbt:bt w with
   | true =>
     have pp:=kb (w.params.setOrder a ep) es;have e:(pickOrder (w.params.setOrder a ep) es).toList.length=es.size:=by simpa using pp.length_eq
     refine k _ [s.heap.objs.size,a] (pickOrder (w.params.setOrder a ep) es).toList (fun i h=>SIt h s.heap.objs.size a (.int (0:Nat) 0) i es.size ep/\SAt w h a es ep t) _ s.drawn (fun A' hh=>?_) ⟨⟨_,Heap.get?_push_size _ rfl,rfl,rfl⟩,S0.at' fun o q=>Heap.get?_push_of_some _ q⟩ (hi.perm pp) ((pp.map vY).trans hp) (fun b o q=>Heap.get?_push_of_some _ q) (Nat.le_refl _) fin;rw[e];exact rR hh hbt hne
   | false =>
     have hpl:(!t.plain&&decide (es.size>1))=false:=by rw[hbt] at hc;simpa using hc
     have e:es.toList.length=es.size:=by simp
     refine k _ [s.heap.objs.size,a] es.toList (fun i h=>SIt h s.heap.objs.size a (.int (slotAt t.place i) 0) i es.size ep/\SAt w h a es ep t/\Tb (bt w) t es.size) _ s.drawn (fun A' hh=>?_) ⟨⟨_,Heap.get?_push_size _ rfl,rfl,rfl⟩,S0.at' fun o q=>Heap.get?_push_of_some _ q,hT⟩ hi hp (fun b o q=>Heap.get?_push_of_some _ q) (Nat.le_refl _) fin;rw[e];exact p8 hh hbt hpl hne
end
section
variable {P:Program}{w:World}{A:Around}{E:Value->Shared->Prop}{s:Shared}
def yI (P:Program)(w:World)(A:Around)(S r:Addr)(T:String)(res:Value)(R:Result->Shared->Prop)(v:Value)(s1:Shared):Prop :=
 ∃(I:Addr) (fp wr:List Addr) (G:Array GenState->Array GenState->Prop) (n:Nat) (PI:Nat->Value->Prop) (St:Nat->Shared->Prop) (c:Nat),v=.ref I/\WalksS P w A I fp wr G n PI St/\St 0 s1/\S∉fp/\n<=sizeLine /\
  s1.heap.get? S=some { cls:=.type "list",data:=.seq #[] c }/\s1.TypeIs (.ref r) T /\
  ∀s' acc c',Moved (S::wr) G s1 s'->s'.heap.get? S=some { cls:=.type "list",dict:=none,data:=.seq acc c',slots:=#[] }->ItemsOf PI acc n->R (.ok (.ret res)) s'
def zP {S r:Addr}{T:String}{res:Value}{R:Result->Shared->Prop}(hT:s.TypeIs (.ref r) T)(nl:(Value.type T==Value.type "list")=false)(nt:(Value.type T==Value.type "tuple")=false)(hne:S≠r)
 (hit:wpAny (model P w) A.in1 (pyIter (.ref r)) (yI P w A.in1 S r T res R) (fun e s'=>R (.error e) s') s)
 (hint:∀(E:Value->Shared->Prop) (Q:Bool->Shared->Prop) (s:Shared),s.TypeIs (.ref r) T->(∀b,Q b s)->wpAny (model P w) A.in1 (Builtin.List.listLengthHint (.ref r)) Q E s) :
 wpAny (model P w) A.in1 (Builtin.List.listExtendWith (.ref S) (.ref r) res)
  (fun fin s'=>match fin with | .done f=>R (.ok f) s' | .again c'=>c'.quiet=true/\codeAny (model P w) A c' R s') (fun e s'=>R (.error e) s') s:=by
 unfold Builtin.List.listExtendWith;refine wpAny_bind (wpAny_typeOf (T:=T) hT ?_);have h1:Builtin.List.listSameRef (.ref S) (.ref r)=false:=by simp[Builtin.List.listSameRef,hne]
 simp only[h1,nl,nt,Bool.or_false,Bool.false_eq_true,if_false];refine wpAny_bind (wpAny_mono hit (fun v s1 z=>?_) fun _ _ z=>z);obtain⟨I,fp,wr,G,n,PI,St,c,rfl,W,st,hSf,hn,gS,hT1,k⟩:=z;refine wpAny_bind (wpAny_holding (hint _ _ _ hT1 fun b=>?_));have run:∀(h:Heap) (c1:Nat),(∀b o,b≠S->s1.heap.get? b=some o->h.get? b=some o)->h.get? S=some { cls:=.type "list",data:=.seq #[] c1 }->codeAny (model P w) A (.builtin "list.extend.loop" ⟨[.ref S,.ref I,res],[]⟩) R { s1 with heap:=h }:=fun h c1 hk g1=>by
  have hm0:Moved (S::wr) G s1 { s1 with heap:=h }:=(Moved.refl W.grefl).then_heap (Nat.le_refl _) fun b o hb q=>hk b o (fun z=>hb (by simp[z])) q;refine codeAny_extend_loopS W hn S hSf res n 0 _ #[] c1 rfl (Nat.zero_le _) (W.frame 0 s1 _ _ st (Nat.le_refl _) fun b hb o q=>hk b o (fun z=>hSf (z ▸ hb)) q) g1 (ItemsOf.nil _) fun s' acc' c' hm gS' hacc=>?_;exact k s' acc' c' (Moved.trans W.gtrans hm0 hm) gS' hacc
 refine wpAny_ite_split (fun _=>?_) fun _=>wpAny_pure ⟨plainId_quiet PySem.F.plain_extend_loop _,run s1.heap c (fun _ _ _ q=>q) gS⟩;refine wpAny_bind (wpAny_rule (wpAny_bind ?_));have g2:=Heap.get?_update_self (Obj.mapSeq (·.push Value.none)) gS rfl;have g3:=Heap.get?_update_self (Obj.mapSeq (·.pop)) g2 rfl;refine wpAny_bind (m:=updateSeq S (·.push .none)) (wpAny_updateSeq gS rfl (wpAny_updateSeq (hz:=by seq_fits) g2 rfl ?_));exact wpAny_pure ⟨plainId_quiet PySem.F.plain_extend_loop _,run _ _ (fun b o hb q=>(Heap.get?_update_other _ _ (Ne.symm hb)).trans ((Heap.get?_update_other _ _ (Ne.symm hb)).trans q)) g3⟩
def xR {r:Addr}{Q:Bool->Shared->Prop}(hT:s.TypeIs (.ref r) "set")(k:Q false s):wpAny (model P w) A (Builtin.List.listLengthHint (.ref r)) Q E s:=by
 unfold Builtin.List.listLengthHint;refine wpAny_bind (wpAny_specialOf hT PySem.F.slot_set_len.lookup ?_);generalize hid:("set.__len__":String)=lid
 wp_delta
 rw[show splitId lid=some ("set","__len__") from by subst hid;decide +kernel];subst hid;refine wpAny_bind (wpAny_isInstance (T:="set") (b:=true) hT sub_set_self ?_);refine wpAny_ite_split (fun z=>absurd z (by decide)) fun _=>wpAny_ite_split (fun _=>?_) fun z=>absurd (by decide +kernel) z;exact wpAny_bind (wpAny_typeOf hT (wpAny_pure k))
end
end DL
namespace DL
open PySem PyProof.Rows PySem.W
section
variable {P:Program}{w:World}{A:Around}{E:Value->Shared->Prop}{s:Shared}
def qq {r:Addr}{ks:List Int}{R:List Value->Shared->Prop}(hh:A.handled=none)(hS:SetS w s.heap r ks)(hn:ks.length<=sizeLine)
 (k:∀h' d' tk vs ns,(∀b o,s.heap.get? b=some o->h'.get? b=some o)->s.heap.objs.size<=h'.objs.size->IntsAre vs ns->ns.Perm ks->R vs { s with heap:=h',drawn:=d',toks:=tk }) :
 wpAny (model P w) A (collect (.ref r)) R E s:=by
 have hlt:r<s.heap.objs.size:=by obtain⟨o,_,_,_,q,_⟩:=hS;exact Heap.lt_size q
 have hTy:s.TypeIs (.ref r) "set":=by obtain⟨o,_,_,_,q,x,_⟩:=hS;exact⟨o,q,x.1⟩
 unfold collect;refine wpAny_bind (wpAny_runValue (codeAny_builtin entry_proto_collect' ?_));rw[Around.under_plainId PySem.F.plain_proto_collect _];show wpAny _ _ (newList [] >>= fun l=>again (.builtin "list.__iadd__" ⟨[l,.ref r],[]⟩)) _ _ s;refine wpAny_bind (wpAny_newObj_type (wpAny_pure ⟨plainId_quiet PySem.F.plain_list_iadd _,codeAny_builtin entry_list_iadd' ?_⟩));rw[Around.under_plainId PySem.F.plain_list_iadd _];have g0:(s.heap.push { cls:=.type "list",data:=.seq ([]:List Value).toArray }).get? s.heap.objs.size=some { cls:=.type "list",data:=.seq #[] }:=Heap.get?_push_size _ rfl;have sz:=Heap.size_push s.heap { cls:=.type "list",data:=.seq ([]:List Value).toArray };show wpAny _ _ (Builtin.List.listExtendWith (.ref s.heap.objs.size) (.ref r) (.ref s.heap.objs.size)) _ _ _;have S1:SetS w (s.heap.push { cls:=.type "list",data:=.seq ([]:List Value).toArray }) r ks:=hS.at' fun o q=>Heap.get?_push_of_some _ q;have key:=zP (P:=P) (w:=w) (A:=A) (s:={ s with heap:=s.heap.push { cls:=.type "list",data:=.seq ([]:List Value).toArray } }) (S:=s.heap.objs.size) (r:=r) (T:="set") (res:=.ref s.heap.objs.size)
  (R:=fun q s'=>∃h' d' tk acc c ns,q=.ok (.ret (.ref s.heap.objs.size))/\s'={ s with heap:=h',drawn:=d',toks:=tk }/\(∀b o,s.heap.get? b=some o->h'.get? b=some o)/\s.heap.objs.size<=h'.objs.size/\h'.get? s.heap.objs.size=some { cls:=.type "list",dict:=none,data:=.seq acc c,slots:=#[] }/\IntsAre acc.toList ns/\ns.Perm ks)
  (by obtain⟨o,q,c⟩:=hTy;exact⟨o,Heap.get?_push_of_some _ q,c⟩) (by decide) (by decide) (Nat.ne_of_gt hlt)
  (wH S1 fun it fp ord St h' d' W st hi hp hk hit hfp=>?_) fun E Q s hT z=>xR hT (z false)
 ·refine wpAny_mono key (fun fin s' x=>?_) fun e s' x=>?_
  ·cases fin with
   | done f =>
     obtain⟨h',d',tk,acc,c,ns,e,rfl,k1,k0,k2,k3,k4⟩:=x;cases e;exact wpAny_bind (m:=load s.heap.objs.size) (wpAny_load k2 (wpAny_pure (k h' d' tk acc.toList ns k1 k0 k3 k4)))
   | again c1 =>
     refine⟨x.1,codeAny_mono x.2 fun q s2 y=>?_⟩;obtain⟨h',d',tk,acc,c,ns,rfl,rfl,k1,k0,k2,k3,k4⟩:=y;exact wpAny_bind (m:=load s.heap.objs.size) (wpAny_load k2 (wpAny_pure (k h' d' tk acc.toList ns k1 k0 k3 k4)))
  ·obtain⟨_,_,_,_,_,_,e',_⟩:=x;cases e'
 ·have hlen:ord.length=ks.length:=by simpa using hp.length_eq
  rw[sz] at hit;refine⟨it,fp,[it],_,ord.length,nk ord,_,0,rfl,(W A.in1 hh).toS,st,fun z=>?_,by omega,hk _ _ g0,?_,fun s' acc c' hm gS hacc=>?_⟩
  ·rcases hfp _ z with q | q
   ·exact Nat.ne_of_gt hlt q
   ·rw[sz] at q;exact absurd q (Nat.not_succ_le_self _)
  ·obtain⟨o,q,c⟩:=hTy;exact⟨o,hk _ _ (Heap.get?_push_of_some _ q),c⟩
  ·obtain⟨h2,g2,d2,t2,o2⟩:=s';have e1:g2=s.gens:=hm.gens;have e2:d2=d':=hm.drawn;have e3:o2=s.os:=hm.os;subst e1 e2 e3;refine⟨h2,d2,t2,acc,c',ord.map vY,rfl,rfl,fun b o q=>?_,Nat.le_of_lt (Heap.lt_size gS),gS,sU hi hacc,hp⟩;have hb:=Heap.lt_size q;refine hm.heap b o ?_ (hk _ _ (Heap.get?_push_of_some _ q));simp only[List.mem_cons,List.not_mem_nil,or_false,not_or];exact⟨Nat.ne_of_lt hb,Nat.ne_of_lt (Nat.lt_of_lt_of_le (Nat.lt_succ_of_lt hb) hit)⟩
def pP {r:Addr}{ks:List Int}{Q:Value->Shared->Prop}(hh:A.handled=none)(hS:SetS w s.heap r ks)(h64:ks.length<64)
 (k:∀h' d' tk l vs e ns,(∀b o,s.heap.get? b=some o->h'.get? b=some o)->h'.get? l=some (seqObj "list" vs e)->s.heap.objs.size<=l->IntsAre vs.toList ns->ns.Perm ks->ns.Pairwise (·<=·)->Q (.ref l) { s with heap:=h',drawn:=d',toks:=tk }) :
 wpAny (model P w) A (call (.builtin "sorted") [.ref r]) Q E s:=by
 refine Calls.call_function_entry kind_sorted plain_sorted entry_sorted (args_sorted1 _) ?_;unfold Builtin.«sorted»;refine wpAny_bind (m:=checkCount "sorted" 1 1 _) (wpAny_pure (wpAny_bind (qq (A:=A.in1) hh hS (by rw[sizeLine_eq];omega) fun h' d' tk vs ns k1 k0 hi hp=>?_)));have hl:vs.length<64:=by rw[IntsAre.length hi,hp.length_eq];exact h64
 refine wpAny_bind (wpAny_newList ?_ (by rw[sizeLine_eq];omega));have gL:(h'.push (seqObj "list" vs.toArray 0)).get? h'.objs.size=some (seqObj "list" vs.toArray 0):=Heap.get?_push_size _ rfl;refine wpAny_bind (wpAny_holding (wpAny_call_entry slot_list_sort ⟨_,gL,rfl⟩ entry_list_sort (list_sort_tree gL hi hl fun out ns' a1 a2 a3=>⟨_,rfl,?_⟩) (args_list_sort _)));obtain⟨e,he⟩:=sortedHeap_at (out:=out) gL;refine wpAny_pure ⟨_,rfl,k _ d' tk h'.objs.size out e ns' (fun b o q=>?_) he k0 a1 (a2.trans hp) a3⟩;have hb:=Heap.lt_size (k1 _ _ q);rw[sortedHeap_old (Nat.ne_of_lt hb) (by rw[size_push'];exact Nat.lt_succ_of_lt hb)];exact Heap.get?_push_of_some _ (k1 _ _ q)
end
end DL
namespace DL
open PySem PySem.Spec PyProof.Rows L2
section
variable {X:Cx}{e a b tg:Expr}{me ma mb:ME}{pos p p2 p3:Pos}
def Inv.drw {pins:List (Addr×Obj)}{σ:L2.St}{H:Hp}{s:Shared}(I:L2.Inv X pins σ H s)(d:Drawn):L2.Inv X pins σ H { s with drawn:=d } :=
 ⟨I.ok,I.os,I.bare,I.base,I.loc,I.cell,I.free,I.freeC,I.pin,I.hok,I.len⟩
noncomputable def yJ (w:World)(p:Addr)(ks:List Int):HO:=.ext fun h=>SetS w h p ks
def yV {P:Program}{w:World}{H:Hp}{h:Heap}{p:Addr}{ks:List Int}(x:SetS w h p ks):ObjOk P w H h p (yJ w p ks) :=
 ⟨x,let ⟨o,_,_,_,q,_⟩:=x;⟨o,q⟩,fun _ _ z k=>z.at' k⟩
def Ca (hc:X.calm=true):ee X (.type "set") (fun xs H Q=>∃(l:Addr) (ns:List Int),xs=[.ref l]/\SqL X.K H l (ns.map V.int)/\ns.length+1<4096/\∀p,H p=none->Q (.ref p) (cr H p (yJ X.w p (ns.foldl fk [])))):=by
 intro pins s σ H xs us Q I r h;obtain⟨l,ns,rfl,hq,hb,q⟩:=h;obtain⟨u,rfl,ru⟩:=Vals.one r;cases ru;obtain⟨its,rv,p1,_⟩:=I.list hq;have hi:=intsAre_of rv;refine vQ (I.ok.hd hc) p1.isList hi (by rw[IntsAre.length hi];exact hb) fun h' tk hS hk=>?_;exact⟨.ref s.heap.objs.size,cr H s.heap.objs.size (yJ X.w s.heap.objs.size (ns.foldl fk [])),I.laid (t':=tk) hk (Nat.le_refl _) (yV hS),rfl,q _ I.fresh⟩
def wA {ns ks:List Int}(hp:ns.Perm ks)(hs:ns.Pairwise (·<=·)):ns=sortI ks:=by
 refine PySem.W.ksm_same (hp.trans (List.mergeSort_perm _ _).symm) hs ?_;have:=List.pairwise_mergeSort (le:=fun a b:Int=>decide (a<=b)) (fun a b c h1 h2=>by simp only[decide_eq_true_eq] at *;omega) (fun a b=>by simp only[Bool.or_eq_true,decide_eq_true_eq];omega) ks;exact this.imp fun h=>by simpa using h
def om:∀{vs:List Value} {ns:List Int},IntsAre vs ns->Vals (ns.map V.int) vs
 | _,_,.nil=>.nil
 | _,_,.cons n t h=>.cons ⟨t,rfl⟩ (om h)
def vM (hc:X.calm=true):ee X (.builtin "sorted") (fun xs H Q=>∃(q:Addr) (ks:List Int),xs=[.ref q]/\H q=some (yJ X.w q ks)/\ks.length<64/\∀p,H p=none->Q (.ref p) (cr H p (.lst ((sortI ks).map V.int)))):=by
 intro pins s σ H xs us Q I r h;obtain⟨l,ks,rfl,hq,hb,q⟩:=h;obtain⟨u,rfl,ru⟩:=Vals.one r;cases ru;have hS:SetS X.w s.heap l ks:=(I.hok l _ hq).1;refine pP (I.ok.hd hc) hS hb fun h' d' tk l' vs e ns k1 g1 hlt hi hp hs=>?_;have en:=wA hp hs;have hz:((sortI ks).map V.int).length<=sizeLine:=by rw[List.length_map,<-en,hp.length_eq,di];omega
 refine⟨.ref l',cr H l' (.lst ((sortI ks).map V.int)),Inv.drw (I.laid (o:=.lst ((sortI ks).map V.int)) (t':=tk) k1 hlt ⟨hz,vs.toList,e,om (en ▸ hi),by rw[g1]⟩) d',rfl,q _ (I.hok.fresh hlt)⟩
def kn {K:PySem.W.Frag}{B:Hp}:∀{ds:List D} {is:List Int} {xs:List V},intsOf ds=some is->Dens K B ds xs->xs=is.map V.int
 | [],is,xs,e,h=>by cases e;exact h.unnil
 | .int i::ds,is,xs,e,h=>by
   obtain⟨q,e1,e2⟩:=Option.bind_eq_some_iff.mp e;cases e2;obtain⟨x,r,rfl,h1,h2⟩:=h.uncons;rw[h1.int_inv,kn e1 h2];rfl
def s9 (hc:X.calm=true)(hg1:Gl X "sorted")(hm1:X.mg "sorted"=none)(hg2:Gl X "set")(hm2:X.mg "set"=none)(he:DE X e me)
 (s1:starEach [e] X.env=(false,eval e X.env)::starEach [] X.env:=by rfl) (s2:starEach [Expr.Call (.Name "set" p2) [e] [] p3] X.env=(false,eval (Expr.Call (.Name "set" p2) [e] [] p3) X.env)::starEach [] X.env:=by rfl) (hpl:∀pos:Pos,(backTo pos (starEach [] X.env)).any (·.1)=false:=by intro _;rfl) :
 DE X (.Call (.Name "sorted" p) [.Call (.Name "set" p2) [e] [] p3] [] pos) (gW jl me):=by
 obtain⟨te,pe,qe⟩:=he;refine⟨_,lV (vM hc) hg1 hm1 boot_sorted (bN (nV (Ca hc) hg2 hm2 rfl (bN pe df s1) (he:=s1) (hpl:=hpl _)) df s2) (he:=s2) (hpl:=hpl _),fun os σ H δ d Q s m k=>?_⟩;obtain⟨dx,e1,m⟩:=aj m;refine qe os σ H δ dx _ s e1 fun v H1 g1 r1=>?_;cases dx with
 | lst xs =>
   obtain⟨is,e2,m⟩:=aj m;split at m
   ·rename_i hb;cases m;obtain⟨l,ys,rfl,h1,h2⟩:=r1.lst_up;have:=kn e2 h2;subst this;refine⟨l,is,rfl,h1,hb.1,fun p hp=>⟨p,_,rfl,bn,hb.2,fun q hq=>?_⟩⟩;have g2:=aX hp (yJ X.w p (is.foldl fk []));refine k _ _ (g1.trans (g2.trans (aX hq _))) (.newL ((s.live.mono g1).mono g2) hq (Dens.ints _))
   ·cases m
 | _=>cases m
def qd {K:PySem.W.Frag}{B:Hp}(a:Int)(n:Nat):Walk K (Cw a n) B (bV a n):=by
 intro i os1 H1 L g;have hlen:(bV a n).length=n:=by simp[bV]
 refine⟨fun d hd=>?_,fun hl=>by rw[hlen] at hl;exact Nat.le_of_eq hl.symm⟩;have hi:i<n:=by have:=(List.getElem?_eq_some_iff.mp hd).1;omega
 refine⟨hi,fun y H2 z=>?_⟩;obtain⟨rfl,rfl⟩:=z;unfold bV at hd;rw[List.getElem?_map,List.getElem?_range hi] at hd;cases hd;exact⟨Same.refl _,.int _⟩
def iC {p:Pos}(hg:Gl X "range")(hm:X.mg "range"=none)(ha:DE X a ma)(hb:DE X b mb)(h1:starEach [a,b] X.env=(false,eval a X.env)::starEach [b] X.env:=by rfl)(h2:starEach [b] X.env=(false,eval b X.env)::starEach [] X.env:=by rfl)(h3:starEach [a,b] X.env=[(false,eval a X.env),(false,eval b X.env)]:=by rfl)(h4:starEach [b] X.env=[(false,eval b X.env)]:=by rfl) :
 DI X tg (.Call (.Name "range" p) [a,b] [] pos) (fE ma mb):=by
 obtain⟨ta,pa,qa⟩:=ha;obtain⟨tb,pb,qb⟩:=hb;refine⟨_,ve hg hm (bN pa (bN pb df h2) h1) h3 h4,fun os σ H δ xs R s m k=>?_⟩;obtain⟨dx,e1,m⟩:=aj m;obtain⟨dy,e2,m⟩:=aj m;refine qa os σ H δ dx _ s e1 fun v H1 g1 r1=>?_;refine qb os σ H1 δ dy _ (s.mono g1) e2 fun w H2 g2 r2=>?_
 match dx,dy,m with
 | .int i,.int j,m =>
   have m':(if -1073741824<i/\i<1073741824 /\ -1073741824<j/\j<1073741824 then some (bV i (j-i).toNat) else none)=some xs:=m;split at m'
   ·rename_i hj;cases m';rw[r1.int_inv,r2.int_inv];exact⟨i,j,rfl,by omega,k _ H2 (g1.trans g2) (qd _ _)⟩
   ·cases m'
end
end DL
namespace DL
open PySem PyProof.Rows
section
variable {P:Program}{w:World}{A:Around}{E:Value->Shared->Prop}{s:Shared}
end
section
variable {P:Program}{w:World}{A:Around}{E:Value->Shared->Prop}{s:Shared}{B z TI TO i1 i2 S l1 l2:Addr}{xs ys:Array Value}{h0:Heap}
end
end DL
namespace DL
open PySem PySem.Spec PyProof.Rows L2
section
variable {P:Program}{w:World}{A:Around}{E:Value->Shared->Prop}{s:Shared}
end
section
variable {X:Cx}{pins:List (Addr×Obj)}{σ:L2.St}{H H':Hp}{s:Shared}{h':Heap}
end
section
variable {X:Cx}{a b:Expr}{ma mb:ME}{pos p p2 p3:Pos}
def tL {xs:List V}{us:List Value}{i:Nat}{u:Value}(r:Vals xs us)(h:us[i]? = some u):∃x,xs[i]? = some x/\RelV x u:=by
 have hi:=(List.getElem?_eq_some_iff.mp h).1;have hx:i<xs.length:=by rw[r.length];exact hi
 obtain⟨u',e1,e2⟩:=r.get (List.getElem?_eq_getElem hx);rw[h] at e1;cases e1;exact⟨_,List.getElem?_eq_getElem hx,e2⟩
end
end DL
namespace DL
open PySem PyProof.Rows
section
variable {P:Program}{w:World}{A:Around}{E:Value->Shared->Prop}{s:Shared}{d:Addr}{es:Array DictEntry}{ep:Nat}
end
end DL
namespace L2
open PySem PySem.Spec PyProof.Rows
section
variable {κ:Type}[DecidableEq κ]
noncomputable def fX (kvs:List (κ×V))(k:κ):Option V:=(kvs.find? fun kv=>decide (kv.1=k)).map (·.2)
noncomputable def putK (kvs:List (κ×V))(k:κ)(v:V):List (κ×V) :=
 if (kvs.any fun kv=>decide (kv.1=k))=true then kvs.map (fun kv=>if kv.1=k then (kv.1,v) else kv) else kvs++[(k,v)]
def jk {p:κ×V}{r:List (κ×V)}{k:κ}(e:p.1=k):fX (p::r) k=some p.2:=by simp[fX,List.find?_cons,e]
def gZ {p:κ×V}{r:List (κ×V)}{k:κ}(e:¬ p.1=k):fX (p::r) k=fX r k:=by simp[fX,List.find?_cons,e]
def g9 (k:κ):∀kvs:List (κ×V),(kvs.any fun kv=>decide (kv.1=k))=(fX kvs k).isSome
 | []=>rfl
 | p::r=>by
   rw[List.any_cons];by_cases e:p.1=k
   ·simp only[jk e,decide_eq_true e,Bool.true_or,Option.isSome_some]
   ·rw[gZ e,decide_eq_false e,Bool.false_or];exact g9 k r
def ig (kvs:List (κ×V))(k:κ)(v:V):(putK kvs k v).length<=kvs.length+1:=by
 unfold putK;split
 ·rw[List.length_map];omega
 ·rw[List.length_append,List.length_cons,List.length_nil];omega
def xa {kvs:List (κ×V)}{k:κ}(v:V)(h:fX kvs k=none):putK kvs k v=kvs++[(k,v)]:=by
 unfold putK;rw[g9,h];exact if_neg (by decide)
def RelO.isSome_eq {o:Option V}{u:Option Value}(r:RelO o u):o.isSome=u.isSome:=by
 cases o with
 | none=>cases u with
   | none=>rfl
   | some _=>exact(show False from r).elim
 | some _=>cases u with
   | none=>exact(show False from r).elim
   | some _=>rfl
def KV.val {kvs:List (κ×V)}{vs:List (κ×Value)}(r:KV kvs vs)(k:κ):RelO (fX kvs k) (valueAt vs k):=by
 unfold KV at r;induction r with
 | nil=>exact True.intro
 | @cons p q ps qs h t ih =>
   obtain⟨h1,h2⟩:=h;by_cases e:p.1=k
   ·have e':q.1=k:=h1.symm.trans e;have b:valueAt (q::qs) k=some q.2:=by simp[valueAt,List.find?_cons,e']
    rw[jk e,b];exact h2
   ·have e':¬ q.1=k:=fun z=>e (h1.trans z);have b:valueAt (q::qs) k=valueAt qs k:=by simp[valueAt,List.find?_cons,e']
    rw[gZ e,b];exact ih
def KV.any {kvs:List (κ×V)}{vs:List (κ×Value)}(r:KV kvs vs)(k:κ):(kvs.any fun kv=>decide (kv.1=k))=vs.any fun kv=>decide (kv.1=k):=by
 unfold KV at r;induction r with
 | nil=>rfl
 | cons h t ih=>rw[List.any_cons,List.any_cons,ih,h.1]
def KV.repl {kvs:List (κ×V)}{vs:List (κ×Value)}(r:KV kvs vs)(k:κ){y:V}{u:Value}(ry:RelV y u) :
 KV (kvs.map fun kv=>if kv.1=k then (kv.1,y) else kv) (vs.map fun kv=>if kv.1=k then (kv.1,u) else kv):=by
 unfold KV at r ⊢
 induction r with
 | nil=>exact .nil
 | @cons p q ps qs h t ih =>
   rw[List.map_cons,List.map_cons];refine .cons ?_ ih;obtain⟨h1,h2⟩:=h;by_cases e:p.1=k
   ·rw[if_pos e,if_pos (h1.symm.trans e)];exact⟨h1,ry⟩
   ·rw[if_neg e,if_neg (fun z=>e (h1.trans z))];exact⟨h1,h2⟩
def KV.put {kvs:List (κ×V)}{vs:List (κ×Value)}(r:KV kvs vs)(k:κ){y:V}{u:Value}(ry:RelV y u):KV (putK kvs k y) (stored vs k u):=by
 unfold putK stored;rw[r.any k];by_cases e:(vs.any fun kv=>decide (kv.1=k))=true
 ·rw[if_pos e,if_pos e];exact r.repl k ry
 ·rw[if_neg e,if_neg e];exact Paired.snoc r ⟨rfl,ry⟩
def KV.length {kvs:List (κ×V)}{vs:List (κ×Value)}(r:KV kvs vs):kvs.length=vs.length:=Paired.length r
end
def oi {P:Program}{w:World}{k:Key}{u:Value}(r:RelV (kV k) u):(bW P w).is k u=true:=by
 cases k with
 | inl i=>obtain⟨t,e⟩:=(show ∃t,u=Value.int i t from r);subst e;exact qZ P w i t
 | inr x=>obtain⟨t,e⟩:=(show ∃t,u=Value.str x t from r);subst e;exact qY P w x t
def oj {P:Program}{w:World}:∀{ks:List Key} {us:List Value},Vals (ks.map kV) us->ItemsAre (bW P w) ks us
 | [],_,r=>by rw[List.map_nil] at r;cases r;exact .nil
 | k::ks,_,r=>by
   rw[List.map_cons] at r;cases r with
   | cons h t=>exact .cons (oi h) (oj t)
abbrev KT (H:Hp):List (List Key×V)->List (List Key×Addr×Value)->Prop:=Paired fun p q=>p.1=q.1/\H q.2.1=some (.tup (p.1.map kV))/\RelV p.2 q.2.2
def KT.val {H:Hp}{kvs:List (List Key×V)}{xs:List (List Key×Addr×Value)}(r:KT H kvs xs)(k:List Key):RelO (fX kvs k) ((atKey xs k).map (·.2)):=by
 induction r with
 | nil=>exact True.intro
 | @cons p q ps qs h t ih =>
   obtain⟨h1,_,h2⟩:=h;by_cases e:p.1=k
   ·have e':q.1=k:=h1.symm.trans e;have b:atKey (q::qs) k=some q.2:=by simp[atKey,List.find?_cons,e']
    rw[jk e,b];exact h2
   ·have e':¬ q.1=k:=fun z=>e (h1.trans z);have b:atKey (q::qs) k=atKey qs k:=by simp[atKey,List.find?_cons,e']
    rw[gZ e,b];exact ih
def KT.repl {H:Hp}{kvs:List (List Key×V)}{xs:List (List Key×Addr×Value)}(r:KT H kvs xs)(k:List Key){y:V}{u:Value}(ry:RelV y u) :
 KT H (kvs.map fun kv=>if kv.1=k then (kv.1,y) else kv) (xs.map (putAt k u)):=by
 induction r with
 | nil=>exact .nil
 | @cons p q ps qs h t ih =>
   rw[List.map_cons,List.map_cons];refine .cons ?_ ih;obtain⟨h1,h2,h3⟩:=h;unfold putAt;by_cases e:p.1=k
   ·rw[if_pos e,if_pos (h1.symm.trans e)];exact⟨h1,h2,ry⟩
   ·rw[if_neg e,if_neg (fun z=>e (h1.trans z))];exact⟨h1,h2,h3⟩
def KT.put {H:Hp}{kvs:List (List Key×V)}{xs:List (List Key×Addr×Value)}(r:KT H kvs xs)(k:List Key){b:Addr}{y:V}{u:Value}(hb:H b=some (.tup (k.map kV)))(ry:RelV y u) :
 KT H (putK kvs k y) (storedH xs k b u):=by
 have e:(kvs.any fun kv=>decide (kv.1=k))=(atKey xs k).isSome:=by
  rw[g9,(r.val k).isSome_eq,Option.isSome_map]
 unfold putK storedH;rw[e];by_cases q:(atKey xs k).isSome=true
 ·rw[if_pos q,if_pos q];exact r.repl k ry
 ·rw[if_neg q,if_neg q];exact Paired.snoc r ⟨rfl,hb,ry⟩
def KT.keeps {H H':Hp}{kvs:List (List Key×V)}{xs:List (List Key×Addr×Value)}(r:KT H kvs xs)(ht:∀b ys,H b=some (.tup ys)->H' b=some (.tup ys)):KT H' kvs xs :=
 Paired.mapP r fun _ _ z=>⟨z.1,ht _ _ z.2.1,z.2.2⟩
section
variable {P:Program}{w:World}{H:Hp}{h:Heap}{a:Addr}
def Ap {u:HO}(ok:HOk P w H h)(e:Rd H a u):ObjOk P w H h a u:=e.ok ok
def rz {kvs:List (Key×V)}(ok:HOk P w H h)(e:Rd H a (.dK kvs)):kvs.length<=sizeLine/\(a==sysModules)=false/\∃vs,KV kvs vs/\h.DictOf (bW P w) a vs :=
 show ObjOk P w H h a (.dK kvs) from Ap ok e
def AJ {kvs:List (Key×V)}(ok:HOk P w H h)(e:H a=some (.dK kvs)):kvs.length<=sizeLine/\(a==sysModules)=false/\∃vs,KV kvs vs/\h.DictOf (bW P w) a vs:=rz ok (.inl e)
def jd {ks:List Key}(ok:HOk P w H h)(e:H a=some (.tup (ks.map kV))):(tupleKind (bW P w)).is h ks a:=by
 obtain⟨_,its,r,o,h1,h2,n,h3⟩:=(show ObjOk P w H h a (.tup (ks.map kV)) from ok a _ e);exact⟨o,its.toArray,n,h1,h2,h3,by simpa using oj r⟩
def rq {kvs:List (List Key×V)}(ok:HOk P w H h)(e:Rd H a (.dT kvs)):kvs.length<=sizeLine/\(a==sysModules)=false /\
 ∃xs,KT H kvs xs/\h.DictOfH (tupleKind (bW P w)) a xs:=by
 obtain⟨z,y,xs,r,o,es,ep,h1,h2,h3,h4,h5⟩:=(show ObjOk P w H h a (.dT kvs) from Ap ok e);refine⟨z,y,xs,r,o,es,ep,h1,h2,h3,h4,fun x hx=>?_,h5⟩;have all:∀{l:List (List Key×V)} {m:List (List Key×Addr×Value)},KT H l m->∀x∈m,(tupleKind (bW P w)).is h x.1 x.2.1:=by
  intro l m q;induction q with
  | nil=>intro x hx;exact nomatch hx
  | @cons p q ps qs hq t ih =>
    intro x hx;rcases List.mem_cons.mp hx with e | hx
    ·subst e;exact jd ok (by rw[<-hq.1];exact hq.2.1)
    ·exact ih x hx
 exact all r x hx
def Dq {kvs:List (List Key×V)}(ok:HOk P w H h)(e:H a=some (.dT kvs)):kvs.length<=sizeLine/\(a==sysModules)=false /\
 ∃xs,KT H kvs xs/\h.DictOfH (tupleKind (bW P w)) a xs:=rq ok (.inl e)
end
def rP (H:Hp)(a:Addr)(y:V)(r:Option V):Prop :=
 (∃kvs k,Rd H a (.dK kvs)/\y=kV k/\r=fX kvs k)\/∃kvs k b,Rd H a (.dT kvs)/\y=.ref b/\H b=some (.tup (k.map kV))/\r=fX kvs k
def DPut (H:Hp)(a:Addr)(y v:V)(H':Hp):Prop :=
 (∃kvs k,H a=some (.dK kvs)/\y=kV k/\kvs.length<sizeLine/\H'=cr H a (.dK (putK kvs k v))) \/
 ∃kvs k b,H a=some (.dT kvs)/\y=.ref b/\H b=some (.tup (k.map kV))/\kvs.length<sizeLine/\H'=cr H a (.dT (putK kvs k v))
def DPut.k {H:Hp}{a:Addr}{kvs:List (Key×V)}{k:Key}{v:V}(e:H a=some (.dK kvs))(hl:kvs.length<sizeLine):DPut H a (kV k) v (cr H a (.dK (putK kvs k v))):=.inl ⟨kvs,k,e,rfl,hl,rfl⟩
section
variable {X:Cx}{pins:List (Addr×Obj)}{σ:St}{H:Hp}{s:Shared}{a:Addr}{y v:V}{u r:Value}{o:Option V}{A:Around}{E:Value->Shared->Prop}
def Inv.big (I:Inv X pins σ H s):sysModules<s.heap.objs.size:=by
 have h:mainGlobals<s.heap.objs.size:=(I.mod.glob.keeps I.bk).lt;exact Nat.lt_trans (by decide) h
def vL {Q:Value->Shared->Prop}(hu:A.units+1<cLine)(I:Inv X pins σ H s)(g:rP H a y (some v))(ry:RelV y u)(h:∀w' s',Inv X pins σ H s'->RelV v w'->Q w' s') :
 wpAny (model X.prog X.w) A (getItem (.ref a) u) Q E s:=by
 rcases g with ⟨kvs,k,e,ey,l⟩ | ⟨kvs,k,b,e,ey,eb,l⟩
 ·subst ey;obtain⟨z,hd,vs,rel,dd⟩:=rz I.hok e;obtain⟨w',hw,rw'⟩:=RelO.some_of (v:=v) (o:=valueAt vs k) (by rw[l];exact rel.val k);exact wpAny_getItem_of (oi ry) dd.mapOf hw (h w' _ (I.tok _) rw')
 ·subst ey;cases (show u=Value.ref b from ry);obtain⟨z,hd,xs,rel,dd⟩:=rq I.hok e;obtain⟨w',hw,rw'⟩:=RelO.some_of (v:=v) (o:=(atKey xs k).map (·.2)) (by rw[l];exact rel.val k);obtain⟨p,hp,hp2⟩:=Option.map_eq_some_iff.mp hw;refine wpAny_getItem_heap (tupleKind_room_in1 hu) (jd I.hok eb) dd hp ?_;rw[hp2];exact h w' _ (I.tok _) rw'
def Ei {Q:Value->Shared->Prop}(hu:A.units+1<cLine)(I:Inv X pins σ H s)(g:rP H a y o)(ry:RelV y u)(h:∀s',Inv X pins σ H s'->Q (.bool o.isSome) s') :
 wpAny (model X.prog X.w) A (compareOp .In u (.ref a)) Q E s:=by
 rcases g with ⟨kvs,k,e,ey,l⟩ | ⟨kvs,k,b,e,ey,eb,l⟩
 ·subst ey;obtain⟨z,hd,vs,rel,dd⟩:=rz I.hok e;refine wpAny_in_of (oi ry) hd dd.mapOf ?_;rw[<-(rel.val k).isSome_eq,<-l];exact h _ (I.tok _)
 ·subst ey;cases (show u=Value.ref b from ry);obtain⟨z,hd,xs,rel,dd⟩:=rq I.hok e;refine wpAny_in_heap (tupleKind_room_in1 hu) (jd I.hok eb) hd dd ?_;have q:=(rel.val k).isSome_eq;rw[Option.isSome_map] at q;rw[<-q,<-l];exact h _ (I.tok _)
def Ad {Q:Value->Shared->Prop}(hu:A.units+1<cLine)(I:Inv X pins σ H s)(g:rP H a y o)(ry:RelV y u)(h:∀s',Inv X pins σ H s'->Q (.bool (!o.isSome)) s') :
 wpAny (model X.prog X.w) A (compareOp .NotIn u (.ref a)) Q E s:=by
 rcases g with ⟨kvs,k,e,ey,l⟩ | ⟨kvs,k,b,e,ey,eb,l⟩
 ·subst ey;obtain⟨z,hd,vs,rel,dd⟩:=rz I.hok e;refine wpAny_notIn_of (oi ry) hd dd.mapOf ?_;rw[<-(rel.val k).isSome_eq,<-l];exact h _ (I.tok _)
 ·subst ey;cases (show u=Value.ref b from ry);obtain⟨z,hd,xs,rel,dd⟩:=rq I.hok e;refine wpAny_notIn_heap (tupleKind_room_in1 hu) (jd I.hok eb) hd dd ?_;have q:=(rel.val k).isSome_eq;rw[Option.isSome_map] at q;rw[<-q,<-l];exact h _ (I.tok _)
def pJ {h':Heap}{t':Nat}{ob:HO}(I:Inv X pins σ H s)(mu:Cu (H a))(hs:Heap.SameBut a s.heap h')(he:∃q,h'.get? a=some q)(new:ObjOk X.prog X.w (cr H a ob) h' a ob) :
 Inv X pins σ (cr H a ob) { s with heap:=h',toks:=t' } :=
 I.write (x:=a) (e:=a) mu (.inl rfl) (fun b q hb z=>(hs.2 b hb).trans z) he new
def yo {P:Program}{w:World}{H':Hp}{h':Heap}{kvs:List (Key×V)}{vs:List (Key×Value)}(z:kvs.length<=sizeLine)(hd:(a==sysModules)=false)(rel:KV kvs vs)(dd:h'.DictOf (bW P w) a vs) :
 ObjOk P w H' h' a (.dK kvs):=⟨z,hd,vs,rel,dd⟩
def vK {H':Hp}{Q:Unit->Shared->Prop}(hu:A.units+1<cLine)(I:Inv X pins σ H s)(g:DPut H a y v H')(ry:RelV y u)(rv:RelV v r)(h:∀s',Inv X pins σ H' s'->Q () s') :
 wpAny (model X.prog X.w) A (setItem (.ref a) u r) Q E s:=by
 rcases g with ⟨kvs,k,e,ey,l,eH⟩ | ⟨kvs,k,b,e,ey,eb,l,eH⟩
 ·subst ey eH;obtain⟨z,hd,vs,rel,dd⟩:=AJ I.hok e;have hz:vs.length<=sizeLine:=by rw[<-rel.length];exact z
  have hl:(putK kvs k v).length<=sizeLine:=by have:=ig kvs k v;omega
  refine wpAny_setItem_pairs (hsz:=hz) (oi ry) dd fun h' dd' hs=>h _ ?_;have he:∃q,h'.get? a=some q:=let ⟨q,_,_,hq,_⟩:=dd';⟨q,hq⟩
  exact pJ I (by rw[e];exact True.intro) hs he (yo hl hd (rel.put k rv) dd')
 ·subst ey eH;cases (show u=Value.ref b from ry);obtain⟨z,hd,xs,rel,dd⟩:=Dq I.hok e;have hz:xs.length<=sizeLine:=by rw[<-Paired.length rel];exact z
  have hl:(putK kvs k v).length<=sizeLine:=by have:=ig kvs k v;omega
  refine wpAny_setItem_heap (hsz:=hz) (tupleKind_room_in1 hu) (jd I.hok eb) dd fun h' dd' hs=>h _ ?_;obtain⟨q,es,ep,hq,h2,h3,h4,_,h5⟩:=dd';refine pJ I (by rw[e];exact True.intro) hs ⟨q,hq⟩ ⟨hl,hd,_,(rel.put k eb rv).keeps fun c ys ec=>?_,q,es,ep,hq,h2,h3,h4,h5⟩;rw[aN (C9 ec e (fun z=>nomatch z))];exact ec
end
section
variable {X:Cx}{pins:List (Addr×Obj)}{σ:St}{H:Hp}{s:Shared}{a:Addr}{kvs:List (Key×V)}{k:Key}{u:Value}{A:Around}{E:Value->Shared->Prop}
end
def Cj (i:Expr):Prop:=∀ov iv,subscripted i false ov iv=operate [ov,iv] (getItem ov iv)
def yR {prog:Program}{w:World}{A:Around}{E:Value->Shared->Prop}{s:Shared}{env:Env}{value slice:Expr}{pos:Pos}{T id:String}{Q:Value->Shared->Prop}
 (hl:typeLookup (.type T) "__getitem__"=pure (some (.builtin id))) (hs:Cj slice)
 (h:wpAny (model prog w) A (eval value env) (fun o s₁=>wpAny (model prog w) A (eval slice env) (fun i s₂=>s₂.TypeIs o T/\wpAny (model prog w) A (getItem o i) Q E s₂) E s₁) E s) :
 wpAny (model prog w) A (eval (.Subscript value slice pos) env) Q E s:=by
 refine Subscript_ (wpAny_mono h (fun o s₁ h₁=>wpAny_mono h₁ (fun i s₂ h₂=>?_) fun _ _ x=>x) fun _ _ x=>x);obtain⟨hT,h₂⟩:=h₂;unfold subscriptTail;refine wpAny_bind ?_;rw[getitemInPython_of_ne hT.not_modules];refine wpAny_bind (wpAny_specialOf hT hl ?_);have fin:wpAny (model prog w) A (subscripted slice false o i) (fun r s₃=>wpAny (model prog w) A (letTemporaryGo value o r >>= fun _=>pure r) Q E s₃) E s₂:=by
  rw[hs o i];exact wpAny_operating (wpAny_mono h₂ (fun r s₃ h₃=>wpAny_bind (wpAny_letTemporaryGo (wpAny_pure h₃))) fun _ _ x=>x)
 first
  | exact wpAny_pure (wpAny_bind fin)
  | exact wpAny_bind (wpAny_pure (wpAny_bind fin))
  | exact wpAny_bind fin
def rA {X:Cx}{pins:List (Addr×Obj)}{σ:St}{H:Hp}{s:Shared}{a:Addr}{y:V}{o:Option V}(I:Inv X pins σ H s)(g:rP H a y o):s.TypeIs (.ref a) "dict":=by
 rcases g with ⟨kvs,k,e,_,_⟩ | ⟨kvs,k,b,e,_,_,_⟩
 ·obtain⟨_,_,vs,_,dd⟩:=rz I.hok e;exact dd.typeIs
 ·obtain⟨_,_,xs,_,dd⟩:=rq I.hok e;exact dd.typeIs
noncomputable def CI (td ty:TE):TE:=fun σ H Q=>td σ H fun x H1=>ty σ H1 fun y H2=>∃a v,x=.ref a/\rP H2 a y (some v)/\Q v H2
noncomputable def D0 (ty td:TE):TE:=fun σ H Q=>ty σ H fun y H1=>td σ H1 fun x H2=>∃a o,x=.ref a/\rP H2 a y o/\Q (.bl o.isSome) H2
noncomputable def yQ (ty td:TE):TE:=fun σ H Q=>ty σ H fun y H1=>td σ H1 fun x H2=>∃a o,x=.ref a/\rP H2 a y o/\Q (.bl (!o.isSome)) H2
noncomputable def CP (td ty tv:TE):TS:=fun D σ H=>tv σ H fun v H1=>td σ H1 fun x H2=>ty σ H2 fun y H3=>∃a H4,x=.ref a/\DPut H3 a y v H4/\D.nx σ H4
section
variable {X:Cx}{o i e value:Expr}{pos pos' tpos:Pos}{td ty tv:TE}
def zj (hu:X.A.units+1<cLine)(ho:PE X o td)(hi:PE X i ty)(hs:Cj i):PE X (.Subscript o i pos) (CI td ty):=by
 intro pins s σ H Q I h;refine yR PySem.F.slot_dict_getitem.lookup hs (bU (ho pins s σ H _ I h) fun u s1 ⟨x,H1,I1,rx,q1⟩=>bU (hi pins s1 σ H1 _ I1 q1) fun iv s2 ⟨y,H2,I2,ry,a,v,ex,g,q2⟩=>?_);subst ex;obtain rfl:u=Value.ref a:=rx;exact⟨rA I2 g,vL hu I2 g ry fun w' s3 I3 rw'=>⟨v,H2,I3,rw',q2⟩⟩
def Bs (hu:X.A.units+1<cLine)(hi:PE X i ty)(ho:PE X o td):PC X .In i o (D0 ty td):=by
 intro pins s σ H Q I h;refine bU (hi pins s σ H _ I h) fun iv s1 ⟨y,H1,I1,ry,q1⟩=>bU (ho pins s1 σ H1 _ I1 q1) fun u s2 ⟨x,H2,I2,rx,a,ov,ex,g,q2⟩=>?_;subst ex;obtain rfl:u=Value.ref a:=rx;exact Ei hu I2 g ry fun s3 I3=>⟨.bl ov.isSome,H2,I3,rfl,q2⟩
def nW (hu:X.A.units+1<cLine)(hi:PE X i ty)(ho:PE X o td):PC X .NotIn i o (yQ ty td):=by
 intro pins s σ H Q I h;refine bU (hi pins s σ H _ I h) fun iv s1 ⟨y,H1,I1,ry,q1⟩=>bU (ho pins s1 σ H1 _ I1 q1) fun u s2 ⟨x,H2,I2,rx,a,ov,ex,g,q2⟩=>?_;subst ex;obtain rfl:u=Value.ref a:=rx;exact Ad hu I2 g ry fun s3 I3=>⟨.bl (!ov.isSome),H2,I3,rfl,q2⟩
def zf (hu:X.A.units+1<cLine)(ho:PE X o td)(hi:PE X i ty)(hv:PE X value tv)(hs:swapsWith value (some (.Subscript o i pos')) pos.line X.env=pure false) :
 PS X (.Assign [.Subscript o i pos'] value pos) (CP td ty tv):=by
 intro pins s σ H D I h;refine wpAny_Assign_Subscript (bU (hv pins s σ H _ I h) fun r s1 ⟨v,H1,I1,rv,q1⟩=>bU (ho pins s1 σ H1 _ I1 q1) fun u s2 ⟨x,H2,I2,rx,q2⟩=>bU (hi pins s2 σ H2 _ I2 q2) fun iv s3 ⟨y,H3,I3,ry,a,H4,ex,g,q3⟩=>?_) hs;subst ex;obtain rfl:u=Value.ref a:=rx;exact vK hu I3 g ry rv fun s4 I4=>⟨σ,H4,I4,q3⟩
end
def yp {P:Program}{w:World}{H:Hp}(h:Heap)(hb:sysModules<h.objs.size):ObjOk P w H (h.push { cls:=.type "dict",data:=.dict #[] }) h.objs.size (.dK []) :=
 ⟨Nat.zero_le _,beq_eq_false_iff_ne.mpr (Ne.symm (Nat.ne_of_lt hb)),[],.nil,Heap.DictOf.new h⟩
section
variable {X:Cx}{pos:Pos}
end
noncomputable def sa:List (TE×TE)->St->Hp->(List (V×V)->Hp->Prop)->Prop
 | [],_,H,Q=>Q [] H
 | (tk,tv)::r,σ,H,Q=>tk σ H fun x H1=>tv σ H1 fun y H2=>sa r σ H2 fun ps H3=>Q ((x,y)::ps) H3
abbrev VV:List (V×V)->List (Value×Value)->Prop:=Paired fun p q=>RelV p.1 q.1/\RelV p.2 q.2
def DH (X:Cx)(pos:Pos)(keys:List (Option Expr))(values:List Expr)(trs:List (TE×TE)):Prop :=
 ∀(pins:List (Addr×Obj)) (s:Shared) (σ:St) (H:Hp) (Q:List (V×V)->Hp->Prop),Inv X pins σ H s->sa trs σ H Q ->
  wpAny (model X.prog X.w) X.A (evalPairs (pairTrees keys values X.env pos)) (fun vs s'=>∃ps H',Inv X pins σ H' s'/\VV ps vs/\Q ps H') X.xe s
def zg {X:Cx}{pos:Pos}:DH X pos [] [] []:=fun pins s σ H Q I h=>pairTrees_nil_walk ⟨[],H,I,.nil,h⟩
def xm {X:Cx}{pos:Pos}{k v:Expr}{ks:List (Option Expr)}{vs:List Expr}{tk tv:TE}{trs:List (TE×TE)}(hk:PE X k tk)(hv:PE X v tv)(hr:DH X pos ks vs trs) :
 DH X pos (some k::ks) (v::vs) ((tk,tv)::trs):=fun pins s σ H Q I h =>
 pairTrees_cons_walk (bU (hk pins s σ H _ I h) fun u s1 ⟨x,H1,I1,rx,q1⟩=>bU (hv pins s1 σ H1 _ I1 q1) fun w2 s2 ⟨y,H2,I2,ry,q2⟩ =>
  bU (hr pins s2 σ H2 _ I2 q2) fun ws s3 ⟨ps,H3,I3,rel,q3⟩=>⟨(x,y)::ps,H3,I3,.cons ⟨rx,ry⟩ rel,q3⟩)
def mz (kvs more:List (Key×V)):List (Key×V):=more.foldl (fun acc kv=>putK acc kv.1 kv.2) kvs
def KV.merge:∀{more:List (Key×V)} {rs:List (Key×Value)} {kvs:List (Key×V)} {vs:List (Key×Value)},KV more rs->KV kvs vs->KV (mz kvs more) (merged vs rs):=by
 intro more rs kvs vs r;unfold KV at r;induction r generalizing kvs vs with
 | nil=>intro q;exact q
 | @cons p q ps qs h t ih =>
   intro r0;have e:KV (putK kvs p.1 p.2) (stored vs q.1 q.2):=by
    have:=r0.put p.1 h.2;rw[<-h.1];exact this
   exact ih e
def iS:∀(more kvs:List (Key×V)),(mz kvs more).length<=kvs.length+more.length
 | [],kvs=>by show kvs.length<=kvs.length+0;omega
 | p::r,kvs=>by
   have h1:=iS r (putK kvs p.1 p.2);have h2:=ig kvs p.1 p.2;show (mz (putK kvs p.1 p.2) r).length<=_;rw[List.length_cons];omega
def m4 {P:Program}{w:World}:∀{kvs:List (Key×V)} {ws:List (Value×Value)},VV (kvs.map fun kv=>(kV kv.1,kv.2)) ws->∃rs,Carries (bW P w) ws rs/\KV kvs rs
 | [],_,r=>by rw[List.map_nil] at r;cases r;exact⟨[],True.intro,.nil⟩
 | p::kvs,_,r=>by
   rw[List.map_cons] at r;cases r with
   | @cons a b as bs h t =>
     obtain⟨rs,c,q⟩:=m4 (P:=P) (w:=w) t;obtain⟨b1,b2⟩:=b;exact⟨(p.1,b2)::rs,⟨oi h.1,rfl,c⟩,.cons ⟨rfl,h.2⟩ q⟩
def CH (trs:List (TE×TE)):TE:=fun σ H Q=>∀p,H p=none->sa trs σ (cr H p (.dK [])) fun ps H2=>H2 p=some (.dK [])/\∃kvs:List (Key×V),ps=kvs.map (fun kv=>(kV kv.1,kv.2))/\kvs.length<=15/\Q (.ref p) (cr H2 p (.dK (mz [] kvs)))
def zi {X:Cx}{pos:Pos}{keys:List (Option Expr)}{values:List Expr}{trs:List (TE×TE)}(h:DH X pos keys values trs)(hall:keys.all (·.isSome)=true)(hl:keys.length=values.length)(h0:keys≠[])
 (h15:keys.length<=15):PE X (.Dict keys values pos) (CH trs):=by
 intro pins s σ H Q I q;have hn:=I.hok.fresh (Nat.le_refl s.heap.objs.size);have I1:=I.laid (a:=s.heap.objs.size) (o:=.dK []) (h':=s.heap.push { cls:=.type "dict",data:=.dict #[] }) (t':=s.toks) (fun _ _ q=>Heap.get?_push_of_some _ q) (Nat.le_refl _) (yp s.heap I.big);refine wpAny_Dict_walk (knd:=bW X.prog X.w) hall hl h0 h15 (bU (h pins _ σ _ _ I1 (q _ hn)) fun ws s2 ⟨ps,H2,I2,rel,e,kvs,ep,lk,q2⟩=>?_);subst ep;obtain⟨rs,c,rk⟩:=m4 (P:=X.prog) (w:=X.w) rel;obtain⟨z,hd,vs0,r0,dd⟩:=AJ I2.hok e;cases r0;refine⟨rs,c,dd,fun h' dd' hs=>⟨.ref s.heap.objs.size,_,?_,rfl,q2⟩⟩;have hz:(mz [] kvs).length<=sizeLine:=by
  have h1:=iS kvs [];rw[List.length_nil] at h1;rw[sizeLine_eq];omega
 have he:∃q,h'.get? s.heap.objs.size=some q:=let ⟨q,_,_,hq,_⟩:=dd';⟨q,hq⟩
 exact pJ I2 (by rw[e];exact True.intro) hs he (yo hz hd (rk.merge .nil) dd')
section
variable {X:Cx}{pins:List (Addr×Obj)}{σ:St}{H:Hp}{s:Shared}{a:Addr}{y d:V}{u r:Value}{o:Option V}{A:Around}{E:Value->Shared->Prop}
end
section
variable {X:Cx}{o e f:Expr}{apos cpos:Pos}{td ty tx:TE}
end
section
variable {X:Cx}{pins:List (Addr×Obj)}{σ:St}{H:Hp}{s:Shared}{a:Addr}{kvs:List (Key×V)}{A:Around}{E:Value->Shared->Prop}
end
section
variable {X:Cx}{pins:List (Addr×Obj)}{σ:St}{H:Hp}{s:Shared}{a:Addr}{y:V}{u:Value}{A:Around}{E:Value->Shared->Prop}
end
end L2
namespace DL
open PySem PySem.Spec PyProof.Rows L2
def jd {d:D}(h:isKey d=true):∃k,d=kD k:=by
 cases d with
 | int i=>exact⟨.inl i,rfl⟩
 | str x=>exact⟨.inr x,rfl⟩
 | _=>cases h
def ur:∀{ds:List D},ds.all isKey=true->∃ks:List Key,ds=ks.map kD
 | [],_=>⟨[],rfl⟩
 | d::ds,h=>by
   rw[List.all_cons,Bool.and_eq_true] at h;obtain⟨k,rfl⟩:=jd h.1;obtain⟨ks,rfl⟩:=ur h.2;exact⟨k::ks,rfl⟩
def zG {d:D}(h:sO d=true):∃ks,d=kT ks:=by
 cases d with
 | tup ds=>obtain⟨ks,rfl⟩:=ur h;exact⟨ks,rfl⟩
 | _=>cases h
def iU {K:PySem.W.Frag}{B:Hp}:∀{ks:List Key} {xs:List V},Dens K B (ks.map kD) xs->xs=ks.map kV
 | [],_,h=>h.unnil
 | k::ks,_,h=>by
   obtain⟨x,r,rfl,h1,h2⟩:=h.uncons;rw[iU h2];cases k with
   | inl i=>rw[Den.int_inv h1];rfl
   | inr z=>rw[Den.str_inv h1];rfl
section
variable {X:Cx}{pins:List (Addr×Obj)}{σ:L2.St}{H:Hp}{s:Shared}
def Inv.still {a:Addr}{u:HO}(I:L2.Inv X pins σ H s)(hu:(∃kvs,u=.dK kvs)\/∃kvs,u=.dT kvs)(e:H a=some u):∃o,L2.Inv X pins σ (cr H a (.frz o u)) s:=by
 obtain⟨o,ho⟩:∃o,s.heap.get? a=some o:=by
  have:=(I.hok a u e);rcases hu with ⟨kvs,rfl⟩ | ⟨kvs,rfl⟩
  ·obtain⟨_,_,_,_,o,_,_,q,_⟩:=this;exact⟨o,q⟩
  ·obtain⟨_,_,_,_,o,_,_,q,_⟩:=this;exact⟨o,q⟩
 have mu:Cu (H a):=by rw[e];rcases hu with ⟨kvs,rfl⟩ | ⟨kvs,rfl⟩ <;> exact True.intro
 have ne:∀{b:Addr} {v:HO},H b=some v->(∀z,v≠.dK z)->(∀z,v≠.dT z)->b≠a:=fun {b v} q n1 n2 z=>by
  subst z;rw[e] at q;cases q;rcases hu with ⟨kvs,rfl⟩ | ⟨kvs,rfl⟩
  ·exact n1 _ rfl
  ·exact n2 _ rfl
 have st:ObjOk X.prog X.w (cr H a (.frz o u)) s.heap a u:=(I.hok a u e).stay (fun _ _ _ q=>q) (fun b q=>by rw[aN (ne q (fun _ z=>nomatch z) (fun _ z=>nomatch z))];exact q) fun b xs q=>by rw[aN (ne q (fun _ z=>nomatch z) (fun _ z=>nomatch z))];exact q
 have:=I.write (o:=.frz o u) (t':=s.toks) (h':=s.heap) mu (.inl rfl) (fun _ _ _ q=>q) ⟨o,ho⟩ ⟨ho,st⟩;exact⟨o,this⟩
end
section
variable {X:Cx}{e k a b o:Expr}{me mk ma mb mo:ME}{m:MS}{PX:Prop}{pos p2 p3 pos':Pos}{elts:List Expr}{kt:Nat}
def yn {n i:Nat}{sts:List Stmt}(hn:X.N.length=n)(hi:i<n)(hfn:X.fn ""=true)(h:rO X PX sts m):rO X PX sts (wL n i m):=by
 obtain⟨t,p,q⟩:=h;refine⟨fun D σ H=>∃a u,((∃kvs,u=.dK kvs)\/∃kvs,u=.dT kvs)/\H a=some u/\∀o,t D σ (cr H a (.frz o u)),fun pins s σ H D I hh=>?_,fun os σ H δ r D s me k=>?_⟩
 ·obtain⟨a,u,hu,e,hh⟩:=hh;obtain⟨o,I'⟩:=Inv.still I hu e;exact p pins s σ _ D I' (hh o)
 ·unfold wL at me;split at me
  ·rename_i tt ks vs ho;obtain⟨h1,h2,a,e1,e2,e3,xs,hd,hv⟩:=s.own_at hn hi ho;obtain⟨u,hu,ea,hF⟩:∃u,((∃kvs,u=HO.dK kvs)\/∃kvs,u=HO.dT kvs)/\H a=some u/\∀(o:Obj) (B:Hp),B a=some (.frz o u)->DcF B a tt ks xs:=by
    rcases hd with ⟨rfl,kvs,z,r⟩ | ⟨rfl,kvs,z,r⟩
    ·exact⟨_,.inl ⟨kvs,rfl⟩,z,fun o B hB=>.inl ⟨rfl,o,kvs,hB,r⟩⟩
    ·exact⟨_,.inr ⟨kvs,rfl⟩,z,fun o B hB=>.inr ⟨rfl,o,kvs,hB,r⟩⟩
   refine⟨a,u,hu,ea,fun o=>?_⟩;subst hn;generalize hH:cr H a (.frz o u)=H1;have H1a:H1 a=some (.frz o u):=by rw[<-hH];exact bn
   have H1n:∀{b:Addr},b≠a->H1 b=H b:=fun {b} z=>by rw[<-hH];exact aN z
   have mem:∀b,b∈os.filter (fun c=>decide (c≠a))↔b∈os/\b≠a:=fun b=>by simp
   have na:a∉os.filter (fun c=>decide (c≠a)):=fun z=>((mem a).mp z).2 rfl;have big:Same (hide os H) (hide (os.filter (fun c=>decide (c≠a))) H1):=fun b v z=>by
    have hb:b∉os:=fun y=>by rw[bX y] at z;cases z
    rw[aI hb] at z;rw[aI (fun y=>hb ((mem b).mp y).1),H1n (fun y=>hb (by rw[y];exact e2))];exact z
   have hid:i<δ.length:=Nat.lt_of_lt_of_le hi s.len;have hid2:X.N.length+i<δ.length:=(List.getElem?_eq_some_iff.mp h2).1;have off:∀{j:Nat},j≠i->j≠X.N.length+i->((δ.set i (some (.dic tt ks vs))).set (X.N.length+i) none)[j]? = δ[j]?:=fun {j} q1 q2=>by
    rw[List.getElem?_set_ne (Ne.symm q2),List.getElem?_set_ne (Ne.symm q1)]
   have at_i:((δ.set i (some (DL.D.dic tt ks vs))).set (X.N.length+i) none)[i]? = some (some (.dic tt ks vs)):=by
    rw[List.getElem?_set_ne (by omega),List.getElem?_set_self hid]
   have sl:Sl X (os.filter (fun c=>decide (c≠a))) H1 ((δ.set i (some (.dic tt ks vs))).set (X.N.length+i) none) σ:=by
    refine⟨s.n,by simpa using s.len,fun j d hj q=>?_,fun j d hj q1 q2=>?_,fun j l d f b hj hl q1 q2 q3 q4 q5 q6=>?_,fun b hb=>?_,fun b v z=>?_⟩
    ·by_cases hji:j=i
     ·subst hji;rw[at_i] at q;cases q;exact⟨_,e1,.dic (hF o _ ((aI na).trans H1a)) (hv.mono big _ _)⟩
     ·rw[off hji (by omega)] at q;obtain⟨v,r1,r2⟩:=s.pl j d hj q;exact⟨v,r1,r2.mono big _ _⟩
    ·by_cases hji:j=i
     ·subst hji;rw[at_i] at q1;cases q1
     ·rw[off hji (by omega)] at q1;rw[off (by omega) (by omega)] at q2;obtain⟨b,r1,r2,r3,r4⟩:=s.ow j d hj q1 q2;have hba:b≠a:=fun z=>by
       subst z;exact hji (s.inj j i d _ b hj hi q1 h1 q2 h2 r1 e1)
      refine⟨b,r1,(mem b).mpr ⟨r2,hba⟩,r3,?_⟩;cases d with
      | lst ds=>obtain⟨xs,w1,w2⟩:=r4;exact⟨xs,(H1n hba).trans w1,w2.mono big _ _⟩
      | dic t' ks vs =>
        obtain⟨xs,w1,w2⟩:=r4;refine⟨xs,?_,w2.mono big _ _⟩;rcases w1 with ⟨z,kvs,w1,r⟩ | ⟨z,kvs,w1,r⟩
        ·exact .inl ⟨z,kvs,(H1n hba).trans w1,r⟩
        ·exact .inr ⟨z,kvs,(H1n hba).trans w1,r⟩
      | _=>exact r4
    ·by_cases hji:j=i
     ·subst hji;rw[at_i] at q1;cases q1
     ·by_cases hki:l=i
      ·subst hki;rw[at_i] at q2;cases q2
      ·rw[off hji (by omega)] at q1;rw[off hki (by omega)] at q2;rw[off (by omega) (by omega)] at q3 q4;exact s.inj j l d f b hj hl q1 q2 q3 q4 q5 q6
    ·obtain⟨y1,y2⟩:=(mem b).mp hb;obtain⟨v,z1,z2⟩:=s.live b y1;exact⟨v,(H1n y2).trans z1,z2⟩
    ·have hb:b≠a:=fun y=>by
      have:=e3 hfn;rw[y,this] at z;cases z
     exact(H1n hb).trans (s.keep b v z)
   refine q _ σ H1 _ r D sl me (k.mono ⟨big,fun b hb hn=>?_⟩);refine(mem b).mpr ⟨hb,fun y=>hn (by rw[y];exact e3 hfn)⟩
  ·cases me
def mD {K:PySem.W.Frag}{B:Hp}(i:Int):∀{kvs:List (Key×V)} {vs:List D},Dens K B vs (kvs.map (·.2))->(gU (kvs.map fun p=>kD p.1) vs i=none/\fX kvs (.inl i)=none)\/∃d v,gU (kvs.map fun p=>kD p.1) vs i=some d/\fX kvs (.inl i)=some v/\Den K B d v
 | [],vs,h=>by
   rw[List.map_nil];exact .inl ⟨by cases vs <;> rfl,rfl⟩
 | p::kvs,[],h=>by
   have:=h.length;simp at this
 | (k,x)::kvs,d::vs,h=>by
   obtain⟨y,r,e,h1,h2⟩:=h.uncons;rw[List.map_cons] at e;cases e;rw[List.map_cons];cases k with
   | inl j =>
     show ((if j=i then some d else gU (kvs.map fun p=>kD p.1) vs i)=none/\_)\/∃d' v,(if j=i then some d else gU (kvs.map fun p=>kD p.1) vs i)=some d'/\_;by_cases hj:j=i
     ·subst hj;rw[if_pos rfl,jk rfl];exact .inr ⟨d,x,rfl,rfl,h1⟩
     ·rw[if_neg hj,gZ (by simpa using hj)];exact mD i h2
   | inr z =>
     show (gU (kvs.map fun p=>kD p.1) vs i=none/\_)\/∃d' v,gU (kvs.map fun p=>kD p.1) vs i=some d'/\_;rw[gZ (by simp)];exact mD i h2
end
end DL
namespace DL
open PySem
noncomputable def iq (r:List Int)(ts:List Int)(b:Int):List Int:=ts.foldl (fun r t=>r.set t.toNat (r.getD t.toNat 0+b)) r
def jj (b:Int):∀(ts r:List Int),(iq r ts b).length=r.length
 | [],_=>rfl
 | t::ts,r=>by
   show (iq (r.set t.toNat _) ts b).length=_;rw[jj b ts];simp
end DL
namespace DL
open PySem PySem.Spec PyProof.Rows L2
section
variable {X:Cx}{pins:List (Addr×Obj)}{σ:L2.St}{H:Hp}{s:Shared}{A:Around}{E:Value->Shared->Prop}{a:Addr}{kvs:List (Key×V)}{k:Key}{z:V}{u r:Value}
end
end DL
namespace DL
open PySem PyProof.Rows
section
variable {P:Program}{w:World}{A:Around}{E:Value->Shared->Prop}{s:Shared}
end
open AutoSeq1 (wpAny_loadPart')
section
variable {P:Program}{w:World}{A:Around}{E:Value->Shared->Prop}{s:Shared}
end
section
variable {P:Program}{w:World}{A:Around}{E:Value->Shared->Prop}{s:Shared}
end
section
variable {P:Program}{w:World}{A:Around}{E:Value->Shared->Prop}{s:Shared}{d:Addr}{es:Array DictEntry}{ep:Nat}
end
end DL
namespace DL
open PySem
noncomputable def Eh:D->Bool
 | .non=>true
 | _=>false
def wl:D->Option D:=fun d=>some (.bl (Eh d))
def dP:D->Option D:=fun d=>some (.bl (!Eh d))
end DL
namespace DL
open PySem PySem.Spec PyProof.Rows L2
section
variable {X:Cx}{e k a b o:Expr}{me mk ma mb mo:ME}{pos p2 pos':Pos}{tg:Expr}
def AF (a b:Key):cP (kD a) (kD b)=decide (a=b):=by
 cases a with
 | inl i =>
   cases b with
   | inl j=>simp only[kD,cP];rw[Bool.eq_iff_iff];simp
   | inr y=>simp only[kD,cP];rw[Bool.eq_iff_iff];simp
 | inr x =>
   cases b with
   | inl j=>simp only[kD,cP];rw[Bool.eq_iff_iff];simp
   | inr y=>simp only[kD,cP];rw[Bool.eq_iff_iff];simp
def xN:∀a b:List Key,eO (a.map kD) (b.map kD)=decide (a=b)
 | [],[]=>by simp[eO]
 | [],_::_=>by simp[eO]
 | _::_,[]=>by simp[eO]
 | x::a,y::b=>by
   rw[List.map_cons,List.map_cons,eO,AF,xN a b,Bool.eq_iff_iff];simp
def Dc (a b:List Key):cP (kT a) (kT b)=decide (a=b):=by
 unfold kT;rw[cP,xN]
def ut {K:PySem.W.Frag}{H:Hp}{d:D}{x:V}(h:Den K H d x):decide (x=.non)=Eh d:=by
 cases d with
 | non=>rw[h.non_inv];rfl
 | bl b=>rw[h.bl_inv];rfl
 | int i=>rw[h.int_inv];rfl
 | str i=>rw[h.str_inv];rfl
 | tup ds=>obtain⟨a,xs,rfl,_⟩:=h.tup_inv;rfl
 | lst ds=>obtain⟨a,xs,rfl,_⟩:=h.lst_inv;rfl
 | dic tk ks ds=>obtain⟨a,xs,rfl,_⟩:=h.dic_inv;rfl
def B8 {j:Nat}(ha:DE X a ma):DE X (.Compare a [.Is] [.Constant .none j p2] pos) (gW wl ma):=by
 obtain⟨ta,pa,qa⟩:=ha;refine⟨_,ua Bw pa sy (bg _),fun os σ H δ d Q s m kq=>?_⟩;obtain⟨dx,e1,m⟩:=aj m;cases m;exact qa os σ H δ dx _ s e1 fun x H1 g1 r1=>⟨rfl,by rw[ut r1];exact kq _ H1 g1 (.bl _)⟩
def oq {j:Nat}(ha:DE X a ma):DT X (.Compare a [.IsNot] [.Constant .none j p2] pos) (tV (gW dP ma)):=by
 obtain⟨ta,pa,qa⟩:=ha;refine⟨_,oW zn pa sy (bg _),fun os σ H δ z Q s m kq=>?_⟩;obtain⟨d,m1,m2⟩:=aj m;obtain⟨dx,e1,m1⟩:=aj m1;cases m1;cases m2;exact qa os σ H δ dx _ s e1 fun x H1 g1 r1=>⟨rfl,_,by rw[ut r1],kq H1 g1⟩
end
end DL
namespace DL
open PySem
noncomputable def isInt:D->Bool
 | .int _=>true
 | _=>false
def ja:D->D->Option D
 | .lst ds,.int i=>(intsOf ds).bind fun is=>if i∈is then some (.int (is.idxOf i:Nat)) else none
 | _,_=>none
def yk (k v:ME):ME:=fun δ=>(k δ).bind fun z=>(v δ).bind fun y=>match z with
 | .int i=>if flat y=true then some (.dic false [.int i] [y]) else none
 | _=>none
def wK (n i:Nat)(k a:ME):MS:=fun δ=>(a δ).bind fun y=>(k δ).bind fun z=>match ownAt n i δ,z with
 | some (.dic false ks vs),.int j=>if (ks.all fun q => !cP q (.int j))=true/\ks.length<16777216 then some (.nx (δ.set (n+i) (some (.dic false (ks++[.int j]) (vs++[y]))))) else none
 | _,_=>none
def BO:D->D->Option Bool
 | .dic true ks _,z=>if sO z=true then some (ks.any fun q=>cP q z) else none
 | .dic false ks _,.int i=>some (ks.any fun q=>cP q (.int i))
 | _,_=>none
def BY (n i:Nat)(neg:Bool)(a:ME):ME:=fun δ=>(a δ).bind fun z=>(ownAt n i δ).bind fun d=>(BO d z).bind fun b=>some (.bl (b != neg))
def BA (neg:Bool)(z d:D):Option D:=(BO d z).bind fun b=>some (.bl (b != neg))
noncomputable def cn (rows:List (List Int))(n:Int)(cs:List Int):List (List Int):=cs.foldl (fun rs c=>rs.set c.toNat (rs.getD c.toNat []++[n])) rows
def nG (fn:MF)(es:D):Nat->List D->List (List Int)->Option (List (List Int))
 | _,[],rows=>some rows
 | n,p::ps,rows=>(fn [p,es]).bind fun d=>match d with
   | .lst ds=>(intsOf ds).bind fun cs=>if (cs.all fun c=>decide (0<=c)&&decide (c<rows.length))=true/\(rows.all fun r=>decide (r.length+cs.length<=1000000))=true then nG fn es (n+1) ps (cn rows n cs) else none
   | _=>none
noncomputable def qx (rows:List (List Int)):D:=.lst (rows.map fun r=>.lst (r.map D.int))
def jx (cm:ME)(fn:MF)(m:MS):MS:=fun δ=>match δ with
 | [some (.tup ps),some (.lst es),none,none,none,none]=>(cm δ).bind fun c=>match c with
   | .lst cs=>if cs.length<=1000000 then (nG fn (.lst es) 0 ps (List.replicate cs.length [])).bind fun rows=>m [some (.tup ps),some (.lst es),some (qx rows),none,none,none] else none
   | _=>none
 | _=>none
def Ao (n i:Nat):MS:=fun δ=>(ownAt n i δ).bind fun d=>some (.rt d)
noncomputable def lO (a b:MS):MS:=fun δ=>(a δ).bind fun r=>match r with | .nx δ'=>b δ' | _=>none
noncomputable def Cr (n k:Nat)(m:MS):MF:=fun ds=>if ds.length=n then (m (ds.map some++List.replicate (k-n) none)).bind fun r=>match r with
 | .rt d=>some d
 | _=>none
 else none
end DL
namespace DL
open PySem PySem.Spec PyProof.Rows L2
def Dz (K:PySem.W.Frag)(f:MF):Sp:=fun vs H Q _=>∃os ds r,Live os H/\Dens K (hide os H) ds vs/\f ds=some r/\∀p H',Same H H'->H p=none->Own K (hide (p::os) H') H' p r->Q (.ref p) H'
def Dx (X:Cx)(st:List Stmt)(m:MS):Prop:=∃t:TS,PSs X st t/\∀os σ H δ d D,Sl X os H δ σ->m δ=some (.rt d) ->
 (∀p H' os',Fr X os H os' H'->Same X.H₀ H'->X.H₀ p=none->p∈os'->Own X.K (hide os' H') H' p d->D.rt (.ref p) H')->t D σ H
section
variable {X:Cx}{PX:Prop}{st:Stmt}{rest:List Stmt}{m m':MS}{e a b k o:Expr}{me ma mb mk mo:ME}{pos p p2 p3 p4:Pos}
def zV {n i:Nat}(hn:X.N.length=n)(hi:i<n)(hfn:X.fn ""=true)(hv:PE X e (jp i)):Dx X [.Return (some e) pos] (Ao n i):=by
 refine⟨_,lh (xh hv),fun os σ H δ d D s m k=>?_⟩;obtain⟨d',e1,m⟩:=aj m;cases m;obtain⟨h1,h2,a,e2,e3,e4,e5⟩:=s.own_at hn hi e1;exact⟨_,e2,k a H os (.of (Same.refl _)) s.keep (e4 hfn) e3 e5⟩
def jM (h1:DS X False st m)(h2:Dx X rest m'):Dx X (st::rest) (lO m m'):=by
 obtain⟨t,p,q⟩:=h1;obtain⟨t',p',q'⟩:=h2;refine⟨_,jA p p',fun os σ H δ d D s m k=>?_⟩;obtain⟨r1,e1,m⟩:=aj m;refine q os σ H δ r1 _ s e1 ?_;cases r1 with
 | nx δ'=>exact fun σ' H' os' g s'=>q' os' σ' H' δ' d D s' m fun p H2 os2 g2=>k p H2 os2 (g.trans g2)
 | bk δ'=>cases m
 | ct δ'=>cases m
 | rt d=>cases m
 | ex=>cases m
def BX {P:Program}{w:World}{K:PySem.W.Frag}{mg:Str->Option Value}{base:Heap}{x qual:Str}{st:Stmt}{f:Addr}{fd:FuncData}{N ps:List Str}{k kk:Nat}{m:MS}{M:MF}(hkk:N.length<=kk)(F:Fun K x qual st f fd)(S:eW N ps (aA st))(hM:M=Cr ps.length kk m)
 (h:∀(cdv:Value) (A:Around) (outer:List Env) (s:Shared) (H:Hp) (E:XK),Room k (A.deeper (envOfC qual (aA st) s.heap.objs.size f cdv)) ->
  Dx (kr nq P w K mg base N qual (aA st) f cdv A outer s H E).nox (cW st) m) :
 iu P w K mg base nq (k+1) f fd ps (Dz K M):=by
 subst hM;have hpl:ps.length<=N.length:=by have:=congrArg List.length S.pre;rw[List.length_take] at this;omega
 have inv:∀ds r,Cr ps.length kk m ds=some r->ds.length=ps.length/\m (ds.map some++List.replicate (kk-ps.length) none)=some (.rt r):=by
  intro ds r e;unfold Cr at e;split at e
  ·rename_i hl;obtain⟨q,e1,e⟩:=aj e;refine⟨hl,?_⟩;cases q with
   | rt d=>cases e;exact e1
   | nx δ=>cases e
   | bk δ=>cases e
   | ct δ=>cases e
   | ex=>cases e
  ·cases e
 refine F.ok S (fun vs H Q E hq=>?_) (fun cdv A outer s H vs Q E hr hq=>?_)
 ·obtain⟨os,ds,r,L,d,e,_⟩:=hq;rw[<-d.length];exact(inv ds r e).1
 ·obtain⟨os,ds,r,L,d,e,kq⟩:=hq;obtain⟨t,p,q⟩:=h cdv A outer s H E hr;obtain⟨hl,e2⟩:=inv ds r e;have s0:=qm (X:=(kr nq P w K mg base N qual (aA st) f cdv A outer s H E).nox) (kk:=kk) L rfl d hl hpl hkk;refine⟨t,p,q os _ H _ r _ s0 e2 fun p H' os' fr sm hp mp ow=>kq p H' sm hp ?_⟩;have big:Same (hide os' H') (hide (p::os) H'):=fun b o z=>by
   have hb:b∉os':=fun y=>by rw[bX y] at z;cases z
   rw[aI hb] at z;have hb2:b∉os:=fun y=>hb (fr.2 b y fun n=>by
    obtain⟨o',e',_⟩:=L b y;have n':H b=none:=n;rw[n'] at e';cases e')
   have hbp:b≠p:=fun y=>hb (y ▸ mp);rw[aI (by simp[hb2,hbp])];exact z
  cases r with
  | lst ds=>obtain⟨xs,w1,w2⟩:=ow;exact⟨xs,w1,w2.mono big _ _⟩
  | dic t ks vs=>obtain⟨xs,w1,w2⟩:=ow;exact⟨xs,w1,w2.mono big _ _⟩
  | _=>exact ow
def yt {f:Addr}{fd:FuncData}{ps:List Str}{k:Nat}{x:Str}{fn:MF}{m:MA}{es:List Expr}(F:iu X.prog X.w X.K X.mg X.base nq k f fd ps (Dz X.K fn))(hr:Room k X.A)(hg:Gl X x)(hm:X.mg x=some (.ref f))(hk:PySem.W.keepIn X.K (.ref f)=true)
 (hb:Binds X.K fd ps []) (ha:DA X (e::es) m) (hdb:(x==("__debug__":Str))=false:=by decide) (he:starEach (e::es) X.env=(false,eval e X.env)::starEach es X.env:=by rfl) (hpl:(backTo pos (starEach es X.env)).any (·.1)=false:=by rfl) :
 DF X (.Call (.Name x p) (e::es) [] pos) (ag fn m):=by
 obtain⟨hl,t,pt,q⟩:=ha;refine⟨_,ub F hr hg hm hk hb .nil AA pt hdb he hpl,fun os σ H δ d Q s m k=>?_⟩;obtain⟨ds,e1,m⟩:=aj m;refine q os σ H δ ds _ s e1 fun vs H1 g1 r1=>?_;rw[List.append_nil];exact⟨os,ds,d,s.live.mono g1,r1,m,fun p H' g hp o=>k p H' (g1.trans g) (g1.free hp) o⟩
def yq (hk:DE X k mk)(he:DE X e me):DF X (.Dict [some k] [e] pos) (yk mk me):=by
 obtain⟨tk,pk,qk⟩:=hk;obtain⟨te,pe,qe⟩:=he;refine⟨_,zi (xm pk pe zg) rfl rfl (by simp) (by show 1<=15;decide),fun os σ H δ d Q s m kq=>?_⟩;obtain⟨z,e1,m⟩:=aj m;obtain⟨y,e2,m⟩:=aj m;intro p hp;have s1:=s.mono (aX hp (.dK []));refine qk os σ _ δ z _ s1 e1 fun u H1 g1 r1=>?_;refine qe os σ H1 δ y _ (s1.mono g1) e2 fun v H2 g2 r2=>?_
 match z,m with
 | .int i,m =>
   obtain⟨hf,m⟩:flat y=true/\some (D.dic false [.int i] [y])=some d:=by
    have m':(if flat y=true then some (D.dic false [.int i] [y]) else none)=some d:=m;split at m'
    ·rename_i h;exact⟨h,m'⟩
    ·cases m'
   cases m;have g12:=g1.trans g2;have hp2:H2 p=some (.dK []):=g12 _ _ bn;refine⟨hp2,[(.inl i,v)],by rw[r1.int_inv];rfl,by show 1<=15;decide,kq p _ (fun b w z=>?_) hp ?_⟩
   ·rw[aN (aU z hp)];exact g12 _ _ ((aN (aU z hp)).trans z)
   ·refine⟨[v],.inl ⟨rfl,[(.inl i,v)],bn,rfl,rfl⟩,.cons (Den.fl (fun c xs z=>?_) y v hf r2) .nil⟩;have hc:c≠p:=fun z'=>by
     rw[z'] at z;have:=hide_le _ _ z;rw[hp2] at this;cases this
    have hos:c∉os:=fun y=>by rw[bX y] at z;cases z
    rw[aI (by simp[hos,hc]),aN hc];exact hide_le _ _ z
def wd {kvs:List (Key×V)}{j:Int}(h:((kvs.map fun p=>kD p.1).all fun q => !cP q (.int j))=true):fX kvs (.inl j)=none:=by
 cases hv:fX kvs (.inl j) with
 | none=>rfl
 | some v =>
   exfalso;unfold fX at hv;obtain⟨p,hp,_⟩:=Option.map_eq_some_iff.mp hv;have hm:=List.mem_of_find?_eq_some hp;have hk:=List.find?_some hp;simp only[decide_eq_true_eq] at hk;have:=List.all_eq_true.mp h (kD p.1) (List.mem_map.mpr ⟨p,hm,rfl⟩);rw[hk] at this;simp[kD,cP] at this
def zW {n i:Nat}{p5:Pos}(hu:X.A.units+1<cLine)(hn:X.N.length=n)(hi:i<n)(hfn:X.fn ""=true)(hv:PE X o (jp i))(hk:DE X k mk)(he:DE X e me)
 (hs:swapsWith e (some (.Subscript o k p5)) pos.line X.env=pure false:=by rfl):DS X PX (.Assign [.Subscript o k p5] e pos) (wK n i mk me):=by
 obtain⟨te,pe,qe⟩:=he;obtain⟨tk,pk,qk⟩:=hk;refine⟨_,zf hu hv pk pe hs,fun os σ H δ r D s m kq=>?_⟩;obtain⟨y,e1,m⟩:=aj m;obtain⟨z,e2,m⟩:=aj m;split at m
 ·rename_i ks vs j ho;split at m
  ·rename_i hc;cases m;refine qe os σ H δ y _ s e1 fun v H1 g1 r1=>?_;obtain⟨w1,w2,a,w3,w4,w5,xs,w6,w7⟩:=s.own_at hn hi ho;refine⟨_,w3,qk os σ H1 δ _ _ (s.mono g1) e2 fun u H2 g2 r2=>?_⟩;have g12:=g1.trans g2;rcases w6 with ⟨_,kvs,w6,rfl,rfl⟩ | ⟨z,_⟩
   ·have hlen:kvs.length<sizeLine:=by rw[di];have:=hc.2;simpa using this
    have hnew:=wd hc.1;refine⟨a,_,rfl,by rw[r2.int_inv];exact DPut.k (k:=.inl j) (g12 _ _ w6) hlen,?_⟩;rw[xa v hnew];obtain⟨s2,f2⟩:=(s.mono g12).chg (d':=.dic false (kvs.map (fun p=>kD p.1)++[.int j]) (vs++[y])) (o:=.dK (kvs++[(.inl j,v)])) hn hi hfn ho w3
     ⟨_,.inl ⟨rfl,_,bn,by simp[kD],rfl⟩,by rw[List.map_append];exact(w7.mono g12.hd _ _).append (.cons (r1.mono g2.hd _ _) .nil)⟩
    exact kq σ _ os ((Fr.of g12).trans f2) s2
   ·cases z
  ·cases m
 ·cases m
def EX {kvs:List (Key×V)}(j:Int):((kvs.map fun p=>kD p.1).any fun q=>cP q (.int j))=(fX kvs (.inl j)).isSome:=by
 rw[<-g9,List.any_map];refine congrArg (List.any kvs) (funext fun p=>?_);exact AF p.1 (.inl j)
def EW {kvs:List (List Key×V)}(z:List Key):((kvs.map fun p=>kT p.1).any fun q=>cP q (kT z))=(fX kvs z).isSome:=by
 rw[<-g9,List.any_map];refine congrArg (List.any kvs) (funext fun p=>?_);exact Dc p.1 z
def sS {K:PySem.W.Frag}{os:List Addr}{H:Hp}{a:Addr}{t:Bool}{ks vs:List D}{xs:List V}{z:D}{u:V}{b:Bool}(L:Live os H)(hd:DcAt H a t ks xs\/DcF H a t ks xs)(r:Den K (hide os H) z u)(m:BO (.dic t ks vs) z=some b):∃w,rP H a u w/\w.isSome=b:=by
 have rd:(t=false/\∃kvs:List (Key×V),Rd H a (.dK kvs)/\ks=kvs.map fun p=>kD p.1)\/t=true/\∃kvs:List (List Key×V),Rd H a (.dT kvs)/\ks=kvs.map fun p=>kT p.1:=by
  rcases hd with (⟨h1,kvs,h2,h3,_⟩ | ⟨h1,kvs,h2,h3,_⟩) | (⟨h1,o,kvs,h2,h3,_⟩ | ⟨h1,o,kvs,h2,h3,_⟩)
  ·exact .inl ⟨h1,kvs,.inl h2,h3⟩
  ·exact .inr ⟨h1,kvs,.inl h2,h3⟩
  ·exact .inl ⟨h1,kvs,.inr ⟨o,h2⟩,h3⟩
  ·exact .inr ⟨h1,kvs,.inr ⟨o,h2⟩,h3⟩
 rcases rd with ⟨rfl,kvs,h,rfl⟩ | ⟨rfl,kvs,h,rfl⟩
 ·cases z with
  | int i =>
    have m':some ((kvs.map fun p=>kD p.1).any fun q=>cP q (.int i))=some b:=m;rw[EX] at m';cases m';rw[r.int_inv];exact⟨fX kvs (.inl i),.inl ⟨kvs,.inl i,h,rfl,rfl⟩,rfl⟩
  | _=>cases m
 ·have m':(if sO z=true then some ((kvs.map fun p=>kT p.1).any fun q=>cP q z) else none)=some b:=by
   cases z <;> exact m
  split at m'
  ·rename_i hz;obtain⟨kk,rfl⟩:=zG hz;rw[EW] at m';cases m';obtain⟨c,bs,rfl,hb,hbs⟩:=r.tup_inv;have:=iU hbs;subst this;exact⟨fX kvs kk,.inr ⟨kvs,kk,c,h,rfl,hide_le _ _ hb,rfl⟩,rfl⟩
  ·cases m'
end
section
variable {X:Cx}{PX:Prop}{e a b k o:Expr}{me ma mb mk mo:ME}{pos p p2 p3 p4:Pos}
def zT {n i:Nat}(hu:X.A.units+1<cLine)(hn:X.N.length=n)(hi:i<n)(ha:DE X a ma)(hv:PE X o (jp i))(hmk:behindInMarks .NotIn o=false:=by rfl):DT X (.Compare a [.NotIn] [o] pos) (tV (BY n i true ma)):=by
 obtain⟨ta,pa,qa⟩:=ha;refine⟨_,xc (nW hu pa hv) hmk,fun os σ H δ z Q s m kq=>?_⟩;obtain⟨d,m1,m2⟩:=aj m;obtain⟨y,e1,m1⟩:=aj m1;obtain⟨dd,e2,m1⟩:=aj m1;obtain⟨c,e3,m1⟩:=aj m1;cases m1;cases m2;refine qa os σ H δ y _ s e1 fun u H1 g1 r1=>?_;obtain⟨h1,h2,a,w3,w4,w5,w6⟩:=(s.mono g1).own_at hn hi e2;cases dd with
 | dic t ks vs =>
   obtain⟨xs,w6,_⟩:=w6;obtain⟨w,w7,w8⟩:=sS (vs:=vs) (s.mono g1).live (.inl w6) r1 e3;exact⟨_,w3,a,w,rfl,w7,_,rfl,by rw[w8,<-Bool.bne_true];exact kq H1 g1⟩
 | _=>cases e3
def zU (hu:X.A.units+1<cLine)(ha:DE X a ma)(hb:DE X b mb)(hmk:behindInMarks .NotIn b=false:=by rfl):DT X (.Compare a [.NotIn] [b] pos) (tV (am (BA true) ma mb)):=by
 obtain⟨ta,pa,qa⟩:=ha;obtain⟨tb,pb,qb⟩:=hb;refine⟨_,xc (nW hu pa pb) hmk,fun os σ H δ z Q s m kq=>?_⟩;obtain⟨d,m1,m2⟩:=aj m;obtain⟨y,e1,m1⟩:=aj m1;obtain⟨dd,e2,m1⟩:=aj m1;obtain⟨c,e3,m1⟩:=aj m1;cases m1;cases m2;refine qa os σ H δ y _ s e1 fun u H1 g1 r1=>?_;refine qb os σ H1 δ dd _ (s.mono g1) e2 fun v H2 g2 r2=>?_;cases dd with
 | dic t ks vs =>
   obtain⟨a,xs,rfl,hF,_⟩:=r2.dic_inv;have hF':DcF H2 a t ks xs:=by
    rcases hF with ⟨q1,ob,kvs,q2,q3⟩ | ⟨q1,ob,kvs,q2,q3⟩
    ·exact .inl ⟨q1,ob,kvs,hide_le _ _ q2,q3⟩
    ·exact .inr ⟨q1,ob,kvs,hide_le _ _ q2,q3⟩
   obtain⟨w,w7,w8⟩:=sS (vs:=vs) ((s.mono g1).mono g2).live (.inr hF') (r1.mono g2.hd _ _) e3;exact⟨a,w,rfl,w7,_,rfl,by rw[w8,<-Bool.bne_true];exact kq H2 (g1.trans g2)⟩
 | _=>cases e3
end
section
variable {X:Cx}{PX:Prop}{e a b k o:Expr}{me ma mb mk mo:ME}{pos p p2 p3 p4:Pos}
end
section
variable {X:Cx}{PX:Prop}{e a b k o:Expr}{me ma mb mk mo:ME}{pos p p2 p3 p4:Pos}
noncomputable def EB (i:Int):Value->Bool
 | .int j _=>j==i
 | _=>false
def xD:EG X "list.index" (fun x vs H Q=>∃(l:Addr) (is:List Int) (i:Int),x=.ref l/\vs=[.int i]/\SqL X.K H l (is.map V.int)/\i∈is/\Q (.int (is.idxOf i:Nat)) H):=by
 intro pins s σ H x vs v us Q I rx rv h;obtain⟨l,is,i,rfl,rfl,hq,hi,q⟩:=h;cases rx;obtain⟨u,rfl,t,rfl⟩:=vals1 rv;obtain⟨its,r,⟨⟨c2,d2,dt2,sl2⟩,n2,e2,c2',d2',t2'⟩,hz⟩:=I.list hq;simp only at c2' d2' t2';subst c2' d2' t2';have hints:=intsAre_of r;have hlen:its.length=is.length:=IntsAre.length hints;have hat:∀(m:Nat) (hm:m<its.length),∃t',its[m]=.int (is[m]'(by omega)) t':=fun m hm=>by
  obtain⟨t',e⟩:=IntsAre.int_at hints m its[m] (List.getElem?_eq_getElem hm);exact⟨t',by rw[e];simp[show m<is.length by omega]⟩
 have hj:is.idxOf i<is.length:=List.idxOf_lt_length_of_mem hi;have hzz:its.length<=sizeLine:=by rw[hlen];rw[List.length_map] at hz;exact hz
 have hbig:sizeLine<2 ^ 63-1:=by rw[sizeLine_eq];decide
 refine call_meets PySem.F.slot_list_index ⟨_,e2,rfl⟩ PySem.F.entry_list_index (PySem.F.args_list_index_2 _ _)
  (SeqAt.list_indexAt l its.toArray n2 none sl2 (.int i t) (EB i) (is.idxOf i) (by simp;omega) (by omega) ?_ ?_) ⟨e2,fun y hy=>?_,⟨.int (is.idxOf i:Nat),H,I.tok _,⟨_,rfl⟩,q⟩⟩
 ·obtain⟨t',e'⟩:=hat (is.idxOf i) (by omega);simp only[List.getElem_toArray];rw[e'];simp[EB]
 ·intro m hm hlt;obtain⟨t',e'⟩:=hat m (by simpa using hm);simp only[List.getElem_toArray];rw[e'];have hz:(is[m]'(by simp at hm;omega)==i)=false:=List.not_of_lt_findIdx (p:=(·==i)) (show m<List.findIdx (·==i) is from hlt);exact hz
 ·obtain⟨m,hm,rfl⟩:=List.mem_iff_getElem.mp (by simpa using hy);obtain⟨t',e'⟩:=hat m hm;rw[e'];exact SeqAt.EqAt.int_int _ _ _ _
def rC (ho:DE X o mo)(he:DE X e me)(hb:attributeBase o "index" X.env (eval o X.env)=eval o X.env:=by rfl)
 (hf:((backTo p3 (starEach [e] X.env)).all (fun x => !x.1)&&(backToKw p3 (keywordEach [] X.env)).all (fun x=>x.1.isSome)&&decide ([e].length+([]:List Keyword).length+(if ([]:List Keyword).isEmpty then 0 else 1)<30))=true:=by rfl)
 (hl:(p2.endLine==p3.line)=true:=by rfl) (hs:starEach [e] X.env=(false,eval e X.env)::starEach [] X.env:=by rfl) (hpl:(backTo p3 (starEach [] X.env)).any (·.1)=false:=by rfl) :
 DE X (.Call (.Attribute o "index" p2) [e] [] p3) (am ja mo me):=by
 obtain⟨to,po,qo⟩:=ho;obtain⟨te,pe,qe⟩:=he;refine⟨_,uc PySem.F.plainAttrs_list PySem.F.slot_list_index PySem.F.type_list_index xD po (bN pe df hs) hb hf hl hs hpl,fun os σ H δ d Q s m k=>?_⟩;obtain⟨x,e1,m⟩:=aj m;obtain⟨y,e2,m⟩:=aj m;refine qo os σ H δ x _ s e1 fun v H1 g1 r1=>?_
 match x,y,e1,e2,m with
 | .lst ds,.int i,e1,e2,m =>
   obtain⟨is,m1,m⟩:=aj m;obtain⟨hi,m⟩:i∈is/\some (D.int (is.idxOf i:Nat))=some d:=by
    split at m
    ·rename_i h;exact⟨h,m⟩
    ·cases m
   cases m;obtain⟨l,xs,rfl,h1,d1⟩:=r1.lst_inv;refine⟨.inl ⟨rfl,xs,hide_le.seq h1⟩,qe os σ H1 δ _ _ (s.mono g1) e2 fun w H2 g2 r2=>?_⟩;rw[kn m1 d1] at h1;exact⟨l,is,i,rfl,by rw[r2.int_inv],(g2.hd.trans hide_le).seq h1,hi,k _ H2 (g1.trans g2) (.int _)⟩
end
section
variable {X:Cx}{PX:Prop}{e a b k o:Expr}{me ma mb mk mo:ME}{pos p p2 p3 p4:Pos}
end
section
variable {X:Cx}{scX sc:Scope}{NX N:List Str}{k n:Nat}{fv:List Nat}{PX:Prop}
end
section
variable {X:Cx}{scX sc:Scope}{NX N:List Str}{k:Nat}{fv:List Nat}
def tj {use:Option (Value->Sem Unit)}{QQ:Value->Shared->Prop}{tg iter:Expr}{lp:Pos}{pos:Pos}{mi:MI}{g:MG}{B:Ev->Ev}(hB:Blk X k fv B)(hc:X.calm=true)(S:bC scX sc NX N k fv)(hX:X.env.scope=scX)(hN:X.N=NX)(hi:DI X tg iter mi)(hbl:Below k g)
 (hb:∀C s H fp,DG (fV X sc N C s H fp) tg g)
 (hs:∀x,foldedSetIterable iter X.env x=pure x:=by intro _;rfl)
 {pins:List (Addr×Obj)} {s:Shared} {σ:L2.St} {H:Hp} {os:List Addr} {δ:Ev} {d:D} (I:Inv X pins σ H s) (sl:Sl X os H δ σ) (m:ij B mi g tT (bK ah) δ=some d)
 (fin:∀(Cc Dd:Addr) (s4:Shared) (Hd:Hp),(∀h',Heap.SameBut Cc s4.heap h'->Inv X pins σ Hd { s4 with heap:=h' })->(∃m,s4.heap.Ns Cc m)->ir X pins Hd Cc->Same H Hd->H Dd=none->(∃as:List Addr,d=.lst (List.replicate as.length (.lst []))/\Hd Dd=some (.lst (as.map V.ref))/\as.Nodup/\∀y∈as,Hd y=some (.lst [])/\H y=none) ->
  compPost (model X.prog X.w) X.A X.xe use QQ (.ref Dd) Cc (.ok .next) s4) :
 wpAny (model X.prog X.w) X.A (comprehension (.ListComp (.List [] lp) [⟨tg,iter,[],0⟩] sc pos) sc X.env (firstIterPos [⟨tg,iter,[],0⟩] pos) (newList []) (firstAsync [⟨tg,iter,[],0⟩]) (firstIter [⟨tg,iter,[],0⟩] X.env) use) QQ X.xe s:=by
 refine mV (os:=os) (H0:=H) (ifs:=[]) (mc:=tT) (me:=bK ah) hB hc S hX hN hi hbl (Nat.zero_le _) (fun H' ys vs=>∃as:List Addr,vs=as.map V.ref/\ys=List.replicate as.length (.lst [])/\as.Nodup/\∀y∈as,H' y=some (.lst [])/\H y=none) (fun _=>⟨[],rfl,rfl,List.nodup_nil,fun y h=>by cases h⟩) (fun g h=>?_) (fun h=>?_) (fun C s' H' fp=>⟨hb C s' H' fp,(show pX (fV X sc N C s' H' fp) [] tT from rfl),_,xq df,fun σ' H7 δ1 dd s1 g e=>?_⟩) hs I sl m fun Cc Dd s4 Hd a1 a2 a3 a4 a5 a6=>?_
 ·obtain⟨as,h1,h2,h3,h4⟩:=h;exact⟨as,h1,h2,h3,fun y hy=>⟨g _ _ (h4 y hy).1,(h4 y hy).2⟩⟩
 ·obtain⟨as,rfl,rfl,_⟩:=h;simp
 ·cases e;refine⟨Nat.zero_le _,fun p hp=>⟨aX hp _,?_⟩⟩;rintro _ _ ⟨as,rfl,rfl,nd,ha⟩;have n8:p∉as:=fun z=>by
   have:=(ha p z).1;rw[hp] at this;cases this
  refine⟨as++[p],by simp,by rw[List.length_append];exact(List.replicate_succ' ..).symm,List.nodup_append.mpr ⟨nd,by simp,fun x hx y hy=>by rw[List.mem_singleton] at hy;subst hy;exact fun z=>n8 (z ▸ hx)⟩,fun y hy=>?_⟩;rcases List.mem_append.mp hy with hy | hy
  ·exact⟨aX hp _ _ _ (ha y hy).1,(ha y hy).2⟩
  ·rw[List.mem_singleton.mp hy];exact⟨bn,g.free hp⟩
 ·obtain⟨H3,ys,vs,rfl,⟨as,rfl,rfl,nd,ha⟩,h2,rfl⟩:=a6;exact fin Cc Dd s4 _ a1 a2 a3 a4 a5 ⟨as,rfl,bn,nd,fun y hy=>⟨aX h2 _ _ _ (ha y hy).1,(ha y hy).2⟩⟩
end
structure Mat (H:Hp)(p:Addr)(as:List Addr)(rows:List (List Int)):Prop where
 top:H p=some (.lst (as.map V.ref))
 nd:as.Nodup
 len:as.length=rows.length
 at_:∀(j:Nat) (a:Addr) (r:List Int),as[j]? = some a->rows[j]? = some r->H a=some (.lst (r.map V.int))
def Mat.mono {H H':Hp}{p:Addr}{as:List Addr}{rows:List (List Int)}(m:Mat H p as rows)(g:Same H H'):Mat H' p as rows:=⟨g _ _ m.top,m.nd,m.len,fun j a r h1 h2=>g _ _ (m.at_ j a r h1 h2)⟩
def Mat.ne {H:Hp}{p a:Addr}{as:List Addr}{rows:List (List Int)}{j:Nat}(m:Mat H p as rows)(h:as[j]? = some a):p≠a:=fun z=>by
 have hj:j<rows.length:=by rw[<-m.len];exact(List.getElem?_eq_some_iff.mp h).1
 have e:=m.at_ j a rows[j] h (List.getElem?_eq_getElem hj);rw[<-z,m.top] at e;have e2:as.map V.ref=rows[j].map V.int:=by injection e with e;injection e
 have:V.ref a∈rows[j].map V.int:=e2 ▸ List.mem_map.mpr ⟨a,List.mem_of_getElem? h,rfl⟩;obtain⟨_,_,q⟩:=List.mem_map.mp this;cases q
def Mat.app {H:Hp}{p a:Addr}{as:List Addr}{rows:List (List Int)}{j:Nat}{r:List Int}(m:Mat H p as rows)(h:as[j]? = some a)(hr:rows[j]? = some r)(n:Int):Mat (cr H a (.lst (r.map V.int++[.int n]))) p as (rows.set j (r++[n])):=by
 refine⟨(aN (m.ne h)).trans m.top,m.nd,by rw[List.length_set];exact m.len,fun i b q h1 h2=>?_⟩;have hj:j<rows.length:=(List.getElem?_eq_some_iff.mp hr).1;by_cases hij:i=j
 ·subst hij;rw[h] at h1;cases h1;rw[List.getElem?_set_self hj] at h2;cases h2;rw[bn,List.map_append];rfl
 ·rw[List.getElem?_set_ne (Ne.symm hij)] at h2;have hb:b≠a:=fun z=>hij (by
   subst z;have l1:=(List.getElem?_eq_some_iff.mp h1);have l2:=(List.getElem?_eq_some_iff.mp h);exact sI m.nd l1.1 l2.1 (l1.2.trans l2.2.symm))
  rw[aN hb];exact m.at_ i b q h1 h2
structure Lay (X:Cx)(os:List Addr)(p:Addr)(as:List Addr)(H:Hp)(δ:Ev)(σ:L2.St)(rows:List (List Int)):Prop where
 sl:Sl X (p::(as++os)) H δ σ
 mt:Mat H p as rows
 s2:σ[2]? = some (some (.ref p))
 six:σ.length=6
 d6:δ.length=6
 d2:δ[2]? = some none
 nu:∀y∈p::as,X.H₀ y=none
section
variable {X:Cx}{os:List Addr}{p:Addr}{as:List Addr}{H H':Hp}{δ:Ev}{σ:L2.St}{rows:List (List Int)}
def Lay.mono (h:Lay X os p as H δ σ rows)(g:Same H H'):Lay X os p as H' δ σ rows:=⟨h.sl.mono g,h.mt.mono g,h.s2,h.six,h.d6,h.d2,h.nu⟩
def Lay.set (h:Lay X os p as H δ σ rows)(hN:X.N.length=6){i:Nat}{d:D}{v:V}(hi:i<6)(h2:i≠2)(r:Den X.K (hide (p::(as++os)) H) d v):Lay X os p as H (δ.set i (some d)) (σ.set i (some v)) rows :=
 ⟨h.sl.set i (by rw[hN];exact hi) r,h.mt,by rw[List.getElem?_set_ne h2];exact h.s2,by rw[List.length_set];exact h.six,by rw[List.length_set];exact h.d6,by rw[List.getElem?_set_ne h2];exact h.d2,h.nu⟩
def Lay.app (h:Lay X os p as H δ σ rows)(hN:X.N.length=6){j:Nat}{a:Addr}{r:List Int}(ha:as[j]? = some a)(hr:rows[j]? = some r)(n:Int) :
 Lay X os p as (cr H a (.lst (r.map V.int++[.int n]))) δ σ (rows.set j (r++[n]))/\hide (p::(as++os)) (cr H a (.lst (r.map V.int++[.int n])))=hide (p::(as++os)) H:=by
 have ma:a∈p::(as++os):=List.mem_cons_of_mem _ (List.mem_append_left _ (List.mem_of_getElem? ha));have hd:hide (p::(as++os)) (cr H a (.lst (r.map V.int++[.int n])))=hide (p::(as++os)) H:=by
  funext b
  by_cases hb:b∈p::(as++os)
  ·rw[bX hb,bX hb]
  ·rw[aI hb,aI hb,aN (fun z:b=a=>hb (by rw[z];exact ma))]
 have h0:X.H₀ a=none:=h.nu a (List.mem_cons_of_mem _ (List.mem_of_getElem? ha));refine⟨⟨⟨h.sl.n,h.sl.len,fun i d hi q=>?_,fun i d hi q1 q2=>?_,fun i k d e b hi hk q1 q2 q3=>?_,fun b hb=>?_,fun b u e=>?_⟩,h.mt.app ha hr n,h.s2,h.six,h.d6,h.d2,h.nu⟩,hd⟩
 ·rw[hd];exact h.sl.pl i d hi q
 ·rw[List.getElem?_eq_none (by rw[h.d6,hN];omega)] at q2;cases q2
 ·rw[List.getElem?_eq_none (by rw[h.d6,hN];omega)] at q3;cases q3
 ·by_cases hba:b=a
  ·subst hba;exact⟨_,bn,True.intro⟩
  ·obtain⟨u,e,q⟩:=h.sl.live b hb;exact⟨u,(aN hba).trans e,q⟩
 ·rw[aN (aU e h0)];exact h.sl.keep b u e
def rN (rows:List (List Int))(n c:Int)(cs:List Int):cn rows n (cs++[c])=(cn rows n cs).set c.toNat ((cn rows n cs).getD c.toNat []++[n]):=by
 unfold cn;rw[List.foldl_append];rfl
def fw (n:Int):∀(cs:List Int) (rows:List (List Int)),(cn rows n cs).length=rows.length
 | [],_=>rfl
 | c::cs,rows=>by
   show (cn (rows.set _ _) n cs).length=_;rw[fw n cs,List.length_set]
def jW (n:Int){B:Nat}:∀(cs:List Int) (rows:List (List Int)),(∀r∈rows,r.length+cs.length<=B)->∀r∈cn rows n cs,r.length<=B
 | [],rows,h,r,hr=>h r hr
 | c::cs,rows,h,r,hr=>by
   refine jW n cs (rows.set c.toNat (rows.getD c.toNat []++[n])) (fun q hq=>?_) r hr;rcases List.mem_or_eq_of_mem_set hq with z | z
   ·have:=h q z;simp only[List.length_cons] at this;omega
   ·rw[z,List.length_append,List.length_singleton];by_cases hc:c.toNat<rows.length
    ·have:=h _ (List.getElem_mem hc);simp only[List.length_cons] at this;simp[List.getD_eq_getElem?_getD,hc];omega
    ·have:rows.getD c.toNat []=[]:=by simp[List.getD_eq_getElem?_getD,Nat.not_lt.mp hc]
     rw[this];by_cases hz:c.toNat<rows.length
     ·exact absurd hz hc
     ·rw[List.set_eq_of_length_le (Nat.not_lt.mp hz)] at hq;have:=h q hq;simp only[List.length_cons] at this;simp;omega
end
section
variable {X:Cx}{scX sc:Scope}{NX N:List Str}{k:Nat}{fv:List Nat}{PX:Prop}
noncomputable def AZ (X:Cx)(i:Nat)(m:ME):TS:=fun D σ H=>∃os δ d,Sl X os H δ σ/\m δ=some d/\∀(p:Addr) (H':Hp) (as:List Addr),Same H H'->H p=none->d=.lst (List.replicate as.length (.lst []))->H' p=some (.lst (as.map V.ref))->as.Nodup->(∀y∈as,H' y=some (.lst [])/\H y=none)->D.nx (σ.set i (some (.ref p))) H'
def xj {x:Str}{p2 spos lp:Pos}{i:Nat}{tg iter:Expr}{pos:Pos}{mi:MI}{g:MG}{B:Ev->Ev}(hB:Blk X k fv B)(hc:X.calm=true)(S:bC scX sc NX N k fv)(hX:X.env.scope=scX)(hN:X.N=NX)(hi:DI X tg iter mi)(hbl:Below k g)
 (hb:∀C s H fp,DG (fV X sc N C s H fp) tg g) (hpg:PG X (.Name x p2) (gb i))
 (hsw:swapsWith (.ListComp (.List [] lp) [⟨tg,iter,[],0⟩] sc pos) (some (.Name x p2)) spos.line X.env=pure true) (hs:∀x,foldedSetIterable iter X.env x=pure x) :
 PS X (.Assign [.Name x p2] (.ListComp (.List [] lp) [⟨tg,iter,[],0⟩] sc pos) spos) (AZ X i (ij B mi g tT (bK ah))):=by
 intro pins s σ H D I h;obtain⟨os,δ,d,sl,m,kq⟩:=h;rw[exec_Assign_Name_used _ _ _ _ hsw];refine wpAny_bind (wpAny_standAt (wpAny_bind ?_));refine wpAny_bind (m:=comprehension (.ListComp (.List [] lp) [⟨tg,iter,[],0⟩] sc pos) sc X.env (firstIterPos [⟨tg,iter,[],0⟩] pos) (newList []) (firstAsync [⟨tg,iter,[],0⟩]) (firstIter [⟨tg,iter,[],0⟩] X.env) (some (assign (.Name x p2) X.env))) (tj (use:=some (assign (.Name x p2) X.env)) hB hc S hX hN hi hbl hb hs I sl m fun Cc Dd s4 Hd hI hns hf gs hn ow=>?_);obtain⟨mm,o,es,ep,ho,hr⟩:=hns;obtain⟨as,o1,o2,o3,o4⟩:=ow;have J:Inv X pins σ Hd s4:=hI s4.heap (Heap.SameBut.refl _ _);have hnc:∀v,o.data≠.cell v:=fun v z=>by
  rw[hr.1] at z;cases z
 have J':=J.pinned (fp:=[Cc]) (fun b hb=>by rw[List.mem_singleton.mp hb];exact hf) (fun b hb=>by rw[List.mem_singleton.mp hb];exact⟨o,ho,hnc⟩);refine wpAny_mono (hpg _ s4 σ Hd (.ref Dd) (.ref Dd) (fun σ' H'=>D.nx σ' H') J' rfl (kq Dd Hd as gs hn o1 o2 o3 o4)) (fun _ s5 q=>?_) fun _ _ z=>z;obtain⟨σ',H',J5,q5⟩:=q;have pin:=J5.pin (Cc,o) (List.mem_append_right _ (List.mem_append_right _ (cB (by simp) ho)));refine⟨mm,⟨o,es,ep,pin.1,hr⟩,fun h' sb=>wpAny_pure (wpAny_pure ?_)⟩;have J6:=J5.unpinned;exact⟨σ',H',J6.turned (it:=Cc) (h':=h') (t':=s5.toks) (fun b ob hb e=>(sb.2 b hb).trans e) pin.2.1 hf.2.1 hf.2.2.2.1 hf.2.2.2.2.1 hf.2.2.2.2.2,q5⟩
end
section
variable {X:Cx}{os:List Addr}{p:Addr}{as:List Addr}{PX:Prop}
def wy (K:PySem.W.Frag):TS:=Ak (Ey K "list" tY (Cm (CV K) (jp 2) (jp 5)) (Al (jp 3) CF))
def yG {H:Hp}{δ:Ev}{σ:L2.St}{rows:List (List Int)}{n c:Int}{D:Ends}(h:Lay X os p as H δ σ rows)(hN:X.N.length=6)(h3:σ[3]? = some (some (.int n)))(h5:σ[5]? = some (some (.int c)))(c0:0<=c)(c1:c<rows.length)(hs:∀r∈rows,r.length<=1000000)
 (k:∀H',Lay X os p as H' δ σ (rows.set c.toNat (rows.getD c.toNat []++[n]))->hide (p::(as++os)) H'=hide (p::(as++os)) H->D.nx σ H'):wy X.K D σ H:=by
 have hj:c.toNat<rows.length:=by omega
 have ha:c.toNat<as.length:=by rw[h.mt.len];exact hj
 have ea:as[c.toNat]? = some as[c.toNat]:=List.getElem?_eq_getElem ha;have er:rows[c.toNat]? = some rows[c.toNat]:=List.getElem?_eq_getElem hj;have hat:=h.mt.at_ _ _ _ ea er;have hg:rows.getD c.toNat []=rows[c.toNat]:=by simp[List.getD_eq_getElem?_getD,hj]
 obtain⟨l1,l2⟩:=h.app hN ea er n;have hix:Cq (as.map V.ref).length c=some c.toNat:=by
  unfold Cq;rw[List.length_map,if_pos c0,if_pos (by rw[h.mt.len];omega)]
 refine⟨_,h.s2,_,h5,p,as.map V.ref,c,.ref as[c.toNat],rfl,rfl,.of h.mt.top,by unfold Ct;rw[hix];simp[ea],.inl ⟨rfl,_,.of hat⟩,_,h3,as[c.toNat],rows[c.toNat].map V.int,.int n,rfl,rfl,hat,?_,?_⟩
 ·rw[List.length_map,di];have:=hs _ (List.getElem_mem hj);omega
 ·exact k _ (by rw[hg];exact l1) l2
end
def oo:∀{ds:List D} {cs:List Int},intsOf ds=some cs->ds=cs.map DL.D.int
 | [],cs,h=>by cases h;rfl
 | .int i::ds,cs,h=>by
   obtain⟨q,h1,h2⟩:=Option.bind_eq_some_iff.mp h;cases h2;rw[oo h1];rfl
section
variable {X:Cx}{os:List Addr}{p:Addr}{as:List Addr}{PX:Prop}{fn:MF}{wi wi2:TI}
def sR {H:Hp}{δ:Ev}{σ:L2.St}{rows:List (List Int)}{n:Int}{es pc:D}{ds:List D}{cs:List Int}{D:Ends}(hN:X.N.length=6)
 (qi:∀os σ H δ xs R,Sl X os H δ σ->bz (ag fn (ab (ac 4) (ab (ac 1) ah))) δ=some xs->(∀J H',Same H H'->Walk X.K J (hide os H') xs->R J H')->wi2 σ H R)
 (h:Lay X os p as H δ σ rows) (d1:δ[1]? = some (some es)) (d4:δ[4]? = some (some pc)) (h3:σ[3]? = some (some (.int n))) (hf:fn [pc,es]=some (.lst ds)) (hc:intsOf ds=some cs)
 (h1:∀c∈cs,0<=c/\c<rows.length) (h2:∀r∈rows,r.length+cs.length<=1000000)
 (k:∀H' σ' δ',Lay X os p as H' δ' σ' (cn rows n cs)->Same (hide (p::(as++os)) H) (hide (p::(as++os)) H')->(∀j,j≠5->δ'[j]? = δ[j]?)->D.nx σ' H') :
 yP wi2 (gb 5) (wy X.K) D σ H:=by
 have hds:=oo hc;subst hds;have e1:ac 1 δ=some es:=by unfold ac slot;rw[d1];rfl
 have e4:ac 4 δ=some pc:=by unfold ac slot;rw[d4];rfl
 have hm:bz (ag fn (ab (ac 4) (ab (ac 1) ah))) δ=some (cs.map DL.D.int):=by
  unfold bz;rw[av e4 e1,hf];rfl
 refine qi _ σ H δ _ _ h.sl hm fun J H1 g1 wk=>?_;refine⟨fun i m σ2 H2=>m=cs.length-i/\i<=cs.length/\∃δ2,Lay X os p as H2 δ2 σ2 (cn rows n (cs.take i))/\Same (hide (p::(as++os)) H1) (hide (p::(as++os)) H2)/\(∀j,j≠5->δ2[j]? = δ[j]?)/\σ2[3]? = some (some (.int n)),
  ⟨cs.length,by simp,Nat.zero_le _,δ,h.mono g1,Same.refl _,fun _ _=>rfl,h3⟩,?_⟩
 rintro i m σ2 H2 ⟨rfl,hi,δ2,L2,g2,hd,s3⟩;obtain⟨w1,w2⟩:=wk i _ H2 L2.sl.live g2;by_cases hlt:i<cs.length
 ·have hx:(cs.map DL.D.int)[i]? = some (.int cs[i]):=by rw[List.getElem?_map,List.getElem?_eq_getElem hlt];rfl
  obtain⟨go,yl⟩:=w1 _ hx;refine .inr ⟨go,fun σ' H'=>∃δ2,Lay X os p as H' δ2 σ' (cn rows n (cs.take (i+1)))/\Same (hide (p::(as++os)) H1) (hide (p::(as++os)) H')/\(∀j,j≠5->δ2[j]? = δ[j]?)/\σ'[3]? = some (some (.int n)),fun σ' H' q=>⟨cs.length-(i+1),by omega,rfl,hlt,q⟩,fun x H3 y=>?_⟩;obtain⟨g3,r⟩:=yl x H3 y;have hx3:=r.int_inv;subst hx3;have L3:=(L2.mono g3).set hN (i:=5) (by decide) (by decide) r;have hl:(cn rows n (cs.take i)).length=rows.length:=fw n _ _;obtain⟨c0,c1⟩:=h1 cs[i] (List.getElem_mem hlt);have et:cs.take (i+1)=cs.take i++[cs[i]]:=by rw[List.take_succ,List.getElem?_eq_getElem hlt];rfl
  refine yG L3 hN (by rw[List.getElem?_set_ne (by decide)];exact s3) (by rw[List.getElem?_set_self (by rw[L2.six];decide)]) c0 (by rw[hl];exact c1) (fun r hr=>jW n (cs.take i) rows (fun q hq=>by have:=h2 q hq;rw[List.length_take];omega) r hr) fun H4 L4 e4=>?_;refine⟨δ2.set 5 (some (.int cs[i])),by rw[et,rN];exact L4,g2.trans ((g3.hd).trans (by rw[e4];exact Same.refl _)),fun j hj=>by rw[List.getElem?_set_ne (Ne.symm hj)];exact hd j hj,by rw[List.getElem?_set_ne (by decide)];exact s3⟩
 ·have e:i=cs.length:=by omega
  subst e;rw[List.take_length] at L2;exact .inl ⟨w2 (by rw[List.length_map]),k H2 σ2 δ2 L2 (g1.hd.trans g2) hd⟩
def Di (K:PySem.W.Frag):TG:=Dj K 2 (ya (gb 3) (ya (gb 4) Dk))
def sC {H:Hp}{δ:Ev}{σ:L2.St}{rows fin:List (List Int)}{es:List D}{ps:List D}{D:Ends}(hN:X.N.length=6)
 (qo:∀os σ H δ xs R,Sl X os H δ σ->mH (ac 0) δ=some xs->(∀J H',Same H H'->Walk X.K J (hide os H') xs->R J H')->wi σ H R)
 (qi:∀os σ H δ xs R,Sl X os H δ σ->bz (ag fn (ab (ac 4) (ab (ac 1) ah))) δ=some xs->(∀J H',Same H H'->Walk X.K J (hide os H') xs->R J H')->wi2 σ H R)
 (h:Lay X os p as H δ σ rows) (d0:δ[0]? = some (some (.tup ps))) (d1:δ[1]? = some (some (.lst es))) (hl:nG fn (.lst es) 0 ps rows=some fin)
 (k:∀H' σ' δ',Lay X os p as H' δ' σ' fin->Same (hide (p::(as++os)) H) (hide (p::(as++os)) H')->δ'[0]? = some (some (.tup ps))->δ'[1]? = some (some (.lst es))->D.nx σ' H') :
 yP wi (Di X.K) (yP wi2 (gb 5) (wy X.K)) D σ H:=by
 have hm:mH (ac 0) δ=some (cS 0 ps):=by
  unfold mH ac slot;rw[d0];rfl
 refine qo _ σ H δ _ _ h.sl hm fun J H1 g1 wk=>?_;refine⟨fun i m σ2 H2=>m=ps.length-i/\i<=ps.length/\∃δ2 rows2,Lay X os p as H2 δ2 σ2 rows2/\Same (hide (p::(as++os)) H1) (hide (p::(as++os)) H2)/\δ2[0]? = some (some (.tup ps))/\δ2[1]? = some (some (.lst es))/\nG fn (.lst es) i (ps.drop i) rows2=some fin,
  ⟨ps.length,by simp,Nat.zero_le _,δ,rows,h.mono g1,Same.refl _,d0,d1,hl⟩,?_⟩
 rintro i m σ2 H2 ⟨rfl,hi,δ2,rows2,L2,g2,f0,f1,hl2⟩;obtain⟨w1,w2⟩:=wk i _ H2 L2.sl.live g2;by_cases hlt:i<ps.length
 ·have hx:(cS 0 ps)[i]? = some (.tup [.int (i:Nat),ps[i]]):=by
   have hi':i<(cS 0 ps).length:=by rw[iA];exact hlt
   obtain⟨e,e1,e2⟩:=mN ps 0 i _ (List.getElem?_eq_getElem hi');rw[List.getElem?_eq_getElem hlt] at e1;cases e1;rw[List.getElem?_eq_getElem hi',e2,Nat.zero_add]
  obtain⟨go,yl⟩:=w1 _ hx;rw[List.drop_eq_getElem_cons hlt,nG] at hl2;obtain⟨d,f2,hl2⟩:=aj hl2
  match d,f2,hl2 with
  | .lst ds,f2,hl2 =>
    obtain⟨cs,f3,hl2⟩:=aj hl2;split at hl2
    ·rename_i hb;have b1:∀c∈cs,0<=c/\c<rows2.length:=fun c hc=>by
      have:=List.all_eq_true.mp hb.1 c hc;simpa using this
     have b2:∀r∈rows2,r.length+cs.length<=1000000:=fun r hr=>by
      have:=List.all_eq_true.mp hb.2 r hr;simpa using this
     refine .inr ⟨go,fun σ' H'=>∃δ2 rows2,Lay X os p as H' δ2 σ' rows2/\Same (hide (p::(as++os)) H1) (hide (p::(as++os)) H')/\δ2[0]? = some (some (.tup ps))/\δ2[1]? = some (some (.lst es))/\nG fn (.lst es) (i+1) (ps.drop (i+1)) rows2=some fin,fun σ' H' q=>⟨ps.length-(i+1),by omega,rfl,hlt,q⟩,fun x H3 y=>?_⟩;obtain⟨g3,r⟩:=yl x H3 y;obtain⟨t,vs,rfl,ht,dv⟩:=r.tup_inv;obtain⟨v0,r0,rfl,hv0,dv⟩:=dv.uncons;obtain⟨v1,r1,rfl,hv1,dv⟩:=dv.uncons;have:=dv.unnil;subst this;have hv0':=hv0.int_inv;subst hv0';refine⟨t,_,rfl,.of (hide_le _ _ ht),rfl,_,_,rfl,_,_,rfl,rfl,?_⟩;have L3:=((L2.mono g3).set hN (i:=3) (by decide) (by decide) hv0).set hN (i:=4) (by decide) (by decide) hv1;refine sR hN qi L3 (es:=.lst es) (pc:=ps[i]) (n:=(i:Nat)) (cs:=cs) (ds:=ds) (by rw[List.getElem?_set_ne (by decide),List.getElem?_set_ne (by decide)];exact f1) (by rw[List.getElem?_set_self (by rw[List.length_set,L2.d6];decide)])
      (by rw[List.getElem?_set_ne (by decide),List.getElem?_set_self (by rw[L2.six];decide)]) f2 f3 b1 b2 fun H4 σ4 δ4 L4 g4 hd=>?_
     refine⟨δ4,_,L4,g2.trans (g3.hd.trans g4),?_,?_,hl2⟩
     ·rw[hd 0 (by decide),List.getElem?_set_ne (by decide),List.getElem?_set_ne (by decide)];exact f0
     ·rw[hd 1 (by decide),List.getElem?_set_ne (by decide),List.getElem?_set_ne (by decide)];exact f1
    ·cases hl2
 ·have e:i=ps.length:=by omega
  subst e;rw[List.drop_length] at hl2;cases hl2;exact .inl ⟨w2 (by rw[iA]),k H2 σ2 δ2 L2 (g1.hd.trans g2) f0 f1⟩
end
section
variable {X:Cx}{scX sc:Scope}{NX N:List Str}{k:Nat}{fv:List Nat}{PX:Prop}
def xl {o i e:Expr}{p2 p3 p4 p5:Pos}(h2:PE X o (jp 2))(h5:PE X i (jp 5))(h3:PE X e (jp 3))(hix:pW i)(hb:attributeBase (.Subscript o i p5) "append" X.env (eval (.Subscript o i p5) X.env)=eval (.Subscript o i p5) X.env:=by rfl)
 (hf:((backTo p3 (starEach [e] X.env)).all (fun x => !x.1)&&(backToKw p3 (keywordEach [] X.env)).all (fun x=>x.1.isSome)&&decide ([e].length+([]:List Keyword).length+(if ([]:List Keyword).isEmpty then 0 else 1)<30))=true:=by rfl)
 (hl:(p2.endLine==p3.line)=true:=by rfl) (hs:starEach [e] X.env=(false,eval e X.env)::starEach [] X.env:=by rfl) (hpl:(backTo p3 (starEach [] X.env)).any (·.1)=false:=by rfl) :
 PS X (.Expr (.Call (.Attribute (.Subscript o i p5) "append" p2) [e] [] p3) p4) (wy X.K) :=
 oX (uc PySem.F.plainAttrs_list PySem.F.slot_list_append PySem.F.type_list_append n9 (Ay ix_list h2 h5 hix) (bN h3 df hs) hb hf hl hs hpl)
def sY {x:Str}{p2 spos lp pos pos1 pos2:Pos}{tg iter tgO iterO tgI iterI:Expr}{stA:Stmt}{rest:List Stmt}{mi:MI}{g:MG}{fn:MF}{m:MS}(h6:X.N.length=6)(hp:PassesOwn (model X.prog X.w) X.A X.env X.xe)(hc:X.calm=true)(S:bC scX sc NX N k fv)(hX:X.env.scope=scX)(hN:X.N=NX)(hi:DI X tg iter mi)(hbl:Below k g)
 (hb:∀C s H fp,DG (fV X sc N C s H fp) tg g) (hpg:PG X (.Name x p2) (gb 2)) (hiO:DI X tgO iterO (mH (ac 0))) (hgO:PG X tgO (Di X.K)) (hiI:DI X tgI iterI (bz (ag fn (ab (ac 4) (ab (ac 1) ah))))) (hgI:PG X tgI (gb 5)) (hA:PS X stA (wy X.K)) (hr:rO X PX rest m)
 (hsw:swapsWith (.ListComp (.List [] lp) [⟨tg,iter,[],0⟩] sc pos) (some (.Name x p2)) spos.line X.env=pure true:=by rfl) (hs:∀x,foldedSetIterable iter X.env x=pure x:=by intro _;rfl)
 (hsO:∀x,foldedSetIterable iterO X.env x=pure x:=by intro _;rfl) (hsI:∀x,foldedSetIterable iterI X.env x=pure x:=by intro _;rfl) :
 rO X PX (.Assign [.Name x p2] (.ListComp (.List [] lp) [⟨tg,iter,[],0⟩] sc pos) spos::.For tgO iterO [.For tgI iterI [stA] [] pos1] [] pos2::rest) (jx (bw k fv mi g tT (bK ah)) fn m):=by
 obtain⟨wO,pO,qO⟩:=hiO;obtain⟨wI,pI,qI⟩:=hiI;obtain⟨t',p',q'⟩:=hr;refine⟨_,jA (xj m5 hc S hX hN hi hbl hb hpg hsw hs) (jA (sw hp hc pO hgO (lh (sw hp hc pI hgI (lh hA) hsI)) hsO) p'),fun os σ H δ r D s me kq=>?_⟩;unfold jx at me;split at me
 ·rename_i ps es;obtain⟨c,e1,me⟩:=aj me
  match c,e1,me with
  | .lst cs,e1,me =>
    have me':(if cs.length<=1000000 then (nG fn (.lst es) 0 ps (List.replicate cs.length [])).bind fun rows=>m [some (.tup ps),some (.lst es),some (qx rows),none,none,none] else none)=some r:=me;by_cases hcs:cs.length<=1000000
    ·rw[if_pos hcs] at me';obtain⟨rows,e2,me⟩:=aj me';refine⟨os,_,_,s,e1,fun p H1 as g1 hp1 hd htop hnd has=>?_⟩;have hlen:cs.length=as.length:=by
      injection hd with hd;rw[hd,List.length_replicate]
     have fresh:∀y∈p::as,H y=none:=fun y hy=>by
      rcases List.mem_cons.mp hy with z | z
      ·rw[z];exact hp1
      ·exact(has y z).2
     have big:Same (hide os H) (hide (p::(as++os)) H1):=fun b o z=>by
      have hb':b∉os:=fun y=>by rw[bX y] at z;cases z
      rw[aI hb'] at z;have hn:b∉p::(as++os):=fun y=>by
       rcases List.mem_cons.mp y with y | y
       ·rw[y,hp1] at z;cases z
       ·rcases List.mem_append.mp y with y | y
        ·rw[(has b y).2] at z;cases z
        ·exact hb' y
      rw[aI hn];exact g1 _ _ z
     have hsn:σ.length=6:=by rw[s.n];exact h6
     have L:Lay X os p as H1 [some (.tup ps),some (.lst es),none,none,none,none] (σ.set 2 (some (.ref p))) (List.replicate cs.length []):=by
      refine⟨⟨by rw[List.length_set];exact s.n,by rw[h6];exact Nat.le_refl 6,fun i d hi q=>?_,fun i d hi q1 q2=>?_,fun i j d e b hi hj q1 q2 q3=>?_,fun b hb'=>?_,s.keep.trans g1⟩,⟨htop,hnd,by rw[List.length_replicate];exact hlen.symm,fun j a r' q1 q2=>?_⟩,by rw[List.getElem?_set_self (by omega)],by rw[List.length_set];exact hsn,rfl,rfl,fun y hy=>s.keep.free (fresh y hy)⟩
      ·have h2:i≠2:=fun z=>by subst z;cases q
       obtain⟨v,v1,v2⟩:=s.pl i d hi q;exact⟨v,by rw[List.getElem?_set_ne (Ne.symm h2)];exact v1,v2.mono big _ _⟩
      ·rw[List.getElem?_eq_none (by rw[h6];show 6<=6+i;omega)] at q2;cases q2
      ·rw[List.getElem?_eq_none (by rw[h6];show 6<=6+i;omega)] at q3;cases q3
      ·rcases List.mem_cons.mp hb' with y | y
       ·rw[y];exact⟨_,htop,True.intro⟩
       ·rcases List.mem_append.mp y with y | y
        ·exact⟨_,(has b y).1,True.intro⟩
        ·obtain⟨u,e,q⟩:=s.live b y;exact⟨u,g1 _ _ e,q⟩
      ·have hr0:r'=[]:=by
        rw[List.getElem?_replicate] at q2;split at q2
        ·cases q2;rfl
        ·cases q2
       subst hr0;exact(has a (List.mem_of_getElem? q1)).1
     refine sC h6 qO qI L rfl rfl e2 fun H2 σ2 δ2 L2 g2 f0 f1=>?_;have np:∀y∈p::as,y∉os:=fun y hy z=>by
      obtain⟨u,e,_⟩:=s.live y z;rw[fresh y hy] at e;cases e
     have less:Same (hide (p::(as++os)) H2) (hide os H2):=fun b o z=>by
      have hn:b∉p::(as++os):=fun y=>by rw[bX y] at z;cases z
      rw[aI hn] at z;rw[aI (fun y=>hn (List.mem_cons_of_mem _ (List.mem_append_right _ y)))];exact z
     refine q' os σ2 H2 [some (.tup ps),some (.lst es),some (qx rows),none,none,none] r D ⟨L2.sl.n,by rw[h6];exact Nat.le_refl 6,fun i d hi q=>?_,fun i d hi q1 q2=>?_,fun i j d e b hi hj q1 q2 q3=>?_,fun b hb'=>L2.sl.live b (List.mem_cons_of_mem _ (List.mem_append_right _ hb')),L2.sl.keep⟩ me (kq.mono ⟨(big.trans g2).trans less,fun b hb' _=>hb'⟩)
     ·by_cases i0:i=0
      ·subst i0;cases q;obtain⟨v,v1,v2⟩:=L2.sl.pl 0 _ hi f0;exact⟨v,v1,v2.mono less _ _⟩
      ·by_cases i1:i=1
       ·subst i1;cases q;obtain⟨v,v1,v2⟩:=L2.sl.pl 1 _ hi f1;exact⟨v,v1,v2.mono less _ _⟩
       ·by_cases i2:i=2
        ·subst i2;cases q;refine⟨_,L2.s2,.lst (.of ((aI (np p List.mem_cons_self)).trans L2.mt.top)) ?_⟩;have key:∀(l:List Addr) (rs:List (List Int)),l.length=rs.length->(∀y∈l,y∉os)->(∀(j:Nat) (a:Addr) (r:List Int),l[j]? = some a->rs[j]? = some r->H2 a=some (.lst (r.map V.int)))->Dens X.K (hide os H2) (rs.map fun r=>.lst (r.map DL.D.int)) (l.map V.ref):=fun l=>by
          induction l with
          | nil =>
            intro rs hl _ _;cases rs with
            | nil=>exact .nil
            | cons _ _=>cases hl
          | cons a l ih =>
            intro rs hl hn hat;cases rs with
            | nil=>cases hl
            | cons r0 rs =>
              exact .cons (.lst (.of ((aI (hn a List.mem_cons_self)).trans (hat 0 a r0 rfl rfl))) (Dens.ints r0)) (ih rs (by simpa using hl) (fun y hy=>hn y (List.mem_cons_of_mem _ hy)) fun j a' r' q1 q2=>hat (j+1) a' r' (by simpa using q1) (by simpa using q2))
         exact key as rows L2.mt.len (fun y hy=>np y (List.mem_cons_of_mem _ hy)) L2.mt.at_
        ·exfalso
         match i,i0,i1,i2,q with
         | 3,_,_,_,q=>cases q
         | 4,_,_,_,q=>cases q
         | 5,_,_,_,q=>cases q
         | i+6,_,_,_,q=>rw[h6] at hi;omega
     ·rw[List.getElem?_eq_none (by rw[h6];show 6<=6+i;omega)] at q2;cases q2
     ·rw[List.getElem?_eq_none (by rw[h6];show 6<=6+i;omega)] at q3;cases q3
    ·rw[if_neg hcs] at me';cases me'
 ·cases me
end
def iB {X:Cx}{a b c:Expr}{ma mb mc:ME}{pos:Pos}{op op':CmpOp}{f g:D->D->Option D}(ho:rQ X (compareOp op) f)(ho':rQ X (compareOp op') g)(hf:∀x y d,f x y=some d->∃k,d=.bl k)(hg:∀x y d,g x y=some d->∃k,d=.bl k)
 (ha:DE X a ma) (hb:DE X b mb) (hc:DE X c mc) (hm:lastMarks [op,op'] [b,c]=false:=by with_unfolding_all rfl):DT X (.Compare a [op,op'] [b,c] pos) (tV (bD f g ma mb mc)):=by
 obtain⟨r,hr,qr⟩:=ho;obtain⟨r',hr',qr'⟩:=ho';obtain⟨ta,pa,qa⟩:=ha;obtain⟨tb,pb,qb⟩:=hb;obtain⟨tc,pc,qc⟩:=hc;refine⟨_,xf hr hr' pa pb pc hm,fun os σ H δ d Q s m kq=>?_⟩;obtain⟨w,m,mt⟩:=aj m;obtain⟨x,e1,m⟩:=aj m;obtain⟨y,e2,m⟩:=aj m;obtain⟨z,e3,m⟩:=aj m;obtain⟨k,rfl⟩:=hf x y z e3;refine qa os σ H δ x _ s e1 fun vx H1 g1 r1=>?_;refine qb os σ H1 δ y _ (s.mono g1) e2 fun vy H2 g2 r2=>?_;refine qr os H2 (s.live.mono (g1.trans g2)) x y _ vx vy _ (r1.mono (g2).hd _ _) r2 e3 fun vz H3 g3 r3=>⟨k,r3.bl_inv,?_⟩;have g13:=g1.trans (g2.trans g3);cases k with
 | false =>
   cases m;cases mt;exact sN ⟨false,rfl,kq H3 g13⟩
 | true =>
   obtain⟨u,e4,m⟩:=aj m;refine sM (qc os σ H3 δ u _ (s.mono g13) e4 fun vu H4 g4 r4=>qr' os H4 (s.live.mono (g13.trans g4)) y u w vy vu _ (r2.mono ((g3.trans g4)).hd _ _) r4 m fun v H5 g5 r5=>?_);obtain⟨k',rfl⟩:=hg y u w m;cases mt;exact⟨_,r5.bl_inv,kq H5 (g13.trans (g4.trans g5))⟩
end DL
namespace DL
open PySem
abbrev MP:=Ev->Option (Option Int)
noncomputable def i9:MP:=fun _=>some none
noncomputable def fZ (m:ME):MP:=fun δ=>(m δ).bind fun d=>match d with | .int i=>some (some i) | _=>none
noncomputable def tR (n k:Nat):Option Int->Nat
 | none=>k
 | some i=>if i<0 then (if i+n<0 then 0 else (i+n).toNat) else (if i<n then i.toNat else n)
def cutD (xs:List D)(l h:Option Int):List D:=(xs.drop (tR xs.length 0 l)).take (tR xs.length xs.length h-tR xs.length 0 l)
def gY (a:ME)(lo hi:MP):ME:=fun δ=>(a δ).bind fun x=>(lo δ).bind fun l=>(hi δ).bind fun h=>match x with
 | .tup xs=>some (.tup (cutD xs l h))
 | .lst xs=>some (.lst (cutD xs l h))
 | _=>none
noncomputable def tN:D->Option D
 | .tup xs=>some (.tup xs.reverse)
 | _=>none
noncomputable def Cz:D->Option D
 | .lst xs=>some (.lst xs.reverse)
 | _=>none
noncomputable def fL (a b c:Int):List Int:=(List.range (((b-a)+(c-1)) / c).toNat).map fun (k:Nat)=>a+c*k
def pA (m:MA):ME:=fun δ=>(m δ).bind fun ds=>match ds with
 | [.int a,.int b,.int c]=>if 0<c/\c<1000 /\ -1000000<a/\a<1000000 /\ -1000000<b/\b<1000000 then some (.lst ((fL a b c).map D.int)) else none
 | _=>none
def AI (d k:ME):ME:=fun δ=>(d δ).bind fun x=>(k δ).bind fun z=>match x,z with
 | .dic false ks vs,.int i=>gU ks vs i
 | _,_=>none
def zS (a b:ME):ME:=fun δ=>(a δ).bind fun z=>(b δ).bind fun d=>(BO d z).bind fun k=>some (.bl k)
def yj (a b:ME):ME:=fun δ=>(a δ).bind fun x=>(truth x).bind fun k=>if k=true then some x else b δ
end DL
namespace DL
open PySem PySem.Spec PyProof.Rows L2
section
variable {X:Cx}{a b e o k:Expr}{ma mb me mo mk:ME}{pos p2:Pos}
def DJ (X:Cx)(o:Option Expr)(m:MP):Prop:=∃t:TO,PO X o t/\∀os σ H δ r Q,Sl X os H δ σ->m δ=some r->(∀H',Same H H'->Q r H')->t σ H Q
def il:DJ X none i9:=⟨_,t5,fun os σ H δ r Q s m k=>by cases m;exact k H (Same.refl _)⟩
def dL (h:DE X e me):DJ X (some e) (fZ me):=by
 obtain⟨t,p,q⟩:=h;refine⟨_,tZ p,fun os σ H δ r Q s m k=>?_⟩;obtain⟨d,e1,m⟩:=aj m;refine q os σ H δ d _ s e1 fun v H1 g1 r1=>?_;cases d with
 | int i=>cases m;exact⟨i,r1.int_inv,k H1 g1⟩
 | _=>cases m
def oM (n k:Nat)(o:Option Int):tR n k o=HT.sIx n k o:=by
 cases o with
 | none=>rfl
 | some i =>
   show (if i<0 then (if i+n<0 then 0 else (i+n).toNat) else (if i<n then i.toNat else n))=if i<0 then (i+(n:Int)).toNat else min i.toNat n
   by_cases h:i<0
   ·rw[if_pos h,if_pos h];split <;> omega
   ·rw[if_neg h,if_neg h];split <;> omega
def Dens.cut {K:PySem.W.Frag}{H:Hp}{ds:List D}{xs:List V}(h:Dens K H ds xs)(l u:Option Int):Dens K H (cutD ds l u) (kY xs l u):=by
 unfold cutD kY;rw[oM,oM,h.length];exact(h.drop _).take _
def iV {lo hi:Option Expr}{ml mh:MP}(he:DE X e me)(hl:DJ X lo ml)(hh:DJ X hi mh):DE X (.Subscript e (.Slice lo hi none p2) pos) (gY me ml mh):=by
 obtain⟨t,p,q⟩:=he;obtain⟨tl,pl,ql⟩:=hl;obtain⟨th,ph,qh⟩:=hh;refine⟨_,qL (sl_list.or (sl_tup.or tQ)) p pl ph,fun os σ H δ d Q s m kq=>?_⟩;obtain⟨x,e1,m⟩:=aj m;obtain⟨l,e2,m⟩:=aj m;obtain⟨h,e3,m⟩:=aj m;refine q os σ H δ x _ s e1 fun v H1 g1 r1=>?_;refine ql os σ H1 δ l _ (s.mono g1) e2 fun H2 g2=>?_;refine qh os σ H2 δ h _ (s.mono (g1.trans g2)) e3 fun H3 g3=>?_;have g:=g1.trans (g2.trans g3);have r3:=r1.mono (g2.trans g3).hd _ _;cases x with
 | lst ds =>
   cases m;obtain⟨a,xs,rfl,h1,h2⟩:=r3.lst_up;exact .inl ⟨a,xs,rfl,h1,fun q hq=>kq _ _ (g.trans (aX hq (.lst (kY xs l h)))) (.newL (s.live.mono g) hq (h2.cut l h))⟩
 | tup ds =>
   cases m;obtain⟨a,xs,rfl,h1,h2⟩:=r3.tup_up;by_cases hw:HT.sIx xs.length 0 l=0/\HT.sIx xs.length xs.length h=xs.length
   ·refine .inr (.inr ⟨a,xs,rfl,h1,hw,kq _ H3 g ?_⟩);have:cutD ds l h=ds:=by
     unfold cutD;rw[oM,oM,h2.length,hw.1,hw.2,Nat.sub_zero,List.drop_zero,<-h2.length,List.take_length]
    rw[this];exact r3
   ·exact .inr (.inl ⟨a,xs,rfl,h1,hw,fun q hq=>kq _ _ (g.trans (aX hq (.tup (kY xs l h)))) (.newT (s.live.mono g) hq (h2.cut l h))⟩)
 | _=>cases m
def Aa (hu:X.A.units+1<cLine)(ho:DE X o mo)(hk:DE X k mk)(hs:Cj k):DE X (.Subscript o k pos) (AI mo mk):=by
 obtain⟨to,po,qo⟩:=ho;obtain⟨tk,pk,qk⟩:=hk;refine⟨_,zj hu po pk hs,fun os σ H δ d Q s m kq=>?_⟩;obtain⟨x,e1,m⟩:=aj m;obtain⟨z,e2,m⟩:=aj m;refine qo os σ H δ x _ s e1 fun v H1 g1 r1=>?_;refine qk os σ H1 δ z _ (s.mono g1) e2 fun u H2 g2 r2=>?_
 match x,z,m with
 | .dic false ks vs,.int i,m =>
   obtain⟨a,ys,rfl,hF,hv⟩:=(r1.mono g2.hd _ _).dic_inv;rcases hF with ⟨_,ob,kvs,f1,rfl,rfl⟩ | ⟨z,_⟩
   ·rw[r2.int_inv];rcases mD i hv with ⟨c1,_⟩ | ⟨d',v,c1,c2,c3⟩
    ·exact absurd (c1.symm.trans m) (by simp)
    ·cases c1.symm.trans m;exact⟨a,v,rfl,.inl ⟨kvs,.inl i,.inr ⟨ob,hide_le _ _ f1⟩,rfl,c2.symm⟩,kq _ H2 (g1.trans g2) c3⟩
   ·cases z
noncomputable def DX (K:PySem.W.Frag)(ta tb:TE):TE:=fun σ H Q=>ta σ H fun x H1=>∃c,Ag K x H1 c/\if c=true then Q x H1 else tb σ H1 Q
def Bn {rest:List Expr}{ta tb:TE}(ha:PE X a ta)(hb:PE X (.BoolOp .Or (b::rest) pos) tb):PE X (.BoolOp .Or (a::b::rest) pos) (DX X.K ta tb):=by
 intro pins s σ H Q I h;refine BoolOp_or (bU (ha pins s σ H _ I h) fun v s1 ⟨x,H1,I1,r1,c,t1,q1⟩=>?_);refine bU (wv pins s1 σ H1 x v (fun k H'=>k=c/\H'=H1) I1 r1 ⟨c,t1,rfl,rfl⟩) fun c' s2 ⟨H2,I2,e1,e2⟩=>?_;subst e1 e2;cases c' with
 | false=>exact hb pins s2 σ H2 Q I2 q1
 | true=>exact⟨x,H2,I2,r1,q1⟩
def B6 {rest:List Expr}(ha:DE X a ma)(hb:DE X (.BoolOp .Or (b::rest) pos) mb):DE X (.BoolOp .Or (a::b::rest) pos) (yj ma mb):=by
 obtain⟨ta,pa,qa⟩:=ha;obtain⟨tb,pb,qb⟩:=hb;refine⟨_,Bn pa pb,fun os σ H δ d Q s m kq=>?_⟩;obtain⟨dx,e1,m⟩:=aj m;obtain⟨c,e2,m⟩:=aj m;refine qa os σ H δ dx _ s e1 fun x H1 g1 r1=>⟨c,qf r1 e2,?_⟩;cases c with
 | true=>cases m;exact sM (kq _ H1 g1 r1)
 | false=>exact sN (qb os σ H1 δ d Q (s.mono g1) m (kq.mono g1))
end
section
variable {X:Cx}{a b:Expr}{ma mb:ME}{pos:Pos}
def B9 (hu:X.A.units+1<cLine)(ha:DE X a ma)(hb:DF X b mb)(hmk:behindInMarks .In b=false:=by rfl):DE X (.Compare a [.In] [b] pos) (zS ma mb):=by
 obtain⟨ta,pa,qa⟩:=ha;obtain⟨tb,pb,qb⟩:=hb;refine⟨_,Bq (Bs hu pa pb) hmk,fun os σ H δ d Q s m kq=>?_⟩;obtain⟨y,e1,m⟩:=aj m;obtain⟨dd,e2,m⟩:=aj m;obtain⟨c,e3,m⟩:=aj m;cases m;refine qa os σ H δ y _ s e1 fun u H1 g1 r1=>?_;refine qb os σ H1 δ dd _ (s.mono g1) e2 fun p H2 g2 hp ow=>?_;cases dd with
 | dic t ks vs =>
   obtain⟨xs,w6,_⟩:=ow;obtain⟨w,w7,w8⟩:=sS (vs:=vs) ((s.mono g1).mono g2).live (.inl w6) (r1.mono g2.hd _ _) e3;exact⟨p,w,rfl,w7,by rw[w8];exact kq _ H2 (g1.trans g2) (.bl c)⟩
 | _=>cases e3
end
section
variable {X:Cx}{a b c:Expr}{ma:MA}{pos p p2 p3:Pos}
def EM (ta:TA):TE:=fun σ H Q=>ta σ H fun vs H1=>∃i j k:Int,vs=[.int i,.int j,.int k]/\(0<k/\k<1000 /\ -1000000<i/\i<1000000 /\ -1000000<j/\j<1000000)/\∀S,H1 S=none->Q (.ref S) (cr H1 S (.lst ((fL i j k).map V.int)))
def lE {i j k:Int}(hk:0<k):Builtin.Range.rangeSize i j k=((((j-i)+(k-1)) / k).toNat:Nat):=by
 unfold Builtin.Range.rangeSize;rw[if_pos hk];by_cases h:i<j
 ·rw[if_pos h];have e:(j-i)+(k-1)=(j-i-1)+1*k:=by omega
  have h0:=Int.ediv_nonneg (show 0<=j-i-1 by omega) (Int.le_of_lt hk);rw[e,Int.add_mul_ediv_right _ _ (by omega)];omega
 ·rw[if_neg h];have:=Int.ediv_lt_of_lt_mul hk (show (j-i)+(k-1)<1*k by omega);omega
def sd {i j k:Int}(h:0<k/\k<1000 /\ -1000000<i/\i<1000000 /\ -1000000<j/\j<1000000):Builtin.Range.small i j k=true:=by
 have hs:=lE (i:=i) (j:=j) h.1;have hl:=Int.ediv_lt_of_lt_mul h.1 (show (j-i)+(k-1)<3000000*k by omega);unfold Builtin.Range.small;rw[hs,if_pos (show k>0 from h.1)];generalize ((j-i)+(k-1)) / k=n at *;simp only[Builtin.Range.rangeFitsLong,Bool.and_eq_true,Bool.or_eq_true,decide_eq_true_eq,beq_iff_eq];omega
def oF {xs:List V}:∀{us:List Value},xs.length=us.length->(∀(n:Nat) u,us[n]? = some u->∃x,xs[n]? = some x/\RelV x u)->Vals xs us:=by
 induction xs with
 | nil=>intro us hl _;cases us with | nil=>exact .nil | cons _ _=>cases hl
 | cons x xs ih =>
   intro us hl h;cases us with
   | nil=>cases hl
   | cons u us =>
     obtain⟨y,e,r⟩:=h 0 u rfl;cases e;exact .cons r (ih (by simpa using hl) fun n v hv=>by simpa using h (n+1) v (by simpa using hv))
def o0 {ta:TA}(hc:X.calm=true)(hg1:Gl X "list")(hm1:X.mg "list"=none)(hg2:Gl X "range")(hm2:X.mg "range"=none)(ha:PA X [a,b,c] ta)(h1:starEach [a,b,c] X.env=(false,eval a X.env)::starEach [b,c] X.env:=by rfl)(hpl:(backTo p3 (starEach [b,c] X.env)).any (·.1)=false:=by rfl)
 (s1:starEach [Expr.Call (.Name "range" p2) [a,b,c] [] p3] X.env=(false,eval (Expr.Call (.Name "range" p2) [a,b,c] [] p3) X.env)::starEach [] X.env:=by rfl) (hp0:(backTo pos (starEach [] X.env)).any (·.1)=false:=by rfl) :
 PE X (.Call (.Name "list" p) [.Call (.Name "range" p2) [a,b,c] [] p3] [] pos) (EM ta):=by
 intro pins s σ H Q I h;refine Call_ (fj I hg1 hm1 (by rfl) (PyProof.Rows.callWith_type1 ?_ s1 hp0));rw[s1];show wpAny _ _ (spliced ((false,eval (Expr.Call (.Name "range" p2) [a,b,c] [] p3) X.env)::backTo pos (starEach [] X.env))) _ _ s;refine Calls.spliced_cons ?_;refine Call_ (fj I hg2 hm2 boot_range (PyProof.Rows.callWith_type1 (bU (ha p3 pins s σ H _ I h) fun us s1 ⟨vs,H1,I1,r1,q1⟩=>?_) h1 hpl));obtain⟨i,j,k,e,hb,q⟩:=q1;subst e;obtain⟨t1,t2,t3,rfl⟩:∃t1 t2 t3,us=[.int i t1,.int j t2,.int k t3]:=by
  cases r1 with
  | cons x1 y1 =>
    cases y1 with
    | cons x2 y2 =>
      cases y2 with
      | cons x3 y3 =>
        cases y3;obtain⟨t1,rfl⟩:=x1;obtain⟨t2,rfl⟩:=x2;obtain⟨t3,rfl⟩:=x3;exact⟨t1,t2,t3,rfl⟩
 refine call_range_3 (by omega) ?_ (Or.inl (PyProof.noPylong_small (by omega)));refine Calls.spliced_nil ?_;have hsz:=lE (i:=i) (j:=j) hb.1;have hle:(((j-i)+(k-1)) / k).toNat<=2 ^ 24:=by
  rw[<-Int.toNat_natCast (2 ^ 24)];refine Int.toNat_le_toNat (Int.le_of_lt (Int.ediv_lt_of_lt_mul hb.1 ?_));have:((2 ^ 24:Nat):Int)*1<=((2 ^ 24:Nat):Int)*k:=Int.mul_le_mul_of_nonneg_left (by omega) (by decide);have e:((2 ^ 24:Nat):Int)=16777216:=rfl;omega
 refine call_list_range (s:={ s1 with heap:=s1.heap.push { cls:=.type "range",data:=.fields #[.int i t1,.int j t2,.int k t3] },toks:=s1.toks }) (I1.ok.hd hc) (IsRange.new ..) (sd hb) hsz hle fun h' tk acc cc hk hS hacc=>?_;have k0:∀b o,s1.heap.get? b=some o->h'.get? b=some o:=fun b o e=>hk b o (Heap.get?_push_of_some _ e);have hp:s1.heap.objs.size<=(s1.heap.push { cls:=.type "range",data:=.fields #[.int i t1,.int j t2,.int k t3] }).objs.size:=by simp[Heap.push]
 refine⟨.ref (s1.heap.push { cls:=.type "range",data:=.fields #[.int i t1,.int j t2,.int k t3] }).objs.size,_,I1.laid (t':=tk) (o:=.lst ((fL i j k).map V.int)) k0 hp ?_,rfl,q _ (I1.hok.fresh hp)⟩;have hlen:((fL i j k).map V.int).length=(((j-i)+(k-1)) / k).toNat:=by unfold fL;simp
 refine⟨by rw[hlen,di];exact hle,acc.toList,cc,?_,by simpa using hS⟩;refine oF (by rw[hlen,Array.length_toList,hacc.1]) fun n u hu=>?_;have hu':acc[n]? = some u:=by simpa using hu
 obtain⟨t,rfl⟩:=hacc.2 n u hu';have hn:n<(((j-i)+(k-1)) / k).toNat:=by rw[<-hacc.1];exact(Array.getElem?_eq_some_iff.mp hu').1
 refine⟨.int (i+k*n),?_,t,by rw[Int.mul_comm]⟩;unfold fL;rw[List.getElem?_map,List.getElem?_map,List.getElem?_range hn];rfl
def pH (hc:X.calm=true)(hg1:Gl X "list")(hm1:X.mg "list"=none)(hg2:Gl X "range")(hm2:X.mg "range"=none)(ha:DA X [a,b,c] ma)(h1:starEach [a,b,c] X.env=(false,eval a X.env)::starEach [b,c] X.env:=by rfl)(hpl:(backTo p3 (starEach [b,c] X.env)).any (·.1)=false:=by rfl)
 (s1:starEach [Expr.Call (.Name "range" p2) [a,b,c] [] p3] X.env=(false,eval (Expr.Call (.Name "range" p2) [a,b,c] [] p3) X.env)::starEach [] X.env:=by rfl) (hp0:(backTo pos (starEach [] X.env)).any (·.1)=false:=by rfl) :
 DE X (.Call (.Name "list" p) [.Call (.Name "range" p2) [a,b,c] [] p3] [] pos) (pA ma):=by
 obtain⟨hl,t,pt,q⟩:=ha;refine⟨_,o0 hc hg1 hm1 hg2 hm2 pt h1 hpl s1 hp0,fun os σ H δ d Q s m k=>?_⟩;obtain⟨ds,e1,m⟩:=aj m;refine q os σ H δ ds _ s e1 fun vs H1 g1 r1=>?_
 match ds,m with
 | [.int x,.int y,.int z],m =>
   have m':(if 0<z/\z<1000 /\ -1000000<x/\x<1000000 /\ -1000000<y/\y<1000000 then some (D.lst ((fL x y z).map D.int)) else none)=some d:=m;split at m'
   ·rename_i hb;cases m';obtain⟨u,_,rfl,u1,r2⟩:=r1.uncons;obtain⟨v,_,rfl,v1,r3⟩:=r2.uncons;obtain⟨w,_,rfl,w1,r4⟩:=r3.uncons;have:=r4.unnil;subst this;rw[u1.int_inv,v1.int_inv,w1.int_inv];exact⟨x,y,z,rfl,hb,fun S hS=>k _ _ (g1.trans (aX hS _)) (.newL (s.live.mono g1) hS (Dens.ints _))⟩
   ·cases m'
end
section
variable {P:Program}{w:World}{A:Around}{E:Value->Shared->Prop}{s:Shared}
def xS {r:Addr}{Q:Bool->Shared->Prop}(hT:s.TypeIs (.ref r) "list_reverseiterator")(k:∀b,Q b s):wpAny (model P w) A (Builtin.List.listLengthHint (.ref r)) Q E s:=by
 unfold Builtin.List.listLengthHint;refine wpAny_bind (wpAny_specialOf hT (r:=none) (by rw[typeLookup_type,builtinLookup_eq_fast];kernel_rfl) ?_);dsimp only;rw[if_neg (by decide)];rw[if_neg (by decide)];refine wpAny_bind (wpAny_specialOf hT (r:=some (.builtin "list_reverseiterator.__length_hint__")) (by rw[typeLookup_type,builtinLookup_eq_fast];kernel_rfl) ?_);generalize en:("list_reverseiterator.__length_hint__":String)=nm
 wp_delta
 rw[show splitId nm=some ("list_reverseiterator","__length_hint__") from en ▸ by decide +kernel,<-en];refine wpAny_bind (wpAny_isInstance (T:="list_reverseiterator") (b:=true) hT (by rw[isSubtype_type];kernel_rfl) (wpAny_ite_split (fun z=>absurd z (by decide)) fun _=>wpAny_ite_split (fun _=>?_) fun z=>absurd (by decide +kernel) z));rw[if_neg (by decide)];exact wpAny_pure (k false)
def nI {B I l:Addr}{items:Array Value}{Q:Value->Shared->Prop}(hh:A.handled=none)(hB:B<=I)(hI:s.heap.IsRevIter I l ((items.size:Int)-1))(hl:s.heap.IsList l items)(hne:l≠I)(hn:items.size<=sizeLine)
 (k:∀(h':Heap) (tk:Nat) (acc:Array Value) (c:Nat),(∀b o,b<B->s.heap.get? b=some o->h'.get? b=some o)->h'.get? s.heap.objs.size=some { cls:=.type "list",dict:=none,data:=.seq acc c,slots:=#[] }->ItemsOf (fun i v=>items[items.size-1-i]? = some v) acc items.size->Q (.ref s.heap.objs.size) { s with heap:=h',toks:=tk }) :
 wpAny (model P w) A (call (.type "list") [.ref I]) Q E s:=by
 have ltI:I<s.heap.objs.size:=by obtain⟨_,q,_⟩:=hI;exact Heap.lt_size q
 have ltl:l<s.heap.objs.size:=by obtain⟨_,q,_⟩:=hl;exact Heap.lt_size q
 refine callType_codes (Q₁:=fun v s1=>v=.ref s.heap.objs.size/\s1={ s with heap:=s.heap.push { cls:=.type "list",data:=.seq #[] } }) PySem.F.called_list (PySem.F.typeCall_list_1 _) PySem.F.entry_list_init (code_list_new _ ⟨rfl,rfl⟩) fun v s1 z1=>?_;obtain⟨rfl,rfl⟩:=z1;have g0:(s.heap.push { cls:=.type "list",data:=.seq #[] }).get? s.heap.objs.size=some { cls:=.type "list",data:=.seq #[] }:=Heap.get?_push_size _ rfl;refine⟨⟨_,g0,rfl⟩,PySem.F.args_list_init_2 _ _,?_⟩;show wpAny _ _ (Builtin.List.listItems (.ref s.heap.objs.size) >>= fun old=>Builtin.List.listUpdate (.ref s.heap.objs.size) (fun _=>#[]) >>= fun _=>letGo old.toList.reverse >>= fun _=>Builtin.List.listExtendWith (.ref s.heap.objs.size) (.ref I) .none) _ _ _;refine wpAny_bind (wpAny_bind (wpAny_seqItems g0 rfl (wpAny_pure ?_)));refine wpAny_bind (show wpAny _ _ (updateSeq s.heap.objs.size fun _=>#[]) _ _ _ from wpAny_updateSeq g0 rfl (wpAny_bind (wpAny_letGo ?_)));have g1:=Heap.get?_update_self (Obj.mapSeq fun _=>(#[]:Array Value)) g0 rfl;generalize hG:(s.heap.push { cls:=.type "list",data:=.seq #[] }).update s.heap.objs.size (Obj.mapSeq fun _=>(#[]:Array Value))=G at g1 ⊢;have kG:∀b o,s.heap.get? b=some o->G.get? b=some o:=fun b o e=>by rw[<-hG];exact(Heap.get?_update_other _ _ (Nat.ne_of_gt (Heap.lt_size e))).trans (Heap.get?_push_of_some _ e)
 unfold Builtin.List.listExtendWith;have hTy:Shared.TypeIs { s with heap:=G } (.ref I) "list_reverseiterator":=(hI.at fun o e=>kG I o e).typeIs (s:={ s with heap:=G });refine wpAny_bind (wpAny_typeOf (T:="list_reverseiterator") hTy ?_);have e1:Builtin.List.listSameRef (.ref s.heap.objs.size) (.ref I)=false:=by simp[Builtin.List.listSameRef,Nat.ne_of_gt ltI]
 have e2:(Value.type "list_reverseiterator"==Value.type "list")=false:=by decide
 have e3:(Value.type "list_reverseiterator"==Value.type "tuple")=false:=by decide
 simp only[e1,e2,e3,Bool.or_false,Bool.false_eq_true,if_false];refine wpAny_bind (wpAny_pyIter_revIter (s:={ s with heap:=G }) (hI.at fun o e=>kG I o e) ?_);refine wpAny_bind (wpAny_holding (xS hTy fun b=>?_));have run:∀(h:Heap) (c1:Nat),(∀b o,b≠s.heap.objs.size->G.get? b=some o->h.get? b=some o)->h.get? s.heap.objs.size=some { cls:=.type "list",data:=.seq #[] c1 }->codeAny (model P w) A.in1 (.builtin "list.extend.loop" ⟨[.ref s.heap.objs.size,.ref I,.none],[]⟩) (wants (fun r s2=>r=.none/\Q (.ref s.heap.objs.size) s2) E) { s with heap:=h }:=fun h c1 hk gh=>by
  have kk:∀b o,s.heap.get? b=some o->h.get? b=some o:=fun b o e=>hk b o (Nat.ne_of_lt (Heap.lt_size e)) (kG b o e);refine codeAny_extend_loopS (A:=A.in1) (Walks.listRev (A:=A.in1.in1) hh I l hne items).toS hn s.heap.objs.size (by simp only[List.mem_cons,List.not_mem_nil,or_false,not_or];exact⟨Nat.ne_of_gt ltI,Nat.ne_of_gt ltl⟩) .none items.size 0 { s with heap:=h } #[] c1 rfl (Nat.zero_le _) ⟨Nat.zero_le _,?_,hl.at fun o e=>kk l o e⟩ gh (ItemsOf.nil _) fun s' acc c' hm hS hacc=>?_
  ·have:(items.size:Int)-1-((0:Nat):Int)=(items.size:Int)-1:=by omega
   rw[this];exact hI.at fun o e=>kk I o e
  ·rw[Moved.eq_with hm];refine⟨rfl,k s'.heap s'.toks acc c' (fun b o hb e=>hm.heap b o (fun hmem=>?_) (kk b o e)) hS hacc⟩;rcases List.mem_cons.mp hmem with q | q
   ·exact absurd (Heap.lt_size e) (by rw[q];exact Nat.lt_irrefl _)
   ·rw[List.mem_singleton.mp q] at hb;exact absurd hb (Nat.not_lt.mpr hB)
 refine wpAny_ite_split (fun _=>?_) fun _=>wpAny_pure ⟨plainId_quiet PySem.F.plain_extend_loop _,run G _ (fun _ _ _ e=>e) g1⟩;refine wpAny_bind (wpAny_rule (wpAny_bind ?_));show wpAny _ _ (updateSeq s.heap.objs.size (·.push .none) >>= fun _=>updateSeq s.heap.objs.size (·.pop)) _ _ _;have g2:=Heap.get?_update_self (Obj.mapSeq (·.push Value.none)) g1 rfl;have g3:=Heap.get?_update_self (Obj.mapSeq (·.pop)) g2 rfl;refine wpAny_bind (wpAny_updateSeq (s:={ s with heap:=G }) g1 rfl (wpAny_updateSeq (hz:=by seq_fits) g2 rfl ?_));exact wpAny_pure ⟨plainId_quiet PySem.F.plain_extend_loop _,run _ _ (fun b o hb e=>(Heap.get?_update_other _ _ (Ne.symm hb)).trans ((Heap.get?_update_other _ _ (Ne.symm hb)).trans e)) g3⟩
end
section
variable {X:Cx}{a:Expr}{ma:ME}{pos p p2 p3:Pos}
def EL (K:PySem.W.Frag)(ta:TA):TE:=fun σ H Q=>ta σ H fun vs H1=>∃l xs,vs=[.ref l]/\SqL K H1 l xs/\∀S,H1 S=none->Q (.ref S) (cr H1 S (.lst xs.reverse))
def sA {ta:TA}(hc:X.calm=true)(hg1:Gl X "list")(hm1:X.mg "list"=none)(hg2:Gl X "reversed")(hm2:X.mg "reversed"=none)(ha:PA X [a] ta)(h1:starEach [a] X.env=(false,eval a X.env)::starEach [] X.env:=by rfl)(hpl:(backTo p3 (starEach [] X.env)).any (·.1)=false:=by rfl)
 (s1:starEach [Expr.Call (.Name "reversed" p2) [a] [] p3] X.env=(false,eval (Expr.Call (.Name "reversed" p2) [a] [] p3) X.env)::starEach [] X.env:=by rfl) (hp0:(backTo pos (starEach [] X.env)).any (·.1)=false:=by rfl) :
 PE X (.Call (.Name "list" p) [.Call (.Name "reversed" p2) [a] [] p3] [] pos) (EL X.K ta):=by
 intro pins s σ H Q I h;refine Call_ (fj I hg1 hm1 (by rfl) (PyProof.Rows.callWith_type1 ?_ s1 hp0));rw[s1];show wpAny _ _ (spliced ((false,eval (Expr.Call (.Name "reversed" p2) [a] [] p3) X.env)::backTo pos (starEach [] X.env))) _ _ s;refine Calls.spliced_cons ?_;refine Call_ (fj I hg2 hm2 (by rfl) (PyProof.Rows.callWith_type1 (bU (ha p3 pins s σ H _ I h) fun us s1 ⟨vs,H1,I1,r1,q1⟩=>?_) h1 hpl));obtain⟨l,xs,e,hq,q⟩:=q1;subst e;obtain⟨u,rfl,ru⟩:∃u,us=[u]/\RelV (.ref l) u:=by
  cases r1 with
  | cons x1 y1=>cases y1;exact⟨_,rfl,x1⟩
 cases ru;obtain⟨its,rv,pl,hz⟩:=I1.list hq;have ltl:l<s1.heap.objs.size:=by obtain⟨_,q,_⟩:=pl.isList;exact Heap.lt_size q
 refine call_reversed_list pl.isList ?_;refine Calls.spliced_nil ?_;have hlen:its.toArray.size=xs.length:=by rw[List.size_toArray];exact rv.length.symm
 refine nI (s:={ s1 with heap:=s1.heap.push (revObj l ((its.toArray.size:Int)-1)) }) (B:=s1.heap.objs.size) (I:=s1.heap.objs.size) (l:=l) (items:=its.toArray) (I1.ok.hd hc) (Nat.le_refl _) ⟨_,Heap.get?_push_size _ rfl,rfl,rfl⟩ (pl.isList.at fun o e=>Heap.get?_push_of_some _ e) (Nat.ne_of_lt ltl) (by rw[hlen];exact hz) fun h' tk acc c hk hS hacc=>?_;have k0:∀b o,s1.heap.get? b=some o->h'.get? b=some o:=fun b o e=>hk b o (Heap.lt_size e) (Heap.get?_push_of_some _ e);have hp:s1.heap.objs.size<=(s1.heap.push (revObj l ((its.toArray.size:Int)-1))).objs.size:=by simp[Heap.push]
 refine⟨.ref (s1.heap.push (revObj l ((its.toArray.size:Int)-1))).objs.size,_,I1.laid (t':=tk) (o:=.lst xs.reverse) k0 hp ?_,rfl,q _ (I1.hok.fresh hp)⟩;refine⟨by rw[List.length_reverse];exact hz,acc.toList,c,?_,by simpa using hS⟩;have hal:acc.toList.length=xs.length:=by rw[<-hlen,<-hacc.1];simp
 refine oF (by rw[List.length_reverse];exact hal.symm) fun n u hu=>?_;have hu':acc[n]? = some u:=by simpa using hu
 have hn:n<xs.length:=by rw[<-hlen,<-hacc.1];exact(Array.getElem?_eq_some_iff.mp hu').1
 have hv:=hacc.2 n u hu';rw[hlen] at hv;obtain⟨x,f1,f2⟩:=tL rv (i:=xs.length-1-n) (u:=u) (by simpa using hv);exact⟨x,by rw[List.getElem?_reverse hn];exact f1,f2⟩
def Dens.rev {K:PySem.W.Frag}{H:Hp}:∀{ds:List D} {xs:List V},Dens K H ds xs->Dens K H ds.reverse xs.reverse
 | [],xs,h=>by rw[h.unnil];exact .nil
 | d::ds,xs,h=>by
   obtain⟨x,r,rfl,h1,h2⟩:=h.uncons;rw[List.reverse_cons,List.reverse_cons];exact(Dens.rev h2).append (.cons h1 .nil)
def tf (hc:X.calm=true)(hg1:Gl X "list")(hm1:X.mg "list"=none)(hg2:Gl X "reversed")(hm2:X.mg "reversed"=none)(ha:DE X a ma)(h1:starEach [a] X.env=(false,eval a X.env)::starEach [] X.env:=by rfl)(hpl:(backTo p3 (starEach [] X.env)).any (·.1)=false:=by rfl)
 (s1:starEach [Expr.Call (.Name "reversed" p2) [a] [] p3] X.env=(false,eval (Expr.Call (.Name "reversed" p2) [a] [] p3) X.env)::starEach [] X.env:=by rfl) (hp0:(backTo pos (starEach [] X.env)).any (·.1)=false:=by rfl) :
 DE X (.Call (.Name "list" p) [.Call (.Name "reversed" p2) [a] [] p3] [] pos) (gW Cz ma):=by
 obtain⟨t,pt,q⟩:=ha;refine⟨_,sA hc hg1 hm1 hg2 hm2 (bN pt df h1) h1 hpl s1 hp0,fun os σ H δ d Q s m k=>?_⟩;obtain⟨dx,e1,m⟩:=aj m;refine q os σ H δ dx _ s e1 fun v H1 g1 r1=>?_;cases dx with
 | lst ds =>
   cases m;obtain⟨l,xs,rfl,h1,h2⟩:=r1.lst_up;exact⟨l,xs,rfl,h1,fun S hS=>k _ _ (g1.trans (aX hS _)) (.newL (s.live.mono g1) hS h2.rev)⟩
 | _=>cases m
end
section
variable {P:Program}{w:World}{A:Around}{E:Value->Shared->Prop}{s:Shared}
def wc {xs:List V}{us:List Value}(r:Vals xs us):Vals xs.reverse us.reverse:=by
 refine oF (by rw[List.length_reverse,List.length_reverse,r.length]) fun n u hu=>?_;have hn:n<us.length:=by have:=(List.getElem?_eq_some_iff.mp hu).1;simpa using this
 rw[List.getElem?_reverse hn] at hu;obtain⟨x,f1,f2⟩:=tL r hu;exact⟨x,by rw[List.getElem?_reverse (by rw[r.length];exact hn),r.length];exact f1,f2⟩
def qK (n:Nat):Builtin.Slice.slicePlaces ((n:Int)-1) (-1) (-1)=n:=by
 unfold Builtin.Slice.slicePlaces;rw[if_neg (by decide),show (-(-1):Int)=1 from rfl,Int.ediv_one];split <;> omega
def pT {sl:Addr}{t:Tok}{n:Nat}{Q:Int×Int×Nat->Shared->Prop}(hs:s.heap.IsSliceOf sl .none .none (.int (-1) t))(h:Q ((n:Int)-1,-1,n) s):wpAny (model P w) A (Builtin.Slice.sliceApplied (.ref sl) (pure (n:Int))) Q E s:=by
 obtain⟨o,g1,g2,g3⟩:=hs;refine wpAny_bind (m:=Builtin.Slice.sliceFields _) (wpAny_bind (wpAny_field g1 g3 (x:=.none) rfl (wpAny_bind (wpAny_field g1 g3 (x:=.none) rfl (wpAny_bind (wpAny_field g1 g3 (x:=.int (-1) t) rfl (wpAny_pure ?_)))))));refine wpAny_bind (HT.slicePart_ (.int (-1) t) ?_);show wpAny _ _ (if ((-1:Int)==0)=true then _ else _) _ _ s;rw[if_neg (by decide)];refine wpAny_bind (HT.slicePart_ .none (wpAny_bind (HT.slicePart_ .none (wpAny_bind (wpAny_pure ?_)))));show wpAny _ _ (pure ((n:Int)-1,(-1:Int),Builtin.Slice.slicePlaces ((n:Int)-1) (-1) (-1))) _ _ s;rw[qK];exact wpAny_pure h
def yd {f:Nat->Option Value}{g:Nat->Value}:∀l:List Nat,(∀m∈l,f m=some (g m))->l.filterMap f=l.map g
 | [],_=>rfl
 | a::l,h=>by rw[List.filterMap_cons,h a List.mem_cons_self,List.map_cons,yd l fun m hm=>h m (List.mem_cons_of_mem _ hm)]
def vd (xs:Array Value):((List.range xs.size).filterMap fun (m:Nat)=>xs[((xs.size:Int)-1+(m:Int) * -1).toNat]?).toArray=xs.toList.reverse.toArray:=by
 congr 1;refine List.ext_getElem? fun i=>?_;have e:(List.range xs.size).filterMap (fun (m:Nat)=>xs[((xs.size:Int)-1+(m:Int) * -1).toNat]?)=(List.range xs.size).map fun m=>xs.toList.getD (xs.size-1-m) .none:=by
  refine yd _ fun m hm=>?_;rw[List.mem_range] at hm;have:((xs.size:Int)-1+(m:Int) * -1).toNat=xs.size-1-m:=by omega
  rw[this,Array.getElem?_eq_getElem (by omega),List.getD_eq_getElem?_getD,List.getElem?_eq_getElem (by rw[Array.length_toList];omega)];simp
 rw[e,List.getElem?_map];by_cases hi:i<xs.size
 ·rw[List.getElem?_range hi,List.getElem?_reverse (by rw[Array.length_toList];exact hi),Array.length_toList,List.getElem?_eq_getElem (by rw[Array.length_toList];omega)];simp only[Option.map_some];rw[List.getD_eq_getElem?_getD,List.getElem?_eq_getElem (by rw[Array.length_toList];omega)];rfl
 ·rw[List.getElem?_eq_none (by simp;omega),List.getElem?_eq_none (by simp;omega)];rfl
def pz {t sl:Addr}{items:Array Value}{tk:Tok}{Q:Value->Shared->Prop}(ht:IsTup s.heap t items)(hs:s.heap.IsSliceOf sl .none .none (.int (-1) tk))(hz:items.size<=sizeLine)
 (h:Q (.ref s.heap.objs.size) { s with heap:=s.heap.push { cls:=.type "tuple",data:=.seq items.toList.reverse.toArray } }):wpAny (model P w) A (getItem (.ref t) (.ref sl)) Q E s:=by
 have fits:sizeOk (.seq items.toList.reverse.toArray):=by
  show items.toList.reverse.toArray.size<=sizeLine;simpa using hz
 obtain⟨o,g1,g2,g3⟩:=id hs;have hTs:s.TypeIs (.ref sl) "slice":=⟨o,g1,g2⟩;unfold getItem;try with_reducible refine wpAny_holding ?_
 refine wpAny_bind (wpAny_sequenceKey ht.typeIs (by decide) ?_);refine wpAny_bind (wpAny_callSpecial?_slot (name:=Str.ofString "__getitem__") ht.typeIs PyProof.Rows.slot_tuple_getitem (wpAny_call_entry PyProof.Rows.slot_tuple_getitem ht.typeIs entry_tuple_getitem ?_ (args_tuple_getitem _ _)));refine wpAny_bind (m:=Builtin.Tuple.tupleItemsOf (.ref t)) (tupleItemsOf_ ht (wpAny_bind (wpAny_typeOf hTs ?_)));rw[if_pos (by decide)];refine wpAny_bind (pT hs ?_);show wpAny _ _ (if ((((items.size:Int)-1)==0&&(-1:Int)==1&&items.size==items.size)=true) then _ else _) _ _ s;rw[if_neg (by rw[show ((-1:Int)==1)=false from rfl,Bool.and_false,Bool.false_and];decide),vd];exact wpAny_bind (m:=Builtin.Tuple.tupleExact _) (wpAny_newObj_type (wpAny_pure ⟨_,rfl,wpAny_pure h⟩) fits)
end
section
variable {X:Cx}{e st:Expr}{me:ME}{pos p2:Pos}
def EN (K:PySem.W.Frag)(te:TE)(ts:TO):TE:=fun σ H Q=>te σ H fun x H1=>ts σ H1 fun o H2=>o=some (-1)/\∃a xs,x=.ref a/\SqT K H2 a xs/\∀p,H2 p=none->Q (.ref p) (cr H2 p (.tup xs.reverse))
def zl {te:TE}{ts:TO}(he:PE X e te)(hs:PO X (some st) ts):PE X (.Subscript e (.Slice none none (some st) p2) pos) (EN X.K te ts):=by
 intro pins s σ H Q I h;refine Subscript_ (bU (he pins s σ H _ I h) fun v s1 ⟨x,H1,I1,r1,q1⟩=>?_);refine wpAny_Slice ?_;rw[evalPart_none];refine wpAny_pure (wpAny_pure (bU (hs pins s1 σ H1 _ I1 q1) fun u s2 ⟨o,H2,I2,pu,eo,a,xs,ex,hx,q⟩=>?_));subst eo ex;cases r1;obtain⟨t,rfl⟩:∃t,u=.int (-1) t:=by cases pu;exact⟨_,rfl⟩
 have I3:L2.Inv X pins σ H2 { s2 with heap:=s2.heap.push { cls:=.type "slice",data:=.fields #[.none,.none,.int (-1) t] } }:=I2.kept (t':=s2.toks) fun b ob q=>Heap.get?_push_of_some _ q;obtain⟨its,r,ht,hz⟩:=I3.tuple hx;have hlen:its.toArray.size=xs.length:=by rw[List.size_toArray];exact r.length.symm
 refine tail_any (ops:=[.ref a,.ref s2.heap.objs.size]) (T:="tuple") ht.typeIs PyProof.Rows.slot_tuple_getitem.lookup (pz ht (Heap.IsSliceOf.new ..) (by rw[hlen];exact hz) ?_) (by with_unfolding_all rfl);refine⟨.ref _,_,I3.laid (t':=s2.toks) (o:=.tup xs.reverse) (fun b ob q=>Heap.get?_push_of_some _ q) (Nat.le_refl _) ?_,rfl,q _ (I3.hok.fresh (Nat.le_refl _))⟩;refine⟨by rw[List.length_reverse];exact hz,its.reverse,wc r,?_⟩;have:=IsTup.new { s2 with heap:=s2.heap.push { cls:=.type "slice",data:=.fields #[.none,.none,.int (-1) t] } }.heap its.reverse.toArray;simpa using this
def Ac {p3 p4:Pos}{j:Nat}(he:DE X e me):DE X (.Subscript e (.Slice none none (some (.UnaryOp .USub (.Constant (.int 1) j p3) p4)) p2) pos) (gW tN me):=by
 obtain⟨t,p,q⟩:=he;obtain⟨ts,ps,qs⟩:=dL (X:=X) (uG oG (af (X:=X) (i:=1) (j:=j) (pos:=p3)) (pos:=p4));refine⟨_,zl p ps,fun os σ H δ d Q s m kq=>?_⟩;obtain⟨x,e1,m⟩:=aj m;refine q os σ H δ x _ s e1 fun v H1 g1 r1=>qs os σ H1 δ (some (-1)) _ (s.mono g1) rfl fun H2 g2=>?_;cases x with
 | tup ds =>
   cases m;obtain⟨a,xs,rfl,h1,h2⟩:=(r1.mono g2.hd _ _).tup_up;have g:=g1.trans g2;exact⟨rfl,a,xs,rfl,h1,fun p hp=>kq _ _ (g.trans (aX hp _)) (.newT (s.live.mono g) hp h2.rev)⟩
 | _=>cases m
def gd {x z:Str}{t:Tok}(hg:Gl X x)(hm:X.mg x=some (.str z t))(hd:(x==("__debug__":Str))=false:=by decide):DE X (.Name x pos) (eC (.str z)):=vJ (t9 (v:=.str z) hg hm ⟨t,rfl⟩ hd) fun _=>.str z
end
structure FnI (K:PySem.W.Frag)(nm:Str)(st:Stmt) where
 f:Addr
 fd:FuncData
 F:Fun K nm nm st f fd
 a:PySem.W.nsIn K mainGlobals nm=some (some (.ref f))
noncomputable def fnI {K:PySem.W.Frag}{nm:Str}{st:Stmt}{f:Addr}{od an:Option Addr}{sl:Array (Option Value)}{oc kV dc pm cd ct:Value}(a:PySem.W.nsIn K mainGlobals nm=some (some (.ref f)))
 (l:K.lookup f=some ⟨oc,od,.func (PySem.W.fnOf nm nm (iD st) (cW st) (aA st) .none kV dc pm an cd ct),sl⟩) (c:PySem.W.codeIn K cd nm=true) (k:PySem.W.keepIn K (.ref f)=true):FnI K nm st:=⟨f,_,BS l c k,a⟩
structure d9 (K:PySem.W.Frag)(mg:Str->Option Value)(nm:Str)(st:Stmt)(ps:List Str) where
 f:Addr
 fd:FuncData
 F:Fun K nm nm st f fd
 g:mg nm=some (.ref f)
 b:Binds K fd ps []
noncomputable def FnI.g {K:PySem.W.Frag}{nm:Str}{st:Stmt}{h:Heap}{mg:Str->Option Value}{ps:List Str}(x:FnI K nm st)(X:K.In h)(G:h.Ns mainGlobals mg)
 (b:∀(kV doc pm:Value) (an:Option Addr) (cdv ct:Value) (us:List Value),us.length=ps.length->bindArgs (PySem.W.fnOf nm nm (iD st) (cW st) (aA st) .none kV doc pm an cdv ct) ⟨us,[]⟩=pure (ps.zip us):=by intro _ _ _ _ _ _ us hl;rcases us with _ | ⟨_,_ | ⟨_,_ | ⟨_,_ | ⟨_,_ | ⟨_,_⟩⟩⟩⟩⟩ <;> first | rfl | cases hl):d9 K mg nm st ps:=⟨x.f,x.fd,x.F,PySem.W.mg_of X G x.a,x.F.binds b⟩
section
variable {X:Cx}{e:Expr}{es:List Expr}{pos p:Pos}{nm:Str}{st:Stmt}{ps:List Str}{k k':Nat}{fn:MF}{m:MA}
def au {x:d9 X.K X.mg nm st ps}(F:iu X.prog X.w X.K X.mg X.base nq k x.f x.fd ps (Am X.K fn))(hr:Room k' X.A)(ha:DA X (e::es) m)(hk:k<=k':=by decide)(hg:Gl X nm:=by rfl)(hdb:(nm==("__debug__":Str))=false:=by decide)
 (he:starEach (e::es) X.env=(false,eval e X.env)::starEach es X.env:=by rfl) (hpl:(backTo pos (starEach es X.env)).any (·.1)=false:=by rfl):DE X (.Call (.Name nm p) (e::es) [] pos) (ag fn m):=Ab F (hr.mono hk) hg x.g x.F.kp x.b ha hdb he hpl
def yu {x:d9 X.K X.mg nm st ps}(F:iu X.prog X.w X.K X.mg X.base nq k x.f x.fd ps (Dz X.K fn))(hr:Room k' X.A)(ha:DA X (e::es) m)(hk:k<=k':=by decide)(hg:Gl X nm:=by rfl)(hdb:(nm==("__debug__":Str))=false:=by decide)
 (he:starEach (e::es) X.env=(false,eval e X.env)::starEach es X.env:=by rfl) (hpl:(backTo pos (starEach es X.env)).any (·.1)=false:=by rfl):DF X (.Call (.Name nm p) (e::es) [] pos) (ag fn m):=yt F (hr.mono hk) hg x.g x.F.kp x.b ha hdb he hpl
end
def ul {u j k c:Nat}(h:u+k<c)(d:j<=k:=by decide):u+j<c:=Nat.lt_of_le_of_lt (Nat.add_le_add_left d _) h
section
variable {X:Cx}{pos:Pos}{x:Str}
def dv (i:Nat)(hN:X.N[i]? = some x:=by rfl)(hv:Du X.env.scope x:=by first | exact Or.inl rfl | exact Or.inr (Or.inl rfl) | exact Or.inr (Or.inr rfl))(hd:(x==("__debug__":Str))=false:=by decide)
 (hcd:(x==("__classdict__":Str))=false:=by decide) (hi:Nat.blt i X.N.length=true:=by rfl):DE X (.Name x pos) (ac i):=B5 i (pv i hN hv hd hcd) hi
def bM (i:Nat)(hN:X.N.Nodup)(hi:X.N[i]? = some x:=by rfl)(hx:Loc X.env.scope x:=by first | exact Or.inl rfl | exact Or.inr rfl)(hf:X.fn x=true\/X.env.scope.names.lookup x=some .local:=by first | exact .inl rfl | exact .inr rfl)(hb:Nat.blt i X.N.length=true:=by rfl):DG X (.Name x pos) (gN i):=zX (t8 hN hi hx hf) hb
end
def EA {N P:List Str}{sc:Scope}(a:sc.kind=.function:=by rfl)(b:sc.isCoroutine=false:=by rfl)(c:sc.isGenerator=false:=by rfl)(d:N.Nodup:=by decide +kernel)(e:N.take P.length=P:=by rfl)
 (f:∀x∈P,sc.names.lookup x=some .local\/sc.names.lookup x=some .cell:=by decide +kernel) (g:∀y∈sc.names,y.2≠.free:=by decide +kernel):eW N P sc:=⟨a,b,c,d,e,f,g⟩
def ox {scX sc:Scope}{NX N:List Str}{k:Nat}{fv:List Nat}(a:sc.kind=.function:=by rfl)(b:∀y∈sc.names,y.2≠.cell:=by decide +kernel)(c:∀y∈sc.names,y.2=.local->sc.names.lookup y.1=some .local:=by decide +kernel)
 (d:∀y∈sc.names,y.2=.free->scX.names.lookup y.1=some .cell:=by decide +kernel) (e:N.length=k+fv.length:=by rfl) (f:N.Nodup:=by decide +kernel)
 (g:∀t,t<fv.length->NX[fv.getD t 0]? = N[k+t]?/\(N[k+t]?.bind fun x=>sc.names.lookup x)=some .free:=by decide +kernel):bC scX sc NX N k fv:=⟨a,b,c,d,e,f,g⟩
def nod (l:List Str)(h:l.Nodup:=by decide +kernel):l.Nodup:=h
abbrev fy {K:PySem.W.Frag}{mg:Str->Option Value}{nm:Str}{st:Stmt}{ps:List Str}(P:Program)(w:World)(base:Heap)(x:d9 K mg nm st ps)(d:Nat)(m:MF):Prop:=iu P w K mg base nq d x.f x.fd ps (Am K m)
abbrev EF {K:PySem.W.Frag}{mg:Str->Option Value}{nm:Str}{st:Stmt}{ps:List Str}(P:Program)(w:World)(base:Heap)(x:d9 K mg nm st ps)(d:Nat)(m:MF):Prop:=iu P w K mg base nq d x.f x.fd ps (Dz K m)
section
variable {P:Program}{w:World}{K:PySem.W.Frag}{mg:Str->Option Value}{base:Heap}{nm:Str}{st:Stmt}{ps:List Str}{x:d9 K mg nm st ps}{M:MF}
def aQ (N:List Str)(k kk:Nat)(m:MS)(hM:M=dE ps.length kk m)(h:∀(cdv:Value) (A:Around) (outer:List Env) (s:Shared) (H:Hp) (E:XK),N.Nodup->Room k (A.deeper (envOfC nm (aA st) s.heap.objs.size x.f cdv))->(A.deeper (envOfC nm (aA st) s.heap.objs.size x.f cdv)).units+64<cLine ->
 rO (kr nq P w K mg base N nm (aA st) x.f cdv A outer s H E).nox False (cW st) m) (S:eW N ps (aA st):=by exact EA) (hkk:N.length<=kk:=by decide):fy P w base x (k+1) M:=BW hkk x.F S hM fun cdv A outer s H E hr=>h cdv A outer s H E S.nd hr hr.units
def BV (N:List Str)(k kk:Nat)(m:MS)(hM:M=Cr ps.length kk m)(h:∀(cdv:Value) (A:Around) (outer:List Env) (s:Shared) (H:Hp) (E:XK),N.Nodup->Room k (A.deeper (envOfC nm (aA st) s.heap.objs.size x.f cdv))->(A.deeper (envOfC nm (aA st) s.heap.objs.size x.f cdv)).units+64<cLine ->
 Dx (kr nq P w K mg base N nm (aA st) x.f cdv A outer s H E).nox (cW st) m) (S:eW N ps (aA st):=by exact EA) (hkk:N.length<=kk:=by decide):EF P w base x (k+1) M:=BX hkk x.F S hM fun cdv A outer s H E hr=>h cdv A outer s H E S.nd hr hr.units
end
section
variable {X:Cx}{pos:Pos}{x:Str}
def oZ (i:Nat)(hN:X.N.Nodup)(hi:X.N[i]? = some x:=by rfl)(hx:Loc X.env.scope x:=by first | exact Or.inl rfl | exact Or.inr rfl)(hf:X.fn x=true\/X.env.scope.names.lookup x=some .local:=by first | exact .inl rfl | exact .inr rfl):PG X (.Name x pos) (gb i):=t8 (i:=i) hN hi hx hf
end
end DL
namespace DL.Pg
open PySem DL
def kA:MS:=(aF (bm (ag kX (ab (am aD (ac 0) (eC (.int 0))) (ab (eC (.int 0)) ah))) (gN 1))
 (bb (aP (ab (ac 1) (ab (ag kX (ab (am aD (ac 0) (eC (.int 1))) (ab (ac 1) ah))) ah)))))
def f7:MF:=dE 1 2 kA
def dA:MS:=(sk 3 1 (ag f7 (ab (ac 2) ah)))
def gH:MS:=(aF (fb 3 1 (bK (ab (eC (.int 0)) ah)))
 (aF (i8 (bz (ac 0)) (gN 2)
 dA)
 (oO 3 [1] (bb (gW jl (ac 1))))))
def dH:MF:=dE 1 6 gH
def gF:MS:=(aF (bm (ag mL (ab (am aD (ac 0) (eC (.int 3))) (ab (eC (.int 24)) ah))) (gN 1))
 (bb (bw 1 [0] (fo (ac 1)) (gN 0) tT (am oMod (am aT (am aD (ac 1) (eC (.int 2))) (ac 0)) (eC (.int 24))))))
def jb:MF:=dE 1 2 gF
def eT:MS:=(sk 6 4 (bw 1 [5] (bz (ac 3)) (gN 0) tT (am aT (am aO (eC (.int 24)) (ac 1)) (ac 0))))
def gI:MS:=(aF (bm (ag f7 (ab (ac 0) ah)) (gN 2))
 (aF (bm (ag jb (ab (ac 0) ah)) (gN 3))
 (aF (fb 6 4 (bK ah))
 (aF (i8 (fE (am ja (ac 1) (am aD (ac 2) (eC (.int 0)))) (am ja (ac 1) (am aD (ac 2) (eC (.int 1))))) (gN 5)
 eT)
 (oO 6 [4] (bb (ac 4)))))))
def gA:MF:=dE 2 12 gI
def dX:MS:=(jx (bw 1 [] (fo (am aO (eC (.int 24)) (ag d8 (ab (ac 1) ah)))) (gN 0) tT (bK ah)) gA (bb (bw 1 [] (bz (ac 2)) (gN 0) tT (ag je (ab (ac 0) ah)))))
def bR:MF:=dE 2 6 dX
def iX:MS:=(aF (bm (am oMod (ac 0) (eC (.int 24))) (gN 2))
 (bb (am aT (am kU (ac 0) (ac 2)) (am oMod (am aT (ac 2) (ac 1)) (eC (.int 24))))))
def bS:MF:=dE 2 3 iX
def eS:MS:=(aF (bm (bK (ab (ag bS (ab (ac 0) (ab (eC (.int 1)) ah))) (ab (ag bS (ab (ac 0) (ab (gW wj (eC (.int 1))) ah))) ah))) (gN 2))
 (aF (bm (bK (ab (am aT (ac 0) (eC (.int 24))) (ab (am kU (ac 0) (eC (.int 24))) ah))) (gN 3))
 (bb (am aT (ac 2) (bw 1 [1] (bz (ac 3)) (gN 0) (tV (bD oLe oLt (eC (.int 0)) (ac 0) (ac 1))) (ac 0))))))
def gz:MF:=dE 2 4 eS
def cN:MS:=(gp (j5 (tV (BY 7 2 true (ac 6))) (tV (am oEq (am aD (ac 0) (ac 6)) (am aD (ac 0) (ac 1))))) (aF (wK 7 2 (ac 6) (ac 5))
 (ka 7 3 (ac 6))) cH)
def dM:MS:=(aF (bm (vH 7 [3] (am aD (ac 3) (ac 4))) (gN 5))
 (aF (i8 (bz (ag gz (ab (ac 5) (ab (ag d8 (ab (ac 0) ah)) ah)))) (gN 6)
 cN)
 (CQ 4 (oI fun u v=>some (.int (u+v))) (eC (.int 1)))))
def cG:MS:=(lO (fb 7 2 (yk (ac 1) (eC .non)))
 (lO (fb 7 3 (bK (ab (ac 1) ah)))
 (lO (bm (eC (.int 0)) (gN 4))
 (lO (gn (tV (am oLt (ac 4) (vH 7 [3] (ag d8 (ab (ac 3) ah)))))
 dM)
 (Ao 7 2)))))
def bh:MF:=Cr 2 14 cG
def eR:MS:=(bb (am cQ (am aD (ac 0) (eC (.int 0))) (am aD (ac 0) (eC (.int 1)))))
def bv:MF:=dE 1 1 eR
def iF:MS:=(aF (bm (ag bv (ab (am aD (ac 1) (eC (.int 0))) ah)) (gN 2))
 (aF (bm (ag d8 (ab (bw 1 [2] (bz (ac 0)) (gN 0) (tV (bD oLt oLe (eC (.int 0)) (ac 0) (ac 1))) (ac 0)) ah)) (gN 3))
 (bb (am aT (am aO (eC (.int 24)) (ac 3)) (am oMod (ag bv (ab (am aD (ac 1) (eC (.int 1))) ah)) (eC (.int 24)))))))
def bx:MF:=dE 2 4 iF
def cX:MS:=(bb (aP (ab (aP (ab (am aT (am aO (eC (.int 2)) (ac 0)) (eC (.int 1))) (ab (eC (.int 2)) ah))) (ab (aP (ab (am aT (am aO (eC (.int 2)) (ac 1)) (eC (.int 1))) (ab (eC (.int 2)) ah))) ah))))
def eg:MF:=dE 2 2 cX
def cM:MS:=(aF (gp (tV (am oEq (ag d8 (ab (ac 0) ah)) (eC (.int 1)))) (bb (bK ah)) cH)
 (bb (bw 1 [1] (bz (ac 0)) (gN 0) tT (ag eg (ab (am aD (ac 1) (am cQ (ac 0) (eC (.int 24)))) (ab (am oMod (ac 0) (eC (.int 24))) ah))))))
def bI:MF:=dE 2 2 cM
def cj:MS:=(aF (bm (am oMod (ac 0) (ac 1)) (gN 2))
 (aF (bm (ac 1) (gN 0))
 (bm (ac 2) (gN 1))))
def cO:MS:=(aF (gn (tV (am iP (ac 1) (eC (.int 0))))
 cj)
 (bb (ag rj (ab (ac 0) ah))))
def cI:MF:=dE 2 3 cO
def jU:MS:=(aF (bm (ag cI (ab (ac 0) (ab (ac 1) ah))) (gN 2))
 (bb (aP (ab (am cQ (ac 0) (ac 2)) (ab (am cQ (ac 1) (ac 2)) ah)))))
def jE:MF:=dE 2 3 jU
def lC:MS:=(bb (ag jE (ab (am aT (am aO (am aD (ac 0) (eC (.int 0))) (am aD (ac 1) (eC (.int 1)))) (am aO (am aD (ac 1) (eC (.int 0))) (am aD (ac 0) (eC (.int 1))))) (ab (am aO (am aD (ac 0) (eC (.int 1))) (am aD (ac 1) (eC (.int 1)))) ah))))
def eN:MF:=dE 2 2 lC
def fJ:MS:=(bb (ag jE (ab (am oMod (am aD (ac 0) (eC (.int 0))) (am aO (eC (.int 24)) (am aD (ac 0) (eC (.int 1))))) (ab (am aD (ac 0) (eC (.int 1))) ah))))
def b8:MF:=dE 1 1 fJ
def m8:MS:=(bb (aP (ab (gW wj (am aD (ac 0) (eC (.int 0)))) (ab (am aD (ac 0) (eC (.int 1))) ah))))
def fg:MF:=dE 1 1 m8
def gG:MS:=(aF (bm (aP (ab (am cQ (eC (.int 24)) (eC (.int 2))) (ab (eC (.int 1)) ah))) (gN 1))
 (bb (ag eN (ab (ag b8 (ab (ag eN (ab (ac 0) (ab (ac 1) ah))) ah)) (ab (ag fg (ab (ac 1) ah)) ah)))))
def gy:MF:=dE 1 2 gG
def cY:MS:=(aF (fb 4 2 (bK ah))
 (aF (gp (tV (am iP (am aD (ac 0) (eC (.int 0))) (am aD (ac 1) (eC (.int 0))))) (ka 4 2 (aP (ab (eC (.str "out")) (ab (am aD (ac 1) (eC (.int 0))) ah)))) cH)
 (aF (bm (ag gy (ab (ag eN (ab (am aD (ac 1) (eC (.int 1))) (ab (ag fg (ab (am aD (ac 0) (eC (.int 1))) ah)) ah))) ah)) (gN 3))
 (aF (gp (tV (am iP (am aD (ac 3) (eC (.int 0))) (eC (.int 0)))) (ka 4 2 (aP (ab (eC (.str "on")) (ab (ac 3) ah)))) cH)
 (oO 4 [2] (bb (ac 2)))))))
def eB:MF:=dE 2 8 cY
def bP:MS:=(aF (ka 4 2 (ac 3))
 (bm (AI (ac 0) (ac 3)) (gN 3)))
def dW:MS:=(aF (fb 4 2 (bK ah))
 (aF (bm (ac 1) (gN 3))
 (aF (gn (tV (gW dP (ac 3)))
 bP)
 (oO 4 [2] (bb (gW Cz (ac 2)))))))
def cv:MF:=dE 2 8 dW
def jT:MS:=(sk 10 7 (ag eB (ab (ac 8) (ab (ac 9) ah))))
def rJ:MS:=(aF (bm (ag dH (ab (ac 0) ah)) (gN 3))
 (aF (fb 10 4 (ag bh (ab (ag bR (ab (ac 0) (ab (ac 3) ah))) (ab (ag bx (ab (ac 3) (ab (ac 1) ah))) ah))))
 (wL 10 4 (aF (bm (ag bx (ab (ac 3) (ab (ac 2) ah))) (gN 5))
 (aF (gp (tV (am (BA true) (ac 5) (ac 4))) (bb (eC .non)) cH)
 (aF (bm (am aT (am aT (bK (ab (ac 1) ah)) (ag bI (ab (ag cv (ab (ac 4) (ab (ac 5) ah))) (ab (ac 3) ah)))) (bK (ab (ac 2) ah))) (gN 6))
 (aF (fb 10 7 (bK ah))
 (aF (i8 (BP (ac 6) (gY (ac 6) (fZ (eC (.int 1))) i9)) (gT (cf (gN 8) (cf (gN 9) iT)))
 jT)
 (oO 10 [7] (bb (ag je (ab (ac 7) ah))))))))))))
def oa:MF:=dE 3 20 rJ
def fH:MS:=(aF (bm (ag dH (ab (ac 0) ah)) (gN 3))
 (bb (zS (ag bx (ab (ac 3) (ab (ac 2) ah))) (ag bh (ab (ag bR (ab (ac 0) (ab (ac 3) ah))) (ab (ag bx (ab (ac 3) (ab (ac 1) ah))) ah))))))
def dq:MF:=dE 3 4 fH
def iE:MS:=(bb (am oEq (aP (ab (am aD (ac 0) (eC (.int 0))) (ab (ag b8 (ab (am aD (ac 0) (eC (.int 1))) ah)) ah))) (aP (ab (am aD (ac 1) (eC (.int 0))) (ab (ag b8 (ab (am aD (ac 1) (eC (.int 1))) ah)) ah)))))
def kg:MF:=dE 2 2 iE
def gi:MS:=(aF (gp (tV (am oEq (am aD (ac 1) (eC (.int 0))) (eC (.str "out")))) (bb (aP (ab (am aD (ac 1) (eC (.int 1))) (ab (am aD (ac 0) (eC (.int 1))) ah)))) cH)
 (bb (aP (ab (am aD (ac 0) (eC (.int 0))) (ab (ag b8 (ab (ag eN (ab (am aD (ac 0) (eC (.int 1))) (ab (am aD (ac 1) (eC (.int 1))) ah))) ah)) ah)))))
def f9:MF:=dE 2 2 gi
def rK:MS:=(bb (am xv (am aD (ac 0) (eC (.int 0))) (eC (.int 0))))
def q9:MF:=dE 1 1 rK
def bZ:MS:=(bb (am oLe (ag rj (ab (am aD (ac 0) (eC (.int 0))) ah)) (am aO (eC (.int 24)) (am aD (ac 0) (eC (.int 1))))))
def eK:MF:=dE 1 1 bZ
def iW:MS:=(bb (pB (ag (lq .tuple) (ab (ac 1) ah)) (am oEq (ag d8 (ab (ac 1) ah)) (ac 0))))
def cu:MF:=dE 2 2 iW
def fI:MS:=(bb (pB (am Co (ac 1) (eC (.int 1))) (am oEq (ag cI (ab (ac 0) (ab (ac 1) ah))) (eC (.int 1)))))
def ie:MF:=dE 2 2 fI
def m9:MS:=(bb (pB (ag (lq .int) (ab (ac 0) ah)) (Dp (ag (lq .bool) (ab (ac 0) ah)))))
def mB:MF:=dE 1 1 m9
def dU:MS:=(aF (gp (cq (tV (ag cu (ab (eC (.int 2)) (ab (ac 0) ah))))) (bb (eC (.bl false))) cH)
 (aF (gp (cq (tV (ag vD (ab (bw 1 [] (bz (ac 0)) (gN 0) tT (ag mB (ab (ac 0) ah))) ah)))) (bb (eC (.bl false))) cH)
 (bb (ag ie (ab (am aD (ac 0) (eC (.int 0))) (ab (am aD (ac 0) (eC (.int 1))) ah))))))
def cR:MF:=dE 1 1 dU
def eZ:MS:=(aF (gp (la (cq (tV (ag cu (ab (eC (.int 2)) (ab (ac 0) ah))))) (cq (tV (ag cR (ab (am aD (ac 0) (eC (.int 1))) ah))))) (bb (eC (.bl false))) cH)
 (aF (gp (tV (am oEq (am aD (ac 0) (eC (.int 0))) (eC (.str "out")))) (bb (ag q9 (ab (am aD (ac 0) (eC (.int 1))) ah))) cH)
 (bb (pB (am oEq (am aD (ac 0) (eC (.int 0))) (eC (.str "on"))) (ag eK (ab (am aD (ac 0) (eC (.int 1))) ah))))))
def eY:MF:=dE 1 1 eZ
def dN:MS:=(aF (bm (ag bx (ab (ac 0) (ab (ac 1) ah))) (gN 3))
 (aF (gp (tV (am oEq (am aD (ac 2) (eC (.int 0))) (eC (.str "out")))) (aF (bm (ag bx (ab (ac 0) (ab (ag f9 (ab (ac 1) (ab (ac 2) ah))) ah))) (gN 4))
 (bb (pA (ab (ag mL (ab (ac 3) (ab (ac 4) ah))) (ab (am aT (ag kX (ab (ac 3) (ab (ac 4) ah))) (eC (.int 1))) (ab (eC (.int 24)) ah)))))) cH)
 (aF (bm (ag bv (ab (am aD (ac 1) (eC (.int 1))) ah)) (gN 5))
 (aF (bm (ag bv (ab (ag eN (ab (am aD (ac 1) (eC (.int 1))) (ab (am aD (ac 2) (eC (.int 1))) ah))) ah)) (gN 4))
 (bb (bw 1 [3,5] (fE (ag mL (ab (ac 5) (ab (ac 4) ah))) (am aT (ag kX (ab (ac 5) (ab (ac 4) ah))) (eC (.int 1)))) (gN 0) tT (ag bS (ab (ac 1) (ab (am kU (ac 0) (ac 2)) ah)))))))))
def fh:MF:=dE 3 6 dN
def fu:MS:=(aF (bm (am aD (ac 5) (ag bx (ab (ac 4) (ab (ac 6) ah)))) (gN 8))
 (aF (gp (cq (tV (ag vD (ab (bw 1 [8,5] (bz (ag fh (ab (ac 4) (ab (ac 6) (ab (ac 7) ah))))) (gN 0) tT (am oEq (am aD (ac 2) (ac 0)) (ac 1))) ah)))) (bb (eC (.bl false))) cH)
 (bm (ag f9 (ab (ac 6) (ab (ac 7) ah))) (gN 6))))
def gg:MS:=(aF (gp (la (cq (tV (ag (lq .tuple) (ab (ac 3) ah)))) (cq (tV (ag vD (ab (bw 1 [] (bz (ac 3)) (gN 0) tT (ag eY (ab (ac 0) ah))) ah))))) (bb (eC (.bl false))) cH)
 (aF (bm (ag dH (ab (ac 0) ah)) (gN 4))
 (aF (bm (ag bR (ab (ac 0) (ab (ac 4) ah))) (gN 5))
 (aF (bm (ac 1) (gN 6))
 (aF (i8 (bz (ac 3)) (gN 7)
 fu)
 (bb (ag kg (ab (ac 6) (ab (ac 2) ah)))))))))
def d5:MF:=dE 4 9 gg
end DL.Pg
namespace DL.Lw
open PySem DL DL.Pg
def jh:MS:=(bb (am oMod (am oMod (am aO (ac 0) (eC (.int 48271))) (ac 1)) (ac 2)))
def aV:MF:=dE 3 3 jh
def eV:MS:=(aF (bm (ag aV (ab (ac 0) (ab (eC (.int 9973)) (ab (ac 1) ah)))) (gN 2))
 (aF (bm (am aT (am aT (ac 2) (eC (.int 1))) (ag aV (ab (ac 0) (ab (eC (.int 9967)) (ab (am kU (ac 1) (ac 2)) ah))))) (gN 3))
 (aF (bm (am aT (eC (.int 1)) (ag aV (ab (ac 0) (ab (eC (.int 9949)) (ab (eC (.int 24)) ah))))) (gN 4))
 (aF (gp (tV (am oEq (am oMod (ac 0) (eC (.int 4))) (eC (.int 0)))) (bm (eC (.int 24)) (gN 4)) cH)
 (bb (aP (ab (ac 2) (ab (ac 3) (ab (ag aV (ab (ac 0) (ab (eC (.int 9941)) (ab (eC (.int 24)) ah)))) (ab (ac 4) ah))))))))))
def cK:MF:=dE 2 5 eV
def jV:MS:=(bb (ag je (ab (bw 1 [1,0] (fo (ag aV (ab (ac 0) (ab (eC (.int 9931)) (ab (am aT (ac 2) (eC (.int 1))) ah))))) (gN 0) tT (ag cK (ab (am aT (ac 2) (am aO (eC (.int 11)) (ac 0))) (ab (ac 1) ah)))) ah)))
def gB:MF:=dE 3 3 jV
def gM:MS:=(aF (bm (ac 0) (gT (cf (gN 3) (cf (gN 4) (cf (gN 5) (cf (gN 6) iT))))))
 (aF (gp (la (tV (am oLt (am aD (ac 1) (eC (.int 0))) (am aO (ac 3) (am aD (ac 1) (eC (.int 1)))))) (tV (am Co (am aD (ac 1) (eC (.int 0))) (am aO (ac 4) (am aD (ac 1) (eC (.int 1))))))) (bb (eC (.bl false))) cH)
 (bb (am oLt (am oMod (am kU (am aD (ac 2) (eC (.int 0))) (am aO (ac 5) (am aD (ac 2) (eC (.int 1))))) (am aO (eC (.int 24)) (am aD (ac 2) (eC (.int 1))))) (am aO (ac 6) (am aD (ac 2) (eC (.int 1))))))))
def dI:MF:=dE 3 7 gM
def iY:MS:=(bb (ag je (ab (bw 2 [1] (mH (ac 0)) (gT (cf (gN 0) (cf (gN 1) iT))) (tV (ag dI (ab (ac 1) (ab (am aD (ac 2) (eC (.int 0))) (ab (am aD (ac 2) (eC (.int 1))) ah))))) (ac 0)) ah)))
def bA:MF:=dE 2 2 iY
end DL.Lw
namespace DL.K06
open PySem DL DL.Pg DL.Lw
def dB:MS:=(CN 2 3 (ac 3) (am oMod (ac 2) (ac 3)))
def cZ:MS:=(aF (bm (ag rj (ab (ac 0) ah)) (gN 2))
 (aF (bm (ac 1) (gN 3))
 (aF (gn (tV (am xv (ac 3) (eC (.int 0))))
 dB)
 (bb (aP (ab (am cQ (ac 0) (ac 2)) (ab (am cQ (ac 1) (ac 2)) ah)))))))
def aH:MF:=dE 2 4 cZ
def eU:MS:=(aF (bm (ag aH (ab (am aT (eC (.int 1)) (ag aV (ab (ac 0) (ab (eC (.int 9929)) (ab (am aT (am aO (eC (.int 4)) (ac 1)) (eC (.int 8))) ah))))) (ab (eC (.int 4)) ah))) (gN 2))
 (bb (aP (ab (ac 2) (ab (ag aH (ab (ag aV (ab (ac 0) (ab (eC (.int 9923)) (ab (eC (.int 72)) ah)))) (ab (eC (.int 3)) ah))) ah)))))
def cJ:MF:=dE 2 3 eU
def dY:MS:=(aF (bm (am oMod (am cQ (ac 1) (eC (.int 8))) (am aT (ag d8 (ab (ac 0) ah)) (eC (.int 1)))) (gN 2))
 (aF (bm (bK (ab (aP (ab (eC (.str "out")) (ab (aP (ab (am aT (eC (.int 1)) (am oMod (am cQ (ac 1) (eC (.int 64))) (eC (.int 9)))) (ab (eC (.int 2)) ah))) ah))) (ab (aP (ab (eC (.str "on")) (ab (aP (ab (am kU (am oMod (am cQ (ac 1) (eC (.int 64))) (eC (.int 49))) (eC (.int 24))) (ab (eC (.int 1)) ah))) ah))) (ab (aP (ab (eC (.str "on")) (ab (aP (ab (eC (.int 25)) (ab (eC (.int 1)) ah))) ah))) (ab (aP (ab (eC (.str "out")) (ab (aP (ab (eC (.int 0)) (ab (eC (.int 1)) ah))) ah))) ah))))) (gN 3))
 (aF (bm (am aD (ac 3) (am oMod (ac 1) (eC (.int 4)))) (gN 3))
 (aF (fb 5 4 (bK (ab (am aT (am aT (gY (ac 0) i9 (fZ (ac 2))) (aP (ab (ac 3) ah))) (gY (ac 0) (fZ (ac 2)) i9)) (ab (am aT (gY (ac 0) i9 (fZ (ac 2))) (gY (ac 0) (fZ (am aT (ac 2) (eC (.int 1)))) i9)) (ab (am aT (gY (ac 0) i9 (fZ (ac 2))) (aP (ab (eC .non) ah))) (ab (gW tN (ac 0)) ah))))))
 (aF (ka 5 4 (ag yf (ab (ac 0) ah)))
 (oO 5 [4] (aF (bm (am aT (ac 4) (bK (ab (am aT (am aT (gY (ac 0) i9 (fZ (ac 2))) (aP (ab (ac 3) ah))) (gY (ac 0) (fZ (am aT (ac 2) (eC (.int 1)))) i9)) (ab (am aT (ac 0) (aP (ab (aP (ab (eC (.str "on")) (ab (aP (ab (eC (.int 24)) (ab (eC (.int 1)) ah))) ah))) ah))) (ab (am aT (ac 0) (aP (ab (aP (ab (eC (.str "on")) (ab (aP (ab (eC (.int 2)) (ab (eC (.int 2)) ah))) ah))) ah))) ah))))) (gN 4))
 (bb (am aD (ac 4) (am oMod (am cQ (ac 1) (eC (.int 8192))) (eC (.int 8))))))))))))
def dS:MF:=dE 2 10 dY
def ck:MS:=(aF (gp (la (cq (tV (ag (lq .tuple) (ab (ac 0) ah)))) (tV (am iP (ag d8 (ab (ac 0) ah)) (eC (.int 2))))) (bb (eC (.bl false))) cH)
 (aF (gp (tV (bw 1 [] (bz (ac 0)) (gN 0) (la (cq (tV (ag (lq .int) (ab (ac 0) ah)))) (tV (ag (lq .bool) (ab (ac 0) ah)))) (ac 0))) (bb (eC (.bl false))) cH)
 (bb (pB (am xv (am aD (ac 0) (eC (.int 1))) (eC (.int 0))) (am oEq (ag aH (ab (am aD (ac 0) (eC (.int 0))) (ab (am aD (ac 0) (eC (.int 1))) ah))) (ac 0))))))
def bu:MF:=dE 1 1 ck
def gJ:MS:=(bb (ag aH (ab (am aT (am aO (am aD (ac 0) (eC (.int 0))) (am aD (ac 1) (eC (.int 1)))) (am aO (am aD (ac 1) (eC (.int 0))) (am aD (ac 0) (eC (.int 1))))) (ab (am aO (am aD (ac 0) (eC (.int 1))) (am aD (ac 1) (eC (.int 1)))) ah))))
def cC:MF:=dE 2 2 gJ
def gK:MS:=(aF (bm (ag mL (ab (am aO (am aD (ac 0) (eC (.int 0))) (am aD (ac 1) (eC (.int 1)))) (ab (am aO (am aD (ac 1) (eC (.int 0))) (am aD (ac 0) (eC (.int 1)))) ah))) (gN 3))
 (aF (bm (ag kX (ab (am aO (am aD (ac 0) (eC (.int 0))) (am aD (ac 1) (eC (.int 1)))) (ab (am aO (am aD (ac 1) (eC (.int 0))) (am aD (ac 0) (eC (.int 1)))) ah))) (gN 4))
 (aF (bm (am aO (am aD (ac 0) (eC (.int 1))) (am aD (ac 1) (eC (.int 1)))) (gN 5))
 (aF (bm (bw 1 [3,5,4] (fE (eC (.int 1)) (am aT (am aO (eC (.int 2)) (ac 2)) (eC (.int 3)))) (gN 0) (tV (bD oLe oLe (am aO (eC (.int 2)) (ac 1)) (am aO (ac 0) (ac 2)) (am aO (eC (.int 2)) (ac 3)))) (aP (ab (ac 0) (ab (eC (.int 2)) ah)))) (gN 6))
 (bb (am aT (ac 6) (bK (ab (ac 0) (ab (ac 1) ah)))))))))
def fi:MF:=dE 3 7 gK
def fK:MS:=(aF (bm (am aO (am aO (eC (.int 2)) (am aD (ac 0) (eC (.int 0)))) (am aD (ac 1) (eC (.int 1)))) (gN 4))
 (aF (bm (am aT (ac 4) (am aO (am aO (eC (.int 2)) (am aD (ac 1) (eC (.int 0)))) (am aD (ac 0) (eC (.int 1))))) (gN 5))
 (gp (tV (bD oLe oLe (ag mL (ab (ac 4) (ab (ac 5) ah))) (am aO (am aO (ac 3) (am aD (ac 0) (eC (.int 1)))) (am aD (ac 1) (eC (.int 1)))) (ag kX (ab (ac 4) (ab (ac 5) ah))))) (ka 6 2 (aP (ab (ac 3) (ab (eC (.int 2)) ah)))) cH)))
def iG:MS:=(aF (fb 6 2 (bK (ab (ac 0) (ab (ag cC (ab (ac 0) (ab (ac 1) ah))) ah))))
 (aF (i8 (fE (gW wj (eC (.int 48))) (eC (.int 97))) (gN 3)
 fK)
 (oO 6 [2] (bb (bw 1 [] (bz (ac 2)) (gN 0) tT (ag aH (ab (am oMod (am aD (ac 0) (eC (.int 0))) (am aO (eC (.int 24)) (am aD (ac 0) (eC (.int 1))))) (ab (am aD (ac 0) (eC (.int 1))) ah))))))))
def ga:MF:=dE 2 12 iG
def dC:MS:=(aF (gp (la (cq (tV (ag (lq .tuple) (ab (ac 7) ah)))) (la (tV (am iP (ag d8 (ab (ac 7) ah)) (eC (.int 2)))) (cq (tV (ag bu (ab (am aD (ac 7) (eC (.int 1))) ah)))))) (bb (eC .non)) cH)
 (aF (gp (j5 (tV (am oEq (am aD (ac 7) (eC (.int 0))) (eC (.str "out")))) (tV (am xv (am aD (am aD (ac 7) (eC (.int 1))) (eC (.int 0))) (eC (.int 0))))) (aF (bm (bw 1 [6] (bz (ag fi (ab (ac 5) (ab (am aD (ac 7) (eC (.int 1))) (ab (ac 3) ah))))) (gN 0) tT (aP (ab (ac 0) (ab (ac 1) ah)))) (gN 8))
 (bm (am aD (ac 7) (eC (.int 1))) (gN 5))) (gp (j5 (tV (am oEq (am aD (ac 7) (eC (.int 0))) (eC (.str "on")))) (tV (am oLe (ag rj (ab (am aD (am aD (ac 7) (eC (.int 1))) (eC (.int 0))) ah)) (am aO (eC (.int 24)) (am aD (am aD (ac 7) (eC (.int 1))) (eC (.int 1))))))) (aF (bm (bw 1 [5] (bz (ag ga (ab (ac 6) (ab (am aD (ac 7) (eC (.int 1))) ah)))) (gN 0) tT (aP (ab (ac 1) (ab (ac 0) ah)))) (gN 8))
 (aF (bm (ag cC (ab (ac 6) (ab (am aD (ac 7) (eC (.int 1))) ah))) (gN 6))
 (bm (ag aH (ab (am oMod (am aD (ac 6) (eC (.int 0))) (am aO (eC (.int 24)) (am aD (ac 6) (eC (.int 1))))) (ab (am aD (ac 6) (eC (.int 1))) ah))) (gN 6)))) (bb (eC .non))))
 (gp (tV (bw 1 [4,0] (bz (ac 8)) (gN 0) (tV (am iP (ag bA (ab (ac 2) (ab (ac 0) ah))) (ac 1))) (ac 0))) (bb (eC .non)) cH)))
def dO:MS:=(aF (gp (cq (tV (ag (lq .tuple) (ab (ac 2) ah)))) (bb (eC .non)) cH)
 (aF (bm (ag bA (ab (ac 0) (ab (ac 1) ah))) (gN 4))
 (aF (bm (ac 1) (gT (cf (gN 5) (cf (gN 6) iT))))
 (aF (i8 (bz (ac 2)) (gN 7)
 dC)
 (bb (aP (ab (ac 5) (ab (ac 6) ah))))))))
def cb:MF:=dE 4 9 dO
def lz:MS:=(ka 11 7 (ag dS (ab (yj (ac 6) (aP (ab (aP (ab (eC (.str "out")) (ab (am aD (ac 5) (eC (.int 0))) ah))) ah))) (ab (ac 8) ah))))
def lx:MS:=(aF (bm (ag d5 (ab (ac 2) (ab (ac 4) (ab (ac 5) (ab (ac 9) ah))))) (gN 10))
 (gp (la (cq (tV (ag (lq .bool) (ab (ac 10) ah)))) (tV (am iP (ac 10) (am oEq (ag cb (ab (ac 2) (ab (ac 4) (ab (ac 9) (ab (eC (.int 30)) ah))))) (ac 5))))) (bb (eC (.bl false))) cH))
def lA:MS:=(aF (bm (ag oa (ab (ac 2) (ab (ac 4) (ab (ac 5) ah)))) (gN 6))
 (aF (gp (tV (am oEq (gW wl (ac 6)) (ag dq (ab (ac 2) (ab (ac 4) (ab (ac 5) ah)))))) (bb (eC (.bl false))) cH)
 (aF (gp (tV (gW dP (ac 6))) (gp (la (tV (am iP (ag cb (ab (ac 2) (ab (ac 4) (ab (ac 6) (ab (eC (.int 9)) ah))))) (ac 5))) (tV (gW (j3 true) (ag d5 (ab (ac 2) (ab (ac 4) (ab (ac 5) (ab (ac 6) ah)))))))) (bb (eC (.bl false))) cH) cH)
 (aF (fb 11 7 (bK (ab (eC .non) (ab (aP ah) (ab (aP (ab (aP (ab (eC (.str "on")) (ab (aP (ab (eC (.int 24)) (ab (eC (.int 1)) ah))) ah))) ah)) ah)))))
 (aF (i8 (bz (gY (ac 0) (fZ (eC (.int 6))) (fZ (eC (.int 10))))) (gN 8)
 lz)
 (oO 11 [7] (i8 (bz (ac 7)) (gN 9)
 lx)))))))
def uP:MS:=(i8 (bz (ac 3)) (gN 5)
 lA)
def lB:MS:=(aF (bm (ag gB (ab (ac 1) (ab (eC (.int 6)) (ab (eC (.int 5)) ah)))) (gN 2))
 (aF (bm (bw 1 [] (bz (gY (ac 0) (fZ (eC (.int 2))) (fZ (eC (.int 6))))) (gN 0) tT (ag cJ (ab (ac 0) (ab (eC (.int 6)) ah)))) (gN 3))
 (i8 (bz (gW (AS 2) (ac 3))) (gN 4)
 uP)))
def uQ:MS:=(aF (i8 (bz (gW (AS 2) (ac 0))) (gN 1)
 lB)
 (bb (eC (.bl true))))
def q8:MF:=dE 1 22 uQ
end DL.K06
namespace DL.Pg
open PySem DL
structure Pc where
 i:Nat
 o:Nat
 b:Nat
 w:Nat
def Pc.ok (p:Pc):Prop:=p.i<p.o/\p.o<=1000/\p.b<24/\1<=p.w/\p.w<=24
noncomputable def pD (p:Pc):D:=.tup [.int p.i,.int p.o,.int p.b,.int p.w]
def bj (s:List Pc):D:=.tup (s.map pD)
noncomputable def Pc.at (p:Pc)(t:Nat):Bool:=decide ((t+24-p.b) % 24<p.w)
def Pc.has (p:Pc)(r t:Nat):Bool:=decide (p.i<=r)&&decide (r<p.o)&&p.at t
def B4 (s:List Pc)(r t:Nat):Nat:=s.countP fun p=>p.has r t
noncomputable def oH (p:Pc):List Int:=(List.range p.w).map fun k=>(((p.b+k) % 24:Nat):Int)
def wV {p:Pc}(h:p.ok):f7 [pD p]=some (.tup [.int p.i,.int p.o]):=by
 have h1:¬ ((0:Int)>p.i):=by omega
 have h2:¬ ((p.i:Int)>p.o):=by have:=h.1;omega
 simp[f7,dE,kA,aF,bm,bb,ag,ab,ah,am,ac,slot,eC,aD,sL,kX,gN,aP,pD];have:=h.1;omega
def nQ {n:Nat}{x:D}(h:x∈cw n):∃k:Nat,k<n/\x=.int k:=by
 unfold cw at h;obtain⟨k,h1,h2⟩:=List.mem_map.mp h;exact⟨k,List.mem_range.mp h1,h2.symm⟩
def qA {a:ME}{δ:Ev}{j:Int}(h:a δ=some (.int j))(h1 : -1073741824<j/\j<1073741824):fo a δ=some (cw j.toNat):=by
 unfold fo;rw[h];simp only[Option.bind_some];rw[if_pos h1]
def nP {a:ME}{δ:Ev}{n:Nat}(h:a δ=some (.int n))(h1:n<1073741824):fo a δ=some (cw n):=by
 have e:=qA h ⟨by omega,by omega⟩
 rwa [Int.toNat_natCast] at e
def yY {p:Pc}(h:p.ok):jb [pD p]=some (.lst ((oH p).map D.int)):=by
 obtain⟨_,_,_,h4,h5⟩:=h;have e0:gF [some (pD p),none]=bb (bw 1 [0] (fo (ac 1)) (gN 0) tT (am oMod (am aT (am aD (ac 1) (eC (.int 2))) (ac 0)) (eC (.int 24)))) [some (pD p),some (.int p.w)]:=by
  unfold gF;refine ap (aG (d:=.int p.w) ?_ rfl);have:¬ ((24:Int)<p.w):=by omega
  simp[ag,ab,ah,am,ac,slot,eC,aD,sL,mL,pD];omega
 refine bq rfl (e0.trans ?_);have hi:fo (ac 1) [some (pD p),some (.int p.w)]=some (cw p.w):=nP rfl (by omega);refine aK ((bO (fun x=>match x with | .int k=>some (.int ((p.b+k) % 24)) | _=>none) hi (by simp[cw];omega) fun x hx=>?_).trans ?_)
 ·obtain⟨k,_,rfl⟩:=nQ hx;refine⟨[some (.int k),some (pD p)],rfl,.inl ⟨rfl,.int ((p.b+k) % 24),?_,rfl⟩⟩;simp[am,ac,slot,eC,aD,sL,pD,aT,oMod,oI]
 ·refine congrArg (fun l=>some (D.lst l)) ?_;unfold oH cw;generalize List.range p.w=l
  induction l with
  | nil=>rfl
  | cons a l ih =>
    have e:(((p.b+a) % 24:Nat):Int)=((p.b:Int)+(a:Int)) % 24:=by omega
    simp only[List.map_cons,List.filterMap_cons];rw[ih,e]
def ints_map:∀(l:List Int),intsOf (l.map D.int)=some l
 | []=>rfl
 | a::l=>by simp[intsOf,ints_map l]
def ni (b:Int):∀(ts r:List Int) (t:Nat),(∀z∈ts,0<=z/\z<r.length)->(iq r ts b).getD t 0=r.getD t 0+b*(ts.count (t:Int):Nat)
 | [],r,t,_=>by simp[iq]
 | z::ts,r,t,h=>by
   obtain⟨z0,z1⟩:=h z List.mem_cons_self;have e:iq r (z::ts) b=iq (r.set z.toNat (r.getD z.toNat 0+b)) ts b:=rfl;rw[e,ni b ts _ t fun y hy=>by rw[List.length_set];exact h y (List.mem_cons_of_mem _ hy),List.count_cons];by_cases hz:z=t
   ·subst hz;have:t<r.length:=by omega
    simp[List.getD_eq_getElem?_getD,List.getElem?_set,this,Int.mul_add];omega
   ·have h1:z.toNat≠t:=by omega
    have h2:(z==(t:Int))=false:=by simpa using hz
    simp[List.getD_eq_getElem?_getD,List.getElem?_set,h1,h2]
def rE:∀b,b<24->∀w,w<25->∀t,t<24->((List.range w).map fun k=>(b+k) % 24).count t=if (t+24-b) % 24<w then 1 else 0:=by decide +kernel
noncomputable def rowOf (f:Nat->Int):List Int:=(List.range 24).map f
def qy {f g:Nat->Int}(h:∀t,t<24->f t=g t):rowOf f=rowOf g:=List.map_congr_left fun t ht=>h t (List.mem_range.mp ht)
def Left (s:List Pc)(e:Nat)(es:List Nat):Prop:=∀p∈s,(p.i<e\/p.i∈e::es)/\(p.o<e\/p.o∈e::es)
def Left.next {s:List Pc}{e e':Nat}{es:List Nat}(h:Left s e (e'::es))(hs:(e::e'::es).Pairwise (·<·)):Left s e' es:=by
 have hlt:e<e':=(List.pairwise_cons.mp hs).1 e' List.mem_cons_self;have key:∀x,x<e\/x∈e::e'::es->x<e'\/x∈e'::es:=fun x hx=>by
  rcases hx with hx | hx
  ·exact .inl (by omega)
  ·rcases List.mem_cons.mp hx with rfl | hx
   ·exact .inl hlt
   ·exact .inr hx
 exact fun p hp=>⟨key _ (h p hp).1,key _ (h p hp).2⟩
def Left.iff {s:List Pc}{e e':Nat}{es:List Nat}(h:Left s e (e'::es))(hs:(e::e'::es).Pairwise (·<·)):∀p∈s,(p.i<e'↔p.i<=e)/\(p.o<e'↔p.o<=e):=by
 have hlt:e<e':=(List.pairwise_cons.mp hs).1 e' List.mem_cons_self;have h2:=(List.pairwise_cons.mp (List.pairwise_cons.mp hs).2).1;have key:∀x,x<e\/x∈e::e'::es->(x<e'↔x<=e):=fun x hx=>by
  rcases hx with hx | hx
  ·omega
  ·rcases List.mem_cons.mp hx with rfl | hx
   ·omega
   ·rcases List.mem_cons.mp hx with rfl | hx
    ·omega
    ·have:=h2 x hx;omega
 exact fun p hp=>⟨key _ (h p hp).1,key _ (h p hp).2⟩
def im (s:List Pc)(e:Nat):List Int:=rowOf fun t=>(B4 s e t:Int)
noncomputable def ii (s:List Pc):List Nat:=0::s.flatMap fun p=>[p.i,p.o]
def aq (s:List Pc):List Nat:=(List.range 1001).filter fun r=>decide (r∈ii s)
def bB (s:List Pc):(aq s).Pairwise (·<·):=List.pairwise_lt_range.filter _
def eX {s:List Pc}(h:∀p∈s,p.ok)(x:Nat):x∈aq s↔x∈ii s:=by
 unfold aq;rw[List.mem_filter,List.mem_range,decide_eq_true_eq];refine⟨fun z=>z.2,fun z=>⟨?_,z⟩⟩;unfold ii at z;rcases List.mem_cons.mp z with rfl | z
 ·decide
 ·obtain⟨p,hp,hx⟩:=List.mem_flatMap.mp z;have:=h p hp;have h1:=this.1;have h2:=this.2.1;simp only[List.mem_cons,List.not_mem_nil,or_false] at hx;omega
def xP (ks:List Int)(n x:Int):x∈fk ks n↔x∈ks\/x=n:=by
 unfold fk;split
 ·rename_i h;exact⟨.inl,fun z=>z.elim id fun e=>e ▸ h⟩
 ·simp
def sQ {ks:List Int}(h:ks.Nodup)(n:Int):(fk ks n).Nodup:=by
 unfold fk;split
 ·exact h
 ·rename_i hn;rw[List.nodup_append];exact⟨h,by simp,fun a ha b hb e=>hn (by rw[List.mem_singleton.mp hb] at e;exact e ▸ ha)⟩
def ot:∀(l ks:List Int),ks.Nodup->(l.foldl fk ks).Nodup/\∀x,x∈l.foldl fk ks↔x∈ks\/x∈l
 | [],ks,h=>⟨h,fun x=>by simp⟩
 | n::l,ks,h=>by
   obtain⟨h1,h2⟩:=ot l (fk ks n) (sQ h n);refine⟨h1,fun x=>?_⟩;rw[List.foldl_cons,h2,xP,List.mem_cons,or_assoc]
def uZ {a b:List Int}(hp:a.Perm b)(ha:a.Pairwise (·<=·))(hb:b.Pairwise (·<=·)):a=b :=
 hp.eq_of_pairwise (fun x y _ _ h1 h2=>Int.le_antisymm h1 h2) ha hb
def oJ (ks:List Int):(sortI ks).Pairwise (·<=·):=by
 have:=List.pairwise_mergeSort (le:=fun a b:Int=>decide (a<=b)) (fun a b c h1 h2=>by simp only[decide_eq_true_eq] at *;omega) (fun a b=>by simp only[Bool.or_eq_true,decide_eq_true_eq];omega) ks;exact this.imp fun h=>by simpa using h
def se {s:List Pc}(h:∀p∈s,p.ok):sortI (((ii s).map fun (n:Nat)=>(n:Int)).foldl fk [])=(aq s).map fun (n:Nat)=>(n:Int):=by
 obtain⟨n1,n2⟩:=ot ((ii s).map fun (n:Nat)=>(n:Int)) [] List.nodup_nil;have hs:((aq s).map fun (n:Nat)=>(n:Int)).Pairwise (·<·):=by
  rw[List.pairwise_map];exact(bB s).imp fun z=>by omega
 refine uZ ?_ (oJ _) (hs.imp fun z=>by omega);refine(List.mergeSort_perm _ _).trans ?_;refine(List.perm_ext_iff_of_nodup n1 (hs.imp fun z=>by omega)).mpr fun x=>?_;rw[n2];simp only[List.not_mem_nil,false_or,List.mem_map,eX h]
noncomputable def al (E:List Nat):List D:=E.map fun (n:Nat)=>D.int (n:Int)
def mF (E:List Nat):intsOf (al E)=some (E.map fun (n:Nat)=>(n:Int)):=by
 have:al E=(E.map fun (n:Nat)=>(n:Int)).map D.int:=by unfold al;rw[List.map_map];rfl
 rw[this,ints_map]
def mP (sh:D):∀(s:List Pc) (ds:List D) (x2:Option D),(∀p∈s,p.ok)->ds.length+2*s.length<=10000->∃y2,
 dD (gN 2) dA (s.map pD) [some sh,none,x2,none,some (.lst ds),none]=some (.nx [some sh,none,y2,none,some (.lst (ds++al (s.flatMap fun p=>[p.i,p.o]))),none])
 | [],ds,x2,_,_=>⟨x2,by simp[dD,al]⟩
 | p::s,ds,x2,h,hl=>by
   simp only[List.length_cons] at hl;have e:dA [some sh,none,some (pD p),none,some (.lst ds),none]=some (.nx [some sh,none,some (pD p),none,some (.lst (ds++[.int p.i,.int p.o])),none]):=by
    unfold dA sk;rw[aJ (x:=pD p) rfl,wV (h p List.mem_cons_self)];have:ds.length+2<=16777216:=by omega
    simp[ownAt,slot,this]
   obtain⟨y2,ih⟩:=mP sh s (ds++[.int p.i,.int p.o]) (some (pD p)) (fun q hq=>h q (List.mem_cons_of_mem _ hq)) (by simp;omega);refine⟨y2,?_⟩;rw[List.map_cons,dD];show (dA [some sh,none,some (pD p),none,some (.lst ds),none]).bind _=_;rw[e];simp only[Option.bind_some];rw[ih];simp[al]
def oV {s:List Pc}(h:∀p∈s,p.ok)(hl:s.length<=1000)(he:(aq s).length<64):dH [bj s]=some (.lst (al (aq s))):=by
 obtain⟨y2,e⟩:=mP (bj s) s [.int 0] none h (by simp;omega);refine bq rfl ?_;show gH [some (bj s),none,none,none,none,none]=_;unfold gH;rw[ap (show fb 3 1 (bK (ab (eC (.int 0)) ah)) _=some (.nx [some (bj s),none,none,none,some (.lst [.int 0]),none]) from rfl)];rw[ap ((cx (xs:=s.map pD) rfl).trans e)];have ef:[D.int 0]++al (s.flatMap fun p=>[p.i,p.o])=al (ii s):=rfl;rw[ef];show bb (gW jl (ac 1)) [some (bj s),some (.lst (al (ii s))),y2,none,none,none]=_;refine aK ((wg (x:=.lst (al (ii s))) rfl).trans ?_);unfold jl;simp only;rw[mF];simp only[Option.bind_some];have hs:=se h;have h1:((ii s).map fun (n:Nat)=>(n:Int)).length+1<4096:=by
  unfold ii;simp;have:(s.flatMap fun p=>[p.i,p.o]).length=2*s.length:=by
   clear h hl he e ef hs;induction s with
   | nil=>rfl
   | cons p s ih=>rw[List.flatMap_cons,List.length_append,ih];simp;omega
  simp at this;omega
 have h2:(((ii s).map fun (n:Nat)=>(n:Int)).foldl fk []).length<64:=by
  have:=congrArg List.length hs;rw[List.length_map] at this;unfold sortI at this;rw[List.length_mergeSort] at this;omega
 rw[if_pos ⟨h1,h2⟩,hs];unfold al;rw[List.map_map];rfl
noncomputable def AM (E:List Nat):List (Nat×Nat):=E.zip E.tail
noncomputable def ar (q:Nat×Nat):Int:=(q.2:Int)*q.2-(q.1:Int)*q.1
def d7 {g:MG}{body:MS}{x:D}{xs:List D}{δ δ1 δ2:Ev}(hg:g x δ=some δ1)(hb:body δ1=some (.nx δ2)):dD g body (x::xs) δ=dD g body xs δ2:=by
 rw[dD,hg];simp only[Option.bind_some];rw[hb];rfl
def ji (s:List Pc)(hs:List Int)(qs:List (Nat×Nat)):List Int:=qs.foldl (fun hs q=>iq hs (im s q.1) (ar q)) hs
def kS (s:List Pc)(hs:List Int)(q:Nat×Nat)(qs:List (Nat×Nat)):ji s hs (q::qs)=ji s (iq hs (im s q.1) (ar q)) qs:=by
 unfold ji;rw[List.foldl_cons]
def vI {s:List Pc}{e:Nat}:∀z∈im s e,0<=z/\z<s.length+1:=fun z hz=>by
 unfold im rowOf at hz;obtain⟨t,_,rfl⟩:=List.mem_map.mp hz;have:B4 s e t<=s.length:=List.countP_le_length;omega
def gD (s:List Pc):∃es,aq s=0::es:=by
 unfold aq;rw[List.range_succ_eq_map,List.filter_cons_of_pos (by unfold ii;simp)];exact⟨_,rfl⟩
def nc (s:List Pc):List Int:=ji s (List.replicate (s.length+1) 0) (AM (aq s))
def cnt (s:List Pc)(r k:Nat):Nat:=(im s r).count (k:Int)
def ng (s:List Pc):∀(qs:List (Nat×Nat)) (hs:List Int),(ji s hs qs).length=hs.length
 | [],_=>rfl
 | q::qs,hs=>by rw[kS,ng s qs,jj]
def nh (s:List Pc)(k:Nat):∀(qs:List (Nat×Nat)) (hs:List Int),hs.length=s.length+1->(ji s hs qs).getD k 0=hs.getD k 0+(qs.map fun q=>ar q*(cnt s q.1 k:Int)).sum
 | [],hs,_=>by simp[ji]
 | q::qs,hs,hl=>by
   rw[kS,nh s k qs _ (by rw[jj,hl]),ni (ar q) _ _ k fun z hz=>by have:=vI z hz;omega,List.map_cons,List.sum_cons];unfold cnt;omega
def yw {s:List Pc}{a r:Nat}(h:∀p∈s,(p.i<=r↔p.i<=a)/\(r<p.o↔a<p.o))(t:Nat):B4 s r t=B4 s a t:=by
 unfold B4;refine List.countP_congr fun p hp=>?_;obtain⟨h1,h2⟩:=h p hp;unfold Pc.has;simp only[Bool.and_eq_true,decide_eq_true_eq,h1,h2]
def wN {s:List Pc}{a r:Nat}(h:∀p∈s,(p.i<=r↔p.i<=a)/\(r<p.o↔a<p.o)):im s r=im s a:=qy fun t _=>by rw[yw h t]
def yv {s:List Pc}{r:Nat}(h:∀p∈s,p.o<=r)(t:Nat):B4 s r t=0:=by
 unfold B4;rw[List.countP_eq_zero];intro p hp;have:=h p hp;unfold Pc.has;have h2:decide (r<p.o)=false:=by simp;omega
 simp[h2]
def yB {s:List Pc}{r k:Nat}(h:∀p∈s,p.o<=r)(hk:1<=k):cnt s r k=0:=by
 unfold cnt im rowOf;rw[List.count_eq_zero];intro hm;obtain⟨t,_,e⟩:=List.mem_map.mp hm;rw[yv h t] at e;omega
def wz (c:Int):∀(n e:Nat),((List.range' e n).map fun (r:Nat)=>(2*(r:Int)+1)*c).sum=(((e+n:Nat):Int)*(e+n:Nat)-(e:Int)*e)*c
 | 0,e=>by simp
 | n+1,e=>by
   rw[List.range'_succ,List.map_cons,List.sum_cons,wz c n (e+1)];have h1:(((e+1+n:Nat):Int))=(e:Int)+1+n:=by omega
   have h2:(((e+(n+1):Nat):Int))=(e:Int)+1+n:=by omega
   have h3:(((e+1:Nat):Int))=(e:Int)+1:=by omega
   rw[h1,h2,h3];have:((e:Int)+1)*((e:Int)+1)=(e:Int)*e+2*e+1:=by rw[Int.add_mul,Int.mul_add];omega
   rw[this,<-Int.add_mul];congr 1;omega
def CB {s:List Pc}(h:∀p∈s,p.i<p.o){k:Nat}(hk:1<=k)(R:Nat):∀(es:List Nat) (e:Nat),(e::es).Pairwise (·<·)->Left s e es->(∀x∈e::es,x<=R) ->
 (((e::es).zip es).map fun q=>ar q*(cnt s q.1 k:Int)).sum=((List.range' e (R-e)).map fun (r:Nat)=>(2*(r:Int)+1)*(cnt s r k:Int)).sum
 | [],e,_,hL,hR=>by
   have:∀l:List Nat,(∀r∈l,e<=r)->(l.map fun (r:Nat)=>(2*(r:Int)+1)*(cnt s r k:Int)).sum=0:=fun l hl=>by
    induction l with
    | nil=>rfl
    | cons r l ih =>
      rw[List.map_cons,List.sum_cons,ih fun x hx=>hl x (List.mem_cons_of_mem _ hx),yB (fun p hp=>?_) hk]
      ·simp
      ·have:=hl r List.mem_cons_self;rcases (hL p hp).2 with z | z
       ·omega
       ·rw[List.mem_singleton] at z;omega
   rw[this _ fun r hr=>by rw[List.mem_range'_1] at hr;exact hr.1];rfl
 | e'::es,e,hs,hL,hR=>by
   have hlt:e<e':=(List.pairwise_cons.mp hs).1 e' List.mem_cons_self;have hR':=hR e' (by simp);have split:List.range' e (R-e)=List.range' e (e'-e)++List.range' e' (R-e'):=by
    have:=List.range'_append_1 (s:=e) (m:=e'-e) (n:=R-e');rw[show e+(e'-e)=e' by omega,show (e'-e)+(R-e')=R-e by omega] at this;exact this.symm
   rw[List.zip_cons_cons,List.map_cons,List.sum_cons,CB h hk R es e' (List.pairwise_cons.mp hs).2 (hL.next hs) fun x hx=>hR x (List.mem_cons_of_mem _ hx),split,List.map_append,List.sum_append];congr 1;have hc:(List.range' e (e'-e)).map (fun (r:Nat)=>(2*(r:Int)+1)*(cnt s r k:Int))=(List.range' e (e'-e)).map fun (r:Nat)=>(2*(r:Int)+1)*(cnt s e k:Int):=by
    refine List.map_congr_left fun r hr=>?_;rw[List.mem_range'_1] at hr;have:cnt s r k=cnt s e k:=by
     unfold cnt;rw[wN fun p hp=>?_];obtain⟨h1,h2⟩:=hL.iff hs p hp;have:=h p hp;omega
    rw[this]
   rw[hc,wz,show e+(e'-e)=e' by omega];rfl
def da (s:List Pc)(R k:Nat):Int:=((List.range R).map fun (r:Nat)=>(2*(r:Int)+1)*(cnt s r k:Int)).sum
def Dt {s:List Pc}(h:∀p∈s,p.ok){R:Nat}(hR:∀p∈s,p.o<=R):(nc s).tail=(List.range s.length).map fun k=>da s R (k+1):=by
 have hlen:(nc s).length=s.length+1:=by unfold nc;rw[ng];simp
 refine List.ext_getElem (by simp[hlen]) fun k h1 h2=>?_;have hk:k<s.length:=by simpa using h2
 obtain⟨es,e⟩:=gD s;have hs:=bB s;have hm:=eX h;have g:(nc s).getD (k+1) 0=da s R (k+1):=by
  unfold nc da AM;rw[nh s (k+1) _ _ (by simp)];rw[e] at hs hm ⊢;have hL:Left s 0 es:=fun p hp=>by
   have:∀x,x∈[p.i,p.o]->x∈ii s:=fun x hx=>List.mem_cons_of_mem _ (List.mem_flatMap.mpr ⟨p,hp,hx⟩);exact⟨.inr ((hm _).mpr (this _ (by simp))),.inr ((hm _).mpr (this _ (by simp)))⟩
  have hle:∀x∈0::es,x<=R:=fun x hx=>by
   have:=(hm x).mp hx;unfold ii at this;rcases List.mem_cons.mp this with rfl | z
   ·omega
   ·obtain⟨p,hp,hx⟩:=List.mem_flatMap.mp z;have h1:=hR p hp;have h2:=(h p hp).1;simp only[List.mem_cons,List.not_mem_nil,or_false] at hx;omega
  have:=CB (fun p hp=>(h p hp).1) (k:=k+1) (by omega) R es 0 hs hL hle;rw[List.tail_cons,this,Nat.sub_zero,<-List.range_eq_range'];simp[List.getD_eq_getElem?_getD,List.getElem?_replicate];split <;> simp
 rw[List.getElem_tail,List.getElem_map,List.getElem_range,<-g];simp[hlen,hk]
def lQ:∀(l:List Nat) (lo hi:Nat),l.Pairwise (·<·)->(∀x∈l,lo<=x/\x<hi)->l.length<=hi-lo
 | [],_,_,_,_=>Nat.zero_le _
 | a::l,lo,hi,h,hx=>by
   obtain⟨h1,h2⟩:=List.pairwise_cons.mp h;have:=lQ l (a+1) hi h2 fun x hm=>⟨h1 x hm,(hx x (List.mem_cons_of_mem _ hm)).2⟩;have:=hx a List.mem_cons_self;rw[List.length_cons];omega
def vG {s:List Pc}(h:∀p∈s,p.ok){R:Nat}(hR:∀p∈s,p.o<=R):(aq s).length<=R+1:=by
 have h1:∀x∈aq s,x<R+1:=fun x hx=>by
  have:=(eX h x).mp hx;unfold ii at this;rcases List.mem_cons.mp this with rfl | z
  ·omega
  ·obtain⟨p,hp,hx⟩:=List.mem_flatMap.mp z;have h1:=hR p hp;have h2:=(h p hp).1;simp only[List.mem_cons,List.not_mem_nil,or_false] at hx;omega
 have:=lQ (aq s) 0 (R+1) (bB s) fun x hx=>⟨Nat.zero_le _,h1 x hx⟩;omega
end DL.Pg
namespace DL.Lw
open PySem DL DL.Pg
noncomputable def dh (c p m:Int):Int:=c*48271 % p % m
def lT {c p m:Int}(hp:0<p)(hm:0<m):aV [.int c,.int p,.int m]=some (.int (dh c p m)):=by
 simp[aV,dE,jh,bb,am,ac,slot,eC,oMod,oI,aO,small,hp,hm,dh]
def bH {c p m:Int}(hm:0<m):0<=dh c p m/\dh c p m<m:=⟨Int.emod_nonneg _ (by omega),Int.emod_lt_of_pos _ hm⟩
def o5 (c M:Int):Pc:=⟨(dh c 9973 M).toNat,(dh c 9973 M+1+dh c 9967 (M-dh c 9973 M)).toNat,(dh c 9941 24).toNat,(if c % 4=0 then 24 else 1+dh c 9949 24).toNat⟩
def C2 (c M:Int)(h1:1<=M)(h9:M<=999):(o5 c M).ok/\((o5 c M).o:Int)<=M:=by
 have q1:=bH (c:=c) (p:=9973) (m:=M) (by omega);have q2:=bH (c:=c) (p:=9967) (m:=M-dh c 9973 M) (by omega);have q3:=bH (c:=c) (p:=9941) (m:=24) (by decide);have q4:=bH (c:=c) (p:=9949) (m:=24) (by decide);unfold Pc.ok o5;simp only;refine⟨⟨by omega,by omega,by omega,?_,?_⟩,by omega⟩ <;> (split <;> omega)
def D9 (c M:Int)(h1:1<=M):pD (o5 c M)=.tup [.int (dh c 9973 M),.int (dh c 9973 M+1+dh c 9967 (M-dh c 9973 M)),.int (dh c 9941 24),.int (if c % 4=0 then 24 else 1+dh c 9949 24)]:=by
 have q1:=bH (c:=c) (p:=9973) (m:=M) (by omega);have q2:=bH (c:=c) (p:=9967) (m:=M-dh c 9973 M) (by omega);have q3:=bH (c:=c) (p:=9941) (m:=24) (by decide);have q4:=bH (c:=c) (p:=9949) (m:=24) (by decide);unfold pD o5;simp only;rw[Int.toNat_of_nonneg q1.1,Int.toNat_of_nonneg q3.1,Int.toNat_of_nonneg (by omega),Int.toNat_of_nonneg (by split <;> omega)]
def za (c M:Int)(h1:1<=M):cK [.int c,.int M]=some (pD (o5 c M)):=by
 have q1:=bH (c:=c) (p:=9973) (m:=M) (by omega);have e1:aV [.int c,.int 9973,.int M]=some (.int (dh c 9973 M)):=lT (by decide) (by omega);have e2:aV [.int c,.int 9967,.int (M-dh c 9973 M)]=some (.int (dh c 9967 (M-dh c 9973 M))):=lT (by decide) (by omega);have e3:aV [.int c,.int 9941,.int 24]=some (.int (dh c 9941 24)):=lT (by decide) (by decide);have e4:aV [.int c,.int 9949,.int 24]=some (.int (dh c 9949 24)):=lT (by decide) (by decide);rw[D9 c M h1];by_cases h:c % 4=0
 ·simp[cK,dE,eV,aF,bm,gp,bb,am,ac,slot,eC,ag,ab,ah,gN,aT,kU,oI,oMod,oEq,bF,cP,tV,truth,cH,aP,e1,e2,e3,e4,h]
 ·simp[cK,dE,eV,aF,bm,gp,bb,am,ac,slot,eC,ag,ab,ah,gN,aT,kU,oI,oMod,oEq,bF,cP,tV,truth,cH,aP,e1,e2,e3,e4,h]
def pf (c M:Int):D->D
 | .int k=>pD (o5 (c+11*k) M)
 | d=>d
def yS (c M:Int)(n:Nat):List Pc:=(List.range (dh c 9931 (n+1)).toNat).map fun (k:Nat)=>o5 (c+11*(k:Int)) M
def CM (c M:Int)(n:Nat)(h1:1<=M)(h9:M<=999):(yS c M n).length<=n/\∀p∈yS c M n,p.ok/\(p.o:Int)<=M:=by
 have q:=bH (c:=c) (p:=9931) (m:=(n:Int)+1) (by omega);unfold yS;refine⟨by rw[List.length_map,List.length_range];omega,fun p hp=>?_⟩;obtain⟨k,_,rfl⟩:=List.mem_map.mp hp;exact C2 _ _ h1 h9
def y0 (c M:Int)(n:Nat)(h1:1<=M)(hn:n<=1000):gB [.int c,.int M,.int n]=some (bj (yS c M n)):=by
 have hm:=bH (c:=c) (p:=9931) (m:=(n:Int)+1) (by omega);have e1:aV [.int c,.int 9931,.int ((n:Int)+1)]=some (.int (dh c 9931 ((n:Int)+1))):=lT (by decide) (by omega);have hi:fo (ag aV (ab (ac 0) (ab (eC (.int 9931)) (ab (am aT (ac 2) (eC (.int 1))) ah)))) [some (.int c),some (.int M),some (.int (n:Int))]=some (cw (dh c 9931 ((n:Int)+1)).toNat) :=
  qA ((cE (x:=.int c) (y:=.int 9931) (z:=.int ((n:Int)+1)) rfl rfl rfl).trans e1) ⟨by omega,by omega⟩
 have hc:=bO (k:=1) (fv:=[1,0]) (g:=gN 0) (c:=tT) (e:=ag cK (ab (am aT (ac 2) (am aO (eC (.int 11)) (ac 0))) (ab (ac 1) ah))) (fun x=>some (pf c M x)) hi (by simp[cw];omega) fun x hx=>by
  obtain⟨k,_,rfl⟩:=nQ hx;refine⟨[some (.int k),some (.int M),some (.int c)],rfl,.inl ⟨rfl,pD (o5 (c+11*k) M),?_,rfl⟩⟩;have em:∀k:Int,aO (.int 11) (.int k)=some (.int (11*k)):=fun k=>by simp[aO,small]
  exact(av (x:=.int (c+11*k)) (y:=.int M) ((aY (x:=.int c) (y:=.int (11*k)) rfl ((aY (x:=.int 11) (y:=.int k) rfl rfl).trans (em _))).trans rfl) rfl).trans (za _ _ h1)
 refine bq rfl (aK ((aJ hc).trans ?_));rw[List.filterMap_eq_map'];simp[je,cw,yS,bj,pf,Function.comp_def]
def sm (i:Int):Prop := -1000000<i/\i<1000000
def hU {i:Int}(h:sm i):small i=true:=by
 unfold small sm at *;simp only[Bool.and_eq_true,decide_eq_true_eq];omega
noncomputable def zL (i o b w u l v k:Int):Bool:=decide (i*l<=u/\u<o*l)&&decide ((v-b*k) % (24*k)<w*k)
def cA {i j:Int}(h:small i=true):aO (.int i) (.int j)=some (.int (i*j)):=by simp[aO,h]
def ss {i o b w u l v k:Int}(hi:sm i)(ho:sm o)(hb:sm b)(hw:sm w)(hk:0<k):dI [.tup [.int i,.int o,.int b,.int w],.tup [.int u,.int l],.tup [.int v,.int k]]=some (.bl (zL i o b w u l v k)):=by
 have em1:aO (.int i) (.int l)=some (.int (i*l)):=cA (hU hi);have em2:aO (.int o) (.int l)=some (.int (o*l)):=cA (hU ho);have em3:aO (.int b) (.int k)=some (.int (b*k)):=cA (hU hb);have em4:aO (.int 24) (.int k)=some (.int (24*k)):=cA (by decide);have em5:aO (.int w) (.int k)=some (.int (w*k)):=cA (hU hw);refine bq rfl ?_;show gM [some (.tup [.int i,.int o,.int b,.int w]),some (.tup [.int u,.int l]),some (.tup [.int v,.int k]),none,none,none,none]=_;unfold gM;rw[ap (aG (d:=.tup [.int i,.int o,.int b,.int w]) (δ':=[some (.tup [.int i,.int o,.int b,.int w]),some (.tup [.int u,.int l]),some (.tup [.int v,.int k]),some (.int i),some (.int o),some (.int b),some (.int w)]) rfl rfl)];have t0:la (tV (am oLt (am aD (ac 1) (eC (.int 0))) (am aO (ac 3) (am aD (ac 1) (eC (.int 1)))))) (tV (am Co (am aD (ac 1) (eC (.int 0))) (am aO (ac 4) (am aD (ac 1) (eC (.int 1))))))
  [some (.tup [.int i,.int o,.int b,.int w]),some (.tup [.int u,.int l]),some (.tup [.int v,.int k]),some (.int i),some (.int o),some (.int b),some (.int w)]=some (decide (u<i*l)||decide (o*l<=u)):=by
  refine e8 (cp (d:=.bl _) ((aY (x:=.int u) (y:=.int (i*l)) rfl ((aY (x:=.int i) (y:=.int l) rfl rfl).trans em1)).trans rfl) rfl) (cp (d:=.bl _) ((aY (x:=.int u) (y:=.int (o*l)) rfl ((aY (x:=.int o) (y:=.int l) rfl rfl).trans em2)).trans rfl) rfl)
 by_cases h:(i*l<=u/\u<o*l)
 ·have:(decide (u<i*l)||decide (o*l<=u))=false:=by simp;omega
  rw[this] at t0;rw[ap ((cL t0).trans rfl)];refine aK ?_;have hk2:0<24*k:=by omega
  simp[am,ac,slot,aD,sL,eC,em3,em4,em5,kU,oI,oMod,hk2,hk,oLt];unfold zL;simp[h]
 ·have:(decide (u<i*l)||decide (o*l<=u))=true:=by simp;omega
  rw[this] at t0;rw[b9 ((fm t0).trans (aK rfl))];unfold zL;simp[h]
def eE:Nat->List Pc->Nat->Nat->List Nat
 | _,[],_,_=>[]
 | k,p::s,r,t=>if p.has r t=true then k::eE (k+1) s r t else eE (k+1) s r t
noncomputable def Bt:D->Pc
 | .tup [.int i,.int o,.int b,.int w]=>⟨i.toNat,o.toNat,b.toNat,w.toNat⟩
 | _=>⟨0,0,0,0⟩
def lf (r t:Nat):D->Option D
 | .tup [.int j,d]=>if (Bt d).has r t=true then some (.int j) else none
 | _=>none
def AE (r t:Nat)(j:Int)(p:Pc):lf r t (.tup [.int j,pD p])=if p.has r t=true then some (.int j) else none:=rfl
def rn:∀(ds:List D) (k:Nat),(cS k ds).length=ds.length
 | [],_=>rfl
 | _::r,k=>by simp[cS,rn r (k+1)]
def rm:∀{s:List Pc} {k:Nat} {x:D},x∈cS k (s.map pD)->∃(i:Nat) (p:Pc),s[i]? = some p/\x=.tup [.int ((k+i:Nat):Int),pD p]
 | [],_,_,h=>by cases h
 | p::s,k,x,h=>by
   rw[List.map_cons,cS] at h;rcases List.mem_cons.mp h with rfl | h
   ·exact⟨0,p,rfl,rfl⟩
   ·obtain⟨i,p',h1,h2⟩:=rm h;refine⟨i+1,p',by simpa using h1,?_⟩;rw[h2,show k+1+i=k+(i+1) by omega]
def xJ (r t:Nat):∀(s:List Pc) (k:Nat),(cS k (s.map pD)).filterMap (lf r t)=al (eE k s r t)
 | [],_=>rfl
 | p::s,k=>by
   rw[List.map_cons,cS,List.filterMap_cons,AE,eE,xJ r t s (k+1)];cases p.has r t <;> rfl
def eL {a b:ME}{δ:Ev}{x y:D}(ha:a δ=some x)(hb:b δ=some y):aP (ab a (ab b ah)) δ=some (.tup [x,y]):=by
 unfold aP ab ah;rw[ha,hb];rfl
end DL.Lw
namespace DL.Pg
open PySem DL
section
variable {β:Type}[DecidableEq β]{nb:Nat->List Nat}{v:Nat->β}{n:Nat}
inductive Hg (nb:Nat->List Nat)(v:Nat->β)(a:Nat):Nat->Prop where
 | refl:Hg nb v a a
 | step {b c:Nat}:Hg nb v a b->c∈nb b->v c=v b->Hg nb v a c
def Hg.val {a b:Nat}(h:Hg nb v a b):v b=v a:=by
 induction h with
 | refl=>rfl
 | step _ _ e ih=>rw[e,ih]
def DD (nb:Nat->List Nat)(n:Nat):Prop:=∀b c,b<n->c∈nb b->c<n/\b∈nb c
noncomputable def grow (P:Nat->Bool):List Nat->List Nat->List Nat
 | R,[]=>R
 | R,o::ns=>grow P (if o∉R/\P o=true then R++[o] else R) ns
def jI (P:Nat->Bool):∀(ns R:List Nat),∃T,grow P R ns=R++T/\∀x∈T,x∈ns/\P x=true
 | [],R=>⟨[],by simp[grow],fun x h=>by cases h⟩
 | o::ns,R=>by
   rw[grow];by_cases h:o∉R/\P o=true
   ·rw[if_pos h];obtain⟨T,e,q⟩:=jI P ns (R++[o]);refine⟨o::T,by rw[e];simp,fun x hx=>?_⟩;rcases List.mem_cons.mp hx with rfl | hx
    ·exact⟨List.mem_cons_self,h.2⟩
    ·exact⟨List.mem_cons_of_mem _ (q x hx).1,(q x hx).2⟩
   ·rw[if_neg h];obtain⟨T,e,q⟩:=jI P ns R;exact⟨T,e,fun x hx=>⟨List.mem_cons_of_mem _ (q x hx).1,(q x hx).2⟩⟩
def mI (P:Nat->Bool):∀(ns R:List Nat),R.Nodup->(grow P R ns).Nodup
 | [],R,h=>h
 | o::ns,R,h=>by
   rw[grow];refine mI P ns _ ?_;split
   ·rename_i q;rw[List.nodup_append];refine⟨h,by simp,fun a ha b hb=>?_⟩;rw[List.mem_singleton] at hb;subst hb;exact fun z=>q.1 (z ▸ ha)
   ·exact h
def rf (P:Nat->Bool)(ns R:List Nat):∀x∈R,x∈grow P R ns:=fun x hx=>by
 obtain⟨T,e,_⟩:=jI P ns R;rw[e];exact List.mem_append_left _ hx
def rh (P:Nat->Bool):∀(ns R:List Nat),∀o∈ns,P o=true->o∈grow P R ns
 | [],_,_,h,_=>by cases h
 | q::ns,R,o,h,hp=>by
   rw[grow];rcases List.mem_cons.mp h with rfl | h
   ·refine rf P ns _ _ ?_;by_cases z:o∈R
    ·split
     ·exact List.mem_append_left _ z
     ·exact z
    ·rw[if_pos ⟨z,hp⟩];simp
   ·exact rh P ns _ o h hp
def n4:∀(n:Nat) (l:List Nat),l.Nodup->(∀x∈l,x<n)->l.length<=n
 | 0,l,_,h=>by
   cases l with
   | nil=>simp
   | cons a l=>exact absurd (h a List.mem_cons_self) (by omega)
 | n+1,l,hn,h=>by
   have h1:=n4 n (l.erase n) (hn.erase n) fun x hx=>by
    have h2:=h x (List.mem_of_mem_erase hx);have h3:x≠n:=fun z=>by
     subst z;exact(List.Nodup.not_mem_erase hn) hx
    omega
   by_cases hm:n∈l
   ·rw[List.length_erase_of_mem hm] at h1;omega
   ·rw[List.erase_of_not_mem hm] at h1;omega
structure Bf (nb:Nat->List Nat)(v:Nat->β)(n a:Nat)(R:List Nat)(k:Nat):Prop where
 nd:R.Nodup
 hd:R.head? = some a
 hg:∀x∈R,Hg nb v a x
 cl:∀j x,j<k->R[j]? = some x->∀c∈nb x,v c=v a->c∈R
 kl:k<=R.length
 lt:∀x∈R,x<n
def Bf.start {a:Nat}(ha:a<n):Bf nb v n a [a] 0 where
 nd:=by simp
 hd:=rfl
 hg:=fun x hx=>by rw[List.mem_singleton] at hx;subst hx;exact .refl
 cl:=fun j x h=>absurd h (by omega)
 kl:=Nat.zero_le _
 lt:=fun x hx=>by rw[List.mem_singleton] at hx;omega
def Bf.next (hs:DD nb n){a:Nat}{R:List Nat}{k x:Nat}(h:Bf nb v n a R k)(hx:R[k]? = some x):Bf nb v n a (grow (fun c=>decide (v c=v a)) R (nb x)) (k+1):=by
 obtain⟨T,e,q⟩:=jI (fun c=>decide (v c=v a)) (nb x) R;have hxm:=List.mem_of_getElem? hx;have hxa:=(h.hg x hxm).val;have hk:k<R.length:=by
  rcases Nat.lt_or_ge k R.length with z | z
  ·exact z
  ·rw[List.getElem?_eq_none z] at hx;cases hx
 constructor
 ·exact mI _ _ _ h.nd
 ·rw[e];have:=h.hd;cases R with
  | nil=>cases this
  | cons b R=>exact this
 ·intro y hy;rw[e] at hy;rcases List.mem_append.mp hy with z | z
  ·exact h.hg y z
  ·have:=(q y z).2;simp only[decide_eq_true_eq] at this;exact .step (h.hg x hxm) (q y z).1 (by rw[this,hxa])
 ·intro j y hj hy c hc hv;have hjR:R[j]? = some y:=by
   rw[e,List.getElem?_append_left (by omega)] at hy;exact hy
  by_cases hjk:j=k
  ·subst hjk;rw[hx] at hjR;cases hjR;exact rh _ _ _ c hc (by simp[hv])
  ·exact rf _ _ _ _ (h.cl j y (by omega) hjR c hc hv)
 ·rw[e,List.length_append];omega
 ·intro y hy;rw[e] at hy;rcases List.mem_append.mp hy with z | z
  ·exact h.lt y z
  ·exact(hs x y (h.lt x hxm) (q y z).1).1
def Bf.few {a:Nat}{R:List Nat}{k:Nat}(h:Bf nb v n a R k):R.length<=n:=n4 n R h.nd h.lt
def p6 (hs:DD nb n){a:Nat}{c:MT}{b:MS}(S:List Nat->Nat->Ev->Prop)(hc:∀R k δ,k<=R.length->S R k δ->c δ=some (decide (k<R.length)))
 (hb:∀R k x δ,Bf nb v n a R k->R[k]? = some x->S R k δ->∃δ',b δ=some (.nx δ')/\S (grow (fun c=>decide (v c=v a)) R (nb x)) (k+1) δ') :
 ∀(m:Nat) (R:List Nat) (k:Nat) (δ:Ev),n-k<=m->Bf nb v n a R k->S R k δ->∃(N:Nat) (R':List Nat) (δ':Ev),j0 c b N δ=some (.nx δ')/\S R' R'.length δ'/\Bf nb v n a R' R'.length
 | m,R,k,δ,hm,h,hS=>by
   have h1:=hc R k δ h.kl hS;by_cases hk:k<R.length
   ·have hx:R[k]? = some R[k]:=List.getElem?_eq_getElem hk;obtain⟨δ1,e1,S1⟩:=hb R k _ δ h hx hS;have:=h.few;cases m with
    | zero=>omega
    | succ m =>
      obtain⟨N,R',δ',e2,S2,h2⟩:=p6 hs S hc hb m _ (k+1) δ1 (by omega) (h.next hs hx) S1;refine⟨N+1,R',δ',?_,S2,h2⟩;rw[j0,h1];simp[hk,e1,e2]
   ·have hkl:=h.kl;have:k=R.length:=by omega
    subst this;refine⟨1,R,δ,?_,hS,h⟩;rw[j0,h1];simp
end
noncomputable def uL (c:Nat):Nat:=c-c % 24+(c % 24+1) % 24
noncomputable def uM (c:Nat):Nat:=c-c % 24+(c % 24+23) % 24
def nn (n c:Nat):List Nat:=[uL c,uM c]++((if c+24<n then [c+24] else [])++(if 24<=c then [c-24] else []))
def o9 {n c d:Nat}:d∈nn n c↔d=uL c\/d=uM c\/(d=c+24/\c+24<n)\/(24<=c/\d=c-24):=by
 unfold nn;simp only[List.mem_append,List.mem_cons,List.not_mem_nil,or_false];by_cases h1:c+24<n <;> by_cases h2:24<=c <;> simp[h1,h2] <;> omega
def xy (N:Nat):DD (nn (24*N)) (24*N):=fun b c hb hc=>by
 rw[o9] at hc;rw[o9];unfold uL uM at *;omega
def va (c:Nat):bS [.int c,.int 1]=some (.int (uL c:Nat)):=by
 have e:(((uL c:Nat)):Int)=(c:Int)-(c:Int) % 24+((c:Int) % 24+1) % 24:=by unfold uL;omega
 rw[e];rfl
def vb (c:Nat):bS [.int c,.int (-1)]=some (.int (uM c:Nat)):=by
 have e:(((uM c:Nat)):Int)=(c:Int)-(c:Int) % 24+((c:Int) % 24 + -1) % 24:=by unfold uM;omega
 rw[e];rfl
noncomputable def jZ (n:Nat):D->Option D
 | .int i=>if 0<=i/\i<n then some (.int i) else none
 | _=>none
def zA {a b:ME}{δ:Ev}{x y:D}(ha:a δ=some x)(hb:b δ=some y):bK (ab a (ab b ah)) δ=some (.lst [x,y]):=by
 unfold bK ab ah;rw[ha,hb];rfl
def oT {n c:Nat}(hc:c<n):gz [.int c,.int n]=some (.lst (al (nn n c))):=by
 refine bq rfl ?_;show eS [some (.int c),some (.int n),none,none]=_;unfold eS;rw[ap (aG (d:=.lst [.int (uL c:Nat),.int (uM c:Nat)]) (δ':=[some (.int c),some (.int n),some (.lst [.int (uL c:Nat),.int (uM c:Nat)]),none]) (zA ((av (x:=.int c) (y:=.int 1) rfl rfl).trans (va c)) ((av (x:=.int c) (y:=.int (-1)) rfl rfl).trans (vb c))) rfl)];rw[ap (aG (d:=.lst [.int ((c:Int)+24),.int ((c:Int)-24)]) (δ':=[some (.int c),some (.int n),some (.lst [.int (uL c:Nat),.int (uM c:Nat)]),some (.lst [.int ((c:Int)+24),.int ((c:Int)-24)])]) rfl rfl)];have hcm:=bO (k:=1) (fv:=[1]) (i:=bz (ac 3)) (g:=gN 0) (c:=tV (bD oLe oLt (eC (.int 0)) (ac 0) (ac 1))) (e:=ac 0) (δ:=[some (.int c),some (.int n),some (.lst [.int (uL c:Nat),.int (uM c:Nat)]),some (.lst [.int ((c:Int)+24),.int ((c:Int)-24)])]) (xs:=[.int ((c:Int)+24),.int ((c:Int)-24)]) (jZ n) rfl (by simp) fun x hx=>by
  have hx':∃i:Int,x=.int i:=by
   simp only[List.mem_cons,List.not_mem_nil,or_false] at hx;rcases hx with rfl | rfl <;> exact⟨_,rfl⟩
  obtain⟨i,rfl⟩:=hx';refine⟨[some (.int i),some (.int n)],rfl,?_⟩;by_cases h1:0<=i
  ·by_cases h2:i<n
   ·exact .inl ⟨by simp[tV,bD,eC,ac,slot,oLe,oLt,oI,h1,h2,truth],.int i,rfl,by simp[jZ,h1,h2]⟩
   ·exact .inr ⟨by simp[tV,bD,eC,ac,slot,oLe,oLt,oI,h1,h2,truth],by simp[jZ,h1,h2]⟩
  ·exact .inr ⟨by simp[tV,bD,eC,ac,slot,oLe,oLt,oI,h1,truth],by simp[jZ,h1]⟩
 refine aK ((aY (x:=.lst [.int (uL c:Nat),.int (uM c:Nat)]) rfl hcm).trans ?_);have hl:([D.int ((c:Int)+24),.int ((c:Int)-24)].filterMap (jZ n)).length<=2:=List.length_filterMap_le _ _;unfold aT;simp only;rw[if_pos (by simp only[List.length_cons,List.length_nil];omega)];refine congrArg (fun l=>some (D.lst l)) ?_;unfold nn al;simp only[List.map_append];refine congrArg _ ?_;have f1:jZ n (.int ((c:Int)+24))=if c+24<n then some (.int ((c+24:Nat):Int)) else none:=by
  unfold jZ;by_cases h1:c+24<n
  ·rw[if_pos h1];simp only;rw[if_pos (by omega)];rfl
  ·rw[if_neg h1];simp only;rw[if_neg (by omega)]
 have f2:jZ n (.int ((c:Int)-24))=if 24<=c then some (.int ((c-24:Nat):Int)) else none:=by
  unfold jZ;by_cases h1:24<=c
  ·rw[if_pos h1];simp only;rw[if_pos (by omega),Int.ofNat_sub h1];rfl
  ·rw[if_neg h1];simp only;rw[if_neg (by omega)]
 rw[List.filterMap_cons,List.filterMap_cons,List.filterMap_nil,f1,f2];by_cases h1:c+24<n <;> by_cases h2:24<=c <;> simp[h1,h2]
section
variable {β:Type}[DecidableEq β]
noncomputable def ba (f:β->D)(v:Nat->β)(n:Nat):D:=.lst ((List.range n).map fun c=>f (v c))
structure Fd (f:β->D):Prop where
 eq:∀x y,cP (f x) (f y)=decide (x=y)
 dp:∀x,bF (f x)<=30
structure Pt (nb:Nat->List Nat)(R:List Nat)(V:List D):Prop where
 len:V.length=R.length
 zero:V[0]? = some .non
 bef:∀i x,0<i->R[i]? = some x->∃j y,j<i/\R[j]? = some y/\V[i]? = some (.int (y:Nat))/\x∈nb y
def Pt.app {nb:Nat->List Nat}{R:List Nat}{V:List D}(h:Pt nb R V){k x o:Nat}(hx:R[k]? = some x)(ho:o∈nb x):Pt nb (R++[o]) (V++[.int (x:Nat)]):=by
 have hk:k<R.length:=by
  rcases Nat.lt_or_ge k R.length with z | z
  ·exact z
  ·rw[List.getElem?_eq_none z] at hx;cases hx
 constructor
 ·simp[h.len]
 ·rw[List.getElem?_append_left (by rw[h.len];omega)];exact h.zero
 ·intro i y hi hy;rcases Nat.lt_or_ge i R.length with z | z
  ·rw[List.getElem?_append_left z] at hy;obtain⟨j,u,a1,a2,a3,a4⟩:=h.bef i y hi hy;refine⟨j,u,a1,?_,?_,a4⟩
   ·rw[List.getElem?_append_left (by omega)];exact a2
   ·rw[List.getElem?_append_left (by rw[h.len];omega)];exact a3
  ·have hi':i=R.length:=by
    rcases Nat.lt_or_ge i (R++[o]).length with q | q
    ·simp at q;omega
    ·rw[List.getElem?_eq_none q] at hy;cases hy
   subst hi';rw[List.getElem?_append_right (Nat.le_refl _)] at hy;simp at hy;subst hy;refine⟨k,x,hk,?_,?_,ho⟩
   ·rw[List.getElem?_append_left hk];exact hx
   ·rw[List.getElem?_append_right (by rw[h.len];exact Nat.le_refl _),h.len];simp
def pV (R:List Nat)(o:Nat):((al R).any fun q=>cP q (.int o))=decide (o∈R):=by
 unfold al;rw[List.any_map,Bool.eq_iff_iff,List.any_eq_true,decide_eq_true_eq];constructor
 ·rintro⟨x,hx,e⟩;simp only[Function.comp,cP,beq_iff_eq] at e;have:x=o:=by omega
  exact this ▸ hx
 ·intro h;exact⟨o,h,by simp[cP]⟩
def Af (R:List Nat)(o:Nat)(h:o∉R):((al R).all fun q => !cP q (.int o))=true:=by
 rw[List.all_eq_true];intro q hq;unfold al at hq;obtain⟨x,hx,rfl⟩:=List.mem_map.mp hq;have:x≠o:=fun z=>h (z ▸ hx);simp[cP];omega
def pj {l:List D}{c:Nat}{d:D}(h:l[c]? = some d):aD (.lst l) (.int (c:Nat))=some d:=by
 have hc:c<l.length:=by
  rcases Nat.lt_or_ge c l.length with z | z
  ·exact z
  ·rw[List.getElem?_eq_none z] at h;cases h
 unfold aD;simp only;unfold sL;rw[if_pos (by omega),if_pos (by omega)];simpa using h
def lj (f:β->D)(v:Nat->β){n c:Nat}(hc:c<n):aD (ba f v n) (.int (c:Nat))=some (f (v c)):=by
 unfold ba;refine pj ?_;rw[List.getElem?_map,List.getElem?_range hc];rfl
abbrev HS (vs:D)(a:Nat)(R:List Nat)(V:List D)(k:Nat)(x5 x6:Option D):Ev:=[some vs,some (.int a),none,none,some (.int k),x5,x6,none,none,some (.dic false (al R) V),some (.lst (al R)),none,none,none]
variable {f:β->D}{v:Nat->β}{n a:Nat}
def xV (hf:Fd f)(ha:a<n){R:List Nat}{V:List D}(k:Nat){x o:Nat}(ho:o<n)(hl:R.length<=100000):cN (HS (ba f v n) a R V k (some (.int x)) (some (.int o))) =
 some (.nx (if o∉R/\decide (v o=v a)=true then HS (ba f v n) a (R++[o]) (V++[.int x]) k (some (.int x)) (some (.int o)) else HS (ba f v n) a R V k (some (.int x)) (some (.int o)))):=by
 have t1:tV (BY 7 2 true (ac 6)) (HS (ba f v n) a R V k (some (.int x)) (some (.int o)))=some (!decide (o∈R)):=by
  have e:BO (.dic false (al R) V) (.int o)=some (decide (o∈R)):=by
   show some ((al R).any fun q=>cP q (.int o))=_;rw[pV]
  show ((BO (.dic false (al R) V) (.int o)).bind fun b=>some (.bl (b != true))).bind truth=_;rw[e];cases decide (o∈R) <;> rfl
 have t2:tV (am oEq (am aD (ac 0) (ac 6)) (am aD (ac 0) (ac 1))) (HS (ba f v n) a R V k (some (.int x)) (some (.int o)))=some (decide (v o=v a)):=by
  refine cp (d:=.bl (decide (v o=v a))) ((aY ((aY (x:=ba f v n) (y:=.int o) rfl rfl).trans (lj f v ho)) ((aY (x:=ba f v n) (y:=.int a) rfl rfl).trans (lj f v ha))).trans ?_) rfl;unfold oEq;rw[if_pos ⟨hf.dp _,hf.dp _⟩,hf.eq]
 unfold cN gp j5;rw[t1];simp only[Option.bind_some];by_cases h1:o∈R
 ·simp[h1,cH]
 ·simp only[h1,decide_false,Bool.not_false,if_true,t2,Option.bind_some];by_cases h2:v o=v a
  ·simp only[h2,decide_true,if_true,not_false_eq_true,and_self];have p:wK 7 2 (ac 6) (ac 5) (HS (ba f v n) a R V k (some (.int x)) (some (.int o)))=some (.nx [some (ba f v n),some (.int a),none,none,some (.int k),some (.int x),some (.int o),none,none,some (.dic false (al R++[.int o]) (V++[.int x])),some (.lst (al R)),none,none,none]):=by
    show (if ((al R).all fun q => !cP q (.int o))=true/\(al R).length<16777216 then _ else _)=_;rw[if_pos ⟨Af R o h1,by unfold al;rw[List.length_map];omega⟩];rfl
   rw[ap p];show (if (al R).length<16777216 then _ else _)=_;rw[if_pos (by unfold al;rw[List.length_map];omega)];have ea:al R++[.int o]=al (R++[o]):=by unfold al;rw[List.map_append];rfl
   unfold HS;rw[<-ea];rfl
  ·simp[h2,cH]
def pw (hf:Fd f)(ha:a<n){nb:Nat->List Nat}{k x:Nat}:∀(ns R:List Nat) (V:List D) (x6:Option D),R[k]? = some x->(∀o∈ns,o<n/\o∈nb x)->Pt nb R V->R.length+ns.length<=100000->∃V' y6,
 dD (gN 6) cN (al ns) (HS (ba f v n) a R V k (some (.int x)) x6)=some (.nx (HS (ba f v n) a (grow (fun c=>decide (v c=v a)) R ns) V' k (some (.int x)) y6))/\Pt nb (grow (fun c=>decide (v c=v a)) R ns) V'
 | [],R,V,x6,_,_,hp,_=>⟨V,x6,rfl,hp⟩
 | o::ns,R,V,x6,hx,hn,hp,hl=>by
   simp only[List.length_cons] at hl;obtain⟨ho,hob⟩:=hn o List.mem_cons_self;have e0:al (o::ns)=.int o::al ns:=rfl;have e1:=xV (v:=v) hf ha (R:=R) (V:=V) k (x:=x) ho (by omega);rw[grow];by_cases h:o∉R/\decide (v o=v a)=true
   ·rw[if_pos h] at e1 ⊢;have hk:k<R.length:=by
     rcases Nat.lt_or_ge k R.length with z | z
     ·exact z
     ·rw[List.getElem?_eq_none z] at hx;cases hx
    obtain⟨V',y6,ih,hp'⟩:=pw hf ha (nb:=nb) ns (R++[o]) (V++[.int x]) (some (.int o)) (by rw[List.getElem?_append_left hk];exact hx) (fun q hq=>hn q (List.mem_cons_of_mem _ hq)) (hp.app hx hob) (by simp;omega);refine⟨V',y6,?_,hp'⟩;rw[e0,d7 (δ1:=HS (ba f v n) a R V k (some (.int x)) (some (.int o))) rfl e1,ih]
   ·rw[if_neg h] at e1 ⊢;obtain⟨V',y6,ih,hp'⟩:=pw hf ha (nb:=nb) ns R V (some (.int o)) hx (fun q hq=>hn q (List.mem_cons_of_mem _ hq)) hp (by omega);refine⟨V',y6,?_,hp'⟩;rw[e0,d7 (δ1:=HS (ba f v n) a R V k (some (.int x)) (some (.int o))) rfl e1,ih]
def xL (f:β->D)(v:Nat->β)(n:Nat):d8 [ba f v n]=some (.int n):=by
 unfold ba d8;simp
def BC (n c:Nat):(nn n c).length<=4:=by
 unfold nn;split <;> split <;> simp
def A8 (hf:Fd f){N:Nat}(hn:n=24*N)(hN:N<=1000)(ha:a<n):∃R V,bh [ba f v n,.int a]=some (.dic false (al R) V)/\Bf (nn n) v n a R R.length/\Pt (nn n) R V:=by
 have hs:DD (nn n) n:=hn ▸ xy N
 let S:List Nat->Nat->Ev->Prop:=fun R k δ=>∃V x5 x6,δ=HS (ba f v n) a R V k x5 x6/\Pt (nn n) R V
 obtain⟨M,R,δ',e,⟨V,x5,x6,rfl,hp⟩,hb⟩:=p6 (v:=v) (a:=a) hs (c:=tV (am oLt (ac 4) (vH 7 [3] (ag d8 (ab (ac 3) ah))))) (b:=dM) S
  (fun R k δ hk ⟨V,x5,x6,e,_⟩=>by
   subst e;have:tV (am oLt (ac 4) (vH 7 [3] (ag d8 (ab (ac 3) ah)))) (HS (ba f v n) a R V k x5 x6)=some (decide ((k:Int)<((al R).length:Nat))):=rfl;rw[this];unfold al;rw[List.length_map];simp)
  (fun R k x δ hB hx ⟨V,x5,x6,e,hp⟩=>by
   subst e;have hxn:=hB.lt x (List.mem_of_getElem? hx);have hfew:=hB.few;have h4:=BC n x;obtain⟨V',y6,e2,hp'⟩:=pw (v:=v) hf ha (nb:=nn n) (k:=k) (x:=x) (nn n x) R V x6 hx (fun o ho=>⟨(hs x o hxn ho).1,ho⟩) hp (by omega);refine⟨HS (ba f v n) a (grow (fun c=>decide (v c=v a)) R (nn n x)) V' (k+1) (some (.int x)) y6,?_,V',_,_,rfl,hp'⟩;unfold dM;have e1:vH 7 [3] (am aD (ac 3) (ac 4)) (HS (ba f v n) a R V k x5 x6)=some (.int x):=by
    show (aD (.lst (al R)) (.int k)).bind (fun d=>if flat d=true then some d else none)=_;have:(al R)[k]? = some (.int x):=by unfold al;rw[List.getElem?_map,hx];rfl
    rw[pj this];rfl
   rw[ap (aG (δ':=HS (ba f v n) a R V k (some (.int x)) x6) e1 rfl)];rw[ap ((cx (xs:=al (nn n x)) (by
    unfold bz;rw[av (x:=.int x) (y:=.int n) rfl ((aJ (x:=ba f v n) rfl).trans (xL f v n)),oT hxn];rfl)).trans e2)]
   unfold HS;rw[Int.natCast_succ];rfl)
  n [a] 0 (HS (ba f v n) a [a] [.non] 0 none none) (by omega) (Bf.start ha) ⟨_,_,_,rfl,rfl,rfl,fun i x hi hx=>by
   have:([a]:List Nat)[i]? = none:=List.getElem?_eq_none (by simp;omega);rw[this] at hx;cases hx⟩
 refine⟨R,V,?_,hb,hp⟩;unfold bh Cr;rw[if_pos (show ([ba f v n,D.int (a:Int)]:List D).length=2 from rfl)];show (cG [some (ba f v n),some (.int a),none,none,none,none,none,none,none,none,none,none,none,none]).bind _=_;have:cG [some (ba f v n),some (.int a),none,none,none,none,none,none,none,none,none,none,none,none]=some (.rt (.dic false (al R) V)):=by
  unfold cG;have sn:∀{a b:MS} {δ δ':Ev},a δ=some (.nx δ')->lO a b δ=b δ':=fun h=>by unfold lO;rw[h];rfl
  rw[sn (δ':=[some (ba f v n),some (.int a),none,none,none,none,none,none,none,some (.dic false [.int a] [.non]),none,none,none,none]) rfl];rw[sn (δ':=[some (ba f v n),some (.int a),none,none,none,none,none,none,none,some (.dic false [.int a] [.non]),some (.lst [.int a]),none,none,none]) rfl];rw[sn (δ':=HS (ba f v n) a [a] [.non] 0 none none) rfl];rw[sn (ix e)];rfl
 rw[this];rfl
end
section
variable {β:Type}[DecidableEq β]
variable {f:β->D}{v:Nat->β}{n:Nat}
def dZ (R:List Nat):(al R).length=R.length:=by unfold al;rw[List.length_map]
end
end DL.Pg
namespace DL.Pg
open PySem DL DL.Lw
noncomputable def bp (p:Pc):List Nat:=(List.range p.w).map fun k=>(p.b+k) % 24
def uU (p:Pc):(oH p).map D.int=al (bp p):=by unfold oH al bp;rw[List.map_map,List.map_map];rfl
def ci (p:Pc)(bs:List Nat):List Nat:=bs.flatMap fun b=>(bp p).map fun t=>24*b+t
def uv (x:Nat):∀E:List Nat,(E.map fun (n:Nat)=>(n:Int)).idxOf (x:Int)=E.idxOf x
 | []=>rfl
 | e::E=>by
   rw[List.map_cons,List.idxOf_cons,List.idxOf_cons,uv x E];have:((e:Int)==(x:Int))=(e==x):=by rw[Bool.eq_iff_iff];simp;omega
   rw[this]
def tX {E:List Nat}{x:Nat}(hx:x∈E):ja (.lst (al E)) (.int x)=some (.int (E.idxOf x:Nat)):=by
 unfold ja;simp only;rw[mF];simp only[Option.bind_some];rw[if_pos (List.mem_map.mpr ⟨x,hx,rfl⟩),uv]
def sr (a m:Nat):bV a m=al (List.range' a m):=by
 unfold bV al;rw[List.range'_eq_map_range,List.map_map];refine List.map_congr_left fun i _=>?_;simp
def iy {a b:ME}{δ:Ev}{i j:Int}(ha:a δ=some (.int i))(hb:b δ=some (.int j))(h : -1073741824<i/\i<1073741824 /\ -1073741824<j/\j<1073741824):fE a b δ=some (bV i (j-i).toNat):=by
 unfold fE;rw[ha,hb];simp only[Option.bind_some];rw[if_pos h]
noncomputable def Cg (b:Nat):D->D
 | .int t=>.int (24*(b:Int)+t)
 | d=>d
def tH {p:Pc}(x0 x1 x2 x4:Option D)(b:Nat)(r:Ev)(hw:p.w<=24) :
 bw 1 [5] (bz (ac 3)) (gN 0) tT (am aT (am aO (eC (.int 24)) (ac 1)) (ac 0)) ([x0,x1,x2,some (.lst (al (bp p))),x4,some (.int b)]++r)=some (.lst (al ((bp p).map fun t=>24*b+t))):=by
 have hl:(al (bp p)).length<=16777216:=by unfold al bp;simp;omega
 have hc:=bO (k:=1) (fv:=[5]) (i:=bz (ac 3)) (g:=gN 0) (c:=tT) (e:=am aT (am aO (eC (.int 24)) (ac 1)) (ac 0)) (δ:=[x0,x1,x2,some (.lst (al (bp p))),x4,some (.int b)]++r) (xs:=al (bp p)) (fun x=>some (Cg b x)) rfl hl fun x hx=>by
  unfold al at hx;obtain⟨t,_,rfl⟩:=List.mem_map.mp hx;refine⟨[some (.int t),some (.int b)],rfl,.inl ⟨rfl,Cg b (.int t),?_,rfl⟩⟩;have em:aO (.int 24) (.int b)=some (.int (24*b)):=cA (by decide);exact(aY ((aY (x:=.int 24) (y:=.int b) rfl rfl).trans em) (y:=.int t) rfl).trans rfl
 rw[hc,List.filterMap_eq_map'];unfold al;rw[List.map_map,List.map_map];refine congrArg (fun l=>some (D.lst l)) (List.map_congr_left fun t _=>?_);simp only[Function.comp,Cg];congr 1
def mY {p:Pc}(hw:p.w<=24)(x0 x1 x2:Option D):∀(bs:List Nat) (acc:List Nat) (x5:Option D),acc.length+24*bs.length<=100000->∃y5,
 dD (gN 5) eT (al bs) [x0,x1,x2,some (.lst (al (bp p))),none,x5,none,none,none,none,some (.lst (al acc)),none] =
  some (.nx [x0,x1,x2,some (.lst (al (bp p))),none,y5,none,none,none,none,some (.lst (al (acc++ci p bs))),none])
 | [],acc,x5,_=>⟨x5,by simp[al,dD,ci]⟩
 | b::bs,acc,x5,hl=>by
   simp only[List.length_cons] at hl;have hm:(bp p).length<=24:=by unfold bp;simp;exact hw
   have e:eT [x0,x1,x2,some (.lst (al (bp p))),none,some (.int b),none,none,none,none,some (.lst (al acc)),none] =
    some (.nx [x0,x1,x2,some (.lst (al (bp p))),none,some (.int b),none,none,none,none,some (.lst (al (acc++(bp p).map fun t=>24*b+t))),none]):=by
    have eb:=tH (p:=p) x0 x1 x2 none b [none,none,none,none,some (.lst (al acc)),none] hw;unfold eT sk;simp only[List.cons_append,List.nil_append] at eb;rw[eb];show (if (al acc).length+(al ((bp p).map fun t=>24*b+t)).length<=16777216 then _ else _)=_;rw[if_pos (by rw[dZ,dZ,List.length_map];omega)];have:al acc++al ((bp p).map fun t=>24*b+t)=al (acc++(bp p).map fun t=>24*b+t):=by unfold al;rw[List.map_append]
    rw[<-this];rfl
   obtain⟨y5,ih⟩:=mY hw x0 x1 x2 bs (acc++(bp p).map fun t=>24*b+t) (some (.int b)) (by rw[List.length_append,List.length_map];omega);refine⟨y5,?_⟩;have e0:al (b::bs)=.int b::al bs:=rfl;rw[e0,d7 (δ1:=[x0,x1,x2,some (.lst (al (bp p))),none,some (.int b),none,none,none,none,some (.lst (al acc)),none]) rfl e,ih];unfold ci;rw[List.flatMap_cons,List.append_assoc]
noncomputable def cF (E:List Nat)(p:Pc):List Nat:=List.range' (E.idxOf p.i) (E.idxOf p.o-E.idxOf p.i)
def sv {p:Pc}(h:p.ok){E:List Nat}(hi:p.i∈E)(ho:p.o∈E)(hE:E.length<=1000):gA [pD p,.lst (al E)]=some (.lst (al (ci p (cF E p)))):=by
 have hw:p.w<=24:=h.2.2.2.2;have l1:=List.idxOf_lt_length_of_mem hi;have l2:=List.idxOf_lt_length_of_mem ho;obtain⟨y5,e⟩:=mY hw (some (pD p)) (some (.lst (al E))) (some (.tup [.int p.i,.int p.o])) (cF E p) [] none (by unfold cF;simp;omega);refine bq rfl ?_;show gI [some (pD p),some (.lst (al E)),none,none,none,none,none,none,none,none,none,none]=_;unfold gI;rw[ap (aG (d:=.tup [.int p.i,.int p.o]) (δ':=[some (pD p),some (.lst (al E)),some (.tup [.int p.i,.int p.o]),none,none,none,none,none,none,none,none,none]) ((aJ (x:=pD p) rfl).trans (wV h)) rfl)];rw[ap (aG (d:=.lst (al (bp p))) (δ':=[some (pD p),some (.lst (al E)),some (.tup [.int p.i,.int p.o]),some (.lst (al (bp p))),none,none,none,none,none,none,none,none]) ((aJ (x:=pD p) rfl).trans ((yY h).trans (by rw[uU]))) rfl)];rw[ap (δ':=[some (pD p),some (.lst (al E)),some (.tup [.int p.i,.int p.o]),some (.lst (al (bp p))),none,none,none,none,none,none,some (.lst (al [])),none]) rfl];have hr:fE (am ja (ac 1) (am aD (ac 2) (eC (.int 0)))) (am ja (ac 1) (am aD (ac 2) (eC (.int 1)))) [some (pD p),some (.lst (al E)),some (.tup [.int p.i,.int p.o]),some (.lst (al (bp p))),none,none,none,none,none,none,some (.lst (al [])),none]=some (al (cF E p)):=by
  rw[iy ((aY (x:=.lst (al E)) (y:=.int p.i) rfl rfl).trans (tX hi)) ((aY (x:=.lst (al E)) (y:=.int p.o) rfl rfl).trans (tX ho)) (by omega),sr];unfold cF;rw[show (((E.idxOf p.o:Nat):Int)-((E.idxOf p.i:Nat):Int)).toNat=E.idxOf p.o-E.idxOf p.i by omega]
 rw[ap ((cx hr).trans e)];rfl
def oy (b t:Nat)(ht:t<24)(b':Nat):∀l:List Nat,(∀x∈l,x<24)->(l.map fun x=>24*b'+x).count (24*b+t)=if b'=b then l.count t else 0
 | [],_=>by simp
 | x::l,h=>by
   have hx:=h x List.mem_cons_self;rw[List.map_cons,List.count_cons,List.count_cons,oy b t ht b' l fun y hy=>h y (List.mem_cons_of_mem _ hy)];by_cases hb:b'=b
   ·subst hb;simp only[if_true];have:(24*b'+x==24*b'+t)=(x==t):=by rw[Bool.eq_iff_iff];simp
    rw[this]
   ·have:(24*b'+x==24*b+t)=false:=by simp;omega
    simp[hb,this]
def kO (p:Pc)(b t:Nat)(ht:t<24):∀bs:List Nat,(ci p bs).count (24*b+t)=bs.count b*(bp p).count t
 | []=>by simp[ci]
 | b'::bs=>by
   have ih:=kO p b t ht bs;unfold ci at ih ⊢;rw[List.flatMap_cons,List.count_append,ih,oy b t ht b' (bp p) fun x hx=>by
    unfold bp at hx;obtain⟨k,_,rfl⟩:=List.mem_map.mp hx;exact Nat.mod_lt _ (by decide),List.count_cons]
   by_cases hb:b'=b
   ·subst hb;simp[Nat.add_mul,Nat.add_comm]
   ·simp[hb]
def pK {p:Pc}(h:p.ok){t:Nat}(ht:t<24):(bp p).count t=if p.at t=true then 1 else 0:=by
 unfold bp Pc.at;rw[rE p.b h.2.2.1 p.w (by have:=h.2.2.2.2;omega) t ht];simp only[decide_eq_true_eq]
def pL (b a m:Nat):(List.range' a m).count b=if a<=b/\b<a+m then 1 else 0:=by
 rw[(List.nodup_range' (s:=a) (n:=m)).count];simp[List.mem_range'_1]
def xQ {E:List Nat}(hE:E.Pairwise (·<·)){x:Nat}(hx:x∈E){b:Nat}(hb:b<E.length):E.idxOf x<=b↔x<=E[b]:=by
 have hl:=List.idxOf_lt_length_of_mem hx;have hg:E[E.idxOf x]=x:=List.getElem_idxOf hl;rw[List.pairwise_iff_getElem] at hE;constructor
 ·intro h;rcases Nat.lt_or_ge (E.idxOf x) b with z | z
  ·have:=hE _ _ hl hb z;omega
  ·have:E.idxOf x=b:=by omega
   subst this;omega
 ·intro h;rcases Nat.lt_or_ge b (E.idxOf x) with z | z
  ·have:=hE _ _ hb hl z;omega
  ·exact z
def rF {p:Pc}(h:p.ok){E:List Nat}(hE:E.Pairwise (·<·))(hi:p.i∈E)(ho:p.o∈E){c:Nat}(hc:c<24*E.length):(ci p (cF E p)).count c=if p.has (E.getD (c / 24) 0) (c % 24)=true then 1 else 0:=by
 have hb:c / 24<E.length:=by omega
 have ht:c % 24<24:=Nat.mod_lt _ (by decide);have e:=kO p (c / 24) (c % 24) ht (cF E p);rw[show 24*(c / 24)+c % 24=c by omega] at e;rw[e,pK h ht];unfold cF;rw[pL];have h1:=xQ hE hi hb;have h2:=xQ hE ho hb;have hg:E.getD (c / 24) 0=E[c / 24]:=by simp[hb]
 rw[hg];unfold Pc.has;by_cases a1:p.i<=E[c / 24] <;> by_cases a2:E[c / 24]<p.o
 ·rw[if_pos (by omega)];simp[a1,a2]
 ·rw[if_neg (by omega)];simp[a2]
 ·rw[if_neg (by omega)];simp[a1]
 ·rw[if_neg (by omega)];simp[a1]
noncomputable def zs (l:List Nat):List Int:=l.map fun (n:Nat)=>(n:Int)
def DM (l:List Nat):(zs l).map D.int=al l:=by unfold zs al;rw[List.map_map];rfl
def fw (n:Int):∀(cs:List Int) (rows:List (List Int)),(cn rows n cs).length=rows.length
 | [],_=>rfl
 | c::cs,rows=>by
   show (cn (rows.set c.toNat _) n cs).length=_;rw[fw n cs];simp
def nj (n:Int)(c:Nat):∀(cs:List Nat) (rows:List (List Int)),(∀x∈cs,x<rows.length)->(cn rows n (zs cs)).getD c []=rows.getD c []++List.replicate (cs.count c) n
 | [],rows,_=>by simp[zs,cn]
 | x::cs,rows,h=>by
   have hx:=h x List.mem_cons_self;show (cn (rows.set (x:Int).toNat (rows.getD (x:Int).toNat []++[n])) n (zs cs)).getD c []=_;rw[Int.toNat_natCast,nj n c cs _ fun y hy=>by rw[List.length_set];exact h y (List.mem_cons_of_mem _ hy),List.count_cons];by_cases e:x=c
   ·subst e;simp only[List.getD_eq_getElem?_getD,List.getElem?_set_self hx,Option.getD_some,beq_self_eq_true,if_true,List.append_assoc];rfl
   ·simp only[List.getD_eq_getElem?_getD,List.getElem?_set_ne e];have:(x==c)=false:=by simp[e]
    simp[this]
def vP {p:Pc}{E:List Nat}(ho:p.o∈E):∀c∈ci p (cF E p),c<24*E.length:=fun c hc=>by
 unfold ci cF at hc;obtain⟨b,hb,hx⟩:=List.mem_flatMap.mp hc;obtain⟨t,ht,rfl⟩:=List.mem_map.mp hx;rw[List.mem_range'_1] at hb;unfold bp at ht;obtain⟨k,_,rfl⟩:=List.mem_map.mp ht;have l2:=List.idxOf_lt_length_of_mem ho;have:=Nat.mod_lt (p.b+k) (show 0<24 by decide);omega
def tq {p:Pc}(h:p.ok){E:List Nat}(ho:p.o∈E):(ci p (cF E p)).length<=24*E.length:=by
 have l2:=List.idxOf_lt_length_of_mem ho;have hw:=h.2.2.2.2;have:∀bs:List Nat,(ci p bs).length=p.w*bs.length:=fun bs=>by
  induction bs with
  | nil=>simp[ci]
  | cons b bs ih =>
    unfold ci at ih ⊢;rw[List.flatMap_cons,List.length_append,ih,List.length_map,List.length_cons,Nat.mul_add];unfold bp;simp;omega
 rw[this];unfold cF;rw[List.length_range'];exact Nat.le_trans (Nat.mul_le_mul_right _ hw) (Nat.mul_le_mul_left _ (by omega))
def uq {E:List Nat}(hE:E.Pairwise (·<·))(hEl:E.length<=1000):∀(s:List Pc) (k:Nat) (rows:List (List Int)),(∀p∈s,p.ok/\p.i∈E/\p.o∈E)->k+s.length<=1000->rows.length=24*E.length->(∀r∈rows,r.length<=k) ->
 ∃rows',nG gA (.lst (al E)) k (s.map pD) rows=some rows'/\rows'.length=24*E.length/\∀c,c<24*E.length->rows'.getD c []=rows.getD c []++zs (eE k s (E.getD (c / 24) 0) (c % 24))
 | [],k,rows,_,_,hl,_=>⟨rows,rfl,hl,fun c _=>by simp[eE,zs]⟩
 | p::s,k,rows,h,hk,hl,hr=>by
   simp only[List.length_cons] at hk;obtain⟨hp,hi,ho⟩:=h p List.mem_cons_self;have hlt:=vP (p:=p) ho;have hcl:=tq hp ho;have hget:∀c,c<24*E.length->(cn rows (k:Int) (zs (ci p (cF E p)))).getD c []=rows.getD c []++(if p.has (E.getD (c / 24) 0) (c % 24)=true then [(k:Int)] else []):=fun c hc=>by
    rw[nj _ c _ _ fun x hx=>by rw[hl];exact hlt x hx,rF hp hE hi ho hc];split <;> rfl
   have hlen:=fw (k:Int) (zs (ci p (cF E p))) rows;obtain⟨rows',e,h1,h2⟩:=uq hE hEl s (k+1) (cn rows (k:Int) (zs (ci p (cF E p)))) (fun q hq=>h q (List.mem_cons_of_mem _ hq)) (by omega) (by rw[hlen,hl]) fun r hrr=>by
    obtain⟨c,hc,rfl⟩:=List.getElem_of_mem hrr;have hc':c<24*E.length:=by rw[hlen,hl] at hc;exact hc
    have:=hget c hc';rw[List.getD_eq_getElem?_getD,List.getElem?_eq_getElem hc,Option.getD_some] at this;rw[this,List.length_append];have hrow:(rows.getD c []).length<=k:=by
     have hc2:c<rows.length:=by omega
     rw[List.getD_eq_getElem?_getD,List.getElem?_eq_getElem hc2,Option.getD_some];exact hr _ (List.getElem_mem hc2)
    split <;> simp only[List.length_cons,List.length_nil] <;> omega
   refine⟨rows',?_,h1,fun c hc=>?_⟩
   ·rw[List.map_cons,nG,sv hp hi ho hEl];simp only[Option.bind_some];rw[mF];simp only[Option.bind_some];have c1:(((ci p (cF E p)).map fun (n:Nat)=>(n:Int)).all fun c=>decide (0<=c)&&decide (c<rows.length))=true:=by
     rw[List.all_eq_true];intro x hx;obtain⟨c,hc,rfl⟩:=List.mem_map.mp hx;have:=hlt c hc;rw[Bool.and_eq_true,decide_eq_true_eq,decide_eq_true_eq];omega
    have c2:(rows.all fun r=>decide (r.length+((ci p (cF E p)).map fun (n:Nat)=>(n:Int)).length<=1000000))=true:=by
     rw[List.all_eq_true];intro r hrr;have:=hr r hrr;rw[List.length_map,decide_eq_true_eq];omega
    rw[if_pos ⟨c1,c2⟩];exact e
   ·rw[h2 c hc,hget c hc,eE];split <;> simp[zs]
def vn {cm:ME}{fn:MF}{m:MS}{ps es cs:List D}{rows:List (List Int)}(hc:cm [some (.tup ps),some (.lst es),none,none,none,none]=some (.lst cs))(hl:cs.length<=1000000)(e:nG fn (.lst es) 0 ps (List.replicate cs.length [])=some rows) :
 jx cm fn m [some (.tup ps),some (.lst es),none,none,none,none]=m [some (.tup ps),some (.lst es),some (qx rows),none,none,none]:=by
 unfold jx;simp only;rw[hc];simp only[Option.bind_some];rw[if_pos hl,e];rfl
def ly (s:List Pc)(E:List Nat)(c:Nat):List Nat:=eE 0 s (E.getD (c / 24) 0) (c % 24)
def bi (l:List Nat):D:=.tup (al l)
noncomputable def DO:D->D
 | .lst l=>.tup l
 | d=>d
def fO {s:List Pc}{E:List Nat}(hE:E.Pairwise (·<·))(hEl:E.length<=1000)(h:∀p∈s,p.ok/\p.i∈E/\p.o∈E)(hl:s.length<=1000):bR [bj s,.lst (al E)]=some (ba bi (ly s E) (24*E.length)):=by
 obtain⟨rows,e,h1,h2⟩:=uq hE hEl s 0 (List.replicate (24*E.length) []) h (by omega) (by simp) fun r hr=>by
  rw[List.eq_of_mem_replicate hr];simp
 have hrows:rows=(List.range (24*E.length)).map fun c=>zs (ly s E c):=by
  refine List.ext_getElem (by simp[h1]) fun c hc hc'=>?_;have hcn:c<24*E.length:=by omega
  have:=h2 c hcn;rw[List.getD_eq_getElem?_getD,List.getElem?_eq_getElem hc,Option.getD_some] at this;rw[this];simp[ly,hcn]
 refine bq rfl ?_;show dX [some (bj s),some (.lst (al E)),none,none,none,none]=_;unfold dX;have hcm:∃cs:List D,cs.length=24*E.length/\bw 1 [] (fo (am aO (eC (.int 24)) (ag d8 (ab (ac 1) ah)))) (gN 0) tT (bK ah) [some (bj s),some (.lst (al E)),none,none,none,none]=some (.lst cs):=by
  have em:aO (.int 24) (.int (E.length:Nat))=some (.int ((24*E.length:Nat):Int)):=by
   rw[cA (by decide)];simp
  have el:ag d8 (ab (ac 1) ah) [some (bj s),some (.lst (al E)),none,none,none,none]=some (.int (E.length:Nat)):=by
   rw[aJ (x:=.lst (al E)) rfl];show some (D.int ((al E).length:Nat))=_;rw[dZ]
  have hi:=nP (n:=24*E.length) ((aY (x:=.int 24) rfl el).trans em:am aO (eC (.int 24)) (ag d8 (ab (ac 1) ah)) [some (bj s),some (.lst (al E)),none,none,none,none]=_) (by omega);refine⟨_,?_,bO (fun _=>some (.lst [])) hi (by unfold cw;simp;omega) fun x hx=>⟨_,rfl,.inl ⟨rfl,_,rfl,rfl⟩⟩⟩;rw[List.filterMap_eq_map'];unfold cw;simp
 obtain⟨cs,hcl,hcm⟩:=hcm;unfold bj at hcm ⊢;rw[<-hcl] at e;rw[vn hcm (by omega) e,hrows];have hrl:(List.map (fun r=>D.lst (List.map D.int r)) (List.map (fun c=>zs (ly s E c)) (List.range (24*E.length)))).length<=16777216:=by simp;omega
 have hc:=bO (k:=1) (fv:=[]) (i:=bz (ac 2)) (g:=gN 0) (c:=tT) (e:=ag je (ab (ac 0) ah)) (δ:=[some (.tup (s.map pD)),some (.lst (al E)),some (qx ((List.range (24*E.length)).map fun c=>zs (ly s E c))),none,none,none]) (fun x=>some (DO x)) rfl hrl fun x hx=>by
  obtain⟨r,_,rfl⟩:=List.mem_map.mp hx;exact⟨[some (.lst (r.map D.int))],rfl,.inl ⟨rfl,_,rfl,rfl⟩⟩
 refine aK (hc.trans ?_);rw[List.filterMap_eq_map',List.map_map,List.map_map];unfold ba;refine congrArg (fun l=>some (D.lst l)) (List.map_congr_left fun c _=>?_);show D.tup ((zs (ly s E c)).map D.int)=_;rw[DM];rfl
noncomputable def aL (p:Int×Int):D:=.tup [.int p.1,.int p.2]
noncomputable def low (u l:Int):Int×Int:=(u / (Int.gcd u l:Nat),l / (Int.gcd u l:Nat))
def mJ (a:Int){b:Int}(hb:0<b):Int.gcd b (a % b)=Int.gcd a b:=by
 have e:=Int.emod_add_mul_ediv a b;have:=Int.gcd_add_mul_left_right b (a % b) (a / b);rw[e] at this;rw[<-this,Int.gcd_comm]
def ri (a:Int):Int.gcd a 0=a.natAbs:=by simp
def gC {u l:Int}(h:0<l):(0:Int)<(Int.gcd u l:Nat):=by
 have:=Int.gcd_pos_of_ne_zero_right u (b:=l) (by omega);omega
def xZ {u l:Int}(h:0<l):((Int.gcd u l:Nat):Int)<=l:=Int.le_of_dvd h (Int.gcd_dvd_right u l)
def xH {u l:Int}(h:0<l):(low u l).1*(Int.gcd u l:Nat)=u:=Int.ediv_mul_cancel (Int.gcd_dvd_left u l)
def ra {u l:Int}(h:0<l):(low u l).2*(Int.gcd u l:Nat)=l:=Int.ediv_mul_cancel (Int.gcd_dvd_right u l)
def jF {u l:Int}(h:0<l):0<(low u l).2:=by
 have h1:=ra (u:=u) h;have h2:=gC (u:=u) h;by_cases z:0<(low u l).2
 ·exact z
 ·have:=Int.mul_nonpos_of_nonpos_of_nonneg (show (low u l).2<=0 by omega) (Int.le_of_lt h2);omega
def jG {u l:Int}(h:0<l):Int.gcd (low u l).1 (low u l).2=1:=Int.gcd_ediv_gcd_ediv_gcd (by have:=gC (u:=u) h;omega)
def kj {u l:Int}(h:0<l):(low u l).1*l=u*(low u l).2:=by
 have h1:=xH (u:=u) h;have h2:=ra (u:=u) h;generalize hg:((Int.gcd u l:Nat):Int)=g at *;generalize (low u l).1=a at *;generalize (low u l).2=b at *;rw[<-h1,<-h2];ac_rfl
def xG {a b c d:Int}(hb:0<b)(hd:0<d)(h1:Int.gcd a b=1)(h2:Int.gcd c d=1)(h:a*d=c*b):a=c/\b=d:=by
 have k1:b.natAbs∣d.natAbs:=by
  have:b.natAbs∣a.natAbs*d.natAbs:=by rw[<-Int.natAbs_mul,h,Int.natAbs_mul];exact Nat.dvd_mul_left _ _
  exact Nat.Coprime.dvd_of_dvd_mul_left (by rw[Nat.Coprime,Nat.gcd_comm];exact h1) this
 have k2:d.natAbs∣b.natAbs:=by
  have:d.natAbs∣c.natAbs*b.natAbs:=by rw[<-Int.natAbs_mul,<-h,Int.natAbs_mul];exact Nat.dvd_mul_left _ _
  exact Nat.Coprime.dvd_of_dvd_mul_left (by rw[Nat.Coprime,Nat.gcd_comm];exact h2) this
 have e:=Nat.dvd_antisymm k1 k2;have e':b=d:=by omega
 subst e';exact⟨Int.eq_of_mul_eq_mul_right (by omega) h,rfl⟩
def ki {u l u' l':Int}(h:0<l)(h':0<l')(e:u*l'=u'*l):low u l=low u' l':=by
 have c1:=kj (u:=u) h;have c2:=kj (u:=u') h';obtain⟨x,y⟩:=xG (jF (u:=u) h) (jF (u:=u') h') (jG (u:=u) h) (jG (u:=u') h') (by
  generalize (low u l).1=a at *;generalize (low u l).2=b at *;generalize (low u' l').1=c at *;generalize (low u' l').2=d at *;have s1:(a*d)*(l*l')=(c*b)*(l*l'):=by
   have t1:(a*d)*(l*l')=(a*l)*(d*l'):=by ac_rfl
   have t2:(c*b)*(l*l')=(c*l')*(b*l):=by ac_rfl
   rw[t1,t2,c1,c2];have t3:u*b*(d*l')=(u*l')*(b*d):=by ac_rfl
   have t4:u'*d*(b*l)=(u'*l)*(b*d):=by ac_rfl
   rw[t3,t4,e]
  exact Int.eq_of_mul_eq_mul_right (by have:=Int.mul_pos h h';omega) s1)
 exact Prod.ext x y
def mC {u l:Int}(hg:Int.gcd u l=1):low u l=(u,l):=by
 unfold low;rw[hg];simp
def vk {u l:Int}(h:0<l):(low u l).1 / (low u l).2=u / l:=by
 have h1:=xH (u:=u) h;have h2:=ra (u:=u) h;have h3:=gC (u:=u) h;have:u / l=((Int.gcd u l:Nat)*(low u l).1) / ((Int.gcd u l:Nat)*(low u l).2):=by rw[Int.mul_comm _ (low u l).1,Int.mul_comm _ (low u l).2,h1,h2]
 rw[this,Int.mul_ediv_mul_of_pos _ _ h3]
def sK {u l:Int}(h:0<l):(low u l).2<=l:=by
 have h2:=ra (u:=u) h;have h3:=gC (u:=u) h;have h4:=jF (u:=u) h;have:(low u l).2*1<=(low u l).2*(Int.gcd u l:Nat):=Int.mul_le_mul_of_nonneg_left (by omega) (by omega);omega
def zD {u l:Int}(h:0<l):(low u l).2∣l:=⟨_,(ra (u:=u) h).symm⟩
def Au:∀(n:Nat) (a b:Int) (x2:Option D),0<=b->b.toNat<=n->∃N y2,j0 (tV (am iP (ac 1) (eC (.int 0)))) cj N [some (.int a),some (.int b),x2]=some (.nx [some (.int (if b=0 then a else (Int.gcd a b:Nat))),some (.int 0),y2])
 | n,a,b,x2,hb,hn=>by
   by_cases h:b=0
   ·subst h;exact⟨1,x2,rfl⟩
   ·have hp:0<b:=by omega
    have hlt:=Int.emod_lt_of_pos a hp;have hge:=Int.emod_nonneg a h;cases n with
    | zero=>omega
    | succ n =>
      obtain⟨N,y2,e⟩:=Au n b (a % b) (some (.int (a % b))) hge (by omega);refine⟨N+1,y2,?_⟩;have hc:tV (am iP (ac 1) (eC (.int 0))) [some (.int a),some (.int b),x2]=some true:=by
       show some (!(b==0))=_;simp[h]
      have hs:cj [some (.int a),some (.int b),x2]=some (.nx [some (.int b),some (.int (a % b)),some (.int (a % b))]):=by
       unfold cj;have:am oMod (ac 0) (ac 1) [some (.int a),some (.int b),x2]=some (.int (a % b)):=by
        show (if 0<b then some (D.int (a % b)) else none)=_;rw[if_pos hp]
       rw[ap (aG (δ':=[some (.int a),some (.int b),some (.int (a % b))]) this rfl)];rfl
      rw[j0,hc];simp only[Option.bind_some,if_true];rw[hs];simp only[Option.bind_some];rw[e,if_neg h];have:(if a % b=0 then b else ((Int.gcd b (a % b):Nat):Int))=(Int.gcd a b:Nat):=by
       by_cases z:a % b=0
       ·rw[if_pos z,<-mJ a hp,z,ri];omega
       ·rw[if_neg z,mJ a hp]
      rw[this]
def qH {a b:Int}(hb:0<b):cI [.int a,.int b]=some (.int (Int.gcd a b:Nat)):=by
 obtain⟨N,y2,e⟩:=Au b.toNat a b none (by omega) (Nat.le_refl _);rw[if_neg (by omega)] at e;refine bq rfl ?_;show cO [some (.int a),some (.int b),none]=_;unfold cO;rw[ap (ix e)];refine aK ((aJ (x:=.int (Int.gcd a b:Nat)) rfl).trans ?_);show some (D.int (if ((Int.gcd a b:Nat):Int)<0 then _ else _))=_;rw[if_neg (by omega)]
def fF {a b:ME}{δ:Ev}{i j:Int}(ha:a δ=some (.int i))(hb:b δ=some (.int j))(h:0<j/\j<1073741824):am cQ a b δ=some (.int (i / j)):=by
 rw[aY ha hb];show (if 0<j/\j<1073741824 then some (D.int (i / j)) else none)=_;rw[if_pos h]
def qC {u l:Int}(h:0<l)(hl:l<1000000):jE [.int u,.int l]=some (aL (low u l)):=by
 have h1:=gC (u:=u) h;have h2:=xZ (u:=u) h;refine bq rfl ?_;show jU [some (.int u),some (.int l),none]=_;unfold jU;rw[ap (aG (δ':=[some (.int u),some (.int l),some (.int (Int.gcd u l:Nat))]) ((av (x:=.int u) (y:=.int l) rfl rfl).trans (qH h)) rfl)];unfold low;generalize ((Int.gcd u l:Nat):Int)=g at *;exact aK (eL (fF (i:=u) (j:=g) rfl rfl ⟨h1,by omega⟩) (fF (i:=l) (j:=g) rfl rfl ⟨h1,by omega⟩))
end DL.Pg
namespace DL.K06
open PySem DL DL.Pg DL.Lw
def um:∀(n:Nat) (x0 x1:Option D) (a b:Int),0<=a->0<=b->b.toNat<=n->∃N,j0 (tV (am xv (ac 3) (eC (.int 0)))) dB N [x0,x1,some (.int a),some (.int b)]=some (.nx [x0,x1,some (.int (Int.gcd a b:Nat)),some (.int 0)])
 | n,x0,x1,a,b,ha,hb,hn=>by
   by_cases h:b=0
   ·subst h;refine⟨1,?_⟩;rw[ri,show ((a.natAbs:Nat):Int)=a by omega];rfl
   ·have hp:0<b:=by omega
    have hlt:=Int.emod_lt_of_pos a hp;have hge:=Int.emod_nonneg a h;cases n with
    | zero=>omega
    | succ n =>
      obtain⟨N,e⟩:=um n x0 x1 b (a % b) hb hge (by omega);refine⟨N+1,?_⟩;have hc:tV (am xv (ac 3) (eC (.int 0))) [x0,x1,some (.int a),some (.int b)]=some true:=by
       show some (decide (0<b))=_;simp[hp]
      have hs:dB [x0,x1,some (.int a),some (.int b)]=some (.nx [x0,x1,some (.int b),some (.int (a % b))]):=by
       show ((if 0<b then some (D.int (a % b)) else none).bind _)=_;rw[if_pos hp];rfl
      rw[j0,hc];simp only[Option.bind_some,if_true];rw[hs];simp only[Option.bind_some];rw[e,mJ a hp]
def dG {u l:Int}(h:0<l)(hl:l<1000000):aH [.int u,.int l]=some (aL (low u l)):=by
 have h1:=gC (u:=u) h;have h2:=xZ (u:=u) h;have hab:(if u<0 then -u else u)=((u.natAbs:Nat):Int):=by split <;> omega
 obtain⟨N,e⟩:=um l.toNat (some (.int u)) (some (.int l)) ((u.natAbs:Nat):Int) l (by omega) (by omega) (Nat.le_refl _);have hg:Int.gcd ((u.natAbs:Nat):Int) l=Int.gcd u l:=by unfold Int.gcd;simp
 rw[hg] at e;refine bq rfl ?_;show cZ [some (.int u),some (.int l),none,none]=_;unfold cZ;have ea:ag rj (ab (ac 0) ah) [some (.int u),some (.int l),none,none]=some (.int ((u.natAbs:Nat):Int)):=by
  rw[aJ (x:=.int u) rfl,<-hab];rfl
 rw[ap (aG (δ':=[some (.int u),some (.int l),some (.int ((u.natAbs:Nat):Int)),none]) ea rfl)];rw[ap (aG (d:=.int l) (δ':=[some (.int u),some (.int l),some (.int ((u.natAbs:Nat):Int)),some (.int l)]) rfl rfl)];rw[ap (ix e)];unfold low;generalize ((Int.gcd u l:Nat):Int)=g at *;exact aK (eL (fF (i:=u) (j:=g) rfl rfl ⟨h1,by omega⟩) (fF (i:=l) (j:=g) rfl rfl ⟨h1,by omega⟩))
end DL.K06
namespace DL.Pg
open PySem DL DL.Lw
def aB (A:Int):Int×Int:=low A 6
def cy (A:Int):0<(aB A).2:=jF (by decide)
def bJ (A:Int):(aB A).1*6=A*(aB A).2:=kj (by decide)
def vC (A:Int):(aB A).1 / (aB A).2=A / 6:=vk (by decide)
def cV (A:Int):(aB A).2=1\/(aB A).2=2\/(aB A).2=3\/(aB A).2=6:=by
 obtain⟨k,hk⟩:=zD (u:=A) (l:=6) (by decide);have h1:=cy A;have h2:=sK (u:=A) (l:=6) (by decide);unfold aB at *;generalize (low A 6).2=d at *;have:d=1\/d=2\/d=3\/d=4\/d=5\/d=6:=by omega
 rcases this with rfl | rfl | rfl | rfl | rfl | rfl <;> omega
def uz (A:Int) : -(A.natAbs:Int)<=(aB A).1/\(aB A).1<=A.natAbs:=by
 have h:=bJ A;rcases cV A with e | e | e | e <;> rw[e] at h <;> omega
def uA (A:Int):Int.gcd (aB A).1 (aB A).2=1:=jG (by decide)
def yc {a b:Int}(hb:b=1\/b=2\/b=3\/b=6)(hg:Int.gcd a b=1):(a,b)=aB (a*(6 / b)):=by
 unfold aB;rw[<-mC hg];refine ki (by omega) (by decide) ?_;rcases hb with rfl | rfl | rfl | rfl <;> (rw[Int.mul_assoc];rfl)
def zO {A B:Int}(h:aB A=aB B):A=B:=by
 have h1:=bJ A;have h2:=bJ B;rw[h] at h1;have h3:=cy B;have:A*(aB B).2=B*(aB B).2:=by omega
 exact Int.eq_of_mul_eq_mul_right (by omega) this
def tP (A B:Int):low ((aB A).1*(aB B).2+(aB B).1*(aB A).2) ((aB A).2*(aB B).2)=aB (A+B):=by
 have h1:=bJ A;have h2:=bJ B;have p1:=cy A;have p2:=cy B;have:=Int.mul_pos p1 p2;generalize (aB A).1=a at *;generalize (aB A).2=b at *;generalize (aB B).1=c at *;generalize (aB B).2=d at *;refine ki this (by decide) ?_;have t1:(a*d+c*b)*6=(a*6)*d+(c*6)*b:=by rw[Int.add_mul];congr 1 <;> ac_rfl
 rw[t1,h1,h2,Int.add_mul];congr 1 <;> ac_rfl
def uj (A:Int):low ((aB A).1 % (24*(aB A).2)) (aB A).2=aB (A % 144):=by
 have h1:=bJ A;have p1:=cy A;refine ki p1 (by decide) ?_;rcases cV A with e | e | e | e <;> rw[e] at h1 ⊢ <;> omega
def sb (A:Int):Prop := -10000<=A/\A<=10000
def j7 {A:Int}(h:sb A) : -10000<=(aB A).1/\(aB A).1<=10000:=by
 have:=uz A;unfold sb at h;omega
def jg (A:Int):(aB A).2<=6:=sK (by decide)
def d3 {a b:ME}{δ:Ev}{i j:Int}(ha:a δ=some (.int i))(hb:b δ=some (.int j))(h : -100000<=i/\i<=100000):am aO a b δ=some (.int (i*j)):=(aY ha hb).trans (cA (hU ⟨by omega,by omega⟩))
def fU {a b:ME}{δ:Ev}{i j:Int}(ha:a δ=some (.int i))(hb:b δ=some (.int j)):am aT a b δ=some (.int (i+j)):=(aY ha hb).trans rfl
def uF (A B:Int):0<(aB A).2*(aB B).2/\(aB A).2*(aB B).2<=36:=by
 rcases cV A with e | e | e | e <;> rcases cV B with e' | e' | e' | e' <;> rw[e,e'] <;> decide
def jz {A B:Int}(ha:sb A)(hb:sb B):eN [aL (aB A),aL (aB B)]=some (aL (aB (A+B))):=by
 have a1:=j7 ha;have b1:=j7 hb;have hd:=uF A B;have p1:=cy A;have p2:=jg A;refine bq rfl ?_;show lC [some (aL (aB A)),some (aL (aB B))]=_;unfold lC;refine aK ((av (x:=.int ((aB A).1*(aB B).2+(aB B).1*(aB A).2)) (y:=.int ((aB A).2*(aB B).2)) (fU (d3 rfl rfl (by omega)) (d3 rfl rfl (by omega))) (d3 rfl rfl (by omega))).trans ?_);rw[qC hd.1 (by omega),tP]
def lg {A:Int}(ha:sb A):b8 [aL (aB A)]=some (aL (aB (A % 144))):=by
 have p1:=cy A;have p2:=jg A;refine bq rfl ?_;show fJ [some (aL (aB A))]=_;unfold fJ;have em:am oMod (am aD (ac 0) (eC (.int 0))) (am aO (eC (.int 24)) (am aD (ac 0) (eC (.int 1)))) [some (aL (aB A))]=some (.int ((aB A).1 % (24*(aB A).2))):=by
  rw[aY (x:=.int (aB A).1) rfl (d3 (i:=24) (j:=(aB A).2) rfl rfl (by omega))];show (if 0<24*(aB A).2 then some (D.int ((aB A).1 % (24*(aB A).2))) else none)=_;rw[if_pos (by omega)]
 refine aK ((av em (y:=.int (aB A).2) rfl).trans ?_);rw[qC p1 (by omega),uj]
def zu (A:Int):(-(aB A).1,(aB A).2)=aB (-A):=by
 have h1:=bJ A;have hg:Int.gcd (-(aB A).1) (aB A).2=1:=by rw[Int.gcd,Int.natAbs_neg];exact uA A
 rw[<-mC hg];refine ki (cy A) (by decide) ?_;rw[Int.neg_mul,h1,Int.neg_mul]
def As (A:Int):fg [aL (aB A)]=some (aL (aB (-A))):=by
 rw[<-zu];rfl
def xW:((12:Int),(1:Int))=aB 72:=by unfold aB low;decide
noncomputable def jY (A:Int):Int:=(A+72) % 144-72
def yZ {A:Int}(h : -5000<=A/\A<=5000):gy [aL (aB A)]=some (aL (aB (jY A))):=by
 refine bq rfl ?_;show gG [some (aL (aB A)),none]=_;unfold gG;have e1:aP (ab (am cQ (eC (.int 24)) (eC (.int 2))) (ab (eC (.int 1)) ah)) [some (aL (aB A)),none]=some (aL (aB 72)):=by
  rw[<-xW];rfl
 rw[ap (aG (δ':=[some (aL (aB A)),some (aL (aB 72))]) e1 rfl)];have hm:=Int.emod_nonneg (A+72) (show (144:Int)≠0 by decide);have hl:=Int.emod_lt_of_pos (A+72) (show (0:Int)<144 by decide);refine aK ((av (x:=aL (aB ((A+72) % 144))) (y:=aL (aB (-72))) ((aJ (x:=aL (aB (A+72))) ((av (x:=aL (aB A)) (y:=aL (aB 72)) rfl rfl).trans (jz ⟨by omega,by omega⟩ ⟨by omega,by omega⟩))).trans (lg ⟨by omega,by omega⟩)) ((aJ (x:=aL (aB 72)) rfl).trans (As 72))).trans ?_);exact jz ⟨by omega,by omega⟩ ⟨by omega,by omega⟩
def tW {p:Int×Int}(h:0<p.2)(hl:p.2<1000000):bv [aL p]=some (.int (p.1 / p.2)):=by
 refine bq rfl ?_;show eR [some (aL p)]=_;unfold eR;exact aK (fF (i:=p.1) (j:=p.2) rfl rfl ⟨h,by omega⟩)
def lS (A:Int):bv [aL (aB A)]=some (.int (A / 6)):=by
 rw[tW (cy A) (by have:=jg A;omega),vC]
end DL.Pg
namespace DL.K06
open PySem DL DL.Pg DL.Lw
def Ar {A B:Int}(ha:sb A)(hb:sb B):cC [aL (aB A),aL (aB B)]=some (aL (aB (A+B))):=by
 have a1:=j7 ha;have b1:=j7 hb;have hd:=uF A B;have p1:=cy A;have p2:=jg A;refine bq rfl ?_;show gJ [some (aL (aB A)),some (aL (aB B))]=_;unfold gJ;refine aK ((av (x:=.int ((aB A).1*(aB B).2+(aB B).1*(aB A).2)) (y:=.int ((aB A).2*(aB B).2)) (fU (d3 rfl rfl (by omega)) (d3 rfl rfl (by omega))) (d3 rfl rfl (by omega))).trans ?_);rw[dG hd.1 (by omega),tP]
def jS {A:Int}{δ:Ev}{a:ME}(ha:a δ=some (aL (aB A))):ag aH (ab (am oMod (am aD a (eC (.int 0))) (am aO (eC (.int 24)) (am aD a (eC (.int 1))))) (ab (am aD a (eC (.int 1))) ah)) δ=some (aL (aB (A % 144))):=by
 have p1:=cy A;have p2:=jg A;have i0:am aD a (eC (.int 0)) δ=some (.int (aB A).1):=(aY ha (y:=.int 0) rfl).trans rfl;have i1:am aD a (eC (.int 1)) δ=some (.int (aB A).2):=(aY ha (y:=.int 1) rfl).trans rfl;have em:am oMod (am aD a (eC (.int 0))) (am aO (eC (.int 24)) (am aD a (eC (.int 1)))) δ=some (.int ((aB A).1 % (24*(aB A).2))):=by
  rw[aY i0 (d3 (i:=24) (j:=(aB A).2) rfl i1 (by omega))];show (if 0<24*(aB A).2 then some (D.int ((aB A).1 % (24*(aB A).2))) else none)=_;rw[if_pos (by omega)]
 rw[av em i1,dG p1 (by omega),uj]
end DL.K06
namespace DL.Pg
open PySem DL
def mU (r:Nat):∀(E:List Nat),E.Pairwise (·<·)->∀j,j<E.length->(E.getD j 0<=r↔j<E.countP fun x=>decide (x<=r))
 | [],_,j,h=>by simp at h
 | e::es,hE,j,h=>by
   obtain⟨h1,h2⟩:=List.pairwise_cons.mp hE;rw[List.countP_cons];by_cases he:e<=r
   ·simp only[he,decide_true,if_true];cases j with
    | zero=>simp[he]
    | succ j =>
      have:=mU r es h2 j (by simpa using h);rw[List.getD_cons_succ,this];omega
   ·have hz:es.countP (fun x=>decide (x<=r))=0:=by
     rw[List.countP_eq_zero];intro x hx;have:=h1 x hx;simp;omega
    have hx:(if decide (e<=r)=true then 1 else 0)=0:=by simp[he]
    rw[hz,hx];have:e<=(e::es).getD j 0:=by
     cases j with
     | zero=>simp
     | succ j =>
       rw[List.getD_cons_succ];have hj:j<es.length:=by simpa using h
       have:es.getD j 0∈es:=by
        rw[List.getD_eq_getElem?_getD,List.getElem?_eq_getElem hj];exact List.getElem_mem hj
       have:=h1 _ this;omega
    omega
section
variable {β:Type}[DecidableEq β]
structure Bd (E:List Nat)(val:Nat->Nat->β)(N:Nat):Prop where
 ris:E.Pairwise (·<·)
 pos:0<E.length
 zero:E.getD 0 0=0
 lt:∀b,b<E.length->E.getD b 0<N
 bc:∀b r t,b<E.length->E.getD b 0<=r->(b+1<E.length->r<E.getD (b+1) 0)->val r t=val (E.getD b 0) t
variable {E:List Nat}{val:Nat->Nat->β}{N:Nat}
noncomputable def bo (E:List Nat)(r:Nat):Nat:=(E.countP fun x=>decide (x<=r))-1
def Bd.mono (h:Bd E val N){a b:Nat}(hab:a<b)(hb:b<E.length):E.getD a 0<E.getD b 0:=by
 have:=List.pairwise_iff_getElem.mp h.ris a b (by omega) hb hab;simpa[show a<E.length by omega,hb] using this
def Bd.cnt (h:Bd E val N)(r:Nat):1<=(E.countP fun x=>decide (x<=r)):=(mU r E h.ris 0 h.pos).mp (by rw[h.zero];omega)
def Bd.bo_lt (h:Bd E val N)(r:Nat):bo E r<E.length:=by
 have:=List.countP_le_length (p:=fun x=>decide (x<=r)) (l:=E);have:=h.cnt r;unfold bo;omega
def Bd.le_bo (h:Bd E val N){r j:Nat}(hj:j<E.length):E.getD j 0<=r↔j<=bo E r:=by
 rw[mU r E h.ris j hj];have:=h.cnt r;unfold bo;omega
def Bd.bo_le (h:Bd E val N)(r:Nat):E.getD (bo E r) 0<=r:=(h.le_bo (h.bo_lt r)).mpr (Nat.le_refl _)
def Bd.bo_next (h:Bd E val N){r:Nat}(hn:bo E r+1<E.length):r<E.getD (bo E r+1) 0:=by
 rcases Nat.lt_or_ge r (E.getD (bo E r+1) 0) with z | z
 ·exact z
 ·have:=(h.le_bo hn).mp z;omega
def Bd.bo_at (h:Bd E val N){b:Nat}(hb:b<E.length):bo E (E.getD b 0)=b:=by
 have h1:=(h.le_bo (r:=E.getD b 0) hb).mp (Nat.le_refl _);have h2:=h.bo_le (E.getD b 0);have h3:=h.bo_lt (E.getD b 0);rcases Nat.lt_or_ge b (bo E (E.getD b 0)) with z | z
 ·have:=h.mono z h3;omega
 ·omega
def Bd.bo_val (h:Bd E val N)(r t:Nat):val r t=val (E.getD (bo E r) 0) t:=h.bc _ r t (h.bo_lt r) (h.bo_le r) h.bo_next
end
end DL.Pg
namespace DL.Pg
open PySem DL DL.Lw
def jH {s:List Pc}(h:∀p∈s,p.ok):∀p∈s,p.ok/\p.i∈aq s/\p.o∈aq s:=fun p hp=>by
 have:∀x,x∈[p.i,p.o]->x∈ii s:=fun x hx=>List.mem_cons_of_mem _ (List.mem_flatMap.mpr ⟨p,hp,hx⟩);exact⟨h p hp,(eX h _).mpr (this _ (by simp)),(eX h _).mpr (this _ (by simp))⟩
def zR {s:List Pc}(h:∀p∈s,p.ok){N:Nat}(h0:0<N)(hN:∀p∈s,p.o<N){x:Nat}(hx:x∈aq s):x<N:=by
 have:=(eX h x).mp hx;unfold ii at this;rcases List.mem_cons.mp this with rfl | z
 ·exact h0
 ·obtain⟨p,hp,hx⟩:=List.mem_flatMap.mp z;have h1:=hN p hp;have h2:=(h p hp).1;simp only[List.mem_cons,List.not_mem_nil,or_false] at hx;omega
def getD_mem {E:List Nat}{b:Nat}(hb:b<E.length):E.getD b 0∈E:=by
 rw[List.getD_eq_getElem?_getD,List.getElem?_eq_getElem hb];exact List.getElem_mem hb
def mem_getD {E:List Nat}{x:Nat}(hx:x∈E):∃j,j<E.length/\E.getD j 0=x:=by
 obtain⟨j,hj,e⟩:=List.getElem_of_mem hx;exact⟨j,hj,by simp[hj,e]⟩
def lR {E:List Nat}(hE:E.Pairwise (·<·)){a b:Nat}(hab:a<=b)(hb:b<E.length):E.getD a 0<=E.getD b 0:=by
 rcases Nat.lt_or_ge a b with z | z
 ·have:=List.pairwise_iff_getElem.mp hE a b (by omega) hb z;have h2:E.getD a 0<E.getD b 0:=by simpa[show a<E.length by omega,hb] using this
  omega
 ·have:a=b:=by omega
  rw[this];exact Nat.le_refl _
def yF {β:Type}[DecidableEq β]{s:List Pc}(h:∀p∈s,p.ok){N:Nat}(h0:0<N)(hN:∀p∈s,p.o<N){val:Nat->Nat->β}(hv:∀r r' t,(∀p∈s,p.has r t=p.has r' t)->val r t=val r' t):Bd (aq s) val N where
 ris:=bB s
 pos:=by
  obtain⟨es,e⟩:=gD s;rw[e];simp
 zero:=by
  obtain⟨es,e⟩:=gD s;rw[e];rfl
 lt:=fun b hb=>zR h h0 hN (getD_mem hb)
 bc:=fun b r t hb h1 h2=>hv _ _ _ fun p hp=>by
  obtain⟨_,hi,ho⟩:=jH h p hp;have key:∀x∈aq s,(x<=r↔x<=(aq s).getD b 0):=fun x hx=>by
   obtain⟨j,hj,rfl⟩:=mem_getD hx;constructor
   ·intro z;rcases Nat.lt_or_ge b j with q | q
    ·have a1:=h2 (by omega);have a2:=lR (bB s) (show b+1<=j by omega) hj;omega
    ·exact lR (bB s) q hb
   ·intro z;omega
  have k1:=key _ hi;have k2:=key _ ho;unfold Pc.has;rw[show (decide (p.i<=r))=decide (p.i<=(aq s).getD b 0) by simp only[k1],show (decide (r<p.o))=decide ((aq s).getD b 0<p.o) by rw[Bool.eq_iff_iff,decide_eq_true_eq,decide_eq_true_eq];omega]
section
variable {s:List Pc}{N:Nat}
variable {E:List Nat}{w:Nat->Nat->Bool}
end
structure Fo (f:Int×Int):Prop where
 n:0<f.1
 d:0<f.2
 n1:f.1<=1000
 d4:f.2<=4
 g:Int.gcd f.1 f.2=1
def To (T:Int):Prop:=0<=T/\T<144
def az (p:(Int×Int)×Int):D:=.tup [aL p.1,aL (aB p.2)]
noncomputable def rg (f:Int×Int):Nat:=(f.1 / f.2).toNat
noncomputable def tt (T:Int):Nat:=(T / 6).toNat
def kB {T:Int}(h:To T):tt T<24:=by unfold tt;unfold To at h;omega
def A7 {f:Int×Int}(h:Fo f):((rg f:Nat):Int)=f.1 / f.2:=by
 unfold rg;have:=Int.ediv_nonneg (Int.le_of_lt h.n) (Int.le_of_lt h.d);omega
def wu {T:Int}(h:0<=T):((tt T:Nat):Int)=T / 6:=by unfold tt;omega
structure Eg (E:List Nat):Prop where
 ris:E.Pairwise (·<·)
 hd:∃es,E=0::es
 few:E.length<=60
def cellAt (E:List Nat)(p:(Int×Int)×Int):Nat:=24*bo E (rg p.1)+tt p.2
noncomputable def upTo (r:Int):D->Option D
 | .int e=>if 0<e/\e<=r then some (.int e) else none
 | _=>none
def wf (r:Nat):∀es:List Nat,(∀e∈es,0<e)->((al es).filterMap (upTo r)).length=es.countP fun x=>decide (x<=r)
 | [],_=>rfl
 | e::es,h=>by
   have h0:=h e List.mem_cons_self;have ih:=wf r es fun x hx=>h x (List.mem_cons_of_mem _ hx);have en:al (e::es)=.int e::al es:=rfl;rw[en,List.filterMap_cons,List.countP_cons];have eu:upTo (r:Int) (.int (e:Nat))=if e<=r then some (.int (e:Nat)) else none:=by
    show (if (0:Int)<(e:Nat)/\((e:Nat):Int)<=r then _ else _)=_;by_cases z:e<=r
    ·rw[if_pos z,if_pos (by omega)]
    ·rw[if_neg z,if_neg (by omega)]
   rw[eu];by_cases z:e<=r
   ·simp[z,ih]
   ·simp[z,ih]
def Cy {E:List Nat}(h:Eg E)(r:Nat):((al E).filterMap (upTo r)).length=bo E r:=by
 obtain⟨es,rfl⟩:=h.hd;have hp:∀e∈es,0<e:=fun e he=>(List.pairwise_cons.mp h.ris).1 e he;have en:al (0::es)=.int ((0:Nat):Int)::al es:=rfl;have e0:upTo (r:Int) (.int ((0:Nat):Int))=none:=by
  show (if (0:Int)<((0:Nat):Int)/\((0:Nat):Int)<=(r:Int) then some (D.int ((0:Nat):Int)) else none)=none;rw[if_neg (by omega)]
 rw[en,List.filterMap_cons,e0];show ((al es).filterMap (upTo r)).length=_;rw[wf r es hp];unfold bo;rw[List.countP_cons];simp
def dj {E:List Nat}(h:Eg E){p:(Int×Int)×Int}(hf:Fo p.1)(hT:To p.2):bx [.lst (al E),az p]=some (.int (cellAt E p:Nat)):=by
 have d1:=hf.d;have d2:=hf.d4;refine bq rfl ?_;show iF [some (.lst (al E)),some (az p),none,none]=_;unfold iF;have e1:ag bv (ab (am aD (ac 1) (eC (.int 0))) ah) [some (.lst (al E)),some (az p),none,none]=some (.int (rg p.1:Nat)):=by
  rw[aJ (x:=aL p.1) rfl,tW d1 (by omega),A7 hf]
 rw[ap (aG (δ':=[some (.lst (al E)),some (az p),some (.int (rg p.1:Nat)),none]) e1 rfl)];have hl:(al E).length<=16777216:=by rw[dZ];have:=h.few;omega
 have hc:=bO (k:=1) (fv:=[2]) (i:=bz (ac 0)) (g:=gN 0) (c:=tV (bD oLt oLe (eC (.int 0)) (ac 0) (ac 1))) (e:=ac 0) (δ:=[some (.lst (al E)),some (az p),some (.int (rg p.1:Nat)),none]) (xs:=al E) (upTo (rg p.1:Nat)) rfl hl fun x hx=>by
  unfold al at hx;obtain⟨e,_,rfl⟩:=List.mem_map.mp hx;refine⟨[some (.int (e:Nat)),some (.int (rg p.1:Nat))],rfl,?_⟩;by_cases h1:(0:Int)<(e:Nat)
  ·by_cases h2:((e:Nat):Int)<=(rg p.1:Nat)
   ·refine .inl ⟨?_,.int (e:Nat),rfl,?_⟩
    ·simp only[tV,bD,eC,ac,slot,oLt,oLe,oI,Option.bind_some,List.getElem?_cons_zero,List.getElem?_cons_succ,Option.getD_some,h1,h2,decide_true,decide_false,truth]
    ·show (if (0:Int)<(e:Nat)/\((e:Nat):Int)<=_ then _ else _)=_;rw[if_pos ⟨h1,h2⟩]
   ·refine .inr ⟨?_,?_⟩
    ·simp only[tV,bD,eC,ac,slot,oLt,oLe,oI,Option.bind_some,List.getElem?_cons_zero,List.getElem?_cons_succ,Option.getD_some,h1,h2,decide_true,decide_false,truth]
    ·show (if (0:Int)<(e:Nat)/\((e:Nat):Int)<=_ then _ else _)=_;rw[if_neg (fun z=>h2 z.2)]
  ·refine .inr ⟨?_,?_⟩
   ·simp only[tV,bD,eC,ac,slot,oLt,oLe,oI,Option.bind_some,List.getElem?_cons_zero,List.getElem?_cons_succ,Option.getD_some,h1,decide_true,decide_false,truth]
   ·show (if (0:Int)<(e:Nat)/\((e:Nat):Int)<=_ then _ else _)=_;rw[if_neg (fun z=>h1 z.1)]
 have e2:ag d8 (ab (bw 1 [2] (bz (ac 0)) (gN 0) (tV (bD oLt oLe (eC (.int 0)) (ac 0) (ac 1))) (ac 0)) ah) [some (.lst (al E)),some (az p),some (.int (rg p.1:Nat)),none]=some (.int (bo E (rg p.1):Nat)):=by
  rw[aJ hc];show some (D.int (((al E).filterMap (upTo (rg p.1:Nat))).length:Nat))=_;rw[Cy h]
 rw[ap (aG (δ':=[some (.lst (al E)),some (az p),some (.int (rg p.1:Nat)),some (.int (bo E (rg p.1):Nat))]) e2 rfl)];refine aK ?_;have hm:am aO (eC (.int 24)) (ac 3) [some (.lst (al E)),some (az p),some (.int (rg p.1:Nat)),some (.int (bo E (rg p.1):Nat))]=some (.int (24*(bo E (rg p.1):Nat))):=d3 rfl rfl (by omega);have hw:ag bv (ab (am aD (ac 1) (eC (.int 1))) ah) [some (.lst (al E)),some (az p),some (.int (rg p.1:Nat)),some (.int (bo E (rg p.1):Nat))]=some (.int (p.2 / 6)):=by rw[aJ (x:=aL (aB p.2)) rfl,lS]
 have hmod:am oMod (ag bv (ab (am aD (ac 1) (eC (.int 1))) ah)) (eC (.int 24)) [some (.lst (al E)),some (az p),some (.int (rg p.1:Nat)),some (.int (bo E (rg p.1):Nat))]=some (.int (p.2 / 6 % 24)):=(aY hw (y:=.int 24) rfl).trans rfl;rw[fU hm hmod];have:=wu hT.1;have h24:=kB hT;unfold cellAt;refine congrArg (fun z=>some (D.int z)) ?_;omega
inductive Mv where | out (a b:Int) | on (a b:Int) | bad
noncomputable def aM:Mv->D
 | .out a b=>.tup [.str "out",.tup [.int a,.int b]]
 | .on a b=>.tup [.str "on",.tup [.int a,.int b]]
 | .bad=>.non
noncomputable def Mo:Mv->Prop
 | .out a b=>0<b/\b<=4 /\ -1000<=a/\a<=1000
 | .on a b=>(b=1\/b=2\/b=3\/b=6) /\ -1000<=a/\a<=1000
 | .bad=>True
noncomputable def good:Mv->Bool
 | .out a b=>decide (Int.gcd a b=1)&&decide (0<a)
 | .on a b=>decide (Int.gcd a b=1)&&decide (-(24*b)<=a/\a<=24*b)
 | .bad=>false
noncomputable def iJ (p:(Int×Int)×Int):Mv->(Int×Int)×Int
 | .out a b=>((a,b),p.2)
 | .on a b=>(p.1,(p.2+a*(6 / b)) % 144)
 | .bad=>p
def yH {a b:Int}:(decide ((if a<0 then -a else a)<=24*b))=decide (-(24*b)<=a/\a<=24*b):=by
 rw[Bool.eq_iff_iff,decide_eq_true_eq,decide_eq_true_eq];split <;> omega
def nw {a b:Int}(hb:0<b):cR [.tup [.int a,.int b]]=some (.bl (decide (Int.gcd a b=1))):=by
 have e1:cu [.int 2,.tup [.int a,.int b]]=some (.bl true):=rfl;have e2:ie [.int a,.int b]=some (.bl (decide (Int.gcd a b=1))):=by
  refine bq rfl ?_;show fI [some (.int a),some (.int b)]=_;unfold fI;refine aK ?_;unfold pB;rw[show am Co (ac 1) (eC (.int 1)) [some (.int a),some (.int b)]=some (.bl (decide (1<=b))) from rfl,decide_eq_true (show 1<=b by omega)];simp only[Option.bind_some];rw[aY ((av (x:=.int a) (y:=.int b) rfl rfl).trans (qH hb)) (y:=.int 1) rfl];show some (D.bl (((Int.gcd a b:Nat):Int)==1))=_;refine congrArg (fun z=>some (D.bl z)) ?_;rw[Bool.eq_iff_iff,beq_iff_eq,decide_eq_true_eq];omega
 refine bq rfl ?_;show dU [some (.tup [.int a,.int b])]=_;unfold dU;rw[ap ((cL (cU (cp ((av (x:=.int 2) (y:=.tup [.int a,.int b]) rfl rfl).trans e1) rfl))).trans rfl)];rw[ap ((cL (cU (b:=true) (cp (d:=.bl true) rfl rfl))).trans rfl)];exact aK ((av (x:=.int a) (y:=.int b) rfl rfl).trans e2)
def wn {k:Str}{a b:Int}(hb:0<b)(δ:Ev)(h0:ac 0 δ=some (.tup [.str k,.tup [.int a,.int b]])) :
 la (cq (tV (ag cu (ab (eC (.int 2)) (ab (ac 0) ah))))) (cq (tV (ag cR (ab (am aD (ac 0) (eC (.int 1))) ah)))) δ=some (!decide (Int.gcd a b=1)):=by
 have t1:cq (tV (ag cu (ab (eC (.int 2)) (ab (ac 0) ah)))) δ=some false:=cU (b:=true) (cp (d:=.bl true) ((av (x:=.int 2) rfl h0).trans rfl) rfl);have t2:cq (tV (ag cR (ab (am aD (ac 0) (eC (.int 1))) ah))) δ=some (!decide (Int.gcd a b=1)):=cU (cp ((aJ (x:=.tup [.int a,.int b]) ((aY h0 (y:=.int 1) rfl).trans rfl)).trans (nw hb)) rfl);rw[e8 t1 t2];rfl
def nS {m:Mv}(h:Mo m):eY [aM m]=some (.bl (good m)):=by
 cases m with
 | bad=>rfl
 | out a b =>
   refine bq rfl ?_;show eZ [some (.tup [.str "out",.tup [.int a,.int b]])]=_;unfold eZ;have t:=wn (k:="out") (a:=a) (b:=b) h.1 [some (.tup [.str "out",.tup [.int a,.int b]])] rfl;rw[show good (.out a b)=(decide (Int.gcd a b=1)&&decide (0<a)) from rfl];by_cases hg:Int.gcd a b=1
   ·rw[decide_eq_true hg] at t ⊢;rw[ap ((cL t).trans rfl)];rw[b9 ((fm (show tV (am oEq (am aD (ac 0) (eC (.int 0))) (eC (.str "out"))) [some (.tup [.str "out",.tup [.int a,.int b]])]=some true by rfl)).trans (aK (d:=.bl (decide (0<a))) rfl))];rfl
   ·rw[decide_eq_false hg] at t ⊢;rw[b9 ((fm t).trans (aK (d:=.bl false) rfl))];rfl
 | on a b =>
   have hb:0<b:=by have:=h.1;omega
   refine bq rfl ?_;show eZ [some (.tup [.str "on",.tup [.int a,.int b]])]=_;unfold eZ;have t:=wn (k:="on") (a:=a) (b:=b) hb [some (.tup [.str "on",.tup [.int a,.int b]])] rfl;rw[show good (.on a b)=(decide (Int.gcd a b=1)&&decide (-(24*b)<=a/\a<=24*b)) from rfl];by_cases hg:Int.gcd a b=1
   ·rw[decide_eq_true hg] at t ⊢;rw[ap ((cL t).trans rfl)];rw[ap ((cL (show tV (am oEq (am aD (ac 0) (eC (.int 0))) (eC (.str "out"))) [some (.tup [.str "on",.tup [.int a,.int b]])]=some false by rfl)).trans rfl)];refine aK ?_;unfold pB;rw[show am oEq (am aD (ac 0) (eC (.int 0))) (eC (.str "on")) [some (.tup [.str "on",.tup [.int a,.int b]])]=some (.bl true) by rfl];simp only[Option.bind_some];rw[aJ (x:=.tup [.int a,.int b]) rfl];refine bq rfl ?_;show bZ [some (.tup [.int a,.int b])]=_;unfold bZ;refine aK ((aY (x:=.int (if a<0 then -a else a)) rfl (d3 (i:=24) (j:=b) rfl rfl (by omega))).trans ?_);show some (D.bl (decide ((if a<0 then -a else a)<=24*b)))=_;rw[yH];rfl
   ·rw[decide_eq_false hg] at t ⊢;rw[b9 ((fm t).trans (aK (d:=.bl false) rfl))];rfl
abbrev Pn:=(Int×Int)×Int
def fz (p:Pn):Prop:=Fo p.1/\To p.2
def fA {p:Pn}(h:fz p){m:Mv}(hm:Mo m)(hg:good m=true):fz (iJ p m):=by
 cases m with
 | bad=>cases hg
 | out a b =>
   obtain⟨h1,h2,h3,h4⟩:=hm;have hg':(decide (Int.gcd a b=1)&&decide (0<a))=true:=hg;rw[Bool.and_eq_true,decide_eq_true_eq,decide_eq_true_eq] at hg';exact⟨⟨hg'.2,h1,h4,h2,hg'.1⟩,h.2⟩
 | on a b=>exact⟨h.1,Int.emod_nonneg _ (by decide),Int.emod_lt_of_pos _ (by decide)⟩
def lW {a b:Int}(hm:Mo (.on a b))(hg:good (.on a b)=true):(a,b)=aB (a*(6 / b)) /\ -144<=a*(6 / b)/\a*(6 / b)<=144:=by
 have hg':(decide (Int.gcd a b=1)&&decide (-(24*b)<=a/\a<=24*b))=true:=hg;rw[Bool.and_eq_true,decide_eq_true_eq,decide_eq_true_eq] at hg';refine⟨yc hm.1 hg'.1,?_⟩;rcases hm.1 with rfl | rfl | rfl | rfl
 ·have:(6:Int) / 1=6:=by decide
  rw[this];omega
 ·have:(6:Int) / 2=3:=by decide
  rw[this];omega
 ·have:(6:Int) / 3=2:=by decide
  rw[this];omega
 ·have:(6:Int) / 6=1:=by decide
  rw[this];omega
def eQ (E:List Nat)(p:Pn):Mv->List Nat
 | .out a b=>(List.range (max (bo E (rg p.1)) (bo E (rg (a,b)))-min (bo E (rg p.1)) (bo E (rg (a,b)))+1)).map fun k=>24*(min (bo E (rg p.1)) (bo E (rg (a,b)))+k)+tt p.2
 | .on a b=>(List.range ((max (p.2 / 6) ((p.2+a*(6 / b)) / 6)-min (p.2 / 6) ((p.2+a*(6 / b)) / 6)+1).toNat)).map fun (k:Nat)=>24*bo E (rg p.1)+((min (p.2 / 6) ((p.2+a*(6 / b)) / 6)+(k:Int)) % 24).toNat
 | .bad=>[]
def ll (i j:Int):mL [.int i,.int j]=some (.int (min i j)):=by
 show some (D.int (if j<i then j else i))=_;refine congrArg (fun z=>some (D.int z)) ?_;split <;> omega
def lm (i j:Int):kX [.int i,.int j]=some (.int (max i j)):=by
 show some (D.int (if j>i then j else i))=_;refine congrArg (fun z=>some (D.int z)) ?_;split <;> omega
def nT (p:Pn)(a b:Int):f9 [az p,aM (.out a b)]=some (.tup [.tup [.int a,.int b],aL (aB p.2)]):=by
 refine bq rfl ?_;show gi [some (az p),some (.tup [.str "out",.tup [.int a,.int b]])]=_;unfold gi;rw[b9 ((fm (show tV (am oEq (am aD (ac 1) (eC (.int 0))) (eC (.str "out"))) [some (az p),some (.tup [.str "out",.tup [.int a,.int b]])]=some true by rfl)).trans (aK (d:=.tup [.tup [.int a,.int b],aL (aB p.2)]) rfl))]
def wZ {p:Pn}(h:fz p){m:Mv}(hm:Mo m)(hg:good m=true):f9 [az p,aM m]=some (az (iJ p m)):=by
 cases m with
 | bad=>cases hg
 | out a b=>exact nT p a b
 | on a b =>
   obtain⟨e,h1,h2⟩:=lW hm hg;have ht:=h.2;unfold To at ht;have ed:D.tup [.int a,.int b]=aL (aB (a*(6 / b))):=by rw[<-e];rfl
   refine bq rfl ?_;show gi [some (az p),some (.tup [.str "on",.tup [.int a,.int b]])]=_;unfold gi;rw[ap ((cL (show tV (am oEq (am aD (ac 1) (eC (.int 0))) (eC (.str "out"))) [some (az p),some (.tup [.str "on",.tup [.int a,.int b]])]=some false by rfl)).trans rfl)];refine aK (eL (x:=aL p.1) rfl ((aJ (x:=aL (aB (p.2+a*(6 / b)))) ((av (x:=aL (aB p.2)) (y:=.tup [.int a,.int b]) rfl rfl).trans ?_)).trans (lg ⟨by omega,by omega⟩)));rw[ed];exact jz ⟨by omega,by omega⟩ ⟨by omega,by omega⟩
def xI {m:MA}{δ:Ev}{a b c:Int}(h:m δ=some [.int a,.int b,.int c])(h1:0<c/\c<1000 /\ -1000000<a/\a<1000000 /\ -1000000<b/\b<1000000):pA m δ=some (.lst ((fL a b c).map D.int)):=by
 unfold pA;rw[h];simp only[Option.bind_some];rw[if_pos h1]
def uR {a b c:ME}{δ:Ev}{x y z:D}(ha:a δ=some x)(hb:b δ=some y)(hc:c δ=some z):ab a (ab b (ab c ah)) δ=some [x,y,z]:=by
 unfold ab ah;rw[ha,hb,hc];rfl
def bo_le {E:List Nat}(h:Eg E)(r:Nat):bo E r<E.length/\E.length<=60:=by
 have:=List.countP_le_length (p:=fun x=>decide (x<=r)) (l:=E);obtain⟨es,rfl⟩:=h.hd;unfold bo;have h2:=h.few;simp only[List.length_cons] at *;omega
def uY {lo hi t:Nat}(h:lo<=hi):(fL ((24*lo+t:Nat):Int) ((24*hi+t:Nat)+1) 24).map D.int=al ((List.range (hi-lo+1)).map fun k=>24*(lo+k)+t):=by
 unfold fL al;have:((((24*hi+t:Nat):Int)+1-((24*lo+t:Nat):Int)+(24-1)) / 24).toNat=hi-lo+1:=by omega
 rw[this,List.map_map,List.map_map];refine List.map_congr_left fun k _=>?_;simp only[Function.comp];congr 1;omega
noncomputable def Ce (c b:Int):D->D
 | .int j=>.int (c-c % 24+(c % 24+(j-b)) % 24)
 | d=>d
def su {E:List Nat}(hE:Eg E){p:Pn}(h:fz p){m:Mv}(hm:Mo m)(hg:good m=true):fh [.lst (al E),az p,aM m]=some (.lst (al (eQ E p m))):=by
 have hT:=h.2;unfold To at hT;have ht:=kB h.2;have hti:=wu h.2.1;cases m with
 | bad=>cases hg
 | out a b =>
   have hs:=fA h hm hg;have hb1:=bo_le hE (rg p.1);have hb2:=bo_le hE (rg (a,b));refine bq rfl ?_;show dN [some (.lst (al E)),some (az p),some (.tup [.str "out",.tup [.int a,.int b]]),none,none,none]=_;unfold dN;rw[ap (aG (δ':=[some (.lst (al E)),some (az p),some (.tup [.str "out",.tup [.int a,.int b]]),some (.int (cellAt E p:Nat)),none,none]) ((av (x:=.lst (al E)) (y:=az p) rfl rfl).trans (dj hE h.1 h.2)) rfl)];have t:tV (am oEq (am aD (ac 2) (eC (.int 0))) (eC (.str "out"))) [some (.lst (al E)),some (az p),some (.tup [.str "out",.tup [.int a,.int b]]),some (.int (cellAt E p:Nat)),none,none]=some true:=rfl;have e2:ag bx (ab (ac 0) (ab (ag f9 (ab (ac 1) (ab (ac 2) ah))) ah)) [some (.lst (al E)),some (az p),some (.tup [.str "out",.tup [.int a,.int b]]),some (.int (cellAt E p:Nat)),none,none]=some (.int (cellAt E ((a,b),p.2):Nat)) :=
    (av (x:=.lst (al E)) (y:=az ((a,b),p.2)) rfl ((av (x:=az p) (y:=aM (.out a b)) rfl rfl).trans (nT p a b))).trans (dj hE hs.1 hs.2)
   refine b9 ((fm t).trans ((ap (aG (δ':=[some (.lst (al E)),some (az p),some (.tup [.str "out",.tup [.int a,.int b]]),some (.int (cellAt E p:Nat)),some (.int (cellAt E ((a,b),p.2):Nat)),none]) e2 rfl)).trans (aK ?_)));have hmin:min ((cellAt E p:Nat):Int) (cellAt E ((a,b),p.2):Nat)=((24*min (bo E (rg p.1)) (bo E (rg (a,b)))+tt p.2:Nat):Int):=by unfold cellAt;simp only;omega
   have hmax:max ((cellAt E p:Nat):Int) (cellAt E ((a,b),p.2):Nat)+1=((24*max (bo E (rg p.1)) (bo E (rg (a,b)))+tt p.2:Nat):Int)+1:=by unfold cellAt;simp only;omega
   rw[xI (a:=((24*min (bo E (rg p.1)) (bo E (rg (a,b)))+tt p.2:Nat):Int)) (b:=((24*max (bo E (rg p.1)) (bo E (rg (a,b)))+tt p.2:Nat):Int)+1) (c:=24) ?_ (by omega),uY (by omega)]
   ·rfl
   ·rw[<-hmin,<-hmax];exact uR ((av (x:=.int (cellAt E p:Nat)) (y:=.int (cellAt E ((a,b),p.2):Nat)) rfl rfl).trans (ll _ _)) (fU ((av (x:=.int (cellAt E p:Nat)) (y:=.int (cellAt E ((a,b),p.2):Nat)) rfl rfl).trans (lm _ _)) rfl) rfl
 | on a b =>
   obtain⟨e,h1,h2⟩:=lW hm hg;have ed:D.tup [.int a,.int b]=aL (aB (a*(6 / b))):=by rw[<-e];rfl
   have hb1:=bo_le hE (rg p.1);show _=some (D.lst (al ((List.range ((max (p.2 / 6) ((p.2+a*(6 / b)) / 6)-min (p.2 / 6) ((p.2+a*(6 / b)) / 6)+1).toNat)).map fun (k:Nat)=>24*bo E (rg p.1)+((min (p.2 / 6) ((p.2+a*(6 / b)) / 6)+(k:Int)) % 24).toNat)));generalize a*(6 / b)=B at *;refine bq rfl ?_;show dN [some (.lst (al E)),some (az p),some (.tup [.str "on",.tup [.int a,.int b]]),none,none,none]=_;unfold dN;rw[ap (aG (δ':=[some (.lst (al E)),some (az p),some (.tup [.str "on",.tup [.int a,.int b]]),some (.int (cellAt E p:Nat)),none,none]) ((av (x:=.lst (al E)) (y:=az p) rfl rfl).trans (dj hE h.1 h.2)) rfl)];rw[ap ((cL (show tV (am oEq (am aD (ac 2) (eC (.int 0))) (eC (.str "out"))) [some (.lst (al E)),some (az p),some (.tup [.str "on",.tup [.int a,.int b]]),some (.int (cellAt E p:Nat)),none,none]=some false by rfl)).trans rfl)];rw[ap (aG (d:=.int (p.2 / 6)) (δ':=[some (.lst (al E)),some (az p),some (.tup [.str "on",.tup [.int a,.int b]]),some (.int (cellAt E p:Nat)),none,some (.int (p.2 / 6))]) ((aJ (x:=aL (aB p.2)) rfl).trans (lS _)) rfl)];have e2:ag bv (ab (ag eN (ab (am aD (ac 1) (eC (.int 1))) (ab (am aD (ac 2) (eC (.int 1))) ah))) ah) [some (.lst (al E)),some (az p),some (.tup [.str "on",.tup [.int a,.int b]]),some (.int (cellAt E p:Nat)),none,some (.int (p.2 / 6))]=some (.int ((p.2+B) / 6)):=by
    refine(aJ (x:=aL (aB (p.2+B))) ((av (x:=aL (aB p.2)) (y:=.tup [.int a,.int b]) rfl rfl).trans ?_)).trans (lS _);rw[ed];exact jz ⟨by omega,by omega⟩ ⟨by omega,by omega⟩
   rw[ap (aG (δ':=[some (.lst (al E)),some (az p),some (.tup [.str "on",.tup [.int a,.int b]]),some (.int (cellAt E p:Nat)),some (.int ((p.2+B) / 6)),some (.int (p.2 / 6))]) e2 rfl)];have hi:=iy (i:=min (p.2 / 6) ((p.2+B) / 6)) (j:=max (p.2 / 6) ((p.2+B) / 6)+1) (δ:=[some (.lst (al E)),some (az p),some (.tup [.str "on",.tup [.int a,.int b]]),some (.int (cellAt E p:Nat)),some (.int ((p.2+B) / 6)),some (.int (p.2 / 6))])
    (a:=ag mL (ab (ac 5) (ab (ac 4) ah))) (b:=am aT (ag kX (ab (ac 5) (ab (ac 4) ah))) (eC (.int 1))) ((av (x:=.int (p.2 / 6)) (y:=.int ((p.2+B) / 6)) rfl rfl).trans (ll _ _)) (fU ((av (x:=.int (p.2 / 6)) (y:=.int ((p.2+B) / 6)) rfl rfl).trans (lm _ _)) rfl) (by omega)
   have hc:=bO (k:=1) (fv:=[3,5]) (g:=gN 0) (c:=tT) (e:=ag bS (ab (ac 1) (ab (am kU (ac 0) (ac 2)) ah))) (fun x=>some (Ce (cellAt E p:Nat) (p.2 / 6) x)) hi (by unfold bV;simp;omega) fun x hx=>by
    unfold bV at hx;obtain⟨k,_,rfl⟩:=List.mem_map.mp hx;exact⟨[some (.int (min (p.2 / 6) ((p.2+B) / 6)+k)),some (.int (cellAt E p:Nat)),some (.int (p.2 / 6))],rfl,.inl ⟨rfl,Ce (cellAt E p:Nat) (p.2 / 6) (.int (min (p.2 / 6) ((p.2+B) / 6)+k)),rfl,rfl⟩⟩
   refine aK (hc.trans (congrArg (fun l=>some (D.lst l)) ?_));rw[List.filterMap_eq_map'];unfold bV al;rw[List.map_map,List.map_map,show (max (p.2 / 6) ((p.2+B) / 6)+1-min (p.2 / 6) ((p.2+B) / 6))=max (p.2 / 6) ((p.2+B) / 6)-min (p.2 / 6) ((p.2+B) / 6)+1 by omega];refine List.map_congr_left fun k _=>?_;simp only[Function.comp,Ce];congr 1;unfold cellAt;omega
def rl:∀x y:List Nat,eO (al x) (al y)=decide (x=y)
 | [],[]=>rfl
 | [],_::_=>rfl
 | _::_,[]=>rfl
 | a::x,b::y=>by
   show (cP (.int (a:Nat)) (.int (b:Nat))&&eO (al x) (al y))=_;rw[rl x y,Bool.eq_iff_iff];simp[cP];omega
def uE:∀x:List Nat,dw (al x)=0
 | []=>rfl
 | a::x=>by
   show max (bF (.int (a:Nat))) (dw (al x))=0;rw[uE x];rfl
def fd_tup:Fd bi:=⟨fun x y=>by unfold bi;rw[cP];exact rl x y,fun x=>by unfold bi;show dw (al x)+1<=30;rw[uE];decide⟩
def uB (x y:Int×Int):cP (aL x) (aL y)=decide (x=y):=by
 unfold aL;simp only[cP,eO,Bool.and_true];rw[Bool.eq_iff_iff];obtain⟨a,b⟩:=x;obtain⟨c,d⟩:=y;simp
def AH (p q:Pn):cP (az p) (az q)=decide (p=q):=by
 unfold az;rw[cP,eO,eO,eO,uB,uB,Bool.and_true,Bool.eq_iff_iff,Bool.and_eq_true,decide_eq_true_eq,decide_eq_true_eq,decide_eq_true_eq];constructor
 ·rintro⟨h1,h2⟩;exact Prod.ext h1 (zO h2)
 ·rintro rfl;exact⟨rfl,rfl⟩
def Aw (p q:Pn):oEq (az p) (az q)=some (.bl (decide (p=q))):=by
 unfold oEq;rw[if_pos ⟨by show (2:Nat)<=30;decide,by show (2:Nat)<=30;decide⟩,AH]
def A9 {p q:Pn}(hp:To p.2)(hq:To q.2):kg [az p,az q]=some (.bl (decide (p=q))):=by
 have h1:p.2 % 144=p.2:=by unfold To at hp;omega
 have h2:q.2 % 144=q.2:=by unfold To at hq;omega
 refine bq rfl ?_;show iE [some (az p),some (az q)]=_;unfold iE;have e1:ag b8 (ab (am aD (ac 0) (eC (.int 1))) ah) [some (az p),some (az q)]=some (aL (aB p.2)):=by
  rw[aJ (x:=aL (aB p.2)) rfl,lg ⟨by unfold To at hp;omega,by unfold To at hp;omega⟩,h1]
 have e2:ag b8 (ab (am aD (ac 1) (eC (.int 1))) ah) [some (az p),some (az q)]=some (aL (aB q.2)):=by
  rw[aJ (x:=aL (aB q.2)) rfl,lg ⟨by unfold To at hq;omega,by unfold To at hq;omega⟩,h2]
 exact aK ((aY (eL (x:=aL p.1) rfl e1) (eL (x:=aL q.1) rfl e2)).trans (Aw p q))
def vN (s:List Pc)(E:List Nat)(p:Pn)(m:Mv):Bool:=(eQ E p m).all fun c=>decide (ly s E c=ly s E (cellAt E p))
def dr (s:List Pc)(E:List Nat):List Mv->Pn->Option Pn
 | [],p=>some p
 | m::ms,p=>if (good m&&vN s E p m)=true then dr s E ms (iJ p m) else none
def qw (s:List Pc)(E:List Nat):∀(ms:List Mv) (p q:Pn),dr s E ms p=some q->ms.all good=true
 | [],_,_,_=>rfl
 | m::ms,p,q,h=>by
   rw[dr] at h;split at h
   ·rename_i c;rw[Bool.and_eq_true] at c;rw[List.all_cons,c.1,qw s E ms _ q h];rfl
   ·cases h
def wM (s:List Pc)(E:List Nat):∀(ms:List Mv) (p q:Pn),(∀m∈ms,Mo m)->fz p->dr s E ms p=some q->fz q
 | [],p,q,_,h,e=>by cases e;exact h
 | m::ms,p,q,hm,h,e=>by
   rw[dr] at e;split at e
   ·rename_i c;rw[Bool.and_eq_true] at c;exact wM s E ms _ q (fun x hx=>hm x (List.mem_cons_of_mem _ hx)) (fA h (hm m List.mem_cons_self) c.1) e
   ·cases e
def oP (s:List Pc)(E:List Nat):∀(ms ns:List Mv) (p:Pn),dr s E (ms++ns) p=(dr s E ms p).bind (dr s E ns)
 | [],_,_=>rfl
 | m::ms,ns,p=>by
   rw[List.cons_append,dr,dr];split
   ·exact oP s E ms ns _
   ·rfl
def vO {E:List Nat}(hE:Eg E){p:Pn}(h:fz p){m:Mv}(hm:Mo m):∀c∈eQ E p m,c<24*E.length:=fun c hc=>by
 have ht:=kB h.2;have b1:=bo_le hE (rg p.1);cases m with
 | bad=>cases hc
 | out a b =>
   have b2:=bo_le hE (rg (a,b));obtain⟨k,hk,rfl⟩:=List.mem_map.mp hc;rw[List.mem_range] at hk;omega
 | on a b =>
   obtain⟨k,hk,rfl⟩:=List.mem_map.mp hc;omega
def oA {E:List Nat}(hE:Eg E){p:Pn}(h:fz p):cellAt E p<24*E.length:=by
 have ht:=kB h.2;have b1:=bo_le hE (rg p.1);unfold cellAt;omega
def rL (f:Nat->Bool):∀l:List Nat,allB (l.map fun c=>.bl (f c))=some (l.all f)
 | []=>rfl
 | c::l=>by
   rw[List.map_cons,allB,rL f l];rfl
def EZ (s:List Pc)(E:List Nat)(h:List Nat):D->D
 | .int c=>.bl (decide (ly s E c.toNat=h))
 | d=>d
abbrev WS (sh one oth th es ns:D)(x6 x7 x8:Option D):Ev:=[some sh,some one,some oth,some th,some es,some ns,x6,x7,x8]
def yM {s:List Pc}{E:List Nat}(hE:Eg E){p:Pn}(h:fz p){m:Mv}(hm:Mo m)(hg:good m=true)(sh one oth th:D)(x8:Option D):∃y8,
 fu (WS sh one oth th (.lst (al E)) (ba bi (ly s E) (24*E.length)) (some (az p)) (some (aM m)) x8) =
  some (if vN s E p m=true then .nx (WS sh one oth th (.lst (al E)) (ba bi (ly s E) (24*E.length)) (some (az (iJ p m))) (some (aM m)) y8) else .rt (.bl false)):=by
 have hlt:=vO hE h hm;have hc0:=oA hE h;have hlen:E.length<=60:=hE.few;refine⟨some (bi (ly s E (cellAt E p))),?_⟩;unfold fu;have e1:am aD (ac 5) (ag bx (ab (ac 4) (ab (ac 6) ah))) (WS sh one oth th (.lst (al E)) (ba bi (ly s E) (24*E.length)) (some (az p)) (some (aM m)) x8)=some (bi (ly s E (cellAt E p))) :=
  (aY (x:=ba bi (ly s E) (24*E.length)) rfl ((av (x:=.lst (al E)) (y:=az p) rfl rfl).trans (dj hE h.1 h.2))).trans (lj bi _ hc0)
 rw[ap (aG (δ':=WS sh one oth th (.lst (al E)) (ba bi (ly s E) (24*E.length)) (some (az p)) (some (aM m)) (some (bi (ly s E (cellAt E p))))) e1 rfl)];have hi:bz (ag fh (ab (ac 4) (ab (ac 6) (ab (ac 7) ah)))) (WS sh one oth th (.lst (al E)) (ba bi (ly s E) (24*E.length)) (some (az p)) (some (aM m)) (some (bi (ly s E (cellAt E p)))))=some (al (eQ E p m)):=by
  unfold bz;rw[cE (x:=.lst (al E)) (y:=az p) (z:=aM m) rfl rfl rfl,su hE h hm hg];rfl
 have hl:(al (eQ E p m)).length<=16777216:=by
  rw[dZ];have hT:=h.2;unfold To at hT;cases m with
  | bad=>simp[eQ]
  | out a b =>
    have b1:=bo_le hE (rg p.1);have b2:=bo_le hE (rg (a,b));simp[eQ];omega
  | on a b =>
    obtain⟨_,q1,q2⟩:=lW hm hg;simp only[eQ,List.length_map,List.length_range];generalize a*(6 / b)=B at *;omega
 have hc:=bO (k:=1) (fv:=[8,5]) (g:=gN 0) (c:=tT) (e:=am oEq (am aD (ac 2) (ac 0)) (ac 1)) (fun x=>some (EZ s E (ly s E (cellAt E p)) x)) hi hl fun x hx=>by
  unfold al at hx;obtain⟨c,hcm,rfl⟩:=List.mem_map.mp hx;refine⟨[some (.int (c:Nat)),some (bi (ly s E (cellAt E p))),some (ba bi (ly s E) (24*E.length))],rfl,.inl ⟨rfl,.bl (decide (ly s E c=ly s E (cellAt E p))),?_,rfl⟩⟩;refine(aY ((aY (x:=ba bi (ly s E) (24*E.length)) (y:=.int (c:Nat)) rfl rfl).trans (lj bi _ (hlt c hcm))) (y:=bi (ly s E (cellAt E p))) rfl).trans ?_;unfold oEq;rw[if_pos ⟨fd_tup.dp _,fd_tup.dp _⟩,fd_tup.eq]
 have t:cq (tV (ag vD (ab (bw 1 [8,5] (bz (ag fh (ab (ac 4) (ab (ac 6) (ab (ac 7) ah))))) (gN 0) tT (am oEq (am aD (ac 2) (ac 0)) (ac 1))) ah))) (WS sh one oth th (.lst (al E)) (ba bi (ly s E) (24*E.length)) (some (az p)) (some (aM m)) (some (bi (ly s E (cellAt E p)))))=some (!vN s E p m):=by
  refine cU (cp (d:=.bl (vN s E p m)) ((aJ hc).trans ?_) rfl);rw[List.filterMap_eq_map'];unfold al;rw[List.map_map];show ((allB (List.map (fun (c:Nat)=>D.bl (decide (ly s E c=ly s E (cellAt E p)))) (eQ E p m))).bind fun k=>some (D.bl k))=_;rw[rL (fun c=>decide (ly s E c=ly s E (cellAt E p)))];rfl
 cases hk:vN s E p m with
 | false =>
   rw[hk] at t;rw[b9 ((fm t).trans (aK (d:=.bl false) rfl))];rfl
 | true =>
   rw[hk] at t;rw[ap ((cL t).trans rfl)];exact aG ((av (x:=az p) (y:=aM m) rfl rfl).trans (wZ h hm hg)) rfl
def p7 {s:List Pc}{E:List Nat}(hE:Eg E)(sh one oth th:D):∀(ms:List Mv) (p:Pn) (x7 x8:Option D),(∀m∈ms,Mo m)->(∀m∈ms,good m=true)->fz p->∃y7 y8,
 dD (gN 7) fu (ms.map aM) (WS sh one oth th (.lst (al E)) (ba bi (ly s E) (24*E.length)) (some (az p)) x7 x8) =
  some (match dr s E ms p with | some q=>.nx (WS sh one oth th (.lst (al E)) (ba bi (ly s E) (24*E.length)) (some (az q)) y7 y8) | none=>.rt (.bl false))
 | [],p,x7,x8,_,_,_=>⟨x7,x8,rfl⟩
 | m::ms,p,x7,x8,hm,hg,h=>by
   have g0:=hg m List.mem_cons_self;have m0:=hm m List.mem_cons_self;obtain⟨z8,e⟩:=yM (s:=s) hE h m0 g0 sh one oth th x8;rw[List.map_cons,dr,g0];cases hk:vN s E p m with
   | false =>
     rw[hk] at e;refine⟨x7,x8,?_⟩;rw[dD];show (fu (WS sh one oth th (.lst (al E)) (ba bi (ly s E) (24*E.length)) (some (az p)) (some (aM m)) x8)).bind _=_;rw[e];rfl
   | true =>
     rw[hk] at e;obtain⟨y7,y8,ih⟩:=p7 hE sh one oth th ms (iJ p m) (some (aM m)) z8 (fun x hx=>hm x (List.mem_cons_of_mem _ hx)) (fun x hx=>hg x (List.mem_cons_of_mem _ hx)) (fA h m0 g0);refine⟨y7,y8,?_⟩;rw[d7 (δ1:=WS sh one oth th (.lst (al E)) (ba bi (ly s E) (24*E.length)) (some (az p)) (some (aM m)) x8) rfl e,ih];rfl
def jK {s:List Pc}(he:(aq s).length<=60):Eg (aq s):=⟨bB s,gD s,he⟩
def vW (ms:List Mv)(hm:∀m∈ms,Mo m)(hl:ms.length<=100000)(sh one oth:D)(r:Ev) :
 cq (tV (ag vD (ab (bw 1 [] (bz (ac 3)) (gN 0) tT (ag eY (ab (ac 0) ah))) ah))) (some sh::some one::some oth::some (.tup (ms.map aM))::r)=some (!ms.all good):=by
 have hmv:∀d∈ms.map aM,∃m,m∈ms/\d=aM m:=fun d hd=>by obtain⟨m,h1,h2⟩:=List.mem_map.mp hd;exact⟨m,h1,h2.symm⟩
 have back:∃g:D->D,∀m∈ms,g (aM m)=.bl (good m):=by
  refine⟨fun d=>(eY [d]).getD .non,fun m hm'=>?_⟩;simp only[nS (hm m hm'),Option.getD_some]
 obtain⟨g,hg⟩:=back;have hc:=bO (k:=1) (fv:=[]) (i:=bz (ac 3)) (g:=gN 0) (c:=tT) (e:=ag eY (ab (ac 0) ah)) (δ:=some sh::some one::some oth::some (.tup (ms.map aM))::r) (xs:=ms.map aM) (fun x=>some (g x)) rfl (by rw[List.length_map];omega) fun x hx=>by
  obtain⟨m,h1,rfl⟩:=hmv x hx;exact⟨[some (aM m)],rfl,.inl ⟨rfl,.bl (good m),(aJ (x:=aM m) rfl).trans (nS (hm m h1)),by rw[hg m h1]⟩⟩
 refine cU (cp (d:=.bl (ms.all good)) ((aJ hc).trans ?_) rfl);rw[List.filterMap_eq_map',List.map_map];have:List.map (g∘aM) ms=ms.map fun m=>.bl (good m):=List.map_congr_left fun m hm'=>hg m hm';rw[this];show ((allB (ms.map fun m=>.bl (good m))).bind fun k=>some (D.bl k))=_;have hall:∀l:List Mv,allB (l.map fun m=>.bl (good m))=some (l.all good):=fun l=>by
  induction l with
  | nil=>rfl
  | cons m l ih=>rw[List.map_cons,allB,ih];rfl
 rw[hall];rfl
def qF {s:List Pc}(h:∀p∈s,p.ok)(hl:s.length<=1000)(he:(aq s).length<=60){one oth:Pn}(h1:fz one)(h2:fz oth){ms:List Mv}(hm:∀m∈ms,Mo m)(hml:ms.length<=100000) :
 d5 [bj s,az one,az oth,.tup (ms.map aM)]=some (.bl (decide (dr s (aq s) ms one=some oth))):=by
 have hE:=jK he;refine bq rfl ?_;show gg [some (bj s),some (az one),some (az oth),some (.tup (ms.map aM)),none,none,none,none,none]=_;unfold gg;have ta:cq (tV (ag (lq .tuple) (ab (ac 3) ah))) [some (bj s),some (az one),some (az oth),some (.tup (ms.map aM)),none,none,none,none,none]=some false:=cU (b:=true) (cp (d:=.bl true) rfl rfl);have tb:=vW ms hm hml (bj s) (az one) (az oth) [none,none,none,none,none];cases hg:ms.all good with
 | false =>
   rw[hg] at tb;rw[b9 ((fm (e8 ta tb)).trans (aK (d:=.bl false) rfl))];have:dr s (aq s) ms one≠some oth:=fun z=>by
    have:=qw s (aq s) ms one oth z;rw[hg] at this;cases this
   rw[decide_eq_false this]
 | true =>
   rw[hg] at tb;rw[ap ((cL (e8 ta tb)).trans rfl)];rw[ap (aG (d:=.lst (al (aq s))) (δ':=[some (bj s),some (az one),some (az oth),some (.tup (ms.map aM)),some (.lst (al (aq s))),none,none,none,none]) ((aJ (x:=bj s) rfl).trans (oV h hl (by omega))) rfl)];rw[ap (aG (d:=ba bi (ly s (aq s)) (24*(aq s).length)) (δ':=[some (bj s),some (az one),some (az oth),some (.tup (ms.map aM)),some (.lst (al (aq s))),some (ba bi (ly s (aq s)) (24*(aq s).length)),none,none,none]) ((av (x:=bj s) (y:=.lst (al (aq s))) rfl rfl).trans (fO (bB s) (by omega) (jH h) hl)) rfl)];rw[ap (aG (d:=az one) (δ':=WS (bj s) (az one) (az oth) (.tup (ms.map aM)) (.lst (al (aq s))) (ba bi (ly s (aq s)) (24*(aq s).length)) (some (az one)) none none) rfl rfl)];obtain⟨y7,y8,e⟩:=p7 (s:=s) hE (bj s) (az one) (az oth) (.tup (ms.map aM)) ms one none none hm (fun m hm'=>List.all_eq_true.mp hg m hm') h1;cases hr:dr s (aq s) ms one with
   | none =>
     rw[hr] at e;rw[b9 ((cx (xs:=ms.map aM) rfl).trans e)];rfl
   | some q =>
     rw[hr] at e;rw[ap ((cx (xs:=ms.map aM) rfl).trans e)];have hq:=wM s (aq s) ms one q hm h1 hr;refine aK ((av (x:=az q) (y:=az oth) rfl rfl).trans ((A9 hq.2 h2.2).trans ?_));refine congrArg (fun z=>some (D.bl z)) ?_;rw[Bool.eq_iff_iff,decide_eq_true_eq,decide_eq_true_eq];simp
def qD (sh one oth:D){th:D}(h:AG .tuple th=false):d5 [sh,one,oth,th]=some (.bl false):=by
 refine bq rfl ?_;show gg [some sh,some one,some oth,some th,none,none,none,none,none]=_;unfold gg;have ta:cq (tV (ag (lq .tuple) (ab (ac 3) ah))) [some sh,some one,some oth,some th,none,none,none,none,none]=some true:=cU (b:=false) (cp (d:=.bl false) (by rw[aJ (x:=th) rfl];show some (D.bl (AG .tuple th))=_;rw[h]) rfl);exact b9 ((fm (Aj ta)).trans (aK (d:=.bl false) rfl))
end DL.Pg
namespace DL.K06
open PySem DL DL.Pg DL.Lw
def BR {p:Pc}(h:p.ok){u l T:Int}(hu:0<=u)(hl:0<l)(hT:To T):dI [pD p,.tup [.int u,.int l],aL (aB T)]=some (.bl (p.has (u / l).toNat (tt T))):=by
 obtain⟨h1,h2,h3,h4,h5⟩:=h;have hk:=cy T;have e:=ss (i:=p.i) (o:=p.o) (b:=p.b) (w:=p.w) (u:=u) (l:=l) (v:=(aB T).1) (k:=(aB T).2) ⟨by omega,by omega⟩ ⟨by omega,by omega⟩ ⟨by omega,by omega⟩ ⟨by omega,by omega⟩ hk;unfold pD aL;rw[e];refine congrArg (fun b=>some (D.bl b)) ?_;unfold zL Pc.has Pc.at;have hq:=Int.ediv_nonneg hu (Int.le_of_lt hl);have i1:((p.i:Int)*l<=u)↔p.i<=(u / l).toNat:=by rw[<-Int.le_ediv_iff_mul_le hl];omega
 have i2:(u<(p.o:Int)*l)↔(u / l).toNat<p.o:=by rw[<-Int.ediv_lt_iff_lt_mul hl];omega
 have i3:(((aB T).1-(p.b:Int)*(aB T).2) % (24*(aB T).2)<(p.w:Int)*(aB T).2)↔(tt T+24-p.b) % 24<p.w:=by
  have hc:=bJ T;unfold To at hT;unfold tt;rcases cV T with e | e | e | e <;> rw[e] at hc ⊢ <;> omega
 rw[Bool.eq_iff_iff];simp only[Bool.and_eq_true,decide_eq_true_eq,i1,i2,i3]
def vm {s:List Pc}(h:∀p∈s,p.ok)(hl:s.length<=1000){u l T:Int}(hu:0<=u)(hll:0<l)(hT:To T):bA [bj s,.tup [.tup [.int u,.int l],aL (aB T)]]=some (bi (eE 0 s (u / l).toNat (tt T))):=by
 have hc:=bO (k:=2) (fv:=[1]) (i:=mH (ac 0)) (g:=gT (cf (gN 0) (cf (gN 1) iT))) (c:=tV (ag dI (ab (ac 1) (ab (am aD (ac 2) (eC (.int 0))) (ab (am aD (ac 2) (eC (.int 1))) ah))))) (e:=ac 0) (δ:=[some (bj s),some (.tup [.tup [.int u,.int l],aL (aB T)])]) (xs:=cS 0 (s.map pD)) (lf (u / l).toNat (tt T)) rfl (by rw[rn];simp;omega) fun x hx=>by
  obtain⟨i,p,hp,rfl⟩:=rm hx;refine⟨[some (.int ((0+i:Nat):Int)),some (pD p),some (.tup [.tup [.int u,.int l],aL (aB T)])],rfl,?_⟩;have ht':tV (ag dI (ab (ac 1) (ab (am aD (ac 2) (eC (.int 0))) (ab (am aD (ac 2) (eC (.int 1))) ah)))) [some (.int ((0+i:Nat):Int)),some (pD p),some (.tup [.tup [.int u,.int l],aL (aB T)])]=some (p.has (u / l).toNat (tt T)) :=
   cp ((cE (x:=pD p) (y:=.tup [.int u,.int l]) (z:=aL (aB T)) rfl rfl rfl).trans (BR (h p (List.mem_of_getElem? hp)) hu hll hT)) rfl
  rw[ht',AE];cases p.has (u / l).toNat (tt T) with
  | true=>exact .inl ⟨rfl,_,rfl,rfl⟩
  | false=>exact .inr ⟨rfl,rfl⟩
 refine bq rfl (aK ((aJ hc).trans ?_));rw[xJ];rfl
def zC {a b:Int}(hb:0<b):low a b=(a,b)↔Int.gcd a b=1:=by
 constructor
 ·intro h;have:=jG (u:=a) hb;rw[h] at this;exact this
 ·exact mC
def fB {a b:Int}(hb:0<b)(hl:b<1000000):bu [.tup [.int a,.int b]]=some (.bl (decide (Int.gcd a b=1))):=by
 refine bq rfl ?_;show ck [some (.tup [.int a,.int b])]=_;unfold ck;have t1:cq (tV (ag (lq .tuple) (ab (ac 0) ah))) [some (.tup [.int a,.int b])]=some false:=cU (b:=true) (cp (d:=.bl true) rfl rfl);have t2:tV (am iP (ag d8 (ab (ac 0) ah)) (eC (.int 2))) [some (.tup [.int a,.int b])]=some false:=rfl;rw[ap ((cL (e8 t1 t2)).trans rfl)];have t3:tV (bw 1 [] (bz (ac 0)) (gN 0) (la (cq (tV (ag (lq .int) (ab (ac 0) ah)))) (tV (ag (lq .bool) (ab (ac 0) ah)))) (ac 0)) [some (.tup [.int a,.int b])]=some false:=rfl;rw[ap ((cL t3).trans rfl)];refine aK ?_;unfold pB;rw[show am xv (am aD (ac 0) (eC (.int 1))) (eC (.int 0)) [some (.tup [.int a,.int b])]=some (.bl (decide (0<b))) from rfl,decide_eq_true hb];simp only[Option.bind_some];rw[aY (x:=aL (low a b)) (y:=aL (a,b)) ((av (x:=.int a) (y:=.int b) rfl rfl).trans (dG hb hl)) rfl];unfold oEq;rw[if_pos ⟨by show (1:Nat)<=30;decide,by show (1:Nat)<=30;decide⟩,uB];refine congrArg (fun z=>some (D.bl z)) ?_;rw[Bool.eq_iff_iff,decide_eq_true_eq,decide_eq_true_eq,zC hb]
def uu (f g:Int×Int)(k:Int):Bool:=decide (2*min (f.1*g.2) (g.1*f.2)<=k*(f.2*g.2))&&decide (k*(f.2*g.2)<=2*max (f.1*g.2) (g.1*f.2))
def hO (f g:Int×Int):D->Option D
 | .int k=>if uu f g k=true then some (.tup [.int k,.int 2]) else none
 | _=>none
def sg (M:Nat)(f g:Int×Int):List (Int×Int):=(((List.range (2*M+2)).map fun (i:Nat)=>(i:Int)+1).filter (uu f g)).map (fun k=>(k,2))++[f,g]
def xX (f g:Int×Int):∀l:List Int,(l.map D.int).filterMap (hO f g)=((l.filter (uu f g)).map fun k=>(k,(2:Int))).map aL
 | []=>rfl
 | k::l=>by
   rw[List.map_cons,List.filterMap_cons,List.filter_cons,xX f g l];have eh:hO f g (.int k)=if uu f g k=true then some (.tup [.int k,.int 2]) else none:=rfl
   rw[eh];cases uu f g k <;> rfl
def xC {a b:Int}(ha:0<a)(h1:a<=1000)(hb:0<b)(h4:b<=4):0<a*b/\a*b<=4000:=by
 have:b=1\/b=2\/b=3\/b=4:=by omega
 rcases this with rfl | rfl | rfl | rfl <;> omega
def u5 {f g:Int×Int}(hf:Fo f)(hg:Fo g){M:Nat}(hM:M<=100):fi [aL f,aL g,.int M]=some (.lst ((sg M f g).map aL)):=by
 obtain⟨f1,f2,f3,f4,_⟩:=hf;obtain⟨g1,g2,g3,g4,_⟩:=hg;have m1:=xC f1 f3 g2 g4;have m2:=xC g1 g3 f2 f4;have m3:=xC f2 (by omega) g2 g4;refine bq rfl ?_;show gK [some (aL f),some (aL g),some (.int M),none,none,none,none]=_;unfold gK;have p1:∀r:Ev,am aO (am aD (ac 0) (eC (.int 0))) (am aD (ac 1) (eC (.int 1))) (some (aL f)::some (aL g)::r)=some (.int (f.1*g.2)):=fun r=>d3 rfl rfl (by omega);have p2:∀r:Ev,am aO (am aD (ac 1) (eC (.int 0))) (am aD (ac 0) (eC (.int 1))) (some (aL f)::some (aL g)::r)=some (.int (g.1*f.2)):=fun r=>d3 rfl rfl (by omega);have p3:∀r:Ev,am aO (am aD (ac 0) (eC (.int 1))) (am aD (ac 1) (eC (.int 1))) (some (aL f)::some (aL g)::r)=some (.int (f.2*g.2)):=fun r=>d3 rfl rfl (by omega);rw[ap (aG (d:=.int (min (f.1*g.2) (g.1*f.2))) (δ':=[some (aL f),some (aL g),some (.int M),some (.int (min (f.1*g.2) (g.1*f.2))),none,none,none]) ((av (p1 _) (p2 _)).trans (ll _ _)) rfl)];rw[ap (aG (d:=.int (max (f.1*g.2) (g.1*f.2))) (δ':=[some (aL f),some (aL g),some (.int M),some (.int (min (f.1*g.2) (g.1*f.2))),some (.int (max (f.1*g.2) (g.1*f.2))),none,none]) ((av (p1 _) (p2 _)).trans (lm _ _)) rfl)];rw[ap (aG (δ':=[some (aL f),some (aL g),some (.int M),some (.int (min (f.1*g.2) (g.1*f.2))),some (.int (max (f.1*g.2) (g.1*f.2))),some (.int (f.2*g.2)),none]) (p3 _) rfl)];have hi:=iy (a:=eC (.int 1)) (b:=am aT (am aO (eC (.int 2)) (ac 2)) (eC (.int 3))) (i:=1) (j:=2*(M:Int)+3) (δ:=[some (aL f),some (aL g),some (.int M),some (.int (min (f.1*g.2) (g.1*f.2))),some (.int (max (f.1*g.2) (g.1*f.2))),some (.int (f.2*g.2)),none]) rfl (fU (d3 (i:=2) (j:=M) rfl rfl (by omega)) rfl) (by omega);have hxs:bV 1 (2*(M:Int)+3-1).toNat=((List.range (2*M+2)).map fun (i:Nat)=>(i:Int)+1).map D.int:=by
  unfold bV;rw[show (2*(M:Int)+3-1).toNat=2*M+2 by omega,List.map_map];refine List.map_congr_left fun i _=>?_;show D.int (1+(i:Int))=D.int ((i:Int)+1);rw[Int.add_comm]
 rw[hxs] at hi;have hc:=bO (k:=1) (fv:=[3,5,4]) (g:=gN 0) (c:=tV (bD oLe oLe (am aO (eC (.int 2)) (ac 1)) (am aO (ac 0) (ac 2)) (am aO (eC (.int 2)) (ac 3)))) (e:=aP (ab (ac 0) (ab (eC (.int 2)) ah))) (hO f g) hi (by simp;omega) fun x hx=>by
  obtain⟨k,hk,rfl⟩:=List.mem_map.mp hx;obtain⟨i,hi',rfl⟩:=List.mem_map.mp hk;rw[List.mem_range] at hi';refine⟨[some (.int ((i:Int)+1)),some (.int (min (f.1*g.2) (g.1*f.2))),some (.int (f.2*g.2)),some (.int (max (f.1*g.2) (g.1*f.2)))],rfl,?_⟩;have a1:am aO (eC (.int 2)) (ac 1) [some (.int ((i:Int)+1)),some (.int (min (f.1*g.2) (g.1*f.2))),some (.int (f.2*g.2)),some (.int (max (f.1*g.2) (g.1*f.2)))]=some (.int (2*min (f.1*g.2) (g.1*f.2))):=d3 rfl rfl (by omega);have a2:am aO (ac 0) (ac 2) [some (.int ((i:Int)+1)),some (.int (min (f.1*g.2) (g.1*f.2))),some (.int (f.2*g.2)),some (.int (max (f.1*g.2) (g.1*f.2)))]=some (.int (((i:Int)+1)*(f.2*g.2))):=d3 rfl rfl (by omega);have a3:am aO (eC (.int 2)) (ac 3) [some (.int ((i:Int)+1)),some (.int (min (f.1*g.2) (g.1*f.2))),some (.int (f.2*g.2)),some (.int (max (f.1*g.2) (g.1*f.2)))]=some (.int (2*max (f.1*g.2) (g.1*f.2))):=d3 rfl rfl (by omega);have t:tV (bD oLe oLe (am aO (eC (.int 2)) (ac 1)) (am aO (ac 0) (ac 2)) (am aO (eC (.int 2)) (ac 3))) [some (.int ((i:Int)+1)),some (.int (min (f.1*g.2) (g.1*f.2))),some (.int (f.2*g.2)),some (.int (max (f.1*g.2) (g.1*f.2)))]=some (uu f g ((i:Int)+1)):=by
   unfold tV bD;rw[a1,a2];simp only[Option.bind_some];rw[show oLe (.int (2*min (f.1*g.2) (g.1*f.2))) (.int (((i:Int)+1)*(f.2*g.2)))=some (.bl (decide (2*min (f.1*g.2) (g.1*f.2)<=((i:Int)+1)*(f.2*g.2)))) from rfl];simp only[Option.bind_some];unfold uu;cases decide (2*min (f.1*g.2) (g.1*f.2)<=((i:Int)+1)*(f.2*g.2)) with
   | false=>rfl
   | true =>
     simp only[Option.bind_some];rw[a3];rfl
  rw[t];have eh:hO f g (.int ((i:Int)+1))=if uu f g ((i:Int)+1)=true then some (.tup [.int ((i:Int)+1),.int 2]) else none:=rfl
  rw[eh];cases uu f g ((i:Int)+1) with
  | true=>exact .inl ⟨rfl,_,rfl,rfl⟩
  | false=>exact .inr ⟨rfl,rfl⟩
 rw[ap (aG (δ':=[some (aL f),some (aL g),some (.int M),some (.int (min (f.1*g.2) (g.1*f.2))),some (.int (max (f.1*g.2) (g.1*f.2))),some (.int (f.2*g.2)),some (.lst ((((List.range (2*M+2)).map fun (i:Nat)=>(i:Int)+1).map D.int).filterMap (hO f g)))]) hc rfl)];refine aK ((aY (x:=.lst ((((List.range (2*M+2)).map fun (i:Nat)=>(i:Int)+1).map D.int).filterMap (hO f g))) (y:=.lst [aL f,aL g]) rfl rfl).trans ?_);have hlen:(((List.range (2*M+2)).map fun (i:Nat)=>(i:Int)+1).map D.int).length=2*M+2:=by simp
 have hle:=List.length_filterMap_le (hO f g) (((List.range (2*M+2)).map fun (i:Nat)=>(i:Int)+1).map D.int);show (if _+2<=16777216 then _ else _)=_;rw[if_pos (by omega),xX];unfold sg;rw[List.map_append];rfl
noncomputable def kks:List Int:=(List.range 145).map fun (i:Nat) => -48+(i:Int)
noncomputable def jZ (T B k:Int):Bool:=decide (min T (T+B)<=3*k)&&decide (3*k<=max T (T+B))
def qj (T B:Int):List Int:=T % 144::(T+B) % 144::(kks.filter (jZ T B)).map fun k=>(3*k) % 144
def zJ (T B k:Int):(decide (min (2*(aB T).1*(aB B).2) (2*(aB T).1*(aB B).2+2*(aB B).1*(aB T).2)<=k*(aB T).2*(aB B).2)&&decide (k*(aB T).2*(aB B).2<=max (2*(aB T).1*(aB B).2) (2*(aB T).1*(aB B).2+2*(aB B).1*(aB T).2)))=jZ T B k:=by
 have h1:=bJ T;have h2:=bJ B;unfold jZ;rw[Bool.eq_iff_iff];simp only[Bool.and_eq_true,decide_eq_true_eq];generalize (aB T).1=a at *;generalize (aB B).1=c at *;rcases cV T with e | e | e | e <;> rcases cV B with e' | e' | e' | e' <;> rw[e] at h1 ⊢ <;> rw[e'] at h2 ⊢ <;> omega
def Bx {T B:Int}(hT:sb T)(hB:sb B){k:Int}(hk : -1000<=k/\k<=1000)(ds:List D)(hl:ds.length<16777216)(x4 x5:Option D):∃y4 y5,
 fK [some (aL (aB T)),some (aL (aB B)),none,some (.int k),x4,x5,none,none,some (.lst ds),none,none,none]=some (.nx [some (aL (aB T)),some (aL (aB B)),none,some (.int k),y4,y5,none,none,some (.lst (ds++if jZ T B k=true then [aL (k,2)] else [])),none,none,none]):=by
 have a1:=j7 hT;have b1:=j7 hB;have p1:=cy T;have p2:=jg T;have q1:=cy B;have q2:=jg B;have hin:=zJ T B k;refine⟨some (.int (2*(aB T).1*(aB B).2)),some (.int (2*(aB T).1*(aB B).2+2*(aB B).1*(aB T).2)),?_⟩;rw[<-hin];have hkd : -6000<=k*(aB T).2/\k*(aB T).2<=6000:=by
  rcases cV T with e | e | e | e <;> rw[e] <;> omega
 unfold aL;generalize (aB T).1=a at *;generalize (aB B).1=c at *;generalize (aB T).2=d at *;generalize (aB B).2=f at *;unfold fK;have e1:am aO (am aO (eC (.int 2)) (am aD (ac 0) (eC (.int 0)))) (am aD (ac 1) (eC (.int 1))) [some (.tup [.int a,.int d]),some (.tup [.int c,.int f]),none,some (.int k),x4,x5,none,none,some (.lst ds),none,none,none]=some (.int (2*a*f)):=d3 (d3 rfl rfl (by omega)) rfl (by omega);rw[ap (aG (δ':=[some (.tup [.int a,.int d]),some (.tup [.int c,.int f]),none,some (.int k),some (.int (2*a*f)),x5,none,none,some (.lst ds),none,none,none]) e1 rfl)];have e2:am aT (ac 4) (am aO (am aO (eC (.int 2)) (am aD (ac 1) (eC (.int 0)))) (am aD (ac 0) (eC (.int 1)))) [some (.tup [.int a,.int d]),some (.tup [.int c,.int f]),none,some (.int k),some (.int (2*a*f)),x5,none,none,some (.lst ds),none,none,none]=some (.int (2*a*f+2*c*d)):=fU rfl (d3 (d3 rfl rfl (by omega)) rfl (by omega));rw[ap (aG (δ':=[some (.tup [.int a,.int d]),some (.tup [.int c,.int f]),none,some (.int k),some (.int (2*a*f)),some (.int (2*a*f+2*c*d)),none,none,some (.lst ds),none,none,none]) e2 rfl)];have c1:ag mL (ab (ac 4) (ab (ac 5) ah)) [some (.tup [.int a,.int d]),some (.tup [.int c,.int f]),none,some (.int k),some (.int (2*a*f)),some (.int (2*a*f+2*c*d)),none,none,some (.lst ds),none,none,none]=some (.int (min (2*a*f) (2*a*f+2*c*d))):=(av rfl rfl).trans (ll _ _);have c3:ag kX (ab (ac 4) (ab (ac 5) ah)) [some (.tup [.int a,.int d]),some (.tup [.int c,.int f]),none,some (.int k),some (.int (2*a*f)),some (.int (2*a*f+2*c*d)),none,none,some (.lst ds),none,none,none]=some (.int (max (2*a*f) (2*a*f+2*c*d))):=(av rfl rfl).trans (lm _ _);have c2:am aO (am aO (ac 3) (am aD (ac 0) (eC (.int 1)))) (am aD (ac 1) (eC (.int 1))) [some (.tup [.int a,.int d]),some (.tup [.int c,.int f]),none,some (.int k),some (.int (2*a*f)),some (.int (2*a*f+2*c*d)),none,none,some (.lst ds),none,none,none]=some (.int (k*d*f)):=d3 (d3 rfl rfl (by omega)) rfl (by omega);have t:tV (bD oLe oLe (ag mL (ab (ac 4) (ab (ac 5) ah))) (am aO (am aO (ac 3) (am aD (ac 0) (eC (.int 1)))) (am aD (ac 1) (eC (.int 1)))) (ag kX (ab (ac 4) (ab (ac 5) ah)))) [some (.tup [.int a,.int d]),some (.tup [.int c,.int f]),none,some (.int k),some (.int (2*a*f)),some (.int (2*a*f+2*c*d)),none,none,some (.lst ds),none,none,none]=some (decide (min (2*a*f) (2*a*f+2*c*d)<=k*d*f)&&decide (k*d*f<=max (2*a*f) (2*a*f+2*c*d))):=by
  unfold tV bD;rw[c1,c2];simp only[Option.bind_some];rw[show oLe (.int (min (2*a*f) (2*a*f+2*c*d))) (.int (k*d*f))=some (.bl (decide (min (2*a*f) (2*a*f+2*c*d)<=k*d*f))) from rfl];simp only[Option.bind_some];cases decide (min (2*a*f) (2*a*f+2*c*d)<=k*d*f) with
  | false=>rfl
  | true =>
    simp only[Option.bind_some];rw[c3];rfl
 generalize (decide (min (2*a*f) (2*a*f+2*c*d)<=k*d*f)&&decide (k*d*f<=max (2*a*f) (2*a*f+2*c*d)))=z at t;cases z with
 | false =>
   rw[cL t];show _=some (Rs.nx [_,_,_,_,_,_,_,_,some (D.lst (ds++[])),_,_,_]);rw[List.append_nil];rfl
 | true =>
   rw[fm t];show (if ds.length<16777216 then _ else _)=_;rw[if_pos hl];rfl
def ud {T B:Int}(hT:sb T)(hB:sb B):∀(ks:List Int) (ds:List D) (x3 x4 x5:Option D),(∀k∈ks,-1000<=k/\k<=1000)->ds.length+ks.length<=1000->∃y3 y4 y5,
 dD (gN 3) fK (ks.map D.int) [some (aL (aB T)),some (aL (aB B)),none,x3,x4,x5,none,none,some (.lst ds),none,none,none]=some (.nx [some (aL (aB T)),some (aL (aB B)),none,y3,y4,y5,none,none,some (.lst (ds++(ks.filter (jZ T B)).map fun k=>aL (k,2))),none,none,none])
 | [],ds,x3,x4,x5,_,_=>⟨x3,x4,x5,by rw[List.filter_nil,List.map_nil,List.map_nil,List.append_nil];rfl⟩
 | k::ks,ds,x3,x4,x5,hk,hl=>by
   rw[List.length_cons] at hl;obtain⟨z4,z5,e⟩:=Bx hT hB (hk k List.mem_cons_self) ds (by omega) x4 x5;obtain⟨y3,y4,y5,ih⟩:=ud hT hB ks (ds++if jZ T B k=true then [aL (k,2)] else []) (some (.int k)) z4 z5 (fun x hx=>hk x (List.mem_cons_of_mem _ hx)) (by rw[List.length_append];split <;> simp <;> omega);refine⟨y3,y4,y5,?_⟩;rw[List.map_cons,d7 (δ1:=[some (aL (aB T)),some (aL (aB B)),none,some (.int k),x4,x5,none,none,some (.lst ds),none,none,none]) rfl e,ih,List.filter_cons];cases jZ T B k <;> simp
def vw (k:Int):low (k % (24*2)) 2=aB ((3*k) % 144):=ki (by decide) (by decide) (by omega)
def uw {k:Int}{δ:Ev}{a:ME}(ha:a δ=some (aL (k,2))):ag aH (ab (am oMod (am aD a (eC (.int 0))) (am aO (eC (.int 24)) (am aD a (eC (.int 1))))) (ab (am aD a (eC (.int 1))) ah)) δ=some (aL (aB ((3*k) % 144))):=by
 have i0:am aD a (eC (.int 0)) δ=some (.int k):=(aY ha (y:=.int 0) rfl).trans rfl;have i1:am aD a (eC (.int 1)) δ=some (.int 2):=(aY ha (y:=.int 1) rfl).trans rfl;have em:am oMod (am aD a (eC (.int 0))) (am aO (eC (.int 24)) (am aD a (eC (.int 1)))) δ=some (.int (k % (24*2))):=by
  rw[aY i0 (d3 (i:=24) (j:=2) rfl i1 (by omega))];rfl
 rw[av em i1,dG (by decide) (by decide),vw]
def wY {T B:Int}(hT:To T)(hB : -144<=B/\B<=144):ga [aL (aB T),aL (aB B)]=some (.lst ((qj T B).map fun A=>aL (aB A))):=by
 unfold To at hT;have sT:sb T:=⟨by omega,by omega⟩;have sB:sb B:=⟨by omega,by omega⟩;refine bq rfl ?_;show iG [some (aL (aB T)),some (aL (aB B)),none,none,none,none,none,none,none,none,none,none]=_;unfold iG;have e1:fb 6 2 (bK (ab (ac 0) (ab (ag cC (ab (ac 0) (ab (ac 1) ah))) ah))) [some (aL (aB T)),some (aL (aB B)),none,none,none,none,none,none,none,none,none,none]=some (.nx [some (aL (aB T)),some (aL (aB B)),none,none,none,none,none,none,some (.lst [aL (aB T),aL (aB (T+B))]),none,none,none]):=by
  have:bK (ab (ac 0) (ab (ag cC (ab (ac 0) (ab (ac 1) ah))) ah)) [some (aL (aB T)),some (aL (aB B)),none,none,none,none,none,none,none,none,none,none]=some (.lst [aL (aB T),aL (aB (T+B))]):=by
   unfold bK ab;rw[show ag cC (fun δ=>(ac 0 δ).bind fun d=>((fun δ=>(ac 1 δ).bind fun d=>(ah δ).bind fun ds=>some (d::ds)) δ).bind fun ds=>some (d::ds)) [some (aL (aB T)),some (aL (aB B)),none,none,none,none,none,none,none,none,none,none]=some (aL (aB (T+B))) from (av (x:=aL (aB T)) (y:=aL (aB B)) rfl rfl).trans (Ar sT sB)];rfl
  unfold fb;rw[this];rfl
 rw[ap e1];have hr:=iy (a:=gW wj (eC (.int 48))) (b:=eC (.int 97)) (i := -48) (j:=97) (δ:=[some (aL (aB T)),some (aL (aB B)),none,none,none,none,none,none,some (.lst [aL (aB T),aL (aB (T+B))]),none,none,none]) rfl rfl (by omega);have hk:bV (-48) (97 - -48:Int).toNat=kks.map D.int:=by
  unfold kks bV;rw[List.map_map];rfl
 rw[hk] at hr;obtain⟨y3,y4,y5,e2⟩:=ud sT sB kks [aL (aB T),aL (aB (T+B))] none none none (fun k hk=>by
  unfold kks at hk;obtain⟨i,hi,rfl⟩:=List.mem_map.mp hk;rw[List.mem_range] at hi;omega) (by unfold kks;simp)
 rw[ap ((cx hr).trans e2)];have hlen:((kks.filter (jZ T B)).map fun k=>aL (k,2)).length<=145:=by
  rw[List.length_map];exact Nat.le_trans (List.length_filter_le _ _) (by unfold kks;simp)
 show bb _ [some (aL (aB T)),some (aL (aB B)),some (.lst ([aL (aB T),aL (aB (T+B))]++(kks.filter (jZ T B)).map fun k=>aL (k,2))),y3,y4,y5,none,none,none,none,none,none]=_;obtain⟨g,hg⟩:∃g:D->D,∀x∈([aL (aB T),aL (aB (T+B))]++(kks.filter (jZ T B)).map fun k=>aL (k,2)),ag aH (ab (am oMod (am aD (ac 0) (eC (.int 0))) (am aO (eC (.int 24)) (am aD (ac 0) (eC (.int 1))))) (ab (am aD (ac 0) (eC (.int 1))) ah)) [some x]=some (g x):=by
  have hex:∀x∈([aL (aB T),aL (aB (T+B))]++(kks.filter (jZ T B)).map fun k=>aL (k,2)),∃y,ag aH (ab (am oMod (am aD (ac 0) (eC (.int 0))) (am aO (eC (.int 24)) (am aD (ac 0) (eC (.int 1))))) (ab (am aD (ac 0) (eC (.int 1))) ah)) [some x]=some y:=fun x hx=>by
   rcases List.mem_append.mp hx with h | h
   ·simp only[List.mem_cons,List.not_mem_nil,or_false] at h;rcases h with rfl | rfl
    ·exact⟨_,jS (A:=T) rfl⟩
    ·exact⟨_,jS (A:=T+B) rfl⟩
   ·obtain⟨k,_,rfl⟩:=List.mem_map.mp h;exact⟨_,uw (k:=k) rfl⟩
  refine⟨fun x=>(ag aH (ab (am oMod (am aD (ac 0) (eC (.int 0))) (am aO (eC (.int 24)) (am aD (ac 0) (eC (.int 1))))) (ab (am aD (ac 0) (eC (.int 1))) ah)) [some x]).getD .non,fun x hx=>?_⟩;obtain⟨y,e⟩:=hex x hx;simp only[e,Option.getD_some]
 have hc:=bO (k:=1) (fv:=[]) (i:=bz (ac 2)) (g:=gN 0) (c:=tT) (e:=ag aH (ab (am oMod (am aD (ac 0) (eC (.int 0))) (am aO (eC (.int 24)) (am aD (ac 0) (eC (.int 1))))) (ab (am aD (ac 0) (eC (.int 1))) ah))) (δ:=[some (aL (aB T)),some (aL (aB B)),some (.lst ([aL (aB T),aL (aB (T+B))]++(kks.filter (jZ T B)).map fun k=>aL (k,2))),y3,y4,y5,none,none,none,none,none,none]) (xs:=[aL (aB T),aL (aB (T+B))]++(kks.filter (jZ T B)).map fun k=>aL (k,2)) (fun x=>some (g x)) rfl (by rw[List.length_append];simp only[List.length_cons,List.length_nil];omega) fun x hx=>⟨[some x],rfl,.inl ⟨rfl,g x,hg x hx,rfl⟩⟩;refine aK (hc.trans (congrArg (fun l=>some (D.lst l)) ?_));rw[List.filterMap_eq_map',List.map_append];unfold qj;rw[List.map_cons,List.map_cons];have g1:g (aL (aB T))=aL (aB (T % 144)):=Option.some.inj ((hg _ (by simp)).symm.trans (jS (A:=T) rfl));have g2:g (aL (aB (T+B)))=aL (aB ((T+B) % 144)):=Option.some.inj ((hg _ (by simp)).symm.trans (jS (A:=T+B) rfl));have g3:∀k∈kks.filter (jZ T B),g (aL (k,2))=aL (aB ((3*k) % 144)):=fun k hk=>Option.some.inj ((hg _ (List.mem_append_right _ (List.mem_map.mpr ⟨k,hk,rfl⟩))).symm.trans (uw (k:=k) rfl));rw[List.map_cons,List.map_cons,List.map_nil,g1,g2,List.map_map,List.map_map];rw[List.map_congr_left (f:=g∘fun k=>aL (k,2)) (g:=(fun A=>aL (aB A))∘fun k=>3*k % 144) fun k hk=>g3 k hk];rfl
def jc (s:List Pc)(p:Pn):List Nat:=eE 0 s (rg p.1) (tt p.2)
def CO (p:Pn):Prop:=0<=p.1.1/\0<p.1.2/\To p.2
def wX {s:List Pc}(h:∀p∈s,p.ok)(hl:s.length<=1000){p:Pn}(hp:CO p):bA [bj s,az p]=some (bi (jc s p)):=vm h hl hp.1 hp.2.1 hp.2.2
def lF (M:Nat)(p:Pn):Mv->List Pn
 | .out a b=>(sg M p.1 (a,b)).map fun q=>(q,p.2)
 | .on a b=>(qj p.2 (a*(6 / b))).map fun T=>(p.1,T)
 | .bad=>[]
def wC {M:Nat}{p:Pn}(h:fz p){m:Mv}(hm:Mo m)(hg:good m=true):∀q∈lF M p m,CO q:=fun q hq=>by
 obtain⟨h1,h2⟩:=h;cases m with
 | bad=>cases hg
 | out a b =>
   have hs:=(fA ⟨h1,h2⟩ hm hg).1;have s1:0<a:=hs.n;have s2:0<b:=hs.d;have f1:=h1.n;have f2:=h1.d;obtain⟨x,hx,rfl⟩:=List.mem_map.mp hq;unfold sg at hx;rcases List.mem_append.mp hx with hx | hx
   ·obtain⟨k,hk,rfl⟩:=List.mem_map.mp hx;obtain⟨i,_,rfl⟩:=List.mem_map.mp (List.mem_filter.mp hk).1;exact⟨by show (0:Int)<=(i:Int)+1;omega,by show (0:Int)<2;decide,h2⟩
   ·simp only[List.mem_cons,List.not_mem_nil,or_false] at hx;rcases hx with rfl | rfl
    ·exact⟨by show 0<=p.1.1;omega,by show 0<p.1.2;omega,h2⟩
    ·exact⟨by show 0<=a;omega,by show 0<b;omega,h2⟩
 | on a b =>
   obtain⟨T,hT,rfl⟩:=List.mem_map.mp hq;have f1:=h1.n;have f2:=h1.d;refine⟨by show 0<=p.1.1;omega,by show 0<p.1.2;omega,?_⟩;show 0<=T/\T<144;unfold qj at hT;rcases List.mem_cons.mp hT with rfl | hT
   ·omega
   ·rcases List.mem_cons.mp hT with rfl | hT
    ·generalize a*(6 / b)=B at *;omega
    ·obtain⟨k,_,rfl⟩:=List.mem_map.mp hT;omega
def lb {M:Nat}(hM:M<=100)(p:Pn)(m:Mv):(lF M p m).length<=1000:=by
 cases m with
 | bad=>simp[lF]
 | out a b =>
   unfold lF sg;have:=List.length_filter_le (uu p.1 (a,b)) ((List.range (2*M+2)).map fun (i:Nat)=>(i:Int)+1);simp only[List.length_map,List.length_append,List.length_range,List.length_cons,List.length_nil] at *;omega
 | on a b =>
   unfold lF qj;have:=List.length_filter_le (jZ p.2 (a*(6 / b))) kks;have hk:kks.length=145:=by unfold kks;simp
   simp only[List.length_map,List.length_cons] at *;omega
def pM (s:List Pc)(M:Nat)(A:List Nat)(p:Pn)(m:Mv):Bool:=(lF M p m).all fun q=>decide (jc s q=A)
def so (s:List Pc)(M:Nat)(A:List Nat):List Mv->Pn->Option Pn
 | [],p=>some p
 | m::ms,p=>if (good m&&pM s M A p m)=true then so s M A ms (iJ p m) else none
def Cp (s:List Pc)(A:List Nat)(x:D):Option D:=match bA [bj s,x] with
 | some y=>if cP y (bi A)=true then none else some x
 | none=>none
def xx {s:List Pc}(h:∀p∈s,p.ok)(hl:s.length<=1000)(A:List Nat):∀ps:List Pn,(∀q∈ps,CO q)->truth (.lst ((ps.map az).filterMap (Cp s A)))=some (!ps.all fun q=>decide (jc s q=A))
 | [],_=>rfl
 | q::ps,hq=>by
   have ih:=xx h hl A ps fun x hx=>hq x (List.mem_cons_of_mem _ hx);have e:Cp s A (az q)=if jc s q=A then none else some (az q):=by
    unfold Cp;rw[wX h hl (hq q List.mem_cons_self)];simp only[fd_tup.eq,decide_eq_true_eq]
   rw[List.map_cons,List.filterMap_cons,e,List.all_cons];by_cases z:jc s q=A
   ·rw[if_pos z,decide_eq_true z,Bool.true_and];exact ih
   ·rw[if_neg z,decide_eq_false z];rfl
def uC {s:List Pc}(h:∀p∈s,p.ok)(hl:s.length<=1000)(A:List Nat){ps:List Pn}(hps:∀q∈ps,CO q)(hlen:ps.length<=1000)(x1 x2 x3 x5 x6 x7:Option D) :
 tV (bw 1 [4,0] (bz (ac 8)) (gN 0) (tV (am iP (ag bA (ab (ac 2) (ab (ac 0) ah))) (ac 1))) (ac 0)) [some (bj s),x1,x2,x3,some (bi A),x5,x6,x7,some (.lst (ps.map az))]=some (!ps.all fun q=>decide (jc s q=A)):=by
 have hc:=bO (k:=1) (fv:=[4,0]) (i:=bz (ac 8)) (g:=gN 0) (c:=tV (am iP (ag bA (ab (ac 2) (ab (ac 0) ah))) (ac 1))) (e:=ac 0) (δ:=[some (bj s),x1,x2,x3,some (bi A),x5,x6,x7,some (.lst (ps.map az))]) (xs:=ps.map az) (Cp s A) rfl (by rw[List.length_map];omega) fun x hx=>by
  obtain⟨q,hq,rfl⟩:=List.mem_map.mp hx;refine⟨[some (az q),some (bi A),some (bj s)],rfl,?_⟩;have el:=wX h hl (hps q hq);have t:tV (am iP (ag bA (ab (ac 2) (ab (ac 0) ah))) (ac 1)) [some (az q),some (bi A),some (bj s)]=some (!decide (jc s q=A)):=by
   refine cp (d:=.bl (!decide (jc s q=A))) ((aY ((av (x:=bj s) (y:=az q) rfl rfl).trans el) (y:=bi A) rfl).trans ?_) rfl;unfold iP;rw[if_pos ⟨fd_tup.dp _,fd_tup.dp _⟩,fd_tup.eq]
  rw[t];have e:Cp s A (az q)=if jc s q=A then none else some (az q):=by
   unfold Cp;rw[el];simp only[fd_tup.eq,decide_eq_true_eq]
  by_cases z:jc s q=A
  ·exact .inr ⟨by rw[decide_eq_true z];rfl,by rw[e,if_pos z]⟩
  ·exact .inl ⟨by rw[decide_eq_false z];rfl,az q,rfl,by rw[e,if_neg z]⟩
 exact cp hc (xx h hl A ps hps)
abbrev ES (sh pt th M A:D)(p:Pn)(x7 x8:Option D):Ev:=[some sh,some pt,some th,some M,some A,some (aL p.1),some (aL (aB p.2)),x7,x8]
def zQ {s:List Pc}(h:∀p∈s,p.ok)(hl:s.length<=1000){M:Nat}(hM:M<=100)(A:List Nat){p:Pn}(hp:fz p){m:Mv}(hm:Mo m)(pt th:D)(x8:Option D):∃y8,
 dC (ES (bj s) pt th (.int M) (bi A) p (some (aM m)) x8)=some (if (good m&&pM s M A p m)=true then .nx (ES (bj s) pt th (.int M) (bi A) (iJ p m) (some (aM m)) y8) else .rt .non):=by
 unfold dC;cases m with
 | bad =>
   refine⟨x8,?_⟩;have t:cq (tV (ag (lq .tuple) (ab (ac 7) ah))) (ES (bj s) pt th (.int M) (bi A) p (some (aM .bad)) x8)=some true:=rfl;exact b9 ((fm (Aj t)).trans (aK (d:=.non) rfl))
 | out a b =>
   have e0:good (.out a b)=(decide (Int.gcd a b=1)&&decide (0<a)):=rfl;have hf:bu [.tup [.int a,.int b]]=some (.bl (decide (Int.gcd a b=1))):=fB hm.1 (by have:=hm.2.1;omega);have t1:la (cq (tV (ag (lq .tuple) (ab (ac 7) ah)))) (la (tV (am iP (ag d8 (ab (ac 7) ah)) (eC (.int 2)))) (cq (tV (ag bu (ab (am aD (ac 7) (eC (.int 1))) ah))))) (ES (bj s) pt th (.int M) (bi A) p (some (aM (.out a b))) x8)=some (!decide (Int.gcd a b=1)):=by
    have u1:cq (tV (ag (lq .tuple) (ab (ac 7) ah))) (ES (bj s) pt th (.int M) (bi A) p (some (aM (.out a b))) x8)=some false:=rfl;have u2:tV (am iP (ag d8 (ab (ac 7) ah)) (eC (.int 2))) (ES (bj s) pt th (.int M) (bi A) p (some (aM (.out a b))) x8)=some false:=rfl;rw[e8 u1 (e8 u2 (cU (cp ((aJ (x:=.tup [.int a,.int b]) rfl).trans hf) rfl)))];rfl
   by_cases hgc:Int.gcd a b=1
   ·rw[decide_eq_true hgc] at t1;by_cases ha:0<a
    ·have hg:good (.out a b)=true:=by rw[e0,decide_eq_true hgc,decide_eq_true ha];rfl
     have hs:Fo (a,b):=(fA hp hm hg).1;refine⟨some (.lst ((lF M p (.out a b)).map az)),?_⟩;rw[ap ((cL t1).trans rfl)];have t2:j5 (tV (am oEq (am aD (ac 7) (eC (.int 0))) (eC (.str "out")))) (tV (am xv (am aD (am aD (ac 7) (eC (.int 1))) (eC (.int 0))) (eC (.int 0)))) (ES (bj s) pt th (.int M) (bi A) p (some (aM (.out a b))) x8)=some true:=by
      show some (decide (0<a))=_;rw[decide_eq_true ha]
     have hi:bz (ag fi (ab (ac 5) (ab (am aD (ac 7) (eC (.int 1))) (ab (ac 3) ah)))) (ES (bj s) pt th (.int M) (bi A) p (some (aM (.out a b))) x8)=some ((sg M p.1 (a,b)).map aL):=by
      unfold bz;rw[cE (x:=aL p.1) (y:=aL (a,b)) (z:=.int M) rfl rfl rfl,u5 hp.1 hs hM];rfl
     have hle:((sg M p.1 (a,b)).map aL).length<=16777216:=by
      have:=lb hM p (.out a b);unfold lF at this;rw[List.length_map] at this ⊢;omega
     have hc:=bO (k:=1) (fv:=[6]) (g:=gN 0) (c:=tT) (e:=aP (ab (ac 0) (ab (ac 1) ah))) (fun x=>some (.tup [x,aL (aB p.2)])) hi hle fun x hx=>⟨[some x,some (aL (aB p.2))],rfl,.inl ⟨rfl,_,rfl,rfl⟩⟩;rw[List.filterMap_eq_map',List.map_map] at hc;have hc':(bw 1 [6] (bz (ag fi (ab (ac 5) (ab (am aD (ac 7) (eC (.int 1))) (ab (ac 3) ah))))) (gN 0) tT (aP (ab (ac 0) (ab (ac 1) ah)))) (ES (bj s) pt th (.int M) (bi A) p (some (aM (.out a b))) x8)=some (.lst ((lF M p (.out a b)).map az)):=by
      rw[hc];unfold lF;rw[List.map_map];rfl
     rw[ap ((fm t2).trans ((ap (aG (δ':=ES (bj s) pt th (.int M) (bi A) p (some (aM (.out a b))) (some (.lst ((lF M p (.out a b)).map az)))) hc' rfl)).trans (aG (d:=aL (a,b)) (δ':=ES (bj s) pt th (.int M) (bi A) ((a,b),p.2) (some (aM (.out a b))) (some (.lst ((lF M p (.out a b)).map az)))) rfl rfl)))];have tc:=uC h hl A (wC (M:=M) hp hm hg) (lb hM p _) (some pt) (some th) (some (.int M)) (some (aL (a,b))) (some (aL (aB p.2))) (some (aM (.out a b)));rw[hg,Bool.true_and];unfold pM;cases hk:(lF M p (.out a b)).all fun q=>decide (jc s q=A) with
     | true =>
       rw[hk] at tc;exact(cL tc).trans rfl
     | false =>
       rw[hk] at tc;exact(fm tc).trans (aK (d:=.non) rfl)
    ·have hg:good (.out a b)=false:=by rw[e0,decide_eq_true hgc,decide_eq_false ha];rfl
     refine⟨x8,?_⟩;rw[ap ((cL t1).trans rfl)];have t2:j5 (tV (am oEq (am aD (ac 7) (eC (.int 0))) (eC (.str "out")))) (tV (am xv (am aD (am aD (ac 7) (eC (.int 1))) (eC (.int 0))) (eC (.int 0)))) (ES (bj s) pt th (.int M) (bi A) p (some (aM (.out a b))) x8)=some false:=by
      show some (decide (0<a))=_;rw[decide_eq_false ha]
     have t3:∀c:MT,j5 (tV (am oEq (am aD (ac 7) (eC (.int 0))) (eC (.str "on")))) c (ES (bj s) pt th (.int M) (bi A) p (some (aM (.out a b))) x8)=some false:=fun c=>rfl;rw[b9 ((cL t2).trans ((cL (t3 _)).trans (aK (d:=.non) rfl))),hg];rfl
   ·rw[decide_eq_false hgc] at t1;have hg:good (.out a b)=false:=by rw[e0,decide_eq_false hgc];rfl
    refine⟨x8,?_⟩;rw[b9 ((fm t1).trans (aK (d:=.non) rfl)),hg];rfl
 | on a b =>
   have hb:0<b:=by have:=hm.1;omega
   have e0:good (.on a b)=(decide (Int.gcd a b=1)&&decide (-(24*b)<=a/\a<=24*b)):=rfl;have hf:bu [.tup [.int a,.int b]]=some (.bl (decide (Int.gcd a b=1))):=fB hb (by have:=hm.1;omega);have t1:la (cq (tV (ag (lq .tuple) (ab (ac 7) ah)))) (la (tV (am iP (ag d8 (ab (ac 7) ah)) (eC (.int 2)))) (cq (tV (ag bu (ab (am aD (ac 7) (eC (.int 1))) ah))))) (ES (bj s) pt th (.int M) (bi A) p (some (aM (.on a b))) x8)=some (!decide (Int.gcd a b=1)):=by
    have u1:cq (tV (ag (lq .tuple) (ab (ac 7) ah))) (ES (bj s) pt th (.int M) (bi A) p (some (aM (.on a b))) x8)=some false:=rfl;have u2:tV (am iP (ag d8 (ab (ac 7) ah)) (eC (.int 2))) (ES (bj s) pt th (.int M) (bi A) p (some (aM (.on a b))) x8)=some false:=rfl;rw[e8 u1 (e8 u2 (cU (cp ((aJ (x:=.tup [.int a,.int b]) rfl).trans hf) rfl)))];rfl
   by_cases hgc:Int.gcd a b=1
   ·rw[decide_eq_true hgc] at t1;have t2:∀c:MT,j5 (tV (am oEq (am aD (ac 7) (eC (.int 0))) (eC (.str "out")))) c (ES (bj s) pt th (.int M) (bi A) p (some (aM (.on a b))) x8)=some false:=fun c=>rfl;have t3:j5 (tV (am oEq (am aD (ac 7) (eC (.int 0))) (eC (.str "on")))) (tV (am oLe (ag rj (ab (am aD (am aD (ac 7) (eC (.int 1))) (eC (.int 0))) ah)) (am aO (eC (.int 24)) (am aD (am aD (ac 7) (eC (.int 1))) (eC (.int 1)))))) (ES (bj s) pt th (.int M) (bi A) p (some (aM (.on a b))) x8)=some (decide (-(24*b)<=a/\a<=24*b)):=by
     have u:tV (am oLe (ag rj (ab (am aD (am aD (ac 7) (eC (.int 1))) (eC (.int 0))) ah)) (am aO (eC (.int 24)) (am aD (am aD (ac 7) (eC (.int 1))) (eC (.int 1))))) (ES (bj s) pt th (.int M) (bi A) p (some (aM (.on a b))) x8)=some (decide (-(24*b)<=a/\a<=24*b)):=by
      refine cp (d:=.bl (decide (-(24*b)<=a/\a<=24*b))) ((aY (x:=.int (if a<0 then -a else a)) rfl (d3 (i:=24) (j:=b) rfl rfl (by omega))).trans ?_) rfl;show some (D.bl (decide ((if a<0 then -a else a)<=24*b)))=_;rw[yH]
     have v:tV (am oEq (am aD (ac 7) (eC (.int 0))) (eC (.str "on"))) (ES (bj s) pt th (.int M) (bi A) p (some (aM (.on a b))) x8)=some true:=rfl;unfold j5;rw[v];exact u
    by_cases ha : -(24*b)<=a/\a<=24*b
    ·have hg:good (.on a b)=true:=by rw[e0,decide_eq_true hgc,decide_eq_true ha];rfl
     obtain⟨ef,B1,B2⟩:=lW hm hg;have ed:D.tup [.int a,.int b]=aL (aB (a*(6 / b))):=by rw[<-ef];rfl
     have hT:=hp.2;rw[decide_eq_true ha] at t3;refine⟨some (.lst ((lF M p (.on a b)).map az)),?_⟩;rw[ap ((cL t1).trans rfl)];have hi:bz (ag ga (ab (ac 6) (ab (am aD (ac 7) (eC (.int 1))) ah))) (ES (bj s) pt th (.int M) (bi A) p (some (aM (.on a b))) x8)=some ((qj p.2 (a*(6 / b))).map fun T=>aL (aB T)):=by
      unfold bz;rw[av (x:=aL (aB p.2)) (y:=.tup [.int a,.int b]) rfl rfl,ed,wY hT ⟨B1,B2⟩];rfl
     have hle:((qj p.2 (a*(6 / b))).map fun T=>aL (aB T)).length<=16777216:=by
      have:=lb hM p (.on a b);unfold lF at this;rw[List.length_map] at this ⊢;omega
     have hc:=bO (k:=1) (fv:=[5]) (g:=gN 0) (c:=tT) (e:=aP (ab (ac 1) (ab (ac 0) ah))) (fun x=>some (.tup [aL p.1,x])) hi hle fun x hx=>⟨[some x,some (aL p.1)],rfl,.inl ⟨rfl,_,rfl,rfl⟩⟩;rw[List.filterMap_eq_map',List.map_map] at hc;have hc':(bw 1 [5] (bz (ag ga (ab (ac 6) (ab (am aD (ac 7) (eC (.int 1))) ah)))) (gN 0) tT (aP (ab (ac 1) (ab (ac 0) ah)))) (ES (bj s) pt th (.int M) (bi A) p (some (aM (.on a b))) x8)=some (.lst ((lF M p (.on a b)).map az)):=by
      rw[hc];unfold lF;rw[List.map_map];rfl
     have hs:ag cC (ab (ac 6) (ab (am aD (ac 7) (eC (.int 1))) ah)) (ES (bj s) pt th (.int M) (bi A) p (some (aM (.on a b))) (some (.lst ((lF M p (.on a b)).map az))))=some (aL (aB (p.2+a*(6 / b)))):=by
      rw[av (x:=aL (aB p.2)) (y:=.tup [.int a,.int b]) rfl rfl,ed];unfold To at hT;exact Ar ⟨by omega,by omega⟩ ⟨by omega,by omega⟩
     have hbk:=jS (A:=p.2+a*(6 / b)) (a:=ac 6) (δ:=[some (bj s),some pt,some th,some (.int M),some (bi A),some (aL p.1),some (aL (aB (p.2+a*(6 / b)))),some (aM (.on a b)),some (.lst ((lF M p (.on a b)).map az))]) rfl;rw[ap ((cL (t2 _)).trans ((fm t3).trans ((ap (aG (δ':=ES (bj s) pt th (.int M) (bi A) p (some (aM (.on a b))) (some (.lst ((lF M p (.on a b)).map az)))) hc' rfl)).trans ((ap (aG (δ':=[some (bj s),some pt,some th,some (.int M),some (bi A),some (aL p.1),some (aL (aB (p.2+a*(6 / b)))),some (aM (.on a b)),some (.lst ((lF M p (.on a b)).map az))]) hs rfl)).trans (aG (δ':=ES (bj s) pt th (.int M) (bi A) (p.1,(p.2+a*(6 / b)) % 144) (some (aM (.on a b))) (some (.lst ((lF M p (.on a b)).map az)))) hbk rfl)))))];have tc:=uC h hl A (wC (M:=M) hp hm hg) (lb hM p _) (some pt) (some th) (some (.int M)) (some (aL p.1)) (some (aL (aB ((p.2+a*(6 / b)) % 144)))) (some (aM (.on a b)));rw[hg,Bool.true_and];unfold pM;cases hk:(lF M p (.on a b)).all fun q=>decide (jc s q=A) with
     | true =>
       rw[hk] at tc;exact(cL tc).trans rfl
     | false =>
       rw[hk] at tc;exact(fm tc).trans (aK (d:=.non) rfl)
    ·have hg:good (.on a b)=false:=by rw[e0,decide_eq_true hgc,decide_eq_false ha];rfl
     rw[decide_eq_false ha] at t3;refine⟨x8,?_⟩;rw[ap ((cL t1).trans rfl)];rw[b9 ((cL (t2 _)).trans ((cL t3).trans (aK (d:=.non) rfl))),hg];rfl
   ·rw[decide_eq_false hgc] at t1;have hg:good (.on a b)=false:=by rw[e0,decide_eq_false hgc];rfl
    refine⟨x8,?_⟩;rw[b9 ((fm t1).trans (aK (d:=.non) rfl)),hg];rfl
def rp {s:List Pc}(h:∀p∈s,p.ok)(hl:s.length<=1000){M:Nat}(hM:M<=100)(A:List Nat)(pt th:D):∀(ms:List Mv) (p:Pn) (x7 x8:Option D),(∀m∈ms,Mo m)->fz p->∃y7 y8,
 dD (gN 7) dC (ms.map aM) (ES (bj s) pt th (.int M) (bi A) p x7 x8) =
  some (match so s M A ms p with | some q=>.nx (ES (bj s) pt th (.int M) (bi A) q y7 y8) | none=>.rt .non)
 | [],p,x7,x8,_,_=>⟨x7,x8,rfl⟩
 | m::ms,p,x7,x8,hm,hp=>by
   have m0:=hm m List.mem_cons_self;obtain⟨z8,e⟩:=zQ h hl hM A hp m0 pt th x8;rw[List.map_cons,so];cases hk:good m&&pM s M A p m with
   | false =>
     rw[hk] at e;refine⟨x7,x8,?_⟩;rw[dD];show (dC (ES (bj s) pt th (.int M) (bi A) p (some (aM m)) x8)).bind _=_;rw[e];rfl
   | true =>
     rw[hk] at e;rw[Bool.and_eq_true] at hk;obtain⟨y7,y8,ih⟩:=rp h hl hM A pt th ms (iJ p m) (some (aM m)) z8 (fun x hx=>hm x (List.mem_cons_of_mem _ hx)) (fA hp m0 hk.1);refine⟨y7,y8,?_⟩;rw[d7 (δ1:=ES (bj s) pt th (.int M) (bi A) p (some (aM m)) x8) rfl e,ih];rfl
def Dn:Option Pn->D
 | some q=>az q
 | none=>.non
def EU {p:Pn}(h:fz p):CO p:=⟨Int.le_of_lt h.1.n,h.1.d,h.2⟩
def nR {s:List Pc}(h:∀p∈s,p.ok)(hl:s.length<=1000){M:Nat}(hM:M<=100){p:Pn}(hp:fz p){ms:List Mv}(hm:∀m∈ms,Mo m) :
 cb [bj s,az p,.tup (ms.map aM),.int M]=some (Dn (so s M (jc s p) ms p)):=by
 refine bq rfl ?_;show dO [some (bj s),some (az p),some (.tup (ms.map aM)),some (.int M),none,none,none,none,none]=_;unfold dO;have t:cq (tV (ag (lq .tuple) (ab (ac 2) ah))) [some (bj s),some (az p),some (.tup (ms.map aM)),some (.int M),none,none,none,none,none]=some false:=rfl;rw[ap ((cL t).trans rfl)];rw[ap (aG (δ':=[some (bj s),some (az p),some (.tup (ms.map aM)),some (.int M),some (bi (jc s p)),none,none,none,none]) ((av (x:=bj s) (y:=az p) rfl rfl).trans (wX h hl (EU hp))) rfl)];rw[ap (aG (d:=az p) (δ':=ES (bj s) (az p) (.tup (ms.map aM)) (.int M) (bi (jc s p)) p none none) rfl rfl)];obtain⟨y7,y8,e⟩:=rp h hl hM (jc s p) (az p) (.tup (ms.map aM)) ms p none none hm hp;cases hr:so s M (jc s p) ms p with
 | none =>
   rw[hr] at e;rw[b9 ((cx (xs:=ms.map aM) rfl).trans e)];rfl
 | some q =>
   rw[hr] at e;rw[ap ((cx (xs:=ms.map aM) rfl).trans e)];rfl
def oU (sh pt M:D){th:D}(h:AG .tuple th=false):cb [sh,pt,th,M]=some .non:=by
 refine bq rfl ?_;show dO [some sh,some pt,some th,some M,none,none,none,none,none]=_;unfold dO;have ta:cq (tV (ag (lq .tuple) (ab (ac 2) ah))) [some sh,some pt,some th,some M,none,none,none,none,none]=some true:=cU (b:=false) (cp (d:=.bl false) (by rw[aJ (x:=th) rfl];show some (D.bl (AG .tuple th))=_;rw[h]) rfl);exact b9 ((fm ta).trans (aK (d:=.non) rfl))
def zF (s:List Pc)(r r' t:Nat):∀k,(∀p∈s,p.has r t=p.has r' t)->eE k s r t=eE k s r' t:=by
 induction s with
 | nil=>intro k _;rfl
 | cons p s ih =>
   intro k h;rw[eE,eE,h p List.mem_cons_self,ih (k+1) fun q hq=>h q (List.mem_cons_of_mem _ hq)]
def Cf {s:List Pc}(h:∀p∈s,p.ok){N:Nat}(h0:0<N)(hN:∀p∈s,p.o<N):Bd (aq s) (eE 0 s) N:=yF h h0 hN fun r r' t hh=>zF s r r' t 0 hh
variable {s:List Pc}{E:List Nat}{N:Nat}
def AD (hB:Bd E (eE 0 s) N){p:Pn}(hT:To p.2):ly s E (cellAt E p)=jc s p:=by
 have ht:=kB hT;unfold ly cellAt jc;rw[show (24*bo E (rg p.1)+tt p.2) / 24=bo E (rg p.1) by omega,show (24*bo E (rg p.1)+tt p.2) % 24=tt p.2 by omega,<-hB.bo_val]
def lw (hB:Bd E (eE 0 s) N){a b:Nat}(h:a<=b):bo E a<=bo E b:=by
 have h1:=hB.bo_le a;exact(hB.le_bo (hB.bo_lt a)).mp (by omega)
def zZ {f:Int×Int}(h:Fo f):f.2=1\/f.2=2\/f.2=3\/f.2=4:=by
 have:=h.d;have:=h.d4;omega
def zI {f g:Int×Int}(hf:Fo f)(hg:Fo g){e:Nat}(h:(rg f<e/\e<rg g)\/(rg g<e/\e<rg f)):uu f g (2*(e:Int)+1)=true:=by
 have hf1:=hf.n;have hg1:=hg.n;unfold rg at h;unfold uu;simp only[Bool.and_eq_true,decide_eq_true_eq];rcases zZ hf with z | z | z | z <;> rcases zZ hg with y | y | y | y <;> rw[z,y] at h ⊢ <;> omega
def BM {f g:Int×Int}(hf:Fo f)(hg:Fo g){k:Int}(h:uu f g k=true):min (rg f) (rg g)<=(k / 2).toNat/\(k / 2).toNat<=max (rg f) (rg g):=by
 have hf1:=hf.n;have hg1:=hg.n;unfold rg;unfold uu at h;simp only[Bool.and_eq_true,decide_eq_true_eq] at h;rcases zZ hf with z | z | z | z <;> rcases zZ hg with y | y | y | y <;> rw[z,y] at h ⊢ <;> omega
def uK (hB:Bd E (eE 0 s) N){M:Nat}(hM:N<=M+1){p:Pn}(hp:fz p){m:Mv}(hm:Mo m)(hg:good m=true):pM s M (jc s p) p m=vN s E p m:=by
 have hT:=hp.2;have ht:=kB hT;unfold pM vN;rw[AD hB hT,Bool.eq_iff_iff,List.all_eq_true,List.all_eq_true];simp only[decide_eq_true_eq];cases m with
 | bad=>cases hg
 | out a b =>
   have hs:Fo (a,b):=(fA hp hm hg).1;constructor
   ·intro h c hc;obtain⟨k,hk,rfl⟩:=List.mem_map.mp hc;rw[List.mem_range] at hk;have l1:=hB.bo_lt (rg p.1);have l2:=hB.bo_lt (rg (a,b));have hends:∀q:Int×Int,q=p.1\/q=(a,b)->eE 0 s (E.getD (bo E (rg q)) 0) (tt p.2)=jc s p:=fun q hq=>by
     have:=h (q,p.2) (List.mem_map.mpr ⟨q,List.mem_append_right _ (by rcases hq with rfl | rfl <;> simp),rfl⟩);rw[<-this,<-hB.bo_val];rfl
    have e1:=hends p.1 (.inl rfl);have e2:=hends (a,b) (.inr rfl);generalize hbd:min (bo E (rg p.1)) (bo E (rg (a,b)))+k=bd at *;unfold ly;rw[show (24*bd+tt p.2) / 24=bd by omega,show (24*bd+tt p.2) % 24=tt p.2 by omega];by_cases z1:bd=bo E (rg p.1)
    ·rw[z1];exact e1
    by_cases z2:bd=bo E (rg (a,b))
    ·rw[z2];exact e2
    have hlt:bd<E.length:=by omega
    have hN:=hB.lt bd hlt;have hmid:(rg p.1<E.getD bd 0/\E.getD bd 0<rg (a,b))\/(rg (a,b)<E.getD bd 0/\E.getD bd 0<rg p.1):=by
     have k1:=hB.le_bo (r:=rg p.1) hlt;have k2:=hB.le_bo (r:=rg (a,b)) hlt;have k3:=hB.bo_le (rg p.1);have k4:=hB.bo_le (rg (a,b));rcases Nat.lt_or_ge (bo E (rg p.1)) bd with q | q
     ·have:=hB.mono (a:=bd) (b:=bo E (rg (a,b))) (by omega) l2;omega
     ·have:=hB.mono (a:=bd) (b:=bo E (rg p.1)) (by omega) l1;omega
    have:=h ((2*((E.getD bd 0:Nat):Int)+1,2),p.2) (List.mem_map.mpr ⟨(2*((E.getD bd 0:Nat):Int)+1,2),List.mem_append_left _ (List.mem_map.mpr ⟨2*((E.getD bd 0:Nat):Int)+1,List.mem_filter.mpr ⟨List.mem_map.mpr ⟨2*E.getD bd 0,List.mem_range.mpr (by omega),by omega⟩,zI hp.1 hs hmid⟩,rfl⟩),rfl⟩);rw[<-this];unfold jc;have er:rg (2*((E.getD bd 0:Nat):Int)+1,2)=E.getD bd 0:=by unfold rg;show ((2*((E.getD bd 0:Nat):Int)+1) / 2).toNat=_;omega
    show _=eE 0 s (rg (2*((E.getD bd 0:Nat):Int)+1,2)) (tt p.2);rw[er]
   ·intro h q hq;obtain⟨x,hx,rfl⟩:=List.mem_map.mp hq;have key:min (rg p.1) (rg (a,b))<=rg x/\rg x<=max (rg p.1) (rg (a,b)):=by
     rcases List.mem_append.mp hx with hx | hx
     ·obtain⟨k,hk,rfl⟩:=List.mem_map.mp hx;exact BM hp.1 hs (List.mem_filter.mp hk).2
     ·simp only[List.mem_cons,List.not_mem_nil,or_false] at hx;rcases hx with rfl | rfl <;> omega
    have m1:min (bo E (rg p.1)) (bo E (rg (a,b)))<=bo E (rg x):=by
     rcases Nat.le_total (rg p.1) (rg (a,b)) with z | z
     ·have:=lw hB (show rg p.1<=rg x by omega);omega
     ·have:=lw hB (show rg (a,b)<=rg x by omega);omega
    have m2:bo E (rg x)<=max (bo E (rg p.1)) (bo E (rg (a,b))):=by
     rcases Nat.le_total (rg p.1) (rg (a,b)) with z | z
     ·have:=lw hB (show rg x<=rg (a,b) by omega);omega
     ·have:=lw hB (show rg x<=rg p.1 by omega);omega
    have:=h (24*bo E (rg x)+tt p.2) (List.mem_map.mpr ⟨bo E (rg x)-min (bo E (rg p.1)) (bo E (rg (a,b))),List.mem_range.mpr (by omega),by omega⟩);rw[<-this];exact(AD hB (p:=(x,p.2)) hT).symm
 | on a b =>
   obtain⟨_,B1,B2⟩:=lW hm hg;unfold To at hT;have cell:∀j:Int,ly s E (24*bo E (rg p.1)+(j % 24).toNat)=eE 0 s (rg p.1) (j % 24).toNat:=fun j=>by
    unfold ly;rw[show (24*bo E (rg p.1)+(j % 24).toNat) / 24=bo E (rg p.1) by omega,show (24*bo E (rg p.1)+(j % 24).toNat) % 24=(j % 24).toNat by omega,<-hB.bo_val]
   show (∀q∈(qj p.2 (a*(6 / b))).map fun T=>(p.1,T),jc s q=jc s p)↔∀c∈(List.range ((max (p.2 / 6) ((p.2+a*(6 / b)) / 6)-min (p.2 / 6) ((p.2+a*(6 / b)) / 6)+1).toNat)).map fun (k:Nat)=>24*bo E (rg p.1)+((min (p.2 / 6) ((p.2+a*(6 / b)) / 6)+(k:Int)) % 24).toNat,ly s E c=jc s p;generalize a*(6 / b)=B at *;have smpl:∀X:Int,jc s (p.1,X % 144)=eE 0 s (rg p.1) ((X / 6) % 24).toNat:=fun X=>by
    unfold jc tt;rw[show ((p.1,X % 144):Pn).2=X % 144 from rfl,show X % 144 / 6=X / 6 % 24 by omega]
   constructor
   ·intro h c hc;obtain⟨k,hk,rfl⟩:=List.mem_map.mp hc;rw[List.mem_range] at hk;generalize hj:min (p.2 / 6) ((p.2+B) / 6)+(k:Int)=j at *;rw[cell];by_cases z1:j=p.2 / 6
    ·have:=h (p.1,p.2 % 144) (List.mem_map.mpr ⟨_,List.mem_cons_self,rfl⟩);rw[smpl] at this;rw[z1];exact this
    by_cases z2:j=(p.2+B) / 6
    ·have:=h (p.1,(p.2+B) % 144) (List.mem_map.mpr ⟨_,List.mem_cons_of_mem _ List.mem_cons_self,rfl⟩);rw[smpl] at this;rw[z2];exact this
    have hin:jZ p.2 B (2*j+1)=true:=by
     unfold jZ;simp only[Bool.and_eq_true,decide_eq_true_eq];omega
    have hkk:2*j+1∈kks:=by
     unfold kks;exact List.mem_map.mpr ⟨(2*j+49).toNat,List.mem_range.mpr (by omega),by omega⟩
    have:=h (p.1,(3*(2*j+1)) % 144) (List.mem_map.mpr ⟨_,List.mem_cons_of_mem _ (List.mem_cons_of_mem _ (List.mem_map.mpr ⟨2*j+1,List.mem_filter.mpr ⟨hkk,hin⟩,rfl⟩)),rfl⟩);rw[smpl,show 3*(2*j+1) / 6=j by omega] at this;exact this
   ·intro h q hq;obtain⟨x,hx,rfl⟩:=List.mem_map.mp hq;have key:∃X:Int,x=X % 144/\min p.2 (p.2+B)<=X/\X<=max p.2 (p.2+B):=by
     rcases List.mem_cons.mp hx with rfl | hx
     ·exact⟨p.2,rfl,by omega,by omega⟩
     rcases List.mem_cons.mp hx with rfl | hx
     ·exact⟨p.2+B,rfl,by omega,by omega⟩
     obtain⟨k,hk,rfl⟩:=List.mem_map.mp hx;have:=(List.mem_filter.mp hk).2;unfold jZ at this;simp only[Bool.and_eq_true,decide_eq_true_eq] at this;exact⟨3*k,rfl,this⟩
    obtain⟨X,rfl,X1,X2⟩:=key;have:=h (24*bo E (rg p.1)+((X / 6) % 24).toNat) (List.mem_map.mpr ⟨(X / 6-min (p.2 / 6) ((p.2+B) / 6)).toNat,List.mem_range.mpr (by omega),by
     rw[show min (p.2 / 6) ((p.2+B) / 6)+(((X / 6-min (p.2 / 6) ((p.2+B) / 6)).toNat:Nat):Int)=X / 6 by omega]⟩)
    rw[cell] at this;rw[smpl];exact this
def yh (hB:Bd E (eE 0 s) N){M:Nat}{p:Pn}{m:Mv}(hg:good m=true)(hk:pM s M (jc s p) p m=true):jc s (iJ p m)=jc s p:=by
 unfold pM at hk;rw[List.all_eq_true] at hk;refine of_decide_eq_true (hk _ ?_);cases m with
 | bad=>cases hg
 | out a b=>exact List.mem_map.mpr ⟨(a,b),List.mem_append_right _ (by simp),rfl⟩
 | on a b=>exact List.mem_map.mpr ⟨_,List.mem_cons_of_mem _ List.mem_cons_self,rfl⟩
def lP (hB:Bd E (eE 0 s) N){M:Nat}(hM:N<=M+1):∀(ms:List Mv) (p:Pn),fz p->(∀m∈ms,Mo m)->so s M (jc s p) ms p=dr s E ms p
 | [],_,_,_=>rfl
 | m::ms,p,hp,hm=>by
   have m0:=hm m List.mem_cons_self;rw[so,dr];cases hg:good m with
   | false=>rfl
   | true =>
     rw[uK hB hM hp m0 hg];cases hk:vN s E p m with
     | false=>rfl
     | true =>
       have he:=yh (M:=M) hB hg (by rw[uK hB hM hp m0 hg];exact hk);have:=lP hB hM ms (iJ p m) (fA hp m0 hg) fun x hx=>hm x (List.mem_cons_of_mem _ hx);rw[he] at this;exact this
end DL.K06
namespace DL.Pg
open PySem DL DL.Lw
def nF (p q:Pn):List Mv:=(if p.1=q.1 then [] else [.out q.1.1 q.1.2])++(if jY (q.2-p.2)=0 then [] else [.on (aB (jY (q.2-p.2))).1 (aB (jY (q.2-p.2))).2])
def wF (A:Int) : -72<=jY A/\jY A<72:=by unfold jY;omega
def o6 (B:Int):(aB B).1*(6 / (aB B).2)=B:=by
 have h:=bJ B;rcases cV B with e | e | e | e <;> rw[e] at h ⊢ <;> omega
def C8 {B:Int}(h : -144<=B/\B<=144):Mo (.on (aB B).1 (aB B).2):=by
 have:=uz B;exact⟨cV B,by omega,by omega⟩
def zr {B:Int}(h : -144<=B/\B<=144):good (.on (aB B).1 (aB B).2)=true:=by
 have e:good (.on (aB B).1 (aB B).2)=(decide (Int.gcd (aB B).1 (aB B).2=1)&&decide (-(24*(aB B).2)<=(aB B).1/\(aB B).1<=24*(aB B).2)):=rfl;rw[e,decide_eq_true (uA B),Bool.true_and,decide_eq_true_eq];have h:=bJ B;rcases cV B with e | e | e | e <;> rw[e] at h ⊢ <;> omega
def sD {f:Int×Int}(h:Fo f):Mo (.out f.1 f.2):=⟨h.d,h.d4,by have:=h.n;omega,h.n1⟩
def xu {f:Int×Int}(h:Fo f):good (.out f.1 f.2)=true:=by
 have e:good (.out f.1 f.2)=(decide (Int.gcd f.1 f.2=1)&&decide (0<f.1)):=rfl;rw[e,decide_eq_true h.g,decide_eq_true h.n];rfl
def BD {p q:Pn}(hq:fz q):∀m∈nF p q,Mo m:=fun m hm=>by
 unfold nF at hm;have:=wF (q.2-p.2);rcases List.mem_append.mp hm with h | h
 ·split at h
  ·cases h
  ·rw[List.mem_singleton] at h;subst h;exact sD hq.1
 ·split at h
  ·cases h
  ·rw[List.mem_singleton] at h;subst h;exact C8 (by omega)
def ui (p q:Pn):(nF p q).length<=2:=by unfold nF;split <;> split <;> simp
def yb (B:Int):((aB B).1=0)↔B=0:=by
 have h:=bJ B;rcases cV B with e | e | e | e <;> rw[e] at h <;> omega
def zb {p q:Pn}(hp:fz p)(hq:fz q):eB [az p,az q]=some (.lst ((nF p q).map aM)):=by
 have hpT:=hp.2;have hqT:=hq.2;unfold To at hpT hqT;have hsh:=wF (q.2-p.2);refine bq rfl ?_;show cY [some (az p),some (az q),none,none,none,none,none,none]=_;unfold cY;rw[ap (show fb 4 2 (bK ah) [some (az p),some (az q),none,none,none,none,none,none]=some (.nx [some (az p),some (az q),none,none,none,none,some (.lst []),none]) from rfl)];have t1:tV (am iP (am aD (ac 0) (eC (.int 0))) (am aD (ac 1) (eC (.int 0)))) [some (az p),some (az q),none,none,none,none,some (.lst []),none]=some (!decide (p.1=q.1)):=by
  refine cp (d:=.bl (!decide (p.1=q.1))) ((aY (x:=aL p.1) (y:=aL q.1) rfl rfl).trans ?_) rfl;unfold iP;rw[if_pos ⟨by show (1:Nat)<=30;decide,by show (1:Nat)<=30;decide⟩,uB]
 have s1:gp (tV (am iP (am aD (ac 0) (eC (.int 0))) (am aD (ac 1) (eC (.int 0))))) (ka 4 2 (aP (ab (eC (.str "out")) (ab (am aD (ac 1) (eC (.int 0))) ah)))) cH [some (az p),some (az q),none,none,none,none,some (.lst []),none]=some (.nx [some (az p),some (az q),none,none,none,none,some (.lst ((if p.1=q.1 then [] else [Mv.out q.1.1 q.1.2]).map aM)),none]):=by
  by_cases z:p.1=q.1
  ·rw[decide_eq_true z] at t1;rw[cL t1,if_pos z];rfl
  ·rw[decide_eq_false z] at t1;rw[fm t1,if_neg z];rfl
 rw[ap s1];generalize hX:(if p.1=q.1 then [] else [Mv.out q.1.1 q.1.2]).map aM=X;have hXl:X.length<=1:=by rw[<-hX];split <;> simp
 have e3:ag gy (ab (ag eN (ab (am aD (ac 1) (eC (.int 1))) (ab (ag fg (ab (am aD (ac 0) (eC (.int 1))) ah)) ah))) ah) [some (az p),some (az q),none,none,none,none,some (.lst X),none]=some (aL (aB (jY (q.2-p.2)))):=by
  refine(aJ (x:=aL (aB (q.2 + -p.2))) ((av (x:=aL (aB q.2)) (y:=aL (aB (-p.2))) rfl ((aJ (x:=aL (aB p.2)) rfl).trans (As _))).trans (jz ⟨by omega,by omega⟩ ⟨by omega,by omega⟩))).trans ?_;rw[<-Int.sub_eq_add_neg];exact yZ ⟨by omega,by omega⟩
 rw[ap (aG (δ':=[some (az p),some (az q),none,some (aL (aB (jY (q.2-p.2)))),none,none,some (.lst X),none]) e3 rfl)];unfold nF;rw[List.map_append,hX];generalize jY (q.2-p.2)=B at *;have t2:tV (am iP (am aD (ac 3) (eC (.int 0))) (eC (.int 0))) [some (az p),some (az q),none,some (aL (aB B)),none,none,some (.lst X),none]=some (!decide (B=0)):=by
  show some (!((aB B).1==0))=_;refine congrArg (fun z=>some (!z)) ?_;rw[Bool.eq_iff_iff,beq_iff_eq,decide_eq_true_eq,yb]
 by_cases z:B=0
 ·rw[decide_eq_true z] at t2;rw[ap ((cL t2).trans rfl),if_pos z];show some (Rs.rt (.lst X))=_;rw[List.map_nil,List.append_nil]
 ·rw[decide_eq_false z] at t2;have s2:ka 4 2 (aP (ab (eC (.str "on")) (ab (ac 3) ah))) [some (az p),some (az q),none,some (aL (aB B)),none,none,some (.lst X),none]=some (.nx [some (az p),some (az q),none,some (aL (aB B)),none,none,some (.lst (X++[aM (.on (aB B).1 (aB B).2)])),none]):=by
   show (if X.length<16777216 then _ else _)=_;rw[if_pos (by omega)];rfl
  rw[ap ((fm t2).trans s2),if_neg z];rfl
variable {s:List Pc}{E:List Nat}
def xB {p q:Pn}(hp:fz p)(hq:fz q)(A:List Nat)(hA:ly s E (cellAt E p)=A)
 (h1:p.1≠q.1->∀b,min (bo E (rg p.1)) (bo E (rg q.1))<=b->b<=max (bo E (rg p.1)) (bo E (rg q.1))->ly s E (24*b+tt p.2)=A)
 (h2:∀j:Int,min (p.2 / 6) ((p.2+jY (q.2-p.2)) / 6)<=j->j<=max (p.2 / 6) ((p.2+jY (q.2-p.2)) / 6)->ly s E (24*bo E (rg q.1)+(j % 24).toNat)=A) :
 dr s E (nF p q) p=some q:=by
 have hpT:=hp.2;have hqT:=hq.2;unfold To at hpT hqT;have hsh:=wF (q.2-p.2);have r1:dr s E (if p.1=q.1 then [] else [.out q.1.1 q.1.2]) p=some (q.1,p.2):=by
  by_cases z:p.1=q.1
  ·rw[if_pos z,<-z];rfl
  ·rw[if_neg z,dr,xu hq.1];have hc:vN s E p (.out q.1.1 q.1.2)=true:=by
    unfold vN;rw[List.all_eq_true];intro c hc;obtain⟨k,hk,rfl⟩:=List.mem_map.mp hc;rw[List.mem_range] at hk;rw[decide_eq_true_eq,hA];have hk':k<max (bo E (rg p.1)) (bo E (rg q.1))-min (bo E (rg p.1)) (bo E (rg q.1))+1:=hk;show ly s E (24*(min (bo E (rg p.1)) (bo E (rg q.1))+k)+tt p.2)=A;exact h1 z _ (by omega) (by omega)
   rw[hc];rfl
 unfold nF;rw[oP,r1];simp only[Option.bind_some];have hend:(p.2+jY (q.2-p.2)) % 144=q.2:=by unfold jY;omega
 by_cases z:jY (q.2-p.2)=0
 ·rw[if_pos z];rw[z] at hend;show some (q.1,p.2)=some q;rw[show p.2=q.2 by omega]
 ·rw[if_neg z,dr,zr (by omega)];have hA':ly s E (cellAt E (q.1,p.2))=A:=by
   have:=h2 (p.2 / 6) (by omega) (by omega);rw[<-this];unfold cellAt tt;rw[show p.2 / 6 % 24=p.2 / 6 by omega]
  have hc:vN s E (q.1,p.2) (.on (aB (jY (q.2-p.2))).1 (aB (jY (q.2-p.2))).2)=true:=by
   unfold vN;rw[List.all_eq_true];intro c hc;obtain⟨k,hk,rfl⟩:=List.mem_map.mp hc;rw[List.mem_range] at hk;rw[o6] at hk;rw[decide_eq_true_eq,hA',o6];generalize jY (q.2-p.2)=B at *;have hk':k<(max (p.2 / 6) ((p.2+B) / 6)-min (p.2 / 6) ((p.2+B) / 6)+1).toNat:=hk;exact h2 _ (by show _<=min (p.2 / 6) ((p.2+B) / 6)+(k:Int);omega) (by show min (p.2 / 6) ((p.2+B) / 6)+(k:Int)<=_;omega)
  rw[hc];simp only[Bool.true_and,if_true];show some (q.1,(p.2+(aB (jY (q.2-p.2))).1*(6 / (aB (jY (q.2-p.2))).2)) % 144)=some q;rw[o6,hend]
def pd {p q:Pn}(hp:fz p)(hq:fz q)(h:cellAt E p=cellAt E q):dr s E (nF p q) p=some q:=by
 have hpT:=hp.2;have hqT:=hq.2;have t1:=kB hpT;have t2:=kB hqT;unfold To at hpT hqT;have hb:bo E (rg p.1)=bo E (rg q.1):=by unfold cellAt at h;omega
 have ht:tt p.2=tt q.2:=by unfold cellAt at h;omega
 refine xB hp hq (ly s E (cellAt E p)) rfl (fun _ b b1 b2=>?_) fun j j1 j2=>?_
 ·rw[show b=bo E (rg p.1) by omega];rfl
 ·have:j=p.2 / 6:=by unfold tt at ht;unfold jY at j1 j2;omega
  subst this;unfold cellAt tt;rw[hb,show p.2 / 6 % 24=p.2 / 6 by omega]
noncomputable def mid (E:List Nat)(c:Nat):Pn:=((2*((E.getD (c / 24) 0:Nat):Int)+1,2),6*((c % 24:Nat):Int)+3)
def ux (e:Nat):Int.gcd (2*(e:Int)+1) 2=1:=by
 have:Int.gcd (2*(e:Int)+1) 2=Int.gcd 1 2:=by
  have h:=Int.gcd_add_mul_left_right 2 1 (e:Int);rw[Int.gcd_comm,Int.add_comm,h,Int.gcd_comm]
 rw[this];decide
def pg {c:Nat}(h:E.getD (c / 24) 0<=400):fz (mid E c):=⟨⟨by show (0:Int)<2*((E.getD (c / 24) 0:Nat):Int)+1;omega,by show (0:Int)<2;decide,by show 2*((E.getD (c / 24) 0:Nat):Int)+1<=1000;omega,by show (2:Int)<=4;decide,ux _⟩,by show 0<=6*((c % 24:Nat):Int)+3/\6*((c % 24:Nat):Int)+3<144;omega⟩
def xE (c:Nat):tt (mid E c).2=c % 24:=by unfold tt mid;show ((6*((c % 24:Nat):Int)+3) / 6).toNat=_;omega
def sJ (c:Nat):rg (mid E c).1=E.getD (c / 24) 0:=by unfold rg mid;show ((2*((E.getD (c / 24) 0:Nat):Int)+1) / 2).toNat=_;omega
def tw (hE:Eg E){b:Nat}(hb:b<E.length):bo E (E.getD b 0)=b:=by
 obtain⟨es,e⟩:=hE.hd;have B:Bd E (fun r (_:Nat)=>bo E r) (E.getD (E.length-1) 0+1):={
  ris:=hE.ris
  pos:=by omega
  zero:=by rw[e];rfl
  lt:=fun b hb=>by have:=lR hE.ris (show b<=E.length-1 by omega) (by omega);omega
  bc:=fun b r t hb h1 h2=>by
   unfold bo;have:E.countP (fun x=>decide (x<=r))=E.countP (fun x=>decide (x<=E.getD b 0)):=List.countP_congr fun x hx=>by
    obtain⟨j,hj,rfl⟩:=mem_getD hx;rw[decide_eq_true_eq,decide_eq_true_eq];constructor
    ·intro z;rcases Nat.lt_or_ge b j with q | q
     ·have a1:=h2 (by omega);have a2:=lR hE.ris (show b+1<=j by omega) hj;omega
     ·exact lR hE.ris q hb
    ·intro z;omega
   rw[this] }
 exact B.bo_at hb
def my (hE:Eg E){c:Nat}(hc:c<24*E.length):cellAt E (mid E c)=c:=by
 unfold cellAt;rw[xE,sJ,tw hE (by omega)];omega
def zw {t u:Int}(ht:0<=t/\t<24)(h:u=t\/u=(t+1) % 24\/u=(t+23) % 24):(jY (6*u+3-(6*t+3))=0/\u=t)\/(jY (6*u+3-(6*t+3))=6/\u=(t+1) % 24)\/(jY (6*u+3-(6*t+3)) = -6/\u=(t+23) % 24):=by
 unfold jY;rcases h with h | h | h
 ·left;omega
 ·right;left;omega
 ·right;right;omega
def BB {t u j:Int}(ht:0<=t/\t<24)(h:u=t\/u=(t+1) % 24\/u=(t+23) % 24)(j1:min ((6*t+3) / 6) ((6*t+3+jY (6*u+3-(6*t+3))) / 6)<=j)(j2:j<=max ((6*t+3) / 6) ((6*t+3+jY (6*u+3-(6*t+3))) / 6)):j % 24=t\/j % 24=u:=by
 have:=zw ht h;generalize jY (6*u+3-(6*t+3))=B at *;rcases this with ⟨rfl,e⟩ | ⟨rfl,e⟩ | ⟨rfl,e⟩
 ·left;omega
 ·have:j=t\/j=t+1:=by omega
  rcases this with rfl | rfl
  ·left;omega
  ·right;exact e.symm
 ·have:j=t\/j=t-1:=by omega
  rcases this with rfl | rfl
  ·left;omega
  ·right;omega
def zx (hE:Eg E)(h4:∀b,b<E.length->E.getD b 0<=400){c d:Nat}(hc:c<24*E.length)(hd:d∈nn (24*E.length) c)(hv:ly s E d=ly s E c):dr s E (nF (mid E c) (mid E d)) (mid E c)=some (mid E d):=by
 have hd':d<24*E.length:=(xy E.length c d hc hd).1;have o1:=pg (h4 (c / 24) (by omega));have o2:=pg (h4 (d / 24) (by omega));have c1:=my hE hc;have r1:=sJ (E:=E) c;have r2:=sJ (E:=E) d;have b1:=tw hE (show c / 24<E.length by omega);have b2:=tw hE (show d / 24<E.length by omega);have t1:=xE (E:=E) c;refine xB o1 o2 (ly s E c) (by rw[c1]) (fun hne b h1 h2=>?_) fun j j1 j2=>?_
 ·rw[r1,r2,b1,b2] at h1 h2;rw[t1];rw[o9] at hd;have hm:d % 24=c % 24/\(d / 24=c / 24+1\/c / 24=d / 24+1):=by
   rcases hd with h | h | h | h
   ·exfalso;have:d / 24=c / 24:=by unfold uL at h;omega
    exact hne (by unfold mid;rw[this])
   ·exfalso;have:d / 24=c / 24:=by unfold uM at h;omega
    exact hne (by unfold mid;rw[this])
   ·omega
   ·omega
  have:24*b+c % 24=c\/24*b+c % 24=d:=by omega
  rcases this with e | e <;> rw[e];exact hv
 ·rw[r2,b2];have e1:(mid E c).2=6*((c % 24:Nat):Int)+3:=rfl;have e2:(mid E d).2=6*((d % 24:Nat):Int)+3:=rfl;rw[e1,e2] at j1 j2;rw[o9] at hd;have key:=BB (t:=((c % 24:Nat):Int)) (u:=((d % 24:Nat):Int)) (j:=j) (by omega) (by
   rcases hd with h | h | h | h
   ·right;left;unfold uL at h;omega
   ·right;right;unfold uM at h;omega
   ·left;omega
   ·left;omega) j1 j2
  clear j1 j2;have hdd:(d / 24=c / 24)\/(d % 24=c % 24):=by
   rcases hd with h | h | h | h
   ·left;unfold uL at h;omega
   ·left;unfold uM at h;omega
   ·right;omega
   ·right;omega
  have:24*(d / 24)+(j % 24).toNat=c\/24*(d / 24)+(j % 24).toNat=d:=by omega
  rcases this with e | e <;> rw[e];exact hv
inductive Pa (nb:Nat->List Nat)(R:List Nat)(a:Nat):Nat->List Nat->Prop where
 | one:a∈R->Pa nb R a a [a]
 | snoc {x y:Nat} {P:List Nat}:Pa nb R a y P->x∈nb y->x∈R->Pa nb R a x (P++[x])
def Pa.last {nb:Nat->List Nat}{R:List Nat}{a x:Nat}{P:List Nat}(h:Pa nb R a x P):∃P',P=P'++[x]:=by
 cases h with
 | one _=>exact⟨[],rfl⟩
 | snoc _ _ _=>exact⟨_,rfl⟩
def Pa.mem {nb:Nat->List Nat}{R:List Nat}{a x:Nat}{P:List Nat}(h:Pa nb R a x P):∀y∈P,y∈R:=by
 induction h with
 | one h=>intro y hy;rw[List.mem_singleton] at hy;exact hy ▸ h
 | snoc _ _ hx ih =>
   intro y hy;rcases List.mem_append.mp hy with z | z
   ·exact ih y z
   ·rw[List.mem_singleton] at z;exact z ▸ hx
def uk:∀(R:List Nat) (V:List D) (i x:Nat),R.Nodup->V.length=R.length->R[i]? = some x->gU (al R) V x=V[i]?
 | [],_,_,_,_,_,h=>by cases h
 | r::R,[],_,_,_,hl,_=>by cases hl
 | r::R,v::V,i,x,hn,hl,h=>by
   rw[List.nodup_cons] at hn;show (if ((r:Nat):Int)=(x:Nat) then some v else gU (al R) V x)=_;cases i with
   | zero =>
     cases h;rw[if_pos rfl];rfl
   | succ i =>
     have h':R[i]? = some x:=h;have hx:x∈R:=List.mem_of_getElem? h';have:r≠x:=fun z=>hn.1 (z ▸ hx);rw[if_neg (by omega),uk R V i x hn.2 (by simpa using hl) h'];rfl
def tM {nb:Nat->List Nat}{R:List Nat}{V:List D}(hn:R.Nodup)(hp:Pt nb R V){a:Nat}(ha:R[0]? = some a)(g:D):∀(n i x:Nat) (acc:List Nat),i<n->R[i]? = some x->acc.length+i<=100000->∃N L,
 j0 (tV (gW dP (ac 3))) bP N [some (.dic false (al R) V),some g,none,some (.int x),none,none,some (.lst (al acc)),none]=some (.nx [some (.dic false (al R) V),some g,none,some .non,none,none,some (.lst (al (acc++L))),none])/\Pa nb R a x L.reverse/\L.length<=i+1
 | 0,_,_,_,h,_,_=>absurd h (by omega)
 | n+1,i,x,acc,h,hx,hl=>by
   have hlk:=uk R V i x hn hp.len hx;have body:∀y:D,V[i]? = some y->bP [some (.dic false (al R) V),some g,none,some (.int x),none,none,some (.lst (al acc)),none]=some (.nx [some (.dic false (al R) V),some g,none,some y,none,none,some (.lst (al (acc++[x]))),none]):=fun y hy=>by
    unfold bP;have e1:ka 4 2 (ac 3) [some (.dic false (al R) V),some g,none,some (.int x),none,none,some (.lst (al acc)),none]=some (.nx [some (.dic false (al R) V),some g,none,some (.int x),none,none,some (.lst (al (acc++[x]))),none]):=by
     show (if (al acc).length<16777216 then _ else _)=_;rw[if_pos (by rw[dZ];omega)];unfold al;rw[List.map_append];rfl
    rw[ap e1];refine aG (d:=y) ?_ rfl;show gU (al R) V x=_;rw[hlk,hy]
   have wh:∀(y:D) (N:Nat),V[i]? = some y->j0 (tV (gW dP (ac 3))) bP (N+1) [some (.dic false (al R) V),some g,none,some (.int x),none,none,some (.lst (al acc)),none]=j0 (tV (gW dP (ac 3))) bP N [some (.dic false (al R) V),some g,none,some y,none,none,some (.lst (al (acc++[x]))),none]:=fun y N hy=>by
    have hc:tV (gW dP (ac 3)) [some (.dic false (al R) V),some g,none,some (.int x),none,none,some (.lst (al acc)),none]=some true:=rfl;rw[j0,hc];simp only[Option.bind_some,if_true];rw[body y hy];rfl
   cases i with
   | zero =>
     have:x=a:=Option.some.inj (hx.symm.trans ha);subst this;refine⟨2,[x],?_,.one (List.mem_of_getElem? ha),by simp⟩;rw[wh .non 1 hp.zero];rfl
   | succ i =>
     obtain⟨j,y,hj,hy,hv,hnb⟩:=hp.bef (i+1) x (by omega) hx;obtain⟨N,L,e,hP,hL⟩:=tM hn hp ha g n j y (acc++[x]) (by omega) hy (by simp;omega);refine⟨N+1,x::L,?_,?_,by simp;omega⟩
     ·rw[wh _ N hv,e,List.append_assoc];rfl
     ·rw[List.reverse_cons];exact .snoc hP hnb (List.mem_of_getElem? hx)
def ny {nb:Nat->List Nat}{R:List Nat}{V:List D}(hn:R.Nodup)(hp:Pt nb R V){a:Nat}(ha:R[0]? = some a)(hl:R.length<=10000){g:Nat}(hg:g∈R):∃P,cv [.dic false (al R) V,.int g]=some (.lst (al P))/\Pa nb R a g P/\P.length<=R.length:=by
 obtain⟨i,hi,e⟩:=List.getElem_of_mem hg;have hx:R[i]? = some g:=by rw[List.getElem?_eq_getElem hi,e]
 obtain⟨N,L,ew,hP,hL⟩:=tM hn hp ha (.int g) (i+1) i g [] (by omega) hx (by simp;omega);refine⟨L.reverse,?_,hP,by rw[List.length_reverse];omega⟩;refine bq rfl ?_;show dW [some (.dic false (al R) V),some (.int g),none,none,none,none,none,none]=_;unfold dW;rw[ap (show fb 4 2 (bK ah) [some (.dic false (al R) V),some (.int g),none,none,none,none,none,none]=some (.nx [some (.dic false (al R) V),some (.int g),none,none,none,none,some (.lst (al [])),none]) from rfl)];rw[ap (aG (d:=.int g) (δ':=[some (.dic false (al R) V),some (.int g),none,some (.int g),none,none,some (.lst (al [])),none]) rfl rfl)];rw[ap (ix ew)];show some (Rs.rt (.lst (al ([]++L)).reverse))=_;unfold al;rw[List.map_reverse];rfl
def Da (E:List Nat)(c:Nat):D.tup [.tup [.int (2*((E.getD (c / 24) 0:Nat):Int)+1),.int 2],.tup [.int (2*((c % 24:Nat):Int)+1),.int 2]]=az (mid E c):=by
 unfold az mid;have h:=yc (a:=2*((c % 24:Nat):Int)+1) (b:=2) (by omega) (ux _);have e:(2*((c % 24:Nat):Int)+1)*(6 / 2)=6*((c % 24:Nat):Int)+3:=by
  rw[show (6:Int) / 2=3 by decide];omega
 rw[e] at h;show _=D.tup [aL _,aL (aB (6*((c % 24:Nat):Int)+3))];rw[<-h];rfl
def Eb (E:List Nat):D->D
 | .int c=>az (mid E c.toNat)
 | d=>d
def wW {E:List Nat}(hE:E.length<=60)(P:List Nat)(hP:∀c∈P,c<24*E.length)(hl:P.length<=10000):bI [.lst (al P),.lst (al E)]=some (.lst ((if P.length=1 then [] else P.map (mid E)).map az)):=by
 refine bq rfl ?_;show cM [some (.lst (al P)),some (.lst (al E))]=_;unfold cM;have t:tV (am oEq (ag d8 (ab (ac 0) ah)) (eC (.int 1))) [some (.lst (al P)),some (.lst (al E))]=some (decide (P.length=1)):=by
  show some (((al P).length:Int)==1)=_;rw[dZ];refine congrArg some ?_;rw[Bool.eq_iff_iff,beq_iff_eq,decide_eq_true_eq];omega
 by_cases z:P.length=1
 ·rw[decide_eq_true z] at t;rw[if_pos z];exact b9 ((fm t).trans (aK (d:=.lst []) rfl))
 ·rw[decide_eq_false z] at t;rw[if_neg z,ap ((cL t).trans rfl)];have hc:=bO (k:=1) (fv:=[1]) (i:=bz (ac 0)) (g:=gN 0) (c:=tT) (e:=ag eg (ab (am aD (ac 1) (am cQ (ac 0) (eC (.int 24)))) (ab (am oMod (ac 0) (eC (.int 24))) ah))) (δ:=[some (.lst (al P)),some (.lst (al E))]) (xs:=al P) (fun x=>some (Eb E x)) rfl (by rw[dZ];omega) fun x hx=>by
   unfold al at hx;obtain⟨c,hcm,rfl⟩:=List.mem_map.mp hx;have hlt:=hP c hcm;refine⟨[some (.int (c:Nat)),some (.lst (al E))],rfl,.inl ⟨rfl,az (mid E c),?_,rfl⟩⟩;have e1:am aD (ac 1) (am cQ (ac 0) (eC (.int 24))) [some (.int (c:Nat)),some (.lst (al E))]=some (.int (E.getD (c / 24) 0:Nat)):=by
    have ef:am cQ (ac 0) (eC (.int 24)) [some (.int (c:Nat)),some (.lst (al E))]=some (.int ((c / 24:Nat):Int)):=by
     rw[fF (i:=(c:Nat)) (j:=24) rfl rfl (by decide)];rfl
    rw[aY (x:=.lst (al E)) rfl ef];have hb:c / 24<E.length:=by omega
    refine pj ?_;unfold al;rw[List.getElem?_map,List.getElem?_eq_getElem hb,List.getD_eq_getElem?_getD,List.getElem?_eq_getElem hb];rfl
   have e2:am oMod (ac 0) (eC (.int 24)) [some (.int (c:Nat)),some (.lst (al E))]=some (.int ((c % 24:Nat):Int)):=by
    rw[aY (x:=.int (c:Nat)) (y:=.int 24) rfl rfl];rfl
   rw[av e1 e2];refine bq rfl ?_;show cX [some (.int (E.getD (c / 24) 0:Nat)),some (.int ((c % 24:Nat):Int))]=_;unfold cX;refine aK ?_;rw[<-Da];have m1:∀(k:Nat) (i:Nat),ac i [some (.int (E.getD (c / 24) 0:Nat)),some (.int ((c % 24:Nat):Int))]=some (.int (k:Nat))->am aT (am aO (eC (.int 2)) (ac i)) (eC (.int 1)) [some (.int (E.getD (c / 24) 0:Nat)),some (.int ((c % 24:Nat):Int))]=some (.int (2*(k:Int)+1)):=fun k i hk=>fU (d3 rfl hk (by omega)) rfl;exact eL (eL (m1 _ 0 rfl) rfl) (eL (m1 _ 1 rfl) rfl)
  refine aK (hc.trans (congrArg (fun l=>some (D.lst l)) ?_));rw[List.filterMap_eq_map'];unfold al;rw[List.map_map,List.map_map];rfl
def vX:List Pn->List Mv
 | p::q::r=>nF p q++vX (q::r)
 | _=>[]
def Cs (s:List Pc)(E:List Nat):List Pn->Prop
 | p::q::r=>dr s E (nF p q) p=some q/\Cs s E (q::r)
 | _=>True
def mX {s:List Pc}{E:List Nat}:∀(l:List Pn) (p q:Pn),Cs s E (l++[p])->dr s E (nF p q) p=some q->Cs s E (l++[p]++[q])
 | [],p,q,_,h=>⟨h,trivial⟩
 | [a],p,q,h,h'=>⟨h.1,h',trivial⟩
 | a::b::l,p,q,h,h'=>⟨h.1,mX (b::l) p q h.2 h'⟩
def uJ {s:List Pc}{E:List Nat}:∀(l:List Pn) (p q:Pn),Cs s E (p::l++[q])->dr s E (vX (p::l++[q])) p=some q
 | [],p,q,h=>by
   show dr s E (nF p q++[]) p=_;rw[List.append_nil];exact h.1
 | a::l,p,q,h=>by
   show dr s E (nF p a++vX (a::l++[q])) p=_;rw[oP,h.1];exact uJ l a q h.2
def xA:∀(l:List Pn),(∀p∈l,fz p)->∀m∈vX l,Mo m
 | [],_,m,hm=>by cases hm
 | [p],_,m,hm=>by cases hm
 | p::q::r,h,m,hm=>by
   rcases List.mem_append.mp hm with z | z
   ·exact BD (h q (by simp)) m z
   ·exact xA (q::r) (fun x hx=>h x (List.mem_cons_of_mem _ hx)) m z
def uh:∀(l:List Pn),(vX l).length<=2*l.length
 | []=>by simp[vX]
 | [p]=>by simp[vX]
 | p::q::r=>by
   have:=uh (q::r);have:=ui p q;show (nF p q++vX (q::r)).length<=_;rw[List.length_append];simp only[List.length_cons] at *;omega
abbrev WF (sh one oth es bf gl pts mv:D)(x8 x9:Option D):Ev:=[some sh,some one,some oth,some es,some bf,some gl,some pts,none,x8,x9,none,none,none,none,none,none,none,some mv,none,none]
def pZ (sh one oth es bf gl pts:D):∀(l:List Pn) (acc:List D) (x8 x9:Option D),(∀p∈l,fz p)->acc.length+2*l.length<=100000->∃y8 y9,
 dD (gT (cf (gN 8) (cf (gN 9) iT))) jT (nr (l.map az) (l.tail.map az)) (WF sh one oth es bf gl pts (.lst acc) x8 x9)=some (.nx (WF sh one oth es bf gl pts (.lst (acc++(vX l).map aM)) y8 y9))
 | [],acc,x8,x9,_,_=>⟨x8,x9,by show _=some (Rs.nx (WF sh one oth es bf gl pts (.lst (acc++[])) x8 x9));rw[List.append_nil];rfl⟩
 | [p],acc,x8,x9,_,_=>⟨x8,x9,by show _=some (Rs.nx (WF sh one oth es bf gl pts (.lst (acc++[])) x8 x9));rw[List.append_nil];rfl⟩
 | p::q::r,acc,x8,x9,h,hl=>by
   have hB:=ui p q;simp only[List.length_cons] at hl;have e:jT (WF sh one oth es bf gl pts (.lst acc) (some (az p)) (some (az q)))=some (.nx (WF sh one oth es bf gl pts (.lst (acc++(nF p q).map aM)) (some (az p)) (some (az q)))):=by
    unfold jT sk;rw[av (x:=az p) (y:=az q) rfl rfl,zb (h p (by simp)) (h q (by simp))];show (if acc.length+((nF p q).map aM).length<=16777216 then _ else _)=_;rw[if_pos (by rw[List.length_map];omega)];rfl
   obtain⟨y8,y9,ih⟩:=pZ sh one oth es bf gl pts (q::r) (acc++(nF p q).map aM) (some (az p)) (some (az q)) (fun x hx=>h x (List.mem_cons_of_mem _ hx)) (by simp only[List.length_append,List.length_map,List.length_cons];omega);refine⟨y8,y9,?_⟩;show dD (gT (cf (gN 8) (cf (gN 9) iT))) jT (D.tup [az p,az q]::nr ((q::r).map az) (r.map az)) (WF sh one oth es bf gl pts (.lst acc) x8 x9)=_;rw[d7 (δ1:=WF sh one oth es bf gl pts (.lst acc) (some (az p)) (some (az q))) rfl e];refine ih.trans ?_;show some (Rs.nx (WF sh one oth es bf gl pts (.lst (acc++(nF p q).map aM++(vX (q::r)).map aM)) y8 y9))=some (Rs.nx (WF sh one oth es bf gl pts (.lst (acc++(nF p q++vX (q::r)).map aM)) y8 y9));rw[List.map_append,List.append_assoc]
def Ej (xs:List D)(h:1<=xs.length):cutD xs (some 1) none=xs.tail:=by
 unfold cutD;have e1:tR xs.length 0 (some 1)=1:=by
  unfold tR;simp only;rw[if_neg (by decide)];split
  ·rfl
  ·omega
 have e2:tR xs.length xs.length none=xs.length:=rfl;rw[e1,e2,List.drop_one,List.take_of_length_le (by simp)]
def zM {s:List Pc}(h:∀p∈s,p.ok)(hl:s.length<=1000)(he:(aq s).length<=60){one:Pn}(h1:fz one):∃R V,bh [ba bi (ly s (aq s)) (24*(aq s).length),.int (cellAt (aq s) one:Nat)]=some (.dic false (al R) V)/\Bf (nn (24*(aq s).length)) (ly s (aq s)) (24*(aq s).length) (cellAt (aq s) one) R R.length/\Pt (nn (24*(aq s).length)) R V :=
 A8 fd_tup rfl (by omega) (oA (jK he) h1)
def BN {a b:ME}{δ:Ev}{c:Nat}{R:List Nat}{V:List D}(ha:a δ=some (.int (c:Nat)))(hb:b δ=some (.dic false (al R) V)):zS a b δ=some (.bl (decide (c∈R))):=by
 unfold zS;rw[ha,hb];simp only[Option.bind_some,BO,pV]
def qB {s:List Pc}(h:∀p∈s,p.ok)(hl:s.length<=1000)(he:(aq s).length<=60){one oth:Pn}(h1:fz one)(h2:fz oth){R:List Nat}{V:List D}(hh:bh [ba bi (ly s (aq s)) (24*(aq s).length),.int (cellAt (aq s) one:Nat)]=some (.dic false (al R) V)) :
 dq [bj s,az one,az oth]=some (.bl (decide (cellAt (aq s) oth∈R))):=by
 have hE:=jK he;refine bq rfl ?_;show fH [some (bj s),some (az one),some (az oth),none]=_;unfold fH;rw[ap (aG (d:=.lst (al (aq s))) (δ':=[some (bj s),some (az one),some (az oth),some (.lst (al (aq s)))]) ((aJ (x:=bj s) rfl).trans (oV h hl (by omega))) rfl)];have a1:ag bx (ab (ac 3) (ab (ac 2) ah)) [some (bj s),some (az one),some (az oth),some (.lst (al (aq s)))]=some (.int (cellAt (aq s) oth:Nat)):=(av (x:=.lst (al (aq s))) (y:=az oth) rfl rfl).trans (dj hE h2.1 h2.2);have a2:ag bh (ab (ag bR (ab (ac 0) (ab (ac 3) ah))) (ab (ag bx (ab (ac 3) (ab (ac 1) ah))) ah)) [some (bj s),some (az one),some (az oth),some (.lst (al (aq s)))]=some (.dic false (al R) V) :=
  (av (f:=bh) ((av (x:=bj s) (y:=.lst (al (aq s))) rfl rfl).trans (fO (bB s) (by omega) (jH h) hl)) ((av (x:=.lst (al (aq s))) (y:=az one) rfl rfl).trans (dj hE h1.1 h1.2))).trans hh
 exact aK (BN a1 a2)
def fW (E:List Nat)(one oth:Pn)(P:List Nat):List Pn:=one::(if P.length=1 then [] else P.map (mid E))++[oth]
def zd {s:List Pc}{E:List Nat}(hE:Eg E)(h4:∀b,b<E.length->E.getD b 0<=400){one oth:Pn}(h1:fz one)(h2:fz oth){R:List Nat}(hlt:∀x∈R,x<24*E.length)(hv:∀x∈R,ly s E x=ly s E (cellAt E one)){x:Nat}{P:List Nat}(h:Pa (nn (24*E.length)) R (cellAt E one) x P)(hx:cellAt E oth=x) :
 Cs s E (fW E one oth P):=by
 have mok:∀c∈R,fz (mid E c):=fun c hc=>pg (h4 _ (by have:=hlt c hc;omega));have hpre:∀{x:Nat} {P:List Nat},Pa (nn (24*E.length)) R (cellAt E one) x P->Cs s E (one::P.map (mid E)):=by
  intro x P h;induction h with
  | one ha=>exact⟨pd h1 (mok _ ha) (my hE (hlt _ ha)).symm,trivial⟩
  | snoc hP hn hx ih =>
    rename_i x y P;obtain⟨P',e⟩:=hP.last;have hy:y∈R:=hP.mem y (by rw[e];simp);rw[e] at ih ⊢;rw[List.map_append,List.map_append];rw[List.map_append] at ih;have:=mX (s:=s) (E:=E) (one::P'.map (mid E)) (mid E y) (mid E x) ih (zx hE h4 (hlt y hy) hn ((hv x hx).trans (hv y hy).symm));exact this
 unfold fW;by_cases z:P.length=1
 ·rw[if_pos z];have:x=cellAt E one:=by
   cases h with
   | one _=>rfl
   | snoc hP _ _ =>
     obtain⟨P',e⟩:=hP.last;rw[e] at z;simp at z
  exact⟨pd h1 h2 (hx.trans this).symm,trivial⟩
 ·rw[if_neg z];obtain⟨P',e⟩:=h.last;have hxR:x∈R:=h.mem x (by rw[e];simp);have hc:=hpre h;rw[e,List.map_append] at hc ⊢;exact mX (s:=s) (E:=E) (one::P'.map (mid E)) (mid E x) oth hc (pd (mok x hxR) h2 ((my hE (hlt x hxR)).trans hx.symm))
def CS {s:List Pc}(h:∀p∈s,p.ok)(hl:s.length<=1000)(he:(aq s).length<=60)(h4:∀b,b<(aq s).length->(aq s).getD b 0<=400){one oth:Pn}(h1:fz one)(h2:fz oth){R:List Nat}{V:List D}(hh:bh [ba bi (ly s (aq s)) (24*(aq s).length),.int (cellAt (aq s) one:Nat)]=some (.dic false (al R) V))(hB:Bf (nn (24*(aq s).length)) (ly s (aq s)) (24*(aq s).length) (cellAt (aq s) one) R R.length)(hP:Pt (nn (24*(aq s).length)) R V) :
 (cellAt (aq s) oth∉R/\oa [bj s,az one,az oth]=some .non) \/
 (cellAt (aq s) oth∈R/\∃ms:List Mv,oa [bj s,az one,az oth]=some (.tup (ms.map aM))/\(∀m∈ms,Mo m)/\ms.length<=10000/\dr s (aq s) ms one=some oth):=by
 have hE:=jK he;have hRl:R.length<=1440:=by have:=hB.few;omega
 have go:∀r,rJ [some (bj s),some (az one),some (az oth),none,none,none,none,none,none,none,none,none,none,none,none,none,none,none,none,none]=some (.rt r)->oa [bj s,az one,az oth]=some r:=fun r hr=>bq rfl hr;have e1:ag dH (ab (ac 0) ah) [some (bj s),some (az one),some (az oth),none,none,none,none,none,none,none,none,none,none,none,none,none,none,none,none,none]=some (.lst (al (aq s))):=(aJ (x:=bj s) rfl).trans (oV h hl (by omega));have e2:fb 10 4 (ag bh (ab (ag bR (ab (ac 0) (ab (ac 3) ah))) (ab (ag bx (ab (ac 3) (ab (ac 1) ah))) ah))) [some (bj s),some (az one),some (az oth),some (.lst (al (aq s))),none,none,none,none,none,none,none,none,none,none,none,none,none,none,none,none]=some (.nx [some (bj s),some (az one),some (az oth),some (.lst (al (aq s))),none,none,none,none,none,none,none,none,none,none,some (.dic false (al R) V),none,none,none,none,none]):=by
  unfold fb;rw[av (f:=bh) ((av (x:=bj s) (y:=.lst (al (aq s))) rfl rfl).trans (fO (bB s) (by omega) (jH h) hl)) ((av (x:=.lst (al (aq s))) (y:=az one) rfl rfl).trans (dj hE h1.1 h1.2)),hh];rfl
 have e3:ag bx (ab (ac 3) (ab (ac 2) ah)) [some (bj s),some (az one),some (az oth),some (.lst (al (aq s))),some (.dic false (al R) V),none,none,none,none,none,none,none,none,none,none,none,none,none,none,none]=some (.int (cellAt (aq s) oth:Nat)):=(av (x:=.lst (al (aq s))) (y:=az oth) rfl rfl).trans (dj hE h2.1 h2.2);have t:tV (am (BA true) (ac 5) (ac 4)) [some (bj s),some (az one),some (az oth),some (.lst (al (aq s))),some (.dic false (al R) V),some (.int (cellAt (aq s) oth:Nat)),none,none,none,none,none,none,none,none,none,none,none,none,none,none]=some (!decide (cellAt (aq s) oth∈R)):=by
  show ((some ((al R).any fun q=>cP q (.int (cellAt (aq s) oth:Nat)))).bind fun b=>some (D.bl (b != true))).bind truth=_;rw[pV];show some (decide (cellAt (aq s) oth∈R) != true)=_;cases decide (cellAt (aq s) oth∈R) <;> rfl
 by_cases hg:cellAt (aq s) oth∈R
 ·refine .inr ⟨hg,?_⟩;obtain⟨P,eP,hPa,hPl⟩:=ny hB.nd hP (a:=cellAt (aq s) one) (by rw[<-List.head?_eq_getElem?];exact hB.hd) (by omega) hg;have hPm:=hPa.mem;have hmid:∀c∈P,fz (mid (aq s) c):=fun c hc=>pg (h4 _ (by have:=hB.lt c (hPm c hc);omega));have hwl:(fW (aq s) one oth P).length<=1442:=by
   unfold fW;split <;> simp <;> omega
  have hwo:∀p∈fW (aq s) one oth P,fz p:=fun p hp=>by
   unfold fW at hp;rcases List.mem_append.mp hp with z | z
   ·rcases List.mem_cons.mp z with rfl | z
    ·exact h1
    ·split at z
     ·cases z
     ·obtain⟨c,hc,rfl⟩:=List.mem_map.mp z;exact hmid c hc
   ·rw[List.mem_singleton] at z;subst z;exact h2
  have hch:=zd (s:=s) hE h4 h1 h2 hB.lt (fun x hx=>(hB.hg x hx).val) hPa rfl;have hml:=uh (fW (aq s) one oth P);refine⟨vX (fW (aq s) one oth P),go _ ?_,xA _ hwo,by omega,uJ _ one oth hch⟩;unfold rJ;rw[ap (aG (δ':=[some (bj s),some (az one),some (az oth),some (.lst (al (aq s))),none,none,none,none,none,none,none,none,none,none,none,none,none,none,none,none]) e1 rfl),ap e2];rw[decide_eq_true hg] at t;show aF _ _ [some (bj s),some (az one),some (az oth),some (.lst (al (aq s))),some (.dic false (al R) V),none,none,none,none,none,none,none,none,none,none,none,none,none,none,none]=_;rw[ap (aG (δ':=[some (bj s),some (az one),some (az oth),some (.lst (al (aq s))),some (.dic false (al R) V),some (.int (cellAt (aq s) oth:Nat)),none,none,none,none,none,none,none,none,none,none,none,none,none,none]) e3 rfl)];rw[ap ((cL t).trans rfl)];have e4:am aT (am aT (bK (ab (ac 1) ah)) (ag bI (ab (ag cv (ab (ac 4) (ab (ac 5) ah))) (ab (ac 3) ah)))) (bK (ab (ac 2) ah)) [some (bj s),some (az one),some (az oth),some (.lst (al (aq s))),some (.dic false (al R) V),some (.int (cellAt (aq s) oth:Nat)),none,none,none,none,none,none,none,none,none,none,none,none,none,none]=some (.lst ((fW (aq s) one oth P).map az)):=by
   have ep:=(av (f:=bI) (a:=ag cv (ab (ac 4) (ab (ac 5) ah))) (b:=ac 3) (δ:=[some (bj s),some (az one),some (az oth),some (.lst (al (aq s))),some (.dic false (al R) V),some (.int (cellAt (aq s) oth:Nat)),none,none,none,none,none,none,none,none,none,none,none,none,none,none]) ((av (x:=.dic false (al R) V) (y:=.int (cellAt (aq s) oth:Nat)) rfl rfl).trans eP) (y:=.lst (al (aq s))) rfl).trans (wW he P (fun c hc=>hB.lt c (hPm c hc)) (by omega));have hle:((if P.length=1 then [] else P.map (mid (aq s))).map az).length<=1440:=by
    rw[List.length_map];split <;> simp <;> omega
   have eA:am aT (bK (ab (ac 1) ah)) (ag bI (ab (ag cv (ab (ac 4) (ab (ac 5) ah))) (ab (ac 3) ah))) [some (bj s),some (az one),some (az oth),some (.lst (al (aq s))),some (.dic false (al R) V),some (.int (cellAt (aq s) oth:Nat)),none,none,none,none,none,none,none,none,none,none,none,none,none,none]=some (.lst ([az one]++(if P.length=1 then [] else P.map (mid (aq s))).map az)):=by
    rw[aY (x:=.lst [az one]) rfl ep];show (if [az one].length+((if P.length=1 then [] else P.map (mid (aq s))).map az).length<=16777216 then _ else _)=_;rw[if_pos (by simp only[List.length_cons,List.length_nil];omega)]
   rw[aY eA (y:=.lst [az oth]) rfl];show (if ([az one]++(if P.length=1 then [] else P.map (mid (aq s))).map az).length+[az oth].length<=16777216 then _ else _)=_;rw[if_pos (by rw[List.length_append];simp only[List.length_cons,List.length_nil];omega)];unfold fW;rw[List.map_append];rfl
  rw[ap (aG (δ':=[some (bj s),some (az one),some (az oth),some (.lst (al (aq s))),some (.dic false (al R) V),some (.int (cellAt (aq s) oth:Nat)),some (.lst ((fW (aq s) one oth P).map az)),none,none,none,none,none,none,none,none,none,none,none,none,none]) e4 rfl)];rw[ap (show fb 10 7 (bK ah) _=some (.nx (WF (bj s) (az one) (az oth) (.lst (al (aq s))) (.dic false (al R) V) (.int (cellAt (aq s) oth:Nat)) (.lst ((fW (aq s) one oth P).map az)) (.lst []) none none)) from rfl)];obtain⟨y8,y9,ez⟩:=pZ (bj s) (az one) (az oth) (.lst (al (aq s))) (.dic false (al R) V) (.int (cellAt (aq s) oth:Nat)) (.lst ((fW (aq s) one oth P).map az)) (fW (aq s) one oth P) [] none none hwo (by simp only[List.length_nil];omega);have hi:BP (ac 6) (gY (ac 6) (fZ (eC (.int 1))) i9) (WF (bj s) (az one) (az oth) (.lst (al (aq s))) (.dic false (al R) V) (.int (cellAt (aq s) oth:Nat)) (.lst ((fW (aq s) one oth P).map az)) (.lst []) none none)=some (nr ((fW (aq s) one oth P).map az) ((fW (aq s) one oth P).tail.map az)):=by
   show some (nr ((fW (aq s) one oth P).map az) (cutD ((fW (aq s) one oth P).map az) (some 1) none))=_;rw[Ej _ (by unfold fW;simp),List.map_tail]
  rw[ap ((cx hi).trans ez)];rfl
 ·refine .inl ⟨hg,go _ ?_⟩;unfold rJ;rw[ap (aG (δ':=[some (bj s),some (az one),some (az oth),some (.lst (al (aq s))),none,none,none,none,none,none,none,none,none,none,none,none,none,none,none,none]) e1 rfl),ap e2];rw[decide_eq_false hg] at t;show aF _ _ [some (bj s),some (az one),some (az oth),some (.lst (al (aq s))),some (.dic false (al R) V),none,none,none,none,none,none,none,none,none,none,none,none,none,none,none]=_;rw[ap (aG (δ':=[some (bj s),some (az one),some (az oth),some (.lst (al (aq s))),some (.dic false (al R) V),some (.int (cellAt (aq s) oth:Nat)),none,none,none,none,none,none,none,none,none,none,none,none,none,none]) e3 rfl)];rw[b9 ((fm t).trans (aK (d:=.non) rfl))]
end DL.Pg
namespace DL.K06
open PySem DL DL.Pg DL.Lw
def zB {u l:Int}(hu:0<u)(h:0<l):0<(low u l).1/\(low u l).1<=u:=by
 have h1:=xH (u:=u) h;have h2:=gC (u:=u) h;have h3:0<(low u l).1:=by
  by_cases z:0<(low u l).1
  ·exact z
  ·have:=Int.mul_nonpos_of_nonpos_of_nonneg (show (low u l).1<=0 by omega) (Int.le_of_lt h2);omega
 have:(low u l).1*1<=(low u l).1*(Int.gcd u l:Nat):=Int.mul_le_mul_of_nonneg_left (by omega) (by omega);omega
def oR (x:Int):∃p:Pn,fz p/\cJ [.int x,.int 6]=some (az p):=by
 have q1:=bH (c:=x) (p:=9929) (m:=32) (by decide);have q2:=bH (c:=x) (p:=9923) (m:=72) (by decide);have e1:aV [.int x,.int 9929,.int 32]=some (.int (dh x 9929 32)):=lT (by decide) (by decide);have e2:aV [.int x,.int 9923,.int 72]=some (.int (dh x 9923 72)):=lT (by decide) (by decide);generalize dh x 9929 32=u at *;generalize dh x 9923 72=v at *;have hl:=zB (u:=1+u) (l:=4) (by omega) (by decide);refine⟨(low (1+u) 4,2*v),⟨⟨hl.1,jF (by decide),by have:=hl.2;show (low (1+u) 4).1<=1000;omega,sK (by decide),jG (by decide)⟩,by show 0<=2*v/\2*v<144;omega⟩,?_⟩;refine bq rfl ?_;show eU [some (.int x),some (.int 6),none]=_;unfold eU;have a1:ag aH (ab (am aT (eC (.int 1)) (ag aV (ab (ac 0) (ab (eC (.int 9929)) (ab (am aT (am aO (eC (.int 4)) (ac 1)) (eC (.int 8))) ah))))) (ab (eC (.int 4)) ah)) [some (.int x),some (.int 6),none]=some (aL (low (1+u) 4)) :=
  (av (x:=.int (1+u)) (y:=.int 4) (fU rfl ((cE (x:=.int x) (y:=.int 9929) (z:=.int 32) rfl rfl rfl).trans e1)) rfl).trans (dG (by decide) (by decide))
 rw[ap (aG (δ':=[some (.int x),some (.int 6),some (aL (low (1+u) 4))]) a1 rfl)];have e3:low v 3=aB (2*v):=ki (by decide) (by decide) (by omega);have a2:ag aH (ab (ag aV (ab (ac 0) (ab (eC (.int 9923)) (ab (eC (.int 72)) ah)))) (ab (eC (.int 3)) ah)) [some (.int x),some (.int 6),some (aL (low (1+u) 4))]=some (aL (aB (2*v))):=by
  rw[av (x:=.int v) (y:=.int 3) ((cE (x:=.int x) (y:=.int 9923) (z:=.int 72) rfl rfl rfl).trans e2) rfl,dG (by decide) (by decide),e3]
 exact aK (eL (x:=aL (low (1+u) 4)) rfl a2)
def Th (d:D):Prop:=(∃ms:List Mv,d=.tup (ms.map aM)/\(∀m∈ms,Mo m)/\ms.length<=100000)\/AG .tuple d=false
def yz (xs:List D){k:Nat}(h:k<=xs.length):cutD xs none (some (k:Int))=xs.take k:=by
 unfold cutD tR;simp only;rw[if_neg (by omega)];split
 ·simp
 ·have:k=xs.length:=by omega
  subst this;simp
def yA (xs:List D)(k:Nat):cutD xs (some (k:Int)) none=xs.drop k:=by
 unfold cutD tR;simp only;rw[if_neg (by omega)];split
 ·rw[Int.toNat_natCast];exact List.take_of_length_le (by rw[List.length_drop];omega)
 ·rw[List.drop_of_length_le (Nat.le_refl _),List.drop_of_length_le (by omega)];simp
def qg {a b:ME}{δ:Ev}{x y:List Mv}(ha:a δ=some (.tup (x.map aM)))(hb:b δ=some (.tup (y.map aM)))(h:x.length+y.length<=1000000):am aT a b δ=some (.tup ((x++y).map aM)):=by
 rw[aY ha hb,List.map_append];show (if (x.map aM).length+(y.map aM).length<=16777216 then _ else _)=_;rw[if_pos (by rw[List.length_map,List.length_map];omega)]
def D3 {a p:ME}{δ:Ev}{x:List Mv}{k:Nat}(ha:a δ=some (.tup (x.map aM)))(hp:p δ=some (.int (k:Nat)))(h:k<=x.length):gY a i9 (fZ p) δ=some (.tup ((x.take k).map aM)):=by
 unfold gY i9 fZ;rw[ha,hp];simp only[Option.bind_some];rw[yz _ (by rw[List.length_map];exact h),List.map_take]
def CL {a p:ME}{δ:Ev}{x:List Mv}{k:Nat}(ha:a δ=some (.tup (x.map aM)))(hp:p δ=some (.int (k:Nat))):gY a (fZ p) i9 δ=some (.tup ((x.drop k).map aM)):=by
 unfold gY i9 fZ;rw[ha,hp];simp only[Option.bind_some];rw[yA,List.map_drop]
def zz {a b c:ME}{δ:Ev}{x y z:D}(ha:a δ=some x)(hb:b δ=some y)(hc:c δ=some z):bK (ab a (ab b (ab c ah))) δ=some (.lst [x,y,z]):=by
 unfold bK;rw[uR ha hb hc];rfl
def zy {a b c d:ME}{δ:Ev}{x y z w:D}(ha:a δ=some x)(hb:b δ=some y)(hc:c δ=some z)(hd:d δ=some w):bK (ab a (ab b (ab c (ab d ah)))) δ=some (.lst [x,y,z,w]):=by
 have:ab a (ab b (ab c (ab d ah))) δ=some [x,y,z,w]:=by
  show (a δ).bind (fun u=>(ab b (ab c (ab d ah)) δ).bind fun us=>some (u::us))=_;rw[uR hb hc hd,ha];rfl
 unfold bK;rw[this];rfl
def xO {xs:List D}{i:Int}(h0:0<=i)(h:i<xs.length):∃d,d∈xs/\aD (.lst xs) (.int i)=some d:=by
 have hj:i.toNat<xs.length:=by omega
 refine⟨xs[i.toNat],List.getElem_mem hj,?_⟩;have:=pj (l:=xs) (c:=i.toNat) (List.getElem?_eq_getElem hj);rw[show ((i.toNat:Nat):Int)=i by omega] at this;exact this
def iZ {ms:List Mv}(h:∀m∈ms,Mo m)(hl:ms.length<=100000):Th (.tup (ms.map aM)):=.inl ⟨ms,rfl,h,hl⟩
def wU {ms:List Mv}(hm:∀m∈ms,Mo m)(hl:ms.length<=20000)(x:Int):∃d,Th d/\dS [.tup (ms.map aM),.int x]=some d:=by
 have hL:(ms.map aM).length=ms.length:=List.length_map _;obtain⟨k,hk,ek⟩:∃k:Nat,k<=ms.length/\(x / 8) % ((ms.length:Int)+1)=(k:Nat):=by
  have h1:=Int.emod_nonneg (x / 8) (show (ms.length:Int)+1≠0 by omega);have h2:=Int.emod_lt_of_pos (x / 8) (show (0:Int)<(ms.length:Int)+1 by omega);exact⟨((x / 8) % ((ms.length:Int)+1)).toNat,by omega,by omega⟩
 have go:∀r,dY [some (.tup (ms.map aM)),some (.int x),none,none,none,none,none,none,none,none]=some (.rt r)->dS [.tup (ms.map aM),.int x]=some r:=fun r hr=>bq rfl hr;have e2:am oMod (am cQ (ac 1) (eC (.int 8))) (am aT (ag d8 (ab (ac 0) ah)) (eC (.int 1))) [some (.tup (ms.map aM)),some (.int x),none,none,none,none,none,none,none,none]=some (.int (k:Nat)):=by
  have el:am aT (ag d8 (ab (ac 0) ah)) (eC (.int 1)) [some (.tup (ms.map aM)),some (.int x),none,none,none,none,none,none,none,none]=some (.int ((ms.length:Int)+1)):=by
   refine fU (i:=(ms.length:Int)) (j:=1) ?_ rfl;rw[aJ (x:=.tup (ms.map aM)) rfl];show some (D.int ((ms.map aM).length:Nat))=_;rw[hL]
  rw[aY (fF (i:=x) (j:=8) rfl rfl (by decide)) el];show (if 0<(ms.length:Int)+1 then some (D.int (x / 8 % ((ms.length:Int)+1))) else none)=_;rw[if_pos (by omega),ek]
 obtain⟨m0,h0,e3⟩:∃m0,Mo m0/\(am aD (ac 3) (am oMod (ac 1) (eC (.int 4)))) [some (.tup (ms.map aM)),some (.int x),some (.int (k:Nat)),some (.lst [aM (.out (1+x / 64 % 9) 2),aM (.on (x / 64 % 49-24) 1),aM (.on 25 1),aM (.out 0 1)]),none,none,none,none,none,none]=some (aM m0):=by
  obtain⟨d,hd,e⟩:=xO (xs:=[aM (.out (1+x / 64 % 9) 2),aM (.on (x / 64 % 49-24) 1),aM (.on 25 1),aM (.out 0 1)]) (i:=x % 4) (by omega) (by show x % 4<4;omega);have:∃m0,Mo m0/\d=aM m0:=by
   simp only[List.mem_cons,List.not_mem_nil,or_false] at hd;rcases hd with rfl | rfl | rfl | rfl
   ·exact⟨.out (1+x / 64 % 9) 2,⟨by decide,by decide,by omega,by omega⟩,rfl⟩
   ·exact⟨.on (x / 64 % 49-24) 1,⟨by omega,by omega,by omega⟩,rfl⟩
   ·exact⟨.on 25 1,⟨by omega,by omega,by omega⟩,rfl⟩
   ·exact⟨.out 0 1,⟨by decide,by decide,by omega,by omega⟩,rfl⟩
  obtain⟨m0,h0,rfl⟩:=this;refine⟨m0,h0,?_⟩;rw[aY (x:=.lst [aM (.out (1+x / 64 % 9) 2),aM (.on (x / 64 % 49-24) 1),aM (.on 25 1),aM (.out 0 1)]) (y:=.int (x % 4)) rfl rfl,e]
 have e30:(bK (ab (aP (ab (eC (.str "out")) (ab (aP (ab (am aT (eC (.int 1)) (am oMod (am cQ (ac 1) (eC (.int 64))) (eC (.int 9)))) (ab (eC (.int 2)) ah))) ah))) (ab (aP (ab (eC (.str "on")) (ab (aP (ab (am kU (am oMod (am cQ (ac 1) (eC (.int 64))) (eC (.int 49))) (eC (.int 24))) (ab (eC (.int 1)) ah))) ah))) (ab (aP (ab (eC (.str "on")) (ab (aP (ab (eC (.int 25)) (ab (eC (.int 1)) ah))) ah))) (ab (aP (ab (eC (.str "out")) (ab (aP (ab (eC (.int 0)) (ab (eC (.int 1)) ah))) ah))) ah))))) [some (.tup (ms.map aM)),some (.int x),some (.int (k:Nat)),none,none,none,none,none,none,none]=some (.lst [aM (.out (1+x / 64 % 9) 2),aM (.on (x / 64 % 49-24) 1),aM (.on 25 1),aM (.out 0 1)]):=rfl
 let ds:List D:=[.tup ((ms.take k++[m0]++ms.drop k).map aM),.tup ((ms.take k++ms.drop (k+1)).map aM),.tup ((ms.take k++[Mv.bad]).map aM),.tup (ms.reverse.map aM),.lst (ms.map aM),.tup ((ms.take k++[m0]++ms.drop (k+1)).map aM),.tup ((ms++[Mv.on 24 1]).map aM),.tup ((ms++[Mv.on 2 2]).map aM)]
 have ht:∀m∈ms.take k,Mo m:=fun m h=>hm m (List.mem_of_mem_take h);have hdr:∀j,∀m∈ms.drop j,Mo m:=fun j m h=>hm m (List.mem_of_mem_drop h);have l1:(ms.take k).length<=ms.length:=by rw[List.length_take];omega
 have l2:∀j,(ms.drop j).length<=ms.length:=fun j=>by rw[List.length_drop];omega
 have hds:∀d∈ds,Th d:=fun d hd=>by
  simp only[ds,List.mem_cons,List.not_mem_nil,or_false] at hd;have app:∀{a b:List Mv},(∀m∈a,Mo m)->(∀m∈b,Mo m)->∀m∈a++b,Mo m:=fun ha hb m h=>by
   rcases List.mem_append.mp h with z | z
   ·exact ha m z
   ·exact hb m z
  have sing:∀{a:Mv},Mo a->∀m∈[a],Mo m:=fun ha m h=>by rw[List.mem_singleton] at h;exact h ▸ ha
  have q1:=l2 k;have q2:=l2 (k+1);rcases hd with rfl | rfl | rfl | rfl | rfl | rfl | rfl | rfl
  ·exact iZ (app (app ht (sing h0)) (hdr k)) (by simp only[List.length_append,List.length_cons,List.length_nil];omega)
  ·exact iZ (app ht (hdr (k+1))) (by simp only[List.length_append];omega)
  ·exact iZ (app ht (sing trivial)) (by simp only[List.length_append,List.length_cons,List.length_nil];omega)
  ·exact iZ (fun m h=>hm m (List.mem_reverse.mp h)) (by rw[List.length_reverse];omega)
  ·exact .inr rfl
  ·exact iZ (app (app ht (sing h0)) (hdr (k+1))) (by simp only[List.length_append,List.length_cons,List.length_nil];omega)
  ·exact iZ (app hm (sing ⟨by omega,by omega,by omega⟩)) (by simp only[List.length_append,List.length_cons,List.length_nil];omega)
  ·exact iZ (app hm (sing ⟨by omega,by omega,by omega⟩)) (by simp only[List.length_append,List.length_cons,List.length_nil];omega)
 obtain⟨d,hd,e⟩:=xO (xs:=ds) (i:=x / 8192 % 8) (by omega) (by show x / 8192 % 8<8;omega);refine⟨d,hds d hd,go d ?_⟩;unfold dY;rw[ap (aG (δ':=[some (.tup (ms.map aM)),some (.int x),some (.int (k:Nat)),none,none,none,none,none,none,none]) e2 rfl)];rw[ap (aG (δ':=[some (.tup (ms.map aM)),some (.int x),some (.int (k:Nat)),some (.lst [aM (.out (1+x / 64 % 9) 2),aM (.on (x / 64 % 49-24) 1),aM (.on 25 1),aM (.out 0 1)]),none,none,none,none,none,none]) e30 rfl)];rw[ap (aG (δ':=[some (.tup (ms.map aM)),some (.int x),some (.int (k:Nat)),some (aM m0),none,none,none,none,none,none]) e3 rfl)];have tk:∀r:Ev,gY (ac 0) i9 (fZ (ac 2)) (some (.tup (ms.map aM))::some (.int x)::some (.int (k:Nat))::r)=some (.tup ((ms.take k).map aM)):=fun r=>D3 rfl rfl hk;have dk:∀r:Ev,gY (ac 0) (fZ (ac 2)) i9 (some (.tup (ms.map aM))::some (.int x)::some (.int (k:Nat))::r)=some (.tup ((ms.drop k).map aM)):=fun r=>CL rfl rfl;have dk1:∀r:Ev,gY (ac 0) (fZ (am aT (ac 2) (eC (.int 1)))) i9 (some (.tup (ms.map aM))::some (.int x)::some (.int (k:Nat))::r)=some (.tup ((ms.drop (k+1)).map aM)):=fun r=>CL rfl rfl;have t3:∀r:Ev,aP (ab (ac 3) ah) (some (.tup (ms.map aM))::some (.int x)::some (.int (k:Nat))::some (aM m0)::r)=some (.tup ([m0].map aM)):=fun r=>rfl;have q1:=l2 k;have q2:=l2 (k+1);have f1:∀r:Ev,bK (ab (am aT (am aT (gY (ac 0) i9 (fZ (ac 2))) (aP (ab (ac 3) ah))) (gY (ac 0) (fZ (ac 2)) i9)) (ab (am aT (gY (ac 0) i9 (fZ (ac 2))) (gY (ac 0) (fZ (am aT (ac 2) (eC (.int 1)))) i9)) (ab (am aT (gY (ac 0) i9 (fZ (ac 2))) (aP (ab (eC .non) ah))) (ab (gW tN (ac 0)) ah)))) (some (.tup (ms.map aM))::some (.int x)::some (.int (k:Nat))::some (aM m0)::r)=some (.lst [.tup ((ms.take k++[m0]++ms.drop k).map aM),.tup ((ms.take k++ms.drop (k+1)).map aM),.tup ((ms.take k++[Mv.bad]).map aM),.tup (ms.reverse.map aM)]):=fun r=>by
  refine zy (qg (qg (tk _) (t3 _) (by simp only[List.length_cons,List.length_nil];omega)) (dk _) (by simp only[List.length_append,List.length_cons,List.length_nil];omega)) (qg (tk _) (dk1 _) (by omega)) (qg (tk _) (y:=[Mv.bad]) rfl (by simp only[List.length_cons,List.length_nil];omega)) ?_;rw[wg (x:=.tup (ms.map aM)) rfl,List.map_reverse];rfl
 have s1:fb 5 4 (bK (ab (am aT (am aT (gY (ac 0) i9 (fZ (ac 2))) (aP (ab (ac 3) ah))) (gY (ac 0) (fZ (ac 2)) i9)) (ab (am aT (gY (ac 0) i9 (fZ (ac 2))) (gY (ac 0) (fZ (am aT (ac 2) (eC (.int 1)))) i9)) (ab (am aT (gY (ac 0) i9 (fZ (ac 2))) (aP (ab (eC .non) ah))) (ab (gW tN (ac 0)) ah))))) [some (.tup (ms.map aM)),some (.int x),some (.int (k:Nat)),some (aM m0),none,none,none,none,none,none]=some (.nx [some (.tup (ms.map aM)),some (.int x),some (.int (k:Nat)),some (aM m0),none,none,none,none,none,some (.lst (ds.take 4))]):=by
  unfold fb;rw[f1];rfl
 rw[ap s1];have s2:ka 5 4 (ag yf (ab (ac 0) ah)) [some (.tup (ms.map aM)),some (.int x),some (.int (k:Nat)),some (aM m0),none,none,none,none,none,some (.lst (ds.take 4))]=some (.nx [some (.tup (ms.map aM)),some (.int x),some (.int (k:Nat)),some (aM m0),none,none,none,none,none,some (.lst (ds.take 5))]):=rfl;rw[ap s2];show aF _ _ [some (.tup (ms.map aM)),some (.int x),some (.int (k:Nat)),some (aM m0),some (.lst (ds.take 5)),none,none,none,none,none]=_;have f2:∀r:Ev,bK (ab (am aT (am aT (gY (ac 0) i9 (fZ (ac 2))) (aP (ab (ac 3) ah))) (gY (ac 0) (fZ (am aT (ac 2) (eC (.int 1)))) i9)) (ab (am aT (ac 0) (aP (ab (aP (ab (eC (.str "on")) (ab (aP (ab (eC (.int 24)) (ab (eC (.int 1)) ah))) ah))) ah))) (ab (am aT (ac 0) (aP (ab (aP (ab (eC (.str "on")) (ab (aP (ab (eC (.int 2)) (ab (eC (.int 2)) ah))) ah))) ah))) ah))) (some (.tup (ms.map aM))::some (.int x)::some (.int (k:Nat))::some (aM m0)::r)=some (.lst [.tup ((ms.take k++[m0]++ms.drop (k+1)).map aM),.tup ((ms++[Mv.on 24 1]).map aM),.tup ((ms++[Mv.on 2 2]).map aM)]):=fun r =>
  zz (qg (qg (tk _) (t3 _) (by simp only[List.length_cons,List.length_nil];omega)) (dk1 _) (by simp only[List.length_append,List.length_cons,List.length_nil];omega)) (qg (x:=ms) rfl (y:=[Mv.on 24 1]) rfl (by simp only[List.length_cons,List.length_nil];omega)) (qg (x:=ms) rfl (y:=[Mv.on 2 2]) rfl (by simp only[List.length_cons,List.length_nil];omega))
 have f3:(am aT (ac 4) (bK (ab (am aT (am aT (gY (ac 0) i9 (fZ (ac 2))) (aP (ab (ac 3) ah))) (gY (ac 0) (fZ (am aT (ac 2) (eC (.int 1)))) i9)) (ab (am aT (ac 0) (aP (ab (aP (ab (eC (.str "on")) (ab (aP (ab (eC (.int 24)) (ab (eC (.int 1)) ah))) ah))) ah))) (ab (am aT (ac 0) (aP (ab (aP (ab (eC (.str "on")) (ab (aP (ab (eC (.int 2)) (ab (eC (.int 2)) ah))) ah))) ah))) ah))))) [some (.tup (ms.map aM)),some (.int x),some (.int (k:Nat)),some (aM m0),some (.lst (ds.take 5)),none,none,none,none,none]=some (.lst ds):=by
  rw[aY (x:=.lst (ds.take 5)) rfl (f2 _)];rfl
 rw[ap (aG (δ':=[some (.tup (ms.map aM)),some (.int x),some (.int (k:Nat)),some (aM m0),some (.lst ds),none,none,none,none,none]) f3 rfl)];have f4:am oMod (am cQ (ac 1) (eC (.int 8192))) (eC (.int 8)) [some (.tup (ms.map aM)),some (.int x),some (.int (k:Nat)),some (aM m0),some (.lst ds),none,none,none,none,none]=some (.int (x / 8192 % 8)):=(aY (fF (i:=x) (j:=8192) rfl rfl (by decide)) (y:=.int 8) rfl).trans rfl;exact aK ((aY (x:=.lst ds) rfl f4).trans e)
abbrev QF (x0 x1 x2 x3 x4 x5 x6 x7 x8 x9 x10 x18:Option D):Ev:=[x0,x1,x2,x3,x4,x5,x6,x7,x8,x9,x10,none,none,none,none,none,none,none,x18,none,none,none]
def jQ {f:MF}{a b c d:ME}{δ:Ev}{x y z w:D}(ha:a δ=some x)(hb:b δ=some y)(hc:c δ=some z)(hd:d δ=some w):ag f (ab a (ab b (ab c (ab d ah)))) δ=f [x,y,z,w]:=by
 have:ab a (ab b (ab c (ab d ah))) δ=some [x,y,z,w]:=by
  show (a δ).bind (fun u=>(ab b (ab c (ab d ah)) δ).bind fun us=>some (u::us))=_;rw[uR hb hc hd,ha];rfl
 unfold ag;rw[this];rfl
structure So (s:List Pc):Prop where
 ok:∀p∈s,p.ok
 few:s.length<=1000
 ed:(aq s).length<=60
 h4:∀b,b<(aq s).length->(aq s).getD b 0<=400
 bd:Bd (aq s) (eE 0 s) 7
def wB (c:Int):So (yS c 6 5):=by
 obtain⟨h1,h2⟩:=CM c 6 5 (by decide) (by decide);have ok:∀p∈yS c 6 5,p.ok:=fun p hp=>(h2 p hp).1;have ho:∀p∈yS c 6 5,p.o<=6:=fun p hp=>by have:=(h2 p hp).2;omega
 have he:=vG ok ho;have bd:=Cf ok (N:=7) (by decide) fun p hp=>by have:=ho p hp;omega
 exact⟨ok,by omega,by omega,fun b hb=>by have:=bd.lt b hb;omega,bd⟩
def yi (o:Option Pn)(q:Pn):oEq (Dn o) (az q)=some (.bl (decide (o=some q))):=by
 cases o with
 | none =>
   show (if bF .non<=30/\bF (az q)<=30 then some (D.bl (cP .non (az q))) else none)=_;rw[if_pos ⟨by show (0:Nat)<=30;decide,by show (2:Nat)<=30;decide⟩];rfl
 | some p =>
   show oEq (az p) (az q)=_;rw[Aw];simp
def Ec {s:List Pc}(hs:So s){one oth:Pn}(h1:fz one)(h2:fz oth){d:D}(hd:Th d)(x0 x1 x3 x6 x7 x8 x10:Option D):∃y10,
 lx (QF x0 x1 (some (bj s)) x3 (some (az one)) (some (az oth)) x6 x7 x8 (some d) x10 none)=some (.nx (QF x0 x1 (some (bj s)) x3 (some (az one)) (some (az oth)) x6 x7 x8 (some d) y10 none)):=by
 obtain⟨b,e1,e2⟩:∃b,d5 [bj s,az one,az oth,d]=some (.bl b)/\∃e,cb [bj s,az one,d,.int 30]=some e/\oEq e (az oth)=some (.bl b):=by
  rcases hd with ⟨ms,rfl,hm,hl⟩ | h
  ·refine⟨_,qF hs.ok hs.few hs.ed h1 h2 hm hl,_,nR hs.ok hs.few (M:=30) (by decide) h1 hm,?_⟩;rw[lP hs.bd (by decide) ms one h1 hm];exact yi _ _
  ·exact⟨false,qD _ _ _ h,.non,oU _ _ _ h,yi none oth⟩
 obtain⟨e,e2,e3⟩:=e2;refine⟨some (.bl b),?_⟩;unfold lx;rw[ap (aG (δ':=QF x0 x1 (some (bj s)) x3 (some (az one)) (some (az oth)) x6 x7 x8 (some d) (some (.bl b)) none) ((jQ (x:=bj s) (y:=az one) (z:=az oth) (w:=d) rfl rfl rfl rfl).trans e1) rfl)];have t1:cq (tV (ag (lq .bool) (ab (ac 10) ah))) (QF x0 x1 (some (bj s)) x3 (some (az one)) (some (az oth)) x6 x7 x8 (some d) (some (.bl b)) none)=some false:=rfl;have t2:tV (am iP (ac 10) (am oEq (ag cb (ab (ac 2) (ab (ac 4) (ab (ac 9) (ab (eC (.int 30)) ah))))) (ac 5))) (QF x0 x1 (some (bj s)) x3 (some (az one)) (some (az oth)) x6 x7 x8 (some d) (some (.bl b)) none)=some false:=by
  refine cp (d:=.bl false) ((aY (x:=.bl b) rfl ((aY ((jQ (x:=bj s) (y:=az one) (z:=d) (w:=.int 30) rfl rfl rfl rfl).trans e2) (y:=az oth) rfl).trans e3)).trans ?_) rfl;cases b <;> rfl
 rw[cL (e8 t1 t2)];rfl
def AU:Th .non:=.inr rfl
def AV:Th (.tup []):=.inl ⟨[],rfl,(fun m hm=>by cases hm),by simp⟩
def CA:Th (.tup [aM (.on 24 1)]):=.inl ⟨[.on 24 1],rfl,(fun m hm=>by rw[List.mem_singleton] at hm;subst hm;exact⟨by omega,by omega,by omega⟩),by simp⟩
def tO (x0 x1 x2 x3 x4 x9 x10:Option D){w oth:D}{ms0:List Mv}(hm:∀m∈ms0,Mo m)(hl:ms0.length<=20000)(hw:∀x8 x18,yj (ac 6) (aP (ab (aP (ab (eC (.str "out")) (ab (am aD (ac 5) (eC (.int 0))) ah))) ah)) (QF x0 x1 x2 x3 x4 (some oth) (some w) none x8 x9 x10 x18)=some (.tup (ms0.map aM))):∀(ks:List Int) (ds:List D) (x8:Option D),(∀d∈ds,Th d)->ds.length+ks.length<=1000->∃y8 es,(∀d∈es,Th d) /\
 dD (gN 8) lz (ks.map D.int) (QF x0 x1 x2 x3 x4 (some oth) (some w) none x8 x9 x10 (some (.lst ds)))=some (.nx (QF x0 x1 x2 x3 x4 (some oth) (some w) none y8 x9 x10 (some (.lst es))))
 | [],ds,x8,h,_=>⟨x8,ds,h,rfl⟩
 | k::ks,ds,x8,h,hlen=>by
   rw[List.length_cons] at hlen;obtain⟨d,hd,e⟩:=wU hm hl k;have e1:lz (QF x0 x1 x2 x3 x4 (some oth) (some w) none (some (.int k)) x9 x10 (some (.lst ds)))=some (.nx (QF x0 x1 x2 x3 x4 (some oth) (some w) none (some (.int k)) x9 x10 (some (.lst (ds++[d]))))):=by
    unfold lz ka;rw[av (hw _ _) (y:=.int k) rfl,e];show (if ds.length<16777216 then _ else _)=_;rw[if_pos (by omega)];rfl
   obtain⟨y8,es,h',ih⟩:=tO x0 x1 x2 x3 x4 x9 x10 hm hl hw ks (ds++[d]) (some (.int k)) (fun y hy=>by
    rcases List.mem_append.mp hy with z | z
    ·exact h y z
    ·rw[List.mem_singleton] at z;exact z ▸ hd) (by simp only[List.length_append,List.length_cons,List.length_nil];omega)
   exact⟨y8,es,h',by rw[List.map_cons,d7 (δ1:=QF x0 x1 x2 x3 x4 (some oth) (some w) none (some (.int k)) x9 x10 (some (.lst ds))) rfl e1,ih]⟩
def mT (ns:List Int)(l h:Option Int):List Int:=(ns.drop (tR ns.length 0 l)).take (tR ns.length ns.length h-tR ns.length 0 l)
def rD (ns:List Int)(l h:Option Int):cutD (ns.map D.int) l h=(mT ns l h).map D.int:=by
 unfold cutD mT;rw[List.length_map,List.map_take,List.map_drop]
def uH (ns:List Int)(l:Option Int){k:Nat}:(mT ns l (some (k:Int))).length<=k:=by
 unfold mT;have:tR ns.length ns.length (some (k:Int))<=k:=by
  unfold tR;simp only;rw[if_neg (by omega)];split <;> omega
 rw[List.length_take];omega
def Ed {s:List Pc}(hs:So s){one oth:Pn}(h1:fz one)(h2:fz oth)(ns:List Int)(x1 x3 x6 x7 x8 x9 x10:Option D):∃y6 y7 y8 y9 y10,
 lA (QF (some (.lst (ns.map .int))) x1 (some (bj s)) x3 (some (az one)) (some (az oth)) x6 x7 x8 x9 x10 none)=some (.nx (QF (some (.lst (ns.map .int))) x1 (some (bj s)) x3 (some (az one)) (some (az oth)) y6 y7 y8 y9 y10 none)):=by
 obtain⟨R,V,hh,hB,hP⟩:=zM hs.ok hs.few hs.ed h1;have sf:=qB hs.ok hs.few hs.ed h1 h2 hh;obtain⟨w,ms0,hm0,hl0,ho,e123⟩:∃(w:D) (ms0:List Mv),(∀m∈ms0,Mo m)/\ms0.length<=20000 /\
  (∀x8 x18,yj (ac 6) (aP (ab (aP (ab (eC (.str "out")) (ab (am aD (ac 5) (eC (.int 0))) ah))) ah)) (QF (some (.lst (ns.map .int))) x1 (some (bj s)) x3 (some (az one)) (some (az oth)) (some w) none x8 x9 x10 x18)=some (.tup (ms0.map aM))) /\
  ∀r:MS,aF (bm (ag oa (ab (ac 2) (ab (ac 4) (ab (ac 5) ah)))) (gN 6)) (aF (gp (tV (am oEq (gW wl (ac 6)) (ag dq (ab (ac 2) (ab (ac 4) (ab (ac 5) ah)))))) (bb (eC (.bl false))) cH) (aF (gp (tV (gW dP (ac 6))) (gp (la (tV (am iP (ag cb (ab (ac 2) (ab (ac 4) (ab (ac 6) (ab (eC (.int 9)) ah))))) (ac 5))) (tV (gW (j3 true) (ag d5 (ab (ac 2) (ab (ac 4) (ab (ac 5) (ab (ac 6) ah)))))))) (bb (eC (.bl false))) cH) cH) r)) (QF (some (.lst (ns.map .int))) x1 (some (bj s)) x3 (some (az one)) (some (az oth)) x6 x7 x8 x9 x10 none)=r (QF (some (.lst (ns.map .int))) x1 (some (bj s)) x3 (some (az one)) (some (az oth)) (some w) x7 x8 x9 x10 none):=by
  rcases CS hs.ok hs.few hs.ed hs.h4 h1 h2 hh hB hP with ⟨hg,ew⟩ | ⟨hg,ms,ew,hm,hl,hr⟩
  ·refine⟨.non,[.out oth.1.1 oth.1.2],fun m hm=>by rw[List.mem_singleton] at hm;subst hm;exact sD h2.1,by simp,fun x8 x18=>rfl,fun r=>?_⟩;rw[ap (aG (δ':=QF (some (.lst (ns.map .int))) x1 (some (bj s)) x3 (some (az one)) (some (az oth)) (some .non) x7 x8 x9 x10 none) ((cE (x:=bj s) (y:=az one) (z:=az oth) rfl rfl rfl).trans ew) rfl)];rw[decide_eq_false hg] at sf;have t1:tV (am oEq (gW wl (ac 6)) (ag dq (ab (ac 2) (ab (ac 4) (ab (ac 5) ah))))) (QF (some (.lst (ns.map .int))) x1 (some (bj s)) x3 (some (az one)) (some (az oth)) (some .non) x7 x8 x9 x10 none)=some false :=
    cp (d:=.bl false) ((aY (x:=.bl true) rfl ((cE (x:=bj s) (y:=az one) (z:=az oth) rfl rfl rfl).trans sf)).trans rfl) rfl
   rw[ap ((cL t1).trans rfl)];have t2:tV (gW dP (ac 6)) (QF (some (.lst (ns.map .int))) x1 (some (bj s)) x3 (some (az one)) (some (az oth)) (some .non) x7 x8 x9 x10 none)=some false:=rfl;rw[ap ((cL t2).trans rfl)]
  ·have horv:∃ms0:List Mv,(∀m∈ms0,Mo m)/\ms0.length<=20000/\(∀x8 x18,yj (ac 6) (aP (ab (aP (ab (eC (.str "out")) (ab (am aD (ac 5) (eC (.int 0))) ah))) ah)) (QF (some (.lst (ns.map .int))) x1 (some (bj s)) x3 (some (az one)) (some (az oth)) (some (.tup (ms.map aM))) none x8 x9 x10 x18)=some (.tup (ms0.map aM))):=by
    cases ms with
    | nil=>exact⟨[.out oth.1.1 oth.1.2],fun m hm=>by rw[List.mem_singleton] at hm;subst hm;exact sD h2.1,by simp,fun x8 x18=>rfl⟩
    | cons m ms=>exact⟨m::ms,hm,by omega,fun x8 x18=>rfl⟩
   obtain⟨ms0,hm0,hl0,ho⟩:=horv;refine⟨.tup (ms.map aM),ms0,hm0,hl0,ho,fun r=>?_⟩;rw[ap (aG (δ':=QF (some (.lst (ns.map .int))) x1 (some (bj s)) x3 (some (az one)) (some (az oth)) (some (.tup (ms.map aM))) x7 x8 x9 x10 none) ((cE (x:=bj s) (y:=az one) (z:=az oth) rfl rfl rfl).trans ew) rfl)];rw[decide_eq_true hg] at sf;have t1:tV (am oEq (gW wl (ac 6)) (ag dq (ab (ac 2) (ab (ac 4) (ab (ac 5) ah))))) (QF (some (.lst (ns.map .int))) x1 (some (bj s)) x3 (some (az one)) (some (az oth)) (some (.tup (ms.map aM))) x7 x8 x9 x10 none)=some false :=
    cp (d:=.bl false) ((aY (x:=.bl false) rfl ((cE (x:=bj s) (y:=az one) (z:=az oth) rfl rfl rfl).trans sf)).trans rfl) rfl
   rw[ap ((cL t1).trans rfl)];have t2:tV (gW dP (ac 6)) (QF (some (.lst (ns.map .int))) x1 (some (bj s)) x3 (some (az one)) (some (az oth)) (some (.tup (ms.map aM))) x7 x8 x9 x10 none)=some true:=rfl;have el:=nR hs.ok hs.few (M:=9) (by decide) h1 hm;rw[lP hs.bd (by decide) ms one h1 hm,hr] at el;have ei:=qF hs.ok hs.few hs.ed h1 h2 hm (by omega);rw[hr,decide_eq_true rfl] at ei;have t3:tV (am iP (ag cb (ab (ac 2) (ab (ac 4) (ab (ac 6) (ab (eC (.int 9)) ah))))) (ac 5)) (QF (some (.lst (ns.map .int))) x1 (some (bj s)) x3 (some (az one)) (some (az oth)) (some (.tup (ms.map aM))) x7 x8 x9 x10 none)=some false:=by
    refine cp (d:=.bl false) ((aY ((jQ (x:=bj s) (y:=az one) (z:=.tup (ms.map aM)) (w:=.int 9) rfl rfl rfl rfl).trans el) (y:=az oth) rfl).trans ?_) rfl;show iP (az oth) (az oth)=_;unfold iP;rw[if_pos ⟨by show (2:Nat)<=30;decide,by show (2:Nat)<=30;decide⟩,AH,decide_eq_true rfl];rfl
   have t4:tV (gW (j3 true) (ag d5 (ab (ac 2) (ab (ac 4) (ab (ac 5) (ab (ac 6) ah)))))) (QF (some (.lst (ns.map .int))) x1 (some (bj s)) x3 (some (az one)) (some (az oth)) (some (.tup (ms.map aM))) x7 x8 x9 x10 none)=some false :=
    cp (d:=.bl false) ((wg ((jQ (x:=bj s) (y:=az one) (z:=az oth) (w:=.tup (ms.map aM)) rfl rfl rfl rfl).trans ei)).trans rfl) rfl
   rw[ap ((fm t2).trans ((cL (e8 t3 t4)).trans rfl))]
 unfold lA;rw[e123];rw[ap (show fb 11 7 (bK (ab (eC .non) (ab (aP ah) (ab (aP (ab (aP (ab (eC (.str "on")) (ab (aP (ab (eC (.int 24)) (ab (eC (.int 1)) ah))) ah))) ah)) ah)))) (QF (some (.lst (ns.map .int))) x1 (some (bj s)) x3 (some (az one)) (some (az oth)) (some w) x7 x8 x9 x10 none)=some (.nx (QF (some (.lst (ns.map .int))) x1 (some (bj s)) x3 (some (az one)) (some (az oth)) (some w) none x8 x9 x10 (some (.lst [.non,.tup [],.tup [aM (.on 24 1)]])))) from rfl)];obtain⟨y8,es,hes,el⟩:=tO (some (.lst (ns.map .int))) x1 (some (bj s)) x3 (some (az one)) x9 x10 hm0 hl0 ho (mT ns (some 6) (some 10)) [.non,.tup [],.tup [aM (.on 24 1)]] x8 (fun d hd=>by
  simp only[List.mem_cons,List.not_mem_nil,or_false] at hd;rcases hd with rfl | rfl | rfl
  ·exact AU
  ·exact AV
  ·exact CA) (by have:=uH ns (some 6) (k:=10);simp only[List.length_cons,List.length_nil];show 0+1+1+1+(mT ns (some 6) (some ((10:Nat):Int))).length<=1000;omega)
 have hi:bz (gY (ac 0) (fZ (eC (.int 6))) (fZ (eC (.int 10)))) (QF (some (.lst (ns.map .int))) x1 (some (bj s)) x3 (some (az one)) (some (az oth)) (some w) none x8 x9 x10 (some (.lst [.non,.tup [],.tup [aM (.on 24 1)]])))=some ((mT ns (some 6) (some 10)).map D.int):=by
  rw[<-rD];rfl
 rw[ap ((cx hi).trans el)];obtain⟨δ',e1,z9,z10,rfl⟩:=mK (g:=gN 9) (body:=lx) (fun δ=>∃z9 z10,δ=QF (some (.lst (ns.map .int))) x1 (some (bj s)) x3 (some (az one)) (some (az oth)) (some w) (some (.lst es)) y8 z9 z10 none) es (QF (some (.lst (ns.map .int))) x1 (some (bj s)) x3 (some (az one)) (some (az oth)) (some w) (some (.lst es)) y8 x9 x10 none) ⟨_,_,rfl⟩ fun d hd δ hP=>by
  obtain⟨z9,z10,rfl⟩:=hP;obtain⟨y10,e⟩:=Ec hs h1 h2 (hes d hd) (some (.lst (ns.map .int))) x1 x3 (some w) (some (.lst es)) y8 z10;exact⟨QF (some (.lst (ns.map .int))) x1 (some (bj s)) x3 (some (az one)) (some (az oth)) (some w) (some (.lst es)) y8 (some d) z10 none,_,rfl,.inl e,_,_,rfl⟩
 exact⟨_,_,_,_,_,(cx (xs:=es) rfl).trans e1⟩
noncomputable def Ax (x:Int):Pn:=Classical.choose (oR x)
def Be (x:Int):fz (Ax x):=(Classical.choose_spec (oR x)).1
def Bg (x:Int):cJ [.int x,.int 6]=some (az (Ax x)):=(Classical.choose_spec (oR x)).2
def ET:D->D
 | .int x=>az (Ax x)
 | d=>d
def Ee (ns:List Int)(c:Int)(x2 x3 x4 x5 x6 x7 x8 x9 x10:Option D):∃y2 y3 y4 y5 y6 y7 y8 y9 y10,
 lB (QF (some (.lst (ns.map .int))) (some (.int c)) x2 x3 x4 x5 x6 x7 x8 x9 x10 none)=some (.nx (QF (some (.lst (ns.map .int))) (some (.int c)) y2 y3 y4 y5 y6 y7 y8 y9 y10 none)):=by
 have hs:=wB c;have es:=y0 c 6 5 (by decide) (by decide);generalize yS c 6 5=s at *;unfold lB;rw[ap (aG (δ':=QF (some (.lst (ns.map .int))) (some (.int c)) (some (bj s)) x3 x4 x5 x6 x7 x8 x9 x10 none) ((cE (x:=.int c) (y:=.int 6) (z:=.int 5) rfl rfl rfl).trans es) rfl)];have hi:bz (gY (ac 0) (fZ (eC (.int 2))) (fZ (eC (.int 6)))) (QF (some (.lst (ns.map .int))) (some (.int c)) (some (bj s)) x3 x4 x5 x6 x7 x8 x9 x10 none)=some ((mT ns (some 2) (some 6)).map D.int):=by
  rw[<-rD];rfl
 have hcl:=uH ns (some 2) (k:=6);have hc:=bO (k:=1) (fv:=[]) (g:=gN 0) (c:=tT) (e:=ag cJ (ab (ac 0) (ab (eC (.int 6)) ah))) (fun x=>some (ET x)) hi (by rw[List.length_map];show (mT ns (some 2) (some ((6:Nat):Int))).length<=16777216;omega) fun x hx=>by
  obtain⟨k,_,rfl⟩:=List.mem_map.mp hx;exact⟨[some (.int k)],rfl,.inl ⟨rfl,az (Ax k),(av (x:=.int k) (y:=.int 6) rfl rfl).trans (Bg k),rfl⟩⟩
 rw[List.filterMap_eq_map',List.map_map] at hc;have hc':(bw 1 [] (bz (gY (ac 0) (fZ (eC (.int 2))) (fZ (eC (.int 6))))) (gN 0) tT (ag cJ (ab (ac 0) (ab (eC (.int 6)) ah)))) (QF (some (.lst (ns.map .int))) (some (.int c)) (some (bj s)) x3 x4 x5 x6 x7 x8 x9 x10 none)=some (.lst ((mT ns (some 2) (some 6)).map fun x=>az (Ax x))):=hc;generalize mT ns (some 2) (some 6)=ks at *;rw[ap (aG (δ':=QF (some (.lst (ns.map .int))) (some (.int c)) (some (bj s)) (some (.lst (ks.map fun x=>az (Ax x)))) x4 x5 x6 x7 x8 x9 x10 none) hc' rfl)];have mem:∀d∈ks.map (fun x=>az (Ax x)),∃p:Pn,fz p/\d=az p:=fun d hd=>by
  obtain⟨x,_,rfl⟩:=List.mem_map.mp hd;exact⟨_,Be x,rfl⟩
 generalize ks.map (fun x=>az (Ax x))=ps at *;obtain⟨δ',e1,z4,z5,z6,z7,z8,z9,z10,rfl⟩:=mK (g:=gN 4) (body:=uP) (fun δ=>∃z4 z5 z6 z7 z8 z9 z10,δ=QF (some (.lst (ns.map .int))) (some (.int c)) (some (bj s)) (some (.lst ps)) z4 z5 z6 z7 z8 z9 z10 none) (ps.take 2) (QF (some (.lst (ns.map .int))) (some (.int c)) (some (bj s)) (some (.lst ps)) x4 x5 x6 x7 x8 x9 x10 none) ⟨_,_,_,_,_,_,_,rfl⟩ fun d hd δ hP=>by
  obtain⟨z4,z5,z6,z7,z8,z9,z10,rfl⟩:=hP;obtain⟨one,h1,rfl⟩:=mem d (List.mem_of_mem_take hd);obtain⟨δ',e1,w5,w6,w7,w8,w9,w10,rfl⟩:=mK (g:=gN 5) (body:=lA) (fun δ=>∃z5 z6 z7 z8 z9 z10,δ=QF (some (.lst (ns.map .int))) (some (.int c)) (some (bj s)) (some (.lst ps)) (some (az one)) z5 z6 z7 z8 z9 z10 none) ps (QF (some (.lst (ns.map .int))) (some (.int c)) (some (bj s)) (some (.lst ps)) (some (az one)) z5 z6 z7 z8 z9 z10 none) ⟨_,_,_,_,_,_,rfl⟩ fun d hd δ hP=>by
   obtain⟨v5,v6,v7,v8,v9,v10,rfl⟩:=hP;obtain⟨oth,h2,rfl⟩:=mem d hd;obtain⟨u6,u7,u8,u9,u10,e⟩:=Ed hs h1 h2 ns (some (.int c)) (some (.lst ps)) v6 v7 v8 v9 v10;exact⟨QF (some (.lst (ns.map .int))) (some (.int c)) (some (bj s)) (some (.lst ps)) (some (az one)) (some (az oth)) v6 v7 v8 v9 v10 none,_,rfl,.inl e,_,_,_,_,_,_,rfl⟩
  exact⟨QF (some (.lst (ns.map .int))) (some (.int c)) (some (bj s)) (some (.lst ps)) (some (az one)) z5 z6 z7 z8 z9 z10 none,_,rfl,.inl ((cx (xs:=ps) rfl).trans e1),_,_,_,_,_,_,_,rfl⟩
 exact⟨_,_,_,_,_,_,_,_,_,(cx (xs:=ps.take 2) rfl).trans e1⟩
def CT (ns:List Int):q8 [.lst (ns.map .int)]=some (.bl true):=by
 refine bq rfl ?_;show uQ (QF (some (.lst (ns.map .int))) none none none none none none none none none none none)=_;unfold uQ;obtain⟨δ',e1,x1,x2,x3,x4,x5,x6,x7,x8,x9,x10,rfl⟩:=mK (g:=gN 1) (body:=lB) (fun δ=>∃x1 x2 x3 x4 x5 x6 x7 x8 x9 x10,δ=QF (some (.lst (ns.map .int))) x1 x2 x3 x4 x5 x6 x7 x8 x9 x10 none) ((ns.map D.int).take 2) (QF (some (.lst (ns.map .int))) none none none none none none none none none none none) ⟨_,_,_,_,_,_,_,_,_,_,rfl⟩ fun x hx δ hP=>by
  obtain⟨z1,z2,z3,z4,z5,z6,z7,z8,z9,z10,rfl⟩:=hP;obtain⟨k,_,rfl⟩:=List.mem_map.mp (List.mem_of_mem_take hx);obtain⟨w2,w3,w4,w5,w6,w7,w8,w9,w10,h1⟩:=Ee ns k z2 z3 z4 z5 z6 z7 z8 z9 z10;exact⟨QF (some (.lst (ns.map .int))) (some (.int k)) z2 z3 z4 z5 z6 z7 z8 z9 z10 none,_,rfl,.inl h1,_,_,_,_,_,_,_,_,_,_,rfl⟩
 refine(ap ((cx (xs:=(ns.map D.int).take 2) rfl).trans e1)).trans ?_;rfl
end DL.K06
namespace DL.Pg
end DL.Pg
namespace DL.Lw
end DL.Lw
namespace DL.K06
open PySem PySem.Spec PyProof.Rows L2 DL DL.Pg DL.Lw
noncomputable def top (i:Nat):Stmt:=PySem.Challenge.pw_ringlayers_k06_whole_ways.main.body.getD i (.Pass ⟨0,0,0,0⟩)
abbrev lM:Stmt:=top 45
abbrev jw:Stmt:=top 46
abbrev gm:Stmt:=top 47
abbrev gQ:Stmt:=top 48
abbrev jv:Stmt:=top 49
abbrev nM:Stmt:=top 14
abbrev lK:Stmt:=top 16
abbrev iN:Stmt:=top 31
abbrev gk:Stmt:=top 32
abbrev hW:Stmt:=top 33
abbrev jt:Stmt:=top 9
abbrev j8:Stmt:=top 30
abbrev i4:Stmt:=top 15
abbrev i6:Stmt:=top 29
abbrev dQ:Stmt:=top 28
abbrev gO:Stmt:=top 17
abbrev dF:Stmt:=top 37
abbrev fY:Stmt:=top 3
abbrev qt:Stmt:=top 6
abbrev tU:Stmt:=top 7
abbrev kF:Stmt:=top 24
abbrev lI:Stmt:=top 8
abbrev lH:Stmt:=top 26
abbrev gP:Stmt:=top 25
abbrev iM:Stmt:=top 36
abbrev An:Stmt:=top 35
abbrev kC:Stmt:=top 42
abbrev nO:Stmt:=top 40
abbrev qv:Stmt:=top 23
abbrev qu:Stmt:=top 12
abbrev eI:Stmt:=top 22
abbrev iL:Stmt:=top 2
abbrev kE:Stmt:=top 4
abbrev lJ:Stmt:=top 1
abbrev fM:Stmt:=top 5
abbrev nN:Stmt:=top 21
abbrev i5:Stmt:=top 39
abbrev ju:Stmt:=top 38
abbrev iO:Stmt:=top 57
abbrev lN:Stmt:=top 50
abbrev fN:Stmt:=top 51
abbrev db:Stmt:=top 52
abbrev lL:Stmt:=top 53
abbrev i7:Stmt:=top 54
abbrev j9:Stmt:=top 55
abbrev e9:Stmt:=top 56
abbrev wJ:Stmt:=top 58
structure fx (K:PySem.W.Frag)(mg:Str->Option Value) where
 x0:d9 K mg "_law_mix" lM ["_law_cell_here","_law_prime","_law_many"]
 x1:d9 K mg "_law_piece" jw ["_law_cell_here","_law_most"]
 x2:d9 K mg "_law_sheet" gm ["_law_cell_here","_law_most","_law_many"]
 x3:d9 K mg "_law_fraction" gQ ["_law_upper","_law_lower"]
 x4:d9 K mg "_law_point" jv ["_law_cell_here","_law_most"]
 x5:d9 K mg "span_of" nM ["piece"]
 x6:d9 K mg "edges_of" lK ["sheet"]
 x7:d9 K mg "cell_beside" iN ["cell","by"]
 x8:d9 K mg "neighbours" gk ["cell","count"]
 x9:d9 K mg "hanging_with" hW ["values","start"]
 x10:d9 K mg "whole_part" jt ["fraction"]
 x11:d9 K mg "cell_at" j8 ["edges","point"]
 x12:d9 K mg "turns_of" i4 ["piece"]
 x13:d9 K mg "cells_of" i6 ["piece","edges"]
 x14:d9 K mg "cell_layers" dQ ["sheet","edges"]
 x15:d9 K mg "point_in_cell" gO ["inner","turn"]
 x16:d9 K mg "points_through" dF ["cells","edges"]
 x17:d9 K mg "common_divisor" fY ["one","other"]
 x18:d9 K mg "lowest" qt ["upper","lower"]
 x19:d9 K mg "added" tU ["one","other"]
 x20:d9 K mg "from_0_on" kF ["turn"]
 x21:d9 K mg "opposite" lI ["fraction"]
 x22:d9 K mg "shortest" lH ["by"]
 x23:d9 K mg "moves_between" gP ["point","goal"]
 x24:d9 K mg "cells_up_to" iM ["before","goal"]
 x25:d9 K mg "way" An ["sheet","one","other"]
 x26:d9 K mg "same_face" kC ["sheet","one","other"]
 x27:d9 K mg "ends_at" nO ["point","other"]
 x28:d9 K mg "end_of" qv ["point","move"]
 x29:d9 K mg "is_far" qu ["fraction"]
 x30:d9 K mg "is_at_most_a_turn" eI ["by"]
 x31:d9 K mg "is_tuple_of" iL ["length","thing"]
 x32:d9 K mg "is_lowest" kE ["upper","lower"]
 x33:d9 K mg "is_whole" lJ ["thing"]
 x34:d9 K mg "is_fraction" fM ["thing"]
 x35:d9 K mg "is_move" nN ["thing"]
 x36:d9 K mg "cells_on" i5 ["edges","point","move"]
 x37:d9 K mg "is_way" ju ["sheet","one","other","thing"]
 x38:d9 K mg "_law_spoilt" iO ["_law_moves","_law_cell_here"]
 x39:d9 K mg "_law_has" lN ["_law_piece_here","_law_far","_law_turn"]
 x40:d9 K mg "_law_layers" fN ["_law_sheet_here","_law_point_here"]
 x41:d9 K mg "_law_is_fraction" db ["_law_thing"]
 x42:d9 K mg "_law_sum" lL ["_law_one","_law_other"]
 x43:d9 K mg "_law_out" i7 ["_law_far","_law_goal","_law_most"]
 x44:d9 K mg "_law_on" j9 ["_law_turn","_law_by"]
 x45:d9 K mg "_law_end" e9 ["_law_sheet_here","_law_point_here","_law_moves","_law_most"]
 x46:d9 K mg "law" wJ ["_law_script"]
 k_WHOLE_TURN:Tok
 c2:mg "WHOLE_TURN"=some (.int 24 k_WHOLE_TURN)
 k_OUT:Tok
 c1:mg "OUT"=some (.str "out" k_OUT)
 k_ON:Tok
 c0:mg "ON"=some (.str "on" k_ON)
 z_abs:mg "abs"=none
 z_all:mg "all"=none
 z_bool:mg "bool"=none
 z_enumerate:mg "enumerate"=none
 z_int:mg "int"=none
 z_isinstance:mg "isinstance"=none
 z_len:mg "len"=none
 z_list:mg "list"=none
 z_max:mg "max"=none
 z_min:mg "min"=none
 z_range:mg "range"=none
 z_reversed:mg "reversed"=none
 z_set:mg "set"=none
 z_sorted:mg "sorted"=none
 z_tuple:mg "tuple"=none
 z_zip:mg "zip"=none
section
variable {P:Program}{w:World}{K:PySem.W.Frag}{mg:Str->Option Value}{base:Heap}
def cz (T:fx K mg):fy P w base T.x0 1 aV :=
 aQ ["_law_cell_here","_law_prime","_law_many"] 0 3 jh rfl fun _ _ _ _ _ _ nd hr hu =>
  (ao (aC (ay ca (ay ca (ay aZ (dv 0) af) (dv 1)) (dv 2))))
def nE (T:fx K mg):fy P w base T.x1 2 cK :=
 aQ ["_law_cell_here","_law_most","_law_inner","_law_outer","_law_wide"] 1 5 eV rfl fun _ _ _ _ _ _ nd hr hu =>
  (ak (aE (au (cz T) hr (ae (dv 0) (ae af (ae (dv 1) ai)))) (bM 2 nd))
  (ak (aE (ay be (ay be (dv 2) af) (au (cz T) hr (ae (dv 0) (ae af (ae (ay ke (dv 1) (dv 2)) ai))))) (bM 3 nd))
  (ak (aE (ay be af (au (cz T) hr (ae (dv 0) (ae af (ae af ai))))) (bM 4 nd))
  (ak (b0 (bL (eJ hu) (ay ca (dv 0) af) af (bg _) jR) (ao (aE af (bM 4 nd))) br)
  (ao (aC (aR (ae (dv 2) (ae (dv 3) (ae (au (cz T) hr (ae (dv 0) (ae af (ae af ai)))) (ae (dv 4) ai)))) (by decide))))))))
abbrev jD:List Str:=["_law_cell_here","_law_most","_law_many"]
def nA (T:fx K mg):fy P w base T.x2 3 gB :=
 aQ jD 2 3 jV rfl fun _ _ _ _ _ _ nd hr hu =>
  (ao (aC (gf jP rfl T.z_tuple rfl (ae (cg (scX:=aA gm) (NX:=jD) (N:=["_law_k","_law_most","_law_cell_here"]) (k:=1) (fv:=[1,0]) rfl ox rfl rfl (mR rfl T.z_range (au (cz T) hr (ae (dv 0) (ae af (ae (ay be (dv 2) af) ai))))) (aS (by decide)) (fun _ _ _ _=>⟨(bM 0 (nod ["_law_k","_law_most","_law_cell_here"])),rfl,(au (nE T) hr (ae (ay be (dv 2) (ay aZ af (dv 0))) (ae (dv 1) ai)))⟩)) ai))))
def bG (T:fx K mg):fy P w base T.x3 1 aH :=
 aQ ["_law_upper","_law_lower","_law_one","_law_other"] 0 4 cZ rfl fun _ _ _ _ _ _ nd hr hu =>
  (ak (aE (aW pN rfl T.z_abs rfl (ae (dv 0) ai)) (bM 2 nd))
  (ak (aE (dv 1) (bM 3 nd))
  (ak (jN PassesOwn.never (bL ue (dv 3) af (bg _) AL)
  (ao (BZ (i:=2) (j:=3) rfl nd rfl rfl (by decide) rfl rfl (dv 3) (ay ca (dv 2) (dv 3)) rfl)))
  (ao (aC (aR (ae (ay du (dv 0) (dv 2)) (ae (ay du (dv 1) (dv 2)) ai)) (by decide)))))))
def nB (T:fx K mg):fy P w base T.x4 2 cJ :=
 aQ ["_law_cell_here","_law_most","_law_far"] 1 3 eU rfl fun _ _ _ _ _ _ nd hr hu =>
  (ak (aE (au (bG T) hr (ae (ay be af (au (cz T) hr (ae (dv 0) (ae af (ae (ay be (ay aZ af (dv 1)) af) ai))))) (ae af ai))) (bM 2 nd))
  (ao (aC (aR (ae (dv 2) (ae (au (bG T) hr (ae (au (cz T) hr (ae (dv 0) (ae af (ae af ai)))) (ae af ai))) ai)) (by decide)))))
def lX (T:fx K mg):fy P w base T.x5 1 f7 :=
 aQ ["piece","inner"] 0 2 kA rfl fun _ _ _ _ _ _ nd hr hu =>
  (ak (aE (aW (ky rfl) rfl T.z_max rfl (ae (ax aw (dv 0) af (fun _ _=>rfl)) (ae af ai))) (bM 1 nd))
  (ao (aC (aR (ae (dv 1) (ae (aW (ky rfl) rfl T.z_max rfl (ae (ax aw (dv 0) af (fun _ _=>rfl)) (ae (dv 1) ai))) ai)) (by decide)))))
def h8 (T:fx K mg):fy P w base T.x6 2 dH :=
 aQ ["sheet","fars","piece"] 1 6 gH rfl fun _ _ _ _ _ _ nd hr hu =>
  (ak (ft (n:=3) (i:=1) rfl (by decide) (fR (ae af ai) (by decide)) (oZ 1 nd))
  (ak (eF PassesOwn.never rfl (bE (dv 0)) (bM 2 nd)
  (ao (sZ (n:=3) (i:=1) rfl (by decide) rfl (pv 1) (au (lX T) hr (ae (dv 2) ai)))))
  (fG (n:=3) (is:=[1]) rfl (by decide) rfl (ao (aC (s9 rfl rfl T.z_sorted rfl T.z_set (dv 1)))))))
def fe (T:fx K mg):fy P w base T.x7 1 bS :=
 aQ ["cell","by","turn"] 0 3 iX rfl fun _ _ _ _ _ _ nd hr hu =>
  (ak (aE (ay ca (dv 0) (bY rfl T.c2)) (bM 2 nd))
  (ao (aC (ay be (ay ke (dv 0) (dv 2)) (ay ca (ay be (dv 2) (dv 1)) (bY rfl T.c2))))))
abbrev jC:List Str:=["cell","count","beside","across"]
def nz (T:fx K mg):fy P w base T.x8 2 gz :=
 aQ jC 1 4 eS rfl fun _ _ _ _ _ _ nd hr hu =>
  (ak (aE (ip (ae (au (fe T) hr (ae (dv 0) (ae af ai))) (ae (au (fe T) hr (ae (dv 0) (ae (uG oG af) ai))) ai)) (by decide)) (bM 2 nd))
  (ak (aE (ip (ae (ay be (dv 0) (bY rfl T.c2)) (ae (ay ke (dv 0) (bY rfl T.c2)) ai)) (by decide)) (bM 3 nd))
  (ao (aC (ay be (dv 2) (cg (scX:=aA gk) (NX:=jC) (N:=["other","count"]) (k:=1) (fv:=[1]) rfl ox rfl rfl (bE (dv 3)) (aS (by decide)) (fun _ _ _ _=>⟨(bM 0 (nod ["other","count"])),(iB kL qU m6 uO af (dv 0) (dv 1)),(dv 0)⟩)))))))
def gR (T:fx K mg):EF P w base T.x9 3 bh :=
 BV ["values","start","before","row","place","cell","other"] 2 14 cG rfl fun _ _ _ _ _ _ nd hr hu =>
  (jM (ft (n:=7) (i:=2) rfl (by decide) (yq (dv 1) io) (oZ 2 nd))
  (jM (ft (n:=7) (i:=3) rfl (by decide) (fR (ae (dv 1) ai) (by decide)) (oZ 3 nd))
  (jM (aE af (bM 4 nd))
  (jM (jN PassesOwn.never (bL qU (dv 4) (yy (n:=7) (is:=[3]) rfl (by decide) (aW gE rfl T.z_len PySem.boot_len (ae (dv 3) ai))) (bg _) uO)
  (ak (aE (yy (n:=7) (is:=[3]) rfl (by decide) (ax aw (dv 3) (dv 4) (fun _ _=>rfl))) (bM 5 nd))
  (ak (eF PassesOwn.never rfl (bE (au (nz T) hr (ae (dv 5) (ae (aW gE rfl T.z_len PySem.boot_len (ae (dv 0) ai)) ai)))) (bM 6 nd)
  (ao (b0 (DW.dt (sX (zT (n:=7) (i:=2) (ul hu) rfl (by decide) (dv 6) (pv 2)) (pC (bL (eJ hu) (ax aw (dv 0) (dv 6) (fun _ _=>rfl)) (ax aw (dv 0) (dv 1) (fun _ _=>rfl)) (bg _) jR)))) (ak (zW (n:=7) (i:=2) (ul hu) rfl (by decide) rfl (pv 2) (dv 6) (dv 5))
  (ao (jf (n:=7) (i:=3) rfl (by decide) rfl (pv 3) (dv 6)))) br)))
  (ao (B0 (i:=4) nd rfl rfl af)))))
  (zV (n:=7) (i:=2) rfl (by decide) rfl (pv 2))))))
def dR (T:fx K mg):fy P w base T.x10 1 bv :=
 aQ ["fraction"] 0 1 eR rfl fun _ _ _ _ _ _ nd hr hu =>
  (ao (aC (ay du (ax aw (dv 0) af (fun _ _=>rfl)) (ax aw (dv 0) af (fun _ _=>rfl)))))
abbrev n5:List Str:=["edges","point","far","inward"]
def dg (T:fx K mg):fy P w base T.x11 2 bx :=
 aQ n5 1 4 iF rfl fun _ _ _ _ _ _ nd hr hu =>
  (ak (aE (au (dR T) hr (ae (ax aw (dv 1) af (fun _ _=>rfl)) ai)) (bM 2 nd))
  (ak (aE (aW gE rfl T.z_len PySem.boot_len (ae (cg (scX:=aA j8) (NX:=n5) (N:=["edge","far"]) (k:=1) (fv:=[2]) rfl ox rfl rfl (bE (dv 0)) (aS (by decide)) (fun _ _ _ _=>⟨(bM 0 (nod ["edge","far"])),(iB qU kL uO m6 af (dv 0) (dv 1)),(dv 0)⟩)) ai)) (bM 3 nd))
  (ao (aC (ay be (ay aZ (bY rfl T.c2) (dv 3)) (ay ca (au (dR T) hr (ae (ax aw (dv 1) af (fun _ _=>rfl)) ai)) (bY rfl T.c2)))))))
abbrev mj:List Str:=["piece","wide"]
def qM (T:fx K mg):fy P w base T.x12 1 jb :=
 aQ mj 0 2 gF rfl fun _ _ _ _ _ _ nd hr hu =>
  (ak (aE (aW (mZ rfl) rfl T.z_min rfl (ae (ax aw (dv 0) af (fun _ _=>rfl)) (ae (bY rfl T.c2) ai))) (bM 1 nd))
  (ao (aC (cg (scX:=aA i4) (NX:=mj) (N:=["step","piece"]) (k:=1) (fv:=[0]) rfl ox rfl rfl (mR rfl T.z_range (dv 1)) (aS (by decide)) (fun _ _ _ _=>⟨(bM 0 (nod ["step","piece"])),rfl,(ay ca (ay be (ax aw (dv 1) af (fun _ _=>rfl)) (dv 0)) (bY rfl T.c2))⟩)))))
abbrev mw:List Str:=["piece","edges","span","turns","cells","band"]
def qR (T:fx K mg):fy P w base T.x13 2 gA :=
 aQ mw 1 12 gI rfl fun _ _ _ _ _ _ nd hr hu =>
  (ak (aE (au (lX T) hr (ae (dv 0) ai)) (bM 2 nd))
  (ak (aE (au (qM T) hr (ae (dv 0) ai)) (bM 3 nd))
  (ak (ft (n:=6) (i:=4) rfl (by decide) (fR ai (by decide)) (oZ 4 nd))
  (ak (eF PassesOwn.never rfl (iC rfl T.z_range (rC (dv 1) (ax aw (dv 2) af (fun _ _=>rfl))) (rC (dv 1) (ax aw (dv 2) af (fun _ _=>rfl)))) (bM 5 nd)
  (ao (sZ (n:=6) (i:=4) rfl (by decide) rfl (pv 4) (cg (scX:=aA i6) (NX:=mw) (N:=["turn","band"]) (k:=1) (fv:=[5]) rfl ox rfl rfl (bE (dv 3)) (aS (by decide)) (fun _ _ _ _=>⟨(bM 0 (nod ["turn","band"])),rfl,(ay be (ay aZ (bY rfl T.c2) (dv 1)) (dv 0))⟩)))))
  (fG (n:=6) (is:=[4]) rfl (by decide) rfl (ao (aC (dv 4))))))))
abbrev fP:List Str:=["sheet","edges","cells","number","piece","cell"]
def fc (T:fx K mg):fy P w base T.x14 3 bR :=
 aQ fP 2 6 dX rfl fun _ _ _ _ _ _ nd hr hu =>
  sY (scX:=aA dQ) (NX:=fP) (N:=["place"]) (k:=1) (fv:=[]) rfl PassesOwn.never rfl ox rfl rfl (mR rfl T.z_range (ay aZ (bY rfl T.c2) (aW gE rfl T.z_len PySem.boot_len (ae (dv 1) ai)))) (aS (by decide)) (fun _ _ _ _=>(bM 0 (nod ["place"]))) (oZ 2 nd)
  (uD rfl T.z_enumerate (dv 0)) (xp rfl (lU (oZ 3 nd) (lU (oZ 4 nd) t7)))
  (bE (au (qR T) hr (ae (dv 4) (ae (dv 1) ai)))) (oZ 5 nd) (xl (pv 2) (pv 5) (pv 3) (fun _ _=>rfl))
  (ao (aC (cg (scX:=aA dQ) (NX:=fP) (N:=["numbers"]) (k:=1) (fv:=[]) rfl ox rfl rfl (bE (dv 2)) (aS (by decide)) (fun _ _ _ _=>⟨(bM 0 (nod ["numbers"])),rfl,(gf jP rfl T.z_tuple rfl (ae (dv 0) ai))⟩))))
def kc (T:fx K mg):fy P w base T.x15 1 eg :=
 aQ ["inner","turn"] 0 2 cX rfl fun _ _ _ _ _ _ nd hr hu =>
  (ao (aC (aR (ae (aR (ae (ay be (ay aZ af (dv 0)) af) (ae af ai)) (by decide)) (ae (aR (ae (ay be (ay aZ af (dv 1)) af) (ae af ai)) (by decide)) ai)) (by decide))))
abbrev f6:List Str:=["cells","edges"]
def jB (T:fx K mg):fy P w base T.x16 2 bI :=
 aQ f6 1 2 cM rfl fun _ _ _ _ _ _ nd hr hu =>
  (ak (b0 (bL (eJ hu) (aW gE rfl T.z_len PySem.boot_len (ae (dv 0) ai)) af (bg _) jR) (ao (aC (ip ai (by decide)))) br)
  (ao (aC (cg (scX:=aA dF) (NX:=f6) (N:=["cell","edges"]) (k:=1) (fv:=[1]) rfl ox rfl rfl (bE (dv 0)) (aS (by decide)) (fun _ _ _ _=>⟨(bM 0 (nod ["cell","edges"])),rfl,(au (kc T) hr (ae (ax aw (dv 1) (ay du (dv 0) (bY rfl T.c2)) (fun _ _=>rfl)) (ae (ay ca (dv 0) (bY rfl T.c2)) ai)))⟩)))))
def fD (T:fx K mg):fy P w base T.x17 1 cI :=
 aQ ["one","other","rest"] 0 3 cO rfl fun _ _ _ _ _ _ nd hr hu =>
  (ak (jN PassesOwn.never (bL (kK hu) (dv 1) af (bg _) kQ)
  (ak (aE (ay ca (dv 0) (dv 1)) (bM 2 nd))
  (ak (aE (dv 1) (bM 0 nd))
  (ao (aE (dv 2) (bM 1 nd))))))
  (ao (aC (aW pN rfl T.z_abs rfl (ae (dv 0) ai)))))
def nX (T:fx K mg):fy P w base T.x18 2 jE :=
 aQ ["upper","lower","divisor"] 1 3 jU rfl fun _ _ _ _ _ _ nd hr hu =>
  (ak (aE (au (fD T) hr (ae (dv 0) (ae (dv 1) ai))) (bM 2 nd))
  (ao (aC (aR (ae (ay du (dv 0) (dv 2)) (ae (ay du (dv 1) (dv 2)) ai)) (by decide)))))
def ia (T:fx K mg):fy P w base T.x19 3 eN :=
 aQ ["one","other"] 2 2 lC rfl fun _ _ _ _ _ _ nd hr hu =>
  (ao (aC (au (nX T) hr (ae (ay be (ay aZ (ax aw (dv 0) af (fun _ _=>rfl)) (ax aw (dv 1) af (fun _ _=>rfl))) (ay aZ (ax aw (dv 1) af (fun _ _=>rfl)) (ax aw (dv 0) af (fun _ _=>rfl)))) (ae (ay aZ (ax aw (dv 0) af (fun _ _=>rfl)) (ax aw (dv 1) af (fun _ _=>rfl))) ai)))))
def eM (T:fx K mg):fy P w base T.x20 3 b8 :=
 aQ ["turn"] 2 1 fJ rfl fun _ _ _ _ _ _ nd hr hu =>
  (ao (aC (au (nX T) hr (ae (ay ca (ax aw (dv 0) af (fun _ _=>rfl)) (ay aZ (bY rfl T.c2) (ax aw (dv 0) af (fun _ _=>rfl)))) (ae (ax aw (dv 0) af (fun _ _=>rfl)) ai)))))
def kH (T:fx K mg):fy P w base T.x21 1 fg :=
 aQ ["fraction"] 0 1 m8 rfl fun _ _ _ _ _ _ nd hr hu =>
  (ao (aC (aR (ae (uG oG (ax aw (dv 0) af (fun _ _=>rfl))) (ae (ax aw (dv 0) af (fun _ _=>rfl)) ai)) (by decide))))
def qN (T:fx K mg):fy P w base T.x22 4 gy :=
 aQ ["by","half"] 3 2 gG rfl fun _ _ _ _ _ _ nd hr hu =>
  (ak (aE (aR (ae (ay du (bY rfl T.c2) af) (ae af ai)) (by decide)) (bM 1 nd))
  (ao (aC (au (ia T) hr (ae (au (eM T) hr (ae (au (ia T) hr (ae (dv 0) (ae (dv 1) ai))) ai)) (ae (au (kH T) hr (ae (dv 1) ai)) ai))))))
def kd (T:fx K mg):fy P w base T.x23 5 eB :=
 aQ ["point","goal","moves","by"] 4 8 cY rfl fun _ _ _ _ _ _ nd hr hu =>
  (ak (ft (n:=4) (i:=2) rfl (by decide) (fR ai (by decide)) (oZ 2 nd))
  (ak (b0 (bL (kK hu) (ax aw (dv 0) af (fun _ _=>rfl)) (ax aw (dv 1) af (fun _ _=>rfl)) (bg _) kQ) (ao (jf (n:=4) (i:=2) rfl (by decide) rfl (pv 2) (aR (ae (gd rfl T.c1) (ae (ax aw (dv 1) af (fun _ _=>rfl)) ai)) (by decide)))) br)
  (ak (aE (au (qN T) hr (ae (au (ia T) hr (ae (ax aw (dv 1) af (fun _ _=>rfl)) (ae (au (kH T) hr (ae (ax aw (dv 0) af (fun _ _=>rfl)) ai)) ai))) ai)) (bM 3 nd))
  (ak (b0 (bL (kK hu) (ax aw (dv 3) af (fun _ _=>rfl)) af (bg _) kQ) (ao (jf (n:=4) (i:=2) rfl (by decide) rfl (pv 2) (aR (ae (gd rfl T.c0) (ae (dv 3) ai)) (by decide)))) br)
  (fG (n:=4) (is:=[2]) rfl (by decide) rfl (ao (aC (dv 2))))))))
def lZ (T:fx K mg):fy P w base T.x24 1 cv :=
 aQ ["before","goal","cells","cell"] 0 8 dW rfl fun _ _ _ _ _ _ nd hr hu =>
  (ak (ft (n:=4) (i:=2) rfl (by decide) (fR ai (by decide)) (oZ 2 nd))
  (ak (aE (dv 1) (bM 3 nd))
  (ak (jN PassesOwn.never (oq (dv 3))
  (ak (jf (n:=4) (i:=2) rfl (by decide) rfl (pv 2) (dv 3))
  (ao (aE (Aa (ul hu) (dv 0) (dv 3) (fun _ _=>rfl)) (bM 3 nd)))))
  (fG (n:=4) (is:=[2]) rfl (by decide) rfl (ao (aC (tf rfl rfl T.z_list rfl T.z_reversed (dv 2))))))))
def By (T:fx K mg):fy P w base T.x25 6 oa :=
 aQ ["sheet","one","other","edges","before","goal","points","moves","point","following"] 5 20 rJ rfl fun _ _ _ _ _ _ nd hr hu =>
  (ak (aE (au (h8 T) hr (ae (dv 0) ai)) (bM 3 nd))
  (ak (ft (n:=10) (i:=4) rfl (by decide) (yu (gR T) hr (ae (au (fc T) hr (ae (dv 0) (ae (dv 3) ai))) (ae (au (dg T) hr (ae (dv 3) (ae (dv 1) ai))) ai))) (oZ 4 nd))
  (yn (n:=10) (i:=4) rfl (by decide) rfl (ak (aE (au (dg T) hr (ae (dv 3) (ae (dv 2) ai))) (bM 5 nd))
  (ak (b0 (zU (ul hu) (dv 5) (dv 4)) (ao (aC io)) br)
  (ak (aE (ay be (ay be (ip (ae (dv 1) ai) (by decide)) (au (jB T) hr (ae (au (lZ T) hr (ae (dv 4) (ae (dv 5) ai))) (ae (dv 3) ai)))) (ip (ae (dv 2) ai) (by decide))) (bM 6 nd))
  (ak (ft (n:=10) (i:=7) rfl (by decide) (fR ai (by decide)) (oZ 7 nd))
  (ak (eF PassesOwn.never rfl (B3 rfl T.z_zip (dv 6) (iV (dv 6) (dL af) il)) (pF rfl (cT (bM 8 nd) (cT (bM 9 nd) lu)) (bT (bT iz)))
  (ao (sZ (n:=10) (i:=7) rfl (by decide) rfl (pv 7) (au (kd T) hr (ae (dv 8) (ae (dv 9) ai))))))
  (fG (n:=10) (is:=[7]) rfl (by decide) rfl (ao (aC (gf jP rfl T.z_tuple rfl (ae (dv 7) ai)))))))))))))
def o7 (T:fx K mg):fy P w base T.x26 4 dq :=
 aQ ["sheet","one","other","edges"] 3 4 fH rfl fun _ _ _ _ _ _ nd hr hu =>
  (ak (aE (au (h8 T) hr (ae (dv 0) ai)) (bM 3 nd))
  (ao (aC (B9 (ul hu) (au (dg T) hr (ae (dv 3) (ae (dv 2) ai))) (yu (gR T) hr (ae (au (fc T) hr (ae (dv 0) (ae (dv 3) ai))) (ae (au (dg T) hr (ae (dv 3) (ae (dv 1) ai))) ai)))))))
def sG (T:fx K mg):fy P w base T.x27 4 kg :=
 aQ ["point","other"] 3 2 iE rfl fun _ _ _ _ _ _ nd hr hu =>
  (ao (aC (eG (eJ hu) (aR (ae (ax aw (dv 0) af (fun _ _=>rfl)) (ae (au (eM T) hr (ae (ax aw (dv 0) af (fun _ _=>rfl)) ai)) ai)) (by decide)) (aR (ae (ax aw (dv 1) af (fun _ _=>rfl)) (ae (au (eM T) hr (ae (ax aw (dv 1) af (fun _ _=>rfl)) ai)) ai)) (by decide)) (bg _))))
def nZ (T:fx K mg):fy P w base T.x28 4 f9 :=
 aQ ["point","move"] 3 2 gi rfl fun _ _ _ _ _ _ nd hr hu =>
  (ak (b0 (bL (eJ hu) (ax aw (dv 1) af (fun _ _=>rfl)) (gd rfl T.c1) (bg _) jR) (ao (aC (aR (ae (ax aw (dv 1) af (fun _ _=>rfl)) (ae (ax aw (dv 0) af (fun _ _=>rfl)) ai)) (by decide)))) br)
  (ao (aC (aR (ae (ax aw (dv 0) af (fun _ _=>rfl)) (ae (au (eM T) hr (ae (au (ia T) hr (ae (ax aw (dv 0) af (fun _ _=>rfl)) (ae (ax aw (dv 1) af (fun _ _=>rfl)) ai))) ai)) ai)) (by decide)))))
def vi (T:fx K mg):fy P w base T.x29 1 q9 :=
 aQ ["fraction"] 0 1 rK rfl fun _ _ _ _ _ _ nd hr hu =>
  (ao (aC (eG ue (ax aw (dv 0) af (fun _ _=>rfl)) af (bg _))))
def h7 (T:fx K mg):fy P w base T.x30 1 eK :=
 aQ ["by"] 0 1 bZ rfl fun _ _ _ _ _ _ nd hr hu =>
  (ao (aC (eG kL (aW pN rfl T.z_abs rfl (ae (ax aw (dv 0) af (fun _ _=>rfl)) ai)) (ay aZ (bY rfl T.c2) (ax aw (dv 0) af (fun _ _=>rfl))) (bg _))))
def hZ (T:fx K mg):fy P w base T.x31 1 cu :=
 aQ ["length","thing"] 0 2 iW rfl fun _ _ _ _ _ _ nd hr hu =>
  (ao (aC (mS (fT .tuple rfl T.z_isinstance rfl T.z_tuple rfl (dv 1)) (ko (eG (eJ hu) (aW gE rfl T.z_len PySem.boot_len (ae (dv 1) ai)) (dv 0) (bg _))))))
def o8 (T:fx K mg):fy P w base T.x32 2 ie :=
 aQ ["upper","lower"] 1 2 fI rfl fun _ _ _ _ _ _ nd hr hu =>
  (ao (aC (mS (eG AB (dv 1) af (bg _)) (ko (eG (eJ hu) (au (fD T) hr (ae (dv 0) (ae (dv 1) ai))) af (bg _))))))
def qP (T:fx K mg):fy P w base T.x33 1 mB :=
 aQ ["thing"] 0 1 m9 rfl fun _ _ _ _ _ _ nd hr hu =>
  (ao (aC (mS (fT .int rfl T.z_isinstance rfl T.z_int rfl (dv 0)) (ko (B7 (fT .bool rfl T.z_isinstance rfl T.z_bool rfl (dv 0)))))))
abbrev iQ:List Str:=["thing"]
def lY (T:fx K mg):fy P w base T.x34 3 cR :=
 aQ iQ 2 1 dU rfl fun _ _ _ _ _ _ nd hr hu =>
  (ak (b0 (dJ (cD (au (hZ T) hr (ae af (ae (dv 0) ai))))) (ao (aC gX)) br)
  (ak (b0 (dJ (cD (aW (tu rfl) rfl T.z_all rfl (ae (cg (scX:=aA fM) (NX:=iQ) (N:=["part"]) (k:=1) (fv:=[]) rfl ox rfl rfl (bE (dv 0)) (aS (by decide)) (fun _ _ _ _=>⟨(bM 0 (nod ["part"])),rfl,(au (qP T) hr (ae (dv 0) ai))⟩)) ai)))) (ao (aC gX)) br)
  (ao (aC (au (o8 T) hr (ae (ax aw (dv 0) af (fun _ _=>rfl)) (ae (ax aw (dv 0) af (fun _ _=>rfl)) ai)))))))
def sF (T:fx K mg):fy P w base T.x35 4 eY :=
 aQ ["thing"] 3 1 eZ rfl fun _ _ _ _ _ _ nd hr hu =>
  (ak (b0 (DW.dt (jL (dJ (cD (au (hZ T) hr (ae af (ae (dv 0) ai))))) (ik (dJ (cD (au (lY T) hr (ae (ax aw (dv 0) af (fun _ _=>rfl)) ai))))))) (ao (aC gX)) br)
  (ak (b0 (bL (eJ hu) (ax aw (dv 0) af (fun _ _=>rfl)) (gd rfl T.c1) (bg _) jR) (ao (aC (au (vi T) hr (ae (ax aw (dv 0) af (fun _ _=>rfl)) ai)))) br)
  (ao (aC (mS (eG (eJ hu) (ax aw (dv 0) af (fun _ _=>rfl)) (gd rfl T.c0) (bg _)) (ko (au (h7 T) hr (ae (ax aw (dv 0) af (fun _ _=>rfl)) ai))))))))
abbrev mq:List Str:=["edges","point","move","cell","end","begin"]
def qQ (T:fx K mg):fy P w base T.x36 5 fh :=
 aQ mq 4 6 dN rfl fun _ _ _ _ _ _ nd hr hu =>
  (ak (aE (au (dg T) hr (ae (dv 0) (ae (dv 1) ai))) (bM 3 nd))
  (ak (b0 (bL (eJ hu) (ax aw (dv 2) af (fun _ _=>rfl)) (gd rfl T.c1) (bg _) jR) (ak (aE (au (dg T) hr (ae (dv 0) (ae (au (nZ T) hr (ae (dv 1) (ae (dv 2) ai))) ai))) (bM 4 nd))
  (ao (aC (pH rfl rfl T.z_list rfl T.z_range (ae (aW (mZ rfl) rfl T.z_min rfl (ae (dv 3) (ae (dv 4) ai))) (ae (ay be (aW (ky rfl) rfl T.z_max rfl (ae (dv 3) (ae (dv 4) ai))) af) (ae (bY rfl T.c2) ai))))))) br)
  (ak (aE (au (dR T) hr (ae (ax aw (dv 1) af (fun _ _=>rfl)) ai)) (bM 5 nd))
  (ak (aE (au (dR T) hr (ae (au (ia T) hr (ae (ax aw (dv 1) af (fun _ _=>rfl)) (ae (ax aw (dv 2) af (fun _ _=>rfl)) ai))) ai)) (bM 4 nd))
  (ao (aC (cg (scX:=aA i5) (NX:=mq) (N:=["turn","cell","begin"]) (k:=1) (fv:=[3,5]) rfl ox rfl rfl (iC rfl T.z_range (aW (mZ rfl) rfl T.z_min rfl (ae (dv 5) (ae (dv 4) ai))) (ay be (aW (ky rfl) rfl T.z_max rfl (ae (dv 5) (ae (dv 4) ai))) af)) (aS (by decide)) (fun _ _ _ _=>⟨(bM 0 (nod ["turn","cell","begin"])),rfl,(au (fe T) hr (ae (dv 1) (ae (ay ke (dv 0) (dv 2)) ai)))⟩))))))))
abbrev mn:List Str:=["sheet","one","other","thing","edges","numbers","point","move","here"]
def nY (T:fx K mg):fy P w base T.x37 6 d5 :=
 aQ mn 5 9 gg rfl fun _ _ _ _ _ _ nd hr hu =>
  (ak (b0 (DW.dt (jL (dJ (cD (fT .tuple rfl T.z_isinstance rfl T.z_tuple rfl (dv 3)))) (ik (dJ (cD (aW (tu rfl) rfl T.z_all rfl (ae (cg (scX:=aA ju) (NX:=mn) (N:=["part"]) (k:=1) (fv:=[]) rfl ox rfl rfl (bE (dv 3)) (aS (by decide)) (fun _ _ _ _=>⟨(bM 0 (nod ["part"])),rfl,(au (sF T) hr (ae (dv 0) ai))⟩)) ai))))))) (ao (aC gX)) br)
  (ak (aE (au (h8 T) hr (ae (dv 0) ai)) (bM 4 nd))
  (ak (aE (au (fc T) hr (ae (dv 0) (ae (dv 4) ai))) (bM 5 nd))
  (ak (aE (dv 1) (bM 6 nd))
  (ak (eF PassesOwn.never rfl (bE (dv 3)) (bM 7 nd)
  (ak (aE (ax aw (dv 5) (au (dg T) hr (ae (dv 4) (ae (dv 6) ai))) (fun _ _=>rfl)) (bM 8 nd))
  (ak (b0 (dJ (cD (aW (tu rfl) rfl T.z_all rfl (ae (cg (scX:=aA ju) (NX:=mn) (N:=["cell","here","numbers"]) (k:=1) (fv:=[8,5]) rfl ox rfl rfl (bE (au (qQ T) hr (ae (dv 4) (ae (dv 6) (ae (dv 7) ai))))) (aS (by decide)) (fun _ _ _ _=>⟨(bM 0 (nod ["cell","here","numbers"])),rfl,(eG (eJ hu) (ax aw (dv 2) (dv 0) (fun _ _=>rfl)) (dv 1) (bg _))⟩)) ai)))) (ao (aC gX)) br)
  (ao (aE (au (nZ T) hr (ae (dv 6) (ae (dv 7) ai))) (bM 6 nd))))))
  (ao (aC (au (sG T) hr (ae (dv 6) (ae (dv 2) ai))))))))))
def mf (T:fx K mg):fy P w base T.x38 1 dS :=
 aQ ["_law_moves","_law_cell_here","_law_at","_law_more","_law_some"] 0 10 dY rfl fun _ _ _ _ _ _ nd hr hu =>
  (ak (aE (ay ca (ay du (dv 1) af) (ay be (aW gE rfl T.z_len PySem.boot_len (ae (dv 0) ai)) af)) (bM 2 nd))
  (ak (aE (ip (ae (aR (ae fS (ae (aR (ae (ay be af (ay ca (ay du (dv 1) af) af)) (ae af ai)) (by decide)) ai)) (by decide)) (ae (aR (ae fS (ae (aR (ae (ay ke (ay ca (ay du (dv 1) af) af) af) (ae af ai)) (by decide)) ai)) (by decide)) (ae (aR (ae fS (ae (aR (ae af (ae af ai)) (by decide)) ai)) (by decide)) (ae (aR (ae fS (ae (aR (ae af (ae af ai)) (by decide)) ai)) (by decide)) ai)))) (by decide)) (bM 3 nd))
  (ak (aE (ax aw (dv 3) (ay ca (dv 1) af) (fun _ _=>rfl)) (bM 3 nd))
  (ak (ft (n:=5) (i:=4) rfl (by decide) (fR (ae (ay be (ay be (iV (dv 0) il (dL (dv 2))) (aR (ae (dv 3) ai) (by decide))) (iV (dv 0) (dL (dv 2)) il)) (ae (ay be (iV (dv 0) il (dL (dv 2))) (iV (dv 0) (dL (ay be (dv 2) af)) il)) (ae (ay be (iV (dv 0) il (dL (dv 2))) (aR (ae io ai) (by decide))) (ae (Ac (dv 0)) ai)))) (by decide)) (oZ 4 nd))
  (ak (jf (n:=5) (i:=4) rfl (by decide) rfl (pv 4) (gf Ae rfl T.z_list rfl (ae (dv 0) ai)))
  (fG (n:=5) (is:=[4]) rfl (by decide) rfl (ak (aE (ay be (dv 4) (ip (ae (ay be (ay be (iV (dv 0) il (dL (dv 2))) (aR (ae (dv 3) ai) (by decide))) (iV (dv 0) (dL (ay be (dv 2) af)) il)) (ae (ay be (dv 0) (aR (ae (aR (ae fS (ae (aR (ae af (ae af ai)) (by decide)) ai)) (by decide)) ai) (by decide))) (ae (ay be (dv 0) (aR (ae (aR (ae fS (ae (aR (ae af (ae af ai)) (by decide)) ai)) (by decide)) ai) (by decide))) ai))) (by decide))) (bM 4 nd))
  (ao (aC (ax aw (dv 4) (ay ca (ay du (dv 1) af) af) (fun _ _=>rfl)))))))))))
def qT (T:fx K mg):fy P w base T.x39 1 dI :=
 aQ ["_law_piece_here","_law_far","_law_turn","_law_inner","_law_outer","_law_begin","_law_wide"] 0 7 gM rfl fun _ _ _ _ _ _ nd hr hu =>
  (ak (aE (dv 0) (pF rfl (cT (bM 3 nd) (cT (bM 4 nd) (cT (bM 5 nd) (cT (bM 6 nd) lu)))) (bT (bT (bT (bT iz))))))
  (ak (b0 (DW.dt (jL (bL qU (ax aw (dv 1) af (fun _ _=>rfl)) (ay aZ (dv 3) (ax aw (dv 1) af (fun _ _=>rfl))) (bg _) uO) (ik (bL AB (ax aw (dv 1) af (fun _ _=>rfl)) (ay aZ (dv 4) (ax aw (dv 1) af (fun _ _=>rfl))) (bg _) Ds)))) (ao (aC gX)) br)
  (ao (aC (eG qU (ay ca (ay ke (ax aw (dv 2) af (fun _ _=>rfl)) (ay aZ (dv 5) (ax aw (dv 2) af (fun _ _=>rfl)))) (ay aZ af (ax aw (dv 2) af (fun _ _=>rfl)))) (ay aZ (dv 6) (ax aw (dv 2) af (fun _ _=>rfl))) (bg _))))))
abbrev iR:List Str:=["_law_sheet_here","_law_point_here"]
def ib (T:fx K mg):fy P w base T.x40 2 bA :=
 aQ iR 1 2 iY rfl fun _ _ _ _ _ _ nd hr hu =>
  (ao (aC (gf jP rfl T.z_tuple rfl (ae (cg (scX:=aA fN) (NX:=iR) (N:=["_law_k","_law_piece_here","_law_point_here"]) (k:=2) (fv:=[1]) rfl ox rfl rfl (uD rfl T.z_enumerate (dv 0)) (vV (kR (aS (by decide)) (kR (aS (by decide)) tz))) (fun _ _ _ _=>⟨(pF rfl (cT (bM 0 (nod ["_law_k","_law_piece_here","_law_point_here"])) (cT (bM 1 (nod ["_law_k","_law_piece_here","_law_point_here"])) lu)) (bT (bT iz))),(cD (au (qT T) hr (ae (dv 1) (ae (ax aw (dv 2) af (fun _ _=>rfl)) (ae (ax aw (dv 2) af (fun _ _=>rfl)) ai))))),(dv 0)⟩)) ai))))
abbrev ff:List Str:=["_law_thing"]
def iH (T:fx K mg):fy P w base T.x41 2 bu :=
 aQ ff 1 1 ck rfl fun _ _ _ _ _ _ nd hr hu =>
  (ak (b0 (DW.dt (jL (dJ (cD (fT .tuple rfl T.z_isinstance rfl T.z_tuple rfl (dv 0)))) (ik (bL (kK hu) (aW gE rfl T.z_len PySem.boot_len (ae (dv 0) ai)) af (bg _) kQ)))) (ao (aC gX)) br)
  (ak (b0 (cD (cg (scX:=aA db) (NX:=ff) (N:=["_law_part"]) (k:=1) (fv:=[]) rfl ox rfl rfl (bE (dv 0)) (aS (by decide)) (fun _ _ _ _=>⟨(bM 0 (nod ["_law_part"])),(DW.dt (jL (dJ (cD (fT .int rfl T.z_isinstance rfl T.z_int rfl (dv 0)))) (ik (cD (fT .bool rfl T.z_isinstance rfl T.z_bool rfl (dv 0)))))),(dv 0)⟩))) (ao (aC gX)) br)
  (ao (aC (mS (eG ue (ax aw (dv 0) af (fun _ _=>rfl)) af (bg _)) (ko (eG (eJ hu) (au (bG T) hr (ae (ax aw (dv 0) af (fun _ _=>rfl)) (ae (ax aw (dv 0) af (fun _ _=>rfl)) ai))) (dv 0) (bg _))))))))
def kI (T:fx K mg):fy P w base T.x42 2 cC :=
 aQ ["_law_one","_law_other"] 1 2 gJ rfl fun _ _ _ _ _ _ nd hr hu =>
  (ao (aC (au (bG T) hr (ae (ay be (ay aZ (ax aw (dv 0) af (fun _ _=>rfl)) (ax aw (dv 1) af (fun _ _=>rfl))) (ay aZ (ax aw (dv 1) af (fun _ _=>rfl)) (ax aw (dv 0) af (fun _ _=>rfl)))) (ae (ay aZ (ax aw (dv 0) af (fun _ _=>rfl)) (ax aw (dv 1) af (fun _ _=>rfl))) ai)))))
abbrev mx:List Str:=["_law_far","_law_goal","_law_most","_law_low","_law_high","_law_lower","_law_steps"]
def qS (T:fx K mg):fy P w base T.x43 1 fi :=
 aQ mx 0 7 gK rfl fun _ _ _ _ _ _ nd hr hu =>
  (ak (aE (aW (mZ rfl) rfl T.z_min rfl (ae (ay aZ (ax aw (dv 0) af (fun _ _=>rfl)) (ax aw (dv 1) af (fun _ _=>rfl))) (ae (ay aZ (ax aw (dv 1) af (fun _ _=>rfl)) (ax aw (dv 0) af (fun _ _=>rfl))) ai))) (bM 3 nd))
  (ak (aE (aW (ky rfl) rfl T.z_max rfl (ae (ay aZ (ax aw (dv 0) af (fun _ _=>rfl)) (ax aw (dv 1) af (fun _ _=>rfl))) (ae (ay aZ (ax aw (dv 1) af (fun _ _=>rfl)) (ax aw (dv 0) af (fun _ _=>rfl))) ai))) (bM 4 nd))
  (ak (aE (ay aZ (ax aw (dv 0) af (fun _ _=>rfl)) (ax aw (dv 1) af (fun _ _=>rfl))) (bM 5 nd))
  (ak (lr (i:=6) rfl (oZ 6 nd) (scX:=aA i7) (NX:=mx) (N:=["_law_k","_law_low","_law_lower","_law_high"]) (k:=1) (fv:=[3,5,4]) rfl ox rfl rfl (iC rfl T.z_range af (ay be (ay aZ af (dv 2)) af)) (aS (by decide)) (fun _ _ _ _=>⟨(bM 0 (nod ["_law_k","_law_low","_law_lower","_law_high"])),(iB kL kL m6 m6 (ay aZ af (dv 1)) (ay aZ (dv 0) (dv 2)) (ay aZ af (dv 3))),(aR (ae (dv 0) (ae af ai)) (by decide))⟩))
  (ao (aC (ay be (dv 6) (ip (ae (dv 0) (ae (dv 1) ai)) (by decide)))))))))
abbrev n6:List Str:=["_law_turn","_law_by","_law_found","_law_k","_law_one","_law_other"]
def sH (T:fx K mg):fy P w base T.x44 3 ga :=
 aQ n6 2 12 iG rfl fun _ _ _ _ _ _ nd hr hu =>
  (ak (ft (n:=6) (i:=2) rfl (by decide) (fR (ae (dv 0) (ae (au (kI T) hr (ae (dv 0) (ae (dv 1) ai))) ai)) (by decide)) (oZ 2 nd))
  (ak (eF PassesOwn.never rfl (iC rfl T.z_range (uG oG af) af) (bM 3 nd)
  (ak (aE (ay aZ (ay aZ af (ax aw (dv 0) af (fun _ _=>rfl))) (ax aw (dv 1) af (fun _ _=>rfl))) (bM 4 nd))
  (ak (aE (ay be (dv 4) (ay aZ (ay aZ af (ax aw (dv 1) af (fun _ _=>rfl))) (ax aw (dv 0) af (fun _ _=>rfl)))) (bM 5 nd))
  (ao (b0 (iB kL kL m6 m6 (aW (mZ rfl) rfl T.z_min rfl (ae (dv 4) (ae (dv 5) ai))) (ay aZ (ay aZ (dv 3) (ax aw (dv 0) af (fun _ _=>rfl))) (ax aw (dv 1) af (fun _ _=>rfl))) (aW (ky rfl) rfl T.z_max rfl (ae (dv 4) (ae (dv 5) ai)))) (ao (jf (n:=6) (i:=2) rfl (by decide) rfl (pv 2) (aR (ae (dv 3) (ae af ai)) (by decide)))) br)))))
  (fG (n:=6) (is:=[2]) rfl (by decide) rfl (ao (aC (cg (scX:=aA j9) (NX:=n6) (N:=["_law_one"]) (k:=1) (fv:=[]) rfl ox rfl rfl (bE (dv 2)) (aS (by decide)) (fun _ _ _ _=>⟨(bM 0 (nod ["_law_one"])),rfl,(au (bG T) hr (ae (ay ca (ax aw (dv 0) af (fun _ _=>rfl)) (ay aZ af (ax aw (dv 0) af (fun _ _=>rfl)))) (ae (ax aw (dv 0) af (fun _ _=>rfl)) ai)))⟩)))))))
abbrev gx:List Str:=["_law_sheet_here","_law_point_here","_law_moves","_law_most","_law_due","_law_far","_law_turn","_law_move","_law_some"]
def kJ (T:fx K mg):fy P w base T.x45 4 cb :=
 aQ gx 3 9 dO rfl fun _ _ _ _ _ _ nd hr hu =>
  (ak (b0 (dJ (cD (fT .tuple rfl T.z_isinstance rfl T.z_tuple rfl (dv 2)))) (ao (aC io)) br)
  (ak (aE (au (ib T) hr (ae (dv 0) (ae (dv 1) ai))) (bM 4 nd))
  (ak (aE (dv 1) (pF rfl (cT (bM 5 nd) (cT (bM 6 nd) lu)) (bT (bT iz))))
  (ak (eF PassesOwn.never rfl (bE (dv 2)) (bM 7 nd)
  (ak (b0 (DW.dt (jL (dJ (cD (fT .tuple rfl T.z_isinstance rfl T.z_tuple rfl (dv 7)))) (jL (bL (kK hu) (aW gE rfl T.z_len PySem.boot_len (ae (dv 7) ai)) af (bg _) kQ) (ik (dJ (cD (au (iH T) hr (ae (ax aw (dv 7) af (fun _ _=>rfl)) ai)))))))) (ao (aC io)) br)
  (ak (b0 (DW.dt (sX (bL (eJ hu) (ax aw (dv 7) af (fun _ _=>rfl)) fS (bg _) jR) (pC (bL ue (ax aw (ax aw (dv 7) af (fun _ _=>rfl)) af (fun _ _=>rfl)) af (bg _) AL)))) (ak (lr (i:=8) rfl (oZ 8 nd) (scX:=aA e9) (NX:=gx) (N:=["_law_one","_law_turn"]) (k:=1) (fv:=[6]) rfl ox rfl rfl (bE (au (qS T) hr (ae (dv 5) (ae (ax aw (dv 7) af (fun _ _=>rfl)) (ae (dv 3) ai))))) (aS (by decide)) (fun _ _ _ _=>⟨(bM 0 (nod ["_law_one","_law_turn"])),rfl,(aR (ae (dv 0) (ae (dv 1) ai)) (by decide))⟩))
  (ao (aE (ax aw (dv 7) af (fun _ _=>rfl)) (bM 5 nd)))) (ao (b0 (DW.dt (sX (bL (eJ hu) (ax aw (dv 7) af (fun _ _=>rfl)) fS (bg _) jR) (pC (bL kL (aW pN rfl T.z_abs rfl (ae (ax aw (ax aw (dv 7) af (fun _ _=>rfl)) af (fun _ _=>rfl)) ai)) (ay aZ af (ax aw (ax aw (dv 7) af (fun _ _=>rfl)) af (fun _ _=>rfl))) (bg _) m6)))) (ak (lr (i:=8) rfl (oZ 8 nd) (scX:=aA e9) (NX:=gx) (N:=["_law_one","_law_far"]) (k:=1) (fv:=[5]) rfl ox rfl rfl (bE (au (sH T) hr (ae (dv 6) (ae (ax aw (dv 7) af (fun _ _=>rfl)) ai)))) (aS (by decide)) (fun _ _ _ _=>⟨(bM 0 (nod ["_law_one","_law_far"])),rfl,(aR (ae (dv 1) (ae (dv 0) ai)) (by decide))⟩))
  (ak (aE (au (kI T) hr (ae (dv 6) (ae (ax aw (dv 7) af (fun _ _=>rfl)) ai))) (bM 6 nd))
  (ao (aE (au (bG T) hr (ae (ay ca (ax aw (dv 6) af (fun _ _=>rfl)) (ay aZ af (ax aw (dv 6) af (fun _ _=>rfl)))) (ae (ax aw (dv 6) af (fun _ _=>rfl)) ai))) (bM 6 nd))))) (ao (aC io)))))
  (ao (b0 (cD (cg (scX:=aA e9) (NX:=gx) (N:=["_law_one","_law_due","_law_sheet_here"]) (k:=1) (fv:=[4,0]) rfl ox rfl rfl (bE (dv 8)) (aS (by decide)) (fun _ _ _ _=>⟨(bM 0 (nod ["_law_one","_law_due","_law_sheet_here"])),(bL (kK hu) (au (ib T) hr (ae (dv 2) (ae (dv 0) ai))) (dv 1) (bg _) kQ),(dv 0)⟩))) (ao (aC io)) br)))))
  (ao (aC (aR (ae (dv 5) (ae (dv 6) ai)) (by decide))))))))
abbrev AC:List Str:=["_law_script","_law_cell_here","_law_sheet_here","_law_points","_law_one","_law_other","_law_moves","_law_things","_law_more","_law_thing","_law_told"]
def Bz (T:fx K mg):fy P w base T.x46 7 q8 :=
 aQ AC 6 22 uQ rfl fun _ _ _ _ _ _ nd hr hu =>
  (ak (eF PassesOwn.never rfl (bE (yx 2 (dv 0))) (bM 1 nd)
  (ak (aE (au (nA T) hr (ae (dv 1) (ae af (ae af ai)))) (bM 2 nd))
  (ak (lr (i:=3) rfl (oZ 3 nd) (scX:=aA wJ) (NX:=AC) (N:=["_law_more"]) (k:=1) (fv:=[]) rfl ox rfl rfl (bE (iV (dv 0) (dL af) (dL af))) (aS (by decide)) (fun _ _ _ _=>⟨(bM 0 (nod ["_law_more"])),rfl,(au (nB T) hr (ae (dv 0) (ae af ai)))⟩))
  (ao (eF PassesOwn.never rfl (bE (yx 2 (dv 3))) (bM 4 nd)
  (ao (eF PassesOwn.never rfl (bE (dv 3)) (bM 5 nd)
  (ak (aE (au (By T) hr (ae (dv 2) (ae (dv 4) (ae (dv 5) ai)))) (bM 6 nd))
  (ak (b0 (bL (eJ hu) (B8 (dv 6)) (au (o7 T) hr (ae (dv 2) (ae (dv 4) (ae (dv 5) ai)))) (bg _) jR) (ao (aC gX)) br)
  (ak (b0 (oq (dv 6)) (ao (b0 (DW.dt (jL (bL (kK hu) (au (kJ T) hr (ae (dv 2) (ae (dv 4) (ae (dv 6) (ae af ai))))) (dv 5) (bg _) kQ) (ik (ym (au (nY T) hr (ae (dv 2) (ae (dv 4) (ae (dv 5) (ae (dv 6) ai))))))))) (ao (aC gX)) br)) br)
  (ak (ft (n:=11) (i:=7) rfl (by decide) (fR (ae io (ae (aR ai (by decide)) (ae (aR (ae (aR (ae fS (ae (aR (ae af (ae af ai)) (by decide)) ai)) (by decide)) ai) (by decide)) ai))) (by decide)) (oZ 7 nd))
  (ak (eF PassesOwn.never rfl (bE (iV (dv 0) (dL af) (dL af))) (bM 8 nd)
  (ao (jf (n:=11) (i:=7) rfl (by decide) rfl (pv 7) (au (mf T) hr (ae (B6 (dv 6) (ko (aR (ae (aR (ae fS (ae (ax aw (dv 5) af (fun _ _=>rfl)) ai)) (by decide)) ai) (by decide)))) (ae (dv 8) ai))))))
  (fG (n:=11) (is:=[7]) rfl (by decide) rfl (ao (eF PassesOwn.never rfl (bE (dv 7)) (bM 9 nd)
  (ak (aE (au (nY T) hr (ae (dv 2) (ae (dv 4) (ae (dv 5) (ae (dv 9) ai))))) (bM 10 nd))
  (ao (b0 (DW.dt (jL (dJ (cD (fT .bool rfl T.z_isinstance rfl T.z_bool rfl (dv 10)))) (ik (bL (kK hu) (dv 10) (eG (eJ hu) (au (kJ T) hr (ae (dv 2) (ae (dv 4) (ae (dv 9) (ae af ai))))) (dv 5) (bg _)) (bg _) kQ)))) (ao (aC gX)) br))))))))))))))))))
  (ao (aC gX)))
end
set_option maxHeartbeats 0 in
def all_mk {l:PySem.W.OpenLaw}{w:World}{K:PySem.W.Frag}{h:Heap}{mg:Str->Option Value}{fa:Addr}(X:K.In h)(G:h.Ns mainGlobals mg)(hfa:mg "law"=some (.ref fa))
 (x0:FnI K "_law_mix" lM)
 (x1:FnI K "_law_piece" jw)
 (x2:FnI K "_law_sheet" gm)
 (x3:FnI K "_law_fraction" gQ)
 (x4:FnI K "_law_point" jv)
 (x5:FnI K "span_of" nM)
 (x6:FnI K "edges_of" lK)
 (x7:FnI K "cell_beside" iN)
 (x8:FnI K "neighbours" gk)
 (x9:FnI K "hanging_with" hW)
 (x10:FnI K "whole_part" jt)
 (x11:FnI K "cell_at" j8)
 (x12:FnI K "turns_of" i4)
 (x13:FnI K "cells_of" i6)
 (x14:FnI K "cell_layers" dQ)
 (x15:FnI K "point_in_cell" gO)
 (x16:FnI K "points_through" dF)
 (x17:FnI K "common_divisor" fY)
 (x18:FnI K "lowest" qt)
 (x19:FnI K "added" tU)
 (x20:FnI K "from_0_on" kF)
 (x21:FnI K "opposite" lI)
 (x22:FnI K "shortest" lH)
 (x23:FnI K "moves_between" gP)
 (x24:FnI K "cells_up_to" iM)
 (x25:FnI K "way" An)
 (x26:FnI K "same_face" kC)
 (x27:FnI K "ends_at" nO)
 (x28:FnI K "end_of" qv)
 (x29:FnI K "is_far" qu)
 (x30:FnI K "is_at_most_a_turn" eI)
 (x31:FnI K "is_tuple_of" iL)
 (x32:FnI K "is_lowest" kE)
 (x33:FnI K "is_whole" lJ)
 (x34:FnI K "is_fraction" fM)
 (x35:FnI K "is_move" nN)
 (x36:FnI K "cells_on" i5)
 (x37:FnI K "is_way" ju)
 (x38:FnI K "_law_spoilt" iO)
 (x39:FnI K "_law_has" lN)
 (x40:FnI K "_law_layers" fN)
 (x41:FnI K "_law_is_fraction" db)
 (x42:FnI K "_law_sum" lL)
 (x43:FnI K "_law_out" i7)
 (x44:FnI K "_law_on" j9)
 (x45:FnI K "_law_end" e9)
 (x46:FnI K "law" wJ)
 {tk0:Tok}
 {tk1:Tok}
 {tk2:Tok}
 (v0:PySem.W.nsIn K mainGlobals "WHOLE_TURN"=some (some (.int 24 tk0)))
 (v1:PySem.W.nsIn K mainGlobals "OUT"=some (some (.str "out" tk1)))
 (v2:PySem.W.nsIn K mainGlobals "ON"=some (some (.str "on" tk2)))
 (z0:PySem.W.nsIn K mainGlobals "abs"=some none)
 (z1:PySem.W.nsIn K mainGlobals "all"=some none)
 (z2:PySem.W.nsIn K mainGlobals "bool"=some none)
 (z3:PySem.W.nsIn K mainGlobals "enumerate"=some none)
 (z4:PySem.W.nsIn K mainGlobals "int"=some none)
 (z5:PySem.W.nsIn K mainGlobals "isinstance"=some none)
 (z6:PySem.W.nsIn K mainGlobals "len"=some none)
 (z7:PySem.W.nsIn K mainGlobals "list"=some none)
 (z8:PySem.W.nsIn K mainGlobals "max"=some none)
 (z9:PySem.W.nsIn K mainGlobals "min"=some none)
 (z10:PySem.W.nsIn K mainGlobals "range"=some none)
 (z11:PySem.W.nsIn K mainGlobals "reversed"=some none)
 (z12:PySem.W.nsIn K mainGlobals "set"=some none)
 (z13:PySem.W.nsIn K mainGlobals "sorted"=some none)
 (z14:PySem.W.nsIn K mainGlobals "tuple"=some none)
 (z15:PySem.W.nsIn K mainGlobals "zip"=some none) :
 ∃fd:FuncData,(∀(s:Shared) (v:Value),BindsTo s fd ⟨[v],[]⟩ [("_law_script",v)])/\∀base:Heap,K.In base->base.Ns mainGlobals mg->iu l.prog w K mg base nq 7 fa fd ["_law_script"] (Am K q8):=by
 cases hfa.symm.trans (PySem.W.mg_of X G x46.a);have hb:∀(s:Shared) (v:Value),BindsTo s x46.fd ⟨[v],[]⟩ [("_law_script",v)]:=by
  obtain⟨_,_,_,_,_,_,_,_,_,e,_⟩:=x46.F.ex;rw[e];exact fun s v=>.of_eq rfl
 exact⟨x46.fd,hb,fun base _ _=>Bz (T:={
  x0:=x0.g X G,
  x1:=x1.g X G,
  x2:=x2.g X G,
  x3:=x3.g X G,
  x4:=x4.g X G,
  x5:=x5.g X G,
  x6:=x6.g X G,
  x7:=x7.g X G,
  x8:=x8.g X G,
  x9:=x9.g X G,
  x10:=x10.g X G,
  x11:=x11.g X G,
  x12:=x12.g X G,
  x13:=x13.g X G,
  x14:=x14.g X G,
  x15:=x15.g X G,
  x16:=x16.g X G,
  x17:=x17.g X G,
  x18:=x18.g X G,
  x19:=x19.g X G,
  x20:=x20.g X G,
  x21:=x21.g X G,
  x22:=x22.g X G,
  x23:=x23.g X G,
  x24:=x24.g X G,
  x25:=x25.g X G,
  x26:=x26.g X G,
  x27:=x27.g X G,
  x28:=x28.g X G,
  x29:=x29.g X G,
  x30:=x30.g X G,
  x31:=x31.g X G,
  x32:=x32.g X G,
  x33:=x33.g X G,
  x34:=x34.g X G,
  x35:=x35.g X G,
  x36:=x36.g X G,
  x37:=x37.g X G,
  x38:=x38.g X G,
  x39:=x39.g X G,
  x40:=x40.g X G,
  x41:=x41.g X G,
  x42:=x42.g X G,
  x43:=x43.g X G,
  x44:=x44.g X G,
  x45:=x45.g X G,
  x46:=x46.g X G,
  k_WHOLE_TURN:=tk0,c2:=PySem.W.mg_of X G v0,
  k_OUT:=tk1,c1:=PySem.W.mg_of X G v1,
  k_ON:=tk2,c0:=PySem.W.mg_of X G v2,
  z_abs:=PySem.W.mg_none_of X G z0,
  z_all:=PySem.W.mg_none_of X G z1,
  z_bool:=PySem.W.mg_none_of X G z2,
  z_enumerate:=PySem.W.mg_none_of X G z3,
  z_int:=PySem.W.mg_none_of X G z4,
  z_isinstance:=PySem.W.mg_none_of X G z5,
  z_len:=PySem.W.mg_none_of X G z6,
  z_list:=PySem.W.mg_none_of X G z7,
  z_max:=PySem.W.mg_none_of X G z8,
  z_min:=PySem.W.mg_none_of X G z9,
  z_range:=PySem.W.mg_none_of X G z10,
  z_reversed:=PySem.W.mg_none_of X G z11,
  z_set:=PySem.W.mg_none_of X G z12,
  z_sorted:=PySem.W.mg_none_of X G z13,
  z_tuple:=PySem.W.mg_none_of X G z14,
  z_zip:=PySem.W.mg_none_of X G z15 })⟩
def walk {l:PySem.W.OpenLaw}{q:Program}{loose:List Str}{XP:(Str->Option Value)->Heap->Prop}{YP:World->Heap->Prop}{d:DefRec}{K:Params->PySem.W.Frag}(hn:l.most=some 63)(hdf:d.params.defaults=[])
 (hY:∀(w:World) (h:Heap),YP w h->(K w.params).In h)
 (F:∀(w:World) (mg:Str->Option Value) (fa:Addr) (h:Heap),(K w.params).In h->h.Ns mainGlobals mg->mg d.name=some (.ref fa) ->
  ∃fd:FuncData,(∀(s:Shared) (u:Value),BindsTo s fd ⟨[u],[]⟩ [("_law_script",u)])/\∀base:Heap,(K w.params).In base->base.Ns mainGlobals mg->iu l.prog w (K w.params) mg base nq 7 fa fd ["_law_script"] (Am (K w.params) q8)) :
 PySem.W.WalkO q loose XP YP l.row.toRowW d [] (fun f vs=>PySem.call f vs) :=
 L2.walk_of (n:=63) (k:=7) (x:="_law_script") (CX:=fun _=>nq) (sp:=fun w=>Am (K w.params) q8) hn (by decide) hdf ⟨rfl,by decide,by decide⟩ hY F
  (fun w H a ns hl _ hS=>⟨[],[.lst (ns.map .int)],.bl true,(fun _ z=>absurd z (by simp)),hide_nil.symm ▸ .cons (.lst hS (Dens.ints ns)) .nil,CT ns,fun v H' _ r=>r.bl_inv⟩) fun _ _ _ _ _ z=>z
end DL.K06
open PySem PySem.W PyProof.Rows
namespace PySem.W.Fast
def tw9703535888367585520:=0
def tw641223618870654545:=0
def tw2863696661837514017:=0
def tw13717689399357601708:=0
def tw15738574766958785766:=0
def tw216397762132081108:=0
def tw16596948488953563661:=0
def tw12773459762211174202:=0
def tw14925835127480478035:=0
def tw7895783156919043745:=0
def tw11948951436562335025:=0
def tw18104141751349278049:=0
def tw14994561532216954097:=0
def tw5492595153053054824:=0
def tw122054662338803789:=0
def tw6324357861324412636:=0
def tw5448546891398488990:=0
def tw15098312984854831117:=0
def tw679105983432582478:=0
def tw13214715092089359804:=0
def tw4591181800501913397:=0
def tw13011096726401486183:=0
def tw12516591234188447941:=0
def tw4407183004874270087:=0
def tw16322807083493989473:=0
def tw3935600528384856490:=0
def tw12527399505995054823:=0
def tw3594099270270670797:=0
def tw13828298137676950071:=0
def tw10527849006639821370:=0
def tw16845368385931578949:=0
def tw17218073275228496913:=0
def tw14366922976103345714:=0
def tw16890011202722382878:=0
def tw4963451607647264020:=0
def tw3324573019026699605:=0
def tw917155448966586589:=0
def tw6099288434227161430:=0
def tw9497012709536689652:=0
def tw5057926982944013887:=0
def tw3382199105602088365:=0
def tw16851280914383782502:=0
def tw171842731259501064:=0
def tw6559450576835546694:=0
def tw12589138698946936418:=0
def tw8007032687416730980:=0
def tw7596405586260622717:=0
def tw7075509461513018090:=0
def tw17904972803198818798:=0
def tw4593778687688466083:=0
def tw15256668200015540293:=0
def tw6154852202957908810:=0
def tw2884552312836348476:=0
def tw16637583135291030974:=0
def tw852386423510707100:=0
def tw4727815791947053655:=0
def tw14429588048694712348:=0
def tw15163332072667116541:=0
def tw13189523355802453844:=0
def tw16296484215258942661:=0
def tw9428949637275086396:=0
def tw12051423185814868787:=0
def tw13035111054670280912:=0
def tw1420031882299659326:=0
def tw13634488834837809715:=0
def tw1759309288973857708:=0
def tw15197687161860866343:=0
def tw12082269453298870261:=0
def tw14021010546458995175:=0
def tw4566678810951895937:=0
def tw17654077126124293052:=0
def tw16397172228501795498:=0
def tw6177224322840989371:=0
def tw15479287428330239851:=0
def tw10402738441467694763:=0
def tw4697829957713375941:=0
def tw10985089132001013794:=0
def tw10652889274333428001:=0
def tw165474083405515315:=0
def tw9072056408683990134:=0
def tw6504010463994921685:=0
def tw5802294180246746556:=0
def tw15403188505351530868:=0
def tw11821197597353714084:=0
def tw15131521174072185806:=0
def tw10711692014697702012:=0
def tw15637435857746731919:=0
def tw13274614240138418890:=0
def tw13116436166214108135:=0
def tw8527151387469173213:=0
def tw10081364833317829156:=0
def tw13182551553193107817:=0
def tw3227355928895094809:=0
def tw583453673860993489:=0
def tw6785959170392955510:=0
def tw10378852460776819388:=0
def tw13267876035538881481:=0
def tw13562364231152935650:=0
def tw12979405657215520808:=0
def tw11016537071619894968:=0
def tw10372107321528155634:=0
def tw2656577524516770107:=0
def tw6723695075732047682:=0
def tw10524979751436289786:=0
def tw4321545706783207502:=0
def tw13773343322246864119:=0
def tw6682566507458070399:=0
def tw15519957871686301769:=0
def tw17260849952717040487:=0
def tw10732278337104381934:=0
def tw5936226649589015821:=0
def tw6684099159471975714:=0
def tw2995597962097604935:=0
def tw5204076248423149497:=0
def tw17927914794336487363:=0
def tw5419507295772426975:=0
def tw11418601360606420841:=0
def tw2942512668430251457:=0
def tw16581731192082640539:=0
def tw16295761641128797755:=0
def tw3672908706030036533:=0
def tw10504835671564927567:=0
def tw718849495043478108:=0
def tw7151625244332127854:=0
def tw15113734641462537077:=0
def tw17180822112882813416:=0
def tw10610193502291202222:=0
def tw9752537867999991773:=0
def tw9715357310172645815:=0
def tw8146446488796459581:=0
def tw17493149515165877695:=0
def tw14917568835769632577:=0
def tw12152196165944447067:=0
def tw12106614584872831886:=0
def tw13052529651767874591:=0
def tw7768283139781775120:=0
def tw8460394997885027144:=0
def tw8425647281146773827:=0
def tw8379677050862048615:=0
def tw7706793137938195094:=0
def tw7268306333335387339:=0
def tw7085523865910717468:=0
def tw6876097440717302882:=0
def tw6870364764540900392:=0
def tw6166161344122236171:=0
def tw5946356036081587807:=0
def tw5909700599431283774:=0
def tw4179440576499248946:=0
def tw3841893198070077880:=0
def tw3831990207027353710:=0
end PySem.W.Fast
set_option maxRecDepth 100000 in
set_option maxHeartbeats 0 in
theorem PySem.Challenge.cw_ringlayers_k06_whole_ways_holds : PySem.Challenge.rw_ringlayers_k06_whole_ways.Holds := by
 w_on;o_law;k_head;(case hw=>w_witness2)
 k_fill
 refine DL.K06.walk (l:=PySem.Challenge.rw_ringlayers_k06_whole_ways) rfl rfl (fun w h Y=>PySem.W.kIn_of Y) ?F
 case F =>
  intro w mg fa h KX G hmg;refine' DL.K06.all_mk KX G hmg (DL.fnI ?a0 ?l0 ?c0 ?k0) (DL.fnI ?a1 ?l1 ?c1 ?k1) (DL.fnI ?a2 ?l2 ?c2 ?k2) (DL.fnI ?a3 ?l3 ?c3 ?k3) (DL.fnI ?a4 ?l4 ?c4 ?k4) (DL.fnI ?a5 ?l5 ?c5 ?k5) (DL.fnI ?a6 ?l6 ?c6 ?k6) (DL.fnI ?a7 ?l7 ?c7 ?k7) (DL.fnI ?a8 ?l8 ?c8 ?k8) (DL.fnI ?a9 ?l9 ?c9 ?k9) (DL.fnI ?a10 ?l10 ?c10 ?k10) (DL.fnI ?a11 ?l11 ?c11 ?k11) (DL.fnI ?a12 ?l12 ?c12 ?k12) (DL.fnI ?a13 ?l13 ?c13 ?k13) (DL.fnI ?a14 ?l14 ?c14 ?k14) (DL.fnI ?a15 ?l15 ?c15 ?k15) (DL.fnI ?a16 ?l16 ?c16 ?k16) (DL.fnI ?a17 ?l17 ?c17 ?k17) (DL.fnI ?a18 ?l18 ?c18 ?k18) (DL.fnI ?a19 ?l19 ?c19 ?k19) (DL.fnI ?a20 ?l20 ?c20 ?k20) (DL.fnI ?a21 ?l21 ?c21 ?k21) (DL.fnI ?a22 ?l22 ?c22 ?k22) (DL.fnI ?a23 ?l23 ?c23 ?k23) (DL.fnI ?a24 ?l24 ?c24 ?k24) (DL.fnI ?a25 ?l25 ?c25 ?k25) (DL.fnI ?a26 ?l26 ?c26 ?k26) (DL.fnI ?a27 ?l27 ?c27 ?k27) (DL.fnI ?a28 ?l28 ?c28 ?k28) (DL.fnI ?a29 ?l29 ?c29 ?k29) (DL.fnI ?a30 ?l30 ?c30 ?k30) (DL.fnI ?a31 ?l31 ?c31 ?k31) (DL.fnI ?a32 ?l32 ?c32 ?k32) (DL.fnI ?a33 ?l33 ?c33 ?k33) (DL.fnI ?a34 ?l34 ?c34 ?k34) (DL.fnI ?a35 ?l35 ?c35 ?k35) (DL.fnI ?a36 ?l36 ?c36 ?k36) (DL.fnI ?a37 ?l37 ?c37 ?k37) (DL.fnI ?a38 ?l38 ?c38 ?k38) (DL.fnI ?a39 ?l39 ?c39 ?k39) (DL.fnI ?a40 ?l40 ?c40 ?k40) (DL.fnI ?a41 ?l41 ?c41 ?k41) (DL.fnI ?a42 ?l42 ?c42 ?k42) (DL.fnI ?a43 ?l43 ?c43 ?k43) (DL.fnI ?a44 ?l44 ?c44 ?k44) (DL.fnI ?a45 ?l45 ?c45 ?k45) (DL.fnI ?a46 ?l46 ?c46 ?k46) ?v0 ?v1 ?v2 ?z0 ?z1 ?z2 ?z3 ?z4 ?z5 ?z6 ?z7 ?z8 ?z9 ?z10 ?z11 ?z12 ?z13 ?z14 ?z15
  (case a0=>k_is)
  (case l0=>k_is)
  (case c0=>k_is)
  (case k0=>k_is)
  (case a1=>k_is)
  (case l1=>k_is)
  (case c1=>k_is)
  (case k1=>k_is)
  (case a2=>k_is)
  (case l2=>k_is)
  (case c2=>k_is)
  (case k2=>k_is)
  (case a3=>k_is)
  (case l3=>k_is)
  (case c3=>k_is)
  (case k3=>k_is)
  (case a4=>k_is)
  (case l4=>k_is)
  (case c4=>k_is)
  (case k4=>k_is)
  (case a5=>k_is)
  (case l5=>k_is)
  (case c5=>k_is)
  (case k5=>k_is)
  (case a6=>k_is)
  (case l6=>k_is)
  (case c6=>k_is)
  (case k6=>k_is)
  (case a7=>k_is)
  (case l7=>k_is)
  (case c7=>k_is)
  (case k7=>k_is)
  (case a8=>k_is)
  (case l8=>k_is)
  (case c8=>k_is)
  (case k8=>k_is)
  (case a9=>k_is)
  (case l9=>k_is)
  (case c9=>k_is)
  (case k9=>k_is)
  (case a10=>k_is)
  (case l10=>k_is)
  (case c10=>k_is)
  (case k10=>k_is)
  (case a11=>k_is)
  (case l11=>k_is)
  (case c11=>k_is)
  (case k11=>k_is)
  (case a12=>k_is)
  (case l12=>k_is)
  (case c12=>k_is)
  (case k12=>k_is)
  (case a13=>k_is)
  (case l13=>k_is)
  (case c13=>k_is)
  (case k13=>k_is)
  (case a14=>k_is)
  (case l14=>k_is)
  (case c14=>k_is)
  (case k14=>k_is)
  (case a15=>k_is)
  (case l15=>k_is)
  (case c15=>k_is)
  (case k15=>k_is)
  (case a16=>k_is)
  (case l16=>k_is)
  (case c16=>k_is)
  (case k16=>k_is)
  (case a17=>k_is)
  (case l17=>k_is)
  (case c17=>k_is)
  (case k17=>k_is)
  (case a18=>k_is)
  (case l18=>k_is)
  (case c18=>k_is)
  (case k18=>k_is)
  (case a19=>k_is)
  (case l19=>k_is)
  (case c19=>k_is)
  (case k19=>k_is)
  (case a20=>k_is)
  (case l20=>k_is)
  (case c20=>k_is)
  (case k20=>k_is)
  (case a21=>k_is)
  (case l21=>k_is)
  (case c21=>k_is)
  (case k21=>k_is)
  (case a22=>k_is)
  (case l22=>k_is)
  (case c22=>k_is)
  (case k22=>k_is)
  (case a23=>k_is)
  (case l23=>k_is)
  (case c23=>k_is)
  (case k23=>k_is)
  (case a24=>k_is)
  (case l24=>k_is)
  (case c24=>k_is)
  (case k24=>k_is)
  (case a25=>k_is)
  (case l25=>k_is)
  (case c25=>k_is)
  (case k25=>k_is)
  (case a26=>k_is)
  (case l26=>k_is)
  (case c26=>k_is)
  (case k26=>k_is)
  (case a27=>k_is)
  (case l27=>k_is)
  (case c27=>k_is)
  (case k27=>k_is)
  (case a28=>k_is)
  (case l28=>k_is)
  (case c28=>k_is)
  (case k28=>k_is)
  (case a29=>k_is)
  (case l29=>k_is)
  (case c29=>k_is)
  (case k29=>k_is)
  (case a30=>k_is)
  (case l30=>k_is)
  (case c30=>k_is)
  (case k30=>k_is)
  (case a31=>k_is)
  (case l31=>k_is)
  (case c31=>k_is)
  (case k31=>k_is)
  (case a32=>k_is)
  (case l32=>k_is)
  (case c32=>k_is)
  (case k32=>k_is)
  (case a33=>k_is)
  (case l33=>k_is)
  (case c33=>k_is)
  (case k33=>k_is)
  (case a34=>k_is)
  (case l34=>k_is)
  (case c34=>k_is)
  (case k34=>k_is)
  (case a35=>k_is)
  (case l35=>k_is)
  (case c35=>k_is)
  (case k35=>k_is)
  (case a36=>k_is)
  (case l36=>k_is)
  (case c36=>k_is)
  (case k36=>k_is)
  (case a37=>k_is)
  (case l37=>k_is)
  (case c37=>k_is)
  (case k37=>k_is)
  (case a38=>k_is)
  (case l38=>k_is)
  (case c38=>k_is)
  (case k38=>k_is)
  (case a39=>k_is)
  (case l39=>k_is)
  (case c39=>k_is)
  (case k39=>k_is)
  (case a40=>k_is)
  (case l40=>k_is)
  (case c40=>k_is)
  (case k40=>k_is)
  (case a41=>k_is)
  (case l41=>k_is)
  (case c41=>k_is)
  (case k41=>k_is)
  (case a42=>k_is)
  (case l42=>k_is)
  (case c42=>k_is)
  (case k42=>k_is)
  (case a43=>k_is)
  (case l43=>k_is)
  (case c43=>k_is)
  (case k43=>k_is)
  (case a44=>k_is)
  (case l44=>k_is)
  (case c44=>k_is)
  (case k44=>k_is)
  (case a45=>k_is)
  (case l45=>k_is)
  (case c45=>k_is)
  (case k45=>k_is)
  (case a46=>k_is)
  (case l46=>k_is)
  (case c46=>k_is)
  (case k46=>k_is)
  (case v0=>k_is)
  (case v1=>k_is)
  (case v2=>k_is)
  (case z0=>k_is)
  (case z1=>k_is)
  (case z2=>k_is)
  (case z3=>k_is)
  (case z4=>k_is)
  (case z5=>k_is)
  (case z6=>k_is)
  (case z7=>k_is)
  (case z8=>k_is)
  (case z9=>k_is)
  (case z10=>k_is)
  (case z11=>k_is)
  (case z12=>k_is)
  (case z13=>k_is)
  (case z14=>k_is)
  (case z15=>k_is)