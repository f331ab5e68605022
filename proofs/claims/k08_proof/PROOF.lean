import PyProof.Rows.All
import Wide.All
import OpenK.AllK
import Wide.FinOn
import Lean
import PyProof.EqAt
import PyProof.EqKinds
import PyProof.TupleCall
import PySem.Challenge.RW_ringlayers_k08_whole_boards
noncomputable section
set_option Elab.async false
set_option linter.all false
set_option maxRecDepth 100000
namespace L2
open PySem PySem.Spec PyProof.Rows
abbrev Key:=Sum Int Str
noncomputable def tY:Key->Value->Bool
 | .inl k,v=>Value.isInt k v
 | .inr x,v=>Value.isStrOf x v
noncomputable def Sv (w:World):Key->Int
 | .inl k=>hashInt k
 | .inr x=>hashStr w x
def bM:∀{k:Key} {v:Value},tY k v=true->(∃i t,k=Sum.inl i/\v=Value.int i t)\/(∃x t,k=Sum.inr x/\v=Value.str x t)
 | .inl i,v,h=>by
   obtain⟨t,e⟩:=Value.isInt_shape (k:=i) (v:=v) h;exact .inl ⟨i,t,rfl,e⟩
 | .inr x,v,h=>by
   obtain⟨t,e⟩:=Value.isStrOf_shape (x:=x) (v:=v) h;exact .inr ⟨x,t,rfl,e⟩
def Do (i:Int)(t:Tok):tY (.inl i) (.int i t)=true:=by simp[tY,Value.isInt]
def Dn (x:Str)(t:Tok):tY (.inr x) (.str x t)=true:=by simp[tY,Value.isStrOf]
def O8 (a b:Int):decide ((Sum.inl a:Key)=Sum.inl b)=(a==b):=by
 by_cases e:a=b
 ·subst e;simp
 ·have h:¬ (Sum.inl a:Key)=Sum.inl b:=fun q=>e (Sum.inl.inj q);rw[decide_eq_false h];exact(beq_eq_false_iff_ne.mpr e).symm
def O5 (a b:Str):decide ((Sum.inr a:Key)=Sum.inr b)=decide (a=b):=by
 by_cases e:a=b
 ·subst e;simp
 ·have h:¬ (Sum.inr a:Key)=Sum.inr b:=fun q=>e (Sum.inr.inj q);rw[decide_eq_false h,decide_eq_false e]
def O7 (a:Int)(b:Str):decide ((Sum.inl a:Key)=Sum.inr b)=false:=decide_eq_false (fun q=>nomatch q)
def O6 (a:Str)(b:Int):decide ((Sum.inr a:Key)=Sum.inl b)=false:=decide_eq_false (fun q=>nomatch q)
def aM (prog:Program)(w:World):PySem.KeyKind prog w Key where
 is:=tY
 hash:=Sv w
 inj:=fun v a b ha hb=>by
  rcases bM ha with ⟨i,t,rfl,rfl⟩ | ⟨x,t,rfl,rfl⟩
  ·rcases bM hb with ⟨j,u,rfl,e⟩ | ⟨y,u,rfl,e⟩
   ·injection e with e1 _;rw[e1]
   ·exact nomatch e
  ·rcases bM hb with ⟨j,u,rfl,e⟩ | ⟨y,u,rfl,e⟩
   ·exact nomatch e
   ·injection e with e1 _;rw[e1]
 byValue:=fun k v h=>by
  rcases bM h with ⟨i,t,rfl,rfl⟩ | ⟨x,t,rfl,rfl⟩ <;> rfl
 pyHash:=fun hv h=>by
  rcases bM hv with ⟨i,t,rfl,rfl⟩ | ⟨x,t,rfl,rfl⟩
  ·exact wpAny_pyHash_int h
  ·exact wpAny_pyHash_str h
 eqBool:=fun hu hv h=>by
  rcases bM hu with ⟨i,t,rfl,rfl⟩ | ⟨x,t,rfl,rfl⟩
  ·rcases bM hv with ⟨j,u,rfl,rfl⟩ | ⟨y,u,rfl,rfl⟩
   ·rw[O8] at h;exact wpAny_eqBool_int h
   ·rw[O7] at h;exact SeqAt.EqAt.int_str i t y u _ _ _ _ h
  ·rcases bM hv with ⟨j,u,rfl,rfl⟩ | ⟨y,u,rfl,rfl⟩
   ·rw[O6] at h;exact SeqAt.EqAt.str_int x t j u _ _ _ _ h
   ·rw[O5] at h;exact wpAny_eqBool_str h
 «strs»:=fun k x t v h=>by
  rcases bM h with ⟨i,u,rfl,e⟩ | ⟨y,u,rfl,e⟩
  ·exact nomatch e
  ·injection e with e1 _;subst e1;cases v <;> rfl
def wX (prog:Program)(w:World)(i:Int)(t:Tok):(aM prog w).is (.inl i) (.int i t)=true:=Do i t
def wW (prog:Program)(w:World)(x:Str)(t:Tok):(aM prog w).is (.inr x) (.str x t)=true:=Dn x t
inductive V where
 | non | bl (b:Bool) | int (i:Int) | str (x:Str) | byt (b:Array UInt8) | flt (b:UInt64) | ref (a:Addr) | ty (n:String)
 deriving DecidableEq
noncomputable def RelV:V->Value->Prop
 | .non,u=>u=Value.none
 | .bl b,u=>u=Value.bool b
 | .int i,u=>∃t,u=Value.int i t
 | .str x,u=>∃t,u=Value.str x t
 | .byt b,u=>∃t,u=Value.bytes b t
 | .flt b,u=>∃t,u=Value.float b t
 | .ref a,u=>u=Value.ref a
 | .ty n,u=>u=Value.type n
abbrev Vals:List V->List Value->Prop:=Paired RelV
def Vals.length {xs:List V}{us:List Value}(r:Vals xs us):xs.length=us.length:=Paired.length r
def Vals.get:∀{xs:List V} {us:List Value} {i:Nat} {x:V},Vals xs us->xs[i]? = some x->∃u,us[i]? = some u/\RelV x u
 | _,_,_,_,.nil,e=>by simp at e
 | _,_,0,_,.cons r _,e=>by simp at e;subst e;exact⟨_,rfl,r⟩
 | _,_,i+1,x,.cons _ t,e=>by
   obtain⟨u,h1,h2⟩:=Vals.get (i:=i) (x:=x) t (by simpa using e);exact⟨u,by simpa using h1,h2⟩
def Vals.set {x:V}{u:Value}(r:RelV x u):∀{xs:List V} {us:List Value} (i:Nat),Vals xs us->Vals (xs.set i x) (us.set i u)
 | _,_,_,.nil=>.nil
 | _,_,0,.cons _ t=>.cons r t
 | _,_,i+1,.cons q t=>.cons q (Vals.set r i t)
def Vals.append:∀{xs ys:List V} {us ws:List Value},Vals xs us->Vals ys ws->Vals (xs++ys) (us++ws)
 | _,_,_,_,.nil,s=>s
 | _,_,_,_,.cons r t,s=>.cons r (Vals.append t s)
def Vals.take:∀{xs:List V} {us:List Value} (n:Nat),Vals xs us->Vals (xs.take n) (us.take n)
 | _,_,0,_=>.nil
 | _,_,_+1,.nil=>.nil
 | _,_,n+1,.cons r t=>.cons r (Vals.take n t)
def Vals.drop:∀{xs:List V} {us:List Value} (n:Nat),Vals xs us->Vals (xs.drop n) (us.drop n)
 | _,_,0,r=>r
 | _,_,_+1,.nil=>.nil
 | _,_,n+1,.cons _ t=>Vals.drop n t
def RelO:Option V->Option Value->Prop
 | some v,some u=>RelV v u
 | none,none=>True
 | _,_=>False
def KV {κ:Type}:List (κ×V)->List (κ×Value)->Prop:=Paired fun (p:κ×V) (q:κ×Value)=>p.1=q.1/\RelV p.2 q.2
noncomputable def kV:Key->V
 | .inl i=>.int i
 | .inr x=>.str x
inductive HO where
 | lst (xs:List V)
 | tup (xs:List V)
 | dK (kvs:List (Key×V)) | dT (kvs:List (List Key×V))
 | set (S:Int->Bool) (n:Nat)
 | ins (C dx:Addr) (fs:List (Str×V))
 | own (x:Addr)
 | xd (fs:List (Str×V))
 | met (f x:Addr)
 | rng (lo hi:Int)
 | frz (o:Obj) (u:HO)
 | tbl (ps:Array Value)
 | ext (φ:Heap->Prop)
abbrev Hp:=Addr->Option HO
noncomputable def upd (H:Hp)(a:Addr)(o:HO):Hp:=fun b=>if b=a then some o else H b
def az {H:Hp}{a:Addr}{o:HO}:upd H a o a=some o:=by unfold upd;rw[if_pos rfl]
def au {H:Hp}{a b:Addr}{o:HO}(h:b≠a):upd H a o b=H b:=by unfold upd;rw[if_neg h]
def JP {H:Hp}{a:Addr}{o u:HO}:upd (upd H a o) a u=upd H a u:=by
 funext b;unfold upd;split <;> rfl
def Rj {H:Hp}{a b:Addr}{o u:HO}(h:H a=some o)(h':H b=some u)(d:o≠u):a≠b:=by
 intro e;subst e;rw[h] at h';exact d (Option.some.inj h')
def aO {H:Hp}{a b:Addr}{o:HO}(h:H a=some o)(h':H b=none):a≠b:=by
 intro e;subst e;rw[h] at h';cases h'
section
variable (P:Program)(w:World)
def ObjOk (H:Hp)(h:Heap)(a:Addr):HO->Prop
 | .lst xs=>xs.length<=sizeLine/\∃(its:List Value) (n:Nat),Vals xs its/\h.get? a=some { cls:=.type "list",data:=.seq its.toArray n }
 | .tup xs=>xs.length<=sizeLine/\∃its:List Value,Vals xs its/\IsTup h a its.toArray
 | .dK kvs=>kvs.length<=sizeLine/\(a==sysModules)=false/\∃vs,KV kvs vs/\h.DictOf (aM P w) a vs
 | .dT kvs=>kvs.length<=sizeLine/\(a==sysModules)=false/\∃xs:List (List Key×Addr×Value),
  Paired (fun (p:List Key×V) (q:List Key×Addr×Value)=>p.1=q.1/\H q.2.1=some (.tup (p.1.map kV))/\RelV p.2 q.2.2) kvs xs /\
  ∃o es ep,h.get? a=some o/\o.ExactDict/\o.data=.dict es ep/\es.toList=xs.map (entryOfKey (tupleKind (aM P w)))/\(xs.map (·.1)).Nodup
 | .set S n=>h.SetOf (intKind P w) a S n
 | .ins C dx fs=>H dx=some (.own a)/\fs.length<=1000/\dx≠a/\h.get? a=some (PySem.W.instObj C dx) /\
  ∃mA,h.Ns1 dx mA/\(∀f,RelO (fs.lookup f) (mA f))/\PySem.Within mA (fs.map (·.1))
 | .own _=>∃o,h.get? a=some o
 | .xd fs=>∃mA,h.Ns1 a mA/\∀f,RelO (fs.lookup f) (mA f)
 | .rng lo hi=>∃t u v,h.get? a=some { cls:=.type "range",data:=.fields #[.int lo t,.int hi u,.int 1 v] }
 | .frz o u=>h.get? a=some o/\ObjOk H h a u
 | .tbl ps=>h.get? a=some { cls:=.none,data:=.fields ps }
 | .met f x=>h.get? a=some (PySem.W.methodObj (.ref f) (.ref x))
 | .ext φ=>φ h/\(∃o,h.get? a=some o)/\∀h1 h2:Heap,φ h1->(∀o,h1.get? a=some o->h2.get? a=some o)->φ h2
def HOk (H:Hp)(h:Heap):Prop:=∀a o,H a=some o->ObjOk P w H h a o
end
section
variable {P:Program}{w:World}{H H':Hp}{h h':Heap}{a:Addr}{o:HO}
def ObjOk.lt (x:ObjOk P w H h a o):a<h.objs.size:=by
 cases o with
 | lst xs=>obtain⟨_,_,_,_,e⟩:=x;exact Heap.lt_size e
 | tup xs=>obtain⟨_,_,_,p⟩:=x;exact p.lt
 | dK kvs=>obtain⟨_,_,_,_,o,_,_,e,_⟩:=x;exact Heap.lt_size e
 | dT kvs=>obtain⟨_,_,_,_,o,_,_,e,_⟩:=x;exact Heap.lt_size e
 | set S n=>obtain⟨o,_,_,_,e,_⟩:=x;exact Heap.lt_size e
 | ins C dx fs=>obtain⟨_,_,_,e,_⟩:=x;exact Heap.lt_size e
 | own y=>obtain⟨_,e⟩:=x;exact Heap.lt_size e
 | xd fs=>obtain⟨_,⟨_,_,_,e,_⟩,_⟩:=x;exact Heap.lt_size e
 | rng lo hi=>obtain⟨_,_,_,e⟩:=x;exact Heap.lt_size e
 | frz ob u=>obtain⟨e,_⟩:=x;exact Heap.lt_size e
 | tbl ps=>exact Heap.lt_size (show h.get? a=some _ from x)
 | met f y=>exact Heap.lt_size (show h.get? a=some _ from x)
 | ext φ=>obtain⟨_,⟨_,e⟩,_⟩:=x;exact Heap.lt_size e
def Paired.mapP {α β:Type}{F G:α->β->Prop}:∀{l₁:List α} {l₂:List β},Paired F l₁ l₂->(∀a b,F a b->G a b)->Paired G l₁ l₂
 | _,_,.nil,_=>.nil
 | _,_,.cons r t,f=>.cons (f _ _ r) (Paired.mapP t f)
def ObjOk.stay (x:ObjOk P w H h a o)(k:∀b u,(b=a\/H b=some (.own a))->h.get? b=some u->h'.get? b=some u)
 (ho:∀b,H b=some (.own a)->H' b=some (.own a)) (ht:∀b xs,H b=some (.tup xs)->H' b=some (.tup xs)):ObjOk P w H' h' a o:=by
 induction o with
 | lst xs=>obtain⟨z,its,n,r,e⟩:=x;exact⟨z,its,n,r,k _ _ (.inl rfl) e⟩
 | tup xs=>obtain⟨z,its,r,ob,e,c⟩:=x;exact⟨z,its,r,ob,k _ _ (.inl rfl) e,c⟩
 | dK kvs=>obtain⟨z,y,vs,r,ob,es,ep,e,c⟩:=x;exact⟨z,y,vs,r,ob,es,ep,k _ _ (.inl rfl) e,c⟩
 | dT kvs =>
   obtain⟨z,y,xs,r,ob,es,ep,e,c⟩:=x;exact⟨z,y,xs,Paired.mapP r fun p q z=>⟨z.1,ht _ _ z.2.1,z.2.2⟩,ob,es,ep,k _ _ (.inl rfl) e,c⟩
 | set S n=>obtain⟨ob,es,ep,t,e,c⟩:=x;exact⟨ob,es,ep,t,k _ _ (.inl rfl) e,c⟩
 | ins C dx fs =>
   obtain⟨d,z,ne,e,mA,⟨od,es,ep,e2,c⟩,r⟩:=x;exact⟨ho _ d,z,ne,k _ _ (.inl rfl) e,mA,⟨od,es,ep,k _ _ (.inr d) e2,c⟩,r⟩
 | own y=>obtain⟨ob,e⟩:=x;exact⟨ob,k _ _ (.inl rfl) e⟩
 | xd fs=>obtain⟨mA,⟨od,es,ep,e,c⟩,r⟩:=x;exact⟨mA,⟨od,es,ep,k _ _ (.inl rfl) e,c⟩,r⟩
 | rng lo hi=>obtain⟨t,u,v,e⟩:=x;exact⟨t,u,v,k _ _ (.inl rfl) e⟩
 | frz ob u ih=>obtain⟨e,q⟩:=x;exact⟨k _ _ (.inl rfl) e,ih q⟩
 | tbl ps =>
   have e:h.get? a=some { cls:=.none,data:=.fields ps }:=x;show h'.get? a=some { cls:=.none,data:=.fields ps };exact k a _ (.inl rfl) e
 | met f y =>
   have e:h.get? a=some (PySem.W.methodObj (.ref f) (.ref y)):=x;show h'.get? a=some (PySem.W.methodObj (.ref f) (.ref y));exact k a _ (.inl rfl) e
 | ext φ=>obtain⟨p,⟨o,e⟩,st⟩:=x;exact⟨st _ _ p fun o q=>k _ _ (.inl rfl) q,⟨o,k _ _ (.inl rfl) e⟩,st⟩
def HOk.lt (x:HOk P w H h)(e:H a=some o):a<h.objs.size:=(x a o e).lt
def HOk.fresh (x:HOk P w H h)(e:h.objs.size<=a):H a=none:=by
 cases q:H a with
 | none=>rfl
 | some u=>exact absurd (Nat.lt_of_lt_of_le (x.lt q) e) (Nat.lt_irrefl _)
def HOk.kept (x:HOk P w H h)(k:∀b u,h.get? b=some u->h'.get? b=some u):HOk P w H h':=fun a o e =>
 (x a o e).stay (fun b u _ q=>k b u q) (fun _ q=>q) fun _ _ q=>q
def HOk.laid (x:HOk P w H h)(k:∀b u,h.get? b=some u->h'.get? b=some u)(hp:h.objs.size<=a)(new:ObjOk P w (upd H a o) h' a o):HOk P w (upd H a o) h':=fun b u e=>by
 have hn:=x.fresh hp;by_cases hb:b=a
 ·subst hb;rw[az] at e;cases e;exact new
 ·rw[au hb] at e;exact(x b u e).stay (fun c v _ q=>k c v q) (fun c q=>by rw[au (aO q hn)];exact q) fun c xs q=>by rw[au (aO q hn)];exact q
end
def Rd (H:Hp)(a:Addr)(u:HO):Prop:=H a=some u\/∃o,H a=some (.frz o u)
def Rd.ok {P:Program}{w:World}{H:Hp}{h:Heap}{a:Addr}{u:HO}(r:Rd H a u)(x:HOk P w H h):ObjOk P w H h a u:=by
 rcases r with r | ⟨o,r⟩
 ·exact x a u r
 ·obtain⟨_,q⟩:=x a _ r;exact q
noncomputable def QC:Option HO->Prop
 | some (.lst _)=>True
 | some (.dK _)=>True
 | some (.dT _)=>True
 | some (.set _ _)=>True
 | some (.ins _ _ _)=>True
 | some (.ext _)=>True
 | _=>False
section
variable {P:Program}{w:World}{H:Hp}{h h':Heap}{x e:Addr}{o':HO}
def HOk.write (ok:HOk P w H h)(mu:QC (H x))(he:e=x\/H e=some (.own x))(k:∀b u,b≠e->h.get? b=some u->h'.get? b=some u)(heo:∃u,h'.get? e=some u)
 (new:ObjOk P w (upd H x o') h' x o'):HOk P w (upd H x o') h':=fun b u q=>by
 have nown:∀c y,H c=some (.own y)->c≠x:=fun c y r z=>by subst z;rw[r] at mu;exact mu
 have ntup:∀c xs,H c=some (.tup xs)->c≠x:=fun c xs r z=>by subst z;rw[r] at mu;exact mu
 by_cases hb:b=x
 ·subst hb;rw[az] at q;cases q;exact new
 ·rw[au hb] at q;by_cases hbe:b=e
  ·have q':H b=some (.own x):=by
    rcases he with z | z
    ·exact absurd (hbe.trans z) hb
    ·rw[hbe];exact z
   rw[q] at q';cases q';obtain⟨v,hv⟩:=heo;exact⟨v,by rw[hbe];exact hv⟩
  ·refine(ok b u q).stay (fun c v hc r=>k c v ?_ r) (fun c r=>by rw[au (nown c b r)];exact r) fun c xs r=>by rw[au (ntup c xs r)];exact r
   rcases hc with rfl | hc
   ·exact hbe
   ·rintro rfl;rcases he with z | z
    ·exact nown c b hc z
    ·rw[hc] at z;cases z;exact hb rfl
end
structure Un (fs ex:List Addr)(H H':Hp)(h h':Heap):Prop where
 keep:∀b o,h.get? b=some o->H b=none->b∉fs->b∉ex->h'.get? b=some o
 slot:∀b o,h.get? b=some o->H b=none->b∈fs->b∉ex->∃sl,h'.get? b=some { o with slots:=sl }
 free:∀b o,h.get? b=some o->H b=none->b∉ex->H' b=none
 there:∀b o,h.get? b=some o->b∉ex->∃o',h'.get? b=some o'
 tups:∀b xs,H b=some (.tup xs)->H' b=some (.tup xs)
 frzs:∀b o u,H b=some (.frz o u)->H' b=some (.frz o u)
 tbls:∀b ps,H b=some (.tbl ps)->∃more,H' b=some (.tbl (ps++more))
section
variable {fs fs' ex ex':List Addr}{H H1 H2:Hp}{h h1 h2 h':Heap}{a x e:Addr}{o:HO}
def Un.any (u:Un fs ex H H1 h h1){b:Addr}{ob:Obj}(q:h.get? b=some ob)(n:H b=none)(hx:b∉ex):∃sl,h1.get? b=some { ob with slots:=sl }:=by
 by_cases hb:b∈fs
 ·exact u.slot b ob q n hb hx
 ·exact⟨ob.slots,u.keep b ob q n hb hx⟩
def Un.kept (k:∀b u,h.get? b=some u->h'.get? b=some u):Un fs ex H H h h' :=
 ⟨fun b ob q _ _ _=>k b ob q,fun b ob q _ _ _=>⟨ob.slots,k b ob q⟩,fun _ _ _ n _=>n,fun b ob q _=>⟨ob,k b ob q⟩,fun _ _ q=>q,fun _ _ _ q=>q,fun _ ps q=>⟨#[],by rw[q];simp⟩⟩
def Un.refl:Un fs ex H H h h:=Un.kept fun _ _ q=>q
def Un.laid (k:∀b u,h.get? b=some u->h'.get? b=some u)(hp:h.objs.size<=a)(hn:H a=none):Un fs ex H (upd H a o) h h' where
 keep:=fun b u q _ _ _=>k b u q
 slot:=fun b u q _ _ _=>⟨u.slots,k b u q⟩
 free:=fun b u q n _=>by rw[au (Nat.ne_of_lt (Nat.lt_of_lt_of_le (Heap.lt_size q) hp))];exact n
 there:=fun b u q _=>⟨u,k b u q⟩
 tups:=fun b xs q=>by rw[au (aO q hn)];exact q
 frzs:=fun b u xs q=>by rw[au (aO q hn)];exact q
 tbls:=fun b ps q=>⟨#[],by rw[au (aO q hn),q];simp⟩
def Un.write (mu:QC (H x))(he:e=x\/H e=some (.own x))(k:∀b u,b≠e->h.get? b=some u->h'.get? b=some u)(heo:∃u,h'.get? e=some u):Un fs ex H (upd H x o) h h':=by
 have hx:∀b,H b=none->b≠x:=fun b n z=>by subst z;rw[n] at mu;exact mu
 have hb:∀b,H b=none->b≠e:=fun b n z=>by
  subst z;rcases he with r | r
  ·exact hx b n r
  ·rw[n] at r;cases r
 have hm:∀b u,H b=some u->¬ QC (some u)->b≠x:=fun b u q nm z=>by subst z;rw[q] at mu;exact nm mu
 refine⟨fun b u q n _ _=>k b u (hb b n) q,fun b u q n _ _=>⟨u.slots,k b u (hb b n) q⟩,fun b u q n _=>by rw[au (hx b n)];exact n,fun b u q _=>?_,
  fun b xs q=>by rw[au (hm b _ q fun z=>z)];exact q,fun b u xs q=>by rw[au (hm b _ q fun z=>z)];exact q,fun b ps q=>⟨#[],by rw[au (hm b _ q fun z=>z),q];simp⟩⟩
 by_cases hbe:b=e
 ·subst hbe;exact heo
 ·exact⟨u,k b u hbe q⟩
end
noncomputable def Ff (h:Heap)(H:Hp):List Addr:=(List.range h.objs.size).filter fun a=>(H a).isSome
def u6 (h:Heap)(H:Hp):Heap:=PySem.W.hideAll h (Ff h H)
def Dr (h:Heap)(H:Hp):(u6 h H).objs.size=h.objs.size:=PySem.W.hideAll_size _ _
def HD {h:Heap}{H:Hp}{b:Addr}{o:Obj}(e:h.get? b=some o)(n:H b=none):(u6 h H).get? b=some o :=
 PySem.W.hideAll_get _ e fun hm=>by
  have q:(H b).isSome=true:=(List.mem_filter.mp hm).2;rw[n] at q;simp at q
def KN {h:Heap}{H:Hp}{b:Addr}{o:Obj}(e:(u6 h H).get? b=some o):h.get? b=some o/\H b=none:=by
 have e':h.get? b=some o:=PySem.W.of_hideAll (Ff h H) e;refine⟨e',?_⟩;cases q:H b with
 | none=>rfl
 | some x =>
   have hm:b∈Ff h H:=List.mem_filter.mpr ⟨List.mem_range.mpr (Heap.lt_size e'),by simp[q]⟩;have z:(u6 h H).get? b=none:=PySem.W.hideAll_none (Ff h H) hm;rw[z] at e;cases e
structure Mod (K:PySem.W.Frag)(mg:Str->Option Value)(base:Heap):Prop where
 kin:K.In base
 glob:base.Ns mainGlobals mg
 blt:∃mb,base.Ns builtinsNs mb/\∀x:Str,x≠"__name__"->mb x=bootBuiltins x
 nolimit:base.NoLimit
structure Cx where
 prog:Program
 w:World
 K:PySem.W.Frag
 mg:Str->Option Value
 base:Heap
 A:Around
 N:List Str
 s₀:Shared
 H₀:Hp
 env:Env
 outer:List Env
 stack:List Env
 ex:List Addr
 fn:Str->Bool
 calm:Bool
 pn:List (Addr×Obj)
 xe:Value->Shared->Prop
noncomputable def frs (l:List Env):List Addr:=l.filterMap (·.frame)
abbrev Cx.fs (X:Cx):List Addr:=frs X.outer
def RX (sc:Scope)(x:Str):Prop:=sc.names.lookup x=some .local\/sc.names.lookup x=some .cell\/sc.names.lookup x=some .free
def Loc (sc:Scope)(x:Str):Prop:=sc.names.lookup x=some .local\/sc.names.lookup x=some .cell
def Look (env:Env)(h:Heap)(m:Str->Option Value)(x:Str)(u:Value):Prop :=
 (env.kindOf x=some .local/\m x=some u)\/((env.kindOf x=some .cell\/env.kindOf x=some .free)/\∃c,env.cells.lookup x=some c/\h.IsCell c (some u))
structure Cx.Ok (X:Cx):Prop where
 mod:Mod X.K X.mg X.base
 kind:X.env.scope.kind=.function
 glob:X.env.globals=mainGlobals
 blt:X.env.builtins=builtinsNs
 above:X.s₀.heap.objs.size<=X.env.locals
 inj:∀x y c,X.env.cells.lookup x=some c->X.env.cells.lookup y=some c->x=y
 has:∀x,(X.env.kindOf x=some .cell\/X.env.kindOf x=some .free)->∃c,X.env.cells.lookup x=some c
 cab:∀x c,X.fn x=true->X.env.cells.lookup x=some c->X.s₀.heap.objs.size<=c
 hd:X.calm=true->X.A.handled=none
 frames:X.A.frames=some X.stack
 stk:X.stack=X.outer\/(X.stack=X.env::X.outer/\X.env.frame=some X.env.locals)
 exf:∀b∈X.ex,b≠X.env.locals/\∀x c,X.env.cells.lookup x=some c->c≠b
 bs:∀b o,X.base.get? b=some o->X.s₀.heap.get? b=some o/\X.H₀ b=none
 bsz:X.base.objs.size<=X.s₀.heap.objs.size
 noex:∀b o,X.base.get? b=some o->b∉X.ex
 exfs:∀b∈X.ex,b∉X.fs
 funs:X.s₀.heap.FunFrames X.base X.outer
 frf:∀b∈X.fs,X.H₀ b=none
structure Inv (X:Cx)(pins:List (Addr×Obj))(σ:List (Option V))(H:Hp)(s:Shared):Prop where
 ok:X.Ok
 os:s.os=X.s₀.os
 bare:AllBare s.gens
 base:Un X.fs X.ex X.H₀ H X.s₀.heap s.heap
 loc:∃m,s.heap.Ns X.env.locals m/\∀(i:Nat) (x:Str) (v:V),X.N[i]? = some x->σ[i]? = some (some v)->RX X.env.scope x->∃u,RelV v u/\Look X.env s.heap m x u
 cell:∀x c,X.env.cells.lookup x=some c->∃v,s.heap.IsCell c v
 free:H X.env.locals=none
 freeC:∀x c,X.env.cells.lookup x=some c->H c=none
 pin:∀p∈X.pn++pins,s.heap.get? p.1=some p.2/\H p.1=none/\p.1≠X.env.locals/\p.1∉X.fs/\∀v,p.2.data≠.cell v
 hok:HOk X.prog X.w H s.heap
 len:σ.length=X.N.length
section
variable {X:Cx}{pins:List (Addr×Obj)}{σ:List (Option V)}{H H':Hp}{s:Shared}{h':Heap}
def Cx.Ok.nofr (ok:X.Ok){b:Addr}{o:Obj}(e:X.base.get? b=some o):b∉X.fs:=fun hb=>by
 have:=(ok.funs.mem hb).1;rw[e] at this;cases this
def Inv.bs (I:Inv X pins σ H s):∀b o,X.base.get? b=some o->s.heap.get? b=some o/\H b=none:=fun b o e =>
 ⟨I.base.keep b o (I.ok.bs b o e).1 (I.ok.bs b o e).2 (I.ok.nofr e) (I.ok.noex b o e),I.base.free b o (I.ok.bs b o e).1 (I.ok.bs b o e).2 (I.ok.noex b o e)⟩
def Inv.bk (I:Inv X pins σ H s):∀b o,X.base.get? b=some o->s.heap.get? b=some o:=fun b o e=>(I.bs b o e).1
def Inv.mod (I:Inv X pins σ H s):Mod X.K X.mg X.base:=I.ok.mod
def Inv.kIn (I:Inv X pins σ H s):X.K.In s.heap:=I.ok.mod.kin.keeps I.bk
def Inv.lt (I:Inv X pins σ H s):X.env.locals<s.heap.objs.size:=let ⟨_,hn,_⟩:=I.loc;hn.lt
def Inv.sz (I:Inv X pins σ H s):X.s₀.heap.objs.size<=s.heap.objs.size:=Nat.le_trans I.ok.above (Nat.le_of_lt I.lt)
def Inv.nofs (I:Inv X pins σ H s){a:Addr}(h:s.heap.objs.size<=a):a∉X.fs:=fun hb=>by
 obtain⟨_,o,ho,_⟩:=I.ok.funs.mem hb;exact absurd (Nat.lt_of_lt_of_le (Heap.lt_size ho) (Nat.le_trans I.sz h)) (Nat.lt_irrefl _)
def Inv.cne (I:Inv X pins σ H s):∀x c,X.env.cells.lookup x=some c->c≠X.env.locals:=fun x c e z=>by
 obtain⟨v,o,ho,hd⟩:=I.cell x c e;obtain⟨m,⟨o',es,ep,ho',hd',_⟩,_⟩:=I.loc;rw[z,ho'] at ho;cases ho;rw[hd'] at hd;cases hd
def Inv.funs (I:Inv X pins σ H s):s.heap.FunFrames X.base X.outer:=by
 have all:∀(l:List Env),(∀b∈frs l,b∈X.fs)->X.s₀.heap.FunFrames X.base l->s.heap.FunFrames X.base l:=by
  intro l;induction l with
  | nil=>intro _ _;trivial
  | cons env r ih =>
    intro hs hl;obtain⟨hk,⟨L,o,hf,hn,ho,hd⟩,hr⟩:=hl;have hL:L∈X.fs:=hs L (by unfold frs;rw[List.filterMap_cons,hf];exact List.mem_cons_self);obtain⟨sl,e⟩:=I.base.slot L o ho (I.ok.frf L hL) hL fun z=>I.ok.exfs L z hL;exact⟨hk,⟨L,_,hf,hn,e,hd⟩,ih (fun b hb=>hs b (by unfold frs;rw[List.filterMap_cons,hf];exact List.mem_cons_of_mem _ hb)) hr⟩
 exact all X.outer (fun _ hb=>hb) I.ok.funs
def Inv.stack (I:Inv X pins σ H s):s.heap.FunFrames X.base X.stack:=by
 rcases I.ok.stk with e | ⟨e,hf⟩
 ·rw[e];exact I.funs
 ·rw[e];obtain⟨m,hn,_⟩:=I.loc;refine .cons (by rw[I.ok.kind];decide) hf hn ?_ I.funs;exact Heap.get?_none_of_le (Nat.le_trans I.ok.bsz I.ok.above)
def Inv.stkSub (I:Inv X pins σ H s):∀b∈frs X.stack,b∈X.env.locals::X.fs:=fun b hb=>by
 rcases I.ok.stk with e | ⟨e,hf⟩
 ·rw[e] at hb;exact List.mem_cons_of_mem _ hb
 ·rw[e] at hb;unfold frs at hb;rw[List.filterMap_cons,hf] at hb;exact hb
def Inv.stkFree (I:Inv X pins σ H s):∀b∈frs X.stack,H b=none:=fun b hb=>by
 rcases List.mem_cons.mp (I.stkSub b hb) with e | hb
 ·rw[e];exact I.free
 ·obtain⟨_,o,ho,_⟩:=I.ok.funs.mem hb;exact I.base.free b o ho (I.ok.frf b hb) fun z=>I.ok.exfs b z hb
def Inv.step {g':Array GenState}{t':Nat}{d':Drawn}{ch:List Addr}(I:Inv X pins σ H s)
 (hch:∀b∈ch,(b∈X.ex\/X.s₀.heap.objs.size<=b)/\b≠X.env.locals/\(∀x c,X.env.cells.lookup x=some c->c≠b)/\∀p∈X.pn++pins,p.1≠b)
 (keep:∀b o,b≠X.env.locals->b∉X.fs->b∉ch->s.heap.get? b=some o->H b=none->h'.get? b=some o)
 (slot:∀b o,b≠X.env.locals->b∈X.fs->b∉ch->s.heap.get? b=some o->H b=none->∃sl,h'.get? b=some { o with slots:=sl }) (free:∀b o,b∉ch->s.heap.get? b=some o->H b=none->H' b=none)
 (there:∀b o,b∉ch->s.heap.get? b=some o->∃o',h'.get? b=some o')
 (tups:∀b xs,H b=some (.tup xs)->H' b=some (.tup xs)) (frzs:∀b o u,H b=some (.frz o u)->H' b=some (.frz o u)) (tbls:∀b ps,H b=some (.tbl ps)->∃more,H' b=some (.tbl (ps++more)))
 (ns:∀m,s.heap.Ns X.env.locals m->h'.Ns X.env.locals m) (hok:HOk X.prog X.w H' h') (hg:AllBare g') :
 Inv X pins σ H' { s with heap:=h',gens:=g',drawn:=d',toks:=t' }:=by
 have neL:∀b o,X.s₀.heap.get? b=some o->b≠X.env.locals:=fun b o e=>Nat.ne_of_lt (Nat.lt_of_lt_of_le (Heap.lt_size e) I.ok.above);have neC:∀b o,X.s₀.heap.get? b=some o->b∉X.ex->b∉ch:=fun b o e hx hb=>by
  rcases (hch b hb).1 with z | z
  ·exact hx z
  ·exact absurd (Nat.lt_of_lt_of_le (Heap.lt_size e) z) (Nat.lt_irrefl _)
 have cellK:∀x c,X.env.cells.lookup x=some c->∀v,s.heap.IsCell c v->h'.IsCell c v:=fun x c e v ⟨o,ho,hd⟩=>by
  have nch:c∉ch:=fun z=>(hch c z).2.2.1 x c e rfl;by_cases hc:c∈X.fs
  ·obtain⟨sl,q⟩:=slot c o (I.cne x c e) hc nch ho (I.freeC x c e);exact⟨_,q,hd⟩
  ·exact⟨o,keep c o (I.cne x c e) hc nch ho (I.freeC x c e),hd⟩
 refine⟨I.ok,I.os,hg,⟨fun b o e n hb hx=>?_,fun b o e n hb hx=>?_,fun b o e n hx=>?_,fun b o e hx=>?_,fun b xs e=>tups b xs (I.base.tups b xs e),fun b o xs e=>frzs b o xs (I.base.frzs b o xs e),fun b ps e=>?_⟩,?_,fun x c e=>?_,?_,fun x c e=>?_,fun p hp=>?_,hok,I.len⟩
 ·exact keep b o (neL b o e) hb (neC b o e hx) (I.base.keep b o e n hb hx) (I.base.free b o e n hx)
 ·obtain⟨sl,e1⟩:=I.base.slot b o e n hb hx;obtain⟨sl',e2⟩:=slot b _ (neL b o e) hb (neC b o e hx) e1 (I.base.free b o e n hx);exact⟨sl',e2⟩
 ·obtain⟨o',e1⟩:=I.base.there b o e hx;exact free b o' (neC b o e hx) e1 (I.base.free b o e n hx)
 ·obtain⟨o',e1⟩:=I.base.there b o e hx;exact there b o' (neC b o e hx) e1
 ·obtain⟨m1,e1⟩:=I.base.tbls b ps e;obtain⟨m2,e2⟩:=tbls b _ e1;exact⟨m1++m2,by rw[e2,Array.append_assoc]⟩
 ·obtain⟨m,hn,hl⟩:=I.loc;refine⟨m,ns m hn,fun i x v e1 e2 e3=>?_⟩;obtain⟨u,r,l⟩:=hl i x v e1 e2 e3;refine⟨u,r,?_⟩;rcases l with l | ⟨k,c,e,z⟩
  ·exact .inl l
  ·exact .inr ⟨k,c,e,cellK x c e _ z⟩
 ·obtain⟨v,z⟩:=I.cell x c e;exact⟨v,cellK x c e v z⟩
 ·obtain⟨m,⟨o,_,_,ho,_⟩,_⟩:=I.loc;exact free _ o (fun z=>(hch _ z).2.1 rfl) ho I.free
 ·obtain⟨v,o,ho,hd⟩:=I.cell x c e;exact free c o (fun z=>(hch c z).2.2.1 x c e rfl) ho (I.freeC x c e)
 ·obtain⟨e,n,ne,nf,d⟩:=I.pin p hp;have nch:p.1∉ch:=fun z=>(hch p.1 z).2.2.2 p hp rfl;exact⟨keep p.1 p.2 ne nf nch e n,free p.1 p.2 nch e n,ne,nf,d⟩
def Inv.un {t':Nat}(I:Inv X pins σ H s)(u:Un X.fs [] H H' s.heap h')(hok:HOk X.prog X.w H' h'):Inv X pins σ H' { s with heap:=h',toks:=t' }:=by
 obtain⟨m,⟨o,es,ep,ho,r⟩,_⟩:=id I.loc;obtain⟨sl,hL⟩:=u.any ho I.free (by simp);exact I.step (g':=s.gens) (d':=s.drawn) (ch:=[]) (fun _ z=>nomatch z) (fun b o _ hb _ e n=>u.keep b o e n hb (by simp)) (fun b o _ hb _ e n=>u.slot b o e n hb (by simp)) (fun b o _ e n=>u.free b o e n (by simp)) (fun b o _ e=>u.there b o e (by simp)) u.tups u.frzs u.tbls (fun m' hm=>by
  obtain⟨o',es',ep',ho',r'⟩:=hm;rw[ho] at ho';cases ho';exact⟨_,es',ep',hL,r'⟩) hok I.bare
def Inv.call {g':Array GenState}{t':Nat}{d':Drawn}{ch:List Addr}(I:Inv X pins σ H s)(u:Un (frs X.stack) ch H H' s.heap h')(hok:HOk X.prog X.w H' h')(hg:AllBare g')
 (hch:∀b∈ch,(b∈X.ex\/X.s₀.heap.objs.size<=b)/\b≠X.env.locals/\(∀x c,X.env.cells.lookup x=some c->c≠b)/\∀p∈X.pn++pins,p.1≠b) :
 Inv X pins σ H' { s with heap:=h',gens:=g',drawn:=d',toks:=t' }:=by
 obtain⟨m,⟨o,es,ep,ho,r⟩,_⟩:=id I.loc;obtain⟨sl,hL⟩:=u.any ho I.free fun z=>(hch _ z).2.1 rfl;exact I.step (ch:=ch) hch (fun b o hL hb hc e n=>u.keep b o e n (fun z=>(List.mem_cons.mp (I.stkSub b z)).elim hL hb) hc) (fun b o _ _ hc e n=>u.any e n hc) (fun b o hc e n=>u.free b o e n hc) (fun b o hc e=>u.there b o e hc) u.tups u.frzs u.tbls (fun m' hm=>by
  obtain⟨o',es',ep',ho',r'⟩:=hm;rw[ho] at ho';cases ho';exact⟨_,es',ep',hL,r'⟩) hok hg
def Inv.turned {t':Nat}{it:Addr}(I:Inv X pins σ H s)(k:∀b o,b≠it->s.heap.get? b=some o->h'.get? b=some o)(hn:H it=none)(hL:it≠X.env.locals)
 (h1:it∈X.ex\/X.s₀.heap.objs.size<=it) (h2:∀x c,X.env.cells.lookup x=some c->c≠it) (h3:∀p∈X.pn++pins,p.1≠it):Inv X pins σ H { s with heap:=h',toks:=t' }:=by
 have nit:∀b u,H b=some u->b≠it:=fun b u e z=>by rw[z,hn] at e;cases e
 refine I.step (g':=s.gens) (d':=s.drawn) (ch:=[it]) (fun b hb=>?_) (fun b o _ _ hc e _=>k b o (fun z=>hc (by simp[z])) e) (fun b o _ _ hc e _=>⟨o.slots,k b o (fun z=>hc (by simp[z])) e⟩) (fun _ _ _ _ n=>n)
  (fun b o hc e=>⟨o,k b o (fun z=>hc (by simp[z])) e⟩) (fun _ _ e=>e) (fun _ _ _ e=>e) (fun b ps e=>⟨#[],by rw[e];simp⟩) (fun m hm=>?_) (fun b u e=>?_) I.bare
 ·have e:b=it:=by simpa using hb
  subst e;exact⟨h1,hL,h2,h3⟩
 ·obtain⟨o,es,ep,ho,r⟩:=hm;exact⟨o,es,ep,k _ o (Ne.symm hL) ho,r⟩
 ·refine(I.hok b u e).stay (fun c v hc q=>k c v ?_ q) (fun _ q=>q) fun _ _ q=>q;rcases hc with z | z
  ·rw[z];exact nit b u e
  ·exact nit c _ z
def Inv.tok (I:Inv X pins σ H s)(t:Nat):Inv X pins σ H { s with toks:=t }:=I.un (h':=s.heap) (t':=t) Un.refl I.hok
def Inv.kept {t':Nat}(I:Inv X pins σ H s)(k:∀b u,s.heap.get? b=some u->h'.get? b=some u):Inv X pins σ H { s with heap:=h',toks:=t' }:=I.un (Un.kept k) (I.hok.kept k)
def Inv.laid {a:Addr}{o:HO}{t':Nat}(I:Inv X pins σ H s)(k:∀b u,s.heap.get? b=some u->h'.get? b=some u)(hp:s.heap.objs.size<=a)(new:ObjOk X.prog X.w (upd H a o) h' a o) :
 Inv X pins σ (upd H a o) { s with heap:=h',toks:=t' }:=I.un (Un.laid k hp (I.hok.fresh hp)) (I.hok.laid k hp new)
def Inv.write {x e:Addr}{o:HO}{t':Nat}(I:Inv X pins σ H s)(mu:QC (H x))(he:e=x\/H e=some (.own x))(k:∀b u,b≠e->s.heap.get? b=some u->h'.get? b=some u)(heo:∃u,h'.get? e=some u)
 (new:ObjOk X.prog X.w (upd H x o) h' x o):Inv X pins σ (upd H x o) { s with heap:=h',toks:=t' }:=I.un (Un.write mu he k heo) (I.hok.write mu he k heo new)
def Inv.pins_of {pins':List (Addr×Obj)}(I:Inv X pins σ H s)(h:∀p∈pins',s.heap.get? p.1=some p.2/\H p.1=none/\p.1≠X.env.locals/\p.1∉X.fs/\∀v,p.2.data≠.cell v):Inv X pins' σ H s :=
 ⟨I.ok,I.os,I.bare,I.base,I.loc,I.cell,I.free,I.freeC,fun p hp=>(List.mem_append.mp hp).elim (fun z=>I.pin p (List.mem_append_left _ z)) (h p),I.hok,I.len⟩
def qJ {N:List Str}(hN:N.Nodup){i j:Nat}{x:Str}(a:N[i]? = some x)(b:N[j]? = some x):i=j:=by
 obtain⟨h1,e1⟩:=List.getElem?_eq_some_iff.mp a;obtain⟨h2,e2⟩:=List.getElem?_eq_some_iff.mp b;exact(List.getElem_inj hN).mp (e1.trans e2.symm)
def Cq {M:Model}{A:Around}{E:Value->Shared->Prop}{i:Nat}{x:Str}{v:V}{u:Value}{Q:Unit->Shared->Prop}(I:Inv X pins σ H s)(hN:X.N.Nodup)(hi:X.N[i]? = some x)(hx:Loc X.env.scope x)(r:RelV v u)
 (h:∀s',Inv X pins (σ.set i (some v)) H s'->(∃a,Heap.SameBut a s.heap s'.heap/\(a=X.env.locals\/X.env.cells.lookup x=some a))->Q () s') (hf:X.fn x=true\/X.env.scope.names.lookup x=some .local:=by first | exact .inl rfl | exact .inr rfl | assumption):wpAny M A (storeName X.env x u) Q E s:=by
 obtain⟨m,hn,hl⟩:=id I.loc;have hcls:(X.env.scope.kind==.class||(X.env.scope.kind==.module&&X.env.locals != X.env.globals))=false:=by rw[I.ok.kind];rfl
 have hiσ:i<σ.length:=by rw[I.len];exact(List.getElem?_eq_some_iff.mp hi).1
 have cne:=I.cne;have tracked:∀{a:Addr} {h':Heap},(∃o,s.heap.get? a=some o/\H a=none)->Heap.SameBut a s.heap h'->HOk X.prog X.w H h':=fun {a h'} ha hs b ob e=>by
  obtain⟨_,_,hfree⟩:=ha;refine(I.hok b ob e).stay (fun c w' hc q=>(hs.2 c ?_).trans q) (fun _ q=>q) fun _ _ q=>q;rintro rfl;rcases hc with rfl | hc
  ·rw[hfree] at e;cases e
  ·rw[hfree] at hc;cases hc
 rcases hx with hk | hk
 ·refine wpAny_storeName_local hk hn (fun h' hn' hs=>?_) hcls;obtain⟨oL,_,_,hoL,_⟩:=id hn;refine h _ ⟨I.ok,I.os,I.bare,⟨fun b o e n hb hx=>?_,fun b o e n hb hx=>?_,I.base.free,fun b o e hx=>?_,I.base.tups,I.base.frzs,I.base.tbls⟩,⟨_,hn',fun j y v' e1 e2 e3=>?_⟩,fun y c e=>?_,I.free,I.freeC,fun p hp=>?_,tracked ⟨oL,hoL,I.free⟩ hs,by simpa using I.len⟩ ⟨_,hs,.inl rfl⟩
  ·exact(hs.2 b (Nat.ne_of_lt (Nat.lt_of_lt_of_le (Heap.lt_size e) I.ok.above))).trans (I.base.keep b o e n hb hx)
  ·obtain⟨sl,e1⟩:=I.base.slot b o e n hb hx;exact⟨sl,(hs.2 b (Nat.ne_of_lt (Nat.lt_of_lt_of_le (Heap.lt_size e) I.ok.above))).trans e1⟩
  ·obtain⟨o',e1⟩:=I.base.there b o e hx;exact⟨o',(hs.2 b (Nat.ne_of_lt (Nat.lt_of_lt_of_le (Heap.lt_size e) I.ok.above))).trans e1⟩
  ·by_cases hj:j=i
   ·subst hj;rw[hi] at e1;cases e1;rw[List.getElem?_set_self hiσ] at e2;cases e2;exact⟨u,r,.inl ⟨hk,by simp⟩⟩
   ·rw[List.getElem?_set_ne (Ne.symm hj)] at e2;obtain⟨u',r',q⟩:=hl j y v' e1 e2 e3;refine⟨u',r',?_⟩;rcases q with ⟨k,e⟩ | ⟨k,c,e,z⟩
    ·refine .inl ⟨k,?_⟩;have:y≠x:=fun e=>hj (qJ hN e1 (e ▸ hi));simp[this,e]
    ·exact .inr ⟨k,c,e,z.sameBut hs (cne y c e)⟩
  ·obtain⟨w',z⟩:=I.cell y c e;exact⟨w',z.sameBut hs (cne y c e)⟩
  ·obtain⟨e,n,ne,nf,d⟩:=I.pin p hp;exact⟨(hs.2 p.1 ne).trans e,n,ne,nf,d⟩
 ·have hfn:X.fn x=true:=by
   rcases hf with z | z
   ·exact z
   ·rw[z] at hk;cases hk
  obtain⟨c,hc⟩:=I.ok.has x (.inl hk);obtain⟨w',z⟩:=I.cell x c hc;refine wpAny_storeName_cell I.ok.kind hk hc z (fun h' hc' hs=>?_);obtain⟨oc,hoc,hocd⟩:=id z;refine h { s with heap:=h' } ⟨I.ok,I.os,I.bare,⟨fun b o e n hb hx=>?_,fun b o e n hb hx=>?_,I.base.free,fun b o e hx=>?_,I.base.tups,I.base.frzs,I.base.tbls⟩,⟨m,hn.sameBut hs (Ne.symm (cne x c hc)),fun j y v' e1 e2 e3=>?_⟩,fun y c' e=>?_,I.free,I.freeC,fun p hp=>?_,tracked ⟨oc,hoc,I.freeC x c hc⟩ hs,by simpa using I.len⟩ ⟨c,hs,.inr hc⟩
  ·exact(hs.2 b (Nat.ne_of_lt (Nat.lt_of_lt_of_le (Heap.lt_size e) (I.ok.cab x c hfn hc)))).trans (I.base.keep b o e n hb hx)
  ·obtain⟨sl,e1⟩:=I.base.slot b o e n hb hx;exact⟨sl,(hs.2 b (Nat.ne_of_lt (Nat.lt_of_lt_of_le (Heap.lt_size e) (I.ok.cab x c hfn hc)))).trans e1⟩
  ·obtain⟨o',e1⟩:=I.base.there b o e hx;exact⟨o',(hs.2 b (Nat.ne_of_lt (Nat.lt_of_lt_of_le (Heap.lt_size e) (I.ok.cab x c hfn hc)))).trans e1⟩
  ·by_cases hj:j=i
   ·subst hj;rw[hi] at e1;cases e1;rw[List.getElem?_set_self hiσ] at e2;cases e2;exact⟨u,r,.inr ⟨.inl hk,c,hc,hc'⟩⟩
   ·rw[List.getElem?_set_ne (Ne.symm hj)] at e2;obtain⟨u',r',q⟩:=hl j y v' e1 e2 e3;refine⟨u',r',?_⟩;rcases q with q | ⟨k,c',e,z'⟩
    ·exact .inl q
    ·refine .inr ⟨k,c',e,z'.sameBut hs ?_⟩;rintro rfl;exact hj (qJ hN e1 (I.ok.inj _ _ _ e hc ▸ hi))
  ·by_cases hcc:c'=c
   ·subst hcc;exact⟨_,hc'⟩
   ·obtain⟨w2,z2⟩:=I.cell y c' e;exact⟨w2,z2.sameBut hs hcc⟩
  ·obtain⟨e,n,ne,nf,d⟩:=I.pin p hp;refine⟨(hs.2 p.1 ?_).trans e,n,ne,nf,d⟩;intro q;rw[q,hoc] at e;have q':oc=p.2:=Option.some.inj e;exact d w' (by rw[<-q'];exact hocd)
def jw {M:Model}{A:Around}{E:Value->Shared->Prop}{i:Nat}{x:Str}{v:V}{u:Value}{Q:Unit->Shared->Prop}(I:Inv X pins σ H s)(hN:X.N.Nodup)(hi:X.N[i]? = some x)(hx:Loc X.env.scope x)(r:RelV v u)
 (h:∀s',Inv X pins (σ.set i (some v)) H s'->Q () s') (hf:X.fn x=true\/X.env.scope.names.lookup x=some .local:=by first | exact .inl rfl | exact .inr rfl | assumption):wpAny M A (storeName X.env x u) Q E s :=
 Cq I hN hi hx r (fun s' I' _=>h s' I') hf
def Inv.call' {s':Shared}{ch:List Addr}(I:Inv X pins σ H s)(ho:s'.os=s.os)(u:Un (frs X.stack) ch H H' s.heap s'.heap)(hok:HOk X.prog X.w H' s'.heap)(hg:AllBare s'.gens)
 (hch:∀b∈ch,(b∈X.ex\/X.s₀.heap.objs.size<=b)/\b≠X.env.locals/\(∀x c,X.env.cells.lookup x=some c->c≠b)/\∀p∈X.pn++pins,p.1≠b):Inv X pins σ H' s':=by
 obtain⟨h',g',d',t',o'⟩:=s';have e:o'=s.os:=ho;subst e;exact I.call (g':=g') (t':=t') (d':=d') u hok hg hch
end
abbrev XK:=Value->Option Addr->Hp->Prop
abbrev St:=List (Option V)
abbrev VK:=V->Hp->Prop
abbrev TE:=St->Hp->VK->Prop
abbrev TT:=St->Hp->(Bool->Hp->Prop)->Prop
abbrev TA:=St->Hp->(List V->Hp->Prop)->Prop
structure Ends where
 nx:St->Hp->Prop
 rt:VK
 bk:St->Hp->Prop:=fun _ _=>False
 ct:St->Hp->Prop:=fun _ _=>False
abbrev TS:=Ends->St->Hp->Prop
def EP (X:Cx)(pins:List (Addr×Obj))(σ:St)(Q:VK)(u:Value)(s':Shared):Prop:=∃v H',Inv X pins σ H' s'/\RelV v u/\Q v H'
def TP (X:Cx)(pins:List (Addr×Obj))(σ:St)(Q:Bool->Hp->Prop)(b:Bool)(s':Shared):Prop:=∃H',Inv X pins σ H' s'/\Q b H'
def AP (X:Cx)(pins:List (Addr×Obj))(σ:St)(Q:List V->Hp->Prop)(us:List Value)(s':Shared):Prop:=∃vs H',Inv X pins σ H' s'/\Vals vs us/\Q vs H'
def SP (X:Cx)(pins:List (Addr×Obj))(D:Ends)(f:Flow)(s':Shared):Prop :=
 match f with
 | .next=>∃σ' H',Inv X pins σ' H' s'/\D.nx σ' H'
 | .brk=>∃σ' H',Inv X pins σ' H' s'/\D.bk σ' H'
 | .cont=>∃σ' H',Inv X pins σ' H' s'/\D.ct σ' H'
 | .ret u=>∃v σ' H',Inv X pins σ' H' s'/\RelV v u/\D.rt v H'
def PE (X:Cx)(e:Expr)(t:TE):Prop :=
 ∀(pins:List (Addr×Obj)) (s:Shared) (σ:St) (H:Hp) (Q:VK),Inv X pins σ H s->t σ H Q->wpAny (model X.prog X.w) X.A (eval e X.env) (EP X pins σ Q) X.xe s
def PT (X:Cx)(e:Expr)(t:TT):Prop :=
 ∀(pins:List (Addr×Obj)) (s:Shared) (σ:St) (H:Hp) (Q:Bool->Hp->Prop),Inv X pins σ H s->t σ H Q->wpAny (model X.prog X.w) X.A (isTrue e X.env (eval e X.env)) (TP X pins σ Q) X.xe s
def PW (X:Cx)(e:Expr)(t:TT):Prop :=
 ∀(whole:Sem Value) (pins:List (Addr×Obj)) (s:Shared) (σ:St) (H:Hp) (Q:Bool->Hp->Prop),Inv X pins σ H s->t σ H Q->wpAny (model X.prog X.w) X.A (isTrue e X.env whole) (TP X pins σ Q) X.xe s
def PW.pt {X:Cx}{e:Expr}{t:TT}(h:PW X e t):PT X e t:=h _
def PA (X:Cx)(es:List Expr)(t:TA):Prop :=
 ∀(pos:Pos) (pins:List (Addr×Obj)) (s:Shared) (σ:St) (H:Hp) (Q:List V->Hp->Prop),Inv X pins σ H s->t σ H Q->wpAny (model X.prog X.w) X.A (spliced (backTo pos (starEach es X.env))) (AP X pins σ Q) X.xe s
def PS (X:Cx)(st:Stmt)(t:TS):Prop :=
 ∀(pins:List (Addr×Obj)) (s:Shared) (σ:St) (H:Hp) (D:Ends),Inv X pins σ H s->t D σ H->wpAny (model X.prog X.w) X.A (exec st X.env) (SP X pins D) X.xe s
def PSs (X:Cx)(st:List Stmt)(t:TS):Prop :=
 ∀(pins:List (Addr×Obj)) (s:Shared) (σ:St) (H:Hp) (D:Ends),Inv X pins σ H s->t D σ H->wpAny (model X.prog X.w) X.A (execs st X.env) (SP X pins D) X.xe s
def bw {α:Type}{t:Sem α}{Q Q':α->Shared->Prop}{M:Model}{A:Around}{E:Value->Shared->Prop}{s:Shared}(h:wpAny M A t Q E s)(hQ:∀a s,Q a s->Q' a s):wpAny M A t Q' E s:=wpAny_mono h hQ fun _ _ x=>x
section
variable {X:Cx}
def bin {a b:Expr}{ta tb:TE}(ha:PE X a ta)(hb:PE X b tb){pins:List (Addr×Obj)}{s:Shared}{σ:St}{H:Hp}{R:V->V->Hp->Prop}(I:Inv X pins σ H s)(h:ta σ H fun x H1=>tb σ H1 fun y H2=>R x y H2)
 {α:Type} {Q:α->Shared->Prop} {f:Value->Value->Sem α}
 (hf:∀v u s2 x y H2,Inv X pins σ H2 s2->RelV x v->RelV y u->R x y H2->wpAny (model X.prog X.w) X.A (f v u) Q X.xe s2) :
 wpAny (model X.prog X.w) X.A (eval a X.env) (fun v s₁=>wpAny (model X.prog X.w) X.A (eval b X.env) (fun u s₂=>wpAny (model X.prog X.w) X.A (f v u) Q X.xe s₂) X.xe s₁) X.xe s:=by
 refine bw (ha pins s σ H _ I h) fun v s1 ⟨x,H1,I1,r1,q1⟩=>?_;refine bw (hb pins s1 σ H1 _ I1 q1) fun u s2 ⟨y,H2,I2,r2,q2⟩=>?_;exact hf v u s2 x y H2 I2 r1 r2 q2
noncomputable def cG (i:Nat):TE:=fun σ H Q=>∃v,σ[i]? = some (some v)/\Q v H
noncomputable def tC (v:V):TE:=fun _ H Q=>Q v H
def GD {i:Nat}{x:Str}{pos:Pos}(hN:X.N[i]? = some x)(hv:RX X.env.scope x)(hd:(x==("__debug__":Str))=false:=by decide)(hcd:(x==("__classdict__":Str))=false:=by decide):PE X (.Name x pos) (cG i):=by
 intro pins s σ H Q I h;obtain⟨v,e,h⟩:=h;obtain⟨m,hn,hl⟩:=I.loc;obtain⟨u,r,l⟩:=hl i x v hN e hv;have fin:EP X pins σ Q u s:=⟨v,H,I,r,h⟩;rcases l with ⟨hk,hm⟩ | ⟨hk,c,hc,hcell⟩
 ·exact wpAny_Name (wpAny_loadName_local I.ok.kind hk hn hm fin) hd
 ·rcases hk with hk | hk
  ·exact wpAny_Name (wpAny_loadName_cell I.ok.kind hk hc hcell fin) hd
  ·exact wpAny_Name (wpAny_loadName_free I.ok.kind hk hc hcell fin hcd) hd
def dF {i j pos}:PE X (.Constant (.int i) j pos) (tC (.int i)):=fun _ _ _ H _ I h=>wpAny_Constant_int ⟨.int i,H,I.tok _,⟨_,rfl⟩,h⟩
def Aj {b j pos}:PE X (.Constant (.bool b) j pos) (tC (.bl b)):=fun _ _ _ H _ I h=>Constant_bool ⟨.bl b,H,I,rfl,h⟩
def Om {j pos}:PE X (.Constant .none j pos) (tC .non):=fun _ _ _ H _ I h=>Constant_none ⟨.non,H,I,rfl,h⟩
def uV {x j pos}:PE X (.Constant (.str x) j pos) (tC (.str x)):=fun _ _ _ H _ I h=>Calls.Constant_str ⟨.str x,H,I.tok _,⟨_,rfl⟩,h⟩
def Gl (X:Cx)(x:Str):Prop:=X.env.kindOf x=some .globalImplicit
def mq {E:Value->Shared->Prop}{pins:List (Addr×Obj)}{s:Shared}{σ:St}{H:Hp}{x:Str}{u:Value}{pos:Pos}{Q:Value->Shared->Prop}(I:Inv X pins σ H s)(hg:Gl X x)(hm:X.mg x=some u)(h:Q u s)
 (hd:(x==("__debug__":Str))=false:=by decide):wpAny (model X.prog X.w) X.A (eval (.Name x pos) X.env) Q E s :=
 Calls.Name_function_global I.ok.kind hg (Calls.loadGlobal_global (by rw[I.ok.glob];exact I.mod.glob.keeps I.bk) hm h) hd
def jF {E:Value->Shared->Prop}{pins:List (Addr×Obj)}{s:Shared}{σ:St}{H:Hp}{x:Str}{u:Value}{pos:Pos}{Q:Value->Shared->Prop}(I:Inv X pins σ H s)(hg:Gl X x)(hm:X.mg x=none)(hv:bootBuiltins x=some u)(h:Q u s)
 (hn:x≠"__name__":=by decide) (hd:(x==("__debug__":Str))=false:=by decide):wpAny (model X.prog X.w) X.A (eval (.Name x pos) X.env) Q E s:=by
 obtain⟨mb,h1,h2⟩:=I.mod.blt;exact Calls.Name_function_global I.ok.kind hg (Calls.loadGlobal_builtin (by rw[I.ok.glob];exact I.mod.glob.keeps I.bk) hm (by rw[I.ok.blt];exact h1.keeps I.bk) ((h2 x hn).trans hv) h) hd
def pL {x:Str}{v:V}{u:Value}{pos:Pos}(hg:Gl X x)(hm:X.mg x=some u)(r:RelV v u)(hd:(x==("__debug__":Str))=false:=by decide):PE X (.Name x pos) (tC v) :=
 fun _ _ _ H _ I h=>mq I hg hm ⟨v,H,I,r,h⟩ hd
def Ai {x:Str}{v:V}{u:Value}{pos:Pos}(hg:Gl X x)(hm:X.mg x=none)(hv:bootBuiltins x=some u)(r:RelV v u)(hn:x≠"__name__":=by decide)(hd:(x==("__debug__":Str))=false:=by decide):PE X (.Name x pos) (tC v) :=
 fun _ _ _ H _ I h=>jF I hg hm hv ⟨v,H,I,r,h⟩ hn hd
noncomputable def Tu (ta tb:TE)(k:Int->Int->Hp->Prop):St->Hp->Prop:=fun σ H=>ta σ H fun x H1=>tb σ H1 fun y H2=>∃i j,x=.int i/\y=.int j/\k i j H2
def Nz (ta tb:TE):TE:=fun σ H Q=>Tu ta tb (fun i j H2=>Q (.int (i+j)) H2) σ H
variable {a b:Expr}{ta tb:TE}{pos:Pos}
def Oq (ha:PE X a ta)(hb:PE X b tb):PE X (.BinOp a .Add b pos) (Nz ta tb):=by
 intro pins s σ H Q I h;refine wpAny_BinOp (bin ha hb I h fun v u s2 x y H2 I2 rx ry q=>?_);obtain⟨i,j,rfl,rfl,q⟩:=q;obtain⟨t,rfl⟩:=rx;obtain⟨t',rfl⟩:=ry;exact add_int ⟨.int _,H2,I2.tok _,⟨_,rfl⟩,q⟩
def PC (X:Cx)(op:CmpOp)(a b:Expr)(t:TE):Prop :=
 ∀(pins:List (Addr×Obj)) (s:Shared) (σ:St) (H:Hp) (Q:VK),Inv X pins σ H s->t σ H Q ->
  wpAny (model X.prog X.w) X.A (eval a X.env) (fun v s₁=>wpAny (model X.prog X.w) X.A (eval b X.env) (fun u s₂=>wpAny (model X.prog X.w) X.A (compareOp op v u) (EP X pins σ Q) X.xe s₂) X.xe s₁) X.xe s
noncomputable def tB (t:TE):TT:=fun σ H Q=>t σ H fun x H1=>∃c,x=.bl c/\Q c H1
def Oo {op:CmpOp}{t:TE}(h:PC X op a b t)(h1:behindInMarks op b=false:=by first | exact nobehind _ (by decide) (by decide) | rfl):PE X (.Compare a [op] [b] pos) t:=fun pins s σ H Q I hw=>wpAny_Compare1 (h pins s σ H Q I hw) h1
def Oe {op:CmpOp}{t:TE}(h:PC X op a b t)(h1:behindInMarks op b=false:=by first | exact nobehind _ (by decide) (by decide) | rfl):PT X (.Compare a [op] [b] pos) (tB t):=by
 intro pins s σ H Q I hw;refine wpAny_isTrue_Compare1 (bw (h pins s σ H _ I hw) fun v s1 h1=>bw h1 fun u s2 h2=>bw h2 fun c s3 ⟨x,H1,I1,r1,q1⟩=>?_) h1;obtain⟨d,rfl,q⟩:=q1;cases r1;exact wpAny_truthy_bool ⟨H1,I1,q⟩
variable {tA tB':TT}{rest:List Expr}
noncomputable def tAnd (t u:TT):TT:=fun σ H Q=>t σ H fun c H1=>if c=true then u σ H1 Q else Q false H1
noncomputable def tOr (t u:TT):TT:=fun σ H Q=>t σ H fun c H1=>if c=true then Q true H1 else u σ H1 Q
noncomputable def tNot (t:TT):TT:=fun σ H Q=>t σ H fun c H1=>Q (!c) H1
def zY (ha:PT X a tA):PW X (.BoolOp .And [a] pos) tA:=by
 intro wh pins s σ H Q I h;refine isTrue_and (bw (ha pins s σ H Q I h) fun c s1 e=>?_);cases c with
 | true=>exact isTrue_and_nil e
 | false=>exact e
def Od (ha:PT X a tA):PW X (.BoolOp .Or [a] pos) tA:=by
 intro wh pins s σ H Q I h;refine isTrue_or (bw (ha pins s σ H Q I h) fun c s1 e=>?_);cases c with
 | false=>exact isTrue_or_nil e
 | true=>exact e
def Gr (ha:PT X a tA)(hb:PW X (.BoolOp .And (b::rest) pos) tB'):PW X (.BoolOp .And (a::b::rest) pos) (tAnd tA tB'):=by
 intro wh pins s σ H Q I h;refine isTrue_and (bw (ha pins s σ H _ I h) fun c s1 ⟨H1,I1,q1⟩=>?_);cases c with
 | true=>exact hb wh pins s1 σ H1 Q I1 q1
 | false=>exact⟨H1,I1,q1⟩
def Q4 (ha:PT X a tA)(hb:PW X (.BoolOp .Or (b::rest) pos) tB'):PW X (.BoolOp .Or (a::b::rest) pos) (tOr tA tB'):=by
 intro wh pins s σ H Q I h;refine isTrue_or (bw (ha pins s σ H _ I h) fun c s1 ⟨H1,I1,q1⟩=>?_);cases c with
 | true=>exact⟨H1,I1,q1⟩
 | false=>exact hb wh pins s1 σ H1 Q I1 q1
def Gs (ha:PT X a tA):PT X (.UnaryOp .Not a pos) (tNot tA):=by
 intro pins s σ H Q I h;exact isTrue_not (ha pins s σ H (fun c H1=>Q (!c) H1) I h)
noncomputable def Ml (ta tb:TE):TE:=fun σ H Q=>ta σ H fun x H1=>∃c,x=.bl c/\if c=true then tb σ H1 Q else Q (.bl false) H1
noncomputable def QK (ta:TE):TE:=fun σ H Q=>ta σ H fun x H1=>∃c,x=.bl c/\Q (.bl (!c)) H1
def GJ {op}{t:TE}(h:PE X a t):PE X (.BoolOp op [a] pos) t:=fun pins s σ H Q I hw=>BoolOp_one (h pins s σ H Q I hw)
def G5 (ha:PE X a ta)(hb:PE X (.BoolOp .And (b::rest) pos) tb):PE X (.BoolOp .And (a::b::rest) pos) (Ml ta tb):=by
 intro pins s σ H Q I h;refine BoolOp_and (bw (ha pins s σ H _ I h) fun v s1 ⟨x,H1,I1,r1,q1⟩=>?_);obtain⟨c,rfl,q1⟩:=q1;cases r1;refine wpAny_truthy_bool ?_;cases c with
 | true=>exact hb pins s1 σ H1 Q I1 q1
 | false=>exact⟨.bl false,H1,I1,rfl,q1⟩
def Ol (ha:PE X a ta):PE X (.UnaryOp .Not a pos) (QK ta):=by
 intro pins s σ H Q I h;refine UnaryOp_ (bw (ha pins s σ H _ I h) fun v s1 ⟨x,H1,I1,r1,q1⟩=>?_);obtain⟨c,rfl,q1⟩:=q1;cases r1;exact not_of (wpAny_truthy_bool ⟨.bl (!c),H1,I1,rfl,q1⟩)
end
def SqL (K:PySem.W.Frag)(H:Hp)(a:Addr)(xs:List V):Prop :=
 Rd H a (.lst xs) \/
  ∃(o:Obj) (its:Array Value) (n:Nat),K.lookup a=some o/\o.cls=.type "list"/\o.dict=none/\o.data=.seq its n/\its.size<=sizeLine/\Vals xs its.toList
def SqT (K:PySem.W.Frag)(H:Hp)(a:Addr)(xs:List V):Prop :=
 Rd H a (.tup xs) \/
  ∃(o:Obj) (its:Array Value) (n:Nat),K.lookup a=some o/\o.cls=.type "tuple"/\o.data=.seq its n/\its.size<=sizeLine/\Vals xs its.toList
noncomputable def SM:Value->Option V
 | .none=>some .non
 | .bool b=>some (.bl b)
 | .int i _=>some (.int i)
 | .str x _=>some (.str x)
 | .bytes b _=>some (.byt b)
 | .float b _=>some (.flt b)
 | .ref a=>some (.ref a)
 | .type n=>some (.ty n)
 | _=>none
def RelV.abs {x:V}{u:Value}(r:RelV x u):SM u=some x:=by
 cases x with
 | non=>cases r;rfl
 | bl _=>cases r;rfl
 | int _=>obtain⟨t,rfl⟩:=r;rfl
 | str _=>obtain⟨t,rfl⟩:=r;rfl
 | byt _=>obtain⟨t,rfl⟩:=r;rfl
 | flt _=>obtain⟨t,rfl⟩:=r;rfl
 | ref _=>cases r;rfl
 | ty _=>cases r;rfl
def RelV.inj {x y:V}{u:Value}(r:RelV x u)(q:RelV y u):x=y:=Option.some.inj (r.abs.symm.trans q.abs)
def Vals.inj:∀{xs ys:List V} {us:List Value},Vals xs us->Vals ys us->xs=ys
 | _,_,_,.nil,.nil=>rfl
 | _,_,_,.cons r t,.cons r' t'=>by rw[r.inj r',Vals.inj t t']
section
variable {X:Cx}{pins:List (Addr×Obj)}{σ:St}{H:Hp}{s:Shared}{a:Addr}{xs ys:List V}
def SqL.of {K:PySem.W.Frag}(h:H a=some (.lst xs)):SqL K H a xs:=.inl (.inl h)
def SqT.of {K:PySem.W.Frag}(h:H a=some (.tup xs)):SqT K H a xs:=.inl (.inl h)
def Inv.list (I:Inv X pins σ H s)(h:SqL X.K H a xs):∃its:List Value,Vals xs its/\PlainL s.heap a its.toArray/\xs.length<=sizeLine:=by
 rcases h with h | ⟨o,its,n,hk,hc,hd,hs,hz,r⟩
 ·obtain⟨z,its,n,r,e⟩:=h.ok I.hok;exact⟨its,r,⟨_,n,e,rfl,rfl,rfl⟩,z⟩
 ·refine⟨its.toList,r,⟨o,n,I.kIn a o hk,hc,hd,by simpa using hs⟩,?_⟩;have e:=r.length;simp only[Array.length_toList] at e;omega
def Inv.tuple (I:Inv X pins σ H s)(h:SqT X.K H a xs):∃its:List Value,Vals xs its/\IsTup s.heap a its.toArray/\xs.length<=sizeLine:=by
 rcases h with h | ⟨o,its,n,hk,hc,hs,hz,r⟩
 ·obtain⟨z,its,r,p⟩:=h.ok I.hok;exact⟨its,r,p,z⟩
 ·refine⟨its.toList,r,⟨o,I.kIn a o hk,hc,n,by simpa using hs⟩,?_⟩;have e:=r.length;simp only[Array.length_toList] at e;omega
def Inv.list_inj (I:Inv X pins σ H s)(h:SqL X.K H a xs)(h':SqL X.K H a ys):xs=ys:=by
 obtain⟨its,r,⟨o,n,e,_,_,d⟩,_⟩:=I.list h;obtain⟨its',r',⟨o',n',e',_,_,d'⟩,_⟩:=I.list h';rw[e] at e';cases e';rw[d] at d';injection d' with d1 _;have:its=its':=by simpa using congrArg Array.toList d1
 subst this;exact r.inj r'
def Inv.tuple_inj (I:Inv X pins σ H s)(h:SqT X.K H a xs)(h':SqT X.K H a ys):xs=ys:=by
 obtain⟨its,r,⟨o,e,_,n,d⟩,_⟩:=I.tuple h;obtain⟨its',r',⟨o',e',_,n',d'⟩,_⟩:=I.tuple h';rw[e] at e';cases e';rw[d] at d';injection d' with d1 _;have:its=its':=by simpa using congrArg Array.toList d1
 subst this;exact r.inj r'
end
abbrev Cx.wish (X:Cx)(E:Value->Shared->Prop):Cx:={ X with xe:=E }
abbrev Cx.nox (X:Cx):Cx:=X.wish fun _ _=>False
def Cx.Ok.wish {X:Cx}(ok:X.Ok)(E:Value->Shared->Prop):(X.wish E).Ok :=
 ⟨ok.mod,ok.kind,ok.glob,ok.blt,ok.above,ok.inj,ok.has,ok.cab,ok.hd,ok.frames,ok.stk,ok.exf,ok.bs,ok.bsz,ok.noex,ok.exfs,ok.funs,ok.frf⟩
def Cx.Ok.unwish {X:Cx}{E:Value->Shared->Prop}(ok:(X.wish E).Ok):X.Ok :=
 ⟨ok.mod,ok.kind,ok.glob,ok.blt,ok.above,ok.inj,ok.has,ok.cab,ok.hd,ok.frames,ok.stk,ok.exf,ok.bs,ok.bsz,ok.noex,ok.exfs,ok.funs,ok.frf⟩
section
variable {X:Cx}{pins:List (Addr×Obj)}{σ:St}{H:Hp}{s:Shared}{E:Value->Shared->Prop}
def Inv.wish (I:Inv X pins σ H s)(E:Value->Shared->Prop):Inv (X.wish E) pins σ H s:=⟨I.ok.wish E,I.os,I.bare,I.base,I.loc,I.cell,I.free,I.freeC,I.pin,I.hok,I.len⟩
def Inv.unwish (I:Inv (X.wish E) pins σ H s):Inv X pins σ H s:=⟨I.ok.unwish,I.os,I.bare,I.base,I.loc,I.cell,I.free,I.freeC,I.pin,I.hok,I.len⟩
def SP.unwish {D:Ends}{f:Flow}{s':Shared}(h:SP (X.wish E) pins D f s'):SP X pins D f s':=by
 cases f with
 | next=>obtain⟨σ',H',I,q⟩:=h;exact⟨σ',H',I.unwish,q⟩
 | brk=>obtain⟨σ',H',I,q⟩:=h;exact⟨σ',H',I.unwish,q⟩
 | cont=>obtain⟨σ',H',I,q⟩:=h;exact⟨σ',H',I.unwish,q⟩
 | ret u=>obtain⟨v,σ',H',I,r,q⟩:=h;exact⟨v,σ',H',I.unwish,r,q⟩
def PSs.nox {st:List Stmt}{t:TS}(h:PSs X.nox st t):PSs X st t:=fun pins s σ H D I hw =>
 wpAny_mono (h pins s σ H D (I.wish _) hw) (fun _ _ q=>q.unwish) fun _ _ z=>False.elim z
end
section
variable {X:Cx}{st:Stmt}{rest:List Stmt}{t u:TS}{e:Expr}{te:TE}{pos:Pos}
noncomputable def pW:TS:=fun D σ H=>D.nx σ H
noncomputable def ig (t u:TS):TS:=fun D σ H=>t { D with nx:=u D } σ H
def iQ:PSs X [] pW:=fun _ _ σ H _ I h=>wpAny_execs_nil ⟨σ,H,I,h⟩
def aP (h1:PS X st t)(h2:PSs X rest u):PSs X (st::rest) (ig t u):=by
 intro pins s σ H D I h;refine wpAny_execs_cons (bw (h1 pins s σ H { D with nx:=u D } I h) fun f s1 q=>?_);cases f with
 | next =>
   obtain⟨σ',H',I',q⟩:=q;exact h2 pins s1 σ' H' D I' q
 | ret v=>exact q
 | brk=>exact q
 | cont=>exact q
def bD (h1:PS X st t):PSs X [st] t:=by
 intro pins s σ H D I h;refine wpAny_execs_cons (bw (h1 pins s σ H D I h) fun f s1 q=>?_);cases f with
 | next=>exact wpAny_execs_nil q
 | ret v=>exact q
 | brk=>exact q
 | cont=>exact q
def Inv.quiet {pins:List (Addr×Obj)}{σ:St}{H:Hp}{s:Shared}(I:Inv X pins σ H s):interactive X.env=false:=by simp[interactive,I.ok.kind]
noncomputable def Fw (te:TE):TS:=fun D σ H=>te σ H fun _ H1=>D.nx σ H1
def lX (he:PE X e te)(hs:swapsWith e none pos.line X.env=pure false:=by rfl):PS X (.Expr e pos) (Fw te):=by
 intro pins s σ H D I h;exact wpAny_Expr_any (bw (he pins s σ H _ I h) fun v s1 ⟨x,H1,I1,r1,q1⟩=>⟨σ,H1,I1,q1⟩) I.quiet hs
noncomputable def JS (te:TE):TS:=fun D σ H=>te σ H D.rt
def jB (he:PE X e te):PS X (.Return (some e) pos) (JS te):=by
 intro pins s σ H D I h;exact wpAny_Return_some (bw (he pins s σ H _ I h) fun v s1 ⟨x,H1,I1,r1,q1⟩=>⟨x,σ,H1,I1,r1,q1⟩)
noncomputable def QR (c:TT)(t u:TS):TS:=fun D σ H=>c σ H fun b H1=>if b=true then t D σ H1 else u D σ H1
def wD {c:Expr}{a b:List Stmt}{tc:TT}(hc:PT X c tc)(ha:PSs X a t)(hb:PSs X b u):PS X (.If c a b pos) (QR tc t u):=by
 intro pins s σ H D I h;refine wpAny_If (bw (hc pins s σ H _ I h) fun d s1 ⟨H1,I1,q1⟩=>?_);cases d with
 | true=>exact ha pins s1 σ H1 D I1 q1
 | false=>exact hb pins s1 σ H1 D I1 q1
end
abbrev TG:=V->St->Hp->(St->Hp->Prop)->Prop
abbrev M9:=List V->St->Hp->(St->Hp->Prop)->Prop
def PG (X:Cx)(target:Expr)(t:TG):Prop :=
 ∀(pins:List (Addr×Obj)) (s:Shared) (σ:St) (H:Hp) (v:V) (u:Value) (Q:St->Hp->Prop),Inv X pins σ H s->RelV v u->t v σ H Q ->
  wpAny (model X.prog X.w) X.A (assign target X.env u) (fun _ s'=>∃σ' H',Inv X pins σ' H' s'/\Q σ' H') X.xe s
def RL (X:Cx)(ts:List Expr)(t:M9):Prop :=
 ∀(pins:List (Addr×Obj)) (s:Shared) (σ:St) (H:Hp) (vs:List V) (us:List Value) (Q:St->Hp->Prop),Inv X pins σ H s->Vals vs us->t vs σ H Q ->
  wpAny (model X.prog X.w) X.A (assignInOrder ((assignEach ts X.env).map (·.2)) us) (fun _ s'=>∃σ' H',Inv X pins σ' H' s'/\Q σ' H') X.xe s
abbrev Qs:=V->V->V->Hp->(Hp->Prop)->Prop
def RK (X:Cx)(t:Qs):Prop :=
 ∀(pins:List (Addr×Obj)) (s:Shared) (σ:St) (H:Hp) (o i v:V) (ov iv u:Value) (Q:Hp->Prop),Inv X pins σ H s->RelV o ov->RelV i iv->RelV v u->t o i v H Q ->
  wpAny (model X.prog X.w) X.A (setItem ov iv u) (fun _ s'=>∃H',Inv X pins σ H' s'/\Q H') X.xe s
abbrev RZ:=V->V->Hp->VK->Prop
def Th (X:Cx)(op:Operator)(t:RZ):Prop :=
 ∀(pins:List (Addr×Obj)) (s:Shared) (σ:St) (H:Hp) (x y:V) (v u:Value) (Q:VK),Inv X pins σ H s->RelV x v->RelV y u->t x y H Q ->
  wpAny (model X.prog X.w) X.A (inplaceOp op v u) (EP X pins σ Q) X.xe s
section
variable {X:Cx}{pos:Pos}
noncomputable def cR (i:Nat):TG:=fun v σ H Q=>Q (σ.set i (some v)) H
def pK {i:Nat}{x:Str}(hN:X.N.Nodup)(hi:X.N[i]? = some x)(hx:Loc X.env.scope x)(hf:X.fn x=true\/X.env.scope.names.lookup x=some .local:=by first | exact .inl rfl | exact .inr rfl | assumption):PG X (.Name x pos) (cR i):=by
 intro pins s σ H v u Q I r h;exact wpAny_assign_Name (jw I hN hi hx r (fun s' I'=>⟨_,H,I',h⟩) hf)
noncomputable def Rr:M9:=fun vs σ H Q=>vs=[]/\Q σ H
noncomputable def HQ (t:TG)(u:M9):M9:=fun vs σ H Q=>∃v r,vs=v::r/\t v σ H fun σ' H'=>u r σ' H' Q
def Af:RL X [] Rr:=by
 intro pins s σ H vs us Q I r h;obtain⟨e,h⟩:=h;subst e;cases r;exact assignInOrder_nil ⟨σ,H,I,h⟩
def qz {e:Expr}{es:List Expr}{t:TG}{u:M9}(h1:PG X e t)(h2:RL X es u)
 (hs:(assignEach (e::es) X.env).map (·.2)=assign e X.env::(assignEach es X.env).map (·.2):=by rfl):RL X (e::es) (HQ t u):=by
 intro pins s σ H vs us Q I r h;obtain⟨v,vr,e1,h⟩:=h;subst e1;cases r with
 | cons r rr =>
   rw[hs];refine assignInOrder_cons (bw (h1 pins s σ H _ _ _ I r h) fun _ s1 ⟨σ1,H1,I1,q1⟩=>?_);exact h2 pins s1 σ1 H1 _ _ Q I1 rr q1
noncomputable def Rq (K:PySem.W.Frag)(n:Nat)(t:M9):TG:=fun v σ H Q=>∃a xs,v=.ref a/\SqT K H a xs/\xs.length=n/\t xs σ H Q
def GC {es:List Expr}{k:Nat}{t:M9}{n:Nat}(hc:X.calm=true)(h:RL X es t)
 (hn:(assignEach es X.env).length=n:=by rfl) (hst:(assignEach es X.env).findIdx? (·.1)=none:=by rfl):PG X (.Tuple es k pos) (Rq X.K n t):=by
 intro pins s σ H v u Q I r hw;obtain⟨a,xs,e1,hq,hl,hw⟩:=hw;subst e1;cases r;obtain⟨its,rv,ht,hz⟩:=I.tuple hq;refine assign_Tuple_tuple (I.ok.hd hc) ht (by simp[hn,<-hl,rv.length]) hst fun h' hx=>?_;have I1:Inv X pins σ H { s with heap:=h' }:=I.kept (t':=s.toks) fun b o e=>hx b o (Nat.ne_of_lt (Heap.lt_size e)) e;exact h pins _ σ H xs _ Q I1 (by simpa using rv) hw
def oW (te:TE)(g:TG):TS:=fun D σ H=>te σ H fun x H1=>g x σ H1 D.nx
def gU {tg e:Expr}{te:TE}{g:TG}(he:PE X e te)(hg:PG X tg g)(hs:swapsWithSole [tg] e pos.line X.env=pure false:=by rfl)(hw:swappedStores [tg] e X.env=pure none:=by rfl)
 (h1:(assignEach [tg] X.env).map (·.2)=[assign tg X.env]:=by rfl):PS X (.Assign [tg] e pos) (oW te g):=by
 intro pins s σ H D I h;refine wpAny_Assign_stores (bw (he pins s σ H _ I h) fun v s1 ⟨x,H1,I1,r1,q1⟩=>?_) hs hw;rw[h1];exact bw (hg pins s1 σ H1 x v _ I1 r1 q1) fun _ s2 q=>q
def qy {i:Nat}{x:Str}{e:Expr}{te:TE}{pos':Pos}(hN:X.N.Nodup)(hi:X.N[i]? = some x)(hx:Loc X.env.scope x)(he:PE X e te)(hs:swapsWith e (some (.Name x pos')) pos.line X.env=pure false:=by rfl)(hf:X.fn x=true\/X.env.scope.names.lookup x=some .local:=by first | exact .inl rfl | exact .inr rfl | assumption) :
 PS X (.Assign [.Name x pos'] e pos) (oW te (cR i)):=by
 intro pins s σ H D I h;refine wpAny_Assign_Name (bw (he pins s σ H _ I h) fun v s1 ⟨y,H1,I1,r1,q1⟩=>?_) hs;exact jw I1 hN hi hx r1 (fun s2 I2=>⟨_,H1,I2,q1⟩) hf
noncomputable def R7 (i j:Nat)(ta:TA):TS:=fun D σ H=>ta σ H fun vs H1=>∃v w,vs=[v,w]/\D.nx ((σ.set i (some v)).set j (some w)) H1
def Oh {i j:Nat}{x y:Str}{a b:Expr}{ta:TA}{px py pt:Pos}{kt k2 pt2}(hc:X.calm=true)(hN:X.N.Nodup)(hi:X.N[i]? = some x)(hj:X.N[j]? = some y)(hij:i≠j)
 (hx:X.env.scope.names.lookup x=some .local) (hy:X.env.scope.names.lookup y=some .local) (ha:PA X [a,b] ta)
 (hw:swappedStores [.Tuple [.Name x px,.Name y py] kt pt] (.Tuple [a,b] k2 pt2) X.env=pure (some [x,y]))
 (hs:swapsWithSole [.Tuple [.Name x px,.Name y py] kt pt] (.Tuple [a,b] k2 pt2) pos.line X.env=pure false:=by rfl) :
 PS X (.Assign [.Tuple [.Name x px,.Name y py] kt pt] (.Tuple [a,b] k2 pt2) pos) (R7 i j ta):=by
 intro pins s σ H D I h;rw[exec_Assign_arm];refine wpAny_bind (wpAny_standAt ?_);rw[hs];refine wpAny_bind (wpAny_pure ?_);rw[if_neg (by decide)];refine wpAny_bind (Tuple_ (bw (ha _ pins s σ H _ I h) fun us s1 ⟨vs,H1,I1,r1,q1⟩=>?_));obtain⟨v,w,e1,q1⟩:=q1;subst e1;obtain⟨u1,u2,rfl,rv,rw'⟩:∃u1 u2,us=[u1,u2]/\RelV v u1/\RelV w u2:=by
  cases r1 with
  | cons p q =>
    cases q with
    | cons p' q' =>
      cases q';exact⟨_,_,rfl,p,p'⟩
 refine wpAny_newObj_type ?_ (by show 2<=sizeLine;decide);have I2:Inv X pins σ H1 { s1 with heap:=s1.heap.push { cls:=.type "tuple",data:=.seq [u1,u2].toArray } }:=I1.kept (t':=s1.toks) fun b o e=>Heap.get?_push_of_some _ e;rw[hw];refine wpAny_bind (wpAny_pure ?_);show wpAny (model X.prog X.w) X.A (do rule "assign.swapped-stores";let items <-unpackItems (.ref s1.heap.objs.size) 2 none;assignInOrder [fun v=>bindName X.env y v,fun v=>bindName X.env x v] items.reverse;pure Flow.next) _ _ _;refine wpAny_bind (wpAny_rule (wpAny_bind (unpackItems_tuple (items:=#[u1,u2]) (I.ok.hd hc) (IsTup.new s1.heap _) fun h' hx'=>?_)));have I3:=I2.kept (h':=h') (t':=s1.toks) fun b o e=>hx' b o (Nat.ne_of_lt (Heap.lt_size e)) e;show wpAny _ _ (assignInOrder [fun v=>bindName X.env y v,fun v=>bindName X.env x v] [u2,u1] >>= fun _=>pure Flow.next) _ _ _;refine wpAny_bind (assignInOrder_cons (wpAny_bindName (jw I3 hN hj (.inl hy) rw' (fun s2 I4=>?_) (.inr hy))));refine assignInOrder_cons (wpAny_bindName (jw I4 hN hi (.inl hx) rv (fun s3 I5=>assignInOrder_nil (wpAny_pure ?_)) (.inr hx)));rw[List.set_comm _ _ (Ne.symm hij)] at I5;exact⟨_,H1,I5,q1⟩
noncomputable def Fz (to ti te:TE)(tget:V->V->Hp->VK->Prop)(tip:RZ)(tset:Qs):TS:=fun D σ H=>to σ H fun o H1=>ti σ H1 fun i H2=>tget o i H2 fun x H3=>te σ H3 fun y H4=>tip x y H4 fun z H5=>tset o i z H5 fun H6=>D.nx σ H6
def RM (X:Cx)(t:V->V->Hp->VK->Prop):Prop :=
 ∀(pins:List (Addr×Obj)) (s:Shared) (σ:St) (H:Hp) (o i:V) (ov iv:Value) (Q:VK),Inv X pins σ H s->RelV o ov->RelV i iv->t o i H Q ->
  wpAny (model X.prog X.w) X.A (getItem ov iv) (EP X pins σ Q) X.xe s
def Ab {o i e:Expr}{to ti te:TE}{tget:V->V->Hp->VK->Prop}{tip:RZ}{tset:Qs}{op:Operator}{tpos:Pos}(ho:PE X o to)(hi:PE X i ti)(hg:RM X tget)(he:PE X e te)(hp:Th X op tip)(hs:RK X tset)
 (ha:∀ov iv new,augStore i ov iv new=(do holding [new,ov,iv] (setItem ov iv new);release [new,ov,iv] [];pure .next):=by intros;rfl):PS X (.AugAssign (.Subscript o i tpos) op e pos) (Fz to ti te tget tip tset):=by
 intro pins s σ H D I h;refine wpAny_AugAssign_SubscriptAny (bw (ho pins s σ H _ I h) fun ov s1 ⟨x1,H1,I1,r1,q1⟩=>?_) ha;refine bw (hi pins s1 σ H1 _ I1 q1) fun iv s2 ⟨x2,H2,I2,r2,q2⟩=>?_;refine bw (hg pins s2 σ H2 x1 x2 ov iv _ I2 r1 r2 q2) fun old s3 ⟨x3,H3,I3,r3,q3⟩=>?_;refine bw (he pins s3 σ H3 _ I3 q3) fun v s4 ⟨x4,H4,I4,r4,q4⟩=>?_;refine bw (hp pins s4 σ H4 x3 x4 old v _ I4 r3 r4 q4) fun new s5 ⟨x5,H5,I5,r5,q5⟩=>?_;exact bw (hs pins s5 σ H5 x1 x2 x5 ov iv new _ I5 r1 r2 r5 q5) fun _ s6 ⟨H6,I6,q6⟩=>⟨σ,H6,I6,q6⟩
noncomputable def Sx (f:Int->Int->Int):RZ:=fun x y H Q=>∃i j,x=.int i/\y=.int j/\Q (.int (f i j)) H
def Ht:Th X .Add (Sx fun i j=>i+j):=by
 intro pins s σ H x y v u Q I r1 r2 h;obtain⟨i,j,e1,e2,q⟩:=h;subst e1;subst e2;obtain⟨t,rfl⟩:=r1;obtain⟨t',rfl⟩:=r2;exact iadd_int ⟨.int _,H,I.tok _,⟨_,rfl⟩,q⟩
end
section
variable {X:Cx}{pos:Pos}
noncomputable def Nq (c:TT)(tb:TS):TS:=fun D σ H=>∃W:Nat->St->Hp->Prop,(∃m,W m σ H)/\∀m σ H,W m σ H ->
 c σ H fun b H1=>if b=true then ∃N:St->Hp->Prop,(∀σ' H',N σ' H'->∃m',m'<m/\W m' σ' H')/\tb { D with nx:=N,ct:=N,bk:=D.nx } σ H1 else D.nx σ H1
def Gv {c:Expr}{body:List Stmt}{tc:TT}{tb:TS}(hp:PassesOwn (model X.prog X.w) X.A X.env X.xe)(hc:PT X c tc)(hb:PSs X body tb):PS X (.While c body [] pos) (Nq tc tb):=by
 intro pins s σ H D I h;obtain⟨W,⟨m0,w0⟩,turn⟩:=h;refine wpAny_While (codeAny_whileLoop (fun n s'=>∃σ' H',Inv X pins σ' H' s'/\W n σ' H') ?_ m0 ⟨σ,H,I,w0⟩);rintro n s1 ⟨σ1,H1,I1,w1⟩;refine wpAny_passesOwn hp (bw (hc pins s1 σ1 H1 _ I1 (turn n σ1 H1 w1)) fun b s2 ⟨H2,I2,q2⟩=>?_);cases b with
 | true =>
   obtain⟨N,hN,q2⟩:=q2;rw[if_pos rfl];refine wpAny_passesOwn hp (bw (hb pins s2 σ1 H2 _ I2 q2) fun f s3 q3=>?_);cases f with
   | next =>
     obtain⟨σ3,H3,I3,n3⟩:=q3;obtain⟨m',hm,w3⟩:=hN σ3 H3 n3;exact⟨m',hm,σ3,H3,I3,w3⟩
   | cont =>
     obtain⟨σ3,H3,I3,n3⟩:=q3;obtain⟨m',hm,w3⟩:=hN σ3 H3 n3;exact⟨m',hm,σ3,H3,I3,w3⟩
   | brk=>exact q3
   | ret v=>exact q3
 | false =>
   rw[if_neg Bool.false_ne_true];exact wpAny_execs_nil ⟨σ1,H2,I2,q2⟩
end
structure It where
 go:Nat->Hp->Prop
 yld:Nat->Hp->V->Hp->Prop
 stop:Nat->Hp->Prop
def jZ (X:Cx)(pins:List (Addr×Obj))(H:Hp)(b:Addr):Prop :=
 H b=none/\b≠X.env.locals/\b∉X.fs/\(b∈X.ex\/X.s₀.heap.objs.size<=b)/\(∀x c,X.env.cells.lookup x=some c->c≠b)/\∀p∈X.pn++pins,p.1≠b
def Inv.fpOk {X:Cx}{pins:List (Addr×Obj)}{σ:St}{H H':Hp}{s:Shared}{b:Addr}(I:Inv X pins σ H s)(hb:s.heap.objs.size<=b)(hn:H' b=none):jZ X pins H' b:=by
 refine⟨hn,Nat.ne_of_gt (Nat.lt_of_lt_of_le I.lt hb),I.nofs hb,.inr (Nat.le_trans I.sz hb),fun x c e z=>?_,fun p hp z=>?_⟩
 ·obtain⟨v,q⟩:=I.cell x c e;exact absurd (Nat.lt_of_lt_of_le q.lt (by rw[z];exact hb)) (Nat.lt_irrefl _)
 ·exact absurd (Nat.lt_of_lt_of_le (Heap.lt_size (I.pin p hp).1) (by rw[z];exact hb)) (Nat.lt_irrefl _)
structure Turn (P:Program)(w:World)(K:PySem.W.Frag)(tg:Expr)(J:It)(fp:List Addr)(it:Addr)(tn:Nat->Heap->Prop):Prop where
 mem:it∈fp
 obj:∀i h,tn i h->∀b∈fp,∃o,h.get? b=some o/\∀v,o.data≠.cell v
 keep:∀i h h',tn i h->(∀b∈fp,∀o,h.get? b=some o->h'.get? b=some o)->tn i h'
 item:∀(X:Cx),X.prog=P->X.w=w->X.K=K->X.calm=true->∀(i:Nat) (pins:List (Addr×Obj)) (s:Shared) (σ:St) (H:Hp) (E:Value->Shared->Prop),Inv X pins σ H s->(∀b∈fp,jZ X pins H b)->tn i s.heap->J.go i H ->
  wpAny (model P w) X.A (pyNext (.ref it)) (fun r s1=>∃u,r=some u /\
   wpAny (model P w) X.A (letOwnedTupleGo tg (.ref it) u) (fun _ s2=>∃x H',Inv X pins σ H' s2/\RelV x u/\J.yld i H x H'/\tn (i+1) s2.heap/\∀b∈fp,H' b=none) E s1) E s
 done:∀(X:Cx),X.prog=P->X.w=w->X.K=K->X.calm=true->∀(i:Nat) (pins:List (Addr×Obj)) (s:Shared) (σ:St) (H:Hp) (E:Value->Shared->Prop),Inv X pins σ H s->(∀b∈fp,jZ X pins H b)->tn i s.heap->J.stop i H ->
  wpAny (model P w) X.A (pyNext (.ref it)) (fun r s1=>r=none/\Inv X pins σ H s1) E s
 self:∀(A:Around) (i:Nat) (s:Shared) (Q:Value->Shared->Prop) (E:Value->Shared->Prop),tn i s.heap->Q (.ref it) s->wpAny (model P w) A (pyIter (.ref it)) Q E s
abbrev TI:=St->Hp->(It->Hp->Prop)->Prop
def PIE (X:Cx)(pins:List (Addr×Obj))(σ:St)(tg:Expr)(R:It->Hp->Prop)(itv:Value)(s2:Shared):Prop :=
 ∃(it:Addr) (fp:List Addr) (tn:Nat->Heap->Prop) (J:It) (H':Hp),itv=.ref it/\Inv X pins σ H' s2/\Turn X.prog X.w X.K tg J fp it tn/\tn 0 s2.heap/\(∀b∈fp,jZ X pins H' b)/\R J H'
def PI (X:Cx)(tg iter:Expr)(wi:TI):Prop :=
 ∀(pins:List (Addr×Obj)) (s:Shared) (σ:St) (H:Hp) (R:It->Hp->Prop),Inv X pins σ H s->wi σ H R ->
  wpAny (model X.prog X.w) X.A (eval iter X.env) (fun v s1=>wpAny (model X.prog X.w) X.A (pyIter v) (PIE X pins σ tg R) X.xe s1) X.xe s
def Bm {M:Model}{A:Around}{E:Value->Shared->Prop}{s:Shared}{tg:Expr}{it:Addr}{u:Value}{o:Obj}{n:String}{vs:Array Value}{Q:Unit->Shared->Prop}(ho:s.heap.get? it=some o)(hc:o.cls=.type n)(hd:o.data=.fields vs)
 (hn:["enumerate","zip","dict_itemiterator","dict_reverseitemiterator","odict_iterator","itertools.zip_longest","itertools.pairwise"].contains n=false) (hQ:Q () s):wpAny M A (letOwnedTupleGo tg (.ref it) u) Q E s:=by
 unfold letOwnedTupleGo;cases tg <;> first
  | exact wpAny_pure hQ
  | (cases u <;> first
   | exact wpAny_pure hQ
   | (refine wpAny_bind (wpAny_load ho ?_)
      rw[hc,hd];show wpAny M A (if (["enumerate","zip","dict_itemiterator","dict_reverseitemiterator","odict_iterator","itertools.zip_longest","itertools.pairwise"].contains n&&vs[0]?==some (rawInt _))=true then _ else _) Q E s;rw[if_neg (by intro h;rw[hn,Bool.false_and] at h;cases h)];exact wpAny_pure hQ))
noncomputable def JK (K:PySem.W.Frag)(a:Addr):It :=
 ⟨fun i H=>∃xs x,SqL K H a xs/\xs[i]? = some x,fun i H x H'=>H'=H/\∀xs,SqL K H a xs->xs[i]? = some x,fun i H=>∃xs,SqL K H a xs/\xs.length<=i⟩
noncomputable def R0 (K:PySem.W.Frag)(a:Addr):It :=
 ⟨fun i H=>∃xs x,SqT K H a xs/\xs[i]? = some x,fun i H x H'=>H'=H/\∀xs,SqT K H a xs->xs[i]? = some x,fun i H=>∃xs,SqT K H a xs/\xs.length<=i⟩
noncomputable def R1 (lo:Int)(n:Nat):It:=⟨fun i _=>i<n,fun i H x H'=>H'=H/\x=.int (lo+i),fun i _=>n<=i⟩
def sH {P:Program}{w:World}{K:PySem.W.Frag}{tg:Expr}(a it:Addr):Turn P w K tg (JK K a) [it] it (fun i h=>h.IsListIter it a i) where
 mem:=by simp
 obj:=fun i h st b hb=>by
  have e:b=it:=by simpa using hb
  subst e;obtain⟨o,e,c,d⟩:=st;exact⟨o,e,fun v z=>by rw[d] at z;cases z⟩
 keep:=fun i h h' st k=>st.at fun o e=>k it (by simp) o e
 item:=by
  intro X hP hw hK hc i pins s σ H E I hf st hg;subst hP hw hK;obtain⟨xs,x,hq,hx⟩:=hg;obtain⟨its,rv,p,hz⟩:=I.list hq;obtain⟨u,hu,ru⟩:=rv.get hx;obtain⟨f0,f1,f2,f3,f4,f5⟩:=hf it (by simp);refine wpAny_pyNext_list_item st p.isList (x:=u) (by simpa using hu) fun h' st' sb=>?_;have I1:Inv X pins σ H { s with heap:=h' }:=I.turned (t':=s.toks) (fun b o hb e=>(sb.2 b hb).trans e) f0 f1 f3 f4 f5;obtain⟨o,e,c,d⟩:=id st';exact⟨u,rfl,Bm (s:={ s with heap:=h' }) e c d (by decide) ⟨x,H,I1,ru,⟨rfl,fun ys hy=>by rw[I.list_inj hy hq];exact hx⟩,st',fun b hb=>(hf b hb).1⟩⟩
 done:=by
  intro X hP hw hK hc i pins s σ H E I hf st hg;subst hP hw hK;obtain⟨xs,hq,hx⟩:=hg;obtain⟨its,rv,p,hz⟩:=I.list hq;obtain⟨f0,f1,f2,f3,f4,f5⟩:=hf it (by simp);have hl:=rv.length;exact wpAny_pyNext_list_end (I.ok.hd hc) st p.isList (by simp;omega) fun h' eb=>⟨rfl,I.turned (t':=s.toks) (fun b o hb e=>eb b o hb e) f0 f1 f3 f4 f5⟩
 self:=fun _ _ _ _ _ st h=>wpAny_pyIter_listiter st h
def pU {P:Program}{w:World}{K:PySem.W.Frag}{tg:Expr}(a it:Addr):Turn P w K tg (R0 K a) [it] it (fun i h=>h.IsTupleIter it a i) where
 mem:=by simp
 obj:=fun i h st b hb=>by
  have e:b=it:=by simpa using hb
  subst e;obtain⟨o,e,c,d⟩:=st;exact⟨o,e,fun v z=>by rw[d] at z;cases z⟩
 keep:=fun i h h' st k=>st.at fun o e=>k it (by simp) o e
 item:=by
  intro X hP hw hK hc i pins s σ H E I hf st hg;subst hP hw hK;obtain⟨xs,x,hq,hx⟩:=hg;obtain⟨its,rv,p,hz⟩:=I.tuple hq;obtain⟨u,hu,ru⟩:=rv.get hx;obtain⟨f0,f1,f2,f3,f4,f5⟩:=hf it (by simp);refine wpAny_pyNext_tuple_item st (show s.heap.IsTuple a its.toArray from p) (x:=u) (by simpa using hu) fun h' st' sb=>?_;have I1:Inv X pins σ H { s with heap:=h' }:=I.turned (t':=s.toks) (fun b o hb e=>(sb.2 b hb).trans e) f0 f1 f3 f4 f5;obtain⟨o,e,c,d⟩:=id st';exact⟨u,rfl,Bm (s:={ s with heap:=h' }) e c d (by decide) ⟨x,H,I1,ru,⟨rfl,fun ys hy=>by rw[I.tuple_inj hy hq];exact hx⟩,st',fun b hb=>(hf b hb).1⟩⟩
 done:=by
  intro X hP hw hK hc i pins s σ H E I hf st hg;subst hP hw hK;obtain⟨xs,hq,hx⟩:=hg;obtain⟨its,rv,p,hz⟩:=I.tuple hq;obtain⟨f0,f1,f2,f3,f4,f5⟩:=hf it (by simp);have hl:=rv.length;exact wpAny_pyNext_tuple_end (I.ok.hd hc) st (show s.heap.IsTuple a its.toArray from p) (by simp;omega) fun h' eb=>⟨rfl,I.turned (t':=s.toks) (fun b o hb e=>eb b o hb e) f0 f1 f3 f4 f5⟩
 self:=fun _ _ _ _ _ st h=>wpAny_pyIter_tupleiter st h
def ym {P:Program}{w:World}{K:PySem.W.Frag}{tg:Expr}(it:Addr)(lo:Int)(n:Nat):Turn P w K tg (R1 lo n) [it] it (fun i h=>IsRangeIter h it (lo+(i:Nat)*1) ((n:Int)-(i:Nat)) 1) where
 mem:=by simp
 obj:=fun i h st b hb=>by
  have e:b=it:=by simpa using hb
  subst e;exact⟨_,st,fun v z=>by
   have z':Data.fields _=Data.cell v:=z;cases z'⟩
 keep:=fun i h h' st k=>k it (by simp) _ st
 item:=by
  intro X hP hw hK hc i pins s σ H E I hf st hg;subst hP hw hK;obtain⟨f0,f1,f2,f3,f4,f5⟩:=hf it (by simp);have W:=Walks.range (prog:=X.prog) (w:=X.w) (I.ok.hd hc) it lo 1 n;refine W.item i s _ _ hg st fun v h' tk hv st' kk=>?_;obtain⟨t,rfl⟩:=hv;have I1:Inv X pins σ H { s with heap:=h',toks:=tk }:=I.turned (fun b o hb e=>kk b o (by simpa using hb) e) f0 f1 f3 f4 f5;refine⟨_,rfl,Bm (s:={ s with heap:=h',toks:=tk }) (n:="range_iterator") st' rfl rfl (by decide) ⟨.int (lo+i),H,I1,⟨t,?_⟩,⟨rfl,rfl⟩,st',fun b hb=>(hf b hb).1⟩⟩;rw[Int.mul_one]
 done:=by
  intro X hP hw hK hc i pins s σ H E I hf st hg;subst hP hw hK;obtain⟨f0,f1,f2,f3,f4,f5⟩:=hf it (by simp);exact wpAny_pyNext_range_end (I.ok.hd hc) st (by have:n<=i:=hg;omega) fun h' eb=>⟨rfl,I.turned (t':=s.toks) (fun b o hb e=>eb b o hb e) f0 f1 f3 f4 f5⟩
 self:=fun _ _ _ _ _ st h=>wpAny_pyIter_rangeiter st h
section
variable {X:Cx}{tg:Expr}
def MJ (K:PySem.W.Frag)(tl:TE):TI:=fun σ H R=>tl σ H fun x H1=>∃a,x=.ref a/\(∃xs,SqL K H1 a xs)/\R (JK K a) H1
def Ro (K:PySem.W.Frag)(tl:TE):TI:=fun σ H R=>tl σ H fun x H1=>∃a,x=.ref a/\(∃xs,SqT K H1 a xs)/\R (R0 K a) H1
def Ks {l:Expr}{tl:TE}(hl:PE X l tl):PI X tg l (MJ X.K tl):=by
 intro pins s σ H R I h;refine bw (hl pins s σ H _ I h) fun v s1 ⟨x,H1,I1,r1,q1⟩=>?_;obtain⟨a,e,⟨xs,hq⟩,q⟩:=q1;subst e;cases r1;obtain⟨its,rv,p,hz⟩:=I1.list hq;refine wpAny_pyIter_list p.isList ?_;refine⟨s1.heap.objs.size,[s1.heap.objs.size],_,_,H1,rfl,I1.kept (t':=s1.toks) fun b o e=>Heap.get?_push_of_some _ e,sH a _,⟨_,Heap.get?_push_size _ rfl,rfl,rfl⟩,fun b hb=>?_,q⟩;have e:b=s1.heap.objs.size:=by simpa using hb
 subst e;exact I1.fpOk (Nat.le_refl _) (I1.hok.fresh (Nat.le_refl _))
def Oj {l:Expr}{tl:TE}(hl:PE X l tl):PI X tg l (Ro X.K tl):=by
 intro pins s σ H R I h;refine bw (hl pins s σ H _ I h) fun v s1 ⟨x,H1,I1,r1,q1⟩=>?_;obtain⟨a,e,⟨xs,hq⟩,q⟩:=q1;subst e;cases r1;obtain⟨its,rv,p,hz⟩:=I1.tuple hq;refine wpAny_pyIter_tuple (show s1.heap.IsTuple a its.toArray from p) ?_;refine⟨s1.heap.objs.size,[s1.heap.objs.size],_,_,H1,rfl,I1.kept (t':=s1.toks) fun b o e=>Heap.get?_push_of_some _ e,pU a _,⟨_,Heap.get?_push_size _ rfl,rfl,rfl⟩,fun b hb=>?_,q⟩;have e:b=s1.heap.objs.size:=by simpa using hb
 subst e;exact I1.fpOk (Nat.le_refl _) (I1.hok.fresh (Nat.le_refl _))
def Gk {pins:List (Addr×Obj)}{σ:St}{H:Hp}{s:Shared}{R:It->Hp->Prop}{E:Value->Shared->Prop}{lo hi:Int}{t u v:Tok}{tk:Nat}(I:Inv X pins σ H s)(h1 : -(2 ^ 62)<=lo)(h2:lo<2 ^ 62)(h3 : -(2 ^ 62)<=hi)(h4:hi<2 ^ 62)
 (q:R (R1 lo (hi-lo).toNat) H):wpAny (model X.prog X.w) X.A (pyIter (.ref s.heap.objs.size)) (PIE X pins σ tg R) E { s with heap:=s.heap.push { cls:=.type "range",data:=.fields #[.int lo t,.int hi u,.int 1 v] },toks:=tk }:=by
 refine wpAny_pyIter_range (IsRange.new ..) (small_one h1 h2 h3 h4) ?_;have I1:Inv X pins σ H { s with heap:=s.heap.push { cls:=.type "range",data:=.fields #[.int lo t,.int hi u,.int 1 v] },toks:=tk }:=I.kept fun b o e=>Heap.get?_push_of_some _ e;refine⟨(s.heap.push { cls:=.type "range",data:=.fields #[.int lo t,.int hi u,.int 1 v] }).objs.size,[(s.heap.push { cls:=.type "range",data:=.fields #[.int lo t,.int hi u,.int 1 v] }).objs.size],_,_,H,rfl,
  I1.kept (t':=tk) fun b o e=>Heap.get?_push_of_some _ e,ym _ lo (hi-lo).toNat,?_,fun b hb=>?_,q⟩
 ·have e1:lo+((0:Nat):Int)*1=lo:=by simp
  have e2:(((hi-lo).toNat:Nat):Int)-((0:Nat):Int)=Builtin.Range.rangeSize lo hi 1:=by rw[rangeSize_one];split <;> omega
  show IsRangeIter _ _ (lo+((0:Nat):Int)*1) ((((hi-lo).toNat:Nat):Int)-((0:Nat):Int)) 1;rw[e1,e2];exact Heap.get?_push_size _ rfl
 ·have e:b=(s.heap.push { cls:=.type "range",data:=.fields #[.int lo t,.int hi u,.int 1 v] }).objs.size:=by simpa using hb
  subst e;exact I1.fpOk (Nat.le_refl _) (I1.hok.fresh (Nat.le_refl _))
def Rp (ta:TA):TI:=fun σ H R=>ta σ H fun vs H1=>∃j:Int,vs=[.int j] /\ -(2 ^ 62)<=j/\j<2 ^ 62/\R (R1 0 j.toNat) H1
def CZ {a:Expr}{ta:TA}{p pos:Pos}(hg:Gl X "range")(hm:X.mg "range"=none)(ha:PA X [a] ta)(hs:starEach [a] X.env=[(false,eval a X.env)]:=by rfl):PI X tg (.Call (.Name "range" p) [a] [] pos) (Rp ta):=by
 intro pins s σ H R I h;refine Call_ (jF I hg hm boot_range (PyProof.Rows.callWith_type1 (bw (ha pos pins s σ H _ I h) fun us s1 ⟨vs,H1,I1,r1,q1⟩=>?_) hs rfl));obtain⟨j,e,q1,q2,q⟩:=q1;subst e;cases r1 with
 | cons r rr =>
   cases rr;obtain⟨t,rfl⟩:=r;exact call_range_1 (Gk I1 (by omega) (by omega) q1 q2 (by simpa using q))
def Nu (wi:TI)(g:TG)(tb:TS):TS:=fun D σ H=>wi σ H fun J H1=>∃W:Nat->Nat->St->Hp->Prop,(∃m,W 0 m σ H1)/\∀i m σ H,W i m σ H ->
 (J.stop i H/\D.nx σ H)\/(J.go i H/\∃N:St->Hp->Prop,(∀σ' H',N σ' H'->∃m',m'<m/\W (i+1) m' σ' H')/\∀x H',J.yld i H x H'->g x σ H' fun σ2 H2=>tb { D with nx:=N,ct:=N,bk:=D.nx } σ2 H2)
noncomputable def uT (fp:List Addr)(h:Heap):List (Addr×Obj):=fp.filterMap fun b=>(h.get? b).map fun o=>(b,o)
def dG {fp:List Addr}{h:Heap}{b:Addr}{o:Obj}(hb:b∈fp)(e:h.get? b=some o):(b,o)∈uT fp h:=List.mem_filterMap.mpr ⟨b,hb,by rw[e];rfl⟩
def Df {fp:List Addr}{h:Heap}{p:Addr×Obj}(hp:p∈uT fp h):p.1∈fp/\h.get? p.1=some p.2:=by
 obtain⟨b,hb,e⟩:=List.mem_filterMap.mp hp;cases q:h.get? b with
 | none=>rw[q] at e;cases e
 | some o =>
   rw[q] at e;have e':(b,o)=p:=Option.some.inj e;subst e';exact⟨hb,q⟩
def Inv.pinned {pins:List (Addr×Obj)}{σ:St}{H:Hp}{s:Shared}{fp:List Addr}(I:Inv X pins σ H s)(hf:∀b∈fp,jZ X pins H b)(ho:∀b∈fp,∃o,s.heap.get? b=some o/\∀v,o.data≠.cell v):Inv X (pins++uT fp s.heap) σ H s :=
 I.pins_of fun p hp=>(List.mem_append.mp hp).elim (fun z=>I.pin p (List.mem_append_right _ z)) fun z=>by
  obtain⟨hb,e⟩:=Df z;obtain⟨f0,f1,f2,_⟩:=hf p.1 hb;obtain⟨o,e',d⟩:=ho p.1 hb;rw[e] at e';cases e';exact⟨e,f0,f1,f2,d⟩
def Inv.unpinned {pins pl:List (Addr×Obj)}{σ:St}{H:Hp}{s:Shared}(I:Inv X (pins++pl) σ H s):Inv X pins σ H s:=I.pins_of fun p hp=>I.pin p (List.mem_append_right _ (List.mem_append_left _ hp))
def uR {iter:Expr}{body:List Stmt}{wi:TI}{g:TG}{tb:TS}{pos:Pos}(hp:PassesOwn (model X.prog X.w) X.A X.env X.xe)(hc:X.calm=true)(hi:PI X tg iter wi)(hg:PG X tg g)(hb:PSs X body tb)
 (hs:∀x,foldedSetIterable iter X.env x=pure x:=by intro _;rfl):PS X (.For tg iter body [] pos) (Nu wi g tb):=by
 intro pins s σ H D I h;refine wpAny_For (bw (hi pins s σ H _ I h) fun v s1 h1=>bw h1 fun itv s2 h2=>?_) hs;obtain⟨it,fp,tn,J,H2,e,I2,T,st2,f2,W,⟨m0,w0⟩,turn⟩:=h2;subst e;have stat:∀{H':Hp},(∀b∈fp,H' b=none)->∀b∈fp,jZ X pins H' b:=fun hn b hb=>⟨hn b hb,(f2 b hb).2⟩;refine codeAny_forLoop_any (fun n s'=>∃i σ' H',Inv X pins σ' H' s'/\tn i s'.heap/\(∀b∈fp,H' b=none)/\W i n σ' H') ?_ m0 ⟨0,σ,H2,I2,st2,fun b hb=>(f2 b hb).1,w0⟩;rintro n s3 ⟨i,σ3,H3,I3,st3,fr3,w3⟩;rcases turn i n σ3 H3 w3 with ⟨stop,qn⟩ | ⟨go,N,hN,step⟩
 ·refine wpAny_passesOwn hp (bw (T.done X rfl rfl rfl hc i pins s3 σ3 H3 X.xe I3 (stat fr3) st3 stop) fun r s4 ⟨hr,I4⟩=>?_);subst hr;exact wpAny_execs_nil ⟨σ3,H3,I4,qn⟩
 ·refine wpAny_passesOwn hp (bw (T.item X rfl rfl rfl hc i pins s3 σ3 H3 X.xe I3 (stat fr3) st3 go) fun r s4 ⟨u,hr,h4⟩=>?_);subst hr;refine wpAny_passesOwn hp (bw h4 fun _ s5 ⟨x,H5,I5,r5,y5,st5,fr5⟩=>?_);have I5':=I5.pinned (stat fr5) (T.obj _ _ st5);refine wpAny_passesOwn hp (bw (hg _ s5 σ3 H5 x u _ I5' r5 (step x H5 y5)) fun _ s6 ⟨σ6,H6,I6,q6⟩=>?_);refine wpAny_passesOwn hp (bw (hb _ s6 σ6 H6 _ I6 q6) fun f s7 q7=>?_);have again:∀{σ7:St} {H7:Hp},Inv X (pins++uT fp s5.heap) σ7 H7 s7->N σ7 H7->∃m,m<n/\∃i σ' H',Inv X pins σ' H' s7/\tn i s7.heap/\(∀b∈fp,H' b=none)/\W i m σ' H':=fun {σ7 H7} I7 n7=>by
   obtain⟨m',hm,w7⟩:=hN σ7 H7 n7;refine⟨m',hm,i+1,σ7,H7,I7.unpinned,T.keep _ _ _ st5 fun b hb o e=>(I7.pin (b,o) (List.mem_append_right _ (List.mem_append_right _ (dG hb e)))).1,fun b hb=>?_,w7⟩;obtain⟨o,e,d⟩:=T.obj _ _ st5 b hb;exact(I7.pin (b,o) (List.mem_append_right _ (List.mem_append_right _ (dG hb e)))).2.1
  cases f with
  | next=>obtain⟨σ7,H7,I7,n7⟩:=q7;exact again I7 n7
  | cont=>obtain⟨σ7,H7,I7,n7⟩:=q7;exact again I7 n7
  | brk=>obtain⟨σ7,H7,I7,q7⟩:=q7;exact⟨σ7,H7,I7.unpinned,q7⟩
  | ret v=>obtain⟨x7,σ7,H7,I7,r7,q7⟩:=q7;exact⟨x7,σ7,H7,I7.unpinned,r7,q7⟩
end
def HS {K:PySem.W.Frag}{a:Addr}{xs:List V}{g:TG}{tb:TS}{D:Ends}{σ:St}{H:Hp}(Pv:Nat->St->Hp->Prop)(h0:Pv 0 σ H)(hl:∀i σ H,i<=xs.length->Pv i σ H->SqL K H a xs)
 (hs:∀i x σ H,xs[i]? = some x->Pv i σ H->g x σ H fun σ2 H2=>tb { D with nx:=Pv (i+1),ct:=Pv (i+1),bk:=D.nx } σ2 H2) (hd:∀σ H,Pv xs.length σ H->D.nx σ H) :
 ∃W:Nat->Nat->St->Hp->Prop,(∃m,W 0 m σ H)/\∀i m σ H,W i m σ H ->
  ((JK K a).stop i H/\D.nx σ H)\/((JK K a).go i H/\∃N:St->Hp->Prop,(∀σ' H',N σ' H'->∃m',m'<m/\W (i+1) m' σ' H')/\∀x H',(JK K a).yld i H x H'->g x σ H' fun σ2 H2=>tb { D with nx:=N,ct:=N,bk:=D.nx } σ2 H2):=by
 refine⟨fun i m σ H=>m=xs.length-i/\i<=xs.length/\Pv i σ H,⟨xs.length,by simp,Nat.zero_le _,h0⟩,?_⟩;rintro i m σ H ⟨rfl,hi,p⟩;have q:=hl i σ H hi p;by_cases hlt:i<xs.length
 ·refine .inr ⟨⟨xs,xs[i],q,by simp[hlt]⟩,Pv (i+1),fun σ' H' p'=>⟨xs.length-(i+1),by omega,rfl,hlt,p'⟩,fun x H' y=>?_⟩;obtain⟨e,y⟩:=y;subst e;exact hs i x σ _ (y xs q) p
 ·have e:i=xs.length:=by omega
  subst e;exact .inl ⟨⟨xs,q,Nat.le_refl _⟩,hd σ H p⟩
abbrev R2:=V->V->Hp->VK->Prop
def OpR (X:Cx)(f:Value->Value->Sem Value)(r:R2):Prop :=
 ∀(pins:List (Addr×Obj)) (s:Shared) (σ:St) (H:Hp) (x y:V) (v u:Value) (Q:VK),Inv X pins σ H s->RelV x v->RelV y u->r x y H Q ->
  wpAny (model X.prog X.w) X.A (f v u) (EP X pins σ Q) X.xe s
def SQ (X:Cx)(f:Value->Sem Value)(r:V->Hp->VK->Prop):Prop :=
 ∀(pins:List (Addr×Obj)) (s:Shared) (σ:St) (H:Hp) (x:V) (v:Value) (Q:VK),Inv X pins σ H s->RelV x v->r x H Q ->
  wpAny (model X.prog X.w) X.A (f v) (EP X pins σ Q) X.xe s
def cL (X:Cx)(f:Value)(r:List V->Hp->VK->Prop):Prop :=
 ∀(pins:List (Addr×Obj)) (s:Shared) (σ:St) (H:Hp) (xs:List V) (us:List Value) (Q:VK),Inv X pins σ H s->Vals xs us->r xs H Q ->
  wpAny (model X.prog X.w) X.A (call f us) (EP X pins σ Q) X.xe s
def SX (X:Cx)(r:V->Hp->(Bool->Hp->Prop)->Prop):Prop :=
 ∀(pins:List (Addr×Obj)) (s:Shared) (σ:St) (H:Hp) (x:V) (v:Value) (Q:Bool->Hp->Prop),Inv X pins σ H s->RelV x v->r x H Q ->
  wpAny (model X.prog X.w) X.A (truthy v) (TP X pins σ Q) X.xe s
noncomputable def JH (r:R2)(ta tb:TE):TE:=fun σ H Q=>ta σ H fun x H1=>tb σ H1 fun y H2=>r x y H2 Q
noncomputable def S9 (r:V->Hp->VK->Prop)(ta:TE):TE:=fun σ H Q=>ta σ H fun x H1=>r x H1 Q
def rI (C:Int->Int->Prop)(g:Int->Int->V):R2:=fun x y H Q=>∃i j,x=.int i/\y=.int j/\C i j/\Q (g i j) H
def Mt (g:Int->Int->V):R2:=fun x y H Q=>∃i j,x=.int i/\y=.int j/\Q (g i j) H
def rU (g:Int->V):V->Hp->VK->Prop:=fun x H Q=>∃i,x=.int i/\Q (g i) H
section
variable {X:Cx}{a b c:Expr}{ta tb tc:TE}{pos:Pos}
def Qo (ha:PE X a ta)(hb:PE X b tb){pins:List (Addr×Obj)}{s:Shared}{σ:St}{H:Hp}{R:V->V->Hp->Prop}(I:Inv X pins σ H s)
 (h:ta σ H fun x H1=>tb σ H1 fun y H2=>R x y H2) {Q:Value->Shared->Prop} {f:Value->Value->Sem Value}
 (hf:∀v u s2 x y H2,Inv X pins σ H2 s2->RelV x v->RelV y u->R x y H2->wpAny (model X.prog X.w) X.A (f v u) Q X.xe s2) :
 wpAny (model X.prog X.w) X.A (eval a X.env) (fun v s₁=>wpAny (model X.prog X.w) X.A (eval b X.env) (fun u s₂=>wpAny (model X.prog X.w) X.A (f v u) Q X.xe s₂) X.xe s₁) X.xe s:=by
 refine bw (ha pins s σ H _ I h) fun v s1 ⟨x,H1,I1,r1,q1⟩=>?_;refine bw (hb pins s1 σ H1 _ I1 q1) fun u s2 ⟨y,H2,I2,r2,q2⟩=>?_;exact hf v u s2 x y H2 I2 r1 r2 q2
def GF {op:Operator}{r:R2}(ho:OpR X (binaryOp op) r)(ha:PE X a ta)(hb:PE X b tb):PE X (.BinOp a op b pos) (JH r ta tb):=by
 intro pins s σ H Q I h;exact wpAny_BinOp (Qo ha hb I h fun v u s2 x y H2 I2 rx ry q=>ho pins s2 σ H2 x y v u Q I2 rx ry q)
def Q5 {op:UnaryOp}{r:V->Hp->VK->Prop}(ho:SQ X (unaryOp op) r)(ha:PE X a ta):PE X (.UnaryOp op a pos) (S9 r ta):=by
 intro pins s σ H Q I h;exact UnaryOp_ (bw (ha pins s σ H _ I h) fun v s1 ⟨x,H1,I1,r1,q1⟩=>ho pins s1 σ H1 x v Q I1 r1 q1)
def Su {f:Value->Value->Sem Value}{C:Int->Int->Prop}{g:Int->Int->Int}
 (rule:∀(i j:Int) (t u:Tok) (s:Shared) (Q:Value->Shared->Prop) (E:Value->Shared->Prop),C i j->Q (.int (g i j) s.toks) { s with toks:=s.toks+1 }->wpAny (model X.prog X.w) X.A (f (.int i t) (.int j u)) Q E s) :
 OpR X f (rI C fun i j=>.int (g i j)):=by
 intro pins s σ H x y v u Q I rx ry h;obtain⟨i,j,rfl,rfl,hc,q⟩:=h;obtain⟨t,rfl⟩:=rx;obtain⟨t',rfl⟩:=ry;exact rule i j t t' s _ _ hc ⟨.int (g i j),H,I.tok _,⟨_,rfl⟩,q⟩
def Rf {f:Value->Value->Sem Value}{g:Int->Int->Int}
 (rule:∀(i j:Int) (t u:Tok) (s:Shared) (Q:Value->Shared->Prop) (E:Value->Shared->Prop),Q (.int (g i j) s.toks) { s with toks:=s.toks+1 }->wpAny (model X.prog X.w) X.A (f (.int i t) (.int j u)) Q E s) :
 OpR X f (Mt fun i j=>.int (g i j)):=by
 intro pins s σ H x y v u Q I rx ry h;obtain⟨i,j,rfl,rfl,q⟩:=h;obtain⟨t,rfl⟩:=rx;obtain⟨t',rfl⟩:=ry;exact rule i j t t' s _ _ ⟨.int (g i j),H,I.tok _,⟨_,rfl⟩,q⟩
def KH {f:Value->Value->Sem Value}{g:Int->Int->Bool}
 (rule:∀(i j:Int) (t u:Tok) (s:Shared) (Q:Value->Shared->Prop) (E:Value->Shared->Prop),Q (.bool (g i j)) s->wpAny (model X.prog X.w) X.A (f (.int i t) (.int j u)) Q E s) :
 OpR X f (Mt fun i j=>.bl (g i j)):=by
 intro pins s σ H x y v u Q I rx ry h;obtain⟨i,j,rfl,rfl,q⟩:=h;obtain⟨t,rfl⟩:=rx;obtain⟨t',rfl⟩:=ry;exact rule i j t t' s _ _ ⟨.bl (g i j),H,I,rfl,q⟩
def S7 (i j:Int):Prop:=0<j/\j<1073741824
def CMul (i j:Int):Prop:=(-(2 ^ 64)<i/\i<2 ^ 64)\/(-(2 ^ 64)<j/\j<2 ^ 64)
def CMul.ok {i j:Int}(h:CMul i j):IntMulOk i j:=by
 rcases h with ⟨h1,h2⟩ | ⟨h1,h2⟩
 ·exact .of_left (intBits_le_64 h1 h2)
 ·exact .of_right (intBits_le_64 h1 h2)
def op_add:OpR X (binaryOp .Add) (Mt fun i j=>.int (i+j)):=Rf fun _ _ _ _ _ _ _ q=>add_int q
def Ov:OpR X (binaryOp .Sub) (Mt fun i j=>.int (i-j)):=Rf fun _ _ _ _ _ _ _ q=>sub_int q
def op_mul:OpR X (binaryOp .Mult) (rI CMul fun i j=>.int (i*j)):=Su fun _ _ _ _ _ _ _ hc q=>mul_int q hc.ok
def KC:OpR X (binaryOp .FloorDiv) (rI S7 fun i j=>.int (i / j)):=Su fun i j _ _ _ _ _ hc q=>by
 have h1:(0:Int)<j:=hc.1;have h2:j<1073741824:=hc.2;exact floordiv_int (by omega) (by rw[Int.fdiv_eq_ediv_of_nonneg i (by omega)];exact q) (.inl (PyProof.noPylong_small (by omega)))
def Ow:OpR X (binaryOp .Mod) (rI (fun _ j=>0<j) fun i j=>.int (i % j)):=Su fun i j _ _ _ _ _ hc q=>by
 have h1:(0:Int)<j:=hc;exact mod_int' (by omega) (by rw[Int.fmod_eq_emod_of_nonneg i (by omega)];exact q)
def Tj {f:Value->Sem Value}{g:Int->Int}
 (rule:∀(i:Int) (t:Tok) (s:Shared) (Q:Value->Shared->Prop) (E:Value->Shared->Prop),Q (.int (g i) s.toks) { s with toks:=s.toks+1 }->wpAny (model X.prog X.w) X.A (f (.int i t)) Q E s) :
 SQ X f (rU fun i=>.int (g i)):=by
 intro pins s σ H x v Q I rx h;obtain⟨i,rfl,q⟩:=h;obtain⟨t,rfl⟩:=rx;exact rule i t s _ _ ⟨.int (g i),H,I.tok _,⟨_,rfl⟩,q⟩
def Ni:SQ X (unaryOp .USub) (rU fun i=>.int (-i)):=Tj fun _ _ _ _ _ q=>neg_int q
end
noncomputable def QT:V->V->Bool
 | .non,.non=>true | .non,.int _=>true | .int _,.non=>true | .non,.bl _=>true | .bl _,.non=>true | .non,.str _=>true | .str _,.non=>true
 | .int _,.int _=>true | .bl _,.bl _=>true | .str _,.str _=>true | .byt _,.byt _=>true
 | .int _,.str _=>true | .str _,.int _=>true | .bl _,.str _=>true | .str _,.bl _=>true
 | _,_=>false
def Tf:R2:=fun x y H Q=>QT x y=true/\Q (.bl (decide (x=y))) H
def Te:R2:=fun x y H Q=>QT x y=true/\Q (.bl (!decide (x=y))) H
def BR {i j:Int}:decide (V.int i=V.int j)=(i==j):=by
 rw[Bool.eq_iff_iff];simp
def Iu {i j:Bool}:decide (V.bl i=V.bl j)=(i==j):=by
 rw[Bool.eq_iff_iff];simp
def BP {i j:Str}:decide (V.str i=V.str j)=(i==j):=by
 rw[Bool.eq_iff_iff];simp
def BV {i j:Array UInt8}:decide (V.byt i=V.byt j)=(i.toList==j.toList):=by
 rw[Bool.eq_iff_iff];cases i;cases j;simp
section
variable {X:Cx}{a b c:Expr}{ta tb tc:TE}{pos:Pos}
def aZ {pins:List (Addr×Obj)}{σ:St}{H:Hp}{s:Shared}{Q:VK}{k k':Bool}(I:Inv X pins σ H s)(q:Q (.bl k) H)(e:k=k'):EP X pins σ Q (.bool k') s:=by
 subst e;exact⟨.bl k,H,I,rfl,q⟩
def Rc:OpR X (compareOp .Eq) Tf:=by
 intro pins s σ H x y v u Q I rx ry h;obtain⟨hs,q⟩:=h;cases x with
 | non =>
   cases rx;cases y with
   | non=>cases ry;exact PySem.EqNone.eq_none_none (aZ I q (by simp))
   | bl j=>cases ry;exact PySem.EqNone.eq_none_bool (aZ I q (by simp))
   | int j=>obtain⟨t',rfl⟩:=ry;exact PySem.EqNone.eq_none_int (aZ I q (by simp))
   | str j=>obtain⟨t',rfl⟩:=ry;exact PySem.EqNone.eq_none_str (aZ I q (by simp))
   | _=>exact absurd (show false=true from hs) Bool.false_ne_true
 | bl i =>
   cases rx;cases y with
   | non=>cases ry;exact PySem.EqNone.eq_bool_none (aZ I q (by simp))
   | bl j=>cases ry;exact eq_bool (aZ I q Iu)
   | str j=>obtain⟨t',rfl⟩:=ry;exact PySem.EqMixed.eq_bool_str (aZ I q (by simp))
   | _=>exact absurd (show false=true from hs) Bool.false_ne_true
 | int i =>
   obtain⟨t,rfl⟩:=rx;cases y with
   | non=>cases ry;exact PySem.EqNone.eq_int_none (aZ I q (by simp))
   | int j=>obtain⟨t',rfl⟩:=ry;exact eq_int (aZ I q BR)
   | str j=>obtain⟨t',rfl⟩:=ry;exact PySem.EqMixed.eq_int_str (aZ I q (by simp))
   | _=>exact absurd (show false=true from hs) Bool.false_ne_true
 | str i =>
   obtain⟨t,rfl⟩:=rx;cases y with
   | non=>cases ry;exact PySem.EqNone.eq_str_none (aZ I q (by simp))
   | bl j=>cases ry;exact PySem.EqMixed.eq_str_bool (aZ I q (by simp))
   | int j=>obtain⟨t',rfl⟩:=ry;exact PySem.EqMixed.eq_str_int (aZ I q (by simp))
   | str j=>obtain⟨t',rfl⟩:=ry;exact eq_str (aZ I q BP)
   | _=>exact absurd (show false=true from hs) Bool.false_ne_true
 | byt i =>
   obtain⟨t,rfl⟩:=rx;cases y with
   | byt j=>obtain⟨t',rfl⟩:=ry;exact PySem.W.eq_bytes (aZ I q BV)
   | _=>exact absurd (show false=true from hs) Bool.false_ne_true
 | _=>cases y <;> exact absurd (show false=true from hs) Bool.false_ne_true
def Q7:OpR X (compareOp .NotEq) Te:=by
 intro pins s σ H x y v u Q I rx ry h;obtain⟨hs,q⟩:=h;cases x with
 | non =>
   cases rx;cases y with
   | non=>cases ry;exact PySem.EqNone.ne_none_none (aZ I q (by simp))
   | bl j=>cases ry;exact PySem.EqNone.ne_none_bool (aZ I q (by simp))
   | int j=>obtain⟨t',rfl⟩:=ry;exact PySem.EqNone.ne_none_int (aZ I q (by simp))
   | str j=>obtain⟨t',rfl⟩:=ry;exact PySem.EqNone.ne_none_str (aZ I q (by simp))
   | _=>exact absurd (show false=true from hs) Bool.false_ne_true
 | bl i =>
   cases rx;cases y with
   | non=>cases ry;exact PySem.EqNone.ne_bool_none (aZ I q (by simp))
   | bl j=>cases ry;exact ne_bool (aZ I q (congrArg not Iu))
   | str j=>obtain⟨t',rfl⟩:=ry;exact PySem.EqMixed.ne_bool_str (aZ I q (by simp))
   | _=>exact absurd (show false=true from hs) Bool.false_ne_true
 | int i =>
   obtain⟨t,rfl⟩:=rx;cases y with
   | non=>cases ry;exact PySem.EqNone.ne_int_none (aZ I q (by simp))
   | int j=>obtain⟨t',rfl⟩:=ry;exact ne_int (aZ I q (congrArg not BR))
   | str j=>obtain⟨t',rfl⟩:=ry;exact PySem.EqMixed.ne_int_str (aZ I q (by simp))
   | _=>exact absurd (show false=true from hs) Bool.false_ne_true
 | str i =>
   obtain⟨t,rfl⟩:=rx;cases y with
   | non=>cases ry;exact PySem.EqNone.ne_str_none (aZ I q (by simp))
   | bl j=>cases ry;exact PySem.EqMixed.ne_str_bool (aZ I q (by simp))
   | int j=>obtain⟨t',rfl⟩:=ry;exact PySem.EqMixed.ne_str_int (aZ I q (by simp))
   | str j=>obtain⟨t',rfl⟩:=ry;exact ne_str (aZ I q (congrArg not BP))
   | _=>exact absurd (show false=true from hs) Bool.false_ne_true
 | byt i =>
   obtain⟨t,rfl⟩:=rx;cases y with
   | byt j=>obtain⟨t',rfl⟩:=ry;exact PySem.W.ne_bytes (aZ I q (congrArg not BV))
   | _=>exact absurd (show false=true from hs) Bool.false_ne_true
 | _=>cases y <;> exact absurd (show false=true from hs) Bool.false_ne_true
def Q8:OpR X (compareOp .Lt) (Mt fun i j=>.bl (decide (i<j))):=KH fun _ _ _ _ _ _ _ q=>lt_int q
def Q9:OpR X (compareOp .LtE) (Mt fun i j=>.bl (decide (i<=j))):=KH fun _ _ _ _ _ _ _ q=>le_int q
def Ra:OpR X (compareOp .Gt) (Mt fun i j=>.bl (decide (j<i))):=KH fun _ _ _ _ _ _ _ q=>gt_int q
def Rb:OpR X (compareOp .GtE) (Mt fun i j=>.bl (decide (j<=i))):=KH fun _ _ _ _ _ _ _ q=>ge_int q
def OpR.or {f:Value->Value->Sem Value}{r r':R2}(h:OpR X f r)(h':OpR X f r'):OpR X f (fun x y H Q=>r x y H Q\/r' x y H Q):=by
 intro pins s σ H x y v u Q I rx ry q;rcases q with q | q
 ·exact h pins s σ H x y v u Q I rx ry q
 ·exact h' pins s σ H x y v u Q I rx ry q
def cU (b:Expr){op:CmpOp}(h:op≠.In:=by decide)(h2:op≠.NotIn:=by decide):behindInMarks op b=false:=by
 have e1:(op==CmpOp.In)=false:=by cases op <;> first | rfl | exact absurd rfl h
 have e2:(op==CmpOp.NotIn)=false:=by cases op <;> first | rfl | exact absurd rfl h2
 cases b <;> simp[behindInMarks,e1,e2]
def Ah {op:CmpOp}{r:R2}(ho:OpR X (compareOp op) r)(ha:PE X a ta)(hb:PE X b tb)(hm:behindInMarks op b=false):PE X (.Compare a [op] [b] pos) (JH r ta tb):=by
 intro pins s σ H Q I h;exact wpAny_Compare1 (Qo ha hb I h fun v u s2 x y H2 I2 rx ry q=>ho pins s2 σ H2 x y v u Q I2 rx ry q) hm
noncomputable def Fl (t:TE):TT:=fun σ H Q=>t σ H fun x H'=>∃k,x=.bl k/\Q k H'
def zZ {op:CmpOp}{r:R2}(ho:OpR X (compareOp op) r)(ha:PE X a ta)(hb:PE X b tb)(hm:behindInMarks op b=false):PT X (.Compare a [op] [b] pos) (Fl (JH r ta tb)):=by
 intro pins s σ H Q I h;refine wpAny_isTrue_Compare1 (bw (ha pins s σ H _ I h) fun v s1 ⟨x,H1,I1,r1,q1⟩=>bw (hb pins s1 σ H1 _ I1 q1) fun u s2 ⟨y,H2,I2,r2,q2⟩ =>
  bw (ho pins s2 σ H2 x y v u _ I2 r1 r2 q2) fun c s3 ⟨z,H3,I3,r3,k,e,q3⟩=>?_) hm
 subst e;cases r3;exact wpAny_truthy_bool ⟨H3,I3,q3⟩
noncomputable def Fy (r r':R2)(ta tb tc:TE):TE:=fun σ H Q=>ta σ H fun x H1=>tb σ H1 fun y H2=>r x y H2 fun z H3=>∃k,z=.bl k /\
 (if k=true then tc σ H3 fun w' H4=>r' y w' H4 Q else Q (.bl false) H3)
def G4 {op op':CmpOp}{r r':R2}(ho:OpR X (compareOp op) r)(ho':OpR X (compareOp op') r')(ha:PE X a ta)(hb:PE X b tb)(hc:PE X c tc)
 (hm:lastMarks [op,op'] [b,c]=false:=by with_unfolding_all rfl):PE X (.Compare a [op,op'] [b,c] pos) (Fy r r' ta tb tc):=by
 intro pins s σ H Q I h;refine Compare_chain (bw (ha pins s σ H _ I h) fun v s1 ⟨x,H1,I1,r1,q1⟩=>chain_link (bw (hb pins s1 σ H1 _ I1 q1) fun u s2 ⟨y,H2,I2,r2,q2⟩ =>
  bw (ho pins s2 σ H2 x y v u _ I2 r1 r2 q2) fun d s3 ⟨z,H3,I3,r3,k,e,q3⟩=>?_)) hm
 subst e;cases r3;refine wpAny_truthy_bool ?_;cases k with
 | false=>exact ite_ff ⟨.bl false,H3,I3,rfl,q3⟩
 | true=>exact ite_tt (chain_last (bw (hc pins s3 σ H3 _ I3 q3) fun w' s4 ⟨z',H4,I4,r4,q4⟩=>ho' pins s4 σ H4 y z' u w' Q I4 r2 r4 q4))
def Gu {op op':CmpOp}{r r':R2}(ho:OpR X (compareOp op) r)(ho':OpR X (compareOp op') r')(ha:PE X a ta)(hb:PE X b tb)(hc:PE X c tc)
 (hm:lastMarks [op,op'] [b,c]=false:=by with_unfolding_all rfl):PT X (.Compare a [op,op'] [b,c] pos) (Fl (Fy r r' ta tb tc)):=by
 intro pins s σ H Q I h;refine isTrue_chain (bw (ha pins s σ H _ I h) fun v s1 ⟨x,H1,I1,r1,q1⟩=>test_link (bw (hb pins s1 σ H1 _ I1 q1) fun u s2 ⟨y,H2,I2,r2,q2⟩ =>
  bw (ho pins s2 σ H2 x y v u _ I2 r1 r2 q2) fun d s3 ⟨z,H3,I3,r3,k,e,q3⟩=>?_)) hm
 subst e;cases r3;refine wpAny_truthy_bool ?_;cases k with
 | false =>
   obtain⟨k',e',q'⟩:=q3;cases e';exact ite_ff ⟨H3,I3,q'⟩
 | true =>
   refine ite_tt (test_last (bw (hc pins s3 σ H3 _ I3 q3) fun w' s4 ⟨z',H4,I4,r4,q4⟩=>bw (ho' pins s4 σ H4 y z' u w' _ I4 r2 r4 q4) fun d' s5 ⟨z2,H5,I5,r5,k2,e2,q5⟩=>?_));subst e2;cases r5;exact wpAny_truthy_bool ⟨H5,I5,q5⟩
def Qq (K:PySem.W.Frag)(x:V)(H:Hp)(k:Bool):Prop :=
 match x with
 | .non=>k=false
 | .bl b=>k=b
 | .int i=>k=(i != 0)
 | .str y=>y.length<=sizeLine/\k=((y.length:Int) != 0)
 | .byt y=>y.size<=sizeLine/\k=((y.size:Int) != 0)
 | .ref p=>(∃xs,SqL K H p xs/\k = !xs.isEmpty)\/(∃xs,SqT K H p xs/\k = !xs.isEmpty)\/∃kvs,H p=some (.dK kvs)/\k = !kvs.isEmpty
 | _=>False
def yZ {κ:Type}{kvs:List (κ×V)}{vs:List (κ×Value)}(r:KV kvs vs):(!vs.isEmpty) = !kvs.isEmpty:=by
 cases r <;> rfl
def qO {xs:List V}{its:List Value}(r:Vals xs its):(!its.toArray.isEmpty) = !xs.isEmpty:=by
 cases r <;> simp
def jD:(sizeLine:Nat)<2 ^ 63:=by rw[sizeLine_eq];decide
def Nm:SX X (fun x H Q=>∃k,Qq X.K x H k/\Q k H):=by
 intro pins s σ H x v Q I rx h;obtain⟨k,e,q⟩:=h;have hl:=jD;have hs:sizeLine=16777216:=sizeLine_eq;cases x with
 | non =>
   cases rx;have e':k=false:=e;subst e';exact truthy_none ⟨H,I,q⟩
 | bl b =>
   cases rx;have e':k=b:=e;subst e';exact wpAny_truthy_bool ⟨H,I,q⟩
 | int i =>
   obtain⟨t,rfl⟩:=rx;have e':k=(i != 0):=e;subst e';exact PySem.P.truthy_int ⟨H,I,q⟩
 | str y =>
   obtain⟨t,rfl⟩:=rx;obtain⟨hy,e'⟩:y.length<=sizeLine/\k=((y.length:Int) != 0):=e;subst e';exact PySem.P.truthy_str (by omega) ⟨H,I.tok _,q⟩
 | byt y =>
   obtain⟨t,rfl⟩:=rx;obtain⟨hy,e'⟩:y.size<=sizeLine/\k=((y.size:Int) != 0):=e;subst e';exact PySem.W.truthy_bytes (by omega) ⟨H,I.tok _,q⟩
 | ref p =>
   cases rx;have e':(∃xs,SqL X.K H p xs/\k = !xs.isEmpty)\/(∃xs,SqT X.K H p xs/\k = !xs.isEmpty)\/∃kvs,H p=some (.dK kvs)/\k = !kvs.isEmpty:=e;rcases e' with ⟨xs,hx,e'⟩ | ⟨xs,hx,e'⟩ | ⟨kvs,hx,e'⟩
   ·subst e';obtain⟨its,r,pl,hz⟩:=I.list hx;have hlen:=r.length;exact wpAny_truthy_list pl.isList (by simp only[List.size_toArray];omega) ⟨H,I.tok _,by rw[qO r];exact q⟩
   ·subst e';obtain⟨its,r,pl,hz⟩:=I.tuple hx;have hlen:=r.length;exact truthy_tuple pl (by simp only[List.size_toArray];omega) ⟨H,I.tok _,by rw[qO r];exact q⟩
   ·subst e';obtain⟨hz,hS,vs,r,m⟩:kvs.length<=sizeLine/\(p==sysModules)=false/\∃vs,KV kvs vs/\s.heap.DictOf (aM X.prog X.w) p vs:=I.hok p _ hx;have hlen:kvs.length=vs.length:=Paired.length r;exact wpAny_truthy_dict hS m (by omega) ⟨H,I.tok _,by rw[yZ r];exact q⟩
 | _=>exact(show False from e).elim
def wC (ha:PE X a ta)(he:∀whole,isTrue a X.env whole=(do let v <-whole;standAt a.pos;holding [v] (truthy v))) :
 PT X a (fun σ H Q=>ta σ H fun x H'=>∃k,Qq X.K x H' k/\Q k H'):=by
 intro pins s σ H Q I h;exact isTrue_plain (bw (ha pins s σ H _ I h) fun v s1 ⟨x,H1,I1,r1,q1⟩=>Nm pins s1 σ H1 x v Q I1 r1 q1) (he _)
def yO:OpR X (binaryOp .Add) (fun x y H Q=>∃i j,x=.str i/\y=.str j/\i.length+j.length<=sizeLine/\Q (.str (i++j)) H):=by
 intro pins s σ H x y v u Q I rx ry h;obtain⟨i,j,rfl,rfl,hz,q⟩:=h;obtain⟨t,rfl⟩:=rx;obtain⟨t',rfl⟩:=ry;exact add_str (fun t' tk=>⟨.str (i++j),H,I.tok _,⟨_,rfl⟩,q⟩) hz
def vals1 {x:V}{us:List Value}(r:Vals [x] us):∃u,us=[u]/\RelV x u:=by
 cases r with
 | cons r1 r2=>cases r2;exact⟨_,rfl,r1⟩
def vals2 {x y:V}{us:List Value}(r:Vals [x,y] us):∃u w',us=[u,w']/\RelV x u/\RelV y w':=by
 cases r with
 | cons r1 r2 =>
   cases r2 with
   | cons r3 r4=>cases r4;exact⟨_,_,rfl,r1,r3⟩
def Jv:cL X (.builtin "abs") (fun xs H Q=>∃i,xs=[.int i]/\Q (.int (if i<0 then -i else i)) H):=by
 intro pins s σ H xs us Q I r h;obtain⟨i,rfl,q⟩:=h;obtain⟨u,rfl,t,rfl⟩:=vals1 r;exact call_abs_int fun u tk=>⟨.int (if i<0 then -i else i),H,I.tok _,⟨_,rfl⟩,q⟩
def Eg (hc:X.calm=true):cL X (.builtin "max") (fun xs H Q=>∃i j,xs=[.int i,.int j]/\Q (.int (if j>i then j else i)) H):=by
 intro pins s σ H xs us Q I r h;obtain⟨i,j,rfl,q⟩:=h;obtain⟨u,w',rfl,⟨t,rfl⟩,⟨t',rfl⟩⟩:=vals2 r;refine max_two_ints (I.ok.hd hc) fun h' tk k=>⟨_,H,I.kept k,?_,q⟩;by_cases hj:j>i
 ·rw[if_pos hj,if_pos hj];exact⟨_,rfl⟩
 ·rw[if_neg hj,if_neg hj];exact⟨_,rfl⟩
def Ef (hc:X.calm=true):cL X (.builtin "min") (fun xs H Q=>∃i j,xs=[.int i,.int j]/\Q (.int (if j<i then j else i)) H):=by
 intro pins s σ H xs us Q I r h;obtain⟨i,j,rfl,q⟩:=h;obtain⟨u,w',rfl,⟨t,rfl⟩,⟨t',rfl⟩⟩:=vals2 r;refine min_two_ints (I.ok.hd hc) fun h' tk k=>⟨_,H,I.kept k,?_,q⟩;by_cases hj:j<i
 ·rw[if_pos hj,if_pos hj];exact⟨_,rfl⟩
 ·rw[if_neg hj,if_neg hj];exact⟨_,rfl⟩
def Ej:cL X (.type "int") (fun xs H Q=>(∃i,xs=[.int i]/\Q (.int i) H)\/∃k,xs=[.bl k]/\Q (.int (if k then 1 else 0)) H):=by
 intro pins s σ H xs us Q I r h;rcases h with ⟨i,rfl,q⟩ | ⟨k,rfl,q⟩
 ·obtain⟨u,rfl,t,rfl⟩:=vals1 r;exact call_int_int ⟨.int i,H,I,⟨_,rfl⟩,q⟩
 ·obtain⟨u,rfl,r1⟩:=vals1 r;cases r1;exact call_int_bool ⟨.int (if k then 1 else 0),H,I.tok _,⟨_,rfl⟩,q⟩
end
structure ObjM (h:Heap)(x dx C:Addr)(mA:Str->Option Value):Prop where
 obj:h.get? x=some (PySem.W.instObj C dx)
 ns:h.Ns1 dx mA
 ne:dx≠x
def Dj {h:Heap}{dx:Addr}{mA:Str->Option Value}(n:h.Ns1 dx mA):∃od,h.get? dx=some od/\∀name,PySem.W.lookIn name od=some (mA name):=by
 obtain⟨o,es,ep,ho,hd,hk,_,hm⟩:=n;refine⟨o,ho,fun name=>?_⟩;have e:=hm name;unfold nsFind findBy at e;rw[<-Array.find?_toList] at e;unfold PySem.W.lookIn;rw[hd];dsimp only;split
 ·rename_i y q;rw[q] at e;exact congrArg some e
 ·rename_i q;rw[q] at e;have a:es.toList.any (·.refKey)=false:=by
   rw[List.any_eq_false];intro y hy;obtain⟨z,t,hkey⟩:=hk y (Array.mem_toList_iff.mp hy);simp[DictEntry.refKey,hkey]
  have a':¬ es.toList.any (·.refKey)=true:=by rw[a];exact Bool.false_ne_true
  rw[if_neg a'];exact congrArg some e
def ObjM.look {h:Heap}{x dx C:Addr}{mA:Str->Option Value}(I:ObjM h x dx C mA):∃od,PySem.W.InstAt h x (PySem.W.instObj C dx) C (some od)/\∀name,PySem.W.lookIn name od=some (mA name) :=
 let ⟨od,ho,hl⟩:=Dj I.ns
 ⟨od,⟨I.obj,rfl,rfl,ho⟩,hl⟩
section
variable {prog:Program}{w:World}{A:Around}{E:Value->Shared->Prop}{s:Shared}{K:PySem.W.Frag}{x dx C f:Addr}{mA:Str->Option Value}{name:Str}{v:Value}
def K8 {expr:Bool}{Q:Value->Shared->Prop}(X:K.In s.heap)(I:ObjM s.heap x dx C mA)(hg:PySem.W.plainGet K C name=true)(hh:PySem.W.hasDictIn K C=true)
 (ha:PySem.W.findIn K (.ref C) name=some none) (hv:mA name=some v) (hv':PySem.W.handedIn v=true) (h:Q v { s with toks:=s.toks+1 }) :
 wpAny (model prog w) A (getAttr (.ref x) name expr) Q E s:=by
 obtain⟨od,J,hl⟩:=I.look;exact PySem.W.get_value X J (PySem.W.plainGet_of hg).1 (PySem.W.findObj_own hh ha rfl (by rw[hl,hv])) hv' h
def HF {pl:Sem Bool}{Q:Value×List Value->Shared->Prop}(X:K.In s.heap)(I:ObjM s.heap x dx C mA)(hg:PySem.W.plainGet K C name=true)
 (hf:PySem.W.findIn K (.ref C) name=some (some (.ref f))) (ht:PySem.W.isFn K (.ref f)=true) (hv:mA name=none) (h:Q (.ref f,[.ref x]) s) :
 wpAny (model prog w) A (getMethod (.ref x) name pl) Q E s:=by
 obtain⟨od,J,hl⟩:=I.look;exact PySem.W.method_fn X J (PySem.W.plainGet_of hg).1 (PySem.W.plainGet_of hg).2 hf (beq_iff_eq.mp ht) (by show (PySem.W.lookIn name od).map (·.isSome)=some false;rw[hl,hv];rfl) h
def JZ {ns:List Str}{Q:Unit->Shared->Prop}(X:K.In s.heap)(I:ObjM s.heap x dx C mA)
 (hs:PySem.W.findIn K (.ref C) "__setattr__"=some (some (.builtin "object.__setattr__"))) (hp:PySem.W.plainOver K C=true) (ht:PySem.W.takerIn K C name=some none) (hh:PySem.W.hasDictIn K C=true)
 (hw:PySem.Within mA ns) (hsz:ns.length<=sizeLine)
 (h:∀h',ObjM h' x dx C (fun y=>if y=name then some v else mA y)->Heap.SameBut dx s.heap h'->Q () { s with heap:=h',toks:=s.toks+2 }) :
 wpAny (model prog w) A (setAttr (.ref x) name v) Q E s:=by
 obtain⟨od,J,hl⟩:=I.look;refine PySem.W.set_plain X J hs (PySem.W.osa_open (s:={ s with toks:=s.toks+1 }) (r:=none) X J hp ht fun b=>?_);obtain⟨cd,hc,hd'⟩:=PySem.W.any_some hh;have hx:s.heap.get? x=some ⟨.ref C,some dx,.plain,#[]⟩:=I.obj;refine wpAny_bind (wpAny_pure (wpAny_bind (wpAny_bind (wpAny_loadPart hx (wpAny_bind (PySem.W.Looks.here (s:={ s with toks:=s.toks+1 }) (PySem.W.looks_clsIn X hc) ?_))))));rw[hd'];refine wpAny_pure (a:=some dx) (wpAny_bind (wpAny_pure (wpAny_bind ?_)));refine wpAny_nsSet1 (s:={ s with toks:=s.toks+1 }) I.ns fun h' hn2 hs2=>?_;obtain⟨oD,esD,epD,hoD,hdD,hcD⟩:=hn2.count (PySem.Within.cons name v hw);refine wpAny_bind (wpAny_lookBehind hoD (by rw[hdD];exact pastItsLine_dict (Nat.le_trans hcD (by rw[List.length_cons];omega))) ?_);exact wpAny_pure (h _ ⟨(hs2.2 _ (Ne.symm I.ne)).trans I.obj,hn2,I.ne⟩ hs2)
def Hg {R:Result->Shared->Prop}{vs:List Value}{kw:List (Str×Value)}(X:K.In s.heap)(hm:PySem.W.makesIn K C=true)
 (hi:PySem.W.findIn K (.ref C) "__init__"=some (some (.ref f))) (hf:PySem.W.typeIn K (.ref f)=some (.type "function"))
 (h:codeAny (model prog w) (A.under (.builtin "type.__call__" ⟨.ref C::vs,kw⟩)) (.call (.ref f) ⟨.ref (s.heap.objs.size+1)::vs,kw⟩) (PySem.W.InitBack (s.heap.objs.size+1) R)
  { s with heap:=(s.heap.push PySem.W.emptyDict).push (PySem.W.instObj C s.heap.objs.size) }) :
 codeAny (model prog w) A (.call (.ref C) ⟨vs,kw⟩) R s:=by
 obtain⟨hh,g,d,t,os⟩:=s;exact PySem.W.make_core (PySem.W.makes_of X hm) (PySem.W.looks_findIn X hi) (fun self=>PySem.W.bind_fn X self hf) (.inl rfl) h
end
def jT (f:Str)(v:V):List (Str×V)->List (Str×V)
 | []=>[(f,v)]
 | (g,x)::r=>if g=f then (g,v)::r else (g,x)::jT f v r
def oN (f g:Str)(v:V):∀fs:List (Str×V),(jT f v fs).lookup g=if g=f then some v else fs.lookup g
 | []=>by
   show List.lookup g [(f,v)]=_;by_cases h:g=f
   ·have hb:(g==f)=true:=beq_iff_eq.mpr h;simp only[List.lookup,hb,if_pos h]
   ·have hb:(g==f)=false:=beq_eq_false_iff_ne.mpr h;simp only[List.lookup,hb,if_neg h]
 | (k,x)::r=>by
   have ih:=oN f g v r;rw[show jT f v ((k,x)::r)=(if k=f then (k,v)::r else (k,x)::jT f v r) from rfl];by_cases hk:k=f
   ·rw[if_pos hk];by_cases h:g=k
    ·have hb:(g==k)=true:=beq_iff_eq.mpr h;simp only[List.lookup,hb,if_pos (h.trans hk)]
    ·have hb:(g==k)=false:=beq_eq_false_iff_ne.mpr h;simp only[List.lookup,hb,if_neg (fun e:g=f=>h (e.trans hk.symm))]
   ·rw[if_neg hk];by_cases h:g=k
    ·have hb:(g==k)=true:=beq_iff_eq.mpr h;simp only[List.lookup,hb,if_neg (fun e:g=f=>hk (h.symm.trans e))]
    ·have hb:(g==k)=false:=beq_eq_false_iff_ne.mpr h;simp only[List.lookup,hb];exact ih
def nO (f:Str)(v:V):∀fs:List (Str×V),f∈(jT f v fs).map (·.1)/\∀g,g∈fs.map (·.1)->g∈(jT f v fs).map (·.1)
 | []=>⟨by simp[jT],fun g h=>by simp at h⟩
 | (k,x)::r=>by
   obtain⟨i1,i2⟩:=nO f v r;rw[show jT f v ((k,x)::r)=(if k=f then (k,v)::r else (k,x)::jT f v r) from rfl];by_cases hk:k=f
   ·rw[if_pos hk];subst hk;exact⟨by simp,fun g h=>by simpa using h⟩
   ·rw[if_neg hk];refine⟨?_,fun g h=>?_⟩
    ·rw[List.map_cons];exact List.mem_cons_of_mem _ i1
    ·rw[List.map_cons] at h ⊢;rcases List.mem_cons.mp h with e | e
     ·exact List.mem_cons.mpr (.inl e)
     ·exact List.mem_cons_of_mem _ (i2 g e)
def oO (f:Str)(v:V):∀fs:List (Str×V),(jT f v fs).length<=fs.length+1
 | []=>by simp[jT]
 | (k,x)::r=>by
   have ih:=oO f v r;rw[show jT f v ((k,x)::r)=(if k=f then (k,v)::r else (k,x)::jT f v r) from rfl];by_cases hk:k=f
   ·rw[if_pos hk,List.length_cons,List.length_cons];omega
   ·rw[if_neg hk,List.length_cons,List.length_cons];omega
def RelO.some_of {v:V}{o:Option Value}(r:RelO (some v) o):∃u,o=some u/\RelV v u:=by
 cases o with
 | none=>exact(show False from r).elim
 | some u=>exact⟨u,rfl,r⟩
def RelO.none_of {o:Option Value}(r:RelO none o):o=none:=by
 cases o with
 | none=>rfl
 | some u=>exact(show False from r).elim
def Dt {v:V}{u:Value}(r:RelV v u):PySem.W.handedIn u=true:=by
 cases v with
 | non=>cases (show u=Value.none from r);rfl
 | bl b=>cases (show u=Value.bool b from r);rfl
 | int i=>obtain⟨t,e⟩:=(show ∃t,u=Value.int i t from r);cases e;rfl
 | str x=>obtain⟨t,e⟩:=(show ∃t,u=Value.str x t from r);cases e;rfl
 | byt b=>obtain⟨t,e⟩:=(show ∃t,u=Value.bytes b t from r);cases e;rfl
 | flt b=>obtain⟨t,e⟩:=(show ∃t,u=Value.float b t from r);cases e;rfl
 | ref a=>cases (show u=Value.ref a from r);rfl
 | ty n=>cases (show u=Value.type n from r);rfl
section
variable {P:Program}{w:World}{H H':Hp}{h h':Heap}{a C dx:Addr}{fs fs':List (Str×V)}
def u5 (hok:HOk P w H h)(e:H a=some (.ins C dx fs)):∃mA,ObjM h a dx C mA/\(∀f,RelO (fs.lookup f) (mA f))/\PySem.Within mA (fs.map (·.1))/\fs.length<=1000/\H dx=some (.own a):=by
 obtain⟨d,z,ne,ob,mA,n,r,q⟩:=(show ObjOk P w H h a (.ins C dx fs) from hok a _ e);exact⟨mA,⟨ob,n,ne⟩,r,q,z,d⟩
end
structure Cls (K:PySem.W.Frag)(C:Addr):Prop where
 pg:PySem.W.plainGet K C Str.empty=true
 hd:PySem.W.hasDictIn K C=true
 po:PySem.W.plainOver K C=true
 sa:PySem.W.findIn K (.ref C) "__setattr__"=some (some (.builtin "object.__setattr__"))
def Cls.get {K:PySem.W.Frag}{C:Addr}(c:Cls K C)(f:Str):PySem.W.plainGet K C f=true:=c.pg
def NoAttr (K:PySem.W.Frag)(C:Addr)(f:Str):Prop:=PySem.W.findIn K (.ref C) f=some none
def NoAttr.taker {K:PySem.W.Frag}{C:Addr}{f:Str}(n:NoAttr K C f):PySem.W.takerIn K C f=some none:=by
 unfold PySem.W.takerIn;rw[show PySem.W.findIn K (.ref C) f=some none from n];rfl
structure Meth (K:PySem.W.Frag)(C:Addr)(m:Str)(f:Addr):Prop where
 at_:PySem.W.findIn K (.ref C) m=some (some (.ref f))
 fn:PySem.W.isFn K (.ref f)=true
 kp:PySem.W.keepIn K (.ref f)=true
section
variable {X:Cx}{pins:List (Addr×Obj)}{σ:St}{H:Hp}{s:Shared}{a C dx:Addr}{fs:List (Str×V)}{f:Str}{v:V}{A:Around}{E:Value->Shared->Prop}
def zf {b:Bool}{Q:Value->Shared->Prop}(I:Inv X pins σ H s)(e:H a=some (.ins C dx fs))(c:Cls X.K C)(n:NoAttr X.K C f)(l:fs.lookup f=some v)
 (h:∀u s',Inv X pins σ H s'->RelV v u->Q u s'):wpAny (model X.prog X.w) A (getAttr (.ref a) f b) Q E s:=by
 obtain⟨mA,O,r,_,_,_⟩:=u5 I.hok e;obtain⟨u,hu,ru⟩:=RelO.some_of (v:=v) (o:=mA f) (by rw[<-l];exact r f);exact K8 I.kIn O (c.get f) c.hd n hu (Dt ru) (h u _ (I.tok _) ru)
def jb {m:Str}{g:Addr}{pl:Sem Bool}{Q:Value×List Value->Shared->Prop}(I:Inv X pins σ H s)(e:H a=some (.ins C dx fs))(c:Cls X.K C)(k:Meth X.K C m g)(l:fs.lookup m=none)
 (h:Q (.ref g,[.ref a]) s):wpAny (model X.prog X.w) A (getMethod (.ref a) m pl) Q E s:=by
 obtain⟨mA,O,r,_,_,_⟩:=u5 I.hok e;have hn:mA m=none:=RelO.none_of (by rw[<-l];exact r m);exact HF I.kIn O (c.get m) k.at_ k.fn hn h
def yD {y:V}{u:Value}{Q:Unit->Shared->Prop}(I:Inv X pins σ H s)(e:H a=some (.ins C dx fs))(c:Cls X.K C)(n:NoAttr X.K C f)(hl:fs.length<1000)(ry:RelV y u)
 (h:∀s',Inv X pins σ (upd H a (.ins C dx (jT f y fs))) s'->Q () s'):wpAny (model X.prog X.w) A (setAttr (.ref a) f u) Q E s:=by
 obtain⟨mA,O,r,wi,_,ho⟩:=u5 I.hok e;have hz:(fs.map (·.1)).length<=sizeLine:=by rw[List.length_map,sizeLine_eq];omega
 refine JZ I.kIn O c.sa c.po n.taker c.hd wi hz fun h' O' sb=>h _ ?_;have hd:∃o,h'.get? dx=some o:=let ⟨o,_,_,e',_⟩:=O'.ns;⟨o,e'⟩
 refine I.write (x:=a) (e:=dx) (by rw[e];exact True.intro) (.inr ho) (fun b q hb z=>(sb.2 b hb).trans z) hd ?_;refine⟨by rw[au O.ne];exact ho,?_,O.ne,O'.obj,_,O'.ns,fun g=>?_,fun g hg=>?_⟩
 ·have:=oO f y fs;omega
 ·show RelO ((jT f y fs).lookup g) (if g=f then some u else mA g);rw[oN];by_cases q:g=f
  ·rw[if_pos q,if_pos q];exact ry
  ·rw[if_neg q,if_neg q];exact r g
 ·by_cases q:g=f
  ·rw[q];exact(nO f y fs).1
  ·refine(nO f y fs).2 g (wi g fun z=>hg ?_);show (if g=f then some u else mA g)=none;rw[if_neg q];exact z
def Inv.made (I:Inv X pins σ H s):Inv X pins σ (upd (upd H s.heap.objs.size (.own (s.heap.objs.size+1))) (s.heap.objs.size+1) (.ins C s.heap.objs.size []))
 { s with heap:=(s.heap.push PySem.W.emptyDict).push (PySem.W.instObj C s.heap.objs.size) }:=by
 have e1:(s.heap.push PySem.W.emptyDict).get? s.heap.objs.size=some PySem.W.emptyDict:=Heap.get?_push_size s.heap rfl;have e2:((s.heap.push PySem.W.emptyDict).push (PySem.W.instObj C s.heap.objs.size)).get? (s.heap.objs.size+1)=some (PySem.W.instObj C s.heap.objs.size):=by
  have:=Heap.get?_push_size (s.heap.push PySem.W.emptyDict) (o:=PySem.W.instObj C s.heap.objs.size) rfl
  rwa [Heap.size_push] at this
 have e3:(s.heap.push PySem.W.emptyDict).Ns s.heap.objs.size (fun _=>none):=⟨PySem.W.emptyDict,#[],_,e1,rfl,(fun e he=>absurd he (by simp)),fun _=>rfl⟩;have I1:=I.laid (a:=s.heap.objs.size) (o:=.own (s.heap.objs.size+1)) (h':=s.heap.push PySem.W.emptyDict) (t':=s.toks) (fun b u q=>Heap.get?_push_of_some _ q) (Nat.le_refl _) ⟨_,e1⟩;refine I1.laid (a:=s.heap.objs.size+1) (o:=.ins C s.heap.objs.size []) (t':=s.toks) (fun b u q=>Heap.get?_push_of_some _ q) (Nat.le_of_eq (Heap.size_push _ _)) ?_;have ne:s.heap.objs.size≠s.heap.objs.size+1:=Nat.ne_of_lt (Nat.lt_succ_self _);refine⟨by rw[au ne,az],Nat.zero_le _,ne,e2,fun _=>none,(Heap.Ns1.of_empty e3).at fun o q=>Heap.get?_push_of_some _ q,fun _=>True.intro,fun y hy=>absurd rfl hy⟩
def Lz {prog:Program}{w:World}{env:Env}{e:Expr}{f:Str}{pos:Pos}{s:Shared}{Q:Value->Shared->Prop}(hb:attributeBase e f env (eval e env)=eval e env)
 (h:wpAny (model prog w) A (eval e env) (fun o s₁=>wpAny (model prog w) A (getAttr o f true) Q E s₁) E s):wpAny (model prog w) A (eval (.Attribute e f pos) env) Q E s :=
 Attribute_any_ h (by rw[arm_eval_Attribute,hb])
end
noncomputable def R8 (K:PySem.W.Frag)(ta:TE)(f:Str):TE:=fun σ H Q=>ta σ H fun x H1=>∃a C dx fs v,x=.ref a/\H1 a=some (.ins C dx fs)/\Cls K C/\NoAttr K C f/\fs.lookup f=some v/\Q v H1
def R9 (K:PySem.W.Frag)(ta tv:TE)(f:Str):TS:=fun D σ H=>tv σ H fun y H1=>ta σ H1 fun x H2=>∃a C dx fs,x=.ref a/\H2 a=some (.ins C dx fs)/\Cls K C/\NoAttr K C f/\fs.length<1000 /\
 D.nx σ (upd H2 a (.ins C dx (jT f y fs)))
section
variable {X:Cx}{o e value:Expr}{f:Str}{pos pos' tpos:Pos}{ta tv:TE}
def qC (he:PE X e ta)(hb:attributeBase e f X.env (eval e X.env)=eval e X.env):PE X (.Attribute e f pos) (R8 X.K ta f):=by
 intro pins s σ H Q I h;refine Lz hb (bw (he pins s σ H _ I h) fun u s1 ⟨x,H1,I1,rx,a,C,dx,fs,v,ex,ea,c,n,l,q⟩=>?_);subst ex;obtain rfl:u=Value.ref a:=rx;exact zf I1 ea c n l fun u' s2 I2 ru=>⟨v,H1,I2,ru,q⟩
def yK (ha:PE X o ta)(hv:PE X value tv)(hs:swapsWith value (some (.Attribute o f pos')) pos.line X.env=pure false):PS X (.Assign [.Attribute o f pos'] value pos) (R9 X.K ta tv f):=by
 intro pins s σ H D I h;refine plainObj_wpAny_Assign_Attribute (bw (hv pins s σ H _ I h) fun u s1 ⟨y,H1,I1,ry,q⟩=>bw (ha pins s1 σ H1 _ I1 q) fun ov s2 ⟨x,H2,I2,rx,a,C,dx,fs,ex,ea,c,n,l,q2⟩=>?_) hs;subst ex;obtain rfl:ov=Value.ref a:=rx;exact yD I2 ea c n l ry fun s3 I3=>⟨σ,_,I3,q2⟩
def Mx {pl:Sem Bool}{m:Str}{apos:Pos}{args:List Expr}{pins:List (Addr×Obj)}{s:Shared}{σ:St}{H:Hp}{Q:Value->Shared->Prop}{te:TE}(he:PE X e te)(I:Inv X pins σ H s)
 (h:te σ H fun x H1=>∃a C dx fs g,x=.ref a/\H1 a=some (.ins C dx fs)/\Cls X.K C/\Meth X.K C m g/\fs.lookup m=none /\
  ∀s1,Inv X pins σ H1 s1->wpAny (model X.prog X.w) X.A (callWith pos (.ref g) [.ref a] (backTo pos (starEach args X.env)) (backToKw pos (keywordEach [] X.env))) Q X.xe s1)
 (ht:eval (.Call (.Attribute e m apos) args [] pos) X.env=(do
  let ov <-eval e X.env
  standAt apos.atName
  let (f,first) <-holding [ov] (getMethod ov m pl)
  callWith pos f first (backTo pos (starEach args X.env)) (backToKw pos (keywordEach [] X.env)))) :
 wpAny (model X.prog X.w) X.A (eval (.Call (.Attribute e m apos) args [] pos) X.env) Q X.xe s:=by
 refine PySem.W.methodCall_KW (pl:=pl) (bw (he pins s σ H _ I h) fun u s1 ⟨x,H1,I1,rx,a,C,dx,fs,g,ex,ea,c,k,l,q⟩=>?_) ht;subst ex;obtain rfl:u=Value.ref a:=rx;exact jb I1 ea c k l (q s1 I1)
end
section
variable {X:Cx}{pins:List (Addr×Obj)}{σ:St}{H:Hp}{s:Shared}{A:Around}{E:Value->Shared->Prop}{Q:Value->Shared->Prop}{c:Value}{b:Bool}
end
structure Room (k:Nat)(A:Around):Prop where
 hd:A.handled=none
 dp:A.depth+3*k+5<recursionLimit
 un:A.units+16*k+200<cLine
def Room.mono {j k:Nat}{A:Around}(r:Room k A)(h:j<=k):Room j A:=⟨r.hd,by have:=r.dp;omega,by have:=r.un;omega⟩
def Room.deeper {k:Nat}{A:Around}(r:Room (k+1) A)(env:Env):Room k (A.deeper env) :=
 ⟨r.hd,by have:=r.dp;show A.depth+1+3*k+5<_;omega,by have:=r.un;show A.units+3+16*k+200<_;omega⟩
def yS {A:Around}{C:Addr}{us:List Value}{kw:List (Str×Value)}:(A.under (.builtin "type.__call__" ⟨.ref C::us,kw⟩)).depth=A.depth+1:=by
 first | rfl | simp[Around.under,Code.weight,Code.isCreation,Code.isGuard,Code.isCaller,Code.frames,Code.isFrame,guardIds]
def yR {A:Around}{C:Addr}{us:List Value}{kw:List (Str×Value)}:(A.under (.builtin "type.__call__" ⟨.ref C::us,kw⟩)).units=A.units+1:=by
 first | rfl | simp[Around.under,Code.cUnits,Code.frames,Code.isFrame]
def Room.make {k:Nat}{A:Around}(r:Room (k+1) A)(C:Addr)(us:List Value)(kw:List (Str×Value)):Room k (A.under (.builtin "type.__call__" ⟨.ref C::us,kw⟩)) :=
 ⟨r.hd,by have:=r.dp;rw[yS];omega,by have:=r.un;rw[yR];omega⟩
def Room.depth {k:Nat}{A:Around}(r:Room k A):A.depth<recursionLimit:=by have:=r.dp;omega
def Room.units {k:Nat}{A:Around}(r:Room k A):A.units+64<cLine:=by have:=r.un;omega
noncomputable def ju:TA:=fun _ H Q=>Q [] H
noncomputable def b8 (ta:TE)(tr:TA):TA:=fun σ H Q=>ta σ H fun x H1=>tr σ H1 fun xs H2=>Q (x::xs) H2
section
variable {X:Cx}{e:Expr}{es:List Expr}{te:TE}{t:TA}{pos:Pos}
def aY:PA X [] ju:=fun _ _ _ _ H Q I h=>Calls.spliced_nil ⟨[],H,I,.nil,h⟩
def aJ (ha:PE X e te)(hr:PA X es t)(hs:starEach (e::es) X.env=(false,eval e X.env)::starEach es X.env:=by rfl):PA X (e::es) (b8 te t):=by
 intro pos pins s σ H Q I h;rw[hs];show wpAny _ _ (spliced ((false,eval e X.env)::backTo pos (starEach es X.env))) _ _ s;refine Calls.spliced_cons (bw (ha pins s σ H _ I h) fun u s1 ⟨x,H1,I1,r1,q1⟩=>?_);exact bw (hr pos pins s1 σ H1 _ I1 q1) fun us s2 ⟨xs,H2,I2,r2,q2⟩=>⟨x::xs,H2,I2,.cons r1 r2,q2⟩
def JR (t:TA):TE:=fun σ H Q=>t σ H fun xs H1=>xs.length<=sizeLine/\∀p,H1 p=none->Q (.ref p) (upd H1 p (.tup xs))
def QM (t:TA):TE:=fun σ H Q=>t σ H fun xs H1=>xs.length<=sizeLine/\∀p,H1 p=none->Q (.ref p) (upd H1 p (.lst xs))
def uU {x1}(h:PA X es t):PE X (.Tuple es x1 pos) (JR t):=by
 intro pins s σ H Q I hq;refine wpAny_Tuple_spliced (bw (h pos pins s σ H _ I hq) fun us s1 ⟨xs,H1,I1,r,z,q⟩=>⟨by rw[<-r.length];exact z,?_⟩);have hf:H1 s1.heap.objs.size=none:=I1.hok.fresh (Nat.le_refl _);refine⟨.ref s1.heap.objs.size,upd H1 s1.heap.objs.size (.tup xs),I1.laid (t':=s1.toks) (fun b u e=>Heap.get?_push_of_some _ e) (Nat.le_refl _) ?_,rfl,q _ hf⟩;exact⟨z,us,r,⟨_,Heap.get?_push_size _ rfl,rfl,_,rfl⟩⟩
def GP (h:PA X es t):PE X (.List es pos) (QM t):=by
 intro pins s σ H Q I hq;refine wpAny_List_spliced (bw (h pos pins s σ H _ I hq) fun us s1 ⟨xs,H1,I1,r,z,q⟩=>⟨by rw[<-r.length];exact z,?_⟩);have hf:H1 s1.heap.objs.size=none:=I1.hok.fresh (Nat.le_refl _);refine⟨.ref s1.heap.objs.size,upd H1 s1.heap.objs.size (.lst xs),I1.laid (t':=s1.toks) (fun b u e=>Heap.get?_push_of_some _ e) (Nat.le_refl _) ?_,rfl,q _ hf⟩;exact⟨z,us,0,r,Heap.get?_push_size _ rfl⟩
end
abbrev Sp:=List V->Hp->VK->XK->Prop
abbrev Et:=List Env->Hp->Shared->XK->Value->Shared->Prop
structure Env0 (P:Program)(w:World)(K:PySem.W.Frag)(mg:Str->Option Value)(base:Heap)(A:Around)(outer:List Env)(s:Shared)(H:Hp):Prop where
 frames:A.frames=some outer
 mod:Mod K mg base
 bs:∀b o,base.get? b=some o->s.heap.get? b=some o/\H b=none
 bsz:base.objs.size<=s.heap.objs.size
 funs:s.heap.FunFrames base outer
 frf:∀b∈frs outer,H b=none
 hok:HOk P w H s.heap
 bare:AllBare s.gens
def CE (outer:List Env)(P:Program)(w:World)(H:Hp)(s:Shared)(Q:VK)(u:Value)(s':Shared):Prop :=
 ∃v H',s'.os=s.os/\AllBare s'.gens/\Un (frs outer) [] H H' s.heap s'.heap/\HOk P w H' s'.heap/\RelV v u/\Q v H'
def CR (CX:Et)(outer:List Env)(P:Program)(w:World)(H:Hp)(s:Shared)(Q:VK)(E:XK)(r:Result)(s':Shared):Prop :=
 match r with
 | .ok (.ret u)=>CE outer P w H s Q u s'
 | .ok _=>False
 | .error e=>CX outer H s E e s'
structure eF (P:Program)(w:World)(K:PySem.W.Frag)(mg:Str->Option Value)(base:Heap)(CX:Et)(k:Nat)(f:Addr)(fd:FuncData)(ps:List Str)(sp:Sp):Prop where
 len:∀vs H Q E,sp vs H Q E->vs.length=ps.length
 run:∀(A:Around) (outer:List Env) (s:Shared) (H:Hp) (args:Args) (us:List Value) (vs:List V) (Q:VK) (E:XK),Room k A->Env0 P w K mg base A outer s H->BindsTo s fd args (ps.zip us)->Vals vs us->sp vs H Q E ->
  codeAny (model P w) A (.call (.ref f) args) (CR CX outer P w H s Q E) s
def Env0.make {P:Program}{w:World}{K:PySem.W.Frag}{mg:Str->Option Value}{base:Heap}{A:Around}{outer:List Env}{s:Shared}{H:Hp}(e:Env0 P w K mg base A outer s H)(C:Addr)(us:List Value)(kw:List (Str×Value)) :
 Env0 P w K mg base (A.under (.builtin "type.__call__" ⟨.ref C::us,kw⟩)) outer s H:=⟨by first | exact e.frames | (simpa[Around.under,Code.envs,Code.isFrame,pushEnvs] using e.frames),e.mod,e.bs,e.bsz,e.funs,e.frf,e.hok,e.bare⟩
section
variable {X:Cx}{pins:List (Addr×Obj)}{σ:St}{H:Hp}{s s':Shared}
def Inv.env0 (I:Inv X pins σ H s):Env0 X.prog X.w X.K X.mg X.base X.A X.stack s H :=
 ⟨I.ok.frames,I.ok.mod,I.bs,Nat.le_trans I.ok.bsz I.sz,I.stack,I.stkFree,I.hok,I.bare⟩
def Inv.after {Q:VK}{u:Value}(I:Inv X pins σ H s)(h:CE X.stack X.prog X.w H s Q u s'):EP X pins σ Q u s':=by
 obtain⟨v,H',os,bare,un,hok,r,q⟩:=h;obtain⟨hh,g,d,t,os'⟩:=s';obtain rfl:os'=s.os:=os;exact⟨v,H',I.call (h':=hh) (g':=g) (d':=d) (t':=t) (ch:=[]) un hok bare (fun b z=>absurd z (by simp)),r,q⟩
end
noncomputable def oA (sp:Sp)(dvs:List V)(E:XK)(t:TA):TE:=fun σ H Q=>t σ H fun vs H1=>sp (vs++dvs) H1 Q E
noncomputable def Fq (C:Addr)(m:Str)(sp:Sp)(dvs:List V)(E:XK)(ta:TE)(t:TA):TE:=fun σ H Q=>ta σ H fun x H1=>∃a dx fs,x=.ref a/\H1 a=some (.ins C dx fs)/\fs.lookup m=none /\
 t σ H1 fun vs H2=>sp (x::(vs++dvs)) H2 Q E
def Ft (C:Addr)(sp:Sp)(dvs:List V)(E:XK)(t:TA):TE:=fun σ H Q=>t σ H fun vs H1=>∀x dx,H1 x=none->H1 dx=none->dx≠x ->
 sp (.ref x::(vs++dvs)) (upd (upd H1 dx (.own x)) x (.ins C dx [])) (fun v H2=>v=.non/\Q (.ref x) H2) E
def Binds (K:PySem.W.Frag)(fd:FuncData)(ps:List Str)(ds:List Value):Prop :=
 ∀(s:Shared) (us:List Value),K.In s.heap->(us++ds).length=ps.length->BindsTo s fd ⟨us,[]⟩ (ps.zip (us++ds))
def Binds.all {K:PySem.W.Frag}{fd:FuncData}{ps:List Str}(h:∀us:List Value,us.length=ps.length->bindArgs fd ⟨us,[]⟩=pure (ps.zip us)):Binds K fd ps []:=fun s us _ hl=>by
 rw[List.append_nil] at hl ⊢;exact .of_eq (h us hl)
def lD (CX:Et)(X:Cx)(E:XK):Prop:=∀(pins:List (Addr×Obj)) (σ:St) (H:Hp) (s:Shared) (e:Value) (s':Shared),Inv X pins σ H s->CX X.stack H s E e s'->X.xe e s'
section
variable {X:Cx}{CX:Et}{k:Nat}{f C:Addr}{fd:FuncData}{ps:List Str}{sp:Sp}{dvs:List V}{ds:List Value}{E:XK}{x m:Str}{p pos apos:Pos}{e o:Expr}{es:List Expr}{ta:TE}{t:TA}
def yG {pins:List (Addr×Obj)}{σ:St}{H:Hp}{s:Shared}{Q:VK}{us:List Value}{vs:List V}(F:eF X.prog X.w X.K X.mg X.base CX k f fd ps sp)(hr:Room k X.A)(hb:Binds X.K fd ps ds)(hd:Vals dvs ds)(hx:lD CX X E)
 (I:Inv X pins σ H s) (r:Vals vs us) (h:sp (vs++dvs) H Q E):wpAny (model X.prog X.w) X.A (call (.ref f) us) (EP X pins σ Q) X.xe s:=by
 have r2:Vals (vs++dvs) (us++ds):=r.append hd;have hl:(us++ds).length=ps.length:=by rw[<-r2.length];exact F.len _ _ _ _ h
 refine wpAny_call (codeAny_mono (F.run X.A X.stack s H ⟨us,[]⟩ (us++ds) (vs++dvs) Q E hr I.env0 (hb s us I.kIn hl) r2 h) fun r s' hq=>?_);cases r with
 | error e=>exact hx pins σ H s e s' I hq
 | ok fl =>
   cases fl with
   | ret u=>exact I.after hq
   | next=>exact False.elim hq
   | brk=>exact False.elim hq
   | cont=>exact False.elim hq
def gG (F:eF X.prog X.w X.K X.mg X.base CX k f fd ps sp)(hr:Room k X.A)(hg:Gl X x)(hm:X.mg x=some (.ref f))(hk:PySem.W.keepIn X.K (.ref f)=true)(hb:Binds X.K fd ps ds)(hd:Vals dvs ds)(hx:lD CX X E)
 (ha:PA X (e::es) t) (hdb:(x==("__debug__":Str))=false:=by decide) (he:starEach (e::es) X.env=(false,eval e X.env)::starEach es X.env:=by rfl) (hpl:(backTo pos (starEach es X.env)).any (·.1)=false:=by rfl) :
 PE X (.Call (.Name x p) (e::es) [] pos) (oA sp dvs E t):=by
 intro pins s σ H Q I h;refine wpAny_Call_Name_kw (mq I hg hm ?_ hdb);refine PySem.W.callWith_K (h₀:=X.base) I.ok.mod.kin hk (bw (ha pos pins s σ H _ I h) fun us s1 ⟨vs,H1,I1,r,q⟩=>⟨I1.kIn,?_⟩) he hpl;exact yG F hr hb hd hx I1 r q
def Ag {pl:Sem Bool}(he:PE X o ta)(c:Cls X.K C)(hm:Meth X.K C m f)(F:eF X.prog X.w X.K X.mg X.base CX k f fd ps sp)(hr:Room k X.A)(hb:Binds X.K fd ps ds)(hd:Vals dvs ds)(hx:lD CX X E)(ha:PA X (e::es) t)
 (hst:starEach (e::es) X.env=(false,eval e X.env)::starEach es X.env:=by rfl) (hpl:(backTo pos (starEach es X.env)).any (·.1)=false:=by rfl)
 (ht:eval (.Call (.Attribute o m apos) (e::es) [] pos) X.env=(do
  let ov <-eval o X.env
  standAt apos.atName
  let (f,first) <-holding [ov] (getMethod ov m pl)
  callWith pos f first (backTo pos (starEach (e::es) X.env)) (backToKw pos (keywordEach [] X.env))):=by rfl) :
 PE X (.Call (.Attribute o m apos) (e::es) [] pos) (Fq C m sp dvs E ta t):=by
 intro pins s σ H Q I h;refine PySem.W.methodCall_KW (pl:=pl) (bw (he pins s σ H _ I h) fun u s1 ⟨x,H1,I1,rx,a,dx,fs,ex,ea,l,q⟩=>?_) ht;subst ex;obtain rfl:u=Value.ref a:=rx;refine jb I1 ea c hm l ?_;refine PySem.W.callWith_K (first:=[.ref a]) (h₀:=X.base) I.ok.mod.kin hm.kp (bw (ha pos pins s1 σ H1 _ I1 q) fun us s2 ⟨vs,H2,I2,r,q2⟩=>⟨I2.kIn,?_⟩) hst hpl;exact yG (us:=.ref a::us) (vs:=.ref a::vs) F hr hb hd hx I2 (.cons rfl r) q2
def GK {pl:Sem Bool}(he:PE X o ta)(c:Cls X.K C)(hm:Meth X.K C m f)(F:eF X.prog X.w X.K X.mg X.base CX k f fd ps sp)(hr:Room k X.A)(hb:Binds X.K fd ps ds)(hd:Vals dvs ds)(hx:lD CX X E)
 (ht:eval (.Call (.Attribute o m apos) [] [] pos) X.env=(do
  let ov <-eval o X.env
  standAt apos.atName
  let (f,first) <-holding [ov] (getMethod ov m pl)
  callWith pos f first (backTo pos (starEach [] X.env)) (backToKw pos (keywordEach [] X.env))):=by rfl) :
 PE X (.Call (.Attribute o m apos) [] [] pos) (Fq C m sp dvs E ta ju):=by
 intro pins s σ H Q I h;refine PySem.W.methodCall_KW (pl:=pl) (bw (he pins s σ H _ I h) fun u s1 ⟨x,H1,I1,rx,a,dx,fs,ex,ea,l,q⟩=>?_) ht;subst ex;obtain rfl:u=Value.ref a:=rx;refine jb I1 ea c hm l ?_;exact PySem.W.callWith_K0 (first:=[.ref a]) I1.kIn hm.kp (yG (us:=[.ref a]) (vs:=[.ref a]) F hr hb hd hx I1 (.cons rfl .nil) q)
structure Mk (K:PySem.W.Frag)(C f:Addr):Prop where
 makes:PySem.W.makesIn K C=true
 init:PySem.W.findIn K (.ref C) "__init__"=some (some (.ref f))
 fn:PySem.W.isFn K (.ref f)=true
 kp:PySem.W.keepIn K (.ref C)=true
def Gf {pins:List (Addr×Obj)}{σ:St}{H:Hp}{s:Shared}{Q:VK}{us:List Value}{vs:List V}(M:Mk X.K C f)(F:eF X.prog X.w X.K X.mg X.base CX k f fd ps sp)(hr:Room (k+1) X.A)(hb:Binds X.K fd ps ds)(hd:Vals dvs ds)
 (hx:lD CX X E) (I:Inv X pins σ H s) (r:Vals vs us)
 (h:∀x dx,H x=none->H dx=none->dx≠x->sp (.ref x::(vs++dvs)) (upd (upd H dx (.own x)) x (.ins C dx [])) (fun v H2=>v=.non/\Q (.ref x) H2) E) :
 wpAny (model X.prog X.w) X.A (call (.ref C) us) (EP X pins σ Q) X.xe s:=by
 have hq:=h (s.heap.objs.size+1) s.heap.objs.size (I.hok.fresh (Nat.le_succ _)) (I.hok.fresh (Nat.le_refl _)) (Nat.ne_of_lt (Nat.lt_succ_self _));have I2:=Inv.made (C:=C) I;have r2:Vals (V.ref (s.heap.objs.size+1)::(vs++dvs)) (Value.ref (s.heap.objs.size+1)::(us++ds)):=.cons rfl (r.append hd);have hl:(Value.ref (s.heap.objs.size+1)::us++ds).length=ps.length:=by
  have e:=r2.length;rw[F.len _ _ _ _ hq] at e;exact e.symm
 refine wpAny_call (Hg (f:=f) I.kIn M.makes M.init (beq_iff_eq.mp M.fn) (codeAny_mono (F.run _ X.stack _ _ ⟨Value.ref (s.heap.objs.size+1)::us,[]⟩ (Value.ref (s.heap.objs.size+1)::(us++ds)) _ _ E (hr.make C us [])
  (I2.env0.make C us []) (hb _ (Value.ref (s.heap.objs.size+1)::us) I2.kIn hl) r2 hq) fun r s' hq'=>?_))
 cases r with
 | error e=>exact hx pins σ _ _ e s' I2 hq'
 | ok fl =>
   cases fl with
   | ret u =>
     obtain⟨v,H',I3,rv,ev,q3⟩:=I2.after hq';subst ev;exact⟨rv,⟨V.ref (s.heap.objs.size+1),H',I3,rfl,q3⟩⟩
   | next=>exact False.elim hq'
   | brk=>exact False.elim hq'
   | cont=>exact False.elim hq'
def wI (M:Mk X.K C f)(F:eF X.prog X.w X.K X.mg X.base CX k f fd ps sp)(hr:Room (k+1) X.A)(hg:Gl X x)(hm:X.mg x=some (.ref C))(hb:Binds X.K fd ps ds)(hd:Vals dvs ds)(hx:lD CX X E)
 (hdb:(x==("__debug__":Str))=false:=by decide):PE X (.Call (.Name x p) [] [] pos) (Ft C sp dvs E ju):=by
 intro pins s σ H Q I h;refine wpAny_Call_Name_kw (mq I hg hm ?_ hdb);exact PySem.W.callWith_K0 I.kIn M.kp (Gf (us:=[]) M F hr hb hd hx I .nil h)
end
section
variable {X:Cx}{CX:Et}{k:Nat}{f C:Addr}{fd:FuncData}{ps ks:List Str}{sp:Sp}{E:XK}{x m:Str}{p pos apos kpos:Pos}{e o:Expr}{es:List Expr}{kws:List Keyword}{te ta:TE}{t tk:TA}{nm:Option Str}
variable {g:List Value->List Value->List Value}{gV:List V->List V->List V}
end
structure cF (N P:List Str)(sc:Scope):Prop where
 kind:sc.kind=.function
 co:sc.isCoroutine=false
 gen:sc.isGenerator=false
 nd:N.Nodup
 pre:N.take P.length=P
 par:∀x∈P,sc.names.lookup x=some .local\/sc.names.lookup x=some .cell
 nofree:∀y∈sc.names,y.2≠.free
def uv {kindOf:Str->Option NameKind}{x:Str}:∀{binds:List (Str×Value)} {m:Str->Option Value},(∀v,(x,v)∉binds)->bindL kindOf binds m x=m x
 | [],_,_=>rfl
 | (n,v)::r,m,h=>by
   unfold bindL;rw[uv fun w hw=>h w (List.mem_cons_of_mem _ hw)];split
   ·have:x≠n:=by rintro rfl;exact h v List.mem_cons_self
    simp[this]
   ·rfl
def uz {kindOf:Str->Option NameKind}{x:Str}:∀{binds:List (Str×Value)} {m:Str->Option Value},(∀v,(x,v)∉binds)->bindC kindOf binds m x=m x
 | [],_,_=>rfl
 | (n,v)::r,m,h=>by
   unfold bindC;rw[uz fun w hw=>h w (List.mem_cons_of_mem _ hw)];split
   ·rfl
   ·have:x≠n:=by rintro rfl;exact h v List.mem_cons_self
    simp[this]
def uw {kindOf:Str->Option NameKind}{x:Str}{v:Value}:∀{P:List Str} {vs:List Value} {i:Nat} {m:Str->Option Value},P.Nodup->P[i]? = some x->vs[i]? = some v->kindOf x=some .local ->
 bindL kindOf (P.zip vs) m x=some v
 | [],_,_,_,_,h,_,_=>by simp at h
 | _::_,[],_,_,_,_,h,_=>by simp at h
 | p::P,w::vs,0,m,nd,h1,h2,hk=>by
   simp at h1 h2;subst h1;subst h2;show bindL kindOf ((p,w)::P.zip vs) m p=_;unfold bindL;rw[uv fun v hv=>(List.nodup_cons.mp nd).1 (List.of_mem_zip hv).1,if_pos hk];simp
 | p::P,w::vs,i+1,m,nd,h1,h2,hk=>by
   show bindL kindOf ((p,w)::P.zip vs) m x=_;unfold bindL;exact uw (i:=i) (List.nodup_cons.mp nd).2 (by simpa using h1) (by simpa using h2) hk
def uA {kindOf:Str->Option NameKind}{x:Str}{v:Value}:∀{P:List Str} {vs:List Value} {i:Nat} {m:Str->Option Value},P.Nodup->P[i]? = some x->vs[i]? = some v->kindOf x≠some .local ->
 bindC kindOf (P.zip vs) m x=some v
 | [],_,_,_,_,h,_,_=>by simp at h
 | _::_,[],_,_,_,_,h,_=>by simp at h
 | p::P,w::vs,0,m,nd,h1,h2,hk=>by
   simp at h1 h2;subst h1;subst h2;show bindC kindOf ((p,w)::P.zip vs) m p=_;unfold bindC;rw[uz fun v hv=>(List.nodup_cons.mp nd).1 (List.of_mem_zip hv).1,if_neg hk];simp
 | p::P,w::vs,i+1,m,nd,h1,h2,hk=>by
   show bindC kindOf ((p,w)::P.zip vs) m x=_;unfold bindC;exact uA (i:=i) (List.nodup_cons.mp nd).2 (by simpa using h1) (by simpa using h2) hk
noncomputable def start (N:List Str)(vs:List V):St:=vs.map some++List.replicate (N.length-vs.length) none
noncomputable def jY (CX:Et)(P:Program)(w:World)(K:PySem.W.Frag)(mg:Str->Option Value)(base:Heap)(N:List Str)(qual:Str)(scope:Scope)(f:Addr)(cd:Value)(A:Around)(outer:List Env)(s:Shared)(H:Hp)(E:XK):Cx where
 prog:=P
 w:=w
 K:=K
 mg:=mg
 base:=base
 A:=A.deeper (envOfC qual scope s.heap.objs.size f cd)
 N:=N
 s₀:=s
 H₀:=H
 env:=envOfC qual scope s.heap.objs.size f cd
 outer:=outer
 stack:=envOfC qual scope s.heap.objs.size f cd::outer
 ex:=[]
 calm:=true
 fn:=fun _=>true
 pn:=[]
 xe:=fun e s'=>wpAny (model P w) (A.deeper (envOfC qual scope s.heap.objs.size f cd)) (leaving (envOfC qual scope s.heap.objs.size f cd) e) (fun _ s''=>CX outer H s E e s'') (fun e' s''=>CX outer H s E e' s'') s'
def xT {sc:Scope}{n:Nat}{x:Str}(h:sc.names.lookup x=some .cell):∃c,(cellsFrom n sc.names []).lookup x=some c:=by
 have q:=PySem.W.cellsFrom_some sc.names n [] (.inl h);exact Option.isSome_iff_exists.mp q
def Dp {CX:Et}{P:Program}{w:World}{K:PySem.W.Frag}{mg:Str->Option Value}{base:Heap}{N ps:List Str}{qual:Str}{scope:Scope}{f:Addr}{cd:Value}{A:Around}{outer:List Env}{s s1:Shared}{H:Hp}{E:XK}{us:List Value}{vs:List V}
 (S:cF N ps scope) (hd:A.handled=none) (e0:Env0 P w K mg base A outer s H) (hl:vs.length=ps.length) (r:Vals vs us)
 (x:InCallC s s.heap.objs.size (bindL (envOfC qual scope s.heap.objs.size f cd).kindOf (ps.zip us) fun _=>none) (cellsFrom (s.heap.objs.size+1) scope.names []) (bindC (envOfC qual scope s.heap.objs.size f cd).kindOf (ps.zip us) fun _=>none) s1) :
 Inv (jY CX P w K mg base N qual scope f cd A outer s H E) [] (start N vs) H s1:=by
 have hpl:ps.length<=N.length:=by have:=congrArg List.length S.pre;rw[List.length_take] at this;omega
 obtain⟨h1,tk,rfl,hk⟩:=x.done;have noA:∀b:Addr,b∉(jY CX P w K mg base N qual scope f cd A outer s H E).ex:=fun b z=>absurd (show b∈([]:List Addr) from z) (by simp);refine⟨⟨e0.mod,S.kind,rfl,rfl,Nat.le_refl _,fun y z c h1 h2=>?_,fun y hy=>?_,fun y c _ h=>?_,fun _=>hd,Around.frames_deeper e0.frames,.inr ⟨rfl,rfl⟩,fun b z=>absurd z (noA b),e0.bs,e0.bsz,fun b _ _=>noA b,fun b z=>absurd z (noA b),e0.funs,e0.frf⟩,
  rfl,e0.bare,Un.kept hk,⟨_,x.toInCall.ns,fun i y v h1 h2 h3=>?_⟩,fun y c h=>⟨_,x.cell y c h⟩,e0.hok.fresh (Nat.le_refl _),fun y c h=>?_,fun p hp=>absurd (show p∈([]:List (Addr×Obj)) from hp) (by simp),e0.hok.kept hk,?_⟩
 ·exact name_of_addr x.apart (PySem.mem_of_lookup h1) (PySem.mem_of_lookup h2)
 ·have hy:scope.names.lookup y=some .cell\/scope.names.lookup y=some .free:=hy;rcases hy with hy | hy
  ·exact xT hy
  ·exact absurd rfl (S.nofree _ (PySem.mem_of_lookup hy))
 ·exact Nat.le_of_lt (x.above y c (PySem.mem_of_lookup h))
 ·have hi:i<vs.length:=by
   unfold start at h2;by_cases hi:i<vs.length
   ·exact hi
   ·rw[List.getElem?_append_right (by simpa using hi)] at h2;rw[List.getElem?_replicate] at h2;split at h2 <;> cases h2
  have ha:vs[i]? = some v:=by
   unfold start at h2;rw[List.getElem?_append_left (by simpa using hi),List.getElem?_map] at h2;cases e:vs[i]? with
   | none=>rw[e] at h2;cases h2
   | some a=>rw[e] at h2;cases h2;rfl
  obtain⟨u,hu,rv⟩:=r.get ha;have hp:ps[i]? = some y:=by
   rw[<-S.pre,List.getElem?_take_of_lt (by omega)];exact h1
  have ndP:ps.Nodup:=by rw[<-S.pre];exact S.nd.sublist (List.take_sublist _ _)
  refine⟨u,rv,?_⟩;rcases S.par y (List.mem_of_getElem? hp) with k | k
  ·exact .inl ⟨k,uw ndP hp hu k⟩
  ·obtain⟨c,e⟩:=xT (n:=s.heap.objs.size+1) k;refine .inr ⟨.inl k,c,e,?_⟩;have q:=x.cell y c e;rw[uA ndP hp hu (by show scope.names.lookup y≠_;rw[k];decide)] at q;exact q
 ·exact e0.hok.fresh (Nat.le_of_lt (x.above y c (PySem.mem_of_lookup h)))
 ·unfold start;show _=N.length;rw[List.length_append,List.length_map,List.length_replicate];omega
def MN {CX:Et}{P:Program}{w:World}{K:PySem.W.Frag}{mg:Str->Option Value}{base:Heap}{k:Nat}{f:Addr}{name qual:Str}{params:Arguments}{body:List Stmt}{scope:Scope}{dV kV doc pm cdv ct oc:Value}{an od:Option Addr}
 {osl:Array (Option Value)} {N ps:List Str} {sp:Sp} (lk:K.lookup f=some ⟨oc,od,.func (PySem.W.fnOf name qual params body scope dV kV doc pm an cdv ct),osl⟩) (hcd:PySem.W.codeIn K cdv qual=true) (S:cF N ps scope)
 (len:∀vs H Q E,sp vs H Q E->vs.length=ps.length)
 (hbody:∀(A:Around) (outer:List Env) (s:Shared) (H:Hp) (vs:List V) (Q:VK) (E:XK),Room k (A.deeper (envOfC qual scope s.heap.objs.size f cdv))->sp vs H Q E ->
  ∃t,PSs (jY CX P w K mg base N qual scope f cdv A outer s H E) body t/\t { nx:=fun _ H'=>Q .non H',rt:=Q } (start N vs) H) :
 eF P w K mg base CX (k+1) f (PySem.W.fnOf name qual params body scope dV kV doc pm an cdv ct) ps sp:=by
 refine⟨len,fun A outer s H args us vs Q E hr e0 hb r hsp=>?_⟩;have hl:=len _ _ _ _ hsp;have KX:K.In s.heap:=e0.mod.kin.keeps fun b o e=>(e0.bs b o e).1;have lim:s.heap.NoLimit:=e0.mod.nolimit.keeps fun b o e=>(e0.bs b o e).1;have hkind:∀y∈ps.zip us,scope.names.lookup y.1=some .local\/(scope.names.lookup y.1=some .cell/\((cellsFrom (s.heap.objs.size+1) scope.names []).lookup y.1).isSome=true):=fun⟨n,v⟩ hy=>by
  rcases S.par n (List.of_mem_zip hy).1 with q | q
  ·exact .inl q
  ·exact .inr ⟨q,PySem.W.cellsFrom_some _ _ _ (.inl q)⟩
 refine codeAny_call_function hr.depth (KX _ _ lk) rfl S.co S.gen rfl (PySem.W.codeRec_of KX hcd) (hb _ _ _ _ ?_);refine wpAny_newFunctionEnv_cells S.kind hkind fun env he s1 x=>?_;subst he;refine⟨lim.keeps x.toInCall.keep,codeAny_func ?_⟩;obtain⟨t,ht,hq⟩:=hbody A outer s H vs Q E (hr.deeper _) hsp;have I:Inv (jY CX P w K mg base N qual scope f cdv A outer s H E) [] (start N vs) H s1:=Dp S hr.hd e0 hl r x;refine wpAny_mono (ht [] s1 (start N vs) H _ I hq) (fun fl s' hs=>?_) fun e s' hs=>hs;have fin:∀{σ':St} {H':Hp} {v:V} {u:Value},Inv (jY CX P w K mg base N qual scope f cdv A outer s H E) [] σ' H' s'->RelV v u->Q v H'->CE outer P w H s Q u s' :=
  fun {σ' H' v u} J rv q=>⟨v,H',J.os,J.bare,J.base,J.hok,rv,q⟩
 cases fl with
 | ret u =>
   obtain⟨v,σ',H',J,rv,q⟩:=hs;exact fin J rv q
 | next =>
   obtain⟨σ',H',J,q⟩:=hs;exact fin (v:=V.non) (u:=Value.none) J rfl q
 | brk =>
   obtain⟨_,_,_,q⟩:=hs;exact False.elim q
 | cont =>
   obtain⟨_,_,_,q⟩:=hs;exact False.elim q
section
variable {X:Cx}{x:Str}{p pos:Pos}{e:Expr}{es:List Expr}{t:TA}{id T:String}{r:List V->Hp->VK->Prop}
noncomputable def Tc (r:List V->Hp->VK->Prop)(t:TA):TE:=fun σ H Q=>t σ H fun vs H1=>r vs H1 Q
def iu (hc:cL X (.builtin id) r)(hg:Gl X x)(hm:X.mg x=none)(hv:bootBuiltins x=some (.builtin id))(ha:PA X (e::es) t)(hn:x≠"__name__":=by decide)(hdb:(x==("__debug__":Str))=false:=by decide)
 (he:starEach (e::es) X.env=(false,eval e X.env)::starEach es X.env:=by rfl) (hpl:(backTo pos (starEach es X.env)).any (·.1)=false:=by rfl):PE X (.Call (.Name x p) (e::es) [] pos) (Tc r t):=by
 intro pins s σ H Q I h;refine wpAny_Call_Name_kw (jF I hg hm hv ?_ hn hdb);exact PyProof.Rows.callWith_builtin1 (bw (ha pos pins s σ H _ I h) fun us s1 ⟨vs,H1,I1,r1,q1⟩=>hc pins s1 σ H1 vs us Q I1 r1 q1) he hpl
def ir (hc:cL X (.type T) r)(hg:Gl X x)(hm:X.mg x=none)(hv:bootBuiltins x=some (.type T))(ha:PA X (e::es) t)(hn:x≠"__name__":=by decide)(hdb:(x==("__debug__":Str))=false:=by decide)
 (he:starEach (e::es) X.env=(false,eval e X.env)::starEach es X.env:=by rfl) (hpl:(backTo pos (starEach es X.env)).any (·.1)=false:=by rfl):PE X (.Call (.Name x p) (e::es) [] pos) (Tc r t):=by
 intro pins s σ H Q I h;refine wpAny_Call_Name_kw (jF I hg hm hv ?_ hn hdb);exact PyProof.Rows.callWith_type1 (bw (ha pos pins s σ H _ I h) fun us s1 ⟨vs,H1,I1,r1,q1⟩=>hc pins s1 σ H1 vs us Q I1 r1 q1) he hpl
end
end L2
namespace HT
open PySem PyProof.Rows
section
open PySem.SeqAt
open PySem.AutoSeq1 (wpAny_loadPart')
open PySem.MeetsSeq PySem.MeetsSeq2 PySem.MeetsSeq3
end
section
variable {prog:Program}{w:World}{A:Around}{E:Value->Shared->Prop}{s:Shared}
def cat_tup {t b:Addr}{vs ws:List Value}{Q:Value->Shared->Prop}(ht:IsTup s.heap t vs.toArray)(hb:IsTup s.heap b ws.toArray)(hv:vs≠[])
 (h1:ws=[]->Q (.ref t) s) (h2:ws≠[]->Q (.ref s.heap.objs.size) { s with heap:=s.heap.push { cls:=.type "tuple",data:=.seq (vs++ws).toArray } })
 (hsz:vs.length+ws.length<=sizeLine):wpAny (model prog w) A (binaryOp .Add (.ref t) (.ref b)) Q E s:=by
 obtain⟨⟨cls,dd,data,sl⟩,ho,hc,n,hd⟩:=id ht;obtain⟨⟨cls2,dd2,data2,sl2⟩,ho2,hc2,n2,hd2⟩:=id hb;simp only at hc hd hc2 hd2;subst hc hd hc2 hd2;have e:vs.toArray++ws.toArray=(vs++ws).toArray:=by simp
 by_cases hw:ws=[]
 ·exact concat_meets ⟨_,ho,rfl⟩ ⟨_,ho2,rfl⟩ noFill_tuple_add seq_tuple_add PySem.F.slot_tuple_add PySem.F.entry_tuple_add (PySem.F.args_tuple_add_2 _ _)
   (tuple_addW1 t b vs.toArray ws.toArray n n2 dd dd2 sl sl2 (by simpa using hv) (by simp[hw])) ⟨ho,ho2,h1 hw⟩
 ·refine concat_meets ⟨_,ho,rfl⟩ ⟨_,ho2,rfl⟩ noFill_tuple_add seq_tuple_add PySem.F.slot_tuple_add PySem.F.entry_tuple_add (PySem.F.args_tuple_add_2 _ _)
   (tuple_addW2 t b vs.toArray ws.toArray n n2 dd dd2 sl sl2 (by simpa using hv) (by simpa using hw) (by rw[List.size_toArray,List.size_toArray];exact hsz)) ⟨ho,ho2,?_⟩
  rw[e];exact h2 hw
noncomputable def sIx (n d:Nat):Option Int->Nat
 | none=>d
 | some v=>if v<0 then (v+(n:Int)).toNat else min v.toNat n
def sIx_none (n d:Nat):sIx n d none=d:=rfl
def sIx_nat (n d k:Nat):sIx n d (some (k:Int))=min k n:=by
 show (if (k:Int)<0 then ((k:Int)+(n:Int)).toNat else min (k:Int).toNat n)=min k n;rw[if_neg (by omega),Int.toNat_natCast]
def NQ (n d:Nat)(hd:d<=n)(o:Option Int):sIx n d o<=n:=by
 cases o with
 | none=>exact hd
 | some v =>
   show (if v<0 then (v+(n:Int)).toNat else min v.toNat n)<=n;by_cases hv:v<0
   ·rw[if_pos hv];omega
   ·rw[if_neg hv];exact Nat.min_le_right _ _
def BZ (v:Int)(n d:Nat):(if v<0 then max (v+(n:Int)) 0 else min v (n:Int))=((sIx n d (some v):Nat):Int):=by
 show (if v<0 then max (v+(n:Int)) 0 else min v (n:Int))=(((if v<0 then (v+(n:Int)).toNat else min v.toNat n):Nat):Int);by_cases hv:v<0
 ·simp only[if_pos hv];omega
 ·simp only[if_neg hv];omega
def zJ (lo hi:Option Int)(n:Nat):Builtin.Slice.sliceAdjust lo hi 1 (n:Int)=(((sIx n 0 lo:Nat):Int),((sIx n n hi:Nat):Int)):=by
 have h1:¬ ((1:Int)<0):=by omega
 unfold Builtin.Slice.sliceAdjust;simp only[h1,if_false];refine Prod.ext ?_ ?_
 ·cases lo with
  | none=>rfl
  | some v=>exact BZ v n 0
 ·cases hi with
  | none=>rfl
  | some v=>exact BZ v n n
def yL (i j:Nat):Builtin.Slice.slicePlaces (i:Int) (j:Int) 1=j-i:=by
 unfold Builtin.Slice.slicePlaces;have h1:(1:Int)>0:=by omega
 simp only[h1,if_true,Int.ediv_one];split <;> omega
def pX {v:Value}{o:Option Int}{Q:Option Int->Shared->Prop}(p:IsPart v o)(h:Q o s):wpAny (model prog w) A (Builtin.Slice.slicePartIndex v) Q E s:=by
 cases p with
 | none=>exact slicePart_none h
 | int i t=>exact slicePart_int h
def sliceApplied_gen {sl:Addr}{vl vu:Value}{lo hi:Option Int}{n:Nat}{Q:Int×Int×Nat->Shared->Prop}(hs:s.heap.IsSliceOf sl vl vu .none)(pl:IsPart vl lo)(pu:IsPart vu hi)
 (h:Q (((sIx n 0 lo:Nat):Int),1,sIx n n hi-sIx n 0 lo) s):wpAny (model prog w) A (Builtin.Slice.sliceApplied (.ref sl) (pure (n:Int))) Q E s:=by
 obtain⟨os,hos,hcs,hds⟩:=id hs;unfold Builtin.Slice.sliceApplied Builtin.Slice.sliceFields;refine wpAny_bind (wpAny_bind (wpAny_field hos hds (x:=vl) rfl (wpAny_bind (wpAny_field hos hds (x:=vu) rfl (wpAny_bind (wpAny_field hos hds (x:=.none) rfl (wpAny_pure ?_)))))));refine wpAny_bind (slicePart_none ?_);show wpAny _ _ (if ((1:Int)==0)=true then _ else _) _ _ s;rw[if_neg (by decide)];refine wpAny_bind (pX pl (wpAny_bind (pX pu (wpAny_bind (wpAny_pure ?_)))));show wpAny _ _ (match Builtin.Slice.sliceAdjust lo hi 1 (n:Int) with | (lo,hi)=>pure (lo,(1:Int),Builtin.Slice.slicePlaces lo hi 1)) _ _ s;rw[zJ lo hi n];show wpAny _ _ (pure (((sIx n 0 lo:Nat):Int),(1:Int),Builtin.Slice.slicePlaces ((sIx n 0 lo:Nat):Int) ((sIx n n hi:Nat):Int) 1)) _ _ s;rw[yL];exact wpAny_pure h
def Gy (xs:Array Value)(i k:Nat):((List.range k).filterMap fun (m:Nat)=>xs[((i:Int)+(m:Int)*1).toNat]?).toArray=((xs.toList.drop i).take k).toArray:=by
 have e:(fun (m:Nat)=>xs[((i:Int)+(m:Int)*1).toNat]?)=fun m=>xs[i+m]?:=by
  funext m
  have:((i:Int)+(m:Int)*1).toNat=i+m:=by omega
  rw[this]
 rw[e];have:=pick_run xs i k;rw[List.filterMap_map] at this;have e2:((fun x=>xs[x]?)∘fun x=>i+x)=fun m=>xs[i+m]?:=rfl;rw[e2] at this;rw[this]
def getItem_tuple_cut {t sl:Addr}{items:Array Value}{vl vu:Value}{lo hi:Option Int}{Q:Value->Shared->Prop}(ht:IsTup s.heap t items)(hs:s.heap.IsSliceOf sl vl vu .none)(pl:IsPart vl lo)(pu:IsPart vu hi)
 (hw:¬ (sIx items.size 0 lo=0/\sIx items.size items.size hi=items.size))
 (h:Q (.ref s.heap.objs.size) { s with heap:=s.heap.push { cls:=.type "tuple",data:=.seq ((items.toList.drop (sIx items.size 0 lo)).take (sIx items.size items.size hi-sIx items.size 0 lo)).toArray } })
 (hsz:items.size<=sizeLine):wpAny (model prog w) A (getItem (.ref t) (.ref sl)) Q E s:=by
 have htake:sizeOk (.seq ((items.toList.drop (sIx items.size 0 lo)).take (sIx items.size items.size hi-sIx items.size 0 lo)).toArray):=by
  show ((items.toList.drop (sIx items.size 0 lo)).take (sIx items.size items.size hi-sIx items.size 0 lo)).toArray.size<=sizeLine;rw[List.size_toArray,List.length_take,List.length_drop,Array.length_toList];omega
 have hj:sIx items.size items.size hi<=items.size:=NQ _ _ (Nat.le_refl _) hi;obtain⟨os,hos,hcs,hds⟩:=id hs;have hTs:s.TypeIs (.ref sl) "slice":=⟨os,hos,hcs⟩;unfold getItem;try with_reducible refine wpAny_holding ?_
 first | refine wpAny_bind (wpAny_pure ?_) | skip
 refine wpAny_bind (wpAny_sequenceKey ht.typeIs (by decide) ?_);refine wpAny_bind (wpAny_callSpecial?_slot (name:=Str.ofString "__getitem__") ht.typeIs PyProof.Rows.slot_tuple_getitem
  (wpAny_call_entry PyProof.Rows.slot_tuple_getitem ht.typeIs entry_tuple_getitem ?_ (args_tuple_getitem _ _)))
 show wpAny _ _ (Builtin.Tuple.tupleItemsOf (.ref t) >>= _) _ _ s;refine wpAny_bind (tupleItemsOf_ ht ?_);refine wpAny_bind (wpAny_typeOf hTs ?_);rw[if_pos (by decide)];refine wpAny_bind (sliceApplied_gen hs pl pu ?_);have hno:¬ ((((sIx items.size 0 lo:Nat):Int)==0&&(1:Int)==1&&(sIx items.size items.size hi-sIx items.size 0 lo)==items.size)=true):=by
  intro q;rw[Bool.and_eq_true,Bool.and_eq_true] at q;have q1:((sIx items.size 0 lo:Nat):Int)=0:=eq_of_beq q.1.1;have q2:sIx items.size items.size hi-sIx items.size 0 lo=items.size:=eq_of_beq q.2;exact hw ⟨by omega,by omega⟩
 show wpAny _ _ (if (((sIx items.size 0 lo:Nat):Int)==0&&(1:Int)==1&&(sIx items.size items.size hi-sIx items.size 0 lo)==items.size)=true then _ else _) _ _ s;rw[if_neg hno,Gy];first
  | exact wpAny_bind (m:=Builtin.Tuple.tupleExact _) (wpAny_newObj_type (wpAny_pure ⟨_,rfl,wpAny_pure h⟩) htake)
  | exact wpAny_bind (m:=Builtin.Tuple.tupleExact _) (wpAny_newObj_type (wpAny_bind (wpAny_pure (wpAny_pure ⟨_,rfl,wpAny_pure h⟩))) htake)
  | exact wpAny_bind (wpAny_bind (m:=Builtin.Tuple.tupleExact _) (wpAny_newObj_type (wpAny_pure (wpAny_pure ⟨_,rfl,wpAny_pure h⟩)) htake))
  | exact wpAny_bind (wpAny_bind (m:=Builtin.Tuple.tupleExact _) (wpAny_newObj_type (wpAny_pure ⟨_,rfl,wpAny_pure h⟩) htake))
end
end HT
namespace L2
open PySem PySem.Spec PyProof.Rows
abbrev TO:=St->Hp->(Option Int->Hp->Prop)->Prop
def PO (X:Cx)(e:Option Expr)(t:TO):Prop :=
 ∀(pins:List (Addr×Obj)) (s:Shared) (σ:St) (H:Hp) (Q:Option Int->Hp->Prop),Inv X pins σ H s->t σ H Q ->
  wpAny (model X.prog X.w) X.A (evalPart e X.env) (fun u s'=>∃o H',Inv X pins σ H' s'/\IsPart u o/\Q o H') X.xe s
noncomputable def JT:TO:=fun _ H Q=>Q none H
noncomputable def QJ (t:TE):TO:=fun σ H Q=>t σ H fun x H1=>∃i,x=.int i/\Q (some i) H1
def intsAre_of {ns:List Int}:∀{us:List Value},Vals (ns.map V.int) us->IntsAre us ns:=by
 induction ns with
 | nil=>intro us r;rw[List.map_nil] at r;cases r;exact .nil
 | cons n ns ih =>
   intro us r;rw[List.map_cons] at r;cases r with
   | cons r1 r2 =>
     obtain⟨t,e⟩:=r1;subst e;exact .cons n t (ih r2)
section
variable {X:Cx}{e:Expr}{te:TE}{lo hi:Option Expr}{tl th:TO}{pos p2:Pos}
def Ad:PO X none JT:=by
 intro pins s σ H Q I h;rw[evalPart_none];exact wpAny_pure ⟨none,H,I,.none,h⟩
def Ac (h:PE X e te):PO X (some e) (QJ te):=by
 intro pins s σ H Q I hw;rw[evalPart_some];refine bw (h pins s σ H _ I hw) fun u s1 ⟨x,H1,I1,r1,q1⟩=>?_;obtain⟨i,rfl,q⟩:=q1;obtain⟨t,rfl⟩:=r1;exact⟨some i,H1,I1,.int i t,q⟩
def SlR (X:Cx)(r:V->Option Int->Option Int->Hp->VK->Prop):Prop :=
 ∀(pins:List (Addr×Obj)) (s:Shared) (σ:St) (H:Hp) (x:V) (v vl vu:Value) (lo hi:Option Int) (sl:Addr) (Q:VK),Inv X pins σ H s->RelV x v->s.heap.IsSliceOf sl vl vu .none->IsPart vl lo->IsPart vu hi->r x lo hi H Q ->
  ∃T id,typeLookup (.type T) "__getitem__"=pure (some (.builtin id))/\s.TypeIs v T/\wpAny (model X.prog X.w) X.A (getItem v (.ref sl)) (EP X pins σ Q) X.xe s
def SlR.or {r r':V->Option Int->Option Int->Hp->VK->Prop}(h:SlR X r)(h':SlR X r'):SlR X (fun x lo hi H Q=>r x lo hi H Q\/r' x lo hi H Q):=by
 intro pins s σ H x v vl vu lo hi sl Q I rx hs pl pu q;rcases q with q | q
 ·exact h pins s σ H x v vl vu lo hi sl Q I rx hs pl pu q
 ·exact h' pins s σ H x v vl vu lo hi sl Q I rx hs pl pu q
noncomputable def Tp (r:V->Option Int->Option Int->Hp->VK->Prop)(te:TE)(tl th:TO):TE:=fun σ H Q=>te σ H fun x H1=>tl σ H1 fun l H2=>th σ H2 fun u H3=>r x l u H3 Q
def wH {r:V->Option Int->Option Int->Hp->VK->Prop}(hr:SlR X r)(he:PE X e te)(hl:PO X lo tl)(hu:PO X hi th):PE X (.Subscript e (.Slice lo hi none p2) pos) (Tp r te tl th):=by
 intro pins s σ H Q I h;refine Subscript_ (bw (he pins s σ H _ I h) fun v s1 ⟨x,H1,I1,r1,q1⟩=>?_);refine wpAny_Slice (bw (hl pins s1 σ H1 _ I1 q1) fun vl s2 ⟨l,H2,I2,pl,q2⟩=>bw (hu pins s2 σ H2 _ I2 q2) fun vu s3 ⟨u,H3,I3,pu,q3⟩=>?_);rw[evalPart_none];refine wpAny_pure ?_;have I4:Inv X pins σ H3 { s3 with heap:=s3.heap.push { cls:=.type "slice",data:=.fields #[vl,vu,.none] } }:=I3.kept (t':=s3.toks) fun b ob q=>Heap.get?_push_of_some _ q;obtain⟨T,id,hT,ht,hg⟩:=hr pins { s3 with heap:=s3.heap.push { cls:=.type "slice",data:=.fields #[vl,vu,.none] } } σ H3 x v vl vu l u s3.heap.objs.size Q I4 r1 (Heap.IsSliceOf.new ..) pl pu q3;show wpAny (model X.prog X.w) X.A (subscriptTail e (.Slice lo hi none p2) v (.ref s3.heap.objs.size)) (EP X pins σ Q) X.xe { s3 with heap:=s3.heap.push { cls:=.type "slice",data:=.fields #[vl,vu,.none] } };exact tail_any (ops:=[.ref s3.heap.objs.size,v]) ht hT hg (by with_unfolding_all rfl)
def sr (xs:List V)(lo hi:Option Int):List V:=(xs.drop (HT.sIx xs.length 0 lo)).take (HT.sIx xs.length xs.length hi-HT.sIx xs.length 0 lo)
def oU (xs:List V)(lo hi:Option Int):(sr xs lo hi).length<=xs.length:=by
 unfold sr;rw[List.length_take,List.length_drop];omega
def Sg (K:PySem.W.Frag):V->Option Int->Option Int->Hp->VK->Prop:=fun x lo hi H Q=>∃a xs,x=.ref a/\SqT K H a xs /\
 ¬ (HT.sIx xs.length 0 lo=0/\HT.sIx xs.length xs.length hi=xs.length)/\∀p,H p=none->Q (.ref p) (upd H p (.tup (sr xs lo hi)))
def sl_tup:SlR X (Sg X.K):=by
 intro pins s σ H x v vl vu lo hi sl Q I rx hs pl pu h;obtain⟨a,xs,rfl,hx,hw,q⟩:=h;cases rx;obtain⟨its,r,ht,hz⟩:=I.tuple hx;have hlen:its.toArray.size=xs.length:=by rw[List.size_toArray];exact r.length.symm
 refine⟨"tuple",_,PyProof.Rows.slot_tuple_getitem.lookup,ht.typeIs,?_⟩;refine HT.getItem_tuple_cut ht hs pl pu (by rw[hlen];exact hw) ?_ (by rw[hlen];exact hz);rw[hlen];refine⟨.ref s.heap.objs.size,_,I.laid (t':=s.toks) (o:=.tup (sr xs lo hi)) (fun b ob q=>Heap.get?_push_of_some _ q) (Nat.le_refl _) ?_,rfl,q _ (I.hok.fresh (Nat.le_refl _))⟩;exact⟨Nat.le_trans (oU xs lo hi) hz,_,(r.drop (HT.sIx xs.length 0 lo)).take (HT.sIx xs.length xs.length hi-HT.sIx xs.length 0 lo),IsTup.new _ _⟩
def Q3 (K:PySem.W.Frag):R2:=fun x y H Q=>∃a b xs ys,x=.ref a/\y=.ref b/\SqT K H a xs/\SqT K H b ys/\xs≠[]/\xs.length+ys.length<=sizeLine /\
 (ys=[]->Q (.ref a) H)/\(ys≠[]->∀p,H p=none->Q (.ref p) (upd H p (.tup (xs++ys))))
def Vals.nil_iff {xs:List V}{us:List Value}(r:Vals xs us):us=[]↔xs=[]:=by
 cases r with
 | nil=>simp
 | cons _ _=>simp
def KD:OpR X (binaryOp .Add) (Q3 X.K):=by
 intro pins s σ H x y v u Q I rx ry h;obtain⟨a,b,xs,ys,rfl,rfl,ha,hb,hx,hz,q1,q2⟩:=h;cases rx;cases ry;obtain⟨its,r1,p1,_⟩:=I.tuple ha;obtain⟨its2,r2,p2,_⟩:=I.tuple hb;refine HT.cat_tup p1 p2 (fun z=>hx (r1.nil_iff.mp z)) (fun z=>⟨.ref a,H,I,rfl,q1 (r2.nil_iff.mp z)⟩) (fun z=>?_) (by rw[<-r1.length,<-r2.length];exact hz);refine⟨.ref s.heap.objs.size,_,I.laid (t':=s.toks) (o:=.tup (xs++ys)) (fun b ob q=>Heap.get?_push_of_some _ q) (Nat.le_refl _) ?_,rfl,q2 (fun w=>z (r2.nil_iff.mpr w)) _ (I.hok.fresh (Nat.le_refl _))⟩;exact⟨by rw[List.length_append];exact hz,_,r1.append r2,IsTup.new _ _⟩
end
noncomputable def Mz (n:Nat)(i:Int):Option Nat:=if 0<=i then (if i<n then some i.toNat else none) else if -(n:Int)<=i then some (i+n).toNat else none
def M7 {α:Type}(xs:List α)(i:Int):Option α:=(Mz xs.length i).bind fun j=>xs[j]?
def Bf {n:Nat}{i:Int}{j:Nat}(h:Mz n i=some j):seqIndex? i n=some j/\j<n /\ -(n:Int)<=i/\i<n:=by
 unfold Mz at h;by_cases h0:0<=i
 ·rw[if_pos h0] at h;by_cases h1:i<n
  ·rw[if_pos h1] at h;have e:i.toNat=j:=Option.some.inj h;exact⟨by rw[seqIndex_of h0 h1,e],by omega,by omega,h1⟩
  ·rw[if_neg h1] at h;cases h
 ·rw[if_neg h0] at h;by_cases h1 : -(n:Int)<=i
  ·rw[if_pos h1] at h;have e:(i+n).toNat=j:=Option.some.inj h;exact⟨by rw[seqIndex_neg (by omega) h1,e],by omega,h1,by omega⟩
  ·rw[if_neg h1] at h;cases h
def pN {α:Type}{xs:List α}{i:Int}{v:α}(h:M7 xs i=some v):∃j,seqIndex? i xs.length=some j/\xs[j]? = some v/\j<xs.length /\ -(xs.length:Int)<=i/\i<xs.length:=by
 unfold M7 at h;cases e:Mz xs.length i with
 | none=>rw[e] at h;cases h
 | some j =>
   rw[e] at h;obtain⟨h1,h2,h3,h4⟩:=Bf e;exact⟨j,h1,h,h2,h3,h4⟩
def Cg (b:Expr):Prop:=∀o i,subscripted b false o i=operate [o,i] (getItem o i)
def IxR (X:Cx)(r:R2):Prop :=
 ∀(value slice:Expr) (pins:List (Addr×Obj)) (s:Shared) (σ:St) (H:Hp) (x y:V) (v u:Value) (Q:VK),Inv X pins σ H s->RelV x v->RelV y u->r x y H Q ->
  subscripted slice false v u=operate [v,u] (getItem v u)->wpAny (model X.prog X.w) X.A (subscriptTail value slice v u) (EP X pins σ Q) X.xe s
def TQ (X:Cx)(id:String)(r:V->List V->Hp->VK->Prop):Prop :=
 ∀(pins:List (Addr×Obj)) (s:Shared) (σ:St) (H:Hp) (x:V) (xs:List V) (v:Value) (us:List Value) (Q:VK),Inv X pins σ H s->RelV x v->Vals xs us->r x xs H Q ->
  wpAny (model X.prog X.w) X.A (call (.builtin id) (v::us)) (EP X pins σ Q) X.xe s
section
variable {X:Cx}{a b:Expr}{ta tb:TE}{pos:Pos}
def IxR.or {r r':R2}(h:IxR X r)(h':IxR X r'):IxR X (fun x y H Q=>r x y H Q\/r' x y H Q):=by
 intro value slice pins s σ H x y v u Q I rx ry q hs;rcases q with q | q
 ·exact h value slice pins s σ H x y v u Q I rx ry q hs
 ·exact h' value slice pins s σ H x y v u Q I rx ry q hs
def GQ {r:R2}(hr:IxR X r)(ha:PE X a ta)(hb:PE X b tb)(hs:Cg b):PE X (.Subscript a b pos) (JH r ta tb):=by
 intro pins s σ H Q I h;exact Subscript_ (Qo ha hb I h fun v u s2 x y H2 I2 rx ry q=>hr a b pins s2 σ H2 x y v u Q I2 rx ry q (hs _ _))
def Ko (K:PySem.W.Frag):R2:=fun x y H Q=>∃p xs i v,x=.ref p/\y=.int i/\SqL K H p xs/\M7 xs i=some v/\Q v H
def Oc (K:PySem.W.Frag):R2:=fun x y H Q=>∃p xs i v,x=.ref p/\y=.int i/\SqT K H p xs/\M7 xs i=some v/\Q v H
def Sq:R2:=fun x y H Q=>∃z i c,x=.str z/\y=.int i/\z.length<=sizeLine/\M7 z.cps.toList i=some c/\Q (.str ⟨#[c]⟩) H
def ix_list:IxR X (Ko X.K):=by
 intro value slice pins s σ H x y v u Q I rx ry h hs;obtain⟨p,xs,i,z,rfl,rfl,hq,he,q⟩:=h;cases rx;obtain⟨t,rfl⟩:=ry;obtain⟨its,r,pl,hz⟩:=I.list hq;obtain⟨j,h1,h2,h3,h4,h5⟩:=pN he;obtain⟨w,ew,rw'⟩:=r.get h2;have hl:=r.length;have hn:=jD;have fin:EP X pins σ Q w s:=⟨z,H,I,rw',q⟩;by_cases h0:0<=i
 ·have hj:i.toNat=j:=by
   rw[seqIndex_of h0 h5] at h1;exact Option.some.inj h1
  exact item_listR pl.isList h0 (by omega) (by rw[hj];simpa using ew) fin hs
 ·have hj:(i+(its.toArray.size:Int)).toNat=j:=by
   rw[seqIndex_neg (by omega) h4] at h1;rw[List.size_toArray,<-hl];exact Option.some.inj h1
  exact subscriptTail_builtinR (x:=w) pl.isList.typeIs slot_list_getitem.lookup
   (wpAny_getItem_list_neg (Q:=fun r s'=>r=w/\EP X pins σ Q r s') pl.isList (by omega) (by rw[List.size_toArray] <;> omega) (by omega) (by rw[hj];simpa using ew) ⟨rfl,fin⟩) hs
def ix_tup:IxR X (Oc X.K):=by
 intro value slice pins s σ H x y v u Q I rx ry h hs;obtain⟨p,xs,i,z,rfl,rfl,hq,he,q⟩:=h;cases rx;obtain⟨t,rfl⟩:=ry;obtain⟨its,r,pl,hz⟩:=I.tuple hq;obtain⟨j,h1,h2,h3,h4,h5⟩:=pN he;obtain⟨w,ew,rw'⟩:=r.get h2;have hl:=r.length;have hn:=jD;have fin:EP X pins σ Q w s:=⟨z,H,I,rw',q⟩;exact subscriptTail_builtinR (x:=w) pl.typeIs slot_tuple_getitem.lookup
  (getItem_tuple (j:=j) (Q:=fun r s'=>r=w/\EP X pins σ Q r s') pl (by omega) (by omega) (by rw[List.size_toArray,<-hl];exact h1) (by simpa using ew) ⟨rfl,fin⟩) hs
def O9:IxR X Sq:=by
 intro value slice pins s σ H x y v u Q I rx ry h hs;obtain⟨z,i,c,rfl,rfl,hz,he,q⟩:=h;obtain⟨t,rfl⟩:=rx;obtain⟨t',rfl⟩:=ry;obtain⟨j,h1,h2,h3,h4,h5⟩:=pN he;have hl:z.cps.toList.length=z.length:=by simp[Str.length]
 rw[hl] at h1 h4 h5;have hn:=jD;exact tail_any (typeIs_str s z t) slot_str_getitem.lookup (getItem_str (c:=c) (by
  have e1:decide (i < -(2 ^ 63:Int))=false:=decide_eq_false (by omega);have e2:decide (i≥2 ^ 63)=false:=decide_eq_false (by omega);rw[e1,e2,Bool.or_false]) (by rw[h1];simpa using h2) ⟨.str ⟨#[c]⟩,H,I.tok _,⟨_,rfl⟩,q⟩) hs
def yQ (its:List Value)(n j:Nat)(u:Value):Obj.mapSeq (·.setIfInBounds j u) { cls:=.type "list",data:=.seq its.toArray n }={ cls:=.type "list",data:=.seq (its.set j u).toArray n }:=by
 simp[Obj.mapSeq]
def Inv.lst {pins:List (Addr×Obj)}{σ:St}{H:Hp}{s:Shared}{p:Addr}{xs:List V}(I:Inv X pins σ H s)(h:H p=some (.lst xs)) :
 ∃(its:List Value) (n:Nat),Vals xs its/\s.heap.get? p=some { cls:=.type "list",data:=.seq its.toArray n }/\xs.length<=sizeLine:=by
 obtain⟨z,its,n,r,e⟩:=I.hok p _ h;exact⟨its,n,r,e,z⟩
def Inv.lstUpd {pins:List (Addr×Obj)}{σ:St}{H:Hp}{s:Shared}{p:Addr}{xs ys:List V}{its its':List Value}{n n':Nat}{f:Obj->Obj}(I:Inv X pins σ H s)(h:H p=some (.lst xs))
 (ho:s.heap.get? p=some { cls:=.type "list",data:=.seq its.toArray n }) (hf:f { cls:=.type "list",data:=.seq its.toArray n }={ cls:=.type "list",data:=.seq its'.toArray n' }) (r:Vals ys its') (hz:ys.length<=sizeLine) (t:Nat) :
 Inv X pins σ (upd H p (.lst ys)) { s with heap:=s.heap.update p f,toks:=t }:=by
 have e:(s.heap.update p f).get? p=some { cls:=.type "list",data:=.seq its'.toArray n' }:=by
  rw[Heap.get?_update_self f ho (by rw[hf] <;> rfl),hf]
 refine I.write (x:=p) (e:=p) (by rw[h];trivial) (.inl rfl) (fun b u hb q=>(Heap.get?_update_other _ _ (Ne.symm hb)).trans q) ⟨_,e⟩ ?_;exact⟨hz,its',n',r,e⟩
def Gq:V->V->V->Hp->(Hp->Prop)->Prop:=fun o i v H Q=>∃p xs k j,o=.ref p/\i=.int k/\H p=some (.lst xs)/\Mz xs.length k=some j/\Q (upd H p (.lst (xs.set j v)))
def set_list:RK X Gq:=by
 intro pins s σ H o i v ov iv u Q I ro ri rv h;obtain⟨p,xs,k,j,rfl,rfl,hp,hj,q⟩:=h;cases ro;obtain⟨t,rfl⟩:=ri;obtain⟨its,n,r,ho,hz⟩:=I.lst hp;obtain⟨h1,h2,h3,h4⟩:=Bf hj;have hl:=r.length;have hn:=jD;have I':Inv X pins σ (upd H p (.lst (xs.set j v))) { s with heap:=s.heap.update p (Obj.mapSeq (·.setIfInBounds j u)) } :=
  I.lstUpd hp ho (yQ its n j u) (r.set rv j) (by rw[List.length_set];exact hz) s.toks
 by_cases h0:0<=k
 ·have hk:k.toNat=j:=by
   rw[seqIndex_of h0 h4] at h1;exact Option.some.inj h1
  exact PySem.W.ki_setAt ho h0 (by omega) (by rw[List.size_toArray,<-hl];exact h4) (by rw[hk];exact⟨_,I',q⟩)
 ·have hk:(k+(its.toArray.size:Int)).toNat=j:=by
   rw[seqIndex_neg (by omega) h3] at h1;rw[List.size_toArray,<-hl];exact Option.some.inj h1
  exact PySem.W.ki_setBack ho (by omega) (by rw[List.size_toArray,<-hl];exact h3) (by omega) (by rw[hk];exact⟨_,I',q⟩)
def uN (lo hi:Option Int)(n:Nat):(sliceBounds lo hi none n).1=((HT.sIx n 0 lo:Nat):Int)/\(sliceBounds lo hi none n).2.1=((HT.sIx n n hi:Nat):Int)/\(sliceBounds lo hi none n).2.2=1:=by
 refine⟨?_,?_,rfl⟩
 ·cases lo with
  | none=>simp[sliceBounds,HT.sIx]
  | some i =>
    simp only[sliceBounds,HT.sIx,Option.getD_none,show (1:Int)>0 by decide,if_true];by_cases h:i<0
    ·simp only[h,if_true] <;> omega
    ·simp only[h,if_false] <;> omega
 ·cases hi with
  | none=>simp[sliceBounds,HT.sIx]
  | some i =>
    simp only[sliceBounds,HT.sIx,Option.getD_none,show (1:Int)>0 by decide,if_true];by_cases h:i<0
    ·simp only[h,if_true] <;> omega
    ·simp only[h,if_false] <;> omega
def rM (its:List Value)(lo hi:Option Int):slicePick its.toArray lo hi none=((its.drop (HT.sIx its.length 0 lo)).take (HT.sIx its.length its.length hi-HT.sIx its.length 0 lo)).toArray:=by
 obtain⟨h1,h2,h3⟩:=uN lo hi its.toArray.size;unfold slicePick;rw[h1,h2,h3];simp only[sliceRange_one,pick_run,List.size_toArray] <;> rfl
def Sh (K:PySem.W.Frag):V->Option Int->Option Int->Hp->VK->Prop:=fun x lo hi H Q=>∃a xs,x=.ref a/\SqL K H a xs/\∀p,H p=none->Q (.ref p) (upd H p (.lst (sr xs lo hi)))
def sl_list:SlR X (Sh X.K):=by
 intro pins s σ H x v vl vu lo hi sl Q I rx hs pl pu h;obtain⟨a,xs,rfl,hx,q⟩:=h;cases rx;obtain⟨its,r,ht,hz⟩:=I.list hx;have hlen:=r.length;refine⟨"list",_,slot_list_getitem.lookup,ht.isList.typeIs,?_⟩;refine wpAny_getItem_list_slice ht.isList hs pl pu .none (by simp) ?_ (by rw[List.size_toArray] <;> omega);rw[rM,<-hlen];refine⟨.ref s.heap.objs.size,_,I.laid (t':=s.toks) (o:=.lst (sr xs lo hi)) (fun b ob q=>Heap.get?_push_of_some _ q) (Nat.le_refl _) ?_,rfl,q _ (I.hok.fresh (Nat.le_refl _))⟩;exact⟨Nat.le_trans (oU xs lo hi) hz,_,0,(r.drop (HT.sIx xs.length 0 lo)).take (HT.sIx xs.length xs.length hi-HT.sIx xs.length 0 lo),Heap.get?_push_size _ rfl⟩
def vB:cL X (.builtin "len") (fun xs H Q=>∃p ys,xs=[.ref p]/\(SqL X.K H p ys\/SqT X.K H p ys)/\Q (.int ys.length) H):=by
 intro pins s σ H xs us Q I r h;obtain⟨p,ys,rfl,hq,q⟩:=h;obtain⟨u,rfl,rx⟩:=vals1 r;cases rx;have hn:=jD;rcases hq with hq | hq
 ·obtain⟨its,r',pl,hz⟩:=I.list hq;have hlen:=r'.length;exact Calls.call_len_list pl.isList (by simp only[List.size_toArray] <;> omega) ⟨.int ys.length,H,I.tok _,⟨s.toks+1,by rw[List.size_toArray,hlen]⟩,q⟩
 ·obtain⟨its,r',pl,hz⟩:=I.tuple hq;have hlen:=r'.length;exact len_tuple pl (by simp only[List.size_toArray] <;> omega) ⟨.int ys.length,H,I.tok _,⟨s.toks+1,by rw[List.size_toArray,hlen]⟩,q⟩
def vA:cL X (.builtin "len") (fun xs H Q=>∃z,xs=[.str z]/\z.length<=sizeLine/\Q (.int z.length) H):=by
 intro pins s σ H xs us Q I r h;obtain⟨z,rfl,hz,q⟩:=h;obtain⟨u,rfl,t,rfl⟩:=vals1 r;have hn:=jD;exact len_str (by omega) ⟨.int z.length,H,I.tok _,⟨_,rfl⟩,q⟩
def vq:cL X (.type "list") (fun xs H Q=>∃p ys,xs=[.ref p]/\(SqL X.K H p ys\/SqT X.K H p ys)/\∀l,H l=none->Q (.ref l) (upd H l (.lst ys))):=by
 intro pins s σ H xs us Q I r h;obtain⟨p,ys,rfl,hq,q⟩:=h;obtain⟨u,rfl,rx⟩:=vals1 r;cases rx;have fin:∀(its:List Value),Vals ys its->ys.length<=sizeLine->∀(h':Heap) (c':Nat),(∀b o',s.heap.get? b=some o'->h'.get? b=some o') ->
  h'.get? s.heap.objs.size=some { cls:=.type "list",dict:=none,data:=.seq its.toArray c',slots:=#[] }->EP X pins σ Q (.ref s.heap.objs.size) { s with heap:=h' }:=fun its r' hz h' c' kp e =>
  ⟨.ref s.heap.objs.size,_,I.laid (t':=s.toks) kp (Nat.le_refl _) (show ObjOk X.prog X.w _ h' _ (.lst ys) from ⟨hz,its,c',r',e⟩),rfl,q _ (I.hok.fresh (Nat.le_refl _))⟩
 rcases hq with hq | hq
 ·obtain⟨its,r',pl,hz⟩:=I.list hq;have hlen:=r'.length;obtain⟨o,ho,hc,n,hd⟩:=pl.isList;exact call_list_seq p (.inl rfl) ho hc hd (fun h' c' kp e=>fin its r' hz h' c' kp e) (by simp only[List.size_toArray] <;> omega)
 ·obtain⟨its,r',pl,hz⟩:=I.tuple hq;have hlen:=r'.length;obtain⟨o,ho,hc,n,hd⟩:=pl;exact call_list_seq p (.inr rfl) ho hc hd (fun h' c' kp e=>fin its r' hz h' c' kp e) (by simp only[List.size_toArray] <;> omega)
def su:cL X (.type "tuple") (fun xs H Q=>∃p ys,xs=[.ref p]/\((SqL X.K H p ys/\∀l,H l=none->Q (.ref l) (upd H l (.tup ys)))\/(SqT X.K H p ys/\Q (.ref p) H))):=by
 intro pins s σ H xs us Q I r h;obtain⟨p,ys,rfl,h⟩:=h;obtain⟨u,rfl,rx⟩:=vals1 r;cases rx;rcases h with ⟨hq,q⟩ | ⟨hq,q⟩
 ·obtain⟨its,r',pl,hz⟩:=I.list hq;have hlen:=r'.length;refine call_tuple_list pl.isList (fun h' kp=>?_) (by simp only[List.size_toArray] <;> omega);have I1:Inv X pins σ H { s with heap:=h' }:=I.kept (t':=s.toks) kp;have I2:Inv X pins σ (upd H h'.objs.size (.tup ys)) { s with heap:=h'.push { cls:=.type "tuple",data:=.seq its.toArray } } :=
   I1.laid (t':=s.toks) (fun b o e=>Heap.get?_push_of_some _ e) (Nat.le_refl _) (show ObjOk X.prog X.w _ _ _ (.tup ys) from ⟨hz,its,r',IsTup.new _ _⟩)
  exact⟨.ref h'.objs.size,_,I2,rfl,q _ (I1.hok.fresh (Nat.le_refl _))⟩
 ·obtain⟨its,r',pl,hz⟩:=I.tuple hq;exact call_tuple_same pl ⟨.ref p,H,I,rfl,q⟩
def S8 (K:PySem.W.Frag)(T:String)(x:V)(H:Hp):Prop:=match x with
 | .str _=>T="str"
 | .int _=>T="int"
 | .ref p=>(T="list"/\∃xs,SqL K H p xs)\/(T="tuple"/\∃o,K.lookup p=some o/\o.cls=.type "tuple"/\o.dict=none) \/
  (T="dict"/\((∃kvs,H p=some (.dK kvs))\/∃kvs,H p=some (.dT kvs)))\/(T="set"/\∃S n,H p=some (.set S n))
 | _=>False
def Nk {pins:List (Addr×Obj)}{σ:St}{H:Hp}{s:Shared}{T:String}{x:V}{v:Value}(I:Inv X pins σ H s)(r:RelV x v)(ty:S8 X.K T x H) :
 s.TypeIs v T/\∀a,v=.ref a->∃ob,s.heap.get? a=some ob/\ob.dict=none:=by
 cases x with
 | str z =>
   obtain⟨t,rfl⟩:=r;cases (show T="str" from ty);exact⟨typeIs_str s z t,fun _ e=>nomatch e⟩
 | int i =>
   obtain⟨t,rfl⟩:=r;cases (show T="int" from ty);exact⟨typeIs_int s i t,fun _ e=>nomatch e⟩
 | ref p =>
   cases r;rcases ty with ⟨rfl,xs,hq⟩ | ⟨rfl,o,hk,hc,hd⟩ | ⟨rfl,hk⟩ | ⟨rfl,S,n,hk⟩
   ·obtain⟨its,_,pl,_⟩:=I.list hq;refine⟨pl.isList.typeIs,fun a e=>?_⟩;cases e;obtain⟨o,n,e,c,hd,_⟩:=pl;exact⟨o,e,hd⟩
   ·refine⟨⟨o,I.kIn p o hk,hc⟩,fun a e=>?_⟩;cases e;exact⟨o,I.kIn _ o hk,hd⟩
   ·have z:∃o,s.heap.get? p=some o/\o.ExactDict:=by
     rcases hk with ⟨kvs,hk⟩ | ⟨kvs,hk⟩
     ·obtain⟨_,_,_,_,o,_,_,e,ex,_⟩:=I.hok p _ hk;exact⟨o,e,ex⟩
     ·obtain⟨_,_,_,_,o,_,_,e,ex,_⟩:=I.hok p _ hk;exact⟨o,e,ex⟩
    obtain⟨o,e,ex⟩:=z;refine⟨⟨o,e,ex.1⟩,fun a e2=>?_⟩;cases e2;exact⟨o,e,ex.2.1⟩
   ·obtain⟨o,_,_,_,e,ex,_⟩:=I.hok p _ hk;refine⟨⟨o,e,ex.1⟩,fun a e2=>?_⟩;cases e2;exact⟨o,e,ex.2.1⟩
 | _=>exact False.elim ty
noncomputable def Tt (K:PySem.W.Frag)(T:String)(r:V->List V->Hp->VK->Prop)(to:TE)(t:TA):TE:=fun σ H Q=>to σ H fun x H1=>S8 K T x H1/\t σ H1 fun xs H2=>r x xs H2 Q
variable {o e:Expr}{es:List Expr}{to:TE}{t:TA}{name:Str}{apos cpos:Pos}{T id:String}{r:V->List V->Hp->VK->Prop}
def Mu (pa:PlainAttrs T)(slot:Slot T name id)(hty:typeOf (.builtin id)=pure (.type "method_descriptor"))(hm:TQ X id r)(ho:PE X o to)(ha:PA X (e::es) t)
 (hbase:attributeBase o name X.env (eval o X.env)=eval o X.env:=by rfl)
 (hfew:((backTo cpos (starEach (e::es) X.env)).all (fun x => !x.1)&&(backToKw cpos (keywordEach [] X.env)).all (fun x=>x.1.isSome)
  && decide ((e::es).length+([]:List Keyword).length+(if ([]:List Keyword).isEmpty then 0 else 1)<30))=true:=by rfl)
 (hline:(apos.endLine==cpos.line)=true:=by rfl) (hs:starEach (e::es) X.env=(false,eval e X.env)::starEach es X.env:=by rfl) (hplain:(backTo cpos (starEach es X.env)).any (·.1)=false:=by rfl) :
 PE X (.Call (.Attribute o name apos) (e::es) [] cpos) (Tt X.K T r to t):=by
 intro pins s σ H Q I h;refine wpAny_Call_method_late hbase hfew hline rfl (bw (ho pins s σ H _ I h) fun v s1 ⟨x,H1,I1,r1,ty,q1⟩=>?_);obtain⟨h1,h2⟩:=Nk I1 r1 ty;refine⟨T,id,pa,slot,hty,h1,h2,?_⟩;have hA:=ha cpos pins s1 σ H1 _ I1 q1;rw[hs] at hA ⊢;refine Calls.callWith_builtin (by show (false||(backTo cpos (starEach es X.env)).any (·.1))=false;rw[hplain] <;> rfl) (Calls.evalArgs_plain ?_);exact bw hA fun us s2 ⟨vs,H2,I2,r2,q2⟩=>hm pins s2 σ H2 x vs v us Q I2 r1 r2 q2
end
def QD (X:Cx)(id:String)(r:V->List V->Hp->VK->Prop):Prop :=
 ∀(pins:List (Addr×Obj)) (s:Shared) (σ:St) (H:Hp) (x:V) (xs:List V) (v:Value) (us:List Value) (Q:VK),Inv X pins σ H s->RelV x v->Vals xs us->r x xs H Q ->
  wpAny (model X.prog X.w) X.A (call (.builtin id) (v::us)) (EP X pins σ Q) X.xe s
def Vals.one:∀{x:V} {us:List Value},Vals [x] us->∃u,us=[u]/\RelV x u
 | _,_,.cons r .nil=>⟨_,rfl,r⟩
def Vals.rep {xs:List V}{us:List Value}(h:Vals xs us):∀k:Nat,Vals (List.replicate k xs).flatten (List.replicate k us).flatten
 | 0=>.nil
 | k+1=>by
   rw[List.replicate_succ,List.replicate_succ,List.flatten_cons,List.flatten_cons];exact Vals.append h (Vals.rep h k)
def foldl_rep (its:List Value):∀(k:Nat) (acc:List Value),
 List.foldl (fun x1 x2=>x1++x2) acc.toArray (List.replicate k its.toArray)=(acc++(List.replicate k its).flatten).toArray
 | 0,acc=>by simp
 | k+1,acc=>by
   have e:acc.toArray++its.toArray=(acc++its).toArray:=by simp
   have e2:(acc++its)++(List.replicate k its).flatten=acc++(List.replicate (k+1) its).flatten:=by
    rw[List.replicate_succ,List.flatten_cons,List.append_assoc]
   rw[<-e2,<-foldl_rep its k (acc++its),<-e,List.replicate_succ,List.foldl_cons]
section
variable {X:Cx}{pins:List (Addr×Obj)}{σ:St}{H:Hp}{s:Shared}{l b:Addr}{xs ys zs:List V}
def Inv.lset {its its':List Value}{n:Nat}{f:Array Value->Array Value}{t':Nat}(I:Inv X pins σ H s)(hH:H l=some (.lst xs))
 (e:s.heap.get? l=some { cls:=.type "list",data:=.seq its.toArray n }) (hf:f its.toArray=its'.toArray) (hv:Vals ys its') (hz:ys.length<=sizeLine) :
 Inv X pins σ (upd H l (.lst ys)) { s with heap:=s.heap.update l (Obj.mapSeq f),toks:=t' }:=by
 have q:=PySem.IsL.update e f;rw[hf] at q;refine I.write (x:=l) (e:=l) (by rw[hH];exact trivial) (.inl rfl) (fun b' u hb hu=>(Heap.get?_update_other s.heap (Obj.mapSeq f) (Ne.symm hb)).trans hu) ⟨_,q⟩ ?_;exact⟨hz,its',_,hv,q⟩
def Inv.lnew {its:List Value}{t':Nat}(I:Inv X pins σ H s)(hv:Vals ys its)(hz:ys.length<=sizeLine) :
 Inv X pins σ (upd H s.heap.objs.size (.lst ys)) { s with heap:=s.heap.push { cls:=.type "list",data:=.seq its.toArray },toks:=t' } :=
 I.laid (fun _ _ q=>Heap.get?_push_of_some _ q) (Nat.le_refl _) ⟨hz,its,0,hv,Heap.get?_push_size _ rfl⟩
def Inv.fresh (I:Inv X pins σ H s):H s.heap.objs.size=none:=I.hok.fresh (Nat.le_refl _)
def Inv.lstM (I:Inv X pins σ H s)(hH:H l=some (.lst xs)):xs.length<=sizeLine/\∃(its:List Value) (n:Nat),Vals xs its/\xs.length=its.length/\s.heap.get? l=some { cls:=.type "list",data:=.seq its.toArray n }:=by
 obtain⟨z,its,n,r,e⟩:=I.hok l _ hH;exact⟨z,its,n,r,r.length,e⟩
def qI {n:Nat}(h:n<=sizeLine):Builtin.List.listTooLong n=false:=by
 unfold Builtin.List.listTooLong;exact decide_eq_false (by omega)
end
section
variable {X:Cx}
def Kp:V->List V->Hp->VK->Prop:=fun x vs H Q=>∃l xs y,x=.ref l/\vs=[y]/\H l=some (.lst xs)/\xs.length<sizeLine/\Q .non (upd H l (.lst (xs++[y])))
def Di:QD X "list.append" Kp:=by
 intro pins s σ H x vs v us Q I rx rv h;obtain⟨l,xs,y,rfl,rfl,hH,hz,q⟩:=h;cases rx;obtain⟨u,rfl,ru⟩:=rv.one;obtain⟨z,its,n,r,hl,e⟩:=I.lstM hH;refine call_meets F.slot_list_append ⟨_,e,rfl⟩ F.entry_list_append (F.args_list_append_2 _ _) (PySem.list_append l its.toArray n u (by rw[List.size_toArray];omega)) ⟨e,?_⟩;refine⟨.non,_,I.lset (its':=its++[u]) hH e (by simp) (r.append (.cons ru .nil)) ?_,rfl,q⟩;rw[List.length_append,List.length_singleton];omega
def Q0:R2:=fun x y H Q=>∃l k xs,x=.ref l/\y=.int k/\H l=some (.lst xs) /\ -(2 ^ 63)<=k/\k<2 ^ 63/\xs.length*k.toNat<=sizeLine /\
 ∀p,H p=none->Q (.ref p) (upd H p (.lst (List.replicate k.toNat xs).flatten))
def len_rep {α:Type}(xs:List α)(k:Nat):(List.replicate k xs).flatten.length=k*xs.length:=by
 induction k with
 | zero=>simp
 | succ k ih=>rw[List.replicate_succ,List.flatten_cons,List.length_append,ih,Nat.succ_mul,Nat.add_comm]
def G6:OpR X (binaryOp .Mult) Q0:=by
 intro pins s σ H x y v u Q I rx ry h;obtain⟨l,k,xs,rfl,rfl,hH,h1,h2,hz,q⟩:=h;cases rx;obtain⟨t,rfl⟩:=ry;obtain⟨z,its,n,r,hl,e⟩:=I.lstM hH;have hlen:its.toArray.size*k.toNat<=sizeLine:=by rw[List.size_toArray,<-hl];exact hz
 have hcap:¬ its.toArray.size*k.toNat>(2 ^ 63-1) / 8:=by
  have:(sizeLine:Nat)<=(2 ^ 63-1) / 8:=by decide
  omega
 have hfit:¬ (!Builtin.List.listFitsIndex k)=true:=by
  rw[fitsIndex_both h1 h2];exact Bool.false_ne_true
 have hlong:¬ Builtin.List.listTooLong (its.toArray.size*k.toNat)=true:=by
  rw[qI hlen];exact Bool.false_ne_true
 have hnew:List.foldl (fun x1 x2=>x1++x2) #[] (List.replicate (if its.toArray.isEmpty=true then 0 else k.toNat) its.toArray)=(List.replicate k.toNat its).flatten.toArray:=by
  have f0:∀m:Nat,List.foldl (fun x1 x2=>x1++x2) #[] (List.replicate m its.toArray)=(List.replicate m its).flatten.toArray:=fun m=>by
   have:=foldl_rep its m [];rw[List.nil_append] at this;exact this
  rw[f0];cases its with
  | nil=>simp
  | cons a r'=>rw[if_neg (by simp)]
 refine wpAny_binaryOp_repeat_ref (T:="list") (U:="int") (by decide) ⟨_,e,rfl⟩ (fun s'=>typeIs_int s' k t) noFill_list_mul F.fills_int_mul F.slot_int_rmul repeat_list F.slot_int_index.lookup
  (call_meets F.slot_int_rmul (typeIs_int s k t) F.entry_int_rmul (F.args_int_rmul_2 _ _) (int___rmul___int_list k t l its.toArray n)
   ⟨e,rfl,⟨_,e,rfl⟩,call_meets F.slot_list_mul ⟨_,e,rfl⟩ F.entry_list_mul (F.args_list_mul_2 _ _) (AutoListH.list___mul___list_int_3 l its.toArray n k t hfit hcap hlong) ⟨e,?_⟩⟩)
 rw[hnew];exact⟨.ref _,_,I.lnew (t':=s.toks) (r.rep k.toNat) (by rw[len_rep,Nat.mul_comm];exact hz),rfl,q _ I.fresh⟩
end
section
variable {prog:Program}{w:World}{A:Around}{E:Value->Shared->Prop}{s:Shared}
set_option maxRecDepth 100000 in
end
section
variable {X:Cx}
end
end L2
namespace Att
open PySem PySem.W PySem.Calls PyProof.Rows
def o8 {P:Params}{h:Heap}:∀(ns:List Int) (vs:List Value),WellAll P h vs (ns.map WData.int)->IntsAre vs ns:=by
 intro ns;induction ns with
 | nil =>
   intro vs w;rw[List.map_nil] at w;cases w;exact .nil
 | cons n ns ih =>
   intro vs w;rw[List.map_cons] at w;cases w with
   | cons a b =>
     cases a;exact .cons _ _ (ih _ b)
def Cy {l:OpenLaw}{n:Nat}(hn:l.most=some n){P:Params}{h:Heap}{args:List WData}{vals:List Value}
 (hpre:l.row.toRowW.claim.pre args=true) (hwl:WellAll P h vals args) :
 ∃a vs ns,vals=[Value.ref a]/\args=[WData.list (ns.map WData.int)]/\h.get? a=some { cls:=.type "list",data:=.seq vs.toArray }/\IntsAre vs ns/\ns.length<=n:=by
 have hsh:WShape.hasAll [] args [.list .int]=true:=(pre_splitW hpre).1;have hc:l.pre.holds [] { args:=args }=true:=(pre_splitW hpre).2;obtain⟨d,r,rfl,h1,h2⟩:=hasAllW_cons hsh;obtain rfl:=hasAllW_nil h2;obtain⟨xs,rfl,h3⟩:=hasW_list h1;obtain⟨ns,rfl⟩:=items_int h3;have hlen:ns.length<=n:=by
  unfold OpenLaw.pre at hc;have h4:(WTm.not (.lt (.lit (.int (n:Int))) (.len (.arg 0)))).holds [] { args:=[.list (ns.map .int)] }=true:=by
   have h4:=(holds_andW hc).1;rw[hn] at h4;exact h4
  have h5:=condW_of h4 (w_not (w_lt w_lit (w_len_list (w_arg rfl))));rw[List.length_map] at h5;refine Nat.le_of_not_lt fun q=>?_;have q':(n:Int)<((ns.length:Nat):Int):=by omega
  first
   | (rw[decide_eq_true q'] at h5;exact absurd h5 (by decide))
   | (simp at h5;omega)
 cases hwl with
 | cons w1 w2 =>
   cases w2;cases w1 with
   | list ho hall=>exact⟨_,_,ns,rfl,rfl,ho,o8 ns _ hall,hlen⟩
def CW (l:OpenLaw)(args:List WData):l.row.toRowW.claim.post args (.bool true) args=true :=
 postW_of (r:=l.row.toRowW) (X:=(true==true))
  (show WShape.has [] (.bool true) .bool=true by first | rfl | decide | simp[WShape.has,WShape.arms,WShape.armsAll])
  (show (WTm.eq .res (.lit (.bool true))).value [] { args:=args,res:=some (.bool true),after:=args }=some (.bool (true==true)) from w_eq_bool (w_res rfl) w_lit) rfl
def attach_call {l:OpenLaw}{n:Nat}{q:Program}{loose:List Str}{XP:(Str->Option Value)->Heap->Prop}{YP:World->Heap->Prop}{d:DefRec}
 (hn:l.most=some n) (hdf:d.params.defaults=[])
 (call:∀(w:World) (s₀ s₁:Shared) (mg mb:Str->Option Value) (fa:Addr) (o:Obj) (pm cd doc:Value) (a:Addr) (vs:List Value) (ns:List Int),
  Ground q loose [] XP w s₀ mg mb s₁.heap->YP w s₁.heap ->
  s₁.heap.get? fa=some o->o.data=.func (docDef d.name d.params d.body d.scope pm cd doc)->s₁.heap.CodeRec cd d.name->mg d.name=some (.ref fa) ->
  s₁.heap.get? a=some { cls:=.type "list",data:=.seq vs.toArray }->IntsAre vs ns->ns.length<=n->s₁.gens=#[] ->
  codeAny (model l.prog w) callerA (.call (.ref fa) ⟨[.ref a],[]⟩) (fun r s'=>r=.ok (.ret (.bool true))/\OldK s₁.heap s'.heap/\s'.os=s₁.os/\AllBare s'.gens) s₁) :
 WalkO q loose XP YP l.row.toRowW d [] (fun f vs=>PySem.call f vs):=by
 intro w s₀ s₁ mg mb G Y fa o pm cd doc dV kV ho hd hcd hD hmg hg args vals as hpre hlay hrd hwl hlo;obtain rfl:dV=.none:=Dflts.none hD hdf;obtain rfl:kV=.none:=Dflts.noKw hD;obtain⟨a,vs,ns,rfl,rfl,hobj,hints,hlen⟩:=Cy hn hpre hwl;refine enter_call (codeAny_mono (call w s₀ s₁ mg mb fa o pm cd doc a vs ns G Y ho (fd_plain hd) hcd hmg hobj hints hlen hg) fun r s' hq=>?_);obtain⟨rfl,h2,h3,h4⟩:=hq;exact⟨.inl ⟨.bool true,.bool true,[],rfl,fun _=>rfl,.bool true,CW l _,fun _=>⟨List.Pairwise.nil,fun _ hm=>(nomatch hm)⟩⟩,h2,h3,h4⟩
section
variable {prog:Program}{w:World}{A:Around}{E:Value->Shared->Prop}{s:Shared}{K:Frag}
end
end Att
namespace L2
open PySem PySem.Spec PyProof.Rows
def gZ:∀{vs:List Value} {ns:List Int},IntsAre vs ns->Vals (ns.map V.int) vs
 | _,_,.nil=>.nil
 | _,_,.cons n t h=>.cons ⟨t,rfl⟩ (gZ h)
def Only (H:Hp):Prop:=∀b,H b=none\/∃o xs,H b=some (.frz o (.lst xs))
def Ho {P:Program}{w:World}{K:PySem.W.Frag}{mg mb:Str->Option Value}{CX:Et}{k:Nat}{fa a:Addr}{fd:FuncData}{x:Str}{sp:Sp}{s₁:Shared}{vs:List Value}{ns:List Int}
 (KX:K.In s₁.heap) (hns:s₁.heap.Ns mainGlobals mg) (hb:s₁.heap.Ns builtinsNs mb) (hbb:∀x:Str,x≠"__name__"->mb x=bootBuiltins x) (hlim:s₁.heap.NoLimit) (hg:s₁.gens=#[])
 (ha:s₁.heap.get? a=some { cls:=.type "list",data:=.seq vs.toArray }) (hi:IntsAre vs ns) (hl:ns.length<=sizeLine) (hr:Room k callerA)
 (F:∀base:Heap,K.In base->base.Ns mainGlobals mg->eF P w K mg base CX k fa fd [x] sp) (hbind:∀(s:Shared) (u:Value),BindsTo s fd ⟨[u],[]⟩ [(x,u)])
 (hsp:∀H:Hp,Only H->SqL K H a (ns.map V.int)->sp [.ref a] H (fun v _=>v=.bl true) fun _ _ _=>False)
 (hCX:∀H e s',CX [] H s₁ (fun _ _ _=>False) e s'->False) :
 codeAny (model P w) callerA (.call (.ref fa) ⟨[.ref a],[]⟩) (fun r s'=>r=.ok (.ret (.bool true))/\OldK s₁.heap s'.heap/\s'.os=s₁.os/\AllBare s'.gens) s₁:=by
 have rv:=gZ hi;have lenV:=hi.length;have core:∀H:Hp,Only H->SqL K H a (ns.map V.int)->HOk P w H s₁.heap->(∀b,H b≠none->b=a)->(H a≠none->K.lookup a=none) ->
  codeAny (model P w) callerA (.call (.ref fa) ⟨[.ref a],[]⟩) (fun r s'=>r=.ok (.ret (.bool true))/\OldK s₁.heap s'.heap/\s'.os=s₁.os/\AllBare s'.gens) s₁:=by
  intro H hO hS hok hA hK;have base_of:∀{b:Addr} {o:Obj},s₁.heap.get? b=some o->H b=none->(u6 s₁.heap H).get? b=some o:=fun e n=>HD e n;have noA:∀{b:Addr} {o:Obj} {es:Array DictEntry} {ep:Nat},s₁.heap.get? b=some o->o.data=.dict es ep->H b=none:=fun {b o es ep} e d=>by
   cases q:H b with
   | none=>rfl
   | some u =>
     have e':b=a:=hA b (by rw[q];simp);subst e';rw[ha] at e;cases e;have d':Data.seq vs.toArray _=Data.dict es ep:=d;cases d'
  have nsK:∀{b:Addr} {m:Str->Option Value},s₁.heap.Ns b m->(u6 s₁.heap H).Ns b m:=fun {b m} ⟨o,es,ep,e,d,r⟩=>⟨o,es,ep,base_of e (noA e d),d,r⟩;have hKb:K.In (u6 s₁.heap H):=fun b o e=>base_of (KX b o e) (by
   cases q:H b with
   | none=>rfl
   | some u =>
     have e':b=a:=hA b (by rw[q];simp);subst e';rw[hK (by rw[q];simp)] at e;cases e)
  have hM:Mod K mg (u6 s₁.heap H):=⟨hKb,nsK hns,⟨mb,nsK hb,hbb⟩,let ⟨mc,h1,h2⟩:=hlim;⟨mc,nsK h1,h2⟩⟩;have e0:Env0 P w K mg (u6 s₁.heap H) callerA [] s₁ H:=⟨rfl,hM,fun b o e=>KN e,Nat.le_of_eq (Dr _ _),trivial,fun b hb=>absurd (show b∈([]:List Addr) from hb) (by simp),hok,.of_eq hg⟩;refine codeAny_mono ((F _ hKb (nsK hns)).run callerA [] s₁ H ⟨[.ref a],[]⟩ [.ref a] [.ref a] _ _ hr e0 (hbind s₁ (.ref a)) (.cons rfl .nil) (hsp H hO hS)) fun r s' h=>?_;cases r with
  | error e=>exact(hCX H e s' h).elim
  | ok fl =>
    cases fl with
    | next=>exact False.elim h
    | brk=>exact False.elim h
    | cont=>exact False.elim h
    | ret u =>
      obtain⟨v,H',os,bare,un,hok',r',q⟩:=h;have q':v=.bl true:=q;subst q';obtain rfl:u=Value.bool true:=r';refine⟨rfl,OldK.of_keep fun b o e=>?_,os,bare⟩;cases q:H b with
      | none=>exact un.keep b o e q (by intro z;exact absurd (show b∈([]:List Addr) from z) (by simp)) (by simp)
      | some u =>
        rcases hO b with z | ⟨ob,xs,z⟩
        ·rw[q] at z;cases z
        ·have z2:=un.frzs b ob _ z;obtain⟨e1,_⟩:=hok b _ z;obtain⟨e2,_⟩:=hok' b _ z2;rw[e] at e1;cases e1;exact e2
 cases hk:K.lookup a with
 | some o =>
   have e:=KX a o hk;rw[ha] at e;cases e;refine core (fun _=>none) (fun _=>.inl rfl) (.inr ⟨_,vs.toArray,_,hk,rfl,rfl,rfl,by rw[List.size_toArray,lenV];exact hl,by simpa using rv⟩) (fun b u z=>by have z':(none:Option HO)=some u:=z;cases z') (fun b z=>absurd rfl z) fun z=>absurd rfl z
 | none =>
   refine core (fun b=>if b=a then some (.frz { cls:=.type "list",data:=.seq vs.toArray } (.lst (ns.map V.int))) else none) (fun b=>?_) (.inl (.inr ⟨{ cls:=.type "list",data:=.seq vs.toArray },if_pos rfl⟩)) (fun b u z=>?_) (fun b z=>?_) fun _=>hk
   ·by_cases hb:b=a
    ·exact .inr ⟨_,_,if_pos hb⟩
    ·exact .inl (if_neg hb)
   ·by_cases hb:b=a
    ·have z':=(if_pos hb).symm.trans z;cases z';subst hb;exact⟨ha,by rw[List.length_map];exact hl,vs,_,rv,ha⟩
    ·have z':=(if_neg hb).symm.trans z;cases z'
   ·by_cases hb:b=a
    ·exact hb
    ·exact absurd (if_neg hb) z
def walk_of {l:PySem.W.OpenLaw}{n k:Nat}{q:Program}{loose:List Str}{XP:(Str->Option Value)->Heap->Prop}{YP:World->Heap->Prop}{d:DefRec}{K:Params->PySem.W.Frag}{CX:World->Et}{sp:World->Sp}{x:Str}
 (hn:l.most=some n) (hn2:n<=sizeLine) (hdf:d.params.defaults=[]) (hr:Room k callerA)
 (hY:∀(w:World) (h:Heap),YP w h->(K w.params).In h)
 (F:∀(w:World) (mg:Str->Option Value) (fa:Addr) (h:Heap),(K w.params).In h->h.Ns mainGlobals mg->mg d.name=some (.ref fa) ->
  ∃fd:FuncData,(∀(s:Shared) (u:Value),BindsTo s fd ⟨[u],[]⟩ [(x,u)]) /\
   ∀base:Heap,(K w.params).In base->base.Ns mainGlobals mg->eF l.prog w (K w.params) mg base (CX w) k fa fd [x] (sp w))
 (hsp:∀(w:World) (H:Hp) (a:Addr) (ns:List Int),ns.length<=n->Only H->SqL (K w.params) H a (ns.map V.int)->sp w [.ref a] H (fun v _=>v=.bl true) fun _ _ _=>False)
 (hCX:∀(w:World) (H:Hp) (s:Shared) (e:Value) (s':Shared),CX w [] H s (fun _ _ _=>False) e s'->False) :
 PySem.W.WalkO q loose XP YP l.row.toRowW d [] (fun f vs=>PySem.call f vs):=by
 refine Att.attach_call hn hdf fun w s₀ s₁ mg mb fa o pm cd doc a vs ns G Y ho hd hcd hmg hobj hints hlen hg=>?_;have KX:=hY w _ Y;obtain⟨fd,hb,hF⟩:=F w mg fa _ KX G.T.g hmg;exact Ho KX G.T.g G.T.b G.T.builtins G.T.nolimit hg hobj hints (Nat.le_trans hlen hn2) hr hF hb (fun H hO hS=>hsp w H a ns hlen hO hS) fun H e s'=>hCX w H s₁ e s'
noncomputable def inClass (s:Stmt)(j:Nat):Stmt:=match s with
 | .ClassDef _ _ _ body _ _ _ _ _ _ _=>body.getD j (.Pass ⟨0,0,0,0⟩)
 | _=>.Pass ⟨0,0,0,0⟩
noncomputable def gK (s:Stmt):Arguments:=match s with
 | .FunctionDef _ a _ _ _ _ _ _ _ _=>a
 | _=>{ posonlyargs:=[],args:=[],vararg:=none,kwonlyargs:=[],kw_defaults:=[],kwarg:=none,defaults:=[] }
noncomputable def dg (s:Stmt):List Stmt:=match s with
 | .FunctionDef _ _ b _ _ _ _ _ _ _=>b
 | _=>[]
noncomputable def aH (s:Stmt):Scope:=match s with
 | .FunctionDef _ _ _ _ _ _ sc _ _ _=>sc
 | _=>{ kind:=.function,names:=[],isGenerator:=false,isCoroutine:=false }
abbrev ou:Et:=fun _ _ _ _ _ _=>False
abbrev E0:XK:=fun _ _ _=>False
def iw {X:Cx}:lD ou X E0:=fun _ _ _ _ _ _ _ h=>h.elim
structure Fun (K:PySem.W.Frag)(x qual:Str)(st:Stmt)(f:Addr)(fd:FuncData):Prop where
 ex:∃(oc:Value) (od:Option Addr) (kV doc pm:Value) (an:Option Addr) (cdv ct:Value) (osl:Array (Option Value)),
  fd=PySem.W.fnOf x qual (gK st) (dg st) (aH st) .none kV doc pm an cdv ct/\K.lookup f=some ⟨oc,od,.func fd,osl⟩/\PySem.W.codeIn K cdv qual=true
 kp:PySem.W.keepIn K (.ref f)=true
section
variable {P:Program}{w:World}{K:PySem.W.Frag}{mg:Str->Option Value}{base:Heap}
def Fun.ok {x qual:Str}{st:Stmt}{f:Addr}{fd:FuncData}{N ps:List Str}{k:Nat}{sp:Sp}(F:Fun K x qual st f fd)(S:cF N ps (aH st))(len:∀vs H Q E,sp vs H Q E->vs.length=ps.length)
 (hbody:∀(cdv:Value) (A:Around) (outer:List Env) (s:Shared) (H:Hp) (vs:List V) (Q:VK) (E:XK),Room k (A.deeper (envOfC qual (aH st) s.heap.objs.size f cdv))->sp vs H Q E ->
  ∃t,PSs (jY ou P w K mg base N qual (aH st) f cdv A outer s H E).nox (dg st) t/\t { nx:=fun _ H'=>Q .non H',rt:=Q } (start N vs) H):eF P w K mg base ou (k+1) f fd ps sp:=by
 obtain⟨oc,od,kV,doc,pm,an,cdv,ct,osl,rfl,lk,hcd⟩:=F.ex;refine MN lk hcd S len fun A outer s H vs Q E hr hsp=>?_;obtain⟨t,h,q⟩:=hbody cdv A outer s H vs Q E hr hsp;exact⟨t,h.nox,q⟩
def Fun.binds {x qual:Str}{st:Stmt}{f:Addr}{fd:FuncData}{ps:List Str}(F:Fun K x qual st f fd)
 (h:∀(kV doc pm:Value) (an:Option Addr) (cdv ct:Value) (us:List Value),us.length=ps.length->bindArgs (PySem.W.fnOf x qual (gK st) (dg st) (aH st) .none kV doc pm an cdv ct) ⟨us,[]⟩=pure (ps.zip us)):Binds K fd ps []:=by
 obtain⟨oc,od,kV,doc,pm,an,cdv,ct,osl,rfl,lk,hcd⟩:=F.ex;exact .all (h kV doc pm an cdv ct)
def HR {x qual:Str}{st:Stmt}{f:Addr}{oc:Value}{od an:Option Addr}{osl:Array (Option Value)}{kV doc pm cdv ct:Value}(l:K.lookup f=some ⟨oc,od,.func (PySem.W.fnOf x qual (gK st) (dg st) (aH st) .none kV doc pm an cdv ct),osl⟩)
 (c:PySem.W.codeIn K cdv qual=true) (k:PySem.W.keepIn K (.ref f)=true):Fun K x qual st f (PySem.W.fnOf x qual (gK st) (dg st) (aH st) .none kV doc pm an cdv ct):=⟨⟨oc,od,kV,doc,pm,an,cdv,ct,osl,rfl,l,c⟩,k⟩
end
def MK {A:Around}{k:Nat}(hr:Room k A):A.units+1<cLine:=Nat.lt_of_le_of_lt (Nat.add_le_add_left (by decide:1<=64) _) hr.units
def sJ {n:Nat}(h:n<=1000):n<sizeLine:=Nat.lt_of_le_of_lt h (by decide)
section
variable {X:Cx}
def pv (i:Nat){x:Str}{pos:Pos}(hN:X.N[i]? = some x:=by rfl)(hv:RX X.env.scope x:=by first | exact Or.inl rfl | exact Or.inr (Or.inl rfl) | exact Or.inr (Or.inr rfl))(hd:(x==("__debug__":Str))=false:=by decide)
 (hcd:(x==("__classdict__":Str))=false:=by decide):PE X (.Name x pos) (cG i):=GD hN hv hd hcd
end
def oZ {A B:Prop}(h:B):if false=true then A else B:=by
 rw[if_neg Bool.false_ne_true];exact h
def qN {A B:Prop}(h:A):if true=true then A else B:=by
 rw[if_pos rfl];exact h
def Same (H H':Hp):Prop:=∀b o,H b=some o->H' b=some o
def Same.refl (H:Hp):Same H H:=fun _ _ h=>h
def Same.trans {H H1 H2:Hp}(a:Same H H1)(b:Same H1 H2):Same H H2:=fun c o h=>b c o (a c o h)
def Same.free {H H':Hp}(e:Same H H'){l:Addr}(h:H' l=Option.none):H l=Option.none:=by
 cases q:H l with
 | none=>rfl
 | some o =>
   rw[e l o q] at h;cases h
def Same.seq {K:PySem.W.Frag}{H H':Hp}{a:Addr}{xs:List V}(e:Same H H')(h:SqL K H a xs):SqL K H' a xs:=by
 rcases h with (h | ⟨o,h⟩) | h
 ·exact .inl (.inl (e _ _ h))
 ·exact .inl (.inr ⟨o,e _ _ h⟩)
 ·exact .inr h
end L2
namespace DL
open PySem
inductive D where
 | non | bl (b:Bool) | int (i:Int) | str (x:Str) | tup (ds:List D) | lst (ds:List D) | dic (t:Bool) (ks vs:List D)
abbrev Ev:=List (Option D)
inductive Rs where
 | nx (δ:Ev) | rt (d:D) | bk (δ:Ev) | ct (δ:Ev) | ex
abbrev ME:=Ev->Option D
abbrev MT:=Ev->Option Bool
abbrev MA:=Ev->Option (List D)
abbrev MS:=Ev->Option Rs
abbrev MG:=D->Ev->Option Ev
abbrev JG:=List D->Ev->Option Ev
abbrev MI:=Ev->Option (List D)
abbrev MF:=List D->Option D
noncomputable def slot {α:Type}(δ:List (Option α))(i:Nat):Option α:=(δ[i]?).getD none
def ao (i:Nat):ME:=fun δ=>slot δ i
noncomputable def eC (d:D):ME:=fun _=>some d
noncomputable def aQ (f:D->D->Option D)(a b:ME):ME:=fun δ=>(a δ).bind fun x=>(b δ).bind fun y=>f x y
noncomputable def kE (f:D->Option D)(a:ME):ME:=fun δ=>(a δ).bind f
noncomputable def aD:MA:=fun _=>some []
noncomputable def ak (a:ME)(r:MA):MA:=fun δ=>(a δ).bind fun x=>(r δ).bind fun xs=>some (x::xs)
noncomputable def aB (f:MF)(a:MA):ME:=fun δ=>(a δ).bind f
noncomputable def mH (a:MA):ME:=fun δ=>(a δ).bind fun xs=>some (.tup xs)
noncomputable def lw (a:MA):ME:=fun δ=>(a δ).bind fun xs=>some (.lst xs)
noncomputable def Ie (a b:ME):ME:=fun δ=>(a δ).bind fun x=>match x with | .bl true=>b δ | .bl false=>some (.bl false) | _=>none
noncomputable def Rw (a:ME):ME:=fun δ=>(a δ).bind fun x=>match x with | .bl b=>some (.bl (!b)) | _=>none
noncomputable def truth:D->Option Bool
 | .non=>some false
 | .bl b=>some b
 | .int i=>some (i != 0)
 | .str _=>none
 | .tup ds=>some (!ds.isEmpty)
 | .lst ds=>some (!ds.isEmpty)
 | .dic _ _ _=>none
def tV (a:ME):MT:=fun δ=>(a δ).bind truth
noncomputable def tAnd (a b:MT):MT:=fun δ=>(a δ).bind fun k=>if k=true then b δ else some false
noncomputable def tOr (a b:MT):MT:=fun δ=>(a δ).bind fun k=>if k=true then some true else b δ
noncomputable def tNot (a:MT):MT:=fun δ=>(a δ).bind fun k=>some (!k)
def eV (f g:D->D->Option D)(a b c:ME):ME:=fun δ=>(a δ).bind fun x=>(b δ).bind fun y=>(f x y).bind fun z=>match z with
 | .bl true=>(c δ).bind fun u=>g y u
 | .bl false=>some (.bl false)
 | _=>none
def oI (g:Int->Int->Option D):D->D->Option D
 | .int i,.int j=>g i j
 | _,_=>none
noncomputable def small (i:Int):Bool:=decide (-(2 ^ 64)<i)&&decide (i<2 ^ 64)
noncomputable def eE:D->D->Option D
 | .int i,.int j=>some (.int (i+j))
 | .lst xs,.lst ys=>if xs.length+ys.length<=16777216 then some (.lst (xs++ys)) else none
 | .tup xs,.tup ys=>if xs.length+ys.length<=16777216 then some (.tup (xs++ys)) else none
 | .str x,.str y=>if x.length+y.length<=16777216 then some (.str (x++y)) else none
 | _,_=>none
def oY:D->D->Option D:=oI fun i j=>some (.int (i-j))
def cY:D->D->Option D
 | .int i,.int j=>if (small j||small i)=true then some (.int (i*j)) else none
 | .tup xs,.int k=>if (decide (0<k)&&decide (k<=1000)&&decide (0<xs.length)&&decide (xs.length<=1000))=true then some (.tup (List.replicate k.toNat xs).flatten) else none
 | _,_=>none
def oMod:D->D->Option D:=oI fun i j=>if 0<j then some (.int (i % j)) else none
def wR:D->D->Option D:=oI fun i j=>if 0<j/\j<1073741824 then some (.int (i / j)) else none
def oLt:D->D->Option D:=oI fun i j=>some (.bl (decide (i<j)))
def oLe:D->D->Option D:=oI fun i j=>some (.bl (decide (i<=j)))
def OJ:D->D->Option D:=oI fun i j=>some (.bl (decide (j<i)))
def RQ:D->D->Option D:=oI fun i j=>some (.bl (decide (j<=i)))
noncomputable def Tn:D->Option D
 | .int i=>some (.int (-i))
 | _=>none
mutual
def gD:D->D->Bool
 | .non,.non=>true
 | .bl a,.bl b=>a==b
 | .int a,.int b=>a==b
 | .bl a,.int b=>(if a then 1 else 0)==b
 | .int a,.bl b=>a==(if b then 1 else 0)
 | .str a,.str b=>a==b
 | .tup as,.tup bs=>jX as bs
 | .lst as,.lst bs=>jX as bs
 | .dic t ks vs,.dic u ls ws=>t==u&&jX ks ls&&jX vs ws
 | _,_=>false
def jX:List D->List D->Bool
 | [],[]=>true
 | a::as,b::bs=>gD a b&&jX as bs
 | _,_=>false
end
mutual
def bA:D->Nat
 | .tup ds=>cg ds+1
 | .lst ds=>cg ds+1
 | .dic _ _ _=>31
 | _=>0
def cg:List D->Nat
 | []=>0
 | d::ds=>max (bA d) (cg ds)
end
def oEq (a b:D):Option D:=if bA a<=30/\bA b<=30 then some (.bl (gD a b)) else none
def wQ (a b:D):Option D:=if bA a<=30/\bA b<=30 then some (.bl (!gD a b)) else none
def TV:D->D->Option D
 | x,.tup ys=>if cg ys<=30/\bA x<=30 then some (.bl (ys.any fun y=>gD y x)) else none
 | x,.lst ys=>if cg ys<=30/\bA x<=30 then some (.bl (ys.any fun y=>gD y x)) else none
 | .str x,.str y=>some (.bl (!(Builtin.Str.occurrences y x 0 y.length 1).isEmpty))
 | _,_=>none
noncomputable def qM (n:Nat)(i:Int):Option Nat:=if 0<=i then (if i<n then some i.toNat else none) else if -(n:Int)<=i then some (i+n).toNat else none
def eG:D->D->Option D
 | .tup xs,.int i=>(qM xs.length i).bind fun j=>xs[j]?
 | .lst xs,.int i=>(qM xs.length i).bind fun j=>xs[j]?
 | .str x,.int i=>if x.length<=16777216 then (qM x.cps.toList.length i).bind fun j=>x.cps.toList[j]?.bind fun c=>some (.str ⟨#[c]⟩) else none
 | _,_=>none
noncomputable def QF (k:Nat):D->Option D
 | .tup xs=>some (.tup (xs.take k))
 | .lst xs=>some (.lst (xs.take k))
 | _=>none
inductive Ty where | int | bool | str | list | tuple
noncomputable def isI:Ty->D->Bool
 | .int,.int _=>true
 | .int,.bl _=>true
 | .bool,.bl _=>true
 | .str,.str _=>true
 | .list,.lst _=>true
 | .tuple,.tup _=>true
 | _,_=>false
def RV (t:Ty):MF:=fun ds=>match ds with | [.dic true _ _]=>none | [d]=>some (.bl (isI t d)) | _=>none
noncomputable def o9:MF:=fun ds=>match ds with
 | [.tup xs]=>some (.int xs.length)
 | [.lst xs]=>some (.int xs.length)
 | [.str x]=>if x.length<=16777216 then some (.int x.length) else none
 | _=>none
noncomputable def Tz:MF:=fun ds=>match ds with | [.int i]=>if i.natAbs.log2<1920 then some (.str (toString i)) else none | _=>none
noncomputable def Px:MF:=fun ds=>match ds with | [.int i]=>some (.int (if i<0 then -i else i)) | _=>none
noncomputable def MP:MF:=fun ds=>match ds with | [.tup xs]=>some (.lst xs) | [.lst xs]=>some (.lst xs) | _=>none
noncomputable def jc:MF:=fun ds=>match ds with | [.tup xs]=>some (.tup xs) | [.lst xs]=>some (.tup xs) | _=>none
noncomputable def gN (i:Nat):MG:=fun d δ=>some (δ.set i (some d))
noncomputable def jl:JG:=fun ds δ=>match ds with | []=>some δ | _::_=>none
def bK (g:MG)(gs:JG):JG:=fun ds δ=>match ds with | d::r=>(g d δ).bind fun δ'=>gs r δ' | []=>none
noncomputable def gT (gs:JG):MG:=fun d δ=>match d with | .tup ds=>gs ds δ | _=>none
noncomputable def qQ (a:ME):MI:=fun δ=>(a δ).bind fun d=>match d with | .tup ds=>some ds | .lst ds=>some ds | _=>none
noncomputable def dq (n:Nat):List D:=(List.range n).map fun (i:Nat)=>D.int i
def iZ (a:ME):MI:=fun δ=>(a δ).bind fun d=>match d with | .int j=>if -1073741824<j/\j<1073741824 then some (dq j.toNat) else none | _=>none
noncomputable def dj:Nat->List D->List D
 | _,[]=>[]
 | k,d::r=>.tup [.int k,d]::dj (k+1) r
def Bl (a:ME):MI:=fun δ=>(a δ).bind fun d=>match d with | .tup ds=>some (dj 0 ds) | .lst ds=>some (dj 0 ds) | _=>none
def pick {α:Type}(k:Nat)(fv:List Nat)(δ:List (Option α)):List (Option α):=List.replicate k none++fv.map (slot δ)
noncomputable def oV (turn:D->Option (Option D)):List D->Option (List D)
 | []=>some []
 | x::xs=>(turn x).bind fun o=>(oV turn xs).bind fun r=>some (match o with | some d=>d::r | none=>r)
def nR (B:Ev->Ev)(i:MI)(g:MG)(c:MT)(e:ME):ME:=fun δ=>(i δ).bind fun xs=>if xs.length<=16777216 then
 (oV (fun x=>(g x (B δ)).bind fun δ1=>(c δ1).bind fun b=>if b=true then (e δ1).bind fun d=>some (some d) else some none) xs).bind fun r=>some (.lst r)
 else none
def dR (k:Nat)(fv:List Nat)(i:MI)(g:MG)(c:MT)(e:ME):ME:=fun δ=>(i δ).bind fun xs=>if xs.length<=16777216 then
 (oV (fun x=>(g x (pick k fv δ)).bind fun δ1=>(c δ1).bind fun b=>if b=true then (e δ1).bind fun d=>some (some d) else some none) xs).bind fun r=>some (.lst r)
 else none
noncomputable def tT:MT:=fun _=>some true
noncomputable def wj:MS:=fun δ=>some (.nx δ)
noncomputable def bY (a b:MS):MS:=fun δ=>(a δ).bind fun r=>match r with | .nx δ'=>b δ' | r=>some r
noncomputable def Es (c:MT)(a b:MS):MS:=fun δ=>(c δ).bind fun k=>if k=true then a δ else b δ
noncomputable def bZ (a:ME):MS:=fun δ=>(a δ).bind fun d=>some (.rt d)
def d8 (a:ME)(g:MG):MS:=fun δ=>(a δ).bind fun d=>(g d δ).bind fun δ'=>some (.nx δ')
noncomputable def QV (i j:Nat)(a b:ME):MS:=fun δ=>(a δ).bind fun x=>(b δ).bind fun y=>some (.nx ((δ.set i (some x)).set j (some y)))
def forM (g:MG)(body:MS):List D->Ev->Option Rs
 | [],δ=>some (.nx δ)
 | x::xs,δ=>(g x δ).bind fun δ1=>(body δ1).bind fun r=>match r with
   | .nx δ2=>forM g body xs δ2
   | .ct δ2=>forM g body xs δ2
   | .bk δ2=>some (.nx δ2)
   | .rt d=>some (.rt d)
   | .ex=>some .ex
def yF (i:MI)(g:MG)(body:MS):MS:=fun δ=>(i δ).bind fun xs=>forM g body xs δ
noncomputable def vH (c:MT)(b:MS):Nat->Ev->Option Rs
 | 0,_=>none
 | n+1,δ=>(c δ).bind fun k=>if k=true then (b δ).bind fun r=>match r with
   | .nx δ2=>vH c b n δ2
   | .ct δ2=>vH c b n δ2
   | .bk δ2=>some (.nx δ2)
   | .rt d=>some (.rt d)
   | .ex=>some .ex
   else some (.nx δ)
open Classical in
def nq (c:MT)(b:MS):MS:=fun δ=>if h:∃n r,vH c b n δ=some r then vH c b (Classical.choose h) δ else none
noncomputable def jt (n k:Nat)(m:MS):MF:=fun ds=>if ds.length=n then (m (ds.map some++List.replicate (k-n) none)).bind fun r=>match r with
 | .rt d=>some d
 | .nx _=>some .non
 | _=>none
 else none
def ownAt (n i:Nat)(δ:Ev):Option D:=match slot δ i with
 | none=>slot δ (n+i)
 | some _=>none
noncomputable def iI (n i:Nat)(d:D)(δ:Ev):Ev:=(δ.set i none).set (n+i) (some d)
def wg (n i:Nat)(a:ME):MS:=fun δ=>(a δ).bind fun d=>some (.nx (iI n i d δ))
def frz (n i:Nat)(δ:Ev):Ev:=match ownAt n i δ with
 | some (.lst ds)=>(δ.set i (some (.lst ds))).set (n+i) none
 | _=>δ
def frzs (n:Nat):List Nat->Ev->Ev
 | [],δ=>δ
 | i::r,δ=>frzs n r (frz n i δ)
def J7 (n:Nat)(is:List Nat)(m:MS):MS:=fun δ=>m (frzs n is δ)
mutual
def flat:D->Bool
 | .tup ds=>flats ds
 | .lst _=>false
 | .dic _ _ _=>false
 | _=>true
def flats:List D->Bool
 | []=>true
 | d::ds=>flat d&&flats ds
end
def NZ (n i:Nat)(a:ME):MS:=fun δ=>(a δ).bind fun y=>match ownAt n i δ with
 | some (.lst ds)=>if ds.length<16777216 then some (.nx (δ.set (n+i) (some (.lst (ds++[y]))))) else none
 | _=>none
def Eu (c:MT)(b:MS):∀(n:Nat) (δ:Ev) (r:Rs),vH c b n δ=some r->vH c b (n+1) δ=some r:=by
 intro n;induction n with
 | zero=>intro δ r h;simp[vH] at h
 | succ n ih =>
   intro δ r h;rw[vH] at h ⊢;cases hc:c δ with
   | none=>rw[hc] at h;simp at h
   | some k =>
     rw[hc] at h;simp only[Option.bind_some] at h ⊢;cases k with
     | false=>simpa using h
     | true =>
       simp only[if_true] at h ⊢;cases hb:b δ with
       | none=>rw[hb] at h;simp at h
       | some q =>
         rw[hb] at h;simp only[Option.bind_some] at h ⊢;cases q with
         | nx δ2=>exact ih _ _ h
         | ct δ2=>exact ih _ _ h
         | bk δ2=>exact h
         | rt d=>exact h
         | ex=>exact h
def Ew {c:MT}{b:MS}{n m:Nat}{δ:Ev}{r:Rs}(h:vH c b n δ=some r)(hm:n<=m):vH c b m δ=some r:=by
 induction hm with
 | refl=>exact h
 | step _ ih=>exact Eu _ _ _ _ _ ih
def Cz {c:MT}{b:MS}{n:Nat}{δ:Ev}{r:Rs}(h:vH c b n δ=some r):nq c b δ=some r:=by
 have hx:∃n r,vH c b n δ=some r:=⟨n,r,h⟩;unfold nq;rw[dif_pos hx];obtain⟨r',h'⟩:=Classical.choose_spec hx;rcases Nat.le_total n (Classical.choose hx) with l | l
 ·exact Ew h l
 ·have:=Ew h' l;rw[h] at this;rw[h',this]
def yE {c:MT}{b:MS}{δ:Ev}{r:Rs}(h:nq c b δ=some r):∃n,vH c b n δ=some r:=by
 unfold nq at h;split at h
 ·exact⟨_,h⟩
 ·cases h
def xR {turn:D->Option (Option D)}(f:D->Option D):∀(xs:List D),(∀x∈xs,turn x=some (f x))->oV turn xs=some (xs.filterMap f)
 | [],_=>rfl
 | x::xs,h=>by
   rw[oV,h x List.mem_cons_self,xR f xs fun y hy=>h y (List.mem_cons_of_mem _ hy)];simp only[Option.bind_some,List.filterMap_cons];cases f x <;> rfl
def m9 {α:Type}{δ:List (Option α)}{i:Nat}{d:α}(h:slot δ i=some d):δ[i]? = some (some d):=by
 unfold slot at h;cases e:δ[i]? with
 | none=>rw[e] at h;cases h
 | some o=>rw[e] at h;exact congrArg some h
mutual
def gC:∀d:D,gD d d=true
 | .non=>rfl
 | .bl _=>by simp[gD]
 | .int _=>by simp[gD]
 | .str _=>by simp[gD]
 | .tup ds=>by simp only[gD];exact bT ds
 | .lst ds=>by simp only[gD];exact bT ds
 | .dic t ks vs=>by simp only[gD,bT ks,bT vs,beq_self_eq_true];rfl
def bT:∀ds:List D,jX ds ds=true
 | []=>by simp[jX]
 | d::ds=>by simp[jX,gC d,bT ds]
end
def gB:∀(ds es:List D),((List.range (min ds.length es.length)).all (fun j=>gD (ds.getD j .non) (es.getD j .non))&&ds.length==es.length)=jX ds es
 | [],[]=>by simp[jX]
 | [],_::_=>by simp[jX]
 | _::_,[]=>by simp[jX]
 | d::ds,e::es=>by
   have ih:=gB ds es;have hm:min (ds.length+1) (es.length+1)=min ds.length es.length+1:=by omega
   have hb:(ds.length+1==es.length+1)=(ds.length==es.length):=by simp
   simp only[List.length_cons,hm,hb,List.range_succ_eq_map,List.all_cons,List.all_map,List.getD_cons_zero,jX,<-ih,Bool.and_assoc];rfl
def depDs_le {n:Nat}:∀{ds:List D},cg ds<=n↔∀d∈ds,bA d<=n
 | []=>by simp[cg]
 | d::ds=>by
   have:=depDs_le (n:=n) (ds:=ds);simp only[cg,List.mem_cons,forall_eq_or_imp,<-this];omega
def di {n k:Nat}{m:MS}{ds:List D}{r:D}(hl:ds.length=n)(h:m (ds.map some++List.replicate (k-n) none)=some (.rt r)):jt n k m ds=some r:=by
 unfold jt;rw[if_pos hl,h];rfl
def bu {a b:MS}{δ δ':Ev}(h:a δ=some (.nx δ')):bY a b δ=b δ':=by unfold bY;rw[h];rfl
def Gb {a b:MS}{δ:Ev}{d:D}(h:a δ=some (.rt d)):bY a b δ=some (.rt d):=by unfold bY;rw[h];rfl
def Rm {c:MT}{a b:MS}{δ:Ev}(h:c δ=some true):Es c a b δ=a δ:=by unfold Es;rw[h];rfl
def K5 {c:MT}{a b:MS}{δ:Ev}(h:c δ=some false):Es c a b δ=b δ:=by unfold Es;rw[h];rfl
def bI {a:ME}{δ:Ev}{d:D}(h:a δ=some d):bZ a δ=some (.rt d):=by unfold bZ;rw[h];rfl
def du {a:ME}{g:MG}{δ δ':Ev}{d:D}(h:a δ=some d)(hg:g d δ=some δ'):d8 a g δ=some (.nx δ'):=by unfold d8;rw[h];simp[hg]
def gf {a:ME}{δ:Ev}{d:D}{b:Bool}(h:a δ=some d)(hb:truth d=some b):tV a δ=some b:=by unfold tV;rw[h];exact hb
def uI {a:MT}{δ:Ev}{b:Bool}(h:a δ=some b):tNot a δ=some (!b):=by unfold tNot;rw[h];rfl
def uH {a c:MT}{δ:Ev}{x y:Bool}(h:a δ=some x)(hc:c δ=some y):tOr a c δ=some (x||y):=by
 unfold tOr;rw[h];cases x <;> simp[hc]
def bF {f:D->D->Option D}{a b:ME}{δ:Ev}{x y:D}(h:a δ=some x)(hb:b δ=some y):aQ f a b δ=f x y:=by unfold aQ;rw[h,hb];rfl
def lE {f:D->Option D}{a:ME}{δ:Ev}{x:D}(h:a δ=some x):kE f a δ=f x:=by unfold kE;rw[h];rfl
def M4 (f:MF)(a:ME)(δ:Ev):aB f (ak a aD) δ=(a δ).bind fun x=>f [x]:=by
 simp only[aB,ak,aD];cases a δ <;> rfl
def call2 (f:MF)(a b:ME)(δ:Ev):aB f (ak a (ak b aD)) δ=(a δ).bind fun x=>(b δ).bind fun y=>f [x,y]:=by
 simp only[aB,ak,aD];cases a δ <;> cases b δ <;> rfl
def RB (f:MF)(a b c:ME)(δ:Ev):aB f (ak a (ak b (ak c aD))) δ=(a δ).bind fun x=>(b δ).bind fun y=>(c δ).bind fun z=>f [x,y,z]:=by
 simp only[aB,ak,aD];cases a δ <;> cases b δ <;> cases c δ <;> rfl
def aR {f:MF}{a:ME}{δ:Ev}{x:D}(h:a δ=some x):aB f (ak a aD) δ=f [x]:=by rw[M4,h];rfl
def fB {f:MF}{a b:ME}{δ:Ev}{x y:D}(h:a δ=some x)(hb:b δ=some y):aB f (ak a (ak b aD)) δ=f [x,y]:=by rw[call2,h,hb];rfl
def dU {f:MF}{a b c:ME}{δ:Ev}{x y z:D}(h:a δ=some x)(hb:b δ=some y)(hc:c δ=some z):aB f (ak a (ak b (ak c aD))) δ=f [x,y,z]:=by rw[RB,h,hb,hc];rfl
def gM {k:Nat}{fv:List Nat}{i:MI}{g:MG}{c:MT}{e:ME}{δ:Ev}{xs:List D}(f:D->Option D)(hi:i δ=some xs)(hl:xs.length<=16777216)
 (h:∀x∈xs,∃δ1,g x (pick k fv δ)=some δ1/\((c δ1=some true/\∃d,e δ1=some d/\f x=some d)\/(c δ1=some false/\f x=none))) :
 dR k fv i g c e δ=some (.lst (xs.filterMap f)):=by
 unfold dR;rw[hi];simp only[Option.bind_some];rw[if_pos hl,xR f xs fun x hx=>?_]
 ·rfl
 ·obtain⟨δ1,e1,h | h⟩:=h x hx
  ·obtain⟨h1,d,h2,h3⟩:=h;rw[e1];simp[h1,h2,h3]
  ·obtain⟨h1,h3⟩:=h;rw[e1];simp[h1,h3]
def pH {i:MI}{g:MG}{body:MS}{δ:Ev}{xs:List D}(hi:i δ=some xs):yF i g body δ=forM g body xs δ:=by unfold yF;rw[hi];rfl
end DL
namespace DL
open PySem PySem.Spec PyProof.Rows L2
noncomputable def kD:Key->D
 | .inl i=>.int i
 | .inr x=>.str x
def kT (ks:List Key):D:=.tup (ks.map kD)
def DcAt (H:Hp)(a:Addr)(t:Bool)(ks:List D)(xs:List V):Prop :=
 (t=false/\∃kvs:List (Key×V),H a=some (.dK kvs)/\ks=kvs.map (fun p=>kD p.1)/\xs=kvs.map (·.2)) \/
 (t=true/\∃kvs:List (List Key×V),H a=some (.dT kvs)/\ks=kvs.map (fun p=>kT p.1)/\xs=kvs.map (·.2))
def DcF (H:Hp)(a:Addr)(t:Bool)(ks:List D)(xs:List V):Prop :=
 (t=false/\∃(o:Obj) (kvs:List (Key×V)),H a=some (.frz o (.dK kvs))/\ks=kvs.map (fun p=>kD p.1)/\xs=kvs.map (·.2)) \/
 (t=true/\((∃(o:Obj) (kvs:List (List Key×V)),H a=some (.frz o (.dT kvs))/\ks=kvs.map (fun p=>kT p.1)/\xs=kvs.map (·.2)) \/
  ∃(C dx:Addr) (fs:List (Str×V)),H a=some (.ins C dx fs)/\ks=.non::.int (C:Nat)::fs.map (fun p=>.str p.1)/\xs=fs.map (·.2)))
mutual
def Den (K:PySem.W.Frag)(H:Hp):D->V->Prop
 | .non,v=>v=.non
 | .bl b,v=>v=.bl b
 | .int i,v=>v=.int i
 | .str x,v=>v=.str x
 | .tup ds,v=>∃a xs,v=.ref a/\H a=some (.tup xs)/\Dens K H ds xs
 | .lst ds,v=>∃a xs,v=.ref a/\SqL K H a xs/\Dens K H ds xs
 | .dic t ks vs,v=>∃a xs,v=.ref a/\DcF H a t ks xs/\Dens K H vs xs
def Dens (K:PySem.W.Frag)(H:Hp):List D->List V->Prop
 | [],xs=>xs=[]
 | d::ds,xs=>∃x r,xs=x::r/\Den K H d x/\Dens K H ds r
end
section
variable {K:PySem.W.Frag}{H H':Hp}
def NK {a:Addr}{xs:List V}(e:Same H H')(h:SqT K H a xs):SqT K H' a xs:=by
 rcases h with (h | ⟨o,h⟩) | h
 ·exact .inl (.inl (e _ _ h))
 ·exact .inl (.inr ⟨o,e _ _ h⟩)
 ·exact .inr h
def DcAt.mono {a:Addr}{t:Bool}{ks:List D}{xs:List V}(e:Same H H')(h:DcAt H a t ks xs):DcAt H' a t ks xs:=by
 rcases h with ⟨z,kvs,h,r⟩ | ⟨z,kvs,h,r⟩
 ·exact .inl ⟨z,kvs,e _ _ h,r⟩
 ·exact .inr ⟨z,kvs,e _ _ h,r⟩
def DcF.mono {a:Addr}{t:Bool}{ks:List D}{xs:List V}(e:Same H H')(h:DcF H a t ks xs):DcF H' a t ks xs:=by
 rcases h with ⟨z,o,kvs,h,r⟩ | ⟨z,⟨o,kvs,h,r⟩ | ⟨C,dx,fs,h,r⟩⟩
 ·exact .inl ⟨z,o,kvs,e _ _ h,r⟩
 ·exact .inr ⟨z,.inl ⟨o,kvs,e _ _ h,r⟩⟩
 ·exact .inr ⟨z,.inr ⟨C,dx,fs,e _ _ h,r⟩⟩
mutual
def Den.mono (e:Same H H'):∀(d:D) (v:V),Den K H d v->Den K H' d v
 | .non,_,h=>by simp only[Den] at h ⊢;exact h
 | .bl _,_,h=>by simp only[Den] at h ⊢;exact h
 | .int _,_,h=>by simp only[Den] at h ⊢;exact h
 | .str _,_,h=>by simp only[Den] at h ⊢;exact h
 | .tup ds,_,h=>by
   simp only[Den] at h ⊢;obtain⟨a,xs,e1,h1,h2⟩:=h;exact⟨a,xs,e1,e _ _ h1,Dens.mono e ds xs h2⟩
 | .lst ds,_,h=>by
   simp only[Den] at h ⊢;obtain⟨a,xs,e1,h1,h2⟩:=h;exact⟨a,xs,e1,e.seq h1,Dens.mono e ds xs h2⟩
 | .dic t ks ds,_,h=>by
   simp only[Den] at h ⊢;obtain⟨a,xs,e1,h1,h2⟩:=h;exact⟨a,xs,e1,h1.mono e,Dens.mono e ds xs h2⟩
def Dens.mono (e:Same H H'):∀(ds:List D) (xs:List V),Dens K H ds xs->Dens K H' ds xs
 | [],_,h=>by simp only[Dens] at h ⊢;exact h
 | d::ds,_,h=>by
   simp only[Dens] at h ⊢;obtain⟨x,r,e1,h1,h2⟩:=h;exact⟨x,r,e1,Den.mono e d x h1,Dens.mono e ds r h2⟩
end
def Dens.nil:Dens K H [] []:=by simp only[Dens]
def Dens.cons {d:D}{ds:List D}{x:V}{xs:List V}(h:Den K H d x)(hs:Dens K H ds xs):Dens K H (d::ds) (x::xs):=by
 simp only[Dens];exact⟨x,xs,rfl,h,hs⟩
def Dens.uncons {d:D}{ds:List D}{xs:List V}(h:Dens K H (d::ds) xs):∃x r,xs=x::r/\Den K H d x/\Dens K H ds r:=by
 simpa only[Dens] using h
def Dens.unnil {xs:List V}(h:Dens K H [] xs):xs=[]:=by simpa only[Dens] using h
def Dens.length:∀{ds:List D} {xs:List V},Dens K H ds xs->ds.length=xs.length
 | [],_,h=>by rw[h.unnil];rfl
 | d::ds,_,h=>by
   obtain⟨x,r,rfl,_,h2⟩:=h.uncons;simp[h2.length]
def Dens.get:∀{ds:List D} {xs:List V} {i:Nat} {d:D},Dens K H ds xs->ds[i]? = some d->∃x,xs[i]? = some x/\Den K H d x
 | [],_,_,_,_,e=>by simp at e
 | d::ds,_,i,d',h,e=>by
   obtain⟨x,r,rfl,h1,h2⟩:=h.uncons;cases i with
   | zero=>simp at e;subst e;exact⟨x,rfl,h1⟩
   | succ i=>simpa using h2.get (i:=i) (d:=d') (by simpa using e)
def Dens.append:∀{ds es:List D} {xs ys:List V},Dens K H ds xs->Dens K H es ys->Dens K H (ds++es) (xs++ys)
 | [],_,_,_,h,g=>by rw[h.unnil];exact g
 | d::ds,_,_,_,h,g=>by
   obtain⟨x,r,rfl,h1,h2⟩:=h.uncons;exact .cons h1 (h2.append g)
def Dens.take:∀{ds:List D} {xs:List V} (n:Nat),Dens K H ds xs->Dens K H (ds.take n) (xs.take n)
 | _,_,0,_=>by rw[List.take_zero,List.take_zero];exact .nil
 | [],_,n+1,h=>by rw[h.unnil];exact .nil
 | d::ds,_,n+1,h=>by
   obtain⟨x,r,rfl,h1,h2⟩:=h.uncons;exact .cons h1 (h2.take n)
def Dens.flat:∀{ds:List D} {xs:List V} (k:Nat),Dens K H ds xs->Dens K H (List.replicate k ds).flatten (List.replicate k xs).flatten
 | _,_,0,_=>.nil
 | ds,xs,k+1,h=>by
   rw[List.replicate_succ,List.replicate_succ,List.flatten_cons,List.flatten_cons];exact h.append (h.flat k)
def Den.int (i:Int):Den K H (.int i) (.int i):=by simp only[Den]
def Den.bl (b:Bool):Den K H (.bl b) (.bl b):=by simp only[Den]
def Den.non:Den K H .non .non:=by simp only[Den]
def Den.str (x:Str):Den K H (.str x) (.str x):=by simp only[Den]
def Den.tup {a:Addr}{ds:List D}{xs:List V}(h:H a=some (.tup xs))(hs:Dens K H ds xs):Den K H (.tup ds) (.ref a):=by
 simp only[Den];exact⟨a,xs,rfl,h,hs⟩
def Den.lst {a:Addr}{ds:List D}{xs:List V}(h:SqL K H a xs)(hs:Dens K H ds xs):Den K H (.lst ds) (.ref a):=by
 simp only[Den];exact⟨a,xs,rfl,h,hs⟩
def Den.int_inv {i:Int}{v:V}(h:Den K H (.int i) v):v=.int i:=by simpa only[Den] using h
def Den.bl_inv {i:Bool}{v:V}(h:Den K H (.bl i) v):v=.bl i:=by simpa only[Den] using h
def Den.str_inv {i:Str}{v:V}(h:Den K H (.str i) v):v=.str i:=by simpa only[Den] using h
def Den.non_inv {v:V}(h:Den K H .non v):v=.non:=by simpa only[Den] using h
def Den.tup_inv {ds:List D}{v:V}(h:Den K H (.tup ds) v):∃a xs,v=.ref a/\H a=some (.tup xs)/\Dens K H ds xs:=by simpa only[Den] using h
def Den.tup_sq {ds:List D}{v:V}(h:Den K H (.tup ds) v):∃a xs,v=.ref a/\SqT K H a xs/\Dens K H ds xs:=let ⟨a,xs,e,h1,h2⟩:=h.tup_inv;⟨a,xs,e,.of h1,h2⟩
def Den.lst_inv {ds:List D}{v:V}(h:Den K H (.lst ds) v):∃a xs,v=.ref a/\SqL K H a xs/\Dens K H ds xs:=by simpa only[Den] using h
def Den.dic {a:Addr}{t:Bool}{ks ds:List D}{xs:List V}(h:DcF H a t ks xs)(hs:Dens K H ds xs):Den K H (.dic t ks ds) (.ref a):=by
 simp only[Den];exact⟨a,xs,rfl,h,hs⟩
def Den.dic_inv {t:Bool}{ks ds:List D}{v:V}(h:Den K H (.dic t ks ds) v):∃a xs,v=.ref a/\DcF H a t ks xs/\Dens K H ds xs:=by simpa only[Den] using h
def aK {p:Addr}(h:H p=none)(o:HO):Same H (upd H p o):=fun b u q=>by rw[au (aO q h)];exact q
def Dens.ints:∀(ns:List Int),Dens K H (ns.map D.int) (ns.map V.int)
 | []=>.nil
 | n::ns=>.cons (.int n) (Dens.ints ns)
noncomputable def hide (os:List Addr)(H:Hp):Hp:=fun b=>if b∈os then none else H b
noncomputable def Nb:HO->Prop
 | .tup _=>False
 | _=>True
def Live (os:List Addr)(H:Hp):Prop:=∀a∈os,∃o,H a=some o/\Nb o
section
variable {os:List Addr}{p:Addr}
def hide_le:Same (hide os H) H:=fun b o e=>by unfold hide at e;split at e;cases e;exact e
def hide_nil:hide [] H=H:=by funext b;simp[hide]
def aF {b:Addr}(h:b∉os):hide os H b=H b:=by simp[hide,h]
def bj {b:Addr}(h:b∈os):hide os H b=none:=by simp[hide,h]
def _root_.L2.Same.hd (g:Same H H'):Same (hide os H) (hide os H'):=fun b o e=>by
 unfold hide at e ⊢;split at e
 ·cases e
 ·rename_i h;rw[if_neg h];exact g b o e
def Live.mono (l:Live os H)(g:Same H H'):Live os H':=fun a h=>let ⟨o,e,n⟩:=l a h;⟨o,g _ _ e,n⟩
def Live.ne (l:Live os H)(h:H p=none):p∉os:=fun z=>by obtain⟨o,e,_⟩:=l p z;rw[h] at e;cases e
def HB (l:Live os H){xs:List V}(h:H p=some (.tup xs)):hide os H p=some (.tup xs):=by
 rw[aF fun z=>?_]
 ·exact h
 ·obtain⟨o,e,n⟩:=l p z;rw[h] at e;cases e;exact n
def xx (l:Live os H)(h:H p=none)(o:HO):hide os (upd H p o) p=some o:=by rw[aF (l.ne h),az]
def Den.newT {ds:List D}{xs:List V}(l:Live os H)(h:H p=none)(d:Dens K (hide os H) ds xs):Den K (hide os (upd H p (.tup xs))) (.tup ds) (.ref p):=.tup (xx l h _) (d.mono (aK h _).hd _ _)
def Den.newL {ds:List D}{xs:List V}(l:Live os H)(h:H p=none)(d:Dens K (hide os H) ds xs):Den K (hide os (upd H p (.lst xs))) (.lst ds) (.ref p):=.lst (.of (xx l h _)) (d.mono (aK h _).hd _ _)
def Den.tup_up {ds:List D}{v:V}(h:Den K (hide os H) (.tup ds) v):∃a xs,v=.ref a/\SqT K H a xs/\Dens K (hide os H) ds xs:=let ⟨a,xs,e,h1,h2⟩:=h.tup_inv;⟨a,xs,e,.of (hide_le _ _ h1),h2⟩
def Den.lst_up {ds:List D}{v:V}(h:Den K (hide os H) (.lst ds) v):∃a xs,v=.ref a/\SqL K H a xs/\Dens K (hide os H) ds xs:=let ⟨a,xs,e,h1,h2⟩:=h.lst_inv;⟨a,xs,e,hide_le.seq h1,h2⟩
def Den.up {d:D}{v:V}(h:Den K (hide os H) d v):Den K H d v:=h.mono hide_le _ _
end
def Own (K:PySem.W.Frag)(B H:Hp)(a:Addr):D->Prop
 | .lst ds=>∃xs,H a=some (.lst xs)/\Dens K B ds xs
 | .dic t ks vs=>∃xs,DcAt H a t ks xs/\Dens K B vs xs
 | _=>False
def Own.mono {os:List Addr}{a:Addr}{d:D}(g:Same H H')(h:Own K (hide os H) H a d):Own K (hide os H') H' a d:=by
 cases d with
 | lst ds=>obtain⟨xs,h1,h2⟩:=h;exact⟨xs,g _ _ h1,h2.mono g.hd _ _⟩
 | dic t ks vs=>obtain⟨xs,h1,h2⟩:=h;exact⟨xs,h1.mono g,h2.mono g.hd _ _⟩
 | _=>exact h
structure Sl (X:Cx)(os:List Addr)(H:Hp)(δ:Ev)(σ:L2.St):Prop where
 n:σ.length=X.N.length
 len:X.N.length<=δ.length
 pl:∀(i:Nat) (d:D),i<X.N.length->δ[i]? = some (some d)->∃v,σ[i]? = some (some v)/\Den X.K (hide os H) d v
 ow:∀(i:Nat) (d:D),i<X.N.length->δ[i]? = some none->δ[X.N.length+i]? = some (some d)->∃a,σ[i]? = some (some (.ref a))/\a∈os/\(X.fn ""=true->X.H₀ a=none)/\Own X.K (hide os H) H a d
 inj:∀(i j:Nat) (d e:D) (a:Addr),i<X.N.length->j<X.N.length->δ[i]? = some none->δ[j]? = some none->δ[X.N.length+i]? = some (some d)->δ[X.N.length+j]? = some (some e)->σ[i]? = some (some (.ref a))->σ[j]? = some (some (.ref a))->i=j
 live:Live os H
 keep:Same X.H₀ H
section
variable {os:List Addr}{X:Cx}
def Sl.mono {δ:Ev}{σ:L2.St}(e:Same H H')(h:Sl X os H δ σ):Sl X os H' δ σ :=
 ⟨h.n,h.len,fun i d l q=>let ⟨v,a,b⟩:=h.pl i d l q;⟨v,a,b.mono e.hd _ _⟩,fun i d l q1 q2=>let ⟨a,e1,e2,e4,e3⟩:=h.ow i d l q1 q2;⟨a,e1,e2,e4,e3.mono e⟩,h.inj,h.live.mono e,h.keep.trans e⟩
def Sl.set {δ:Ev}{σ:L2.St}{d:D}{v:V}(i:Nat)(hi:i<X.N.length)(h:Sl X os H δ σ)(r:Den X.K (hide os H) d v):Sl X os H (δ.set i (some d)) (σ.set i (some v)):=by
 have hid:i<δ.length:=Nat.lt_of_lt_of_le hi h.len;have ne:∀j,(δ.set i (some d))[j]? = some none->i≠j:=fun j q z=>by
  subst z;rw[List.getElem?_set_self hid] at q;cases q
 refine⟨by simpa using h.n,by simpa using h.len,fun j d' l q=>?_,fun j d' l q1 q2=>?_,fun j k d1 d2 a l1 l2 q1 q2 q3 q4 q5 q6=>?_,h.live,h.keep⟩
 ·by_cases hj:i=j
  ·subst hj;rw[List.getElem?_set_self hid] at q;cases q;exact⟨v,by rw[List.getElem?_set_self (by rw[h.n];exact hi)],r⟩
  ·rw[List.getElem?_set_ne hj] at q ⊢;exact h.pl j d' l q
 ·have hj:=ne j q1;rw[List.getElem?_set_ne hj] at q1 ⊢;rw[List.getElem?_set_ne (by omega)] at q2;exact h.ow j d' l q1 q2
 ·have hj:=ne j q1;have hk:=ne k q2;rw[List.getElem?_set_ne hj] at q1 q5;rw[List.getElem?_set_ne hk] at q2 q6;rw[List.getElem?_set_ne (by omega)] at q3;rw[List.getElem?_set_ne (by omega)] at q4;exact h.inj j k d1 d2 a l1 l2 q1 q2 q3 q4 q5 q6
end
end
def Fin (K:PySem.W.Frag)(os:List Addr)(H:Hp)(d:D)(Q:VK):Prop:=∀v H',Same H H'->Den K (hide os H') d v->Q v H'
def Fin.mono {K:PySem.W.Frag}{os:List Addr}{H H':Hp}{d:D}{Q:VK}(e:Same H H')(h:Fin K os H d Q):Fin K os H' d Q:=fun v H2 g r=>h v H2 (e.trans g) r
def DE (X:Cx)(e:Expr)(m:ME):Prop:=∃t:TE,PE X e t/\∀os σ H δ d Q,Sl X os H δ σ->m δ=some d->Fin X.K os H d Q->t σ H Q
def DF (X:Cx)(e:Expr)(m:ME):Prop:=∃t:TE,PE X e t/\∀os σ H δ d Q,Sl X os H δ σ->m δ=some d->(∀p H',Same H H'->H p=none->Own X.K (hide (p::os) H') H' p d->Q (.ref p) H')->t σ H Q
def Ao {os:List Addr}{H:Hp}{p:Addr}(h:H p=none)(o:HO):Same (hide os H) (hide (p::os) (upd H p o)):=fun b u e=>by
 have hb:b∉os:=fun z=>by rw[bj z] at e;cases e
 rw[aF hb] at e;have hp:b≠p:=aO e h;rw[aF (by simp[hb,hp]),au hp];exact e
def Hl {os:List Addr}{H:Hp}{p:Addr}:Same (hide (p::os) H) (hide os H):=fun b u e=>by
 have hb:b∉p::os:=fun z=>by rw[bj z] at e;cases e
 rw[aF hb] at e;rw[aF (fun z=>hb (List.mem_cons_of_mem _ z))];exact e
def Own.den {K:PySem.W.Frag}{os:List Addr}{H:Hp}{p:Addr}{ds:List D}(hp:p∉os)(h:Own K (hide (p::os) H) H p (.lst ds)):Den K (hide os H) (.lst ds) (.ref p):=by
 obtain⟨xs,h1,h2⟩:=h;exact .lst (.of ((aF hp).trans h1)) (h2.mono Hl _ _)
def LQ (m:ME):Prop:=∀δ d,m δ=some d->∃ds,d=.lst ds
def DF.de {X:Cx}{e:Expr}{m:ME}(h:DF X e m)(hm:LQ m):DE X e m:=by
 obtain⟨t,p,q⟩:=h;refine⟨t,p,fun os σ H δ d Q s m k=>?_⟩;obtain⟨ds,rfl⟩:=hm _ _ m;exact q os σ H δ _ Q s m fun a H' g ha o=>k _ H' g (o.den (s.live.ne ha))
def Hj (m:MA):LQ (lw m):=fun δ d h=>by
 obtain⟨xs,_,h⟩:=Option.bind_eq_some_iff.mp h;cases h;exact⟨xs,rfl⟩
def tW (B:Ev->Ev)(i:MI)(g:MG)(c:MT)(e:ME):LQ (nR B i g c e):=fun δ d h=>by
 obtain⟨xs,_,h⟩:=Option.bind_eq_some_iff.mp h;split at h
 ·obtain⟨ys,_,h⟩:=Option.bind_eq_some_iff.mp h;cases h;exact⟨ys,rfl⟩
 ·cases h
def DT (X:Cx)(e:Expr)(m:MT):Prop:=∃t:TT,PT X e t/\∀os σ H δ b Q,Sl X os H δ σ->m δ=some b->(∀H',Same H H'->Q b H')->t σ H Q
def DW (X:Cx)(e:Expr)(m:MT):Prop:=∃t:TT,PW X e t/\∀os σ H δ b Q,Sl X os H δ σ->m δ=some b->(∀H',Same H H'->Q b H')->t σ H Q
def DA (X:Cx)(es:List Expr)(m:MA):Prop:=(∀δ ds,m δ=some ds->ds.length=es.length)/\∃t:TA,PA X es t/\∀os σ H δ ds Q,Sl X os H δ σ->m δ=some ds->(∀vs H',Same H H'->Dens X.K (hide os H') ds vs->Q vs H')->t σ H Q
def DW.dt {X:Cx}{e:Expr}{m:MT}(h:DW X e m):DT X e m:=let ⟨t,p,q⟩:=h;⟨t,p.pt,q⟩
section
variable {X:Cx}{a b c e:Expr}{es:List Expr}{ma mb mc me:ME}{pos p:Pos}
def nM {i n:Nat}(h:Nat.blt i n=true):i<n:=Nat.le_of_ble_eq_true h
def PQ (i:Nat)(h:PE X e (cG i))(hi:Nat.blt i X.N.length=true:=by rfl):DE X e (ao i):=by
 refine⟨_,h,fun os σ H δ d Q s m k=>?_⟩;obtain⟨v,e1,r⟩:=s.pl i d (nM hi) (m9 m);exact⟨v,e1,k v H (Same.refl _) r⟩
def Jc {d:D}{v:V}(h:PE X e (L2.tC v))(r:∀H,Den X.K H d v):DE X e (eC d):=by
 refine⟨_,h,fun os σ H δ d' Q s m k=>?_⟩;cases m;exact k v H (Same.refl _) (r _)
def aA {i:Int}{j:Nat}:DE X (.Constant (.int i) j pos) (eC (.int i)):=Jc dF fun _=>.int i
def Jd {i:Bool}{j:Nat}:DE X (.Constant (.bool i) j pos) (eC (.bl i)):=Jc Aj fun _=>.bl i
def Qa {j:Nat}:DE X (.Constant .none j pos) (eC .non):=Jc Om fun _=>.non
def Iz {x:Str}{j:Nat}:DE X (.Constant (.str x) j pos) (eC (.str x)):=Jc uV fun _=>.str x
def mO {x:Str}{i:Int}{t:Tok}(hg:Gl X x)(hm:X.mg x=some (.int i t))(hd:(x==("__debug__":Str))=false:=by decide):DE X (.Name x pos) (eC (.int i)) :=
 Jc (pL (v:=.int i) hg hm ⟨t,rfl⟩ hd) fun _=>.int i
def aj {α β:Type}{o:Option α}{f:α->Option β}{r:β}(h:o.bind f=some r):∃x,o=some x/\f x=some r:=by
 cases o with
 | none=>cases h
 | some x=>exact⟨x,rfl,h⟩
def vI (X:Cx)(f:Value->Value->Sem Value)(g:D->D->Option D):Prop :=
 ∃r:R2,OpR X f r/\∀os H,Live os H->∀dx dy d x y Q,Den X.K (hide os H) dx x->Den X.K (hide os H) dy y->g dx dy=some d->Fin X.K os H d Q->r x y H Q
def Ti (X:Cx)(g:D->D->Option D):Prop :=
 ∃r:R2,IxR X r/\∀os H,Live os H->∀dx dy d x y Q,Den X.K (hide os H) dx x->Den X.K (hide os H) dy y->g dx dy=some d->Fin X.K os H d Q->r x y H Q
def CallD (X:Cx)(f:Value)(g:MF):Prop :=
 ∃r,cL X f r/\∀os H,Live os H->∀ds d vs Q,Dens X.K (hide os H) ds vs->g ds=some d->Fin X.K os H d Q->r vs H Q
def two {g:D->D->Option D}{ta tb:TE}{r:R2}
 (qa:∀os σ H δ d Q,Sl X os H δ σ->ma δ=some d->Fin X.K os H d Q->ta σ H Q) (qb:∀os σ H δ d Q,Sl X os H δ σ->mb δ=some d->Fin X.K os H d Q->tb σ H Q)
 (qr:∀os H,Live os H->∀dx dy d x y Q,Den X.K (hide os H) dx x->Den X.K (hide os H) dy y->g dx dy=some d->Fin X.K os H d Q->r x y H Q) :
 ∀os σ H δ d Q,Sl X os H δ σ->aQ g ma mb δ=some d->Fin X.K os H d Q->JH r ta tb σ H Q:=by
 intro os σ H δ d Q s m k;obtain⟨dx,e1,m⟩:=aj m;obtain⟨dy,e2,m⟩:=aj m;refine qa os σ H δ dx _ s e1 fun x H1 g1 r1=>?_;refine qb os σ H1 δ dy _ (s.mono g1) e2 fun y H2 g2 r2=>?_;exact qr os H2 (s.live.mono (g1.trans g2)) dx dy d x y Q (r1.mono (g2).hd _ _) r2 m (k.mono (g1.trans g2))
def aW {op:Operator}{g:D->D->Option D}(ho:vI X (binaryOp op) g)(ha:DE X a ma)(hb:DE X b mb):DE X (.BinOp a op b pos) (aQ g ma mb):=by
 obtain⟨r,hr,qr⟩:=ho;obtain⟨ta,pa,qa⟩:=ha;obtain⟨tb,pb,qb⟩:=hb;exact⟨_,GF hr pa pb,two qa qb qr⟩
def zz {op:CmpOp}{g:D->D->Option D}(ho:vI X (compareOp op) g)(ha:DE X a ma)(hb:DE X b mb)(hm:behindInMarks op b=false):DE X (.Compare a [op] [b] pos) (aQ g ma mb):=by
 obtain⟨r,hr,qr⟩:=ho;obtain⟨ta,pa,qa⟩:=ha;obtain⟨tb,pb,qb⟩:=hb;exact⟨_,Ah hr pa pb hm,two qa qb qr⟩
def bH {g:D->D->Option D}(ho:Ti X g)(ha:DE X a ma)(hb:DE X b mb)(hs:Cg b):DE X (.Subscript a b pos) (aQ g ma mb):=by
 obtain⟨r,hr,qr⟩:=ho;obtain⟨ta,pa,qa⟩:=ha;obtain⟨tb,pb,qb⟩:=hb;exact⟨_,GQ hr pa pb hs,two qa qb qr⟩
def IV {op:BoolOp}(h:DE X a ma):DE X (.BoolOp op [a] pos) ma:=let ⟨t,p,q⟩:=h;⟨t,GJ p,q⟩
def Je {rest:List Expr}(ha:DE X a ma)(hb:DE X (.BoolOp .And (b::rest) pos) mb):DE X (.BoolOp .And (a::b::rest) pos) (Ie ma mb):=by
 obtain⟨ta,pa,qa⟩:=ha;obtain⟨tb,pb,qb⟩:=hb;refine⟨_,G5 pa pb,fun os σ H δ d Q s m k=>?_⟩;obtain⟨dx,e1,m⟩:=aj m;refine qa os σ H δ dx _ s e1 fun x H1 g1 r1=>?_;cases dx with
 | bl z =>
   refine⟨z,r1.bl_inv,?_⟩;cases z with
   | true=>exact qN (qb os σ H1 δ d Q (s.mono g1) m (k.mono g1))
   | false=>cases m;exact oZ (k _ H1 g1 (.bl false))
 | _=>cases m
def P0 (ha:DE X a ma):DE X (.UnaryOp .Not a pos) (Rw ma):=by
 obtain⟨ta,pa,qa⟩:=ha;refine⟨_,Ol pa,fun os σ H δ d Q s m k=>?_⟩;obtain⟨dx,e1,m⟩:=aj m;refine qa os σ H δ dx _ s e1 fun x H1 g1 r1=>?_;cases dx with
 | bl z =>
   cases m;exact⟨z,r1.bl_inv,k _ H1 g1 (.bl _)⟩
 | _=>cases m
def Fe {K:PySem.W.Frag}{os:List Addr}{H:Hp}{d:D}{x:V}{b:Bool}(r:Den K (hide os H) d x)(h:truth d=some b):Qq K x H b:=by
 cases d with
 | non=>rw[r.non_inv];cases h;exact rfl
 | bl z=>rw[r.bl_inv];cases h;exact rfl
 | int i=>rw[r.int_inv];cases h;exact rfl
 | str z=>cases h
 | dic t ks vs=>cases h
 | tup ds =>
   obtain⟨a,xs,rfl,h1,h2⟩:=r.tup_up;cases h;refine .inr (.inl ⟨xs,h1,?_⟩);have:=h2.length;cases ds <;> cases xs <;> simp_all
 | lst ds =>
   obtain⟨a,xs,rfl,h1,h2⟩:=r.lst_up;cases h;refine .inl ⟨xs,h1,?_⟩;have:=h2.length;cases ds <;> cases xs <;> simp_all
def u9 (ha:DE X a ma)(he:∀whole,isTrue a X.env whole=(do let v <-whole;standAt a.pos;holding [v] (truthy v)):=by intro _;rfl):DT X a (tV ma):=by
 obtain⟨ta,pa,qa⟩:=ha;refine⟨_,wC pa he,fun os σ H δ b Q s m k=>?_⟩;obtain⟨dx,e1,m⟩:=aj m;exact qa os σ H δ dx _ s e1 fun x H1 g1 r1=>⟨b,Fe r1 m,k H1 g1⟩
def fK {op:CmpOp}{g:D->D->Option D}(ho:vI X (compareOp op) g)(ha:DE X a ma)(hb:DE X b mb)(hm:behindInMarks op b=false)
 (hg:∀x y d,g x y=some d->∃k,d=.bl k):DT X (.Compare a [op] [b] pos) (tV (aQ g ma mb)):=by
 obtain⟨r,hr,qr⟩:=ho;obtain⟨ta,pa,qa⟩:=ha;obtain⟨tb,pb,qb⟩:=hb;refine⟨_,zZ hr pa pb hm,fun os σ H δ z Q s m k=>?_⟩;obtain⟨d,m1,m2⟩:=aj m;have hb':∃k,d=.bl k:=by
  obtain⟨x,_,m1⟩:=aj m1;obtain⟨y,_,m1⟩:=aj m1;exact hg x y d m1
 obtain⟨k',rfl⟩:=hb';cases m2;exact two qa qb qr os σ H δ _ _ s m1 fun v H1 g1 r1=>⟨z,r1.bl_inv,k H1 g1⟩
variable {na nb:MT}
def Le (ha:DT X a na):DW X (.BoolOp .And [a] pos) na:=let ⟨t,p,q⟩:=ha;⟨t,zY p,q⟩
def zm (ha:DT X a na):DW X (.BoolOp .Or [a] pos) na:=let ⟨t,p,q⟩:=ha;⟨t,Od p,q⟩
def Py {rest:List Expr}(ha:DT X a na)(hb:DW X (.BoolOp .And (b::rest) pos) nb):DW X (.BoolOp .And (a::b::rest) pos) (tAnd na nb):=by
 obtain⟨ta,pa,qa⟩:=ha;obtain⟨tb,pb,qb⟩:=hb;refine⟨_,Gr pa pb,fun os σ H δ z Q s m k=>?_⟩;obtain⟨x,e1,m⟩:=aj m;refine qa os σ H δ x _ s e1 fun H1 g1=>?_;cases x with
 | true=>exact qN (qb os σ H1 δ z Q (s.mono g1) m fun H2 g2=>k H2 (g1.trans g2))
 | false=>cases m;exact oZ (k H1 g1)
def Bu {rest:List Expr}(ha:DT X a na)(hb:DW X (.BoolOp .Or (b::rest) pos) nb):DW X (.BoolOp .Or (a::b::rest) pos) (tOr na nb):=by
 obtain⟨ta,pa,qa⟩:=ha;obtain⟨tb,pb,qb⟩:=hb;refine⟨_,Q4 pa pb,fun os σ H δ z Q s m k=>?_⟩;obtain⟨x,e1,m⟩:=aj m;refine qa os σ H δ x _ s e1 fun H1 g1=>?_;cases x with
 | false=>exact oZ (qb os σ H1 δ z Q (s.mono g1) m fun H2 g2=>k H2 (g1.trans g2))
 | true=>cases m;exact qN (k H1 g1)
def zp (ha:DT X a na):DT X (.UnaryOp .Not a pos) (tNot na):=by
 obtain⟨ta,pa,qa⟩:=ha;refine⟨_,Gs pa,fun os σ H δ z Q s m k=>?_⟩;obtain⟨x,e1,m⟩:=aj m;cases m;exact qa os σ H δ x _ s e1 fun H1 g1=>k H1 g1
def aG:DA X [] aD:=⟨fun δ ds h=>by cases h;rfl,_,aY,fun os σ H δ ds Q s m k=>by cases m;exact k [] H (Same.refl _) .nil⟩
def aq {mr:MA}(ha:DE X e me)(hr:DA X es mr)(hs:starEach (e::es) X.env=(false,eval e X.env)::starEach es X.env:=by rfl):DA X (e::es) (ak me mr):=by
 obtain⟨ta,pa,qa⟩:=ha;obtain⟨hl,tr,pr,qr⟩:=hr;refine⟨fun δ ds h=>?_,_,aJ pa pr hs,fun os σ H δ ds Q s m k=>?_⟩
 ·obtain⟨x,_,h⟩:=aj h;obtain⟨xs,e2,h⟩:=aj h;cases h;simp[hl δ xs e2]
 ·obtain⟨x,e1,m⟩:=aj m;obtain⟨xs,e2,m⟩:=aj m;cases m;refine qa os σ H δ x _ s e1 fun v H1 g1 r1=>?_;exact qr os σ H1 δ xs _ (s.mono g1) e2 fun vs H2 g2 r2=>k (v::vs) H2 (g1.trans g2) (.cons (r1.mono (g2).hd _ _) r2)
def lz {x1:Nat}{m:MA}(h:DA X es m)(hn:es.length<=sizeLine):DE X (.Tuple es x1 pos) (mH m):=by
 obtain⟨hl,t,p,q⟩:=h;refine⟨_,uU p,fun os σ H δ d Q s m k=>?_⟩;obtain⟨ds,e1,m⟩:=aj m;cases m;refine q os σ H δ ds _ s e1 fun vs H1 g1 r1=>⟨by rw[<-r1.length,hl δ ds e1];exact hn,fun a ha=>?_⟩;exact k _ _ (g1.trans (aK ha (.tup vs))) (.newT (s.live.mono g1) ha r1)
def nW {m:MA}(h:DA X es m)(hn:es.length<=sizeLine):DF X (.List es pos) (lw m):=by
 obtain⟨hl,t,p,q⟩:=h;refine⟨_,GP p,fun os σ H δ d Q s m k=>?_⟩;obtain⟨ds,e1,m⟩:=aj m;cases m;refine q os σ H δ ds _ s e1 fun vs H1 g1 r1=>⟨by rw[<-r1.length,hl δ ds e1];exact hn,fun a ha=>?_⟩;exact k a _ (g1.trans (aK ha (.lst vs))) (g1.free ha) ⟨vs,az,r1.mono (Ao ha _) _ _⟩
def Qc {m:MA}(h:DA X es m)(hn:es.length<=sizeLine):DE X (.List es pos) (lw m):=(nW h hn).de (Hj m)
def rJ (K:PySem.W.Frag)(f:MF):Sp:=fun vs H Q _=>∃os ds r,Live os H/\Dens K (hide os H) ds vs/\f ds=some r/\Fin K os H r Q
def Lq {f:Addr}{fd:FuncData}{ps:List Str}{k:Nat}{x:Str}{fn:MF}{m:MA}(F:eF X.prog X.w X.K X.mg X.base ou k f fd ps (rJ X.K fn))(hr:Room k X.A)(hg:Gl X x)(hm:X.mg x=some (.ref f))(hk:PySem.W.keepIn X.K (.ref f)=true)
 (hb:Binds X.K fd ps []) (ha:DA X (e::es) m) (hdb:(x==("__debug__":Str))=false:=by decide) (he:starEach (e::es) X.env=(false,eval e X.env)::starEach es X.env:=by rfl) (hpl:(backTo pos (starEach es X.env)).any (·.1)=false:=by rfl) :
 DE X (.Call (.Name x p) (e::es) [] pos) (aB fn m):=by
 obtain⟨hl,t,pt,q⟩:=ha;refine⟨_,gG F hr hg hm hk hb .nil iw pt hdb he hpl,fun os σ H δ d Q s m k=>?_⟩;obtain⟨ds,e1,m⟩:=aj m;refine q os σ H δ ds _ s e1 fun vs H1 g1 r1=>?_;rw[List.append_nil];exact⟨os,ds,d,s.live.mono g1,r1,m,k.mono g1⟩
def fu {id:String}{x:Str}{fn:MF}{m:MA}(hc:CallD X (.builtin id) fn)(hg:Gl X x)(hm:X.mg x=none)(hv:bootBuiltins x=some (.builtin id))(ha:DA X (e::es) m)(hn:x≠"__name__":=by decide)(hdb:(x==("__debug__":Str))=false:=by decide)
 (he:starEach (e::es) X.env=(false,eval e X.env)::starEach es X.env:=by rfl) (hpl:(backTo pos (starEach es X.env)).any (·.1)=false:=by rfl) :
 DE X (.Call (.Name x p) (e::es) [] pos) (aB fn m):=by
 obtain⟨r,hr,qr⟩:=hc;obtain⟨hl,t,pt,q⟩:=ha;refine⟨_,iu hr hg hm hv pt hn hdb he hpl,fun os σ H δ d Q s m k=>?_⟩;obtain⟨ds,e1,m⟩:=aj m;exact q os σ H δ ds _ s e1 fun vs H1 g1 r1=>qr os H1 (s.live.mono g1) ds d vs Q r1 m (k.mono g1)
def dh {T:String}{x:Str}{fn:MF}{m:MA}(hc:CallD X (.type T) fn)(hg:Gl X x)(hm:X.mg x=none)(hv:bootBuiltins x=some (.type T))(ha:DA X (e::es) m)(hn:x≠"__name__":=by decide)(hdb:(x==("__debug__":Str))=false:=by decide)
 (he:starEach (e::es) X.env=(false,eval e X.env)::starEach es X.env:=by rfl) (hpl:(backTo pos (starEach es X.env)).any (·.1)=false:=by rfl) :
 DE X (.Call (.Name x p) (e::es) [] pos) (aB fn m):=by
 obtain⟨r,hr,qr⟩:=hc;obtain⟨hl,t,pt,q⟩:=ha;refine⟨_,ir hr hg hm hv pt hn hdb he hpl,fun os σ H δ d Q s m k=>?_⟩;obtain⟨ds,e1,m⟩:=aj m;exact q os σ H δ ds _ s e1 fun vs H1 g1 r1=>qr os H1 (s.live.mono g1) ds d vs Q r1 m (k.mono g1)
end
section
variable {X:Cx}
def Tw (K:PySem.W.Frag):R2:=fun x y H Q=>∃l b xs ys,x=.ref l/\y=.ref b/\SqL K H l xs/\SqL K H b ys/\xs.length+ys.length<=sizeLine/\∀p,H p=none->Q (.ref p) (upd H p (.lst (xs++ys)))
def op_catL:OpR X (binaryOp .Add) (Tw X.K):=by
 intro pins s σ H x y v u Q I rx ry h;obtain⟨l,b,xs,ys,rfl,rfl,hl,hb,hz,q⟩:=h;cases rx;cases ry;obtain⟨its,r1,⟨⟨c1,d1,dt1,sl1⟩,n1,e1,c1',d1',t1'⟩,_⟩:=I.list hl;obtain⟨its2,r2,⟨⟨c2,d2,dt2,sl2⟩,n2,e2,c2',d2',t2'⟩,_⟩:=I.list hb;simp only at c1' d1' t1' c2' d2' t2';subst c1' d1' t1' c2' d2' t2';have l1:=r1.length;have l2:=r2.length;refine concat_meets ⟨_,e1,rfl⟩ ⟨_,e2,rfl⟩ noFill_list_add seq_list_add F.slot_list_add F.entry_list_add (F.args_list_add_2 _ _)
  (list_addW l b its.toArray its2.toArray n1 n2 none none sl1 sl2 (by rw[List.size_toArray,List.size_toArray];omega)) ⟨e1,e2,?_⟩
 have ea:its.toArray++its2.toArray=(its++its2).toArray:=by simp
 rw[ea];exact⟨.ref _,_,I.lnew (t':=s.toks) (r1.append r2) (by rw[List.length_append];omega),rfl,q _ I.fresh⟩
def Tv (K:PySem.W.Frag):R2:=fun x y H Q=>∃a b xs ys,x=.ref a/\y=.ref b/\SqT K H a xs/\SqT K H b ys/\xs.length+ys.length<=sizeLine /\
 (xs=[]->Q (.ref b) H)/\(xs≠[]->ys=[]->Q (.ref a) H)/\(xs≠[]->ys≠[]->∀p,H p=none->Q (.ref p) (upd H p (.tup (xs++ys))))
def op_catTT:OpR X (binaryOp .Add) (Tv X.K):=by
 intro pins s σ H x y v u Q I rx ry h;obtain⟨a,b,xs,ys,rfl,rfl,ha,hb,hz,q0,q1,q2⟩:=h;by_cases hx:xs=[]
 ·cases rx;cases ry;subst hx;obtain⟨its,r1,⟨⟨c1,d1,dt1,sl1⟩,e1,c1',n1,t1'⟩,_⟩:=I.tuple ha;obtain⟨its2,r2,⟨⟨c2,d2,dt2,sl2⟩,e2,c2',n2,t2'⟩,_⟩:=I.tuple hb;simp only at c1' t1' c2' t2';subst c1' t1' c2' t2';have hi:its=[]:=r1.nil_iff.mpr rfl;exact concat_meets ⟨_,e1,rfl⟩ ⟨_,e2,rfl⟩ noFill_tuple_add seq_tuple_add PySem.F.slot_tuple_add PySem.F.entry_tuple_add (PySem.F.args_tuple_add_2 _ _)
   (tuple_addW0 a b its.toArray its2.toArray n1 n2 d1 d2 sl1 sl2 (by simp[hi])) ⟨e1,e2,⟨.ref b,H,I,rfl,q0 rfl⟩⟩
 ·exact KD pins s σ H _ _ v u Q I rx ry ⟨a,b,xs,ys,rfl,rfl,ha,hb,hx,hz,q1 hx,q2 hx⟩
def bB:sizeLine=16777216:=sizeLine_eq
def eU:vI X (binaryOp .Add) eE:=by
 refine⟨_,op_add.or (op_catL.or (op_catTT.or yO)),fun os H L dx dy d x y Q rx ry m k=>?_⟩;cases dx with
 | int i =>
   cases dy with
   | int j =>
     cases m;exact .inl ⟨i,j,rx.int_inv,ry.int_inv,k _ H (Same.refl _) (.int _)⟩
   | _=>cases m
 | lst xs =>
   cases dy with
   | lst ys =>
     have m':(if xs.length+ys.length<=16777216 then some (D.lst (xs++ys)) else none)=some d:=m;split at m'
     ·rename_i hz;cases m';obtain⟨a,vs,rfl,h1,h2⟩:=rx.lst_up;obtain⟨b,ws,rfl,h3,h4⟩:=ry.lst_up;refine .inr (.inl ⟨a,b,vs,ws,rfl,rfl,h1,h3,by rw[<-h2.length,<-h4.length,bB];exact hz,fun p hp=>?_⟩);exact k _ _ (aK hp (.lst (vs++ws))) (.newL L hp (h2.append h4))
     ·cases m'
   | _=>cases m
 | tup xs =>
   cases dy with
   | tup ys =>
     have m':(if xs.length+ys.length<=16777216 then some (D.tup (xs++ys)) else none)=some d:=m;split at m'
     ·rename_i hz;cases m';obtain⟨a,vs,rfl,h1,h2⟩:=rx.tup_up;obtain⟨b,ws,rfl,h3,h4⟩:=ry.tup_up;refine .inr (.inr (.inl ⟨a,b,vs,ws,rfl,rfl,h1,h3,by rw[<-h2.length,<-h4.length,bB];exact hz,fun e=>?_,fun _ e=>?_,fun _ _ p hp=>?_⟩))
      ·subst e;have:xs=[]:=by have:=h2.length;cases xs <;> simp_all
       subst this;exact k _ H (Same.refl _) ry
      ·subst e;have:ys=[]:=by have:=h4.length;cases ys <;> simp_all
       subst this;rw[List.append_nil] at k;exact k _ H (Same.refl _) rx
      ·exact k _ _ (aK hp (.tup (vs++ws))) (.newT L hp (h2.append h4))
     ·cases m'
   | _=>cases m
 | str x =>
   cases dy with
   | str y =>
     have m':(if x.length+y.length<=16777216 then some (D.str (x++y)) else none)=some d:=m;split at m'
     ·rename_i hz;cases m';exact .inr (.inr (.inr ⟨x,y,rx.str_inv,ry.str_inv,by rw[bB];exact hz,k _ H (Same.refl _) (.str _)⟩))
     ·cases m'
   | _=>cases m
 | _=>cases m
def jC {g:Int->Int->Option D}{dx dy d:D}(h:oI g dx dy=some d):∃i j,dx=.int i/\dy=.int j/\g i j=some d:=by
 cases dx with
 | int i =>
   cases dy with
   | int j=>exact⟨i,j,rfl,rfl,h⟩
   | _=>cases h
 | _=>cases h
def nH:vI X (binaryOp .Sub) oY:=by
 refine⟨_,Ov,fun os H L dx dy d x y Q rx ry m k=>?_⟩;obtain⟨i,j,rfl,rfl,m⟩:=jC m;cases m;exact⟨i,j,rx.int_inv,ry.int_inv,k _ H (Same.refl _) (.int _)⟩
def iT:vI X (binaryOp .Mod) oMod:=by
 refine⟨_,Ow,fun os H L dx dy d x y Q rx ry m k=>?_⟩;obtain⟨i,j,rfl,rfl,m2⟩:=jC m;split at m2
 ·rename_i hj;cases m2;exact⟨i,j,rx.int_inv,ry.int_inv,hj,k _ H (Same.refl _) (.int _)⟩
 ·cases m2
def uY:vI X (binaryOp .FloorDiv) wR:=by
 refine⟨_,KC,fun os H L dx dy d x y Q rx ry m k=>?_⟩;obtain⟨i,j,rfl,rfl,m2⟩:=jC m;split at m2
 ·rename_i hj;cases m2;exact⟨i,j,rx.int_inv,ry.int_inv,hj,k _ H (Same.refl _) (.int _)⟩
 ·cases m2
def nJ:fillsNumberSlot (.type "tuple") "mul"=pure false :=
 PySem.fillsNumberSlot_seq (id:="tuple.__mul__") (r:=some (.builtin "tuple.__rmul__")) F.slot_tuple_mul.lookup (by decide +kernel) F.slot_tuple_rmul.lookup (by decide +kernel)
def uP:seqRepeat? (.type "tuple")=pure (some (.builtin "tuple.__mul__")):=by
 unfold seqRepeat?;rw[PySem.seqSlot_of (T:="tuple") (name:="__mul__") (id:="tuple.__mul__") F.slot_tuple_mul.lookup (by decide +kernel),PySem.seqSlot_of (T:="tuple") (name:="__rmul__") (id:="tuple.__rmul__") F.slot_tuple_rmul.lookup (by decide +kernel)];rfl
def qP (a:Int)(t:Tok)(l:Addr)(items:Array Value)(n:Nat)(dd:Option Addr)(sl:Array (Option Value)) :
 Meets (Builtin.«int.__rmul__» ⟨[.int a t,.ref l],[]⟩) (fun _ R s=>s.heap.get? l=some { cls:=.type "tuple",dict:=dd,data:=.seq items n,slots:=sl }/\R (.ok (.ret Value.notImplemented)) s) :=
 .of_wp fun prog w A R s h=>by obtain⟨hp,g,d,tk,os⟩:=s;obtain⟨hl,h⟩:=h;wp_walk;exact⟨_,rfl,h⟩
end
def Fr (X:Cx)(os:List Addr)(H:Hp)(os':List Addr)(H':Hp):Prop:=Same (hide os H) (hide os' H')/\∀b∈os,X.H₀ b≠none->b∈os'
def Fr.of {X:Cx}{os:List Addr}{H H':Hp}(g:Same H H'):Fr X os H os H':=⟨g.hd,fun _ h _=>h⟩
def Fr.trans {X:Cx}{os os1 os2:List Addr}{H H1 H2:Hp}(a:Fr X os H os1 H1)(b:Fr X os1 H1 os2 H2):Fr X os H os2 H2:=⟨a.1.trans b.1,fun c h n=>b.2 c (a.2 c h n) n⟩
def Ok (X:Cx)(PX:Prop)(D:Ends)(os:List Addr)(H:Hp):Rs->Prop
 | .nx δ=>∀σ H' os',Fr X os H os' H'->Sl X os' H' δ σ->D.nx σ H'
 | .bk δ=>∀σ H' os',Fr X os H os' H'->Sl X os' H' δ σ->D.bk σ H'
 | .ct δ=>∀σ H' os',Fr X os H os' H'->Sl X os' H' δ σ->D.ct σ H'
 | .rt d=>∀v H' os',Fr X os H os' H'->Same X.H₀ H'->Den X.K (hide os' H') d v->D.rt v H'
 | .ex=>PX
def Ok.mono {X:Cx}{PX:Prop}{D:Ends}{os os':List Addr}{H H':Hp}{r:Rs}(e:Fr X os H os' H')(h:Ok X PX D os H r):Ok X PX D os' H' r:=by
 cases r with
 | nx δ=>exact fun σ H2 os2 g s=>h σ H2 os2 (e.trans g) s
 | bk δ=>exact fun σ H2 os2 g s=>h σ H2 os2 (e.trans g) s
 | ct δ=>exact fun σ H2 os2 g s=>h σ H2 os2 (e.trans g) s
 | rt d=>exact fun v H2 os2 g=>h v H2 os2 (e.trans g)
 | ex=>exact h
def DS (X:Cx)(PX:Prop)(st:Stmt)(m:MS):Prop:=∃t:TS,PS X st t/\∀os σ H δ r D,Sl X os H δ σ->m δ=some r->Ok X PX D os H r->t D σ H
def Ep (X:Cx)(PX:Prop)(st:List Stmt)(m:MS):Prop:=∃t:TS,PSs X st t/\∀os σ H δ r D,Sl X os H δ σ->m δ=some r->Ok X PX D os H r->t D σ H
def DG (X:Cx)(e:Expr)(g:MG):Prop:=∃t:TG,PG X e t/\∀os v σ H d δ δ' Q,Sl X os H δ σ->Den X.K (hide os H) d v->g d δ=some δ'->(∀σ' H',Same H H'->Sl X os H' δ' σ'->Q σ' H')->t v σ H Q
def R4 (X:Cx)(es:List Expr)(g:JG):Prop:=∃t:M9,RL X es t/\∀os vs σ H ds δ δ' Q,Sl X os H δ σ->Dens X.K (hide os H) ds vs->g ds δ=some δ'->(∀σ' H',Same H H'->Sl X os H' δ' σ'->Q σ' H')->t vs σ H Q
section
variable {X:Cx}{PX:Prop}{st:Stmt}{rest sts sts':List Stmt}{m m':MS}{a b c e tg:Expr}{ma mb:ME}{mc:MT}{pos pos':Pos}
def mJ:Ep X PX [] wj:=⟨_,iQ,fun os σ H δ r D s m k=>by cases m;exact k σ H os (.of (Same.refl _)) s⟩
def aN (h:DS X PX st m):Ep X PX [st] m:=let ⟨t,p,q⟩:=h;⟨t,bD p,q⟩
def aL (h1:DS X PX st m)(h2:Ep X PX rest m'):Ep X PX (st::rest) (bY m m'):=by
 obtain⟨t,p,q⟩:=h1;obtain⟨t',p',q'⟩:=h2;refine⟨_,aP p p',fun os σ H δ r D s m k=>?_⟩;obtain⟨r1,e1,m⟩:=aj m;refine q os σ H δ r1 _ s e1 ?_;cases r1 with
 | nx δ'=>exact fun σ' H' os' g s'=>q' os' σ' H' δ' r D s' m (k.mono g)
 | bk δ'=>cases m;exact k
 | ct δ'=>cases m;exact k
 | rt d=>cases m;exact k
 | ex=>cases m;exact k
def bf (h:DE X e ma):DS X PX (.Return (some e) pos) (bZ ma):=by
 obtain⟨t,p,q⟩:=h;refine⟨_,jB p,fun os σ H δ r D s m k=>?_⟩;obtain⟨d,e1,m⟩:=aj m;cases m;exact q os σ H δ d _ s e1 fun v H' g r=>k v H' os (.of g) (s.keep.trans g) r
def xK (hc:DT X c mc)(ha:Ep X PX sts m)(hb:Ep X PX sts' m'):DS X PX (.If c sts sts' pos) (Es mc m m'):=by
 obtain⟨tc,pc,qc⟩:=hc;obtain⟨ta,pa,qa⟩:=ha;obtain⟨tb,pb,qb⟩:=hb;refine⟨_,wD pc pa pb,fun os σ H δ r D s m k=>?_⟩;obtain⟨x,e1,m⟩:=aj m;refine qc os σ H δ x _ s e1 fun H1 g1=>?_;cases x with
 | true=>exact qN (qa os σ H1 δ r D (s.mono g1) m (k.mono (.of g1)))
 | false=>exact oZ (qb os σ H1 δ r D (s.mono g1) m (k.mono (.of g1)))
def Lh {i:Nat}{x:Str}(h:PG X (.Name x pos) (cR i))(hi:Nat.blt i X.N.length=true:=by rfl):DG X (.Name x pos) (gN i):=by
 refine⟨_,h,fun os v σ H d δ δ' Q s r m k=>?_⟩;cases m;exact k _ H (Same.refl _) (s.set i (nM hi) r)
def mK:R4 X [] jl:=by
 refine⟨_,Af,fun os vs σ H ds δ δ' Q s r m k=>?_⟩;cases ds with
 | nil=>cases m;exact⟨r.unnil,k σ H (Same.refl _) s⟩
 | cons d ds=>cases m
def cI {es:List Expr}{g:MG}{gs:JG}(h1:DG X e g)(h2:R4 X es gs)
 (hs:(assignEach (e::es) X.env).map (·.2)=assign e X.env::(assignEach es X.env).map (·.2):=by rfl):R4 X (e::es) (bK g gs):=by
 obtain⟨t,p,q⟩:=h1;obtain⟨t',p',q'⟩:=h2;refine⟨_,qz p p' hs,fun os vs σ H ds δ δ' Q s r m k=>?_⟩;cases ds with
 | nil=>cases m
 | cons d ds =>
   obtain⟨δ1,e1,m⟩:=aj m;obtain⟨x,xs,rfl,h1,h2⟩:=r.uncons;refine⟨x,xs,rfl,q os x σ H d δ δ1 _ s h1 e1 fun σ1 H1 g1 s1=>?_⟩;exact q' os xs σ1 H1 ds δ1 δ' Q s1 (h2.mono g1.hd _ _) m fun σ2 H2 g2 s2=>k σ2 H2 (g1.trans g2) s2
def rm {es:List Expr}{k:Nat}{gs:JG}(hc:X.calm=true)(h:R4 X es gs)(hl:∀ds δ δ',gs ds δ=some δ'->ds.length=es.length)
 (hn:(assignEach es X.env).length=es.length:=by rfl) (hst:(assignEach es X.env).findIdx? (·.1)=none:=by rfl):DG X (.Tuple es k pos) (gT gs):=by
 obtain⟨t,p,q⟩:=h;refine⟨_,GC hc p hn hst,fun os v σ H d δ δ' Q s r m kq=>?_⟩;cases d with
 | tup ds =>
   obtain⟨a,xs,rfl,h1,h2⟩:=r.tup_up;exact⟨a,xs,rfl,h1,by rw[<-h2.length];exact hl ds δ δ' m,q os xs σ H ds δ δ' Q s h2 m kq⟩
 | _=>cases m
def iC (ds:List D)(δ δ':Ev)(h:jl ds δ=some δ'):ds.length=0:=by
 cases ds with
 | nil=>rfl
 | cons _ _=>cases h
def bC {g:MG}{gs:JG}{n:Nat}(h:∀ds δ δ',gs ds δ=some δ'->ds.length=n)(ds:List D)(δ δ':Ev)(e:bK g gs ds δ=some δ'):ds.length=n+1:=by
 cases ds with
 | nil=>cases e
 | cons d ds =>
   obtain⟨δ1,_,e⟩:=aj e;simp[h ds δ1 δ' e]
def bU {g:MG}(he:DE X e ma)(hg:DG X tg g)(hs:swapsWithSole [tg] e pos.line X.env=pure false:=by rfl)(hw:swappedStores [tg] e X.env=pure none:=by rfl)
 (h1:(assignEach [tg] X.env).map (·.2)=[assign tg X.env]:=by rfl):DS X PX (.Assign [tg] e pos) (d8 ma g):=by
 obtain⟨t,p,q⟩:=he;obtain⟨t',p',q'⟩:=hg;refine⟨_,gU p p' hs hw h1,fun os σ H δ r D s m k=>?_⟩;obtain⟨d,e1,m⟩:=aj m;obtain⟨δ',e2,m⟩:=aj m;cases m;refine q os σ H δ d _ s e1 fun v H1 g1 r1=>?_;exact q' os v σ H1 d δ δ' _ (s.mono g1) r1 e2 fun σ2 H2 g2 s2=>k σ2 H2 os (.of (g1.trans g2)) s2
def PB {i j:Nat}{x y:Str}{px py pt:Pos}{kt k2:Nat}{pt2:Pos}(hc:X.calm=true)(hN:X.N.Nodup)(hi:X.N[i]? = some x)(hj:X.N[j]? = some y)(hij:i≠j)
 (hx:X.env.scope.names.lookup x=some .local) (hy:X.env.scope.names.lookup y=some .local) (ha:DE X a ma) (hb:DE X b mb)
 (hw:swappedStores [.Tuple [.Name x px,.Name y py] kt pt] (.Tuple [a,b] k2 pt2) X.env=pure (some [x,y]))
 (hs:swapsWithSole [.Tuple [.Name x px,.Name y py] kt pt] (.Tuple [a,b] k2 pt2) pos.line X.env=pure false:=by rfl)
 (h1:starEach [a,b] X.env=(false,eval a X.env)::starEach [b] X.env:=by rfl) (h2:starEach [b] X.env=(false,eval b X.env)::starEach [] X.env:=by rfl) :
 DS X PX (.Assign [.Tuple [.Name x px,.Name y py] kt pt] (.Tuple [a,b] k2 pt2) pos) (QV i j ma mb):=by
 obtain⟨ta,pa,qa⟩:=ha;obtain⟨tb,pb,qb⟩:=hb;refine⟨_,Oh hc hN hi hj hij hx hy (aJ pa (aJ pb aY h2) h1) hw hs,fun os σ H δ r D s m k=>?_⟩;obtain⟨dx,e1,m⟩:=aj m;obtain⟨dy,e2,m⟩:=aj m;cases m;refine qa os σ H δ dx _ s e1 fun v H1 g1 r1=>?_;refine qb os σ H1 δ dy _ (s.mono g1) e2 fun w H2 g2 r2=>?_;exact⟨v,w,rfl,k _ H2 os (.of (g1.trans g2)) (((s.mono (g1.trans g2)).set i (List.getElem?_eq_some_iff.mp hi).1 (r1.mono g2.hd _ _)).set j (List.getElem?_eq_some_iff.mp hj).1 r2)⟩
def Walk (K:PySem.W.Frag)(J:It)(B:Hp)(xs:List D):Prop:=∀i os1 H1,Live os1 H1->Same B (hide os1 H1)->(∀d,xs[i]? = some d->J.go i H1/\∀x H2,J.yld i H1 x H2->Same H1 H2/\Den K (hide os1 H2) d x)/\(i=xs.length->J.stop i H1)
def DI (X:Cx)(tg e:Expr)(m:MI):Prop:=∃wi:TI,PI X tg e wi/\∀os σ H δ xs R,Sl X os H δ σ->m δ=some xs->(∀J H',Same H H'->Walk X.K J (hide os H') xs->R J H')->wi σ H R
def vf {iter:Expr}{body:List Stmt}{mi:MI}{g:MG}(hp:PassesOwn (model X.prog X.w) X.A X.env X.xe)(hc:X.calm=true)(hi:DI X tg iter mi)(hg:DG X tg g)(hb:Ep X PX body m)
 (hs:∀x,foldedSetIterable iter X.env x=pure x:=by intro _;rfl):DS X PX (.For tg iter body [] pos) (yF mi g m):=by
 obtain⟨wi,pi,qi⟩:=hi;obtain⟨t',p',q'⟩:=hg;obtain⟨tb,pb,qb⟩:=hb;refine⟨_,uR hp hc pi p' pb hs,fun os σ H δ r D s me k=>?_⟩;obtain⟨xs,e1,me⟩:=aj me;refine qi os σ H δ xs _ s e1 fun J H1 g1 wk=>?_;refine⟨fun i n σ2 H2=>n=xs.length-i/\i<=xs.length/\∃os2 δ2,Fr X os H1 os2 H2/\Sl X os2 H2 δ2 σ2/\forM g m (xs.drop i) δ2=some r,⟨xs.length,by simp,Nat.zero_le _,os,δ,.of (Same.refl _),s.mono g1,by simpa using me⟩,?_⟩;rintro i n σ2 H2 ⟨rfl,hi,os2,δ2,g2,s2,m2⟩;obtain⟨w1,w2⟩:=wk i os2 H2 s2.live g2.1;by_cases hlt:i<xs.length
 ·have hx:xs[i]? = some xs[i]:=List.getElem?_eq_getElem hlt;obtain⟨go,yl⟩:=w1 _ hx;rw[List.drop_eq_getElem_cons hlt,forM] at m2;obtain⟨δ3,e3,m2⟩:=aj m2;obtain⟨r3,e4,m2⟩:=aj m2;refine .inr ⟨go,fun σ' H'=>∃m',m'<xs.length-i/\(m'=xs.length-(i+1)/\i+1<=xs.length/\∃os2 δ2,Fr X os H1 os2 H'/\Sl X os2 H' δ2 σ'/\forM g m (xs.drop (i+1)) δ2=some r),fun σ' H' h=>h,fun x H3 y=>?_⟩;obtain⟨g3,r1⟩:=yl x H3 y;refine q' os2 x σ2 H3 _ δ2 δ3 _ (s2.mono g3) r1 e3 fun σ4 H4 g4 s4=>?_;have g14:Fr X os H1 os2 H4:=g2.trans (.of (g3.trans g4));have again:∀δ5,forM g m (xs.drop (i+1)) δ5=some r->∀σ5 H5 os5,Fr X os2 H4 os5 H5->Sl X os5 H5 δ5 σ5->∃m',m'<xs.length-i/\(m'=xs.length-(i+1)/\i+1<=xs.length/\∃os2 δ2,Fr X os H1 os2 H5/\Sl X os2 H5 δ2 σ5/\forM g m (xs.drop (i+1)) δ2=some r) :=
   fun δ5 h5 σ5 H5 os5 g5 s5=>⟨xs.length-(i+1),by omega,rfl,hlt,os5,δ5,g14.trans g5,s5,h5⟩
  refine qb os2 σ4 H4 δ3 r3 _ s4 e4 ?_;have kk:Ok X PX D os2 H4 r->Ok X PX D os2 H4 r:=id;cases r3 with
  | nx δ5=>exact fun σ5 H5 os5 g5 s5=>again δ5 m2 σ5 H5 os5 g5 s5
  | ct δ5=>exact fun σ5 H5 os5 g5 s5=>again δ5 m2 σ5 H5 os5 g5 s5
  | bk δ5=>cases m2;exact fun σ5 H5 os5 g5 s5=>k σ5 H5 os5 ((Fr.of g1).trans (g14.trans g5)) s5
  | rt d=>cases m2;exact Ok.mono (r:=.rt d) ((Fr.of g1).trans g14) k
  | ex=>cases m2;exact k
 ·have e:i=xs.length:=by omega
  subst e;rw[List.drop_length] at m2;cases m2;exact .inl ⟨w2 rfl,k σ2 H2 os2 ((Fr.of g1).trans g2) s2⟩
def Ig {body:List Stmt}(hp:PassesOwn (model X.prog X.w) X.A X.env X.xe)(hc:DT X c mc)(hb:Ep X PX body m):DS X PX (.While c body [] pos) (nq mc m):=by
 obtain⟨tc,pc,qc⟩:=hc;obtain⟨tb,pb,qb⟩:=hb;refine⟨_,Gv hp pc pb,fun os σ H δ r D s me k=>?_⟩;obtain⟨n0,h0⟩:=yE me;refine⟨fun n σ2 H2=>∃os2 δ2,Fr X os H os2 H2/\Sl X os2 H2 δ2 σ2/\vH mc m n δ2=some r,⟨n0,os,δ,.of (Same.refl _),s,h0⟩,?_⟩;rintro n σ2 H2 ⟨os2,δ2,g2,s2,m2⟩;cases n with
 | zero=>cases m2
 | succ n =>
   rw[vH] at m2;obtain⟨b,e1,m2⟩:=aj m2;refine qc os2 σ2 H2 δ2 b _ s2 e1 fun H3 g3=>?_;cases b with
   | false =>
     rw[if_neg Bool.false_ne_true] at m2;cases m2;exact oZ (k σ2 H3 os2 (g2.trans (.of g3)) (s2.mono g3))
   | true =>
     rw[if_pos rfl] at m2;obtain⟨r3,e3,m2⟩:=aj m2;refine qN ⟨fun σ' H'=>∃m',m'<n+1/\(∃os2 δ2,Fr X os H os2 H'/\Sl X os2 H' δ2 σ'/\vH mc m m' δ2=some r),fun σ' H' h=>h,?_⟩;refine qb os2 σ2 H3 δ2 r3 _ (s2.mono g3) e3 ?_;have g23:=g2.trans (Fr.of g3);cases r3 with
     | nx δ5=>exact fun σ5 H5 os5 g5 s5=>⟨n,Nat.lt_succ_self _,os5,δ5,g23.trans g5,s5,m2⟩
     | ct δ5=>exact fun σ5 H5 os5 g5 s5=>⟨n,Nat.lt_succ_self _,os5,δ5,g23.trans g5,s5,m2⟩
     | bk δ5=>cases m2;exact fun σ5 H5 os5 g5 s5=>k σ5 H5 os5 (g23.trans g5) s5
     | rt d=>cases m2;exact Ok.mono (r:=.rt d) g23 k
     | ex=>cases m2;exact k
def Ci {K:PySem.W.Frag}{B:Hp}{a:Addr}{ds:List D}{xs:List V}(h1:SqL K B a xs)(h2:Dens K B ds xs):Walk K (JK K a) B ds:=by
 intro i os1 H1 L g;have gu:=g.trans hide_le;refine⟨fun d hd=>?_,fun hl=>⟨xs,gu.seq h1,by rw[<-h2.length,hl];exact Nat.le_refl _⟩⟩;obtain⟨x,hx,r⟩:=h2.get hd;refine⟨⟨xs,x,gu.seq h1,hx⟩,fun y H2 z=>?_⟩;obtain⟨rfl,z⟩:=z;have:=z xs (gu.seq h1);rw[hx] at this;cases this;exact⟨Same.refl _,r.mono g _ _⟩
def vN {K:PySem.W.Frag}{B:Hp}{a:Addr}{ds:List D}{xs:List V}(h1:SqT K B a xs)(h2:Dens K B ds xs):Walk K (R0 K a) B ds:=by
 intro i os1 H1 L g;have gu:=g.trans hide_le;refine⟨fun d hd=>?_,fun hl=>⟨xs,NK gu h1,by rw[<-h2.length,hl];exact Nat.le_refl _⟩⟩;obtain⟨x,hx,r⟩:=h2.get hd;refine⟨⟨xs,x,NK gu h1,hx⟩,fun y H2 z=>?_⟩;obtain⟨rfl,z⟩:=z;have:=z xs (NK gu h1);rw[hx] at this;cases this;exact⟨Same.refl _,r.mono g _ _⟩
def ye {K:PySem.W.Frag}{H:Hp}(n:Nat):Walk K (R1 0 n) H (dq n):=by
 intro i os1 H1 L g;have hlen:(dq n).length=n:=by simp[dq]
 refine⟨fun d hd=>?_,fun hl=>by rw[hlen] at hl;exact Nat.le_of_eq hl.symm⟩;have hi:i<n:=by
  have:=(List.getElem?_eq_some_iff.mp hd).1;rw[hlen] at this;exact this
 refine⟨hi,fun y H2 z=>?_⟩;obtain⟨rfl,rfl⟩:=z;have e:d=.int (0+(i:Int)):=by
  unfold dq at hd;rw[List.getElem?_map,List.getElem?_range hi] at hd;cases hd;simp
 subst e;exact⟨Same.refl _,.int _⟩
def K7 (K:PySem.W.Frag)(tl:TE):TI:=fun σ H R=>tl σ H fun x H1=>∃a,x=.ref a/\(((∃xs,SqL K H1 a xs)/\R (JK K a) H1)\/((∃xs,SqT K H1 a xs)/\R (R0 K a) H1))
def De {l:Expr}{tl:TE}(hl:PE X l tl):PI X tg l (K7 X.K tl):=by
 intro pins s σ H R I h;refine bw (hl pins s σ H _ I h) fun v s1 ⟨x,H1,I1,r1,q1⟩=>?_;obtain⟨a,e,q⟩:=q1;subst e;cases r1;have fp:∀b∈[s1.heap.objs.size],jZ X pins H1 b:=fun b hb=>by
  have e:b=s1.heap.objs.size:=by simpa using hb
  subst e;exact I1.fpOk (Nat.le_refl _) (I1.hok.fresh (Nat.le_refl _))
 rcases q with ⟨⟨xs,hq⟩,q⟩ | ⟨⟨xs,hq⟩,q⟩
 ·obtain⟨its,rv,p,hz⟩:=I1.list hq;refine wpAny_pyIter_list p.isList ?_;exact⟨s1.heap.objs.size,[s1.heap.objs.size],_,_,H1,rfl,I1.kept (t':=s1.toks) fun b o e=>Heap.get?_push_of_some _ e,sH a _,⟨_,Heap.get?_push_size _ rfl,rfl,rfl⟩,fp,q⟩
 ·obtain⟨its,rv,p,hz⟩:=I1.tuple hq;refine wpAny_pyIter_tuple (show s1.heap.IsTuple a its.toArray from p) ?_;exact⟨s1.heap.objs.size,[s1.heap.objs.size],_,_,H1,rfl,I1.kept (t':=s1.toks) fun b o e=>Heap.get?_push_of_some _ e,pU a _,⟨_,Heap.get?_push_size _ rfl,rfl,rfl⟩,fp,q⟩
def q9 {l:Expr}(h:DE X l ma):DI X tg l (qQ ma):=by
 obtain⟨t,p,q⟩:=h;refine⟨_,De p,fun os σ H δ xs R s m k=>?_⟩;obtain⟨d,e1,m⟩:=aj m;refine q os σ H δ d _ s e1 fun v H1 g1 r1=>?_;cases d with
 | tup ds =>
   cases m;obtain⟨a,ys,rfl,h1,h2⟩:=r1.tup_inv;exact⟨a,rfl,.inr ⟨⟨ys,.of (hide_le _ _ h1)⟩,k _ H1 g1 (vN (.of h1) h2)⟩⟩
 | lst ds =>
   cases m;obtain⟨a,ys,rfl,h1,h2⟩:=r1.lst_inv;exact⟨a,rfl,.inl ⟨⟨ys,hide_le.seq h1⟩,k _ H1 g1 (Ci h1 h2)⟩⟩
 | _=>cases m
def xO {p:Pos}(hg:Gl X "range")(hm:X.mg "range"=none)(h:DE X a ma)(hs:starEach [a] X.env=(false,eval a X.env)::starEach [] X.env:=by rfl)(hs':starEach [a] X.env=[(false,eval a X.env)]:=by rfl) :
 DI X tg (.Call (.Name "range" p) [a] [] pos) (iZ ma):=by
 obtain⟨t,pt,q⟩:=h;refine⟨_,CZ hg hm (aJ pt aY hs) hs',fun os σ H δ xs R s m k=>?_⟩;obtain⟨d,e1,m⟩:=aj m;refine q os σ H δ d _ s e1 fun v H1 g1 r1=>?_;cases d with
 | int j =>
   have m':(if -1073741824<j/\j<1073741824 then some (dq j.toNat) else none)=some xs:=m;split at m'
   ·rename_i hj;cases m';rw[r1.int_inv];exact⟨j,rfl,by omega,by omega,k _ H1 g1 (ye _)⟩
   ·cases m'
 | _=>cases m
def FQ {X:Cx}{os:List Addr}{H:Hp}{ds:List D}{vs:List V}{np kk:Nat}(L:Live os H)(hH:X.H₀=H)(d:Dens X.K (hide os H) ds vs)(hl:ds.length=np)(hp:np<=X.N.length)(hk:X.N.length<=kk) :
 Sl X os H (ds.map some++List.replicate (kk-np) none) (L2.start X.N vs):=by
 have hv:=d.length;have none_at:∀i z,ds.length<=i->(ds.map some++List.replicate (kk-np) none)[i]? = some (some z)->False:=fun i z hi hz=>by
  rw[List.getElem?_append_right (by simpa using hi),List.getElem?_replicate] at hz;split at hz <;> cases hz
 refine⟨by unfold L2.start;simp;omega,by simp;omega,fun i z hi hz=>?_,fun i z hi h1 h2=>(none_at _ z (by omega) h2).elim,fun i j z y a hi hj h1 h2 h3 h4=>(none_at _ z (by omega) h3).elim,L,hH ▸ Same.refl _⟩;by_cases hi':i<ds.length
 ·unfold L2.start;rw[List.getElem?_append_left (by simpa using hi'),List.getElem?_map] at hz;rw[List.getElem?_append_left (by rw[List.length_map,<-hv];exact hi'),List.getElem?_map];cases hq:ds[i]? with
  | none=>rw[hq] at hz;cases hz
  | some y =>
    rw[hq] at hz;cases hz;obtain⟨v,hv,rv⟩:=d.get hq;exact⟨v,by rw[hv];rfl,rv⟩
 ·exact(none_at i z (by omega) hz).elim
def Rt {P:Program}{w:World}{K:PySem.W.Frag}{mg:Str->Option Value}{base:Heap}{x qual:Str}{st:Stmt}{f:Addr}{fd:FuncData}{N ps:List Str}{k kk:Nat}(hkk:N.length<=kk)(F:Fun K x qual st f fd)(S:cF N ps (aH st))
 (h:∀(cdv:Value) (A:Around) (outer:List Env) (s:Shared) (H:Hp) (E:XK),Room k (A.deeper (envOfC qual (aH st) s.heap.objs.size f cdv)) ->
  Ep (jY ou P w K mg base N qual (aH st) f cdv A outer s H E).nox False (dg st) m) :
 eF P w K mg base ou (k+1) f fd ps (rJ K (jt ps.length kk m)):=by
 have hpl:ps.length<=N.length:=by have:=congrArg List.length S.pre;rw[List.length_take] at this;omega
 have inv:∀ds r,jt ps.length kk m ds=some r->ds.length=ps.length/\((m (ds.map some++List.replicate (kk-ps.length) none)=some (.rt r))\/(∃δ,m (ds.map some++List.replicate (kk-ps.length) none)=some (.nx δ)/\r=.non)):=by
  intro ds r e;unfold jt at e;split at e
  ·rename_i hl;obtain⟨q,e1,e⟩:=aj e;refine⟨hl,?_⟩;cases q with
   | rt d=>cases e;exact .inl e1
   | nx δ=>cases e;exact .inr ⟨δ,e1,rfl⟩
   | bk δ=>cases e
   | ct δ=>cases e
   | ex=>cases e
  ·cases e
 refine F.ok S (fun vs H Q E hq=>?_) (fun cdv A outer s H vs Q E hr hq=>?_)
 ·obtain⟨os,ds,r,L,d,e,_⟩:=hq;rw[<-d.length];exact(inv ds r e).1
 ·obtain⟨os,ds,r,L,d,e,kq⟩:=hq;obtain⟨t,p,q⟩:=h cdv A outer s H E hr;obtain⟨hl,e2⟩:=inv ds r e;have s0:=FQ (X:=(jY ou P w K mg base N qual (aH st) f cdv A outer s H E).nox) (kk:=kk) L rfl d hl hpl hkk;refine⟨t,p,?_⟩;rcases e2 with e2 | ⟨δ,e2,e3⟩
  ·refine q os _ H _ (.rt r) _ s0 e2 fun v H' os' fr sm dn=>kq v H' sm (dn.mono (fun b o z=>?_) _ _);have hb:b∉os':=fun y=>by rw[bj y] at z;cases z
   rw[aF hb] at z;have hb2:b∉os:=fun y=>hb (fr.2 b y fun n=>by
    obtain⟨o',e',_⟩:=L b y;have n':H b=none:=n;rw[n'] at e';cases e')
   rw[aF hb2];exact z
  ·subst e3;exact q os _ H _ (.nx δ) _ s0 e2 fun σ H' os' fr sl=>kq .non H' sl.keep .non
end
noncomputable def nY (cells:List (Str×Addr)):List (Str×NameKind)->List (Str×Addr)
 | []=>[]
 | (n,k)::r=>nY cells r++(if k==.free then (match cells.lookup n with | some c=>[(n,c)] | none=>[]) else [])
def mR {cells:List (Str×Addr)}{x:Str}{c:Addr}:∀{names:List (Str×NameKind)},(x,c)∈nY cells names->cells.lookup x=some c
 | [],h=>by cases h
 | (n,k)::r,h=>by
   unfold nY at h;rcases List.mem_append.mp h with h | h
   ·exact mR h
   ·split at h
    ·split at h
     ·rename_i c' e;have:=List.mem_singleton.mp h;cases this;exact e
     ·cases h
    ·cases h
def rB {cells:List (Str×Addr)}{x:Str}{c:Addr}(hc:cells.lookup x=some c):∀{names:List (Str×NameKind)},(x,NameKind.free)∈names->(x,c)∈nY cells names
 | [],h=>by cases h
 | (n,k)::r,h=>by
   unfold nY;rcases List.mem_cons.mp h with h | h
   ·cases h;refine List.mem_append_right _ ?_;rw[if_pos (by rfl),hc];exact List.mem_singleton.mpr rfl
   ·exact List.mem_append_left _ (rB hc h)
def gW {x:Str}{c:Addr}:∀{l:List (Str×Addr)},(x,c)∈l->∃c',l.lookup x=some c'
 | [],h=>by cases h
 | (n,d)::r,h=>by
   rw[List.lookup_cons];cases hx:x==n with
   | true=>exact⟨d,rfl⟩
   | false =>
     rcases List.mem_cons.mp h with h | h
     ·cases h;rw[beq_self_eq_true] at hx;cases hx
     ·exact gW h
def zB {sc:Scope}{env:Env}(h:∀y∈sc.names,y.2=.free->∃c,env.cells.lookup y.1=some c):closureFor sc env=pure (nY env.cells sc.names):=by
 have go:∀(names:List (Str×NameKind)),(∀y∈names,y.2=.free->∃c,env.cells.lookup y.1=some c)->∀(acc:List (Str×Addr)),
  (forIn names acc fun (x:Str×NameKind) (r:List (Str×Addr))=>(if (x.2==NameKind.free)=true then do let c <-cellOf env x.1;pure (ForInStep.yield ((x.1,c)::r)) else pure (ForInStep.yield r):Sem (ForInStep (List (Str×Addr)))))=pure (nY env.cells names++acc):=by
  intro names;induction names with
  | nil=>intro _ acc;rfl
  | cons y r ih =>
    intro h acc;obtain⟨n,k⟩:=y;rw[List.forIn_cons];unfold nY;by_cases hk:k=.free
    ·subst hk;obtain⟨c,hc⟩:=h (n,.free) List.mem_cons_self rfl;have e1:cellOf env n=pure c:=by unfold cellOf;rw[hc]
     simp only[beq_self_eq_true,if_true,e1,pure_bind,hc];rw[ih (fun y hy=>h y (List.mem_cons_of_mem _ hy))];rw[List.append_assoc];rfl
    ·have hk':(k==NameKind.free)=false:=by simpa using hk
     simp only[hk',Bool.false_eq_true,if_false,pure_bind,List.append_nil];exact ih (fun y hy=>h y (List.mem_cons_of_mem _ hy)) acc
 have:=go sc.names h [];rw[List.append_nil] at this;unfold closureFor;first
  | (rw[show (pure (nY env.cells sc.names):Sem _)=(pure (nY env.cells sc.names) >>= fun cs=>pure cs) from rfl,<-this];rfl)
  | (simp only[this,pure_bind];done)
  | (refine Eq.trans ?_ this;simp)
abbrev jo (X:Cx)(sc:Scope)(N:List Str)(C:Addr)(s:Shared)(H:Hp)(fp:List Addr):Cx where
 prog:=X.prog
 w:=X.w
 K:=X.K
 mg:=X.mg
 base:=X.base
 A:=X.A
 N:=N
 s₀:=s
 H₀:=H
 env:=compEnvC sc (nY X.env.cells sc.names) C X.env
 outer:=X.stack
 stack:=X.stack
 ex:=fp
 fn:=fun _=>false
 calm:=X.calm
 pn:=[]
 xe:=fun _ _=>False
structure bW (scX sc:Scope)(NX N:List Str)(k:Nat)(fv:List Nat):Prop where
 kind:sc.kind=.function
 nocell:∀y∈sc.names,y.2≠.cell
 names:∀y∈sc.names,y.2=.local->sc.names.lookup y.1=some .local
 freeX:∀y∈sc.names,y.2=.free->scX.names.lookup y.1=some .cell
 len:N.length=k+fv.length
 nd:N.Nodup
 fvs:∀t,t<fv.length->NX[fv.getD t 0]? = N[k+t]?/\(N[k+t]?.bind fun x=>sc.names.lookup x)=some .free
def xZ (Y:Cx):List Expr->MT->Prop
 | [],m=>m=tT
 | [c],m=>DT Y c m
 | _,_=>False
def Below (k:Nat)(g:MG):Prop:=∀d δ δ',g d δ=some δ'->δ'.length=δ.length/\∀i,k<=i->δ'[i]? = δ[i]?
def bL {k i:Nat}(h:i<k):Below k (gN i):=by
 intro d δ δ' e;cases e;exact⟨by simp,fun j hj=>by rw[List.getElem?_set_ne (by omega)]⟩
def vD (k:Nat)(g:JG):Prop:=∀ds δ δ',g ds δ=some δ'->δ'.length=δ.length/\∀i,k<=i->δ'[i]? = δ[i]?
def lA {k:Nat}:vD k jl:=by
 intro ds δ δ' e;cases ds with
 | nil=>cases e;exact⟨rfl,fun _ _=>rfl⟩
 | cons _ _=>cases e
def dH {k:Nat}{g:MG}{gs:JG}(h:Below k g)(hs:vD k gs):vD k (bK g gs):=by
 intro ds δ δ' e;cases ds with
 | nil=>cases e
 | cons d ds =>
   obtain⟨δ1,e1,e⟩:=aj e;obtain⟨a1,a2⟩:=h d δ δ1 e1;obtain⟨b1,b2⟩:=hs ds δ1 δ' e;exact⟨b1.trans a1,fun i hi=>(b2 i hi).trans (a2 i hi)⟩
def nZ {k:Nat}{gs:JG}(h:vD k gs):Below k (gT gs):=by
 intro d δ δ' e;cases d with
 | tup ds=>exact h ds δ δ' e
 | _=>cases e
section
variable {X:Cx}{scX sc:Scope}{NX N:List Str}{k:Nat}{fv:List Nat}
def gF {α:Type}(k:Nat)(fv:List Nat)(δ:List (Option α)):(pick k fv δ).length=k+fv.length:=by simp[pick]
def tH {α:Type}{k:Nat}{fv:List Nat}{δ:List (Option α)}{i:Nat}{d:α}(h:(pick k fv δ)[i]? = some (some d)):∃t j,i=k+t/\fv[t]? = some j/\δ[j]? = some (some d):=by
 unfold pick at h;by_cases hi:i<k
 ·rw[List.getElem?_append_left (by simpa using hi),List.getElem?_replicate] at h;split at h <;> cases h
 ·rw[List.getElem?_append_right (by simpa using hi),List.length_replicate,List.getElem?_map] at h;cases q:fv[i-k]? with
  | none=>rw[q] at h;cases h
  | some j =>
    rw[q] at h;refine⟨i-k,j,by omega,q,?_⟩;exact m9 (Option.some.inj h)
def pJ {α:Type}{k:Nat}{fv:List Nat}{δ:List (Option α)}{t j:Nat}{d:α}(h:fv[t]? = some j)(hd:δ[j]? = some (some d)):(pick k fv δ)[k+t]? = some (some d):=by
 unfold pick;rw[List.getElem?_append_right (by simp),List.length_replicate,List.getElem?_map,show k+t-k=t by omega,h];simp[slot,hd]
def Hf {α:Type}:∀{l:List α} {i j:Nat},l.Nodup->(hi:i<l.length)->(hj:j<l.length)->l[i]=l[j]->i=j
 | [],_,_,_,hi,_,_=>absurd hi (by simp)
 | a::l,0,0,_,_,_,_=>rfl
 | a::l,0,j+1,nd,_,hj,e=>by
   rw[List.nodup_cons] at nd;exact absurd (by rw[show a=l[j]'(by simpa using hj) from by simpa using e];exact List.getElem_mem _) nd.1
 | a::l,i+1,0,nd,hi,_,e=>by
   rw[List.nodup_cons] at nd;exact absurd (by rw[show a=l[i]'(by simpa using hi) from by simpa using e.symm];exact List.getElem_mem _) nd.1
 | a::l,i+1,j+1,nd,hi,hj,e=>by
   rw[List.nodup_cons] at nd;exact congrArg (·+1) (Hf (l:=l) nd.2 (by simpa using hi) (by simpa using hj) (by simpa using e))
def Bp (S:bW scX sc NX N k fv){t j:Nat}(h:fv[t]? = some j):j<NX.length:=by
 have ht:t<fv.length:=(List.getElem?_eq_some_iff.mp h).1;obtain⟨q1,q2⟩:=S.fvs t ht;have hj:fv.getD t 0=j:=by rw[List.getD_eq_getElem?_getD,h];rfl
 rw[hj] at q1;cases e:N[k+t]? with
 | none=>rw[e] at q2;cases q2
 | some x=>rw[e] at q1;exact(List.getElem?_eq_some_iff.mp q1).1
structure Blk (X:Cx)(k:Nat)(fv:List Nat)(B:Ev->Ev):Prop where
 len:∀δ,k+fv.length<=(B δ).length
 pl:∀δ i d,i<k+fv.length->(B δ)[i]? = some (some d)->∃t j,i=k+t/\fv[t]? = some j/\δ[j]? = some (some d)
 own:∀δ i,i<k->(B δ)[i]? = some none
 ow:∀δ i d,X.N.length<=δ.length->i<k+fv.length->(B δ)[i]? = some none->(B δ)[k+fv.length+i]? = some (some d)->∃t j,i=k+t/\fv[t]? = some j/\(j<X.N.length->δ[j]? = some none)/\δ[X.N.length+j]? = some (some d)
def xV:Blk X k fv (pick k fv):=by
 refine⟨fun δ=>Nat.le_of_eq (gF k fv δ).symm,fun δ i d _ h=>tH h,fun δ i h=>?_,fun δ i d _ _ _ h=>?_⟩
 ·unfold pick;rw[List.getElem?_append_left (by simpa using h),List.getElem?_replicate,if_pos h]
 ·rw[List.getElem?_eq_none (by rw[gF];omega)] at h;cases h
def Qn {B:Ev->Ev}(hB:Blk X k fv B)(S:bW scX sc NX N k fv)(hN:X.N=NX){os:List Addr}{H:Hp}{δ:Ev}{σ:L2.St}{C:Addr}{s:Shared}{fp:List Addr}(sl:Sl X os H δ σ):Sl (jo X sc N C s H fp) os H (B δ) (pick k fv σ):=by
 have hl:(jo X sc N C s H fp).N.length=k+fv.length:=S.len;refine⟨by rw[gF,hl],by rw[hl];exact hB.len δ,fun i d hi h=>?_,fun i d hi h1 h2=>?_,fun i i' d e a hi hi' h1 h1' h2 h2' h3 h3'=>?_,sl.live,Same.refl _⟩
 ·rw[hl] at hi;obtain⟨t,j,rfl,e1,e2⟩:=hB.pl δ i d hi h;obtain⟨v,e3,r⟩:=sl.pl j d (by rw[hN];exact Bp S e1) e2;exact⟨v,pJ e1 e3,r⟩
 ·rw[hl] at hi h2;obtain⟨t,j,rfl,e1,e2,e3⟩:=hB.ow δ i d sl.len hi h1 h2;have hj:j<X.N.length:=by rw[hN];exact Bp S e1
  obtain⟨a,q1,q2,_,q3⟩:=sl.ow j d hj (e2 hj) e3;exact⟨a,pJ e1 q1,q2,fun z=>absurd (show false=true from z) Bool.false_ne_true,q3⟩
 ·rw[hl] at hi hi' h2 h2';obtain⟨t,j,rfl,e1,e2,e3⟩:=hB.ow δ i d sl.len hi h1 h2;obtain⟨t',j',rfl,e1',e2',e3'⟩:=hB.ow δ i' e sl.len hi' h1' h2';have hj:j<X.N.length:=by rw[hN];exact Bp S e1
  have hj':j'<X.N.length:=by rw[hN];exact Bp S e1'
  obtain⟨a1,q1,_⟩:=sl.ow j d hj (e2 hj) e3;obtain⟨a2,q1',_⟩:=sl.ow j' e hj' (e2' hj') e3';have p1:=pJ (k:=k) e1 q1;have p2:=pJ (k:=k) e1' q1';rw[h3] at p1;rw[h3'] at p2;cases p1;cases p2;have ej:=sl.inj j j' d e a hj hj' (e2 hj) (e2' hj') e3 e3' q1 q1';subst ej;obtain⟨f1,_⟩:=S.fvs t (List.getElem?_eq_some_iff.mp e1).1;obtain⟨f2,_⟩:=S.fvs t' (List.getElem?_eq_some_iff.mp e1').1;have g1:fv.getD t 0=j:=by rw[List.getD_eq_getElem?_getD,e1];rfl
  have g2:fv.getD t' 0=j:=by rw[List.getD_eq_getElem?_getD,e1'];rfl
  rw[g1] at f1;rw[g2] at f2;have nd:=S.nd;have l1:k+t<N.length:=by rw[S.len];omega
  have l2:k+t'<N.length:=by rw[S.len];omega
  rw[f1,List.getElem?_eq_getElem l1,List.getElem?_eq_getElem l2] at f2;exact Hf nd l1 l2 (Option.some.inj f2)
def Sl.back {B:Ev->Ev}{Y:Cx}(hB:Blk X k fv B)(hY:Y.N.length=k+fv.length){os:List Addr}{H:Hp}{δ δ1:Ev}{σ:L2.St}(s:Sl Y os H δ1 σ)(hx:X.N.length<=δ.length)(hl:δ1.length=(B δ).length)(hb:∀i,k<=i->δ1[i]? = (B δ)[i]?):Sl Y os H (B δ) σ:=by
 have go:∀i d,i<Y.N.length->(B δ)[i]? = some none->(B δ)[Y.N.length+i]? = some (some d)->δ1[i]? = some none/\δ1[Y.N.length+i]? = some (some d):=fun i d hi h1 h2=>by
  rw[hY] at hi;obtain⟨t,j,rfl,_⟩:=hB.ow δ i d hx hi h1 (by rw[<-hY];exact h2);exact⟨(hb _ (Nat.le_add_right _ _)).trans h1,(hb _ (by rw[hY];omega)).trans h2⟩
 refine⟨s.n,by rw[hY];exact hB.len δ,fun i d hi h=>?_,fun i d hi h1 h2=>?_,fun i j d e a hi hj h1 h2 h3 h4 h5 h6=>?_,s.live,s.keep⟩
 ·obtain⟨t,j,rfl,_,_⟩:=hB.pl δ i d (by rw[<-hY];exact hi) h;exact s.pl _ d hi ((hb _ (Nat.le_add_right _ _)).trans h)
 ·obtain⟨q1,q2⟩:=go i d hi h1 h2;exact s.ow i d hi q1 q2
 ·obtain⟨q1,q2⟩:=go i d hi h1 h3;obtain⟨q3,q4⟩:=go j e hj h2 h4;exact s.inj i j d e a hi hj q1 q3 q2 q4 h5 h6
def lV {env:Env}:∀{names:List (Str×NameKind)} {x:Str},(∀y∈names,y.2≠.cell) ->
 ((names.map fun (n,k)=>if (k==NameKind.free&&env.scope.kind==.function&&env.kindOf n==some .cell) then (n,NameKind.cell) else (n,k)).lookup x=some .cell \/
  (names.map fun (n,k)=>if (k==NameKind.free&&env.scope.kind==.function&&env.kindOf n==some .cell) then (n,NameKind.cell) else (n,k)).lookup x=some .free)->names.lookup x=some .free
 | [],_,_,h=>by rcases h with h | h <;> cases h
 | (n,k)::r,x,hc,h=>by
   have ih:=@lV env r x fun y hy=>hc y (List.mem_cons_of_mem _ hy);rw[List.map_cons] at h;have e1:∀q:Str×NameKind,q=(if (k==NameKind.free&&env.scope.kind==.function&&env.kindOf n==some .cell) then (n,NameKind.cell) else (n,k))->q.1=n:=fun q hq=>by rw[hq];split <;> rfl
   rw[List.lookup_cons];have hk:=hc (n,k) List.mem_cons_self;cases hx:x==n with
   | true =>
     by_cases hf:k=.free
     ·subst hf;rfl
     ·have hf':(k==NameKind.free)=false:=by simpa using hf
      simp only[hf',Bool.false_and,Bool.false_eq_true,if_false,List.lookup_cons,hx] at h;rcases h with h | h
      ·cases h;exact absurd rfl hk
      ·cases h;exact absurd rfl hf
   | false =>
     refine ih ?_;by_cases hq:(k==NameKind.free&&env.scope.kind==.function&&env.kindOf n==some .cell)=true
     ·simpa only[hq,if_true,List.lookup_cons,hx] using h
     ·simpa only[hq,Bool.false_eq_true,if_false,List.lookup_cons,hx] using h
def mF {x:Str}{k:NameKind}:∀{names:List (Str×NameKind)},names.lookup x=some k->(x,k)∈names
 | [],h=>by cases h
 | (n,j)::r,h=>by
   rw[List.lookup_cons] at h;cases hx:x==n with
   | true =>
     rw[hx] at h;cases h;have:=eq_of_beq hx;subst this;exact List.mem_cons_self
   | false =>
     rw[hx] at h;exact List.mem_cons_of_mem _ (mF h)
def Dq {pins:List (Addr×Obj)}{σ:L2.St}{H:Hp}{s:Shared}{fp:List Addr}{h1:Heap}{tk:Nat}{m:Str->Option Value}{C:Addr}(I:Inv X pins σ H s)(S:bW scX sc NX N k fv)(hX:X.env.scope=scX)(hN:X.N=NX)
 (hf:∀b∈fp,jZ X pins H b) (hfl:∀b∈fp,b<s.heap.objs.size) (hC:s.heap.objs.size<=C) (hns:h1.Ns C m) (kept:∀b o,s.heap.get? b=some o->h1.get? b=some o) :
 Inv (jo X sc N C s H fp) [] (pick k fv σ) H { s with heap:=h1,toks:=tk }:=by
 have hcl:∀x c,(nY X.env.cells sc.names).lookup x=some c->X.env.cells.lookup x=some c:=fun x c h=>mR (PySem.mem_of_lookup h);have hfree:∀x,sc.names.lookup x=some .free->X.env.kindOf x=some .cell:=fun x h=>by
  have:=S.freeX (x,.free) (mF h) rfl;show X.env.scope.names.lookup x=_;rw[hX];exact this
 have hkind:X.env.scope.kind=.function:=I.ok.kind;have hrel:∀x,sc.names.lookup x=some .free->(relabel sc X.env).names.lookup x=some .cell\/(relabel sc X.env).names.lookup x=some .free:=fun x h=>by
  have go:∀(names:List (Str×NameKind)),names.lookup x=some .free->(names.map fun (n,k)=>if (k==NameKind.free&&X.env.scope.kind==.function&&X.env.kindOf n==some .cell) then (n,NameKind.cell) else (n,k)).lookup x=some .cell \/
   (names.map fun (n,k)=>if (k==NameKind.free&&X.env.scope.kind==.function&&X.env.kindOf n==some .cell) then (n,NameKind.cell) else (n,k)).lookup x=some .free:=by
   intro names;induction names with
   | nil=>intro h;cases h
   | cons y r ih =>
     obtain⟨n,j⟩:=y;intro h;rw[List.lookup_cons] at h;rw[List.map_cons];by_cases hq:(j==NameKind.free&&X.env.scope.kind==.function&&X.env.kindOf n==some .cell)=true
     ·simp only[hq,if_true,List.lookup_cons];cases hx:x==n with
      | true=>exact .inl rfl
      | false=>rw[hx] at h;exact ih h
     ·simp only[hq,Bool.false_eq_true,if_false,List.lookup_cons];cases hx:x==n with
      | true=>rw[hx] at h;cases h;exact .inr rfl
      | false=>rw[hx] at h;exact ih h
  exact go sc.names h
 have stk:∀b∈frs X.stack,b∈X.env.locals::X.fs:=I.stkSub;have neC:∀b,b<s.heap.objs.size->b≠C:=fun b hb=>Nat.ne_of_lt (Nat.lt_of_lt_of_le hb hC);have hall:∀x,(X.env.kindOf x=some .cell\/X.env.kindOf x=some .free)->∃c,X.env.cells.lookup x=some c:=I.ok.has;have okY:(jo X sc N C s H fp).Ok:=by
  refine⟨I.ok.mod,S.kind,I.ok.glob,I.ok.blt,hC,fun x y c h1 h2=>I.ok.inj x y c (hcl x c h1) (hcl y c h2),fun x hx=>?_,fun x c h _=>?_,I.ok.hd,I.ok.frames,.inl rfl,fun b hb=>?_,I.bs,Nat.le_trans I.ok.bsz I.sz,fun b o e hb=>?_,fun b hb hb'=>?_,I.stack,I.stkFree⟩
  ·have hx':sc.names.lookup x=some .free:=lV (env:=X.env) S.nocell hx;obtain⟨c,hc⟩:=hall x (.inl (hfree x hx'));exact gW (rB hc (mF hx'))
  ·exact absurd (show false=true from h) Bool.false_ne_true
  ·exact⟨neC b (hfl b hb),fun x c e=>(hf b hb).2.2.2.2.1 x c (hcl x c e)⟩
  ·have hf':=(hf b hb).2.2.2.1;rcases hf' with z | z
   ·exact I.ok.noex b o e z
   ·exact absurd (Nat.lt_of_lt_of_le (Heap.lt_size e) (Nat.le_trans I.ok.bsz z)) (Nat.lt_irrefl _)
  ·rcases List.mem_cons.mp (stk b hb') with z | z
   ·exact(hf b hb).2.1 z
   ·exact(hf b hb).2.2.1 z
 refine⟨okY,rfl,I.bare,Un.kept kept,⟨m,hns,fun i x v e1 e2 e3=>?_⟩,fun x c e=>?_,I.hok.fresh hC,fun x c e=>I.freeC x c (hcl x c e),fun p hp=>absurd (show p∈([]:List (Addr×Obj)) from hp) (by simp),I.hok.kept kept,?_⟩
 ·obtain⟨t,j,rfl,f1,f2⟩:=tH e2;have ht:t<fv.length:=(List.getElem?_eq_some_iff.mp f1).1;obtain⟨q1,q2⟩:=S.fvs t ht;have hj:fv.getD t 0=j:=by rw[List.getD_eq_getElem?_getD,f1];rfl
  rw[hj] at q1;have e1':N[k+t]? = some x:=e1;rw[e1'] at q1 q2;have q2':sc.names.lookup x=some .free:=q2;obtain⟨m0,_,hl⟩:=I.loc;obtain⟨u,r,l⟩:=hl j x v (by rw[hN];exact q1) f2 (.inr (.inl (hfree x q2')));refine⟨u,r,.inr ⟨hrel x q2',?_⟩⟩;rcases l with ⟨kx,_⟩ | ⟨_,c,ec,ic⟩
  ·rw[hfree x q2'] at kx;cases kx
  ·obtain⟨c',hc'⟩:=gW (rB ec (mF q2'));have:c'=c:=by
    have:=hcl x c' hc';rw[ec] at this;exact(Option.some.inj this).symm
   subst this;obtain⟨o,ho,hd⟩:=ic;exact⟨c',hc',o,kept _ _ ho,hd⟩
 ·obtain⟨v,o,ho,hd⟩:=I.cell x c (hcl x c e);exact⟨v,o,kept _ _ ho,hd⟩
 ·rw[gF];exact S.len.symm
end
section
variable {X:Cx}{scX sc:Scope}{NX N:List Str}{k:Nat}{fv:List Nat}
noncomputable def zK (M:Model)(A:Around)(env:Env)(Er:Value->Shared->Prop)(k:Bool->Shared->Prop):List Expr->Shared->Prop
 | [],s=>k true s
 | [c],s=>wpAny M A (isTrue c env (eval c env)) k Er s
 | _,_=>False
def Cm {Y:Cx}{os:List Addr}{pins:List (Addr×Obj)}{σ:L2.St}{H:Hp}{s:Shared}{δ:Ev}{b:Bool}{mc:MT}{Er:Value->Shared->Prop}{k:Bool->Shared->Prop}{ifs:List Expr}(h:xZ Y ifs mc)(I:Inv Y pins σ H s)(sl:Sl Y os H δ σ)(e:mc δ=some b)
 (hk:∀s' H',Inv Y pins σ H' s'->Same H H'->k b s') (hx:∀v s',Y.xe v s'->Er v s'):zK (model Y.prog Y.w) Y.A Y.env Er k ifs s:=by
 match ifs,h with
 | [],h =>
   have h':mc=tT:=h;subst h';cases e;exact hk s H I (Same.refl _)
 | [c],h =>
   obtain⟨t,p,q⟩:=(show DT Y c mc from h);refine wpAny_mono (p pins s σ H (fun z H'=>z=b/\Same H H') I (q os σ H δ b _ sl e fun H' g=>⟨rfl,g⟩)) (fun z s' r=>?_) hx;obtain⟨H',I',rfl,g'⟩:=r;exact hk s' H' I' g'
def KY {prog:Program}{w:World}{A:Around}{R:Result->Shared->Prop}{s:Shared}{elt target iter:Expr}{ifs:List Expr}{scope:Scope}{pos:Pos}{it acc:Value}{env:Env}(hi:ifs.length<=1)(J:Nat->Shared->Prop)
 (round:∀n s,J n s->wpAny (model prog w) A (pyNext it) (fun r s1=>r.elim (R (.ok .next) s1) fun v =>
  wpAny (model prog w) A (letOwnedTupleGo target it v) (fun _ s2=>wpAny (model prog w) A (assign target env v) (fun _ s3 =>
   zK (model prog w) A env (notedBy (model prog w) A env fun x z=>R (.error x) z) (fun ok s4=>if ok=true then
    wpAny (model prog w) A (eval elt env) (fun x s5=>wpAny (model prog w) A (call (.builtin "list.append") [acc,x]) (fun _ s6=>∃m,m<n/\J m s6) (notedBy (model prog w) A env fun x z=>R (.error x) z) s5) (notedBy (model prog w) A env fun x z=>R (.error x) z) s4
    else ∃m,m<n/\J m s4) ifs s3)
   (notedBy (model prog w) A env fun x z=>R (.error x) z) s2) (notedBy (model prog w) A env fun x z=>R (.error x) z) s1) (notedBy (model prog w) A env fun x z=>R (.error x) z) s)
 (n:Nat) (h:J n s):codeAny (model prog w) A (.compLoop (.ListComp elt [⟨target,iter,ifs,0⟩] scope pos) 0 it acc env) R s:=by
 match ifs,hi,round with
 | [],_,round =>
   refine PySem.W.kcp_loop J (fun n s hJ=>wpAny_mono (round n s hJ) (fun r s1 q=>?_) fun _ _ q=>q) n h;cases r with
   | none=>exact q
   | some v=>exact wpAny_mono q (fun _ s2 q=>wpAny_mono q (fun _ s3 q=>by simpa only[zK,if_true] using q) fun _ _ q=>q) fun _ _ q=>q
 | [c],_,round =>
   refine PySem.W.kct_loop J (fun n s hJ=>wpAny_mono (round n s hJ) (fun r s1 q=>?_) fun _ _ q=>q) n h;cases r with
   | none=>exact q
   | some v=>exact q
 | _::_::_,hi,_=>exact absurd hi (by simp)
def Em {pins:List (Addr×Obj)}{σ σ':L2.St}{H H':Hp}{s s':Shared}{fp:List Addr}{C D:Addr}{its:List Value}{cnt:Nat}{vs:List V}{h':Heap}(I:Inv X pins σ H s)(hf:∀b∈fp,jZ X pins H b)(hD:s.heap.objs.size<=D)(hDC:D≠C)(hC:s.heap.objs.size<=C)
 (J:Inv (jo X sc N C s H fp) [(D,{ cls:=.type "list",data:=.seq its.toArray cnt })] σ' H' s') (rv:Vals vs its) (hz:vs.length<=sizeLine) (sb:Heap.SameBut C s'.heap h') :
 Inv X pins σ (upd H' D (.lst vs)) { s' with heap:=h' }:=by
 obtain⟨eD,nD,_,_,_⟩:=J.pin (D,{ cls:=.type "list",data:=.seq its.toArray cnt }) (by simp);have nC:H' C=none:=J.free;have kp:∀b o,b≠C->s'.heap.get? b=some o->h'.get? b=some o:=fun b o hb e=>(sb.2 b hb).trans e;have ltC:∀b,b<s.heap.objs.size->b≠C:=fun b hb=>Nat.ne_of_lt (Nat.lt_of_lt_of_le hb hC);have ltD:∀b,b<s.heap.objs.size->b≠D:=fun b hb=>Nat.ne_of_lt (Nat.lt_of_lt_of_le hb hD);have un:=J.base;have u2:Un (frs X.stack) fp H (upd H' D (.lst vs)) s.heap h':=by
  refine⟨fun b o e n h1 h2=>kp b o (ltC b (Heap.lt_size e)) (un.keep b o e n h1 h2),fun b o e n h1 h2=>?_,fun b o e n h2=>?_,fun b o e h2=>?_,fun b xs e=>?_,fun b o u e=>?_,fun b ps e=>?_⟩
  ·obtain⟨sl,q⟩:=un.slot b o e n h1 h2;exact⟨sl,kp b _ (ltC b (Heap.lt_size e)) q⟩
  ·rw[au (ltD b (Heap.lt_size e))];exact un.free b o e n h2
  ·obtain⟨o',q⟩:=un.there b o e h2;exact⟨o',kp b o' (ltC b (Heap.lt_size e)) q⟩
  ·have q:=un.tups b xs e;rw[au (aO q nD)];exact q
  ·have q:=un.frzs b o u e;rw[au (aO q nD)];exact q
  ·obtain⟨more,q⟩:=un.tbls b ps e;exact⟨more,by rw[au (aO q nD)];exact q⟩
 have hok:HOk X.prog X.w (upd H' D (.lst vs)) h':=by
  intro b u e;by_cases hb:b=D
  ·subst hb;rw[az] at e;cases e;exact⟨hz,its,cnt,rv,kp _ _ hDC eD⟩
  ·rw[au hb] at e;refine(J.hok b u e).stay (fun c v hc q=>kp c v ?_ q) (fun c q=>by rw[au (aO q nD)];exact q) fun c xs q=>by rw[au (aO q nD)];exact q
   rcases hc with z | z
   ·rw[z];exact aO e nC
   ·exact aO z nC
 exact I.call' (s':={ s' with heap:=h' }) (ch:=fp) J.os u2 hok J.bare fun b hb=>⟨(hf b hb).2.2.2.1,(hf b hb).2.1,(hf b hb).2.2.2.2.1,(hf b hb).2.2.2.2.2⟩
def zA {use:Option (Value->Sem Unit)}{QQ:Value->Shared->Prop}{elt tg iter:Expr}{ifs:List Expr}{pos:Pos}{mi:MI}{g:MG}{mc:MT}{me:ME}{B:Ev->Ev}(hB:Blk X k fv B)(hc:X.calm=true)(S:bW scX sc NX N k fv)(hX:X.env.scope=scX)(hN:X.N=NX)(hi:DI X tg iter mi)(hbl:Below k g)(hil:ifs.length<=1)
 {os:List Addr} {H0:Hp} (J:Hp->List D->List V->Prop) (J0:∀H,J H [] []) (Jm:∀{H H' ys vs},Same H H'->J H ys vs->J H' ys vs) (Jl:∀{H ys vs},J H ys vs->ys.length=vs.length)
 (hb:∀C s H fp,DG (jo X sc N C s H fp) tg g/\xZ (jo X sc N C s H fp) ifs mc/\∃tE:TE,PE (jo X sc N C s H fp) elt tE/\∀σ' H7 δ1 dd,Sl (jo X sc N C s H fp) os H7 δ1 σ'->Same H0 H7->me δ1=some dd->tE σ' H7 fun v H8=>Same H7 H8/\∀ys vs,J H7 ys vs->J H8 (ys++[dd]) (vs++[v]))
 (hs:∀x,foldedSetIterable iter X.env x=pure x:=by intro _;rfl)
 {pins:List (Addr×Obj)} {s:Shared} {σ:L2.St} {δ:Ev} {d:D} (I:Inv X pins σ H0 s) (sl:Sl X os H0 δ σ) (m:nR B mi g mc me δ=some d)
 (fin:∀(Cc Dd:Addr) (s4:Shared) (Hd:Hp),(∀h',Heap.SameBut Cc s4.heap h'->Inv X pins σ Hd { s4 with heap:=h' })->(∃m,s4.heap.Ns Cc m)->jZ X pins Hd Cc->Same H0 Hd->H0 Dd=none->(∃H3 ys vs,d=.lst ys/\J H3 ys vs/\H3 Dd=none/\Hd=upd H3 Dd (.lst vs)) ->
  compPost (model X.prog X.w) X.A X.xe use QQ (.ref Dd) Cc (.ok .next) s4) :
 wpAny (model X.prog X.w) X.A (comprehension (.ListComp elt [⟨tg,iter,ifs,0⟩] sc pos) sc X.env (firstIterPos [⟨tg,iter,ifs,0⟩] pos) (newList []) (firstAsync [⟨tg,iter,ifs,0⟩]) (firstIter [⟨tg,iter,ifs,0⟩] X.env) use) QQ X.xe s:=by
 obtain⟨wi,pi,qi⟩:=hi;obtain⟨xs,e1,m⟩:=aj m;have m':(if xs.length<=16777216 then (oV (fun x=>(g x (B δ)).bind fun δ1=>(mc δ1).bind fun b=>if b=true then (me δ1).bind fun d=>some (some d) else some none) xs).bind fun r=>some (D.lst r) else none)=some d:=m;split at m'
 case isFalse=>cases m'
 rename_i hlen;obtain⟨r,e2,m'⟩:=aj m';cases m';have hsl:sizeLine=16777216:=sizeLine_eq;have hcells:∀y∈sc.names,y.2=.free->∃c,X.env.cells.lookup y.1=some c:=fun y hy hf=>I.ok.has y.1 (.inl (by show X.env.scope.names.lookup y.1=_;rw[hX];exact S.freeX y hy hf));refine wpAny_comprehension_free (use:=use) rfl hs (zB hcells) S.kind S.names (bw (pi pins s σ H0 (fun J H'=>Same H0 H'/\Walk X.K J (hide os H') xs) I (qi os σ H0 δ xs _ sl e1 fun J H' g w=>⟨g,w⟩)) fun v s1 h1=>bw h1 fun itv s2 h2=>?_);obtain⟨it,fp,tn,JJ,H2,rfl,I2,T,st2,f2,g2,wk⟩:=h2;have hfl:∀b∈fp,b<s2.heap.objs.size:=fun b hb=>let ⟨o,e,_⟩:=T.obj _ _ st2 b hb;Heap.lt_size e
 refine wpAny_newObj_type (wpAny_newFunctionEnv S.nocell (by intro y hy;simp at hy) (fun h₁ hns₁ hsb₁=>?_) S.kind);dsimp only at hns₁ hsb₁ ⊢;generalize hP2:s2.heap.push { cls:=.type "list",dict:=none,data:=.seq ([]:List Value).toArray }=P2 at hns₁ hsb₁ ⊢;generalize hDd:s2.heap.objs.size=Dd;generalize hCc:P2.objs.size=Cc at hns₁ hsb₁ ⊢;have hC1:Cc=Dd+1:=by rw[<-hCc,<-hP2,Heap.size_push,hDd]
 have hDC:Dd≠Cc:=fun e=>by rw[hC1] at e;exact absurd e (Nat.ne_of_lt (Nat.lt_succ_self _))
 have ltC:∀b:Addr,b<s2.heap.objs.size->b≠Cc:=fun b hb e=>by rw[e,hC1,<-hDd] at hb;exact absurd (Nat.lt_of_succ_lt hb) (Nat.lt_irrefl _)
 have ltD:∀b:Addr,b<s2.heap.objs.size->b≠Dd:=fun b hb e=>by rw[e,<-hDd] at hb;exact absurd hb (Nat.lt_irrefl _)
 have leC:s2.heap.objs.size<=Cc:=by rw[hC1,hDd];exact Nat.le_succ _
 have old:∀b o,s2.heap.get? b=some o->h₁.get? b=some o:=fun b o e =>
  hsb₁.extBut b o (ltC b (Heap.lt_size e)) (Heap.get?_push_of_some _ (hP2 ▸ Heap.get?_push_of_some _ e))
 have hacc:h₁.get? Dd=some { cls:=.type "list",data:=.seq ([]:List Value).toArray 0 } :=
  hsb₁.extBut _ _ hDC (Heap.get?_push_of_some _ (by rw[<-hP2,<-hDd];exact Heap.get?_push_size _ rfl))
 have fpD:∀b∈fp,b≠Dd:=fun b hb=>ltD b (hfl b hb);obtain⟨⟨tG,pG,qG⟩,hI,tE,pE,qE⟩:=hb Cc s2 H2 fp;have loop:∀s₃:Shared,s₃={ s2 with heap:=h₁,toks:=s2.toks+([]:List (Str×Value)).length } ->
  codeAny (model X.prog X.w) X.A (.compLoop (.ListComp elt [⟨tg,iter,ifs,0⟩] sc pos) 0 (.ref it) (.ref Dd) (compEnvC sc (nY X.env.cells sc.names) Cc X.env))
   (compPost (model X.prog X.w) X.A X.xe use QQ (.ref Dd) Cc) s₃:=by
  rintro s₃ rfl;have I0:Inv (jo X sc N Cc s2 H2 fp) [] (pick k fv σ) H2 { s2 with heap:=h₁,toks:=s2.toks+([]:List (Str×Value)).length } :=
   Dq I2 S hX hN f2 hfl leC hns₁ old
  have nfs:Dd∉(jo X sc N Cc s2 H2 fp).fs:=fun z=>by
   rcases List.mem_cons.mp (I2.stkSub Dd z) with e | e
   ·exact ltD _ I2.lt e.symm
   ·exact I2.nofs (Nat.le_of_eq hDd) e
  have cne:∀x c,(jo X sc N Cc s2 H2 fp).env.cells.lookup x=some c->c≠Dd:=fun x c e z=>by
   obtain⟨v,o,ho,_⟩:=I2.cell x c (mR (PySem.mem_of_lookup e));exact ltD _ (Heap.lt_size ho) z
  have I0':Inv (jo X sc N Cc s2 H2 fp) [(Dd,{ cls:=.type "list",data:=.seq ([]:List Value).toArray 0 })] (pick k fv σ) H2 { s2 with heap:=h₁,toks:=s2.toks+([]:List (Str×Value)).length }:=by
   refine I0.pins_of fun p hp=>?_;have hp':p=(Dd,{ cls:=.type "list",data:=.seq ([]:List Value).toArray 0 }):=by simpa using hp
   subst hp';exact⟨hacc,I2.hok.fresh (Nat.le_of_eq hDd),hDC,nfs,fun v z=>nomatch z⟩
  have statF:∀{H':Hp} {o:Obj},(∀b∈fp,H' b=none)->∀b∈fp,jZ (jo X sc N Cc s2 H2 fp) [(Dd,o)] H' b:=fun {H' o} hn b hb=>by
   refine⟨hn b hb,?_,?_,.inl hb,fun x c e=>(f2 b hb).2.2.2.2.1 x c (mR (PySem.mem_of_lookup e)),fun p hp=>?_⟩
   ·exact ltC b (hfl b hb)
   ·intro z;rcases List.mem_cons.mp (I2.stkSub b z) with e | e
    ·exact(f2 b hb).2.1 e
    ·exact(f2 b hb).2.2.1 e
   ·have hp':p=(Dd,o):=by simpa using hp
    subst hp';exact(fpD b hb).symm
  have st1:tn 0 h₁:=T.keep _ _ _ st2 fun b hb o e=>old b o e;refine KY hil (fun n s'=>∃(i:Nat) (σ':L2.St) (H':Hp) (its:List Value) (cnt:Nat) (vs:List V) (ys rest:List D),
   Inv (jo X sc N Cc s2 H2 fp) [(Dd,{ cls:=.type "list",data:=.seq its.toArray cnt })] σ' H' s'/\Vals vs its/\tn i s'.heap/\(∀b∈fp,H' b=none)/\Same H2 H'/\Sl (jo X sc N Cc s2 H2 fp) os H' (B δ) σ'/\J H' ys vs /\
   oV (fun x=>(g x (B δ)).bind fun δ1=>(mc δ1).bind fun b=>if b=true then (me δ1).bind fun d=>some (some d) else some none) (xs.drop i)=some rest/\ys++rest=r/\i<=xs.length/\ys.length<=i/\n=xs.length-i) ?_ xs.length
   ⟨0,_,H2,[],0,[],[],r,I0',.nil,st1,fun b hb=>(f2 b hb).1,Same.refl _,Qn hB S hN (sl.mono g2),J0 _,by simpa using e2,rfl,Nat.zero_le _,Nat.le_refl _,by simp⟩
  rintro n s3 ⟨i,σ3,H3,its,cnt,vs,ys,rest,I3,rv,st3,fr3,g3,sl3,dv,cm,hr,hi,hyl,rfl⟩;by_cases hlt:i<xs.length
  ·have hx:xs[i]? = some xs[i]:=List.getElem?_eq_getElem hlt;obtain⟨go,yl⟩:=(wk i os H3 sl3.live g3.hd).1 _ hx;rw[List.drop_eq_getElem_cons hlt,oV] at cm;obtain⟨o,e3,cm⟩:=aj cm;obtain⟨rest',e4,cm⟩:=aj cm;obtain⟨δ1,e5,e3⟩:=aj e3;obtain⟨b,e6,e3⟩:=aj e3;refine bw (T.item (jo X sc N Cc s2 H2 fp) rfl rfl rfl hc i _ s3 σ3 H3 _ I3 (statF fr3) st3 go) fun rr s4 ⟨u,hrr,h4⟩=>?_;subst hrr;refine bw h4 fun _ s5 ⟨x,H5,I5,r5,y5,st5,fr5⟩=>?_;obtain⟨g5,dx⟩:=yl x H5 y5;have I5':=I5.pinned (statF fr5) (T.obj _ _ st5);refine wpAny_mono (pG _ s5 σ3 H5 x u (fun σ6 H6=>Same H5 H6/\Sl (jo X sc N Cc s2 H2 fp) os H6 δ1 σ6) I5' r5 (qG os x σ3 H5 _ (B δ) δ1 _ (sl3.mono g5) dx e5 fun σ6 H6 g6 s6=>⟨g6,s6⟩)) (fun _ s6 r6=>?_) fun _ _ z=>z.elim;obtain⟨σ6,H6,I6,g6,sl6⟩:=r6;refine Cm hI I6 sl6 e6 (fun s7 H7 I7 g7=>?_) fun _ _ z=>z.elim;obtain⟨bl1,bl2⟩:=hbl _ _ _ e5;have g37:Same H3 H7:=g5.trans (g6.trans g7);have sl7:Sl (jo X sc N Cc s2 H2 fp) os H7 (B δ) σ6:=(sl6.mono g7).back hB S.len sl.len bl1 bl2;cases b with
   | false =>
     rw[if_neg Bool.false_ne_true] at e3;cases e3;cases cm;rw[if_neg Bool.false_ne_true];refine⟨xs.length-(i+1),by omega,i+1,σ6,H7,its,cnt,vs,ys,rest',?_,rv,?_,?_,g3.trans g37,sl7,Jm g37 dv,e4,hr,hlt,by omega,rfl⟩
     ·exact I7.unpinned
     ·exact T.keep _ _ _ st5 fun b hb o e=>(I7.pin (b,o) (List.mem_append_right _ (List.mem_append_right _ (dG hb e)))).1
     ·intro b hb;obtain⟨o,e,_⟩:=T.obj _ _ st5 b hb;exact(I7.pin (b,o) (List.mem_append_right _ (List.mem_append_right _ (dG hb e)))).2.1
   | true =>
     rw[if_pos rfl] at e3;obtain⟨dd,e7,e3⟩:=aj e3;cases e3;cases cm;rw[if_pos rfl];refine wpAny_mono (pE _ s7 σ6 H7 _ I7 (qE σ6 H7 δ1 dd (sl6.mono g7) (g2.trans (g3.trans g37)) e7)) (fun u8 s8 r=>?_) fun _ _ z=>z.elim;obtain⟨v8,H8,I8,r8,g8,den8⟩:=r;obtain⟨eD,nD,neD,nfD,_⟩:=I8.pin (Dd,{ cls:=.type "list",data:=.seq its.toArray cnt }) (List.mem_append_right _ (List.mem_append_left _ (List.mem_singleton.mpr rfl)));have hlv:its.length=ys.length:=by rw[<-rv.length,<-Jl dv]
     refine call_meets F.slot_list_append ⟨_,eD,rfl⟩ F.entry_list_append (F.args_list_append_2 _ _) (PySem.list_append Dd its.toArray cnt u8 (by rw[List.size_toArray];omega)) ⟨eD,?_⟩;have hpush:its.toArray.push u8=(its++[u8]).toArray:=by simp
     obtain⟨cnt',q⟩:∃c,(s8.heap.update Dd (Obj.mapSeq (·.push u8))).get? Dd=some { cls:=.type "list",data:=.seq (its++[u8]).toArray c } :=
      ⟨_,by have q:=PySem.IsL.update eD (·.push u8);rw[hpush] at q;exact q⟩
     have I9:=(I8.pins_of (pins':=[]) fun p hp=>absurd hp (by simp)).turned (it:=Dd) (h':=s8.heap.update Dd (Obj.mapSeq (·.push u8))) (t':=s8.toks)
      (fun b o hb e=>(Heap.get?_update_other s8.heap _ (Ne.symm hb)).trans e) nD neD (.inr (Nat.le_of_eq hDd)) cne (fun p hp=>absurd hp (by simp))
     refine⟨xs.length-(i+1),by omega,i+1,σ6,H8,its++[u8],cnt',vs++[v8],ys++[dd],rest',I9.pins_of fun p hp=>?_,rv.append (.cons r8 .nil),?_,?_,g3.trans (g37.trans g8),sl7.mono g8,den8 _ _ (Jm g37 dv),e4,?_,hlt,?_,rfl⟩
     ·have hp':=List.mem_singleton.mp hp;subst hp';exact⟨q,nD,neD,nfD,fun v z=>nomatch z⟩
     ·refine T.keep _ _ _ st5 fun b hb o e=>?_;have:=(I8.pin (b,o) (List.mem_append_right _ (List.mem_append_right _ (dG hb e)))).1;exact(Heap.get?_update_other s8.heap _ (Ne.symm (fpD b hb))).trans this
     ·intro b hb;obtain⟨o,e,_⟩:=T.obj _ _ st5 b hb;exact(I8.pin (b,o) (List.mem_append_right _ (List.mem_append_right _ (dG hb e)))).2.1
     ·rw[List.append_assoc];exact hr
     ·rw[List.length_append,List.length_singleton];omega
  ·have e:i=xs.length:=by omega
   subst e;rw[List.drop_length] at cm;cases cm;rw[List.append_nil] at hr;subst hr;refine bw (T.done (jo X sc N Cc s2 H2 fp) rfl rfl rfl hc _ _ s3 σ3 H3 _ I3 (statF fr3) st3 ((wk _ os H3 sl3.live g3.hd).2 rfl)) fun rr s4 ⟨hrr,I4⟩=>?_;subst hrr;obtain⟨mm,hnn,_⟩:=I4.loc;have hlv:=Jl dv;have nD:H3 Dd=none:=(I4.pin (Dd,{ cls:=.type "list",data:=.seq its.toArray cnt }) (List.mem_append_right _ (List.mem_singleton.mpr rfl))).2.1;exact fin Cc Dd s4 _ (fun h' sb=>Em I2 f2 (Nat.le_of_eq hDd) hDC leC I4 rv (by omega) sb) ⟨mm,hnn⟩ (I2.fpOk leC ((au hDC.symm).trans I4.free)) (g2.trans (g3.trans (aK nD _))) ((g2.trans g3).free nD) ⟨H3,_,vs,rfl,dv,nD,rfl⟩
 exact codeAny_compStart_list (loop _ rfl) (T.self X.A 0 _ _ _ (T.keep _ _ _ st2 fun b hb o e=>old b o e) (loop _ rfl))
def ur {use:Option (Value->Sem Unit)}{QQ:Value->Shared->Prop}{elt tg iter:Expr}{ifs:List Expr}{pos:Pos}{mi:MI}{g:MG}{mc:MT}{me:ME}{B:Ev->Ev}(hB:Blk X k fv B)(hc:X.calm=true)(S:bW scX sc NX N k fv)(hX:X.env.scope=scX)(hN:X.N=NX)(hi:DI X tg iter mi)(hbl:Below k g)(hil:ifs.length<=1)
 (hb:∀C s H fp,DG (jo X sc N C s H fp) tg g/\xZ (jo X sc N C s H fp) ifs mc/\DE (jo X sc N C s H fp) elt me)
 (hs:∀x,foldedSetIterable iter X.env x=pure x:=by intro _;rfl)
 {pins:List (Addr×Obj)} {s:Shared} {σ:L2.St} {H:Hp} {os:List Addr} {δ:Ev} {d:D} (I:Inv X pins σ H s) (sl:Sl X os H δ σ) (m:nR B mi g mc me δ=some d)
 (fin:∀(Cc Dd:Addr) (s4:Shared) (Hd:Hp),(∀h',Heap.SameBut Cc s4.heap h'->Inv X pins σ Hd { s4 with heap:=h' })->(∃m,s4.heap.Ns Cc m)->jZ X pins Hd Cc->Same H Hd->H Dd=none->Own X.K (hide (Dd::os) Hd) Hd Dd d ->
  compPost (model X.prog X.w) X.A X.xe use QQ (.ref Dd) Cc (.ok .next) s4) :
 wpAny (model X.prog X.w) X.A (comprehension (.ListComp elt [⟨tg,iter,ifs,0⟩] sc pos) sc X.env (firstIterPos [⟨tg,iter,ifs,0⟩] pos) (newList []) (firstAsync [⟨tg,iter,ifs,0⟩]) (firstIter [⟨tg,iter,ifs,0⟩] X.env) use) QQ X.xe s:=by
 refine zA (os:=os) (H0:=H) hB hc S hX hN hi hbl hil (fun H ys vs=>Dens X.K (hide os H) ys vs) (fun _=>.nil) (fun g h=>h.mono g.hd _ _) (fun h=>h.length) (fun C s' H' fp=>?_) hs I sl m fun Cc Dd s4 Hd a1 a2 a3 a4 a5 a6=>?_
 ·obtain⟨h1,h2,tE,pE,qE⟩:=hb C s' H' fp;exact⟨h1,h2,tE,pE,fun σ' H7 δ1 dd s1 _ e=>qE os σ' H7 δ1 dd _ s1 e fun v H8 g8 r8=>⟨g8,fun ys vs h=>(h.mono g8.hd _ _).append (.cons r8 .nil)⟩⟩
 ·obtain⟨H3,ys,vs,rfl,h1,h2,rfl⟩:=a6;exact fin Cc Dd s4 _ a1 a2 a3 a4 a5 ⟨vs,az,h1.mono (Ao h2 _) _ _⟩
def Im {elt tg iter:Expr}{ifs:List Expr}{pos:Pos}{mi:MI}{g:MG}{mc:MT}{me:ME}{B:Ev->Ev}(hB:Blk X k fv B)(hc:X.calm=true)(S:bW scX sc NX N k fv)(hX:X.env.scope=scX)(hN:X.N=NX)(hi:DI X tg iter mi)(hbl:Below k g)(hil:ifs.length<=1)
 (hb:∀C s H fp,DG (jo X sc N C s H fp) tg g/\xZ (jo X sc N C s H fp) ifs mc/\DE (jo X sc N C s H fp) elt me)
 (hs:∀x,foldedSetIterable iter X.env x=pure x:=by intro _;rfl) :
 DF X (.ListComp elt [⟨tg,iter,ifs,0⟩] sc pos) (nR B mi g mc me):=by
 refine⟨fun σ H Q=>∃os δ d,Sl X os H δ σ/\nR B mi g mc me δ=some d/\(∀p H',Same H H'->H p=none->Own X.K (hide (p::os) H') H' p d->Q (.ref p) H'),?_,fun os σ H δ d Q s m k=>⟨os,δ,d,s,m,k⟩⟩;intro pins s σ H Q I h;obtain⟨os,δ,d,sl,m,kq⟩:=h;rw[eval_ListComp];refine ur (use:=none) hB hc S hX hN hi hbl hil hb hs I sl m fun Cc Dd s4 Hd hI hns _ g hn ow=>?_;obtain⟨mm,hnn⟩:=hns;exact⟨mm,hnn,fun h' sb=>⟨.ref Dd,Hd,hI h' sb,rfl,kq _ _ g hn ow⟩⟩
def Ny (X:Cx)(i:Nat)(m:ME):TS:=fun D σ H=>∃os δ d,Sl X os H δ σ/\m δ=some d/\∀p H',Same H H'->H p=none->Own X.K (hide (p::os) H') H' p d->D.nx (σ.set i (some (.ref p))) H'
def Gw {x:Str}{p2 spos:Pos}{i:Nat}{elt tg iter:Expr}{ifs:List Expr}{pos:Pos}{mi:MI}{g:MG}{mc:MT}{me:ME}{B:Ev->Ev}(hB:Blk X k fv B)(hc:X.calm=true)(S:bW scX sc NX N k fv)(hX:X.env.scope=scX)(hN:X.N=NX)(hi:DI X tg iter mi)(hbl:Below k g)(hil:ifs.length<=1)
 (hb:∀C s H fp,DG (jo X sc N C s H fp) tg g/\xZ (jo X sc N C s H fp) ifs mc/\DE (jo X sc N C s H fp) elt me) (hpg:PG X (.Name x p2) (cR i))
 (hsw:swapsWith (.ListComp elt [⟨tg,iter,ifs,0⟩] sc pos) (some (.Name x p2)) spos.line X.env=pure true) (hs:∀x,foldedSetIterable iter X.env x=pure x) :
 PS X (.Assign [.Name x p2] (.ListComp elt [⟨tg,iter,ifs,0⟩] sc pos) spos) (Ny X i (nR B mi g mc me)):=by
 intro pins s σ H D I h;obtain⟨os,δ,d,sl,m,kq⟩:=h;rw[exec_Assign_Name_used _ _ _ _ hsw];refine wpAny_bind (wpAny_standAt (wpAny_bind ?_));show wpAny _ _ (comprehension (.ListComp elt [⟨tg,iter,ifs,0⟩] sc pos) sc X.env (firstIterPos [⟨tg,iter,ifs,0⟩] pos) (newList []) (firstAsync [⟨tg,iter,ifs,0⟩]) (firstIter [⟨tg,iter,ifs,0⟩] X.env) (some (assign (.Name x p2) X.env)) >>= fun _=>pure ()) _ _ _;refine wpAny_bind (ur (use:=some (assign (.Name x p2) X.env)) hB hc S hX hN hi hbl hil hb hs I sl m fun Cc Dd s4 Hd hI hns hf gs hn ow=>?_);obtain⟨mm,o,es,ep,ho,hr⟩:=hns;have J:Inv X pins σ Hd s4:=hI s4.heap (Heap.SameBut.refl _ _);have hnc:∀v,o.data≠.cell v:=fun v z=>by
  rw[hr.1] at z;cases z
 have J':=J.pinned (fp:=[Cc]) (fun b hb=>by rw[List.mem_singleton.mp hb];exact hf) (fun b hb=>by rw[List.mem_singleton.mp hb];exact⟨o,ho,hnc⟩);refine wpAny_mono (hpg _ s4 σ Hd (.ref Dd) (.ref Dd) (fun σ' H'=>D.nx σ' H') J' rfl (kq Dd Hd gs hn ow)) (fun _ s5 q=>?_) fun _ _ z=>z;obtain⟨σ',H',J5,q5⟩:=q;have pin:=J5.pin (Cc,o) (List.mem_append_right _ (List.mem_append_right _ (dG (by simp) ho)));refine⟨mm,⟨o,es,ep,pin.1,hr⟩,fun h' sb=>wpAny_pure (wpAny_pure ?_)⟩;have J6:=J5.unpinned;exact⟨σ',H',J6.turned (it:=Cc) (h':=h') (t':=s5.toks) (fun b ob hb e=>(sb.2 b hb).trans e) pin.2.1 hf.2.1 hf.2.2.2.1 hf.2.2.2.2.1 hf.2.2.2.2.2,q5⟩
def BJ {elt tg iter:Expr}{ifs:List Expr}{pos:Pos}{mi:MI}{g:MG}{mc:MT}{me:ME}(hc:X.calm=true)(S:bW scX sc NX N k fv)(hX:X.env.scope=scX)(hN:X.N=NX)(hi:DI X tg iter mi)(hbl:Below k g)
 (hb:∀C s H fp,DG (jo X sc N C s H fp) tg g/\xZ (jo X sc N C s H fp) ifs mc/\DE (jo X sc N C s H fp) elt me)
 (hs:∀x,foldedSetIterable iter X.env x=pure x:=by intro _;rfl) (hil:ifs.length<=1:=by decide) :
 DF X (.ListComp elt [⟨tg,iter,ifs,0⟩] sc pos) (dR k fv mi g mc me):=Im (B:=pick k fv) xV hc S hX hN hi hbl hil hb hs
def jQ {elt tg iter:Expr}{ifs:List Expr}{pos:Pos}{mi:MI}{g:MG}{mc:MT}{me:ME}(hc:X.calm=true)(S:bW scX sc NX N k fv)(hX:X.env.scope=scX)(hN:X.N=NX)(hi:DI X tg iter mi)(hbl:Below k g)
 (hb:∀C s H fp,DG (jo X sc N C s H fp) tg g/\xZ (jo X sc N C s H fp) ifs mc/\DE (jo X sc N C s H fp) elt me)
 (hs:∀x,foldedSetIterable iter X.env x=pure x:=by intro _;rfl) (hil:ifs.length<=1:=by decide) :
 DE X (.ListComp elt [⟨tg,iter,ifs,0⟩] sc pos) (dR k fv mi g mc me):=(BJ hc S hX hN hi hbl hb hs hil).de (tW _ mi g mc me)
end
open AutoSeq1 (wpAny_loadPart')
section
variable {X:Cx}{a b c e:Expr}{es:List Expr}{ma mb mc me:ME}{pos p:Pos}
def yu (l:Addr)(items:Array Value)(n:Nat)(u:Tok)(dd:Option Addr)(sl:Array (Option Value)) :
 Meets (Builtin.«tuple.__mul__» ⟨[.ref l,.int 1 u],[]⟩) (fun _ R s=>s.heap.get? l=some { cls:=.type "tuple",dict:=dd,data:=.seq items n,slots:=sl }/\R (.ok (.ret (Value.ref l))) s) :=
 .of_wp fun prog w A R s h=>by
  obtain⟨hp,g,d,tk,os⟩:=s;obtain⟨hl,h⟩:=h;have f1:=AutoSeq1.idx_int;have f2:=AutoSeq1.sub_tuple_tuple;have hc1:(items.isEmpty||(1:Int)==1)=true:=by simp
  wp_walk using wpAny_loadPart' hl
  exact⟨_,rfl,h⟩
def yt (l:Addr)(items:Array Value)(n:Nat)(x:Int)(u:Tok)(dd:Option Addr)(sl:Array (Option Value))(hc0:¬(decide (x < -(2 ^ 63))||decide (x≥2 ^ 63))=true)(hc1:¬(items.isEmpty||x==1)=true)(hc2:¬(decide (x<=0)||items.isEmpty)=true)
 (hc3:¬(items.size:Int)*x>(2 ^ 63-1) / 8) (hc4:¬Builtin.Tuple.tupleTooMany ((items.size:Int)*x)=true) (hsz:sizeOk (.seq (List.foldl (fun x1 x2=>x1++x2) #[] (List.replicate x.toNat items)))) :
 Meets (Builtin.«tuple.__mul__» ⟨[.ref l,.int x u],[]⟩) (fun _ R s=>s.heap.get? l=some { cls:=.type "tuple",dict:=dd,data:=.seq items n,slots:=sl } /\
  R (.ok (.ret (Value.ref s.heap.objs.size))) { s with heap:=s.heap.push { cls:=Value.type "tuple",data:=Data.seq (List.foldl (fun x1 x2=>x1++x2) #[] (List.replicate x.toNat items)) } }) :=
 .of_wp fun prog w A R s h=>by
  obtain⟨hp,g,d,tk,os⟩:=s;obtain⟨hl,h⟩:=h;have f1:=AutoSeq1.idx_int;have f2:=AutoSeq1.sub_tuple_tuple
  wp_walk using wpAny_loadPart' hl
  refine wpAny_ite_false (decide_eq_false hc0) ?_
  wp_walk using wpAny_loadPart' hl
  refine wpAny_ite_false (decide_eq_false hc3) ?_
  wp_walk using wpAny_loadPart' hl
  refine wpAny_ite_false (decide_eq_false (Nat.not_lt.mpr hsz)) ?_
  wp_walk using wpAny_loadPart' hl
  exact⟨_,rfl,h⟩
def QZ (K:PySem.W.Frag):R2:=fun x y H Q=>∃l k xs,x=.ref l/\y=.int k/\SqT K H l xs/\0<k/\k<=1000/\0<xs.length/\xs.length<=1000/\(k=1->Q (.ref l) H) /\
 (k≠1->∀p,H p=none->Q (.ref p) (upd H p (.tup (List.replicate k.toNat xs).flatten)))
def Kz:OpR X (binaryOp .Mult) (QZ X.K):=by
 intro pins s σ H x y v u Q I rx ry h;obtain⟨l,k,xs,rfl,rfl,hl,h0,h1,h2,h3,q1,q2⟩:=h;cases rx;obtain⟨t,rfl⟩:=ry;obtain⟨its,r,⟨⟨c1,d1,dt1,sl1⟩,e1,c1',n1,t1'⟩,_⟩:=I.tuple hl;simp only at c1' t1';subst c1' t1';have hlen:=r.length;refine wpAny_binaryOp_repeat_ref (T:="tuple") (U:="int") (by decide) ⟨_,e1,rfl⟩ (fun s'=>typeIs_int s' k t) nJ F.fills_int_mul F.slot_int_rmul uP F.slot_int_index.lookup
  (call_meets F.slot_int_rmul (typeIs_int s k t) F.entry_int_rmul (F.args_int_rmul_2 _ _) (qP k t l its.toArray n1 d1 sl1) ⟨e1,rfl,⟨_,e1,rfl⟩,?_⟩)
 by_cases hk:k=1
 ·subst hk;exact call_meets F.slot_tuple_mul ⟨_,e1,rfl⟩ F.entry_tuple_mul (F.args_tuple_mul_2 _ _) (yu l its.toArray n1 t d1 sl1) ⟨e1,⟨.ref l,H,I,rfl,q1 rfl⟩⟩
 ·have hnew:List.foldl (fun x1 x2=>x1++x2) #[] (List.replicate k.toNat its.toArray)=(List.replicate k.toNat its).flatten.toArray:=by
   have:=foldl_rep its k.toNat [];rw[List.nil_append] at this;exact this
  have hfl:(List.replicate k.toNat its).flatten.length=k.toNat*its.length:=len_rep its k.toNat;have hb:k.toNat*its.length<=1000*1000:=Nat.mul_le_mul (by omega) (by omega);have hbi:(its.length:Int)*k<=1000*1000:=by
   have e:(its.length:Int)*k=((k.toNat*its.length:Nat):Int):=by
    rw[Nat.mul_comm];push_cast;rw[Int.toNat_of_nonneg (by omega)]
   rw[e];exact_mod_cast hb
  have hne:its≠[]:=by intro z;rw[z,List.length_nil] at hlen;omega
  have hie:its.toArray.isEmpty=false:=by simpa using hne
  have hz:(List.replicate k.toNat its).flatten.length<=sizeLine:=by rw[hfl,bB];omega
  refine call_meets F.slot_tuple_mul ⟨_,e1,rfl⟩ F.entry_tuple_mul (F.args_tuple_mul_2 _ _) (yt l its.toArray n1 k t d1 sl1 (by simp;omega) (by rw[hie];simpa using hk) (by rw[hie];simp;omega)
   (by rw[List.size_toArray];omega) (by rw[List.size_toArray];have hsz:=bB;simp[Builtin.Tuple.tupleTooMany];omega) (by rw[hnew];show (List.replicate k.toNat its).flatten.toArray.size<=sizeLine;rw[List.size_toArray];exact hz)) ⟨e1,?_⟩
  rw[hnew];refine⟨.ref s.heap.objs.size,_,I.laid (t':=s.toks) (o:=.tup (List.replicate k.toNat xs).flatten) (fun b ob q=>Heap.get?_push_of_some _ q) (Nat.le_refl _) ?_,rfl,q2 hk _ (I.hok.fresh (Nat.le_refl _))⟩;exact⟨by rw[len_rep,hlen,<-hfl];exact hz,_,r.rep k.toNat,IsTup.new _ _⟩
def eQ:vI X (binaryOp .Mult) cY:=by
 refine⟨_,op_mul.or Kz,fun os H L dx dy d x y Q rx ry m k=>?_⟩;cases dy with
 | int j =>
   cases dx with
   | int i =>
     have m':(if (small j||small i)=true then some (D.int (i*j)) else none)=some d:=m;split at m'
     ·rename_i hs;cases m';refine .inl ⟨i,j,rx.int_inv,ry.int_inv,?_,k _ H (Same.refl _) (.int _)⟩;simp[small] at hs;rcases hs with hs | hs
      ·exact .inr ⟨hs.1,hs.2⟩
      ·exact .inl ⟨hs.1,hs.2⟩
     ·cases m'
   | tup xs =>
     have m':(if (decide (0<j)&&decide (j<=1000)&&decide (0<xs.length)&&decide (xs.length<=1000))=true then some (D.tup (List.replicate j.toNat xs).flatten) else none)=some d:=m;split at m'
     ·rename_i hs;cases m';simp only[Bool.and_eq_true,decide_eq_true_eq] at hs;obtain⟨⟨⟨h1,h2⟩,h3⟩,h4⟩:=hs;obtain⟨a,vs,rfl,g1,g2⟩:=rx.tup_up;have hl:=g2.length;refine .inr ⟨a,j,vs,rfl,ry.int_inv,g1,h1,h2,by omega,by omega,fun e=>?_,fun _ p hp=>?_⟩
      ·subst e;exact k _ H (Same.refl _) (by simpa using rx)
      ·exact k _ _ (aK hp (.tup (List.replicate j.toNat vs).flatten)) (.newT L hp (g2.flat j.toNat))
     ·cases m'
   | _=>cases m
 | _=>cases dx <;> cases m
def Al:vI X (compareOp .Lt) oLt:=by
 refine⟨_,Q8,fun os H L dx dy d x y Q rx ry m k=>?_⟩;obtain⟨i,j,rfl,rfl,m⟩:=jC m;cases m;exact⟨i,j,rx.int_inv,ry.int_inv,k _ H (Same.refl _) (.bl _)⟩
def G7:vI X (compareOp .LtE) oLe:=by
 refine⟨_,Q9,fun os H L dx dy d x y Q rx ry m k=>?_⟩;obtain⟨i,j,rfl,rfl,m⟩:=jC m;cases m;exact⟨i,j,rx.int_inv,ry.int_inv,k _ H (Same.refl _) (.bl _)⟩
def Mv:vI X (compareOp .Gt) OJ:=by
 refine⟨_,Ra,fun os H L dx dy d x y Q rx ry m k=>?_⟩;obtain⟨i,j,rfl,rfl,m⟩:=jC m;cases m;exact⟨i,j,rx.int_inv,ry.int_inv,k _ H (Same.refl _) (.bl _)⟩
def Rh:vI X (compareOp .GtE) RQ:=by
 refine⟨_,Rb,fun os H L dx dy d x y Q rx ry m k=>?_⟩;obtain⟨i,j,rfl,rfl,m⟩:=jC m;cases m;exact⟨i,j,rx.int_inv,ry.int_inv,k _ H (Same.refl _) (.bl _)⟩
def Ce {g:Int->Int->Bool}{dx dy d:D}(h:oI (fun i j=>some (.bl (g i j))) dx dy=some d):∃k,d=.bl k:=by
 obtain⟨i,j,rfl,rfl,m⟩:=jC h;cases m;exact⟨_,rfl⟩
def Jw (x y d:D)(h:oLt x y=some d):∃k,d=.bl k:=Ce h
def Jx (x y d:D)(h:oLe x y=some d):∃k,d=.bl k:=Ce h
def M5 (x y d:D)(h:OJ x y=some d):∃k,d=.bl k:=Ce h
def RC (x y d:D)(h:RQ x y=some d):∃k,d=.bl k:=Ce h
def RD (x y d:D)(h:oEq x y=some d):∃k,d=.bl k:=by
 unfold oEq at h;split at h
 ·cases h;exact⟨_,rfl⟩
 ·cases h
def ut (x y d:D)(h:wQ x y=some d):∃k,d=.bl k:=by
 unfold wQ at h;split at h
 ·cases h;exact⟨_,rfl⟩
 ·cases h
end
section
variable {X:Cx}{pins:List (Addr×Obj)}{σ:L2.St}{H:Hp}{s:Shared}
def wU (I:Inv X pins σ H s){a:Addr}{xs ys:List V}(h1:SqL X.K H a xs)(h2:SqT X.K H a ys):False:=by
 obtain⟨i1,_,p1,_⟩:=I.list h1;obtain⟨i2,_,p2,_⟩:=I.tuple h2;exact(SeqAt.ne_of_list_tuple (s:=s) p1.isList p2) rfl
mutual
def Den.inj (I:Inv X pins σ H s):∀{d e:D} {v:V},bA d<=30->bA e<=30->Den X.K H d v->Den X.K H e v->d=e
 | .non,e,v,_,he,h,g=>by
   rw[h.non_inv] at g;cases e with
   | non=>rfl
   | bl z=>cases g.bl_inv
   | int z=>cases g.int_inv
   | str z=>cases g.str_inv
   | tup z=>obtain⟨_,_,q,_⟩:=g.tup_sq;cases q
   | lst z=>obtain⟨_,_,q,_⟩:=g.lst_inv;cases q
   | dic z0 z w=>simp[bA] at he
 | .bl b,e,v,_,he,h,g=>by
   rw[h.bl_inv] at g;cases e with
   | non=>cases g.non_inv
   | bl z=>cases g.bl_inv;rfl
   | int z=>cases g.int_inv
   | str z=>cases g.str_inv
   | tup z=>obtain⟨_,_,q,_⟩:=g.tup_sq;cases q
   | lst z=>obtain⟨_,_,q,_⟩:=g.lst_inv;cases q
   | dic z0 z w=>simp[bA] at he
 | .int b,e,v,_,he,h,g=>by
   rw[h.int_inv] at g;cases e with
   | non=>cases g.non_inv
   | bl z=>cases g.bl_inv
   | int z=>cases g.int_inv;rfl
   | str z=>cases g.str_inv
   | tup z=>obtain⟨_,_,q,_⟩:=g.tup_sq;cases q
   | lst z=>obtain⟨_,_,q,_⟩:=g.lst_inv;cases q
   | dic z0 z w=>simp[bA] at he
 | .str b,e,v,_,he,h,g=>by
   rw[h.str_inv] at g;cases e with
   | non=>cases g.non_inv
   | bl z=>cases g.bl_inv
   | int z=>cases g.int_inv
   | str z=>cases g.str_inv;rfl
   | tup z=>obtain⟨_,_,q,_⟩:=g.tup_sq;cases q
   | lst z=>obtain⟨_,_,q,_⟩:=g.lst_inv;cases q
   | dic z0 z w=>simp[bA] at he
 | .tup ds,e,v,hd,he,h,g=>by
   obtain⟨a,xs,rfl,h1,h2⟩:=h.tup_sq;simp only[bA] at hd;cases e with
   | non=>cases g.non_inv
   | bl z=>cases g.bl_inv
   | int z=>cases g.int_inv
   | str z=>cases g.str_inv
   | dic z0 z w=>simp[bA] at he
   | tup es =>
     simp only[bA] at he;obtain⟨b,ys,q,g1,g2⟩:=g.tup_sq;cases q;rw[<-I.tuple_inj h1 g1] at g2;rw[Dens.inj I (by omega) (by omega) h2 g2]
   | lst es =>
     obtain⟨b,ys,q,g1,g2⟩:=g.lst_inv;cases q;exact(wU I g1 h1).elim
 | .lst ds,e,v,hd,he,h,g=>by
   obtain⟨a,xs,rfl,h1,h2⟩:=h.lst_inv;simp only[bA] at hd;cases e with
   | non=>cases g.non_inv
   | bl z=>cases g.bl_inv
   | int z=>cases g.int_inv
   | str z=>cases g.str_inv
   | dic z0 z w=>simp[bA] at he
   | lst es =>
     simp only[bA] at he;obtain⟨b,ys,q,g1,g2⟩:=g.lst_inv;cases q;rw[<-I.list_inj h1 g1] at g2;rw[Dens.inj I (by omega) (by omega) h2 g2]
   | tup es =>
     obtain⟨b,ys,q,g1,g2⟩:=g.tup_sq;cases q;exact(wU I h1 g1).elim
 | .dic t ks vs,e,v,hd,_,_,_=>by simp[bA] at hd
def Dens.inj (I:Inv X pins σ H s):∀{ds es:List D} {xs:List V},cg ds<=30->cg es<=30->Dens X.K H ds xs->Dens X.K H es xs->ds=es
 | [],[],_,_,_,_,_=>rfl
 | [],e::es,_,_,_,h,g=>by obtain⟨x,r,q,_⟩:=g.uncons;rw[h.unnil] at q;cases q
 | d::ds,[],_,_,_,h,g=>by obtain⟨x,r,q,_⟩:=h.uncons;rw[g.unnil] at q;cases q
 | d::ds,e::es,_,hd,he,h,g=>by
   obtain⟨x,r,rfl,h1,h2⟩:=h.uncons;obtain⟨y,t,q,g1,g2⟩:=g.uncons;cases q;simp only[cg] at hd he;rw[Den.inj I (by omega) (by omega) h1 g1,Dens.inj I (by omega) (by omega) h2 g2]
end
abbrev El (A:Around)(s:Shared)(ds es:List D)(its its2:List Value):Prop :=
 ∀j (h1:j<its.toArray.size) (h2:j<its2.toArray.size),SeqAt.EqAt A.in1 s its.toArray[j] its2.toArray[j] (gD (ds.getD j .non) (es.getD j .non))
def Gi {A:Around}{l b:Addr}{its its2:List Value}{ds es:List D}{xs ys:List V}(I:Inv X pins σ H s)(hu:A.units<cLine)(hl:IsTup s.heap l its.toArray)(hb:IsTup s.heap b its2.toArray)(r1:Vals xs its)(r2:Vals ys its2)(d1:Dens X.K H ds xs)(d2:Dens X.K H es ys)(he:El A s ds es its its2) :
 SeqAt.RcAt A s (.ref l) (.ref b) (gD (.tup ds) (.tup es)):=by
 have q:=SeqAt.RcAt.tuples (A:=A) (s:=s) hl hb hu he;have e1:its.toArray.size=ds.length:=by rw[List.size_toArray,<-r1.length,d1.length]
 have e2:its2.toArray.size=es.length:=by rw[List.size_toArray,<-r2.length,d2.length]
 rw[e1,e2,gB] at q;rw[gD];exact q
def N5 {A:Around}{l b:Addr}{its its2:List Value}{ds es:List D}{xs ys:List V}(I:Inv X pins σ H s)(hu:A.units<cLine)(hl:IsTup s.heap l its.toArray)(hb:IsTup s.heap b its2.toArray)(r1:Vals xs its)(r2:Vals ys its2)(d1:Dens X.K H ds xs)(d2:Dens X.K H es ys)(he:El A s ds es its its2) :
 SeqAt.RcNeAt A s (.ref l) (.ref b) (!gD (.tup ds) (.tup es)):=by
 have q:=SeqAt.RcNeAt.tuples (A:=A) (s:=s) hl hb hu he;have e1:its.toArray.size=ds.length:=by rw[List.size_toArray,<-r1.length,d1.length]
 have e2:its2.toArray.size=es.length:=by rw[List.size_toArray,<-r2.length,d2.length]
 rw[e1,e2,gB] at q;rw[gD];exact q
def Gj {A:Around}{l b:Addr}{its its2:List Value}{ds es:List D}{xs ys:List V}(I:Inv X pins σ H s)(hu:A.units<cLine)(hl:PlainL s.heap l its.toArray)(hb:PlainL s.heap b its2.toArray)(r1:Vals xs its)(r2:Vals ys its2)(d1:Dens X.K H ds xs)(d2:Dens X.K H es ys)(he:El A s ds es its its2) :
 SeqAt.RcAt A s (.ref l) (.ref b) (gD (.lst ds) (.lst es)):=by
 have e1:its.toArray.size=ds.length:=by rw[List.size_toArray,<-r1.length,d1.length]
 have e2:its2.toArray.size=es.length:=by rw[List.size_toArray,<-r2.length,d2.length]
 have er:=gB ds es;rw[gD,<-er];by_cases hs:ds.length=es.length
 ·have q:=SeqAt.RcAt.lists (A:=A) (s:=s) hl.isList hb.isList (by rw[e1,e2];exact hs) hu he;rw[e1] at q;rw[hs,Nat.min_self,beq_self_eq_true,Bool.and_true,<-hs];exact q
 ·have q:=SeqAt.RcAt.lists_lengths (A:=A) (s:=s) hl.isList hb.isList (by rw[e1,e2];simpa using hs) hu;have hb':(ds.length==es.length)=false:=by simpa using hs
  rw[hb',Bool.and_false];exact q
def N6 {A:Around}{l b:Addr}{its its2:List Value}{ds es:List D}{xs ys:List V}(I:Inv X pins σ H s)(hu:A.units<cLine)(hl:PlainL s.heap l its.toArray)(hb:PlainL s.heap b its2.toArray)(r1:Vals xs its)(r2:Vals ys its2)(d1:Dens X.K H ds xs)(d2:Dens X.K H es ys)(he:El A s ds es its its2) :
 SeqAt.RcNeAt A s (.ref l) (.ref b) (!gD (.lst ds) (.lst es)):=by
 have e1:its.toArray.size=ds.length:=by rw[List.size_toArray,<-r1.length,d1.length]
 have e2:its2.toArray.size=es.length:=by rw[List.size_toArray,<-r2.length,d2.length]
 have er:=gB ds es;rw[gD,<-er];by_cases hs:ds.length=es.length
 ·have q:=SeqAt.RcNeAt.lists (A:=A) (s:=s) hl.isList hb.isList (by rw[e1,e2];exact hs) hu he;rw[e1] at q;rw[hs,Nat.min_self,beq_self_eq_true,Bool.and_true,<-hs];exact q
 ·have q:=SeqAt.RcNeAt.lists_lengths (A:=A) (s:=s) hl.isList hb.isList (by rw[e1,e2];simpa using hs) hu;have hb':(ds.length==es.length)=false:=by simpa using hs
  rw[hb',Bool.and_false];exact q
def xr {A:Around}{n:Nat}(el:∀(A:Around) (dx dy:D) (x y:V) (v u:Value),bA dx<=n->(bA dx<=30/\bA dy<=30)->A.units+n<cLine->Den X.K H dx x->Den X.K H dy y->RelV x v->RelV y u->SeqAt.EqAt A s v u (gD dx dy))
 {ds es:List D} {xs ys:List V} {its its2:List Value} (hd:∀d∈ds,bA d<=n) (hb:(∀d∈ds,bA d<=30)/\(∀d∈es,bA d<=30)) (hu:A.units+1+n<cLine) (d1:Dens X.K H ds xs) (d2:Dens X.K H es ys) (r1:Vals xs its) (r2:Vals ys its2):El A s ds es its its2:=by
 intro j h1 h2;rw[List.size_toArray] at h1 h2;have l1:=r1.length;have l2:=r2.length;have m1:=d1.length;have m2:=d2.length;have j1:j<ds.length:=by omega
 have j2:j<es.length:=by omega
 obtain⟨x,hx,q1⟩:=d1.get (i:=j) (d:=ds[j]) (List.getElem?_eq_getElem j1);obtain⟨y,hy,q2⟩:=d2.get (i:=j) (d:=es[j]) (List.getElem?_eq_getElem j2);obtain⟨v,hv,w1⟩:=r1.get hx;obtain⟨u,hu',w2⟩:=r2.get hy;have ev:its.toArray[j]=v:=by
  rw[List.getElem?_eq_getElem h1] at hv;simpa using hv
 have eu:its2.toArray[j]=u:=by
  rw[List.getElem?_eq_getElem h2] at hu';simpa using hu'
 rw[ev,eu,List.getD_eq_getElem?_getD,List.getD_eq_getElem?_getD,List.getElem?_eq_getElem j1,List.getElem?_eq_getElem j2];exact el A.in1 ds[j] es[j] x y v u (hd _ (List.getElem_mem j1)) ⟨hb.1 _ (List.getElem_mem j1),hb.2 _ (List.getElem_mem j2)⟩ hu q1 q2 w1 w2
inductive View (X:Cx)(H:Hp)(s:Shared):D->Value->Prop where
 | non:View X H s .non .none
 | bl (b:Bool):View X H s (.bl b) (.bool b)
 | int (i:Int) (t:Tok):View X H s (.int i) (.int i t)
 | str (x:Str) (t:Tok):View X H s (.str x) (.str x t)
 | lst {ds:List D} {a:Addr} {xs:List V} {its:List Value} (h:SqL X.K H a xs) (d:Dens X.K H ds xs) (r:Vals xs its) (p:PlainL s.heap a its.toArray) (q:s.heap.IsList a its.toArray):View X H s (.lst ds) (.ref a)
 | tup {ds:List D} {a:Addr} {xs:List V} {its:List Value} (h:SqT X.K H a xs) (d:Dens X.K H ds xs) (r:Vals xs its) (p:IsTup s.heap a its.toArray) (q:s.heap.IsTuple a its.toArray):View X H s (.tup ds) (.ref a)
def view (I:Inv X pins σ H s){d:D}{x:V}{v:Value}(h:bA d<=30)(r:Den X.K H d x)(w:RelV x v):View X H s d v:=by
 cases d with
 | dic _ _ _=>exact absurd h (by simp[bA])
 | non=>rw[r.non_inv] at w;cases w;exact .non
 | bl b=>rw[r.bl_inv] at w;cases w;exact .bl b
 | int i=>rw[r.int_inv] at w;obtain⟨t,rfl⟩:=w;exact .int i t
 | str z=>rw[r.str_inv] at w;obtain⟨t,rfl⟩:=w;exact .str z t
 | lst ds=>obtain⟨a,xs,rfl,h1,h2⟩:=r.lst_inv;cases w;obtain⟨its,r',p,_⟩:=I.list h1;exact .lst h1 h2 r' p p.isList
 | tup ds=>obtain⟨a,xs,rfl,h1,h2⟩:=r.tup_sq;cases w;obtain⟨its,r',p,_⟩:=I.tuple h1;exact .tup h1 h2 r' p p
def R6 {P:Bool->Prop}{b c:Bool}(h:P b)(e:b=c):P c:=e ▸ h
noncomputable def both:D->D->Bool
 | .lst _,.lst _=>true
 | .tup _,.tup _=>true
 | _,_=>false
def kinds {A:Around}{dx dy:D}{v u:Value}(hx:View X H s dx v)(hy:View X H s dy u)(hb:both dx dy=false)(hu:A.units<cLine):SeqAt.EqAt A s v u (gD dx dy)/\SeqAt.RcAt A s v u (gD dx dy)/\SeqAt.RcNeAt A s v u (!gD dx dy):=by
 cases hx <;> cases hy <;> first
 | exact Bool.noConfusion hb
 | refine⟨?_,?_,?_⟩
 all_goals
  apply R6
  ·first
   | with_reducible first | exact .same _ | exact .none_none | exact .none_bool _ | exact .none_int _ _ | exact .none_str _ _ | exact .none_list ‹_› ‹_› | exact .none_tuple ‹_› ‹_› | exact .bool_none _ | exact .bool_bool _ _ | exact .bool_int _ _ _ | exact .bool_str _ _ _ | exact .bool_list _ ‹_› ‹_› | exact .bool_tuple _ ‹_› ‹_› | exact .int_none _ _ | exact .int_bool _ _ _ | exact .int_int _ _ _ _ | exact .int_str _ _ _ _ | exact .int_list _ _ ‹_› ‹_› | exact .int_tuple _ _ ‹_› ‹_› | exact .str_none _ _ | exact .str_bool _ _ _ | exact .str_int _ _ _ _ | exact .str_str _ _ _ _ | exact .str_list _ _ ‹_› ‹_› | exact .str_tuple _ _ ‹_› ‹_› | exact .list_none ‹_› ‹_› | exact .list_bool _ ‹_› ‹_› | exact .list_int _ _ ‹_› ‹_› | exact .list_str _ _ ‹_› ‹_› | exact .list_tuple ‹_› ‹_› ‹_› | exact .tuple_none ‹_› ‹_› | exact .tuple_bool _ ‹_› ‹_› | exact .tuple_int _ _ ‹_› ‹_› | exact .tuple_str _ _ ‹_› ‹_› | exact .tuple_list ‹_› ‹_› ‹_›
   | exact .of_refs (SeqAt.ne_of_list_tuple (s:=s) ‹_› ‹_›) (.list_tuple ‹_› ‹_› ‹_›)
   | exact .of_refs (SeqAt.ne_of_list_tuple (s:=s) ‹_› ‹_›).symm (.tuple_list ‹_› ‹_› ‹_›)
  ·rfl
def Rv (I:Inv X pins σ H s):∀(n:Nat) (A:Around) (dx dy:D) (x y:V) (v u:Value),bA dx<=n->(bA dx<=30/\bA dy<=30)->A.units+n<cLine->Den X.K H dx x->Den X.K H dy y->RelV x v->RelV y u->SeqAt.EqAt A s v u (gD dx dy):=by
 intro n;induction n with
 | zero =>
   intro A dx dy x y v u hd hb hu0 rx ry vx vy;have ht:both dx dy=false:=by cases dx <;> first | rfl | simp[bA] at hd
   exact(kinds (view I hb.1 rx vx) (view I hb.2 ry vy) ht (by omega)).1
 | succ n ih =>
   intro A dx dy x y v u hd hb hu0 rx ry vx vy;have hu:A.units<cLine:=by omega
   have items:∀{ds es:List D} {xs ys:List V} {its its2:List Value},cg ds<=n->cg ds<=29->cg es<=29->Dens X.K H ds xs->Dens X.K H es ys->Vals xs its->Vals ys its2->El A s ds es its its2:=fun a b c=>xr ih (depDs_le.mp a) ⟨depDs_le.mp (by omega),depDs_le.mp (by omega)⟩ (by omega);cases ht:both dx dy with
   | false=>exact(kinds (view I hb.1 rx vx) (view I hb.2 ry vy) ht hu).1
   | true =>
     cases view I hb.1 rx vx <;> cases view I hb.2 ry vy <;> first | exact Bool.noConfusion ht | skip
     ·rename_i ds1 a1 _ _ h1 d1 r1 p1 q1 ds2 a2 _ _ h2 d2 r2 p2 q2;simp only[bA] at hd hb;by_cases hab:a1=a2
      ·subst hab;have e:ds1=ds2:=Dens.inj I (by omega) (by omega) d1 (by rw[I.list_inj h1 h2];exact d2);subst e;rw[gC];exact .same _
      ·exact .of_refs hab (Gj I hu p1 p2 r1 r2 d1 d2 (items (by omega) (by omega) (by omega) d1 d2 r1 r2))
     ·rename_i ds1 a1 _ _ h1 d1 r1 p1 q1 ds2 a2 _ _ h2 d2 r2 p2 q2;simp only[bA] at hd hb;by_cases hab:a1=a2
      ·subst hab;have e:ds1=ds2:=Dens.inj I (by omega) (by omega) d1 (by rw[I.tuple_inj h1 h2];exact d2);subst e;rw[gC];exact .same _
      ·exact .of_refs hab (Gi I hu p1 p2 r1 r2 d1 d2 (items (by omega) (by omega) (by omega) d1 d2 r1 r2))
section
variable {n:Nat}{A:Around}{dx dy:D}{x y:V}{v u:Value}
def Ms (I:Inv X pins σ H s)(hd:bA dx<=n+1)(hb:bA dx<=30/\bA dy<=30)(hu0:A.units+(n+1)<cLine)(rx:Den X.K H dx x)(ry:Den X.K H dy y)(vx:RelV x v)(vy:RelV y u):SeqAt.RcAt A s v u (gD dx dy)/\SeqAt.RcNeAt A s v u (!gD dx dy):=by
 have hu:A.units<cLine:=by omega
 cases ht:both dx dy with
 | false=>exact(kinds (view I hb.1 rx vx) (view I hb.2 ry vy) ht hu).2
 | true =>
   cases view I hb.1 rx vx <;> cases view I hb.2 ry vy <;> first | exact Bool.noConfusion ht | skip
   all_goals
    rename_i ds1 a1 _ _ h1 d1 r1 p1 q1 ds2 a2 _ _ h2 d2 r2 p2 q2;simp only[bA] at hd hb;have el:=xr (Rv I n) (A:=A) (depDs_le.mp (show cg ds1<=n by omega)) ⟨depDs_le.mp (by omega),depDs_le.mp (show cg ds2<=30 by omega)⟩ (by omega) d1 d2 r1 r2
    first
    | exact⟨Gj I hu p1 p2 r1 r2 d1 d2 el,N6 I hu p1 p2 r1 r2 d1 d2 el⟩
    | exact⟨Gi I hu p1 p2 r1 r2 d1 d2 el,N5 I hu p1 p2 r1 r2 d1 d2 el⟩
end
end
section
variable {X:Cx}{a b c e:Expr}{es:List Expr}{ma mb mc md me:ME}{pos p p2 p3:Pos}
def G8 (hu:X.A.units+64<cLine):vI X (compareOp .Eq) oEq:=by
 refine⟨fun x y H Q=>∃dx dy,Den X.K H dx x/\Den X.K H dy y/\(bA dx<=30/\bA dy<=30)/\Q (.bl (gD dx dy)) H,?_,fun os H L dx dy d x y Q rx ry m k=>?_⟩
 ·intro pins s σ H x y v u Q I rx ry h;obtain⟨dx,dy,d1,d2,hd,q⟩:=h;exact(Ms (n:=30) I (Nat.le_succ_of_le hd.1) hd (by omega) d1 d2 rx ry).1 X.prog X.w X.xe _ ⟨.bl _,H,I,rfl,q⟩
 ·unfold oEq at m;split at m
  ·rename_i hd;cases m;exact⟨dx,dy,rx.up,ry.up,hd,k _ H (Same.refl _) (.bl _)⟩
  ·cases m
def tO (hu:X.A.units+64<cLine):vI X (compareOp .NotEq) wQ:=by
 refine⟨fun x y H Q=>∃dx dy,Den X.K H dx x/\Den X.K H dy y/\(bA dx<=30/\bA dy<=30)/\Q (.bl (!gD dx dy)) H,?_,fun os H L dx dy d x y Q rx ry m k=>?_⟩
 ·intro pins s σ H x y v u Q I rx ry h;obtain⟨dx,dy,d1,d2,hd,q⟩:=h;exact(Ms (n:=30) I (Nat.le_succ_of_le hd.1) hd (by omega) d1 d2 rx ry).2 X.prog X.w X.xe _ ⟨.bl _,H,I,rfl,q⟩
 ·unfold wQ at m;split at m
  ·rename_i hd;cases m;exact⟨dx,dy,rx.up,ry.up,hd,k _ H (Same.refl _) (.bl _)⟩
  ·cases m
open Classical in
noncomputable def R5:Ty->String
 | .int=>"int" | .bool=>"bool" | .str=>"str" | .list=>"list" | .tuple=>"tuple"
def Jt (t:Ty):cL X (.builtin "isinstance") (fun xs H Q=>∃x d,xs=[x,.ty (R5 t)]/\Den X.K H d x/\(∀ks vs,d≠.dic true ks vs)/\Q (.bl (isI t d)) H):=by
 intro pins s σ H xs us Q I r h;obtain⟨x,d,rfl,hd,hnd,q⟩:=h;obtain⟨u,w',rfl,rx,rw'⟩:=vals2 r;cases rw';have fin:∀tk,EP X pins σ Q (.bool (isI t d)) { s with toks:=tk }:=fun tk=>⟨.bl _,H,I.tok tk,rfl,q⟩;cases d with
 | non =>
   rw[hd.non_inv] at rx;cases rx;cases t <;> exact PySem.W.kia_one PySem.W.kitx_none I.kIn True.intro (by rfl) (fun z=>nomatch z) fin
 | bl z =>
   rw[hd.bl_inv] at rx;cases rx;cases t <;> exact PySem.W.kia_one PySem.W.kitx_bool I.kIn True.intro (by rfl) (fun z=>nomatch z) fin
 | int z =>
   rw[hd.int_inv] at rx;obtain⟨tt,rfl⟩:=rx;cases t <;> exact PySem.W.kia_one PySem.W.kitx_int I.kIn True.intro (by rfl) (fun z=>nomatch z) fin
 | str z =>
   rw[hd.str_inv] at rx;obtain⟨tt,rfl⟩:=rx;cases t <;> exact PySem.W.kia_one PySem.W.kitx_str I.kIn True.intro (by rfl) (fun z=>nomatch z) fin
 | tup ds =>
   obtain⟨aa,xs,rfl,h1,_⟩:=hd.tup_sq;cases rx;obtain⟨its,_,⟨o,e1,e2,_⟩,_⟩:=I.tuple h1;cases t <;> exact PySem.W.kia_one PySem.W.kitx_tuple I.kIn ⟨o,e1,e2⟩ (by rfl) (fun z=>nomatch z) fin
 | lst ds =>
   obtain⟨aa,xs,rfl,h1,_⟩:=hd.lst_inv;cases rx;obtain⟨its,_,⟨o,n,e1,e2,_⟩,_⟩:=I.list h1;cases t <;> exact PySem.W.kia_one PySem.W.kitx_list I.kIn ⟨o,e1,e2⟩ (by rfl) (fun z=>nomatch z) fin
 | dic tk ks ds =>
   obtain⟨aa,xs,rfl,h1,_⟩:=hd.dic_inv;cases rx;have z:∃o,s.heap.get? aa=some o/\o.cls=.type "dict":=by
    rcases h1 with ⟨_,_,kvs,h1,_⟩ | ⟨z,_⟩
    ·obtain⟨_,_,_,_,_,o,_,_,e,ex,_⟩:=I.hok aa _ h1;exact⟨o,e,ex.1⟩
    ·subst z;exact absurd rfl (hnd _ _)
   cases t <;> exact PySem.W.kia_one PySem.W.kitx_dict I.kIn z (by rfl) (fun z=>nomatch z) fin
def Jb (t:Ty){tn:Str}(hg:Gl X "isinstance")(hm:X.mg "isinstance"=none)(hgT:Gl X tn)(hmT:X.mg tn=none)(hv:bootBuiltins tn=some (.type (R5 t)))(ha:DE X a ma)(hn:tn≠"__name__":=by decide)(hd:(tn==("__debug__":Str))=false:=by decide)
 (h1:starEach [a,.Name tn p2] X.env=(false,eval a X.env)::starEach [.Name tn p2] X.env:=by rfl) (h2:starEach [.Name tn p2] X.env=(false,eval (.Name tn p2) X.env)::starEach [] X.env:=by rfl)
 (hpl:(backTo pos (starEach [.Name tn p2] X.env)).any (·.1)=false:=by rfl) :
 DE X (.Call (.Name "isinstance" p) [a,.Name tn p2] [] pos) (aB (RV t) (ak ma aD)):=by
 obtain⟨ta,pa,qa⟩:=ha;have hT:PE X (.Name tn p2) (L2.tC (.ty (R5 t))):=Ai hgT hmT hv rfl hn hd;refine⟨_,iu (Jt t) hg hm (by rfl) (aJ pa (aJ hT aY h2) h1) (by decide) (by decide) h1 hpl,fun os σ H δ d Q s m kq=>?_⟩;rw[M4] at m;obtain⟨dx,e1,m⟩:=aj m;have hd':(∀ks vs,dx≠.dic true ks vs)/\d=.bl (isI t dx):=by
  unfold RV at m;split at m
  ·cases m
  ·rename_i d' hne heq;cases heq;cases m;exact⟨fun ks vs z=>by subst z;exact hne _ _ rfl,rfl⟩
  ·cases m
 obtain⟨hnd,rfl⟩:=hd';exact qa os σ H δ dx _ s e1 fun x H1 g1 r1=>⟨x,dx,rfl,r1.up,hnd,kq _ H1 g1 (.bl _)⟩
def eO {K:PySem.W.Frag}{H:Hp}{d:D}{vs:List V}(h:Dens K H [d] vs):∃v,vs=[v]/\Den K H d v:=by
 obtain⟨x,r,rfl,h1,h2⟩:=h.uncons;exact⟨x,by rw[h2.unnil],h1⟩
def xU {f:Value}{r r':List V->Hp->VK->Prop}(a:cL X f r)(b:cL X f r'):cL X f (fun xs H Q=>r xs H Q\/r' xs H Q):=fun pins s σ H xs us Q I rel h=>by
 rcases h with h | h
 ·exact a pins s σ H xs us Q I rel h
 ·exact b pins s σ H xs us Q I rel h
def zF:CallD X (.builtin "len") o9:=by
 refine⟨_,xU vB vA,fun os H L ds d vs Q r m k=>?_⟩
 match ds,m with
 | [.tup xs],m =>
   cases m;obtain⟨v,rfl,h⟩:=eO r;obtain⟨p,ys,rfl,h1,h2⟩:=h.tup_up;exact .inl ⟨p,ys,rfl,.inr h1,by rw[<-h2.length];exact k _ H (Same.refl _) (.int _)⟩
 | [.lst xs],m =>
   cases m;obtain⟨v,rfl,h⟩:=eO r;obtain⟨p,ys,rfl,h1,h2⟩:=h.lst_up;exact .inl ⟨p,ys,rfl,.inl h1,by rw[<-h2.length];exact k _ H (Same.refl _) (.int _)⟩
 | [.str x],m =>
   have m':(if x.length<=16777216 then some (D.int x.length) else none)=some d:=m;split at m'
   ·rename_i hz;cases m';obtain⟨v,rfl,h⟩:=eO r;exact .inr ⟨x,by rw[h.str_inv],by rw[bB];exact hz,k _ H (Same.refl _) (.int _)⟩
   ·cases m'
def Qm:CallD X (.builtin "abs") Px:=by
 refine⟨_,Jv,fun os H L ds d vs Q r m k=>?_⟩
 match ds,m with
 | [.int i],m =>
   cases m;obtain⟨v,rfl,h⟩:=eO r;exact⟨i,by rw[h.int_inv],k _ H (Same.refl _) (.int _)⟩
def Ly:CallD X (.type "list") MP:=by
 refine⟨_,vq,fun os H L ds d vs Q r m k=>?_⟩
 match ds,m with
 | [.tup xs],m =>
   cases m;obtain⟨v,rfl,h⟩:=eO r;obtain⟨p,ys,rfl,h1,h2⟩:=h.tup_up;refine⟨p,ys,rfl,.inr h1,fun l hl=>?_⟩;exact k _ _ (aK hl (.lst ys)) (.newL L hl h2)
 | [.lst xs],m =>
   cases m;obtain⟨v,rfl,h⟩:=eO r;obtain⟨p,ys,rfl,h1,h2⟩:=h.lst_up;refine⟨p,ys,rfl,.inl h1,fun l hl=>?_⟩;exact k _ _ (aK hl (.lst ys)) (.newL L hl h2)
def iD:CallD X (.type "tuple") jc:=by
 refine⟨_,su,fun os H L ds d vs Q r m k=>?_⟩
 match ds,m with
 | [.tup xs],m =>
   cases m;obtain⟨v,rfl,h⟩:=eO r;obtain⟨p,ys,rfl,h1,h2⟩:=h.tup_up;exact⟨p,ys,rfl,.inr ⟨h1,k _ H (Same.refl _) h⟩⟩
 | [.lst xs],m =>
   cases m;obtain⟨v,rfl,h⟩:=eO r;obtain⟨p,ys,rfl,h1,h2⟩:=h.lst_up;refine⟨p,ys,rfl,.inl ⟨h1,fun l hl=>?_⟩⟩;exact k _ _ (aK hl (.tup ys)) (.newT L hl h2)
def bG:Ti X eG:=by
 refine⟨_,ix_list.or (ix_tup.or O9),fun os H L dx dy d x y Q rx ry m k=>?_⟩;cases dy with
 | int i =>
   cases dx with
   | lst ds =>
     obtain⟨j,e1,e2⟩:=aj (show (qM ds.length i).bind (fun j=>ds[j]?)=some d from m);obtain⟨a,xs,rfl,h1,h2⟩:=rx.lst_up;obtain⟨v,hv,rv⟩:=h2.get e2;refine .inl ⟨a,xs,i,v,rfl,ry.int_inv,h1,?_,k v H (Same.refl _) rv⟩;show (qM xs.length i).bind (fun j=>xs[j]?)=some v;rw[<-h2.length,e1];exact hv
   | tup ds =>
     obtain⟨j,e1,e2⟩:=aj (show (qM ds.length i).bind (fun j=>ds[j]?)=some d from m);obtain⟨a,xs,rfl,h1,h2⟩:=rx.tup_up;obtain⟨v,hv,rv⟩:=h2.get e2;refine .inr (.inl ⟨a,xs,i,v,rfl,ry.int_inv,h1,?_,k v H (Same.refl _) rv⟩);show (qM xs.length i).bind (fun j=>xs[j]?)=some v;rw[<-h2.length,e1];exact hv
   | str z =>
     have m':(if z.length<=16777216 then (qM z.cps.toList.length i).bind fun j=>z.cps.toList[j]?.bind fun c=>some (D.str ⟨#[c]⟩) else none)=some d:=m;split at m'
     ·rename_i hz;obtain⟨j,e1,m'⟩:=aj m';obtain⟨c,e2,m'⟩:=aj m';cases m';refine .inr (.inr ⟨z,i,c,rx.str_inv,ry.int_inv,by rw[bB];exact hz,?_,k _ H (Same.refl _) (.str _)⟩);show (qM z.cps.toList.length i).bind (fun j=>z.cps.toList[j]?)=some c;rw[e1];exact e2
     ·cases m'
   | _=>cases m
 | _=>cases dx <;> cases m
end
section
variable {prog:Program}{w:World}{A:Around}{E:Value->Shared->Prop}{s:Shared}
def jV {t sl:Addr}{items:Array Value}{vl vu:Value}{lo hi:Option Int}{Q:Value->Shared->Prop}(ht:IsTup s.heap t items)(hs:s.heap.IsSliceOf sl vl vu .none)(pl:IsPart vl lo)(pu:IsPart vu hi)
 (hw:HT.sIx items.size 0 lo=0/\HT.sIx items.size items.size hi=items.size) (h:Q (.ref t) s):wpAny (model prog w) A (getItem (.ref t) (.ref sl)) Q E s:=by
 obtain⟨os,hos,hcs,hds⟩:=id hs;have hTs:s.TypeIs (.ref sl) "slice":=⟨os,hos,hcs⟩;unfold getItem;try with_reducible refine wpAny_holding ?_
 first | refine wpAny_bind (wpAny_pure ?_) | skip
 refine wpAny_bind (wpAny_sequenceKey ht.typeIs (by decide) ?_);refine wpAny_bind (wpAny_callSpecial?_slot (name:=Str.ofString "__getitem__") ht.typeIs PyProof.Rows.slot_tuple_getitem
  (wpAny_call_entry PyProof.Rows.slot_tuple_getitem ht.typeIs entry_tuple_getitem ?_ (args_tuple_getitem _ _)))
 show wpAny _ _ (Builtin.Tuple.tupleItemsOf (.ref t) >>= _) _ _ s;refine wpAny_bind (tupleItemsOf_ ht ?_);refine wpAny_bind (wpAny_typeOf hTs ?_);rw[if_pos (by decide)];refine wpAny_bind (HT.sliceApplied_gen hs pl pu ?_);have hyes:((((HT.sIx items.size 0 lo:Nat):Int)==0&&(1:Int)==1&&(HT.sIx items.size items.size hi-HT.sIx items.size 0 lo)==items.size)=true):=by
  rw[hw.1,hw.2];simp
 show wpAny _ _ (if (((HT.sIx items.size 0 lo:Nat):Int)==0&&(1:Int)==1&&(HT.sIx items.size items.size hi-HT.sIx items.size 0 lo)==items.size)=true then _ else _) _ _ s;rw[if_pos hyes];unfold Builtin.Tuple.tupleIsExact;refine wpAny_bind (wpAny_bind (wpAny_typeOf ht.typeIs (wpAny_pure ?_)));rw[if_pos (by decide)];refine wpAny_bind (wpAny_rule ?_)
 first
  | exact wpAny_pure ⟨_,rfl,wpAny_pure h⟩
  | exact wpAny_bind (wpAny_pure (wpAny_pure ⟨_,rfl,wpAny_pure h⟩))
end
section
variable {X:Cx}{a b c e:Expr}{es:List Expr}{ma mb mc md me:ME}{pos p p2 p3:Pos}
def Sd (K:PySem.W.Frag):V->Option Int->Option Int->Hp->VK->Prop:=fun x lo hi H Q=>∃a xs,x=.ref a/\SqT K H a xs/\(HT.sIx xs.length 0 lo=0/\HT.sIx xs.length xs.length hi=xs.length)/\Q (.ref a) H
def zT:SlR X (Sd X.K):=by
 intro pins s σ H x v vl vu lo hi sl Q I rx hs pl pu h;obtain⟨a,xs,rfl,hx,hw,q⟩:=h;cases rx;obtain⟨its,r,ht,hz⟩:=I.tuple hx;have hlen:its.toArray.size=xs.length:=by rw[List.size_toArray];exact r.length.symm
 exact⟨"tuple",_,PyProof.Rows.slot_tuple_getitem.lookup,ht.typeIs,jV ht hs pl pu (by rw[hlen];exact hw) ⟨.ref a,H,I,rfl,q⟩⟩
def uo (xs:List V)(k:Nat):sr xs none (some (k:Int))=xs.take k:=by
 unfold sr;rw[HT.sIx_none,HT.sIx_nat,List.drop_zero,Nat.sub_zero];rcases Nat.le_total k xs.length with h | h
 ·rw[Nat.min_eq_left h]
 ·rw[Nat.min_eq_right h,List.take_length,List.take_of_length_le h]
def Qe (k:Nat){j:Nat}(he:DE X e me):DE X (.Subscript e (.Slice none (some (.Constant (.int k) j p3)) none p2) pos) (kE (QF k) me):=by
 obtain⟨te,pe,qe⟩:=he;refine⟨_,wH (sl_list.or (sl_tup.or zT)) pe Ad (Ac dF),fun os σ H δ d Q s m kq=>?_⟩;obtain⟨dx,e1,m⟩:=aj m;refine qe os σ H δ dx _ s e1 fun x H1 g1 r1=>⟨(k:Int),rfl,?_⟩;cases dx with
 | lst ds =>
   cases m;obtain⟨a,xs,rfl,h1,h2⟩:=r1.lst_up;refine .inl ⟨a,xs,rfl,h1,fun q hq=>?_⟩;rw[uo];exact kq _ _ (g1.trans (aK hq (.lst (xs.take k)))) (.newL (s.live.mono g1) hq (h2.take k))
 | tup ds =>
   cases m;obtain⟨a,xs,rfl,h1,h2⟩:=r1.tup_up;have hl:=h2.length;by_cases hw:xs.length<=k
   ·refine .inr (.inr ⟨a,xs,rfl,h1,⟨HT.sIx_none _ _,by rw[HT.sIx_nat];omega⟩,?_⟩);rw[List.take_of_length_le (by omega)] at kq;exact kq _ H1 g1 r1
   ·refine .inr (.inl ⟨a,xs,rfl,h1,fun z=>?_,fun q hq=>?_⟩)
    ·rw[HT.sIx_nat] at z;omega
    ·rw[uo];exact kq _ _ (g1.trans (aK hq (.tup (xs.take k)))) (.newT (s.live.mono g1) hq (h2.take k))
 | _=>cases m
def DP {op op':CmpOp}{f g:D->D->Option D}(ho:vI X (compareOp op) f)(ho':vI X (compareOp op') g)(hf:∀x y d,f x y=some d->∃k,d=.bl k)(hg:∀x y d,g x y=some d->∃k,d=.bl k)
 (ha:DE X a ma) (hb:DE X b mb) (hc:DE X c mc) (hm:lastMarks [op,op'] [b,c]=false:=by with_unfolding_all rfl):DE X (.Compare a [op,op'] [b,c] pos) (eV f g ma mb mc):=by
 obtain⟨r,hr,qr⟩:=ho;obtain⟨r',hr',qr'⟩:=ho';obtain⟨ta,pa,qa⟩:=ha;obtain⟨tb,pb,qb⟩:=hb;obtain⟨tc,pc,qc⟩:=hc;refine⟨_,G4 hr hr' pa pb pc hm,fun os σ H δ d Q s m kq=>?_⟩;obtain⟨x,e1,m⟩:=aj m;obtain⟨y,e2,m⟩:=aj m;obtain⟨z,e3,m⟩:=aj m;obtain⟨k,rfl⟩:=hf x y z e3;refine qa os σ H δ x _ s e1 fun vx H1 g1 r1=>?_;refine qb os σ H1 δ y _ (s.mono g1) e2 fun vy H2 g2 r2=>?_;refine qr os H2 (s.live.mono (g1.trans g2)) x y _ vx vy _ (r1.mono (g2).hd _ _) r2 e3 fun vz H3 g3 r3=>⟨k,r3.bl_inv,?_⟩;have g13:=g1.trans (g2.trans g3);cases k with
 | false=>cases m;exact oZ (kq _ H3 g13 (.bl false))
 | true =>
   obtain⟨u,e4,m⟩:=aj m;exact qN (qc os σ H3 δ u _ (s.mono g13) e4 fun vu H4 g4 r4=>qr' os H4 (s.live.mono (g13.trans g4)) y u d vy vu Q (r2.mono ((g3.trans g4)).hd _ _) r4 m (kq.mono (g13.trans g4)))
end
open AutoSeq1 (wpAny_loadPart')
section
variable {prog:Program}{w:World}{A:Around}{E:Value->Shared->Prop}{s:Shared}{it l:Addr}{i:Nat}{items:Array Value}
def Fd {x:Value}{Q:PySem.Fin->Shared->Prop}(a:s.heap.IsTupleIter it l i)(b:s.heap.IsTuple l items)(hx:items[i]? = some x)
 (k:∀h',h'.IsTupleIter it l (i+1)->Heap.SameBut it s.heap h'->Q (.done (.ret x)) { s with heap:=h' }):wpAny (model prog w) A (Builtin.«tuple_iterator.__next__» ⟨[.ref it],[]⟩) Q E s:=by
 obtain⟨o,ho,hc,hd⟩:=a;obtain⟨p,hp,_,n,hq⟩:=b
 wp_walk using wpAny_field ho hd (x:=.ref l) rfl,wpAny_field ho hd (x:=.int i 0) rfl,wpAny_seqItems hp hq
 rw[show items[(i:Int).toNat]? = some x from hx];refine wpAny_bind (wpAny_setField ho hd (Nat.lt_succ_self 1) (wpAny_pure (k _ ⟨_,Heap.get?_update_self _ ho ?_,?_,?_⟩ (Heap.SameBut.update ..))))
 ·exact Obj.isFreed_of_fields (Obj.data_mapFields hd _)
 ·rw[Obj.cls_mapFields,hc]
 ·rw[Obj.data_mapFields hd];rfl
def Fb {Q:PySem.Fin->Shared->Prop}(hh:A.handled=none)(a:s.heap.IsTupleIter it l i)(b:s.heap.IsTuple l items)(hx:items[i]? = none)
 (k:∀h' e,Heap.ExtBut it s.heap h'->(∃o,h'.get? e=some o/\o.cls=.type "StopIteration")->E (.ref e) { s with heap:=h' }):wpAny (model prog w) A (Builtin.«tuple_iterator.__next__» ⟨[.ref it],[]⟩) Q E s:=by
 obtain⟨o,ho,hc,hd⟩:=a;obtain⟨p,hp,_,n,hq⟩:=b
 wp_walk using wpAny_field ho hd (x:=.ref l) rfl,wpAny_field ho hd (x:=.int i 0) rfl,wpAny_seqItems hp hq
 rw[show items[(i:Int).toNat]? = none from hx];refine wpAny_bind (wpAny_rule (wpAny_bind (wpAny_setField ho hd (Nat.succ_pos 1) ?_)));unfold Builtin.SmallTypes.stopIteration;wp_walk;refine wpAny_raiseNew_none hh (k _ _ (((Heap.SameBut.update s.heap it _).extBut.push _).push _) ?_);exact⟨_,Heap.get?_push_size _ rfl,rfl⟩
end
noncomputable def lG (l:Addr):Obj:={ cls:=.type "tuple_iterator",data:=.fields #[.ref l,.int 0 0] }
noncomputable def qT (j:Addr):Obj:={ cls:=.type "enumerate",data:=.fields #[.none,.bool false,.ref j,rawInt 0,.none,.none] }
def Dw (l:Addr)(items:Array Value)(n:Nat)(dd:Option Addr)(sl:Array (Option Value)):Meets (Builtin.«enumerate.__new__» ⟨[.type "enumerate",.ref l],[]⟩) fun _ R s =>
 s.heap.get? l=some ⟨.type "tuple",dd,.seq items n,sl⟩/\R (.ok (.ret (.ref (s.heap.objs.size+1)))) { s with heap:=(s.heap.push (lG l)).push (qT s.heap.objs.size) }:=by
 refine .of_wp fun prog w A R s h=>?_;rcases s with ⟨hp,g,d,tk,os⟩;have tup:Heap.IsTuple hp l items:=⟨_,h.1,rfl,n,rfl⟩;have sub:=sub_enumerate;have fin:=h.2;rw[<-Heap.size_push hp (lG l)] at fin;wp_walk using wpAny_loadPart' h.1;refine wpAny_stack_any fun _=>wpAny_pure ?_;split <;> (try (rename_i c _ _ _ _ _;cases (c==Value.type "enumerate"))) <;> (wp_walk using wpAny_loadPart' h.1,wpAny_pyIter_tuple (s:=⟨hp,g,d,tk,os⟩) tup) <;> exact⟨_,rfl,fin⟩
section
variable {prog:Program}{w:World}{A:Around}{E:Value->Shared->Prop}{s:Shared}{it l:Addr}{items:Array Value}
def pB {Q:Value->Shared->Prop}(t:s.heap.IsTuple l items)
 (k:∀h',IsEnum h' (s.heap.objs.size+1) s.heap.objs.size 0 .none->h'.IsTupleIter s.heap.objs.size l 0->(∀b o,s.heap.get? b=some o->h'.get? b=some o)->Q (.ref (s.heap.objs.size+1)) { s with heap:=h' }) :
 wpAny (model prog w) A (call (.type "enumerate") [.ref l]) Q E s:=by
 obtain⟨⟨c,dd,dt,sl⟩,hl,rfl,n,rfl⟩:=t;have z:=Heap.size_push s.heap (lG l);have top:=Heap.get?_push_size (s.heap.push (lG l)) (o:=qT s.heap.objs.size) rfl;rw[z] at top;have low:=Heap.get?_push_of_some (qT s.heap.objs.size) (Heap.get?_push_size s.heap (o:=lG l) rfl);exact callType_new F.called_enumerate (by decide) (F.typeCall_enumerate_1 _) (F.newCall_enumerate_1 _) (fun _=>F.args_object_init_2 _ _) F.entry_enumerate_new (Dw l items n dd sl)
  ⟨hl,⟨_,top,rfl⟩,k _ top ⟨_,low,rfl,rfl⟩ fun b o q=>Heap.get?_push_of_some _ (Heap.get?_push_of_some _ q)⟩
def An {Q:Value->Shared->Prop}{i:Nat}(a:s.heap.IsTupleIter it l i)(h:wpAny (model prog w) A.in1 (Builtin.«tuple_iterator.__next__» ⟨[.ref it],[]⟩) (fun f s'=>∃x,f=.done (.ret x)/\Q x s') E s):wpAny (model prog w) A (Builtin.SmallTypes.nextOf (.ref it)) Q E s:=by
 refine wpAny_bind (wpAny_callSpecial?_slot a.typeIs F.slot_tuple_iterator_next (wpAny_call_entry F.slot_tuple_iterator_next a.typeIs F.entry_tuple_iterator_next (wpAny_mono h (fun f s' r=>?_) fun _ _ z=>z) (F.args_tuple_iterator_next_1 _)));obtain⟨x,rfl,q⟩:=r;exact⟨x,rfl,wpAny_pure q⟩
def oR (hh:A.handled=none)(ne:l≠it)(items:Array Value):Draws prog w A it [it,l] items.size (fun i v=>items[i]? = some v) fun i h=>h.IsTupleIter it l i/\h.IsTuple l items:=by
 constructor
 ·rintro i h ⟨⟨o,q,_⟩,_⟩;exact⟨o,q⟩
 ·rintro i h h' ⟨a,b⟩ k;exact⟨a.at (k it (by simp)),b.at (k l (by simp))⟩
 ·rintro i s Q E hi ⟨a,b⟩ k;have hx:items[i]? = some items[i]:=by simp[hi]
  exact An a (Fd a b hx fun h' a' sb=>⟨_,rfl,k _ h' s.toks hx ⟨a',b.extBut sb.extBut ne⟩ sb⟩)
 ·rintro s Q E ⟨a,b⟩ k;exact An a (Fb hh a b (by simp) k)
end
section
variable {X:Cx}{pins:List (Addr×Obj)}{σ:L2.St}{H:Hp}{s:Shared}{h':Heap}
def iG {fp:List Addr}{t':Nat}(I:Inv X pins σ H s)(hf:∀b∈fp,jZ X pins H b)(k:∀b o,b∉fp->s.heap.get? b=some o->h'.get? b=some o):Inv X pins σ H { s with heap:=h',toks:=t' }:=by
 have nit:∀b u,H b=some u->b∉fp:=fun b u e z=>by rw[(hf b z).1] at e;cases e
 refine I.step (g':=s.gens) (d':=s.drawn) (ch:=fp) (fun b hb=>⟨(hf b hb).2.2.2.1,(hf b hb).2.1,(hf b hb).2.2.2.2.1,(hf b hb).2.2.2.2.2⟩) (fun b o _ _ hc e _=>k b o hc e) (fun b o _ _ hc e _=>⟨o.slots,k b o hc e⟩) (fun _ _ _ _ n=>n)
  (fun b o hc e=>⟨o,k b o hc e⟩) (fun _ _ e=>e) (fun _ _ _ e=>e) (fun b ps e=>⟨#[],by rw[e];simp⟩) (fun m hm=>?_) (fun b u e=>?_) I.bare
 ·obtain⟨o,es,ep,ho,r⟩:=hm;exact⟨o,es,ep,k _ o (fun z=>(hf _ z).2.1 rfl) ho,r⟩
 ·refine(I.hok b u e).stay (fun c v hc q=>k c v ?_ q) (fun _ q=>q) fun _ _ q=>q;rcases hc with z | z
  ·rw[z];exact nit b u e
  ·exact nit c _ z
def RP (sq:Hp->Addr->List V->Prop)(a:Addr):It :=
 ⟨fun i H=>∃xs x,sq H a xs/\xs[i]? = some x,fun i H p H'=>∃x t,(∀xs,sq H a xs->xs[i]? = some x)/\H t=none/\p=.ref t/\H'=upd H t (.tup [.int i,x]),fun i H=>∃xs,sq H a xs/\i=xs.length⟩
def xG {e it T:Addr}{tk tk':Nat}{i:Int}{x:V}{u:Value}{h2:Heap}(I:Inv X pins σ H s)(hf:∀b∈[e,it],jZ X pins H b)(hlt:∀b∈[e,it],b<s.heap.objs.size)(hT:T=s.heap.objs.size)(ru:RelV x u)
 (hk:∀b o,b≠e->b≠it->s.heap.get? b=some o->h2.get? b=some o) (ht:h2.get? T=some { cls:=.type "tuple",data:=.seq #[.int i tk,u] }) :
 Inv X pins σ (upd H T (.tup [.int i,x])) { s with heap:=h2,toks:=tk' }:=by
 subst hT;have I1:Inv X pins σ (upd H s.heap.objs.size (.tup [.int i,x])) { s with heap:=s.heap.push { cls:=.type "tuple",data:=.seq [Value.int i tk,u].toArray },toks:=tk' }:=by
  refine I.laid (t':=tk') (fun b o q=>Heap.get?_push_of_some _ q) (Nat.le_refl _) ?_;exact⟨by show 2<=sizeLine;rw[bB];decide,[.int i tk,u],.cons ⟨tk,rfl⟩ (.cons ru .nil),IsTup.new _ _⟩
 have T1:=iG (t':=tk') (h':=h2) (fp:=[e,it]) I1;refine T1 (fun b hb=>⟨?_,(hf b hb).2⟩) fun b o hb q=>?_
 ·rw[au (Nat.ne_of_lt (hlt b hb))];exact(hf b hb).1
 ·by_cases hz:b=s.heap.objs.size
  ·subst hz;have q':=(Heap.get?_push_size s.heap (o:={ cls:=.type "tuple",data:=.seq [Value.int i tk,u].toArray }) rfl).symm.trans q;cases q';exact ht
  ·have q':(s.heap.push { cls:=.type "tuple",data:=.seq [Value.int i tk,u].toArray }).get? b=some o:=q;have hlt':b<(s.heap.push { cls:=.type "tuple",data:=.seq [Value.int i tk,u].toArray }).objs.size:=Heap.lt_size q';rw[Heap.size_push] at hlt';have hb':b<s.heap.objs.size:=Nat.lt_of_le_of_ne (Nat.le_of_lt_succ hlt') hz;refine hk b o (fun z=>hb (by simp[z])) (fun z=>hb (by simp[z])) ?_;obtain⟨o1,ho1⟩:∃o1,s.heap.get? b=some o1:=by
    cases hg:s.heap.get? b with
    | some o1=>exact⟨o1,rfl⟩
    | none =>
      exfalso;obtain⟨q1,q2⟩:=Heap.get?_some_iff.mp q';have q3:s.heap.objs[b]? = some o:=by
       revert q1
       generalize s.heap=hh at hb' ⊢;cases hh;intro q1;simpa[Heap.push,Array.getElem?_push,Nat.ne_of_lt hb'] using q1
      rw[Heap.get?_some_iff.mpr ⟨q3,q2⟩] at hg;cases hg
   have:=Heap.get?_push_of_some { cls:=.type "tuple",data:=.seq [Value.int i tk,u].toArray } ho1;rw[q'] at this;cases this;exact ho1
def yp {P:Program}{w:World}{K:PySem.W.Frag}{elts:List Expr}{k:Nat}{pos:Pos}(a e it:Addr):Turn P w K (.Tuple elts k pos) (RP (SqT K) a) [e,it] e (fun i h=>e≠it/\(∃old,IsEnum h e it i old)/\h.IsTupleIter it a i) where
 mem:=by simp
 obj:=fun i h st b hb=>by
  obtain⟨_,⟨old,he⟩,o,ho,c,d⟩:=st;rcases List.mem_cons.mp hb with rfl | hb
  ·exact⟨_,he,fun v z=>by cases z⟩
  ·rw[List.mem_singleton.mp hb];exact⟨o,ho,fun v z=>by rw[d] at z;cases z⟩
 keep:=fun i h h' st k=>by
  obtain⟨ne,⟨old,he⟩,o,ho,r⟩:=st;exact⟨ne,⟨old,k e (by simp) _ he⟩,o,k it (by simp) o ho,r⟩
 item:=by
  intro X hP hw hK hc i pins s σ H E I hf st hg;subst hP hw hK;obtain⟨hne,⟨old,he⟩,hit⟩:=st;obtain⟨xs,x,hq,hx⟩:=hg;obtain⟨its,rv,p,hz⟩:=I.tuple hq;obtain⟨u,hu,ru⟩:=rv.get hx;have p':s.heap.IsTuple a its.toArray:=p;have hai:a≠it:=fun z=>by
   obtain⟨o,e1,c1,_⟩:=p';obtain⟨o',e2,c2,_⟩:=hit;rw[z,e2] at e1;cases e1;rw[c2] at c1;injection c1 with c1;exact absurd c1 (by decide)
  have hae:e≠a:=fun z=>by
   obtain⟨o,e1,c1,_⟩:=p';rw[<-z,he] at e1;cases e1;injection c1 with c1;exact absurd c1 (by decide)
  have hil:i<its.toArray.size:=by
   rw[List.size_toArray];exact(List.getElem?_eq_some_iff.mp hu).1
  have ltE:e<s.heap.objs.size:=Heap.lt_size he;have ltI:it<s.heap.objs.size:=by obtain⟨o,q,_⟩:=hit;exact Heap.lt_size q
  refine wpAny_pyNext_enum_itemD (oR (A:=X.A.in1) (I.ok.hd hc) hai its.toArray) he ⟨hit,p'⟩ hil hne (by simp[hne,hae]) fun y h1 tk hy ho hs1 hT hsz hk=>?_;have hyu:y=u:=by
   have hy':its.toArray[i]? = some y:=hy;have hu':its.toArray[i]? = some u:=by simpa using hu
   rw[hu'] at hy';exact(Option.some.inj hy').symm
  subst hyu;refine⟨_,rfl,wpAny_letOwnedTupleGo_enum ho fun h2 he2 hs2=>?_⟩;have hs2':Heap.SameBut e h1 h2:=hs2;refine⟨.ref s.heap.objs.size,upd H s.heap.objs.size (.tup [.int i,x]),?_,rfl,⟨x,s.heap.objs.size,fun ys hy'=>by rw[I.tuple_inj hy' hq];exact hx,I.fresh,rfl,rfl⟩,⟨hne,⟨_,by simpa using he2⟩,?_⟩,fun b hb=>?_⟩
  ·refine xG (s:=s) (tk':=tk+1) I hf (fun b hb=>?_) rfl ru (fun b o n1 n2 q=>(hs2'.2 b n1).trans (hk b o n1 n2 q)) ((hs2'.2 _ (Nat.ne_of_gt ltE)).trans hT);rcases List.mem_cons.mp hb with rfl | hb
   ·exact ltE
   ·rw[List.mem_singleton.mp hb];exact ltI
  ·obtain⟨o,q,r⟩:=hs1.1;exact⟨o,(hs2'.2 it hne.symm).trans q,r⟩
  ·have hlt:b<s.heap.objs.size:=by
    rcases List.mem_cons.mp hb with rfl | hb
    ·exact ltE
    ·rw[List.mem_singleton.mp hb];exact ltI
   rw[au (Nat.ne_of_lt hlt)];exact(hf b hb).1
 done:=by
  intro X hP hw hK hc i pins s σ H E I hf st hg;subst hP hw hK;obtain⟨hne,⟨old,he⟩,hit⟩:=st;obtain⟨xs,hq,hx⟩:=hg;obtain⟨its,rv,p,hz⟩:=I.tuple hq;have hl:=rv.length;have hai:a≠it:=fun z=>by
   obtain⟨o,e1,c1,_⟩:=(show s.heap.IsTuple a its.toArray from p);obtain⟨o',e2,c2,_⟩:=hit;rw[z,e2] at e1;cases e1;rw[c2] at c1;injection c1 with c1;exact absurd c1 (by decide)
  have hi:i=its.toArray.size:=by rw[List.size_toArray];omega
  subst hi;refine wpAny_pyNext_enum_endD (oR (A:=X.A.in1) (I.ok.hd hc) hai its.toArray) he ⟨hit,(show s.heap.IsTuple a its.toArray from p)⟩ fun h' hx'=>⟨rfl,?_⟩;exact iG (t':=s.toks) I hf fun b o hb q=>hx' b o (fun z=>hb (by simp[z])) q
 self:=fun _ _ _ _ _ st h=>by
  obtain⟨_,⟨old,he⟩,_⟩:=st;exact wpAny_pyIter_enum he h
def yq {P:Program}{w:World}{K:PySem.W.Frag}{elts:List Expr}{k:Nat}{pos:Pos}(a e it:Addr):Turn P w K (.Tuple elts k pos) (RP (SqL K) a) [e,it] e (fun i h=>e≠it/\(∃old,IsEnum h e it i old)/\h.IsListIter it a i) where
 mem:=by simp
 obj:=fun i h st b hb=>by
  obtain⟨_,⟨old,he⟩,o,ho,c,d⟩:=st;rcases List.mem_cons.mp hb with rfl | hb
  ·exact⟨_,he,fun v z=>by cases z⟩
  ·rw[List.mem_singleton.mp hb];exact⟨o,ho,fun v z=>by rw[d] at z;cases z⟩
 keep:=fun i h h' st k=>by
  obtain⟨ne,⟨old,he⟩,o,ho,r⟩:=st;exact⟨ne,⟨old,k e (by simp) _ he⟩,o,k it (by simp) o ho,r⟩
 item:=by
  intro X hP hw hK hc i pins s σ H E I hf st hg;subst hP hw hK;obtain⟨hne,⟨old,he⟩,hit⟩:=st;obtain⟨xs,x,hq,hx⟩:=hg;obtain⟨its,rv,p,hz⟩:=I.list hq;obtain⟨u,hu,ru⟩:=rv.get hx;have p':s.heap.IsList a its.toArray:=p.isList;have hai:a≠it:=fun z=>by
   obtain⟨o,e1,c1,_⟩:=p';obtain⟨o',e2,c2,_⟩:=hit;rw[z,e2] at e1;cases e1;rw[c2] at c1;injection c1 with c1;exact absurd c1 (by decide)
  have hae:e≠a:=fun z=>by
   obtain⟨o,e1,c1,_⟩:=p';rw[<-z,he] at e1;cases e1;injection c1 with c1;exact absurd c1 (by decide)
  have hil:i<its.toArray.size:=by
   rw[List.size_toArray];exact(List.getElem?_eq_some_iff.mp hu).1
  have ltE:e<s.heap.objs.size:=Heap.lt_size he;have ltI:it<s.heap.objs.size:=by obtain⟨o,q,_⟩:=hit;exact Heap.lt_size q
  refine wpAny_pyNext_enum_itemD (Draws.list (A:=X.A.in1) (I.ok.hd hc) it a hai its.toArray) he ⟨hit,p'⟩ hil hne (by simp[hne,hae]) fun y h1 tk hy ho hs1 hT hsz hk=>?_;have hyu:y=u:=by
   have hy':its.toArray[i]? = some y:=hy;have hu':its.toArray[i]? = some u:=by simpa using hu
   rw[hu'] at hy';exact(Option.some.inj hy').symm
  subst hyu;refine⟨_,rfl,wpAny_letOwnedTupleGo_enum ho fun h2 he2 hs2=>?_⟩;have hs2':Heap.SameBut e h1 h2:=hs2;refine⟨.ref s.heap.objs.size,upd H s.heap.objs.size (.tup [.int i,x]),?_,rfl,⟨x,s.heap.objs.size,fun ys hy'=>by rw[I.list_inj hy' hq];exact hx,I.fresh,rfl,rfl⟩,⟨hne,⟨_,by simpa using he2⟩,?_⟩,fun b hb=>?_⟩
  ·refine xG (s:=s) (tk':=tk+1) I hf (fun b hb=>?_) rfl ru (fun b o n1 n2 q=>(hs2'.2 b n1).trans (hk b o n1 n2 q)) ((hs2'.2 _ (Nat.ne_of_gt ltE)).trans hT);rcases List.mem_cons.mp hb with rfl | hb
   ·exact ltE
   ·rw[List.mem_singleton.mp hb];exact ltI
  ·obtain⟨o,q,r⟩:=hs1.1;exact⟨o,(hs2'.2 it hne.symm).trans q,r⟩
  ·have hlt:b<s.heap.objs.size:=by
    rcases List.mem_cons.mp hb with rfl | hb
    ·exact ltE
    ·rw[List.mem_singleton.mp hb];exact ltI
   rw[au (Nat.ne_of_lt hlt)];exact(hf b hb).1
 done:=by
  intro X hP hw hK hc i pins s σ H E I hf st hg;subst hP hw hK;obtain⟨hne,⟨old,he⟩,hit⟩:=st;obtain⟨xs,hq,hx⟩:=hg;obtain⟨its,rv,p,hz⟩:=I.list hq;have hl:=rv.length;have hai:a≠it:=fun z=>by
   obtain⟨o,e1,c1,_⟩:=p.isList;obtain⟨o',e2,c2,_⟩:=hit;rw[z,e2] at e1;cases e1;rw[c2] at c1;injection c1 with c1;exact absurd c1 (by decide)
  have hi:i=its.toArray.size:=by rw[List.size_toArray];omega
  subst hi;refine wpAny_pyNext_enum_endD (Draws.list (A:=X.A.in1) (I.ok.hd hc) it a hai its.toArray) he ⟨hit,p.isList⟩ fun h' hx'=>⟨rfl,?_⟩;exact iG (t':=s.toks) I hf fun b o hb q=>hx' b o (fun z=>hb (by simp[z])) q
 self:=fun _ _ _ _ _ st h=>by
  obtain⟨_,⟨old,he⟩,_⟩:=st;exact wpAny_pyIter_enum he h
end
section
variable {X:Cx}{a:Expr}{ma:ME}{pos pos' p:Pos}{elts:List Expr}{kt:Nat}
def Pk (K:PySem.W.Frag)(ta:TA):TI:=fun σ H R=>ta σ H fun vs H1=>∃a,vs=[.ref a]/\(((∃xs,SqL K H1 a xs)/\R (RP (SqL K) a) H1)\/((∃xs,SqT K H1 a xs)/\R (RP (SqT K) a) H1))
def Ku {ta:TA}(hg:Gl X "enumerate")(hm:X.mg "enumerate"=none)(ha:PA X [a] ta)(hs:starEach [a] X.env=[(false,eval a X.env)]:=by rfl) :
 PI X (.Tuple elts kt pos') (.Call (.Name "enumerate" p) [a] [] pos) (Pk X.K ta):=by
 intro pins s σ H R I h;refine Call_ (jF I hg hm boot_enumerate (PyProof.Rows.callWith_type1 (bw (ha pos pins s σ H _ I h) fun us s1 ⟨vs,H1,I1,r1,q1⟩=>?_) hs rfl));obtain⟨a,e,q⟩:=q1;subst e;cases r1 with
 | cons r rr =>
   cases rr;cases r;have fp:∀b∈[s1.heap.objs.size+1,s1.heap.objs.size],jZ X pins H1 b:=fun b hb=>by
    have e:s1.heap.objs.size<=b:=by
     rcases List.mem_cons.mp hb with rfl | hb
     ·exact Nat.le_succ _
     ·rw[List.mem_singleton.mp hb];exact Nat.le_refl _
    exact I1.fpOk e (I1.hok.fresh e)
   rcases q with ⟨⟨xs,hq⟩,q⟩ | ⟨⟨xs,hq⟩,q⟩
   ·obtain⟨its,rv,p,hz⟩:=I1.list hq;refine call_enumerate_list p.isList fun h' he hit hsz hk=>wpAny_pyIter_enum he ?_;exact⟨s1.heap.objs.size+1,[s1.heap.objs.size+1,s1.heap.objs.size],_,_,H1,rfl,I1.kept (t':=s1.toks) hk,yq a _ _,⟨Nat.succ_ne_self _,⟨_,he⟩,hit⟩,fp,q⟩
   ·obtain⟨its,rv,p,hz⟩:=I1.tuple hq;refine pB (show s1.heap.IsTuple a its.toArray from p) fun h' he hit hk=>wpAny_pyIter_enum he ?_;exact⟨s1.heap.objs.size+1,[s1.heap.objs.size+1,s1.heap.objs.size],_,_,H1,rfl,I1.kept (t':=s1.toks) hk,yp a _ _,⟨Nat.succ_ne_self _,⟨_,he⟩,hit⟩,fp,q⟩
def xH:∀(ds:List D) (k i:Nat) (d:D),(dj k ds)[i]? = some d->∃e,ds[i]? = some e/\d=.tup [.int ((k+i:Nat):Int),e]
 | [],_,_,_,h=>by simp[dj] at h
 | e::ds,k,0,d,h=>by
   simp[dj] at h;exact⟨e,rfl,by rw[<-h];rfl⟩
 | e::ds,k,i+1,d,h=>by
   have h':(dj (k+1) ds)[i]? = some d:=by simpa[dj] using h
   obtain⟨e',h1,h2⟩:=xH ds (k+1) i d h';refine⟨e',by simpa using h1,?_⟩;rw[h2,show k+1+i=k+(i+1) by omega]
def ue:∀(ds:List D) (k:Nat),(dj k ds).length=ds.length
 | [],_=>rfl
 | _::ds,k=>by simp[dj,ue ds (k+1)]
def sG {K:PySem.W.Frag}{B:Hp}{a:Addr}{ds:List D}{xs:List V}{sq:Hp->Addr->List V->Prop}(hm:∀{H':Hp},Same B H'->sq H' a xs)(h2:Dens K B ds xs):Walk K (RP sq a) B (dj 0 ds):=by
 intro i os1 H1 L g;have gu:=g.trans hide_le;refine⟨fun d hd=>?_,fun hl=>⟨xs,hm gu,by rw[<-h2.length,<-ue ds 0];exact hl⟩⟩;obtain⟨e,he,rfl⟩:=xH ds 0 i d hd;obtain⟨x,hx,r⟩:=h2.get he;refine⟨⟨xs,x,hm gu,hx⟩,fun y H2 z=>?_⟩;obtain⟨x',t,z,ht,rfl,rfl⟩:=z;have:=z xs (hm gu);rw[hx] at this;cases this;refine⟨aK ht (.tup [.int i,x]),.newT L ht ?_⟩;rw[Nat.zero_add];exact .cons (.int _) (.cons (r.mono g _ _) .nil)
def By (hg:Gl X "enumerate")(hm:X.mg "enumerate"=none)(h:DE X a ma)(hs:starEach [a] X.env=(false,eval a X.env)::starEach [] X.env:=by rfl)(hs':starEach [a] X.env=[(false,eval a X.env)]:=by rfl) :
 DI X (.Tuple elts kt pos') (.Call (.Name "enumerate" p) [a] [] pos) (Bl ma):=by
 obtain⟨t,pt,q⟩:=h;refine⟨_,Ku hg hm (aJ pt aY hs) hs',fun os σ H δ xs R s m k=>?_⟩;obtain⟨d,e1,m⟩:=aj m;refine q os σ H δ d _ s e1 fun v H1 g1 r1=>?_;cases d with
 | tup ds =>
   cases m;obtain⟨a,ys,rfl,h1,h2⟩:=r1.tup_inv;exact⟨a,rfl,.inr ⟨⟨ys,.of (hide_le _ _ h1)⟩,k _ H1 g1 (sG (fun g=>.of (g _ _ h1)) h2)⟩⟩
 | lst ds =>
   cases m;obtain⟨a,ys,rfl,h1,h2⟩:=r1.lst_inv;exact⟨a,rfl,.inl ⟨⟨ys,hide_le.seq h1⟩,k _ H1 g1 (sG (fun g=>g.seq h1) h2)⟩⟩
 | _=>cases m
end
def lr {P:Program}{w:World}{K:PySem.W.Frag}{mg:Str->Option Value}{base:Heap}{x qual:Str}{st:Stmt}{f:Addr}{fd:FuncData}{N ps:List Str}{k kk:Nat}{m:MS}{M:MF}(hkk:N.length<=kk)(F:Fun K x qual st f fd)(S:cF N ps (aH st))
 (hM:M=jt ps.length kk m)
 (h:∀(cdv:Value) (A:Around) (outer:List Env) (s:Shared) (H:Hp) (E:XK),Room k (A.deeper (envOfC qual (aH st) s.heap.objs.size f cdv)) ->
  Ep (jY ou P w K mg base N qual (aH st) f cdv A outer s H E).nox False (dg st) m) :
 eF P w K mg base ou (k+1) f fd ps (rJ K M):=by
 rw[hM];exact Rt hkk F S h
section
variable {X:Cx}{os:List Addr}{H H':Hp}{δ:Ev}{σ:L2.St}
def Cv {i:Nat}(h:i<δ.length)(e:slot δ i=none):δ[i]? = some none:=by
 unfold slot at e;rw[List.getElem?_eq_getElem h] at e ⊢;exact congrArg some e
def Sl.own_at (s:Sl X os H δ σ){n i:Nat}{d:D}(hn:X.N.length=n)(hi:i<n)(h:ownAt n i δ=some d) :
 δ[i]? = some none/\δ[n+i]? = some (some d)/\∃a,σ[i]? = some (some (.ref a))/\a∈os/\(X.fn ""=true->X.H₀ a=none)/\Own X.K (hide os H) H a d:=by
 subst hn;unfold ownAt at h;cases e:slot δ i with
 | some y=>rw[e] at h;cases h
 | none =>
   rw[e] at h;have h1:=Cv (Nat.lt_of_lt_of_le hi s.len) e;have h2:=m9 h;exact⟨h1,h2,s.ow i d hi h1 h2⟩
def Sl.make (s:Sl X os H δ σ){n i:Nat}{d:D}{p:Addr}(hn:X.N.length=n)(hi:i<n)(g:Same H H')(hp:H p=none)(o:Own X.K (hide (p::os) H') H' p d):Sl X (p::os) H' (iI n i d δ) (σ.set i (some (.ref p))):=by
 subst hn;have np:=s.live.ne hp;have big:Same (hide os H) (hide (p::os) H'):=fun b u e=>by
  have hb:b∉os:=fun z=>by rw[bj z] at e;cases e
  rw[aF hb] at e;have hbp:b≠p:=aO e hp;rw[aF (by simp[hb,hbp])];exact g _ _ e
 have lv:∃u,H' p=some u/\Nb u:=by
  cases d with
  | lst ds=>obtain⟨xs,h1,_⟩:=o;exact⟨_,h1,True.intro⟩
  | dic t ks vs=>obtain⟨xs,h1,_⟩:=o;rcases h1 with ⟨_,_,h1,_⟩ | ⟨_,_,h1,_⟩ <;> exact⟨_,h1,True.intro⟩
  | _=>exact o.elim
 have own_up:∀{a:Addr} {e:D},Own X.K (hide os H) H a e->Own X.K (hide (p::os) H') H' a e:=fun {a e} h=>by
  cases e with
  | lst ds=>obtain⟨xs,h1,h2⟩:=h;exact⟨xs,g _ _ h1,h2.mono big _ _⟩
  | dic t ks vs=>obtain⟨xs,h1,h2⟩:=h;exact⟨xs,h1.mono g,h2.mono big _ _⟩
  | _=>exact h
 have hid:i<δ.length:=Nat.lt_of_lt_of_le hi s.len;have at_i:∀{e:D},(iI X.N.length i d δ)[X.N.length+i]? = some (some e)->e=d:=fun {e} h=>by
  unfold iI at h;by_cases hl:X.N.length+i<δ.length
  ·rw[List.getElem?_set_self (by simpa using hl)] at h;cases h;rfl
  ·rw[List.getElem?_eq_none (by simpa using hl)] at h;cases h
 have off:∀{j:Nat},j≠i->j≠X.N.length+i->(iI X.N.length i d δ)[j]? = δ[j]?:=fun {j} h1 h2=>by
  unfold iI;rw[List.getElem?_set_ne (Ne.symm h2),List.getElem?_set_ne (Ne.symm h1)]
 have self_none:(iI X.N.length i d δ)[i]? = some none:=by
  unfold iI;rw[List.getElem?_set_ne (by omega),List.getElem?_set_self hid]
 have sig:∀{j:Nat},j≠i->(σ.set i (some (V.ref p)))[j]? = σ[j]?:=fun {j} h=>List.getElem?_set_ne (Ne.symm h);have sigi:(σ.set i (some (V.ref p)))[i]? = some (some (.ref p)):=List.getElem?_set_self (by rw[s.n];exact hi);have p0:X.H₀ p=none:=s.keep.free hp;refine⟨by simpa using s.n,by unfold iI;simpa using s.len,fun j e hj h=>?_,fun j e hj h1 h2=>?_,fun j k e f a hj hk h1 h2 h3 h4 h5 h6=>?_,fun a ha=>?_,s.keep.trans g⟩
 ·by_cases hji:j=i
  ·subst hji;rw[self_none] at h;cases h
  ·rw[off hji (by omega)] at h;obtain⟨v,e1,r⟩:=s.pl j e hj h;exact⟨v,(sig hji).trans e1,r.mono big _ _⟩
 ·by_cases hji:j=i
  ·subst hji;have:=at_i h2;subst this;exact⟨p,sigi,List.mem_cons_self,fun _=>p0,o⟩
  ·rw[off hji (by omega)] at h1;rw[off (by omega) (by omega)] at h2;obtain⟨a,e1,e2,e3,e4⟩:=s.ow j e hj h1 h2;exact⟨a,(sig hji).trans e1,List.mem_cons_of_mem _ e2,e3,own_up e4⟩
 ·by_cases hji:j=i
  ·by_cases hki:k=i
   ·rw[hji,hki]
   ·exfalso;subst hji;rw[off hki (by omega)] at h2;rw[off (by omega) (by omega)] at h4;obtain⟨a',e1,e2,_⟩:=s.ow k f hk h2 h4;rw[sigi] at h5;rw[sig hki,e1] at h6;cases h5;cases h6;exact np e2
  ·rw[off hji (by omega)] at h1;rw[off (by omega) (by omega)] at h3;by_cases hki:k=i
   ·exfalso;subst hki;obtain⟨a',e1,e2,_⟩:=s.ow j e hj h1 h3;rw[sigi] at h6;rw[sig hji,e1] at h5;cases h5;cases h6;exact np e2
   ·rw[off hki (by omega)] at h2;rw[off (by omega) (by omega)] at h4;exact s.inj j k e f a hj hk h1 h2 h3 h4 ((sig hji).symm.trans h5) ((sig hki).symm.trans h6)
 ·rcases List.mem_cons.mp ha with rfl | ha
  ·exact lv
  ·exact(s.live.mono g) a ha
def K9 {p:Addr}(g:Same H H')(hp:H p=none):Fr X os H (p::os) H':=by
 refine⟨fun b u e=>?_,fun b h _=>List.mem_cons_of_mem _ h⟩;have hb:b∉os:=fun z=>by rw[bj z] at e;cases e
 rw[aF hb] at e;have hbp:b≠p:=aO e hp;rw[aF (by simp[hb,hbp])];exact g _ _ e
def Sl.chg (s:Sl X os H δ σ){n i:Nat}{d d':D}{a:Addr}{o:HO}(hn:X.N.length=n)(hi:i<n)(hfn:X.fn ""=true)(h:ownAt n i δ=some d)(ha:σ[i]? = some (some (.ref a)))(ho:Own X.K (hide os H) (upd H a o) a d') :
 Sl X os (upd H a o) (δ.set (n+i) (some d')) σ/\Fr X os H os (upd H a o):=by
 obtain⟨h1,h2,a',e1,e2,e3,e4⟩:=s.own_at hn hi h;subst hn;rw[ha] at e1;cases e1;have hd:hide os (upd H a o)=hide os H:=by
  funext b
  by_cases hb:b∈os
  ·rw[bj hb,bj hb]
  ·rw[aF hb,aF hb,au (fun z:b=a=>hb (by rw[z];exact e2))]
 have off:∀{j:Nat},j≠X.N.length+i->(δ.set (X.N.length+i) (some d'))[j]? = δ[j]?:=fun {j} h=>List.getElem?_set_ne (Ne.symm h);have at_i:∀{e:D},(δ.set (X.N.length+i) (some d'))[X.N.length+i]? = some (some e)->e=d':=fun {e} h=>by
  by_cases hl:X.N.length+i<δ.length
  ·rw[List.getElem?_set_self hl] at h;cases h;rfl
  ·rw[List.getElem?_eq_none (by simpa using hl)] at h;cases h
 have back:∀{j:Nat} {e:D},j<X.N.length->(δ.set (X.N.length+i) (some d'))[X.N.length+j]? = some (some e)->∃e',δ[X.N.length+j]? = some (some e'):=fun {j e} hj h=>by
  by_cases hji:j=i
  ·subst hji;exact⟨d,h2⟩
  ·rw[off (by omega)] at h;exact⟨e,h⟩
 refine⟨⟨s.n,by simpa using s.len,fun j e hj h=>?_,fun j e hj q1 q2=>?_,fun j k e f b hj hk q1 q2 q3 q4 q5 q6=>?_,fun b hb=>?_,fun b u e=>?_⟩,⟨by rw[hd];exact Same.refl _,fun _ h _=>h⟩⟩
 ·rw[off (by omega)] at h;obtain⟨v,r1,r2⟩:=s.pl j e hj h;exact⟨v,r1,by rw[hd];exact r2⟩
 ·rw[off (by omega)] at q1;by_cases hji:j=i
  ·subst hji;have:=at_i q2;subst this;exact⟨a,ha,e2,e3,by rw[hd];exact ho⟩
  ·rw[off (by omega)] at q2;obtain⟨b,r1,r2,r3,r4⟩:=s.ow j e hj q1 q2;have hba:b≠a:=fun z=>by
    subst z;exact hji (s.inj j i e d b hj hi q1 h1 q2 h2 r1 ha)
   refine⟨b,r1,r2,r3,?_⟩;rw[hd];cases e with
   | lst ds=>obtain⟨xs,w1,w2⟩:=r4;exact⟨xs,(au hba).trans w1,w2⟩
   | dic t ks vs =>
     obtain⟨xs,w1,w2⟩:=r4;refine⟨xs,?_,w2⟩;rcases w1 with ⟨z,kvs,w1,r⟩ | ⟨z,kvs,w1,r⟩
     ·exact .inl ⟨z,kvs,(au hba).trans w1,r⟩
     ·exact .inr ⟨z,kvs,(au hba).trans w1,r⟩
   | _=>exact r4
 ·rw[off (by omega)] at q1 q2;obtain⟨e',w1⟩:=back hj q3;obtain⟨f',w2⟩:=back hk q4;exact s.inj j k e' f' b hj hk q1 q2 w1 w2 q5 q6
 ·by_cases hba:b=a
  ·subst hba;refine⟨o,az,?_⟩;cases d' with
   | lst ds=>obtain⟨xs,w1,_⟩:=ho;rw[az] at w1;cases w1;exact True.intro
   | dic t ks vs=>obtain⟨xs,w1,_⟩:=ho;rcases w1 with ⟨_,_,w1,_⟩ | ⟨_,_,w1,_⟩ <;> (rw[az] at w1;cases w1;exact True.intro)
   | _=>exact ho.elim
  ·obtain⟨u,e,n⟩:=s.live b hb;exact⟨u,(au hba).trans e,n⟩
 ·rw[au (aO e (e3 hfn))];exact s.keep b u e
def Sl.frz (s:Sl X os H δ σ){n i:Nat}(hn:X.N.length=n)(hi:i<n):∃os',Sl X os' H (frz n i δ) σ/\(∀b∈os',b∈os)/\(∀b∈os,b∉os'->(X.fn ""=true->X.H₀ b=none)/\∃d,Own X.K (hide os H) H b d):=by
 by_cases hl:∃ds,ownAt n i δ=some (.lst ds)
 ·obtain⟨ds,h⟩:=hl;have ef:DL.frz n i δ=(δ.set i (some (.lst ds))).set (n+i) none:=by unfold DL.frz;rw[h]
  rw[ef];obtain⟨h1,h2,a,e1,e2,e3,e4⟩:=s.own_at hn hi h;subst hn;generalize hd:D.lst ds=d at *;have hid:i<δ.length:=Nat.lt_of_lt_of_le hi s.len;have hid2:X.N.length+i<δ.length:=(List.getElem?_eq_some_iff.mp h2).1;have mem:∀b,b∈os.filter (fun c=>decide (c≠a))↔b∈os/\b≠a:=fun b=>by simp
  have na:a∉os.filter (fun c=>decide (c≠a)):=fun z=>((mem a).mp z).2 rfl;have big:Same (hide os H) (hide (os.filter (fun c=>decide (c≠a))) H):=fun b u e=>by
   have hb:b∉os:=fun z=>by rw[bj z] at e;cases e
   rw[aF hb] at e;rw[aF (fun z=>hb ((mem b).mp z).1)];exact e
  have dn:Den X.K (hide (os.filter (fun c=>decide (c≠a))) H) d (.ref a):=by
   subst hd;obtain⟨xs,w1,w2⟩:=e4;exact .lst (.of ((aF na).trans w1)) (w2.mono big _ _)
  have off:∀{j:Nat},j≠i->j≠X.N.length+i->((δ.set i (some d)).set (X.N.length+i) none)[j]? = δ[j]?:=fun {j} q1 q2=>by
   rw[List.getElem?_set_ne (Ne.symm q2),List.getElem?_set_ne (Ne.symm q1)]
  have at_i:((δ.set i (some d)).set (X.N.length+i) none)[i]? = some (some d):=by
   rw[List.getElem?_set_ne (by omega),List.getElem?_set_self hid]
  have at_n:((δ.set i (some d)).set (X.N.length+i) none)[X.N.length+i]? = some none:=by
   rw[List.getElem?_set_self (by simpa using hid2)]
  refine⟨os.filter (fun c=>decide (c≠a)),⟨s.n,by simpa using s.len,fun j e hj q=>?_,fun j e hj q1 q2=>?_,fun j k e f b hj hk q1 q2 q3 q4 q5 q6=>?_,fun b hb=>s.live b ((mem b).mp hb).1,s.keep⟩,fun b hb=>((mem b).mp hb).1,fun b hb hn=>?_⟩
  ·by_cases hji:j=i
   ·subst hji;rw[at_i] at q;cases q;exact⟨_,e1,dn⟩
   ·rw[off hji (by omega)] at q;obtain⟨v,r1,r2⟩:=s.pl j e hj q;exact⟨v,r1,r2.mono big _ _⟩
  ·by_cases hji:j=i
   ·subst hji;rw[at_i] at q1;cases q1
   ·rw[off hji (by omega)] at q1;rw[off (by omega) (by omega)] at q2;obtain⟨b,r1,r2,r3,r4⟩:=s.ow j e hj q1 q2;have hba:b≠a:=fun z=>by
     subst z;exact hji (s.inj j i e d b hj hi q1 h1 q2 h2 r1 e1)
    refine⟨b,r1,(mem b).mpr ⟨r2,hba⟩,r3,?_⟩;cases e with
    | lst ds=>obtain⟨xs,w1,w2⟩:=r4;exact⟨xs,w1,w2.mono big _ _⟩
    | dic t ks vs=>obtain⟨xs,w1,w2⟩:=r4;exact⟨xs,w1,w2.mono big _ _⟩
    | _=>exact r4
  ·by_cases hji:j=i
   ·subst hji;rw[at_i] at q1;cases q1
   ·by_cases hki:k=i
    ·subst hki;rw[at_i] at q2;cases q2
    ·rw[off hji (by omega)] at q1;rw[off hki (by omega)] at q2;rw[off (by omega) (by omega)] at q3 q4;exact s.inj j k e f b hj hk q1 q2 q3 q4 q5 q6
  ·have:b=a:=Classical.byContradiction fun z=>hn ((mem b).mpr ⟨hb,z⟩);subst this;exact⟨e3,d,e4⟩
 ·have ef:DL.frz n i δ=δ:=by
   unfold DL.frz;split
   ·rename_i ds h;exact absurd ⟨ds,h⟩ hl
   ·rfl
  rw[ef];exact⟨os,s,fun _ z=>z,fun b h1 h2=>absurd h1 h2⟩
def Sl.frzs {n:Nat}(hn:X.N.length=n):∀(is:List Nat) {os:List Addr} {δ:Ev},(∀i∈is,i<n)->Sl X os H δ σ->∃os',Sl X os' H (frzs n is δ) σ/\(∀b∈os',b∈os)/\(∀b∈os,b∉os'->(X.fn ""=true->X.H₀ b=none)/\∃B d,Own X.K B H b d)
 | [],os,δ,_,s=>⟨os,s,fun _ z=>z,fun b h1 h2=>absurd h1 h2⟩
 | i::is,os,δ,hi,s=>by
   obtain⟨os1,s1,a1,b1⟩:=s.frz hn (hi i List.mem_cons_self);obtain⟨os2,s2,a2,b2⟩:=Sl.frzs hn is (fun j h=>hi j (List.mem_cons_of_mem _ h)) s1;refine⟨os2,s2,fun b h=>a1 b (a2 b h),fun b h h'=>?_⟩;by_cases h1:b∈os1
   ·exact b2 b h1 h'
   ·obtain⟨q1,d,q2⟩:=b1 b h h1;exact⟨q1,_,d,q2⟩
def Pq {os':List Addr}(hfn:X.fn ""=true)(h1:∀b∈os',b∈os)(h2:∀b∈os,b∉os'->(X.fn ""=true->X.H₀ b=none)/\∃B d,Own X.K B H b d):Fr X os H os' H:=by
 refine⟨fun b u e=>?_,fun b h n=>?_⟩
 ·have hb:b∉os:=fun z=>by rw[bj z] at e;cases e
  rw[aF hb] at e;rw[aF (fun z=>hb (h1 b z))];exact e
 ·exact Classical.byContradiction fun z=>n ((h2 b h z).1 hfn)
mutual
def Den.fl {K:PySem.W.Frag}{B B':Hp}(h:∀a xs,B a=some (.tup xs)->B' a=some (.tup xs)):∀(d:D) (v:V),DL.flat d=true->Den K B d v->Den K B' d v
 | .non,_,_,q=>by simp only[Den] at q ⊢;exact q
 | .bl _,_,_,q=>by simp only[Den] at q ⊢;exact q
 | .int _,_,_,q=>by simp only[Den] at q ⊢;exact q
 | .str _,_,_,q=>by simp only[Den] at q ⊢;exact q
 | .tup ds,_,f,q=>by
   simp only[Den] at q ⊢;obtain⟨a,xs,e1,h1,h2⟩:=q;exact⟨a,xs,e1,h a xs h1,Dens.fl h ds xs (by simpa only[DL.flat] using f) h2⟩
 | .lst ds,_,f,_=>by simp[DL.flat] at f
 | .dic t ks ds,_,f,_=>by simp[DL.flat] at f
def Dens.fl {K:PySem.W.Frag}{B B':Hp}(h:∀a xs,B a=some (.tup xs)->B' a=some (.tup xs)):∀(ds:List D) (xs:List V),DL.flats ds=true->Dens K B ds xs->Dens K B' ds xs
 | [],_,_,q=>by simp only[Dens] at q ⊢;exact q
 | d::ds,_,f,q=>by
   simp only[Dens] at q ⊢;obtain⟨x,r,e1,h1,h2⟩:=q;simp only[DL.flats,Bool.and_eq_true] at f;exact⟨x,r,e1,Den.fl h d x f.1 h1,Dens.fl h ds r f.2 h2⟩
end
variable {e:Expr}{ma mb:ME}{mc:MT}{m:MS}{PX:Prop}{pos p2 p3:Pos}
def vd {n:Nat}{is:List Nat}{sts:List Stmt}(hn:X.N.length=n)(his:∀i∈is,i<n)(hfn:X.fn ""=true)(h:Ep X PX sts m):Ep X PX sts (J7 n is m):=by
 obtain⟨t,p,q⟩:=h;refine⟨t,p,fun os σ H δ r D s me k=>?_⟩;obtain⟨os',s',a1,b1⟩:=Sl.frzs hn is his s;exact q os' σ H _ r D s' me (k.mono (Pq hfn a1 b1))
def zq {n i:Nat}{x:Str}(hn:X.N.length=n)(hi:i<n)(he:DF X e ma)(hg:PG X (.Name x p2) (cR i))(hs:swapsWithSole [.Name x p2] e pos.line X.env=pure false:=by rfl)(hw:swappedStores [.Name x p2] e X.env=pure none:=by rfl)
 (h1:(assignEach [.Name x p2] X.env).map (·.2)=[assign (.Name x p2) X.env]:=by rfl):DS X PX (.Assign [.Name x p2] e pos) (wg n i ma):=by
 obtain⟨t,p,q⟩:=he;refine⟨_,gU p hg hs hw h1,fun os σ H δ r D s m k=>?_⟩;obtain⟨d,e1,m⟩:=aj m;cases m;exact q os σ H δ d _ s e1 fun a H' g ha o=>k _ H' (a::os) (K9 g ha) (s.make hn hi g ha o)
def PK {n i:Nat}{xo:Expr}{p4:Pos}(hn:X.N.length=n)(hi:i<n)(hfn:X.fn ""=true)(hv:PE X xo (cG i))(he:DE X e ma)
 (hbase:attributeBase xo "append" X.env (eval xo X.env)=eval xo X.env:=by rfl)
 (hfew:((backTo p3 (starEach [e] X.env)).all (fun x => !x.1)&&(backToKw p3 (keywordEach [] X.env)).all (fun x=>x.1.isSome)
  && decide ([e].length+([]:List Keyword).length+(if ([]:List Keyword).isEmpty then 0 else 1)<30))=true:=by rfl)
 (hline:(p2.endLine==p3.line)=true:=by rfl) (hs:starEach [e] X.env=(false,eval e X.env)::starEach [] X.env:=by rfl) (hplain:(backTo p3 (starEach [] X.env)).any (·.1)=false:=by rfl) :
 DS X PX (.Expr (.Call (.Attribute xo "append" p2) [e] [] p3) p4) (NZ n i ma):=by
 obtain⟨t,p,q⟩:=he;refine⟨_,lX (Mu PySem.F.plainAttrs_list PySem.F.slot_list_append PySem.F.type_list_append Di hv (aJ p aY hs) hbase hfew hline hs hplain),fun os σ H δ r D s m k=>?_⟩;obtain⟨y,e1,m⟩:=aj m;split at m
 ·rename_i ds ho;split at m
  ·rename_i hl;cases m;obtain⟨w1,w2,a,w3,w4,w5,xs,w6,w7⟩:=s.own_at hn hi ho;refine⟨_,w3,.inl ⟨rfl,xs,.of w6⟩,q os σ H δ y _ s e1 fun v H' g rv=>?_⟩;refine⟨a,xs,v,rfl,rfl,g _ _ w6,by rw[<-w7.length,sizeLine_eq];exact hl,?_⟩;obtain⟨s2,f2⟩:=(s.mono g).chg (d':=.lst (ds++[y])) (o:=.lst (xs++[v])) hn hi hfn ho w3 ⟨_,az,(w7.mono g.hd _ _).append (.cons rv .nil)⟩;exact k σ _ os ((Fr.of g).trans f2) s2
  ·cases m
 ·cases m
end
section
variable {X:Cx}{scX sc:Scope}{NX N:List Str}{k:Nat}{fv:List Nat}{PX:Prop}
def Lg {x:Str}{p2 spos:Pos}{i:Nat}{elt tg iter:Expr}{ifs:List Expr}{pos:Pos}{mi:MI}{g:MG}{mc:MT}{me:ME}(hlt:Nat.blt i X.N.length=true)(hpg:PG X (.Name x p2) (cR i))(hc:X.calm=true)(S:bW scX sc NX N k fv)(hX:X.env.scope=scX)(hN:X.N=NX)(hi:DI X tg iter mi)(hbl:Below k g)
 (hb:∀C s H fp,DG (jo X sc N C s H fp) tg g/\xZ (jo X sc N C s H fp) ifs mc/\DE (jo X sc N C s H fp) elt me)
 (hsw:swapsWith (.ListComp elt [⟨tg,iter,ifs,0⟩] sc pos) (some (.Name x p2)) spos.line X.env=pure true:=by rfl) (hs:∀x,foldedSetIterable iter X.env x=pure x:=by intro _;rfl) (hil:ifs.length<=1:=by decide) :
 DS X PX (.Assign [.Name x p2] (.ListComp elt [⟨tg,iter,ifs,0⟩] sc pos) spos) (d8 (dR k fv mi g mc me) (gN i)):=by
 refine⟨_,Gw xV hc S hX hN hi hbl hil hb hpg hsw hs,fun os σ H δ r D s m kq=>?_⟩;obtain⟨d,e1,m⟩:=aj m;cases m;obtain⟨ds,rfl⟩:=tW (pick k fv) mi g mc me δ d e1;refine⟨os,δ,_,s,e1,fun p H' g hp ow=>?_⟩;exact kq _ H' os (.of g) ((s.mono g).set i (nM hlt) (ow.den (s.live.ne hp)))
end
end DL
namespace DL
open PySem
noncomputable def La:MF:=fun ds=>match ds with | [.int i,.int j]=>some (.int (if j>i then j else i)) | _=>none
noncomputable def Pu:MF:=fun ds=>match ds with | [.int i,.int j]=>some (.int (if j<i then j else i)) | _=>none
noncomputable def vU (k:Nat):D->Option D
 | .tup xs=>some (.tup (xs.drop k))
 | .lst xs=>some (.lst (xs.drop k))
 | _=>none
noncomputable def qX (a b:ME):ME:=fun δ=>(a δ).bind fun x=>(b δ).bind fun y=>match x,y with
 | .lst ds,.int k=>if -9223372036854775808<=k/\k<9223372036854775808/\ds.length*k.toNat<=16777216 then some (.lst (List.replicate k.toNat ds).flatten) else none
 | _,_=>none
def Ge (n i:Nat)(k a:ME):MS:=fun δ=>(k δ).bind fun z=>(a δ).bind fun y=>match ownAt n i δ,z,y with
 | some (.lst ds),.int j,.int b=>(qM ds.length j).bind fun q=>(ds[q]?).bind fun o=>match o with
   | .int c=>some (.nx (δ.set (n+i) (some (.lst (ds.set q (.int (c+b)))))))
   | _=>none
 | _,_,_=>none
def NT (n i:Nat)(a:ME):MS:=fun δ=>(a δ).bind fun y=>match ownAt n i δ,y with
 | some (.lst ds),.tup es=>if ds.length+es.length<=16777216 then some (.nx (δ.set (n+i) (some (.lst (ds++es))))) else none
 | some (.lst ds),.lst es=>if ds.length+es.length<=16777216 then some (.nx (δ.set (n+i) (some (.lst (ds++es))))) else none
 | _,_=>none
noncomputable def fM (xs ys:List D):List D:=(xs.zip ys).map fun p=>.tup [p.1,p.2]
def rY (a b:ME):MI:=fun δ=>(a δ).bind fun x=>(b δ).bind fun y=>match x,y with
 | .lst xs,.lst ys=>some (fM xs ys)
 | _,_=>none
def qY (a b:ME):ME:=fun δ=>(rY a b δ).bind fun xs=>if xs.length<=16777216 then some (.lst xs) else none
noncomputable def intsOf:List D->Option (List Int)
 | []=>some []
 | .int i::r=>(intsOf r).bind fun q=>some (i::q)
 | _=>none
noncomputable def isKey:D->Bool
 | .int _=>true
 | .str _=>true
 | _=>false
def Pb:D->Bool
 | .tup ds=>ds.all isKey
 | _=>false
def Td (n i:Nat)(k a:ME):MS:=fun δ=>(a δ).bind fun y=>(k δ).bind fun z=>match ownAt n i δ with
 | some (.dic true ks vs)=>if Pb z=true/\(ks.all fun q => !gD q z)=true/\ks.length<16777216 then some (.nx (δ.set (n+i) (some (.dic true (ks++[z]) (vs++[y]))))) else none
 | _=>none
noncomputable def bJ:List D->List D->Int->Option D
 | .int j::ks,v::vs,i=>if j=i then some v else bJ ks vs i
 | _::ks,_::vs,i=>bJ ks vs i
 | _,_,_=>none
def Bs (d k x:ME):ME:=fun δ=>(d δ).bind fun dd=>(k δ).bind fun z=>(x δ).bind fun y=>match dd,z with
 | .dic false ks vs,.int i=>some ((bJ ks vs i).getD y)
 | _,_=>none
noncomputable def gA (ks:List Int)(n:Int):List Int:=if n∈ks then ks else ks++[n]
noncomputable def sortI (ks:List Int):List Int:=ks.mergeSort fun a b=>decide (a<=b)
def lF:D->Option D
 | .lst xs=>(intsOf xs).bind fun is=>if is.length+1<4096/\(is.foldl gA []).length<64 then some (.lst ((sortI (is.foldl gA [])).map D.int)) else none
 | _=>none
def Ru:MF:=fun ds=>match ds with
 | [.tup xs]=>(intsOf xs).bind fun is=>some (.int is.sum)
 | [.lst xs]=>(intsOf xs).bind fun is=>some (.int is.sum)
 | _=>none
end DL
namespace DL
open PySem PySem.Spec PyProof.Rows L2
section
variable {X:Cx}{PX:Prop}{a b e:Expr}{ma mb me:ME}{pos p p2 p3:Pos}
def Ez {K:PySem.W.Frag}{H:Hp}{d d':D}{vs:List V}(h:Dens K H [d,d'] vs):∃v w,vs=[v,w]/\Den K H d v/\Den K H d' w:=by
 obtain⟨x,r,rfl,h1,h2⟩:=h.uncons;obtain⟨y,r2,rfl,h3,h4⟩:=h2.uncons;exact⟨x,y,by rw[h4.unnil],h1,h3⟩
def Jr (hc:X.calm=true):CallD X (.builtin "max") La:=by
 refine⟨_,Eg hc,fun os H L ds d vs Q r m k=>?_⟩
 match ds,m with
 | [.int i,.int j],m =>
   cases m;obtain⟨v,w,rfl,h1,h2⟩:=Ez r;exact⟨i,j,by rw[h1.int_inv,h2.int_inv],k _ H (Same.refl _) (.int _)⟩
def Ql (hc:X.calm=true):CallD X (.builtin "min") Pu:=by
 refine⟨_,Ef hc,fun os H L ds d vs Q r m k=>?_⟩
 match ds,m with
 | [.int i,.int j],m =>
   cases m;obtain⟨v,w,rfl,h1,h2⟩:=Ez r;exact⟨i,j,by rw[h1.int_inv,h2.int_inv],k _ H (Same.refl _) (.int _)⟩
def zr (ha:DF X a ma)(hb:DE X b mb):DF X (.BinOp a .Mult b pos) (qX ma mb):=by
 obtain⟨ta,pa,qa⟩:=ha;obtain⟨tb,pb,qb⟩:=hb;refine⟨_,GF G6 pa pb,fun os σ H δ d Q s m k=>?_⟩;obtain⟨dx,e1,m⟩:=aj m;obtain⟨dy,e2,m⟩:=aj m;refine qa os σ H δ dx _ s e1 fun l H1 g1 hl o1=>?_;refine qb os σ H1 δ dy _ (s.mono g1) e2 fun y H2 g2 r2=>?_
 match dx,dy,m with
 | .lst ds,.int n,m =>
   have m':(if -9223372036854775808<=n/\n<9223372036854775808/\ds.length*n.toNat<=16777216 then some (D.lst (List.replicate n.toNat ds).flatten) else none)=some d:=m;split at m'
   ·rename_i hz;cases m';obtain⟨xs,h1,h2⟩:=o1;have hlen:=h2.length;refine⟨l,n,xs,rfl,r2.int_inv,g2 _ _ h1,by omega,by omega,by rw[bB,<-hlen];exact hz.2.2,fun q hq=>?_⟩;have nl:l∉os:=s.live.ne hl;refine k q _ ((g1.trans g2).trans (aK hq _)) ((g1.trans g2).free hq) ⟨_,az,?_⟩;refine(h2.flat n.toNat).mono (fun c u hc=>?_) _ _;have hc2:c∉l::os:=fun z=>by rw[bj z] at hc;cases hc
    rw[aF hc2] at hc;have hc3:H2 c=some u:=g2 _ _ hc;have hcq:c≠q:=aO hc3 hq;rw[aF (by simp only[List.mem_cons,not_or];exact⟨hcq,fun z=>hc2 (List.mem_cons_of_mem _ z)⟩),au hcq];exact hc3
   ·cases m'
def zg (l b:Addr)(us ws:Array Value)(n n2:Nat)(dd:Option Addr)(sl:Array (Option Value))(hlong:¬(!us.isEmpty&&Builtin.List.listTooLong (us.size+ws.size))=true)(h1:us.size<=sizeLine)(h2:(us++ws).size<=sizeLine+1) :
 Meets (Builtin.«list.extend» ⟨[.ref l,.ref b],[]⟩) (fun _ R s=>s.heap.get? l=some { cls:=.type "list",data:=.seq us n }/\s.heap.get? b=some { cls:=.type "tuple",dict:=dd,data:=.seq ws n2,slots:=sl } /\
  R (.ok (.ret Value.none)) { s with heap:=s.heap.update l (Obj.mapSeq fun x=>x++ws) }) :=
 .of_wp fun prog w A R s h=>by
  obtain⟨hp,g,d,tk,os⟩:=s;obtain⟨hl,hb,h⟩:=h;have f1:=AutoSeq1.idx_int;have f2:=AutoSeq1.sub_tuple_tuple;have f3:=AutoSeq1.sub_list_list;have f4:=AutoSeq1.sub_tuple_list;have f5:=AutoSeq1.sub_list_tuple
  wp_walk using (wpAny_updateSeq hl rfl (hz:=h1) (_hz':=h2)),AutoSeq1.wpAny_loadPart' hl,AutoSeq1.wpAny_loadPart' hb
  exact⟨_,rfl,h⟩
def Dv:QD X "list.extend" (fun x vs H Q=>∃l b xs zs,x=.ref l/\vs=[.ref b]/\H l=some (.lst xs)/\SqT X.K H b zs/\xs.length+zs.length<=sizeLine/\Q .non (upd H l (.lst (xs++zs)))):=by
 intro pins s σ H x vs v us Q I rx rv h;obtain⟨l,b,xs,zs,rfl,rfl,hH,hB,hz,q⟩:=h;cases rx;obtain⟨u,rfl,ru⟩:=rv.one;cases ru;obtain⟨z,its,n,r,hl,e⟩:=I.lstM hH;obtain⟨its2,r2,⟨⟨c2,d2,dt2,sl2⟩,e2,c2',n2,t2'⟩,_⟩:=I.tuple hB;simp only at c2' t2';subst c2' t2';have hl2:=r2.length;have hsz:its.toArray.size+its2.toArray.size<=sizeLine:=by rw[List.size_toArray,List.size_toArray];omega
 have hlong:¬ (!its.toArray.isEmpty&&Builtin.List.listTooLong (its.toArray.size+its2.toArray.size))=true:=by
  rw[qI hsz,Bool.and_false];exact Bool.false_ne_true
 refine call_meets F.slot_list_extend ⟨_,e,rfl⟩ F.entry_list_extend (F.args_list_extend_2 _ _)
  (zg l b its.toArray its2.toArray n n2 d2 sl2 hlong (by rw[List.size_toArray];omega) (by rw[Array.size_append];omega)) ⟨e,e2,?_⟩
 refine⟨.non,_,I.lset (its':=its++its2) hH e (by simp) (r.append r2) ?_,rfl,q⟩;rw[List.length_append];omega
def zj (l b:Addr)(us ws:Array Value)(n n2:Nat)(sl:Array (Option Value))(hlong:¬(!us.isEmpty&&Builtin.List.listTooLong (us.size+ws.size))=true)(h1:us.size<=sizeLine)(h2:(us++ws).size<=sizeLine+1) :
 Meets (Builtin.«list.extend» ⟨[.ref l,.ref b],[]⟩) (fun _ R s=>s.heap.get? l=some { cls:=.type "list",data:=.seq us n }/\s.heap.get? b=some { cls:=.type "list",data:=.seq ws n2,slots:=sl } /\
  R (.ok (.ret Value.none)) { s with heap:=s.heap.update l (Obj.mapSeq fun x=>x++ws) }) :=
 .of_wp fun prog w A R s h=>by
  obtain⟨hp,g,d,tk,os⟩:=s;obtain⟨hl,hb,h⟩:=h;have f1:=AutoSeq1.idx_int;have f2:=AutoSeq1.sub_tuple_tuple;have f3:=AutoSeq1.sub_list_list;have f4:=AutoSeq1.sub_tuple_list;have f5:=AutoSeq1.sub_list_tuple
  wp_walk using (wpAny_updateSeq hl rfl (hz:=h1) (_hz':=h2)),AutoSeq1.wpAny_loadPart' hl,AutoSeq1.wpAny_loadPart' hb
  exact⟨_,rfl,h⟩
def HY:QD X "list.extend" (fun x vs H Q=>∃l b xs zs,x=.ref l/\vs=[.ref b]/\H l=some (.lst xs)/\SqL X.K H b zs/\xs.length+zs.length<=sizeLine/\Q .non (upd H l (.lst (xs++zs)))):=by
 intro pins s σ H x vs v us Q I rx rv h;obtain⟨l,b,xs,zs,rfl,rfl,hH,hB,hz,q⟩:=h;cases rx;obtain⟨u,rfl,ru⟩:=rv.one;cases ru;obtain⟨z,its,n,r,hl,e⟩:=I.lstM hH;obtain⟨its2,r2,⟨⟨c2,d2,dt2,sl2⟩,n2,e2,c2',d2',t2'⟩,_⟩:=I.list hB;simp only at c2' d2' t2';subst c2' d2' t2';have hl2:=r2.length;have hsz:its.toArray.size+its2.toArray.size<=sizeLine:=by rw[List.size_toArray,List.size_toArray];omega
 have hlong:¬ (!its.toArray.isEmpty&&Builtin.List.listTooLong (its.toArray.size+its2.toArray.size))=true:=by
  rw[qI hsz,Bool.and_false];exact Bool.false_ne_true
 refine call_meets F.slot_list_extend ⟨_,e,rfl⟩ F.entry_list_extend (F.args_list_extend_2 _ _)
  (zj l b its.toArray its2.toArray n n2 sl2 hlong (by rw[List.size_toArray];omega) (by rw[Array.size_append];omega)) ⟨e,e2,?_⟩
 refine⟨.non,_,I.lset (its':=its++its2) hH e (by simp) (r.append r2) ?_,rfl,q⟩;rw[List.length_append];omega
def O1 {id:String}{r r':V->List V->Hp->VK->Prop}(h:QD X id r)(h':QD X id r'):QD X id (fun x vs H Q=>r x vs H Q\/r' x vs H Q):=by
 intro pins s σ H x vs v us Q I rx rv q;rcases q with q | q
 ·exact h pins s σ H x vs v us Q I rx rv q
 ·exact h' pins s σ H x vs v us Q I rx rv q
def PJ {n i:Nat}{xo:Expr}{p4:Pos}(hn:X.N.length=n)(hi:i<n)(hfn:X.fn ""=true)(hv:PE X xo (cG i))(he:DE X e me)
 (hbase:attributeBase xo "extend" X.env (eval xo X.env)=eval xo X.env:=by rfl)
 (hfew:((backTo p3 (starEach [e] X.env)).all (fun x => !x.1)&&(backToKw p3 (keywordEach [] X.env)).all (fun x=>x.1.isSome)
  && decide ([e].length+([]:List Keyword).length+(if ([]:List Keyword).isEmpty then 0 else 1)<30))=true:=by rfl)
 (hline:(p2.endLine==p3.line)=true:=by rfl) (hs:starEach [e] X.env=(false,eval e X.env)::starEach [] X.env:=by rfl) (hplain:(backTo p3 (starEach [] X.env)).any (·.1)=false:=by rfl) :
 DS X PX (.Expr (.Call (.Attribute xo "extend" p2) [e] [] p3) p4) (NT n i me):=by
 obtain⟨t,p,q⟩:=he;refine⟨_,lX (Mu PySem.F.plainAttrs_list PySem.F.slot_list_extend PySem.F.type_list_extend (O1 Dv HY) hv (aJ p aY hs) hbase hfew hline hs hplain),fun os σ H δ r D s m k=>?_⟩;obtain⟨y,e1,m⟩:=aj m;split at m
 ·rename_i ds es ho;split at m
  ·rename_i hl;cases m;obtain⟨w1,w2,a,w3,w4,w5,xs,w6,w7⟩:=s.own_at hn hi ho;refine⟨_,w3,.inl ⟨rfl,xs,.of w6⟩,q os σ H δ _ _ s e1 fun v H' g rv=>?_⟩;obtain⟨b,zs,rfl,hb,hd⟩:=rv.tup_inv;have l1:=w7.length;have l2:=hd.length;refine .inl ⟨a,b,xs,zs,rfl,rfl,g _ _ w6,.of (hide_le _ _ hb),by rw[bB];omega,?_⟩;obtain⟨s2,f2⟩:=(s.mono g).chg (d':=.lst (ds++es)) (o:=.lst (xs++zs)) hn hi hfn ho w3 ⟨_,az,(w7.mono g.hd _ _).append hd⟩;exact k σ _ os ((Fr.of g).trans f2) s2
  ·cases m
 ·rename_i ds es ho;split at m
  ·rename_i hl;cases m;obtain⟨w1,w2,a,w3,w4,w5,xs,w6,w7⟩:=s.own_at hn hi ho;refine⟨_,w3,.inl ⟨rfl,xs,.of w6⟩,q os σ H δ _ _ s e1 fun v H' g rv=>?_⟩;obtain⟨b,zs,rfl,hb,hd⟩:=rv.lst_inv;have l1:=w7.length;have l2:=hd.length;refine .inr ⟨a,b,xs,zs,rfl,rfl,g _ _ w6,hide_le.seq hb,by rw[bB];omega,?_⟩;obtain⟨s2,f2⟩:=(s.mono g).chg (d':=.lst (ds++es)) (o:=.lst (xs++zs)) hn hi hfn ho w3 ⟨_,az,(w7.mono g.hd _ _).append hd⟩;exact k σ _ os ((Fr.of g).trans f2) s2
  ·cases m
 ·cases m
def xB:RM X (Ko X.K):=by
 intro pins s σ H o i ov iv Q I ro ri h;obtain⟨p,xs,k,z,rfl,rfl,hq,he,q⟩:=h;cases ro;obtain⟨t,rfl⟩:=ri;obtain⟨its,r,pl,hz⟩:=I.list hq;obtain⟨j,h1,h2,h3,h4,h5⟩:=pN he;obtain⟨w,ew,rw'⟩:=r.get h2;have hl:=r.length;have hn:=jD;by_cases h0:0<=k
 ·have hj:k.toNat=j:=by
   rw[seqIndex_of h0 h5] at h1;exact Option.some.inj h1
  exact wpAny_getItem_list pl.isList h0 (by omega) (by rw[hj];simpa using ew) ⟨z,H,I,rw',q⟩
 ·have hj:(k+(its.toArray.size:Int)).toNat=j:=by
   rw[seqIndex_neg (by omega) h4] at h1;rw[List.size_toArray,<-hl];exact Option.some.inj h1
  exact wpAny_getItem_list_neg pl.isList (by omega) (by rw[List.size_toArray] <;> omega) (by omega) (by rw[hj];simpa using ew) ⟨z,H,I,rw',q⟩
def Qp {α:Type}{xs:List α}{i:Int}{j:Nat}{v:α}(h:qM xs.length i=some j)(hv:xs[j]? = some v):M7 xs i=some v:=by
 unfold M7;rw[show Mz xs.length i=some j from h];exact hv
def xP {K:PySem.W.Frag}{B:Hp}:∀{ds:List D} {xs:List V} {d:D} {v:V} (q:Nat),Dens K B ds xs->Den K B d v->Dens K B (ds.set q d) (xs.set q v)
 | [],_,_,_,_,h,_=>by rw[h.unnil];exact .nil
 | c::ds,_,_,_,0,h,hv=>by
   obtain⟨x,r,rfl,h1,h2⟩:=h.uncons;exact .cons hv h2
 | c::ds,_,_,_,q+1,h,hv=>by
   obtain⟨x,r,rfl,h1,h2⟩:=h.uncons;exact .cons h1 (xP q h2 hv)
def Lf {n i:Nat}{xo kx:Expr}{tp:Pos}{mk:ME}(hn:X.N.length=n)(hi:i<n)(hfn:X.fn ""=true)(hv:PE X xo (cG i))(hk:DE X kx mk)(he:DE X e me)
 (ha:∀ov iv new,augStore kx ov iv new=(do holding [new,ov,iv] (setItem ov iv new);release [new,ov,iv] [];pure .next):=by intros;rfl) :
 DS X PX (.AugAssign (.Subscript xo kx tp) .Add e pos) (Ge n i mk me):=by
 obtain⟨te,pe,qe⟩:=he;obtain⟨tk,pk,qk⟩:=hk;refine⟨_,Ab hv pk xB pe Ht set_list ha,fun os σ H δ r D s m k=>?_⟩;obtain⟨z,e2,m⟩:=aj m;obtain⟨y,e1,m⟩:=aj m;split at m
 ·rename_i ds j b ho _;obtain⟨q,e3,m⟩:=aj m;obtain⟨o,e4,m⟩:=aj m;cases o with
  | int c =>
    cases m;obtain⟨w1,w2,a,w3,w4,w5,xs,w6,w7⟩:=s.own_at hn hi ho;refine⟨_,w3,qk os σ H δ _ _ s e2 fun u H1 g1 ru=>?_⟩;obtain⟨v,hv1,hv2⟩:=w7.get e4;refine⟨a,xs,j,v,rfl,ru.int_inv,.of (g1 _ _ w6),Qp (by rw[<-w7.length];exact e3) hv1,?_⟩;refine qe os σ H1 δ _ _ (s.mono g1) e1 fun w H2 g2 rw'=>⟨c,b,hv2.int_inv,rw'.int_inv,?_⟩;have g12:=g1.trans g2;refine⟨a,xs,j,q,rfl,ru.int_inv,g12 _ _ w6,by rw[<-w7.length];exact e3,?_⟩;obtain⟨s2,f2⟩:=(s.mono g12).chg (d':=.lst (ds.set q (.int (c+b)))) (o:=.lst (xs.set q (.int (c+b)))) hn hi hfn ho w3 ⟨_,az,xP q (w7.mono g12.hd _ _) (.int _)⟩;exact k σ _ os ((Fr.of g12).trans f2) s2
  | _=>cases m
 ·cases m
def uq (xs:List V)(k:Nat):sr xs (some (k:Int)) none=xs.drop k:=by
 unfold sr;rw[HT.sIx_none,HT.sIx_nat,List.take_of_length_le (by rw[List.length_drop];omega)];rcases Nat.le_total k xs.length with h | h
 ·rw[Nat.min_eq_left h]
 ·rw[Nat.min_eq_right h,List.drop_of_length_le (Nat.le_refl _),List.drop_of_length_le h]
def _root_.DL.Dens.drop {K:PySem.W.Frag}{B:Hp}:∀{ds:List D} {xs:List V} (n:Nat),Dens K B ds xs->Dens K B (ds.drop n) (xs.drop n)
 | _,_,0,h=>by rw[List.drop_zero,List.drop_zero];exact h
 | [],_,n+1,h=>by rw[h.unnil];exact .nil
 | d::ds,_,n+1,h=>by
   obtain⟨x,r,rfl,h1,h2⟩:=h.uncons;exact h2.drop n
def BW (k:Nat){j:Nat}(he:DE X e me):DE X (.Subscript e (.Slice (some (.Constant (.int k) j p3)) none none p2) pos) (kE (vU k) me):=by
 obtain⟨te,pe,qe⟩:=he;refine⟨_,wH (sl_list.or (sl_tup.or zT)) pe (Ac dF) Ad,fun os σ H δ d Q s m kq=>?_⟩;obtain⟨dx,e1,m⟩:=aj m;refine qe os σ H δ dx _ s e1 fun x H1 g1 r1=>⟨(k:Int),rfl,?_⟩;cases dx with
 | lst ds =>
   cases m;obtain⟨a,xs,rfl,h1,h2⟩:=r1.lst_up;refine .inl ⟨a,xs,rfl,h1,fun q hq=>?_⟩;rw[uq];exact kq _ _ (g1.trans (aK hq (.lst (xs.drop k)))) (.newL (s.live.mono g1) hq (h2.drop k))
 | tup ds =>
   cases m;obtain⟨a,xs,rfl,h1,h2⟩:=r1.tup_up;have hl:=h2.length;by_cases hw:k=0
   ·subst hw;refine .inr (.inr ⟨a,xs,rfl,h1,⟨by rw[HT.sIx_nat];omega,HT.sIx_none _ _⟩,?_⟩);exact kq _ H1 g1 r1
   ·by_cases h0:xs.length=0
    ·have ex:xs=[]:=List.length_eq_zero_iff.mp h0;have ed:ds=[]:=List.length_eq_zero_iff.mp (by omega);subst ex ed;refine .inr (.inr ⟨a,[],rfl,h1,⟨by rw[HT.sIx_nat];simp,HT.sIx_none _ _⟩,?_⟩);rw[List.drop_nil] at kq;exact kq _ H1 g1 r1
    ·refine .inr (.inl ⟨a,xs,rfl,h1,fun z=>?_,fun q hq=>?_⟩)
     ·rw[HT.sIx_nat] at z;omega
     ·rw[uq];exact kq _ _ (g1.trans (aK hq (.tup (xs.drop k)))) (.newT (s.live.mono g1) hq (h2.drop k))
 | _=>cases m
end
section
variable {X:Cx}{pins:List (Addr×Obj)}{σ:L2.St}{H:Hp}{s:Shared}
def wK {fp:List Addr}{T:Addr}{x y:V}{u w:Value}{h2:Heap}{tk':Nat}(I:Inv X pins σ H s)(hf:∀b∈fp,jZ X pins H b)(hlt:∀b∈fp,b<s.heap.objs.size)(hT:T=s.heap.objs.size)(ru:RelV x u)(rw':RelV y w)
 (hk:∀b o,b∉fp->s.heap.get? b=some o->h2.get? b=some o) (ht:h2.get? T=some { cls:=.type "tuple",data:=.seq #[u,w] }) :
 Inv X pins σ (upd H T (.tup [x,y])) { s with heap:=h2,toks:=tk' }:=by
 subst hT;have I1:Inv X pins σ (upd H s.heap.objs.size (.tup [x,y])) { s with heap:=s.heap.push { cls:=.type "tuple",data:=.seq [u,w].toArray },toks:=tk' }:=by
  refine I.laid (t':=tk') (fun b o q=>Heap.get?_push_of_some _ q) (Nat.le_refl _) ?_;exact⟨by show 2<=sizeLine;rw[bB];decide,[u,w],.cons ru (.cons rw' .nil),IsTup.new _ _⟩
 have T1:=iG (t':=tk') (h':=h2) (fp:=fp) I1;refine T1 (fun b hb=>⟨?_,(hf b hb).2⟩) fun b o hb q=>?_
 ·rw[au (Nat.ne_of_lt (hlt b hb))];exact(hf b hb).1
 ·by_cases hz:b=s.heap.objs.size
  ·subst hz;have q':=(Heap.get?_push_size s.heap (o:={ cls:=.type "tuple",data:=.seq [u,w].toArray }) rfl).symm.trans q;cases q';exact ht
  ·have q':(s.heap.push { cls:=.type "tuple",data:=.seq [u,w].toArray }).get? b=some o:=q;have hlt':b<(s.heap.push { cls:=.type "tuple",data:=.seq [u,w].toArray }).objs.size:=Heap.lt_size q';rw[Heap.size_push] at hlt';have hb':b<s.heap.objs.size:=Nat.lt_of_le_of_ne (Nat.le_of_lt_succ hlt') hz;refine hk b o hb ?_;obtain⟨q1,q2⟩:=Heap.get?_some_iff.mp q';have q3:s.heap.objs[b]? = some o:=by
    revert q1
    generalize s.heap=hh at hb' ⊢;cases hh;intro q1;simpa[Heap.push,Array.getElem?_push,Nat.ne_of_lt hb'] using q1
   exact Heap.get?_some_iff.mpr ⟨q3,q2⟩
def S6 (K:PySem.W.Frag)(l1 l2:Addr):It :=
 ⟨fun i H=>∃xs ys x y,SqL K H l1 xs/\SqL K H l2 ys/\xs[i]? = some x/\ys[i]? = some y,
  fun i H v H'=>∃x y t,(∀xs,SqL K H l1 xs->xs[i]? = some x)/\(∀ys,SqL K H l2 ys->ys[i]? = some y)/\H t=none/\v=.ref t/\H'=upd H t (.tup [x,y]),
  fun i H=>∃xs ys,SqL K H l1 xs/\SqL K H l2 ys/\(xs[i]? = none\/ys[i]? = none)⟩
def TJ (z TI TO i1 i2 l1 l2:Addr)(i:Nat)(h:Heap):Prop:=IsZip h z TI TO .none/\IsPair h TI (.ref i1) (.ref i2)/\(∃a b,IsPair h TO a b)/\h.IsListIter i1 l1 i/\h.IsListIter i2 l2 i
def EY {P:Program}{w:World}{K:PySem.W.Frag}{elts:List Expr}{k:Nat}{pos:Pos}{z TI TO i1 i2 l1 l2:Addr}(D:ZipApart z TI TO i1 i2 l1 l2) :
 Turn P w K (.Tuple elts k pos) (S6 K l1 l2) [z,TI,TO,i1,i2] z (TJ z TI TO i1 i2 l1 l2) where
 mem:=by simp
 obj:=fun i h st b hb=>by
  obtain⟨a1,a2,⟨a,b',a3⟩,⟨o1,a4,_,c4⟩,⟨o2,a5,_,c5⟩⟩:=st;simp only[List.mem_cons,List.not_mem_nil,or_false] at hb;rcases hb with rfl | rfl | rfl | rfl | rfl
  ·exact⟨_,a1,fun v z=>by cases z⟩
  ·exact⟨_,a2,fun v z=>by cases z⟩
  ·exact⟨_,a3,fun v z=>by cases z⟩
  ·exact⟨_,a4,fun v z=>by rw[c4] at z;cases z⟩
  ·exact⟨_,a5,fun v z=>by rw[c5] at z;cases z⟩
 keep:=fun i h h' st kp=>by
  obtain⟨a1,a2,⟨a,b',a3⟩,a4,a5⟩:=st;exact⟨kp z (by simp) _ a1,kp TI (by simp) _ a2,⟨a,b',kp TO (by simp) _ a3⟩,a4.at fun o q=>kp i1 (by simp) o q,a5.at fun o q=>kp i2 (by simp) o q⟩
 item:=by
  intro X hP hw hK hc i pins s σ H E I hf st hg;subst hP hw hK;obtain⟨xs,ys,x,y,hq1,hq2,hx,hy⟩:=hg;obtain⟨its1,rv1,p1,_⟩:=I.list hq1;obtain⟨its2,rv2,p2,_⟩:=I.list hq2;obtain⟨u,hu,ru⟩:=rv1.get hx;obtain⟨v,hv,rv⟩:=rv2.get hy;obtain⟨a1,a2,⟨a,b',a3⟩,a4,a5⟩:=st;have lt:∀b∈[z,TI,TO,i1,i2],b<s.heap.objs.size:=fun b hb=>by
   simp only[List.mem_cons,List.not_mem_nil,or_false] at hb;rcases hb with rfl | rfl | rfl | rfl | rfl
   ·exact Heap.lt_size a1
   ·exact Heap.lt_size a2
   ·exact Heap.lt_size a3
   ·obtain⟨o,q,_⟩:=a4;exact Heap.lt_size q
   ·obtain⟨o,q,_⟩:=a5;exact Heap.lt_size q
  refine wpAny_pyNext_zip_item D a1 a2 a3 a4 a5 p1.isList p2.isList (x:=u) (y:=v) (by simpa using hu) (by simpa using hv) fun h1 b1 b2 b3 b4 b5 b6 b7=>?_;refine⟨_,rfl,wpAny_letOwnedTupleGo_zip b1 fun h2 c1 c2=>?_⟩;have c2':Heap.SameBut z h1 h2:=c2;have ne:∀b∈[z,TI,TO,i1,i2],s.heap.objs.size≠b:=fun b hb=>Nat.ne_of_gt (lt b hb);refine⟨.ref s.heap.objs.size,upd H s.heap.objs.size (.tup [x,y]),?_,rfl,⟨x,y,s.heap.objs.size,fun ws hw'=>by rw[I.list_inj hw' hq1];exact hx,fun ws hw'=>by rw[I.list_inj hw' hq2];exact hy,I.fresh,rfl,rfl⟩,⟨c1,?_,⟨_,_,(c2'.2 _ D.TOz).trans b2⟩,?_,?_⟩,fun b hb=>?_⟩
  ·refine wK (s:=s) (fp:=[z,TI,TO,i1,i2]) (tk':=s.toks) I hf lt rfl ru rv (fun b o hb q=>?_) ((c2'.2 _ (ne z (by simp))).trans b5);have n1:b≠z:=fun e=>hb (by simp[e]);exact(c2'.2 _ n1).trans (b7 b o n1 (fun e=>hb (by simp[e])) (fun e=>hb (by simp[e])) (fun e=>hb (by simp[e])) q)
  ·exact(c2'.2 _ D.TIz).trans (b7 _ _ D.TIz D.TITO D.TIi1 D.TIi2 a2)
  ·obtain⟨o,q,r⟩:=b3;exact⟨o,(c2'.2 _ D.i1z).trans q,r⟩
  ·obtain⟨o,q,r⟩:=b4;exact⟨o,(c2'.2 _ D.i2z).trans q,r⟩
  ·rw[au (Nat.ne_of_lt (lt b hb))];exact(hf b hb).1
 done:=by
  intro X hP hw hK hc i pins s σ H E I hf st hg;subst hP hw hK;obtain⟨xs,ys,hq1,hq2,hn⟩:=hg;obtain⟨its1,rv1,p1,_⟩:=I.list hq1;obtain⟨its2,rv2,p2,_⟩:=I.list hq2;have e1:=rv1.length;have e2:=rv2.length;obtain⟨a1,a2,⟨a,b',a3⟩,a4,a5⟩:=st;refine wpAny_pyNext_zip_end (I.ok.hd hc) D a1 a2 a3 a4 a5 p1.isList p2.isList ?_ fun h' hk'=>⟨rfl,?_⟩
  ·rcases hn with hn | hn
   ·left;rw[List.getElem?_eq_none_iff] at hn;simp;omega
   ·right;rw[List.getElem?_eq_none_iff] at hn;simp;omega
  ·exact iG (t':=s.toks) I hf fun b o hb q=>hk' b o (fun e=>hb (by simp[e])) (fun e=>hb (by simp[e])) (fun e=>hb (by simp[e])) (fun e=>hb (by simp[e])) q
 self:=fun _ _ _ _ _ st h=>wpAny_pyIter_zip st.1 h
end
section
variable {X:Cx}{a b:Expr}{ma mb:ME}{pos pos' p:Pos}{elts:List Expr}{kt:Nat}
def Rn (K:PySem.W.Frag)(ta:TA):TI:=fun σ H R=>ta σ H fun vs H1=>∃l1 l2 xs ys,vs=[.ref l1,.ref l2]/\SqL K H1 l1 xs/\SqL K H1 l2 ys/\R (S6 K l1 l2) H1
def Oi {ta:TA}(hg:Gl X "zip")(hm:X.mg "zip"=none)(ha:PA X [a,b] ta)(h1:starEach [a,b] X.env=(false,eval a X.env)::starEach [b] X.env:=by rfl)(hpl:(backTo pos (starEach [b] X.env)).any (·.1)=false:=by rfl) :
 PI X (.Tuple elts kt pos') (.Call (.Name "zip" p) [a,b] [] pos) (Rn X.K ta):=by
 intro pins s σ H R I h;refine Call_ (jF I hg hm (by rfl) (PyProof.Rows.callWith_type1 (bw (ha pos pins s σ H _ I h) fun us s1 ⟨vs,H1,I1,r1,q1⟩=>?_) h1 hpl));obtain⟨l1,l2,xs,ys,e,hq1,hq2,q⟩:=q1;subst e;obtain⟨u,v,rfl,ru,rv⟩:=vals2 r1;cases ru;cases rv;obtain⟨its1,rv1,p1,_⟩:=I1.list hq1;obtain⟨its2,rv2,p2,_⟩:=I1.list hq2;have a1:l1<s1.heap.objs.size:=by obtain⟨_,q,_⟩:=p1.isList;exact Heap.lt_size q
 have a2:l2<s1.heap.objs.size:=by obtain⟨_,q,_⟩:=p2.isList;exact Heap.lt_size q
 refine call_zip_2 p1.isList p2.isList fun h' hz hTI hTO hi1 hi2 hsz hk=>wpAny_pyIter_zip hz ?_;refine⟨s1.heap.objs.size+4,[s1.heap.objs.size+4,s1.heap.objs.size+2,s1.heap.objs.size+3,s1.heap.objs.size,s1.heap.objs.size+1],_,_,H1,rfl,I1.kept (t':=s1.toks) hk,EY (zipApart_new a1 a2),⟨hz,hTI,⟨_,_,hTO⟩,hi1,hi2⟩,fun b hb=>?_,q⟩;have hb':s1.heap.objs.size<=b:=by
  simp only[List.mem_cons,List.not_mem_nil,or_false] at hb;rcases hb with rfl | rfl | rfl | rfl | rfl
  ·exact Nat.le_add_right _ _
  ·exact Nat.le_add_right _ _
  ·exact Nat.le_add_right _ _
  ·exact Nat.le_refl _
  ·exact Nat.le_add_right _ _
 exact I1.fpOk hb' (I1.hok.fresh hb')
def pO (xs ys:List D)(i:Nat)(d:D)(h:(fM xs ys)[i]? = some d):∃x y,xs[i]? = some x/\ys[i]? = some y/\d=.tup [x,y]:=by
 unfold fM at h;rw[List.getElem?_map] at h;cases hz:(xs.zip ys)[i]? with
 | none=>rw[hz] at h;cases h
 | some q =>
   rw[hz] at h;obtain⟨e1,e2⟩:=List.getElem?_zip_eq_some.mp hz;exact⟨q.1,q.2,e1,e2,(Option.some.inj h).symm⟩
def Ex {K:PySem.W.Frag}{B:Hp}{l1 l2:Addr}{ds es:List D}{xs ys:List V}(h1:SqL K B l1 xs)(d1:Dens K B ds xs)(h2:SqL K B l2 ys)(d2:Dens K B es ys):Walk K (S6 K l1 l2) B (fM ds es):=by
 intro i os1 H1 L g;have gu:=g.trans hide_le;refine⟨fun d hd=>?_,fun hl=>⟨xs,ys,gu.seq h1,gu.seq h2,?_⟩⟩
 ·obtain⟨x,y,e1,e2,rfl⟩:=pO ds es i d hd;obtain⟨v,hv,rv⟩:=d1.get e1;obtain⟨w,hw,rw'⟩:=d2.get e2;refine⟨⟨xs,ys,v,w,gu.seq h1,gu.seq h2,hv,hw⟩,fun u H2 z=>?_⟩;obtain⟨v',w',t,z1,z2,ht,rfl,rfl⟩:=z;have q1:=z1 xs (gu.seq h1);have q2:=z2 ys (gu.seq h2);rw[hv] at q1;rw[hw] at q2;cases q1;cases q2;exact⟨aK ht (.tup [v,w]),.newT L ht (.cons (rv.mono g _ _) (.cons (rw'.mono g _ _) .nil))⟩
 ·have l1:=d1.length;have l2:=d2.length;have hz:(fM ds es).length=min ds.length es.length:=by simp[fM]
  rw[List.getElem?_eq_none_iff,List.getElem?_eq_none_iff];omega
def Ij (hg:Gl X "zip")(hm:X.mg "zip"=none)(ha:DE X a ma)(hb:DE X b mb)(h1:starEach [a,b] X.env=(false,eval a X.env)::starEach [b] X.env:=by rfl)(h2:starEach [b] X.env=(false,eval b X.env)::starEach [] X.env:=by rfl)(hpl:(backTo pos (starEach [b] X.env)).any (·.1)=false:=by rfl) :
 DI X (.Tuple elts kt pos') (.Call (.Name "zip" p) [a,b] [] pos) (rY ma mb):=by
 obtain⟨ta,pa,qa⟩:=ha;obtain⟨tb,pb,qb⟩:=hb;refine⟨_,Oi hg hm (aJ pa (aJ pb aY h2) h1) h1 hpl,fun os σ H δ xs R s m k=>?_⟩;obtain⟨dx,e1,m⟩:=aj m;obtain⟨dy,e2,m⟩:=aj m;refine qa os σ H δ dx _ s e1 fun v H1 g1 r1=>?_;refine qb os σ H1 δ dy _ (s.mono g1) e2 fun w H2 g2 r2=>?_
 match dx,dy,m with
 | .lst ds,.lst es,m =>
   cases m;obtain⟨l1,xs,rfl,h1,d1⟩:=(r1.mono g2.hd _ _).lst_inv;obtain⟨l2,ys,rfl,h2,d2⟩:=r2.lst_inv;exact⟨l1,l2,xs,ys,rfl,hide_le.seq h1,hide_le.seq h2,k _ H2 (g1.trans g2) (Ex h1 d1 h2 d2)⟩
end
end DL
namespace DL
open PySem
def Cut (xs:Array Nat)(j r:Nat):Prop:=r<=xs.size/\(∀i v,i<r->xs[i]? = some v->v<j)/\∀i v,r<=i->xs[i]? = some v->j<=v
def Ris (xs:Array Nat):Prop:=xs.toList.Pairwise (·<·)
def Ris.lt {xs:Array Nat}(h:Ris xs){i k u v:Nat}(hk:i<k)(h1:xs[i]? = some u)(h2:xs[k]? = some v):u<v:=by
 rw[<-Array.getElem?_toList] at h1 h2;obtain⟨a1,e1⟩:=List.getElem?_eq_some_iff.mp h1;obtain⟨a2,e2⟩:=List.getElem?_eq_some_iff.mp h2;have:=List.pairwise_iff_getElem.mp h i k a1 a2 hk;rw[e1,e2] at this;exact this
def rC {xs:Array Nat}(h:Ris xs)(j:Nat):∀(f lo hi:Nat),hi-lo<=f->lo<=hi->hi<=xs.size->(∀i v,i<lo->xs[i]? = some v->v<j)->(∀i v,hi<=i->xs[i]? = some v->j<=v)->Cut xs j (SetTable.below.go xs j f lo hi)
 | 0,lo,hi,hf,hl,hs,h1,h2=>by
   rw[SetTable.below.go];exact⟨by omega,h1,fun i v hi'=>h2 i v (by omega)⟩
 | f+1,lo,hi,hf,hl,hs,h1,h2=>by
   rw[SetTable.below.go];by_cases hlt:lo<hi
   ·rw[if_pos hlt];have hm:(lo+hi) / 2<xs.size:=by omega
    have e:xs[(lo+hi) / 2]? = some xs[(lo+hi) / 2]:=Array.getElem?_eq_getElem hm;have eD:xs.getD ((lo+hi) / 2) j=xs[(lo+hi) / 2]:=by simp[hm]
    simp only[eD];by_cases hc:xs[(lo+hi) / 2]<j
    ·rw[if_pos hc];refine rC h j f _ _ (by omega) (by omega) hs (fun i v hi' q=>?_) h2;by_cases hq:i=(lo+hi) / 2
     ·subst hq;rw[e] at q;cases q;exact hc
     ·have:=h.lt (show i<(lo+hi) / 2 by omega) q e;omega
    ·rw[if_neg hc];refine rC h j f _ _ (by omega) (by omega) (by omega) h1 fun i v hi' q=>?_;by_cases hq:i=(lo+hi) / 2
     ·subst hq;rw[e] at q;cases q;omega
     ·have:=h.lt (show (lo+hi) / 2<i by omega) e q;omega
   ·rw[if_neg hlt];exact⟨by omega,h1,fun i v hi'=>h2 i v (by omega)⟩
def n8 {xs:Array Nat}(h:Ris xs)(j:Nat):Cut xs j (SetTable.below xs j):=by
 unfold SetTable.below;refine rC h j _ _ _ (by omega) (by omega) (Nat.le_refl _) (fun i v hi=>by omega) fun i v hi q=>?_;rw[Array.getElem?_eq_none hi] at q;cases q
def Cut.uniq {xs:Array Nat}{j r r':Nat}(h:Cut xs j r)(h':Cut xs j r'):r=r':=by
 rcases Nat.lt_trichotomy r r' with q | q | q
 ·have hr:=Nat.lt_of_lt_of_le q h'.1;have e:xs[r]? = some xs[r]:=Array.getElem?_eq_getElem hr;have a:=h'.2.1 r _ q e;have b:=h.2.2 r _ (Nat.le_refl _) e;omega
 ·exact q
 ·have hr:=Nat.lt_of_lt_of_le q h.1;have e:xs[r']? = some xs[r']:=Array.getElem?_eq_getElem hr;have a:=h.2.1 r' _ q e;have b:=h'.2.2 r' _ (Nat.le_refl _) e;omega
def zH {xs:Array Nat}(h:Ris xs){i v:Nat}(e:xs[i]? = some v):SetTable.below xs (v+1)=i+1:=by
 have hi:i<xs.size:=(Array.getElem?_eq_some_iff.mp e).1;refine(n8 h (v+1)).uniq ⟨by omega,fun k u hk q=>?_,fun k u hk q=>?_⟩
 ·by_cases z:k=i
  ·subst z;rw[e] at q;cases q;omega
  ·have:=h.lt (show k<i by omega) q e;omega
 ·exact h.lt (show i<k by omega) e q
def zG (xs:Array Nat)(h:Ris xs):SetTable.below xs 0=0 :=
 (n8 h 0).uniq ⟨Nat.zero_le _,fun i v hi=>by omega,fun _ _ _ _=>Nat.zero_le _⟩
def Ka {xs:Array Nat}(h:Ris xs){j:Nat}(hn:xs[SetTable.below xs j]?≠some j):Ris (SetTable.insertAt xs (SetTable.below xs j) j):=by
 obtain⟨c1,c2,c3⟩:=n8 h j;generalize SetTable.below xs j=p at *;unfold Ris;rw[SetTable.toList_insertAt,List.pairwise_append];refine⟨h.sublist (List.take_sublist _ _),List.pairwise_cons.mpr ⟨fun b hb=>?_,h.sublist (List.drop_sublist _ _)⟩,fun a ha b hb=>?_⟩
 ·obtain⟨k,hk⟩:=List.mem_iff_getElem?.mp hb;rw[List.getElem?_drop,Array.getElem?_toList] at hk;have h1:=c3 _ _ (Nat.le_add_right _ _) hk;by_cases z:k=0
  ·subst z;rcases Nat.lt_or_eq_of_le h1 with q | q
   ·exact q
   ·subst q;exact absurd hk hn
  ·have hp:p<xs.size:=by
    have:=(Array.getElem?_eq_some_iff.mp hk).1;omega
   have e:xs[p]? = some xs[p]:=Array.getElem?_eq_getElem hp;have h2:=c3 _ _ (Nat.le_refl _) e;have h3:=h.lt (show p<p+k by omega) e hk;omega
 ·obtain⟨k,hk⟩:=List.mem_iff_getElem?.mp ha;have hkp:k<p:=Classical.byContradiction fun z=>by
   rw[List.getElem?_eq_none (by rw[List.length_take];omega)] at hk;cases hk
  rw[List.getElem?_take_of_lt hkp,Array.getElem?_toList] at hk;have h1:=c2 _ _ hkp hk;rcases List.mem_cons.mp hb with rfl | hb
  ·exact h1
  ·obtain⟨q,hq⟩:=List.mem_iff_getElem?.mp hb;rw[List.getElem?_drop,Array.getElem?_toList] at hq;have h2:=c3 _ _ (Nat.le_add_right _ _) hq;omega
structure Tb (bt:Bool)(t:SetTable)(n:Nat):Prop where
 fit:t.fits n=true
 ris:Ris t.place
 nod:t.dummies=#[]
 led:bt=true\/t.led=true
def Fi (bt:Bool):Tb bt (.fresh 0 0 (!bt)) 0:=⟨by decide +revert,by simp[SetTable.fresh,Ris],rfl,by cases bt <;> simp[SetTable.fresh]⟩
def Hc (j:Nat):SetTable.has #[] j=false:=by unfold SetTable.has;simp
def wF {t:SetTable}(hd:t.dummies=#[])(g:Nat->Int)(h:Int):∀(f:Nat) (p:SetTable.Probe) (j:Nat) (d:Option Nat),p.dummy=none->SetTable.probe.go t g h f p=some (.empty j d)->d=none/\t.slot j=.empty
 | 0,p,j,d,_,e=>by rw[SetTable.probe.go] at e;cases e
 | f+1,p,j,d,hp,e=>by
   rw[SetTable.probe.go] at e;have adv:(t.advance p).dummy=none:=by unfold SetTable.advance;split <;> exact hp
   split at e
   ·rename_i hs;simp only[Option.some.injEq,SetTable.Met.empty.injEq] at e;obtain⟨rfl,rfl⟩:=e;exact⟨hp,hs⟩
   ·rename_i hs;exfalso;unfold SetTable.slot at hs;simp only[hd,Hc] at hs;split at hs <;> simp at hs
   ·split at e
    ·cases e
    ·exact wF hd g h f _ j d adv e
def Du {t:SetTable}(hd:t.dummies=#[]){h:Int}{j:Nat}{b:Bool}(e:t.freeSlot h=some (j,b)):t.place[SetTable.below t.place j]?≠some j:=by
 unfold SetTable.freeSlot at e;split at e
 ·rename_i j' d hp;obtain⟨rfl,hs⟩:=wF hd _ h _ _ _ _ rfl hp;simp only[Option.getD_none,Option.isSome_none,Option.some.injEq,Prod.mk.injEq] at e;obtain⟨rfl,_⟩:=e;intro z;unfold SetTable.slot at hs;simp[z] at hs
 ·cases e
def lK {bt:Bool}{t:SetTable}(h:bt=true\/t.led=true)(n:Nat):Tb bt (t.standIn n) n :=
 ⟨SetTable.standIn_fits t n,by unfold Ris SetTable.standIn;simp[List.pairwise_lt_range],rfl,h⟩
def Np {bt:Bool}{t:SetTable}{es:Array (Int×Value)}(T:Tb bt t es.size)(h:Int)(x:Value):Tb bt (layNew t es h x).2.1 (layNew t es h x).1.size:=by
 unfold layNew;cases e:t.freeSlot h with
 | none =>
   dsimp only;rw[Array.size_push];exact lK T.led _
 | some q =>
   obtain⟨j,b⟩:=q;have hn:=Du T.nod e;dsimp only;unfold SetTable.orStandIn;split
   ·rename_i hf;refine⟨hf,Ka T.ris hn,?_,T.led⟩;show (if SetTable.has t.dummies j=true then _ else t.dummies)=#[];rw[T.nod,Hc];rfl
   ·exact lK T.led _
def Fg {bt:Bool}{t:SetTable}{es:Array (Int×Value)}(hl:bt=true\/t.led=true)(k:Nat):Tb bt (relayAll t es k).2.1 (relayAll t es k).1.size:=by
 unfold relayAll;cases e:t.relaid (es.map (·.1)) k with
 | none=>exact lK hl _
 | some q =>
   obtain⟨t',order⟩:=q;dsimp only;split
   ·rename_i hc;simp only[Bool.and_eq_true] at hc;unfold SetTable.relaid SetTable.laid at e;obtain⟨ow,_,e⟩:=Option.bind_eq_some_iff.mp e;simp only[Option.pure_def,Option.some.injEq,Prod.mk.injEq] at e;obtain⟨rfl,_⟩:=e;refine⟨hc.2,?_,rfl,hl⟩;show List.Pairwise (·<·) (List.map _ _).toArray.toList;rw[List.toList_toArray,List.pairwise_map];refine List.Pairwise.filterMap _ (fun a a' haa b hb b' hb'=>?_) List.pairwise_lt_range;obtain⟨u,_,rfl⟩:=Option.map_eq_some_iff.mp hb;obtain⟨u',_,rfl⟩:=Option.map_eq_some_iff.mp hb';exact haa
   ·exact lK hl _
end DL
namespace DL
open PySem PyProof.Rows
noncomputable def kOf (e:Int×Value):Int:=match e.2 with
 | .int k _=>k
 | _=>0
def AllI (es:List (Int×Value)):Prop:=∀e∈es,∃t,e.2=.int (kOf e) t/\e.1=hashInt (kOf e)
noncomputable def bt (w:World):Bool:=w.params.followText "set-order"
def SetS (w:World)(h:Heap)(a:Addr)(ks:List Int):Prop :=
 ∃o es ep t,h.get? a=some o/\o.ExactSet/\o.data=.set es ep t/\AllI es.toList/\(es.toList.map kOf).Perm ks/\es.size<scanBound/\Tb (bt w) t es.size
def AllI.elems {P:Program}{w:World}{es:List (Int×Value)}(h:AllI es):ElemsOf (intKind P w) es:=fun e he=>by
 obtain⟨t,h1,h2⟩:=h e he;refine⟨⟨kOf e,?_,h2⟩,?_⟩
 ·rw[h1];exact intKind_is P w _ _
 ·rw[h1];rfl
def AllI.perm {l l':List (Int×Value)}(h:AllI l)(p:l'.Perm l):AllI l':=fun e he=>h e (p.mem_iff.mp he)
def AllI.snoc {l:List (Int×Value)}(h:AllI l)(n:Int)(t:Tok):AllI (l++[(hashInt n,.int n t)]):=fun e he=>by
 rcases List.mem_append.mp he with q | q
 ·exact h e q
 ·rw[List.mem_singleton.mp q];exact⟨t,rfl,rfl⟩
def SetS.at' {w:World}{h h':Heap}{a:Addr}{ks:List Int}(x:SetS w h a ks)(k:∀o,h.get? a=some o->h'.get? a=some o):SetS w h' a ks :=
 let ⟨o,es,ep,t,e,r⟩:=x;⟨o,es,ep,t,k _ e,r⟩
section
variable {P:Program}{w:World}{A:Around}{E:Value->Shared->Prop}{s:Shared}
def xq {h:Heap}{a:Addr}{o:Obj}{es es':Array (Int×Value)}{ep:Nat}{t t':SetTable}(ho:h.get? a=some o)(hx:o.ExactSet)(hd:o.data=.set es ep t) :
 ∃o',(h.update a (Obj.putSet es' t')).get? a=some o'/\o'.ExactSet/\o'.data=.set es' (ep+1) t':=by
 have q:=Heap.get?_update_self (Obj.putSet es' t') ho (by rw[putSet_of es' t' hd];rfl);rw[putSet_of es' t' hd] at q;exact⟨_,q,hx,rfl⟩
def J2 {a:Addr}{ks:List Int}{n:Int}{tk:Tok}{Q:Bool->Shared->Prop}(hS:SetS w s.heap a ks)(hr:ks.length+1<scanBound)
 (k:∀b h',Heap.SameBut a s.heap h'->SetS w h' a (gA ks n)->Q b { s with heap:=h' }):wpAny (model P w) A (setAddHashed a (.int n tk) (hashInt n)) Q E s:=by
 obtain⟨o,es,ep,t,ho,hx,hd,hi,hp,hb,hT⟩:=hS;have hlen:es.size=ks.length:=by rw[<-hp.length_eq,List.length_map,Array.length_toList]
 have hel:=hi.elems (P:=P) (w:=w);have hkey:=intKind_is P w n tk;unfold setAddHashed setAddHashedIn;refine wpAny_holding (wpAny_bind ?_);refine wpAny_setState_of ho hd hT.fit ?_;dsimp only;rw[if_pos (byScan_of (knd:=intKind P w) (x:=.int n tk) rfl hb hel)];unfold setAddByScan;refine wpAny_bind (wpAny_bind (wpAny_rule (wpAny_bind ?_)));refine wpAny_setScan_of (knd:=intKind P w) (k:=n) hkey ho hd hT.fit hel ?_;have hmem:n∈ks↔∃e∈es.toList,(intKind P w).is n e.2=true:=by
  rw[<-hp.mem_iff,List.mem_map];constructor
  ·rintro⟨e,he,rfl⟩;obtain⟨tt,q,_⟩:=hi e he;exact⟨e,he,by rw[q];exact intKind_is P w _ _⟩
  ·rintro⟨e,he,q⟩;obtain⟨tt,q',_⟩:=hi e he;refine⟨e,he,?_⟩;rw[q'] at q;exact(intKind P w).inj _ _ _ (intKind_is P w _ _) q
 cases hf:List.findIdx? (fun e=>(intKind P w).is n e.2) es.toList with
 | some j =>
   obtain⟨hj,hpj,_⟩:=List.findIdx?_eq_some_iff_getElem.mp hf;have hin:n∈ks:=hmem.mpr ⟨_,List.getElem_mem hj,hpj⟩;dsimp only;refine wpAny_pure (wpAny_pure ?_);refine k false s.heap (Heap.SameBut.refl a _) ?_;unfold gA;rw[if_pos hin];exact⟨o,es,ep,t,ho,hx,hd,hi,hp,hb,hT⟩
 | none =>
   have hin:n∉ks:=fun z=>by
    obtain⟨e,he,q⟩:=hmem.mp z;have:=List.findIdx?_eq_none_iff.mp hf e he;rw[q] at this;cases this
   dsimp only;have p1:=layNew_perm t es (hashInt n) (.int n tk);have T1:=Np hT (hashInt n) (.int n tk);generalize layNew t es (hashInt n) (.int n tk)=L at p1 T1 ⊢;obtain⟨es1,t1,dm,gv⟩:=L;dsimp only at p1 T1 ⊢;rw[Array.toList_push] at p1;have i1:AllI es1.toList:=(hi.snoc n tk).perm p1;have n1:es1.size=es.size+1:=by
    have:=p1.length_eq;simpa using this
   have b1:es1.size<scanBound:=by omega
   have q1:(es1.toList.map kOf).Perm (gA ks n):=by
    unfold gA;rw[if_neg hin];refine(p1.map kOf).trans ?_;rw[List.map_append];exact hp.append_right _
   have gw:∀(b:Bool) (s₁:Shared) (Q':Unit->Shared->Prop),Q' () s₁->wpAny (model P w) A (match b with | true=>rule "set.scan.the-table-gave-way" | false=>pure ()) Q' E s₁:=fun b s₁ Q' z=>by
    cases b
    ·exact wpAny_pure z
    ·exact wpAny_rule z
   obtain⟨o1,g1,x1,d1⟩:=xq (es':=es1) (t':=t1) ho hx hd;have sb1:=Heap.SameBut.update s.heap a (Obj.putSet es1 t1);have p2:=relayAll_perm t1 es1 (SetTable.grown es1.size);have T3:=Fg (es:=es1) T1.led (SetTable.grown es1.size);obtain⟨o2,g2,x2,d2⟩:=xq (es':=(relayAll t1 es1 (SetTable.grown es1.size)).1) (t':=(relayAll t1 es1 (SetTable.grown es1.size)).2.1) g1 x1 d1;have n2:(relayAll t1 es1 (SetTable.grown es1.size)).1.size=es1.size:=by simpa using p2.length_eq
   have end2:=k true _ (sb1.trans (Heap.SameBut.update _ a _)) ⟨o2,_,_,_,g2,x2,d2,i1.perm p2,(p2.map kOf).trans q1,by omega,T3⟩;have end1:=k true _ sb1 ⟨o1,es1,_,t1,g1,x1,d1,i1,q1,b1,T1⟩;refine wpAny_bind (gw gv s _ ?_);have st:∀(R':Unit->Shared->Prop),R' () { s with heap:=s.heap.update a (Obj.putSet es1 t1) }->wpAny (model P w) A (storeSet a es1 t1) R' E s:=fun R' z=>wpAny_storeSet_of ho hd z (fits_of_scanBound b1);have st2:∀(R':Unit->Shared->Prop),R' () { s with heap:=(s.heap.update a (Obj.putSet es1 t1)).update a (Obj.putSet (relayAll t1 es1 (SetTable.grown es1.size)).1 (relayAll t1 es1 (SetTable.grown es1.size)).2.1) } ->
    wpAny (model P w) A (storeSet a (relayAll t1 es1 (SetTable.grown es1.size)).1 (relayAll t1 es1 (SetTable.grown es1.size)).2.1) R' E { s with heap:=s.heap.update a (Obj.putSet es1 t1) }:=fun R' z=>wpAny_storeSet_of g1 d1 z (fits_of_scanBound (by omega))
   have hv:=hashByValue_scannable 8 (x:=.int n tk) rfl;refine wpAny_ite_split (c:=t1.plain=true) (fun _=>?_) fun _=>?_
   all_goals try rw[hv]
   all_goals refine wpAny_bind (wpAny_pure ?_)
   all_goals refine wpAny_bind (m:=storeSet a es1 t1) (st _ ?_)
   all_goals exact wpAny_ite_split (c:=(!dm&&t1.tooFull)=true) (fun _=>wpAny_bind (gw _ _ _ (wpAny_bind (st2 _ (wpAny_pure (wpAny_pure end2)))))) fun _=>wpAny_pure (wpAny_pure end1)
end
section
variable {P:Program}{w:World}{A:Around}{E:Value->Shared->Prop}{s:Shared}
def Ey {β:Type}{m:Sem β}{k:β->Sem PySem.Fin}{vs:List Value}{R:Result->Shared->Prop}(h:wpAny (model P w) A.in1 m (fun b s'=>wpAny (model P w) A.in1 (k b) (fun fin s'=>match fin with | .done f=>R (.ok f) s' | .again c'=>c'.quiet=true/\codeAny (model P w) A c' R s') (fun e s'=>R (.error e) s') s') (fun e s'=>R (.error e) s') s)
 (e:Builtin.«set.update.loop» ⟨vs,[]⟩=m >>= k):codeAny (model P w) A (.builtin "set.update.loop" ⟨vs,[]⟩) R s :=
 codeAny_builtin PyProof.Rows.F.entry_set_update_loop (by rw[Around.under_plainId PyProof.Rows.F.plain_set_update_loop _,e];exact wpAny_bind h)
def FZ {R:Result->Shared->Prop}{I:Addr}{fp wr:List Addr}{G:Array GenState->Array GenState->Prop}{n:Nat}{PI:Nat->Value->Prop}{St:Nat->Shared->Prop}(W:WalksS P w A.in1 I fp wr G n PI St){a:Addr}(ha:a∉fp)
 (val:Nat->Int) (hv:∀i v,PI i v->∃t,v=.int (val i) t) (hb:n+1<scanBound):∀(m i:Nat) (s:Shared) (ks:List Int),n-i=m->i<=n->ks.length<=i->St i s->SetS w s.heap a ks ->
  (∀s',Moved (a::wr) G s s'->SetS w s'.heap a (((List.range' i (n-i)).map val).foldl gA ks)->R (.ok (.ret .none)) s') ->
  codeAny (model P w) A (.builtin "set.update.loop" ⟨[.ref a,.ref I],[]⟩) R s:=by
 have haw:a∉wr:=fun z=>ha (W.sub _ z);have up:∀b∈wr,b∈a::wr:=fun b z=>List.mem_cons_of_mem _ z;intro m;induction m with
 | zero =>
   intro i s ks hm hi hl hst hS k;have e:i=n:=by omega
   subst e;refine Ey (m:=pyNext (.ref I)) ?_ rfl;refine W.done s _ _ hst fun s' hm'=>wpAny_pure (k s' (hm'.mono up) ?_);rw[Nat.sub_self];exact hS.at' fun o q=>hm'.heap a o haw q
 | succ m ih =>
   intro i s ks hm hi hl hst hS k;have hlt:i<n:=by omega
   refine Ey (m:=pyNext (.ref I)) ?_ rfl;refine W.item i s _ _ hlt hst fun v s' hp hst' hm'=>?_;obtain⟨t,rfl⟩:=hv i v hp;have hS':=hS.at' (h':=s'.heap) fun o q=>hm'.heap a o haw q;refine wpAny_bind (m:=holding [Value.int (val i) t] (setAdd a (.int (val i) t))) (wpAny_holding (wpAny_holding (wpAny_bind ((intKind P w).pyHash (k:=val i) (intKind_is _ _ _ _) ?_))));refine J2 (P:=P) (s:={ s' with toks:=s'.toks+1 }) hS' (by omega) fun b h' sb hS2=>?_;have hlen:(gA ks (val i)).length<=i+1:=by
    unfold gA;split
    ·omega
    ·rw[List.length_append,List.length_singleton];omega
   refine wpAny_pure ⟨plainId_quiet PyProof.Rows.F.plain_set_update_loop _,ih (i+1) _ _ (by omega) hlt hlen (W.frame _ s' _ _ hst' (Nat.le_succ _) fun c hc o q=>?_) hS2 fun s2 m2 hS3=>?_⟩
   ·rw[sb.2 c fun z:c=a=>ha (z ▸ hc)];exact q
   ·refine k s2 (Moved.trans W.gtrans ((hm'.mono up).then_heap (Nat.le_succ _) fun c o hc q=>?_) m2) ?_
    ·rw[sb.2 c fun z:c=a=>hc (z ▸ List.mem_cons_self)];exact q
    ·have e:n-i=(n-(i+1))+1:=by omega
     rw[e,List.range'_succ];exact hS3
def JX (x:Value){Q₁:Value->Shared->Prop}(k:Q₁ (.ref s.heap.objs.size) { s with heap:=s.heap.push { cls:=.type "set",dict:=none,data:=.set #[] 0 (.fresh 0 0 (!bt w)) } }) :
 codeAny (model P w) A (.call (.builtin "set.__new__") ⟨[.type "set",x],[]⟩) (wants Q₁ E) s:=by
 refine codeAny_of_tree ?_;show wpAny _ _ (checkBuiltinCall "set.__new__" ⟨[.type "set",x],[]⟩ >>= fun _=>again (.builtin "set.__new__" ⟨[.type "set",x],[]⟩)) _ _ _;refine wpAny_bind (wpAny_of_eq (PySem.F.newCall_set_1 x) ?_);refine wpAny_pure ⟨plainId_quiet PySem.F.plain_set_new _,codeAny_builtin PySem.F.entry_set_new ?_⟩;rw[Around.under_plainId PySem.F.plain_set_new _];unfold Builtin.«set.__new__» Builtin.Frozenset.newClass;have q:=sub_set_self;obtain⟨hp,g,d,tk,os⟩:=s;dsimp only at k ⊢
 wp_walk
 refine wpAny_askSetting (wpAny_pure ?_);simp only[newObj];exact wpAny_bind (wpAny_alloc (wpAny_pure (wpAny_pure k)))
end
section
variable {P:Program}{w:World}{A:Around}{E:Value->Shared->Prop}{s:Shared}
set_option maxHeartbeats 3200000 in
def Ed {l:Addr}{vs:List Value}{ns:List Int}{Q:Value->Shared->Prop}(hh:A.handled=none)(hl:s.heap.IsList l vs.toArray)(hi:IntsAre vs ns)(hb:vs.length+1<scanBound)
 (k:∀h' tk,SetS w h' s.heap.objs.size (ns.foldl gA [])->(∀b o,s.heap.get? b=some o->h'.get? b=some o)->Q (.ref s.heap.objs.size) { s with heap:=h',toks:=tk }) :
 wpAny (model P w) A (call (.type "set") [.ref l]) Q E s:=by
 obtain⟨c0,tl0,hm0⟩:=PySem.F.called_set.mro;have f1:=PySem.F.called_set.made;have f2:=PySem.F.called_set.sub;have f3:=PySem.F.called_set.notType;have f4:=PySem.F.called_set.canCreate;have f5:=PySem.F.typeCall_set_1 (.ref l);refine wpAny_call (codeAny_of_tree (show wpAny _ _ (callAny (.type "set") _) _ _ _ from wpAny_pure ⟨Code.quiet_builtin _ (by decide +kernel),codeAny_builtin PySem.F.entry_type_call ?_⟩));rw[Around.under_plain (weight_type_call_type "set" [.ref l] []) rfl]
 repeat (any_goals (first | assumption | wp_step))
 refine codeAny_mono (JX (.ref l) (E:=E) (Q₁:=fun v s1=>v=.ref s.heap.objs.size/\s1={ s with heap:=s.heap.push { cls:=.type "set",dict:=none,data:=.set #[] 0 (.fresh 0 0 (!bt w)) } }) ⟨rfl,rfl⟩) fun r s1 hr=>?_
 match r,hr with
 | .error e,hr=>exact hr
 | .ok (.ret v),hr =>
   obtain⟨rfl,rfl⟩:=hr;generalize ho:({ cls:=.type "set",dict:=none,data:=.set #[] 0 (.fresh 0 0 (!bt w)) }:Obj)=ob;have g0:(s.heap.push ob).get? s.heap.objs.size=some ob:=Heap.get?_push_size _ (by rw[<-ho];rfl);have g1:Shared.TypeIs { s with heap:=s.heap.push ob } (.ref s.heap.objs.size) "set":=⟨_,g0,by rw[<-ho]⟩;have g2:=PySem.F.called_set.init.lookup;have g3:=PySem.F.called_set.init.bind (.ref s.heap.objs.size)
   repeat (any_goals (first | assumption | wp_step))
   refine codeAny_mono (codeAny_call_builtin (R:=wants (fun r s2=>r=.none/\∃h' tk,s2={ s with heap:=h',toks:=tk }/\SetS w h' s.heap.objs.size (ns.foldl gA [])/\(∀b o,s.heap.get? b=some o->h'.get? b=some o)) E)
    PySem.F.called_set.init.plain PySem.F.entry_set_init (check_set_init_1 g1 ?_)) fun r2 s2 hr2=>?_
   ·obtain⟨ol,hol,cl,nl,dl⟩:=hl;obtain⟨oc,od,oda,os⟩:=ol;simp only at cl dl;subst cl dl;have hol':(s.heap.push ob).get? l=some { cls:=.type "list",dict:=od,data:=.seq vs.toArray nl,slots:=os }:=Heap.get?_push_of_some _ hol;have q1:=PySem.F.sub_list_set;have q2:=PySem.F.sub_list_frozenset;have q3:(Value.type "list"==Value.type "dict")=false:=by decide
    have q4:(s.heap.push ob).IsList l vs.toArray:=⟨_,hol',rfl,nl,rfl⟩;subst ho;unfold Builtin.«set.__init__» noKeywords Builtin.Frozenset.updateFrom;generalize hPI:pyIter=PI
    wp_walk
    subst hPI;have lt:l<s.heap.objs.size:=Heap.lt_size hol;refine wpAny_pyIter_list q4 (wpAny_bind (wpAny_runValue ?_));have sz:=Heap.size_push s.heap { cls:=.type "set",dict:=none,data:=.set #[] 0 (.fresh 0 0 (!bt w)) };have hne:l≠(s.heap.push { cls:=.type "set",dict:=none,data:=.set #[] 0 (.fresh 0 0 (!bt w)) }).objs.size:=by rw[sz];exact Nat.ne_of_lt (Nat.lt_succ_of_lt lt)
    have hnf:s.heap.objs.size∉[(s.heap.push { cls:=.type "set",dict:=none,data:=.set #[] 0 (.fresh 0 0 (!bt w)) }).objs.size,l]:=by
     rw[sz];simp only[List.mem_cons,List.not_mem_nil,or_false,not_or];exact⟨Nat.ne_of_lt (Nat.lt_succ_self _),Nat.ne_of_gt lt⟩
    have W:=Walks.list (prog:=P) (w:=w) (A:=A.in1.in1.in1) (by simp[hh]) (s.heap.push { cls:=.type "set",dict:=none,data:=.set #[] 0 (.fresh 0 0 (!bt w)) }).objs.size l hne vs.toArray;refine FZ W.toS hnf (fun i=>ns.getD i 0) (fun i v hv=>?_) (by simpa using hb) _ 0 _ [] rfl (Nat.zero_le _) (Nat.le_refl _) ⟨⟨_,Heap.get?_push_size _ rfl,rfl,rfl⟩,q4.push _⟩ ?_ ?_
    ·exact IntsAre.int_at hi i v (by rw[<-Array.getElem?_toList] at hv;exact hv)
    ·refine⟨_,#[],0,_,Heap.get?_push_of_some _ g0,⟨rfl,rfl,rfl⟩,rfl,fun e he=>by simp at he,.refl _,by decide,Fi (bt w)⟩
    ·intro s' hm' hS;have e:((List.range' 0 (vs.toArray.size-0)).map fun i=>ns.getD i 0)=ns:=by
      have hz:vs.toArray.size-0=ns.length:=by rw[List.size_toArray,IntsAre.length hi];rfl
      rw[hz,<-List.range_eq_range'];refine List.ext_getElem? fun i=>?_;rw[List.getElem?_map];by_cases hi':i<ns.length
      ·simp[hi']
      ·simp[hi',Nat.not_lt.mp hi']
     rw[e] at hS;obtain⟨h',g',d',tk',os'⟩:=s';have e1:g'=s.gens:=hm'.gens;have e2:d'=s.drawn:=hm'.drawn;have e3:os'=s.os:=hm'.os;subst e1 e2 e3;refine wpAny_pure (wpAny_pure ⟨rfl,h',tk',rfl,hS,fun b o q=>?_⟩);have hlt:=Heap.lt_size q;refine hm'.heap b o ?_ (Heap.get?_push_of_some _ (Heap.get?_push_of_some _ q));rw[sz];simp only[List.mem_cons,List.not_mem_nil,or_false,not_or];exact⟨Nat.ne_of_lt hlt,Nat.ne_of_lt (Nat.lt_succ_of_lt hlt)⟩
   ·match r2,hr2 with
    | .error e,hr2=>exact hr2
    | .ok (.ret v),hr2 =>
      obtain⟨rfl,h',tk,rfl,z1,z2⟩:=hr2
      repeat (any_goals (first | assumption | wp_step))
      exact k _ _ z1 z2
end
def si_slot:Slot "set_iterator" "__next__" "set_iterator.__next__" :=
 Slot.of (owner:="set_iterator") (n:="__next__") (by rw[typeLookup_type,builtinLookup_eq_fast];kernel_rfl) (by decide +kernel) (by decide +kernel) (by decide +kernel) (by first | exact .inl (by decide +kernel) | exact .inr (by decide +kernel)) (by rw[isSubtype_type];kernel_rfl)
def lN:entryFor table "set_iterator.__next__"=some Builtin.«set_iterator.__next__»:=entryFor_of_tree (by kernel_rfl)
def v6:Manifest.owners.lookup (String.ofList ['r','o','t','a','r','e','t','i','_','t','e','s'].reverse)=some Manifest.sig_set_iterator:=by kernel_rfl
def pF (a:Value):argsOk "set_iterator.__next__" ⟨[a],[]⟩:=by
 unfold argsOk;rw[signature?_of (id:="set_iterator.__next__") (n:=['_','_','t','x','e','n','_','_']) (o:=['r','o','t','a','r','e','t','i','_','t','e','s']) (by kernel_rfl) v6];kernel_rfl
def sO:Slot "set_iterator" "__iter__" "set_iterator.__iter__" :=
 Slot.of (owner:="set_iterator") (n:="__iter__") (by rw[typeLookup_type,builtinLookup_eq_fast];kernel_rfl) (by decide +kernel) (by decide +kernel) (by decide +kernel) (by first | exact .inl (by decide +kernel) | exact .inr (by decide +kernel)) (by rw[isSubtype_type];kernel_rfl)
def yC:entryFor table "set_iterator.__iter__"=some Builtin.«dict_keyiterator.__iter__»:=entryFor_alias (id':="dict_keyiterator.__iter__") (by kernel_rfl) (by decide +kernel) (by decide +kernel) (by kernel_rfl)
def Cw (a:Value):argsOk "set_iterator.__iter__" ⟨[a],[]⟩:=by
 unfold argsOk;rw[signature?_of (id:="set_iterator.__iter__") (n:=['_','_','r','e','t','i','_','_']) (o:=['r','o','t','a','r','e','t','i','_','t','e','s']) (by kernel_rfl) v6];kernel_rfl
def pY:entryFor table "set.__iter__"=some Builtin.«frozenset.__iter__»:=entryFor_alias (id':="frozenset.__iter__") (by kernel_rfl) (by decide +kernel) (by decide +kernel) (by kernel_rfl)
def SIt (h:Heap)(it a:Addr)(f0:Value)(i n ep:Nat):Prop:=∃o,h.get? it=some o/\o.cls=.type "set_iterator"/\o.data=.fields #[f0,.int i 0,.ref a,.int n 0,.int ep 0]
def SAt (w:World)(h:Heap)(a:Addr)(es:Array (Int×Value))(ep:Nat)(t:SetTable):Prop:=∃o,h.get? a=some o/\o.cls=.type "set"/\o.data=.set es ep t/\Tb (bt w) t es.size
section
variable {P:Program}{w:World}{A:Around}{E:Value->Shared->Prop}{s:Shared}{it a:Addr}{es:Array (Int×Value)}{ep:Nat}{t:SetTable}
def j0 {slot i:Nat}{Q:Option (Value×Nat)->Shared->Prop}(hS:SAt w s.heap a es ep t)(hb:bt w=true)(k:Q (((pickOrder (w.params.setOrder a ep) es)[i]?).map fun e=>(e.2,slot)) s):wpAny (model P w) A (setNext a slot i ep) Q E s:=by
 obtain⟨o,ho,_,hd,hT⟩:=hS;unfold setNext;refine wpAny_bind (wpAny_setState_of ho hd hT.fit (wpAny_bind (wpAny_bind (wpAny_askSetting (wpAny_pure ?_)))));show wpAny _ _ (if bt w=true then _ else _) _ _ _;rw[if_pos hb];show wpAny _ _ (if (ep != ep)=true then _ else _) _ _ _;rw[if_neg (by simp)];refine wpAny_bind ?_;unfold setWalk;refine wpAny_bind (wpAny_setState_of ho hd hT.fit (wpAny_bind (wpAny_bind (wpAny_askSetting (wpAny_pure ?_)))));show wpAny _ _ (if bt w=true then _ else _) _ _ _;rw[if_pos hb];exact wpAny_bind (wpAny_askSetting (wpAny_pure (wpAny_pure k)))
def jx {slot i:Nat}{Q:Option (Value×Nat)->Shared->Prop}(hS:SAt w s.heap a es ep t)(hb:bt w=false)(hp:(!t.plain&&decide (es.size>1))=false)
 (k:Q (match es[SetTable.below t.place slot]?,t.place[SetTable.below t.place slot]? with | some (_,x),some j=>some (x,j+1) | _,_=>none) s):wpAny (model P w) A (setNext a slot i ep) Q E s:=by
 obtain⟨o,ho,_,hd,hT⟩:=hS;unfold setNext;refine wpAny_bind (wpAny_setState_of ho hd hT.fit (wpAny_bind (wpAny_bind (wpAny_askSetting (wpAny_pure ?_)))));show wpAny _ _ (if bt w=true then _ else _) _ _ _;rw[hb];show wpAny _ _ (if (!t.plain&&decide (es.size>1))=true then _ else _) _ _ _;rw[hp];refine wpAny_bind (m:=if (!t.led && !es.isEmpty)=true then unsupported "set:maker-not-led" else pure ()) ?_;rw[show t.led=true from hT.led.resolve_left (by rw[hb];simp)];exact wpAny_pure (wpAny_pure k)
def ni {f0:Value}{i n ep:Nat}{Q:Unit->Shared->Prop}{j:Nat}{x:Value}(hI:SIt s.heap it a f0 i n ep)(hj:j<5)(k:∀h' o',Heap.SameBut it s.heap h'->h'.get? it=some o'->o'.cls=.type "set_iterator"->o'.data=.fields ((#[f0,.int i 0,.ref a,.int n 0,.int ep 0]:Array Value).setIfInBounds j x)->Q () { s with heap:=h' }) :
 wpAny (model P w) A (setField (.ref it) j x) Q E s:=by
 obtain⟨o,ho,hc,hd⟩:=hI;exact wpAny_setField ho hd hj (k _ _ (Heap.SameBut.update ..) (Heap.get?_update_self _ ho (Obj.isFreed_of_fields (Obj.data_mapFields hd _))) ((Obj.cls_mapFields ..).trans hc) (Obj.data_mapFields hd _))
def zU {x:Value}{slot i:Nat}{Q:Option Value->Shared->Prop}(hI:SIt s.heap it a (.int slot 0) i es.size ep)(hS:SAt w s.heap a es ep t){nx:Nat}
 (hn:∀(A:Around) (E:Value->Shared->Prop) (Q:Option (Value×Nat)->Shared->Prop),Q (some (x,nx)) s->wpAny (model P w) A (setNext a slot i ep) Q E s)
 (k:∀h',SIt h' it a (.int nx 0) (i+1) es.size ep->Heap.SameBut it s.heap h'->Q (some x) { s with heap:=h' }):wpAny (model P w) A (pyNext (.ref it)) Q E s:=by
 have hII:=hI;obtain⟨o,ho,hc,hd⟩:=hI;obtain⟨oS,hoS,hcS,hdS,hT⟩:=hS;have hTy:s.TypeIs (.ref it) "set_iterator":=⟨o,ho,hc⟩;unfold pyNext;refine wpAny_bind (wpAny_attempt (wpAny_callSpecial?_slot (name:=Str.ofString "__next__") hTy si_slot (wpAny_call_entry si_slot hTy lN ?_ (pF _))));unfold Builtin.«set_iterator.__next__»;refine wpAny_bind (wpAny_pure (wpAny_bind (wpAny_fieldsOf ho hd ?_)));dsimp only;refine wpAny_bind (wpAny_setEntries_of hoS hdS hT.fit ?_);rw[if_neg (by simp)];refine wpAny_bind ?_;simp only[Int.toNat_natCast];refine hn _ _ _ ?_;dsimp only;refine wpAny_bind (ni hII (by decide) fun h1 o1 sb1 g1 c1 d1=>?_);have I1:SIt h1 it a (.int nx 0) i es.size ep:=⟨o1,g1,c1,by rw[d1];rfl⟩;refine wpAny_bind (ni (s:={ s with heap:=h1 }) I1 (by decide) fun h2 o2 sb2 g2 c2 d2=>?_);exact wpAny_pure ⟨_,rfl,wpAny_pure (k h2 ⟨o2,g2,c2,by rw[d2];rfl⟩ (sb1.trans sb2))⟩
def iH {α:Type}{Q:α->Shared->Prop}{E':Value->Shared->Prop}(hh:A.handled=none)(k:∀h' e o,(∀b ob,s.heap.get? b=some ob->h'.get? b=some ob)->h'.get? e=some o->o.cls=.type "StopIteration"->E' (.ref e) { s with heap:=h' }) :
 wpAny (model P w) A (newExc (.type "StopIteration") [] >>= fun e=>raiseNew e) Q E' s:=by
 simp only[newExc,newTuple,raiseNew];refine wpAny_bind (wpAny_bind (wpAny_newObj_type (wpAny_bind (m:=firstArgMember _ _) (wpAny_of_eq (a:=Value.none) (by simp only[firstArgMember];rfl) (wpAny_newObj_type ?_ (by size_fits)))) (by size_fits)));refine wpAny_bind (wpAny_handled ?_);rw[hh];exact wpAny_bind (wpAny_pure (wpAny_throw (k _ _ _ (fun b ob q=>Heap.get?_push_of_some _ (Heap.get?_push_of_some _ q)) (Heap.get?_push_size _ rfl) rfl)))
def FW {slot i:Nat}{Q:Option Value->Shared->Prop}(hh:A.handled=none)(hI:SIt s.heap it a (.int slot 0) i es.size ep)(hS:SAt w s.heap a es ep t)
 (hn:∀(A:Around) (E:Value->Shared->Prop) (Q:Option (Value×Nat)->Shared->Prop),Q none s->wpAny (model P w) A (setNext a slot i ep) Q E s)
 (k:∀h',Heap.ExtBut it s.heap h'->Q none { s with heap:=h' }):wpAny (model P w) A (pyNext (.ref it)) Q E s:=by
 have hII:=hI;obtain⟨o,ho,hc,hd⟩:=hI;obtain⟨oS,hoS,hcS,hdS,hT⟩:=hS;have hTy:s.TypeIs (.ref it) "set_iterator":=⟨o,ho,hc⟩;unfold pyNext;refine wpAny_bind (wpAny_attempt (wpAny_callSpecial?_slot (name:=Str.ofString "__next__") hTy si_slot (wpAny_call_entry si_slot hTy lN ?_ (pF _))));unfold Builtin.«set_iterator.__next__»;refine wpAny_bind (wpAny_pure (wpAny_bind (wpAny_fieldsOf ho hd ?_)));dsimp only;refine wpAny_bind (wpAny_setEntries_of hoS hdS hT.fit ?_);rw[if_neg (by simp)];refine wpAny_bind ?_;simp only[Int.toNat_natCast];refine hn _ _ _ ?_;dsimp only;refine wpAny_bind (ni hII (by decide) fun h1 o1 sb1 g1 c1 d1=>?_);refine iH (s:={ s with heap:=h1 }) hh fun h2 e oe k2 ge ce=>?_;refine wpAny_bind (wpAny_isInstance (T:="StopIteration") (b:=true) ⟨oe,ge,ce⟩ isSubtype_stop (wpAny_pure (k h2 fun b ob hb q=>k2 _ _ ?_)));rw[sb1.2 b hb];exact q
def J4 {pl:Addr}{ps:Array Value}{np i p:Nat}{x:Int×Value}{Q:Option Value->Shared->Prop}(hI:SIt s.heap it a (.ref pl) i es.size ep)(hS:SAt w s.heap a es ep t)(hp:∃o,s.heap.get? pl=some o/\o.data=.seq ps np)
 (hi:ps[i]? = some (.int p 0)) (hx:es[p]? = some x)
 (k:∀h',SIt h' it a (.ref pl) (i+1) es.size ep->Heap.SameBut it s.heap h'->Q (some x.2) { s with heap:=h' }):wpAny (model P w) A (pyNext (.ref it)) Q E s:=by
 have hII:=hI;obtain⟨o,ho,hc,hd⟩:=hI;obtain⟨oS,hoS,hcS,hdS,hT⟩:=hS;obtain⟨op,hop,hdp⟩:=hp;have hTy:s.TypeIs (.ref it) "set_iterator":=⟨o,ho,hc⟩;unfold pyNext;refine wpAny_bind (wpAny_attempt (wpAny_callSpecial?_slot (name:=Str.ofString "__next__") hTy si_slot (wpAny_call_entry si_slot hTy lN ?_ (pF _))));unfold Builtin.«set_iterator.__next__»;refine wpAny_bind (wpAny_pure (wpAny_bind (wpAny_fieldsOf ho hd ?_)));dsimp only;refine wpAny_bind (wpAny_setEntries_of hoS hdS hT.fit ?_);rw[if_neg (by simp)];refine wpAny_bind (wpAny_seqItems hop hdp ?_);simp only[Int.toNat_natCast,hi];refine wpAny_bind ?_;unfold setNextDrawn;refine wpAny_bind (wpAny_setState_of hoS hdS hT.fit ?_);dsimp only;rw[if_neg (by simp),hx];refine wpAny_pure (wpAny_bind (ni hII (by decide) fun h1 o1 sb1 g1 c1 d1=>?_));exact wpAny_pure ⟨_,rfl,wpAny_pure (k h1 ⟨o1,g1,c1,by rw[d1];rfl⟩ sb1)⟩
def NP {pl:Addr}{ps:Array Value}{np i:Nat}{Q:Option Value->Shared->Prop}(hh:A.handled=none)(hI:SIt s.heap it a (.ref pl) i es.size ep)(hS:SAt w s.heap a es ep t)(hp:∃o,s.heap.get? pl=some o/\o.data=.seq ps np)
 (hi:ps[i]? = none)
 (k:∀h',Heap.ExtBut it s.heap h'->Q none { s with heap:=h' }):wpAny (model P w) A (pyNext (.ref it)) Q E s:=by
 have hII:=hI;obtain⟨o,ho,hc,hd⟩:=hI;obtain⟨oS,hoS,hcS,hdS,hT⟩:=hS;obtain⟨op,hop,hdp⟩:=hp;have hTy:s.TypeIs (.ref it) "set_iterator":=⟨o,ho,hc⟩;unfold pyNext;refine wpAny_bind (wpAny_attempt (wpAny_callSpecial?_slot (name:=Str.ofString "__next__") hTy si_slot (wpAny_call_entry si_slot hTy lN ?_ (pF _))));unfold Builtin.«set_iterator.__next__»;refine wpAny_bind (wpAny_pure (wpAny_bind (wpAny_fieldsOf ho hd ?_)));dsimp only;refine wpAny_bind (wpAny_setEntries_of hoS hdS hT.fit ?_);rw[if_neg (by simp)];refine wpAny_bind (wpAny_seqItems hop hdp ?_);simp only[Int.toNat_natCast,hi];refine wpAny_bind (ni hII (by decide) fun h1 o1 sb1 g1 c1 d1=>?_);have I1:SIt h1 it a (.int 0 0) i es.size ep:=⟨o1,g1,c1,by rw[d1];rfl⟩;refine wpAny_bind (ni (s:={ s with heap:=h1 }) I1 (by decide) fun h2 o2 sb2 g2 c2 d2=>?_);refine iH (s:={ s with heap:=h2 }) hh fun h3 e oe k3 ge ce=>?_;refine wpAny_bind (wpAny_isInstance (T:="StopIteration") (b:=true) ⟨oe,ge,ce⟩ isSubtype_stop (wpAny_pure (k h3 fun b ob hb q=>k3 _ _ ?_)));rw[sb2.2 b hb,sb1.2 b hb];exact q
def uO {f0:Value}{i n ep:Nat}{Q:Value->Shared->Prop}(hI:SIt s.heap it a f0 i n ep)(k:Q (.ref it) s):wpAny (model P w) A (pyIter (.ref it)) Q E s:=by
 obtain⟨o,ho,hc,hd⟩:=hI;have hTy:s.TypeIs (.ref it) "set_iterator":=⟨o,ho,hc⟩;refine wpAny_pyIter_slot hTy sO (wpAny_call_entry sO hTy yC (show wpAny _ _ (ret (.ref it)) _ _ s from wpAny_pure ⟨_,rfl,"set_iterator",_,hTy,si_slot.lookup,k⟩) (Cw _))
def zE {Q:Nat->Shared->Prop}{n:Nat}(hn:n≠0)(k:∀i d,i<n->Q i { s with drawn:=d }):wpAny (model P w) A (choose .order n) Q E s:=fun Γ p hΓ=>⟨hn,k _ _ (Nat.mod_lt _ (Nat.pos_of_ne_zero hn))⟩
def m8 {α:Type}:∀{l:List α} {i:Nat} {x:α},l[i]? = some x->(x::l.eraseIdx i).Perm l
 | [],i,x,e=>by simp at e
 | y::l,0,x,e=>by
   simp only[List.getElem?_cons_zero,Option.some.injEq] at e;subst e;exact .refl _
 | y::l,i+1,x,e=>by
   rw[List.eraseIdx_cons_succ];exact(List.Perm.swap y x _).trans ((m8 (by simpa using e)).cons y)
def qZ {α:Type}:∀(n:Nat) (xs:List α) (s:Shared) (Q:List α->Shared->Prop),xs.length=n->(∀ys d,ys.Perm xs->Q ys { s with drawn:=d })->wpAny (model P w) A (drawOrder n xs) Q E s
 | 0,xs,s,Q,hl,k=>by
   have e:xs=[]:=List.length_eq_zero_iff.mp hl;subst e;exact wpAny_pure (k [] s.drawn (.refl _))
 | n+1,[],s,Q,hl,k=>by simp at hl
 | n+1,x::xs,s,Q,hl,k=>by
   rw[drawOrder];refine wpAny_bind (zE (by simp) fun i d hi=>?_);obtain⟨y,hy⟩:∃y,(x::xs)[i]? = some y:=⟨_,List.getElem?_eq_getElem hi⟩;rw[hy];have hp:=m8 hy;refine wpAny_bind (qZ n _ { s with drawn:=d } _ (by have:=hp.length_eq;simp only[List.length_cons] at this hl ⊢;omega) fun ys d' q=>wpAny_pure (k (y::ys) d' ((q.cons y).trans hp)));intro z;cases z
def Ae {α:Type}(next:Nat->Nat):∀(f k:Nat) (left:List α) (out:Array α),left.length=f->((pickOrder.go next f k left out).toList).Perm (out.toList++left)
 | 0,k,left,out,hl=>by
   have e:left=[]:=List.length_eq_zero_iff.mp hl;subst e;rw[pickOrder.go,List.append_nil]
 | f+1,k,left,out,hl=>by
   rw[pickOrder.go];have hi:next k % left.length<left.length:=Nat.mod_lt _ (by omega)
   have e:left[next k % left.length]? = some left[next k % left.length]:=List.getElem?_eq_getElem hi;have hp:=m8 e;simp only[e];refine(Ae next f (k+1) _ _ (by have:=hp.length_eq;simp only[List.length_cons] at this;omega)).trans ?_;rw[Array.toList_push,List.append_assoc];exact hp.append_left _
def nu {α:Type}(next:Nat->Nat)(xs:Array α):(pickOrder next xs).toList.Perm xs.toList:=by
 unfold pickOrder;simpa using Ae next xs.size 0 xs.toList #[] (by simp)
end
def rH (ord:List (Int×Value))(i:Nat)(v:Value):Prop:=∃e,ord[i]? = some e/\v=e.2
def zc {ord:List (Int×Value)}(hi:AllI ord){acc:Array Value}(h:ItemsOf (rH ord) acc ord.length):IntsAre acc.toList (ord.map kOf):=by
 have key:∀(ord:List (Int×Value)) (l:List Value),AllI ord->l.length=ord.length->(∀j v,l[j]? = some v->rH ord j v)->IntsAre l (ord.map kOf):=by
  intro ord;induction ord with
  | nil =>
    intro l _ hl _;have e:l=[]:=List.length_eq_zero_iff.mp (by simpa using hl);subst e;exact .nil
  | cons e ord ih =>
    intro l hi hl hv;cases l with
    | nil=>simp at hl
    | cons v l =>
      obtain⟨e',q1,q2⟩:=hv 0 v rfl;simp only[List.getElem?_cons_zero,Option.some.injEq] at q1;subst q1;obtain⟨t,q3,_⟩:=hi e List.mem_cons_self;rw[q3] at q2;subst q2;rw[List.map_cons];refine .cons _ _ (ih l (fun e' he=>hi e' (List.mem_cons_of_mem _ he)) (by simpa using hl) fun j v hj=>?_);obtain⟨e',q4,q5⟩:=hv (j+1) v (by simpa using hj);exact⟨e',by simpa using q4,q5⟩
 exact key ord acc.toList hi (by simpa using h.1) fun j v hj=>h.2 j v (by rw[<-Array.getElem?_toList];exact hj)
section
variable {P:Program}{w:World}{A:Around}{E:Value->Shared->Prop}{s:Shared}{a:Addr}
def SIt.at' {h h':Heap}{it a:Addr}{f0:Value}{i n ep:Nat}(x:SIt h it a f0 i n ep)(k:∀o,h.get? it=some o->h'.get? it=some o):SIt h' it a f0 i n ep:=let ⟨o,e,r⟩:=x;⟨o,k _ e,r⟩
def SAt.at' {h h':Heap}{a:Addr}{es:Array (Int×Value)}{ep:Nat}{t:SetTable}(x:SAt w h a es ep t)(k:∀o,h.get? a=some o->h'.get? a=some o):SAt w h' a es ep t:=let ⟨o,e,r⟩:=x;⟨o,k _ e,r⟩
def yd (hh:A.handled=none){it a:Addr}{es:Array (Int×Value)}{ep:Nat}{t:SetTable}(hb:bt w=true)(hne:a≠it) :
 Walks P w A it [it,a] [it] es.size (rH (pickOrder (w.params.setOrder a ep) es).toList) (fun i h=>SIt h it a (.int (0:Nat) 0) i es.size ep/\SAt w h a es ep t) where
 sub:=fun b hb=>List.mem_cons.mpr (.inl (List.mem_singleton.mp hb))
 frame:=fun _ _ _ st hk=>⟨st.1.at' fun o e=>hk it (by simp) o e,st.2.at' fun o e=>hk a (by simp) o e⟩
 item:=by
  intro i s Q E hi st hQ;have hz:(pickOrder (w.params.setOrder a ep) es).size=es.size:=by simpa using (nu (w.params.setOrder a ep) es).length_eq
  obtain⟨e,he⟩:∃e,(pickOrder (w.params.setOrder a ep) es)[i]? = some e:=⟨_,Array.getElem?_eq_getElem (by omega)⟩;refine zU (t:=t) (x:=e.2) (nx:=0) st.1 st.2 (fun A E Q z=>j0 st.2 hb (by rw[he];exact z)) fun h' I' sb=>?_;exact hQ _ h' s.toks ⟨e,by rw[Array.getElem?_toList];exact he,rfl⟩ ⟨I',st.2.at' fun o q=>(sb.2 a hne).trans q⟩ fun b o hb' q=>(sb.2 b (fun z=>hb' (by simp[z]))).trans q
 done:=fun s Q E st hQ=>by
  have hz:(pickOrder (w.params.setOrder a ep) es).size=es.size:=by simpa using (nu (w.params.setOrder a ep) es).length_eq
  refine FW (t:=t) hh st.1 st.2 (fun A E Q z=>j0 st.2 hb (by rw[Array.getElem?_eq_none (by omega)];exact z)) fun h' ext=>hQ h' s.toks fun b o hb' q=>ext b o (fun z=>hb' (by simp[z])) q
 self:=fun _ _ _ _ st hQ=>uO st.1 hQ
noncomputable def slotAt (xs:Array Nat):Nat->Nat
 | 0=>0
 | i+1=>xs.getD i 0+1
def lM {xs:Array Nat}(h:Ris xs):∀i,i<=xs.size->SetTable.below xs (slotAt xs i)=i
 | 0,_=>zG xs h
 | i+1,hi=>by
   have e:xs[i]? = some xs[i]:=Array.getElem?_eq_getElem hi;have eD:xs.getD i 0=xs[i]:=by simp[show i<xs.size from hi]
   show SetTable.below xs (xs.getD i 0+1)=i+1;rw[eD];exact zH h e
def vL (hh:A.handled=none){it a:Addr}{es:Array (Int×Value)}{ep:Nat}{t:SetTable}(hb:bt w=false)(hp:(!t.plain&&decide (es.size>1))=false)(hne:a≠it) :
 Walks P w A it [it,a] [it] es.size (rH es.toList) (fun i h=>SIt h it a (.int (slotAt t.place i) 0) i es.size ep/\SAt w h a es ep t/\Tb (bt w) t es.size) where
 sub:=fun b hb=>List.mem_cons.mpr (.inl (List.mem_singleton.mp hb))
 frame:=fun _ _ _ st hk=>⟨st.1.at' fun o e=>hk it (by simp) o e,st.2.1.at' fun o e=>hk a (by simp) o e,st.2.2⟩
 item:=by
  intro i s Q E hi st hQ;have T:=st.2.2;have hz:t.place.size=es.size:=by
   have:=T.fit;simp only[SetTable.fits,Bool.and_eq_true,beq_iff_eq] at this;exact this.1
  have hbl:=lM T.ris i (by omega);have e1:es[i]? = some es[i]:=Array.getElem?_eq_getElem hi;have e2:t.place[i]? = some t.place[i]:=Array.getElem?_eq_getElem (by omega);have e3:slotAt t.place (i+1)=t.place[i]+1:=by show t.place.getD i 0+1=_;simp[show i<t.place.size by omega]
  refine zU (t:=t) (x:=es[i].2) (nx:=slotAt t.place (i+1)) st.1 st.2.1 (fun A E Q z=>jx st.2.1 hb hp (by rw[hbl,e1,e2];dsimp only;rw[<-e3];exact z)) fun h' I' sb=>?_;exact hQ _ h' s.toks ⟨es[i],by rw[Array.getElem?_toList];exact e1,rfl⟩ ⟨I',st.2.1.at' fun o q=>(sb.2 a hne).trans q,T⟩ fun b o hb' q=>(sb.2 b (fun z=>hb' (by simp[z]))).trans q
 done:=fun s Q E st hQ=>by
  have T:=st.2.2;have hz:t.place.size=es.size:=by
   have:=T.fit;simp only[SetTable.fits,Bool.and_eq_true,beq_iff_eq] at this;exact this.1
  have hbl:=lM T.ris es.size (by omega);refine FW (t:=t) hh st.1 st.2.1 (fun A E Q z=>jx st.2.1 hb hp (by rw[hbl,Array.getElem?_eq_none (Nat.le_refl _)];exact z)) fun h' ext=>hQ h' s.toks fun b o hb' q=>ext b o (fun z=>hb' (by simp[z])) q
 self:=fun _ _ _ _ st hQ=>uO st.1 hQ
def vM (hh:A.handled=none){it a pl:Addr}{es:Array (Int×Value)}{ep:Nat}{t:SetTable}{ps:List Nat}{np:Nat}(hp:ps.Perm (List.range es.size))(hne:a≠it)(hnp:pl≠it) :
 Walks P w A it [it,a,pl] [it] es.size (rH (ps.filterMap (es[·]?))) (fun i h=>SIt h it a (.ref pl) i es.size ep/\SAt w h a es ep t/\∃o,h.get? pl=some o/\o.data=.seq (ps.map fun (i:Nat)=>rawInt i).toArray np) where
 sub:=fun b hb=>List.mem_cons.mpr (.inl (List.mem_singleton.mp hb))
 frame:=fun _ _ _ st hk=>⟨st.1.at' fun o e=>hk it (by simp) o e,st.2.1.at' fun o e=>hk a (by simp) o e,let ⟨o,q,r⟩:=st.2.2;⟨o,hk pl (by simp) o q,r⟩⟩
 item:=by
  intro i s Q E hi st hQ;have hl:ps.length=es.size:=by simpa using hp.length_eq
  have hlt:∀p∈ps,p<es.size:=fun p z=>by simpa using hp.mem_iff.mp z
  have hi':i<ps.length:=by omega
  have e1:ps[i]? = some ps[i]:=List.getElem?_eq_getElem hi';have hpi:ps[i]<es.size:=hlt _ (List.getElem_mem hi');have e2:es[ps[i]]? = some es[ps[i]]:=Array.getElem?_eq_getElem hpi;have e3:(ps.filterMap (es[·]?))[i]? = some es[ps[i]]:=by
   have:ps.filterMap (es[·]?)=ps.map fun p=>es.getD p (0,.none):=by
    clear e1 hi' hpi e2 hp hl hQ st;induction ps with
    | nil=>rfl
    | cons p ps ih =>
      have q:=hlt p List.mem_cons_self;rw[List.filterMap_cons,List.map_cons,ih fun p' z=>hlt p' (List.mem_cons_of_mem _ z)];simp[q]
   rw[this,List.getElem?_map,e1];simp[hpi]
  refine J4 (t:=t) (p:=ps[i]) (x:=es[ps[i]]) st.1 st.2.1 st.2.2 (by simp[e1,rawInt]) e2 fun h' I' sb=>?_;exact hQ _ h' s.toks ⟨_,e3,rfl⟩ ⟨I',st.2.1.at' fun o q=>(sb.2 a hne).trans q,let ⟨o,q,r⟩:=st.2.2;⟨o,(sb.2 pl hnp).trans q,r⟩⟩ fun b o hb' q=>(sb.2 b (fun z=>hb' (by simp[z]))).trans q
 done:=fun s Q E st hQ=>by
  have hl:ps.length=es.size:=by simpa using hp.length_eq
  refine NP (t:=t) hh st.1 st.2.1 st.2.2 (by simp[hl]) fun h' ext=>hQ h' s.toks fun b o hb' q=>ext b o (fun z=>hb' (by simp[z])) q
 self:=fun _ _ _ _ st hQ=>uO st.1 hQ
def Ga {ks:List Int}{Q:Value->Shared->Prop}(hS:SetS w s.heap a ks)
 (k:∀(it:Addr) (fp:List Addr) (ord:List (Int×Value)) (St:Nat->Heap->Prop) (h':Heap) (d':Drawn),(∀A':Around,A'.handled=none->Walks P w A' it fp [it] ord.length (rH ord) St)->St 0 h'->AllI ord->(ord.map kOf).Perm ks ->
  (∀b o,s.heap.get? b=some o->h'.get? b=some o)->s.heap.objs.size<=it->(∀b∈fp,b=a\/s.heap.objs.size<=b)->Q (.ref it) { s with heap:=h',drawn:=d' }) :
 wpAny (model P w) A (pyIter (.ref a)) Q E s:=by
 obtain⟨o,es,ep,t,ho,hx,hd,hi,hp,hb,hT⟩:=hS;have hTy:s.TypeIs (.ref a) "set":=⟨o,ho,hx.1⟩;have hlt:a<s.heap.objs.size:=Heap.lt_size ho;have S0:SAt w s.heap a es ep t:=⟨o,ho,hx.1,hd,hT⟩;refine wpAny_pyIter_slot hTy PySem.F.slot_set_iter (wpAny_call_entry PySem.F.slot_set_iter hTy pY ?_ (PySem.F.args_set_iter_1 _));unfold Builtin.«frozenset.__iter__»;refine wpAny_bind (wpAny_pure (wpAny_bind (wpAny_bind (wpAny_setEntries_of ho hd hT.fit (wpAny_pure ?_)))));refine wpAny_bind ?_;unfold setDrawn;refine wpAny_bind (wpAny_setState_of ho hd hT.fit (wpAny_bind (wpAny_bind (wpAny_askSetting (wpAny_pure ?_)))));refine wpAny_pure ?_;show wpAny _ _ (if (!bt w&&(!t.plain&&decide (es.size>1)))=true then _ else _) _ _ _;cases hc:(!bt w&&(!t.plain&&decide (es.size>1))) with
 | true =>
   rw[if_pos rfl];refine wpAny_bind (qZ es.size (List.range es.size) s _ (by simp) fun ps d hps=>?_);have hl:ps.length=es.size:=by simpa using hps.length_eq
   have hz:(ps.map fun (i:Nat)=>rawInt i).length<=sizeLine:=by rw[List.length_map,hl];exact fits_of_scanBound hb
   refine wpAny_bind (wpAny_newTuple ?_ hz);generalize hob:({ cls:=.type "tuple",data:=.seq (ps.map fun (i:Nat)=>rawInt i).toArray }:Obj)=ob;have g1:(s.heap.push ob).get? s.heap.objs.size=some ob:=Heap.get?_push_size _ (by rw[<-hob];rfl);have sz:(s.heap.push ob).objs.size=s.heap.objs.size+1:=Heap.size_push _ _;refine wpAny_bind (wpAny_setEpoch_of (Heap.get?_push_of_some _ ho) hd hT.fit ?_);refine wpAny_bind (wpAny_newObj_type (wpAny_pure ⟨_,rfl,"set_iterator",_,⟨_,Heap.get?_push_size _ rfl,rfl⟩,si_slot.lookup,?_⟩));refine k _ [(s.heap.push ob).objs.size,a,s.heap.objs.size] (ps.filterMap (es[·]?)) (fun i h=>SIt h (s.heap.push ob).objs.size a (.ref s.heap.objs.size) i es.size ep/\SAt w h a es ep t/\∃o,h.get? s.heap.objs.size=some o/\o.data=.seq (ps.map fun (i:Nat)=>rawInt i).toArray 0) _ d (fun A' hh=>?_) ⟨⟨_,Heap.get?_push_size _ rfl,rfl,rfl⟩,S0.at' fun o q=>Heap.get?_push_of_some _ (Heap.get?_push_of_some _ q),ob,Heap.get?_push_of_some _ g1,by rw[<-hob]⟩ ?_ ?_ (fun b o q=>Heap.get?_push_of_some _ (Heap.get?_push_of_some _ q)) (by rw[sz];exact Nat.le_succ _) fun b hb=>?_
   ·have W:=vM (P:=P) (w:=w) (A:=A') hh (it:=(s.heap.push ob).objs.size) (a:=a) (pl:=s.heap.objs.size) (es:=es) (ep:=ep) (t:=t) (np:=0) hps (by rw[sz];exact Nat.ne_of_lt (Nat.lt_succ_of_lt hlt)) (by rw[sz];exact Nat.ne_of_lt (Nat.lt_succ_self _));have e:(ps.filterMap (es[·]?)).length=es.size:=by
     have:=(hps.filterMap (es[·]?)).length_eq;rw[this,filterMap_getElem?_range,Array.length_toList]
    rw[e];exact W
   ·refine hi.perm ?_;rw[<-filterMap_getElem?_range];exact hps.filterMap _
   ·refine List.Perm.trans ?_ hp;refine List.Perm.map _ ?_;rw[<-filterMap_getElem?_range];exact hps.filterMap _
   ·simp only[List.mem_cons,List.not_mem_nil,or_false] at hb;rcases hb with rfl | rfl | rfl
    ·exact .inr (by rw[sz];exact Nat.le_succ _)
    ·exact .inl rfl
    ·exact .inr (Nat.le_refl _)
 | false =>
   rw[if_neg (by simp)];refine wpAny_bind (wpAny_pure ?_);refine wpAny_bind (wpAny_setEpoch_of ho hd hT.fit ?_);refine wpAny_bind (wpAny_newObj_type (wpAny_pure ⟨_,rfl,"set_iterator",_,⟨_,Heap.get?_push_size _ rfl,rfl⟩,si_slot.lookup,?_⟩));have hne:a≠s.heap.objs.size:=Nat.ne_of_lt hlt;have fin:∀b∈[s.heap.objs.size,a],b=a\/s.heap.objs.size<=b:=fun b z=>by
    simp only[List.mem_cons,List.not_mem_nil,or_false] at z;rcases z with rfl | rfl
    ·exact .inr (Nat.le_refl _)
    ·exact .inl rfl
   cases hbt:bt w with
   | true =>
     have pp:=nu (w.params.setOrder a ep) es;have e:(pickOrder (w.params.setOrder a ep) es).toList.length=es.size:=by simpa using pp.length_eq
     refine k _ [s.heap.objs.size,a] (pickOrder (w.params.setOrder a ep) es).toList (fun i h=>SIt h s.heap.objs.size a (.int (0:Nat) 0) i es.size ep/\SAt w h a es ep t) _ s.drawn (fun A' hh=>?_) ⟨⟨_,Heap.get?_push_size _ rfl,rfl,rfl⟩,S0.at' fun o q=>Heap.get?_push_of_some _ q⟩ (hi.perm pp) ((pp.map kOf).trans hp) (fun b o q=>Heap.get?_push_of_some _ q) (Nat.le_refl _) fin;rw[e];exact yd hh hbt hne
   | false =>
     have hpl:(!t.plain&&decide (es.size>1))=false:=by rw[hbt] at hc;simpa using hc
     have e:es.toList.length=es.size:=by simp
     refine k _ [s.heap.objs.size,a] es.toList (fun i h=>SIt h s.heap.objs.size a (.int (slotAt t.place i) 0) i es.size ep/\SAt w h a es ep t/\Tb (bt w) t es.size) _ s.drawn (fun A' hh=>?_) ⟨⟨_,Heap.get?_push_size _ rfl,rfl,rfl⟩,S0.at' fun o q=>Heap.get?_push_of_some _ q,hT⟩ hi hp (fun b o q=>Heap.get?_push_of_some _ q) (Nat.le_refl _) fin;rw[e];exact vL hh hbt hpl hne
end
section
variable {P:Program}{w:World}{A:Around}{E:Value->Shared->Prop}{s:Shared}
def JD (P:Program)(w:World)(A:Around)(S r:Addr)(T:String)(res:Value)(R:Result->Shared->Prop)(v:Value)(s1:Shared):Prop :=
 ∃(I:Addr) (fp wr:List Addr) (G:Array GenState->Array GenState->Prop) (n:Nat) (PI:Nat->Value->Prop) (St:Nat->Shared->Prop) (c:Nat),v=.ref I/\WalksS P w A I fp wr G n PI St/\St 0 s1/\S∉fp/\n<=sizeLine /\
  s1.heap.get? S=some { cls:=.type "list",data:=.seq #[] c }/\s1.TypeIs (.ref r) T /\
  ∀s' acc c',Moved (S::wr) G s1 s'->s'.heap.get? S=some { cls:=.type "list",dict:=none,data:=.seq acc c',slots:=#[] }->ItemsOf PI acc n->R (.ok (.ret res)) s'
def Lb {S r:Addr}{T:String}{res:Value}{R:Result->Shared->Prop}(hT:s.TypeIs (.ref r) T)(nl:(Value.type T==Value.type "list")=false)(nt:(Value.type T==Value.type "tuple")=false)(hne:S≠r)
 (hit:wpAny (model P w) A.in1 (pyIter (.ref r)) (JD P w A.in1 S r T res R) (fun e s'=>R (.error e) s') s)
 (hint:∀(E:Value->Shared->Prop) (Q:Bool->Shared->Prop) (s:Shared),s.TypeIs (.ref r) T->(∀b,Q b s)->wpAny (model P w) A.in1 (Builtin.List.listLengthHint (.ref r)) Q E s) :
 wpAny (model P w) A.in1 (Builtin.List.listExtendWith (.ref S) (.ref r) res)
  (fun fin s'=>match fin with | .done f=>R (.ok f) s' | .again c'=>c'.quiet=true/\codeAny (model P w) A c' R s') (fun e s'=>R (.error e) s') s:=by
 unfold Builtin.List.listExtendWith;refine wpAny_bind (wpAny_typeOf (T:=T) hT ?_);have h1:Builtin.List.listSameRef (.ref S) (.ref r)=false:=by simp[Builtin.List.listSameRef,hne]
 simp only[h1,nl,nt,Bool.or_false,Bool.false_eq_true,if_false];refine wpAny_bind (wpAny_mono hit (fun v s1 z=>?_) fun _ _ z=>z);obtain⟨I,fp,wr,G,n,PI,St,c,rfl,W,st,hSf,hn,gS,hT1,k⟩:=z;refine wpAny_bind (wpAny_holding (hint _ _ _ hT1 fun b=>?_));have run:∀(h:Heap) (c1:Nat),(∀b o,b≠S->s1.heap.get? b=some o->h.get? b=some o)->h.get? S=some { cls:=.type "list",data:=.seq #[] c1 }->codeAny (model P w) A (.builtin "list.extend.loop" ⟨[.ref S,.ref I,res],[]⟩) R { s1 with heap:=h }:=fun h c1 hk g1=>by
  have hm0:Moved (S::wr) G s1 { s1 with heap:=h }:=(Moved.refl W.grefl).then_heap (Nat.le_refl _) fun b o hb q=>hk b o (fun z=>hb (by simp[z])) q;refine codeAny_extend_loopS W hn S hSf res n 0 _ #[] c1 rfl (Nat.zero_le _) (W.frame 0 s1 _ _ st (Nat.le_refl _) fun b hb o q=>hk b o (fun z=>hSf (z ▸ hb)) q) g1 (ItemsOf.nil _) fun s' acc' c' hm gS' hacc=>?_;exact k s' acc' c' (Moved.trans W.gtrans hm0 hm) gS' hacc
 refine wpAny_ite_split (fun _=>?_) fun _=>wpAny_pure ⟨plainId_quiet PySem.F.plain_extend_loop _,run s1.heap c (fun _ _ _ q=>q) gS⟩;refine wpAny_bind (wpAny_rule (wpAny_bind ?_));have g2:=Heap.get?_update_self (Obj.mapSeq (·.push Value.none)) gS rfl;have g3:=Heap.get?_update_self (Obj.mapSeq (·.pop)) g2 rfl;refine wpAny_bind (m:=updateSeq S (·.push .none)) (wpAny_updateSeq gS rfl (wpAny_updateSeq (hz:=by seq_fits) g2 rfl ?_));exact wpAny_pure ⟨plainId_quiet PySem.F.plain_extend_loop _,run _ _ (fun b o hb q=>(Heap.get?_update_other _ _ (Ne.symm hb)).trans ((Heap.get?_update_other _ _ (Ne.symm hb)).trans q)) g3⟩
def Hz {r:Addr}{Q:Bool->Shared->Prop}(hT:s.TypeIs (.ref r) "set")(k:Q false s):wpAny (model P w) A (Builtin.List.listLengthHint (.ref r)) Q E s:=by
 unfold Builtin.List.listLengthHint;refine wpAny_bind (wpAny_specialOf hT PySem.F.slot_set_len.lookup ?_);generalize hid:("set.__len__":String)=lid
 wp_delta
 rw[show splitId lid=some ("set","__len__") from by subst hid;decide +kernel];subst hid;refine wpAny_bind (wpAny_isInstance (T:="set") (b:=true) hT sub_set_self ?_);refine wpAny_ite_split (fun z=>absurd z (by decide)) fun _=>wpAny_ite_split (fun _=>?_) fun z=>absurd (by decide +kernel) z;exact wpAny_bind (wpAny_typeOf hT (wpAny_pure k))
end
end DL
namespace DL
open PySem PyProof.Rows PySem.W
section
variable {P:Program}{w:World}{A:Around}{E:Value->Shared->Prop}{s:Shared}
def v7 {r:Addr}{ks:List Int}{R:List Value->Shared->Prop}(hh:A.handled=none)(hS:SetS w s.heap r ks)(hn:ks.length<=sizeLine)
 (k:∀h' d' tk vs ns,(∀b o,s.heap.get? b=some o->h'.get? b=some o)->s.heap.objs.size<=h'.objs.size->IntsAre vs ns->ns.Perm ks->R vs { s with heap:=h',drawn:=d',toks:=tk }) :
 wpAny (model P w) A (collect (.ref r)) R E s:=by
 have hlt:r<s.heap.objs.size:=by obtain⟨o,_,_,_,q,_⟩:=hS;exact Heap.lt_size q
 have hTy:s.TypeIs (.ref r) "set":=by obtain⟨o,_,_,_,q,x,_⟩:=hS;exact⟨o,q,x.1⟩
 unfold collect;refine wpAny_bind (wpAny_runValue (codeAny_builtin entry_proto_collect' ?_));rw[Around.under_plainId PySem.F.plain_proto_collect _];show wpAny _ _ (newList [] >>= fun l=>again (.builtin "list.__iadd__" ⟨[l,.ref r],[]⟩)) _ _ s;refine wpAny_bind (wpAny_newObj_type (wpAny_pure ⟨plainId_quiet PySem.F.plain_list_iadd _,codeAny_builtin entry_list_iadd' ?_⟩));rw[Around.under_plainId PySem.F.plain_list_iadd _];have g0:(s.heap.push { cls:=.type "list",data:=.seq ([]:List Value).toArray }).get? s.heap.objs.size=some { cls:=.type "list",data:=.seq #[] }:=Heap.get?_push_size _ rfl;have sz:=Heap.size_push s.heap { cls:=.type "list",data:=.seq ([]:List Value).toArray };show wpAny _ _ (Builtin.List.listExtendWith (.ref s.heap.objs.size) (.ref r) (.ref s.heap.objs.size)) _ _ _;have S1:SetS w (s.heap.push { cls:=.type "list",data:=.seq ([]:List Value).toArray }) r ks:=hS.at' fun o q=>Heap.get?_push_of_some _ q;have key:=Lb (P:=P) (w:=w) (A:=A) (s:={ s with heap:=s.heap.push { cls:=.type "list",data:=.seq ([]:List Value).toArray } }) (S:=s.heap.objs.size) (r:=r) (T:="set") (res:=.ref s.heap.objs.size)
  (R:=fun q s'=>∃h' d' tk acc c ns,q=.ok (.ret (.ref s.heap.objs.size))/\s'={ s with heap:=h',drawn:=d',toks:=tk }/\(∀b o,s.heap.get? b=some o->h'.get? b=some o)/\s.heap.objs.size<=h'.objs.size/\h'.get? s.heap.objs.size=some { cls:=.type "list",dict:=none,data:=.seq acc c,slots:=#[] }/\IntsAre acc.toList ns/\ns.Perm ks)
  (by obtain⟨o,q,c⟩:=hTy;exact⟨o,Heap.get?_push_of_some _ q,c⟩) (by decide) (by decide) (Nat.ne_of_gt hlt)
  (Ga S1 fun it fp ord St h' d' W st hi hp hk hit hfp=>?_) fun E Q s hT z=>Hz hT (z false)
 ·refine wpAny_mono key (fun fin s' x=>?_) fun e s' x=>?_
  ·cases fin with
   | done f =>
     obtain⟨h',d',tk,acc,c,ns,e,rfl,k1,k0,k2,k3,k4⟩:=x;cases e;exact wpAny_bind (m:=load s.heap.objs.size) (wpAny_load k2 (wpAny_pure (k h' d' tk acc.toList ns k1 k0 k3 k4)))
   | again c1 =>
     refine⟨x.1,codeAny_mono x.2 fun q s2 y=>?_⟩;obtain⟨h',d',tk,acc,c,ns,rfl,rfl,k1,k0,k2,k3,k4⟩:=y;exact wpAny_bind (m:=load s.heap.objs.size) (wpAny_load k2 (wpAny_pure (k h' d' tk acc.toList ns k1 k0 k3 k4)))
  ·obtain⟨_,_,_,_,_,_,e',_⟩:=x;cases e'
 ·have hlen:ord.length=ks.length:=by simpa using hp.length_eq
  rw[sz] at hit;refine⟨it,fp,[it],_,ord.length,rH ord,_,0,rfl,(W A.in1 hh).toS,st,fun z=>?_,by omega,hk _ _ g0,?_,fun s' acc c' hm gS hacc=>?_⟩
  ·rcases hfp _ z with q | q
   ·exact Nat.ne_of_gt hlt q
   ·rw[sz] at q;exact absurd q (Nat.not_succ_le_self _)
  ·obtain⟨o,q,c⟩:=hTy;exact⟨o,hk _ _ (Heap.get?_push_of_some _ q),c⟩
  ·obtain⟨h2,g2,d2,t2,o2⟩:=s';have e1:g2=s.gens:=hm.gens;have e2:d2=d':=hm.drawn;have e3:o2=s.os:=hm.os;subst e1 e2 e3;refine⟨h2,d2,t2,acc,c',ord.map kOf,rfl,rfl,fun b o q=>?_,Nat.le_of_lt (Heap.lt_size gS),gS,zc hi hacc,hp⟩;have hb:=Heap.lt_size q;refine hm.heap b o ?_ (hk _ _ (Heap.get?_push_of_some _ q));simp only[List.mem_cons,List.not_mem_nil,or_false,not_or];exact⟨Nat.ne_of_lt hb,Nat.ne_of_lt (Nat.lt_of_lt_of_le (Nat.lt_succ_of_lt hb) hit)⟩
def vm {r:Addr}{ks:List Int}{Q:Value->Shared->Prop}(hh:A.handled=none)(hS:SetS w s.heap r ks)(h64:ks.length<64)
 (k:∀h' d' tk l vs e ns,(∀b o,s.heap.get? b=some o->h'.get? b=some o)->h'.get? l=some (seqObj "list" vs e)->s.heap.objs.size<=l->IntsAre vs.toList ns->ns.Perm ks->ns.Pairwise (·<=·)->Q (.ref l) { s with heap:=h',drawn:=d',toks:=tk }) :
 wpAny (model P w) A (call (.builtin "sorted") [.ref r]) Q E s:=by
 refine Calls.call_function_entry kind_sorted plain_sorted entry_sorted (args_sorted1 _) ?_;unfold Builtin.«sorted»;refine wpAny_bind (m:=checkCount "sorted" 1 1 _) (wpAny_pure (wpAny_bind (v7 (A:=A.in1) hh hS (by rw[sizeLine_eq];omega) fun h' d' tk vs ns k1 k0 hi hp=>?_)));have hl:vs.length<64:=by rw[IntsAre.length hi,hp.length_eq];exact h64
 refine wpAny_bind (wpAny_newList ?_ (by rw[sizeLine_eq];omega));have gL:(h'.push (seqObj "list" vs.toArray 0)).get? h'.objs.size=some (seqObj "list" vs.toArray 0):=Heap.get?_push_size _ rfl;refine wpAny_bind (wpAny_holding (wpAny_call_entry slot_list_sort ⟨_,gL,rfl⟩ entry_list_sort (list_sort_tree gL hi hl fun out ns' a1 a2 a3=>⟨_,rfl,?_⟩) (args_list_sort _)));obtain⟨e,he⟩:=sortedHeap_at (out:=out) gL;refine wpAny_pure ⟨_,rfl,k _ d' tk h'.objs.size out e ns' (fun b o q=>?_) he k0 a1 (a2.trans hp) a3⟩;have hb:=Heap.lt_size (k1 _ _ q);rw[sortedHeap_old (Nat.ne_of_lt hb) (by rw[size_push'];exact Nat.lt_succ_of_lt hb)];exact Heap.get?_push_of_some _ (k1 _ _ q)
end
end DL
namespace DL
open PySem PySem.Spec PyProof.Rows L2
section
variable {X:Cx}{e a b tg:Expr}{me ma mb:ME}{pos p p2 p3:Pos}
def Inv.drw {pins:List (Addr×Obj)}{σ:L2.St}{H:Hp}{s:Shared}(I:L2.Inv X pins σ H s)(d:Drawn):L2.Inv X pins σ H { s with drawn:=d } :=
 ⟨I.ok,I.os,I.bare,I.base,I.loc,I.cell,I.free,I.freeC,I.pin,I.hok,I.len⟩
noncomputable def JF (w:World)(p:Addr)(ks:List Int):HO:=.ext fun h=>SetS w h p ks
def J3 {P:Program}{w:World}{H:Hp}{h:Heap}{p:Addr}{ks:List Int}(x:SetS w h p ks):ObjOk P w H h p (JF w p ks) :=
 ⟨x,let ⟨o,_,_,_,q,_⟩:=x;⟨o,q⟩,fun _ _ z k=>z.at' k⟩
def Qj (hc:X.calm=true):cL X (.type "set") (fun xs H Q=>∃(l:Addr) (ns:List Int),xs=[.ref l]/\SqL X.K H l (ns.map V.int)/\ns.length+1<4096/\∀p,H p=none->Q (.ref p) (upd H p (JF X.w p (ns.foldl gA [])))):=by
 intro pins s σ H xs us Q I r h;obtain⟨l,ns,rfl,hq,hb,q⟩:=h;obtain⟨u,rfl,ru⟩:=Vals.one r;cases ru;obtain⟨its,rv,p1,_⟩:=I.list hq;have hi:=intsAre_of rv;refine Ed (I.ok.hd hc) p1.isList hi (by rw[IntsAre.length hi];exact hb) fun h' tk hS hk=>?_;exact⟨.ref s.heap.objs.size,upd H s.heap.objs.size (JF X.w s.heap.objs.size (ns.foldl gA [])),I.laid (t':=tk) hk (Nat.le_refl _) (J3 hS),rfl,q _ I.fresh⟩
def FP {ns ks:List Int}(hp:ns.Perm ks)(hs:ns.Pairwise (·<=·)):ns=sortI ks:=by
 refine PySem.W.ksm_same (hp.trans (List.mergeSort_perm _ _).symm) hs ?_;have:=List.pairwise_mergeSort (le:=fun a b:Int=>decide (a<=b)) (fun a b c h1 h2=>by simp only[decide_eq_true_eq] at *;omega) (fun a b=>by simp only[Bool.or_eq_true,decide_eq_true_eq];omega) ks;exact this.imp fun h=>by simpa using h
def nQ:∀{vs:List Value} {ns:List Int},IntsAre vs ns->Vals (ns.map V.int) vs
 | _,_,.nil=>.nil
 | _,_,.cons n t h=>.cons ⟨t,rfl⟩ (nQ h)
def DY (hc:X.calm=true):cL X (.builtin "sorted") (fun xs H Q=>∃(q:Addr) (ks:List Int),xs=[.ref q]/\H q=some (JF X.w q ks)/\ks.length<64/\∀p,H p=none->Q (.ref p) (upd H p (.lst ((sortI ks).map V.int)))):=by
 intro pins s σ H xs us Q I r h;obtain⟨l,ks,rfl,hq,hb,q⟩:=h;obtain⟨u,rfl,ru⟩:=Vals.one r;cases ru;have hS:SetS X.w s.heap l ks:=(I.hok l _ hq).1;refine vm (I.ok.hd hc) hS hb fun h' d' tk l' vs e ns k1 g1 hlt hi hp hs=>?_;have en:=FP hp hs;have hz:((sortI ks).map V.int).length<=sizeLine:=by rw[List.length_map,<-en,hp.length_eq,bB];omega
 refine⟨.ref l',upd H l' (.lst ((sortI ks).map V.int)),Inv.drw (I.laid (o:=.lst ((sortI ks).map V.int)) (t':=tk) k1 hlt ⟨hz,vs.toList,e,nQ (en ▸ hi),by rw[g1]⟩) d',rfl,q _ (I.hok.fresh hlt)⟩
def gb {K:PySem.W.Frag}{B:Hp}:∀{ds:List D} {is:List Int} {xs:List V},intsOf ds=some is->Dens K B ds xs->xs=is.map V.int
 | [],is,xs,e,h=>by cases e;exact h.unnil
 | .int i::ds,is,xs,e,h=>by
   obtain⟨q,e1,e2⟩:=Option.bind_eq_some_iff.mp e;cases e2;obtain⟨x,r,rfl,h1,h2⟩:=h.uncons;rw[h1.int_inv,gb e1 h2];rfl
def zu (hc:X.calm=true)(hg1:Gl X "sorted")(hm1:X.mg "sorted"=none)(hg2:Gl X "set")(hm2:X.mg "set"=none)(he:DE X e me)
 (s1:starEach [e] X.env=(false,eval e X.env)::starEach [] X.env:=by rfl) (s2:starEach [Expr.Call (.Name "set" p2) [e] [] p3] X.env=(false,eval (Expr.Call (.Name "set" p2) [e] [] p3) X.env)::starEach [] X.env:=by rfl) (hpl:∀pos:Pos,(backTo pos (starEach [] X.env)).any (·.1)=false:=by intro _;rfl) :
 DE X (.Call (.Name "sorted" p) [.Call (.Name "set" p2) [e] [] p3] [] pos) (kE lF me):=by
 obtain⟨te,pe,qe⟩:=he;refine⟨_,iu (DY hc) hg1 hm1 boot_sorted (aJ (ir (Qj hc) hg2 hm2 rfl (aJ pe aY s1) (he:=s1) (hpl:=hpl _)) aY s2) (he:=s2) (hpl:=hpl _),fun os σ H δ d Q s m k=>?_⟩;obtain⟨dx,e1,m⟩:=aj m;refine qe os σ H δ dx _ s e1 fun v H1 g1 r1=>?_;cases dx with
 | lst xs =>
   obtain⟨is,e2,m⟩:=aj m;split at m
   ·rename_i hb;cases m;obtain⟨l,ys,rfl,h1,h2⟩:=r1.lst_up;have:=gb e2 h2;subst this;refine⟨l,is,rfl,h1,hb.1,fun p hp=>⟨p,_,rfl,az,hb.2,fun q hq=>?_⟩⟩;have g2:=aK hp (JF X.w p (is.foldl gA []));refine k _ _ (g1.trans (g2.trans (aK hq _))) (.newL ((s.live.mono g1).mono g2) hq (Dens.ints _))
   ·cases m
 | _=>cases m
def Qi (hc:X.calm=true):cL X (.builtin "sum") (fun xs H Q=>∃(l:Addr) (ns:List Int),xs=[.ref l]/\(SqL X.K H l (ns.map V.int)\/SqT X.K H l (ns.map V.int))/\Q (.int ns.sum) H):=by
 intro pins s σ H xs us Q I r h;obtain⟨l,ns,rfl,hq,q⟩:=h;obtain⟨u,rfl,ru⟩:=Vals.one r;cases ru;have hh:X.A.in1.handled=none:=by have:=I.ok.hd hc;simpa using this
 have pre:∀{its:List Value},IntsAre its ns->preSum (fun i=>ns.getD i 0) its.toArray.size=ns.sum:=fun {its} hi=>by
  rw[preSum_getD,List.take_of_length_le (by rw[List.size_toArray,IntsAre.length hi];exact Nat.le_refl _)]
 have kept:∀{it:Addr} {o:Obj} {h':Heap} {ax:Addr},it=s.heap.objs.size->(∀b ob,b∉[it]->(s.heap.push o).get? b=some ob->h'.get? b=some ob)->∀b ob,s.heap.get? b=some ob->h'.get? b=some ob:=fun {it o h' ax} e k b ob q=>k b ob (fun z=>by rw[List.mem_singleton.mp z,e] at q;exact absurd (Heap.lt_size q) (Nat.lt_irrefl _)) (Heap.get?_push_of_some _ q);refine call_sum_walkG ?_;rcases hq with hq | hq
 ·obtain⟨its,rv,p1,_⟩:=I.list hq;have hi:=intsAre_of rv;have hlt:l<s.heap.objs.size:=by obtain⟨_,q,_⟩:=p1.isList;exact Heap.lt_size q
  refine wpAny_pyIter_list p1.isList ⟨s.heap.objs.size,_,_,_,_,_,fun i=>ns.getD i 0,rfl,Walks.list hh _ l (Nat.ne_of_lt hlt) its.toArray,⟨⟨_,Heap.get?_push_size _ rfl,rfl,rfl⟩,p1.isList.push _⟩,fun b hb=>?_,fun i v hv=>IntsAre.int_at hi i v (by rw[<-Array.getElem?_toList] at hv;exact hv),fun h' tk t' k=>?_⟩
  ·rw[size_push'];simp only[List.mem_cons,List.not_mem_nil,or_false] at hb;rcases hb with rfl | rfl
   ·exact Nat.lt_succ_self _
   ·exact Nat.lt_succ_of_lt hlt
  ·rw[pre hi];exact⟨.int ns.sum,H,I.kept (t':=tk) (kept (ax:=l) rfl k),⟨t',rfl⟩,q⟩
 ·obtain⟨its,rv,p1,_⟩:=I.tuple hq;have hi:=intsAre_of rv;have hlt:l<s.heap.objs.size:=p1.lt;have ht:s.heap.IsTuple l its.toArray:=p1;refine wpAny_pyIter_tuple ht ⟨s.heap.objs.size,_,_,_,_,_,fun i=>ns.getD i 0,rfl,Walks.tuple hh _ l (Nat.ne_of_lt hlt) its.toArray,⟨⟨_,Heap.get?_push_size _ rfl,rfl,rfl⟩,p1.push _⟩,fun b hb=>?_,fun i v hv=>IntsAre.int_at hi i v (by rw[<-Array.getElem?_toList] at hv;exact hv),fun h' tk t' k=>?_⟩
  ·rw[size_push'];simp only[List.mem_cons,List.not_mem_nil,or_false] at hb;rcases hb with rfl | rfl
   ·exact Nat.lt_succ_self _
   ·exact Nat.lt_succ_of_lt hlt
  ·rw[pre hi];exact⟨.int ns.sum,H,I.kept (t':=tk) (kept (ax:=l) rfl k),⟨t',rfl⟩,q⟩
def Qk (hc:X.calm=true):CallD X (.builtin "sum") Ru:=by
 refine⟨_,Qi hc,fun os H L ds d vs Q r m k=>?_⟩
 match ds,m with
 | [.tup xs],m =>
   obtain⟨is,e,m⟩:=aj m;cases m;obtain⟨v,rfl,h⟩:=eO r;obtain⟨p,ys,rfl,h1,h2⟩:=h.tup_up;have:=gb e h2;subst this;exact⟨p,is,rfl,.inr h1,k _ H (Same.refl _) (.int _)⟩
 | [.lst xs],m =>
   obtain⟨is,e,m⟩:=aj m;cases m;obtain⟨v,rfl,h⟩:=eO r;obtain⟨p,ys,rfl,h1,h2⟩:=h.lst_up;have:=gb e h2;subst this;exact⟨p,is,rfl,.inl h1,k _ H (Same.refl _) (.int _)⟩
end
end DL
namespace DL
open PySem PyProof.Rows
section
variable {P:Program}{w:World}{A:Around}{E:Value->Shared->Prop}{s:Shared}
def vG (h:Heap)(z TI TO T:Addr)(f:Bool):Prop:=h.get? z=some { cls:=.type "zip",dict:=none,data:=.fields #[.int T 0,.bool f,.bool false,.ref TI,.ref TO],slots:=#[] }
structure Apart (z TI i1 i2 l1 l2:Addr):Prop where
 TIz:TI≠z
 i1z:i1≠z
 i2z:i2≠z
 TIi1:TI≠i1
 TIi2:TI≠i2
 i12:i1≠i2
 l1z:l1≠z
 l1i1:l1≠i1
 l1i2:l1≠i2
 l2z:l2≠z
 l2i1:l2≠i1
 l2i2:l2≠i2
def En {a:Addr}{Q:Option Obj->Shared->Prop}(h:Q (s.heap.get? a) s):wpAny (model P w) A (loadIfAlive a) Q E s:=fun _ _ _=>h
def JN {z TI TO T:Addr}{f:Bool}{Q:Bool->Shared->Prop}(hz:vG s.heap z TI TO T f)(hT:∃o,s.heap.get? T=some o)(k:∀h',vG h' z TI TO T true->Heap.SameBut z s.heap h'->Q false { s with heap:=h' }) :
 wpAny (model P w) A (Builtin.SmallTypes.ownedTupleIsFree (.ref z)) Q E s:=by
 obtain⟨o,ho⟩:=hT;refine wpAny_bind (m:=field (.ref z) 0) (wpAny_field hz rfl (x:=.int T 0) rfl (wpAny_bind (En ?_)));rw[Int.toNat_natCast,ho];rw[if_neg (by simp)];refine wpAny_bind (wpAny_field hz rfl (x:=.bool f) rfl ?_);cases f with
 | true =>
   rw[if_neg (by decide)];exact wpAny_pure (k s.heap hz (Heap.SameBut.refl _ _))
 | false =>
   rw[if_pos (by decide)];exact wpAny_bind (wpAny_setField_rec hz (by simp) fun h1 z1 sb=>wpAny_pure (k h1 z1 sb))
def Ng {z TI TO T i1 i2 l1 l2:Addr}{f:Bool}{m:Nat}{us ws:Array Value}{Q:PySem.Fin->Shared->Prop}(hh:A.handled=none)(D:Apart z TI i1 i2 l1 l2)(hz:vG s.heap z TI TO T f)(hT:∃o,s.heap.get? T=some o)(hTI:IsPair s.heap TI (.ref i1) (.ref i2))
 (a1:s.heap.IsListIter i1 l1 m) (b1:s.heap.IsList l1 us) (a2:s.heap.IsListIter i2 l2 m) (b2:s.heap.IsList l2 ws)
 (go:∀x y h',us[m]? = some x->ws[m]? = some y->vG h' z TI TO T true->h'.IsListIter i1 l1 (m+1)->h'.IsListIter i2 l2 (m+1)->IsPair h' s.heap.objs.size x y->(∀c o,c≠z->c≠i1->c≠i2->s.heap.get? c=some o->h'.get? c=some o)->Q (.done (.ret (.ref s.heap.objs.size))) { s with heap:=h' })
 (no:∀h' e,us[m]? = none\/ws[m]? = none->(∀c o,c≠z->c≠i1->c≠i2->s.heap.get? c=some o->h'.get? c=some o)->(∃o,h'.get? e=some o/\o.cls=.type "StopIteration")->E (.ref e) { s with heap:=h' }) :
 wpAny (model P w) A (Builtin.«zip.__next__» ⟨[.ref z],[]⟩) Q E s:=by
 refine wpAny_bind (m:=field (.ref z) 2) (wpAny_field hz rfl (x:=.bool false) rfl (wpAny_bind (m:=field (.ref z) 3) (wpAny_field hz rfl (x:=.ref TI) rfl (wpAny_bind (wpAny_seqItems hTI rfl ?_)))));refine wpAny_bind (m:=Builtin.SmallTypes.ownedTupleIsFree (.ref z)) (JN hz hT fun g0 z0 s0=>?_);simp only[Bool.false_eq_true,if_false,List.forIn_toArray,List.forIn_cons,List.forIn_nil];have c1:=a1.extBut s0.extBut D.i1z;have d1:=b1.extBut s0.extBut D.l1z;refine wpAny_bind (wpAny_bind (wpAny_bind (wpAny_holding (wpAny_bind (m:=Builtin.SmallTypes.nextOf (.ref i1)) ?_))));cases e1:us[m]? with
 | none=>exact wpAny_nextOf_list_end hh c1 d1 e1 fun g1 e x1 he=>no g1 e (.inl e1) (fun c o n1 n2 _ q=>x1 _ _ n2 (s0.extBut _ _ n1 q)) he
 | some x =>
   refine wpAny_nextOf_list_item c1 d1 e1 fun g1 j1 s1=>wpAny_pure (wpAny_pure (wpAny_bind (wpAny_bind (wpAny_holding (wpAny_bind (m:=Builtin.SmallTypes.nextOf (.ref i2)) ?_)))));have c2:=(a2.extBut s0.extBut D.i2z).extBut s1.extBut D.i12.symm;have d2:=(b2.extBut s0.extBut D.l2z).extBut s1.extBut D.l2i1;cases e2:ws[m]? with
   | none=>exact wpAny_nextOf_list_end hh c2 d2 e2 fun g2 e x2 he=>no g2 e (.inr e2) (fun c o n1 n2 n3 q=>x2 _ _ n3 (s1.extBut _ _ n2 (s0.extBut _ _ n1 q))) he
   | some y =>
     refine wpAny_nextOf_list_item c2 d2 e2 fun g2 j2 s2=>wpAny_pure ?_;refine wpAny_pure (wpAny_pure (wpAny_bind (wpAny_newTuple (wpAny_pure ?_) (by show 2<=sizeLine;rw[sizeLine_eq];decide))));have sz:g2.objs.size=s.heap.objs.size:=by rw[s2.1,s1.1,s0.1]
     have q:=go x y (g2.push { cls:=.type "tuple",data:=.seq #[x,y] }) e1 e2 (Heap.get?_push_of_some _ (s2.extBut _ _ D.i2z.symm (s1.extBut _ _ D.i1z.symm z0))) ((j1.extBut s2.extBut D.i12).at fun o e=>Heap.get?_push_of_some _ e) (j2.at fun o e=>Heap.get?_push_of_some _ e)
      (by rw[<-sz];exact Heap.get?_push_size _ rfl) fun c o n1 n2 n3 e=>Heap.get?_push_of_some _ (s2.extBut _ _ n3 (s1.extBut _ _ n2 (s0.extBut _ _ n1 e)))
     rw[<-sz] at q;exact q
def zM {z TI TO T i1 i2 l1 l2:Addr}{f:Bool}{m:Nat}{us ws:Array Value}{Q:Option Value->Shared->Prop}(hh:A.handled=none)(D:Apart z TI i1 i2 l1 l2)(hz:vG s.heap z TI TO T f)(hT:∃o,s.heap.get? T=some o)(hTI:IsPair s.heap TI (.ref i1) (.ref i2))
 (a1:s.heap.IsListIter i1 l1 m) (b1:s.heap.IsList l1 us) (a2:s.heap.IsListIter i2 l2 m) (b2:s.heap.IsList l2 ws)
 (go:∀x y h',us[m]? = some x->ws[m]? = some y->vG h' z TI TO T true->h'.IsListIter i1 l1 (m+1)->h'.IsListIter i2 l2 (m+1)->IsPair h' s.heap.objs.size x y->(∀c o,c≠z->c≠i1->c≠i2->s.heap.get? c=some o->h'.get? c=some o)->Q (some (.ref s.heap.objs.size)) { s with heap:=h' })
 (no:∀h',us[m]? = none\/ws[m]? = none->(∀c o,c≠z->c≠i1->c≠i2->s.heap.get? c=some o->h'.get? c=some o)->Q none { s with heap:=h' }) :
 wpAny (model P w) A (pyNext (.ref z)) Q E s:=by
 have hTy:s.TypeIs (.ref z) "zip":=⟨_,hz,rfl⟩;unfold pyNext;refine wpAny_bind (wpAny_attempt (wpAny_callSpecial?_slot (name:=Str.ofString "__next__") hTy PySem.F.slot_zip_next (wpAny_call_entry PySem.F.slot_zip_next hTy PySem.F.entry_zip_next (Ng (A:=A.in1) hh D hz hT hTI a1 b1 a2 b2
  (fun x y h' e1 e2 k1 k2 k3 k4 k5=>⟨_,rfl,wpAny_pure (go x y h' e1 e2 k1 k2 k3 k4 k5)⟩) fun h' e hn hk he=>?_) (PySem.F.args_zip_next_1 _))))
 obtain⟨o,ho,hc⟩:=he;exact wpAny_bind (wpAny_isInstance (T:="StopIteration") (b:=true) ⟨o,ho,hc⟩ isSubtype_stop (wpAny_pure (no _ hn hk)))
end
structure ZL (B z TI TO i1 i2 S:Addr)(l1 l2:Addr)(xs ys:Array Value)(i:Nat)(ts:List Addr)(h0 h:Heap):Prop where
 zs:(i=0/\IsZip h z TI TO .none/\∃a b,IsPair h TO a b)\/∃T f,vG h z TI TO T f/\T∈ts
 ti:IsPair h TI (.ref i1) (.ref i2)
 a1:h.IsListIter i1 l1 i
 a2:h.IsListIter i2 l2 i
 old:∀b o,b<B->h0.get? b=some o->h.get? b=some o
 at_:∃c,h.get? S=some { cls:=.type "list",dict:=none,data:=.seq (ts.map Value.ref).toArray c,slots:=#[] }
 tl:ts.length=i
 tp:∀(j:Nat) (t:Addr),ts[j]? = some t->(B<=t/\t≠z/\t≠TI/\t≠TO/\t≠i1/\t≠i2/\t≠S)/\∃x y,xs[j]? = some x/\ys[j]? = some y/\IsPair h t x y
 nd:ts.Nodup
section
variable {P:Program}{w:World}{A:Around}{E:Value->Shared->Prop}{s:Shared}{B z TI TO i1 i2 S l1 l2:Addr}{xs ys:Array Value}{h0:Heap}
structure ZApart (B z TI TO i1 i2 S l1 l2:Addr):Prop where
 D:ZipApart z TI TO i1 i2 l1 l2
 Sz:S≠z
 STI:S≠TI
 STO:S≠TO
 Si1:S≠i1
 Si2:S≠i2
 bz:B<=z
 bTO:B<=TO
 b1:B<=i1
 b2:B<=i2
 bS:B<=S
 l1B:l1<B
 l2B:l2<B
def ZApart.ap (q:ZApart B z TI TO i1 i2 S l1 l2):Apart z TI i1 i2 l1 l2:=⟨q.D.TIz,q.D.i1z,q.D.i2z,q.D.TIi1,q.D.TIi2,q.D.i12,q.D.l1z,q.D.l1i1,q.D.l1i2,q.D.l2z,q.D.l2i1,q.D.l2i2⟩
def ZL.more (q:ZApart B z TI TO i1 i2 S l1 l2){i:Nat}{ts:List Addr}{h h1:Heap}{T:Addr}{f:Bool}{x y:Value}(L:ZL B z TI TO i1 i2 S l1 l2 xs ys i ts h0 h)(hx:xs[i]? = some x)(hy:ys[i]? = some y)
 (bz:vG h1 z TI TO T f) (hT:T=h.objs.size\/T∈ts) (j1:h1.IsListIter i1 l1 (i+1)) (j2:h1.IsListIter i2 l2 (i+1)) (hp:IsPair h1 h.objs.size x y)
 (k:∀b o,b≠z->b≠TO->b≠i1->b≠i2->h.get? b=some o->h1.get? b=some o) (bTOlt:TO<h.objs.size) (bTIlt:TI<h.objs.size) :
 ZL B z TI TO i1 i2 S l1 l2 xs ys (i+1) (ts++[h.objs.size]) h0 (h1.update S (Obj.mapSeq (·.push (.ref h.objs.size)))):=by
 have ltz:z<h.objs.size:=by rcases L.zs with ⟨_,q,_⟩ | ⟨_,_,q,_⟩ <;> exact Heap.lt_size q
 have lt1:i1<h.objs.size:=by obtain⟨_,q,_⟩:=L.a1;exact Heap.lt_size q
 have lt2:i2<h.objs.size:=by obtain⟨_,q,_⟩:=L.a2;exact Heap.lt_size q
 obtain⟨c,aS⟩:=L.at_;have ltS:S<h.objs.size:=Heap.lt_size aS;have gS:h1.get? S=_:=k S _ q.Sz q.STO q.Si1 q.Si2 aS;have up:∀{b:Addr} {o:Obj},b≠S->h1.get? b=some o->(h1.update S (Obj.mapSeq (·.push (.ref h.objs.size)))).get? b=some o:=fun {b o} hb e=>(Heap.get?_update_other _ _ (Ne.symm hb)).trans e;refine⟨.inr ⟨T,f,up q.Sz.symm bz,?_⟩,up q.STI.symm (k _ _ q.D.TIz q.D.TITO q.D.TIi1 q.D.TIi2 L.ti),j1.at fun o e=>up q.Si1.symm e,j2.at fun o e=>up q.Si2.symm e,fun b o hb e=>?_,?_,by simp[L.tl],fun j t hj=>?_,?_⟩
 ·rcases hT with rfl | hT
  ·simp
  ·simp[hT]
 ·exact up (Nat.ne_of_lt (Nat.lt_of_lt_of_le hb q.bS)) (k b o (Nat.ne_of_lt (Nat.lt_of_lt_of_le hb q.bz)) (Nat.ne_of_lt (Nat.lt_of_lt_of_le hb q.bTO)) (Nat.ne_of_lt (Nat.lt_of_lt_of_le hb q.b1)) (Nat.ne_of_lt (Nat.lt_of_lt_of_le hb q.b2)) (L.old b o hb e))
 ·have g:=Heap.get?_update_self (Obj.mapSeq (·.push (.ref h.objs.size))) gS rfl;simp only[Obj.mapSeq,List.push_toArray] at g;rw[List.map_append];exact⟨_,g⟩
 ·by_cases hji:j<ts.length
  ·rw[List.getElem?_append_left hji] at hj;obtain⟨⟨b1,b2,b3,b4,b5,b6,b7⟩,u,v,e1,e2,e3⟩:=L.tp j t hj;exact⟨⟨b1,b2,b3,b4,b5,b6,b7⟩,u,v,e1,e2,up b7 (k t _ b2 b4 b5 b6 e3)⟩
  ·have hj':=(List.getElem?_eq_some_iff.mp hj).1;simp only[List.length_append,List.length_cons,List.length_nil] at hj';have ej:j=ts.length:=by omega
   subst ej;simp only[List.getElem?_concat_length,Option.some.injEq] at hj;subst hj;refine⟨⟨Nat.le_trans q.bS (Nat.le_of_lt ltS),Nat.ne_of_gt ltz,Nat.ne_of_gt bTIlt,Nat.ne_of_gt bTOlt,Nat.ne_of_gt lt1,Nat.ne_of_gt lt2,Nat.ne_of_gt ltS⟩,x,y,by rw[L.tl];exact hx,by rw[L.tl];exact hy,up (Nat.ne_of_gt ltS) hp⟩
 ·rw[List.nodup_append];refine⟨L.nd,by simp,fun a ha b hb e=>?_⟩;simp only[List.mem_singleton] at hb;subst hb;subst e;obtain⟨j,hj⟩:=List.mem_iff_getElem?.mp ha;obtain⟨_,u,v,_,_,e3⟩:=L.tp j _ hj;exact Nat.lt_irrefl _ (Heap.lt_size e3)
def Aw {β:Type}{m:Sem β}{k:β->Sem PySem.Fin}{vs:List Value}{R:Result->Shared->Prop}(h:wpAny (model P w) A.in1 m (fun b s'=>wpAny (model P w) A.in1 (k b) (fun fin s'=>match fin with | .done f=>R (.ok f) s' | .again c'=>c'.quiet=true/\codeAny (model P w) A c' R s') (fun e s'=>R (.error e) s') s') (fun e s'=>R (.error e) s') s)
 (e:Builtin.«list.extend.loop» ⟨vs,[]⟩=m >>= k):codeAny (model P w) A (.builtin "list.extend.loop" ⟨vs,[]⟩) R s :=
 codeAny_builtin PySem.F.entry_extend_loop (by rw[Around.under_plainId PySem.F.plain_extend_loop _,e];exact wpAny_bind h)
def JL (hh:A.handled=none)(q:ZApart B z TI TO i1 i2 S l1 l2)(o1:h0.IsList l1 xs)(o2:h0.IsList l2 ys)(hn:min xs.size ys.size<=sizeLine){res:Value}{R:Result->Shared->Prop} :
 ∀(m i:Nat) (s:Shared) (ts:List Addr),min xs.size ys.size-i=m->i<=min xs.size ys.size->ZL B z TI TO i1 i2 S l1 l2 xs ys i ts h0 s.heap->(TO<s.heap.objs.size) ->
  (∀(h':Heap) (ts':List Addr),(∀b o,b<B->h0.get? b=some o->h'.get? b=some o)->(∃c,h'.get? S=some { cls:=.type "list",dict:=none,data:=.seq (ts'.map Value.ref).toArray c,slots:=#[] })->ts'.length=min xs.size ys.size->ts'.Nodup ->
   (∀(j:Nat) (t:Addr),ts'[j]? = some t->B<=t/\t≠S/\∃x y,xs[j]? = some x/\ys[j]? = some y/\IsPair h' t x y)->R (.ok (.ret res)) { s with heap:=h' }) ->
  codeAny (model P w) A (.builtin "list.extend.loop" ⟨[.ref S,.ref z,res],[]⟩) R s:=by
 intro m;induction m with
 | zero =>
   intro i s ts hm hi L lTO k;have e:i=min xs.size ys.size:=by omega
   refine Aw (m:=pyNext (.ref z)) ?_ rfl;have p1:s.heap.IsList l1 xs:=let ⟨o,g,r⟩:=o1;⟨o,L.old _ _ q.l1B g,r⟩
   have p2:s.heap.IsList l2 ys:=let ⟨o,g,r⟩:=o2;⟨o,L.old _ _ q.l2B g,r⟩
   have hend:xs[i]? = none\/ys[i]? = none:=by
    simp only[Array.getElem?_eq_none_iff];omega
   have fin:∀h',(∀b o,b≠z->b≠TO->b≠i1->b≠i2->s.heap.get? b=some o->h'.get? b=some o)->R (.ok (.ret res)) { s with heap:=h' }:=fun h' kk=>by
    obtain⟨c,aS⟩:=L.at_;refine k h' ts (fun b o hb e=>kk b o (Nat.ne_of_lt (Nat.lt_of_lt_of_le hb q.bz)) (Nat.ne_of_lt (Nat.lt_of_lt_of_le hb q.bTO)) (Nat.ne_of_lt (Nat.lt_of_lt_of_le hb q.b1)) (Nat.ne_of_lt (Nat.lt_of_lt_of_le hb q.b2)) (L.old b o hb e)) ⟨c,kk S _ q.Sz q.STO q.Si1 q.Si2 aS⟩ (by rw[L.tl,e]) L.nd fun j t hj=>?_;obtain⟨⟨b1,b2,b3,b4,b5,b6,b7⟩,u,v,e1,e2,e3⟩:=L.tp j t hj;exact⟨b1,b7,u,v,e1,e2,kk t _ b2 b4 b5 b6 e3⟩
   rcases L.zs with ⟨_,hz,a,b,hTO⟩ | ⟨T,f,hz,hTm⟩
   ·exact wpAny_pyNext_zip_end (A:=A.in1) hh q.D hz L.ti hTO L.a1 L.a2 p1 p2 hend fun h' kk=>wpAny_pure (fin h' fun b o c1 c2 c3 c4 e=>kk b o c1 c2 c3 c4 e)
   ·obtain⟨j,hj⟩:=List.mem_iff_getElem?.mp hTm;obtain⟨_,u,v,_,_,e3⟩:=L.tp j T hj;exact zM (A:=A.in1) hh q.ap hz ⟨_,e3⟩ L.ti L.a1 p1 L.a2 p2 (fun x y h' e1 e2=>absurd hend (by rw[e1,e2];simp)) fun h' _ kk=>wpAny_pure (fin h' fun b o c1 c2 c3 c4 e=>kk b o c1 c3 c4 e)
 | succ m ih =>
   intro i s ts hm hi L lTO k;have hlt:i<min xs.size ys.size:=by omega
   refine Aw (m:=pyNext (.ref z)) ?_ rfl;have p1:s.heap.IsList l1 xs:=let ⟨o,g,r⟩:=o1;⟨o,L.old _ _ q.l1B g,r⟩
   have p2:s.heap.IsList l2 ys:=let ⟨o,g,r⟩:=o2;⟨o,L.old _ _ q.l2B g,r⟩
   obtain⟨x,hx⟩:∃x,xs[i]? = some x:=⟨_,Array.getElem?_eq_getElem (by omega)⟩;obtain⟨y,hy⟩:∃y,ys[i]? = some y:=⟨_,Array.getElem?_eq_getElem (by omega)⟩;have lTI:TI<s.heap.objs.size:=Heap.lt_size L.ti;have go:∀h1 T f,vG h1 z TI TO T f->(T=s.heap.objs.size\/T∈ts)->h1.IsListIter i1 l1 (i+1)->h1.IsListIter i2 l2 (i+1)->IsPair h1 s.heap.objs.size x y->(∀b o,b≠z->b≠TO->b≠i1->b≠i2->s.heap.get? b=some o->h1.get? b=some o) ->
    wpAny (model P w) A.in1 (updateSeq S (·.push (.ref s.heap.objs.size)) >>= fun _=>again (.builtin "list.extend.loop" ⟨[.ref S,.ref z,res],[]⟩)) (fun fin s'=>match fin with | .done f=>R (.ok f) s' | .again c'=>c'.quiet=true/\codeAny (model P w) A c' R s') (fun e s'=>R (.error e) s') { s with heap:=h1 }:=fun h1 T f bz hT j1 j2 hp kk=>by
    obtain⟨c,aS⟩:=L.at_;have gS:=kk S _ q.Sz q.STO q.Si1 q.Si2 aS;have L1:=L.more q hx hy bz hT j1 j2 hp kk lTO lTI;refine wpAny_bind (wpAny_updateSeq (s:={ s with heap:=h1 }) gS rfl (wpAny_pure ⟨plainId_quiet PySem.F.plain_extend_loop _,ih (i+1) _ _ (by omega) hlt L1 ?_ k⟩) (by simp[L.tl];omega) (by simp[L.tl];omega));rw[Heap.size_update];exact Nat.lt_of_lt_of_le lTO (Nat.le_of_lt (Heap.lt_size hp))
   rcases L.zs with ⟨_,hz,a,b,hTO⟩ | ⟨T,f,hz,hTm⟩
   ·exact wpAny_pyNext_zip_item q.D hz L.ti hTO L.a1 L.a2 p1 p2 hx hy fun h' b1 b2 b3 b4 b5 b6 b7=>go h' s.heap.objs.size false b1 (.inl rfl) b3 b4 b5 b7
   ·obtain⟨j,hj⟩:=List.mem_iff_getElem?.mp hTm;obtain⟨_,u,v,_,_,e3⟩:=L.tp j T hj;refine zM (A:=A.in1) hh q.ap hz ⟨_,e3⟩ L.ti L.a1 p1 L.a2 p2 (fun x' y' h' e1 e2 b1 b2 b3 b4 b5=>?_) fun h' hn _=>absurd hn (by rw[hx,hy];simp);cases hx.symm.trans e1;cases hy.symm.trans e2;exact go h' T true b1 (.inr hTm) b2 b3 b4 fun b o c1 c2 c3 c4 e=>b5 b o c1 c3 c4 e
end
end DL
namespace DL
open PySem PySem.Spec PyProof.Rows L2
section
variable {P:Program}{w:World}{A:Around}{E:Value->Shared->Prop}{s:Shared}
def Hy {r:Addr}{Q:Bool->Shared->Prop}(hT:s.TypeIs (.ref r) "zip")(k:∀b,Q b s):wpAny (model P w) A (Builtin.List.listLengthHint (.ref r)) Q E s:=by
 unfold Builtin.List.listLengthHint;refine wpAny_bind (wpAny_specialOf hT (r:=none) (by rw[typeLookup_type,builtinLookup_eq_fast];kernel_rfl) ?_);dsimp only;rw[if_neg (by decide)];rw[if_neg (by decide)];refine wpAny_bind (wpAny_specialOf hT (r:=none) (by rw[typeLookup_type,builtinLookup_eq_fast];kernel_rfl) ?_);exact wpAny_pure (k true)
def sy {B z TI TO i1 i2 l1 l2:Addr}{xs ys:Array Value}{Q:Value->Shared->Prop}(hh:A.handled=none)(D:ZipApart z TI TO i1 i2 l1 l2)(hz:IsZip s.heap z TI TO .none)(hTI:IsPair s.heap TI (.ref i1) (.ref i2))(hTO:∃a b,IsPair s.heap TO a b)
 (h1:s.heap.IsListIter i1 l1 0) (h2:s.heap.IsListIter i2 l2 0) (hl1:s.heap.IsList l1 xs) (hl2:s.heap.IsList l2 ys) (bz:B<=z) (bTO:B<=TO) (b1:B<=i1) (b2:B<=i2) (l1B:l1<B) (l2B:l2<B) (hn:min xs.size ys.size<=sizeLine)
 (k:∀(h':Heap) (ts:List Addr),(∀b o,b<B->s.heap.get? b=some o->h'.get? b=some o)->(∃c,h'.get? s.heap.objs.size=some { cls:=.type "list",dict:=none,data:=.seq (ts.map Value.ref).toArray c,slots:=#[] })->ts.length=min xs.size ys.size->ts.Nodup ->
  (∀(j:Nat) (t:Addr),ts[j]? = some t->B<=t/\t≠s.heap.objs.size/\∃x y,xs[j]? = some x/\ys[j]? = some y/\IsPair h' t x y)->Q (.ref s.heap.objs.size) { s with heap:=h' }) :
 wpAny (model P w) A (call (.type "list") [.ref z]) Q E s:=by
 have ltz:z<s.heap.objs.size:=Heap.lt_size hz;have ltI:TI<s.heap.objs.size:=Heap.lt_size hTI;have ltO:TO<s.heap.objs.size:=by obtain⟨_,_,q⟩:=hTO;exact Heap.lt_size q
 have lt1:i1<s.heap.objs.size:=by obtain⟨_,q,_⟩:=h1;exact Heap.lt_size q
 have lt2:i2<s.heap.objs.size:=by obtain⟨_,q,_⟩:=h2;exact Heap.lt_size q
 have q:ZApart B z TI TO i1 i2 s.heap.objs.size l1 l2:=⟨D,Nat.ne_of_gt ltz,Nat.ne_of_gt ltI,Nat.ne_of_gt ltO,Nat.ne_of_gt lt1,Nat.ne_of_gt lt2,bz,bTO,b1,b2,Nat.le_trans bz (Nat.le_of_lt ltz),l1B,l2B⟩;refine callType_codes (Q₁:=fun v s1=>v=.ref s.heap.objs.size/\s1={ s with heap:=s.heap.push { cls:=.type "list",data:=.seq #[] } }) PySem.F.called_list (PySem.F.typeCall_list_1 _) PySem.F.entry_list_init (code_list_new _ ⟨rfl,rfl⟩) fun v s1 z1=>?_;obtain⟨rfl,rfl⟩:=z1;have g0:(s.heap.push { cls:=.type "list",data:=.seq #[] }).get? s.heap.objs.size=some { cls:=.type "list",data:=.seq #[] }:=Heap.get?_push_size _ rfl;refine⟨⟨_,g0,rfl⟩,PySem.F.args_list_init_2 _ _,?_⟩;show wpAny _ _ (Builtin.List.listItems (.ref s.heap.objs.size) >>= fun old=>Builtin.List.listUpdate (.ref s.heap.objs.size) (fun _=>#[]) >>= fun _=>letGo old.toList.reverse >>= fun _=>Builtin.List.listExtendWith (.ref s.heap.objs.size) (.ref z) .none) _ _ _;refine wpAny_bind (wpAny_bind (wpAny_seqItems g0 rfl (wpAny_pure ?_)));refine wpAny_bind (show wpAny _ _ (updateSeq s.heap.objs.size fun _=>#[]) _ _ _ from wpAny_updateSeq g0 rfl (wpAny_bind (wpAny_letGo ?_)));have g1:=Heap.get?_update_self (Obj.mapSeq fun _=>(#[]:Array Value)) g0 rfl;generalize hG:(s.heap.push { cls:=.type "list",data:=.seq #[] }).update s.heap.objs.size (Obj.mapSeq fun _=>(#[]:Array Value))=G at g1 ⊢;have kG:∀b o,b≠s.heap.objs.size->s.heap.get? b=some o->G.get? b=some o:=fun b o hb e=>by rw[<-hG];exact(Heap.get?_update_other _ _ (Ne.symm hb)).trans (Heap.get?_push_of_some _ e)
 have kG':∀b o,s.heap.get? b=some o->G.get? b=some o:=fun b o e=>kG b o (Nat.ne_of_lt (Heap.lt_size e)) e;unfold Builtin.List.listExtendWith;have hTy:Shared.TypeIs { s with heap:=G } (.ref z) "zip":=⟨_,kG' _ _ hz,rfl⟩;refine wpAny_bind (wpAny_typeOf (T:="zip") hTy ?_);have e1:Builtin.List.listSameRef (.ref s.heap.objs.size) (.ref z)=false:=by simp[Builtin.List.listSameRef,Nat.ne_of_gt ltz]
 have e2:(Value.type "zip"==Value.type "list")=false:=by decide
 have e3:(Value.type "zip"==Value.type "tuple")=false:=by decide
 simp only[e1,e2,e3,Bool.or_false,Bool.false_eq_true,if_false];refine wpAny_bind (wpAny_pyIter_zip (s:={ s with heap:=G }) (kG' _ _ hz) ?_);refine wpAny_bind (wpAny_holding (Hy hTy fun b=>?_));have run:∀(h:Heap) (c1:Nat),(∀b o,b≠s.heap.objs.size->G.get? b=some o->h.get? b=some o)->h.get? s.heap.objs.size=some { cls:=.type "list",data:=.seq #[] c1 }->codeAny (model P w) A.in1 (.builtin "list.extend.loop" ⟨[.ref s.heap.objs.size,.ref z,.none],[]⟩) (wants (fun r s2=>r=.none/\Q (.ref s.heap.objs.size) s2) E) { s with heap:=h }:=fun h c1 hk gh=>by
  have kk:∀b o,s.heap.get? b=some o->h.get? b=some o:=fun b o e=>hk b o (Nat.ne_of_lt (Heap.lt_size e)) (kG' b o e);refine JL (A:=A.in1) (h0:=s.heap) hh q hl1 hl2 hn _ 0 { s with heap:=h } [] rfl (Nat.zero_le _) ⟨.inl ⟨rfl,kk _ _ hz,let ⟨a,b,e⟩:=hTO;⟨a,b,kk _ _ e⟩⟩,kk _ _ hTI,h1.at fun o e=>kk _ o e,h2.at fun o e=>kk _ o e,fun b o _ e=>kk b o e,⟨c1,gh⟩,rfl,fun j t hj=>by simp at hj,List.nodup_nil⟩ ?_ fun h' ts k1 k2 k3 k4 k5=>⟨rfl,k h' ts k1 k2 k3 k4 k5⟩;obtain⟨a,b,e⟩:=hTO;exact Heap.lt_size (kk _ _ e)
 refine wpAny_ite_split (fun _=>?_) fun _=>wpAny_pure ⟨plainId_quiet PySem.F.plain_extend_loop _,run G _ (fun _ _ _ e=>e) g1⟩;refine wpAny_bind (wpAny_rule (wpAny_bind ?_));show wpAny _ _ (updateSeq s.heap.objs.size (·.push .none) >>= fun _=>updateSeq s.heap.objs.size (·.pop)) _ _ _;have g2:=Heap.get?_update_self (Obj.mapSeq (·.push Value.none)) g1 rfl;have g3:=Heap.get?_update_self (Obj.mapSeq (·.pop)) g2 rfl;refine wpAny_bind (wpAny_updateSeq (s:={ s with heap:=G }) g1 rfl (wpAny_updateSeq (hz:=by seq_fits) g2 rfl ?_));exact wpAny_pure ⟨plainId_quiet PySem.F.plain_extend_loop _,run _ _ (fun b o hb e=>(Heap.get?_update_other _ _ (Ne.symm hb)).trans ((Heap.get?_update_other _ _ (Ne.symm hb)).trans e)) g3⟩
end
section
variable {X:Cx}{pins:List (Addr×Obj)}{σ:L2.St}{H H':Hp}{s:Shared}{h':Heap}
def Inv.lays {t':Nat}(I:L2.Inv X pins σ H s)(k:∀b u,s.heap.get? b=some u->h'.get? b=some u)(hold:∀a o,H a=some o->H' a=some o)
 (hnew:∀a o,H' a=some o->H a=some o\/s.heap.objs.size<=a/\ObjOk X.prog X.w H' h' a o):L2.Inv X pins σ H' { s with heap:=h',toks:=t' }:=by
 refine I.un (t':=t') ⟨fun b o q _ _ _=>k b o q,fun b o q _ _ _=>⟨o.slots,k b o q⟩,fun b o q n _=>?_,fun b o q _=>⟨o,k b o q⟩,fun b xs q=>hold _ _ q,fun b o u q=>hold _ _ q,fun b ps q=>⟨#[],by rw[hold _ _ q];simp⟩⟩ fun a o e=>?_
 ·cases e:H' b with
  | none=>rfl
  | some u =>
    rcases hnew b u e with z | z
    ·rw[n] at z;cases z
    ·exact absurd (Nat.lt_of_lt_of_le (Heap.lt_size q) z.1) (Nat.lt_irrefl _)
 ·rcases hnew a o e with z | z
  ·exact(I.hok a o z).stay (fun b u _ q=>k b u q) (fun b q=>hold _ _ q) fun b xs q=>hold _ _ q
  ·exact z.2
end
noncomputable def zh (ts:List Addr)(ps:List (List V))(H:Hp):Hp:=fun b=>match (ts.zip ps).lookup b with
 | some xs=>some (.tup xs)
 | none=>H b
def uZ {β:Type}:∀{ts:List Addr} {ps:List β} {b:Addr} {p:β},(ts.zip ps).lookup b=some p->∃j:Nat,ts[j]? = some b/\ps[j]? = some p
 | [],_,_,_,h=>by simp at h
 | _::_,[],_,_,h=>by simp at h
 | t::ts,q::ps,b,p,h=>by
   rw[List.zip_cons_cons,List.lookup_cons] at h;split at h
   ·rename_i e;cases h;exact⟨0,by simp[eq_of_beq e],rfl⟩
   ·obtain⟨j,e1,e2⟩:=uZ h;exact⟨j+1,by simpa using e1,by simpa using e2⟩
def My {β:Type}:∀{ts:List Addr} {ps:List β} {b:Addr} {p:β} {j:Nat},ts.Nodup->ts[j]? = some b->ps[j]? = some p->(ts.zip ps).lookup b=some p
 | [],_,_,_,_,_,h,_=>by simp at h
 | _::_,[],_,_,_,_,_,h=>by simp at h
 | t::ts,q::ps,b,p,0,hn,h1,h2=>by
   simp only[List.getElem?_cons_zero,Option.some.injEq] at h1 h2;subst h1 h2;rw[List.zip_cons_cons,List.lookup_cons];simp
 | t::ts,q::ps,b,p,j+1,hn,h1,h2=>by
   rw[List.nodup_cons] at hn;have hb:b≠t:=fun z=>hn.1 (z ▸ List.mem_of_getElem? (by simpa using h1));rw[List.zip_cons_cons,List.lookup_cons];have e:(b==t)=false:=by simpa using hb
   rw[e];exact My hn.2 (by simpa using h1) (by simpa using h2)
section
variable {X:Cx}{a b:Expr}{ma mb:ME}{pos p p2 p3:Pos}
noncomputable def Tq (K:PySem.W.Frag)(ta:TA):TE:=fun σ H Q=>ta σ H fun vs H1=>∃l1 l2 xs ys,vs=[.ref l1,.ref l2]/\SqL K H1 l1 xs/\SqL K H1 l2 ys/\min xs.length ys.length<=sizeLine /\
 ∀(H2:Hp) (S:Addr) (ts:List Addr),Same H1 H2->H1 S=none->H2 S=some (.lst (ts.map V.ref))->ts.length=min xs.length ys.length ->
  (∀(j:Nat) (t:Addr),ts[j]? = some t->H1 t=none/\∃x y,xs[j]? = some x/\ys[j]? = some y/\H2 t=some (.tup [x,y]))->Q (.ref S) H2
def zN {xs:List V}{us:List Value}{i:Nat}{u:Value}(r:Vals xs us)(h:us[i]? = some u):∃x,xs[i]? = some x/\RelV x u:=by
 have hi:=(List.getElem?_eq_some_iff.mp h).1;have hx:i<xs.length:=by rw[r.length];exact hi
 obtain⟨u',e1,e2⟩:=r.get (List.getElem?_eq_getElem hx);rw[h] at e1;cases e1;exact⟨_,List.getElem?_eq_getElem hx,e2⟩
def yM {ta:TA}(hc:X.calm=true)(hg1:Gl X "list")(hm1:X.mg "list"=none)(hg2:Gl X "zip")(hm2:X.mg "zip"=none)(ha:PA X [a,b] ta)(h1:starEach [a,b] X.env=(false,eval a X.env)::starEach [b] X.env:=by rfl)(hpl:(backTo p3 (starEach [b] X.env)).any (·.1)=false:=by rfl)
 (s1:starEach [Expr.Call (.Name "zip" p2) [a,b] [] p3] X.env=(false,eval (Expr.Call (.Name "zip" p2) [a,b] [] p3) X.env)::starEach [] X.env:=by rfl) (hp0:(backTo pos (starEach [] X.env)).any (·.1)=false:=by rfl) :
 PE X (.Call (.Name "list" p) [.Call (.Name "zip" p2) [a,b] [] p3] [] pos) (Tq X.K ta):=by
 intro pins s σ H Q I h;refine Call_ (jF I hg1 hm1 (by rfl) (PyProof.Rows.callWith_type1 ?_ s1 hp0));rw[s1];show wpAny _ _ (spliced ((false,eval (Expr.Call (.Name "zip" p2) [a,b] [] p3) X.env)::backTo pos (starEach [] X.env))) _ _ s;refine Calls.spliced_cons ?_;refine Call_ (jF I hg2 hm2 (by rfl) (PyProof.Rows.callWith_type1 (bw (ha p3 pins s σ H _ I h) fun us s1 ⟨vs,H1,I1,r1,q1⟩=>?_) h1 hpl));obtain⟨l1,l2,xs,ys,e,hq1,hq2,hn,q⟩:=q1;subst e;obtain⟨u,v,rfl,ru,rv⟩:=vals2 r1;cases ru;cases rv;obtain⟨its1,rv1,p1,_⟩:=I1.list hq1;obtain⟨its2,rv2,p2',_⟩:=I1.list hq2;have a1:l1<s1.heap.objs.size:=by obtain⟨_,q,_⟩:=p1.isList;exact Heap.lt_size q
 have a2:l2<s1.heap.objs.size:=by obtain⟨_,q,_⟩:=p2'.isList;exact Heap.lt_size q
 refine call_zip_2 p1.isList p2'.isList fun h2 hz hTI hTO hi1 hi2 hsz hk=>?_;refine Calls.spliced_nil ?_;have m1:h2.IsList l1 its1.toArray:=let ⟨o,g,r⟩:=p1.isList;⟨o,hk _ _ g,r⟩
 have m2:h2.IsList l2 its2.toArray:=let ⟨o,g,r⟩:=p2'.isList;⟨o,hk _ _ g,r⟩
 have hlen:min its1.toArray.size its2.toArray.size=min xs.length ys.length:=by rw[List.size_toArray,List.size_toArray,rv1.length,rv2.length]
 refine sy (s:={ s1 with heap:=h2 }) (B:=s1.heap.objs.size) (I1.ok.hd hc) (zipApart_new a1 a2) hz hTI ⟨_,_,hTO⟩ hi1 hi2 m1 m2 (Nat.le_add_right _ _) (Nat.le_add_right _ _) (Nat.le_refl _) (Nat.le_add_right _ _) a1 a2 (by rw[hlen];exact hn) fun h3 ts k1 k2 k3 k4 k5=>?_;have hS:s1.heap.objs.size<=h2.objs.size:=by rw[hsz];exact Nat.le_add_right _ _
 have kk:∀c o,s1.heap.get? c=some o->h3.get? c=some o:=fun c o e=>k1 c o (Heap.lt_size e) (hk c o e);have pz:∀(j:Nat) (t:Addr),ts[j]? = some t->∃x y ux uy,xs[j]? = some x/\ys[j]? = some y/\RelV x ux/\RelV y uy/\IsPair h3 t ux uy:=fun j t hj=>by
  obtain⟨_,_,ux,uy,e1,e2,e3⟩:=k5 j t hj;obtain⟨x,f1,f2⟩:=zN rv1 (i:=j) (u:=ux) (by simpa using e1);obtain⟨y,f3,f4⟩:=zN rv2 (i:=j) (u:=uy) (by simpa using e2);exact⟨x,y,ux,uy,f1,f3,f2,f4,e3⟩
 let ps:List (List V):=(xs.zip ys).map fun q=>[q.1,q.2]
 have hps:∀(j:Nat) x y,xs[j]? = some x->ys[j]? = some y->ps[j]? = some [x,y]:=fun j x y e1 e2=>by
  simp only[ps,List.getElem?_map];have z:(xs.zip ys)[j]? = some (x,y):=List.getElem?_zip_eq_some.mpr ⟨e1,e2⟩;rw[z];rfl
 let H2:Hp:=upd (zh ts ps H1) h2.objs.size (.lst (ts.map V.ref))
 have zt:∀(j:Nat) (t:Addr) x y,ts[j]? = some t->xs[j]? = some x->ys[j]? = some y->zh ts ps H1 t=some (.tup [x,y]):=fun j t x y e1 e2 e3=>by
  unfold zh;rw[My k4 e1 (hps j x y e2 e3)]
 have zo:∀c o,zh ts ps H1 c=some o->H1 c=some o\/∃(j:Nat) (x y:V),ts[j]? = some c/\xs[j]? = some x/\ys[j]? = some y/\o=.tup [x,y]:=fun c o e=>by
  unfold zh at e;split at e
  ·rename_i vs el;cases e;obtain⟨j,e1,e2⟩:=uZ el;obtain⟨x,y,_,_,f1,f2,_⟩:=pz j c e1;rw[hps j x y f1 f2] at e2;cases e2;exact .inr ⟨j,x,y,e1,f1,f2,rfl⟩
  ·exact .inl e
 have fr:∀(j:Nat) (t:Addr),ts[j]? = some t->H1 t=none:=fun j t hj=>I1.hok.fresh (k5 j t hj).1;have hold:∀c o,H1 c=some o->H2 c=some o:=fun c o e=>by
  have hc:c≠h2.objs.size:=aO e (I1.hok.fresh hS);show upd _ _ _ c=_;rw[au hc];unfold zh;split
  ·rename_i vs el;obtain⟨j,e1,_⟩:=uZ el;rw[fr j c e1] at e;cases e
  ·exact e
 have H2S:H2 h2.objs.size=some (.lst (ts.map V.ref)):=az;have H2t:∀(j:Nat) (t:Addr) x y,ts[j]? = some t->xs[j]? = some x->ys[j]? = some y->H2 t=some (.tup [x,y]):=fun j t x y e1 e2 e3=>by
  show upd _ _ _ t=_;rw[au (k5 j t e1).2.1];exact zt j t x y e1 e2 e3
 have J:L2.Inv X pins σ H2 { s1 with heap:=h3,toks:=s1.toks }:=by
  refine Inv.lays (s:=s1) (t':=s1.toks) I1 kk hold fun c o e=>?_;by_cases hcS:c=h2.objs.size
  ·subst hcS;rw[H2S] at e;cases e;obtain⟨cc,gS⟩:=k2;refine .inr ⟨hS,by rw[List.length_map,k3,hlen];exact hn,ts.map Value.ref,cc,?_,gS⟩;clear pz hps zt zo fr H2t k3 k4 k5 gS hold H2S;induction ts with
   | nil=>exact .nil
   | cons t ts ih=>exact .cons rfl ih
  ·have e':zh ts ps H1 c=some o:=by
    have:upd (zh ts ps H1) h2.objs.size (.lst (ts.map V.ref)) c=some o:=e;rw[au hcS] at this;exact this
   rcases zo c o e' with z | ⟨j,x,y,e1,e2,e3,rfl⟩
   ·exact .inl z
   ·obtain⟨x',y',ux,uy,f1,f2,f3,f4,f5⟩:=pz j c e1;rw[e2] at f1;rw[e3] at f2;cases f1;cases f2;exact .inr ⟨(k5 j c e1).1,by show 2<=sizeLine;rw[bB];decide,[ux,uy],.cons f3 (.cons f4 .nil),_,f5,rfl,_,rfl⟩
 refine⟨.ref h2.objs.size,H2,J,rfl,q H2 h2.objs.size ts (fun c o e=>hold c o e) (I1.hok.fresh hS) H2S (by rw[k3,hlen]) fun j t hj=>?_⟩;obtain⟨x,y,_,_,f1,f2,_⟩:=pz j t hj;exact⟨fr j t hj,x,y,f1,f2,H2t j t x y hj f1 f2⟩
def zx (hc:X.calm=true)(hg1:Gl X "list")(hm1:X.mg "list"=none)(hg2:Gl X "zip")(hm2:X.mg "zip"=none)(ha:DE X a ma)(hb:DE X b mb)(h1:starEach [a,b] X.env=(false,eval a X.env)::starEach [b] X.env:=by rfl)(h2:starEach [b] X.env=(false,eval b X.env)::starEach [] X.env:=by rfl)(hpl:(backTo p3 (starEach [b] X.env)).any (·.1)=false:=by rfl)
 (s1:starEach [Expr.Call (.Name "zip" p2) [a,b] [] p3] X.env=(false,eval (Expr.Call (.Name "zip" p2) [a,b] [] p3) X.env)::starEach [] X.env:=by rfl) (hp0:(backTo pos (starEach [] X.env)).any (·.1)=false:=by rfl) :
 DE X (.Call (.Name "list" p) [.Call (.Name "zip" p2) [a,b] [] p3] [] pos) (qY ma mb):=by
 obtain⟨ta,pa,qa⟩:=ha;obtain⟨tb,pb,qb⟩:=hb;refine⟨_,yM hc hg1 hm1 hg2 hm2 (aJ pa (aJ pb aY h2) h1) h1 hpl s1 hp0,fun os σ H δ d Q s m k=>?_⟩;obtain⟨zs,m0,m⟩:=aj m;obtain⟨dx,e1,m0⟩:=aj m0;obtain⟨dy,e2,m0⟩:=aj m0;refine qa os σ H δ dx _ s e1 fun v H1 g1 r1=>?_;refine qb os σ H1 δ dy _ (s.mono g1) e2 fun w H2 g2 r2=>?_
 match dx,dy,m0 with
 | .lst ds,.lst es,m0 =>
   cases m0;split at m
   ·rename_i hz;cases m;obtain⟨l1,xs,rfl,q1,d1⟩:=(r1.mono g2.hd _ _).lst_up;obtain⟨l2,ys,rfl,q2,d2⟩:=r2.lst_up;have zl:(fM ds es).length=min xs.length ys.length:=by simp[fM,d1.length,d2.length]
    refine⟨l1,l2,xs,ys,rfl,q1,q2,by rw[<-zl,bB];exact hz,fun H3 S ts g3 hS h3 hl ht=>?_⟩;have L:=(s.live.mono g1).mono g2;refine k _ H3 (g1.trans (g2.trans g3)) (.lst (.of ((aF (L.ne hS)).trans h3)) ?_);have key:∀(zs:List D) (us:List Addr),zs.length=us.length->(∀(j:Nat) (t:Addr) (d:D),us[j]? = some t->zs[j]? = some d->Den X.K (hide os H3) d (.ref t))->Dens X.K (hide os H3) zs (us.map V.ref):=by
     intro zs;induction zs with
     | nil=>intro us hl _;rw[List.length_eq_zero_iff.mp hl.symm];exact .nil
     | cons z zs ih =>
       intro us hl hd;cases us with
       | nil=>simp at hl
       | cons u us=>exact .cons (hd 0 u z rfl rfl) (ih us (by simpa using hl) fun j t d e1 e2=>hd (j+1) t d (by simpa using e1) (by simpa using e2))
    refine key _ _ (by rw[zl,hl]) fun j t d ej ed=>?_;obtain⟨x,y,f1,f2,rfl⟩:=pO ds es j d ed;obtain⟨tn,u,v,w1,w2,w3⟩:=ht j t ej;obtain⟨u',z1,z2⟩:=d1.get f1;obtain⟨v',z3,z4⟩:=d2.get f2;rw[w1] at z1;rw[w2] at z3;cases z1;cases z3;exact .tup ((aF (L.ne tn)).trans w3) (.cons (z2.mono g3.hd _ _) (.cons (z4.mono g3.hd _ _) .nil))
   ·cases m
end
end DL
namespace DL
open PySem PyProof.Rows
def DRaw (h:Heap)(d:Addr)(es:Array DictEntry)(ep:Nat):Prop:=∃o,h.get? d=some o/\o.ExactDict/\o.data=.dict es ep
def DRaw.at' {h h':Heap}{d:Addr}{es:Array DictEntry}{ep:Nat}(x:DRaw h d es ep)(k:∀o,h.get? d=some o->h'.get? d=some o):DRaw h' d es ep:=let ⟨o,e,r⟩:=x;⟨o,k _ e,r⟩
section
variable {P:Program}{w:World}{A:Around}{E:Value->Shared->Prop}{s:Shared}{d:Addr}{es:Array DictEntry}{ep:Nat}
def yX {Q:Value->Shared->Prop}(hd:(d==sysModules)=false)(hm:DRaw s.heap d es ep)(k:Q (.ref s.heap.objs.size) { s with heap:=s.heap.push { cls:=.type "dict_items",data:=.fields #[.ref d] } }) :
 wpAny (model P w) A (Builtin.«dict.items» ⟨[.ref d],[]⟩) (fun fin s'=>∃v,fin=.done (.ret v)/\Q v s') E s:=by
 have hTy:s.TypeIs (.ref d) "dict":=by obtain⟨o,e,x,_⟩:=hm;exact⟨o,e,x.1⟩
 unfold Builtin.«dict.items» Builtin.Dict.noArgs;refine wpAny_bind (wpAny_bind (wpAny_notOrdered_dict hTy (show wpAny _ _ (pure d) _ _ s from wpAny_pure (show wpAny _ _ (Builtin.Dict.showsAll d >>= _) _ _ s from ?_))));unfold Builtin.Dict.showsAll;rw[if_neg (by rw[hd];decide)];exact wpAny_bind (wpAny_pure (wpAny_bind (wpAny_newObj_type (wpAny_pure ⟨_,rfl,k⟩))))
def yW {v:Addr}{Q:Value->Shared->Prop}(hv:s.heap.IsItemsView v d)(hm:DRaw s.heap d es ep)
 (k:Q (.ref s.heap.objs.size) { s with heap:=s.heap.push { cls:=.type "dict_itemiterator",data:=.fields #[.none,.bool false,.ref d,.int 0 0,.int es.size 0,.int ep 0,.none,.none] } }) :
 wpAny (model P w) A (pyIter (.ref v)) Q E s:=by
 have hTy:=hv.typeIs;obtain⟨ov,g1,_,g2⟩:=hv;obtain⟨o,ho,_,hdat⟩:=hm;refine wpAny_pyIter_slot hTy PySem.F.slot_dict_items_iter (wpAny_call_entry PySem.F.slot_dict_items_iter hTy PySem.F.entry_dict_items_iter ?_ (PySem.F.args_dict_items_iter_1 _));unfold Builtin.«dict_items.__iter__» Builtin.Dict_items.dictOf;refine wpAny_bind (wpAny_pure (wpAny_bind (wpAny_bind (wpAny_field g1 g2 (x:=.ref d) rfl (wpAny_pure (wpAny_bind ?_))))));refine wpAny_bind (m:=dictEntries d) (wpAny_dictEntries ho hdat (wpAny_bind (wpAny_dictEpoch ho hdat ?_)));have ow:Builtin.Dict_items.ownsTuple "dict_itemiterator"=true:=by decide
 simp only[ow,if_true];refine wpAny_newObj_type (wpAny_pure ⟨_,rfl,"dict_itemiterator",_,⟨_,Heap.get?_push_size _ rfl,rfl⟩,PySem.F.slot_dict_itemiterator_next.lookup,?_⟩) (by simp only[sizeOk,Builtin.Dict_items.ownedTupleFields,List.size_toArray,List.length_append,List.length_cons,List.length_nil,sizeLine_eq];omega);simpa[rawInt,Builtin.Dict_items.ownedTupleFields] using k
def yN {it:Addr}{n:Nat}{a b ok ov:Value}{h1:Heap}{Q:Value->Shared->Prop}(lit:it<s.heap.objs.size)(s1:Heap.SameBut it s.heap h1)(j1:IsItemIter h1 it d n es.size ep ok ov)
 (k:∀h',IsItemIterOut h' it d n es.size ep a b s.heap.objs.size->IsPair h' s.heap.objs.size a b->(∀c o,c≠it->s.heap.get? c=some o->h'.get? c=some o)->Q (.ref s.heap.objs.size) { s with heap:=h' }) :
 wpAny (model P w) A (Builtin.Dict_items.pairFromOwner (.ref it) 6 a b) Q E { s with heap:=h1 }:=by
 refine wpAny_bind (m:=newTuple [a,b]) (wpAny_newTuple ?_);have z1:h1.objs.size=s.heap.objs.size:=s1.1;have j2:IsItemIter (h1.push { cls:=.type "tuple",data:=.seq #[a,b] }) it d n es.size ep ok ov:=Heap.get?_push_of_some _ j1;have t2:IsPair (h1.push { cls:=.type "tuple",data:=.seq #[a,b] }) s.heap.objs.size a b:=by rw[<-z1];exact Heap.get?_push_size _ rfl
 have k2:∀c o,c≠it->s.heap.get? c=some o->(h1.push { cls:=.type "tuple",data:=.seq #[a,b] }).get? c=some o:=fun c o hc q=>Heap.get?_push_of_some _ (s1.extBut c o hc q);rw[show (h1.push { cls:=.type "tuple",data:=.seq [a,b].toArray })=h1.push { cls:=.type "tuple",data:=.seq #[a,b] } from rfl] at *;generalize h1.push { cls:=.type "tuple",data:=.seq #[a,b] }=h2 at j2 t2 k2 ⊢;dsimp only;rw[z1];refine wpAny_bind (m:=Builtin.Dict_items.ownedTupleIsFree (.ref it)) (wpAny_bind (m:=field (.ref it) 0) (wpAny_field j2 rfl (x:=.none) rfl (wpAny_pure ?_)));simp only[if_true];refine wpAny_bind (wpAny_field j2 rfl (x:=ok) rfl (wpAny_bind (wpAny_field j2 rfl (x:=ov) rfl (wpAny_bind (wpAny_setField_rec j2 (by simp) fun h3 j3 s3=>?_)))));have j3:IsItemIter h3 it d n es.size ep a ov:=j3;refine wpAny_bind (wpAny_setField_rec (s:={ s with heap:=h3 }) j3 (by simp) fun h4 j4 s4=>?_);have j4:IsItemIter h4 it d n es.size ep a b:=j4;refine wpAny_bind (wpAny_setField_rec (s:={ s with heap:=h4 }) j4 (by simp) fun h5 j5 s5=>?_);have j5:IsItemIterOut h5 it d n es.size ep a b s.heap.objs.size:=j5;refine wpAny_bind (wpAny_setField_rec (s:={ s with heap:=h5 }) j5 (by simp) fun h6 j6 s6=>?_);have up:∀c o,c≠it->h2.get? c=some o->h6.get? c=some o:=fun c o hc q=>Heap.SameBut.extBut s6 c o hc (Heap.SameBut.extBut s5 c o hc (Heap.SameBut.extBut s4 c o hc (Heap.SameBut.extBut s3 c o hc q)));exact wpAny_bind (wpAny_letGo (wpAny_pure (k h6 j6 (up _ _ (Nat.ne_of_gt lit) t2) fun c o hc q=>up c o hc (k2 c o hc q))))
def t7 {it:Addr}{i:Nat}{ok ov:Value}{Q:Option Value->Shared->Prop}(hh:A.handled=none)(hit:IsItemIter s.heap it d i es.size ep ok ov)(hm:DRaw s.heap d es ep)
 (go:∀e h',es[i]? = some e->IsItemIterOut h' it d (i+1) es.size ep e.key e.val s.heap.objs.size->IsPair h' s.heap.objs.size e.key e.val->(∀b o,b≠it->s.heap.get? b=some o->h'.get? b=some o)->Q (some (.ref s.heap.objs.size)) { s with heap:=h' })
 (no:∀h',es[i]? = none->Heap.ExtBut it s.heap h'->Q none { s with heap:=h' }):wpAny (model P w) A (pyNext (.ref it)) Q E s:=by
 have ⟨od,hod,_,hdd⟩:=hm;have ty:∀h,(∃o,h.get? it=some o/\o.cls=.type "dict_itemiterator")->Shared.TypeIs { s with heap:=h } (.ref it) "dict_itemiterator":=fun _ q=>q;have t0:=ty s.heap ⟨_,hit,rfl⟩;have lit:it<s.heap.objs.size:=Heap.lt_size hit;have ow:Builtin.Dict_items.ownsTuple "dict_itemiterator"=true:=by decide
 unfold pyNext;refine wpAny_bind (wpAny_attempt (wpAny_callSpecial?_slot (name:=Str.ofString "__next__") t0 PySem.F.slot_dict_itemiterator_next (wpAny_call_entry PySem.F.slot_dict_itemiterator_next t0 PySem.F.entry_dict_itemiterator_next ?_ (PySem.F.args_dict_itemiterator_next_1 _))));refine wpAny_bind (wpAny_pure (wpAny_bind (wpAny_bind (wpAny_bind (wpAny_typeNameOfWhole_itemiter t0 (wpAny_pure (wpAny_bind (wpAny_fieldsOf hit rfl ?_))))))));simp only[ow,if_true];have nn:¬ (Value.ref d==Value.none)=true:=by intro z;cases z
 refine(?_:wpAny _ _ (ite ((Value.ref d==Value.none)=true) _ _) _ _ _);rw[if_neg nn];refine wpAny_bind (wpAny_pure (wpAny_bind (wpAny_dictEntries hod hdd ?_)));rw[if_neg (by simp)];refine wpAny_bind (wpAny_pure (wpAny_bind (wpAny_dictEpoch hod hdd ?_)));rw[if_neg (by simp)];refine wpAny_pure ?_;cases hx:es[i]? with
 | none =>
   simp only[show ¬ ((i:Int)<0) from by omega,if_false,Int.toNat_natCast,hx];refine wpAny_bind (wpAny_bind (wpAny_typeNameOfWhole_itemiter t0 (wpAny_pure (wpAny_bind (m:=setField (.ref it) 2 .none) (wpAny_setField_rec hit (by simp) fun h1 j1 s1=>?_)))));refine iH (s:={ s with heap:=h1 }) hh fun h2 e oe k2 ge ce=>?_;exact wpAny_bind (wpAny_isInstance (T:="StopIteration") (b:=true) ⟨oe,ge,ce⟩ isSubtype_stop (wpAny_pure (no h2 hx fun b o hb q=>k2 _ _ (s1.extBut b o hb q))))
 | some e =>
   simp only[show ¬ ((i:Int)<0) from by omega,if_false,Int.toNat_natCast,hx];refine wpAny_bind (wpAny_bind (wpAny_typeNameOfWhole_itemiter t0 (wpAny_pure (wpAny_bind (wpAny_isOneOf_itemiter t0 (wpAny_bind (m:=setField (.ref it) 3 (rawInt ((i:Int)+1))) (wpAny_setField_rec hit (by simp) fun h1 j1 s1=>?_)))))));have j1:IsItemIter h1 it d (i+1) es.size ep ok ov:=by
    unfold IsItemIter;rw[Int.natCast_succ];simpa[rawInt] using j1
   have t1:=ty h1 ⟨_,j1,rfl⟩;refine wpAny_bind (wpAny_holding (wpAny_bind (wpAny_isOneOf_itemiter t1 (wpAny_bind (wpAny_isOneOf_itemiter t1 ?_)))));exact yN lit s1 j1 fun h6 j6 t6 up=>wpAny_pure ⟨_,rfl,wpAny_pure (go e h6 hx j6 t6 up)⟩
end
end DL
namespace L2
open PySem PySem.Spec PyProof.Rows
section
variable {κ:Type}[DecidableEq κ]
noncomputable def cj (kvs:List (κ×V))(k:κ):Option V:=(kvs.find? fun kv=>decide (kv.1=k)).map (·.2)
noncomputable def putK (kvs:List (κ×V))(k:κ)(v:V):List (κ×V) :=
 if (kvs.any fun kv=>decide (kv.1=k))=true then kvs.map (fun kv=>if kv.1=k then (kv.1,v) else kv) else kvs++[(k,v)]
noncomputable def fj (kvs:List (κ×V))(k:κ):List (κ×V):=kvs.filter fun kv=>decide (kv.1≠k)
def ie {p:κ×V}{r:List (κ×V)}{k:κ}(e:p.1=k):cj (p::r) k=some p.2:=by simp[cj,List.find?_cons,e]
def eY {p:κ×V}{r:List (κ×V)}{k:κ}(e:¬ p.1=k):cj (p::r) k=cj r k:=by simp[cj,List.find?_cons,e]
def pQ (k:κ):∀kvs:List (κ×V),(kvs.any fun kv=>decide (kv.1=k))=(cj kvs k).isSome
 | []=>rfl
 | p::r=>by
   rw[List.any_cons];by_cases e:p.1=k
   ·simp only[ie e,decide_eq_true e,Bool.true_or,Option.isSome_some]
   ·rw[eY e,decide_eq_false e,Bool.false_or];exact pQ k r
def jE (kvs:List (κ×V))(k:κ)(v:V):(putK kvs k v).length<=kvs.length+1:=by
 unfold putK;split
 ·rw[List.length_map];omega
 ·rw[List.length_append,List.length_cons,List.length_nil];omega
def qx {kvs:List (κ×V)}{k:κ}(v:V)(h:cj kvs k=none):putK kvs k v=kvs++[(k,v)]:=by
 unfold putK;rw[pQ,h];exact if_neg (by decide)
def RelO.isSome_eq {o:Option V}{u:Option Value}(r:RelO o u):o.isSome=u.isSome:=by
 cases o with
 | none=>cases u with
   | none=>rfl
   | some _=>exact(show False from r).elim
 | some _=>cases u with
   | none=>exact(show False from r).elim
   | some _=>rfl
def RelO.getD {o:Option V}{u:Option Value}{d:V}{d':Value}(r:RelO o u)(rd:RelV d d'):RelV (o.getD d) (u.getD d'):=by
 cases o with
 | none=>cases u with
   | none=>exact rd
   | some _=>exact(show False from r).elim
 | some _=>cases u with
   | none=>exact(show False from r).elim
   | some _=>exact r
def KV.val {kvs:List (κ×V)}{vs:List (κ×Value)}(r:KV kvs vs)(k:κ):RelO (cj kvs k) (valueAt vs k):=by
 unfold KV at r;induction r with
 | nil=>exact True.intro
 | @cons p q ps qs h t ih =>
   obtain⟨h1,h2⟩:=h;by_cases e:p.1=k
   ·have e':q.1=k:=h1.symm.trans e;have b:valueAt (q::qs) k=some q.2:=by simp[valueAt,List.find?_cons,e']
    rw[ie e,b];exact h2
   ·have e':¬ q.1=k:=fun z=>e (h1.trans z);have b:valueAt (q::qs) k=valueAt qs k:=by simp[valueAt,List.find?_cons,e']
    rw[eY e,b];exact ih
def KV.any {kvs:List (κ×V)}{vs:List (κ×Value)}(r:KV kvs vs)(k:κ):(kvs.any fun kv=>decide (kv.1=k))=vs.any fun kv=>decide (kv.1=k):=by
 unfold KV at r;induction r with
 | nil=>rfl
 | cons h t ih=>rw[List.any_cons,List.any_cons,ih,h.1]
def KV.repl {kvs:List (κ×V)}{vs:List (κ×Value)}(r:KV kvs vs)(k:κ){y:V}{u:Value}(ry:RelV y u) :
 KV (kvs.map fun kv=>if kv.1=k then (kv.1,y) else kv) (vs.map fun kv=>if kv.1=k then (kv.1,u) else kv):=by
 unfold KV at r ⊢
 induction r with
 | nil=>exact .nil
 | @cons p q ps qs h t ih =>
   rw[List.map_cons,List.map_cons];refine .cons ?_ ih;obtain⟨h1,h2⟩:=h;by_cases e:p.1=k
   ·rw[if_pos e,if_pos (h1.symm.trans e)];exact⟨h1,ry⟩
   ·rw[if_neg e,if_neg (fun z=>e (h1.trans z))];exact⟨h1,h2⟩
def KV.put {kvs:List (κ×V)}{vs:List (κ×Value)}(r:KV kvs vs)(k:κ){y:V}{u:Value}(ry:RelV y u):KV (putK kvs k y) (stored vs k u):=by
 unfold putK stored;rw[r.any k];by_cases e:(vs.any fun kv=>decide (kv.1=k))=true
 ·rw[if_pos e,if_pos e];exact r.repl k ry
 ·rw[if_neg e,if_neg e];exact Paired.snoc r ⟨rfl,ry⟩
def KV.drop {kvs:List (κ×V)}{vs:List (κ×Value)}(r:KV kvs vs)(k:κ):KV (fj kvs k) (without vs k):=by
 unfold KV at r ⊢;unfold fj without;induction r with
 | nil=>exact .nil
 | @cons p q ps qs h t ih =>
   obtain⟨h1,h2⟩:=h;rw[List.filter_cons,List.filter_cons];by_cases e:p.1=k
   ·have a:¬ decide (p.1≠k)=true:=by simp[e]
    have b:¬ decide (q.1≠k)=true:=by simp[h1.symm.trans e]
    rw[if_neg a,if_neg b];exact ih
   ·have e':¬ q.1=k:=fun z=>e (h1.trans z);have a:decide (p.1≠k)=true:=by simp[e]
    have b:decide (q.1≠k)=true:=by simp[e']
    rw[if_pos a,if_pos b];exact .cons ⟨h1,h2⟩ ih
def KV.keys {kvs:List (κ×V)}{vs:List (κ×Value)}(r:KV kvs vs):kvs.map (·.1)=vs.map (·.1):=by
 unfold KV at r;induction r with
 | nil=>rfl
 | cons h t ih=>rw[List.map_cons,List.map_cons,ih,h.1]
def KV.length {kvs:List (κ×V)}{vs:List (κ×Value)}(r:KV kvs vs):kvs.length=vs.length:=Paired.length r
def xM (kvs:List (κ×V))(k:κ):(fj kvs k).length<=kvs.length:=List.length_filter_le _ _
end
def mD {P:Program}{w:World}{k:Key}{u:Value}(r:RelV (kV k) u):(aM P w).is k u=true:=by
 cases k with
 | inl i=>obtain⟨t,e⟩:=(show ∃t,u=Value.int i t from r);subst e;exact wX P w i t
 | inr x=>obtain⟨t,e⟩:=(show ∃t,u=Value.str x t from r);subst e;exact wW P w x t
def t8 {P:Program}{w:World}:∀{ks:List Key} {us:List Value},Vals (ks.map kV) us->ItemsAre (aM P w) ks us
 | [],_,r=>by rw[List.map_nil] at r;cases r;exact .nil
 | k::ks,_,r=>by
   rw[List.map_cons] at r;cases r with
   | cons h t=>exact .cons (mD h) (t8 t)
abbrev KT (H:Hp):List (List Key×V)->List (List Key×Addr×Value)->Prop:=Paired fun p q=>p.1=q.1/\H q.2.1=some (.tup (p.1.map kV))/\RelV p.2 q.2.2
def KT.val {H:Hp}{kvs:List (List Key×V)}{xs:List (List Key×Addr×Value)}(r:KT H kvs xs)(k:List Key):RelO (cj kvs k) ((atKey xs k).map (·.2)):=by
 induction r with
 | nil=>exact True.intro
 | @cons p q ps qs h t ih =>
   obtain⟨h1,_,h2⟩:=h;by_cases e:p.1=k
   ·have e':q.1=k:=h1.symm.trans e;have b:atKey (q::qs) k=some q.2:=by simp[atKey,List.find?_cons,e']
    rw[ie e,b];exact h2
   ·have e':¬ q.1=k:=fun z=>e (h1.trans z);have b:atKey (q::qs) k=atKey qs k:=by simp[atKey,List.find?_cons,e']
    rw[eY e,b];exact ih
def KT.repl {H:Hp}{kvs:List (List Key×V)}{xs:List (List Key×Addr×Value)}(r:KT H kvs xs)(k:List Key){y:V}{u:Value}(ry:RelV y u) :
 KT H (kvs.map fun kv=>if kv.1=k then (kv.1,y) else kv) (xs.map (putAt k u)):=by
 induction r with
 | nil=>exact .nil
 | @cons p q ps qs h t ih =>
   rw[List.map_cons,List.map_cons];refine .cons ?_ ih;obtain⟨h1,h2,h3⟩:=h;unfold putAt;by_cases e:p.1=k
   ·rw[if_pos e,if_pos (h1.symm.trans e)];exact⟨h1,h2,ry⟩
   ·rw[if_neg e,if_neg (fun z=>e (h1.trans z))];exact⟨h1,h2,h3⟩
def KT.put {H:Hp}{kvs:List (List Key×V)}{xs:List (List Key×Addr×Value)}(r:KT H kvs xs)(k:List Key){b:Addr}{y:V}{u:Value}(hb:H b=some (.tup (k.map kV)))(ry:RelV y u) :
 KT H (putK kvs k y) (storedH xs k b u):=by
 have e:(kvs.any fun kv=>decide (kv.1=k))=(atKey xs k).isSome:=by
  rw[pQ,(r.val k).isSome_eq,Option.isSome_map]
 unfold putK storedH;rw[e];by_cases q:(atKey xs k).isSome=true
 ·rw[if_pos q,if_pos q];exact r.repl k ry
 ·rw[if_neg q,if_neg q];exact Paired.snoc r ⟨rfl,hb,ry⟩
def KT.keeps {H H':Hp}{kvs:List (List Key×V)}{xs:List (List Key×Addr×Value)}(r:KT H kvs xs)(ht:∀b ys,H b=some (.tup ys)->H' b=some (.tup ys)):KT H' kvs xs :=
 Paired.mapP r fun _ _ z=>⟨z.1,ht _ _ z.2.1,z.2.2⟩
section
variable {P:Program}{w:World}{H:Hp}{h:Heap}{a:Addr}
def Mr {u:HO}(ok:HOk P w H h)(e:Rd H a u):ObjOk P w H h a u:=e.ok ok
def jm {kvs:List (Key×V)}(ok:HOk P w H h)(e:Rd H a (.dK kvs)):kvs.length<=sizeLine/\(a==sysModules)=false/\∃vs,KV kvs vs/\h.DictOf (aM P w) a vs :=
 show ObjOk P w H h a (.dK kvs) from Mr ok e
def Bw {kvs:List (Key×V)}(ok:HOk P w H h)(e:H a=some (.dK kvs)):kvs.length<=sizeLine/\(a==sysModules)=false/\∃vs,KV kvs vs/\h.DictOf (aM P w) a vs:=jm ok (.inl e)
def qL {ks:List Key}(ok:HOk P w H h)(e:H a=some (.tup (ks.map kV))):(tupleKind (aM P w)).is h ks a:=by
 obtain⟨_,its,r,o,h1,h2,n,h3⟩:=(show ObjOk P w H h a (.tup (ks.map kV)) from ok a _ e);exact⟨o,its.toArray,n,h1,h2,h3,by simpa using t8 r⟩
def ug {kvs:List (List Key×V)}(ok:HOk P w H h)(e:Rd H a (.dT kvs)):kvs.length<=sizeLine/\(a==sysModules)=false /\
 ∃xs,KT H kvs xs/\h.DictOfH (tupleKind (aM P w)) a xs:=by
 obtain⟨z,y,xs,r,o,es,ep,h1,h2,h3,h4,h5⟩:=(show ObjOk P w H h a (.dT kvs) from Mr ok e);refine⟨z,y,xs,r,o,es,ep,h1,h2,h3,h4,fun x hx=>?_,h5⟩;have all:∀{l:List (List Key×V)} {m:List (List Key×Addr×Value)},KT H l m->∀x∈m,(tupleKind (aM P w)).is h x.1 x.2.1:=by
  intro l m q;induction q with
  | nil=>intro x hx;exact nomatch hx
  | @cons p q ps qs hq t ih =>
    intro x hx;rcases List.mem_cons.mp hx with e | hx
    ·subst e;exact qL ok (by rw[<-hq.1];exact hq.2.1)
    ·exact ih x hx
 exact all r x hx
def Rx {kvs:List (List Key×V)}(ok:HOk P w H h)(e:H a=some (.dT kvs)):kvs.length<=sizeLine/\(a==sysModules)=false /\
 ∃xs,KT H kvs xs/\h.DictOfH (tupleKind (aM P w)) a xs:=ug ok (.inl e)
end
def DGet (H:Hp)(a:Addr)(y:V)(r:Option V):Prop :=
 (∃kvs k,Rd H a (.dK kvs)/\y=kV k/\r=cj kvs k)\/∃kvs k b,Rd H a (.dT kvs)/\y=.ref b/\H b=some (.tup (k.map kV))/\r=cj kvs k
def DPut (H:Hp)(a:Addr)(y v:V)(H':Hp):Prop :=
 (∃kvs k,H a=some (.dK kvs)/\y=kV k/\kvs.length<sizeLine/\H'=upd H a (.dK (putK kvs k v))) \/
 ∃kvs k b,H a=some (.dT kvs)/\y=.ref b/\H b=some (.tup (k.map kV))/\kvs.length<sizeLine/\H'=upd H a (.dT (putK kvs k v))
def DGet.k {H:Hp}{a:Addr}{kvs:List (Key×V)}{k:Key}(e:H a=some (.dK kvs)):DGet H a (kV k) (cj kvs k):=.inl ⟨kvs,k,.inl e,rfl,rfl⟩
def DPut.k {H:Hp}{a:Addr}{kvs:List (Key×V)}{k:Key}{v:V}(e:H a=some (.dK kvs))(hl:kvs.length<sizeLine):DPut H a (kV k) v (upd H a (.dK (putK kvs k v))):=.inl ⟨kvs,k,e,rfl,hl,rfl⟩
section
variable {X:Cx}{pins:List (Addr×Obj)}{σ:St}{H:Hp}{s:Shared}{a:Addr}{y v:V}{u r:Value}{o:Option V}{A:Around}{E:Value->Shared->Prop}
def Inv.big (I:Inv X pins σ H s):sysModules<s.heap.objs.size:=by
 have h:mainGlobals<s.heap.objs.size:=(I.mod.glob.keeps I.bk).lt;exact Nat.lt_trans (by decide) h
def DR {Q:Value->Shared->Prop}(hu:A.units+1<cLine)(I:Inv X pins σ H s)(g:DGet H a y (some v))(ry:RelV y u)(h:∀w' s',Inv X pins σ H s'->RelV v w'->Q w' s') :
 wpAny (model X.prog X.w) A (getItem (.ref a) u) Q E s:=by
 rcases g with ⟨kvs,k,e,ey,l⟩ | ⟨kvs,k,b,e,ey,eb,l⟩
 ·subst ey;obtain⟨z,hd,vs,rel,dd⟩:=jm I.hok e;obtain⟨w',hw,rw'⟩:=RelO.some_of (v:=v) (o:=valueAt vs k) (by rw[l];exact rel.val k);exact wpAny_getItem_of (mD ry) dd.mapOf hw (h w' _ (I.tok _) rw')
 ·subst ey;cases (show u=Value.ref b from ry);obtain⟨z,hd,xs,rel,dd⟩:=ug I.hok e;obtain⟨w',hw,rw'⟩:=RelO.some_of (v:=v) (o:=(atKey xs k).map (·.2)) (by rw[l];exact rel.val k);obtain⟨p,hp,hp2⟩:=Option.map_eq_some_iff.mp hw;refine wpAny_getItem_heap (tupleKind_room_in1 hu) (qL I.hok eb) dd hp ?_;rw[hp2];exact h w' _ (I.tok _) rw'
def Ls {Q:Value->Shared->Prop}(hu:A.units+1<cLine)(I:Inv X pins σ H s)(g:DGet H a y o)(ry:RelV y u)(h:∀s',Inv X pins σ H s'->Q (.bool (!o.isSome)) s') :
 wpAny (model X.prog X.w) A (compareOp .NotIn u (.ref a)) Q E s:=by
 rcases g with ⟨kvs,k,e,ey,l⟩ | ⟨kvs,k,b,e,ey,eb,l⟩
 ·subst ey;obtain⟨z,hd,vs,rel,dd⟩:=jm I.hok e;refine wpAny_notIn_of (mD ry) hd dd.mapOf ?_;rw[<-(rel.val k).isSome_eq,<-l];exact h _ (I.tok _)
 ·subst ey;cases (show u=Value.ref b from ry);obtain⟨z,hd,xs,rel,dd⟩:=ug I.hok e;refine wpAny_notIn_heap (tupleKind_room_in1 hu) (qL I.hok eb) hd dd ?_;have q:=(rel.val k).isSome_eq;rw[Option.isSome_map] at q;rw[<-q,<-l];exact h _ (I.tok _)
def mQ {h':Heap}{t':Nat}{ob:HO}(I:Inv X pins σ H s)(mu:QC (H a))(hs:Heap.SameBut a s.heap h')(he:∃q,h'.get? a=some q)(new:ObjOk X.prog X.w (upd H a ob) h' a ob) :
 Inv X pins σ (upd H a ob) { s with heap:=h',toks:=t' } :=
 I.write (x:=a) (e:=a) mu (.inl rfl) (fun b q hb z=>(hs.2 b hb).trans z) he new
def q8 {P:Program}{w:World}{H':Hp}{h':Heap}{kvs:List (Key×V)}{vs:List (Key×Value)}(z:kvs.length<=sizeLine)(hd:(a==sysModules)=false)(rel:KV kvs vs)(dd:h'.DictOf (aM P w) a vs) :
 ObjOk P w H' h' a (.dK kvs):=⟨z,hd,vs,rel,dd⟩
def DQ {H':Hp}{Q:Unit->Shared->Prop}(hu:A.units+1<cLine)(I:Inv X pins σ H s)(g:DPut H a y v H')(ry:RelV y u)(rv:RelV v r)(h:∀s',Inv X pins σ H' s'->Q () s') :
 wpAny (model X.prog X.w) A (setItem (.ref a) u r) Q E s:=by
 rcases g with ⟨kvs,k,e,ey,l,eH⟩ | ⟨kvs,k,b,e,ey,eb,l,eH⟩
 ·subst ey eH;obtain⟨z,hd,vs,rel,dd⟩:=Bw I.hok e;have hz:vs.length<=sizeLine:=by rw[<-rel.length];exact z
  have hl:(putK kvs k v).length<=sizeLine:=by have:=jE kvs k v;omega
  refine wpAny_setItem_pairs (hsz:=hz) (mD ry) dd fun h' dd' hs=>h _ ?_;have he:∃q,h'.get? a=some q:=let ⟨q,_,_,hq,_⟩:=dd';⟨q,hq⟩
  exact mQ I (by rw[e];exact True.intro) hs he (q8 hl hd (rel.put k rv) dd')
 ·subst ey eH;cases (show u=Value.ref b from ry);obtain⟨z,hd,xs,rel,dd⟩:=Rx I.hok e;have hz:xs.length<=sizeLine:=by rw[<-Paired.length rel];exact z
  have hl:(putK kvs k v).length<=sizeLine:=by have:=jE kvs k v;omega
  refine wpAny_setItem_heap (hsz:=hz) (tupleKind_room_in1 hu) (qL I.hok eb) dd fun h' dd' hs=>h _ ?_;obtain⟨q,es,ep,hq,h2,h3,h4,_,h5⟩:=dd';refine mQ I (by rw[e];exact True.intro) hs ⟨q,hq⟩ ⟨hl,hd,_,(rel.put k eb rv).keeps fun c ys ec=>?_,q,es,ep,hq,h2,h3,h4,h5⟩;rw[au (Rj ec e (fun z=>nomatch z))];exact ec
end
section
variable {X:Cx}{pins:List (Addr×Obj)}{σ:St}{H:Hp}{s:Shared}{a:Addr}{kvs:List (Key×V)}{k:Key}{u:Value}{A:Around}{E:Value->Shared->Prop}
def QB {Q:Unit->Shared->Prop}(I:Inv X pins σ H s)(e:H a=some (.dK kvs))(ry:RelV (kV k) u)(l:(cj kvs k).isSome=true)(h:∀s',Inv X pins σ (upd H a (.dK (fj kvs k))) s'->Q () s') :
 wpAny (model X.prog X.w) A (delItem (.ref a) u) Q E s:=by
 obtain⟨z,hd,vs,rel,dd⟩:=Bw I.hok e;refine wpAny_delItem_slot dd.typeIs (by decide) PySem.F.slot_dict_delitem
  (call_meetsIn PySem.F.slot_dict_delitem dd.typeIs PySem.F.entry_dict_delitem (PySem.F.args_dict_delitem_2 _ _) (meets_dict_delitem_pairs (aM X.prog X.w) a (mD ry)) ⟨vs,dd,by rw[<-rel.length];exact z,by rw[<-(rel.val k).isSome_eq];exact l,fun h' dd' hs=>h _ ?_⟩)
 have he:∃q,h'.get? a=some q:=let ⟨q,_,_,hq,_⟩:=dd';⟨q,hq⟩
 exact mQ I (by rw[e];exact True.intro) hs he (q8 (Nat.le_trans (xM kvs k) z) hd (rel.drop k) dd')
def Ry {v:V}{more:List Value}{Q:Value->Shared->Prop}(I:Inv X pins σ H s)(e:H a=some (.dK kvs))(ry:RelV (kV k) u)(l:cj kvs k=some v)(hm:more=[]\/∃x,more=[x])
 (h:∀w' s',Inv X pins σ (upd H a (.dK (fj kvs k))) s'->RelV v w'->Q w' s'):wpAny (model X.prog X.w) A (call (.builtin "dict.pop") (.ref a::u::more)) Q E s:=by
 obtain⟨z,hd,vs,rel,dd⟩:=Bw I.hok e;obtain⟨w',hw,rw'⟩:=RelO.some_of (v:=v) (o:=valueAt vs k) (by rw[<-l];exact rel.val k);have hp:(keyPart u).isSome=true:=by
  cases k with
  | inl i=>obtain⟨t,q⟩:=(show ∃t,u=Value.int i t from ry);subst q;rfl
  | inr x=>obtain⟨t,q⟩:=(show ∃t,u=Value.str x t from ry);subst q;rfl
 have ha:argsOk "dict.pop" ⟨.ref a::u::more,[]⟩:=by
  rcases hm with q | ⟨x,q⟩
  ·subst q;exact PySem.F.args_dict_pop_2 _ _
  ·subst q;exact PySem.F.args_dict_pop_3 _ _ _
 refine call_meetsIn PySem.F.slot_dict_pop dd.typeIs PySem.F.entry_dict_pop ha (meets_dict_pop_there (aM X.prog X.w) a (mD ry) more hm hp)
  ⟨vs,w',dd,by rw[<-rel.length];exact z,hw,fun h' dd' hs=>h w' _ ?_ rw'⟩
 have he:∃q,h'.get? a=some q:=let ⟨q,_,_,hq,_⟩:=dd';⟨q,hq⟩
 exact mQ I (by rw[e];exact True.intro) hs he (q8 (Nat.le_trans (xM kvs k) z) hd (rel.drop k) dd')
def Rz {Q:Value->Shared->Prop}(I:Inv X pins σ H s)(e:Rd H a (.dK kvs))(h:∀t s',Inv X pins σ H s'->Q (.int kvs.length t) s'):wpAny (model X.prog X.w) A (call (.builtin "len") [.ref a]) Q E s:=by
 obtain⟨z,hd,vs,rel,dd⟩:=jm I.hok e;refine call_len_dict hd dd (by rw[<-rel.length];rw[sizeLine_eq] at z;omega) ?_;rw[<-rel.length];exact h _ _ (I.tok _)
end
def Qu (i:Expr):Prop:=∀ov iv,subscripted i false ov iv=operate [ov,iv] (getItem ov iv)
def JW {prog:Program}{w:World}{A:Around}{E:Value->Shared->Prop}{s:Shared}{env:Env}{value slice:Expr}{pos:Pos}{T id:String}{Q:Value->Shared->Prop}
 (hl:typeLookup (.type T) "__getitem__"=pure (some (.builtin id))) (hs:Qu slice)
 (h:wpAny (model prog w) A (eval value env) (fun o s₁=>wpAny (model prog w) A (eval slice env) (fun i s₂=>s₂.TypeIs o T/\wpAny (model prog w) A (getItem o i) Q E s₂) E s₁) E s) :
 wpAny (model prog w) A (eval (.Subscript value slice pos) env) Q E s:=by
 refine Subscript_ (wpAny_mono h (fun o s₁ h₁=>wpAny_mono h₁ (fun i s₂ h₂=>?_) fun _ _ x=>x) fun _ _ x=>x);obtain⟨hT,h₂⟩:=h₂;unfold subscriptTail;refine wpAny_bind ?_;rw[getitemInPython_of_ne hT.not_modules];refine wpAny_bind (wpAny_specialOf hT hl ?_);have fin:wpAny (model prog w) A (subscripted slice false o i) (fun r s₃=>wpAny (model prog w) A (letTemporaryGo value o r >>= fun _=>pure r) Q E s₃) E s₂:=by
  rw[hs o i];exact wpAny_operating (wpAny_mono h₂ (fun r s₃ h₃=>wpAny_bind (wpAny_letTemporaryGo (wpAny_pure h₃))) fun _ _ x=>x)
 first
  | exact wpAny_pure (wpAny_bind fin)
  | exact wpAny_bind (wpAny_pure (wpAny_bind fin))
  | exact wpAny_bind fin
def xN {X:Cx}{pins:List (Addr×Obj)}{σ:St}{H:Hp}{s:Shared}{a:Addr}{y:V}{o:Option V}(I:Inv X pins σ H s)(g:DGet H a y o):s.TypeIs (.ref a) "dict":=by
 rcases g with ⟨kvs,k,e,_,_⟩ | ⟨kvs,k,b,e,_,_,_⟩
 ·obtain⟨_,_,vs,_,dd⟩:=jm I.hok e;exact dd.typeIs
 ·obtain⟨_,_,xs,_,dd⟩:=ug I.hok e;exact dd.typeIs
noncomputable def QS (td ty:TE):TE:=fun σ H Q=>td σ H fun x H1=>ty σ H1 fun y H2=>∃a v,x=.ref a/\DGet H2 a y (some v)/\Q v H2
noncomputable def JV (ty td:TE):TE:=fun σ H Q=>ty σ H fun y H1=>td σ H1 fun x H2=>∃a o,x=.ref a/\DGet H2 a y o/\Q (.bl (!o.isSome)) H2
noncomputable def Mq (td ty tv:TE):TS:=fun D σ H=>tv σ H fun v H1=>td σ H1 fun x H2=>ty σ H2 fun y H3=>∃a H4,x=.ref a/\DPut H3 a y v H4/\D.nx σ H4
section
variable {X:Cx}{o i e value:Expr}{pos pos' tpos:Pos}{td ty tv:TE}
def Ky (hu:X.A.units+1<cLine)(ho:PE X o td)(hi:PE X i ty)(hs:Qu i):PE X (.Subscript o i pos) (QS td ty):=by
 intro pins s σ H Q I h;refine JW PySem.F.slot_dict_getitem.lookup hs (bw (ho pins s σ H _ I h) fun u s1 ⟨x,H1,I1,rx,q1⟩=>bw (hi pins s1 σ H1 _ I1 q1) fun iv s2 ⟨y,H2,I2,ry,a,v,ex,g,q2⟩=>?_);subst ex;obtain rfl:u=Value.ref a:=rx;exact⟨xN I2 g,DR hu I2 g ry fun w' s3 I3 rw'=>⟨v,H2,I3,rw',q2⟩⟩
def tK (hu:X.A.units+1<cLine)(hi:PE X i ty)(ho:PE X o td):PC X .NotIn i o (JV ty td):=by
 intro pins s σ H Q I h;refine bw (hi pins s σ H _ I h) fun iv s1 ⟨y,H1,I1,ry,q1⟩=>bw (ho pins s1 σ H1 _ I1 q1) fun u s2 ⟨x,H2,I2,rx,a,ov,ex,g,q2⟩=>?_;subst ex;obtain rfl:u=Value.ref a:=rx;exact Ls hu I2 g ry fun s3 I3=>⟨.bl (!ov.isSome),H2,I3,rfl,q2⟩
def Aa (hu:X.A.units+1<cLine)(ho:PE X o td)(hi:PE X i ty)(hv:PE X value tv)(hs:swapsWith value (some (.Subscript o i pos')) pos.line X.env=pure false) :
 PS X (.Assign [.Subscript o i pos'] value pos) (Mq td ty tv):=by
 intro pins s σ H D I h;refine wpAny_Assign_Subscript (bw (hv pins s σ H _ I h) fun r s1 ⟨v,H1,I1,rv,q1⟩=>bw (ho pins s1 σ H1 _ I1 q1) fun u s2 ⟨x,H2,I2,rx,q2⟩=>bw (hi pins s2 σ H2 _ I2 q2) fun iv s3 ⟨y,H3,I3,ry,a,H4,ex,g,q3⟩=>?_) hs;subst ex;obtain rfl:u=Value.ref a:=rx;exact DQ hu I3 g ry rv fun s4 I4=>⟨σ,H4,I4,q3⟩
end
def Ii {P:Program}{w:World}{H:Hp}(h:Heap)(hb:sysModules<h.objs.size):ObjOk P w H (h.push { cls:=.type "dict",data:=.dict #[] }) h.objs.size (.dK []) :=
 ⟨Nat.zero_le _,beq_eq_false_iff_ne.mpr (Ne.symm (Nat.ne_of_lt hb)),[],.nil,Heap.DictOf.new h⟩
def uK:TE:=fun _ H Q=>∀p,H p=none->Q (.ref p) (upd H p (.dK []))
section
variable {X:Cx}{pos:Pos}
def lY:PE X (.Dict [] [] pos) uK:=fun pins s σ H Q I h =>
 wpAny_Dict_empty ⟨.ref s.heap.objs.size,_,I.laid (a:=s.heap.objs.size) (o:=.dK []) (t':=s.toks) (fun _ _ q=>Heap.get?_push_of_some _ q) (Nat.le_refl _) (Ii s.heap I.big),rfl,h _ (I.hok.fresh (Nat.le_refl _))⟩
end
structure M1 (X:Cx)(o:Expr)(m:Str)(apos:Pos)(e:Expr)(cpos:Pos):Prop where
 base:attributeBase o m X.env (eval o X.env)=eval o X.env
 few:((backTo cpos (starEach [e] X.env)).all (fun x => !x.1)&&(backToKw cpos (keywordEach [] X.env)).all (fun x=>x.1.isSome)
  && decide (([e]:List Expr).length+([]:List Keyword).length+(if ([]:List Keyword).isEmpty then 0 else 1)<30))=true
 line:(apos.endLine==cpos.line)=true
 trees:backTo cpos (starEach [e] X.env)=[(false,eval e X.env)]
structure M2 (X:Cx)(o:Expr)(m:Str)(apos:Pos)(e f:Expr)(cpos:Pos):Prop where
 base:attributeBase o m X.env (eval o X.env)=eval o X.env
 few:((backTo cpos (starEach [e,f] X.env)).all (fun x => !x.1)&&(backToKw cpos (keywordEach [] X.env)).all (fun x=>x.1.isSome)
  && decide (([e,f]:List Expr).length+([]:List Keyword).length+(if ([]:List Keyword).isEmpty then 0 else 1)<30))=true
 line:(apos.endLine==cpos.line)=true
 trees:backTo cpos (starEach [e,f] X.env)=[(false,eval e X.env),(false,eval f X.env)]
def R3 (H:Hp)(a:Addr):Prop:=(∃kvs,Rd H a (.dK kvs))\/∃kvs,Rd H a (.dT kvs)
def za {X:Cx}{pins:List (Addr×Obj)}{σ:St}{H:Hp}{s:Shared}{a:Addr}(I:Inv X pins σ H s)(d:R3 H a) :
 s.TypeIs (.ref a) "dict"/\(∀b,Value.ref a=.ref b->∃ob,s.heap.get? b=some ob/\ob.dict=none)/\(a==sysModules)=false:=by
 rcases d with ⟨kvs,e⟩ | ⟨kvs,e⟩
 ·obtain⟨_,hd,vs,_,dd⟩:=jm I.hok e;refine⟨dd.typeIs,fun b q=>?_,hd⟩;cases q;obtain⟨ob,_,_,h1,h2,_⟩:=dd;exact⟨ob,h1,h2.2.1⟩
 ·obtain⟨_,hd,xs,_,dd⟩:=ug I.hok e;refine⟨dd.typeIs,fun b q=>?_,hd⟩;cases q;obtain⟨ob,_,_,h1,h2,_⟩:=dd;exact⟨ob,h1,h2.2.1⟩
section
variable {X:Cx}{pins:List (Addr×Obj)}{σ:St}{H:Hp}{s:Shared}{a:Addr}{y d:V}{u r:Value}{o:Option V}{A:Around}{E:Value->Shared->Prop}
def Qh {Q:Value->Shared->Prop}(hu:A.units+1<cLine)(I:Inv X pins σ H s)(g:DGet H a y o)(ry:RelV y u)(rd:RelV d r)(h:∀w' s',Inv X pins σ H s'->RelV (o.getD d) w'->Q w' s') :
 wpAny (model X.prog X.w) A (call (.builtin "dict.get") [.ref a,u,r]) Q E s:=by
 rcases g with ⟨kvs,k,e,ey,l⟩ | ⟨kvs,k,b,e,ey,eb,l⟩
 ·subst ey;obtain⟨z,hd,vs,rel,dd⟩:=jm I.hok e;refine call_meetsIn PySem.F.slot_dict_get dd.typeIs PySem.F.entry_dict_get (PySem.F.args_dict_get_3 _ _ _) (meets_dict_get_default (aM X.prog X.w) a (mD ry) hd r) ⟨_,dd.mapOf,h _ _ (I.tok _) ?_⟩;rw[l];exact(rel.val k).getD rd
 ·subst ey;cases (show u=Value.ref b from ry);obtain⟨z,hd,xs,rel,dd⟩:=ug I.hok e;refine call_meetsIn PySem.F.slot_dict_get dd.typeIs PySem.F.entry_dict_get (PySem.F.args_dict_get_3 _ _ _) (meetsH_dict_get_default (tupleKind (aM X.prog X.w)) a b hd r) ⟨tupleKind_room_in1 hu,k,xs,qL I.hok eb,dd,h _ _ (I.tok _) ?_⟩;rw[l];exact(rel.val k).getD rd
end
noncomputable def Nx (td ty tx:TE):TE:=fun σ H Q=>td σ H fun x H1=>∃a,x=.ref a/\R3 H1 a/\ty σ H1 fun y H2=>tx σ H2 fun z H3=>∃o,DGet H3 a y o/\Q (o.getD z) H3
def Nv (td ty:TE):TE:=fun σ H Q=>td σ H fun x H1=>∃a,x=.ref a/\R3 H1 a/\ty σ H1 fun y H2=>∃kvs k v,H2 a=some (.dK kvs)/\y=kV k/\cj kvs k=some v/\Q v (upd H2 a (.dK (fj kvs k)))
section
variable {X:Cx}{o e f:Expr}{apos cpos:Pos}{td ty tx:TE}
def G3 (hu:X.A.units+1<cLine)(ho:PE X o td)(he:PE X e ty)(hf:PE X f tx)(m:M2 X o "get" apos e f cpos):PE X (.Call (.Attribute o "get" apos) [e,f] [] cpos) (Nx td ty tx):=by
 intro pins s σ H Q I h;refine wpAny_Call_method m.base m.few m.line PySem.F.plainAttrs_dict PySem.F.slot_dict_get PySem.F.type_dict_get (bw (ho pins s σ H _ I h) fun u s1 ⟨x,H1,I1,rx,a,ex,d,q1⟩=>?_);subst ex;obtain rfl:u=Value.ref a:=rx;obtain⟨t1,t2,_⟩:=za I1 d;refine⟨t1,t2,?_⟩;rw[m.trees];refine Calls.callWith_builtin rfl (Calls.evalArgs_plain (Calls.spliced_cons (bw (he pins s1 σ H1 _ I1 q1) fun iv s2 ⟨y,H2,I2,ry,q2⟩ =>
  Calls.spliced_cons (bw (hf pins s2 σ H2 _ I2 q2) fun fv s3 ⟨z,H3,I3,rz,ov,g,q3⟩=>Calls.spliced_nil ?_))))
 exact Qh hu I3 g ry rz fun w' s4 I4 rw'=>⟨_,H3,I4,rw',q3⟩
def GX (ho:PE X o td)(he:PE X e ty)(m:M1 X o "pop" apos e cpos):PE X (.Call (.Attribute o "pop" apos) [e] [] cpos) (Nv td ty):=by
 intro pins s σ H Q I h;refine wpAny_Call_method m.base m.few m.line PySem.F.plainAttrs_dict PySem.F.slot_dict_pop PySem.F.type_dict_pop (bw (ho pins s σ H _ I h) fun u s1 ⟨x,H1,I1,rx,a,ex,d,q1⟩=>?_);subst ex;obtain rfl:u=Value.ref a:=rx;obtain⟨t1,t2,_⟩:=za I1 d;refine⟨t1,t2,?_⟩;rw[m.trees];refine Calls.callWith_builtin rfl (Calls.evalArgs_plain (Calls.spliced_cons (bw (he pins s1 σ H1 _ I1 q1) fun iv s2 ⟨y,H2,I2,ry,kvs,k,v,ea,ey,l,q2⟩=>Calls.spliced_nil ?_)));subst ey;exact Ry I2 ea ry l (.inl rfl) fun w' s3 I3 rw'=>⟨v,_,I3,rw',q2⟩
end
section
variable {X:Cx}{pins:List (Addr×Obj)}{σ:St}{H:Hp}{s:Shared}{a:Addr}{kvs:List (Key×V)}{A:Around}{E:Value->Shared->Prop}
end
section
variable {X:Cx}{pins:List (Addr×Obj)}{σ:St}{H:Hp}{s:Shared}{a:Addr}{y:V}{u:Value}{A:Around}{E:Value->Shared->Prop}
end
end L2
namespace DL
open PySem PySem.Spec PyProof.Rows L2
def vg {K:PySem.W.Frag}{B:Hp}(k:Key):Den K B (kD k) (kV k):=by
 cases k with
 | inl i=>exact .int i
 | inr x=>exact .str x
section
variable {X:Cx}{pins:List (Addr×Obj)}{σ:L2.St}{H:Hp}{s:Shared}
def Inv.still {a:Addr}{u:HO}(I:L2.Inv X pins σ H s)(hu:(∃kvs,u=.dK kvs)\/∃kvs,u=.dT kvs)(e:H a=some u):∃o,L2.Inv X pins σ (upd H a (.frz o u)) s:=by
 obtain⟨o,ho⟩:∃o,s.heap.get? a=some o:=by
  have:=(I.hok a u e);rcases hu with ⟨kvs,rfl⟩ | ⟨kvs,rfl⟩
  ·obtain⟨_,_,_,_,o,_,_,q,_⟩:=this;exact⟨o,q⟩
  ·obtain⟨_,_,_,_,o,_,_,q,_⟩:=this;exact⟨o,q⟩
 have mu:QC (H a):=by rw[e];rcases hu with ⟨kvs,rfl⟩ | ⟨kvs,rfl⟩ <;> exact True.intro
 have ne:∀{b:Addr} {v:HO},H b=some v->(∀z,v≠.dK z)->(∀z,v≠.dT z)->b≠a:=fun {b v} q n1 n2 z=>by
  subst z;rw[e] at q;cases q;rcases hu with ⟨kvs,rfl⟩ | ⟨kvs,rfl⟩
  ·exact n1 _ rfl
  ·exact n2 _ rfl
 have st:ObjOk X.prog X.w (upd H a (.frz o u)) s.heap a u:=(I.hok a u e).stay (fun _ _ _ q=>q) (fun b q=>by rw[au (ne q (fun _ z=>nomatch z) (fun _ z=>nomatch z))];exact q) fun b xs q=>by rw[au (ne q (fun _ z=>nomatch z) (fun _ z=>nomatch z))];exact q
 have:=I.write (o:=.frz o u) (t':=s.toks) (h':=s.heap) mu (.inl rfl) (fun _ _ _ q=>q) ⟨o,ho⟩ ⟨ho,st⟩;exact⟨o,this⟩
end
section
variable {X:Cx}{e k a b o:Expr}{me mk ma mb mo:ME}{m:MS}{PX:Prop}{pos p2 p3 pos':Pos}{elts:List Expr}{kt:Nat}
def tM {α β:Type}{F:α->β->Prop}:∀{l:List α} {r:List β} {i:Nat} {x:α},Paired F l r->l[i]? = some x->∃y,r[i]? = some y/\F x y
 | _,_,_,_,.nil,e=>by simp at e
 | _,_,0,_,.cons r _,e=>by simp at e;subst e;exact⟨_,rfl,r⟩
 | _,_,i+1,x,.cons _ t,e=>by
   obtain⟨y,h1,h2⟩:=tM (i:=i) (x:=x) t (by simpa using e);exact⟨y,by simpa using h1,h2⟩
def iB {K:PySem.W.Frag}{B:Hp}(i:Int):∀{kvs:List (Key×V)} {vs:List D},Dens K B vs (kvs.map (·.2))->(bJ (kvs.map fun p=>kD p.1) vs i=none/\cj kvs (.inl i)=none)\/∃d v,bJ (kvs.map fun p=>kD p.1) vs i=some d/\cj kvs (.inl i)=some v/\Den K B d v
 | [],vs,h=>by
   rw[List.map_nil];exact .inl ⟨by cases vs <;> rfl,rfl⟩
 | p::kvs,[],h=>by
   have:=h.length;simp at this
 | (k,x)::kvs,d::vs,h=>by
   obtain⟨y,r,e,h1,h2⟩:=h.uncons;rw[List.map_cons] at e;cases e;rw[List.map_cons];cases k with
   | inl j =>
     show ((if j=i then some d else bJ (kvs.map fun p=>kD p.1) vs i)=none/\_)\/∃d' v,(if j=i then some d else bJ (kvs.map fun p=>kD p.1) vs i)=some d'/\_;by_cases hj:j=i
     ·subst hj;rw[if_pos rfl,ie rfl];exact .inr ⟨d,x,rfl,rfl,h1⟩
     ·rw[if_neg hj,eY (by simpa using hj)];exact iB i h2
   | inr z =>
     show (bJ (kvs.map fun p=>kD p.1) vs i=none/\_)\/∃d' v,bJ (kvs.map fun p=>kD p.1) vs i=some d'/\_;rw[eY (by simp)];exact iB i h2
def Ln {apos:Pos}(hu:X.A.units+1<cLine)(ho:DE X o mo)(hk:DE X k mk)(he:DE X e me)(h1:attributeBase o "get" X.env (eval o X.env)=eval o X.env:=by rfl)
 (h2:((backTo pos (starEach [k,e] X.env)).all (fun x => !x.1)&&(backToKw pos (keywordEach [] X.env)).all (fun x=>x.1.isSome)&&decide (([k,e]:List Expr).length+([]:List Keyword).length+(if ([]:List Keyword).isEmpty then 0 else 1)<30))=true:=by rfl)
 (h3:(apos.endLine==pos.line)=true:=by rfl) (h4:backTo pos (starEach [k,e] X.env)=[(false,eval k X.env),(false,eval e X.env)]:=by rfl) :
 DE X (.Call (.Attribute o "get" apos) [k,e] [] pos) (Bs mo mk me):=by
 obtain⟨to,po,qo⟩:=ho;obtain⟨tk,pk,qk⟩:=hk;obtain⟨te,pe,qe⟩:=he;refine⟨_,G3 hu po pk pe ⟨h1,h2,h3,h4⟩,fun os σ H δ d Q s m kq=>?_⟩;obtain⟨dd,e1,m⟩:=aj m;obtain⟨z,e2,m⟩:=aj m;obtain⟨y,e3,m⟩:=aj m
 match dd,z,e1,e2,m with
 | .dic false ks vs,.int i,e1,e2,m =>
   cases m;refine qo os σ H δ _ _ s e1 fun v H1 g1 r1=>?_;obtain⟨a,ys,rfl,hF,hv⟩:=r1.dic_inv;rcases hF with ⟨_,ob,kvs,f1,rfl,rfl⟩ | ⟨z,_⟩
   ·refine⟨a,rfl,.inl ⟨kvs,.inr ⟨ob,hide_le _ _ f1⟩⟩,?_⟩;refine qk os σ H1 δ _ _ (s.mono g1) e2 fun u H2 g2 r2=>?_;refine qe os σ H2 δ _ _ ((s.mono g1).mono g2) e3 fun w H3 g3 r3=>?_;have g23:=g2.trans g3;rw[r2.int_inv];refine⟨cj kvs (.inl i),.inl ⟨kvs,.inl i,.inr ⟨ob,g23 _ _ (hide_le _ _ f1)⟩,rfl,rfl⟩,?_⟩;have gt:=g1.trans g23;rcases iB i hv with ⟨c1,c2⟩ | ⟨d,v,c1,c2,c3⟩
    ·rw[c1] at kq;rw[c2];exact kq _ H3 gt r3
    ·rw[c1] at kq;rw[c2];exact kq _ H3 gt (c3.mono g23.hd _ _)
   ·cases z
end
end DL
namespace DL
open PySem
noncomputable def lJ:List D->Option (List Str)
 | []=>some []
 | .str x::r=>(lJ r).bind fun q=>some (x::q)
 | _=>none
noncomputable def Nj:D->Option D
 | .int i=>if i.natAbs.log2<1920 then some (.str (toString i)) else none
 | _=>none
noncomputable def gJ (acc:Str)(xs:List Str):Str:=xs.foldl (·++·) acc
def Ib (a:MA):ME:=fun δ=>(a δ).bind fun ds=>(lJ ds).bind fun xs=>if (gJ Str.empty xs).length<=16777216 then some (.str (gJ Str.empty xs)) else none
noncomputable def HX:MF:=fun ds=>match ds with
 | [.str x]=>if x.length<=640 then (PySem.intText? x).bind fun n=>some (.int n) else none
 | [.int i]=>some (.int i)
 | [.bl b]=>some (.int (if b then 1 else 0))
 | _=>none
end DL
namespace DL
open PySem PySem.Spec PyProof.Rows L2
def tQ {P:Program}{w:World}{H:Hp}{h:Heap}{a:Addr}:∀{o:HO},ObjOk P w H h a o->∃u,h.get? a=some u
 | .lst xs,x=>by obtain⟨_,_,_,_,e⟩:=x;exact⟨_,e⟩
 | .tup xs,x=>by obtain⟨_,_,_,o,e,_⟩:=x;exact⟨_,e⟩
 | .dK kvs,x=>by obtain⟨_,_,_,_,o,_,_,e,_⟩:=x;exact⟨_,e⟩
 | .dT kvs,x=>by obtain⟨_,_,_,_,o,_,_,e,_⟩:=x;exact⟨_,e⟩
 | .set S n,x=>by obtain⟨o,_,_,_,e,_⟩:=x;exact⟨_,e⟩
 | .ins C dx fs,x=>by obtain⟨_,_,_,e,_⟩:=x;exact⟨_,e⟩
 | .own y,x=>x
 | .xd fs,x=>by obtain⟨_,⟨_,_,_,e,_⟩,_⟩:=x;exact⟨_,e⟩
 | .rng lo hi,x=>by obtain⟨_,_,_,e⟩:=x;exact⟨_,e⟩
 | .frz ob u,x=>⟨_,x.1⟩
 | .tbl ps,x=>⟨_,(show h.get? a=some _ from x)⟩
 | .met f y,x=>⟨_,(show h.get? a=some _ from x)⟩
 | .ext φ,x=>x.2.1
def Qx (h:Heap)(e T:Addr)(cl a0 fl:Value):Prop :=
 ∃oe vs oT ts,h.get? e=some oe/\oe.cls=cl/\vs[0]? = some a0/\oe.data=.fields vs/\vs[1]? = some (.ref T)/\T≠e/\h.get? T=some oT/\oT.data=.fields ts/\ts[3]? = some fl
def Qy (P:Program)(w:World)(cl:Value):Et:=fun outer H s E e s'=>∃H' ea T a0,e=.ref ea/\s'.os=s.os/\AllBare s'.gens/\Un (frs outer) [] H H' s.heap s'.heap/\HOk P w H' s'.heap/\Same H H' /\
 Qx s'.heap ea T cl a0 .none/\s.heap.get? ea=none/\s.heap.get? T=none/\H' ea=none/\H' T=none/\E cl none H'
section
variable {X:Cx}{cl:Value}{Nw:Addr->Prop}
section
variable {h base:Heap}{e T:Addr}{cl a0 fl:Value}{oe oT:Obj}{vs ts:Array Value}
end
section
variable {M:Model}{A:Around}{E:Value->Shared->Prop}{s:Shared}{base:Heap}{e L:Addr}{cl a0 fl:Value}
end
def Aq {l:List Env}{env:Env}{a:Addr}(h:env∈l)(hf:env.frame=some a):a∈frs l:=List.mem_filterMap.mpr ⟨env,h,hf⟩
def KZ {P:Program}{w:World}{K:PySem.W.Frag}{mg:Str->Option Value}{base:Heap}{N:List Str}{qual:Str}{scope:Scope}{f:Addr}{cd:Value}{A:Around}{outer:List Env}{s s1:Shared}{H H1:Hp}{E:XK}{σ:L2.St}{ea:Addr}{ex:List Addr}{a0:Value}{h':Heap}{pins:List (Addr×Obj)}
 (I:Inv (jY (Qy P w cl) P w K mg base N qual scope f cd A outer s H E) pins σ H1 s1) (sm:Same H H1) (hE:E cl none H1) (hx:∀b∈ex,s.heap.get? b=none/\H1 b=none) (n1:s.heap.get? ea=none) (n3:H1 ea=none)
 (k1:(PySem.W.hideAll s1.heap (ex++frs (envOfC qual scope s.heap.objs.size f cd::outer))).StaysIn h') (k2:h'.FunFrames (PySem.W.hideAll s1.heap (ex++frs (envOfC qual scope s.heap.objs.size f cd::outer))) outer)
 (k3:h'.TracedW (PySem.W.hideAll s1.heap (ex++frs (envOfC qual scope s.heap.objs.size f cd::outer))) ea cl a0) (k4:s1.heap.UpToSlots h') (s2:Shared) (hs2:s2={ s1 with heap:=h' }):Qy P w cl outer H s E (.ref ea) s2:=by
 subst hs2;have un:=I.base;have lt:∀b o,s.heap.get? b=some o->b<s.heap.objs.size:=fun b o e=>Heap.lt_size e;have frl:∀b,b∈frs (envOfC qual scope s.heap.objs.size f cd::outer)->b=s.heap.objs.size\/b∈frs outer:=fun b hb=>by
  have:=I.stkSub b hb;rcases List.mem_cons.mp this with z | z
  ·exact .inl z
  ·exact .inr z
 have inB:∀b o,s1.heap.get? b=some o->b∉ex->b≠s.heap.objs.size->b∉frs outer->h'.get? b=some o:=fun b o e h1 h2 h3=>k1 b o (PySem.W.hideAll_get _ e fun z=>by
  rcases List.mem_append.mp z with z | z
  ·exact h1 z
  ·rcases frl b z with z | z
   ·exact h2 z
   ·exact h3 z)
 have nex:∀b o,s.heap.get? b=some o->b∉ex:=fun b o e z=>by rw[(hx b z).1] at e;cases e
 have nloc:∀b o,s.heap.get? b=some o->b≠s.heap.objs.size:=fun b o e=>Nat.ne_of_lt (lt b o e);have frames:∀b∈frs outer,∃o,s1.heap.get? b=some o/\∀vs,o.data≠.fields vs:=fun b hb=>(I.stack.mem (List.mem_filterMap.mpr (by
  obtain⟨env,he,hf⟩:=List.mem_filterMap.mp hb;exact⟨env,List.mem_cons_of_mem _ he,hf⟩))).2
 have Ff:∀b u,H1 b=some u->b∉ex/\b≠s.heap.objs.size/\b∉frs outer:=fun b u e=>by
  refine⟨fun z=>?_,fun z=>?_,fun z=>?_⟩
  ·rw[(hx b z).2] at e;cases e
  ·have:H1 s.heap.objs.size=none:=I.free;rw[z,this] at e;cases e
  ·have:H1 b=none:=I.stkFree b (by
    obtain⟨env,he,hf⟩:=List.mem_filterMap.mp z;exact List.mem_filterMap.mpr ⟨env,List.mem_cons_of_mem _ he,hf⟩)
   rw[this] at e;cases e
 obtain⟨oe,vs,T,oT,ts,he,⟨hc,h0⟩,hd,h1,hnT,hTe,hT,hdT,h3⟩:=k3;have hT0:∀o,s1.heap.get? T=some o->T∉frs outer->T≠s.heap.objs.size->T∉ex->False:=fun o e a b c=>by
  have:=PySem.W.hideAll_get (ex++frs (envOfC qual scope s.heap.objs.size f cd::outer)) e (fun z=>by
   rcases List.mem_append.mp z with z | z
   ·exact c z
   ·rcases frl T z with z | z
    ·exact b z
    ·exact a z)
  rw[hnT] at this;cases this
 have Tfr:T∉frs outer:=fun z=>by
  obtain⟨_,o,e,nf⟩:=k2.mem z;rw[hT] at e;cases e;exact nf ts hdT
 refine⟨H1,ea,T,a0,rfl,I.os,I.bare,⟨fun b o e n hb _=>?_,fun b o e n hb _=>?_,fun b o e n hb=>un.free b o e n hb,fun b o e _=>?_,un.tups,un.frzs,un.tbls⟩,fun b u e=>?_,sm,⟨oe,vs,oT,ts,he,hc,h0,hd,h1,hTe,hT,hdT,h3⟩,n1,?_,n3,?_,hE⟩
 ·exact inB b o (un.keep b o e n hb (by intro z;exact absurd (show b∈([]:List Addr) from z) (by simp))) (nex b o e) (nloc b o e) hb
 ·obtain⟨sl,q⟩:=un.slot b o e n hb (by intro z;exact absurd (show b∈([]:List Addr) from z) (by simp));obtain⟨o',q',nf⟩:=frames b hb;rw[q] at q';cases q';obtain⟨sl',q2⟩:=k4 b _ q nf;exact⟨sl',q2⟩
 ·obtain⟨o',q⟩:=un.there b o e (by intro z;exact absurd (show b∈([]:List Addr) from z) (by simp));by_cases hb:b∈frs outer
  ·obtain⟨o2,q2,nf⟩:=frames b hb;obtain⟨sl,q3⟩:=k4 b o2 q2 nf;exact⟨_,q3⟩
  ·exact⟨o',inB b o' q (nex b o e) (nloc b o e) hb⟩
 ·refine(I.hok b u e).stay (fun c v hc q=>?_) (fun _ q=>q) fun _ _ q=>q;have tr:b∉ex/\b≠s.heap.objs.size/\b∉frs outer:=Ff b u e;rcases hc with rfl | hc
  ·exact inB c v q tr.1 tr.2.1 tr.2.2
  ·have tr:=Ff c _ hc;exact inB c v q tr.1 tr.2.1 tr.2.2
 ·cases q:s.heap.get? T with
  | none=>rfl
  | some o =>
    exfalso;obtain⟨o',q'⟩:=un.there T o q (by intro z;exact absurd (show T∈([]:List Addr) from z) (by simp));exact hT0 o' q' Tfr (nloc T o q) (nex T o q)
 ·cases q:H1 T with
  | none=>rfl
  | some u =>
    exfalso;obtain⟨o',q'⟩:=tQ (I.hok T u q);have tr:=Ff T u q;exact hT0 o' q' Tfr tr.2.1 tr.1
def Hh {P:Program}{w:World}{K:PySem.W.Frag}{mg:Str->Option Value}{base:Heap}{N:List Str}{qual:Str}{scope:Scope}{f:Addr}{cd:Value}{A:Around}{outer:List Env}{s:Shared}{H:Hp}{E:XK}(hE:∀H',Same H H'->E cl none H')
 {pins:List (Addr×Obj)} {σ:L2.St} {H1:Hp} {s1:Shared} {h1:Heap} {ea:Addr} {us:List Value} (I:Inv (jY (Qy P w cl) P w K mg base N qual scope f cd A outer s H E) pins σ H1 s1) (sm:Same H H1) (mk:Heap.MadeExcOf s1.heap h1 ea cl us) :
 (jY (Qy P w cl) P w K mg base N qual scope f cd A outer s H E).xe (.ref ea) { s1 with heap:=h1 }:=by
 have hin:∀env∈(envOfC qual scope s.heap.objs.size f cd::outer),∀b,env.frame=some b->b∈([]++frs (envOfC qual scope s.heap.objs.size f cd::outer)):=fun env he b hb=>List.mem_append_right _ (Aq he hb);have ff:=PySem.W.funFrames_hide (as:=[]++frs (envOfC qual scope s.heap.objs.size f cd::outer)) (show s1.heap.FunFrames base (envOfC qual scope s.heap.objs.size f cd::outer) from I.stack) hin;have st:(PySem.W.hideAll s1.heap ([]++frs (envOfC qual scope s.heap.objs.size f cd::outer))).StaysIn s1.heap:=fun b o q=>PySem.W.of_hideAll _ q;have hfr:(A.deeper (envOfC qual scope s.heap.objs.size f cd)).frames=some (envOfC qual scope s.heap.objs.size f cd::outer):=I.ok.frames;have n1:s.heap.get? ea=none:=by
  cases q:s.heap.get? ea with
  | none=>rfl
  | some o =>
    obtain⟨o',q'⟩:=I.base.there ea o q (by intro z;exact absurd (show ea∈([]:List Addr) from z) (by simp));rw[mk.new] at q';cases q'
 have n3:H1 ea=none:=by
  cases q:H1 ea with
  | none=>rfl
  | some u =>
    obtain⟨o',q'⟩:=tQ (I.hok ea u q);rw[mk.new] at q';cases q'
 show wpAny (model P w) (A.deeper (envOfC qual scope s.heap.objs.size f cd)) (leaving (envOfC qual scope s.heap.objs.size f cd) (.ref ea)) _ _ _;refine wpAny_leaves_madeW (h:=s1.heap) hfr rfl st ff mk fun h' t hfl _ _ k4=>?_;obtain⟨k1,_,k2,k3⟩:=hfl;exact KZ I sm (hE _ sm) (fun b hb=>absurd hb (by simp)) n1 n3 k1 k2 k3 ((Heap.UpToSlots.of_keeps mk.keeps).trans k4) _ rfl
variable {a b e:Expr}{es:List Expr}{ma mb me:ME}{pos p:Pos}
variable {PX:Prop}{tg:Expr}{mx:MEX}
def LK (X:Cx)(cl:Value):Prop:=∀(pins:List (Addr×Obj)) (σ:L2.St) (H:Hp) (s:Shared) (h':Heap) (ea:Addr) (us:List Value),Inv X pins σ H s->Same X.H₀ H->Heap.MadeExcOf s.heap h' ea cl us->X.xe (.ref ea) { s with heap:=h' }
def Ou {K:PySem.W.Frag}{h:Heap}{mg:Str->Option Value}{x:Str}{C:Addr}{bmB:List Value}{newId:String}(X:K.In h)(hm:mg x=some (.ref C))(q:PySem.W.excIn K C bmB newId=true):OwnCls x C bmB newId mg h:=by
 cases hl:K.lookup C with
 | none=>simp[PySem.W.excIn,hl] at q
 | some o =>
   have at_C:=X C o hl;simp only[PySem.W.excIn,hl] at q;split at q <;> try cases q
   rename_i _ dd cd sl e;cases e;split at q <;> try cases q
   rename_i C' bm k0 k1 k2 k3 n k5 hmro hsl;simp only[beq_iff_eq,Bool.not_eq_true',Bool.and_eq_true] at q;obtain⟨⟨⟨⟨⟨q1,q2⟩,q3⟩,q4⟩,q5⟩,q6⟩:=q;refine⟨hm,bm,cd.ns,cd.name,cd.qualname,cd.bases,cd.hasDict,cd.slotNames,cd.subclasses,cd.abstract,cd.collection,dd,k0,k1,k2,k3,k5,_,?_,.of_isNs (PySem.W.isNs_of_in X q5),PySem.W.nsMap_none_of_in X q5 q6,PySem.W.tail_of_in X q4⟩;have e1:sl=#[k0,k1,k2,k3,some (.builtin newId),k5]:=by
    rw[<-q2];exact Array.toList_inj.mp hsl
   have e2:cd={ name:=cd.name,bases:=cd.bases,mro:=.ref C::bm,ns:=cd.ns,qualname:=cd.qualname,hasDict:=cd.hasDict,slotNames:=cd.slotNames,subclasses:=cd.subclasses,abstract:=cd.abstract,collection:=cd.collection,hasDel:=false }:=by
    rw[<-q1,<-hmro,<-q3]
   rw[at_C,e1];exact congrArg (fun z=>some (Obj.mk (.type "type") dd (.cls z) _)) e2
end
def QG {α:Type}{M:Model}{A:Around}{t:Sem α}{Q Q':α->Shared->Prop}{E E':Value->Shared->Prop}{s:Shared}(h:wpAny M A t Q E s)(f:∀v s',Q v s'->Q' v s')(g:∀v s',E v s'->E' v s'):wpAny M A t Q' E' s:=wpAny_mono h f g
section
variable {X:Cx}{scX sc:Scope}{NX N:List Str}{k:Nat}{fv:List Nat}{cl:Value}{Nw:Addr->Prop}
end
section
variable {X:Cx}
def zW (x:Str)(t:Tok):RelV (.str x) (.str x t):=⟨t,rfl⟩
variable {o e:Expr}{mo me:ME}{p2 p3:Pos}
end
def km:∀(xs:List Str) (acc:Str),acc.length<=(gJ acc xs).length
 | [],acc=>Nat.le_refl _
 | x::xs,acc=>by
   have:=km xs (acc++x);rw[strLen_append] at this;exact Nat.le_trans (Nat.le_add_right _ _) this
section
variable {X:Cx}{e:Expr}{me:ME}{pos:Pos}
def Qd (he:DE X e me):DE X (.FormattedValue e (-1) none pos) (kE Nj me):=by
 obtain⟨t,p,q⟩:=he;refine⟨fun σ H Q=>t σ H fun x H1=>∃i,x=.int i/\i.natAbs.log2<1920/\Q (.str (toString i)) H1,fun pins s σ H Q I h=>?_,fun os σ H δ d Q s m k=>?_⟩
 ·refine wpAny_FormattedValue_plain (bw (p pins s σ H _ I h) fun v s1 ⟨x,H1,I1,r1,i,ex,hi,q1⟩=>?_);subst ex;obtain⟨tk,rfl⟩:=r1;exact wpAny_formatField_int hi ⟨_,H1,I1.tok _,zW _ _,q1⟩
 ·obtain⟨dx,e1,m⟩:=aj m;refine q os σ H δ dx _ s e1 fun v H1 g1 r1=>?_;cases dx with
  | int i =>
    have m':(if i.natAbs.log2<1920 then some (D.str (toString i)) else none)=some d:=m;split at m'
    ·rename_i hi;cases m';exact⟨i,r1.int_inv,hi,k _ H1 g1 (.str _)⟩
    ·cases m'
  | _=>cases m
def DJ (X:Cx)(vs:List Expr)(m:MA):Prop:=∀os pins s σ H δ ds xs acc Q,Sl X os H δ σ->Inv X pins σ H s->m δ=some ds->lJ ds=some xs->(gJ acc xs).length<=sizeLine ->
 (∀s' H',Inv X pins σ H' s'->Same H H'->Q (gJ acc xs) s')->Joins (model X.prog X.w) X.A X.xe (evalEach vs X.env) acc Q s
def PN:DJ X [] aD:=by
 intro os pins s σ H δ ds xs acc Q sl I m ht hz k;cases m;cases ht;exact k s H I (Same.refl _)
def Bx {vs:List Expr}{mr:MA}(he:DE X e me)(hr:DJ X vs mr)(hv:evalEach (e::vs) X.env=eval e X.env::evalEach vs X.env:=by rfl):DJ X (e::vs) (ak me mr):=by
 obtain⟨t,p,q⟩:=he;intro os pins s σ H δ ds xs acc Q sl I m ht hz k;obtain⟨d,e1,m⟩:=aj m;obtain⟨r,e2,m⟩:=aj m;cases m;cases d with
 | str y =>
   obtain⟨ys,e3,ht⟩:=aj (show (lJ r).bind (fun q=>some (y::q))=some xs from ht);cases ht;rw[hv];refine bw (p pins s σ H (fun v H1=>Same H H1/\v=.str y) I (q os σ H δ _ _ sl e1 fun v H1 g1 r1=>⟨g1,r1.str_inv⟩)) fun u s1 ⟨v,H1,I1,r1,g1,ev⟩=>?_;subst ev;obtain⟨tk,rfl⟩:=r1;have hz':(gJ (acc++y) ys).length<=sizeLine:=hz;exact⟨y,tk,rfl,Nat.le_trans (km ys _) hz',hr os pins s1 σ H1 δ r ys (acc++y) Q (sl.mono g1) I1 e2 e3 hz' fun s2 H2 I2 g2=>k s2 H2 I2 (g1.trans g2)⟩
 | _=>cases ht
def Lp {v₁ v₂:Expr}{rest:List Expr}{m:MA}(h:DJ X (v₁::v₂::rest) m):DE X (.JoinedStr (v₁::v₂::rest) pos) (Ib m):=by
 refine⟨fun σ H Q=>∃os δ ds xs,Sl X os H δ σ/\m δ=some ds/\lJ ds=some xs/\(gJ Str.empty xs).length<=sizeLine/\∀H',Same H H'->Q (.str (gJ Str.empty xs)) H',fun pins s σ H Q I hq=>?_,fun os σ H δ d Q s me k=>?_⟩
 ·obtain⟨os,δ,ds,xs,sl,e1,e2,hz,q⟩:=hq;exact wpAny_JoinedStr (h os pins s σ H δ ds xs _ _ sl I e1 e2 hz fun s' H' I' g=>⟨hz,.str _,H',I'.tok _,zW _ _,q H' g⟩)
 ·obtain⟨ds,e1,me⟩:=aj me;obtain⟨xs,e2,me⟩:=aj me;split at me
  ·rename_i hz;cases me;exact⟨os,δ,ds,xs,s,e1,e2,by rw[bB];exact hz,fun H' g=>k _ H' g (.str _)⟩
  ·cases me
end
section
variable {X:Cx}{a e:Expr}{ma me:ME}{pos p2 p3:Pos}
def Ei:cL X (.type "int") (fun xs H Q=>∃x n,xs=[.str x]/\PySem.intText? x=some n/\x.length<=640/\Q (.int n) H):=by
 intro pins s σ H xs us Q I r h;obtain⟨x,n,rfl,h1,h2,q⟩:=h;obtain⟨u,rfl,ru⟩:=r.one;obtain⟨t,rfl⟩:=ru;exact PySem.W.KIN.call_text h1 h2 ⟨.int n,H,I.tok _,⟨_,rfl⟩,q⟩
def Js:CallD X (.type "int") HX:=by
 refine⟨_,xU Ei Ej,fun os H L ds d vs Q r m k=>?_⟩
 match ds,m with
 | [.str x],m =>
   have m':(if x.length<=640 then (PySem.intText? x).bind fun n=>some (D.int n) else none)=some d:=m;split at m'
   ·rename_i hz;obtain⟨n,e,m'⟩:=aj m';cases m';obtain⟨v,rfl,h⟩:=eO r;exact .inl ⟨x,n,by rw[h.str_inv],e,hz,k _ H (Same.refl _) (.int _)⟩
   ·cases m'
 | [.int i],m =>
   cases m;obtain⟨v,rfl,h⟩:=eO r;exact .inr (.inl ⟨i,by rw[h.int_inv],k _ H (Same.refl _) (.int _)⟩)
 | [.bl b],m =>
   cases m;obtain⟨v,rfl,h⟩:=eO r;exact .inr (.inr ⟨b,by rw[h.bl_inv],k _ H (Same.refl _) (.int _)⟩)
end
noncomputable def uW (X:Cx)(pn:List (Addr×Obj))(E:Value->Shared->Prop):Cx:={ X with pn:=pn,xe:=E }
section
variable {X:Cx}{pins pins' pn:List (Addr×Obj)}{σ:L2.St}{H H1 H':Hp}{s s1 s':Shared}{E:Value->Shared->Prop}{os:List Addr}{δ:Ev}
def Rg (ok:X.Ok):(uW X pn E).Ok:=⟨ok.mod,ok.kind,ok.glob,ok.blt,ok.above,ok.inj,ok.has,ok.cab,ok.hd,ok.frames,ok.stk,ok.exf,ok.bs,ok.bsz,ok.noex,ok.exfs,ok.funs,ok.frf⟩
def Ox (ok:(uW X pn E).Ok):X.Ok:=⟨ok.mod,ok.kind,ok.glob,ok.blt,ok.above,ok.inj,ok.has,ok.cab,ok.hd,ok.frames,ok.stk,ok.exf,ok.bs,ok.bsz,ok.noex,ok.exfs,ok.funs,ok.frf⟩
def Ph (I:Inv X pins σ H s):Inv (uW X (X.pn++pins) E) [] σ H s:=⟨Rg I.ok,I.os,I.bare,I.base,I.loc,I.cell,I.free,I.freeC,fun p hp=>I.pin p (by simpa[uW] using hp),I.hok,I.len⟩
def Bh (I:Inv (uW X (X.pn++pins) E) pins' σ H s):Inv X pins σ H s:=⟨Ox I.ok,I.os,I.bare,I.base,I.loc,I.cell,I.free,I.freeC,fun p hp=>I.pin p (List.mem_append_left _ hp),I.hok,I.len⟩
end
def xY (X:Cx)(cl:Value)(σ:L2.St)(H:Hp)(e:Value)(s':Shared):Prop :=
 ∃s1 H1 H' ea T a0,e=.ref ea/\Inv X [] σ H1 s1/\Same H H1/\s'.os=s1.os/\AllBare s'.gens/\Un (frs X.stack) [] H1 H' s1.heap s'.heap/\HOk X.prog X.w H' s'.heap/\Same H1 H'/\Qx s'.heap ea T cl a0 .none /\
  s1.heap.get? ea=none/\s1.heap.get? T=none/\H' ea=none/\H' T=none
section
variable {X:Cx}{cl:Value}{e:Expr}{es:List Expr}{pos p:Pos}
end
section
variable {X:Cx}{cl:Value}{σ:L2.St}{H1 H':Hp}{s1 s':Shared}{ea T:Addr}{a0:Value}{h6:Heap}{pins:List (Addr×Obj)}
abbrev hid (X:Cx)(s':Shared)(ea T:Addr):Heap:=PySem.W.hideAll s'.heap ([ea,T]++frs X.stack)
def Ld (I1:Inv X pins σ H1 s1)(un:Un (frs X.stack) [] H1 H' s1.heap s'.heap)(hok:HOk X.prog X.w H' s'.heap)(ho:s'.os=s1.os)(hb:AllBare s'.gens)(et:Qx s'.heap ea T cl a0 .none):Heap.FlyingW (hid X s' ea T) X.stack ea cl a0 s'.heap:=by
 have J:=I1.call' (s':=s') (ch:=[]) ho un hok hb (fun b z=>absurd z (by simp));obtain⟨oe,vs,oT,ts,he,hc,h0,hd,h1,hTe,hT,hdT,h3⟩:=et;have tn:(hid X s' ea T).get? T=none:=PySem.W.hideAll_none _ (by simp);have ff:=PySem.W.funFrames_hide (as:=[ea,T]++frs X.stack) (show s'.heap.FunFrames X.base X.stack from J.stack) (fun env he b hb=>List.mem_append_right _ (Aq he hb));exact⟨fun b o q=>PySem.W.of_hideAll _ q,PySem.W.hideAll_none _ (by simp),ff,⟨oe,vs,T,oT,ts,he,⟨hc,h0⟩,hd,h1,tn,hTe,hT,hdT,h3⟩⟩
def xE (I1:Inv X pins σ H1 s1)(un:Un (frs X.stack) [] H1 H' s1.heap s'.heap)(hok:HOk X.prog X.w H' s'.heap)(ho:s'.os=s1.os)(hb:AllBare s'.gens)(n1:s1.heap.get? ea=none)(n2:s1.heap.get? T=none)(n3:H' ea=none)(n4:H' T=none)
 (fly:Heap.FlyingW (hid X s' ea T) X.stack ea cl a0 h6) (up:s'.heap.UpToSlots h6):Inv X pins σ H' { s' with heap:=h6 }/\∃oe,h6.get? ea=some oe/\oe.cls=cl/\(∀v,oe.data≠.cell v)/\ea≠X.env.locals/\ea∉X.fs:=by
 have J:=I1.call' (s':=s') (ch:=[]) ho un hok hb (fun b z=>absurd z (by simp));obtain⟨k1,_,k2,k3⟩:=fly;have nfr:∀b,b∈frs X.stack->∃o,s'.heap.get? b=some o/\∀ws,o.data≠.fields ws:=fun b hb=>(J.stack.mem hb).2;have go:∀b o,s'.heap.get? b=some o->b≠ea->b≠T->b∉frs X.stack->h6.get? b=some o:=fun b o q q1 q2 q3=>k1 b o (PySem.W.hideAll_get _ q fun z=>by
  rcases List.mem_append.mp z with z | z
  ·rcases List.mem_cons.mp z with z | z
   ·exact q1 z
   ·exact q2 (List.mem_singleton.mp z)
  ·exact q3 z)
 have new:∀b o,s1.heap.get? b=some o->b≠ea/\b≠T:=fun b o q=>⟨fun z=>(by rw[z,n1] at q;cases q),fun z=>(by rw[z,n2] at q;cases q)⟩;have slots:∀b,b∈frs X.stack->∀o,s'.heap.get? b=some o->∃sl,h6.get? b=some { o with slots:=sl }:=fun b hb o q=>by
  obtain⟨o',q',nf⟩:=nfr b hb;rw[q] at q';cases q';exact up b o q nf
 have u2:Un (frs X.stack) [] H1 H' s1.heap h6:=by
  refine⟨fun b o q nb q1 q2=>go b o (un.keep b o q nb q1 q2) (new b o q).1 (new b o q).2 q1,fun b o q nb q1 q2=>?_,fun b o q nb q2=>un.free b o q nb q2,fun b o q q2=>?_,un.tups,un.frzs,un.tbls⟩
  ·obtain⟨sl,q3⟩:=un.slot b o q nb q1 q2;obtain⟨sl2,q4⟩:=slots b q1 _ q3;exact⟨sl2,q4⟩
  ·obtain⟨o',q3⟩:=un.there b o q q2;by_cases hb:b∈frs X.stack
   ·obtain⟨sl,q4⟩:=slots b hb _ q3;exact⟨_,q4⟩
   ·exact⟨o',go b o' q3 (new b o q).1 (new b o q).2 hb⟩
 have Ff:∀b u,H' b=some u->b≠ea/\b≠T/\b∉frs X.stack:=fun b u q=>by
  refine⟨fun z=>?_,fun z=>?_,fun z=>?_⟩
  ·rw[z,n3] at q;cases q
  ·rw[z,n4] at q;cases q
  ·rw[J.stkFree b z] at q;cases q
 have ok2:HOk X.prog X.w H' h6:=fun b u q=>by
  refine(hok b u q).stay (fun c v hc qc=>?_) (fun _ q=>q) fun _ _ q=>q;have tr:c≠ea/\c≠T/\c∉frs X.stack:=by
   rcases hc with rfl | hc
   ·exact Ff c u q
   ·exact Ff c _ hc
  exact go c v qc tr.1 tr.2.1 tr.2.2
 have I6:=I1.call' (s':={ s' with heap:=h6 }) (ch:=[]) ho u2 ok2 hb (fun b z=>absurd z (by simp));obtain⟨oe,vs,T2,oT,ts,he,⟨hc,h0⟩,hd,r⟩:=k3;have ncell:∀v,oe.data≠.cell v:=fun v z=>by rw[hd] at z;cases z
 refine⟨I6,oe,he,hc,ncell,fun z=>?_,fun z=>?_⟩
 ·obtain⟨m,⟨o,es,ep,q,qd,_⟩,_⟩:=I6.loc;rw[<-z] at q;have q':h6.get? ea=some o:=q;rw[he] at q';cases q';rw[hd] at qd;cases qd
 ·obtain⟨_,o,q,nf⟩:=I6.funs.mem z;have q':h6.get? ea=some o:=q;rw[he] at q';cases q';exact nf _ hd
def Dh {M:Model}{A:Around}{E:Value->Shared->Prop}{s:Shared}{H:Hp}{k:Nat}{n:Str}{pos:Pos}{Q:Unit->Shared->Prop}(I:Inv X pins σ H s)(hN:X.N.Nodup)(hk:X.N[k]? = some n)(hl:X.env.kindOf n=some .local)
 (h:∀s',Inv X pins (σ.set k none) H s'->Q () s'):wpAny M A (do bindName X.env n .none;unbindBehindTheSuite X.env n pos) Q E s:=by
 obtain⟨m,hn,hlk⟩:=id I.loc;have hcls:(X.env.scope.kind==.class||(X.env.scope.kind==.module&&X.env.locals != X.env.globals))=false:=by rw[I.ok.kind];rfl
 refine wpAny_nameGoes_keeps hl hn hcls fun h' v hn' hs=>h _ ?_;have off:∀b o,X.s₀.heap.get? b=some o->b≠X.env.locals:=fun b o q=>Nat.ne_of_lt (Nat.lt_of_lt_of_le (Heap.lt_size q) I.ok.above);refine⟨I.ok,I.os,I.bare,⟨fun b o q n1 n2 n3=>(hs.2 b (off b o q)).trans (I.base.keep b o q n1 n2 n3),fun b o q n1 n2 n3=>?_,I.base.free,fun b o q n3=>?_,I.base.tups,I.base.frzs,I.base.tbls⟩,⟨_,hn',fun j y w e1 e2 e3=>?_⟩,fun y c e=>?_,I.free,I.freeC,fun p hp=>?_,fun b u q=>?_,by simpa using I.len⟩
 ·obtain⟨sl,q1⟩:=I.base.slot b o q n1 n2 n3;exact⟨sl,(hs.2 b (off b o q)).trans q1⟩
 ·obtain⟨o',q1⟩:=I.base.there b o q n3;exact⟨o',(hs.2 b (off b o q)).trans q1⟩
 ·have hj:j≠k:=fun z=>by
   subst z;by_cases hlt:j<σ.length
   ·rw[List.getElem?_set_self hlt] at e2;cases e2
   ·rw[List.getElem?_eq_none (by simpa using hlt)] at e2;cases e2
  rw[List.getElem?_set_ne (Ne.symm hj)] at e2;obtain⟨u,r,l⟩:=hlk j y w e1 e2 e3;have hy:y≠n:=fun z=>hj (qJ hN e1 (z ▸ hk));refine⟨u,r,?_⟩;rcases l with ⟨l1,l2⟩ | ⟨l1,c,l2,l3⟩
  ·exact .inl ⟨l1,by show (if y=n then v else m y)=some u;rw[if_neg hy];exact l2⟩
  ·exact .inr ⟨l1,c,l2,l3.sameBut hs (I.cne y c l2)⟩
 ·obtain⟨w,z⟩:=I.cell y c e;exact⟨w,z.sameBut hs (I.cne y c e)⟩
 ·obtain⟨e1,e2,e3,e4,e5⟩:=I.pin p hp;exact⟨(hs.2 p.1 e3).trans e1,e2,e3,e4,e5⟩
 ·refine(I.hok b u q).stay (fun c w hc qc=>(hs.2 c ?_).trans qc) (fun _ q=>q) fun _ _ q=>q;rintro rfl;rcases hc with rfl | hc
  ·rw[I.free] at q;cases q
  ·rw[I.free] at hc;cases hc
end
structure uE (K:PySem.W.Frag)(D:Addr):Prop where
 get:PySem.W.findIn K (.ref D) "__getattribute__"=some (some (.builtin "BaseException.__getattribute__"))
 hook:PySem.W.findIn K (.ref D) "__getattr__"=some none
 exc:PySem.W.mroIn K D (.type "BaseException")=some true
 has:PySem.W.hasDictIn K D=true
 cls:PySem.W.findIn K (.ref D) "__class__"=some (some (.builtin "object.__class__"))
 dget:PySem.W.specialIn K (.builtin "object.__class__") "__get__"=some (some (.builtin "getset_descriptor.__get__"))
 takes:PySem.W.takesIn K (.builtin "object.__class__")=some true
 mro:PySem.W.mroIn K D (.type "object")=some true
def IsOf (e D:Addr)(h:Heap):Prop:=∃o,h.get? e=some o/\o.cls=.ref D
def IsOf.ty {e D:Addr}{h:Heap}(M:Model)(p:IsOf e D h):PySem.W.Looks M h (typeOf (.ref e)) (.ref D):=by
 obtain⟨o,h1,h2⟩:=p;exact h2 ▸ (PySem.W.Looks.ld h1).andThen .now
def K4 {K:PySem.W.Frag}{D:Addr}{h:Heap}(M:Model)(X:K.In h)(c:PySem.W.hasDictIn K D=true):PySem.W.Looks M h (isType (.ref D)) true :=
 fun A Q E s k q=>PySem.W.mc_isType (s:=s) (X.keeps k) c A Q E s (fun _ _ e=>e) q
def Eb {K:PySem.W.Frag}{e D:Addr}{prog:Program}{w:World}{A:Around}{E:Value->Shared->Prop}{s:Shared}{Q:Option Value->Shared->Prop}(c:uE K D)(X:K.In s.heap)(p:IsOf e D s.heap)(h:Q (some (.ref D)) { s with toks:=s.toks+1 }) :
 wpAny (model prog w) A (getAttr? (.ref e) "__class__") Q E s:=by
 obtain⟨h0,g,d,t,os⟩:=s;have L0:=p.ty (model prog w);have L1:=PySem.W.looks_findIn (M:=model prog w) X c.get;have L2:=PySem.W.looks_findIn (M:=model prog w) X c.hook;have L3:=PySem.W.looks_findIn (M:=model prog w) X c.cls;have L4:=PySem.W.looks_specialIn (M:=model prog w) X c.dget;have L5:=PySem.W.looks_takesIn (M:=model prog w) X c.takes;have L6:=PySem.W.looks_mroIn (M:=model prog w) X c.mro;have L8:=PySem.W.looks_mroIn (M:=model prog w) X c.exc;unfold getAttr?;unfold getAttrBy?;unfold getAttrBy;refine wpAny_bind (wpAny_mkText (wpAny_bind (wpAny_attempt (wpAny_holding ?_))))
 iterate 4 lk
 have hne:(onTheHeap (Value.ref D)&&Value.builtin "BaseException.__getattribute__"==Value.builtin "object.__getattribute__")=false:=by
  rw[show (Value.builtin "BaseException.__getattribute__"==Value.builtin "object.__getattribute__")=false by decide +kernel];rfl
 simp only[hne,if_false,Bool.false_eq_true];have L9:PySem.W.Looks (model prog w) h0 (typeOf (.builtin "BaseException.__getattribute__")) (.type "wrapper_descriptor"):=PySem.W.Looks.of_pure (by show builtinType _=_;rw[builtinType_eq_fast];kernel_rfl);unfold getAttrByItsOwn hookBefore callGetattribute boundAndCalled bindSpecial;simp only[show onTheHeap (Value.ref D)=true from rfl,if_true,Bool.false_and,Bool.false_eq_true,if_false];iterate 40 (first | (with_reducible show codeAny _ _ _ _ _) | with_reducible refine wpAny_call ?_ | with_reducible refine wpAny_attempt ?_ | lk | rw[if_pos (by decide +kernel)])
 refine codeAny_call_builtin PySem.F.attr_ValueError.ga.plain PySem.F.entry_bexc_ga ?_;have kd:builtinKind "BaseException.__getattribute__"=some .slot:=by decide +kernel
 have hsp:splitId "BaseException.__getattribute__"=some ("BaseException","__getattribute__"):=by decide +kernel
 have hargs:=PySem.F.args_bexc_ga (.ref e) (.str "__class__" t);simp only[checkBuiltinCall,kd,hsp,List.cons_append,List.nil_append];unfold isInstance;refine wpAny_bind (wpAny_bind (L0.at (L8.at ?_)));refine wpAny_of_eq hargs (show wpAny _ _ (Builtin.«object.__getattribute__» _) _ _ _ from ?_)
 delta Builtin.«object.__getattribute__»
 iterate 60 (first | (with_reducible show codeAny _ _ _ _ _) | with_reducible refine wpAny_call ?_ | lk)
 refine codeAny_call_builtin PySem.W.KF.slot_gs.plain PySem.W.KF.entry_gs (PySem.W.KF.slot_gs.check _ _ _ _ _ _ _ _ PySem.W.KF.type_class (PySem.W.KF.args_gs _ _ _) ?_);unfold Builtin.«getset_descriptor.__get__» Builtin.Getset_descriptor.descrGet;rw[PySem.W.dga_obj];unfold Builtin.Getset_descriptor.descrGetter Builtin.Getset_descriptor.descrCheckInstance Builtin.Getset_descriptor.descrNameAndClass;have L7:PySem.W.Looks (model prog w) h0 (isSubtype (.ref D) (.type (Builtin.Getset_descriptor.descrOwnerAndName "object.__class__").fst)) true:=by
  rw[PySem.W.KF.owner_class];exact L6
 unfold isInstance;repeat lk
 refine⟨Code.quiet_builtin _ (by decide +kernel),codeAny_builtin PySem.W.KF.entry_class ?_⟩
 delta Builtin.«object.__class__»
 unfold shownTypeOf;repeat lk
 exact h
def Hr {K:PySem.W.Frag}{e D:Addr}(c:uE K D):PySem.W.KitX K (.ref e) (.ref D) (IsOf e D) where
 ty:=fun M h _ p=>p.ty M
 it:=fun M h X _=>K4 M X c.has
 ne:=fun _ tp _ _ _ _ X htp=>by
  have hd:D≠tp:=fun z=>by
   subst z;obtain⟨cd,hc,_⟩:=PySem.W.any_some c.has;unfold PySem.W.clsIn at hc;split at hc
   ·rename_i ho;cases (X _ _ ho).symm.trans htp
   ·cases hc
  simpa using hd
 ca:=fun X p k=>Eb c X p k
section
variable {X:Cx}{cl:Value}{Nw:Addr->Prop}{e:Expr}{es:List Expr}{pos p:Pos}
end
section
variable {Y:Cx}{ea C:Addr}{oe:Obj}{k:Nat}{en:Str}{pos p p2 p3:Pos}
noncomputable def suite (X:Cx)(pins:List (Addr×Obj))(ea:Addr)(oe:Obj):Cx:={ X with A:=X.A.mark (some (.ref ea)),calm:=false,pn:=X.pn++pins++[(ea,oe)],xe:=fun _ _=>False }
def v5 {X:Cx}{pins:List (Addr×Obj)}{σ:L2.St}{H:Hp}{s:Shared}(I:Inv X pins σ H s)(h1:s.heap.get? ea=some oe)(h2:H ea=none)(h3:ea≠X.env.locals)(h4:ea∉X.fs)(h5:∀v,oe.data≠.cell v):Inv (suite X pins ea oe) [] σ H s:=by
 have ok:=I.ok;refine⟨⟨ok.mod,ok.kind,ok.glob,ok.blt,ok.above,ok.inj,ok.has,ok.cab,fun z=>(nomatch z),ok.frames,ok.stk,ok.exf,ok.bs,ok.bsz,ok.noex,ok.exfs,ok.funs,ok.frf⟩,I.os,I.bare,I.base,I.loc,I.cell,I.free,I.freeC,fun p hp=>?_,I.hok,I.len⟩;have hp':p∈X.pn++pins++[(ea,oe)]:=by simpa[suite] using hp
 rcases List.mem_append.mp hp' with old | new
 ·exact I.pin p old
 ·rw[List.mem_singleton.mp new];exact⟨h1,h2,h3,h4,h5⟩
def Cp {X:Cx}{pins:List (Addr×Obj)}{σ:L2.St}{H:Hp}{s:Shared}(I:Inv (suite X pins ea oe) [] σ H s)(J:X.Ok):Inv X pins σ H s :=
 ⟨J,I.os,I.bare,I.base,I.loc,I.cell,I.free,I.freeC,fun p hp=>I.pin p (by simp only[suite,List.append_nil];exact List.mem_append_left _ hp),I.hok,I.len⟩
def Nf (Y:Cx)(P:L2.St->Prop)(e:Expr)(b:Bool):Prop:=∃t:TT,PT Y e t/\∀σ H Q,P σ->Q b H->t σ H Q
def S5 (Y:Cx)(P:L2.St->Prop)(e:Expr)(b:Bool):Prop:=∃t:TT,PW Y e t/\∀σ H Q,P σ->Q b H->t σ H Q
def O3 {P:L2.St->Prop}{a:Expr}(h:Nf Y P a true):S5 Y P (.BoolOp .And [a] pos) true:=let ⟨t,q,r⟩:=h;⟨t,zY q,r⟩
def Hq {P:L2.St->Prop}{a b:Expr}{rest:List Expr}(h:Nf Y P a true)(h':S5 Y P (.BoolOp .And (b::rest) pos) true):S5 Y P (.BoolOp .And (a::b::rest) pos) true:=by
 obtain⟨t,q,r⟩:=h;obtain⟨t',q',r'⟩:=h';exact⟨_,Gr q q',fun σ H Q hp hq=>r σ H _ hp (qN (r' σ H Q hp hq))⟩
def O4 {P:L2.St->Prop}{a:Expr}(h:Nf Y P a false):Nf Y P (.UnaryOp .Not a pos) true:=by
 obtain⟨t,q,r⟩:=h;exact⟨_,Gs q,fun σ H Q hp hq=>r σ H _ hp hq⟩
def Ju {c:Value}{cv:V}{b:Bool}(hpn:(ea,oe)∈Y.pn)(hc:oe.cls=.ref C)(cok:uE Y.K C)(hk:PySem.W.kitOne Y.K (.ref C) c=some b)(hv:∀u,RelV cv u->u=c) :
 cL Y (.builtin "isinstance") (fun xs H Q=>xs=[.ref ea,cv]/\Q (.bl b) H):=by
 rintro pins s σ H xs us Q I r ⟨rfl,q⟩;obtain⟨u,w',rfl,rx,rw'⟩:=vals2 r;cases rx;have e:=hv _ rw';subst e;exact PySem.W.kia_one (Hr cok) I.kIn ⟨oe,(I.pin (ea,oe) (List.mem_append_left _ hpn)).1,hc⟩ hk (fun z=>nomatch z) fun tk=>⟨.bl b,H,I.tok tk,rfl,q⟩
def yV {tn:Str}{tcn:V}{c:Value}{b:Bool}(hpn:(ea,oe)∈Y.pn)(hc:oe.cls=.ref C)(cok:uE Y.K C)(hk:PySem.W.kitOne Y.K (.ref C) c=some b)(hv:∀u,RelV tcn u->u=c)(hg:Gl Y "isinstance")(hm:Y.mg "isinstance"=none)
 (hen:PE Y (.Name en p2) (cG k)) (hT:PE Y (.Name tn p3) (L2.tC tcn))
 (h1:starEach [.Name en p2,.Name tn p3] Y.env=(false,eval (.Name en p2) Y.env)::starEach [.Name tn p3] Y.env) (h2:starEach [.Name tn p3] Y.env=(false,eval (.Name tn p3) Y.env)::starEach [] Y.env)
 (hpl:(backTo pos (starEach [.Name tn p3] Y.env)).any (·.1)=false)
 (htr:∀whole,isTrue (.Call (.Name "isinstance" p) [.Name en p2,.Name tn p3] [] pos) Y.env whole=(do let v <-whole;standAt (Expr.pos (.Call (.Name "isinstance" p) [.Name en p2,.Name tn p3] [] pos));holding [v] (truthy v))) :
 Nf Y (fun σ=>σ[k]? = some (some (.ref ea))) (.Call (.Name "isinstance" p) [.Name en p2,.Name tn p3] [] pos) b:=by
 have P1:=iu (p:=p) (pos:=pos) (Ju hpn hc cok hk hv) hg hm (by rfl) (aJ hen (aJ hT aY h2) h1) (by decide) (by decide) h1 hpl;exact⟨_,wC P1 htr,fun σ H Q hp hq=>⟨_,hp,⟨rfl,⟨b,rfl,hq⟩⟩⟩⟩
end
section
variable {X:Cx}{PX:Prop}
end
end DL
namespace DL
open PySem
abbrev Tab:=List (Int×List Int)
noncomputable def bh (r:List Int)(ts:List Int)(b:Int):List Int:=ts.foldl (fun r t=>r.set t.toNat (r.getD t.toNat 0+b)) r
def fD:Tab->Int->List Int->Int->Tab
 | [],far,ts,b=>[(far,bh (List.replicate 24 0) ts b)]
 | (k,r)::T,far,ts,b=>if k=far then (k,bh r ts b)::T else (k,r)::fD T far ts b
def uG:D->Option (List Int)
 | .lst ds=>(intsOf ds).bind fun is=>if (is.all fun t=>decide (0<=t)&&decide (t<24))=true then some is else none
 | _=>none
noncomputable def zQ:D->Option (Int×Int)
 | .tup [.int a,.int b]=>some (a,b)
 | _=>none
def vh (sp tu:MF):List D->Tab->Option Tab
 | [],T=>some T
 | p::ps,T=>(sp [p]).bind fun s=>(zQ s).bind fun q=>(tu [p]).bind fun t=>(uG t).bind fun ts =>
   if T.length+2<=1000000 then vh sp tu ps (fD (fD T q.1 ts 1) q.2 ts (-1)) else none
noncomputable def jn (T:Tab):D:=.dic false (T.map fun p=>.int p.1) (T.map fun p=>.lst (p.2.map D.int))
def iz (sp tu:MF):MF:=fun ds=>match ds with
 | [.tup ps]=>(vh sp tu ps []).bind fun T=>some (jn T)
 | _=>none
def cD (b:Int):∀(ts r:List Int),(bh r ts b).length=r.length
 | [],_=>rfl
 | t::ts,r=>by
   show (bh (r.set t.toNat _) ts b).length=_;rw[cD b ts];simp
def mW:∀(T:Tab) (far:Int) (ts:List Int) (b:Int),(fD T far ts b).length<=T.length+1
 | [],_,_,_=>by simp[fD]
 | (k,r)::T,far,ts,b=>by
   unfold fD;split
   ·simp
   ·have:=mW T far ts b;simp only[List.length_cons];omega
noncomputable def Pj (C:Nat)(ns:List Str)(vs:List D):D:=.dic true (.non::.int (C:Int)::ns.map D.str) vs
def xD (f:Str):List D->List D->Option D
 | .str g::ns,v::vs=>if (f==g)=true then some v else xD f ns vs
 | _,_=>none
def vV (C:Nat)(f:Str):D->Option D
 | .dic true (.non::.int c::ns) vs=>if c=(C:Int) then xD f ns vs else none
 | _=>none
def tR (f:Str):List D->Bool
 | .str g::ns => !(f==g)&&tR f ns
 | _=>true
def Bg (C:Nat)(f:Str):D->Bool
 | .dic true (.non::.int c::ns) _=>decide (c=(C:Int))&&tR f ns
 | _=>false
def dO (C:Nat)(f:Str)(fn:MF)(mo:ME)(ma:MA):ME:=fun δ=>(mo δ).bind fun d=>if Bg C f d=true then (ma δ).bind fun ds=>fn (d::ds) else none
noncomputable def yh:D->Option D
 | .dic false ks _=>if ks.length<=16777216 then some (.tup ks) else none
 | _=>none
noncomputable def yg:D->Option D
 | .dic false ks vs=>if vs.length<=16777216 then some (.tup vs) else none
 | _=>none
def pM (a:ME):MI:=fun δ=>(a δ).bind fun d=>match d with
 | .dic false ks vs=>some (fM ks vs)
 | _=>none
noncomputable def Hw (a:ME):MI:=fun δ=>(a δ).bind fun d=>match d with
 | .dic false ks _=>some ks
 | _=>none
def uF:D->Option D
 | .dic false ks _=>(intsOf ks).bind fun is=>if is.length<64/\is.Pairwise (·<=·) then some (.lst ks) else none
 | _=>none
noncomputable def zO:D->Option D
 | .dic false ks _=>some (.int ks.length)
 | _=>none
def Bt (a k:ME):ME:=fun δ=>(a δ).bind fun x=>(k δ).bind fun z=>match x,z with
 | .dic false ks vs,.int i=>bJ ks vs i
 | _,_=>none
def Ia (k a:ME):ME:=fun δ=>(k δ).bind fun z=>(a δ).bind fun x=>match x,z with
 | .dic false ks vs,.int i=>some (.bl (bJ ks vs i).isNone)
 | _,_=>none
noncomputable def pairsOf:List D->Option (List Int×List D)
 | []=>some ([],[])
 | .tup [.int k,v]::r=>(pairsOf r).bind fun q=>some (k::q.1,v::q.2)
 | _=>none
def pR:D->Option D
 | .lst ds=>(pairsOf ds).bind fun q=>if q.1.Nodup/\q.1.length<=1000 then some (.dic false (q.1.map D.int) q.2) else none
 | _=>none
end DL
namespace DL
open PySem PySem.Spec PyProof.Rows L2
section
variable {X:Cx}{e k a b o:Expr}{es:List Expr}{me mk ma mb mo:ME}{m:MA}{pos p p2 apos:Pos}
def Bk {K:PySem.W.Frag}{H:Hp}{c:Int}{ns vs:List D}{v:V}(h:Den K H (.dic true (.non::.int c::ns) vs) v) :
 ∃a C dx fs,v=.ref a/\H a=some (.ins C dx fs)/\c=(C:Nat)/\ns=fs.map (fun p=>D.str p.1)/\Dens K H vs (fs.map (·.2)):=by
 obtain⟨a,xs,rfl,hF,hv⟩:=h.dic_inv;rcases hF with ⟨z,_⟩ | ⟨_,⟨o,kvs,_,e,_⟩ | ⟨C,dx,fs,h1,e,rfl⟩⟩
 ·cases z
 ·cases kvs with
  | nil=>cases e
  | cons q r=>rw[List.map_cons] at e;cases e
 ·injection e with _ e;injection e with e1 e2;injection e1 with e1;exact⟨a,C,dx,fs,rfl,h1,e1,e2,hv⟩
def BL {K:PySem.W.Frag}{H:Hp}{a C dx:Addr}{fs:List (Str×V)}{vs:List D}(h:H a=some (.ins C dx fs))(hv:Dens K H vs (fs.map (·.2))):Den K H (Pj C (fs.map (·.1)) vs) (.ref a) :=
 .dic (.inr ⟨rfl,.inr ⟨C,dx,fs,h,by rw[List.map_map];rfl,rfl⟩⟩) hv
def xC {K:PySem.W.Frag}{H:Hp}{f:Str}{d:D}:∀{fs:List (Str×V)} {vs:List D},Dens K H vs (fs.map (·.2))->xD f (fs.map fun p=>D.str p.1) vs=some d->∃v,fs.lookup f=some v/\Den K H d v
 | [],_,_,e=>by cases e
 | (g,x)::fs,[],h,_=>by have:=h.length;simp at this
 | (g,x)::fs,y::vs,h,e=>by
   obtain⟨u,r,e1,h1,h2⟩:=h.uncons;rw[List.map_cons] at e1;cases e1;rw[List.map_cons] at e;have e':(if (f==g)=true then some y else xD f (fs.map fun p=>D.str p.1) vs)=some d:=e;rw[List.lookup_cons];split at e'
   ·rename_i hc;cases e';rw[hc];exact⟨x,rfl,h1⟩
   ·rename_i hc;rw[Bool.eq_false_iff.mpr hc];exact xC h2 e'
def Am {f:Str}:∀{fs:List (Str×V)},tR f (fs.map fun p=>D.str p.1)=true->fs.lookup f=none
 | [],_=>rfl
 | (g,x)::fs,h=>by
   have h':(!(f==g)&&tR f (fs.map fun p=>D.str p.1))=true:=h;rw[Bool.and_eq_true] at h';rw[List.lookup_cons,show (f==g)=false by simpa using h'.1];exact Am h'.2
def zy {C:Addr}{f:Str}(he:DE X e me)(c:Cls X.K C)(na:NoAttr X.K C f)(hb:attributeBase e f X.env (eval e X.env)=eval e X.env:=by rfl):DE X (.Attribute e f pos) (kE (vV C f) me):=by
 obtain⟨t,p,q⟩:=he;refine⟨_,qC p hb,fun os σ H δ d Q s m k=>?_⟩;obtain⟨x,e1,m2⟩:=aj m;clear m;refine q os σ H δ x _ s e1 fun v H1 g1 r1=>?_;unfold vV at m2;split at m2
 ·split at m2
  ·rename_i hc;obtain⟨a,C',dx,fs,rfl,h1,e2,rfl,hv⟩:=Bk r1;have e3:C'=C:=by rw[e2] at hc;exact Int.ofNat.inj hc
   subst e3;obtain⟨v,l,dv⟩:=xC hv m2;exact⟨a,C',dx,fs,v,rfl,hide_le _ _ h1,c,na,l,k _ H1 g1 dv⟩
  ·cases m2
 ·cases m2
def ud {K:PySem.W.Frag}{H:Hp}{C:Addr}{f:Str}{d:D}{v:V}(h:Bg C f d=true)(r:Den K H d v):∃a dx fs,v=.ref a/\H a=some (.ins C dx fs)/\fs.lookup f=none:=by
 unfold Bg at h;split at h
 ·rw[Bool.and_eq_true] at h;obtain⟨a,C',dx,fs,rfl,h1,e2,rfl,hv⟩:=Bk r;have hc:=of_decide_eq_true h.1;have e3:C'=C:=by rw[e2] at hc;exact Int.ofNat.inj hc
  subst e3;exact⟨a,dx,fs,rfl,h1,Am h.2⟩
 ·cases h
def Lj {C f:Addr}{n:Str}{fd:FuncData}{ps:List Str}{j:Nat}{fn:MF}{pl:Sem Bool}(ho:DE X o mo)(c:Cls X.K C)(hm:Meth X.K C n f)(F:eF X.prog X.w X.K X.mg X.base ou j f fd ps (rJ X.K fn))(hr:Room j X.A)(hb:Binds X.K fd ps [])(ha:DA X (e::es) m)
 (hst:starEach (e::es) X.env=(false,eval e X.env)::starEach es X.env:=by rfl) (hpl:(backTo pos (starEach es X.env)).any (·.1)=false:=by rfl)
 (ht:eval (.Call (.Attribute o n apos) (e::es) [] pos) X.env=(do
  let ov <-eval o X.env
  standAt apos.atName
  let (f,first) <-holding [ov] (getMethod ov n pl)
  callWith pos f first (backTo pos (starEach (e::es) X.env)) (backToKw pos (keywordEach [] X.env))):=by rfl) :
 DE X (.Call (.Attribute o n apos) (e::es) [] pos) (dO C n fn mo m):=by
 obtain⟨t,p,q⟩:=ho;obtain⟨hl,ta,pa,qa⟩:=ha;refine⟨_,Ag (pl:=pl) p c hm F hr hb .nil iw pa hst hpl ht,fun os σ H δ d Q s m k=>?_⟩;obtain⟨x,e1,m⟩:=aj m;split at m
 ·rename_i hi;obtain⟨ds,e2,m⟩:=aj m;refine q os σ H δ x _ s e1 fun v H1 g1 r1=>?_;obtain⟨a,dx,fs,rfl,h1,l⟩:=ud hi r1;refine⟨a,dx,fs,rfl,hide_le _ _ h1,l,?_⟩;refine qa os σ H1 δ ds _ (s.mono g1) e2 fun vs H2 g2 r2=>?_;rw[List.append_nil];exact⟨os,x::ds,d,s.live.mono (g1.trans g2),.cons (r1.mono g2.hd _ _) r2,m,k.mono (g1.trans g2)⟩
 ·cases m
def IW {C f:Addr}{n:Str}{fd:FuncData}{ps:List Str}{j:Nat}{fn:MF}{pl:Sem Bool}(ho:DE X o mo)(c:Cls X.K C)(hm:Meth X.K C n f)(F:eF X.prog X.w X.K X.mg X.base ou j f fd ps (rJ X.K fn))(hr:Room j X.A)(hb:Binds X.K fd ps [])
 (ht:eval (.Call (.Attribute o n apos) [] [] pos) X.env=(do
  let ov <-eval o X.env
  standAt apos.atName
  let (f,first) <-holding [ov] (getMethod ov n pl)
  callWith pos f first (backTo pos (starEach [] X.env)) (backToKw pos (keywordEach [] X.env))):=by rfl) :
 DE X (.Call (.Attribute o n apos) [] [] pos) (dO C n fn mo aD):=by
 obtain⟨t,p,q⟩:=ho;refine⟨_,GK (pl:=pl) p c hm F hr hb .nil iw ht,fun os σ H δ d Q s m k=>?_⟩;obtain⟨x,e1,m⟩:=aj m;split at m
 ·rename_i hi;obtain⟨ds,e2,m⟩:=aj m;cases e2;refine q os σ H δ x _ s e1 fun v H1 g1 r1=>?_;obtain⟨a,dx,fs,rfl,h1,l⟩:=ud hi r1;refine⟨a,dx,fs,rfl,hide_le _ _ h1,l,?_⟩;exact⟨os,[x],d,s.live.mono g1,.cons r1 .nil,m,k.mono g1⟩
 ·cases m
def DK {X:Cx}{a b c:Expr}{ma mb mc:ME}{pos:Pos}{op op':CmpOp}{f g:D->D->Option D}(ho:vI X (compareOp op) f)(ho':vI X (compareOp op') g)(hf:∀x y d,f x y=some d->∃k,d=.bl k)(hg:∀x y d,g x y=some d->∃k,d=.bl k)
 (ha:DE X a ma) (hb:DE X b mb) (hc:DE X c mc) (hm:lastMarks [op,op'] [b,c]=false:=by with_unfolding_all rfl):DT X (.Compare a [op,op'] [b,c] pos) (tV (eV f g ma mb mc)):=by
 obtain⟨r,hr,qr⟩:=ho;obtain⟨r',hr',qr'⟩:=ho';obtain⟨ta,pa,qa⟩:=ha;obtain⟨tb,pb,qb⟩:=hb;obtain⟨tc,pc,qc⟩:=hc;refine⟨_,Gu hr hr' pa pb pc hm,fun os σ H δ d Q s m kq=>?_⟩;obtain⟨w,m,mt⟩:=aj m;obtain⟨x,e1,m⟩:=aj m;obtain⟨y,e2,m⟩:=aj m;obtain⟨z,e3,m⟩:=aj m;obtain⟨k,rfl⟩:=hf x y z e3;refine qa os σ H δ x _ s e1 fun vx H1 g1 r1=>?_;refine qb os σ H1 δ y _ (s.mono g1) e2 fun vy H2 g2 r2=>?_;refine qr os H2 (s.live.mono (g1.trans g2)) x y _ vx vy _ (r1.mono (g2).hd _ _) r2 e3 fun vz H3 g3 r3=>⟨k,r3.bl_inv,?_⟩;have g13:=g1.trans (g2.trans g3);cases k with
 | false =>
   cases m;cases mt;exact oZ ⟨false,rfl,kq H3 g13⟩
 | true =>
   obtain⟨u,e4,m⟩:=aj m;refine qN (qc os σ H3 δ u _ (s.mono g13) e4 fun vu H4 g4 r4=>qr' os H4 (s.live.mono (g13.trans g4)) y u w vy vu _ (r2.mono ((g3.trans g4)).hd _ _) r4 m fun v H5 g5 r5=>?_);obtain⟨k',rfl⟩:=hg y u w m;cases mt;exact⟨_,r5.bl_inv,kq H5 (g13.trans (g4.trans g5))⟩
def BX (hu:X.A.units+1<cLine)(ho:DE X o mo)(hk:DE X k mk)(hs:Qu k):DE X (.Subscript o k pos) (Bt mo mk):=by
 obtain⟨to,po,qo⟩:=ho;obtain⟨tk,pk,qk⟩:=hk;refine⟨_,Ky hu po pk hs,fun os σ H δ d Q s m kq=>?_⟩;obtain⟨x,e1,m⟩:=aj m;obtain⟨z,e2,m⟩:=aj m;refine qo os σ H δ x _ s e1 fun v H1 g1 r1=>?_;refine qk os σ H1 δ z _ (s.mono g1) e2 fun u H2 g2 r2=>?_
 match x,z,m with
 | .dic false ks vs,.int i,m =>
   obtain⟨a,ys,rfl,hF,hv⟩:=(r1.mono g2.hd _ _).dic_inv;rcases hF with ⟨_,ob,kvs,f1,rfl,rfl⟩ | ⟨z,_⟩
   ·rw[r2.int_inv];rcases iB i hv with ⟨c1,_⟩ | ⟨d',v,c1,c2,c3⟩
    ·exact absurd (c1.symm.trans m) (by simp)
    ·cases c1.symm.trans m;exact⟨a,v,rfl,.inl ⟨kvs,.inl i,.inr ⟨ob,hide_le _ _ f1⟩,rfl,c2.symm⟩,kq _ H2 (g1.trans g2) c3⟩
   ·cases z
def Li (hu:X.A.units+1<cLine)(hk:DE X k mk)(ho:DE X o mo)(hm:behindInMarks .NotIn o=false:=by rfl):DE X (.Compare k [.NotIn] [o] pos) (Ia mk mo):=by
 obtain⟨to,po,qo⟩:=ho;obtain⟨tk,pk,qk⟩:=hk;refine⟨_,Oo (tK hu pk po) hm,fun os σ H δ d Q s m kq=>?_⟩;obtain⟨z,e2,m⟩:=aj m;obtain⟨x,e1,m⟩:=aj m;refine qk os σ H δ z _ s e2 fun u H1 g1 r2=>?_;refine qo os σ H1 δ x _ (s.mono g1) e1 fun v H2 g2 r1=>?_
 match x,z,m with
 | .dic false ks vs,.int i,m =>
   cases m;obtain⟨a,ys,rfl,hF,hv⟩:=r1.dic_inv;rcases hF with ⟨_,ob,kvs,f1,rfl,rfl⟩ | ⟨z,_⟩
   ·rw[r2.int_inv];refine⟨a,cj kvs (.inl i),rfl,.inl ⟨kvs,.inl i,.inr ⟨ob,hide_le _ _ f1⟩,rfl,rfl⟩,?_⟩;rcases iB i hv with ⟨c1,c2⟩ | ⟨d',v,c1,c2,c3⟩
    ·rw[c1] at kq;rw[c2];exact kq _ H2 (g1.trans g2) (.bl _)
    ·rw[c1] at kq;rw[c2];exact kq _ H2 (g1.trans g2) (.bl _)
   ·cases z
def Lk (hg:Gl X "len")(hm:X.mg "len"=none)(he:DE X e me)(s1:starEach [e] X.env=(false,eval e X.env)::starEach [] X.env:=by rfl)(hpl:(backTo pos (starEach [] X.env)).any (·.1)=false:=by rfl) :
 DE X (.Call (.Name "len" p) [e] [] pos) (kE zO me):=by
 obtain⟨te,pe,qe⟩:=he;have hc:cL X (.builtin "len") (fun xs H Q=>∃a kvs,xs=[.ref a]/\Rd H a (.dK kvs)/\Q (.int kvs.length) H):=by
  intro pins s σ H xs us Q I r h;obtain⟨a,kvs,rfl,hq,q⟩:=h;obtain⟨u,rfl,ru⟩:=vals1 r;cases ru;exact Rz I hq fun t s' I'=>⟨.int _,H,I',⟨t,rfl⟩,q⟩
 refine⟨_,iu hc hg hm PySem.boot_len (aJ pe aY s1) (he:=s1) (hpl:=hpl),fun os σ H δ d Q s m kq=>?_⟩;obtain⟨x,e1,m⟩:=aj m;refine qe os σ H δ x _ s e1 fun v H1 g1 r1=>?_;unfold zO at m;split at m
 ·cases m;obtain⟨a,ys,rfl,hF,hv⟩:=r1.dic_inv;rcases hF with ⟨_,ob,kvs,f1,rfl,rfl⟩ | ⟨z,_⟩
  ·refine⟨a,kvs,rfl,.inr ⟨ob,hide_le _ _ f1⟩,?_⟩;have:=kq (.int kvs.length) H1 g1;rw[List.length_map] at this;exact this (.int _)
  ·cases z
 ·cases m
end
end DL
namespace DL
open PySem PyProof.Rows
section
variable {P:Program}{w:World}{A:Around}{E:Value->Shared->Prop}{s:Shared}{d:Addr}{es:Array DictEntry}{ep:Nat}
def Dm {Q:Value->Shared->Prop}(hd:(d==sysModules)=false)(hm:DRaw s.heap d es ep)
 (k:Q (.ref s.heap.objs.size) { s with heap:=s.heap.push { cls:=.type "dict_keyiterator",data:=.fields #[.ref d,.int 0 0,.int es.size 0,.int ep 0] } }) :
 wpAny (model P w) A (pyIter (.ref d)) Q E s:=by
 obtain⟨o,ho,hx,hdat⟩:=hm;have hTy:s.TypeIs (.ref d) "dict":=⟨o,ho,hx.1⟩;refine wpAny_pyIter_slot hTy PySem.F.slot_dict_iter (wpAny_call_entry PySem.F.slot_dict_iter hTy PySem.F.entry_dict_iter ?_ (PySem.F.args_dict_iter_1 _));refine wpAny_bind (m:=Builtin.Dict.dictSlotNone "__iter__" ⟨[.ref d],[]⟩) (wpAny_bind (wpAny_notOrdered_dict hTy (wpAny_of_eq (a:=Value.ref d) rfl (wpAny_bind (m:=Builtin.Dict.showsAll d) ?_))));unfold Builtin.Dict.showsAll;rw[if_neg (by rw[hd];decide)];refine wpAny_pure (wpAny_bind (wpAny_dictEntries ho hdat (wpAny_bind (wpAny_dictEpoch ho hdat (wpAny_bind (wpAny_newObj_type (wpAny_pure ⟨_,rfl,"dict_keyiterator",_,⟨_,Heap.get?_push_size _ rfl,rfl⟩,PySem.F.slot_dict_keyiterator_next.lookup,?_⟩)))))));simpa[rawInt] using k
def xm {it:Addr}{i:Nat}{Q:Option Value->Shared->Prop}(hh:A.handled=none)(hit:s.heap.IsKeyIter it d i es.size ep)(hm:DRaw s.heap d es ep)
 (go:∀e h',es[i]? = some e->h'.IsKeyIter it d (i+1) es.size ep->Heap.SameBut it s.heap h'->Q (some e.key) { s with heap:=h' })
 (no:∀h',es[i]? = none->Heap.ExtBut it s.heap h'->Q none { s with heap:=h' }):wpAny (model P w) A (pyNext (.ref it)) Q E s:=by
 have t0:=hit.typeIs;obtain⟨o,ho,hc,hd⟩:=hit;obtain⟨od,hod,_,hdd⟩:=hm;have ow:Builtin.Dict_items.ownsTuple "dict_keyiterator"=false:=by decide
 unfold pyNext;refine wpAny_bind (wpAny_attempt (wpAny_callSpecial?_slot (name:=Str.ofString "__next__") t0 PySem.F.slot_dict_keyiterator_next (wpAny_call_entry PySem.F.slot_dict_keyiterator_next t0 PySem.F.entry_dict_keyiterator_next ?_ (PySem.F.args_dict_keyiterator_next_1 _))));refine wpAny_bind (wpAny_pure (wpAny_bind (wpAny_bind (wpAny_bind (wpAny_typeNameOfWhole_keyiter t0 (wpAny_pure (wpAny_bind (wpAny_fieldsOf ho hd ?_))))))));simp only[ow,Bool.false_eq_true,if_false];have nn:¬ (Value.ref d==Value.none)=true:=by intro z;cases z
 refine(?_:wpAny _ _ (ite ((Value.ref d==Value.none)=true) _ _) _ _ _);rw[if_neg nn];refine wpAny_bind (wpAny_pure (wpAny_bind (wpAny_dictEntries hod hdd ?_)));rw[if_neg (by simp)];refine wpAny_bind (wpAny_pure (wpAny_bind (wpAny_dictEpoch hod hdd ?_)));rw[if_neg (by simp)];refine wpAny_pure ?_;cases hx:es[i]? with
 | none =>
   simp only[show ¬ ((i:Int)<0) from by omega,if_false,Int.toNat_natCast,hx];refine wpAny_bind (wpAny_bind (wpAny_typeNameOfWhole_keyiter t0 (wpAny_pure (wpAny_bind (m:=setField (.ref it) 0 .none) (wpAny_setField ho hd (by simp) ?_)))));refine iH (s:={ s with heap:=s.heap.update it (Obj.mapFields (·.setIfInBounds 0 .none)) }) hh fun h2 e oe k2 ge ce=>?_;exact wpAny_bind (wpAny_isInstance (T:="StopIteration") (b:=true) ⟨oe,ge,ce⟩ isSubtype_stop (wpAny_pure (no h2 hx fun b ob hb q=>k2 _ _ ((Heap.SameBut.update ..).extBut b ob hb q))))
 | some e =>
   simp only[show ¬ ((i:Int)<0) from by omega,if_false,Int.toNat_natCast,hx];refine wpAny_bind (wpAny_bind (wpAny_typeNameOfWhole_keyiter t0 (wpAny_pure (wpAny_bind (wpAny_isOneOf_keyiter t0 (wpAny_bind (m:=setField (.ref it) 1 (rawInt ((i:Int)+1))) (wpAny_setField ho hd (by simp) ?_)))))));have j1:(s.heap.update it (Obj.mapFields (·.setIfInBounds 1 (rawInt ((i:Int)+1))))).IsKeyIter it d (i+1) es.size ep :=
    by
     refine⟨_,Heap.get?_update_self _ ho ?_,?_,?_⟩
     ·exact Obj.isFreed_of_fields (Obj.data_mapFields hd _)
     ·rw[Obj.cls_mapFields,hc]
     ·rw[Obj.data_mapFields hd];simp[rawInt]
   have t1:=Heap.IsKeyIter.typeIs (s:={ s with heap:=s.heap.update it (Obj.mapFields (·.setIfInBounds 1 (rawInt ((i:Int)+1)))) }) j1;exact wpAny_bind (wpAny_holding (wpAny_bind (wpAny_isOneOf_keyiter t1 (wpAny_of_eq (a:=e.key) rfl (wpAny_pure ⟨_,rfl,wpAny_pure (go e _ hx j1 (Heap.SameBut.update ..))⟩)))))
end
end DL
namespace DL
open PySem PySem.Spec PyProof.Rows L2
def Be {P:Program}{w:World}{k:Key}{v:Value}(h:(aM P w).is k v=true):RelV (kV k) v:=by
 cases k with
 | inl i =>
   have h':Value.isInt i v=true:=h;cases v with
   | int j t =>
     have e:(j==i)=true:=h';exact⟨t,by rw[eq_of_beq e]⟩
   | _=>cases h'
 | inr x =>
   have h':Value.isStrOf x v=true:=h;cases v with
   | str y t =>
     have e:(y==x)=true:=h';exact⟨t,by rw[eq_of_beq e]⟩
   | _=>cases h'
def pairs_at {P:Program}{w:World}:∀{es:List DictEntry} {vs:List (Key×Value)} {i:Nat} {q:Key×Value},Pairs (aM P w) es vs->vs[i]? = some q->∃e,es[i]? = some e/\(aM P w).is q.1 e.key=true/\e.val=q.2
 | _,_,_,_,.nil,e=>by simp at e
 | _,_,0,_,.cons a b _,e=>by simp at e;subst e;exact⟨_,rfl,a,b⟩
 | _,_,i+1,q,.cons _ _ t,e=>by
   obtain⟨y,h1,h2⟩:=pairs_at (i:=i) (q:=q) t (by simpa using e);exact⟨y,by simpa using h1,h2⟩
def nT {P:Program}{w:World}{H:Hp}{h:Heap}{a:Addr}{o:Obj}{kvs:List (Key×V)}(x:ObjOk P w H h a (.frz o (.dK kvs))) :
 (a==sysModules)=false/\∃es ep,DRaw h a es ep/\o.data=.dict es ep/\es.size=kvs.length/\∀(i:Nat) (p:Key×V),kvs[i]? = some p->∃e,es[i]? = some e/\RelV (kV p.1) e.key/\RelV p.2 e.val:=by
 obtain⟨g,hz,hd,vs,rel,o',es,ep,h1,h2,h3,h4,h5,h6⟩:=x;rw[g] at h1;cases h1;refine⟨hd,es,ep,⟨o,g,h2,h3⟩,h3,?_,fun i p hp=>?_⟩
 ·rw[rel.length,<-h5.length,Array.length_toList]
 ·obtain⟨q,e1,e2,e3⟩:=tM rel hp;obtain⟨e,e4,e5,e6⟩:=pairs_at h5 e1;refine⟨e,by rw[<-Array.getElem?_toList];exact e4,?_,by rw[e6];exact e3⟩;rw[e2];exact Be e5
section
variable {X:Cx}{e k a b o:Expr}{me mk ma mb mo:ME}{pos p p2 pos':Pos}{tg:Expr}{elts:List Expr}{kt:Nat}
def Qv (a:Addr)(o:Obj)(kvs:List (Key×V)):It :=
 ⟨fun i H=>H a=some (.frz o (.dK kvs))/\i<kvs.length,
  fun i H v H'=>H'=H/\∃p,kvs[i]? = some p/\v=kV p.1,
  fun i H=>H a=some (.frz o (.dK kvs))/\i=kvs.length⟩
def yo {P:Program}{w:World}{K:PySem.W.Frag}(a it:Addr)(o:Obj)(kvs:List (Key×V))(es:Array DictEntry)(ep:Nat)(hes:o.data=.dict es ep)(hsz:es.size=kvs.length) :
 Turn P w K (.Name x pos) (Qv a o kvs) [it] it (fun i h=>h.IsKeyIter it a i es.size ep) where
 mem:=by simp
 obj:=fun i h st b hb=>by
  obtain⟨ob,g,_,gd⟩:=st;rw[List.mem_singleton.mp hb];exact⟨ob,g,fun v z=>by rw[gd] at z;cases z⟩
 keep:=fun i h h' st k=>by
  obtain⟨ob,g,r⟩:=st;exact⟨ob,k it (by simp) _ g,r⟩
 item:=by
  intro X hP hw hK hc i pins s σ H E I hf st hg;subst hP hw hK;obtain⟨hH,hi⟩:=hg;obtain⟨_,es',ep',hraw,hes',_,hat⟩:=nT (I.hok a _ hH);rw[hes] at hes';cases hes';obtain⟨en,e1,e2,e3⟩:=hat i kvs[i] (List.getElem?_eq_getElem hi);obtain⟨f0,f1,f2,f3,f4,f5⟩:=hf it (by simp);refine xm (I.ok.hd hc) st hraw (fun en' h1 z j1 sb=>?_) fun _ z _=>absurd (z.symm.trans e1) (by simp);cases e1.symm.trans z;have I1:L2.Inv X pins σ H { s with heap:=h1 }:=I.turned (t':=s.toks) (fun c ob hb q=>(sb.2 c hb).trans q) f0 f1 f3 f4 f5;obtain⟨ob,g,gc,gd⟩:=id j1;exact⟨_,rfl,Bm (s:={ s with heap:=h1 }) g gc gd (by decide) ⟨kV kvs[i].1,H,I1,e2,⟨rfl,kvs[i],List.getElem?_eq_getElem hi,rfl⟩,j1,fun c hc'=>(hf c hc').1⟩⟩
 done:=by
  intro X hP hw hK hc i pins s σ H E I hf st hg;subst hP hw hK;obtain⟨hH,hi⟩:=hg;obtain⟨_,es',ep',hraw,hes',_,_⟩:=nT (I.hok a _ hH);rw[hes] at hes';cases hes';exact xm (I.ok.hd hc) st hraw (fun e h' z=>absurd (Array.getElem?_eq_some_iff.mp z).1 (by omega)) fun h' _ ext=>⟨rfl,iG (fp:=[it]) (t':=s.toks) I hf fun b ob hb q=>ext b ob (fun z=>hb (by simp[z])) q⟩
 self:=fun A i s Q E st h=>by
  obtain⟨ob,g,gc,gd⟩:=st;have t:s.TypeIs (.ref it) "dict_keyiterator":=⟨ob,g,gc⟩;refine wpAny_pyIter_slot t PySem.F.slot_dict_keyiterator_iter (wpAny_call_entry PySem.F.slot_dict_keyiterator_iter t PySem.F.entry_dict_keyiterator_iter ?_ (PySem.F.args_dict_keyiterator_iter_1 _));exact wpAny_of_eq (a:=.done (.ret (.ref it))) rfl ⟨_,rfl,"dict_keyiterator",_,t,PySem.F.slot_dict_keyiterator_next.lookup,h⟩
def yf {K:PySem.W.Frag}{B:Hp}{a:Addr}{o:Obj}{kvs:List (Key×V)}(h:B a=some (.frz o (.dK kvs))):Walk K (Qv a o kvs) B (kvs.map fun p=>kD p.1):=by
 intro i os1 H1 L g;have ha:=hide_le _ _ (g _ _ h);refine⟨fun e he=>?_,fun hl=>⟨ha,by rw[hl,List.length_map]⟩⟩;have hi:i<kvs.length:=by have:=(List.getElem?_eq_some_iff.mp he).1;rw[List.length_map] at this;exact this
 refine⟨⟨ha,hi⟩,fun v H2 z=>?_⟩;obtain⟨rfl,p,hp,rfl⟩:=z;rw[List.getElem?_map,hp] at he;cases he;exact⟨Same.refl _,vg p.1⟩
def K6 (te:TE):TI:=fun σ H R=>te σ H fun x H1=>∃a o kvs,x=.ref a/\H1 a=some (.frz o (.dK kvs))/\R (Qv a o kvs) H1
def Gz {te:TE}{x:Str}(he:PE X e te):PI X (.Name x pos) e (K6 te):=by
 intro pins s σ H R I h;refine bw (he pins s σ H _ I h) fun v s1 ⟨x,H1,I1,r1,q1⟩=>?_;obtain⟨a,o,kvs,rfl,hH,q⟩:=q1;cases r1;obtain⟨hns,es,ep,hraw,hes,hsz,_⟩:=nT (I1.hok a _ hH);refine Dm hns hraw ?_;refine⟨_,[_],_,_,H1,rfl,I1.kept (t':=s1.toks) fun b u z=>Heap.get?_push_of_some _ z,yo a _ o kvs es ep hes hsz,⟨_,Heap.get?_push_size _ rfl,rfl,rfl⟩,fun b hb=>?_,q⟩;rw[List.mem_singleton.mp hb];exact I1.fpOk (Nat.le_refl _) (I1.hok.fresh (Nat.le_refl _))
def Ik {x:Str}(he:DE X e me):DI X (.Name x pos) e (Hw me):=by
 obtain⟨te,pe,qe⟩:=he;refine⟨_,Gz pe,fun os σ H δ xs R s m k=>?_⟩;obtain⟨d,e1,m⟩:=aj m;refine qe os σ H δ d _ s e1 fun v H1 g1 r1=>?_;split at m
 ·rename_i ks vs;cases m;obtain⟨a,ys,rfl,hF,hv⟩:=r1.dic_inv;rcases hF with ⟨_,o,kvs,h1,rfl,rfl⟩ | ⟨z,_⟩
  ·exact⟨a,o,kvs,rfl,hide_le _ _ h1,k _ H1 g1 (yf h1)⟩
  ·cases z
 ·cases m
def Qw (a:Addr)(o:Obj)(kvs:List (Key×V)):It :=
 ⟨fun i H=>H a=some (.frz o (.dK kvs))/\i<kvs.length,
  fun i H v H'=>∃p t,kvs[i]? = some p/\H t=none/\v=.ref t/\H'=upd H t (.tup [kV p.1,p.2]),
  fun i H=>H a=some (.frz o (.dK kvs))/\i=kvs.length⟩
def vX {P:Program}{w:World}{K:PySem.W.Frag}(a it:Addr)(o:Obj)(kvs:List (Key×V))(es:Array DictEntry)(ep:Nat)(hes:o.data=.dict es ep)(hsz:es.size=kvs.length) :
 Turn P w K (.Tuple elts kt pos) (Qw a o kvs) [it] it (fun i h=>∃ok ov,IsItemIter h it a i es.size ep ok ov) where
 mem:=by simp
 obj:=fun i h st b hb=>by
  obtain⟨ok,ov,g⟩:=st;rw[List.mem_singleton.mp hb];exact⟨_,g,fun v z=>by cases z⟩
 keep:=fun i h h' st k=>by
  obtain⟨ok,ov,g⟩:=st;exact⟨ok,ov,k it (by simp) _ g⟩
 item:=by
  intro X hP hw hK hc i pins s σ H E I hf st hg;subst hP hw hK;obtain⟨ok,ov,g⟩:=st;obtain⟨hH,hi⟩:=hg;obtain⟨_,es',ep',hraw,hes',_,hat⟩:=nT (I.hok a _ hH);rw[hes] at hes';cases hes';have lit:it<s.heap.objs.size:=Heap.lt_size g;obtain⟨en,e1,e2,e3⟩:=hat i kvs[i] (List.getElem?_eq_getElem hi);refine t7 (I.ok.hd hc) g hraw (fun en' h1 z j1 t1 k1=>?_) fun _ z _=>absurd (z.symm.trans e1) (by simp);cases e1.symm.trans z;refine⟨_,rfl,?_⟩;refine wpAny_letOwnedTupleGo_items j1 fun h2 j2 s2=>?_
  replace s2:Heap.SameBut it h1 h2:=s2
  have ne:s.heap.objs.size≠it:=Nat.ne_of_gt lit;refine⟨.ref s.heap.objs.size,upd H s.heap.objs.size (.tup [kV kvs[i].1,kvs[i].2]),?_,rfl,⟨kvs[i],s.heap.objs.size,List.getElem?_eq_getElem hi,I.fresh,rfl,rfl⟩,⟨_,_,j2⟩,fun c hc'=>?_⟩
  ·refine wK (s:=s) (fp:=[it]) (tk':=s.toks) I hf (fun c hc'=>by rw[List.mem_singleton.mp hc'];exact lit) rfl (u:=en.key) (w:=en.val) e2 e3 (fun c ob hc' q=>?_) (s2.extBut _ _ ne t1);have n1:c≠it:=fun z=>hc' (by simp[z]);exact s2.extBut c ob n1 (k1 c ob n1 q)
  ·rw[List.mem_singleton.mp hc',au (Nat.ne_of_lt lit)];exact(hf it (by simp)).1
 done:=by
  intro X hP hw hK hc i pins s σ H E I hf st hg;subst hP hw hK;obtain⟨ok,ov,g⟩:=st;obtain⟨hH,hi⟩:=hg;obtain⟨_,es',ep',hraw,hes',_,_⟩:=nT (I.hok a _ hH);rw[hes] at hes';cases hes';exact t7 (I.ok.hd hc) g hraw (fun e h' z=>absurd (Array.getElem?_eq_some_iff.mp z).1 (by omega)) fun h' _ ext=>⟨rfl,iG (fp:=[it]) (t':=s.toks) I hf fun b ob hb q=>ext b ob (fun z=>hb (by simp[z])) q⟩
 self:=fun A i s Q E st h=>by
  obtain⟨ok,ov,g⟩:=st;exact PySem.W.kcp_self g h
def vO {K:PySem.W.Frag}{B:Hp}{a:Addr}{o:Obj}{kvs:List (Key×V)}{vs:List D}(h:B a=some (.frz o (.dK kvs)))(d:Dens K B vs (kvs.map (·.2))):Walk K (Qw a o kvs) B (fM (kvs.map fun p=>kD p.1) vs):=by
 intro i os1 H1 L g;have hv:=d.length;rw[List.length_map] at hv;have hz:(fM (kvs.map fun p=>kD p.1) vs).length=kvs.length:=by simp[fM,hv]
 have ha:=hide_le _ _ (g _ _ h);refine⟨fun e he=>?_,fun hl=>⟨ha,by rw[hl,hz]⟩⟩;have hi:i<kvs.length:=by have:=(List.getElem?_eq_some_iff.mp he).1;omega
 refine⟨⟨ha,hi⟩,fun v H2 z=>?_⟩;obtain⟨p,t,hp,ht,rfl,rfl⟩:=z;obtain⟨x,y,e1,e2,rfl⟩:=pO _ _ i e he;rw[List.getElem?_map,hp] at e1;cases e1;obtain⟨w,w1,w2⟩:=d.get e2;rw[List.getElem?_map,hp] at w1;cases w1;exact⟨aK ht _,.newT L ht (.cons (vg p.1) (.cons (w2.mono g _ _) .nil))⟩
def Hx (te:TE):TI:=fun σ H R=>te σ H fun x H1=>∃a o kvs,x=.ref a/\H1 a=some (.frz o (.dK kvs))/\R (Qw a o kvs) H1
def Dc {te:TE}{apos:Pos}(he:PE X e te)(hbase:attributeBase e "items" X.env (eval e X.env)=eval e X.env:=by rfl)(hline:(apos.endLine==pos.line)=true:=by rfl) :
 PI X (.Tuple elts kt pos') (.Call (.Attribute e "items" apos) [] [] pos) (Hx te):=by
 intro pins s σ H R I h;refine wpAny_Call_method0_late hbase hline (bw (he pins s σ H _ I h) fun v s1 ⟨x,H1,I1,r1,q1⟩=>?_);obtain⟨a,o,kvs,rfl,hH,q⟩:=q1;cases r1;obtain⟨hns,es,ep,hraw,hes,hsz,_⟩:=nT (I1.hok a _ hH);have hTy:s1.TypeIs (.ref a) "dict":=by obtain⟨o,e,x,_⟩:=hraw;exact⟨o,e,x.1⟩
 refine⟨"dict","dict.items",PySem.F.plainAttrs_dict,PySem.F.slot_dict_items,PySem.F.type_dict_items,hTy,fun b z=>?_,?_⟩
 ·cases z;obtain⟨o,e,x,_⟩:=hraw;exact⟨o,e,x.2.1⟩
 refine Calls.callWith_builtin rfl (PySem.evalArgs_none ?_);refine wpAny_call_entry PySem.F.slot_dict_items hTy PySem.F.entry_dict_items (yX hns hraw ?_) (PySem.F.args_dict_items_1 _);refine yW (s:={ s1 with heap:=s1.heap.push { cls:=.type "dict_items",data:=.fields #[.ref a] } }) (d:=a) (es:=es) (ep:=ep) ⟨_,Heap.get?_push_size _ rfl,rfl,rfl⟩ (hraw.at' fun o z=>Heap.get?_push_of_some _ z) ?_;have sz:=Heap.size_push s1.heap { cls:=.type "dict_items",data:=.fields #[.ref a] };refine⟨_,[_],_,_,H1,rfl,I1.kept (t':=s1.toks) fun b u z=>Heap.get?_push_of_some _ (Heap.get?_push_of_some _ z),vX a _ o kvs es ep hes hsz,⟨_,_,Heap.get?_push_size _ rfl⟩,fun b hb=>?_,q⟩;rw[List.mem_singleton.mp hb];have hb':s1.heap.objs.size<=(s1.heap.push { cls:=.type "dict_items",data:=.fields #[.ref a] }).objs.size:=by rw[sz];exact Nat.le_succ _
 exact I1.fpOk hb' (I1.hok.fresh hb')
def DN {apos:Pos}(he:DE X e me)(hbase:attributeBase e "items" X.env (eval e X.env)=eval e X.env:=by rfl)(hline:(apos.endLine==pos.line)=true:=by rfl) :
 DI X (.Tuple elts kt pos') (.Call (.Attribute e "items" apos) [] [] pos) (pM me):=by
 obtain⟨te,pe,qe⟩:=he;refine⟨_,Dc pe hbase hline,fun os σ H δ xs R s m k=>?_⟩;obtain⟨d,e1,m⟩:=aj m;refine qe os σ H δ d _ s e1 fun v H1 g1 r1=>?_;split at m
 ·rename_i ks vs;cases m;obtain⟨a,ys,rfl,hF,hv⟩:=r1.dic_inv;rcases hF with ⟨_,o,kvs,h1,rfl,rfl⟩ | ⟨z,_⟩
  ·exact⟨a,o,kvs,rfl,hide_le _ _ h1,k _ H1 g1 (vO h1 hv)⟩
  ·cases z
 ·cases m
end
end DL
namespace DL
open PySem PySem.Spec PyProof.Rows L2 PySem.W
section
variable {P:Program}{w:World}{A:Around}{E:Value->Shared->Prop}{s:Shared}{T:String}{r d:Addr}{n:Nat}{PI:Nat->Value->Prop}{OK:Heap->Prop}
def rA {Q₁:Value->Shared->Prop}(K:KdlSrc P w T r d n PI OK)(hh:A.handled=none)(hok:OK s.heap)(hn:n<=sizeLine)
 (h:∀(h':Heap) (tk:Nat) (acc:Array Value),(∀b o,s.heap.get? b=some o->h'.get? b=some o)->ItemsOf PI acc n->Q₁ (.ref h'.objs.size) { s with heap:=h'.push { cls:=.type "tuple",data:=.seq acc },toks:=tk }) :
 codeAny (model P w) A (.call (.builtin "tuple.__new__") ⟨[.type "tuple",.ref r],[]⟩) (wants Q₁ E) s:=by
 refine codeAny_call_builtin (by decide +kernel) F.entry_tuple_new (wpAny_of_eq (F.newCall_tuple_1 _) ?_);have f1:=madeHere_tuple;have f2:=sub_tuple_self;have f3:=init_tuple_lookup;have hT:=K.type s hok;have nt:=K.notTuple;obtain⟨h0,gs,dr,t0,ws⟩:=s;unfold Builtin.«tuple.__new__»
 wp_walk using wpAny_typeOf hT,kdu_collect (A:=A.in1) K hh hok hn
 intro h' tk' acc hk hacc;refine wpAny_bind (m:=Builtin.Tuple.tupleExact acc.toList.toArray) ?_;rw[show acc.toList.toArray=acc by simp]
 delta Builtin.Tuple.tupleExact
 exact(wpAny_newObj_type (wpAny_pure (h h' tk' acc hk hacc)) (by show acc.size<=sizeLine;rw[hacc.1];exact hn))
def jJ {Q:Value->Shared->Prop}(K:KdlSrc P w T r d n PI OK)(hh:A.handled=none)(hok:OK s.heap)(hn:n<=sizeLine)
 (h:∀(h':Heap) (tk:Nat) (acc:Array Value),(∀b o,s.heap.get? b=some o->h'.get? b=some o)->ItemsOf PI acc n->Q (.ref h'.objs.size) { s with heap:=h'.push { cls:=.type "tuple",data:=.seq acc },toks:=tk }) :
 wpAny (model P w) A (call (.type "tuple") [.ref r]) Q E s:=by
 refine callType_codes (Q₁:=fun obj s₁=>s₁.TypeIs obj "tuple"/\Q obj s₁) F.called_tuple (F.typeCall_tuple_1 _) F.entry_object_init (rA (A:=A.in1) K hh hok hn fun h' tk acc hk hacc=>⟨⟨_,Heap.get?_push_size _ rfl,rfl⟩,h h' tk acc hk hacc⟩) fun obj s₁ hq=>⟨hq.1,F.args_object_init_2 obj _,?_⟩;exact object_init_meets F.called_tuple.init.lookup F.called_tuple.made (by decide) P w A.in1 _ s₁ ⟨hq.1,rfl,hq.2⟩
def vo {ks:List Int}{Q:Value->Shared->Prop}(K:KdlSrc P w T r d n PI OK)(hh:A.handled=none)(hok:OK s.heap)(hn:n<64)(hI:∀acc:Array Value,ItemsOf PI acc n->IntsAre acc.toList ks)
 (k:∀(h1:Heap) (tk:Nat) (h2:Heap) (l:Addr) (vs:Array Value) (e:Nat) (ns:List Int),(∀b o,s.heap.get? b=some o->h1.get? b=some o)->(∀b o,h1.get? b=some o->h2.get? b=some o)->h2.get? l=some (seqObj "list" vs e)->h1.objs.size<=l->IntsAre vs.toList ns->ns.Perm ks->ns.Pairwise (·<=·)->Q (.ref l) { s with heap:=h2,toks:=tk }) :
 wpAny (model P w) A (call (.builtin "sorted") [.ref r]) Q E s:=by
 refine Calls.call_function_entry (A:=A) kind_sorted plain_sorted entry_sorted (args_sorted1 _) ?_;unfold Builtin.«sorted»;refine wpAny_bind (m:=checkCount "sorted" 1 1 _) (wpAny_pure (wpAny_bind (kdu_collect (A:=A.in1) K hh hok (by rw[sizeLine_eq];omega) fun h' tk acc k1 hacc=>?_)));have hi:=hI acc hacc;have hl:acc.toList.length<64:=by rw[Array.length_toList,hacc.1];exact hn
 refine wpAny_bind (wpAny_newList (items:=acc.toList) ?_ (by rw[sizeLine_eq];omega));have gL:(h'.push (seqObj "list" acc.toList.toArray 0)).get? h'.objs.size=some (seqObj "list" acc.toList.toArray 0):=Heap.get?_push_size _ rfl;refine wpAny_bind (wpAny_holding (wpAny_call_entry slot_list_sort ⟨_,gL,rfl⟩ entry_list_sort (list_sort_tree gL hi hl fun out ns' a1 a2 a3=>⟨_,rfl,?_⟩) (args_list_sort _)));obtain⟨e,he⟩:=sortedHeap_at (out:=out) gL;refine wpAny_pure ⟨_,rfl,k h' tk _ h'.objs.size out e ns' k1 (fun b o q=>?_) he (Nat.le_refl _) a1 a2 a3⟩;have hb:=Heap.lt_size q;rw[sortedHeap_old (Nat.ne_of_lt hb) (by rw[size_push'];exact Nat.lt_succ_of_lt hb)];exact Heap.get?_push_of_some _ q
end
section
variable {X:Cx}{e:Expr}{te:TE}{me:ME}{pos p p2 apos:Pos}
def mZ {P:Program}{w:World}:∀{kvs:List (Key×V)} {vs:List (Key×Value)} {l:List Value},kvs.map (·.1)=vs.map (·.1)->l.length=vs.length->(∀(j:Nat) (v:Value),l[j]? = some v->∃k x,vs[j]? = some (k,x)/\(aM P w).is k v=true)->Vals (kvs.map fun q=>kV q.1) l
 | [],[],[],_,_,_=>.nil
 | [],[],_::_,_,hl,_=>by simp at hl
 | [],_::_,_,e,_,_=>by cases e
 | _::_,[],_,e,_,_=>by cases e
 | _::_,_::_,[],_,hl,_=>by simp at hl
 | q::kvs,w::vs,v::l,e,hl,hat=>by
   rw[List.map_cons,List.map_cons] at e;injection e with k1 k2;obtain⟨k,x,e1,e2⟩:=hat 0 v rfl;simp at e1;subst e1;refine .cons (by show RelV (kV q.1) v;rw[k1];exact Be e2) (mZ (P:=P) (w:=w) k2 (by simpa using hl) fun j v' e=>?_);obtain⟨k',x',e3,e4⟩:=hat (j+1) v' (by simpa using e);exact⟨k',x',by simpa using e3,e4⟩
def Bb:∀{kvs:List (Key×V)} {vs:List (Key×Value)},KV kvs vs->Vals (kvs.map (·.2)) (vs.map (·.2))
 | _,_,.nil=>.nil
 | _,_,.cons r t=>.cons r.2 (Bb t)
noncomputable def RN (v d:Addr):HO:=.ext fun h=>KdlKeysView h v d
noncomputable def RJ (v d:Addr):HO:=.ext fun h=>h.IsValuesView v d
def Fx (O:Addr->Addr->HO)(te:TE):TE:=fun σ H Q=>te σ H fun x H1=>∃a kvs,x=.ref a/\Rd H1 a (.dK kvs)/\∀p,H1 p=none->Q (.ref p) (upd H1 p (O p a))
def GZ (he:PE X e te)(hbase:attributeBase e "keys" X.env (eval e X.env)=eval e X.env:=by rfl)(hline:(apos.endLine==pos.line)=true:=by rfl):PE X (.Call (.Attribute e "keys" apos) [] [] pos) (Fx RN te):=by
 intro pins s σ H Q I h;refine wpAny_Call_method0_late hbase hline (bw (he pins s σ H _ I h) fun v s1 ⟨x,H1,I1,r1,q1⟩=>?_);obtain⟨a,kvs,rfl,hq,q⟩:=q1;cases r1;obtain⟨z,hd,vs,rel,dd⟩:=jm I1.hok hq;have hex:∃o,s1.heap.get? a=some o/\o.ExactDict:=by obtain⟨o,_,_,e,x,_⟩:=dd;exact⟨o,e,x⟩
 refine⟨"dict","dict.keys",PySem.F.plainAttrs_dict,PySem.F.slot_dict_keys,PySem.F.type_dict_keys,dd.typeIs,fun b z=>?_,?_⟩
 ·cases z;obtain⟨o,e,x⟩:=hex;exact⟨o,e,x.2.1⟩
 refine Calls.callWith_builtin rfl (PySem.evalArgs_none ?_);refine call_meetsIn PySem.F.slot_dict_keys dd.typeIs PySem.F.entry_dict_keys (PySem.F.args_dict_keys_1 _) (kdl_meets_keys (aM X.prog X.w) a hd) ⟨⟨vs,dd⟩,?_⟩;have gv:(s1.heap.push { cls:=.type "dict_keys",data:=.fields #[.ref a] }).get? s1.heap.objs.size=some { cls:=.type "dict_keys",data:=.fields #[.ref a] }:=Heap.get?_push_size _ rfl;refine⟨.ref s1.heap.objs.size,_,I1.laid (o:=RN s1.heap.objs.size a) (t':=s1.toks) (fun b u q=>Heap.get?_push_of_some _ q) (Nat.le_refl _) ⟨⟨_,gv,rfl,rfl⟩,⟨_,gv⟩,fun h1 h2 x k=>?_⟩,rfl,q _ I1.fresh⟩;obtain⟨o,e1,e2⟩:=x;exact⟨o,k o e1,e2⟩
def GR (he:PE X e te)(hbase:attributeBase e "values" X.env (eval e X.env)=eval e X.env:=by rfl)(hline:(apos.endLine==pos.line)=true:=by rfl):PE X (.Call (.Attribute e "values" apos) [] [] pos) (Fx RJ te):=by
 intro pins s σ H Q I h;refine wpAny_Call_method0_late hbase hline (bw (he pins s σ H _ I h) fun v s1 ⟨x,H1,I1,r1,q1⟩=>?_);obtain⟨a,kvs,rfl,hq,q⟩:=q1;cases r1;obtain⟨z,hd,vs,rel,dd⟩:=jm I1.hok hq;have hex:∃o,s1.heap.get? a=some o/\o.ExactDict:=by obtain⟨o,_,_,e,x,_⟩:=dd;exact⟨o,e,x⟩
 refine⟨"dict","dict.values",PySem.F.plainAttrs_dict,PySem.F.slot_dict_values,PySem.F.type_dict_values,dd.typeIs,fun b z=>?_,?_⟩
 ·cases z;obtain⟨o,e,x⟩:=hex;exact⟨o,e,x.2.1⟩
 refine Calls.callWith_builtin rfl (PySem.evalArgs_none ?_);refine call_meetsIn PySem.F.slot_dict_values dd.typeIs PySem.F.entry_dict_values (PySem.F.args_dict_values_1 _) (meets_dict_values (aM X.prog X.w) a hd) ⟨⟨vs,dd⟩,?_⟩;have gv:(s1.heap.push { cls:=.type "dict_values",data:=.fields #[.ref a] }).get? s1.heap.objs.size=some { cls:=.type "dict_values",data:=.fields #[.ref a] }:=Heap.get?_push_size _ rfl;refine⟨.ref s1.heap.objs.size,_,I1.laid (o:=RJ s1.heap.objs.size a) (t':=s1.toks) (fun b u q=>Heap.get?_push_of_some _ q) (Nat.le_refl _) ⟨⟨_,gv,rfl,rfl⟩,⟨_,gv⟩,fun h1 h2 x k=>?_⟩,rfl,q _ I1.fresh⟩;obtain⟨o,e1,e2⟩:=x;exact⟨o,k o e1,e2⟩
def Ji (hc:X.calm=true):cL X (.type "tuple") (fun xs H Q=>∃p a kvs,xs=[.ref p]/\H p=some (RN p a)/\Rd H a (.dK kvs)/\∀t,H t=none->Q (.ref t) (upd H t (.tup (kvs.map fun q=>kV q.1)))):=by
 intro pins s σ H xs us Q I r h;obtain⟨p,a,kvs,rfl,hp,hq,q⟩:=h;obtain⟨u,rfl,ru⟩:=vals1 r;cases ru;obtain⟨z,hd,vs,rel,dd⟩:=jm I.hok hq;obtain⟨ep,da⟩:=dd.dictAt;have hv:KdlKeysView s.heap p a:=(I.hok p _ hp).1;have hl:=rel.length;refine jJ (kdl_keys (knd:=aM X.prog X.w) (kvs:=vs) (ep:=ep)) (I.ok.hd hc) ⟨hv,da⟩ (by omega) fun h' tk acc hk hacc=>?_;have I1:L2.Inv X pins σ H { s with heap:=h',toks:=tk }:=I.kept (t':=tk) hk;refine⟨.ref h'.objs.size,_,I1.laid (o:=.tup (kvs.map fun q=>kV q.1)) (t':=tk) (fun b o e=>Heap.get?_push_of_some _ e) (Nat.le_refl _) ⟨by rw[List.length_map];exact z,acc.toList,?_,by have:=IsTup.new h' acc.toList.toArray;simpa using this⟩,rfl,q _ (I1.hok.fresh (Nat.le_refl _))⟩;exact mZ rel.keys (by rw[Array.length_toList];exact hacc.1) fun j v e=>hacc.2 j v (by rw[<-Array.getElem?_toList];exact e)
def Jh (hc:X.calm=true):cL X (.type "tuple") (fun xs H Q=>∃p a kvs,xs=[.ref p]/\H p=some (RJ p a)/\Rd H a (.dK kvs)/\∀t,H t=none->Q (.ref t) (upd H t (.tup (kvs.map (·.2))))):=by
 intro pins s σ H xs us Q I r h;obtain⟨p,a,kvs,rfl,hp,hq,q⟩:=h;obtain⟨u,rfl,ru⟩:=vals1 r;cases ru;obtain⟨z,hd,vs,rel,dd⟩:=jm I.hok hq;obtain⟨ep,da⟩:=dd.dictAt;have hv:s.heap.IsValuesView p a:=(I.hok p _ hp).1;have hl:=rel.length;refine jJ (kdl_values (knd:=aM X.prog X.w) (kvs:=vs) (ep:=ep)) (I.ok.hd hc) ⟨hv,da⟩ (by omega) fun h' tk acc hk hacc=>?_;have I1:L2.Inv X pins σ H { s with heap:=h',toks:=tk }:=I.kept (t':=tk) hk;refine⟨.ref h'.objs.size,_,I1.laid (o:=.tup (kvs.map (·.2))) (t':=tk) (fun b o e=>Heap.get?_push_of_some _ e) (Nat.le_refl _) ⟨by rw[List.length_map];exact z,acc.toList,?_,by have:=IsTup.new h' acc.toList.toArray;simpa using this⟩,rfl,q _ (I1.hok.fresh (Nat.le_refl _))⟩;have e:=kdl_vals_eq (kvs:=vs) acc.toList (by rw[Array.length_toList];exact hacc.1) fun j v e=>hacc.2 j v (by rw[<-Array.getElem?_toList];exact e);rw[e];exact Bb rel
def BK {K:PySem.W.Frag}{B:Hp}:∀(kvs:List (Key×V)),Dens K B (kvs.map fun p=>kD p.1) (kvs.map fun q=>kV q.1)
 | []=>.nil
 | (k,v)::kvs=>by
   rw[List.map_cons,List.map_cons];exact .cons (vg k) (BK kvs)
def Iw (hc:X.calm=true)(hg:Gl X "tuple")(hm:X.mg "tuple"=none)(he:DE X e me)(hbase:attributeBase e "keys" X.env (eval e X.env)=eval e X.env:=by rfl)(hline:(apos.endLine==p2.line)=true:=by rfl)
 (s1:starEach [.Call (.Attribute e "keys" apos) [] [] p2] X.env=(false,eval (.Call (.Attribute e "keys" apos) [] [] p2) X.env)::starEach [] X.env:=by rfl) (hpl:(backTo pos (starEach [] X.env)).any (·.1)=false:=by rfl) :
 DE X (.Call (.Name "tuple" p) [.Call (.Attribute e "keys" apos) [] [] p2] [] pos) (kE yh me):=by
 obtain⟨t,pe,q⟩:=he;refine⟨_,ir (Ji hc) hg hm rfl (aJ (GZ pe hbase hline) aY s1) (he:=s1) (hpl:=hpl),fun os σ H δ d Q s m k=>?_⟩;obtain⟨x,e1,m⟩:=aj m;refine q os σ H δ x _ s e1 fun v H1 g1 r1=>?_;unfold yh at m;split at m
 ·split at m
  ·cases m;obtain⟨a,ys,rfl,hF,hv⟩:=r1.dic_inv;rcases hF with ⟨_,o,kvs,h1,rfl,rfl⟩ | ⟨z,_⟩
   ·refine⟨a,kvs,rfl,.inr ⟨o,hide_le _ _ h1⟩,fun p hp=>⟨p,a,kvs,rfl,az,?_,fun t ht=>?_⟩⟩
    ·exact .inr ⟨o,(aK hp (RN p a)) _ _ (hide_le _ _ h1)⟩
    ·have g2:=aK hp (RN p a);exact k _ _ (g1.trans (g2.trans (aK ht _))) (.newT ((s.live.mono g1).mono g2) ht (BK kvs))
   ·cases z
  ·cases m
 ·cases m
def Iv (hc:X.calm=true)(hg:Gl X "tuple")(hm:X.mg "tuple"=none)(he:DE X e me)(hbase:attributeBase e "values" X.env (eval e X.env)=eval e X.env:=by rfl)(hline:(apos.endLine==p2.line)=true:=by rfl)
 (s1:starEach [.Call (.Attribute e "values" apos) [] [] p2] X.env=(false,eval (.Call (.Attribute e "values" apos) [] [] p2) X.env)::starEach [] X.env:=by rfl) (hpl:(backTo pos (starEach [] X.env)).any (·.1)=false:=by rfl) :
 DE X (.Call (.Name "tuple" p) [.Call (.Attribute e "values" apos) [] [] p2] [] pos) (kE yg me):=by
 obtain⟨t,pe,q⟩:=he;refine⟨_,ir (Jh hc) hg hm rfl (aJ (GR pe hbase hline) aY s1) (he:=s1) (hpl:=hpl),fun os σ H δ d Q s m k=>?_⟩;obtain⟨x,e1,m⟩:=aj m;refine q os σ H δ x _ s e1 fun v H1 g1 r1=>?_;unfold yg at m;split at m
 ·split at m
  ·cases m;obtain⟨a,ys,rfl,hF,hv⟩:=r1.dic_inv;rcases hF with ⟨_,o,kvs,h1,rfl,rfl⟩ | ⟨z,_⟩
   ·refine⟨a,kvs,rfl,.inr ⟨o,hide_le _ _ h1⟩,fun p hp=>⟨p,a,kvs,rfl,az,?_,fun t ht=>?_⟩⟩
    ·exact .inr ⟨o,(aK hp (RJ p a)) _ _ (hide_le _ _ h1)⟩
    ·have g2:=aK hp (RJ p a);exact k _ _ (g1.trans (g2.trans (aK ht _))) (.newT ((s.live.mono g1).mono g2) ht (hv.mono g2.hd _ _))
   ·cases z
  ·cases m
 ·cases m
def Bj:∀{kvs:List (Key×V)} {is:List Int},intsOf (kvs.map fun p=>kD p.1)=some is->kvs.map (·.1)=is.map Sum.inl
 | [],is,h=>by cases h;rfl
 | (k,v)::kvs,is,h=>by
   rw[List.map_cons] at h;cases k with
   | inl i =>
     obtain⟨r,e1,e2⟩:=Option.bind_eq_some_iff.mp (show (intsOf (kvs.map fun p=>kD p.1)).bind (fun r=>some (i::r))=some is from h);cases e2;rw[List.map_cons,List.map_cons,Bj e1]
   | inr x=>cases h
def gZ:∀{is:List Int} {l:List Value},Vals (is.map V.int) l->IntsAre l is
 | [],_,h=>by cases h;exact .nil
 | i::is,_,h=>by
   cases h with
   | cons r t =>
     obtain⟨tk,rfl⟩:=r;exact .cons _ _ (gZ t)
def Jj (hc:X.calm=true):cL X (.builtin "sorted") (fun xs H Q=>∃(a:Addr) (kvs:List (Key×V)) (is:List Int),xs=[.ref a]/\Rd H a (.dK kvs)/\kvs.map (·.1)=is.map Sum.inl/\is.length<64/\is.Pairwise (·<=·)/\∀p,H p=none->Q (.ref p) (upd H p (.lst (is.map V.int)))):=by
 intro pins s σ H xs us Q I r h;obtain⟨a,kvs,is,rfl,hq,hk,hb,hs,q⟩:=h;obtain⟨u,rfl,ru⟩:=vals1 r;cases ru;obtain⟨z,hd,vs,rel,dd⟩:=jm I.hok hq;obtain⟨ep,da⟩:=dd.dictAt;have hl:=rel.length;have hkl:kvs.length=is.length:=by have:=congrArg List.length hk;simpa using this
 have ek:(kvs.map fun q=>kV q.1)=is.map V.int:=by
  have:=congrArg (List.map kV) hk;rw[List.map_map,List.map_map] at this;exact this
 refine vo (ks:=is) (kdl_dict (knd:=aM X.prog X.w) (kvs:=vs) (ep:=ep) hd) (I.ok.hd hc) da (by omega) (fun acc hacc=>?_) fun h1 tk h2 l ws e ns k1 k2 g1 hlt hi hp hso=>?_
 ·exact gZ (ek ▸ mZ rel.keys (by rw[Array.length_toList];exact hacc.1) fun j v e=>hacc.2 j v (by rw[<-Array.getElem?_toList];exact e))
 ·have en:ns=is:=hp.eq_of_pairwise (fun a b _ _ h1 h2=>Int.le_antisymm h1 h2) hso hs;subst en;have I1:L2.Inv X pins σ H { s with heap:=h1,toks:=tk }:=I.kept (t':=tk) k1;exact⟨.ref l,_,I1.laid (o:=.lst (ns.map V.int)) (t':=tk) k2 hlt ⟨by rw[List.length_map,bB];omega,ws.toList,e,nQ hi,by rw[g1]⟩,rfl,q _ (I1.hok.fresh hlt)⟩
def IK (hc:X.calm=true)(hg:Gl X "sorted")(hm:X.mg "sorted"=none)(he:DE X e me)(s1:starEach [e] X.env=(false,eval e X.env)::starEach [] X.env:=by rfl)(hpl:(backTo pos (starEach [] X.env)).any (·.1)=false:=by rfl) :
 DE X (.Call (.Name "sorted" p) [e] [] pos) (kE uF me):=by
 obtain⟨t,pe,q⟩:=he;refine⟨_,iu (Jj hc) hg hm boot_sorted (aJ pe aY s1) (he:=s1) (hpl:=hpl),fun os σ H δ d Q s m k=>?_⟩;obtain⟨x,e1,m⟩:=aj m;refine q os σ H δ x _ s e1 fun v H1 g1 r1=>?_;unfold uF at m;split at m
 ·obtain⟨is,e2,m⟩:=aj m;split at m
  ·rename_i hb;cases m;obtain⟨a,ys,rfl,hF,hv⟩:=r1.dic_inv;rcases hF with ⟨_,o,kvs,h1,rfl,rfl⟩ | ⟨z,_⟩
   ·have hk:=Bj e2;refine⟨a,kvs,is,rfl,.inr ⟨o,hide_le _ _ h1⟩,hk,hb.1,hb.2,fun p hp=>?_⟩;have ek:(kvs.map fun q=>kD q.1)=is.map D.int:=by
     have:=congrArg (List.map kD) hk;rw[List.map_map,List.map_map] at this;exact this
    have:=k (.ref p) (upd H1 p (.lst (is.map V.int))) (g1.trans (aK hp _));rw[ek] at this;exact this (.newL (s.live.mono g1) hp (Dens.ints is))
   ·cases z
  ·cases m
 ·cases m
end
end DL
namespace DL
open PySem PySem.Spec PyProof.Rows L2
section
variable {X:Cx}{pins:List (Addr×Obj)}{σ:L2.St}{H:Hp}{s:Shared}{A:Around}{E:Value->Shared->Prop}{a:Addr}{kvs:List (Key×V)}{k:Key}{z:V}{u r:Value}
def Qg {Q:Value->Shared->Prop}(I:L2.Inv X pins σ H s)(e:H a=some (.dK kvs))(hl:kvs.length<sizeLine)(ry:RelV (kV k) u)(rz:RelV z r)
 (h1:∀v w s',cj kvs k=some v->L2.Inv X pins σ H s'->RelV v w->Q w s') (h2:∀s',cj kvs k=none->L2.Inv X pins σ (upd H a (.dK (kvs++[(k,z)]))) s'->Q r s') :
 wpAny (model X.prog X.w) A (call (.builtin "dict.setdefault") [.ref a,u,r]) Q E s:=by
 obtain⟨hz,hd,vs,rel,dd⟩:=Bw I.hok e;have hz':vs.length<=sizeLine:=by rw[<-rel.length];exact hz
 refine call_meetsIn PySem.F.slot_dict_setdefault dd.typeIs PySem.F.entry_dict_setdefault (PySem.F.args_dict_setdefault_3 _ _ _) (kt_meets_setdefault (aM X.prog X.w) a (mD ry) hd r) ⟨vs,dd,hz',fun v hv=>?_,fun hn h' dd' hs=>?_⟩
 ·have rv:=rel.val k;rw[hv] at rv;cases hk:cj kvs k with
  | none=>rw[hk] at rv;exact rv.elim
  | some y=>rw[hk] at rv;exact h1 y v _ hk (I.tok _) rv
 ·have rv:=rel.val k;rw[hn] at rv;have hk:cj kvs k=none:=by
   cases hk:cj kvs k with
   | none=>rfl
   | some y=>rw[hk] at rv;exact rv.elim
  refine h2 _ hk ?_;rw[<-qx z hk];have he:∃q,h'.get? a=some q:=let ⟨q,_,_,hq,_⟩:=dd';⟨q,hq⟩
  have hl':(putK kvs k z).length<=sizeLine:=by have:=jE kvs k z;omega
  exact mQ I (by rw[e];exact True.intro) hs he (q8 hl' hd (rel.put k rz) dd')
end
def Mf (td ty tx:TE):TE:=fun σ H Q=>td σ H fun x H1=>∃a,x=.ref a/\R3 H1 a/\ty σ H1 fun y H2=>tx σ H2 fun z H3=>∃kvs k,H3 a=some (.dK kvs)/\kvs.length<sizeLine/\y=kV k /\
 (∀v,cj kvs k=some v->Q v H3)/\(cj kvs k=none->Q z (upd H3 a (.dK (kvs++[(k,z)]))))
def Kw {X:Cx}{o e f:Expr}{td ty tx:TE}{apos cpos:Pos}(ho:PE X o td)(he:PE X e ty)(hf:PE X f tx)(h1:attributeBase o "setdefault" X.env (eval o X.env)=eval o X.env:=by rfl)
 (h2:((backTo cpos (starEach [e,f] X.env)).all (fun x => !x.1)&&(backToKw cpos (keywordEach [] X.env)).all (fun x=>x.1.isSome)&&decide (([e,f]:List Expr).length+([]:List Keyword).length+(if ([]:List Keyword).isEmpty then 0 else 1)<30))=true:=by rfl)
 (h3:(apos.endLine==cpos.line)=true:=by rfl) (h4:backTo cpos (starEach [e,f] X.env)=[(false,eval e X.env),(false,eval f X.env)]:=by rfl) :
 PE X (.Call (.Attribute o "setdefault" apos) [e,f] [] cpos) (Mf td ty tx):=by
 intro pins s σ H Q I h;refine wpAny_Call_method h1 h2 h3 PySem.F.plainAttrs_dict PySem.F.slot_dict_setdefault PySem.F.type_dict_setdefault (bw (ho pins s σ H _ I h) fun u s1 ⟨x,H1,I1,rx,a,ex,d,q1⟩=>?_);subst ex;obtain rfl:u=Value.ref a:=rx;obtain⟨t1,t2,_⟩:=za I1 d;refine⟨t1,t2,?_⟩;rw[h4];refine Calls.callWith_builtin rfl (Calls.evalArgs_plain (Calls.spliced_cons (bw (he pins s1 σ H1 _ I1 q1) fun iv s2 ⟨y,H2,I2,ry,q2⟩ =>
  Calls.spliced_cons (bw (hf pins s2 σ H2 _ I2 q2) fun fv s3 ⟨z,H3,I3,rz,kvs,k,e,hl,ey,qa,qb⟩=>Calls.spliced_nil ?_))))
 subst ey;exact Qg I3 e hl ry rz (fun v w s' hv I' rv=>⟨v,H3,I',rv,qa v hv⟩) fun s' hn I'=>⟨z,_,I',rz,qb hn⟩
noncomputable def Rows (H:Hp):List Addr->Tab->Prop
 | [],[]=>True
 | l::ls,(_,r)::T=>H l=some (.lst (r.map V.int))/\r.length=24/\Rows H ls T
 | _,_=>False
noncomputable def kvsOf:List Addr->Tab->List (Key×V)
 | l::ls,(k,_)::T=>(.inl k,.ref l)::kvsOf ls T
 | _,_=>[]
structure ChAt (H:Hp)(a:Addr)(ls:List Addr)(T:Tab):Prop where
 d:H a=some (.dK (kvsOf ls T))
 r:Rows H ls T
 n:ls.Nodup
def Rows.len {H:Hp}:∀{ls:List Addr} {T:Tab},Rows H ls T->ls.length=T.length
 | [],[],_=>rfl
 | _::ls,(_,_)::T,h=>by simp[Rows.len h.2.2]
def tX:∀{ls:List Addr} {T:Tab},ls.length=T.length->(kvsOf ls T).length=T.length
 | [],[],_=>rfl
 | _::ls,(_,_)::T,h=>by simp[kvsOf,tX (ls:=ls) (T:=T) (by simpa using h)]
def Rows.mem {H:Hp}:∀{ls:List Addr} {T:Tab} {l:Addr},Rows H ls T->l∈ls->∃xs,H l=some (.lst xs)
 | [],_,_,_,h=>by cases h
 | m::ls,(_,r)::T,l,h,q=>by
   rcases List.mem_cons.mp q with rfl | q
   ·exact⟨_,h.1⟩
   ·exact Rows.mem h.2.2 q
def Rows.keep {H H':Hp}:∀{ls:List Addr} {T:Tab},Rows H ls T->(∀l∈ls,H' l=H l)->Rows H' ls T
 | [],[],_,_=>True.intro
 | l::ls,(_,r)::T,h,k=>⟨(k l List.mem_cons_self).trans h.1,h.2.1,Rows.keep h.2.2 fun m q=>k m (List.mem_cons_of_mem _ q)⟩
def Gh {H:Hp}(far:Int):∀{ls:List Addr} {T:Tab} {v:V},Rows H ls T->ls.Nodup->cj (kvsOf ls T) (.inl far)=some v ->
 ∃l r,v=.ref l/\l∈ls/\H l=some (.lst (r.map V.int))/\r.length=24/\∀ts b,kvsOf ls (fD T far ts b)=kvsOf ls T/\∀H':Hp,H' l=some (.lst ((bh r ts b).map V.int))->(∀m∈ls,m≠l->H' m=H m)->Rows H' ls (fD T far ts b)
 | [],[],v,_,_,h=>by cases h
 | l::ls,(k,r)::T,v,h,n,e=>by
   rw[kvsOf] at e;by_cases hk:k=far
   ·rw[ie (by rw[hk])] at e;cases e;refine⟨l,r,rfl,List.mem_cons_self,h.1,h.2.1,fun ts b=>?_⟩;rw[fD,if_pos hk];refine⟨rfl,fun H' h1 h2=>⟨h1,by rw[cD];exact h.2.1,h.2.2.keep fun m q=>h2 m (List.mem_cons_of_mem _ q) fun z=>?_⟩⟩;rw[List.nodup_cons] at n;exact n.1 (z ▸ q)
   ·rw[eY (by simpa using hk)] at e;rw[List.nodup_cons] at n;obtain⟨l',r',e1,e2,e3,e4,e5⟩:=Gh far h.2.2 n.2 e;refine⟨l',r',e1,List.mem_cons_of_mem _ e2,e3,e4,fun ts b=>?_⟩;rw[fD,if_neg hk];obtain⟨f1,f2⟩:=e5 ts b;refine⟨by rw[kvsOf,kvsOf,f1],fun H' h1 h2=>⟨(h2 l List.mem_cons_self fun z=>n.1 (z ▸ e2)).trans h.1,h.2.1,f2 H' h1 fun m q z=>h2 m (List.mem_cons_of_mem _ q) z⟩⟩
def zV {H:Hp}(far:Int):∀{ls:List Addr} {T:Tab},Rows H ls T->cj (kvsOf ls T) (.inl far)=none ->
 ∀ts b l,kvsOf (ls++[l]) (fD T far ts b)=kvsOf ls T++[(.inl far,.ref l)]/\∀H':Hp,H' l=some (.lst ((bh (List.replicate 24 0) ts b).map V.int))->(∀m∈ls,H' m=H m)->Rows H' (ls++[l]) (fD T far ts b)
 | [],[],_,_,ts,b,l=>⟨rfl,fun H' h1 _=>⟨h1,by rw[cD];rfl,True.intro⟩⟩
 | m::ls,(k,r)::T,h,e,ts,b,l=>by
   rw[kvsOf] at e;have hk:k≠far:=fun z=>by rw[ie (by rw[z])] at e;cases e
   rw[eY (by simpa using hk)] at e;obtain⟨f1,f2⟩:=zV far h.2.2 e ts b l;rw[fD,if_neg hk];refine⟨?_,fun H' h1 h2=>⟨(h2 m List.mem_cons_self).trans h.1,h.2.1,f2 H' h1 fun c q=>h2 c (List.mem_cons_of_mem _ q)⟩⟩;show (Sum.inl k,V.ref m)::kvsOf (ls++[l]) (fD T far ts b)=_;rw[f1];rfl
def ChAt.live {H:Hp}{a:Addr}{ls:List Addr}{T:Tab}(c:ChAt H a ls T):Live (a::ls) H:=fun b hb=>by
 rcases List.mem_cons.mp hb with rfl | hb
 ·exact⟨_,c.d,True.intro⟩
 ·obtain⟨xs,e⟩:=c.r.mem hb;exact⟨_,e,True.intro⟩
def ChAt.na {H:Hp}{a:Addr}{ls:List Addr}{T:Tab}(c:ChAt H a ls T):a∉ls:=fun z=>by
 obtain⟨xs,e⟩:=c.r.mem z;rw[c.d] at e;cases e
def ChAt.mono {H H':Hp}{a:Addr}{ls:List Addr}{T:Tab}(c:ChAt H a ls T)(g:Same H H'):ChAt H' a ls T :=
 ⟨g _ _ c.d,c.r.keep fun l hl=>by obtain⟨xs,e⟩:=c.r.mem hl;rw[e];exact g _ _ e,c.n⟩
def zR (K:PySem.W.Frag)(fnT:MF):Sp:=fun vs H Q _=>∃a far pd pv b ls T ts,vs=[.ref a,.int far,pv,.int b]/\ChAt H a ls T/\Den K (hide (a::ls) H) pd pv/\(∃d,fnT [pd]=some d/\uG d=some ts)/\T.length+1<=1000000 /\
 ∀H' ls',ChAt H' a ls' (fD T far ts b)->Same (hide (a::ls) H) (hide (a::ls') H')->(∀m∈ls',m∈ls\/H m=none)->Q .non H'
def yj {d:D}{ts:List Int}(h:uG d=some ts):∃ds,d=.lst ds/\intsOf ds=some ts/\∀t∈ts,0<=t/\t<24:=by
 cases d with
 | lst ds =>
   obtain⟨is,e1,e2⟩:=Option.bind_eq_some_iff.mp h;split at e2
   ·rename_i hc;cases e2;refine⟨ds,rfl,e1,fun t ht=>?_⟩;have:=List.all_eq_true.mp hc t ht;simpa using this
   ·cases e2
 | _=>cases h
def Fj:TE:=JH Q0 (QM (b8 (tC (.int 0)) ju)) (tC (.int 24))
def Nz (K:PySem.W.Frag)(fnT:MF)(E:XK):TS:=ig (oW (Mf (cG 0) (cG 1) Fj) (cR 4))
 (Nu (MJ K (oA (rJ K fnT) [] E (b8 (cG 2) ju))) (cR 5) (Fz (cG 4) (cG 5) (cG 3) (Ko K) (Sx fun i j=>i+j) Gq))
def yc {σ:L2.St}{H:Hp}{Q:VK}(h:∀p H',Same H H'->H p=none->H' p=some (.lst ((List.replicate 24 (0:Int)).map V.int))->Q (.ref p) H'):Fj σ H Q:=by
 refine⟨by show 1<=sizeLine;rw[bB];decide,fun p hp=>⟨p,24,[.int 0],rfl,rfl,az,by decide,by decide,by show 1*24<=sizeLine;rw[bB];decide,fun q hq=>?_⟩⟩;have g1:=aK (H:=H) hp (HO.lst [V.int 0]);have hq':H q=none:=g1.free hq;exact h q _ (g1.trans (aK hq _)) hq' az
def xX (r:List Int)(ts:List Int)(t b:Int):bh r (ts++[t]) b=(bh r ts b).set t.toNat ((bh r ts b).getD t.toNat 0+b):=by
 unfold bh;rw[List.foldl_append];rfl
def xW {K:PySem.W.Frag}{H:Hp}{σ:L2.St}{m l:Addr}{r ts:List Int}{b:Int}{D:Ends}(hm:SqL K H m (ts.map V.int))(hml:∀xs,SqL K (upd H l (.lst xs)) m (ts.map V.int))(hl:H l=some (.lst (r.map V.int)))(hr:r.length=24)(ht:∀t∈ts,0<=t/\t<24)
 (h6:σ.length=6) (s3:σ[3]? = some (some (.int b))) (s4:σ[4]? = some (some (.ref l))) (k:∀σ',D.nx σ' (upd H l (.lst ((bh r ts b).map V.int)))) :
 ∃W:Nat->Nat->L2.St->Hp->Prop,(∃m,W 0 m σ H)/\∀i n σ H,W i n σ H->((JK K m).stop i H/\D.nx σ H)\/((JK K m).go i H/\∃N:L2.St->Hp->Prop,(∀σ' H',N σ' H'->∃m',m'<n/\W (i+1) m' σ' H')/\∀x H',(JK K m).yld i H x H'->cR 5 x σ H' fun σ2 H2=>Fz (cG 4) (cG 5) (cG 3) (Ko K) (Sx fun i j=>i+j) Gq { D with nx:=N,ct:=N,bk:=D.nx } σ2 H2):=by
 have e0:upd H l (.lst ((bh r (ts.take 0) b).map V.int))=H:=by
  funext c
  by_cases hc:c=l
  ·subst hc;rw[az,hl];rfl
  ·rw[au hc]
 refine HS (xs:=ts.map V.int) (fun i σ' H'=>σ'.length=6/\σ'[3]? = some (some (.int b))/\σ'[4]? = some (some (.ref l))/\H'=upd H l (.lst ((bh r (ts.take i) b).map V.int))) ⟨h6,s3,s4,e0.symm⟩ (fun i σ' H' _ p=>?_) (fun i x σ' H' hx p=>?_) fun σ' H' p=>?_
 ·obtain⟨_,_,_,rfl⟩:=p;exact hml _
 ·obtain⟨p6,p3,p4,rfl⟩:=p;rw[List.getElem?_map] at hx;cases ht':ts[i]? with
  | none=>rw[ht'] at hx;cases hx
  | some t =>
    rw[ht'] at hx;cases hx;have hti:i<ts.length:=(List.getElem?_eq_some_iff.mp ht').1;have hlen:(bh r (ts.take i) b).length=24:=by rw[cD];exact hr
    obtain⟨t0,t24⟩:=ht t (List.mem_of_getElem? ht');have hj:Mz ((bh r (ts.take i) b).map V.int).length t=some t.toNat:=by
     unfold Mz;rw[List.length_map,hlen,if_pos t0,if_pos (by omega)]
    have hlt:t.toNat<(bh r (ts.take i) b).length:=by omega
    have hat:((bh r (ts.take i) b).map V.int)[t.toNat]? = some (.int ((bh r (ts.take i) b).getD t.toNat 0)):=by
     rw[List.getElem?_map,List.getElem?_eq_getElem hlt];simp[hlt]
    refine⟨_,by rw[List.getElem?_set_ne (by decide)];exact p4,_,by rw[List.getElem?_set_self (by omega)],l,_,t,_,rfl,rfl,.of az,by unfold M7;rw[hj];exact hat,?_⟩;refine⟨_,by rw[List.getElem?_set_ne (by decide)];exact p3,_,_,rfl,rfl,l,_,t,t.toNat,rfl,rfl,az,hj,?_⟩;refine⟨by rw[List.length_set];exact p6,by rw[List.getElem?_set_ne (by decide)];exact p3,by rw[List.getElem?_set_ne (by decide)];exact p4,?_⟩;rw[JP];have et:ts.take (i+1)=ts.take i++[t]:=by
     rw[List.take_succ,ht'];rfl
    rw[et,xX,List.map_set]
 ·obtain⟨_,_,_,rfl⟩:=p;have:=k σ';rw[List.length_map,List.take_length];exact this
def JC {K:PySem.W.Frag}{fnT:MF}{E E':XK}{N:List Str}{vs:List V}{H:Hp}{Q:VK}{D:Ends}(hN:N.length=6)(h:zR K fnT vs H Q E')(hD:∀σ H',Q .non H'->D.nx σ H'):Nz K fnT E D (L2.start N vs) H:=by
 obtain⟨a,far,pd,pv,b,ls,T,ts,rfl,c,dp,⟨d,hf,hti⟩,hT,k⟩:=h;obtain⟨ds,rfl,hints,hrange⟩:=yj hti;have hst:L2.start N [V.ref a,.int far,pv,.int b]=[some (V.ref a),some (.int far),some pv,some (.int b),none,none]:=by
  unfold L2.start;rw[hN];rfl
 rw[hst];have hkl:=tX c.r.len;refine⟨_,rfl,a,rfl,.inl ⟨_,.inl c.d⟩,_,rfl,yc fun p H1 g1 hp h1=>?_⟩;have c1:=c.mono g1;refine⟨kvsOf ls T,.inl far,c1.d,by rw[hkl,bB];omega,rfl,fun v hv=>?_,fun hv=>?_⟩
 ·obtain⟨l,r,rfl,ml,hl,hr,q⟩:=Gh far c1.r c1.n hv;refine⟨_,rfl,?_⟩;have dp1:Den K (hide (a::ls) H1) pd pv:=dp.mono g1.hd _ _;show rJ K fnT ([pv]++[]) H1 _ E;refine⟨a::ls,[pd],.lst ds,c1.live,.cons dp1 .nil,hf,fun v H2 g2 rv=>?_⟩;obtain⟨m,ms,rfl,hm,dm⟩:=rv.lst_inv;have:=gb hints dm;subst this;have c2:=c1.mono g2;have hh:∀xs,hide (a::ls) (upd H2 l (.lst xs))=hide (a::ls) H2:=fun xs=>by
   funext y
   by_cases hy:y∈a::ls
   ·rw[bj hy,bj hy]
   ·rw[aF hy,aF hy,au (fun z:y=l=>hy (by rw[z];exact List.mem_cons_of_mem _ ml))]
  refine⟨m,rfl,⟨_,hide_le.seq hm⟩,xW (hide_le.seq hm) (fun xs=>hide_le.seq (by rw[hh];exact hm)) (g2 _ _ hl) hr hrange rfl rfl rfl fun σ'=>hD _ _ ?_⟩;obtain⟨f1,f2⟩:=q ts b;have nal:a≠l:=fun z=>c.na (z ▸ ml);refine k _ ls ⟨by rw[au nal,f1];exact c2.d,f2 _ az fun y hy hn=>?_,c.n⟩ (fun y o e=>?_) fun y hy=>.inl hy
  ·rw[au hn];obtain⟨xs,e⟩:=c1.r.mem hy;rw[e];exact g2 _ _ e
  ·rw[hh];exact(g1.trans g2).hd _ _ e
 ·refine⟨_,rfl,?_⟩;have npa:a≠p:=fun z=>by
   have:=c.d;rw[z,hp] at this;cases this
  have npl:∀{y:Addr},y∈ls->y≠p:=fun {y} hy z=>by
   obtain⟨xs,e⟩:=c.r.mem hy;rw[z,hp] at e;cases e
  generalize hH:upd H1 a (.dK (kvsOf ls T++[(.inl far,.ref p)]))=H1';have ha:H1' a=some (.dK (kvsOf ls T++[(.inl far,.ref p)])):=by rw[<-hH];exact az
  have hne:∀{y:Addr},y≠a->H1' y=H1 y:=fun {y} z=>by rw[<-hH];exact au z
  have lv:Live (a::(ls++[p])) H1':=fun y hy=>by
   rcases List.mem_cons.mp hy with rfl | hy
   ·exact⟨_,ha,True.intro⟩
   ·rcases List.mem_append.mp hy with hy | hy
    ·obtain⟨xs,e⟩:=c1.r.mem hy;exact⟨_,(hne fun z=>c.na (z ▸ hy)).trans e,True.intro⟩
    ·rw[List.mem_singleton.mp hy];exact⟨_,(hne npa.symm).trans h1,True.intro⟩
  have big:Same (hide (a::ls) H) (hide (a::(ls++[p])) H1'):=fun y o e=>by
   have hy:y∉a::ls:=fun z=>by rw[bj z] at e;cases e
   rw[aF hy] at e;have hyp:y≠p:=aO e hp;have hy2:y∉a::(ls++[p]):=fun z=>by
    rcases List.mem_cons.mp z with z | z
    ·exact hy (by rw[z];exact List.mem_cons_self)
    ·rcases List.mem_append.mp z with z | z
     ·exact hy (List.mem_cons_of_mem _ z)
     ·exact hyp (List.mem_singleton.mp z)
   rw[aF hy2,hne (fun z=>hy (by rw[z];exact List.mem_cons_self))];exact g1 _ _ e
  show rJ K fnT ([pv]++[]) H1' _ E;refine⟨a::(ls++[p]),[pd],.lst ds,lv,.cons (dp.mono big _ _) .nil,hf,fun v H2 g2 rv=>?_⟩;obtain⟨m,ms,rfl,hm,dm⟩:=rv.lst_inv;have:=gb hints dm;subst this;have hh:∀xs,hide (a::(ls++[p])) (upd H2 p (.lst xs))=hide (a::(ls++[p])) H2:=fun xs=>by
   funext y
   by_cases hy:y∈a::(ls++[p])
   ·rw[bj hy,bj hy]
   ·rw[aF hy,aF hy,au (fun z:y=p=>hy (by rw[z];simp))]
  refine⟨m,rfl,⟨_,hide_le.seq hm⟩,xW (hide_le.seq hm) (fun xs=>hide_le.seq (by rw[hh];exact hm)) (g2 _ _ ((hne npa.symm).trans h1)) (by simp) hrange rfl rfl rfl fun σ'=>hD _ _ ?_⟩;obtain⟨f1,f2⟩:=zV far c.r hv ts b p;refine k _ (ls++[p]) ⟨by rw[au npa,f1];exact g2 _ _ ha,f2 _ az fun y hy=>?_,?_⟩ (fun y o e=>?_) fun y hy=>?_
  ·rw[au (npl hy)];obtain⟨xs,e⟩:=c.r.mem hy;rw[e];exact g2 _ _ ((hne fun z=>c.na (z ▸ hy)).trans (g1 _ _ e))
  ·rw[List.nodup_append];exact⟨c.n,by simp,fun y hy z hz e=>npl hy (e.trans (List.mem_singleton.mp hz))⟩
  ·rw[hh];exact g2.hd _ _ (big _ _ e)
  ·rcases List.mem_append.mp hy with hy | hy
   ·exact .inl hy
   ·exact .inr (by rw[List.mem_singleton.mp hy];exact hp)
def Fo (t:TS):TS:=fun D σ H=>∃a u,((∃kvs,u=.dK kvs)\/∃kvs,u=.dT kvs)/\H a=some u/\∀o,t D σ (upd H a (.frz o u))
def CT {X:Cx}{sts:List Stmt}{t:TS}(h:PSs X sts t):PSs X sts (Fo t):=fun pins s σ H D I hh=>by
 obtain⟨a,u,hu,e,hh⟩:=hh;obtain⟨o,I'⟩:=Inv.still I hu e;exact h pins s σ _ D I' (hh o)
def QL:TE:=S9 (rU fun i=>.int (-i)) (tC (.int 1))
def Tr (K:PySem.W.Frag)(fnS fnT:MF)(E1 E2 E3:XK):TS:=ig (oW uK (cR 1)) (ig (Nu (Ro K (cG 0)) (cR 2)
 (ig (oW (oA (rJ K fnS) [] E1 (b8 (cG 2) ju)) (cR 3))
 (ig (Fw (oA (zR K fnT) [] E2 (b8 (cG 1) (b8 (JH (Oc K) (cG 3) (tC (.int 0))) (b8 (cG 2) (b8 (tC (.int 1)) ju))))))
 (Fw (oA (zR K fnT) [] E3 (b8 (cG 1) (b8 (JH (Oc K) (cG 3) (tC (.int 1))) (b8 (cG 2) (b8 QL ju)))))))))
 (Fo (JS (cG 1))))
def Cr {d:D}{q:Int×Int}(h:zQ d=some q):d=.tup [.int q.1,.int q.2]:=by
 unfold zQ at h;split at h
 ·cases h;rfl
 ·cases h
def ww {K:PySem.W.Frag}{B:Hp}:∀{ls:List Addr} {T:Tab},Rows B ls T->Dens K B (T.map fun p=>.lst (p.2.map D.int)) ((kvsOf ls T).map (·.2))
 | [],[],_=>.nil
 | l::ls,(k,r)::T,h=>.cons (.lst (.of h.1) (Dens.ints r)) (ww h.2.2)
def sW:∀{H:Hp} {ls:List Addr} {T:Tab},Rows H ls T->(T.map fun p=>D.int p.1)=(kvsOf ls T).map fun p=>kD p.1
 | _,[],[],_=>rfl
 | _,l::ls,(k,r)::T,h=>by
   rw[List.map_cons,sW h.2.2];rfl
def Lr {K:PySem.W.Frag}{fnS fnT:MF}{E0 E1 E2 E3:XK}{N:List Str}{vs:List V}{H:Hp}{Q:VK}(hN:N.length=4)(h:rJ K (iz fnS fnT) vs H Q E0):Tr K fnS fnT E1 E2 E3 { nx:=fun _ H'=>Q .non H',rt:=Q } (L2.start N vs) H:=by
 obtain⟨os,ds,r,L,dn,hm,fin⟩:=h;have hds:∃ps,ds=[.tup ps]:=by
  unfold iz at hm;split at hm
  ·exact⟨_,rfl⟩
  ·cases hm
 obtain⟨ps,rfl⟩:=hds;obtain⟨TF,hT,hr⟩:=Option.bind_eq_some_iff.mp (show (vh fnS fnT ps []).bind (fun T=>some (jn T))=some r from hm);cases hr;obtain⟨v,rr,rfl,hv,hn⟩:=dn.uncons;have:=hn.unnil;subst this;obtain⟨tt,xs,rfl,htt,hxs⟩:=hv.tup_inv;have hst:L2.start N [V.ref tt]=[some (V.ref tt),none,none,none]:=by
  unfold L2.start;rw[hN];rfl
 rw[hst];intro a ha;have wk:=vN (K:=K) (B:=hide os H) (.of htt) hxs;have g0:=aK ha (HO.dK []);refine⟨_,rfl,tt,rfl,⟨xs,.of (g0 _ _ (hide_le _ _ htt))⟩,?_⟩;refine⟨fun i n σ H'=>n=ps.length-i/\i<=ps.length/\σ.length=4/\σ[1]? = some (some (.ref a))/\∃ls T,ChAt H' a ls T/\Same H H'/\(∀l∈ls,H l=none)/\vh fnS fnT (ps.drop i) T=some TF,
  ⟨ps.length,by simp,Nat.zero_le _,rfl,rfl,[],[],⟨az,True.intro,List.nodup_nil⟩,g0,(fun l hl=>by cases hl),by rw[List.drop_zero];exact hT⟩,?_⟩
 rintro i n σ H1 ⟨rfl,hi,h4,s1,ls,T,c,g1,hls,hch⟩;have free:∀{y:Addr} {o:HO},H y=some o->y∉a::ls:=fun {y o} e z=>by
  rcases List.mem_cons.mp z with rfl | z
  ·rw[ha] at e;cases e
  ·rw[hls y z] at e;cases e
 have lv:Live (os++a::ls) H1:=fun y hy=>by
  rcases List.mem_append.mp hy with hy | hy
  ·exact(L.mono g1) y hy
  ·exact c.live y hy
 have big:Same (hide os H) (hide (os++a::ls) H1):=fun y o e=>by
  have hy:y∉os:=fun z=>by rw[bj z] at e;cases e
  rw[aF hy] at e;rw[aF (fun z=>(List.mem_append.mp z).elim hy (free e))];exact g1 _ _ e
 obtain⟨w1,w2⟩:=wk i (os++a::ls) H1 lv big;by_cases hlt:i<ps.length
 ·have hp:ps[i]? = some ps[i]:=List.getElem?_eq_getElem hlt;obtain⟨go,yl⟩:=w1 _ hp;rw[List.drop_eq_getElem_cons hlt,vh] at hch;obtain⟨sd,f1,hc1⟩:=Option.bind_eq_some_iff.mp hch;obtain⟨q,f2,hc2⟩:=Option.bind_eq_some_iff.mp hc1;obtain⟨td,f3,hc3⟩:=Option.bind_eq_some_iff.mp hc2;obtain⟨ts,f4,hc4⟩:=Option.bind_eq_some_iff.mp hc3;clear hch hc1 hc2 hc3;split at hc4
  ·rename_i hroom;have:=Cr f2;subst this;refine .inr ⟨go,fun σ' H'=>∃m',m'<ps.length-i/\(m'=ps.length-(i+1)/\i+1<=ps.length/\σ'.length=4/\σ'[1]? = some (some (.ref a))/\∃ls T,ChAt H' a ls T/\Same H H'/\(∀l∈ls,H l=none)/\vh fnS fnT (ps.drop (i+1)) T=some TF),fun σ' H' z=>z,fun x H2 y=>?_⟩;obtain⟨g2,rx⟩:=yl x H2 y;have e2:∀{σ:L2.St},σ.length=4->(σ.set 2 (some x))[2]? = some (some x):=fun {σ} z=>List.getElem?_set_self (by omega);refine⟨_,e2 h4,?_⟩;show rJ K fnS ([x]++[]) H2 _ E1;refine⟨os++a::ls,[ps[i]],_,lv.mono g2,.cons rx .nil,f1,fun v H3 g3 rv=>?_⟩;obtain⟨ta,ys,rfl,hta,hys⟩:=rv.tup_inv;obtain⟨y1,yr,rfl,d1,hys⟩:=hys.uncons;obtain⟨y2,yr,rfl,d2,hys⟩:=hys.uncons;have:=hys.unnil;subst this;have:=d1.int_inv;have:=d2.int_inv;subst y1 y2;have g23:=g2.trans g3;have c3:=c.mono g23;have hta3:H3 ta=some (.tup [.int q.1,.int q.2]):=hide_le _ _ hta;have rx3:Den K (hide (a::ls) H3) ps[i] x:=rx.mono (fun y o e=>by
    have hy:y∉os++a::ls:=fun z=>by rw[bj z] at e;cases e
    rw[aF hy] at e;rw[aF (fun z=>hy (List.mem_append_right _ z))];exact g3 _ _ e) _ _
   have z4:((σ.set 2 (some x)).set 3 (some (V.ref ta))).length=4:=by simpa using h4
   have z1:((σ.set 2 (some x)).set 3 (some (V.ref ta)))[1]? = some (some (.ref a)):=by rw[List.getElem?_set_ne (by decide),List.getElem?_set_ne (by decide)];exact s1
   have z2:((σ.set 2 (some x)).set 3 (some (V.ref ta)))[2]? = some (some x):=by rw[List.getElem?_set_ne (by decide)];exact e2 h4
   have z3:((σ.set 2 (some x)).set 3 (some (V.ref ta)))[3]? = some (some (.ref ta)):=by exact List.getElem?_set_self (by simpa using (by omega:3<σ.length))
   refine⟨.ref a,z1,.ref ta,z3,ta,[.int q.1,.int q.2],0,.int q.1,rfl,rfl,.of hta3,rfl,x,z2,?_⟩;refine⟨a,q.1,ps[i],x,1,ls,T,ts,rfl,c3,rx3,⟨td,f3,f4⟩,by omega,fun H5 ls5 c5 g5 l5=>?_⟩;have ta5:H5 ta=some (.tup [.int q.1,.int q.2]):=hide_le _ _ (g5 _ _ (HB c3.live hta3));have rx5:=rx3.mono g5 _ _;refine⟨.ref a,z1,.ref ta,z3,ta,[.int q.1,.int q.2],1,.int q.2,rfl,rfl,.of ta5,rfl,x,z2,1,rfl,?_⟩;refine⟨a,q.2,ps[i],x,-1,ls5,_,ts,rfl,c5,rx5,⟨td,f3,f4⟩,by have:=mW T q.1 ts 1;omega,fun H6 ls6 c6 g6 l6=>?_⟩;have n5:∀l∈ls5,H l=none:=fun l hl=>by
    rcases l5 l hl with z | z
    ·exact hls l z
    ·exact(g1.trans g23).free z
   have s5:Same H H5:=fun y o e=>hide_le _ _ (g5 _ _ ((aF (free e)).trans ((g1.trans g23) _ _ e)));have free5:∀{y:Addr} {o:HO},H y=some o->y∉a::ls5:=fun {y o} e z=>by
    rcases List.mem_cons.mp z with rfl | z
    ·rw[ha] at e;cases e
    ·rw[n5 y z] at e;cases e
   have s6:Same H H6:=fun y o e=>hide_le _ _ (g6 _ _ ((aF (free5 e)).trans (s5 _ _ e)));have n6:∀l∈ls6,H l=none:=fun l hl=>by
    rcases l6 l hl with z | z
    ·exact n5 l z
    ·exact s5.free z
   exact⟨ps.length-(i+1),by omega,rfl,hlt,z4,z1,ls6,_,c6,s6,n6,hc4⟩
  ·cases hc4
 ·have e:i=ps.length:=by omega
  subst e;rw[List.drop_length,vh] at hch;cases hch;refine .inl ⟨w2 rfl,a,_,.inl ⟨_,rfl⟩,c.d,fun o=>⟨_,s1,fin _ _ (fun y ob e=>?_) ?_⟩⟩
  ·rw[au (fun z=>free e (by rw[z];exact List.mem_cons_self))];exact g1 _ _ e
  ·have nao:a∉os:=L.ne ha;have rows:Rows (hide os (upd H1 a (.frz o (.dK (kvsOf ls TF))))) ls TF:=c.r.keep fun l hl=>by
    rw[aF (L.ne (hls l hl)),au (fun z:l=a=>c.na (by rw[<-z];exact hl))]
   exact .dic (.inl ⟨rfl,o,_,(aF nao).trans az,sW c.r,rfl⟩) (ww rows)
def Qf {K:PySem.W.Frag}{fnS fnT:MF}{vs:List V}{H:Hp}{Q:VK}{E:XK}(h:rJ K (iz fnS fnT) vs H Q E):vs.length=1:=by
 obtain⟨os,ds,r,L,dn,hm,fin⟩:=h;rw[<-dn.length];unfold iz at hm;split at hm
 ·rfl
 ·cases hm
def xf (a b:ME):LQ (qX a b):=fun δ d h=>by
 obtain⟨x,_,h⟩:=Option.bind_eq_some_iff.mp h;obtain⟨y,_,h⟩:=Option.bind_eq_some_iff.mp h;split at h
 ·split at h
  ·cases h;exact⟨_,rfl⟩
  ·cases h
 ·cases h
structure FnI (K:PySem.W.Frag)(nm:Str)(st:Stmt) where
 f:Addr
 fd:FuncData
 F:Fun K nm nm st f fd
 a:PySem.W.nsIn K mainGlobals nm=some (some (.ref f))
noncomputable def fnI {K:PySem.W.Frag}{nm:Str}{st:Stmt}{f:Addr}{od an:Option Addr}{sl:Array (Option Value)}{oc kV dc pm cd ct:Value}(a:PySem.W.nsIn K mainGlobals nm=some (some (.ref f)))
 (l:K.lookup f=some ⟨oc,od,.func (PySem.W.fnOf nm nm (gK st) (dg st) (aH st) .none kV dc pm an cd ct),sl⟩) (c:PySem.W.codeIn K cd nm=true) (k:PySem.W.keepIn K (.ref f)=true):FnI K nm st:=⟨f,_,HR l c k,a⟩
structure mX (K:PySem.W.Frag)(mg:Str->Option Value)(nm:Str)(st:Stmt)(ps:List Str) where
 f:Addr
 fd:FuncData
 F:Fun K nm nm st f fd
 g:mg nm=some (.ref f)
 b:Binds K fd ps []
def FnI.g {K:PySem.W.Frag}{nm:Str}{st:Stmt}{h:Heap}{mg:Str->Option Value}{ps:List Str}(x:FnI K nm st)(X:K.In h)(G:h.Ns mainGlobals mg)
 (b:∀(kV doc pm:Value) (an:Option Addr) (cdv ct:Value) (us:List Value),us.length=ps.length->bindArgs (PySem.W.fnOf nm nm (gK st) (dg st) (aH st) .none kV doc pm an cdv ct) ⟨us,[]⟩=pure (ps.zip us):=by intro _ _ _ _ _ _ us hl;rcases us with _ | ⟨_,_ | ⟨_,_ | ⟨_,_ | ⟨_,_ | ⟨_,_⟩⟩⟩⟩⟩ <;> first | rfl | cases hl):mX K mg nm st ps:=⟨x.f,x.fd,x.F,PySem.W.mg_of X G x.a,x.F.binds b⟩
section
variable {X:Cx}{e:Expr}{es:List Expr}{pos p:Pos}{nm:Str}{st:Stmt}{ps:List Str}{k k':Nat}{fn:MF}{m:MA}
def aX {x:mX X.K X.mg nm st ps}(F:eF X.prog X.w X.K X.mg X.base ou k x.f x.fd ps (rJ X.K fn))(hr:Room k' X.A)(ha:DA X (e::es) m)(hk:k<=k':=by decide)(hg:Gl X nm:=by rfl)(hdb:(nm==("__debug__":Str))=false:=by decide)
 (he:starEach (e::es) X.env=(false,eval e X.env)::starEach es X.env:=by rfl) (hpl:(backTo pos (starEach es X.env)).any (·.1)=false:=by rfl):DE X (.Call (.Name nm p) (e::es) [] pos) (aB fn m):=Lq F (hr.mono hk) hg x.g x.F.kp x.b ha hdb he hpl
end
def ul {u j k c:Nat}(h:u+k<c)(d:j<=k:=by decide):u+j<c:=Nat.lt_of_le_of_lt (Nat.add_le_add_left d _) h
section
variable {X:Cx}{pos:Pos}{x:Str}
def dv (i:Nat)(hN:X.N[i]? = some x:=by rfl)(hv:RX X.env.scope x:=by first | exact Or.inl rfl | exact Or.inr (Or.inl rfl) | exact Or.inr (Or.inr rfl))(hd:(x==("__debug__":Str))=false:=by decide)
 (hcd:(x==("__classdict__":Str))=false:=by decide) (hi:Nat.blt i X.N.length=true:=by rfl):DE X (.Name x pos) (ao i):=PQ i (pv i hN hv hd hcd) hi
def jd (i:Nat)(hN:X.N.Nodup)(hi:X.N[i]? = some x:=by rfl)(hx:Loc X.env.scope x:=by first | exact Or.inl rfl | exact Or.inr rfl)(hf:X.fn x=true\/X.env.scope.names.lookup x=some .local:=by first | exact .inl rfl | exact .inr rfl)(hb:Nat.blt i X.N.length=true:=by rfl):DG X (.Name x pos) (gN i):=Lh (pK hN hi hx hf) hb
end
def fsc {N P:List Str}{sc:Scope}(a:sc.kind=.function:=by rfl)(b:sc.isCoroutine=false:=by rfl)(c:sc.isGenerator=false:=by rfl)(d:N.Nodup:=by decide +kernel)(e:N.take P.length=P:=by rfl)
 (f:∀x∈P,sc.names.lookup x=some .local\/sc.names.lookup x=some .cell:=by decide +kernel) (g:∀y∈sc.names,y.2≠.free:=by decide +kernel):cF N P sc:=⟨a,b,c,d,e,f,g⟩
def M3 {scX sc:Scope}{NX N:List Str}{k:Nat}{fv:List Nat}(a:sc.kind=.function:=by rfl)(b:∀y∈sc.names,y.2≠.cell:=by decide +kernel)(c:∀y∈sc.names,y.2=.local->sc.names.lookup y.1=some .local:=by decide +kernel)
 (d:∀y∈sc.names,y.2=.free->scX.names.lookup y.1=some .cell:=by decide +kernel) (e:N.length=k+fv.length:=by rfl) (f:N.Nodup:=by decide +kernel)
 (g:∀t,t<fv.length->NX[fv.getD t 0]? = N[k+t]?/\(N[k+t]?.bind fun x=>sc.names.lookup x)=some .free:=by decide +kernel):bW scX sc NX N k fv:=⟨a,b,c,d,e,f,g⟩
def nod (l:List Str)(h:l.Nodup:=by decide +kernel):l.Nodup:=h
abbrev rK {K:PySem.W.Frag}{mg:Str->Option Value}{nm:Str}{st:Stmt}{ps:List Str}(P:Program)(w:World)(base:Heap)(x:mX K mg nm st ps)(d:Nat)(m:MF):Prop:=eF P w K mg base ou d x.f x.fd ps (rJ K m)
section
variable {P:Program}{w:World}{K:PySem.W.Frag}{mg:Str->Option Value}{base:Heap}{nm:Str}{st:Stmt}{ps:List Str}{x:mX K mg nm st ps}{M:MF}
def bR (N:List Str)(k kk:Nat)(m:MS)(hM:M=jt ps.length kk m)(h:∀(cdv:Value) (A:Around) (outer:List Env) (s:Shared) (H:Hp) (E:XK),N.Nodup->Room k (A.deeper (envOfC nm (aH st) s.heap.objs.size x.f cdv))->(A.deeper (envOfC nm (aH st) s.heap.objs.size x.f cdv)).units+64<cLine ->
 Ep (jY ou P w K mg base N nm (aH st) x.f cdv A outer s H E).nox False (dg st) m) (S:cF N ps (aH st):=by exact fsc) (hkk:N.length<=kk:=by decide):rK P w base x (k+1) M:=lr hkk x.F S hM fun cdv A outer s H E hr=>h cdv A outer s H E S.nd hr hr.units
end
section
variable {X:Cx}{pos:Pos}{x:Str}
def wG (i:Nat)(hN:X.N.Nodup)(hi:X.N[i]? = some x:=by rfl)(hx:Loc X.env.scope x:=by first | exact Or.inl rfl | exact Or.inr rfl)(hf:X.fn x=true\/X.env.scope.names.lookup x=some .local:=by first | exact .inl rfl | exact .inr rfl):PG X (.Name x pos) (cR i):=pK (i:=i) hN hi hx hf
end
structure FnMI (K:PySem.W.Frag)(C:Addr)(nm qual:Str)(st:Stmt) where
 f:Addr
 fd:FuncData
 F:Fun K nm qual st f fd
 m:Meth K C nm f
noncomputable def fnMI {K:PySem.W.Frag}{C:Addr}{nm qual:Str}{st:Stmt}{f:Addr}{od an:Option Addr}{sl:Array (Option Value)}{oc kV dc pm cd ct:Value}(a:PySem.W.findIn K (.ref C) nm=some (some (.ref f)))(i:PySem.W.isFn K (.ref f)=true)
 (l:K.lookup f=some ⟨oc,od,.func (PySem.W.fnOf nm qual (gK st) (dg st) (aH st) .none kV dc pm an cd ct),sl⟩) (c:PySem.W.codeIn K cd qual=true) (k:PySem.W.keepIn K (.ref f)=true):FnMI K C nm qual st:=⟨f,_,HR l c k,⟨a,i,k⟩⟩
structure Eo (K:PySem.W.Frag)(C:Addr)(nm qual:Str)(st:Stmt)(ps:List Str) where
 f:Addr
 fd:FuncData
 F:Fun K nm qual st f fd
 m:Meth K C nm f
 b:Binds K fd ps []
def FnMI.g {K:PySem.W.Frag}{C:Addr}{nm qual:Str}{st:Stmt}{ps:List Str}(x:FnMI K C nm qual st)
 (b:∀(kV doc pm:Value) (an:Option Addr) (cdv ct:Value) (us:List Value),us.length=ps.length->bindArgs (PySem.W.fnOf nm qual (gK st) (dg st) (aH st) .none kV doc pm an cdv ct) ⟨us,[]⟩=pure (ps.zip us):=by intro _ _ _ _ _ _ us hl;rcases us with _ | ⟨_,_ | ⟨_,_ | ⟨_,_ | ⟨_,_ | ⟨_,_⟩⟩⟩⟩⟩ <;> first | rfl | cases hl):Eo K C nm qual st ps:=⟨x.f,x.fd,x.F,x.m,x.F.binds b⟩
abbrev Qt {K:PySem.W.Frag}{C:Addr}{nm qual:Str}{st:Stmt}{ps:List Str}(P:Program)(w:World)(mg:Str->Option Value)(base:Heap)(x:Eo K C nm qual st ps)(d:Nat)(m:MF):Prop:=eF P w K mg base ou d x.f x.fd ps (rJ K m)
section
variable {P:Program}{w:World}{K:PySem.W.Frag}{mg:Str->Option Value}{base:Heap}{C:Addr}{nm qual:Str}{st:Stmt}{ps:List Str}{x:Eo K C nm qual st ps}{M:MF}
end
section
variable {X:Cx}{o e:Expr}{es:List Expr}{mo:ME}{m:MA}{pos apos:Pos}{C:Addr}{nm qual:Str}{st:Stmt}{ps:List Str}{k k':Nat}{fn:MF}
def Ja {x:Eo X.K C nm qual st ps}{pl:Sem Bool}(ho:DE X o mo)(c:Cls X.K C)(F:Qt X.prog X.w X.mg X.base x k fn)(hr:Room k' X.A)(ha:DA X (e::es) m)(hk:k<=k':=by decide)
 (hst:starEach (e::es) X.env=(false,eval e X.env)::starEach es X.env:=by rfl) (hpl:(backTo pos (starEach es X.env)).any (·.1)=false:=by rfl)
 (ht:eval (.Call (.Attribute o nm apos) (e::es) [] pos) X.env=(do
  let ov <-eval o X.env
  standAt apos.atName
  let (f,first) <-holding [ov] (getMethod ov nm pl)
  callWith pos f first (backTo pos (starEach (e::es) X.env)) (backToKw pos (keywordEach [] X.env))):=by rfl) :
 DE X (.Call (.Attribute o nm apos) (e::es) [] pos) (dO C nm fn mo m):=Lj (pl:=pl) ho c x.m F (hr.mono hk) x.b ha hst hpl ht
def mL {x:Eo X.K C nm qual st ps}{pl:Sem Bool}(ho:DE X o mo)(c:Cls X.K C)(F:Qt X.prog X.w X.mg X.base x k fn)(hr:Room k' X.A)(hk:k<=k':=by decide)
 (ht:eval (.Call (.Attribute o nm apos) [] [] pos) X.env=(do
  let ov <-eval o X.env
  standAt apos.atName
  let (f,first) <-holding [ov] (getMethod ov nm pl)
  callWith pos f first (backTo pos (starEach [] X.env)) (backToKw pos (keywordEach [] X.env))):=by rfl) :
 DE X (.Call (.Attribute o nm apos) [] [] pos) (dO C nm fn mo aD):=IW (pl:=pl) ho c x.m F (hr.mono hk) x.b ht
end
end DL
namespace DL.Pg
open PySem DL
def dB:MS:=(bZ (qY (ao 0) (kE (vU 1) (ao 0))))
def fJ:MF:=jt 1 1 dB
def oh:MS:=(bY (d8 (aB La (ak (aQ eG (ao 0) (eC (.int 0))) (ak (eC (.int 0)) aD))) (gN 1))
 (bZ (mH (ak (ao 1) (ak (aB La (ak (aQ eG (ao 0) (eC (.int 1))) (ak (ao 1) aD))) aD)))))
def f9:MF:=jt 1 2 oh
def dX:MS:=(NT 3 1 (aB f9 (ak (ao 2) aD)))
def jf:MS:=(bY (wg 3 1 (lw (ak (eC (.int 0)) aD)))
 (bY (yF (qQ (ao 0)) (gN 2)
 dX)
 (J7 3 [1] (bZ (kE lF (ao 1))))))
def lq:MF:=jt 1 6 jf
def je:MS:=(bY (d8 (aB Pu (ak (aQ eG (ao 0) (eC (.int 3))) (ak (eC (.int 24)) aD))) (gN 1))
 (bZ (dR 1 [0] (iZ (ao 1)) (gN 0) tT (aQ oMod (aQ eE (aQ eG (ao 1) (eC (.int 2))) (ao 0)) (eC (.int 24))))))
def gq:MF:=jt 1 2 je
def dw:MF:=iz f9 gq
def cW:MS:=(bY (d8 (Bs (ao 2) (aQ eG (ao 5) (eC (.int 0))) (qX (lw (ak (eC (.int 0)) aD)) (eC (.int 24)))) (gN 6))
 (bY (d8 (dR 2 [] (rY (ao 4) (ao 6)) (gT (bK (gN 0) (bK (gN 1) jl))) tT (aQ eE (ao 0) (ao 1))) (gN 4))
 (NZ 7 3 (ao 4))))
def fV:MS:=(bY (d8 (aB dw (ak (ao 0) aD)) (gN 2))
 (bY (wg 7 3 (lw aD))
 (bY (d8 (qX (lw (ak (eC (.int 0)) aD)) (eC (.int 24))) (gN 4))
 (bY (yF (qQ (ao 1)) (gN 5)
 cW)
 (J7 7 [3] (bZ (ao 3)))))))
def fO:MF:=jt 2 14 fV
def gO:MS:=(bZ (aQ oY (aQ cY (aQ eG (ao 0) (eC (.int 1))) (aQ eG (ao 0) (eC (.int 1)))) (aQ cY (aQ eG (ao 0) (eC (.int 0))) (aQ eG (ao 0) (eC (.int 0))))))
def fc:MF:=jt 1 1 gO
def cJ:MS:=(Ge 6 1 (ao 5) (aB fc (ak (ao 3) aD)))
def fL:MS:=(yF (qQ (ao 4)) (gN 5)
 cJ)
def eX:MS:=(bY (wg 6 1 (qX (lw (ak (eC (.int 0)) aD)) (aQ eE (aB o9 (ak (ao 0) aD)) (eC (.int 1)))))
 (bY (d8 (aB fJ (ak (aB lq (ak (ao 0) aD)) aD)) (gN 2))
 (bY (yF (rY (ao 2) (aB fO (ak (ao 0) (ak (ao 2) aD)))) (gT (bK (gN 3) (bK (gN 4) jl)))
 fL)
 (J7 6 [1] (bZ (aB jc (ak (kE (vU 1) (ao 1)) aD)))))))
def bx:MF:=jt 1 12 eX
def dY:MS:=(bZ (aB Ru (ak (aB bx (ak (ao 0) aD)) aD)))
def cV:MF:=jt 1 1 dY
end DL.Pg
namespace DL.Lw
open PySem DL DL.Pg
def lB:MS:=(bZ (aQ oMod (aQ oMod (aQ cY (ao 0) (eC (.int 48271))) (ao 1)) (ao 2)))
def aU:MF:=jt 3 3 lB
def fY:MS:=(bY (d8 (aB aU (ak (ao 0) (ak (eC (.int 9973)) (ak (ao 1) aD)))) (gN 2))
 (bY (d8 (aQ eE (aQ eE (ao 2) (eC (.int 1))) (aB aU (ak (ao 0) (ak (eC (.int 9967)) (ak (aQ oY (ao 1) (ao 2)) aD))))) (gN 3))
 (bY (d8 (aQ eE (eC (.int 1)) (aB aU (ak (ao 0) (ak (eC (.int 9949)) (ak (eC (.int 24)) aD))))) (gN 4))
 (bY (Es (tV (aQ oEq (aQ oMod (ao 0) (eC (.int 4))) (eC (.int 0)))) (d8 (eC (.int 24)) (gN 4)) wj)
 (bZ (mH (ak (ao 2) (ak (ao 3) (ak (aB aU (ak (ao 0) (ak (eC (.int 9941)) (ak (eC (.int 24)) aD)))) (ak (ao 4) aD))))))))))
def dN:MF:=jt 2 5 fY
def jg:MS:=(bY (d8 (ao 0) (gT (bK (gN 3) (bK (gN 4) (bK (gN 5) (bK (gN 6) jl))))))
 (bY (Es (tOr (tV (aQ oLt (aQ eG (ao 1) (eC (.int 0))) (aQ cY (ao 3) (aQ eG (ao 1) (eC (.int 1)))))) (tV (aQ RQ (aQ eG (ao 1) (eC (.int 0))) (aQ cY (ao 4) (aQ eG (ao 1) (eC (.int 1))))))) (bZ (eC (.bl false))) wj)
 (bZ (aQ oLt (aQ oMod (aQ oY (aQ eG (ao 2) (eC (.int 0))) (aQ cY (ao 5) (aQ eG (ao 2) (eC (.int 1))))) (aQ cY (eC (.int 24)) (aQ eG (ao 2) (eC (.int 1))))) (aQ cY (ao 6) (aQ eG (ao 2) (eC (.int 1))))))))
def gr:MF:=jt 3 7 jg
def kI:MS:=(bZ (aB jc (ak (dR 2 [1] (Bl (ao 0)) (gT (bK (gN 0) (bK (gN 1) jl))) (tV (aB gr (ak (ao 1) (ak (aQ eG (ao 2) (eC (.int 0))) (ak (aQ eG (ao 2) (eC (.int 1))) aD))))) (ao 0)) aD)))
def cN:MF:=jt 2 2 kI
end DL.Lw
namespace DL.K08
open PySem DL DL.Pg DL.Lw
def dW:MS:=(bY (d8 (aQ eG (ao 0) (eC (.int 1))) (gN 3))
 (bZ (eV oLe oLt (aQ cY (ao 1) (ao 3)) (aQ eG (ao 0) (eC (.int 0))) (aQ cY (ao 2) (ao 3)))))
def dM:MF:=jt 3 4 dW
def rD:MS:=(bZ (aB dM (ak (ao 2) (ak (ao 0) (ak (ao 1) aD)))))
def lg:MF:=jt 3 3 rD
def vC:MS:=(bY (d8 (aQ eG (ao 1) (eC (.int 1))) (gN 2))
 (bZ (mH (ak (aQ oMod (aQ oY (aQ eG (ao 1) (eC (.int 0))) (aQ cY (ao 0) (ao 2))) (aQ cY (eC (.int 24)) (ao 2))) (ak (ao 2) aD)))))
def yU:MF:=jt 2 3 vC
def uB:MS:=(bZ (aB dM (ak (aB yU (ak (ao 0) (ak (ao 2) aD))) (ak (eC (.int 0)) (ak (ao 1) aD)))))
def jO:MF:=jt 3 3 uB
def M6:MS:=(bZ (Ie (aB lg (ak (aQ eG (ao 0) (eC (.int 0))) (ak (aQ eG (ao 0) (eC (.int 1))) (ak (aQ eG (ao 1) (eC (.int 0))) aD)))) (aB jO (ak (aQ eG (ao 0) (eC (.int 2))) (ak (aQ eG (ao 0) (eC (.int 3))) (ak (aQ eG (ao 1) (eC (.int 1))) aD))))))
def wZ:MF:=jt 2 2 M6
def gP (C:Nat):MS:=(bZ (aB jc (ak (dR 2 [1] (pM (kE (vV C "pieces") (ao 0))) (gT (bK (gN 0) (bK (gN 1) jl))) (tV (aB wZ (ak (ao 1) (ak (ao 2) aD)))) (ao 0)) aD)))
def cQ (C:Nat):MF:=jt 2 2 (gP C)
def jq (C:Nat):MS:=(bZ (kE yh (kE (vV C "pieces") (ao 0))))
def dz (C:Nat):MF:=jt 1 1 (jq C)
def kJ (C:Nat):MS:=(bZ (kE yg (kE (vV C "pieces") (ao 0))))
def bQ (C:Nat):MF:=jt 1 1 (kJ C)
def mV (C:Nat):MS:=(bZ (aB cV (ak (dO C "sheet" (bQ C) (ao 0) aD) aD)))
def fQ (C:Nat):MF:=jt 1 1 (mV C)
def cC (C:Nat):MS:=(bY (d8 (aB bx (ak (dO C "sheet" (bQ C) (ao 0) aD) aD)) (gN 2))
 (bY (Es (tNot (tV (eV oLe oLe (eC (.int 1)) (ao 1) (aB o9 (ak (ao 2) aD))))) (bZ (eC (.int 0))) wj)
 (bZ (aQ eG (ao 2) (aQ oY (ao 1) (eC (.int 1)))))))
def cA (C:Nat):MF:=jt 2 3 (cC C)
def fW (C:Nat):MS:=(bY (d8 (kE uF (ao 1)) (gN 3))
 (bY (d8 (aB jc (ak (dR 1 [1] (qQ (ao 3)) (gN 0) tT (Bt (ao 1) (ao 0))) aD)) (gN 4))
 (bY (Es (tOr (tV (aQ wQ (dO C "numbers" (dz C) (ao 0) aD) (aB jc (ak (ao 3) aD)))) (tOr (tV (aQ wQ (dO C "sheet" (bQ C) (ao 0) aD) (ao 4))) (tV (aQ wQ (dO C "area" (fQ C) (ao 0) aD) (aB cV (ak (ao 4) aD)))))) (bZ (eC (.bl false))) wj)
 (bY (Es (tV (aQ wQ (dO C "layers_at" (cQ C) (ao 0) (ak (ao 2) aD)) (aB jc (ak (dR 1 [3] (qQ (aB cN (ak (ao 4) (ak (ao 2) aD)))) (gN 0) tT (aQ eG (ao 1) (ao 0))) aD)))) (bZ (eC (.bl false))) wj)
 (bY (d8 (aQ eE (aB bx (ak (ao 4) aD)) (mH (ak (eC (.int 0)) (ak (eC (.int 0)) aD)))) (gN 5))
 (bZ (aQ oEq (dR 1 [0] (iZ (aB o9 (ak (ao 5) aD))) (gN 0) tT (dO C "depth_area" (cA C) (ao 1) (ak (aQ eE (ao 0) (eC (.int 1))) aD))) (aB MP (ak (ao 5) aD)))))))))
def fP (C:Nat):MF:=jt 3 6 (fW C)
def dZ:MS:=(QV 2 3 (ao 3) (aQ oMod (ao 2) (ao 3)))
def dC:MS:=(bY (d8 (aB Px (ak (ao 0) aD)) (gN 2))
 (bY (d8 (ao 1) (gN 3))
 (bY (nq (tV (aQ OJ (ao 3) (eC (.int 0))))
 dZ)
 (bZ (mH (ak (aQ wR (ao 0) (ao 2)) (ak (aQ wR (ao 1) (ao 2)) aD)))))))
def cH:MF:=jt 2 4 dC
def fX:MS:=(bY (d8 (aB cH (ak (aQ eE (eC (.int 1)) (aB aU (ak (ao 0) (ak (eC (.int 9929)) (ak (aQ eE (aQ cY (eC (.int 4)) (ao 1)) (eC (.int 8))) aD))))) (ak (eC (.int 4)) aD))) (gN 2))
 (bZ (mH (ak (ao 2) (ak (aB cH (ak (aB aU (ak (ao 0) (ak (eC (.int 9923)) (ak (eC (.int 72)) aD)))) (ak (eC (.int 3)) aD))) aD)))))
def iW:MF:=jt 2 3 fX
def mU:MS:=(bZ (Ie (aB (RV .int) (ak (ao 0) aD)) (Rw (aB (RV .bool) (ak (ao 0) aD)))))
def iV:MF:=jt 1 1 mU
end DL.K08
namespace DL.K08
open PySem PySem.Spec PyProof.Rows L2 DL DL.Pg DL.Lw
noncomputable def top (i:Nat):Stmt:=PySem.Challenge.pw_ringlayers_k08_whole_boards.main.body.getD i (.Pass ⟨0,0,0,0⟩)
abbrev ik:Stmt:=inClass (top 25) 0
abbrev jh:Stmt:=top 12
abbrev sS:Stmt:=top 9
abbrev qg:Stmt:=top 11
abbrev kY:Stmt:=top 10
abbrev iK:Stmt:=top 14
abbrev fG:Stmt:=top 13
abbrev iJ:Stmt:=top 15
abbrev oH:Stmt:=top 16
abbrev j7:Stmt:=top 18
abbrev jz:Stmt:=top 19
abbrev ql:Stmt:=top 33
abbrev gQ:Stmt:=top 34
abbrev jy:Stmt:=top 1
abbrev p7:Stmt:=top 5
abbrev Gd:Stmt:=top 7
abbrev sU:Stmt:=top 6
abbrev Mp:Stmt:=top 4
abbrev cP:Stmt:=inClass (top 25) 5
abbrev fH:Stmt:=inClass (top 25) 3
abbrev gR:Stmt:=inClass (top 25) 4
abbrev iM:Stmt:=inClass (top 25) 6
abbrev dD:Stmt:=inClass (top 25) 7
abbrev cX:Stmt:=top 37
abbrev qj:Stmt:=top 28
abbrev lU:Stmt:=top 29
abbrev eN:Stmt:=inClass (top 25) 2
abbrev lQ:Stmt:=top 36
abbrev ji:Stmt:=top 31
abbrev lR:Stmt:=top 32
abbrev lO:Stmt:=top 35
abbrev jA:Stmt:=inClass (top 25) 1
abbrev oG:Stmt:=top 38
structure Txt (K:PySem.W.Frag)(mg:Str->Option Value) where
 x_bands_between:mX K mg "bands_between" jh ["edges"]
 x_span_of:mX K mg "span_of" sS ["piece"]
 x_edges_of:mX K mg "edges_of" qg ["sheet"]
 x_turns_of:mX K mg "turns_of" kY ["piece"]
 x_add_change:mX K mg "add_change" iK ["changes","far","piece","by"]
 x_depth_changes:mX K mg "depth_changes" fG ["sheet"]
 x_depth_rows:mX K mg "depth_rows" iJ ["sheet","bands"]
 x_cell_area:mX K mg "cell_area" oH ["band"]
 x_depth_areas:mX K mg "depth_areas" j7 ["sheet"]
 x_covered_area:mX K mg "covered_area" jz ["sheet"]
 x__law_has:mX K mg "_law_has" ql ["_law_piece_here","_law_far","_law_turn"]
 x__law_layers:mX K mg "_law_layers" gQ ["_law_sheet_here","_law_point_here"]
 x_lies_between:mX K mg "lies_between" jy ["fraction","begin","end"]
 x_ring_has:mX K mg "ring_has" p7 ["inner","outer","far"]
 x_rise:mX K mg "rise" Gd ["begin","turn"]
 x_arc_has:mX K mg "arc_has" sU ["begin","wide","turn"]
 x_has:mX K mg "has" Mp ["piece","point"]
 x__law_right:mX K mg "_law_right" cX ["_law_board","_law_rows","_law_point_here"]
 x__law_mix:mX K mg "_law_mix" qj ["_law_cell_here","_law_prime","_law_many"]
 x__law_piece:mX K mg "_law_piece" lU ["_law_cell_here","_law_most"]
 x__law_taken:mX K mg "_law_taken" lQ ["_law_board","_law_number"]
 x__law_fraction:mX K mg "_law_fraction" ji ["_law_upper","_law_lower"]
 x__law_point:mX K mg "_law_point" lR ["_law_cell_here","_law_most"]
 x__law_whole:mX K mg "_law_whole" lO ["_law_found"]
 x_law:mX K mg "law" oG ["_law_script"]
 C:Addr
 cl:Cls K C
 g_Board:mg "Board"=some (.ref C)
 n_pieces:NoAttr K C "pieces"
 n_unused:NoAttr K C "unused"
 x_Board___init__:Eo K C "__init__" "Board.__init__" ik ["self"]
 x_Board_layers_at:Eo K C "layers_at" "Board.layers_at" cP ["self","point"]
 x_Board_numbers:Eo K C "numbers" "Board.numbers" fH ["self"]
 x_Board_sheet:Eo K C "sheet" "Board.sheet" gR ["self"]
 x_Board_area:Eo K C "area" "Board.area" iM ["self"]
 x_Board_depth_area:Eo K C "depth_area" "Board.depth_area" dD ["self","k"]
 x_Board_take_out:Eo K C "take_out" "Board.take_out" eN ["self","number"]
 x_Board_put_in:Eo K C "put_in" "Board.put_in" jA ["self","piece"]
 mkB:Mk K C x_Board___init__.f
 k_WHOLE_TURN:Tok
 c_WHOLE_TURN:mg "WHOLE_TURN"=some (.int 24 k_WHOLE_TURN)
 C_NoPiece:Addr
 g_NoPiece:mg "NoPiece"=some (.ref C_NoPiece)
 C_NoText:Addr
 g_NoText:mg "NoText"=some (.ref C_NoText)
 C_RingError:Addr
 g_RingError:mg "RingError"=some (.ref C_RingError)
 q_E:PySem.W.excIn K C_NoPiece [.type "ValueError",.type "Exception",.type "BaseException",.type "object"] "ValueError.__new__"=true
 x_E:PySem.W.exmOne K (.ref C_NoPiece) (.ref C_RingError)=some true
 i_E:PySem.W.kitOne K (.ref C_NoPiece) (.ref C_NoText)=some false
 e_E:PySem.W.kitOne K (.ref C_NoPiece) (.type "ValueError")=some true
 k1_E:PySem.W.findIn K (.ref C_NoPiece) "__getattribute__"=some (some (.builtin "BaseException.__getattribute__"))
 k7_E:PySem.W.findIn K (.ref C_NoPiece) "__getattr__"=some none
 k8_E:PySem.W.mroIn K C_NoPiece (.type "BaseException")=some true
 k2_E:PySem.W.hasDictIn K C_NoPiece=true
 k3_E:PySem.W.findIn K (.ref C_NoPiece) "__class__"=some (some (.builtin "object.__class__"))
 k4_E:PySem.W.specialIn K (.builtin "object.__class__") "__get__"=some (some (.builtin "getset_descriptor.__get__"))
 k5_E:PySem.W.takesIn K (.builtin "object.__class__")=some true
 k6_E:PySem.W.mroIn K C_NoPiece (.type "object")=some true
 z_ValueError:mg "ValueError"=none
 z_abs:mg "abs"=none
 z_bool:mg "bool"=none
 z_dict:mg "dict"=none
 z_enumerate:mg "enumerate"=none
 z_int:mg "int"=none
 z_isinstance:mg "isinstance"=none
 z_len:mg "len"=none
 z_list:mg "list"=none
 z_max:mg "max"=none
 z_min:mg "min"=none
 z_range:mg "range"=none
 z_set:mg "set"=none
 z_sorted:mg "sorted"=none
 z_sum:mg "sum"=none
 z_tuple:mg "tuple"=none
 z_zip:mg "zip"=none
def Txt.k_E {K:PySem.W.Frag}{mg:Str->Option Value}(T:Txt K mg):uE K T.C_NoPiece:=⟨T.k1_E,T.k7_E,T.k8_E,T.k2_E,T.k3_E,T.k4_E,T.k5_E,T.k6_E⟩
section
variable {P:Program}{w:World}{K:PySem.W.Frag}{mg:Str->Option Value}{base:Heap}
def nF (T:Txt K mg):rK P w base T.x_bands_between 1 fJ :=
 bR ["edges"] 0 1 dB rfl fun _ _ _ _ _ _ nd hr hu =>
  (aN (bf (zx rfl rfl T.z_list rfl T.z_zip (dv 0) (BW 1 (dv 0)))))
def qF (T:Txt K mg):rK P w base T.x_span_of 1 f9 :=
 bR ["piece","inner"] 0 2 oh rfl fun _ _ _ _ _ _ nd hr hu =>
  (aL (bU (fu (Jr rfl) rfl T.z_max rfl (aq (bH bG (dv 0) aA (fun _ _=>rfl)) (aq aA aG))) (jd 1 nd))
  (aN (bf (lz (aq (dv 1) (aq (fu (Jr rfl) rfl T.z_max rfl (aq (bH bG (dv 0) aA (fun _ _=>rfl)) (aq (dv 1) aG))) aG)) (by decide)))))
def wN (T:Txt K mg):rK P w base T.x_edges_of 2 lq :=
 bR ["sheet","fars","piece"] 1 6 jf rfl fun _ _ _ _ _ _ nd hr hu =>
  (aL (zq (n:=3) (i:=1) rfl (by decide) (nW (aq aA aG) (by decide)) (wG 1 nd))
  (aL (vf PassesOwn.never rfl (q9 (dv 0)) (jd 2 nd)
  (aN (PJ (n:=3) (i:=1) rfl (by decide) rfl (pv 1) (aX (qF T) hr (aq (dv 2) aG)))))
  (vd (n:=3) (is:=[1]) rfl (by decide) rfl (aN (bf (zu rfl rfl T.z_sorted rfl T.z_set (dv 1)))))))
abbrev qK:List Str:=["piece","wide"]
def wL (T:Txt K mg):rK P w base T.x_turns_of 1 gq :=
 bR qK 0 2 je rfl fun _ _ _ _ _ _ nd hr hu =>
  (aL (bU (fu (Ql rfl) rfl T.z_min rfl (aq (bH bG (dv 0) aA (fun _ _=>rfl)) (aq (mO rfl T.c_WHOLE_TURN) aG))) (jd 1 nd))
  (aN (bf (jQ (scX:=aH kY) (NX:=qK) (N:=["step","piece"]) (k:=1) (fv:=[0]) rfl M3 rfl rfl (xO rfl T.z_range (dv 1)) (bL (by decide)) (fun _ _ _ _=>⟨(jd 0 (nod ["step","piece"])),rfl,(aW iT (aW eU (bH bG (dv 1) aA (fun _ _=>rfl)) (dv 0)) (mO rfl T.c_WHOLE_TURN))⟩)))))
def sc_add_change:cF ["changes","far","piece","by","row","turn"] ["changes","far","piece","by"] (aH iK):=fsc
def j8 (T:Txt K mg):eF P w K mg base ou 2 T.x_add_change.f T.x_add_change.fd ["changes","far","piece","by"] (zR K gq) :=
 T.x_add_change.F.ok sc_add_change (fun vs H Q E h=>by obtain⟨_,_,_,_,_,_,_,_,rfl,_⟩:=h;rfl) fun cdv A outer s H vs Q E hr hq =>
  ⟨_,aP (qy (i:=4) sc_add_change.nd rfl (Or.inl rfl) (Kw (pv 0) (pv 1) (GF G6 (GP (aJ dF aY)) (pL (v:=.int 24) rfl T.c_WHOLE_TURN ⟨_,rfl⟩)))) (bD (uR PassesOwn.never rfl (Ks (gG (wL T) (hr.mono (by decide)) rfl T.x_turns_of.g T.x_turns_of.F.kp T.x_turns_of.b .nil iw (aJ (pv 2) aY))) (wG 5 sc_add_change.nd) (bD (Ab (pv 4) (pv 5) xB (pv 3) Ht set_list)))),JC rfl hq fun _ _ z=>z⟩
def sc_depth_changes:cF ["sheet","changes","piece","span"] ["sheet"] (aH fG):=fsc
def nA (T:Txt K mg):eF P w K mg base ou 3 T.x_depth_changes.f T.x_depth_changes.fd ["sheet"] (rJ K dw) :=
 T.x_depth_changes.F.ok sc_depth_changes (fun vs H Q E h=>Qf h) fun cdv A outer s H vs Q E hr hq =>
  ⟨_,aP (qy (i:=1) sc_depth_changes.nd rfl (Or.inl rfl) lY) (aP (uR PassesOwn.never rfl (Oj (pv 0)) (wG 2 sc_depth_changes.nd) (aP (qy (i:=3) sc_depth_changes.nd rfl (Or.inl rfl) (gG (qF T) (hr.mono (by decide)) rfl T.x_span_of.g T.x_span_of.F.kp T.x_span_of.b .nil iw (aJ (pv 2) aY))) (aP (lX (gG (j8 T) (hr.mono (by decide)) rfl T.x_add_change.g T.x_add_change.F.kp T.x_add_change.b .nil iw (aJ (pv 1) (aJ (GQ ix_tup (pv 3) dF (fun _ _=>rfl)) (aJ (pv 2) (aJ dF aY)))))) (bD (lX (gG (j8 T) (hr.mono (by decide)) rfl T.x_add_change.g T.x_add_change.F.kp T.x_add_change.b .nil iw (aJ (pv 1) (aJ (GQ ix_tup (pv 3) dF (fun _ _=>rfl)) (aJ (pv 2) (aJ (Q5 Ni dF) aY)))))))))) (CT (bD (jB (pv 1))))),Lr rfl hq⟩
abbrev mj:List Str:=["sheet","bands","changes","rows","row","band","change"]
def rP (T:Txt K mg):rK P w base T.x_depth_rows 4 fO :=
 bR mj 3 14 fV rfl fun _ _ _ _ _ _ nd hr hu =>
  (aL (bU (aX (nA T) hr (aq (dv 0) aG)) (jd 2 nd))
  (aL (zq (n:=7) (i:=3) rfl (by decide) (nW aG (by decide)) (wG 3 nd))
  (aL (bU (DF.de (zr (nW (aq aA aG) (by decide)) (mO rfl T.c_WHOLE_TURN)) (xf _ _)) (jd 4 nd))
  (aL (vf PassesOwn.never rfl (q9 (dv 1)) (jd 5 nd)
  (aL (bU (Ln (ul hu) (dv 2) (bH bG (dv 5) aA (fun _ _=>rfl)) (DF.de (zr (nW (aq aA aG) (by decide)) (mO rfl T.c_WHOLE_TURN)) (xf _ _))) (jd 6 nd))
  (aL (Lg (i:=4) rfl (wG 4 nd) (scX:=aH iJ) (NX:=mj) (N:=["depth","by"]) (k:=2) (fv:=[]) rfl M3 rfl rfl (Ij rfl T.z_zip (dv 4) (dv 6)) (nZ (dH (bL (by decide)) (dH (bL (by decide)) lA))) (fun _ _ _ _=>⟨(rm rfl (cI (jd 0 (nod ["depth","by"])) (cI (jd 1 (nod ["depth","by"])) mK)) (bC (bC iC))),rfl,(aW eU (dv 0) (dv 1))⟩))
  (aN (PK (n:=7) (i:=3) rfl (by decide) rfl (pv 3) (dv 4))))))
  (vd (n:=7) (is:=[3]) rfl (by decide) rfl (aN (bf (dv 3))))))))
def uX (T:Txt K mg):rK P w base T.x_cell_area 1 fc :=
 bR ["band"] 0 1 gO rfl fun _ _ _ _ _ _ nd hr hu =>
  (aN (bf (aW nH (aW eQ (bH bG (dv 0) aA (fun _ _=>rfl)) (bH bG (dv 0) aA (fun _ _=>rfl))) (aW eQ (bH bG (dv 0) aA (fun _ _=>rfl)) (bH bG (dv 0) aA (fun _ _=>rfl))))))
def gm (T:Txt K mg):rK P w base T.x_depth_areas 5 bx :=
 bR ["sheet","areas","bands","band","row","depth"] 4 12 eX rfl fun _ _ _ _ _ _ nd hr hu =>
  (aL (zq (n:=6) (i:=1) rfl (by decide) (zr (nW (aq aA aG) (by decide)) (aW eU (fu zF rfl T.z_len PySem.boot_len (aq (dv 0) aG)) aA)) (wG 1 nd))
  (aL (bU (aX (nF T) hr (aq (aX (wN T) hr (aq (dv 0) aG)) aG)) (jd 2 nd))
  (aL (vf PassesOwn.never rfl (Ij rfl T.z_zip (dv 2) (aX (rP T) hr (aq (dv 0) (aq (dv 2) aG)))) (rm rfl (cI (jd 3 nd) (cI (jd 4 nd) mK)) (bC (bC iC)))
  (aN (vf PassesOwn.never rfl (q9 (dv 4)) (jd 5 nd)
  (aN (Lf (n:=6) (i:=1) rfl (by decide) rfl (pv 1) (dv 5) (aX (uX T) hr (aq (dv 3) aG)))))))
  (vd (n:=6) (is:=[1]) rfl (by decide) rfl (aN (bf (dh iD rfl T.z_tuple rfl (aq (BW 1 (dv 1)) aG))))))))
def jk (T:Txt K mg):rK P w base T.x_covered_area 6 cV :=
 bR ["sheet"] 5 1 dY rfl fun _ _ _ _ _ _ nd hr hu =>
  (aN (bf (fu (Qk rfl) rfl T.z_sum rfl (aq (aX (gm T) hr (aq (dv 0) aG)) aG))))
def wO (T:Txt K mg):rK P w base T.x__law_has 1 gr :=
 bR ["_law_piece_here","_law_far","_law_turn","_law_inner","_law_outer","_law_begin","_law_wide"] 0 7 jg rfl fun _ _ _ _ _ _ nd hr hu =>
  (aL (bU (dv 0) (rm rfl (cI (jd 3 nd) (cI (jd 4 nd) (cI (jd 5 nd) (cI (jd 6 nd) mK)))) (bC (bC (bC (bC iC))))))
  (aL (xK (DW.dt (Bu (fK Al (bH bG (dv 1) aA (fun _ _=>rfl)) (aW eQ (dv 3) (bH bG (dv 1) aA (fun _ _=>rfl))) (cU _) Jw) (zm (fK Rh (bH bG (dv 1) aA (fun _ _=>rfl)) (aW eQ (dv 4) (bH bG (dv 1) aA (fun _ _=>rfl))) (cU _) RC)))) (aN (bf Jd)) mJ)
  (aN (bf (zz Al (aW iT (aW nH (bH bG (dv 2) aA (fun _ _=>rfl)) (aW eQ (dv 5) (bH bG (dv 2) aA (fun _ _=>rfl)))) (aW eQ aA (bH bG (dv 2) aA (fun _ _=>rfl)))) (aW eQ (dv 6) (bH bG (dv 2) aA (fun _ _=>rfl))) (cU _))))))
abbrev kj:List Str:=["_law_sheet_here","_law_point_here"]
def qH (T:Txt K mg):rK P w base T.x__law_layers 2 cN :=
 bR kj 1 2 kI rfl fun _ _ _ _ _ _ nd hr hu =>
  (aN (bf (dh iD rfl T.z_tuple rfl (aq (jQ (scX:=aH gQ) (NX:=kj) (N:=["_law_k","_law_piece_here","_law_point_here"]) (k:=2) (fv:=[1]) rfl M3 rfl rfl (By rfl T.z_enumerate (dv 0)) (nZ (dH (bL (by decide)) (dH (bL (by decide)) lA))) (fun _ _ _ _=>⟨(rm rfl (cI (jd 0 (nod ["_law_k","_law_piece_here","_law_point_here"])) (cI (jd 1 (nod ["_law_k","_law_piece_here","_law_point_here"])) mK)) (bC (bC iC))),(u9 (aX (wO T) hr (aq (dv 1) (aq (bH bG (dv 2) aA (fun _ _=>rfl)) (aq (bH bG (dv 2) aA (fun _ _=>rfl)) aG))))),(dv 0)⟩)) aG))))
def jj (T:Txt K mg):rK P w base T.x_lies_between 1 dM :=
 bR ["fraction","begin","end","lower"] 0 4 dW rfl fun _ _ _ _ _ _ nd hr hu =>
  (aL (bU (bH bG (dv 0) aA (fun _ _=>rfl)) (jd 3 nd))
  (aN (bf (DP G7 Al Jx Jw (aW eQ (dv 1) (dv 3)) (bH bG (dv 0) aA (fun _ _=>rfl)) (aW eQ (dv 2) (dv 3))))))
def wM (T:Txt K mg):rK P w base T.x_ring_has 2 lg :=
 bR ["inner","outer","far"] 1 3 rD rfl fun _ _ _ _ _ _ nd hr hu =>
  (aN (bf (aX (jj T) hr (aq (dv 2) (aq (dv 0) (aq (dv 1) aG))))))
def KJ (T:Txt K mg):rK P w base T.x_rise 1 yU :=
 bR ["begin","turn","lower"] 0 3 vC rfl fun _ _ _ _ _ _ nd hr hu =>
  (aL (bU (bH bG (dv 1) aA (fun _ _=>rfl)) (jd 2 nd))
  (aN (bf (lz (aq (aW iT (aW nH (bH bG (dv 1) aA (fun _ _=>rfl)) (aW eQ (dv 0) (dv 2))) (aW eQ (mO rfl T.c_WHOLE_TURN) (dv 2))) (aq (dv 2) aG)) (by decide)))))
def yP (T:Txt K mg):rK P w base T.x_arc_has 2 jO :=
 bR ["begin","wide","turn"] 1 3 uB rfl fun _ _ _ _ _ _ nd hr hu =>
  (aN (bf (aX (jj T) hr (aq (aX (KJ T) hr (aq (dv 0) (aq (dv 2) aG))) (aq aA (aq (dv 1) aG))))))
def OD (T:Txt K mg):rK P w base T.x_has 3 wZ :=
 bR ["piece","point"] 2 2 M6 rfl fun _ _ _ _ _ _ nd hr hu =>
  (aN (bf (Je (aX (wM T) hr (aq (bH bG (dv 0) aA (fun _ _=>rfl)) (aq (bH bG (dv 0) aA (fun _ _=>rfl)) (aq (bH bG (dv 1) aA (fun _ _=>rfl)) aG)))) (IV (aX (yP T) hr (aq (bH bG (dv 0) aA (fun _ _=>rfl)) (aq (bH bG (dv 0) aA (fun _ _=>rfl)) (aq (bH bG (dv 1) aA (fun _ _=>rfl)) aG))))))))
def kW:cF ["self","point"] ["self","point"] (aH cP):=fsc
def kZ (T:Txt K mg):Qt P w mg base T.x_Board_layers_at 4 (cQ T.C) :=
 lr (k:=3) (kk:=2) (m:=(gP T.C)) (by decide) T.x_Board_layers_at.F kW rfl fun cdv A outer s H E hr =>
  have hu:=hr.units
  (aN (bf (dh iD rfl T.z_tuple rfl (aq (jQ (scX:=aH cP) (NX:=["self","point"]) (N:=["number","piece","point"]) (k:=2) (fv:=[1]) rfl M3 rfl rfl (DN (zy (dv 0) T.cl T.n_pieces)) (nZ (dH (bL (by decide)) (dH (bL (by decide)) lA))) (fun _ _ _ _=>⟨(rm rfl (cI (jd 0 (nod ["number","piece","point"])) (cI (jd 1 (nod ["number","piece","point"])) mK)) (bC (bC iC))),(u9 (aX (OD T) hr (aq (dv 1) (aq (dv 2) aG)))),(dv 0)⟩)) aG))))
def nj:cF ["self"] ["self"] (aH fH):=fsc
def nG (T:Txt K mg):Qt P w mg base T.x_Board_numbers 1 (dz T.C) :=
 lr (k:=0) (kk:=1) (m:=(jq T.C)) (by decide) T.x_Board_numbers.F nj rfl fun cdv A outer s H E hr =>
  have hu:=hr.units
  (aN (bf (Iw rfl rfl T.z_tuple (zy (dv 0) T.cl T.n_pieces))))
def pZ:cF ["self"] ["self"] (aH gR):=fsc
def gn (T:Txt K mg):Qt P w mg base T.x_Board_sheet 1 (bQ T.C) :=
 lr (k:=0) (kk:=1) (m:=(kJ T.C)) (by decide) T.x_Board_sheet.F pZ rfl fun cdv A outer s H E hr =>
  have hu:=hr.units
  (aN (bf (Iv rfl rfl T.z_tuple (zy (dv 0) T.cl T.n_pieces))))
def rN:cF ["self"] ["self"] (aH iM):=fsc
def rW (T:Txt K mg):Qt P w mg base T.x_Board_area 7 (fQ T.C) :=
 lr (k:=6) (kk:=1) (m:=(mV T.C)) (by decide) T.x_Board_area.F rN rfl fun cdv A outer s H E hr =>
  have hu:=hr.units
  (aN (bf (aX (jk T) hr (aq (mL (dv 0) T.cl (gn T) hr) aG))))
def sc_Board_depth_area:cF ["self","k","areas"] ["self","k"] (aH dD):=fsc
def jU (T:Txt K mg):Qt P w mg base T.x_Board_depth_area 6 (cA T.C) :=
 lr (k:=5) (kk:=3) (m:=(cC T.C)) (by decide) T.x_Board_depth_area.F sc_Board_depth_area rfl fun cdv A outer s H E hr =>
  have hu:=hr.units
  (aL (bU (aX (gm T) hr (aq (mL (dv 0) T.cl (gn T) hr) aG)) (jd 2 sc_Board_depth_area.nd))
  (aL (xK (zp (DK G7 G7 Jx Jx aA (dv 1) (fu zF rfl T.z_len PySem.boot_len (aq (dv 2) aG)))) (aN (bf aA)) mJ)
  (aN (bf (bH bG (dv 2) (aW nH (dv 1) aA) (fun _ _=>rfl))))))
def sc__law_right:cF ["_law_board","_law_rows","_law_point_here","_law_numbers","_law_sheet_here","_law_due"] ["_law_board","_law_rows","_law_point_here"] (aH cX):=fsc
def kh (T:Txt K mg):rK P w base T.x__law_right 8 (fP T.C) :=
 lr (k:=7) (kk:=6) (m:=(fW T.C)) (by decide) T.x__law_right.F sc__law_right rfl fun cdv A outer s H E hr =>
  have hu:=hr.units
  (aL (bU (IK rfl rfl T.z_sorted (dv 1)) (jd 3 sc__law_right.nd))
  (aL (bU (dh iD rfl T.z_tuple rfl (aq (jQ (scX:=aH cX) (NX:=["_law_board","_law_rows","_law_point_here","_law_numbers","_law_sheet_here","_law_due"]) (N:=["_law_number","_law_rows"]) (k:=1) (fv:=[1]) rfl M3 rfl rfl (q9 (dv 3)) (bL (by decide)) (fun _ _ _ _=>⟨(jd 0 (nod ["_law_number","_law_rows"])),rfl,(BX (ul hu) (dv 1) (dv 0) (fun _ _=>rfl))⟩)) aG)) (jd 4 sc__law_right.nd))
  (aL (xK (DW.dt (Bu (fK (tO hu) (mL (dv 0) T.cl (nG T) hr) (dh iD rfl T.z_tuple rfl (aq (dv 3) aG)) (cU _) ut) (Bu (fK (tO hu) (mL (dv 0) T.cl (gn T) hr) (dv 4) (cU _) ut) (zm (fK (tO hu) (mL (dv 0) T.cl (rW T) hr) (aX (jk T) hr (aq (dv 4) aG)) (cU _) ut))))) (aN (bf Jd)) mJ)
  (aL (xK (fK (tO hu) (Ja (dv 0) T.cl (kZ T) hr (aq (dv 2) aG)) (dh iD rfl T.z_tuple rfl (aq (jQ (scX:=aH cX) (NX:=["_law_board","_law_rows","_law_point_here","_law_numbers","_law_sheet_here","_law_due"]) (N:=["_law_k","_law_numbers"]) (k:=1) (fv:=[3]) rfl M3 rfl rfl (q9 (aX (qH T) hr (aq (dv 4) (aq (dv 2) aG)))) (bL (by decide)) (fun _ _ _ _=>⟨(jd 0 (nod ["_law_k","_law_numbers"])),rfl,(bH bG (dv 1) (dv 0) (fun _ _=>rfl))⟩)) aG)) (cU _) ut) (aN (bf Jd)) mJ)
  (aL (bU (aW eU (aX (gm T) hr (aq (dv 4) aG)) (lz (aq aA (aq aA aG)) (by decide))) (jd 5 sc__law_right.nd))
  (aN (bf (zz (G8 hu) (jQ (scX:=aH cX) (NX:=["_law_board","_law_rows","_law_point_here","_law_numbers","_law_sheet_here","_law_due"]) (N:=["_law_k","_law_board"]) (k:=1) (fv:=[0]) rfl M3 rfl rfl (xO rfl T.z_range (fu zF rfl T.z_len PySem.boot_len (aq (dv 5) aG))) (bL (by decide)) (fun _ _ _ _=>⟨(jd 0 (nod ["_law_k","_law_board"])),rfl,(Ja (dv 1) T.cl (jU T) hr (aq (aW eU (dv 0) aA) aG))⟩)) (dh Ly rfl T.z_list rfl (aq (dv 5) aG)) (cU _)))))))))
def cT (T:Txt K mg):rK P w base T.x__law_mix 1 aU :=
 bR ["_law_cell_here","_law_prime","_law_many"] 0 3 lB rfl fun _ _ _ _ _ _ nd hr hu =>
  (aN (bf (aW iT (aW iT (aW eQ (dv 0) aA) (dv 1)) (dv 2))))
def rT (T:Txt K mg):rK P w base T.x__law_piece 2 dN :=
 bR ["_law_cell_here","_law_most","_law_inner","_law_outer","_law_wide"] 1 5 fY rfl fun _ _ _ _ _ _ nd hr hu =>
  (aL (bU (aX (cT T) hr (aq (dv 0) (aq aA (aq (dv 1) aG)))) (jd 2 nd))
  (aL (bU (aW eU (aW eU (dv 2) aA) (aX (cT T) hr (aq (dv 0) (aq aA (aq (aW nH (dv 1) (dv 2)) aG))))) (jd 3 nd))
  (aL (bU (aW eU aA (aX (cT T) hr (aq (dv 0) (aq aA (aq aA aG))))) (jd 4 nd))
  (aL (xK (fK (G8 hu) (aW iT (dv 0) aA) aA (cU _) RD) (aN (bU aA (jd 4 nd))) mJ)
  (aN (bf (lz (aq (dv 2) (aq (dv 3) (aq (aX (cT T) hr (aq (dv 0) (aq aA (aq aA aG)))) (aq (dv 4) aG)))) (by decide))))))))
def iy (T:Txt K mg):rK P w base T.x__law_fraction 1 cH :=
 bR ["_law_upper","_law_lower","_law_one","_law_other"] 0 4 dC rfl fun _ _ _ _ _ _ nd hr hu =>
  (aL (bU (fu Qm rfl T.z_abs rfl (aq (dv 0) aG)) (jd 2 nd))
  (aL (bU (dv 1) (jd 3 nd))
  (aL (Ig PassesOwn.never (fK Mv (dv 3) aA (cU _) M5)
  (aN (PB (i:=2) (j:=3) rfl nd rfl rfl (by decide) rfl rfl (dv 3) (aW iT (dv 2) (dv 3)) rfl)))
  (aN (bf (lz (aq (aW uY (dv 0) (dv 2)) (aq (aW uY (dv 1) (dv 2)) aG)) (by decide)))))))
def rR (T:Txt K mg):rK P w base T.x__law_point 2 iW :=
 bR ["_law_cell_here","_law_most","_law_far"] 1 3 fX rfl fun _ _ _ _ _ _ nd hr hu =>
  (aL (bU (aX (iy T) hr (aq (aW eU aA (aX (cT T) hr (aq (dv 0) (aq aA (aq (aW eU (aW eQ aA (dv 1)) aA) aG))))) (aq aA aG))) (jd 2 nd))
  (aN (bf (lz (aq (dv 2) (aq (aX (iy T) hr (aq (aX (cT T) hr (aq (dv 0) (aq aA (aq aA aG)))) (aq aA aG))) aG)) (by decide)))))
def rQ (T:Txt K mg):rK P w base T.x__law_whole 1 iV :=
 bR ["_law_found"] 0 1 mU rfl fun _ _ _ _ _ _ nd hr hu =>
  (aN (bf (Je (Jb .int rfl T.z_isinstance rfl T.z_int rfl (dv 0)) (IV (P0 (Jb .bool rfl T.z_isinstance rfl T.z_bool rfl (dv 0)))))))
end
end DL.K08
namespace DL
open PySem PySem.Spec PyProof.Rows L2 PySem.W
section
variable {P:Program}{w:World}{A:Around}{E:Value->Shared->Prop}{s:Shared}{l:Addr}{xs:Array Value}{n:Nat}{sl:Array (Option Value)}
def Dl:typeLookup (.type "list") "keys"=pure none:=am_miss_of_fast (by kernel_rfl)
def Jz {u:Tok}{R:Result->Shared->Prop}(g:s.heap.get? l=some ⟨.type "list",none,.seq xs n,sl⟩)(hh:A.handled=none)(h:∀h' tk e,Heap.NewAttrErr s.heap h' e (.ref l) "keys"->R (.error (.ref e)) { s with heap:=h',toks:=tk }) :
 codeAny (model P w) A (.call (.builtin "list.__getattribute__") ⟨[.ref l]++[.str "keys" u],[]⟩) R s :=
 have ty:s.TypeIs (.ref l) "list":=⟨_,g,rfl⟩
 codeAny_call_builtin PySem.F.slot_list_getattribute.plain am_entry_list_getattribute (PySem.F.slot_list_getattribute.check _ _ _ _ _ _ _ _ ty (PySem.F.args_list_getattribute_2 _ _)
  (meets_getattribute_miss_list l xs n sl "keys" u Dl (by decide) (by size_fits) P w A R s ⟨g,hh,h⟩))
def KQ {Q:Option Value->Shared->Prop}(g:s.heap.get? l=some ⟨.type "list",none,.seq xs n,sl⟩)(hh:A.handled=none)(k:∀h' tk,(∀b o,s.heap.get? b=some o->h'.get? b=some o)->Q none { s with heap:=h',toks:=tk }) :
 wpAny (model P w) A (getAttr? (.ref l) "keys") Q E s:=by
 have a1:=PySem.F.slot_list_getattribute.lookup;have a2:=PySem.F.slot_list_getattribute.bind (.ref l);have a3:=am_list_getattr_none;have a4:=sub_AttributeError;have ty:∀tk,({ s with toks:=tk }:Shared).TypeIs (.ref l) "list":=fun _=>⟨_,g,rfl⟩;obtain⟨hp,gs,dr,tk0,os⟩:=s
 delta getAttr? getAttrBy? getAttrBy
 wp_walk using wpAny_typeOf (ty _)
 refine Jz (s:=⟨hp,gs,dr,_,os⟩) g hh fun h' tk e x=>?_;obtain⟨t,u,he⟩:=x.there;have te:∀tk,(⟨h',gs,dr,tk,os⟩:Shared).TypeIs (.ref e) "AttributeError":=fun _=>⟨_,he,rfl⟩;have fin:∀tk,Q none ⟨h',gs,dr,tk,os⟩:=fun tk=>k h' tk x.keeps;have ty':∀tk,(⟨h',gs,dr,tk,os⟩:Shared).TypeIs (.ref l) "list":=fun _=>⟨_,x.keeps _ _ g,rfl⟩;change wpAny (model P w) A (getattributeRaised (.ref l) _ _ (.ref e) none false false) _ _ _
 delta getattributeRaised
 repeat' (first | exact fin _ | exact te _ | assumption | wp_step)
def dJ:plainId "dict.update.loop"=true:=by decide +kernel
def jH:entryFor table "dict.update.loop"=some Builtin.«dict.update.loop»:=entryFor_of_tree (by kernel_rfl)
def PairsAt (P:Program)(w:World)(h:Heap):List Value->List (Key×Value)->Prop
 | [],[]=>True
 | v::vs,(k,x)::r=>(∃t o key c,v=.ref t/\h.get? t=some o/\o.cls=.type "tuple"/\o.data=.seq #[key,x] c/\(aM P w).is k key=true)/\PairsAt P w h vs r
 | _,_=>False
def PairsAt.keep {h h':Heap}(k:∀b o,o.cls=.type "tuple"->h.get? b=some o->h'.get? b=some o):∀{vs:List Value} {kvs:List (Key×Value)},PairsAt P w h vs kvs->PairsAt P w h' vs kvs
 | [],[],_=>True.intro
 | _::_,(_,_)::_,⟨⟨t,o,key,c,e,g,hc,r⟩,z⟩=>⟨⟨t,o,key,c,e,k t o hc g,hc,r⟩,z.keep k⟩
def jP {h h':Heap}{d:Addr}{acc:List (Key×Value)}(x:h.DictOf (aM P w) d acc)(k:∀o,h.get? d=some o->h'.get? d=some o):h'.DictOf (aM P w) d acc:=let ⟨o,es,ep,g,r⟩:=x;⟨o,es,ep,k o g,r⟩
def vR {d it:Addr}{res:Value}{R:Result->Shared->Prop}(hh:A.handled=none)(n1:it≠l)(n2:d≠l)(n3:d≠it):∀(vs:List Value) (kvs:List (Key×Value)) (pre:List Value) (acc:List (Key×Value)) (c:Int) (s:Shared),
 s.heap.IsList l (pre++vs).toArray->s.heap.IsListIter it l pre.length->PairsAt P w s.heap vs kvs->s.heap.DictOf (aM P w) d acc->acc.length+kvs.length<=sizeLine ->
 (∀h' tk,(∀b o,b≠it->b≠d->s.heap.get? b=some o->h'.get? b=some o)->h'.DictOf (aM P w) d (merged acc kvs)->R (.ok (.ret res)) { s with heap:=h',toks:=tk }) ->
 codeAny (model P w) A (.builtin "dict.update.loop" ⟨[.ref d,.ref it,rawInt c,res],[]⟩) R s
 | [],kvs,pre,acc,c,s,hl,hi,hp,hd,hz,k=>by
   cases kvs with
   | cons q r=>exact hp.elim
   | nil =>
     refine codeAny_builtin jH ?_;rw[Around.under_plainId dJ _];unfold Builtin.«dict.update.loop»;show wpAny _ _ (pyNext (.ref it) >>= _) _ _ s;refine wpAny_bind (wpAny_pyNext_list_end (A:=A.in1) hh hi hl (by simp) fun h' ext=>?_);show wpAny _ _ (Builtin.Dict.addKeywords d [] >>= fun _=>ret res) _ _ _;refine wpAny_bind (m:=Builtin.Dict.addKeywords d []) (wpAny_pure (wpAny_pure ?_));exact k h' s.toks (fun b o hb _ q=>ext b o hb q) (jP hd fun o q=>ext d o n3 q)
 | v::vs,kvs,pre,acc,c,s,hl,hi,hp,hd,hz,k=>by
   cases kvs with
   | nil=>exact hp.elim
   | cons q kvs =>
     obtain⟨kk,x⟩:=q;obtain⟨⟨t,o,key,c0,rfl,g,hc,hdat,hk⟩,hp⟩:=hp;refine codeAny_builtin jH ?_;rw[Around.under_plainId dJ _];unfold Builtin.«dict.update.loop»;show wpAny _ _ (pyNext (.ref it) >>= _) _ _ s;refine wpAny_bind (wpAny_pyNext_list_item (x:=.ref t) hi hl (by simp) fun h1 i1 sb=>?_);have nt:t≠it:=fun z=>by
      obtain⟨o',e1,e2,_⟩:=hi;rw[<-z,g] at e1;cases e1;rw[hc] at e2;exact absurd e2 (by decide)
     have g1:h1.get? t=some o:=(sb.2 t nt).trans g;show wpAny _ _ (holding [.ref t] _ >>= _) _ _ _;refine wpAny_bind (wpAny_holding (wpAny_bind (wpAny_tryCatch ?_)));unfold Builtin.Dict.pairItems;refine wpAny_bind (wpAny_typeOf (T:="tuple") ⟨o,g1,hc⟩ ?_);rw[if_pos (by decide)];refine wpAny_bind (wpAny_seqItems g1 hdat (wpAny_pure ?_));show wpAny _ _ (holding [key,x] (dictSet d key x)) _ _ _;have hd1:h1.DictOf (aM P w) d acc:=jP hd fun o q=>(sb.2 d n3).trans q;have hz':acc.length+(kvs.length+1)<=sizeLine:=hz;refine wpAny_holding (wpAny_dictSet_pairs hk hd1 (fun h2 hd2 sb2=>?_) (by omega));refine wpAny_pure ⟨plainId_quiet dJ _,?_⟩;have k2:∀b o,b≠it->b≠d->s.heap.get? b=some o->h2.get? b=some o:=fun b o h3 h4 q=>(sb2.2 b h4).trans ((sb.2 b h3).trans q);have tup:∀b o,o.cls=.type "tuple"->s.heap.get? b=some o->h2.get? b=some o:=fun b o hc' q=>k2 b o (fun z=>by
      obtain⟨o',e1,e2,_⟩:=hi;rw[<-z,q] at e1;cases e1;rw[hc'] at e2;exact absurd e2 (by decide)) (fun z=>by
      obtain⟨o',_,_,e1,e2,_⟩:=hd;rw[<-z,q] at e1;cases e1;have:=e2.1;rw[hc'] at this;exact absurd this (by decide)) q
     have hl2:h2.IsList l ((pre++[Value.ref t])++vs).toArray:=by
      obtain⟨o',e1,r⟩:=hl;refine⟨o',k2 l o' n1.symm n2.symm e1,?_⟩;rw[List.append_assoc];exact r
     have hi2:h2.IsListIter it l (pre++[Value.ref t]).length:=by
      rw[List.length_append];obtain⟨o',e1,r⟩:=i1;exact⟨o',(sb2.2 it n3.symm).trans e1,r⟩
     refine vR hh n1 n2 n3 vs kvs (pre++[.ref t]) (stored acc kk x) (c+1) _ hl2 hi2 (hp.keep tup) hd2 ?_ fun h' tk k3 hd3=>k h' tk (fun b o h3 h4 q=>k3 b o h3 h4 (k2 b o h3 h4 q)) hd3;have:(stored acc kk x).length<=acc.length+1:=by
      unfold stored;split
      ·rw[List.length_map];omega
      ·simp
     omega
def pC {vs:List Value}{kvs:List (Key×Value)}{Q:Value->Shared->Prop}(hh:A.handled=none)(g:s.heap.get? l=some ⟨.type "list",none,.seq vs.toArray n,sl⟩)(hp:PairsAt P w s.heap vs kvs)(hz:kvs.length<=sizeLine)
 (k:∀h' tk,(∀b o,s.heap.get? b=some o->h'.get? b=some o)->h'.DictOf (aM P w) s.heap.objs.size (merged [] kvs)->Q (.ref s.heap.objs.size) { s with heap:=h',toks:=tk }) :
 wpAny (model P w) A (call (.type "dict") [.ref l]) Q E s:=by
 refine callType_codes (Q₁:=fun obj s₁=>obj=.ref s.heap.objs.size/\s₁={ s with heap:=s.heap.push { cls:=.type "dict",data:=.dict #[] } }) PySem.F.kt_called_dict (PySem.F.kt_typeCall_dict_1 _) PySem.F.entry_dict_init (kt_code_dict_new _ ⟨rfl,rfl⟩) ?_;rintro obj s₁ ⟨rfl,rfl⟩;have hd:(s.heap.push { cls:=.type "dict",data:=.dict #[] }).DictOf (aM P w) s.heap.objs.size []:=Heap.DictOf.new s.heap;refine⟨hd.typeIs,PySem.F.args_dict_init_2 _ _,?_⟩;unfold Builtin.«dict.__init__» Builtin.Dict.selfAndRest;refine wpAny_bind (wpAny_bind (wpAny_notOrdered_dict hd.typeIs (wpAny_pure ?_)));show wpAny _ _ (Builtin.Dict.updateFrom "dict.__init__" s.heap.objs.size (.ref l) [] .none) _ _ _
 delta Builtin.Dict.updateFrom
 have g1:=Heap.get?_push_of_some { cls:=.type "dict",data:=.dict #[] } g;refine wpAny_bind (wpAny_typeOf (T:="list") ⟨_,g1,rfl⟩ ?_);rw[if_pos (by decide)];refine wpAny_bind (KQ (A:=A.in1.in1) g1 hh fun h2 tk2 k2=>?_);rw[if_pos (by decide)];refine wpAny_bind (wpAny_rule ?_);have g2:=k2 _ _ g1;have lt:l<h2.objs.size:=Heap.lt_size g2;have hd2:=jP hd (k2 _);have lt2:s.heap.objs.size<h2.objs.size:=by obtain⟨_,_,_,q,_⟩:=hd2;exact Heap.lt_size q
 have nl:s.heap.objs.size≠l:=Nat.ne_of_gt (Heap.lt_size g);refine wpAny_bind (wpAny_pyIter_list (items:=vs.toArray) ⟨_,g2,rfl,n,rfl⟩ ?_);refine wpAny_pure ⟨plainId_quiet dJ _,?_⟩;have kp:∀b o,s.heap.get? b=some o->(h2.push { cls:=.type "list_iterator",data:=.fields #[.ref l,.int 0 0] }).get? b=some o:=fun b o q=>Heap.get?_push_of_some _ (k2 _ _ (Heap.get?_push_of_some _ q));refine vR (A:=A.in1) (pre:=[]) (acc:=[]) hh (Nat.ne_of_gt lt) nl (Nat.ne_of_lt lt2) vs kvs 0 _ ⟨_,Heap.get?_push_of_some _ g2,rfl,n,rfl⟩ ⟨_,Heap.get?_push_size _ rfl,rfl,rfl⟩ (hp.keep fun b o _ q=>kp b o q) (jP hd2 fun o q=>Heap.get?_push_of_some _ q) (by simpa using hz) fun h' tk k3 hd3=>⟨rfl,k h' tk (fun b o q=>?_) hd3⟩;have hb:=Heap.lt_size q;exact k3 b o (Nat.ne_of_lt (Nat.lt_trans hb lt2)) (Nat.ne_of_lt hb) (kp b o q)
end
section
variable {X:Cx}{e:Expr}{me:ME}{pos p:Pos}
def LC (H:Hp):List V->List (Key×V)->Prop
 | [],[]=>True
 | x::xs,(k,v)::r=>(∃t,x=.ref t/\H t=some (.tup [kV k,v]))/\LC H xs r
 | _,_=>False
def zP {P:Program}{w:World}{H:Hp}{h:Heap}(ok:HOk P w H h):∀{xs:List V} {kvs:List (Key×V)} {us:List Value},LC H xs kvs->Vals xs us->∃vs,PairsAt P w h us vs/\KV kvs vs
 | [],[],us,_,r=>by cases r;exact⟨[],True.intro,.nil⟩
 | [],_::_,_,h,_=>h.elim
 | _::_,[],_,h,_=>h.elim
 | x::xs,(k,v)::kvs,us,h,r=>by
   cases r with
   | cons rx rr =>
     obtain⟨⟨t,rfl,ht⟩,hr⟩:=h;obtain⟨vs,h1,h2⟩:=zP ok hr rr;cases rx;obtain⟨_,its,rv,o,g1,g2,c,g3⟩:=ok t _ ht;cases rv with
     | cons r1 rv =>
       cases rv with
       | cons r2 rv =>
         cases rv;rename_i u1 u2;exact⟨(k,u2)::vs,⟨⟨t,o,u1,c,rfl,g1,g2,g3,mD r1⟩,h1⟩,.cons ⟨rfl,r2⟩ h2⟩
def wY {vs:List (Key×Value)}(h:(vs.map (·.1)).Nodup):merged [] vs=vs:=merged_nil_of_nodup vs h
def Jk (hc:X.calm=true):cL X (.type "dict") (fun xs H Q=>∃l ys kvs,xs=[.ref l]/\H l=some (.lst ys)/\LC H ys kvs/\(kvs.map (·.1)).Nodup/\kvs.length<=1000/\∀p,H p=none->Q (.ref p) (upd H p (.dK kvs))):=by
 intro pins s σ H xs us Q I r h;obtain⟨l,ys,kvs,rfl,hq,ht,hn,hz,q⟩:=h;obtain⟨u,rfl,ru⟩:=vals1 r;cases ru;obtain⟨_,its,n,rv,g⟩:=I.hok l _ hq;obtain⟨vs,hp,kv⟩:=zP I.hok ht rv;have hl:=kv.length;have hk:=kv.keys;refine pC (I.ok.hd hc) g hp (by rw[bB];omega) fun h' tk k1 hd=>?_;rw[wY (by rw[<-hk];exact hn)] at hd;have big:(s.heap.objs.size==sysModules)=false:=by
  have hb:=I.big;rw[beq_eq_false_iff_ne];exact fun z=>absurd hb (by rw[z];exact Nat.lt_irrefl _)
 exact⟨.ref s.heap.objs.size,_,I.laid (o:=.dK kvs) (t':=tk) k1 (Nat.le_refl _) (q8 (by rw[bB];omega) big kv hd),rfl,q _ I.fresh⟩
def tL {K:PySem.W.Frag}{B H:Hp}(g:Same B H):∀{ds:List D} {xs:List V} {ks:List Int} {vs:List D},pairsOf ds=some (ks,vs)->Dens K B ds xs->∃kvs:List (Key×V),LC H xs kvs/\kvs.map (·.1)=ks.map Sum.inl/\Dens K B vs (kvs.map (·.2))
 | [],xs,ks,vs,e,h=>by
   cases e;rw[h.unnil];exact⟨[],True.intro,rfl,.nil⟩
 | d::ds,xs,ks,vs,e,h=>by
   obtain⟨x,r,rfl,h1,h2⟩:=h.uncons;unfold pairsOf at e;split at e
   ·rename_i heq;cases heq
   ·rename_i k v r' heq;cases heq;obtain⟨q,e1,e2⟩:=Option.bind_eq_some_iff.mp e;cases e2;obtain⟨kvs,t1,t2,t3⟩:=tL g e1 h2;obtain⟨a,ys,rfl,ha,hy⟩:=h1.tup_inv;obtain⟨y1,yr,rfl,d1,hy⟩:=hy.uncons;obtain⟨y2,yr,rfl,d2,hy⟩:=hy.uncons;cases hy.unnil;cases d1.int_inv;exact⟨(.inl k,y2)::kvs,⟨⟨a,rfl,g _ _ ha⟩,t1⟩,by rw[List.map_cons,List.map_cons,t2],.cons d2 t3⟩
   ·cases e
def Il (hc:X.calm=true)(hg:Gl X "dict")(hm:X.mg "dict"=none)(he:DF X e me)(s1:starEach [e] X.env=(false,eval e X.env)::starEach [] X.env:=by rfl)(hpl:(backTo pos (starEach [] X.env)).any (·.1)=false:=by rfl) :
 DF X (.Call (.Name "dict" p) [e] [] pos) (kE pR me):=by
 obtain⟨te,pe,qe⟩:=he;refine⟨_,ir (Jk hc) hg hm rfl (aJ pe aY s1) (he:=s1) (hpl:=hpl),fun os σ H δ d Q s m k=>?_⟩;obtain⟨dx,e1,m⟩:=aj m;refine qe os σ H δ dx _ s e1 fun l H1 g1 hl o=>?_;unfold pR at m;split at m
 ·obtain⟨q,e2,m⟩:=aj m;obtain⟨ks,vs⟩:=q;split at m
  ·rename_i hb;cases m;obtain⟨xs,h1,h2⟩:=o;obtain⟨kvs,t1,t2,t3⟩:=tL hide_le e2 h2;have hlen:kvs.length=ks.length:=by have:=congrArg List.length t2;simpa using this
   refine⟨l,xs,kvs,rfl,h1,t1,?_,by rw[hlen];exact hb.2,fun p hp=>?_⟩
   ·rw[t2];exact hb.1.map _ (fun a b h1 h2=>h1 (by cases h2;rfl))
   ·have nl:l≠p:=fun z=>by rw[z,hp] at h1;cases h1
    refine k p _ (g1.trans (aK hp _)) (g1.free hp) ⟨kvs.map (·.2),.inl ⟨rfl,kvs,az,?_,rfl⟩,t3.mono (fun b u z=>?_) _ _⟩
    ·have:=congrArg (List.map kD) t2;rw[List.map_map,List.map_map] at this;exact this.symm
    ·have hb:b∉l::os:=fun y=>by rw[bj y] at z;cases z
     rw[aF hb] at z;have hbp:b≠p:=aO z hp;rw[aF (fun y=>(List.mem_cons.mp y).elim hbp fun y=>hb (List.mem_cons_of_mem _ y)),au hbp];exact z
  ·cases m
 ·cases m
end
end DL
namespace DL
open PySem PySem.Spec PyProof.Rows L2
section
variable {X:Cx}{PX:Prop}
def Og {i k:Nat}{x en bc cn dn:Str}{C B Dd:Addr}{call ce:Expr}{W:L2.St->Hp->VK->Prop->Prop}{cv:V}{p1 p4 p5 p6 p8 p9 p10 pos pa pb pc pd pe pf pg ph pi' pj pk pl pm pq:Pos}
 (mono:∀{σ H Q Q' R R'},W σ H Q R->(∀v H',Q v H'->Q' v H')->(R->R')->W σ H Q' R') (hst:X.stack=X.env::X.outer/\X.env.frame=some X.env.locals) (hN:X.N.Nodup) (hi:X.N[i]? = some x) (hk:X.N[k]? = some en) (hik:i≠k) (hxl:X.env.scope.names.lookup x=some .local) (hel:X.env.scope.names.lookup en=some .local) (hel':X.env.kindOf en=some .local)
 (hb:∀pn E,PE (uW X pn E) call (fun σ H Q=>W σ H Q (∀x s',xY (uW X pn E) (.ref C) σ H x s'->E x s'))) (hce:∀Y:Cx,PE Y ce (L2.tC cv))
 (hgB:Gl X bc) (hmB:X.mg bc=some (.ref B)) (hxm:PySem.W.exmOne X.K (.ref C) (.ref B)=some true) (hgI:Gl X "isinstance") (hmI:X.mg "isinstance"=none) (hgC:Gl X cn) (hmC:X.mg cn=some (.ref C))
 (hgD:Gl X dn) (hmD:X.mg dn=some (.ref Dd)) (hno:PySem.W.kitOne X.K (.ref C) (.ref Dd)=some false) (hgV:Gl X "ValueError") (hmV:X.mg "ValueError"=none) (hev:PySem.W.kitOne X.K (.ref C) (.type "ValueError")=some true) (cok:uE X.K C)
 (hs:swapsWithSole [.Name x p1] call p4.line X.env=pure false:=by rfl) (hw:swappedStores [.Name x p1] call X.env=pure none:=by rfl) (h1:(assignEach [.Name x p1] X.env).map (·.2)=[assign (.Name x p1) X.env]:=by rfl)
 (hs':swapsWithSole [.Name x p6] ce p8.line X.env=pure false:=by rfl) (hw':swappedStores [.Name x p6] ce X.env=pure none:=by rfl) (h1':(assignEach [.Name x p6] X.env).map (·.2)=[assign (.Name x p6) X.env]:=by rfl)
 (sC1:starEach [.Name en pb,.Name cn pc] X.env=(false,eval (.Name en pb) X.env)::starEach [.Name cn pc] X.env:=by rfl) (sC2:starEach [.Name cn pc] X.env=(false,eval (.Name cn pc) X.env)::starEach [] X.env:=by rfl) (sC3:(backTo pd (starEach [.Name cn pc] X.env)).any (·.1)=false:=by rfl)
 (tC:∀whole,isTrue (.Call (.Name "isinstance" pa) [.Name en pb,.Name cn pc] [] pd) X.env whole=(do let v <-whole;standAt (Expr.pos (.Call (.Name "isinstance" pa) [.Name en pb,.Name cn pc] [] pd));holding [v] (truthy v)):=by intro _;rfl)
 (sD1:starEach [.Name en pf,.Name dn pg] X.env=(false,eval (.Name en pf) X.env)::starEach [.Name dn pg] X.env:=by rfl) (sD2:starEach [.Name dn pg] X.env=(false,eval (.Name dn pg) X.env)::starEach [] X.env:=by rfl) (sD3:(backTo ph (starEach [.Name dn pg] X.env)).any (·.1)=false:=by rfl)
 (tD:∀whole,isTrue (.Call (.Name "isinstance" pe) [.Name en pf,.Name dn pg] [] ph) X.env whole=(do let v <-whole;standAt (Expr.pos (.Call (.Name "isinstance" pe) [.Name en pf,.Name dn pg] [] ph));holding [v] (truthy v)):=by intro _;rfl)
 (sV1:starEach [.Name en pj,.Name "ValueError" pk] X.env=(false,eval (.Name en pj) X.env)::starEach [.Name "ValueError" pk] X.env:=by rfl) (sV2:starEach [.Name "ValueError" pk] X.env=(false,eval (.Name "ValueError" pk) X.env)::starEach [] X.env:=by rfl) (sV3:(backTo pl (starEach [.Name "ValueError" pk] X.env)).any (·.1)=false:=by rfl)
 (tV':∀whole,isTrue (.Call (.Name "isinstance" pi') [.Name en pj,.Name "ValueError" pk] [] pl) X.env whole=(do let v <-whole;standAt (Expr.pos (.Call (.Name "isinstance" pi') [.Name en pj,.Name "ValueError" pk] [] pl));holding [v] (truthy v)):=by intro _;rfl)
 (db:(bc==("__debug__":Str))=false:=by decide) (dc:(cn==("__debug__":Str))=false:=by decide) (dd:(dn==("__debug__":Str))=false:=by decide) (de:(en==("__debug__":Str))=false:=by decide) (de2:(en==("__classdict__":Str))=false:=by decide) :
 PS X (.Try [.Assign [.Name x p1] call p4] [.ExceptHandler (some (.Name bc p5)) (some en)
  [.If (.BoolOp .And [.Call (.Name "isinstance" pa) [.Name en pb,.Name cn pc] [] pd,.UnaryOp .Not (.Call (.Name "isinstance" pe) [.Name en pf,.Name dn pg] [] ph) pm,.Call (.Name "isinstance" pi') [.Name en pj,.Name "ValueError" pk] [] pl] p9)
   [.Assign [.Name x p6] ce p8] [] p10] pq] [] [] pos) (fun D σ H=>W σ H (fun v H'=>D.nx (σ.set i (some v)) H') (∀ea H',Same H H'->D.nx (((σ.set k (some (.ref ea))).set i (some cv)).set k none) H')):=by
 rintro pins s σ H D I hW;have hil:i<X.N.length:=(List.getElem?_eq_some_iff.mp hi).1;generalize hEh:(fun (z:Value) (s1:Shared)=>wpAny (model X.prog X.w) X.A (noteFrame z X.env) (fun _ s2=>wpAny (model X.prog X.w) X.A (setFlight z none) (fun _ s3=>wpAny (model X.prog X.w) X.A (handleBy z X.env [.ExceptHandler (some (.Name bc p5)) (some en)
  [.If (.BoolOp .And [.Call (.Name "isinstance" pa) [.Name en pb,.Name cn pc] [] pd,.UnaryOp .Not (.Call (.Name "isinstance" pe) [.Name en pf,.Name dn pg] [] ph) pm,.Call (.Name "isinstance" pi') [.Name en pj,.Name "ValueError" pk] [] pl] p9)
   [.Assign [.Name x p6] ce p8] [] p10] pq]) (SP X pins D) X.xe s3) X.xe s2) X.xe s1)=Eh
 have pt:=hb (X.pn++pins) Eh;have Pa:PS (uW X (X.pn++pins) Eh) (.Assign [.Name x p1] call p4) (oW _ (cR i)):=gU pt (pK hN hi (.inl hxl) (.inr hxl)) hs hw h1;have run:(oW (fun σ H Q=>W σ H Q (∀x s',xY (uW X (X.pn++pins) Eh) (.ref C) σ H x s'->Eh x s')) (cR i)) { nx:=D.nx,rt:=fun _ _=>False } σ H:=by
  refine mono hW (fun v H' q=>q) fun kq=>?_
  ·
   intro z s' he;rw[<-hEh];obtain⟨s1,H1,H',ea,T,a0,rfl,I1,g1,ho,hbr,un,hok,sm,et,n1,n2,n3,n4⟩:=he;have J1:Inv X pins σ H1 s1:=Bh I1;have fl:Heap.FlyingW (hid X s' ea T) X.stack ea (.ref C) a0 s'.heap:=Ld J1 un hok ho hbr et;have hfr:X.A.frames=some (X.env::X.outer):=hst.1 ▸ I.ok.frames;show wpAny (model X.prog X.w) X.A (noteFrame (.ref ea) X.env) _ _ s';rw[hst.1] at fl;refine wpAny_looks_onW hfr hst.2 fl fun h4 held4 up4=>?_;refine wpAny_landsW held4 fun h5 fly5 up5=>?_;obtain⟨I5,oe5,o5,c5,d5,l5,f5⟩:=xE J1 un hok ho hbr n1 n2 n3 n4 (by rw[hst.1];exact fly5) (up4.trans up5);have I5m:=v5 I5 o5 n3 l5 f5 d5;refine wpAny_handleBy_cons (codeAny_handlers_test ?_) (by intro q;cases q);refine mq (X:=suite X pins ea oe5) I5m hgB hmB ?_ db;have LT:PySem.W.Looks (model X.prog X.w) h5 (typeOf (.ref ea)) (.ref C):=IsOf.ty _ ⟨oe5,o5,c5⟩;refine(PySem.W.exm_one I5m.kIn LT hxm).here ?_;refine codeAny_handlers_suite_as (lands_againW fly5 fun h6 fly6 up6=>?_);obtain⟨I6,oe6,o6,c6,d6,l6,f6⟩:=xE J1 un hok ho hbr n1 n2 n3 n4 (by rw[hst.1];exact fly6) ((up4.trans up5).trans up6);have I6m:=v5 I6 o6 n3 l6 f6 d6;refine jw (X:=suite X pins ea oe6) (v:=.ref ea) I6m hN hk (.inl hel) rfl (fun s7 I7=>?_) (.inr hel);have hv:=hce (suite X pins ea oe6);have mem:(ea,oe6)∈(suite X pins ea oe6).pn:=List.mem_append_right _ (List.mem_singleton.mpr rfl);have hEn:∀q:Pos,PE (suite X pins ea oe6) (.Name en q) (cG k):=fun q=>GD hk (.inl hel) de de2;have K1:Nf (suite X pins ea oe6) (fun σ=>σ[k]? = some (some (.ref ea))) (.Call (.Name "isinstance" pa) [.Name en pb,.Name cn pc] [] pd) true :=
    yV (c:=.ref C) (tcn:=.ref C) mem c6 cok (by unfold PySem.W.kitOne;rw[if_pos (by simp)]) (fun u r=>r) hgI hmI (hEn pb) (pL (v:=.ref C) hgC hmC rfl dc) sC1 sC2 sC3 tC
   have K2:Nf (suite X pins ea oe6) (fun σ=>σ[k]? = some (some (.ref ea))) (.Call (.Name "isinstance" pe) [.Name en pf,.Name dn pg] [] ph) false :=
    yV (c:=.ref Dd) (tcn:=.ref Dd) mem c6 cok hno (fun u r=>r) hgI hmI (hEn pf) (pL (v:=.ref Dd) hgD hmD rfl dd) sD1 sD2 sD3 tD
   have K3:Nf (suite X pins ea oe6) (fun σ=>σ[k]? = some (some (.ref ea))) (.Call (.Name "isinstance" pi') [.Name en pj,.Name "ValueError" pk] [] pl) true :=
    yV (c:=.type "ValueError") (tcn:=.ty "ValueError") mem c6 cok hev (fun u r=>r) hgI hmI (hEn pj) (Ai (v:=.ty "ValueError") hgV hmV (by rfl) rfl) sV1 sV2 sV3 tV'
   obtain⟨tt,ptt,qtt⟩:=Hq (pos:=p9) K1 (Hq (O4 (pos:=pm) K2) (O3 K3));have Pc:PS (suite X pins ea oe6) (.Assign [.Name x p6] ce p8) (oW (L2.tC cv) (cR i)):=gU hv (pK hN hi (.inl hxl) (.inr hxl)) hs' hw' h1';have Pi:=bD (wD (pos:=p10) ptt.pt (bD Pc) iQ);have hkσ:k<σ.length:=by rw[I.len];exact(List.getElem?_eq_some_iff.mp hk).1
   refine QG (Pi [] s7 _ H' { nx:=fun σ8 H8=>σ8=(σ.set k (some (.ref ea))).set i (some cv)/\H8=H',rt:=fun _ _=>False } I7 (qtt _ _ _ (List.getElem?_set_self hkσ) (qN ⟨rfl,rfl⟩))) (fun f s8 q=>?_) (fun _ _ q=>q.elim);cases f with
   | next =>
     obtain⟨σ8,H8,I8,rfl,rfl⟩:=q;have J8:=Cp I8 I.ok;exact Dh J8 hN hk hel' fun s9 I9=>⟨_,_,I9,kq ea _ (g1.trans sm)⟩
   | ret u=>obtain⟨_,_,_,_,_,z⟩:=q;exact z.elim
   | brk=>obtain⟨_,_,_,z⟩:=q;exact z.elim
   | cont=>obtain⟨_,_,_,z⟩:=q;exact z.elim
 refine wpAny_Try_except (QG (bD Pa [] s σ H _ (Ph I) run) (fun f s1 q=>?_) (fun z s1 q=>?_))
 ·cases f with
  | next =>
    obtain⟨σ',H',I',q⟩:=q;exact wpAny_execs_nil ⟨σ',H',Bh I',q⟩
  | ret u=>obtain⟨_,_,_,_,_,z⟩:=q;exact z.elim
  | brk=>obtain⟨_,_,_,z⟩:=q;exact z.elim
  | cont=>obtain⟨_,_,_,z⟩:=q;exact z.elim
 ·have q':Eh z s1:=q;rw[<-hEh] at q';exact q'
def CV {C:Addr}{x:Str}{np cpos pos:Pos}{e:Expr}{me:ME}{B newId initId:String}{bmB:List Value}(hc:X.calm=true)(he:DE X e me)(hg:Gl X x)(hm:X.mg x=some (.ref C))(hq:PySem.W.excIn X.K C bmB newId=true)(FB:ExcBaseFacts B newId initId bmB)
 (hdb:(x==("__debug__":Str))=false:=by decide) (hs:starEach [e] X.env=(false,eval e X.env)::starEach [] X.env:=by rfl)
 (hplain:(backTo cpos (starEach [e] X.env)).any (·.1)=false:=by rfl) :
 PS X (.Raise (some (.Call (.Name x np) [e] [] cpos)) none pos) (fun D σ H=>∃os δ d,Sl X os H δ σ/\me δ=some d/\LK X (.ref C)):=by
 obtain⟨t,pt,qt⟩:=he;rintro pins s σ H D I ⟨os,δ,d,sl,ed,hR⟩;have O:=Ou I.ok.mod.kin hm hq;obtain⟨c1,c2,c3,c4,c5,c6,c7,c8,c9,c10,c11,c12,c13,c14,c15,c16,c17,hC,hN,hni,TL⟩:=O.obj;refine wpAny_Raise_call_subT (bm:=c1) (N:=c2) (nm:=c3) (q:=c4) (bs:=c5) (hdct:=c6) (sn:=c7) (sub:=c8) (ab:=c9) (col:=c10) (dd:=c11) (k0:=c12) (k1:=c13) (k2:=c14) (k3:=c15) (k5:=c16) (mN:=c17) FB (TL.hasType FB.hasBase) (I.ok.hd hc) hplain hni (mq I hg O.bound ⟨rfl,?_⟩ hdb);rw[hs];refine Calls.evalArgs_plain (Calls.spliced_cons (bw (pt pins s σ H _ I (qt os σ H δ d (fun _ H'=>Same H H') sl ed fun v H' g _=>g)) fun u s1 ⟨v,H1,I1,_,g⟩=>Calls.spliced_nil ?_));exact⟨rfl,by rw[sizeLine_eq];show 1<=16777216;decide,I1.bk _ _ hC,hN.keeps I1.bk,TL.keeps I1.bk,fun h' e mk=>hR pins σ H1 s1 h' e _ I1 (sl.keep.trans g) mk⟩
end
end DL
namespace DL.K08
open PySem PySem.Spec PyProof.Rows L2 DL DL.Pg DL.Lw
structure BdAt (H:Hp)(C b dx p:Addr)(kvs:List (Key×V))(n:Int):Prop where
 i:H b=some (.ins C dx [("pieces",.ref p),("unused",.int n)])
 d:H p=some (.dK kvs)
noncomputable def yx (C:Addr):Sp:=fun vs H Q _=>∃b dx,vs=[.ref b]/\H b=some (.ins C dx [])/\∀p H',H p=none->BdAt H' C b dx p [] 0->(∀a,a≠p->a≠b->H' a=H a)->Q .non H'
def Mm (C:Addr):Sp:=fun vs H Q _=>∃b dx p kvs n x,vs=[.ref b,x]/\BdAt H C b dx p kvs n/\kvs.length<1000/\cj kvs (.inl n)=none /\
 ∀H',BdAt H' C b dx p (kvs++[(.inl n,x)]) (n+1)->(∀a,a≠p->a≠b->H' a=H a)->Q (.int n) H'
def FN (C:Addr):Sp:=fun vs H Q E=>∃b dx p kvs n i,vs=[.ref b,.int i]/\BdAt H C b dx p kvs n/\(-1<=i/\i<=20)/\(cj kvs (.inl i)=none->∀c H',Same H H'->E c none H') /\
 ∀v,cj kvs (.inl i)=some v->Q .non (upd H p (.dK (fj kvs (.inl i))))
def uL (C:Addr):Sp:=fun vs H Q _=>∃b dx p kvs n i,vs=[.ref b,.int i]/\BdAt H C b dx p kvs n/\(-1<=i/\i<=20)/\(cj kvs (.inl i)=none->∀H',Same H H'->Q (.str "no piece") H') /\
 ∀v,cj kvs (.inl i)=some v->Q .non (upd H p (.dK (fj kvs (.inl i))))
def BdAt.ne {H:Hp}{C b dx p:Addr}{kvs:List (Key×V)}{n:Int}(h:BdAt H C b dx p kvs n):b≠p:=fun z=>by
 have:=h.i;rw[z,h.d] at this;cases this
section
variable {P:Program}{w:World}{K:PySem.W.Frag}{mg:Str->Option Value}{base:Heap}
def gH (T:Txt K mg):eF P w K mg base ou 1 T.x_Board___init__.f T.x_Board___init__.fd ["self"] (yx T.C) :=
 T.x_Board___init__.F.ok (N:=["self"]) fsc (fun vs H Q E h=>by obtain⟨_,_,rfl,_⟩:=h;rfl) fun cdv A outer s H vs Q E hr hq =>
  ⟨_,aP (yK (pv 0) lY rfl) (bD (yK (pv 0) dF rfl)),by
   obtain⟨b,dx,rfl,hb,k⟩:=hq;intro p hp;have nb:b≠p:=fun z=>by rw[z,hp] at hb;cases hb
   refine⟨.ref b,rfl,b,T.C,dx,[],rfl,(au nb).trans hb,T.cl,T.n_pieces,by decide,?_⟩;refine⟨.ref b,rfl,b,T.C,dx,[("pieces",.ref p)],rfl,az,T.cl,T.n_unused,(by show 1<1000;decide),?_⟩;refine k p _ hp ⟨az,?_⟩ fun a h1 h2=>?_
   ·rw[au nb.symm,au nb.symm];exact az
   ·rw[au h2,au h2,au h1]⟩
def oX (T:Txt K mg):eF P w K mg base ou 1 T.x_Board_put_in.f T.x_Board_put_in.fd ["self","piece"] (Mm T.C) :=
 T.x_Board_put_in.F.ok (N:=["self","piece","number"]) fsc (fun vs H Q E h=>by obtain⟨_,_,_,_,_,_,rfl,_⟩:=h;rfl) fun cdv A outer s H vs Q E hr hq =>
  ⟨_,aP (qy (i:=2) (nod ["self","piece","number"]) rfl (Or.inl rfl) (qC (pv 0) rfl)) (aP (Aa (MK hr) (qC (pv 0) rfl) (pv 2) (pv 1) rfl) (aP (yK (pv 0) (Oq (pv 2) dF) rfl) (bD (jB (pv 2))))),by
   obtain⟨b,dx,p,kvs,n,x,rfl,h,hl,hv,k⟩:=hq;refine⟨.ref b,rfl,b,T.C,dx,_,.int n,rfl,h.i,T.cl,T.n_unused,rfl,?_⟩;refine⟨x,rfl,.ref b,rfl,b,T.C,dx,_,.ref p,rfl,h.i,T.cl,T.n_pieces,rfl,.int n,rfl,p,_,rfl,DPut.k (k:=.inl n) h.d (sJ (Nat.le_of_lt hl)),?_⟩;rw[qx x hv];refine⟨.int n,rfl,n,1,rfl,rfl,.ref b,rfl,b,T.C,dx,_,rfl,(au h.ne).trans h.i,T.cl,T.n_unused,(by show 2<1000;decide),?_⟩;refine⟨.int n,rfl,k _ ⟨az,?_⟩ fun a h1 h2=>?_⟩
   ·rw[au h.ne.symm];exact az
   ·rw[au h2,au h1]⟩
def Pr:∀i:Int,-1<=i->i<=20->∃d,Ib (ak (eC (.str "no piece has the number ")) (ak (kE Nj (ao 1)) aD)) [none,some (.int i)]=some d:=by
 intro i h1 h2;have key:∀n:Nat,n<=21->∃d,Ib (ak (eC (.str "no piece has the number ")) (ak (kE Nj (ao 1)) aD)) [none,some (.int ((n:Int)-1))]=some d:=by
  intro n hn;have:n<22:=by omega
  match n,this with
  | 0,_=>exact⟨_,rfl⟩
  | 1,_=>exact⟨_,rfl⟩
  | 2,_=>exact⟨_,rfl⟩
  | 3,_=>exact⟨_,rfl⟩
  | 4,_=>exact⟨_,rfl⟩
  | 5,_=>exact⟨_,rfl⟩
  | 6,_=>exact⟨_,rfl⟩
  | 7,_=>exact⟨_,rfl⟩
  | 8,_=>exact⟨_,rfl⟩
  | 9,_=>exact⟨_,rfl⟩
  | 10,_=>exact⟨_,rfl⟩
  | 11,_=>exact⟨_,rfl⟩
  | 12,_=>exact⟨_,rfl⟩
  | 13,_=>exact⟨_,rfl⟩
  | 14,_=>exact⟨_,rfl⟩
  | 15,_=>exact⟨_,rfl⟩
  | 16,_=>exact⟨_,rfl⟩
  | 17,_=>exact⟨_,rfl⟩
  | 18,_=>exact⟨_,rfl⟩
  | 19,_=>exact⟨_,rfl⟩
  | 20,_=>exact⟨_,rfl⟩
  | 21,_=>exact⟨_,rfl⟩
  | n+22,h=>exact absurd h (by omega)
 have:=key (i+1).toNat (by omega)
 rwa [show (((i+1).toNat:Nat):Int)-1=i by omega] at this
def NB {X:Cx}{H:Hp}{v:V}{i:Int}(hN:X.N.length=2)(k0:Same X.H₀ H):Sl X [] H [none,some (.int i)] [some v,some (.int i)]:=by
 refine⟨by rw[hN];rfl,by rw[hN];exact Nat.le_refl 2,fun j d hj q=>?_,fun j d hj q1 q2=>?_,fun j l d e a hj hl q1 q2 q3=>?_,fun _ z=>absurd z (by simp),k0⟩
 ·rw[hN] at hj;match j,hj with
  | 0,_=>cases q
  | 1,_=>cases q;exact⟨_,rfl,.int i⟩
 ·rw[hN] at q2;exact absurd q2 (by rw[List.getElem?_eq_none (by show 2<=2+j;omega)];simp)
 ·rw[hN] at q3;exact absurd q3 (by rw[List.getElem?_eq_none (by show 2<=2+j;omega)];simp)
def JQ (T:Txt K mg){f:Addr}{fd:FuncData}(F:Fun K "take_out" "Board.take_out" eN f fd):eF P w K mg base (Qy P w (.ref T.C_NoPiece)) 1 f fd ["self","number"] (FN T.C):=by
 obtain⟨oc,od,kV,doc,pm,an,cdv,ct,osl,rfl,lk,hcd⟩:=F.ex;refine MN (k:=0) (N:=["self","number"]) lk hcd fsc (fun vs H Q E h=>by obtain⟨_,_,_,_,_,_,rfl,_⟩:=h;rfl) fun A outer s H vs Q E hr hq=>?_;refine⟨_,aP (wD (Oe (tK (MK hr) (pv 1) (qC (pv 0) rfl)) rfl) (bD (CV rfl (Lp (Bx Iz (Bx (Qd (dv 1)) PN))) rfl T.g_NoPiece T.q_E PySem.F.excBase_ValueError)) iQ)
  (bD (lX (GX (qC (pv 0) rfl) (pv 1) ⟨rfl,rfl,rfl,rfl⟩))),?_⟩
 obtain⟨b,dx,p,kvs,n,i,rfl,h,hi,kn,ks⟩:=hq;refine⟨.int i,rfl,.ref b,rfl,b,T.C,dx,_,.ref p,rfl,h.i,T.cl,T.n_pieces,rfl,p,cj kvs (.inl i),rfl,DGet.k (k:=.inl i) h.d,_,rfl,?_⟩;cases hv:cj kvs (.inl i) with
 | none =>
   obtain⟨d,hd⟩:=Pr i hi.1 hi.2;exact⟨[],[none,some (.int i)],d,NB rfl (Same.refl _),hd,fun pins σ H1 s1 h' ea us I k0 mk=>Hh (fun H' g=>kn hv _ H' g) I k0 mk⟩
 | some v =>
   exact⟨.ref b,rfl,b,T.C,dx,_,.ref p,rfl,h.i,T.cl,T.n_pieces,rfl,p,rfl,.inl ⟨kvs,.inl h.d⟩,.int i,rfl,kvs,.inl i,v,h.d,rfl,hv,ks v hv⟩
def M8 (C:Addr)(ib iN:Nat):L2.St->Hp->VK->Prop->Prop:=fun σ H Q R=>∃b dx p kvs n i,σ[ib]? = some (some (V.ref b))/\σ[iN]? = some (some (V.int i))/\BdAt H C b dx p kvs n/\(-1<=i/\i<=20)/\(cj kvs (.inl i)=none->R) /\
 ∀v,cj kvs (.inl i)=some v->Q .non (upd H p (.dK (fj kvs (.inl i))))
def Kv {X:Cx}{pn:List (Addr×Obj)}{E:Value->Shared->Prop}{C f:Addr}{cl:Value}{fd:FuncData}{k:Nat}{o e:Expr}{apos pos:Pos}{ib iN:Nat}{pl:Sem Bool}(c:Cls X.K C)(hm:Meth X.K C "take_out" f)
 (F:eF X.prog X.w X.K X.mg X.base (Qy X.prog X.w cl) k f fd ["self","number"] (FN C)) (hr:Room k X.A) (hb:Binds X.K fd ["self","number"] []) (ho:PE (uW X pn E) o (cG ib)) (he:PE (uW X pn E) e (cG iN))
 (hst:starEach [e] X.env=(false,eval e X.env)::starEach [] X.env:=by rfl) (hpl:(backTo pos (starEach [] X.env)).any (·.1)=false:=by rfl)
 (ht:eval (.Call (.Attribute o "take_out" apos) [e] [] pos) X.env=(do
  let ov <-eval o X.env
  standAt apos.atName
  let (f,first) <-holding [ov] (getMethod ov "take_out" pl)
  callWith pos f first (backTo pos (starEach [e] X.env)) (backToKw pos (keywordEach [] X.env))):=by rfl) :
 PE (uW X pn E) (.Call (.Attribute o "take_out" apos) [e] [] pos) (fun σ H Q=>M8 C ib iN σ H Q (∀x s',xY (uW X pn E) cl σ H x s'->E x s')):=by
 rintro pins s σ H Q I ⟨b,dx,p,kvs,n,i,e1,e2,h,hi,kn,ks⟩;refine PySem.W.methodCall_KW (pl:=pl) (bw (ho pins s σ H (fun x H1=>x=.ref b/\H1=H) I ⟨_,e1,rfl,rfl⟩) fun u s1 ⟨x,H1,I1,rx,ex,eH⟩=>?_) ht;subst ex eH;obtain rfl:u=Value.ref b:=rx;refine jb (X:=uW X pn E) I1 h.i c hm rfl ?_;refine PySem.W.callWith_K (first:=[.ref b]) (h₀:=X.base) I.ok.mod.kin hm.kp (bw (aJ (X:=uW X pn E) he aY hst pos pins s1 σ H1 (fun vs H2=>vs=[.int i]/\H2=H1) I1 ⟨_,e2,rfl,rfl⟩) fun us s2 ⟨vs,H2,I2,r,ev,eH2⟩=>⟨I2.kIn,?_⟩) hst hpl;subst ev eH2;have r2:Vals [.ref b,.int i] (Value.ref b::us):=.cons rfl r;have hl:(Value.ref b::us).length=2:=by rw[<-r2.length];rfl
 have hb':=hb s2 (Value.ref b::us) I2.kIn (by rw[List.append_nil];exact hl);rw[List.append_nil] at hb';refine wpAny_call (codeAny_mono (F.run X.A X.stack s2 H2 ⟨Value.ref b::us,[]⟩ (Value.ref b::us) [.ref b,.int i] Q (fun c _ _=>c=cl->∀x s',xY (uW X pn E) cl σ H2 x s'->E x s') hr (Inv.env0 (X:=uW X pn E) I2) hb' r2
  ⟨b,dx,p,kvs,n,i,rfl,h,hi,fun hv c H' _ _=>kn hv,ks⟩) fun res s' hq=>?_)
 cases res with
 | error x =>
   obtain⟨H',ea,T,a0,x1,ho,hbr,un,hok,sm,et,n1,n2,n3,n4,hR⟩:=(show Qy X.prog X.w cl X.stack H2 s2 (fun c _ _=>c=cl->∀x s',xY (uW X pn E) cl σ H2 x s'->E x s') x s' from hq);exact hR rfl x s' ⟨s2,H2,H',ea,T,a0,x1,I2.pins_of (fun p hp=>absurd hp (by simp)),Same.refl _,ho,hbr,un,hok,sm,et,n1,n2,n3,n4⟩
 | ok fl =>
   cases fl with
   | ret u=>exact Inv.after (X:=uW X pn E) I2 hq
   | next=>exact False.elim hq
   | brk=>exact False.elim hq
   | cont=>exact False.elim hq
def j9 (T:Txt K mg):eF P w K mg base ou 2 T.x__law_taken.f T.x__law_taken.fd ["_law_board","_law_number"] (uL T.C) :=
 T.x__law_taken.F.ok (k:=1) (N:=["_law_board","_law_number","_law_told","e"]) fsc (fun vs H Q E h=>by obtain⟨_,_,_,_,_,_,rfl,_⟩:=h;rfl) fun cdv A outer s H vs Q E hr hq =>
  ⟨_,aP (qy (i:=2) (nod ["_law_board","_law_number","_law_told","e"]) rfl (Or.inl rfl) uV) (aP
   (Og (i:=2) (k:=3) (C:=T.C_NoPiece) (B:=T.C_RingError) (Dd:=T.C_NoText) (W:=M8 T.C 0 1) (cv:=.str "no piece") (fun⟨b,dx,p,kvs,n,i,a1,a2,a3,a4,a5,a6⟩ f g=>⟨b,dx,p,kvs,n,i,a1,a2,a3,a4,fun z=>g (a5 z),fun v z=>f _ _ (a6 v z)⟩)
    ⟨rfl,rfl⟩ (nod ["_law_board","_law_number","_law_told","e"]) rfl rfl (by decide) rfl rfl rfl (fun pn E=>Kv T.cl T.x_Board_take_out.m (JQ T T.x_Board_take_out.F) hr T.x_Board_take_out.b (pv 0) (pv 1)) (fun _=>uV)
    rfl T.g_RingError T.x_E rfl T.z_isinstance rfl T.g_NoPiece rfl T.g_NoText T.i_E rfl T.z_ValueError T.e_E T.k_E)
   (bD (jB (pv 2)))),by
   obtain⟨b,dx,p,kvs,n,i,rfl,h,hi,kn,ks⟩:=hq;exact⟨b,dx,p,kvs,n,i,rfl,rfl,h,hi,fun hv ea H' g=>⟨_,rfl,kn hv H' g⟩,fun v hv=>⟨_,rfl,ks v hv⟩⟩⟩
end
end DL.K08
namespace DL.Pg
open PySem DL
structure Pc where
 i:Nat
 o:Nat
 b:Nat
 w:Nat
def Pc.ok (p:Pc):Prop:=p.i<p.o/\p.o<=1000/\p.b<24/\1<=p.w/\p.w<=24
noncomputable def pD (p:Pc):D:=.tup [.int p.i,.int p.o,.int p.b,.int p.w]
def gk (s:List Pc):D:=.tup (s.map pD)
noncomputable def Pc.at (p:Pc)(t:Nat):Bool:=decide ((t+24-p.b) % 24<p.w)
def Pc.has (p:Pc)(r t:Nat):Bool:=decide (p.i<=r)&&decide (r<p.o)&&p.at t
def dep (s:List Pc)(r t:Nat):Nat:=s.countP fun p=>p.has r t
noncomputable def cu (p:Pc):List Int:=(List.range p.w).map fun k=>(((p.b+k) % 24:Nat):Int)
def Gm {p:Pc}(h:p.ok):f9 [pD p]=some (.tup [.int p.i,.int p.o]):=by
 have h1:¬ ((0:Int)>p.i):=by omega
 have h2:¬ ((p.i:Int)>p.o):=by have:=h.1;omega
 simp[f9,jt,oh,bY,d8,bZ,aB,ak,aD,aQ,ao,slot,eC,eG,qM,La,gN,mH,pD];have:=h.1;omega
def sY {n:Nat}{x:D}(h:x∈dq n):∃k:Nat,k<n/\x=.int k:=by
 unfold dq at h;obtain⟨k,h1,h2⟩:=List.mem_map.mp h;exact⟨k,List.mem_range.mp h1,h2.symm⟩
def wz {a:ME}{δ:Ev}{j:Int}(h:a δ=some (.int j))(h1 : -1073741824<j/\j<1073741824):iZ a δ=some (dq j.toNat):=by
 unfold iZ;rw[h];simp only[Option.bind_some];rw[if_pos h1]
def CK {a:ME}{δ:Ev}{n:Nat}(h:a δ=some (.int n))(h1:n<1073741824):iZ a δ=some (dq n):=by
 have e:=wz h ⟨by omega,by omega⟩
 rwa [Int.toNat_natCast] at e
def Kd {p:Pc}(h:p.ok):gq [pD p]=some (.lst ((cu p).map D.int)):=by
 obtain⟨_,_,_,h4,h5⟩:=h;have e0:je [some (pD p),none]=bZ (dR 1 [0] (iZ (ao 1)) (gN 0) tT (aQ oMod (aQ eE (aQ eG (ao 1) (eC (.int 2))) (ao 0)) (eC (.int 24)))) [some (pD p),some (.int p.w)]:=by
  unfold je;refine bu (du (d:=.int p.w) ?_ rfl);have:¬ ((24:Int)<p.w):=by omega
  simp[aB,ak,aD,aQ,ao,slot,eC,eG,qM,Pu,pD];omega
 refine di rfl (e0.trans ?_);have hi:iZ (ao 1) [some (pD p),some (.int p.w)]=some (dq p.w):=CK rfl (by omega);refine bI ((gM (fun x=>match x with | .int k=>some (.int ((p.b+k) % 24)) | _=>none) hi (by simp[dq];omega) fun x hx=>?_).trans ?_)
 ·obtain⟨k,_,rfl⟩:=sY hx;refine⟨[some (.int k),some (pD p)],rfl,.inl ⟨rfl,.int ((p.b+k) % 24),?_,rfl⟩⟩;simp[aQ,ao,slot,eC,eG,qM,pD,eE,oMod,oI]
 ·refine congrArg (fun l=>some (D.lst l)) ?_;unfold cu dq;generalize List.range p.w=l
  induction l with
  | nil=>rfl
  | cons a l ih =>
    have e:(((p.b+a) % 24:Nat):Int)=((p.b:Int)+(a:Int)) % 24:=by omega
    simp only[List.map_cons,List.filterMap_cons];rw[ih,e]
def ints_map:∀(l:List Int),intsOf (l.map D.int)=some l
 | []=>rfl
 | a::l=>by simp[intsOf,ints_map l]
def vW {p:Pc}:∀t∈cu p,0<=t/\t<24:=fun t h=>by
 unfold cu at h;obtain⟨k,_,rfl⟩:=List.mem_map.mp h;have:=Nat.mod_lt (p.b+k) (show 0<24 by decide);omega
def Cj (p:Pc):uG (.lst ((cu p).map D.int))=some (cu p):=by
 show (intsOf ((cu p).map D.int)).bind _=_;rw[ints_map];simp only[Option.bind_some];rw[if_pos];rw[List.all_eq_true];intro t ht;have:=vW t ht;simp[this]
def jM (T:Tab)(p:Pc):Tab:=fD (fD T p.i (cu p) 1) p.o (cu p) (-1)
def tabOf (s:List Pc):Tab:=s.foldl jM []
def Ca:∀(s:List Pc) (T:Tab),(∀p∈s,p.ok)->T.length+2*s.length<=1000000->vh f9 gq (s.map pD) T=some (s.foldl jM T)
 | [],T,_,_=>rfl
 | p::s,T,h,hl=>by
   have hp:=h p List.mem_cons_self;simp only[List.length_cons] at hl;rw[List.map_cons,vh,Gm hp];simp only[Option.bind_some,zQ];rw[Kd hp];simp only[Option.bind_some,Cj];rw[if_pos (by omega)];have h1:=mW T p.i (cu p) 1;have h2:=mW (fD T p.i (cu p) 1) p.o (cu p) (-1);exact Ca s _ (fun q hq=>h q (List.mem_cons_of_mem _ hq)) (by omega)
def CQ {s:List Pc}(h:∀p∈s,p.ok)(hl:s.length<=400000):dw [gk s]=some (jn (tabOf s)):=by
 unfold dw iz gk;simp only;rw[Ca s [] h (by simp only[List.length_nil];omega)];rfl
noncomputable def zeros:List Int:=List.replicate 24 0
def jr (T:Tab)(e:Int):List Int:=(T.lookup e).getD zeros
def jR (T:Tab)(e:Int)(t:Nat):Int:=(jr T e).getD t 0
def kO (T:Tab):Prop:=∀q∈T,q.2.length=24
def xj (far:Int)(ts:List Int)(b:Int):∀(T:Tab) (e:Int),(fD T far ts b).lookup e=if e=far then some (bh (jr T far) ts b) else T.lookup e
 | [],e=>by
   unfold fD jr;by_cases h:e=far
   ·subst h;simp[List.lookup,zeros]
   ·have h':(e==far)=false:=by simpa using h
    simp[List.lookup,h,h']
 | (k,r)::T,e=>by
   unfold fD;by_cases hk:k=far
   ·subst hk;rw[if_pos rfl,List.lookup_cons];by_cases he:e=k
    ·subst he;simp[jr,List.lookup_cons]
    ·have:(e==k)=false:=by simpa using he
     simp[this,he,List.lookup_cons]
   ·rw[if_neg hk,List.lookup_cons,List.lookup_cons,xj far ts b T e];by_cases he:e=k
    ·subst he;simp[hk]
    ·have h1:(e==k)=false:=by simpa using he
     have h2:(far==k)=false:=by simpa using Ne.symm hk
     simp only[h1,jr,List.lookup_cons,h2]
def good_add {T:Tab}(h:kO T)(far:Int)(ts:List Int)(b:Int):kO (fD T far ts b):=by
 induction T with
 | nil =>
   intro q hq;unfold fD at hq;rw[List.mem_singleton.mp hq,cD];rfl
 | cons kr T ih =>
   obtain⟨k,r⟩:=kr;intro q hq;have hr:r.length=24:=h (k,r) List.mem_cons_self;unfold fD at hq;split at hq
   ·rcases List.mem_cons.mp hq with rfl | hq
    ·rw[cD];exact hr
    ·exact h q (List.mem_cons_of_mem _ hq)
   ·rcases List.mem_cons.mp hq with rfl | hq
    ·exact hr
    ·exact ih (fun q' hq'=>h q' (List.mem_cons_of_mem _ hq')) q hq
def wy {T:Tab}(h:kO T)(e:Int):(jr T e).length=24:=by
 unfold jr;cases hl:T.lookup e with
 | none=>rfl
 | some r =>
   obtain⟨_,_,hm⟩:∃k,k=e/\(k,r)∈T:=by
    clear h;induction T with
    | nil=>simp at hl
    | cons kr T ih =>
      obtain⟨k,r'⟩:=kr;rw[List.lookup_cons] at hl;split at hl
      ·rename_i hk;cases hl;exact⟨k,(eq_of_beq hk).symm,List.mem_cons_self⟩
      ·obtain⟨k',h1,h2⟩:=ih hl;exact⟨k',h1,List.mem_cons_of_mem _ h2⟩
   exact h _ hm
def lC (b:Int):∀(ts r:List Int) (t:Nat),(∀z∈ts,0<=z/\z<r.length)->(bh r ts b).getD t 0=r.getD t 0+b*(ts.count (t:Int):Nat)
 | [],r,t,_=>by simp[bh]
 | z::ts,r,t,h=>by
   obtain⟨z0,z1⟩:=h z List.mem_cons_self;have e:bh r (z::ts) b=bh (r.set z.toNat (r.getD z.toNat 0+b)) ts b:=rfl;rw[e,lC b ts _ t fun y hy=>by rw[List.length_set];exact h y (List.mem_cons_of_mem _ hy),List.count_cons];by_cases hz:z=t
   ·subst hz;have:t<r.length:=by omega
    simp[List.getD_eq_getElem?_getD,List.getElem?_set,this,Int.mul_add];omega
   ·have h1:z.toNat≠t:=by omega
    have h2:(z==(t:Int))=false:=by simpa using hz
    simp[List.getD_eq_getElem?_getD,List.getElem?_set,h1,h2]
def xQ:∀b,b<24->∀w,w<25->∀t,t<24->((List.range w).map fun k=>(b+k) % 24).count t=if (t+24-b) % 24<w then 1 else 0:=by decide +kernel
def Ea {p:Pc}(h:p.ok){t:Nat}(ht:t<24):(cu p).count (t:Int)=if p.at t=true then 1 else 0:=by
 obtain⟨_,_,h3,_,h5⟩:=h;have:=xQ p.b h3 p.w (by omega) t ht;unfold Pc.at;simp only[decide_eq_true_eq];rw[<-this];unfold cu;generalize List.range p.w=l
 induction l with
 | nil=>rfl
 | cons a l ih =>
   rw[List.map_cons,List.map_cons,List.count_cons,List.count_cons,ih];congr 1;have:((((p.b+a) % 24:Nat):Int)==(t:Int))=((p.b+a) % 24==t):=by
    rw[Bool.eq_iff_iff];simp only[beq_iff_eq];omega
   rw[this]
def vQ {T:Tab}(h:kO T){p:Pc}(hp:p.ok)(far b:Int)(e:Int){t:Nat}(ht:t<24):jR (fD T far (cu p) b) e t=jR T e t+if e=far then b*(if p.at t=true then 1 else 0) else 0:=by
 unfold jR;have:jr (fD T far (cu p) b) e=if e=far then bh (jr T far) (cu p) b else jr T e:=by
  unfold jr;rw[xj];split <;> rfl
 rw[this];by_cases he:e=far
 ·subst he;rw[if_pos rfl,if_pos rfl,lC b _ _ t fun z hz=>by rw[wy h];exact vW z hz,Ea hp ht];split <;> simp
 ·rw[if_neg he,if_neg he];simp
def chg (p:Pc)(e t:Nat):Int:=if p.at t=true then (if e=p.i then 1 else 0)-(if e=p.o then 1 else 0) else 0
def vP:∀(s:List Pc) (T:Tab),kO T->(∀p∈s,p.ok)->∀(e t:Nat),t<24->jR (s.foldl jM T) e t=jR T e t+(s.map fun p=>chg p e t).sum
 | [],T,_,_,e,t,_=>by simp
 | p::s,T,h,hs,e,t,ht=>by
   have hp:=hs p List.mem_cons_self;have h1:=good_add h p.i (cu p) 1;have h2:kO (jM T p):=good_add h1 p.o (cu p) (-1);rw[List.foldl_cons,vP s _ h2 (fun q hq=>hs q (List.mem_cons_of_mem _ hq)) e t ht,List.map_cons,List.sum_cons];unfold jM;rw[vQ h1 hp _ _ _ ht,vQ h hp _ _ _ ht];unfold chg;have e1:((e:Int)=(p.i:Int))↔e=p.i:=by omega
   have e2:((e:Int)=(p.o:Int))↔e=p.o:=by omega
   simp only[e1,e2];by_cases ha:p.at t=true <;> by_cases h1:e=p.i <;> by_cases h2:e=p.o <;> simp[ha,h1,h2] <;> omega
def xA:∀(s:List Pc) (T:Tab),kO T->kO (s.foldl jM T)
 | [],T,h=>h
 | p::s,T,h=>xA s _ (good_add (good_add h _ _ _) _ _ _)
def jG:kO []:=fun q h=>by cases h
noncomputable def rowOf (f:Nat->Int):List Int:=(List.range 24).map f
noncomputable def eZ (r:List Int):D:=.lst (r.map D.int)
noncomputable def bV (q:Nat×Nat):D:=.tup [.int q.1,.int q.2]
def sX (f:Nat->Int):(rowOf f).length=24:=by simp[rowOf]
def oK {f g:Nat->Int}(h:∀t,t<24->f t=g t):rowOf f=rowOf g:=List.map_congr_left fun t ht=>h t (List.mem_range.mp ht)
def CG {r:List Int}(h:r.length=24):rowOf (fun t=>r.getD t 0)=r:=by
 refine List.ext_getElem (by rw[sX,h]) fun i h1 h2=>?_;simp[rowOf,h2]
def zip_rows (f g:Nat->Int):List.zipWith (·+·) (rowOf f) (rowOf g)=rowOf fun t=>f t+g t:=by
 unfold rowOf;rw[List.zipWith_map];generalize List.range 24=l
 induction l with
 | nil=>rfl
 | cons a l ih=>rw[List.zipWith_cons_cons,ih];rfl
def xg:∀(T:Tab) (e:Int),bJ (T.map fun p=>.int p.1) (T.map fun p=>.lst (p.2.map D.int)) e=(T.lookup e).map fun r=>.lst (r.map D.int)
 | [],e=>rfl
 | (k,r)::T,e=>by
   rw[List.map_cons,List.map_cons,bJ,xg T e,List.lookup_cons];by_cases h:k=e
   ·subst h;simp
   ·have:(e==k)=false:=by simpa using Ne.symm h
    rw[if_neg h,this]
def Pn {o k x:ME}{δ:Ev}{T:Tab}{e:Int}(ho:o δ=some (jn T))(hk:k δ=some (.int e))(hx:x δ=some (eZ zeros)):Bs o k x δ=some (eZ (jr T e)):=by
 unfold Bs;rw[ho,hk,hx];simp only[Option.bind_some,jn];rw[xg];unfold jr;cases T.lookup e <;> rfl
def vK (δ:Ev):qX (lw (ak (eC (.int 0)) aD)) (eC (.int 24)) δ=some (eZ zeros):=by
 unfold qX;simp[lw,ak,aD,eC];rfl
def sE:∀(a b:List Int),fM (a.map D.int) (b.map D.int)=(a.zip b).map fun p=>D.tup [.int p.1,.int p.2]
 | [],_=>rfl
 | _::_,[]=>rfl
 | x::a,y::b=>by
   have:=sE a b;unfold fM at this ⊢;rw[List.map_cons,List.map_cons,List.zip_cons_cons,List.zip_cons_cons,List.map_cons,List.map_cons,this]
def Jp {x y:ME}{δ:Ev}{a b:List Int}(hx:x δ=some (eZ a))(hy:y δ=some (eZ b))(hl:a.length<=1000):dR 2 [] (rY x y) (gT (bK (gN 0) (bK (gN 1) jl))) tT (aQ eE (ao 0) (ao 1)) δ=some (eZ (List.zipWith (·+·) a b)):=by
 have hi:rY x y δ=some ((a.zip b).map fun p=>D.tup [.int p.1,.int p.2]):=by
  unfold rY;rw[hx,hy];simp only[Option.bind_some,eZ];rw[sE]
 refine(gM (fun d=>match d with | .tup [.int u,.int v]=>some (.int (u+v)) | _=>none) hi (by simp;omega) fun d hd=>?_).trans ?_
 ·obtain⟨p,_,rfl⟩:=List.mem_map.mp hd;exact⟨[some (.int p.1),some (.int p.2)],rfl,.inl ⟨rfl,.int (p.1+p.2),rfl,rfl⟩⟩
 ·refine congrArg (fun l=>some (D.lst l)) ?_;clear hi hx hy hl;induction a generalizing b with
  | nil=>rfl
  | cons u a ih =>
    cases b with
    | nil=>rfl
    | cons v b =>
      rw[List.zip_cons_cons,List.map_cons,List.filterMap_cons,List.zipWith_cons_cons,List.map_cons];simp only;rw[ih]
def oJ (T:Tab):(Nat->Int)->List (Nat×Nat)->List (List Int)
 | _,[]=>[]
 | f,q::qs=>rowOf (fun t=>f t+jR T q.1 t)::oJ T (fun t=>f t+jR T q.1 t) qs
def sV {T:Tab}(hT:kO T)(sh bd:D):∀(qs:List (Nat×Nat)) (f:Nat->Int) (rs:List D) (x5 x6:Option D),rs.length+qs.length<=1000->∃y4 y5 y6,
 forM (gN 5) cW (qs.map bV) [some sh,some bd,some (jn T),none,some (eZ (rowOf f)),x5,x6,none,none,none,some (.lst rs),none,none,none] =
  some (.nx [some sh,some bd,some (jn T),none,y4,y5,y6,none,none,none,some (.lst (rs++(oJ T f qs).map eZ)),none,none,none])
 | [],f,rs,x5,x6,_=>⟨_,_,_,by rw[List.map_nil,forM,oJ,List.map_nil,List.append_nil]⟩
 | q::qs,f,rs,x5,x6,hl=>by
   simp only[List.length_cons] at hl;have e:cW [some sh,some bd,some (jn T),none,some (eZ (rowOf f)),some (bV q),x6,none,none,none,some (.lst rs),none,none,none] =
    some (.nx [some sh,some bd,some (jn T),none,some (eZ (rowOf fun t=>f t+jR T q.1 t)),some (bV q),some (eZ (jr T q.1)),none,none,none,some (.lst (rs++[eZ (rowOf fun t=>f t+jR T q.1 t)])),none,none,none]):=by
    unfold cW;rw[bu (du (Pn (T:=T) (e:=q.1) rfl rfl (vK _)) rfl)];have hz:List.zipWith (·+·) (rowOf f) (jr T q.1)=rowOf fun t=>f t+jR T q.1 t:=by
     rw[<-CG (wy hT q.1),zip_rows];rfl
    rw[bu (du ((Jp (a:=rowOf f) (b:=jr T q.1) rfl rfl (by rw[sX];decide)).trans (by rw[hz])) rfl)];unfold NZ;have:(rs.length<16777216):=by omega
    simp[ao,slot,gN,ownAt,this]
   obtain⟨y4,y5,y6,ih⟩:=sV hT sh bd qs (fun t=>f t+jR T q.1 t) (rs++[eZ (rowOf fun t=>f t+jR T q.1 t)]) (some (bV q)) (some (eZ (jr T q.1))) (by simp;omega);refine⟨y4,y5,y6,?_⟩;rw[List.map_cons,forM];show (cW [some sh,some bd,some (jn T),none,some (eZ (rowOf f)),some (bV q),x6,none,none,none,some (.lst rs),none,none,none]).bind _=_;rw[e];simp only[Option.bind_some];rw[ih,oJ,List.map_cons,List.append_assoc];rfl
def Oa {s:List Pc}(h:∀p∈s,p.ok)(hl:s.length<=400000){qs:List (Nat×Nat)}(hq:qs.length<=1000):fO [gk s,.lst (qs.map bV)]=some (.lst ((oJ (tabOf s) (fun _=>0) qs).map eZ)):=by
 have hz:eZ zeros=eZ (rowOf fun _=>0):=rfl;obtain⟨y4,y5,y6,e⟩:=sV (T:=tabOf s) (xA s [] jG) (gk s) (.lst (qs.map bV)) qs (fun _=>0) [] none none (by simpa using hq);refine di rfl ?_;show fV [some (gk s),some (.lst (qs.map bV)),none,none,none,none,none,none,none,none,none,none,none,none]=_;unfold fV;rw[bu (du ((aR rfl).trans (CQ h hl)) rfl)];rw[bu (show wg 7 3 (lw aD) _=some (.nx [some (gk s),some (.lst (qs.map bV)),some (jn (tabOf s)),none,none,none,none,none,none,none,some (.lst []),none,none,none]) from rfl)];rw[bu (du (δ':=[some (gk s),some (.lst (qs.map bV)),some (jn (tabOf s)),none,some (eZ (rowOf fun _=>0)),none,none,none,none,none,some (.lst []),none,none,none]) (vK _) rfl)];rw[bu ((pH (xs:=qs.map bV) rfl).trans e)];rfl
def DX (s:List Pc)(e t:Nat):Int:=(s.map fun p=>if p.at t=true then ((if p.i<e then 1 else 0)-(if p.o<e then 1 else 0):Int) else 0).sum
def G9 {i o e:Nat}(h:i<o):((if i<e then 1 else 0)-(if o<e then 1 else 0):Int)+((if e=i then 1 else 0)-(if e=o then 1 else 0))=if i<=e/\e<o then 1 else 0:=by
 split <;> split <;> split <;> split <;> split <;> omega
def Ha {i o e e':Nat}(h:i<o)(h1:i<e'↔i<=e)(h2:o<e'↔o<=e):((if i<e' then 1 else 0)-(if o<e' then 1 else 0):Int)=if i<=e/\e<o then 1 else 0:=by
 split <;> split <;> split <;> omega
def Jf {s:List Pc}(h:∀p∈s,p.ok)(e t:Nat):DX s e t+(s.map fun p=>chg p e t).sum=(dep s e t:Int):=by
 unfold DX dep;induction s with
 | nil=>rfl
 | cons p s ih =>
   have ih':=ih fun q hq=>h q (List.mem_cons_of_mem _ hq);have hp:=(h p List.mem_cons_self).1;rw[List.map_cons,List.map_cons,List.sum_cons,List.sum_cons,List.countP_cons,Int.natCast_add,<-ih'];have:(if p.at t=true then ((if p.i<e then 1 else 0)-(if p.o<e then 1 else 0):Int) else 0)+chg p e t=((if p.has e t=true then 1 else 0:Nat):Int):=by
    unfold chg Pc.has;cases ha:p.at t
    ·simp
    ·simp only[if_true,Bool.and_true,Bool.and_eq_true,decide_eq_true_eq];rw[G9 hp];split <;> rfl
   omega
def Jg {s:List Pc}{e e':Nat}(h:∀p∈s,p.i<p.o/\(p.i<e'↔p.i<=e)/\(p.o<e'↔p.o<=e))(t:Nat):DX s e' t=(dep s e t:Int):=by
 unfold DX dep;induction s with
 | nil=>rfl
 | cons p s ih =>
   obtain⟨h0,h1,h2⟩:=h p List.mem_cons_self;rw[List.map_cons,List.sum_cons,List.countP_cons,Int.natCast_add,ih fun q hq=>h q (List.mem_cons_of_mem _ hq)];have:(if p.at t=true then ((if p.i<e' then 1 else 0)-(if p.o<e' then 1 else 0):Int) else 0)=((if p.has e t=true then 1 else 0:Nat):Int):=by
    unfold Pc.has;cases ha:p.at t
    ·simp
    ·simp only[if_true,Bool.and_true,Bool.and_eq_true,decide_eq_true_eq];rw[Ha h0 h1 h2];split <;> rfl
   omega
def Left (s:List Pc)(e:Nat)(es:List Nat):Prop:=∀p∈s,(p.i<e\/p.i∈e::es)/\(p.o<e\/p.o∈e::es)
def Left.next {s:List Pc}{e e':Nat}{es:List Nat}(h:Left s e (e'::es))(hs:(e::e'::es).Pairwise (·<·)):Left s e' es:=by
 have hlt:e<e':=(List.pairwise_cons.mp hs).1 e' List.mem_cons_self;have key:∀x,x<e\/x∈e::e'::es->x<e'\/x∈e'::es:=fun x hx=>by
  rcases hx with hx | hx
  ·exact .inl (by omega)
  ·rcases List.mem_cons.mp hx with rfl | hx
   ·exact .inl hlt
   ·exact .inr hx
 exact fun p hp=>⟨key _ (h p hp).1,key _ (h p hp).2⟩
def Left.iff {s:List Pc}{e e':Nat}{es:List Nat}(h:Left s e (e'::es))(hs:(e::e'::es).Pairwise (·<·)):∀p∈s,(p.i<e'↔p.i<=e)/\(p.o<e'↔p.o<=e):=by
 have hlt:e<e':=(List.pairwise_cons.mp hs).1 e' List.mem_cons_self;have h2:=(List.pairwise_cons.mp (List.pairwise_cons.mp hs).2).1;have key:∀x,x<e\/x∈e::e'::es->(x<e'↔x<=e):=fun x hx=>by
  rcases hx with hx | hx
  ·omega
  ·rcases List.mem_cons.mp hx with rfl | hx
   ·omega
   ·rcases List.mem_cons.mp hx with rfl | hx
    ·omega
    ·have:=h2 x hx;omega
 exact fun p hp=>⟨key _ (h p hp).1,key _ (h p hp).2⟩
def cB (s:List Pc)(e:Nat):List Int:=rowOf fun t=>(dep s e t:Int)
def wu {s:List Pc}(h:∀p∈s,p.ok):∀(es:List Nat) (e:Nat) (f:Nat->Int),(e::es).Pairwise (·<·)->Left s e es->(∀t,t<24->f t=DX s e t) ->
 oJ (tabOf s) f ((e::es).zip es)=((e::es).zip es).map fun q=>cB s q.1
 | [],e,f,_,_,_=>rfl
 | e'::es,e,f,hs,hL,hf=>by
   have hrow:∀t,t<24->f t+jR (tabOf s) e t=(dep s e t:Int):=fun t ht=>by
    rw[hf t ht];unfold tabOf;rw[vP s [] jG h e t ht,<-Jf h e t];have:jR [] (e:Int) t=0:=by
     unfold jR jr zeros;rw[List.lookup_nil,Option.getD_none,List.getD_eq_getElem?_getD,List.getElem?_replicate];split <;> rfl
    omega
   rw[List.zip_cons_cons,oJ,List.map_cons];simp only;rw[oK hrow,wu h es e' (fun t=>f t+jR (tabOf s) e t) (List.pairwise_cons.mp hs).2 (hL.next hs) fun t ht=>?_]
   ·rfl
   ·rw[hrow t ht];exact(Jg (fun p hp=>⟨(h p hp).1,hL.iff hs p hp⟩) t).symm
noncomputable def jW (s:List Pc):List Nat:=0::s.flatMap fun p=>[p.i,p.o]
def bN (s:List Pc):List Nat:=(List.range 1001).filter fun r=>decide (r∈jW s)
def fU (s:List Pc):(bN s).Pairwise (·<·):=List.pairwise_lt_range.filter _
def jN {s:List Pc}(h:∀p∈s,p.ok)(x:Nat):x∈bN s↔x∈jW s:=by
 unfold bN;rw[List.mem_filter,List.mem_range,decide_eq_true_eq];refine⟨fun z=>z.2,fun z=>⟨?_,z⟩⟩;unfold jW at z;rcases List.mem_cons.mp z with rfl | z
 ·decide
 ·obtain⟨p,hp,hx⟩:=List.mem_flatMap.mp z;have:=h p hp;have h1:=this.1;have h2:=this.2.1;simp only[List.mem_cons,List.not_mem_nil,or_false] at hx;omega
def Hv (ks:List Int)(n x:Int):x∈gA ks n↔x∈ks\/x=n:=by
 unfold gA;split
 ·rename_i h;exact⟨.inl,fun z=>z.elim id fun e=>e ▸ h⟩
 ·simp
def zb {ks:List Int}(h:ks.Nodup)(n:Int):(gA ks n).Nodup:=by
 unfold gA;split
 ·exact h
 ·rename_i hn;rw[List.nodup_append];exact⟨h,by simp,fun a ha b hb e=>hn (by rw[List.mem_singleton.mp hb] at e;exact e ▸ ha)⟩
def um:∀(l ks:List Int),ks.Nodup->(l.foldl gA ks).Nodup/\∀x,x∈l.foldl gA ks↔x∈ks\/x∈l
 | [],ks,h=>⟨h,fun x=>by simp⟩
 | n::l,ks,h=>by
   obtain⟨h1,h2⟩:=um l (gA ks n) (zb h n);refine⟨h1,fun x=>?_⟩;rw[List.foldl_cons,h2,Hv,List.mem_cons,or_assoc]
def Cu {a b:List Int}(hp:a.Perm b)(ha:a.Pairwise (·<=·))(hb:b.Pairwise (·<=·)):a=b :=
 hp.eq_of_pairwise (fun x y _ _ h1 h2=>Int.le_antisymm h1 h2) ha hb
def uM (ks:List Int):(sortI ks).Pairwise (·<=·):=by
 have:=List.pairwise_mergeSort (le:=fun a b:Int=>decide (a<=b)) (fun a b c h1 h2=>by simp only[decide_eq_true_eq] at *;omega) (fun a b=>by simp only[Bool.or_eq_true,decide_eq_true_eq];omega) ks;exact this.imp fun h=>by simpa using h
def yz {s:List Pc}(h:∀p∈s,p.ok):sortI (((jW s).map fun (n:Nat)=>(n:Int)).foldl gA [])=(bN s).map fun (n:Nat)=>(n:Int):=by
 obtain⟨n1,n2⟩:=um ((jW s).map fun (n:Nat)=>(n:Int)) [] List.nodup_nil;have hs:((bN s).map fun (n:Nat)=>(n:Int)).Pairwise (·<·):=by
  rw[List.pairwise_map];exact(fU s).imp fun z=>by omega
 refine Cu ?_ (uM _) (hs.imp fun z=>by omega);refine(List.mergeSort_perm _ _).trans ?_;refine(List.perm_ext_iff_of_nodup n1 (hs.imp fun z=>by omega)).mpr fun x=>?_;rw[n2];simp only[List.not_mem_nil,false_or,List.mem_map,jN h]
noncomputable def dI (E:List Nat):List D:=E.map fun (n:Nat)=>D.int (n:Int)
def Hu (E:List Nat):intsOf (dI E)=some (E.map fun (n:Nat)=>(n:Int)):=by
 have:dI E=(E.map fun (n:Nat)=>(n:Int)).map D.int:=by unfold dI;rw[List.map_map];rfl
 rw[this,ints_map]
def qU (sh:D):∀(s:List Pc) (ds:List D) (x2:Option D),(∀p∈s,p.ok)->ds.length+2*s.length<=10000->∃y2,
 forM (gN 2) dX (s.map pD) [some sh,none,x2,none,some (.lst ds),none]=some (.nx [some sh,none,y2,none,some (.lst (ds++dI (s.flatMap fun p=>[p.i,p.o]))),none])
 | [],ds,x2,_,_=>⟨x2,by simp[forM,dI]⟩
 | p::s,ds,x2,h,hl=>by
   simp only[List.length_cons] at hl;have e:dX [some sh,none,some (pD p),none,some (.lst ds),none]=some (.nx [some sh,none,some (pD p),none,some (.lst (ds++[.int p.i,.int p.o])),none]):=by
    unfold dX NT;rw[aR (x:=pD p) rfl,Gm (h p List.mem_cons_self)];have:ds.length+2<=16777216:=by omega
    simp[ownAt,slot,this]
   obtain⟨y2,ih⟩:=qU sh s (ds++[.int p.i,.int p.o]) (some (pD p)) (fun q hq=>h q (List.mem_cons_of_mem _ hq)) (by simp;omega);refine⟨y2,?_⟩;rw[List.map_cons,forM];show (dX [some sh,none,some (pD p),none,some (.lst ds),none]).bind _=_;rw[e];simp only[Option.bind_some];rw[ih];simp[dI]
def Kg {s:List Pc}(h:∀p∈s,p.ok)(hl:s.length<=1000)(he:(bN s).length<64):lq [gk s]=some (.lst (dI (bN s))):=by
 obtain⟨y2,e⟩:=qU (gk s) s [.int 0] none h (by simp;omega);refine di rfl ?_;show jf [some (gk s),none,none,none,none,none]=_;unfold jf;rw[bu (show wg 3 1 (lw (ak (eC (.int 0)) aD)) _=some (.nx [some (gk s),none,none,none,some (.lst [.int 0]),none]) from rfl)];rw[bu ((pH (xs:=s.map pD) rfl).trans e)];have ef:[D.int 0]++dI (s.flatMap fun p=>[p.i,p.o])=dI (jW s):=rfl;rw[ef];show bZ (kE lF (ao 1)) [some (gk s),some (.lst (dI (jW s))),y2,none,none,none]=_;refine bI ((lE (x:=.lst (dI (jW s))) rfl).trans ?_);unfold lF;simp only;rw[Hu];simp only[Option.bind_some];have hs:=yz h;have h1:((jW s).map fun (n:Nat)=>(n:Int)).length+1<4096:=by
  unfold jW;simp;have:(s.flatMap fun p=>[p.i,p.o]).length=2*s.length:=by
   clear h hl he e ef hs;induction s with
   | nil=>rfl
   | cons p s ih=>rw[List.flatMap_cons,List.length_append,ih];simp;omega
  simp at this;omega
 have h2:(((jW s).map fun (n:Nat)=>(n:Int)).foldl gA []).length<64:=by
  have:=congrArg List.length hs;rw[List.length_map] at this;unfold sortI at this;rw[List.length_mergeSort] at this;omega
 rw[if_pos ⟨h1,h2⟩,hs];unfold dI;rw[List.map_map];rfl
noncomputable def fC (E:List Nat):List (Nat×Nat):=E.zip E.tail
def zL:∀(E F:List Nat),fM (dI E) (dI F)=(E.zip F).map bV
 | [],_=>rfl
 | _::_,[]=>rfl
 | a::E,b::F=>by
   have:=zL E F;unfold fM dI at this ⊢;rw[List.map_cons,List.map_cons,List.zip_cons_cons,List.zip_cons_cons,List.map_cons,List.map_cons,this];rfl
def Kl {E:List Nat}(hl:E.length<=1000):fJ [.lst (dI E)]=some (.lst ((fC E).map bV)):=by
 refine di rfl ?_;show dB [some (.lst (dI E))]=_;unfold dB;refine bI ?_;unfold qY rY;have e:kE (vU 1) (ao 0) [some (.lst (dI E))]=some (.lst (dI E.tail)):=by
  show some (D.lst ((dI E).drop 1))=_;rw[show (dI E).drop 1=dI E.tail by cases E <;> rfl]
 rw[e,show ao 0 [some (.lst (dI E))]=some (.lst (dI E)) from rfl];simp only[Option.bind_some];rw[zL];have:((E.zip E.tail).map bV).length<=16777216:=by simp;omega
 rw[if_pos this];rfl
noncomputable def ar (q:Nat×Nat):Int:=(q.2:Int)*q.2-(q.1:Int)*q.1
def sI {n:Nat}(h:n<=1000):small (n:Int)=true:=by
 unfold small;simp only[Bool.and_eq_true,decide_eq_true_eq];omega
def tU {i j:Int}(h:small j=true):cY (.int i) (.int j)=some (.int (i*j)):=by
 simp[cY,h]
def N7 {a b:ME}{δ:Ev}{ds:List D}{k:Int}(ha:a δ=some (.lst ds))(hb:b δ=some (.int k))(h : -9223372036854775808<=k/\k<9223372036854775808/\ds.length*k.toNat<=16777216):qX a b δ=some (.lst (List.replicate k.toNat ds).flatten):=by
 unfold qX;rw[ha,hb];simp only[Option.bind_some];rw[if_pos h]
def Ec {a b:Int}(ha:small a=true)(hb:small b=true):fc [.tup [.int a,.int b]]=some (.int (b*b-a*a)):=by
 refine di rfl ?_;show gO [some (.tup [.int a,.int b])]=_;unfold gO;refine bI ((bF ((bF (x:=.int b) (y:=.int b) rfl rfl).trans (tU hb)) ((bF (x:=.int a) (y:=.int a) rfl rfl).trans (tU ha))).trans rfl)
def wB {q:Nat×Nat}(h1:q.1<=1000)(h2:q.2<=1000):fc [bV q]=some (.int (ar q)):=Ec (sI h1) (sI h2)
def uC (sh bd bn rw':D)(A:Int)(hA:fc [bn]=some (.int A)):∀(row hs:List Int) (x5:Option D),(∀z∈row,0<=z/\z<hs.length)->∃y5,
 forM (gN 5) cJ (row.map D.int) [some sh,none,some bd,some bn,some rw',x5,none,some (.lst (hs.map D.int)),none,none,none,none] =
  some (.nx [some sh,none,some bd,some bn,some rw',y5,none,some (.lst ((bh hs row A).map D.int)),none,none,none,none])
 | [],hs,x5,_=>⟨x5,rfl⟩
 | z::row,hs,x5,h=>by
   obtain⟨z0,z1⟩:=h z List.mem_cons_self;have hz:z.toNat<hs.length:=by omega
   have e:cJ [some sh,none,some bd,some bn,some rw',some (.int z),none,some (.lst (hs.map D.int)),none,none,none,none] =
    some (.nx [some sh,none,some bd,some bn,some rw',some (.int z),none,some (.lst ((hs.set z.toNat (hs.getD z.toNat 0+A)).map D.int)),none,none,none,none]):=by
    unfold cJ Ge;rw[show ao 5 [some sh,none,some bd,some bn,some rw',some (.int z),none,some (.lst (hs.map D.int)),none,none,none,none]=some (.int z) from rfl,aR (x:=bn) rfl,hA];have hi:qM (hs.map D.int).length z=some z.toNat:=by
     unfold qM;rw[List.length_map,if_pos z0,if_pos (by omega)]
    have hg:(hs.map D.int)[z.toNat]? = some (.int (hs.getD z.toNat 0)):=by
     rw[List.getElem?_map,List.getElem?_eq_getElem hz];simp[hz]
    simp only[Option.bind_some];rw[show ownAt 6 1 [some sh,none,some bd,some bn,some rw',some (.int z),none,some (.lst (hs.map D.int)),none,none,none,none]=some (.lst (hs.map D.int)) from rfl];simp only;rw[hi];simp only[Option.bind_some];rw[hg];simp only[Option.bind_some];rw[List.map_set];rfl
   obtain⟨y5,ih⟩:=uC sh bd bn rw' A hA row (hs.set z.toNat (hs.getD z.toNat 0+A)) (some (.int z)) fun y hy=>by rw[List.length_set];exact h y (List.mem_cons_of_mem _ hy)
   refine⟨y5,?_⟩;rw[List.map_cons,forM];show (cJ [some sh,none,some bd,some bn,some rw',some (.int z),none,some (.lst (hs.map D.int)),none,none,none,none]).bind _=_;rw[e];simp only[Option.bind_some];rw[ih];rfl
def HW {g:MG}{body:MS}{x:D}{xs:List D}{δ δ1 δ2:Ev}(hg:g x δ=some δ1)(hb:body δ1=some (.nx δ2)):forM g body (x::xs) δ=forM g body xs δ2:=by
 rw[forM,hg];simp only[Option.bind_some];rw[hb];rfl
def jL (s:List Pc)(hs:List Int)(qs:List (Nat×Nat)):List Int:=qs.foldl (fun hs q=>bh hs (cB s q.1) (ar q)) hs
def jK (s:List Pc)(hs:List Int)(q:Nat×Nat)(qs:List (Nat×Nat)):jL s hs (q::qs)=jL s (bh hs (cB s q.1) (ar q)) qs:=by
 unfold jL;rw[List.foldl_cons]
def uh {s:List Pc}{e:Nat}:∀z∈cB s e,0<=z/\z<s.length+1:=fun z hz=>by
 unfold cB rowOf at hz;obtain⟨t,_,rfl⟩:=List.mem_map.mp hz;have:dep s e t<=s.length:=List.countP_le_length;omega
def rE (s:List Pc)(sh bd:D):∀(qs:List (Nat×Nat)) (hs:List Int) (x3 x4 x5:Option D),hs.length=s.length+1->(∀q∈qs,q.1<=1000/\q.2<=1000)->∃y3 y4 y5,
 forM (gT (bK (gN 3) (bK (gN 4) jl))) fL (qs.map fun q=>.tup [bV q,eZ (cB s q.1)]) [some sh,none,some bd,x3,x4,x5,none,some (.lst (hs.map D.int)),none,none,none,none] =
  some (.nx [some sh,none,some bd,y3,y4,y5,none,some (.lst ((jL s hs qs).map D.int)),none,none,none,none])
 | [],hs,x3,x4,x5,_,_=>⟨x3,x4,x5,rfl⟩
 | q::qs,hs,x3,x4,x5,hl,hq=>by
   obtain⟨q1,q2⟩:=hq q List.mem_cons_self;obtain⟨z5,e⟩:=uC sh bd (bV q) (eZ (cB s q.1)) (ar q) (wB q1 q2) (cB s q.1) hs x5 fun z hz=>by have:=uh z hz;omega
   obtain⟨y3,y4,y5,ih⟩:=rE s sh bd qs (bh hs (cB s q.1) (ar q)) (some (bV q)) (some (eZ (cB s q.1))) z5 (by rw[cD,hl]) fun p hp=>hq p (List.mem_cons_of_mem _ hp);refine⟨y3,y4,y5,?_⟩;have eb:fL [some sh,none,some bd,some (bV q),some (eZ (cB s q.1)),x5,none,some (.lst (hs.map D.int)),none,none,none,none]=_:=(pH (xs:=(cB s q.1).map D.int) rfl).trans e;rw[List.map_cons,HW (δ1:=[some sh,none,some bd,some (bV q),some (eZ (cB s q.1)),x5,none,some (.lst (hs.map D.int)),none,none,none,none]) rfl eb,jK];exact ih
def vJ {α:Type}:∀l:List α,l.zip l=l.map fun q=>(q,q)
 | []=>rfl
 | a::l=>by rw[List.zip_cons_cons,vJ l,List.map_cons]
def qW (s:List Pc):∃es,bN s=0::es:=by
 unfold bN;rw[List.range_succ_eq_map,List.filter_cons_of_pos (by unfold jW;simp)];exact⟨_,rfl⟩
def yH {s:List Pc}(h:∀p∈s,p.ok):oJ (tabOf s) (fun _=>0) (fC (bN s))=(fC (bN s)).map fun q=>cB s q.1:=by
 obtain⟨es,e⟩:=qW s;have hs:=fU s;have hm:=jN h;unfold fC;rw[e] at hs hm ⊢;refine wu h es 0 _ hs (fun p hp=>?_) fun t _=>?_
 ·have:∀x,x∈[p.i,p.o]->x∈jW s:=fun x hx=>List.mem_cons_of_mem _ (List.mem_flatMap.mpr ⟨p,hp,hx⟩);exact⟨.inr ((hm _).mpr (this _ (by simp))),.inr ((hm _).mpr (this _ (by simp)))⟩
 ·unfold DX;have:∀l:List Pc,(l.map fun p=>if p.at t=true then ((if p.i<0 then 1 else 0)-(if p.o<0 then 1 else 0):Int) else 0).sum=0:=fun l=>by
   induction l with
   | nil=>rfl
   | cons p l ih=>rw[List.map_cons,List.sum_cons,ih];simp
  exact(this s).symm
def xJ {s:List Pc}{x:Nat}(hx:x∈bN s):x<=1000:=by
 unfold bN at hx;have:=List.mem_range.mp (List.mem_filter.mp hx).1;omega
def Jy {s:List Pc}:∀q∈fC (bN s),q.1<=1000/\q.2<=1000:=fun q hq=>by
 have:=List.of_mem_zip hq;exact⟨xJ this.1,xJ (List.mem_of_mem_tail this.2)⟩
def gY (s:List Pc):List Int:=jL s (List.replicate (s.length+1) 0) (fC (bN s))
def rO {s:List Pc}(h:∀p∈s,p.ok)(hl:s.length<=1000)(he:(bN s).length<64):bx [gk s]=some (.tup ((gY s).tail.map D.int)):=by
 have hbl:(fC (bN s)).length<=1000:=by unfold fC;simp;omega
 obtain⟨y3,y4,y5,e⟩:=rE s (gk s) (.lst ((fC (bN s)).map bV)) (fC (bN s)) (List.replicate (s.length+1) 0) none none none (by simp) Jy;refine di rfl ?_;show eX [some (gk s),none,none,none,none,none,none,none,none,none,none,none]=_;unfold eX;have e0:wg 6 1 (qX (lw (ak (eC (.int 0)) aD)) (aQ eE (aB o9 (ak (ao 0) aD)) (eC (.int 1)))) [some (gk s),none,none,none,none,none,none,none,none,none,none,none] =
  some (.nx [some (gk s),none,none,none,none,none,none,some (.lst ((List.replicate (s.length+1) (0:Int)).map D.int)),none,none,none,none]):=by
  have er:qX (lw (ak (eC (.int 0)) aD)) (aQ eE (aB o9 (ak (ao 0) aD)) (eC (.int 1))) [some (gk s),none,none,none,none,none,none,none,none,none,none,none]=some (.lst ((List.replicate (s.length+1) (0:Int)).map D.int)):=by
   have e1:aQ eE (aB o9 (ak (ao 0) aD)) (eC (.int 1)) [some (gk s),none,none,none,none,none,none,none,none,none,none,none]=some (.int ((s.length+1:Nat):Int)):=by
    rw[bF (x:=.int (s.length:Nat)) (y:=.int 1) ((aR (x:=gk s) rfl).trans (by unfold gk o9;simp)) rfl];simp[eE]
   refine(N7 (ds:=[.int 0]) rfl e1 ⟨by omega,by omega,?_⟩).trans ?_
   ·rw[Int.toNat_natCast];simp;omega
   rw[Int.toNat_natCast];have:∀n,(List.replicate n [D.int 0]).flatten=(List.replicate n (0:Int)).map D.int:=fun n=>by
    induction n with
    | zero=>rfl
    | succ n ih=>rw[List.replicate_succ,List.flatten_cons,ih,List.replicate_succ,List.map_cons];rfl
   rw[this]
  unfold wg;rw[er];rfl
 rw[bu e0];rw[bu (du (δ':=[some (gk s),none,some (.lst ((fC (bN s)).map bV)),none,none,none,none,some (.lst ((List.replicate (s.length+1) (0:Int)).map D.int)),none,none,none,none]) ((aR ((aR (x:=gk s) rfl).trans (Kg h hl he))).trans (Kl (by omega))) rfl)];have hz:rY (ao 2) (aB fO (ak (ao 0) (ak (ao 2) aD))) [some (gk s),none,some (.lst ((fC (bN s)).map bV)),none,none,none,none,some (.lst ((List.replicate (s.length+1) (0:Int)).map D.int)),none,none,none,none] =
  some ((fC (bN s)).map fun q=>.tup [bV q,eZ (cB s q.1)]):=by
  unfold rY;rw[fB (x:=gk s) (y:=.lst ((fC (bN s)).map bV)) rfl rfl,Oa h (by omega) hbl,yH h,show ao 2 [some (gk s),none,some (.lst ((fC (bN s)).map bV)),none,none,none,none,some (.lst ((List.replicate (s.length+1) (0:Int)).map D.int)),none,none,none,none]=some (.lst ((fC (bN s)).map bV)) from rfl];simp only[Option.bind_some];unfold fM;rw[List.map_map,List.zip_map,vJ,List.map_map,List.map_map];rfl
 rw[bu ((pH hz).trans e)];show bZ _ [some (gk s),some (.lst ((gY s).map D.int)),_,y3,y4,y5,none,none,none,none,none,none]=_;refine bI ((aR (x:=.lst (((gY s).map D.int).drop 1)) ((lE (f:=vU 1) (x:=.lst ((gY s).map D.int)) rfl).trans rfl)).trans ?_);show some (D.tup (((gY s).map D.int).drop 1))=_;rw[<-List.map_drop,List.drop_one]
def cnt (s:List Pc)(r k:Nat):Nat:=(cB s r).count (k:Int)
def rF (s:List Pc):∀(qs:List (Nat×Nat)) (hs:List Int),(jL s hs qs).length=hs.length
 | [],_=>rfl
 | q::qs,hs=>by rw[jK,rF s qs,cD]
def rG (s:List Pc)(k:Nat):∀(qs:List (Nat×Nat)) (hs:List Int),hs.length=s.length+1->(jL s hs qs).getD k 0=hs.getD k 0+(qs.map fun q=>ar q*(cnt s q.1 k:Int)).sum
 | [],hs,_=>by simp[jL]
 | q::qs,hs,hl=>by
   rw[jK,rG s k qs _ (by rw[cD,hl]),lC (ar q) _ _ k fun z hz=>by have:=uh z hz;omega,List.map_cons,List.sum_cons];unfold cnt;omega
def Ip {s:List Pc}{a r:Nat}(h:∀p∈s,(p.i<=r↔p.i<=a)/\(r<p.o↔a<p.o))(t:Nat):dep s r t=dep s a t:=by
 unfold dep;refine List.countP_congr fun p hp=>?_;obtain⟨h1,h2⟩:=h p hp;unfold Pc.has;simp only[Bool.and_eq_true,decide_eq_true_eq,h1,h2]
def Gg {s:List Pc}{a r:Nat}(h:∀p∈s,(p.i<=r↔p.i<=a)/\(r<p.o↔a<p.o)):cB s r=cB s a:=oK fun t _=>by rw[Ip h t]
def Io {s:List Pc}{r:Nat}(h:∀p∈s,p.o<=r)(t:Nat):dep s r t=0:=by
 unfold dep;rw[List.countP_eq_zero];intro p hp;have:=h p hp;unfold Pc.has;have h2:decide (r<p.o)=false:=by simp;omega
 simp[h2]
def Jq {s:List Pc}{r k:Nat}(h:∀p∈s,p.o<=r)(hk:1<=k):cnt s r k=0:=by
 unfold cnt cB rowOf;rw[List.count_eq_zero];intro hm;obtain⟨t,_,e⟩:=List.mem_map.mp hm;rw[Io h t] at e;omega
def FJ (c:Int):∀(n e:Nat),((List.range' e n).map fun (r:Nat)=>(2*(r:Int)+1)*c).sum=(((e+n:Nat):Int)*(e+n:Nat)-(e:Int)*e)*c
 | 0,e=>by simp
 | n+1,e=>by
   rw[List.range'_succ,List.map_cons,List.sum_cons,FJ c n (e+1)];have h1:(((e+1+n:Nat):Int))=(e:Int)+1+n:=by omega
   have h2:(((e+(n+1):Nat):Int))=(e:Int)+1+n:=by omega
   have h3:(((e+1:Nat):Int))=(e:Int)+1:=by omega
   rw[h1,h2,h3];have:((e:Int)+1)*((e:Int)+1)=(e:Int)*e+2*e+1:=by rw[Int.add_mul,Int.mul_add];omega
   rw[this,<-Int.add_mul];congr 1;omega
def QH {s:List Pc}(h:∀p∈s,p.i<p.o){k:Nat}(hk:1<=k)(R:Nat):∀(es:List Nat) (e:Nat),(e::es).Pairwise (·<·)->Left s e es->(∀x∈e::es,x<=R) ->
 (((e::es).zip es).map fun q=>ar q*(cnt s q.1 k:Int)).sum=((List.range' e (R-e)).map fun (r:Nat)=>(2*(r:Int)+1)*(cnt s r k:Int)).sum
 | [],e,_,hL,hR=>by
   have:∀l:List Nat,(∀r∈l,e<=r)->(l.map fun (r:Nat)=>(2*(r:Int)+1)*(cnt s r k:Int)).sum=0:=fun l hl=>by
    induction l with
    | nil=>rfl
    | cons r l ih =>
      rw[List.map_cons,List.sum_cons,ih fun x hx=>hl x (List.mem_cons_of_mem _ hx),Jq (fun p hp=>?_) hk]
      ·simp
      ·have:=hl r List.mem_cons_self;rcases (hL p hp).2 with z | z
       ·omega
       ·rw[List.mem_singleton] at z;omega
   rw[this _ fun r hr=>by rw[List.mem_range'_1] at hr;exact hr.1];rfl
 | e'::es,e,hs,hL,hR=>by
   have hlt:e<e':=(List.pairwise_cons.mp hs).1 e' List.mem_cons_self;have hR':=hR e' (by simp);have split:List.range' e (R-e)=List.range' e (e'-e)++List.range' e' (R-e'):=by
    have:=List.range'_append_1 (s:=e) (m:=e'-e) (n:=R-e');rw[show e+(e'-e)=e' by omega,show (e'-e)+(R-e')=R-e by omega] at this;exact this.symm
   rw[List.zip_cons_cons,List.map_cons,List.sum_cons,QH h hk R es e' (List.pairwise_cons.mp hs).2 (hL.next hs) fun x hx=>hR x (List.mem_cons_of_mem _ hx),split,List.map_append,List.sum_append];congr 1;have hc:(List.range' e (e'-e)).map (fun (r:Nat)=>(2*(r:Int)+1)*(cnt s r k:Int))=(List.range' e (e'-e)).map fun (r:Nat)=>(2*(r:Int)+1)*(cnt s e k:Int):=by
    refine List.map_congr_left fun r hr=>?_;rw[List.mem_range'_1] at hr;have:cnt s r k=cnt s e k:=by
     unfold cnt;rw[Gg fun p hp=>?_];obtain⟨h1,h2⟩:=hL.iff hs p hp;have:=h p hp;omega
    rw[this]
   rw[hc,FJ,show e+(e'-e)=e' by omega];rfl
def da (s:List Pc)(R k:Nat):Int:=((List.range R).map fun (r:Nat)=>(2*(r:Int)+1)*(cnt s r k:Int)).sum
def JB {s:List Pc}(h:∀p∈s,p.ok){R:Nat}(hR:∀p∈s,p.o<=R):(gY s).tail=(List.range s.length).map fun k=>da s R (k+1):=by
 have hlen:(gY s).length=s.length+1:=by unfold gY;rw[rF];simp
 refine List.ext_getElem (by simp[hlen]) fun k h1 h2=>?_;have hk:k<s.length:=by simpa using h2
 obtain⟨es,e⟩:=qW s;have hs:=fU s;have hm:=jN h;have g:(gY s).getD (k+1) 0=da s R (k+1):=by
  unfold gY da fC;rw[rG s (k+1) _ _ (by simp)];rw[e] at hs hm ⊢;have hL:Left s 0 es:=fun p hp=>by
   have:∀x,x∈[p.i,p.o]->x∈jW s:=fun x hx=>List.mem_cons_of_mem _ (List.mem_flatMap.mpr ⟨p,hp,hx⟩);exact⟨.inr ((hm _).mpr (this _ (by simp))),.inr ((hm _).mpr (this _ (by simp)))⟩
  have hle:∀x∈0::es,x<=R:=fun x hx=>by
   have:=(hm x).mp hx;unfold jW at this;rcases List.mem_cons.mp this with rfl | z
   ·omega
   ·obtain⟨p,hp,hx⟩:=List.mem_flatMap.mp z;have h1:=hR p hp;have h2:=(h p hp).1;simp only[List.mem_cons,List.not_mem_nil,or_false] at hx;omega
  have:=QH (fun p hp=>(h p hp).1) (k:=k+1) (by omega) R es 0 hs hL hle;rw[List.tail_cons,this,Nat.sub_zero,<-List.range_eq_range'];simp[List.getD_eq_getElem?_getD,List.getElem?_replicate];split <;> simp
 rw[List.getElem_tail,List.getElem_map,List.getElem_range,<-g];simp[hlen,hk]
def Km {s:List Pc}(h:∀p∈s,p.ok)(hl:s.length<=1000)(he:(bN s).length<64){R:Nat}(hR:∀p∈s,p.o<=R):bx [gk s]=some (.tup ((List.range s.length).map fun k=>.int (da s R (k+1)))):=by
 rw[rO h hl he,JB h hR,List.map_map];rfl
def qm:∀(l:List Nat) (lo hi:Nat),l.Pairwise (·<·)->(∀x∈l,lo<=x/\x<hi)->l.length<=hi-lo
 | [],_,_,_,_=>Nat.zero_le _
 | a::l,lo,hi,h,hx=>by
   obtain⟨h1,h2⟩:=List.pairwise_cons.mp h;have:=qm l (a+1) hi h2 fun x hm=>⟨h1 x hm,(hx x (List.mem_cons_of_mem _ hm)).2⟩;have:=hx a List.mem_cons_self;rw[List.length_cons];omega
def Dz {s:List Pc}(h:∀p∈s,p.ok){R:Nat}(hR:∀p∈s,p.o<=R):(bN s).length<=R+1:=by
 have h1:∀x∈bN s,x<R+1:=fun x hx=>by
  have:=(jN h x).mp hx;unfold jW at this;rcases List.mem_cons.mp this with rfl | z
  ·omega
  ·obtain⟨p,hp,hx⟩:=List.mem_flatMap.mp z;have h1:=hR p hp;have h2:=(h p hp).1;simp only[List.mem_cons,List.not_mem_nil,or_false] at hx;omega
 have:=qm (bN s) 0 (R+1) (fU s) fun x hx=>⟨Nat.zero_le _,h1 x hx⟩;omega
end DL.Pg
namespace DL.Lw
open PySem DL DL.Pg
noncomputable def bO (c p m:Int):Int:=c*48271 % p % m
def qp {c p m:Int}(hp:0<p)(hm:0<m):aU [.int c,.int p,.int m]=some (.int (bO c p m)):=by
 simp[aU,jt,lB,bZ,aQ,ao,slot,eC,oMod,oI,cY,small,hp,hm,bO]
def cM {c p m:Int}(hm:0<m):0<=bO c p m/\bO c p m<m:=⟨Int.emod_nonneg _ (by omega),Int.emod_lt_of_pos _ hm⟩
def qD (c M:Int):Pc:=⟨(bO c 9973 M).toNat,(bO c 9973 M+1+bO c 9967 (M-bO c 9973 M)).toNat,(bO c 9941 24).toNat,(if c % 4=0 then 24 else 1+bO c 9949 24).toNat⟩
def Q6 (c M:Int)(h1:1<=M)(h9:M<=999):(qD c M).ok/\((qD c M).o:Int)<=M:=by
 have q1:=cM (c:=c) (p:=9973) (m:=M) (by omega);have q2:=cM (c:=c) (p:=9967) (m:=M-bO c 9973 M) (by omega);have q3:=cM (c:=c) (p:=9941) (m:=24) (by decide);have q4:=cM (c:=c) (p:=9949) (m:=24) (by decide);unfold Pc.ok qD;simp only;refine⟨⟨by omega,by omega,by omega,?_,?_⟩,by omega⟩ <;> (split <;> omega)
def Ss (c M:Int)(h1:1<=M):pD (qD c M)=.tup [.int (bO c 9973 M),.int (bO c 9973 M+1+bO c 9967 (M-bO c 9973 M)),.int (bO c 9941 24),.int (if c % 4=0 then 24 else 1+bO c 9949 24)]:=by
 have q1:=cM (c:=c) (p:=9973) (m:=M) (by omega);have q2:=cM (c:=c) (p:=9967) (m:=M-bO c 9973 M) (by omega);have q3:=cM (c:=c) (p:=9941) (m:=24) (by decide);have q4:=cM (c:=c) (p:=9949) (m:=24) (by decide);unfold pD qD;simp only;rw[Int.toNat_of_nonneg q1.1,Int.toNat_of_nonneg q3.1,Int.toNat_of_nonneg (by omega),Int.toNat_of_nonneg (by split <;> omega)]
def Kf (c M:Int)(h1:1<=M):dN [.int c,.int M]=some (pD (qD c M)):=by
 have q1:=cM (c:=c) (p:=9973) (m:=M) (by omega);have e1:aU [.int c,.int 9973,.int M]=some (.int (bO c 9973 M)):=qp (by decide) (by omega);have e2:aU [.int c,.int 9967,.int (M-bO c 9973 M)]=some (.int (bO c 9967 (M-bO c 9973 M))):=qp (by decide) (by omega);have e3:aU [.int c,.int 9941,.int 24]=some (.int (bO c 9941 24)):=qp (by decide) (by decide);have e4:aU [.int c,.int 9949,.int 24]=some (.int (bO c 9949 24)):=qp (by decide) (by decide);rw[Ss c M h1];by_cases h:c % 4=0
 ·simp[dN,jt,fY,bY,d8,Es,bZ,aQ,ao,slot,eC,aB,ak,aD,gN,eE,oY,oI,oMod,oEq,bA,gD,tV,truth,wj,mH,e1,e2,e3,e4,h]
 ·simp[dN,jt,fY,bY,d8,Es,bZ,aQ,ao,slot,eC,aB,ak,aD,gN,eE,oY,oI,oMod,oEq,bA,gD,tV,truth,wj,mH,e1,e2,e3,e4,h]
def pf (c M:Int):D->D
 | .int k=>pD (qD (c+11*k) M)
 | d=>d
def sm (i:Int):Prop := -1000000<i/\i<1000000
def gj {i:Int}(h:sm i):small i=true:=by
 unfold small sm at *;simp only[Bool.and_eq_true,decide_eq_true_eq];omega
noncomputable def Ds (i o b w u l v k:Int):Bool:=decide (i*l<=u/\u<o*l)&&decide ((v-b*k) % (24*k)<w*k)
def cz {i j:Int}(h:small i=true):cY (.int i) (.int j)=some (.int (i*j)):=by simp[cY,h]
def yI {i o b w u l v k:Int}(hi:sm i)(ho:sm o)(hb:sm b)(hw:sm w)(hk:0<k):gr [.tup [.int i,.int o,.int b,.int w],.tup [.int u,.int l],.tup [.int v,.int k]]=some (.bl (Ds i o b w u l v k)):=by
 have em1:cY (.int i) (.int l)=some (.int (i*l)):=cz (gj hi);have em2:cY (.int o) (.int l)=some (.int (o*l)):=cz (gj ho);have em3:cY (.int b) (.int k)=some (.int (b*k)):=cz (gj hb);have em4:cY (.int 24) (.int k)=some (.int (24*k)):=cz (by decide);have em5:cY (.int w) (.int k)=some (.int (w*k)):=cz (gj hw);refine di rfl ?_;show jg [some (.tup [.int i,.int o,.int b,.int w]),some (.tup [.int u,.int l]),some (.tup [.int v,.int k]),none,none,none,none]=_;unfold jg;rw[bu (du (d:=.tup [.int i,.int o,.int b,.int w]) (δ':=[some (.tup [.int i,.int o,.int b,.int w]),some (.tup [.int u,.int l]),some (.tup [.int v,.int k]),some (.int i),some (.int o),some (.int b),some (.int w)]) rfl rfl)];have t0:tOr (tV (aQ oLt (aQ eG (ao 1) (eC (.int 0))) (aQ cY (ao 3) (aQ eG (ao 1) (eC (.int 1)))))) (tV (aQ RQ (aQ eG (ao 1) (eC (.int 0))) (aQ cY (ao 4) (aQ eG (ao 1) (eC (.int 1))))))
  [some (.tup [.int i,.int o,.int b,.int w]),some (.tup [.int u,.int l]),some (.tup [.int v,.int k]),some (.int i),some (.int o),some (.int b),some (.int w)]=some (decide (u<i*l)||decide (o*l<=u)):=by
  refine uH (gf (d:=.bl _) ((bF (x:=.int u) (y:=.int (i*l)) rfl ((bF (x:=.int i) (y:=.int l) rfl rfl).trans em1)).trans rfl) rfl) (gf (d:=.bl _) ((bF (x:=.int u) (y:=.int (o*l)) rfl ((bF (x:=.int o) (y:=.int l) rfl rfl).trans em2)).trans rfl) rfl)
 by_cases h:(i*l<=u/\u<o*l)
 ·have:(decide (u<i*l)||decide (o*l<=u))=false:=by simp;omega
  rw[this] at t0;rw[bu ((K5 t0).trans rfl)];refine bI ?_;have hk2:0<24*k:=by omega
  simp[aQ,ao,slot,eG,qM,eC,em3,em4,em5,oY,oI,oMod,hk2,hk,oLt];unfold Ds;simp[h]
 ·have:(decide (u<i*l)||decide (o*l<=u))=true:=by simp;omega
  rw[this] at t0;rw[Gb ((Rm t0).trans (bI rfl))];unfold Ds;simp[h]
noncomputable def Ot:D->Pc
 | .tup [.int i,.int o,.int b,.int w]=>⟨i.toNat,o.toNat,b.toNat,w.toNat⟩
 | _=>⟨0,0,0,0⟩
def qR:∀(ds:List D) (k:Nat),(dj k ds).length=ds.length
 | [],_=>rfl
 | _::r,k=>by simp[dj,qR r (k+1)]
def xF:∀{s:List Pc} {k:Nat} {x:D},x∈dj k (s.map pD)->∃(i:Nat) (p:Pc),s[i]? = some p/\x=.tup [.int ((k+i:Nat):Int),pD p]
 | [],_,_,h=>by cases h
 | p::s,k,x,h=>by
   rw[List.map_cons,dj] at h;rcases List.mem_cons.mp h with rfl | h
   ·exact⟨0,p,rfl,rfl⟩
   ·obtain⟨i,p',h1,h2⟩:=xF h;refine⟨i+1,p',by simpa using h1,?_⟩;rw[h2,show k+1+i=k+(i+1) by omega]
def lH {a b:ME}{δ:Ev}{x y:D}(ha:a δ=some x)(hb:b δ=some y):mH (ak a (ak b aD)) δ=some (.tup [x,y]):=by
 unfold mH ak aD;rw[ha,hb];rfl
end DL.Lw
namespace DL.K08
open PySem DL DL.Pg DL.Lw
abbrev Bd:=List (Int×Pc)
noncomputable def aV (s:Bd):List D:=s.map fun q=>D.int q.1
def fZ (s:Bd):List D:=s.map fun q=>pD q.2
def cZ (s:Bd):D:=.dic false (aV s) (fZ s)
def cO (C:Nat)(s:Bd)(n:Int):D:=Pj C ["pieces","unused"] [cZ s,.int n]
noncomputable def d9 (s:Bd):List Pc:=s.map (·.2)
structure Good (s:Bd)(n:Int):Prop where
 inc:(s.map (·.1)).Pairwise (·<·)
 low:∀q∈s,0<=q.1/\q.1<n
 pc:∀q∈s,q.2.ok/\q.2.o<=9
 len:s.length<=5
def LR (s:Bd):D.tup (fZ s)=gk (d9 s):=by
 unfold fZ gk d9;rw[List.map_map];rfl
def lu (C:Nat)(s:Bd)(n:Int):vV C "pieces" (cO C s n)=some (cZ s):=by
 simp[vV,cO,Pj,xD]
def iU {C:Nat}{f:Str}{fn:MF}{a:ME}{m:MA}{δ:Ev}{s:Bd}{n:Int}{ds:List D}(ha:a δ=some (cO C s n))(hf:tR f [.str "pieces",.str "unused"]=true)(hm:m δ=some ds):dO C f fn a m δ=fn (cO C s n::ds):=by
 unfold dO;rw[ha];have hi:Bg C f (cO C s n)=true:=by
  show (decide ((C:Int)=(C:Int))&&tR f [.str "pieces",.str "unused"])=true;rw[hf];simp
 simp only[Option.bind_some];rw[if_pos hi,hm];rfl
def Cd {f g:D->D->Option D}{a b c:ME}{δ:Ev}{x y u:D}(ha:a δ=some x)(hb:b δ=some y)(hf:f x y=some (.bl true))(hc:c δ=some u):eV f g a b c δ=g y u:=by
 unfold eV;rw[ha,hb];simp only[Option.bind_some];rw[hf,hc];rfl
def Lx {f g:D->D->Option D}{a b c:ME}{δ:Ev}{x y:D}(ha:a δ=some x)(hb:b δ=some y)(hf:f x y=some (.bl false)):eV f g a b c δ=some (.bl false):=by
 unfold eV;rw[ha,hb];simp only[Option.bind_some];rw[hf];rfl
def mz (s:Bd):(aV s).length=s.length:=by simp[aV]
def Nh (s:Bd):(fZ s).length=s.length:=by simp[fZ]
def iR (s:Bd):(d9 s).length=s.length:=by simp[d9]
def CN {s:Bd}(h5:s.length<=5)(C:Nat)(n:Int):dz C [cO C s n]=some (.tup (aV s)):=by
 refine di rfl (bI ?_);refine(lE (x:=cZ s) ((lE (x:=cO C s n) rfl).trans (lu C s n))).trans ?_;show (if (aV s).length<=16777216 then some (D.tup (aV s)) else none)=_;rw[if_pos (by rw[mz];omega)]
def qw {s:Bd}(h5:s.length<=5)(C:Nat)(n:Int):bQ C [cO C s n]=some (gk (d9 s)):=by
 refine di rfl (bI ?_);refine(lE (x:=cZ s) ((lE (x:=cO C s n) rfl).trans (lu C s n))).trans ?_;show (if (fZ s).length<=16777216 then some (D.tup (fZ s)) else none)=_;rw[if_pos (by rw[Nh];omega),LR]
def F (s:List Pc):List Int:=(List.range s.length).map fun k=>da s 9 (k+1)
def uD (s:List Pc):(F s).length=s.length:=by simp[F]
def uQ {s:List Pc}(h:∀p∈s,p.ok/\p.o<=9)(h6:s.length<=6):bx [gk s]=some (.tup ((F s).map D.int)):=by
 have h9:∀p∈s,p.o<=9:=fun p hp=>(h p hp).2;have hs:∀p∈s,p.ok:=fun p hp=>(h p hp).1;rw[Km hs (by omega) (by have:=Dz hs h9;omega) h9];unfold F;rw[List.map_map];rfl
def sZ {s:List Pc}(h:∀p∈s,p.ok/\p.o<=9)(h6:s.length<=6):cV [gk s]=some (.int (F s).sum):=by
 refine di rfl ?_;show dY [some (gk s)]=_;unfold dY;refine bI ((aR ((aR (x:=gk s) rfl).trans (uQ h h6))).trans ?_);show (intsOf ((F s).map D.int)).bind _=_;rw[ints_map];rfl
def Good.all {s:Bd}{n:Int}(g:Good s n):∀p∈d9 s,p.ok/\p.o<=9:=fun p hp=>by
 obtain⟨q,hq,rfl⟩:=List.mem_map.mp hp;exact g.pc q hq
def Kh {s:Bd}{n:Int}(g:Good s n)(C:Nat):fQ C [cO C s n]=some (.int (F (d9 s)).sum):=by
 refine di rfl (bI ?_);refine(aR ((iU (s:=s) (n:=n) rfl (by decide) rfl).trans (qw g.len C n))).trans (sZ g.all (by rw[iR];have:=g.len;omega))
def Gp {s:Bd}{n:Int}(g:Good s n)(C:Nat)(k:Nat):cA C [cO C s n,.int ((k:Int)+1)]=some (.int ((F (d9 s)).getD k 0)):=by
 have h5:=g.len;have hl:((F (d9 s)).map D.int).length=s.length:=by rw[List.length_map,uD,iR]
 refine di rfl ?_;show cC C [some (cO C s n),some (.int ((k:Int)+1)),none]=_;unfold cC;have a1:aB bx (ak (dO C "sheet" (bQ C) (ao 0) aD) aD) [some (cO C s n),some (.int ((k:Int)+1)),none]=some (.tup ((F (d9 s)).map D.int)) :=
  (aR ((iU (s:=s) (n:=n) rfl (by decide) rfl).trans (qw h5 C n))).trans (uQ g.all (by rw[iR];omega))
 rw[bu (du (δ':=[some (cO C s n),some (.int ((k:Int)+1)),some (.tup ((F (d9 s)).map D.int))]) a1 rfl)];have t1:tNot (tV (eV oLe oLe (eC (.int 1)) (ao 1) (aB o9 (ak (ao 2) aD)))) [some (cO C s n),some (.int ((k:Int)+1)),some (.tup ((F (d9 s)).map D.int))]=some (decide (s.length<=k)):=by
  have e1:eV oLe oLe (eC (.int 1)) (ao 1) (aB o9 (ak (ao 2) aD)) [some (cO C s n),some (.int ((k:Int)+1)),some (.tup ((F (d9 s)).map D.int))]=some (.bl (decide (k<s.length))):=by
   have h1:oLe (.int 1) (.int ((k:Int)+1))=some (.bl true):=by
    show some (D.bl (decide ((1:Int)<=(k:Int)+1)))=_;rw[decide_eq_true (by omega)]
   rw[Cd (x:=.int 1) (y:=.int ((k:Int)+1)) (u:=.int (((F (d9 s)).map D.int).length:Int)) rfl rfl h1 (aR (x:=.tup ((F (d9 s)).map D.int)) rfl),hl];show some (D.bl (decide ((k:Int)+1<=(s.length:Int))))=_;congr 2;rw[Bool.eq_iff_iff];simp;omega
  rw[uI (gf e1 rfl)];congr 1;rw[Bool.eq_iff_iff];simp
 by_cases hk:s.length<=k
 ·rw[show decide (s.length<=k)=true by simpa using hk] at t1;rw[Gb ((Rm t1).trans (bI rfl))];have:(F (d9 s)).getD k 0=0:=by
   rw[List.getD_eq_getElem?_getD,List.getElem?_eq_none (by rw[uD,iR];exact hk)];rfl
  rw[this]
 ·rw[show decide (s.length<=k)=false by simpa using hk] at t1;rw[bu ((K5 t1).trans rfl)];refine bI ?_;have e2:aQ oY (ao 1) (eC (.int 1)) [some (cO C s n),some (.int ((k:Int)+1)),some (.tup ((F (d9 s)).map D.int))]=some (.int (k:Int)):=by
   rw[bF (x:=.int ((k:Int)+1)) (y:=.int 1) rfl rfl];show some (D.int ((k:Int)+1-1))=_;rw[Int.add_sub_cancel]
  rw[bF (x:=.tup ((F (d9 s)).map D.int)) (y:=.int (k:Int)) rfl e2];show (qM ((F (d9 s)).map D.int).length (k:Int)).bind (fun j=>((F (d9 s)).map D.int)[j]?)=_;have hkl:k<(F (d9 s)).length:=by rw[uD,iR];omega
  have e3:qM ((F (d9 s)).map D.int).length (k:Int)=some k:=by
   unfold qM;rw[if_pos (by omega),if_pos (by rw[List.length_map];omega),Int.toNat_natCast]
  rw[e3];show ((F (d9 s)).map D.int)[k]? = _;rw[List.getElem?_map,List.getElem?_eq_getElem hkl,List.getD_eq_getElem?_getD,List.getElem?_eq_getElem hkl];rfl
noncomputable def mY (u l v k:Int):D:=.tup [.tup [.int u,.int l],.tup [.int v,.int k]]
def hp (u l v k:Int)(p:Pc):Bool:=Ds p.i p.o p.b p.w u l v k
def Gn {a l i o:Int}(hi:sm i)(ho:sm o):dM [.tup [.int a,.int l],.int i,.int o]=some (.bl (decide (i*l<=a)&&decide (a<o*l))):=by
 have e1:cY (.int i) (.int l)=some (.int (i*l)):=cz (gj hi);have e2:cY (.int o) (.int l)=some (.int (o*l)):=cz (gj ho);refine di rfl ?_;show dW [some (.tup [.int a,.int l]),some (.int i),some (.int o),none]=_;unfold dW;rw[bu (du (d:=.int l) (δ':=[some (.tup [.int a,.int l]),some (.int i),some (.int o),some (.int l)]) rfl rfl)];refine bI ?_;have f1:aQ cY (ao 1) (ao 3) [some (.tup [.int a,.int l]),some (.int i),some (.int o),some (.int l)]=some (.int (i*l)):=(bF (x:=.int i) (y:=.int l) rfl rfl).trans e1;have f2:aQ cY (ao 2) (ao 3) [some (.tup [.int a,.int l]),some (.int i),some (.int o),some (.int l)]=some (.int (o*l)):=(bF (x:=.int o) (y:=.int l) rfl rfl).trans e2;have f3:aQ eG (ao 0) (eC (.int 0)) [some (.tup [.int a,.int l]),some (.int i),some (.int o),some (.int l)]=some (.int a):=rfl;by_cases h:i*l<=a
 ·rw[Cd f1 f3 (by show some (D.bl (decide (i*l<=a)))=_;rw[decide_eq_true h]) f2,decide_eq_true h];rfl
 ·rw[Lx f1 f3 (by show some (D.bl (decide (i*l<=a)))=_;rw[decide_eq_false h]),decide_eq_false h];rfl
def Ob {b v k:Int}(hb:sm b)(hk:0<k):yU [.int b,.tup [.int v,.int k]]=some (.tup [.int ((v-b*k) % (24*k)),.int k]):=by
 have e1:cY (.int b) (.int k)=some (.int (b*k)):=cz (gj hb);have e2:cY (.int 24) (.int k)=some (.int (24*k)):=cz (by decide);refine di rfl ?_;show vC [some (.int b),some (.tup [.int v,.int k]),none]=_;unfold vC;rw[bu (du (d:=.int k) (δ':=[some (.int b),some (.tup [.int v,.int k]),some (.int k)]) rfl rfl)];refine bI (lH ?_ rfl);have h2:aQ oY (aQ eG (ao 1) (eC (.int 0))) (aQ cY (ao 0) (ao 2)) [some (.int b),some (.tup [.int v,.int k]),some (.int k)]=some (.int (v-b*k)):=(bF (x:=.int v) (y:=.int (b*k)) rfl ((bF (x:=.int b) (y:=.int k) rfl rfl).trans e1)).trans rfl;refine(bF (x:=.int (v-b*k)) (y:=.int (24*k)) h2 ((bF (x:=.int 24) (y:=.int k) rfl rfl).trans e2)).trans ?_;show (if 0<24*k then some (D.int ((v-b*k) % (24*k))) else none)=_;rw[if_pos (by omega)]
def oE {x:Nat}(h:x<=1000):sm (x:Int):=by unfold sm;omega
def QX {p:Pc}(h:p.ok){u l v k:Int}(hk:0<k):wZ [pD p,mY u l v k]=some (.bl (hp u l v k p)):=by
 obtain⟨h1,h2,h3,h4,h5⟩:=h;have si:sm (p.i:Int):=oE (by omega);have so:sm (p.o:Int):=oE (by omega);have sb:sm (p.b:Int):=oE (by omega);have sw:sm (p.w:Int):=oE (by omega);refine di rfl (bI ?_);show Ie _ _ [some (pD p),some (mY u l v k)]=_;have e1:aB lg (ak (aQ eG (ao 0) (eC (.int 0))) (ak (aQ eG (ao 0) (eC (.int 1))) (ak (aQ eG (ao 1) (eC (.int 0))) aD))) [some (pD p),some (mY u l v k)]=some (.bl (decide ((p.i:Int)*l<=u)&&decide (u<(p.o:Int)*l))):=by
  refine(dU (x:=.int p.i) (y:=.int p.o) (z:=.tup [.int u,.int l]) rfl rfl rfl).trans ?_;refine di rfl (bI ?_);exact(dU (x:=.tup [.int u,.int l]) (y:=.int p.i) (z:=.int p.o) rfl rfl rfl).trans (Gn si so)
 have e2:aB jO (ak (aQ eG (ao 0) (eC (.int 2))) (ak (aQ eG (ao 0) (eC (.int 3))) (ak (aQ eG (ao 1) (eC (.int 1))) aD))) [some (pD p),some (mY u l v k)]=some (.bl (decide ((v-(p.b:Int)*k) % (24*k)<(p.w:Int)*k))):=by
  refine(dU (x:=.int p.b) (y:=.int p.w) (z:=.tup [.int v,.int k]) rfl rfl rfl).trans ?_;refine di rfl (bI ?_);refine(dU (x:=.tup [.int ((v-(p.b:Int)*k) % (24*k)),.int k]) (y:=.int 0) (z:=.int p.w) ((fB (x:=.int p.b) (y:=.tup [.int v,.int k]) rfl rfl).trans (Ob sb hk)) rfl rfl).trans ((Gn (by unfold sm;omega) sw).trans ?_);have:0*k<=(v-(p.b:Int)*k) % (24*k):=by rw[Int.zero_mul];exact Int.emod_nonneg _ (by omega)
  rw[decide_eq_true this];rfl
 unfold Ie;rw[e1];simp only[Option.bind_some];cases hc:(decide ((p.i:Int)*l<=u)&&decide (u<(p.o:Int)*l)) with
 | true =>
   show (aB jO _ _)=_;rw[e2];unfold hp Ds;rw[Bool.decide_and,hc];rfl
 | false =>
   unfold hp Ds;rw[Bool.decide_and,hc];rfl
noncomputable def my (P:Pc->Bool):Nat->List Pc->List Nat
 | _,[]=>[]
 | k,p::s=>if P p=true then k::my P (k+1) s else my P (k+1) s
def Qz (P:Pc->Bool):D->Option D
 | .tup [.int j,q]=>if P (Ot q)=true then some (.int j) else none
 | _=>none
def u0 (P:Pc->Bool)(j:Int)(p:Pc):Qz P (.tup [.int j,pD p])=if P p=true then some (.int j) else none:=rfl
def Ay (P:Pc->Bool):∀(s:List Pc) (k:Nat),(dj k (s.map pD)).filterMap (Qz P)=dI (my P k s)
 | [],_=>rfl
 | p::s,k=>by
   rw[List.map_cons,dj,List.filterMap_cons,u0,my,Ay P s (k+1)];cases P p <;> rfl
def CP {s:List Pc}(h:∀p∈s,p.ok)(hl:s.length<=1000){u l v k:Int}(hk:0<k):cN [gk s,mY u l v k]=some (.tup (dI (my (hp u l v k) 0 s))):=by
 have hc:=gM (k:=2) (fv:=[1]) (i:=Bl (ao 0)) (g:=gT (bK (gN 0) (bK (gN 1) jl))) (c:=tV (aB gr (ak (ao 1) (ak (aQ eG (ao 2) (eC (.int 0))) (ak (aQ eG (ao 2) (eC (.int 1))) aD))))) (e:=ao 0) (δ:=[some (gk s),some (mY u l v k)]) (xs:=dj 0 (s.map pD)) (Qz (hp u l v k)) rfl (by rw[qR];simp;omega) fun x hx=>by
  obtain⟨i,p,hq,rfl⟩:=xF hx;obtain⟨h1,h2,h3,h4,h5⟩:=h p (List.mem_of_getElem? hq);refine⟨[some (.int ((0+i:Nat):Int)),some (pD p),some (mY u l v k)],rfl,?_⟩;have ht':tV (aB gr (ak (ao 1) (ak (aQ eG (ao 2) (eC (.int 0))) (ak (aQ eG (ao 2) (eC (.int 1))) aD)))) [some (.int ((0+i:Nat):Int)),some (pD p),some (mY u l v k)]=some (hp u l v k p) :=
   gf ((dU (x:=pD p) (y:=.tup [.int u,.int l]) (z:=.tup [.int v,.int k]) rfl rfl rfl).trans (yI (oE (by omega)) (oE (by omega)) (oE (by omega)) (oE (by omega)) hk)) rfl
  rw[ht',u0];cases hp u l v k p with
  | true=>exact .inl ⟨rfl,_,rfl,rfl⟩
  | false=>exact .inr ⟨rfl,rfl⟩
 refine di rfl (bI ((aR hc).trans ?_));rw[Ay];rfl
noncomputable def rZ (P:Pc->Bool)(s:Bd):List Int:=(s.filter fun q=>P q.2).map (·.1)
def tZ:∀{s:Bd} {x:D},x∈fM (aV s) (fZ s)->∃q∈s,x=.tup [.int q.1,pD q.2]
 | [],x,h=>by cases h
 | q::s,x,h=>by
   have h':x∈D.tup [.int q.1,pD q.2]::fM (aV s) (fZ s):=h;rcases List.mem_cons.mp h' with rfl | h'
   ·exact⟨q,List.mem_cons_self,rfl⟩
   ·obtain⟨q',m,e⟩:=tZ h';exact⟨q',List.mem_cons_of_mem _ m,e⟩
def uc (P:Pc->Bool):∀s:Bd,(fM (aV s) (fZ s)).filterMap (Qz P)=(rZ P s).map D.int
 | []=>rfl
 | q::s=>by
   show (D.tup [.int q.1,pD q.2]::fM (aV s) (fZ s)).filterMap (Qz P)=_;rw[List.filterMap_cons,u0,uc P s];unfold rZ;rw[List.filter_cons];cases P q.2 <;> rfl
def JM (s:Bd):(fM (aV s) (fZ s)).length=s.length:=by simp[fM,aV,fZ]
def wA {s:Bd}{n:Int}(g:Good s n)(C:Nat){u l v k:Int}(hk:0<k):cQ C [cO C s n,mY u l v k]=some (.tup ((rZ (hp u l v k) s).map D.int)):=by
 have hi:pM (kE (vV C "pieces") (ao 0)) [some (cO C s n),some (mY u l v k)]=some (fM (aV s) (fZ s)):=by
  unfold pM;rw[(lE (x:=cO C s n) rfl).trans (lu C s n)];rfl
 have hc:=gM (k:=2) (fv:=[1]) (g:=gT (bK (gN 0) (bK (gN 1) jl))) (c:=tV (aB wZ (ak (ao 1) (ak (ao 2) aD)))) (e:=ao 0) (Qz (hp u l v k)) hi (by rw[JM];have:=g.len;omega) fun x hx=>by
  obtain⟨q,hq,rfl⟩:=tZ hx;refine⟨[some (.int q.1),some (pD q.2),some (mY u l v k)],rfl,?_⟩;have ht':tV (aB wZ (ak (ao 1) (ak (ao 2) aD))) [some (.int q.1),some (pD q.2),some (mY u l v k)]=some (hp u l v k q.2):=gf ((fB (x:=pD q.2) (y:=mY u l v k) rfl rfl).trans (QX (g.pc q hq).1 hk)) rfl;rw[ht',u0];cases hp u l v k q.2 with
  | true=>exact .inl ⟨rfl,_,rfl,rfl⟩
  | false=>exact .inr ⟨rfl,rfl⟩
 refine di rfl (bI ((aR hc).trans ?_));rw[uc];rfl
def Az (P:Pc->Bool):∀(s:Bd) (pre:List D),(my P pre.length (d9 s)).map (fun j=>(pre++aV s).getD j .non)=(rZ P s).map D.int
 | [],_=>rfl
 | q::s,pre=>by
   have ih:=Az P s (pre++[.int q.1]);rw[List.length_append,List.append_assoc] at ih;have ih':(my P (pre.length+1) (d9 s)).map (fun j=>(pre++aV (q::s)).getD j .non)=(rZ P s).map D.int:=ih;have e0:(pre++aV (q::s)).getD pre.length .non=.int q.1:=by
    show (pre++D.int q.1::aV s).getD pre.length .non=_;rw[List.getD_eq_getElem?_getD,List.getElem?_append_right (Nat.le_refl _),Nat.sub_self];rfl
   show (my P pre.length (q.2::d9 s)).map _=_;rw[my];unfold rZ at ih' ⊢;rw[List.filter_cons];cases hP:P q.2 with
   | true =>
     rw[if_pos rfl,if_pos rfl,List.map_cons,e0,ih'];rfl
   | false =>
     rw[if_neg (by simp),if_neg (by simp)];exact ih'
def Ba (P:Pc->Bool):∀(s:List Pc) (k:Nat),∀j∈my P k s,j<k+s.length
 | [],_,j,h=>by cases h
 | p::s,k,j,h=>by
   rw[my] at h;have ih:=Ba P s (k+1);simp only[List.length_cons];split at h
   ·rcases List.mem_cons.mp h with rfl | h
    ·omega
    ·have:=ih j h;omega
   ·have:=ih j h;omega
mutual
def gC:∀d:D,gD d d=true
 | .non=>rfl
 | .bl b=>by simp[gD]
 | .int i=>by simp[gD]
 | .str x=>by simp[gD]
 | .tup ds=>by rw[gD];exact bT ds
 | .lst ds=>by rw[gD];exact bT ds
 | .dic t ks vs=>by rw[gD,bT ks,bT vs];simp
def bT:∀ds:List D,jX ds ds=true
 | []=>by rw[jX]
 | d::ds=>by rw[jX,gC d,bT ds];rfl
end
def lZ {d:D}(h:bA d<=30):wQ d d=some (.bl false):=by
 unfold wQ;rw[if_pos ⟨h,h⟩,gC];rfl
def eq_self {d:D}(h:bA d<=30):oEq d d=some (.bl true):=by
 unfold oEq;rw[if_pos ⟨h,h⟩,gC]
def rn (l:List Int):cg (l.map D.int)=0:=by
 induction l with
 | nil=>rfl
 | cons a l ih=>simp[cg,bA,ih]
def Ir (s:Bd):cg (aV s)=0:=by
 have:aV s=(s.map (·.1)).map D.int:=by unfold aV;rw[List.map_map];rfl
 rw[this];exact rn _
def PP (s:List Pc):bA (gk s)<=2:=by
 have:cg (s.map pD)<=1:=depDs_le.mpr fun d hd=>by
  obtain⟨p,_,rfl⟩:=List.mem_map.mp hd;show cg [D.int p.i,.int p.o,.int p.b,.int p.w]+1<=1;simp[cg,bA]
 show cg (s.map pD)+1<=2;omega
def xn (s:Bd):aV s=(s.map (·.1)).map D.int:=by unfold aV;rw[List.map_map];rfl
def N8 {s:Bd}{n:Int}(g:Good s n):uF (cZ s)=some (.lst (aV s)):=by
 show (intsOf (aV s)).bind _=_;rw[xn,ints_map];simp only[Option.bind_some];rw[if_pos ⟨by rw[List.length_map];have:=g.len;omega,g.inc.imp fun h=>Int.le_of_lt h⟩]
def iY:∀{s:Bd},(s.map (·.1)).Pairwise (·<·)->∀q∈s,bJ (aV s) (fZ s) q.1=some (pD q.2)
 | [],_,q,h=>by cases h
 | a::s,hp,q,h=>by
   rw[List.map_cons,List.pairwise_cons] at hp;show (if a.1=q.1 then some (pD a.2) else bJ (aV s) (fZ s) q.1)=_;rcases List.mem_cons.mp h with rfl | h
   ·rw[if_pos rfl]
   ·have:=hp.1 q.1 (List.mem_map_of_mem h);rw[if_neg (by omega)];exact iY hp.2 q h
def RT (s:Bd):D->Option D
 | .int i=>bJ (aV s) (fZ s) i
 | _=>none
def Hk (s:Bd):∀r:Bd,(∀q∈r,bJ (aV s) (fZ s) q.1=some (pD q.2))->(aV r).filterMap (RT s)=fZ r
 | [],_=>rfl
 | q::r,h=>by
   show (D.int q.1::aV r).filterMap (RT s)=pD q.2::fZ r;rw[List.filterMap_cons,show RT s (.int q.1)=bJ (aV s) (fZ s) q.1 from rfl,h q List.mem_cons_self,Hk s r fun x hx=>h x (List.mem_cons_of_mem _ hx)]
noncomputable def Sw (ks:List D):D->Option D
 | .int j=>some (ks.getD j.toNat .non)
 | _=>none
def Hs (ks:List D):∀L:List Nat,(dI L).filterMap (Sw ks)=L.map fun j=>ks.getD j .non
 | []=>rfl
 | j::L=>by
   show (D.int (j:Int)::dI L).filterMap (Sw ks)=_;rw[List.filterMap_cons,Hs ks L,List.map_cons];show (ks.getD ((j:Int)).toNat .non)::_=_;rw[Int.toNat_natCast]
def CJ (l:List Int):(List.range (l.length+2)).map (fun k=>l.getD k 0)=l++[0,0]:=by
 refine List.ext_getElem (by simp) fun i h1 h2=>?_;simp only[List.length_map,List.length_range] at h1;rw[List.getElem_map,List.getElem_range];by_cases h:i<l.length
 ·rw[List.getElem_append_left h,List.getD_eq_getElem?_getD,List.getElem?_eq_getElem h];rfl
 ·rw[List.getElem_append_right (by omega),List.getD_eq_getElem?_getD,List.getElem?_eq_none (by omega)];have:i-l.length=0\/i-l.length=1:=by omega
  rcases this with e | e <;> simp[e]
noncomputable def Sy (l:List Int):D->Option D
 | .int j=>some (.int (l.getD j.toNat 0))
 | _=>none
def PL (l:List Int)(n:Nat):(dq n).filterMap (Sy l)=((List.range n).map fun k=>l.getD k 0).map D.int:=by
 unfold dq;rw[List.filterMap_map,List.map_map];have:((Sy l)∘fun (i:Nat)=>D.int (i:Int))=fun k=>some (D.int (l.getD k 0)):=by
  funext k
  show some (D.int (l.getD ((k:Int)).toNat 0))=_;rw[Int.toNat_natCast]
 rw[this];simp
def zX {s:Bd}{n:Int}(g:Good s n)(C:Nat){u l v k:Int}(hk:0<k):fP C [cO C s n,cZ s,mY u l v k]=some (.bl true):=by
 have h5:=g.len;have hpl:(d9 s).length<=6:=by rw[iR];omega
 refine di rfl ?_;show fW C [some (cO C s n),some (cZ s),some (mY u l v k),none,none,none]=_;unfold fW;rw[bu (du (δ':=[some (cO C s n),some (cZ s),some (mY u l v k),some (.lst (aV s)),none,none]) ((lE (x:=cZ s) rfl).trans (N8 g)) rfl)];have c1:dR 1 [1] (qQ (ao 3)) (gN 0) tT (Bt (ao 1) (ao 0)) [some (cO C s n),some (cZ s),some (mY u l v k),some (.lst (aV s)),none,none]=some (.lst (fZ s)):=by
  refine(gM (xs:=aV s) (RT s) rfl (by rw[mz];omega) fun x hx=>?_).trans ?_
  ·obtain⟨q,hq,rfl⟩:=List.mem_map.mp hx;exact⟨[some (.int q.1),some (cZ s)],rfl,.inl ⟨rfl,pD q.2,iY g.inc q hq,iY g.inc q hq⟩⟩
  ·rw[Hk s s fun q hq=>iY g.inc q hq]
 rw[bu (du (d:=gk (d9 s)) (δ':=[some (cO C s n),some (cZ s),some (mY u l v k),some (.lst (aV s)),some (gk (d9 s)),none]) ((aR c1).trans (by rw[<-LR];rfl)) rfl)];generalize hδ:[some (cO C s n),some (cZ s),some (mY u l v k),some (.lst (aV s)),some (gk (d9 s)),none]=δ;have v0:ao 0 δ=some (cO C s n):=by rw[<-hδ];rfl
 have v2:ao 2 δ=some (mY u l v k):=by rw[<-hδ];rfl
 have v3:ao 3 δ=some (.lst (aV s)):=by rw[<-hδ];rfl
 have v4:ao 4 δ=some (gk (d9 s)):=by rw[<-hδ];rfl
 have t1:tOr (tV (aQ wQ (dO C "numbers" (dz C) (ao 0) aD) (aB jc (ak (ao 3) aD)))) (tOr (tV (aQ wQ (dO C "sheet" (bQ C) (ao 0) aD) (ao 4))) (tV (aQ wQ (dO C "area" (fQ C) (ao 0) aD) (aB cV (ak (ao 4) aD))))) δ=some false:=by
  refine uH (x:=false) (y:=false) (gf (d:=.bl false) ?_ rfl) (uH (x:=false) (y:=false) (gf (d:=.bl false) ?_ rfl) (gf (d:=.bl false) ?_ rfl))
  ·exact(bF (x:=.tup (aV s)) (y:=.tup (aV s)) ((iU v0 (by decide) rfl).trans (CN h5 C n)) ((aR v3).trans rfl)).trans (lZ (by show cg (aV s)+1<=30;rw[Ir];decide))
  ·exact(bF (x:=gk (d9 s)) (y:=gk (d9 s)) ((iU v0 (by decide) rfl).trans (qw h5 C n)) v4).trans (lZ (Nat.le_trans (PP _) (by decide)))
  ·exact(bF ((iU v0 (by decide) rfl).trans (Kh g C)) ((aR v4).trans (sZ g.all hpl))).trans (lZ (by show 0<=30;decide))
 rw[bu ((K5 t1).trans rfl)];have c2:dR 1 [3] (qQ (aB cN (ak (ao 4) (ak (ao 2) aD)))) (gN 0) tT (aQ eG (ao 1) (ao 0)) δ=some (.lst ((rZ (hp u l v k) s).map D.int)):=by
  have hi:qQ (aB cN (ak (ao 4) (ak (ao 2) aD))) δ=some (dI (my (hp u l v k) 0 (d9 s))):=by
   unfold qQ;rw[(fB v4 v2).trans (CP (fun p hp=>(g.all p hp).1) (by omega) hk)];rfl
  have hb:=Ba (hp u l v k) (d9 s) 0;have ll:∀(t:List Pc) (k0:Nat),(my (hp u l v k) k0 t).length<=t.length:=fun t=>by
   induction t with
   | nil=>intro _;exact Nat.le_refl _
   | cons p t ih =>
     intro k0;rw[my];have:=ih (k0+1);split <;> simp only[List.length_cons] <;> omega
  refine(gM (Sw (aV s)) hi (by have:=ll (d9 s) 0;simp only[dI,List.length_map];omega) fun x hx=>?_).trans ?_
  ·obtain⟨j,hj,rfl⟩:=List.mem_map.mp hx;have hjl:j<(aV s).length:=by rw[mz,<-iR];have:=hb j hj;omega
   refine⟨[some (.int (j:Int)),some (.lst (aV s))],by rw[<-hδ];rfl,.inl ⟨rfl,(aV s).getD j .non,?_,?_⟩⟩
   ·refine(bF (x:=.lst (aV s)) (y:=.int (j:Int)) rfl rfl).trans ?_;show (qM (aV s).length (j:Int)).bind (fun j=>(aV s)[j]?)=_;have e3:qM (aV s).length (j:Int)=some j:=by
     unfold qM;rw[if_pos (by omega),if_pos (by omega),Int.toNat_natCast]
    rw[e3];show (aV s)[j]? = _;rw[List.getD_eq_getElem?_getD,List.getElem?_eq_getElem hjl];rfl
   ·show some ((aV s).getD ((j:Int)).toNat .non)=_;rw[Int.toNat_natCast]
  ·rw[Hs];have:=Az (hp u l v k) s [];rw[List.nil_append] at this;exact congrArg (fun z=>some (D.lst z)) this
 have t2:tV (aQ wQ (dO C "layers_at" (cQ C) (ao 0) (ak (ao 2) aD)) (aB jc (ak (dR 1 [3] (qQ (aB cN (ak (ao 4) (ak (ao 2) aD)))) (gN 0) tT (aQ eG (ao 1) (ao 0))) aD))) δ=some false:=by
  refine gf (d:=.bl false) ?_ rfl;have ha:ak (ao 2) aD δ=some [mY u l v k]:=by unfold ak;rw[v2];rfl
  exact(bF (x:=.tup ((rZ (hp u l v k) s).map D.int)) (y:=.tup ((rZ (hp u l v k) s).map D.int)) ((iU v0 (by decide) ha).trans (wA g C hk)) ((aR c2).trans rfl)).trans (lZ (by show cg ((rZ (hp u l v k) s).map D.int)+1<=30;rw[rn];decide))
 rw[bu ((K5 t2).trans rfl)];have a5:aQ eE (aB bx (ak (ao 4) aD)) (mH (ak (eC (.int 0)) (ak (eC (.int 0)) aD))) δ=some (.tup ((F (d9 s)++[0,0]).map D.int)):=by
  refine(bF (x:=.tup ((F (d9 s)).map D.int)) (y:=.tup [.int 0,.int 0]) ((aR v4).trans (uQ g.all hpl)) (lH rfl rfl)).trans ?_;show (if ((F (d9 s)).map D.int).length+2<=16777216 then some (D.tup ((F (d9 s)).map D.int++[.int 0,.int 0])) else none)=_;rw[if_pos (by rw[List.length_map,uD];omega),List.map_append];rfl
 have hlen:((F (d9 s)++[0,0]).map D.int).length=(F (d9 s)).length+2:=by simp
 rw[bu (du (δ':=[some (cO C s n),some (cZ s),some (mY u l v k),some (.lst (aV s)),some (gk (d9 s)),some (.tup ((F (d9 s)++[0,0]).map D.int))]) a5 (by rw[<-hδ];rfl))];refine bI ?_;have c3:dR 1 [0] (iZ (aB o9 (ak (ao 5) aD))) (gN 0) tT (dO C "depth_area" (cA C) (ao 1) (ak (aQ eE (ao 0) (eC (.int 1))) aD)) [some (cO C s n),some (cZ s),some (mY u l v k),some (.lst (aV s)),some (gk (d9 s)),some (.tup ((F (d9 s)++[0,0]).map D.int))]=some (.lst ((F (d9 s)++[0,0]).map D.int)):=by
  have hi:=wz (a:=aB o9 (ak (ao 5) aD)) (δ:=[some (cO C s n),some (cZ s),some (mY u l v k),some (.lst (aV s)),some (gk (d9 s)),some (.tup ((F (d9 s)++[0,0]).map D.int))]) (j:=((F (d9 s)).length+2:Nat)) ((aR (x:=.tup ((F (d9 s)++[0,0]).map D.int)) rfl).trans (by show some (D.int (((F (d9 s)++[0,0]).map D.int).length:Nat))=_;rw[hlen])) (by rw[uD];omega);refine(gM (Sy (F (d9 s))) hi (by rw[Int.toNat_natCast];simp[dq,uD];omega) fun x hx=>?_).trans ?_
  ·obtain⟨j,_,rfl⟩:=sY hx;refine⟨[some (.int (j:Int)),some (cO C s n)],rfl,.inl ⟨rfl,.int ((F (d9 s)).getD j 0),?_,?_⟩⟩
   ·exact(iU (s:=s) (n:=n) (ds:=[.int ((j:Int)+1)]) rfl (by decide) rfl).trans (Gp g C j)
   ·show some (D.int ((F (d9 s)).getD ((j:Int)).toNat 0))=_;rw[Int.toNat_natCast]
  ·rw[Int.toNat_natCast,PL,CJ]
 refine(bF c3 ((aR (x:=.tup ((F (d9 s)++[0,0]).map D.int)) rfl).trans rfl)).trans (eq_self ?_);show cg ((F (d9 s)++[0,0]).map D.int)+1<=30;rw[rn];decide
def HH (a:Int):Int.gcd a 0=a.natAbs:=by simp
def HJ (a:Int){b:Int}(hb:0<b):Int.gcd b (a % b)=Int.gcd a b:=by
 have e:=Int.emod_add_mul_ediv a b;have:=Int.gcd_add_mul_left_right b (a % b) (a / b);rw[e] at this;rw[<-this,Int.gcd_comm]
def Bo {u l:Int}(h:0<l):(0:Int)<(Int.gcd u l:Nat):=by
 have:=Int.gcd_pos_of_ne_zero_right u (b:=l) (by omega);omega
def HN {u l:Int}(h:0<l):((Int.gcd u l:Nat):Int)<=l:=Int.le_of_dvd h (Int.gcd_dvd_right u l)
def Bq {a b:ME}{δ:Ev}{i j:Int}(ha:a δ=some (.int i))(hb:b δ=some (.int j))(h:0<j/\j<1073741824):aQ wR a b δ=some (.int (i / j)):=by
 rw[bF ha hb];show (if 0<j/\j<1073741824 then some (D.int (i / j)) else none)=_;rw[if_pos h]
def Ax:∀(n:Nat) (x0 x1:Option D) (a b:Int),0<=a->0<=b->b.toNat<=n->∃N,vH (tV (aQ OJ (ao 3) (eC (.int 0)))) dZ N [x0,x1,some (.int a),some (.int b)]=some (.nx [x0,x1,some (.int (Int.gcd a b:Nat)),some (.int 0)])
 | n,x0,x1,a,b,ha,hb,hn=>by
   by_cases h:b=0
   ·subst h;refine⟨1,?_⟩;rw[HH,show ((a.natAbs:Nat):Int)=a by omega];rfl
   ·have hp:0<b:=by omega
    have hlt:=Int.emod_lt_of_pos a hp;have hge:=Int.emod_nonneg a h;cases n with
    | zero=>omega
    | succ n =>
      obtain⟨N,e⟩:=Ax n x0 x1 b (a % b) hb hge (by omega);refine⟨N+1,?_⟩;have hc:tV (aQ OJ (ao 3) (eC (.int 0))) [x0,x1,some (.int a),some (.int b)]=some true:=by
       show some (decide (0<b))=_;simp[hp]
      have hs:dZ [x0,x1,some (.int a),some (.int b)]=some (.nx [x0,x1,some (.int b),some (.int (a % b))]):=by
       show ((if 0<b then some (D.int (a % b)) else none).bind _)=_;rw[if_pos hp];rfl
      rw[vH,hc];simp only[Option.bind_some,if_true];rw[hs];simp only[Option.bind_some];rw[e,HJ a hp]
def qu {u l:Int}(h:0<l)(hl:l<1000000):cH [.int u,.int l]=some (.tup [.int (u / (Int.gcd u l:Nat)),.int (l / (Int.gcd u l:Nat))]):=by
 have h1:=Bo (u:=u) h;have h2:=HN (u:=u) h;have hab:(if u<0 then -u else u)=((u.natAbs:Nat):Int):=by split <;> omega
 obtain⟨N,e⟩:=Ax l.toNat (some (.int u)) (some (.int l)) ((u.natAbs:Nat):Int) l (by omega) (by omega) (Nat.le_refl _);have hg:Int.gcd ((u.natAbs:Nat):Int) l=Int.gcd u l:=by unfold Int.gcd;simp
 rw[hg] at e;refine di rfl ?_;show dC [some (.int u),some (.int l),none,none]=_;unfold dC;have ea:aB Px (ak (ao 0) aD) [some (.int u),some (.int l),none,none]=some (.int ((u.natAbs:Nat):Int)):=by
  rw[aR (x:=.int u) rfl,<-hab];rfl
 rw[bu (du (δ':=[some (.int u),some (.int l),some (.int ((u.natAbs:Nat):Int)),none]) ea rfl)];rw[bu (du (d:=.int l) (δ':=[some (.int u),some (.int l),some (.int ((u.natAbs:Nat):Int)),some (.int l)]) rfl rfl)];rw[bu (Cz e)];generalize ((Int.gcd u l:Nat):Int)=g at *;exact bI (lH (Bq (i:=u) (j:=g) rfl rfl ⟨h1,by omega⟩) (Bq (i:=l) (j:=g) rfl rfl ⟨h1,by omega⟩))
def KR {u l:Int}(h:0<l):0<l / (Int.gcd u l:Nat):=by
 have h1:=Bo (u:=u) h;have h2:=HN (u:=u) h;exact Int.ediv_pos_of_pos_of_dvd h (Int.le_of_lt h1) (Int.gcd_dvd_right ..)
def Ke (x:Int):∃u l v k,0<k/\iW [.int x,.int 9]=some (mY u l v k):=by
 have m1:aU [.int x,.int 9929,.int 44]=some (.int (bO x 9929 44)):=qp (by decide) (by decide);have m2:aU [.int x,.int 9923,.int 72]=some (.int (bO x 9923 72)):=qp (by decide) (by decide);refine⟨(1+bO x 9929 44) / (Int.gcd (1+bO x 9929 44) 4:Nat),4 / (Int.gcd (1+bO x 9929 44) 4:Nat),bO x 9923 72 / (Int.gcd (bO x 9923 72) 3:Nat),3 / (Int.gcd (bO x 9923 72) 3:Nat),KR (by decide),?_⟩;refine di rfl ?_;show fX [some (.int x),some (.int 9),none]=_;unfold fX;have e1:aB cH (ak (aQ eE (eC (.int 1)) (aB aU (ak (ao 0) (ak (eC (.int 9929)) (ak (aQ eE (aQ cY (eC (.int 4)) (ao 1)) (eC (.int 8))) aD))))) (ak (eC (.int 4)) aD)) [some (.int x),some (.int 9),none]
  = some (.tup [.int ((1+bO x 9929 44) / (Int.gcd (1+bO x 9929 44) 4:Nat)),.int (4 / (Int.gcd (1+bO x 9929 44) 4:Nat))]) :=
  (fB (x:=.int (1+bO x 9929 44)) (y:=.int 4) ((bF (x:=.int 1) (y:=.int (bO x 9929 44)) rfl ((dU (x:=.int x) (y:=.int 9929) (z:=.int 44) rfl rfl rfl).trans m1)).trans rfl) rfl).trans (qu (by decide) (by decide))
 rw[bu (du (δ':=[some (.int x),some (.int 9),some (.tup [.int ((1+bO x 9929 44) / (Int.gcd (1+bO x 9929 44) 4:Nat)),.int (4 / (Int.gcd (1+bO x 9929 44) 4:Nat))])]) e1 rfl)];refine bI (lH rfl ?_);exact(fB (x:=.int (bO x 9923 72)) (y:=.int 3) ((dU (x:=.int x) (y:=.int 9923) (z:=.int 72) rfl rfl rfl).trans m2) rfl).trans (qu (by decide) (by decide))
def Kc (i:Int):iV [.int i]=some (.bl true):=rfl
end DL.K08
namespace DL
open PySem PySem.Spec PyProof.Rows L2
section
variable {X:Cx}{pins:List (Addr×Obj)}{σ:L2.St}{H:Hp}{s:Shared}
def Inv.thaw {a:Addr}{o:Obj}{kvs:List (Key×V)}(I:L2.Inv X pins σ H s)(e:H a=some (.frz o (.dK kvs)))(h0:X.H₀ a=none):L2.Inv X pins σ (upd H a (.dK kvs)) s:=by
 have ne:∀{b:Addr} {v:HO},H b=some v->(∀o u,v≠.frz o u)->b≠a:=fun {b v} q n z=>by
  subst z;rw[e] at q;cases q;exact n _ _ rfl
 have nn:∀{b:Addr},H b=none->b≠a:=fun {b} q z=>by rw[z,e] at q;cases q
 have hok:HOk X.prog X.w (upd H a (.dK kvs)) s.heap:=fun b v q=>by
  by_cases hb:b=a
  ·subst hb;rw[az] at q;cases q;exact(show ObjOk X.prog X.w H s.heap b (.dK kvs) from (I.hok b _ e).2).stay (fun _ _ _ q=>q) (fun c q=>by rw[au (ne q (fun _ _ z=>nomatch z))];exact q) fun c xs q=>by rw[au (ne q (fun _ _ z=>nomatch z))];exact q
  ·rw[au hb] at q;exact(I.hok b v q).stay (fun _ _ _ q=>q) (fun c q=>by rw[au (ne q (fun _ _ z=>nomatch z))];exact q) fun c xs q=>by rw[au (ne q (fun _ _ z=>nomatch z))];exact q
 refine⟨I.ok,I.os,I.bare,⟨I.base.keep,I.base.slot,fun b ob q n hx=>?_,I.base.there,fun b xs q=>?_,fun b ob u q=>?_,fun b ps q=>?_⟩,I.loc,I.cell,?_,fun x c q=>?_,fun p hp=>?_,hok,I.len⟩
 ·have:=I.base.free b ob q n hx;rw[au (nn this)];exact this
 ·have:=I.base.tups b xs q;rw[au (ne this (fun _ _ z=>nomatch z))];exact this
 ·rw[au (fun z=>by rw[z,h0] at q;cases q)];exact I.base.frzs b ob u q
 ·obtain⟨more,this⟩:=I.base.tbls b ps q;exact⟨more,by rw[au (ne this (fun _ _ z=>nomatch z))];exact this⟩
 ·rw[au (nn I.free)];exact I.free
 ·rw[au (nn (I.freeC x c q))];exact I.freeC x c q
 ·obtain⟨a1,a2,a3⟩:=I.pin p hp;exact⟨a1,by rw[au (nn a2)];exact a2,a3⟩
def vY (H₀:Hp)(t:TS):TS:=fun D σ H=>∃a o kvs,H a=some (.frz o (.dK kvs))/\H₀ a=none/\t D σ (upd H a (.dK kvs))
def lW {sts:List Stmt}{t:TS}(h:PSs X sts t):PSs X sts (vY X.H₀ t):=fun pins s σ H D I ⟨a,o,kvs,e,h0,hh⟩=>h pins s σ _ D (Inv.thaw I e h0) hh
def lL (t:TS):TS:=fun D σ H=>∃a kvs,H a=some (.dK kvs)/\∀o,t D σ (upd H a (.frz o (.dK kvs)))
def il {sts:List Stmt}{t:TS}(h:PSs X sts t):PSs X sts (lL t):=fun pins s σ H D I ⟨a,kvs,e,hh⟩=>by
 obtain⟨o,I'⟩:=Inv.still I (.inl ⟨kvs,rfl⟩) e;exact h pins s σ _ D I' (hh o)
def yw (t:TA):TA:=fun σ H Q=>t σ H fun vs H1=>∃a kvs,H1 a=some (.dK kvs)/\∀o,Q vs (upd H1 a (.frz o (.dK kvs)))
def Ak {es:List Expr}{t:TA}(h:PA X es t):PA X es (yw t):=fun pos pins s σ H Q I hq=>bw (h pos pins s σ H _ I hq) fun us s1 ⟨vs,H1,I1,r,a,kvs,e,hh⟩=>by
 obtain⟨o,I'⟩:=Inv.still I1 (.inl ⟨kvs,rfl⟩) e;exact⟨vs,_,I',r,hh o⟩
def vZ (X:Cx)(i:Nat)(me:ME):TS:=fun D σ H=>∃os δ d,Sl X os H δ σ/\me δ=some d/\∀v H',Same H H'->Den X.K (hide os H') d v->D.nx (σ.set i (some v)) H'
def Fp (X:Cx)(i:Nat)(me:ME):TS:=fun D σ H=>∃os δ d,Sl X os H δ σ/\me δ=some d/\∀q H',Same H H'->H q=none->Own X.K (hide (q::os) H') H' q d->D.nx (σ.set i (some (.ref q))) H'
noncomputable def Fv (X:Cx)(mc:MT)(ta tb:TS):TS:=fun D σ H=>∃os δ r,Sl X os H δ σ/\mc δ=some r/\∀H',Same H H'->if r=true then ta D σ H' else tb D σ H'
def Mh (X:Cx)(mi:MI)(g:TG)(ta:TS):TS:=fun D σ H=>∃os δ xs,Sl X os H δ σ/\mi δ=some xs/\∀J H',Same H H'->Walk X.K J (hide os H') xs->∃W:Nat->Nat->L2.St->Hp->Prop,(∃m,W 0 m σ H')/\∀i m σ H,W i m σ H ->
 (J.stop i H/\D.nx σ H)\/(J.go i H/\∃N:L2.St->Hp->Prop,(∀σ' H',N σ' H'->∃m',m'<m/\W (i+1) m' σ' H')/\∀x H',J.yld i H x H'->g x σ H' fun σ2 H2=>ta { D with nx:=N,ct:=N,bk:=D.nx } σ2 H2)
variable {e tg iter c:Expr}{me:ME}{mc:MT}{mi:MI}{a b:List Stmt}{ta tb:TS}{pos:Pos}
def pI {i:Nat}{x:Str}{p2:Pos}(he:DE X e me)(hg:PG X (.Name x p2) (cR i))(hs:swapsWithSole [.Name x p2] e pos.line X.env=pure false:=by rfl)(hw:swappedStores [.Name x p2] e X.env=pure none:=by rfl)
 (h1:(assignEach [.Name x p2] X.env).map (·.2)=[assign (.Name x p2) X.env]:=by rfl) :
 PS X (.Assign [.Name x p2] e pos) (vZ X i me):=by
 obtain⟨t,p,q⟩:=he;rintro pins s σ H D I ⟨os,δ,d,sl,m,k⟩;exact gU p hg hs hw h1 pins s σ H D I (q os σ H δ d _ sl m fun v H' g r=>k v H' g r)
def Kq {i:Nat}{x:Str}{p2:Pos}(he:DF X e me)(hg:PG X (.Name x p2) (cR i))(hs:swapsWithSole [.Name x p2] e pos.line X.env=pure false:=by rfl)(hw:swappedStores [.Name x p2] e X.env=pure none:=by rfl)
 (h1:(assignEach [.Name x p2] X.env).map (·.2)=[assign (.Name x p2) X.env]:=by rfl) :
 PS X (.Assign [.Name x p2] e pos) (Fp X i me):=by
 obtain⟨t,p,q⟩:=he;rintro pins s σ H D I ⟨os,δ,d,sl,m,k⟩;exact gU p hg hs hw h1 pins s σ H D I (q os σ H δ d _ sl m fun v H' g hn r=>k v H' g hn r)
def yJ (hc:DT X c mc)(ha:PSs X a ta)(hb:PSs X b tb):PS X (.If c a b pos) (Fv X mc ta tb):=by
 obtain⟨t,p,q⟩:=hc;rintro pins s σ H D I ⟨os,δ,r,sl,m,k⟩;exact wD p ha hb pins s σ H D I (q os σ H δ r _ sl m fun H' g=>k H' g)
def Kr {g:TG}(hp:PassesOwn (model X.prog X.w) X.A X.env X.xe)(hc:X.calm=true)(hi:DI X tg iter mi)(hg:PG X tg g)(hb:PSs X a ta)(hs:∀x,foldedSetIterable iter X.env x=pure x:=by intro _;rfl) :
 PS X (.For tg iter a [] pos) (Mh X mi g ta):=by
 obtain⟨wi,pi,qi⟩:=hi;rintro pins s σ H D I ⟨os,δ,xs,sl,m,k⟩;exact uR hp hc pi hg hb hs pins s σ H D I (qi os σ H δ xs _ sl m fun J H' g w=>k J H' g w)
def Slots (K:PySem.W.Frag)(H:Hp):Ev->L2.St->Prop
 | [],[]=>True
 | none::δ,_::σ=>Slots K H δ σ
 | some d::δ,x::σ=>(∃v,x=some v/\Den K H d v)/\Slots K H δ σ
 | _,_=>False
def Slots.nil {K:PySem.W.Frag}:Slots K H [] []:=True.intro
def Slots.no {K:PySem.W.Frag}{δ:Ev}{σ:L2.St}{x:Option V}(h:Slots K H δ σ):Slots K H (none::δ) (x::σ):=h
def Slots.so {K:PySem.W.Frag}{δ:Ev}{σ:L2.St}{d:D}{v:V}(hd:Den K H d v)(h:Slots K H δ σ):Slots K H (some d::δ) (some v::σ):=⟨⟨v,rfl,hd⟩,h⟩
def Slots.len {K:PySem.W.Frag}:∀{δ:Ev} {σ:L2.St},Slots K H δ σ->σ.length=δ.length
 | [],[],_=>rfl
 | none::δ,_::σ,h=>by simp[Slots.len (show Slots K H δ σ from h)]
 | some d::δ,_::σ,h=>by simp[Slots.len (show Slots K H δ σ from h.2)]
 | [],_::_,h=>h.elim
 | none::_,[],h=>h.elim
 | some _::_,[],h=>h.elim
def Slots.at {K:PySem.W.Frag}:∀{δ:Ev} {σ:L2.St} {j:Nat} {d:D},Slots K H δ σ->δ[j]? = some (some d)->∃v,σ[j]? = some (some v)/\Den K H d v
 | [],[],j,d,_,e=>by simp at e
 | none::δ,_::σ,0,d,h,e=>by simp at e
 | none::δ,_::σ,j+1,d,h,e=>by
   obtain⟨v,h1,h2⟩:=Slots.at (j:=j) (show Slots K H δ σ from h) (by simpa using e);exact⟨v,by simpa using h1,h2⟩
 | some d'::δ,_::σ,0,d,h,e=>by
   obtain⟨v,rfl,h2⟩:=h.1;simp at e;subst e;exact⟨v,rfl,h2⟩
 | some d'::δ,_::σ,j+1,d,h,e=>by
   obtain⟨v,h1,h2⟩:=Slots.at (j:=j) h.2 (by simpa using e);exact⟨v,by simpa using h1,h2⟩
def FT {δ:Ev}{os:List Addr}(hN:X.N.length=δ.length)(h:Slots X.K (hide os H) δ σ)(hl:Live os H)(k0:Same X.H₀ H):Sl X os H δ σ:=by
 refine⟨h.len.trans hN.symm,Nat.le_of_eq hN,fun j d hj q=>h.at q,fun j d hj q1 q2=>?_,fun j l d e a hj hl q1 q2 q3=>?_,hl,k0⟩
 ·rw[hN] at q2;exact absurd q2 (by rw[List.getElem?_eq_none (Nat.le_add_right _ _)];simp)
 ·rw[hN] at q3;exact absurd q3 (by rw[List.getElem?_eq_none (Nat.le_add_right _ _)];simp)
def oF {δ:Ev}(hN:X.N.length=δ.length)(h:Slots X.K H δ σ)(k0:Same X.H₀ H):Sl X [] H δ σ:=FT hN (by rw[hide_nil];exact h) (fun _ z=>absurd z (by simp)) k0
end
end DL
namespace DL.K08
open PySem PySem.Spec PyProof.Rows L2 DL DL.Pg DL.Lw
abbrev wV:List Str:=["_law_script","_law_board","_law_rows","_law_count","_law_k","_law_cell_here","_law_piece_here","_law_told","_law_number","_law_due"]
def mA:MT:=DL.tAnd (tV (aQ OJ (aQ oMod (ao 5) (eC (.int 3))) (eC (.int 0)))) (tV (aQ oLt (kE zO (ao 2)) (eC (.int 5))))
def Hi:ME:=aB dN (ak (aQ wR (ao 5) (eC (.int 3))) (ak (eC (.int 9)) aD))
def Tg:MT:=DL.tOr (DL.tNot (tV (aB iV (ak (ao 7) aD)))) (tV (aQ wQ (ao 7) (ao 3)))
def O2:ME:=aQ eE (ao 3) (eC (.int 1))
def Ar:ME:=aQ oY (aB aU (ak (ao 5) (ak (eC (.int 9887)) (ak (aQ eE (ao 3) (eC (.int 2))) aD)))) (aB HX (ak (aQ oEq (aQ oMod (ao 5) (eC (.int 5))) (eC (.int 0))) aD))
def Rk:ME:=aQ eG (lw (ak (eC .non) (ak (eC (.str "no piece")) aD))) (aB HX (ak (Ia (ao 8) (ao 2)) aD))
def Av:ME:=dR 1 [2,8] (Hw (ao 2)) (gN 0) (tV (aQ wQ (ao 0) (ao 2))) (mH (ak (ao 0) (ak (Bt (ao 1) (ao 0)) aD)))
def mC (C:Nat):MT:=DL.tNot (tV (aB (fP C) (ak (ao 1) (ak (ao 2) (ak (aB iW (ak (aQ eE (ao 5) (ao 4)) (ak (eC (.int 9)) aD))) aD)))))
def uJ:TS:=JS (L2.tC (.bl false))
def Ma (X:Cx)(C:Addr):TS:=ig (vZ X 6 Hi) (vY X.H₀ (ig (oW (Fq C "put_in" (Mm C) [] E0 (cG 1) (b8 (cG 6) ju)) (cR 7)) (lL (ig (Fv X Tg uJ pW) (vY X.H₀ (ig (Mq (cG 2) (cG 3) (cG 6)) (lL (vZ X 3 O2))))))))
def Mi (X:Cx)(C:Addr):TS:=ig (vZ X 8 Ar) (ig (vZ X 9 Rk) (vY X.H₀ (ig (QR (Fl (JH Te (oA (uL C) [] E0 (b8 (cG 1) (b8 (cG 8) ju))) (cG 9))) uJ pW) (lL (ig (Fp X 2 (kE pR Av)) (lL pW))))))
def Mj (X:Cx)(C:Addr):TS:=ig (Fv X mA (Ma X C) (Mi X C)) (Fv X (mC C) uJ pW)
def Nr:TE:=JR (b8 (JR (b8 (L2.tC (.int 1)) (b8 (L2.tC (.int 1)) ju))) (b8 (JR (b8 (L2.tC (.int 0)) (b8 (L2.tC (.int 1)) ju))) ju))
def Mg (X:Cx)(C:Addr):TS:=vY X.H₀ (JS (Ml (JH Tf (oA (uL C) [] E0 (b8 (cG 1) (b8 (cG 3) ju))) (L2.tC (.str "no piece")))
 (oA (rJ X.K (fP C)) [] E0 (yw (yw (b8 (Ft C (yx C) [] E0 ju) (b8 uK (b8 Nr ju))))))))
def Nt (X:Cx)(C:Addr):TS:=ig (oW (Ft C (yx C) [] E0 ju) (cR 1)) (ig (oW uK (cR 2)) (ig (oW (L2.tC (.int 0)) (cR 3)) (lL (lL
 (ig (Mh X (Bl (kE (QF 16) (ao 0))) (Rq X.K 2 (HQ (cR 4) (HQ (cR 5) Rr))) (Mj X C)) (Mg X C))))))
section
variable {P:Program}{w:World}{K:PySem.W.Frag}{mg:Str->Option Value}{base:Heap}
set_option maxHeartbeats 0 in
def Hm (T:Txt K mg)(cdv:Value)(A:Around)(outer:List Env)(s:Shared)(H:Hp)(E:XK)(hr:Room 8 (A.deeper (envOfC "law" (aH oG) s.heap.objs.size T.x_law.f cdv))) :
 PSs (jY ou P w K mg base wV "law" (aH oG) T.x_law.f cdv A outer s H E).nox (dg oG) (Nt (jY ou P w K mg base wV "law" (aH oG) T.x_law.f cdv A outer s H E).nox T.C) :=
 have nd:=nod wV;have hu:=hr.units
 aP (gU (wI T.mkB (gH T) (hr.mono (by decide)) rfl T.g_Board T.x_Board___init__.b .nil iw) (wG 1 nd))
 (aP (gU lY (wG 2 nd))
 (aP (gU dF (wG 3 nd)) (il (il
 (aP (Kr PassesOwn.never rfl (By rfl T.z_enumerate (Qe 16 (dv 0))) (GC rfl (qz (wG 4 nd) (qz (wG 5 nd) Af)))
  (aP (yJ (DW.dt (Py (fK Mv (aW iT (dv 5) aA) aA (cU _) M5) (Le (fK Al (Lk rfl T.z_len (dv 2)) aA (cU _) Jw))))
   (aP (pI (aX (rT T) hr (aq (aW uY (dv 5) aA) (aq aA aG))) (wG 6 nd)) (lW
   (aP (gU (Ag (pv 1) T.cl T.x_Board_put_in.m (oX T) (hr.mono (by decide)) T.x_Board_put_in.b .nil iw (aJ (pv 6) aY)) (wG 7 nd)) (il
   (aP (yJ (DW.dt (Bu (zp (u9 (aX (rQ T) hr (aq (dv 7) aG)))) (zm (fK (tO hu) (dv 7) (dv 3) (cU _) ut)))) (bD (jB Aj)) iQ) (lW
   (aP (Aa (ul hu) (pv 2) (pv 3) (pv 6) rfl) (il (bD (pI (aW eU (dv 3) aA) (wG 3 nd)))))))))))
   (aP (pI (aW nH (aX (cT T) hr (aq (dv 5) (aq aA (aq (aW eU (dv 3) aA) aG)))) (dh Js rfl T.z_int rfl (aq (zz (G8 hu) (aW iT (dv 5) aA) aA (cU _)) aG))) (wG 8 nd))
   (aP (pI (bH bG (Qc (aq Qa (aq Iz aG)) (by decide)) (dh Js rfl T.z_int rfl (aq (Li (ul hu) (dv 8) (dv 2)) aG)) (fun _ _=>rfl)) (wG 9 nd)) (lW
   (aP (wD (zZ Q7 (gG (j9 T) (hr.mono (by decide)) rfl T.x__law_taken.g T.x__law_taken.F.kp T.x__law_taken.b .nil iw (aJ (pv 1) (aJ (pv 8) aY))) (pv 9) (cU _)) (bD (jB Aj)) iQ) (il
   (aP (Kq (Il rfl rfl T.z_dict (BJ (scX:=aH oG) (NX:=wV) (N:=["_law_one","_law_rows","_law_number"]) (k:=1) (fv:=[2,8]) rfl M3 rfl rfl (Ik (dv 2)) (bL (by decide)) (fun _ _ _ _=>⟨(jd 0 (nod ["_law_one","_law_rows","_law_number"])),(fK (tO hu) (dv 0) (dv 2) (cU _) ut),(lz (aq (dv 0) (aq (BX (ul hu) (dv 1) (dv 0) (fun _ _=>rfl)) aG)) (by decide))⟩))) (wG 2 nd)) (il iQ))))))))
  (bD (yJ (zp (u9 (aX (kh T) hr (aq (dv 1) (aq (dv 2) (aq (aX (rR T) hr (aq (aW eU (dv 5) (dv 4)) (aq aA aG))) aG)))))) (bD (jB Aj)) iQ))))
 (lW (bD (jB (G5 (Ah Rc (gG (j9 T) (hr.mono (by decide)) rfl T.x__law_taken.g T.x__law_taken.F.kp T.x__law_taken.b .nil iw (aJ (pv 1) (aJ (pv 3) aY))) uV (cU _))
  (GJ (gG (kh T) (hr.mono (by decide)) rfl T.x__law_right.g T.x__law_right.F.kp T.x__law_right.b .nil iw (Ak (Ak (aJ (wI T.mkB (gH T) (hr.mono (by decide)) rfl T.g_Board T.x_Board___init__.b .nil iw)
   (aJ lY (aJ (uU (aJ (uU (aJ dF (aJ dF aY))) (aJ (uU (aJ dF (aJ dF aY))) aY))) aY))))))))))))))))
end
def DicAt (K:PySem.W.Frag)(H:Hp)(a:Addr)(s:Bd):Prop:=∃(o:Obj) (kvs:List (Key×V)),H a=some (.frz o (.dK kvs))/\kvs.map (·.1)=s.map (fun q=>(Sum.inl q.1:Key))/\Dens K H (fZ s) (kvs.map (·.2))
def DicAt.mono {K:PySem.W.Frag}{H H':Hp}{a:Addr}{s:Bd}(g:Same H H')(h:DicAt K H a s):DicAt K H' a s:=let ⟨o,kvs,h1,h2,h3⟩:=h;⟨o,kvs,g _ _ h1,h2,h3.mono g _ _⟩
def Bc {kvs:List (Key×V)}{s:Bd}(h:kvs.map (·.1)=s.map (fun q=>(Sum.inl q.1:Key))):aV s=kvs.map fun q=>kD q.1:=by
 have:=congrArg (List.map kD) h;rw[List.map_map,List.map_map] at this;exact this.symm
def DicAt.den {K:PySem.W.Frag}{H:Hp}{a:Addr}{s:Bd}(h:DicAt K H a s):Den K H (cZ s) (.ref a):=let ⟨o,kvs,h1,h2,h3⟩:=h;.dic (.inl ⟨rfl,o,kvs,h1,Bc h2,rfl⟩) h3
structure LS (K:PySem.W.Frag)(B:Hp)(C b dx p r:Addr)(s:Bd)(n:Int)(H:Hp):Prop where
 bi:H b=some (.ins C dx [("pieces",.ref p),("unused",.int n)])
 pd:DicAt K H p s
 rd:DicAt K H r s
 ne:p≠r
 gd:Good s n
 kB:Same B H
 b0:B b=none
 p0:B p=none
 r0:B r=none
section
variable {K:PySem.W.Frag}{B H H':Hp}{C b dx p r:Addr}{s:Bd}{n:Int}
def LS.mono (g:Same H H')(h:LS K B C b dx p r s n H):LS K B C b dx p r s n H':=⟨g _ _ h.bi,h.pd.mono g,h.rd.mono g,h.ne,h.gd,h.kB.trans g,h.b0,h.p0,h.r0⟩
def LS.board (h:LS K B C b dx p r s n H):Den K H (cO C s n) (.ref b):=BL h.bi (.cons h.pd.den (.cons (.int n) .nil))
def LS.bp (h:LS K B C b dx p r s n H):b≠p:=fun z=>by
 obtain⟨o,kvs,e,_⟩:=h.pd;have:=h.bi;rw[z,e] at this;cases this
def LS.br (h:LS K B C b dx p r s n H):b≠r:=fun z=>by
 obtain⟨o,kvs,e,_⟩:=h.rd;have:=h.bi;rw[z,e] at this;cases this
def mG:∀s:Bd,flats (fZ s)=true
 | []=>rfl
 | q::s=>by
   show (DL.flat (pD q.2)&&flats (fZ s))=true;rw[mG s];rfl
def LS.notB (h:LS K B C b dx p r s n H){a:Addr}{u:HO}(e:B a=some u):a≠b/\a≠p/\a≠r:=⟨fun z=>(by rw[z,h.b0] at e;cases e),fun z=>(by rw[z,h.p0] at e;cases e),fun z=>(by rw[z,h.r0] at e;cases e)⟩
def LS.tupB (h:LS K B C b dx p r s n H){a:Addr}{ys:List V}(e:H a=some (.tup ys)):a≠b/\a≠p/\a≠r:=by
 obtain⟨o,kvs,e1,_⟩:=h.pd;obtain⟨o',kvs',e2,_⟩:=h.rd;refine⟨fun z=>?_,fun z=>?_,fun z=>?_⟩
 ·rw[z,h.bi] at e;cases e
 ·rw[z,e1] at e;cases e
 ·rw[z,e2] at e;cases e
def LS.chg (L:LS K B C b dx p r s n H){r':Addr}{o o':Obj}{kvs kvs':List (Key×V)}{s':Bd}{n':Int}(hb:H' b=some (.ins C dx [("pieces",.ref p),("unused",.int n')]))(hp:H' p=some (.frz o (.dK kvs)))(hr:H' r'=some (.frz o' (.dK kvs')))
 (ne:p≠r') (r0:B r'=none) (nt:∀ys,H r'≠some (.tup ys)) (oth:∀a u,a≠b->a≠p->a≠r->a≠r'->H a=some u->H' a=some u)
 (kp:kvs.map (·.1)=s'.map (fun q=>(Sum.inl q.1:Key))) (vp:Dens K H (fZ s') (kvs.map (·.2))) (kr:kvs'.map (·.1)=s'.map (fun q=>(Sum.inl q.1:Key))) (vr:Dens K H (fZ s') (kvs'.map (·.2))) (gd:Good s' n'):LS K B C b dx p r' s' n' H':=by
 have tup:∀a ys,H a=some (.tup ys)->H' a=some (.tup ys):=fun a ys e=>by
  obtain⟨n1,n2,n3⟩:=L.tupB e;exact oth a _ n1 n2 n3 (fun z=>nt ys (z ▸ e)) e
 refine⟨hb,⟨o,kvs,hp,kp,Dens.fl tup _ _ (mG s') vp⟩,⟨o',kvs',hr,kr,Dens.fl tup _ _ (mG s') vr⟩,ne,gd,fun a u e=>?_,L.b0,L.p0,r0⟩;obtain⟨n1,n2,n3⟩:=L.notB e;exact oth a u n1 n2 n3 (fun z=>by rw[z,r0] at e;cases e) (L.kB _ _ e)
def pP {kvs:List (Key×V)}{s:Bd}{i:Int}(h:kvs.map (·.1)=s.map (fun q=>(Sum.inl q.1:Key)))(hi:∀q∈s,q.1≠i):cj kvs (.inl i)=none:=by
 induction kvs generalizing s with
 | nil=>rfl
 | cons a kvs ih =>
   cases s with
   | nil=>cases h
   | cons q s =>
     rw[List.map_cons,List.map_cons] at h;injection h with h1 h2;rw[eY (by rw[h1];intro z;cases z;exact hi q List.mem_cons_self rfl)];exact ih h2 fun x hx=>hi x (List.mem_cons_of_mem _ hx)
def Good.put (g:Good s n)(h5:s.length<5)(h0:0<=n){q:Pc}(hq:q.ok/\q.o<=9):Good (s++[(n,q)]) (n+1):=by
 refine⟨?_,fun x hx=>?_,fun x hx=>?_,by simp;omega⟩
 ·rw[List.map_append,List.pairwise_append];refine⟨g.inc,by simp,fun x hx y hy=>?_⟩;obtain⟨z,hz,rfl⟩:=List.mem_map.mp hx;have:=(g.low z hz).2;simp at hy;omega
 ·rcases List.mem_append.mp hx with hx | hx
  ·have:=g.low x hx;omega
  ·rw[List.mem_singleton.mp hx];exact⟨h0,by show n<n+1;omega⟩
 ·rcases List.mem_append.mp hx with hx | hx
  ·exact g.pc x hx
  ·rw[List.mem_singleton.mp hx];exact hq
def Gx {x0 x1 x2 x3 x4 x6 x7 x8 x9:Option D}(c:Int):Hi [x0,x1,x2,x3,x4,some (.int c),x6,x7,x8,x9]=some (pD (qD (c / 3) 9)) :=
 (fB (x:=.int (c / 3)) (y:=.int 9) rfl rfl).trans (Kf _ _ (by decide))
def RG {x0 x1 x2 x4 x5 x6 x8 x9:Option D}(n:Int):Tg [x0,x1,x2,some (.int n),x4,x5,x6,some (.int n),x8,x9]=some false:=by
 refine uH (x:=false) (y:=false) (uI (b:=true) (gf (d:=.bl true) ((aR (x:=.int n) rfl).trans (Kc n)) rfl)) (gf (d:=.bl false) ((bF (x:=.int n) (y:=.int n) rfl rfl).trans (lZ (by show 0<=30;decide))) rfl)
def Ck {X:Cx}(hN:X.N.length=10)(hB:Same X.H₀ B)(L:LS X.K B C b dx p r s n H)(h5:s.length<5)(h0:0<=n){sc x6 x7 x8 x9:Option V}{k c:Int}{D:Ends}
 (q:∀s' H' y6 y7,LS X.K B C b dx p r s' (n+1) H'->D.nx [sc,some (.ref b),some (.ref r),some (.int (n+1)),some (.int k),some (.int c),y6,y7,x8,x9] H') :
 Ma X C D [sc,some (.ref b),some (.ref r),some (.int n),some (.int k),some (.int c),x6,x7,x8,x9] H:=by
 have bp:=L.bp;have br:=L.br;have pr:=L.ne;refine⟨[],[none,none,none,none,none,some (.int c),none,none,none,none],_,oF hN (.no (.no (.no (.no (.no (.so (.int c) (.no (.no (.no (.no .nil)))))))))) (hB.trans L.kB),Gx c,fun v H1 g1 rv=>?_⟩;rw[hide_nil] at rv;have L1:=L.mono g1;obtain⟨o1,kvs,hp1,kp,vp⟩:=L1.pd;obtain⟨o2,kvr,hr1,kr,vr⟩:=L1.rd;have p0:X.H₀ p=none:=hB.free L.p0;have r0:X.H₀ r=none:=hB.free L.r0;have hlen:kvs.length=s.length:=by have:=congrArg List.length kp;simpa using this
 have hlenr:kvr.length=s.length:=by have:=congrArg List.length kr;simpa using this
 have low:∀x∈s,x.1≠n:=fun x hx=>by have:=(L.gd.low x hx).2;omega
 refine⟨p,o1,kvs,hp1,p0,?_⟩;refine⟨.ref b,rfl,b,dx,[("pieces",.ref p),("unused",.int n)],rfl,(au bp).trans L1.bi,rfl,v,rfl,?_⟩;refine⟨b,dx,p,kvs,n,v,rfl,⟨(au bp).trans L1.bi,az⟩,by omega,pP kp low,fun H3 bd oth=>?_⟩;refine⟨p,_,bd.d,fun o3=>?_⟩;have H4b:upd H3 p (.frz o3 (.dK (kvs++[(.inl n,v)]))) b=some (.ins C dx [("pieces",.ref p),("unused",.int (n+1))]):=(au bp).trans bd.i;have H4r:upd H3 p (.frz o3 (.dK (kvs++[(.inl n,v)]))) r=some (.frz o2 (.dK kvr)):=(au pr.symm).trans ((oth r pr.symm br.symm).trans ((au pr.symm).trans hr1));have H4o:∀a,a≠b->a≠p->upd H3 p (.frz o3 (.dK (kvs++[(.inl n,v)]))) a=H1 a:=fun a n1 n2=>(au n2).trans ((oth a n2 n1).trans (au n2));have kB4:Same B (upd H3 p (.frz o3 (.dK (kvs++[(.inl n,v)])))):=fun a u e=>by
  obtain⟨n1,n2,n3⟩:=L.notB e;rw[H4o a n1 n2];exact L1.kB _ _ e
 have H4p:upd H3 p (.frz o3 (.dK (kvs++[(.inl n,v)]))) p=some (.frz o3 (.dK (kvs++[(.inl n,v)]))):=az;generalize upd H3 p (.frz o3 (.dK (kvs++[(.inl n,v)])))=H4 at *;refine⟨[],[none,none,none,some (.int n),none,none,none,some (.int n),none,none],false,oF hN (.no (.no (.no (.so (.int n) (.no (.no (.no (.so (.int n) (.no (.no .nil)))))))))) (hB.trans kB4),RG n,fun H5 g5=>oZ ?_⟩;refine⟨r,o2,kvr,g5 _ _ H4r,r0,?_⟩;refine⟨v,rfl,.ref r,rfl,.int n,rfl,r,_,rfl,DPut.k (k:=.inl n) az (sJ (by omega)),?_⟩;rw[qx v (pP kr low)];refine⟨r,_,az,fun o6=>?_⟩;have H6o:∀a,a≠r->upd (upd (upd H5 r (.dK kvr)) r (.dK (kvr++[(.inl n,v)]))) r (.frz o6 (.dK (kvr++[(.inl n,v)]))) a=H5 a:=fun a n1=>(au n1).trans ((au n1).trans (au n1));have H6r:upd (upd (upd H5 r (.dK kvr)) r (.dK (kvr++[(.inl n,v)]))) r (.frz o6 (.dK (kvr++[(.inl n,v)]))) r=some (.frz o6 (.dK (kvr++[(.inl n,v)]))):=az;generalize upd (upd (upd H5 r (.dK kvr)) r (.dK (kvr++[(.inl n,v)]))) r (.frz o6 (.dK (kvr++[(.inl n,v)])))=H6 at *;have vs':∀{l:List (Key×V)},Dens X.K H1 (fZ s) (l.map (·.2))->Dens X.K H1 (fZ (s++[(n,qD (c / 3) 9)])) ((l++[((.inl n:Key),v)]).map (·.2)):=fun {l} h=>by
  unfold fZ at h ⊢;rw[List.map_append,List.map_append];exact h.append (.cons rv .nil)
 have ks':∀{l:List (Key×V)},l.map (·.1)=s.map (fun q=>(Sum.inl q.1:Key))->(l++[((.inl n:Key),v)]).map (·.1)=(s++[(n,qD (c / 3) 9)]).map (fun q=>(Sum.inl q.1:Key)):=fun {l} h=>by
  rw[List.map_append,List.map_append,h];rfl
 have okp:=Q6 (c / 3) 9 (by decide) (by decide);have L6:LS X.K B C b dx p r (s++[(n,qD (c / 3) 9)]) (n+1) H6:=L1.chg (H':=H6) (o:=o3) (o':=o6) ((H6o b br).trans (g5 _ _ H4b)) ((H6o p pr).trans (g5 _ _ H4p)) H6r pr L.r0 (fun ys z=>by rw[hr1] at z;cases z)
  (fun a u n1 n2 n3 _ e=>(H6o a n3).trans (g5 _ _ ((H4o a n1 n2).trans e))) (ks' kp) (vs' vp) (ks' kr) (vs' vr) (L.gd.put h5 h0 ⟨okp.1,by have:=okp.2;omega⟩)
 refine⟨[],[none,none,none,some (.int n),none,none,none,none,none,none],.int (n+1),oF hN (.no (.no (.no (.so (.int n) (.no (.no (.no (.no (.no (.no .nil)))))))))) (hB.trans L6.kB),rfl,fun w H7 g7 rw7=>?_⟩;cases rw7.int_inv;exact q _ H7 _ _ (L6.mono g7)
noncomputable def pA (i:Int)(s:Bd):Bd:=s.filter fun q=>decide (q.1≠i)
def Good.drop (g:Good s n)(i:Int):Good (pA i s) n :=
 ⟨g.inc.sublist (List.filter_sublist.map _),fun q hq=>g.low q (List.mem_filter.mp hq).1,fun q hq=>g.pc q (List.mem_filter.mp hq).1,Nat.le_trans (List.length_filter_le _ _) g.len⟩
def Bv (i:Int):∀{kvs:List (Key×V)} {s:Bd},kvs.map (·.1)=s.map (fun q=>(Sum.inl q.1:Key))->Dens K H (fZ s) (kvs.map (·.2))->(fj kvs (.inl i)).map (·.1)=(pA i s).map (fun q=>(Sum.inl q.1:Key))/\Dens K H (fZ (pA i s)) ((fj kvs (.inl i)).map (·.2))
 | [],[],_,h=>⟨rfl,h⟩
 | [],_::_,e,_=>by cases e
 | _::_,[],e,_=>by cases e
 | (k,v)::kvs,q::s,e,h=>by
   rw[List.map_cons,List.map_cons] at e;injection e with e1 e2;obtain⟨x,r,e3,h1,h2⟩:=Dens.uncons (show Dens K H (pD q.2::fZ s) (v::kvs.map (·.2)) from h);cases e3;obtain⟨i1,i2⟩:=Bv i e2 h2;have e1':k=.inl q.1:=e1;subst e1';by_cases hq:q.1=i
   ·have d1:fj ((Sum.inl q.1,v)::kvs) (.inl i)=fj kvs (.inl i):=by simp[fj,hq]
    have d2:pA i (q::s)=pA i s:=by simp[pA,hq]
    rw[d1,d2];exact⟨i1,i2⟩
   ·have d1:fj ((Sum.inl q.1,v)::kvs) (.inl i)=(.inl q.1,v)::fj kvs (.inl i):=by simp[fj,hq]
    have d2:pA i (q::s)=q::pA i s:=by simp[pA,hq]
    rw[d1,d2];exact⟨by rw[List.map_cons,List.map_cons,i1],.cons h1 i2⟩
def Ih {i:Int}(g:Good s n)(h:bJ (aV s) (fZ s) i=none):pA i s=s:=by
 unfold pA;rw[List.filter_eq_self];intro q hq;simp only[ne_eq,decide_eq_true_eq];intro z;have:=iY g.inc q hq;rw[z,h] at this;cases this
def Ri (c n:Int):Int:=bO c 9887 (n+2)-(if c % 5=0 then 1 else 0)
def Hb (c:Int)(h0:0<=n) : -1<=Ri c n/\Ri c n<=n+1:=by
 have:=cM (c:=c) (p:=9887) (m:=n+2) (by omega);unfold Ri;split <;> omega
def Dg {x0 x1 x2 x4 x6 x7 x8 x9:Option D}(c:Int)(h0:0<=n):Ar [x0,x1,x2,some (.int n),x4,some (.int c),x6,x7,x8,x9]=some (.int (Ri c n)):=by
 have e1:aB aU (ak (ao 5) (ak (eC (.int 9887)) (ak (aQ eE (ao 3) (eC (.int 2))) aD))) [x0,x1,x2,some (.int n),x4,some (.int c),x6,x7,x8,x9]=some (.int (bO c 9887 (n+2))) :=
  (dU (x:=.int c) (y:=.int 9887) (z:=.int (n+2)) rfl rfl rfl).trans (qp (by decide) (by omega))
 have e2:aB HX (ak (aQ oEq (aQ oMod (ao 5) (eC (.int 5))) (eC (.int 0))) aD) [x0,x1,x2,some (.int n),x4,some (.int c),x6,x7,x8,x9]=some (.int (if c % 5=0 then 1 else 0)):=by
  refine(aR (x:=.bl (c % 5==0)) ((bF (x:=.int (c % 5)) (y:=.int 0) rfl rfl).trans ?_)).trans ?_
  ·show (if bA (.int (c % 5))<=30/\bA (.int 0)<=30 then some (D.bl (gD (.int (c % 5)) (.int 0))) else none)=_;rw[if_pos ⟨by show 0<=30;decide,by show 0<=30;decide⟩];simp[gD]
  ·show some (D.int (if (c % 5==0)=true then 1 else 0))=_;simp
 exact(bF e1 e2).trans rfl
def Pz {x0 x1 x3 x4 x5 x6 x7 x9:Option D}(s:Bd)(i:Int):Rk [x0,x1,some (cZ s),x3,x4,x5,x6,x7,some (.int i),x9]=some (if (bJ (aV s) (fZ s) i).isNone=true then .str "no piece" else .non):=by
 have e2:aB HX (ak (Ia (ao 8) (ao 2)) aD) [x0,x1,some (cZ s),x3,x4,x5,x6,x7,some (.int i),x9]=some (.int (if (bJ (aV s) (fZ s) i).isNone=true then 1 else 0)):=(aR (x:=.bl (bJ (aV s) (fZ s) i).isNone) rfl).trans rfl;refine(bF (x:=.lst [.non,.str "no piece"]) rfl e2).trans ?_;cases (bJ (aV s) (fZ s) i).isNone <;> rfl
def RW (s:Bd)(i:Int):D->Option D
 | .int k=>if k=i then none else (bJ (aV s) (fZ s) k).map fun d=>.tup [.int k,d]
 | _=>none
def Jo (s:Bd)(i:Int):∀t:Bd,(∀q∈t,bJ (aV s) (fZ s) q.1=some (pD q.2))->(aV t).filterMap (RW s i)=(pA i t).map fun q=>.tup [.int q.1,pD q.2]
 | [],_=>rfl
 | q::t,h=>by
   have ih:=Jo s i t fun x hx=>h x (List.mem_cons_of_mem _ hx);show (D.int q.1::aV t).filterMap (RW s i)=_;have e:RW s i (.int q.1)=if q.1=i then none else some (.tup [.int q.1,pD q.2]):=by
    show (if q.1=i then none else (bJ (aV s) (fZ s) q.1).map fun d=>D.tup [.int q.1,d])=_;rw[h q List.mem_cons_self];rfl
   rw[List.filterMap_cons,e,ih];by_cases hq:q.1=i
   ·rw[if_pos hq,show pA i (q::t)=pA i t by simp[pA,hq]]
   ·rw[if_neg hq,show pA i (q::t)=q::pA i t by simp[pA,hq],List.map_cons]
def wJ:∀t:Bd,pairsOf (t.map fun q=>.tup [.int q.1,pD q.2])=some (t.map (·.1),fZ t)
 | []=>rfl
 | q::t=>by
   show (pairsOf (t.map fun q=>.tup [.int q.1,pD q.2])).bind _=_;rw[wJ t];rfl
def J9 {x0 x1 x3 x4 x5 x6 x7 x9:Option D}(g:Good s n)(i:Int):kE pR Av [x0,x1,some (cZ s),x3,x4,x5,x6,x7,some (.int i),x9]=some (cZ (pA i s)):=by
 have c1:Av [x0,x1,some (cZ s),x3,x4,x5,x6,x7,some (.int i),x9]=some (.lst ((pA i s).map fun q=>.tup [.int q.1,pD q.2])):=by
  refine(gM (xs:=aV s) (RW s i) rfl (by rw[mz];have:=g.len;omega) fun x hx=>?_).trans ?_
  ·obtain⟨q,hq,rfl⟩:=List.mem_map.mp hx;have lk:=iY g.inc q hq;refine⟨[some (.int q.1),some (cZ s),some (.int i)],rfl,?_⟩;have tt:tV (aQ wQ (ao 0) (ao 2)) [some (.int q.1),some (cZ s),some (.int i)]=some (decide (q.1≠i)):=by
    refine gf (d:=.bl (decide (q.1≠i))) ((bF (x:=.int q.1) (y:=.int i) rfl rfl).trans ?_) rfl;show (if bA (.int q.1)<=30/\bA (.int i)<=30 then some (D.bl (!gD (.int q.1) (.int i))) else none)=_;rw[if_pos ⟨by show 0<=30;decide,by show 0<=30;decide⟩];simp[gD];by_cases h:q.1=i <;> simp[h]
   rw[tt];by_cases h:q.1=i
   ·refine .inr ⟨by simp[h],?_⟩;show (if q.1=i then none else _)=_;rw[if_pos h]
   ·refine .inl ⟨by simp[h],.tup [.int q.1,pD q.2],lH rfl lk,?_⟩;show (if q.1=i then none else (bJ (aV s) (fZ s) q.1).map fun d=>D.tup [.int q.1,d])=_;rw[if_neg h,lk];rfl
  ·rw[Jo s i s fun q hq=>iY g.inc q hq]
 refine(lE c1).trans ?_;show (pairsOf _).bind _=_;rw[wJ];simp only[Option.bind_some];have gd:=g.drop i;rw[if_pos ⟨gd.inc.imp fun h=>Int.ne_of_lt h,by rw[List.length_map];have:=gd.len;omega⟩,<-xn];rfl
def LS.chg' (L:LS K B C b dx p r s n H){r':Addr}{s':Bd}{n':Int}(hb:H' b=some (.ins C dx [("pieces",.ref p),("unused",.int n')]))(hp:DicAt K H' p s')(hr:DicAt K H' r' s')(ne:p≠r')(r0:B r'=none)
 (oth:∀a u,a≠b->a≠p->a≠r->a≠r'->H a=some u->H' a=some u) (gd:Good s' n'):LS K B C b dx p r' s' n' H' :=
 ⟨hb,hp,hr,ne,gd,fun a u e=>by
  obtain⟨n1,n2,n3⟩:=L.notB e;exact oth a u n1 n2 n3 (fun z=>by rw[z,r0] at e;cases e) (L.kB _ _ e),L.b0,L.p0,r0⟩
def uf {X:Cx}(hN:X.N.length=10)(hB:Same X.H₀ B)(L:LS X.K B C b dx p r s n H){i:Int}{sc x4 x5 x6 x7 x9:Option V}{D:Ends}{H4:Hp}{kvs:List (Key×V)}
 (hb4:H4 b=some (.ins C dx [("pieces",.ref p),("unused",.int n)])) (hp4:H4 p=some (.dK kvs)) (kp:kvs.map (·.1)=(pA i s).map (fun q=>(Sum.inl q.1:Key))) (vp:Dens X.K H (fZ (pA i s)) (kvs.map (·.2))) (o4:∀a u,a≠p->H a=some u->H4 a=some u)
 (q:∀s' r' H',LS X.K B C b dx p r' s' n H'->D.nx [sc,some (.ref b),some (.ref r'),some (.int n),x4,x5,x6,x7,some (.int i),x9] H') :
 lL (ig (Fp X 2 (kE pR Av)) (lL pW)) D [sc,some (.ref b),some (.ref r),some (.int n),x4,x5,x6,x7,some (.int i),x9] H4:=by
 have bp:=L.bp;have br:=L.br;have pr:=L.ne;refine⟨p,kvs,hp4,fun o5=>?_⟩;have o5':∀a u,a≠p->H a=some u->upd H4 p (.frz o5 (.dK kvs)) a=some u:=fun a u n1 e=>(au n1).trans (o4 a u n1 e);have hb5:upd H4 p (.frz o5 (.dK kvs)) b=some (.ins C dx [("pieces",.ref p),("unused",.int n)]):=(au bp).trans hb4;have hp5:upd H4 p (.frz o5 (.dK kvs)) p=some (.frz o5 (.dK kvs)):=az;generalize upd H4 p (.frz o5 (.dK kvs))=H5 at *;have tup5:∀a ys,H a=some (.tup ys)->H5 a=some (.tup ys):=fun a ys e=>o5' a _ (L.tupB e).2.1 e;have rd5:DicAt X.K H5 r s:=by
  obtain⟨o,l,e1,e2,e3⟩:=L.rd;exact⟨o,l,o5' r _ pr.symm e1,e2,Dens.fl tup5 _ _ (mG s) e3⟩
 have pd5:DicAt X.K H5 p (pA i s):=⟨o5,kvs,hp5,kp,Dens.fl tup5 _ _ (mG _) vp⟩;have kB5:Same B H5:=fun a u e=>o5' a u (L.notB e).2.1 (L.kB _ _ e);refine⟨[],[none,none,some (cZ s),none,none,none,none,none,some (.int i),none],_,oF hN (.no (.no (.so rd5.den (.no (.no (.no (.no (.no (.so (.int i) (.no .nil)))))))))) (hB.trans kB5),J9 L.gd i,fun r' H6 g6 hr' own=>?_⟩;obtain⟨xs,hd,hv⟩:=own;rcases hd with ⟨_,l,hl,ks,rfl⟩ | ⟨z,_⟩
 ·refine⟨r',l,hl,fun o7=>?_⟩;have nb:b≠r':=fun z=>by rw[z,hr'] at hb5;cases hb5
  have np:p≠r':=fun z=>by rw[z,hr'] at hp5;cases hp5
  have kl:l.map (·.1)=(pA i s).map (fun q=>(Sum.inl q.1:Key)):=by
   have key:∀(l:List (Key×V)) (t:Bd),aV t=l.map (fun p=>kD p.1)->l.map (·.1)=t.map (fun q=>(Sum.inl q.1:Key)):=by
    intro l;induction l with
    | nil=>intro t h;cases t with
      | nil=>rfl
      | cons _ _=>cases h
    | cons a l ih =>
      intro t h;cases t with
      | nil=>cases h
      | cons q t =>
        have h':DL.D.int q.1::aV t=kD a.1::l.map (fun p=>kD p.1):=h;injection h' with h1 h2;rw[List.map_cons,List.map_cons,ih t h2];obtain⟨k,v⟩:=a;cases k with
        | inl j=>cases h1;rfl
        | inr x=>cases h1
   exact key l _ ks
  have g7:Same (hide [r'] H6) (upd H6 r' (.frz o7 (.dK l))):=fun a u e=>by
   have ha:a∉[r']:=fun z=>by rw[bj z] at e;cases e
   rw[aF ha] at e;rw[au (fun z=>ha (by simp[z]))];exact e
  have up:Same H5 (upd H6 r' (.frz o7 (.dK l))):=fun a u e=>(au (fun z=>by rw[z,hr'] at e;cases e)).trans (g6 _ _ e);refine q (pA i s) r' _ (L.chg' (up _ _ hb5) (pd5.mono up) ⟨o7,l,az,kl,hv.mono g7 _ _⟩ np (kB5.free hr') (fun a u n1 n2 n3 n4 e=>up _ _ (o5' a u n2 e)) (L.gd.drop i))
 ·cases z
def Mw (x:V):(!decide (x=x))=false:=by simp
def Dy {X:Cx}(hN:X.N.length=10)(hB:Same X.H₀ B)(L:LS X.K B C b dx p r s n H)(h0:0<=n)(h16:n<=16){sc x6 x7 x8 x9:Option V}{k c:Int}{D:Ends}
 (q:∀s' r' H' y8 y9,LS X.K B C b dx p r' s' n H'->D.nx [sc,some (.ref b),some (.ref r'),some (.int n),some (.int k),some (.int c),x6,x7,y8,y9] H') :
 Mi X C D [sc,some (.ref b),some (.ref r),some (.int n),some (.int k),some (.int c),x6,x7,x8,x9] H:=by
 refine⟨[],[none,none,none,some (.int n),none,some (.int c),none,none,none,none],_,oF hN (.no (.no (.no (.so (.int n) (.no (.so (.int c) (.no (.no (.no (.no .nil)))))))))) (hB.trans L.kB),Dg c h0,fun v H1 g1 rv=>?_⟩;cases rv.int_inv;have hi:=Hb (n:=n) c h0;generalize Ri c n=i at *;have L1:=L.mono g1;refine⟨[],[none,none,some (cZ s),none,none,none,none,none,some (.int i),none],_,oF hN (.no (.no (.so L1.rd.den (.no (.no (.no (.no (.no (.so (.int i) (.no .nil)))))))))) (hB.trans L1.kB),Pz s i,fun v9 H2 g2 r9=>?_⟩;have L2:=L1.mono g2;have bp:=L2.bp;obtain⟨o1,kvs,hp2,kp,vp⟩:=L2.pd;refine⟨p,o1,kvs,hp2,hB.free L.p0,?_⟩;have lv:=iB i vp;rw[<-Bc kp] at lv;have hb3:upd H2 p (.dK kvs) b=some (.ins C dx [("pieces",.ref p),("unused",.int n)]):=(au bp).trans L2.bi;have o3:∀a u,a≠p->H2 a=some u->upd H2 p (.dK kvs) a=some u:=fun a u n1 e=>(au n1).trans e;refine⟨.ref b,rfl,.int i,rfl,b,dx,p,kvs,n,i,rfl,⟨hb3,az⟩,⟨by omega,by omega⟩,fun hv H4 g4=>?_,fun v hv=>?_⟩
 ·have hn:bJ (aV s) (fZ s) i=none:=by
   rcases lv with ⟨h1,_⟩ | ⟨d,v,h1,h2,_⟩
   ·exact h1
   ·rw[hv] at h2;cases h2
  rw[hn] at r9;have e9:v9=.str "no piece":=r9.str_inv;subst e9;refine⟨_,rfl,rfl,false,by rw[Mw],oZ ?_⟩;have ds:=Ih L.gd hn;exact uf hN hB L2 (g4 _ _ hb3) (g4 _ _ az) (by rw[ds];exact kp) (by rw[ds];exact vp) (fun a u n1 e=>g4 _ _ (o3 a u n1 e)) fun s' r' H' L'=>q s' r' H' _ _ L'
 ·have hn:bJ (aV s) (fZ s) i≠none:=by
   rcases lv with ⟨_,h2⟩ | ⟨d,v,h1,h2,_⟩
   ·rw[hv] at h2;cases h2
   ·rw[h1];simp
  have hnn:(bJ (aV s) (fZ s) i).isNone=false:=by
   cases h:bJ (aV s) (fZ s) i with
   | none=>exact absurd h hn
   | some d=>rfl
  rw[hnn] at r9;have e9:v9=.non:=r9.non_inv;subst e9;refine⟨_,rfl,rfl,false,by rw[Mw],oZ ?_⟩;obtain⟨k1,v1⟩:=Bv i kp vp;exact uf hN hB L2 ((au bp).trans hb3) az k1 v1 (fun a u n1 e=>(au n1).trans (o3 a u n1 e)) fun s' r' H' L'=>q s' r' H' _ _ L'
end
def oM:MF:=fun ds=>match ds with
 | [.lst xs]=>(intsOf xs).bind fun _=>some (.bl true)
 | _=>none
def QW (ns:List Int):oM [.lst (ns.map .int)]=some (.bl true):=by
 show (intsOf (ns.map D.int)).bind _=_;rw[Pg.ints_map];rfl
def xu:∀{xs:List D} {ns:List Int},intsOf xs=some ns->xs=ns.map D.int
 | [],ns,h=>by cases h;rfl
 | .int i::xs,ns,h=>by
   obtain⟨r,e1,e2⟩:=Option.bind_eq_some_iff.mp (show (intsOf xs).bind (fun r=>some (i::r))=some ns from h);cases e2;rw[xu e1];rfl
 | .non::xs,ns,h=>by cases h
 | .bl _::xs,ns,h=>by cases h
 | .str _::xs,ns,h=>by cases h
 | .tup _::xs,ns,h=>by cases h
 | .lst _::xs,ns,h=>by cases h
 | .dic _ _ _::xs,ns,h=>by cases h
def Br:∀(ns:List Int) (k i:Nat),i<ns.length->(dj k (ns.map D.int))[i]? = some (.tup [.int ((k+i:Nat):Int),.int (ns.getD i 0)])
 | [],_,_,h=>absurd h (Nat.not_lt_zero _)
 | n::ns,k,0,_=>rfl
 | n::ns,k,i+1,h=>by
   have:=Br ns (k+1) i (by simpa using h);rw[List.map_cons,dj,List.getElem?_cons_succ,this];rw[show k+1+i=k+(i+1) by omega];rfl
section
variable {B H H':Hp}{C b dx p r:Addr}{s:Bd}{n:Int}
def SN {x0 x1 x3 x4 x6 x7 x8 x9:Option DL.D}(s:Bd)(c:Int):mA [x0,x1,some (cZ s),x3,x4,some (.int c),x6,x7,x8,x9]=some (decide (0<c % 3)&&decide (s.length<5)):=by
 have e1:tV (aQ OJ (aQ oMod (ao 5) (eC (.int 3))) (eC (.int 0))) [x0,x1,some (cZ s),x3,x4,some (.int c),x6,x7,x8,x9]=some (decide (0<c % 3)):=gf (d:=.bl (decide (0<c % 3))) ((bF (x:=.int (c % 3)) (y:=.int 0) rfl rfl).trans rfl) rfl;have e2:tV (aQ oLt (kE zO (ao 2)) (eC (.int 5))) [x0,x1,some (cZ s),x3,x4,some (.int c),x6,x7,x8,x9]=some (decide (s.length<5)):=by
  refine gf (d:=.bl (decide (s.length<5))) ((bF (x:=.int ((aV s).length:Nat)) (y:=.int 5) rfl rfl).trans ?_) rfl;show some (DL.D.bl (decide (((aV s).length:Int)<5)))=_;rw[mz];congr 2;rw[Bool.eq_iff_iff];simp;omega
 unfold mA DL.tAnd;rw[e1];simp only[Option.bind_some];cases decide (0<c % 3) with
 | true=>exact e2
 | false=>rfl
def SJ {x0 x3 x6 x7 x8 x9:Option DL.D}(g:Good s n)(C:Nat)(k c:Int):mC C [x0,some (cO C s n),some (cZ s),x3,some (.int k),some (.int c),x6,x7,x8,x9]=some false:=by
 obtain⟨u,l,v,d,hd,e⟩:=Ke (c+k);refine uI (b:=true) (gf (d:=.bl true) ?_ rfl);exact(dU (x:=cO C s n) (y:=cZ s) (z:=mY u l v d) rfl rfl ((fB (x:=.int (c+k)) (y:=.int 9) rfl rfl).trans e)).trans (zX g C hd)
def Ek {X:Cx}(hN:X.N.length=10)(hB:Same X.H₀ B)(L:LS X.K B C b dx p r s n H)(h0:0<=n)(h16:n<=16){sc x6 x7 x8 x9:Option V}{k c:Int}{D:Ends}
 (q:∀s' r' n' H' y6 y7 y8 y9,LS X.K B C b dx p r' s' n' H'->n<=n'->n'<=n+1->D.nx [sc,some (.ref b),some (.ref r'),some (.int n'),some (.int k),some (.int c),y6,y7,y8,y9] H') :
 Mj X C D [sc,some (.ref b),some (.ref r),some (.int n),some (.int k),some (.int c),x6,x7,x8,x9] H:=by
 have fin:∀s' r' n' H' y6 y7 y8 y9,LS X.K B C b dx p r' s' n' H'->n<=n'->n'<=n+1->Fv X (mC C) uJ pW D [sc,some (.ref b),some (.ref r'),some (.int n'),some (.int k),some (.int c),y6,y7,y8,y9] H':=by
  intro s' r' n' H' y6 y7 y8 y9 L' h1 h2;exact⟨[],[none,some (cO C s' n'),some (cZ s'),none,some (.int k),some (.int c),none,none,none,none],false,oF hN (.no (.so L'.board (.so L'.rd.den (.no (.so (.int k) (.so (.int c) (.no (.no (.no (.no .nil)))))))))) (hB.trans L'.kB),SJ L'.gd C k c,
   fun H2 g2=>oZ (q s' r' n' H2 y6 y7 y8 y9 (L'.mono g2) h1 h2)⟩
 refine⟨[],[none,none,some (cZ s),none,none,some (.int c),none,none,none,none],_,oF hN (.no (.no (.so L.rd.den (.no (.no (.so (.int c) (.no (.no (.no (.no .nil)))))))))) (hB.trans L.kB),SN s c,fun H1 g1=>?_⟩;have L1:=L.mono g1;cases hc:(decide (0<c % 3)&&decide (s.length<5)) with
 | true =>
   rw[Bool.and_eq_true] at hc;exact qN (Ck hN hB L1 (of_decide_eq_true hc.2) h0 fun s' H' y6 y7 L'=>fin s' r (n+1) H' y6 y7 x8 x9 L' (by omega) (by omega))
 | false=>exact oZ (Dy hN hB L1 h0 h16 fun s' r' H' y8 y9 L'=>fin s' r' n H' x6 x7 y8 y9 L' (by omega) (by omega))
def jG:Good [] 0:=⟨.nil,fun q h=>(by cases h),fun q h=>(by cases h),by decide⟩
def Dk {X:Cx}(hB:Same X.H₀ B)(L:LS X.K B C b dx p r s n H)(h0:0<=n)(h16:n<=16){sc x4 x5 x6 x7 x8 x9:Option V}{D:Ends}(q:∀H',Same B H'->D.rt (.bl true) H') :
 Mg X C D [sc,some (.ref b),some (.ref r),some (.int n),x4,x5,x6,x7,x8,x9] H:=by
 have bp:=L.bp;obtain⟨o1,kvs,hp,kp,vp⟩:=L.pd;have hv0:cj kvs (.inl n)=none:=pP kp fun x hx=>by have:=(L.gd.low x hx).2;omega
 have k3:Same B (upd H p (.dK kvs)):=fun a u e=>(au (L.notB e).2.1).trans (L.kB _ _ e);refine⟨p,o1,kvs,hp,hB.free L.p0,?_⟩;refine⟨.ref b,rfl,.int n,rfl,b,dx,p,kvs,n,n,rfl,⟨(au bp).trans L.bi,az⟩,⟨by omega,by omega⟩,fun _ H4 g4=>?_,fun v hv=>?_⟩
 ·refine⟨rfl,true,by simp,qN ?_⟩;have k4:=k3.trans g4;intro b2 dx2 h1 h2 h3;refine⟨b2,dx2,rfl,az,fun p2 H5 hp2 bd oth=>⟨rfl,?_⟩⟩;have np:p2≠b2:=fun z=>bd.ne z.symm;have k5:Same B H5:=fun a u e=>by
   have e4:=k4 _ _ e;have nb:a≠b2:=fun z=>by rw[z,h1] at e4;cases e4
   have nd:a≠dx2:=fun z=>by rw[z,h2] at e4;cases e4
   have e4':upd (upd H4 dx2 (.own b2)) b2 (.ins C dx2 []) a=some u:=(au nb).trans ((au nd).trans e4);have na:a≠p2:=fun z=>by rw[z,hp2] at e4';cases e4'
   exact(oth a na nb).trans e4'
  intro r2 hr2;have g6:=aK hr2 (HO.dK []);have b6:=g6 _ _ bd.i;have p6:=g6 _ _ bd.d;have r6:upd H5 r2 (HO.dK []) r2=some (.dK []):=az;have k6:=k5.trans g6;generalize upd H5 r2 (HO.dK [])=H6 at *;have nr:p2≠r2:=fun z=>by rw[<-z,bd.d] at hr2;cases hr2
  have nbr:b2≠r2:=fun z=>by rw[<-z,bd.i] at hr2;cases hr2
  refine⟨by show 2<=sizeLine;rw[bB];decide,fun t1 ht1=>⟨by show 2<=sizeLine;rw[bB];decide,fun t2 ht2=>⟨by show 2<=sizeLine;rw[bB];decide,fun t3 ht3=>?_⟩⟩⟩;have g7:=aK ht1 (HO.tup [.int 1,.int 1]);have g8:=aK ht2 (HO.tup [.int 0,.int 1]);have g9:=aK ht3 (HO.tup [.ref t1,.ref t2]);have a1:=g9 _ _ (g8 _ _ (show upd H6 t1 (HO.tup [.int 1,.int 1]) t1=some (.tup [.int 1,.int 1]) from az));have a2:=g9 _ _ (show upd (upd H6 t1 (HO.tup [.int 1,.int 1])) t2 (HO.tup [.int 0,.int 1]) t2=some (.tup [.int 0,.int 1]) from az);have a3:upd (upd (upd H6 t1 (HO.tup [.int 1,.int 1])) t2 (HO.tup [.int 0,.int 1])) t3 (HO.tup [.ref t1,.ref t2]) t3=some (.tup [.ref t1,.ref t2]):=az;have g69:=g7.trans (g8.trans g9);have k9:=k6.trans g69;have b9:=g69 _ _ b6;have p9:=g69 _ _ p6;have r9:=g69 _ _ r6;generalize upd (upd (upd H6 t1 (HO.tup [.int 1,.int 1])) t2 (HO.tup [.int 0,.int 1])) t3 (HO.tup [.ref t1,.ref t2])=H9 at *;refine⟨p2,[],p9,fun o10=>⟨r2,[],(au nr.symm).trans r9,fun o11=>?_⟩⟩;have o12:∀a u,a≠p2->a≠r2->H9 a=some u->upd (upd H9 p2 (.frz o10 (.dK []))) r2 (.frz o11 (.dK [])) a=some u:=fun a u n1 n2 e=>(au n2).trans ((au n1).trans e);have b12:=o12 b2 _ np.symm nbr b9;have t12:∀a ys,H9 a=some (.tup ys)->upd (upd H9 p2 (.frz o10 (.dK []))) r2 (.frz o11 (.dK [])) a=some (.tup ys):=fun a ys e=>o12 a _ (fun z=>by rw[z,p9] at e;cases e) (fun z=>by rw[z,r9] at e;cases e) e;have p12:upd (upd H9 p2 (.frz o10 (.dK []))) r2 (.frz o11 (.dK [])) p2=some (.frz o10 (.dK [])):=(au nr).trans az;have r12:upd (upd H9 p2 (.frz o10 (.dK []))) r2 (.frz o11 (.dK [])) r2=some (.frz o11 (.dK [])):=az;have k12:Same B (upd (upd H9 p2 (.frz o10 (.dK []))) r2 (.frz o11 (.dK []))):=fun a u e=>by
   have e5:=k5 _ _ e;have e9:=k9 _ _ e;have n1:a≠r2:=fun z=>by rw[z,hr2] at e5;cases e5
   have e4:=k4 _ _ e;have nb:a≠b2:=fun z=>by rw[z,h1] at e4;cases e4
   have nd:a≠dx2:=fun z=>by rw[z,h2] at e4;cases e4
   have e4':upd (upd H4 dx2 (.own b2)) b2 (.ins C dx2 []) a=some u:=(au nb).trans ((au nd).trans e4);have na:a≠p2:=fun z=>by rw[z,hp2] at e4';cases e4'
   exact o12 a u na n1 e9
  have a1':=t12 _ _ a1;have a2':=t12 _ _ a2;have a3':=t12 _ _ a3;clear t12 o12 oth bd a1 a2 a3;generalize upd (upd H9 p2 (.frz o10 (.dK []))) r2 (.frz o11 (.dK []))=H12 at *;have dp:DicAt X.K H12 p2 []:=⟨o10,[],p12,rfl,.nil⟩;have dr:DicAt X.K H12 r2 []:=⟨o11,[],r12,rfl,.nil⟩;have db:Den X.K H12 (cO C [] 0) (.ref b2):=BL b12 (.cons dp.den (.cons (.int 0) .nil));have dt:Den X.K H12 (mY 1 1 0 1) (.ref t3):=.tup a3' (.cons (.tup a1' (.cons (.int 1) (.cons (.int 1) .nil))) (.cons (.tup a2' (.cons (.int 0) (.cons (.int 1) .nil))) .nil));refine⟨[],[cO C [] 0,cZ [],mY 1 1 0 1],.bl true,(fun _ z=>absurd z (by simp)),by rw[hide_nil];exact .cons db (.cons dr.den (.cons dt .nil)),zX jG C (by decide),fun v H' g rv=>?_⟩;cases rv.bl_inv;exact q H' (k12.trans g)
 ·rw[hv0] at hv;cases hv
def Hn {X:Cx}(hX:X.N=wV){vs:List V}{Q:VK}{E:XK}(h:rJ X.K oM vs X.H₀ Q E):Nt X C { nx:=fun _ H'=>Q .non H',rt:=Q } (L2.start wV vs) X.H₀:=by
 have hN:X.N.length=10:=by rw[hX];rfl
 obtain⟨os,ds,d,Lv,dn,hm,fin⟩:=h;generalize hH:X.H₀=H at *;obtain⟨xs,rfl⟩:∃xs,ds=[.lst xs]:=by
  unfold oM at hm;split at hm
  ·exact⟨_,rfl⟩
  ·cases hm
 obtain⟨ns,hi,hd⟩:=Option.bind_eq_some_iff.mp (show (intsOf xs).bind (fun _=>some (DL.D.bl true))=some d from hm);cases hd;have hxs:=xu hi;subst hxs;obtain⟨v0,rr,rfl,hv,hn⟩:=dn.uncons;cases hn.unnil;show Nt X C _ [some v0,none,none,none,none,none,none,none,none,none] H;intro b dx hb hdx hne;refine⟨b,dx,rfl,az,fun p H1 hp bd oth=>⟨rfl,?_⟩⟩;have bp:=bd.ne;have g1:Same H H1:=fun a u e=>by
  have nb:a≠b:=fun z=>by rw[z,hb] at e;cases e
  have nd:a≠dx:=fun z=>by rw[z,hdx] at e;cases e
  have e':upd (upd H dx (.own b)) b (.ins C dx []) a=some u:=(au nb).trans ((au nd).trans e);have na:a≠p:=fun z=>by rw[z,hp] at e';cases e'
  exact(oth a na nb).trans e'
 have Hp0:H p=none:=by
  cases e:H p with
  | none=>rfl
  | some u =>
    have nb:p≠b:=bp.symm;have nd:p≠dx:=fun z=>by rw[z,hdx] at e;cases e
    rw[au nb,au nd,e] at hp;cases hp
 intro r hr;have g2:=aK hr (HO.dK []);have b2:=g2 _ _ bd.i;have p2:=g2 _ _ bd.d;have r2:upd H1 r (HO.dK []) r=some (.dK []):=az;have pr:p≠r:=fun z=>by rw[<-z,bd.d] at hr;cases hr
 have br:b≠r:=fun z=>by rw[<-z,bd.i] at hr;cases hr
 have Hr0:H r=none:=g1.free hr;have g12:=g1.trans g2;generalize upd H1 r (HO.dK [])=H2 at *;refine⟨p,[],p2,fun o3=>⟨r,[],(au pr.symm).trans r2,fun o4=>?_⟩⟩;have b4:upd (upd H2 p (.frz o3 (.dK []))) r (.frz o4 (.dK [])) b=some (.ins C dx [("pieces",.ref p),("unused",.int 0)]):=(au br).trans ((au bp).trans b2);have p4:upd (upd H2 p (.frz o3 (.dK []))) r (.frz o4 (.dK [])) p=some (.frz o3 (.dK [])):=(au pr).trans az;have r4:upd (upd H2 p (.frz o3 (.dK []))) r (.frz o4 (.dK [])) r=some (.frz o4 (.dK [])):=az;have g4:Same H (upd (upd H2 p (.frz o3 (.dK []))) r (.frz o4 (.dK []))):=fun a u e=>by
  have np:a≠p:=fun z=>by rw[z,Hp0] at e;cases e
  have nr:a≠r:=fun z=>by rw[z,Hr0] at e;cases e
  exact(au nr).trans ((au np).trans (g12 _ _ e))
 generalize upd (upd H2 p (.frz o3 (.dK []))) r (.frz o4 (.dK []))=H4 at *;have off:∀{a:Addr} {u:HO},H a=some u->a∉[b,p,r]:=fun {a u} e z=>by
  simp only[List.mem_cons,List.not_mem_nil,or_false] at z;rcases z with rfl | rfl | rfl
  ·rw[hb] at e;cases e
  ·rw[Hp0] at e;cases e
  ·rw[Hr0] at e;cases e
 have live:Live [b,p,r] H4:=fun a ha=>by
  simp only[List.mem_cons,List.not_mem_nil,or_false] at ha;rcases ha with rfl | rfl | rfl
  ·exact⟨_,b4,True.intro⟩
  ·exact⟨_,p4,True.intro⟩
  ·exact⟨_,r4,True.intro⟩
 have hid:Same (hide os H) (hide [b,p,r] H4):=fun a u e=>by
  have e':=hide_le _ _ e;rw[aF (off e')];exact g4 _ _ e'
 refine⟨[b,p,r],[some (.lst (ns.map .int)),none,none,none,none,none,none,none,none,none],dj 0 ((ns.take 16).map DL.D.int),FT hN (.so (hv.mono hid _ _) (.no (.no (.no (.no (.no (.no (.no (.no (.no .nil)))))))))) live (by rw[hH];exact g4),by rw[List.map_take];rfl,fun J H5 g5 wk=>?_⟩;have el:(dj 0 ((ns.take 16).map DL.D.int)).length=(ns.take 16).length:=by rw[qR,List.length_map]
 have l16:(ns.take 16).length<=16:=by rw[List.length_take];omega
 have hB:Same H (hide [b,p,r] H5):=fun a u e=>by
  rw[aF (off e)];exact g5 _ _ (g4 _ _ e)
 have kB:Same (hide [b,p,r] H5) H5:=hide_le;have B0:hide [b,p,r] H5 b=none/\hide [b,p,r] H5 p=none/\hide [b,p,r] H5 r=none:=⟨bj (by simp),bj (by simp),bj (by simp)⟩;generalize hide [b,p,r] H5=B at *;have L0:LS X.K B C b dx p r [] 0 H5:=⟨g5 _ _ b4,⟨o3,[],g5 _ _ p4,rfl,.nil⟩,⟨o4,[],g5 _ _ r4,rfl,.nil⟩,pr,jG,kB,B0.1,B0.2.1,B0.2.2⟩;have hB':Same X.H₀ B:=by rw[hH];exact hB
 refine⟨fun i m σ H'=>m=(ns.take 16).length-i/\i<=(ns.take 16).length/\∃r s n x4 x5 x6 x7 x8 x9,σ=[some v0,some (.ref b),some (.ref r),some (.int n),x4,x5,x6,x7,x8,x9]/\LS X.K B C b dx p r s n H'/\0<=n/\n<=i,
  ⟨_,rfl,Nat.zero_le _,r,[],0,none,none,none,none,none,none,rfl,L0,Int.le_refl 0,Int.le_refl 0⟩,?_⟩
 rintro i m σ H' ⟨rfl,hil,r',s,n,x4,x5,x6,x7,x8,x9,rfl,L,h0,hni⟩;obtain⟨w1,w2⟩:=wk i [] H' (fun _ z=>absurd z (by simp)) (by rw[hide_nil];exact L.kB);by_cases hlt:i<(ns.take 16).length
 ·obtain⟨go,yl⟩:=w1 _ (Br (ns.take 16) 0 i hlt);refine .inr ⟨go,fun σ' H''=>∃m',m'<(ns.take 16).length-i/\(m'=(ns.take 16).length-(i+1)/\i+1<=(ns.take 16).length/\∃r s n x4 x5 x6 x7 x8 x9,σ'=[some v0,some (.ref b),some (.ref r),some (.int n),x4,x5,x6,x7,x8,x9]/\LS X.K B C b dx p r s n H''/\0<=n/\n<=((i+1:Nat):Int)),fun _ _ z=>z,fun x H2 y=>?_⟩;obtain⟨g6,rx⟩:=yl x H2 y;rw[hide_nil] at rx;obtain⟨a,ys,rfl,ha,hy⟩:=rx.tup_inv;obtain⟨y1,yr,rfl,d1,hy⟩:=hy.uncons;obtain⟨y2,yr,rfl,d2,hy⟩:=hy.uncons;cases hy.unnil;cases d1.int_inv;cases d2.int_inv;refine⟨a,_,rfl,.of ha,rfl,_,_,rfl,_,_,rfl,rfl,?_⟩;exact Ek hN hB' (L.mono g6) h0 (by omega) fun s' r' n' H3 y6 y7 y8 y9 L' h1 h2=>⟨_,by omega,rfl,hlt,r',s',n',_,_,y6,y7,y8,y9,rfl,L',by omega,by omega⟩
 ·have hi':i=(ns.take 16).length:=by omega
  refine .inl ⟨w2 (by rw[el];exact hi'),?_⟩;exact Dk hB' L h0 (by omega) fun H3 g7=>fin _ H3 (hB.trans g7) (.bl true)
end
section
variable {P:Program}{w:World}{K:PySem.W.Frag}{mg:Str->Option Value}{base:Heap}
def Oz (T:Txt K mg):eF P w K mg base ou 9 T.x_law.f T.x_law.fd ["_law_script"] (rJ K oM) :=
 T.x_law.F.ok (k:=8) (N:=wV) fsc (fun vs H Q E h=>by
  obtain⟨os,ds,r,_,d,e,_⟩:=h;rw[<-d.length];unfold oM at e;split at e
  ·rfl
  ·cases e) fun cdv A outer s H vs Q E hr hq=>⟨_,Hm T cdv A outer s H E hr,Hn (X:=(jY ou P w K mg base wV "law" (aH oG) T.x_law.f cdv A outer s H E).nox) rfl hq⟩
end
set_option maxHeartbeats 0 in
def all_mk {l:PySem.W.OpenLaw}{w:World}{K:PySem.W.Frag}{h:Heap}{mg:Str->Option Value}{fa:Addr}(X:K.In h)(G:h.Ns mainGlobals mg)(hfa:mg "law"=some (.ref fa))
 {C:Addr} {tk0:Tok} {cc0:Addr} {cc1:Addr} {cc2:Addr}
 (x0:FnI K "bands_between" jh)
 (x1:FnI K "span_of" sS)
 (x2:FnI K "edges_of" qg)
 (x3:FnI K "turns_of" kY)
 (x4:FnI K "add_change" iK)
 (x5:FnI K "depth_changes" fG)
 (x6:FnI K "depth_rows" iJ)
 (x7:FnI K "cell_area" oH)
 (x8:FnI K "depth_areas" j7)
 (x9:FnI K "covered_area" jz)
 (x10:FnI K "_law_has" ql)
 (x11:FnI K "_law_layers" gQ)
 (x12:FnI K "lies_between" jy)
 (x13:FnI K "ring_has" p7)
 (x14:FnI K "rise" Gd)
 (x15:FnI K "arc_has" sU)
 (x16:FnI K "has" Mp)
 (x17:FnI K "_law_right" cX)
 (x18:FnI K "_law_mix" qj)
 (x19:FnI K "_law_piece" lU)
 (x20:FnI K "_law_taken" lQ)
 (x21:FnI K "_law_fraction" ji)
 (x22:FnI K "_law_point" lR)
 (x23:FnI K "_law_whole" lO)
 (x24:FnI K "law" oG)
 (aC:PySem.W.nsIn K mainGlobals "Board"=some (some (.ref C))) (pg:PySem.W.plainGet K C Str.empty=true) (hd:PySem.W.hasDictIn K C=true) (po:PySem.W.plainOver K C=true) (sa:PySem.W.findIn K (.ref C) "__setattr__"=some (some (.builtin "object.__setattr__"))) (mk:PySem.W.makesIn K C=true) (kc:PySem.W.keepIn K (.ref C)=true) (nP:PySem.W.findIn K (.ref C) "pieces"=some none) (nU:PySem.W.findIn K (.ref C) "unused"=some none)
 (y0:FnMI K C "__init__" "Board.__init__" ik)
 (y1:FnMI K C "layers_at" "Board.layers_at" cP)
 (y2:FnMI K C "numbers" "Board.numbers" fH)
 (y3:FnMI K C "sheet" "Board.sheet" gR)
 (y4:FnMI K C "area" "Board.area" iM)
 (y5:FnMI K C "depth_area" "Board.depth_area" dD)
 (y6:FnMI K C "take_out" "Board.take_out" eN)
 (y7:FnMI K C "put_in" "Board.put_in" jA)
 (v0:PySem.W.nsIn K mainGlobals "WHOLE_TURN"=some (some (.int 24 tk0)))
 (cl0:PySem.W.nsIn K mainGlobals "NoPiece"=some (some (.ref cc0)))
 (cl1:PySem.W.nsIn K mainGlobals "NoText"=some (some (.ref cc1)))
 (cl2:PySem.W.nsIn K mainGlobals "RingError"=some (some (.ref cc2)))
 (fa0:PySem.W.excIn K cc0 [.type "ValueError",.type "Exception",.type "BaseException",.type "object"] "ValueError.__new__"=true)
 (fa1:PySem.W.exmOne K (.ref cc0) (.ref cc2)=some true)
 (fa2:PySem.W.kitOne K (.ref cc0) (.ref cc1)=some false)
 (fa3:PySem.W.kitOne K (.ref cc0) (.type "ValueError")=some true)
 (fa4:PySem.W.findIn K (.ref cc0) "__getattribute__"=some (some (.builtin "BaseException.__getattribute__")))
 (fa5:PySem.W.findIn K (.ref cc0) "__getattr__"=some none)
 (fa6:PySem.W.mroIn K cc0 (.type "BaseException")=some true)
 (fa7:PySem.W.hasDictIn K cc0=true)
 (fa8:PySem.W.findIn K (.ref cc0) "__class__"=some (some (.builtin "object.__class__")))
 (fa9:PySem.W.specialIn K (.builtin "object.__class__") "__get__"=some (some (.builtin "getset_descriptor.__get__")))
 (fa10:PySem.W.takesIn K (.builtin "object.__class__")=some true)
 (fa11:PySem.W.mroIn K cc0 (.type "object")=some true)
 (z0:PySem.W.nsIn K mainGlobals "ValueError"=some none)
 (z1:PySem.W.nsIn K mainGlobals "abs"=some none)
 (z2:PySem.W.nsIn K mainGlobals "bool"=some none)
 (z3:PySem.W.nsIn K mainGlobals "dict"=some none)
 (z4:PySem.W.nsIn K mainGlobals "enumerate"=some none)
 (z5:PySem.W.nsIn K mainGlobals "int"=some none)
 (z6:PySem.W.nsIn K mainGlobals "isinstance"=some none)
 (z7:PySem.W.nsIn K mainGlobals "len"=some none)
 (z8:PySem.W.nsIn K mainGlobals "list"=some none)
 (z9:PySem.W.nsIn K mainGlobals "max"=some none)
 (z10:PySem.W.nsIn K mainGlobals "min"=some none)
 (z11:PySem.W.nsIn K mainGlobals "range"=some none)
 (z12:PySem.W.nsIn K mainGlobals "set"=some none)
 (z13:PySem.W.nsIn K mainGlobals "sorted"=some none)
 (z14:PySem.W.nsIn K mainGlobals "sum"=some none)
 (z15:PySem.W.nsIn K mainGlobals "tuple"=some none)
 (z16:PySem.W.nsIn K mainGlobals "zip"=some none) :
 ∃fd:FuncData,(∀(s:Shared) (v:Value),BindsTo s fd ⟨[v],[]⟩ [("_law_script",v)])/\∀base:Heap,K.In base->base.Ns mainGlobals mg->eF l.prog w K mg base ou 9 fa fd ["_law_script"] (rJ K oM):=by
 cases hfa.symm.trans (PySem.W.mg_of X G x24.a);have hb:∀(s:Shared) (v:Value),BindsTo s x24.fd ⟨[v],[]⟩ [("_law_script",v)]:=by
  obtain⟨_,_,_,_,_,_,_,_,_,e,_⟩:=x24.F.ex;rw[e];exact fun s v=>.of_eq rfl
 exact⟨x24.fd,hb,fun base _ _=>Oz (T:={
  x_bands_between:=x0.g X G,
  x_span_of:=x1.g X G,
  x_edges_of:=x2.g X G,
  x_turns_of:=x3.g X G,
  x_add_change:=x4.g X G,
  x_depth_changes:=x5.g X G,
  x_depth_rows:=x6.g X G,
  x_cell_area:=x7.g X G,
  x_depth_areas:=x8.g X G,
  x_covered_area:=x9.g X G,
  x__law_has:=x10.g X G,
  x__law_layers:=x11.g X G,
  x_lies_between:=x12.g X G,
  x_ring_has:=x13.g X G,
  x_rise:=x14.g X G,
  x_arc_has:=x15.g X G,
  x_has:=x16.g X G,
  x__law_right:=x17.g X G,
  x__law_mix:=x18.g X G,
  x__law_piece:=x19.g X G,
  x__law_taken:=x20.g X G,
  x__law_fraction:=x21.g X G,
  x__law_point:=x22.g X G,
  x__law_whole:=x23.g X G,
  x_law:=x24.g X G,
  C:=C,cl:=⟨pg,hd,po,sa⟩,g_Board:=PySem.W.mg_of X G aC,n_pieces:=nP,n_unused:=nU,
  x_Board___init__:=y0.g,
  x_Board_layers_at:=y1.g,
  x_Board_numbers:=y2.g,
  x_Board_sheet:=y3.g,
  x_Board_area:=y4.g,
  x_Board_depth_area:=y5.g,
  x_Board_take_out:=y6.g,
  x_Board_put_in:=y7.g,
  mkB:=⟨mk,y0.m.at_,y0.m.fn,kc⟩,
  k_WHOLE_TURN:=tk0,c_WHOLE_TURN:=PySem.W.mg_of X G v0,
  C_NoPiece:=cc0,g_NoPiece:=PySem.W.mg_of X G cl0,
  C_NoText:=cc1,g_NoText:=PySem.W.mg_of X G cl1,
  C_RingError:=cc2,g_RingError:=PySem.W.mg_of X G cl2,
  q_E:=fa0,
  x_E:=fa1,
  i_E:=fa2,
  e_E:=fa3,
  k1_E:=fa4,
  k7_E:=fa5,
  k8_E:=fa6,
  k2_E:=fa7,
  k3_E:=fa8,
  k4_E:=fa9,
  k5_E:=fa10,
  k6_E:=fa11,
  z_ValueError:=PySem.W.mg_none_of X G z0,
  z_abs:=PySem.W.mg_none_of X G z1,
  z_bool:=PySem.W.mg_none_of X G z2,
  z_dict:=PySem.W.mg_none_of X G z3,
  z_enumerate:=PySem.W.mg_none_of X G z4,
  z_int:=PySem.W.mg_none_of X G z5,
  z_isinstance:=PySem.W.mg_none_of X G z6,
  z_len:=PySem.W.mg_none_of X G z7,
  z_list:=PySem.W.mg_none_of X G z8,
  z_max:=PySem.W.mg_none_of X G z9,
  z_min:=PySem.W.mg_none_of X G z10,
  z_range:=PySem.W.mg_none_of X G z11,
  z_set:=PySem.W.mg_none_of X G z12,
  z_sorted:=PySem.W.mg_none_of X G z13,
  z_sum:=PySem.W.mg_none_of X G z14,
  z_tuple:=PySem.W.mg_none_of X G z15,
  z_zip:=PySem.W.mg_none_of X G z16 })⟩
def walk {l:PySem.W.OpenLaw}{q:Program}{loose:List Str}{XP:(Str->Option Value)->Heap->Prop}{YP:World->Heap->Prop}{d:DefRec}{K:Params->PySem.W.Frag}(hn:l.most=some 63)(hdf:d.params.defaults=[])
 (hY:∀(w:World) (h:Heap),YP w h->(K w.params).In h)
 (F:∀(w:World) (mg:Str->Option Value) (fa:Addr) (h:Heap),(K w.params).In h->h.Ns mainGlobals mg->mg d.name=some (.ref fa) ->
  ∃fd:FuncData,(∀(s:Shared) (u:Value),BindsTo s fd ⟨[u],[]⟩ [("_law_script",u)])/\∀base:Heap,(K w.params).In base->base.Ns mainGlobals mg->eF l.prog w (K w.params) mg base ou 9 fa fd ["_law_script"] (rJ (K w.params) oM)) :
 PySem.W.WalkO q loose XP YP l.row.toRowW d [] (fun f vs=>PySem.call f vs) :=
 L2.walk_of (n:=63) (k:=9) (x:="_law_script") (CX:=fun _=>ou) (sp:=fun w=>rJ (K w.params) oM) hn (by decide) hdf ⟨rfl,by decide,by decide⟩ hY F
  (fun w H a ns hl _ hS=>⟨[],[.lst (ns.map .int)],.bl true,(fun _ z=>absurd z (by simp)),hide_nil.symm ▸ .cons (.lst hS (Dens.ints ns)) .nil,QW ns,fun v H' _ r=>r.bl_inv⟩) fun _ _ _ _ _ z=>z
end DL.K08
open PySem PySem.W PyProof.Rows
namespace PySem.W.Fast
def tw1694122530092770501:=0
def tw544985671261151323:=0
def tw2778946660307511007:=0
def tw15750214959569605750:=0
def tw17021523424182930421:=0
def tw2925982295217007540:=0
def tw7730641641882026027:=0
def tw4684751147591467121:=0
def tw183590344455967443:=0
def tw4918674613547981459:=0
def tw18186336498656770418:=0
def tw17874686952720067051:=0
def tw15973780909939196644:=0
def tw16954954550601378820:=0
def tw10936925827520861080:=0
def tw270590583082413668:=0
def tw7604316062389442267:=0
def tw9995241290606301050:=0
def tw14767302870031826051:=0
def tw13961523415895310617:=0
def tw17466264200741044448:=0
def tw18150759092784925844:=0
def tw2139196867905128619:=0
def tw8281507310376691686:=0
def tw9753010458005335767:=0
def tw332865317766861865:=0
def tw610261062739136239:=0
def tw6668471775351756051:=0
def tw992582753182511332:=0
def tw1575170507273425629:=0
def tw4344524630461764596:=0
def tw294071985896603368:=0
def tw8773225789822440294:=0
def tw4652705870635505318:=0
def tw575243421453768308:=0
def tw139272513968243824:=0
def tw16275371154393729255:=0
def tw5191401490513123811:=0
def tw9982320209756884797:=0
def tw5644658913496289886:=0
def tw13131517183591600410:=0
def tw7961561883879517870:=0
def tw4913218136006066555:=0
def tw8010601689662190192:=0
def tw18048504480382625432:=0
def tw5279715290946826610:=0
def tw17975739651670632302:=0
def tw3915082658025837746:=0
def tw547268859311783481:=0
def tw4942891299534820339:=0
def tw3531577322957237929:=0
def tw12881460130574878015:=0
def tw1553675473847133759:=0
def tw16735772464668099879:=0
def tw9170954728896416868:=0
def tw15341289313596012754:=0
def tw16895856922720347020:=0
def tw2558893563000535752:=0
def tw6940336350876782811:=0
def tw2134376044824535351:=0
def tw5451841088206907267:=0
def tw11181510715997167264:=0
def tw7553441974419645868:=0
def tw17593874242822482734:=0
def tw3505281295835468738:=0
def tw11813714172872889176:=0
def tw10665110632480033337:=0
def tw3089988567089574082:=0
def tw10440450950816511033:=0
def tw15611912992570111942:=0
def tw5026280932006852685:=0
def tw7367939242384405289:=0
def tw8748767489434899955:=0
def tw16012411251138285181:=0
def tw18404095341383359100:=0
def tw6506459682205599046:=0
def tw11660946891127928530:=0
def tw8796001638429077245:=0
def tw7987600269162875058:=0
def tw1165058224581274813:=0
def tw515693794648541637:=0
def tw12694223797242940293:=0
def tw17597535889844878234:=0
def tw14568408201427943218:=0
def tw1829563434711342565:=0
def tw1785418864390494687:=0
def tw15245391938015290934:=0
def tw4657042790156806366:=0
def tw551831644584493243:=0
def tw1059379834912950911:=0
def tw16491844804750823135:=0
def tw3055455373528666302:=0
def tw12360775736219611436:=0
def tw4768101295305661636:=0
def tw17599564660214347894:=0
def tw1386493371796504664:=0
def tw11309900292840089412:=0
def tw2734870288663183027:=0
def tw8563451670106298918:=0
def tw8169772106501494990:=0
def tw10487076973419914037:=0
def tw2409755183677606312:=0
def tw4971265655093641965:=0
def tw18071857691933124850:=0
def tw10264739208243702736:=0
def tw305718169318078432:=0
def tw14105417053380013880:=0
def tw6209901793398158121:=0
def tw12434611233223454452:=0
def tw16280407902577611755:=0
def tw832697709604261415:=0
def tw7166544528244503431:=0
def tw12089816427180939959:=0
def tw10430710702999581945:=0
def tw17004581726461169707:=0
def tw5834089751045183643:=0
def tw14728819808162937923:=0
def tw7620962458769962277:=0
def tw10126205842825951071:=0
def tw7877588363571613725:=0
def tw1934237497918888996:=0
def tw8959215521684974011:=0
def tw482030579136207335:=0
def tw1621084116184715479:=0
def tw13356103159679959695:=0
def tw12507914628393795942:=0
def tw11736403652318344390:=0
def tw10215593366419601681:=0
def tw12892115888196932366:=0
def tw10739601671446739494:=0
def tw8824741509105587476:=0
def tw7823651122048792409:=0
def tw7713741804699379221:=0
def tw3538386155068716178:=0
def tw2247525077626531162:=0
def tw15820890906099485500:=0
def tw10292686563662232615:=0
def tw6493952723018572305:=0
def tw2143472634828237403:=0
def tw14197662151655910795:=0
def tw9718715415531502492:=0
def tw15667866813908321976:=0
def tw15215282525309193487:=0
def tw5330449317409815186:=0
def tw7845287983613971599:=0
def tw7678199230413299827:=0
def tw7492204533185567118:=0
def tw6289222856996671133:=0
def tw5203950746405646320:=0
def tw5195381300169655855:=0
end PySem.W.Fast
set_option maxRecDepth 100000 in
set_option maxHeartbeats 0 in
theorem PySem.Challenge.cw_ringlayers_k08_whole_boards_holds : PySem.Challenge.rw_ringlayers_k08_whole_boards.Holds := by
 w_on;o_law;k_head;(case hw=>w_witness2)
 k_fill
 refine DL.K08.walk (l:=PySem.Challenge.rw_ringlayers_k08_whole_boards) rfl rfl (fun w h Y=>PySem.W.kIn_of Y) ?F
 case F =>
  intro w mg fa h KX G hmg;refine' DL.K08.all_mk KX G hmg (DL.fnI ?a0 ?l0 ?c0 ?k0) (DL.fnI ?a1 ?l1 ?c1 ?k1) (DL.fnI ?a2 ?l2 ?c2 ?k2) (DL.fnI ?a3 ?l3 ?c3 ?k3) (DL.fnI ?a4 ?l4 ?c4 ?k4) (DL.fnI ?a5 ?l5 ?c5 ?k5) (DL.fnI ?a6 ?l6 ?c6 ?k6) (DL.fnI ?a7 ?l7 ?c7 ?k7) (DL.fnI ?a8 ?l8 ?c8 ?k8) (DL.fnI ?a9 ?l9 ?c9 ?k9) (DL.fnI ?a10 ?l10 ?c10 ?k10) (DL.fnI ?a11 ?l11 ?c11 ?k11) (DL.fnI ?a12 ?l12 ?c12 ?k12) (DL.fnI ?a13 ?l13 ?c13 ?k13) (DL.fnI ?a14 ?l14 ?c14 ?k14) (DL.fnI ?a15 ?l15 ?c15 ?k15) (DL.fnI ?a16 ?l16 ?c16 ?k16) (DL.fnI ?a17 ?l17 ?c17 ?k17) (DL.fnI ?a18 ?l18 ?c18 ?k18) (DL.fnI ?a19 ?l19 ?c19 ?k19) (DL.fnI ?a20 ?l20 ?c20 ?k20) (DL.fnI ?a21 ?l21 ?c21 ?k21) (DL.fnI ?a22 ?l22 ?c22 ?k22) (DL.fnI ?a23 ?l23 ?c23 ?k23) (DL.fnI ?a24 ?l24 ?c24 ?k24) ?aC ?pg ?hd ?po ?sa ?mk ?kc ?nP ?nU (DL.fnMI ?b0 ?i0 ?m0 ?d0 ?e0) (DL.fnMI ?b1 ?i1 ?m1 ?d1 ?e1) (DL.fnMI ?b2 ?i2 ?m2 ?d2 ?e2) (DL.fnMI ?b3 ?i3 ?m3 ?d3 ?e3) (DL.fnMI ?b4 ?i4 ?m4 ?d4 ?e4) (DL.fnMI ?b5 ?i5 ?m5 ?d5 ?e5) (DL.fnMI ?b6 ?i6 ?m6 ?d6 ?e6) (DL.fnMI ?b7 ?i7 ?m7 ?d7 ?e7) ?v0 ?cl0 ?cl1 ?cl2 ?fa0 ?fa1 ?fa2 ?fa3 ?fa4 ?fa5 ?fa6 ?fa7 ?fa8 ?fa9 ?fa10 ?fa11 ?z0 ?z1 ?z2 ?z3 ?z4 ?z5 ?z6 ?z7 ?z8 ?z9 ?z10 ?z11 ?z12 ?z13 ?z14 ?z15 ?z16
  (case a0=>k_is)
  (case l0=>k_is)
  (case c0=>k_is)
  (case k0=>k_is)
  (case a1=>k_is)
  (case l1=>k_is)
  (case c1=>k_is)
  (case k1=>k_is)
  (case a2=>k_is)
  (case l2=>k_is)
  (case c2=>k_is)
  (case k2=>k_is)
  (case a3=>k_is)
  (case l3=>k_is)
  (case c3=>k_is)
  (case k3=>k_is)
  (case a4=>k_is)
  (case l4=>k_is)
  (case c4=>k_is)
  (case k4=>k_is)
  (case a5=>k_is)
  (case l5=>k_is)
  (case c5=>k_is)
  (case k5=>k_is)
  (case a6=>k_is)
  (case l6=>k_is)
  (case c6=>k_is)
  (case k6=>k_is)
  (case a7=>k_is)
  (case l7=>k_is)
  (case c7=>k_is)
  (case k7=>k_is)
  (case a8=>k_is)
  (case l8=>k_is)
  (case c8=>k_is)
  (case k8=>k_is)
  (case a9=>k_is)
  (case l9=>k_is)
  (case c9=>k_is)
  (case k9=>k_is)
  (case a10=>k_is)
  (case l10=>k_is)
  (case c10=>k_is)
  (case k10=>k_is)
  (case a11=>k_is)
  (case l11=>k_is)
  (case c11=>k_is)
  (case k11=>k_is)
  (case a12=>k_is)
  (case l12=>k_is)
  (case c12=>k_is)
  (case k12=>k_is)
  (case a13=>k_is)
  (case l13=>k_is)
  (case c13=>k_is)
  (case k13=>k_is)
  (case a14=>k_is)
  (case l14=>k_is)
  (case c14=>k_is)
  (case k14=>k_is)
  (case a15=>k_is)
  (case l15=>k_is)
  (case c15=>k_is)
  (case k15=>k_is)
  (case a16=>k_is)
  (case l16=>k_is)
  (case c16=>k_is)
  (case k16=>k_is)
  (case a17=>k_is)
  (case l17=>k_is)
  (case c17=>k_is)
  (case k17=>k_is)
  (case a18=>k_is)
  (case l18=>k_is)
  (case c18=>k_is)
  (case k18=>k_is)
  (case a19=>k_is)
  (case l19=>k_is)
  (case c19=>k_is)
  (case k19=>k_is)
  (case a20=>k_is)
  (case l20=>k_is)
  (case c20=>k_is)
  (case k20=>k_is)
  (case a21=>k_is)
  (case l21=>k_is)
  (case c21=>k_is)
  (case k21=>k_is)
  (case a22=>k_is)
  (case l22=>k_is)
  (case c22=>k_is)
  (case k22=>k_is)
  (case a23=>k_is)
  (case l23=>k_is)
  (case c23=>k_is)
  (case k23=>k_is)
  (case a24=>k_is)
  (case l24=>k_is)
  (case c24=>k_is)
  (case k24=>k_is)
  (case aC=>k_is)
  (case pg=>k_is)
  (case hd=>k_is)
  (case po=>k_is)
  (case sa=>k_is)
  (case mk=>k_is)
  (case kc=>k_is)
  (case nP=>k_is)
  (case nU=>k_is)
  (case b0=>k_is)
  (case i0=>k_is)
  (case m0=>k_is)
  (case d0=>k_is)
  (case e0=>k_is)
  (case b1=>k_is)
  (case i1=>k_is)
  (case m1=>k_is)
  (case d1=>k_is)
  (case e1=>k_is)
  (case b2=>k_is)
  (case i2=>k_is)
  (case m2=>k_is)
  (case d2=>k_is)
  (case e2=>k_is)
  (case b3=>k_is)
  (case i3=>k_is)
  (case m3=>k_is)
  (case d3=>k_is)
  (case e3=>k_is)
  (case b4=>k_is)
  (case i4=>k_is)
  (case m4=>k_is)
  (case d4=>k_is)
  (case e4=>k_is)
  (case b5=>k_is)
  (case i5=>k_is)
  (case m5=>k_is)
  (case d5=>k_is)
  (case e5=>k_is)
  (case b6=>k_is)
  (case i6=>k_is)
  (case m6=>k_is)
  (case d6=>k_is)
  (case e6=>k_is)
  (case b7=>k_is)
  (case i7=>k_is)
  (case m7=>k_is)
  (case d7=>k_is)
  (case e7=>k_is)
  (case v0=>k_is)
  (case cl0=>k_is)
  (case cl1=>k_is)
  (case cl2=>k_is)
  (case fa0=>k_exc)
  (case fa1=>kts_exm)
  (case fa2=>kit_is)
  (case fa3=>kit_is)
  (case fa4=>k_is)
  (case fa5=>k_is)
  (case fa6=>k_is)
  (case fa7=>k_is)
  (case fa8=>k_is)
  (case fa9=>k_is)
  (case fa10=>k_is)
  (case fa11=>k_is)
  (case z0=>k_is)
  (case z1=>k_is)
  (case z2=>k_is)
  (case z3=>k_is)
  (case z4=>k_is)
  (case z5=>k_is)
  (case z6=>k_is)
  (case z7=>k_is)
  (case z8=>k_is)
  (case z9=>k_is)
  (case z10=>k_is)
  (case z11=>k_is)
  (case z12=>k_is)
  (case z13=>k_is)
  (case z14=>k_is)
  (case z15=>k_is)
  (case z16=>k_is)