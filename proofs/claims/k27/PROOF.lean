import PyProof.Rows.All
import Wide.All
import OpenK.AllK
import Wide.FinOn
import Lean
import PyProof.EqAt
import PyProof.EqKinds
import PyProof.TupleCall
import PyProof.DictWalks
import KE.KDictSum
import KE.KSortTup
import PyProof.EnumMake
import PyProof.EnumFor
import PyProof.TupleIter
import PyProof.Rows.Range3
import KE.KLam
import KE.KNestM
import PyProof.ZipIter
import PyProof.TupleKey
import PyProof.AttrMissHeap
import KE.KDictOf
import PyProof.DictList
import PySem.Challenge.RW_classtab_k27_traces_and_pieces
set_option Elab.async false
set_option linter.all false
set_option maxRecDepth 100000
theorem Za {α β:Type _}{l:List α}{f:α->β}:(l.map f).length=l.length:=List.length_map ..
theorem Zb {α:Type _}{l:List α}{i:Nat}{a:α}:l.getD i a=l[i]?.getD a:=List.getD_eq_getElem?_getD ..
theorem Zc {α β:Type _}{f:α->β}{l:List α}{i:Nat}:(l.map f)[i]?=l[i]?.map f:=List.getElem?_map ..
theorem Zd {α:Type _}{a b:List α}:(a++b).length=a.length+b.length:=List.length_append ..
theorem Ze {α:Type _}{n:Nat}{a:α}:(List.replicate n a).length=n:=List.length_replicate ..
theorem Zf {α:Type _}{l:List α}{i:Nat}(h:i<l.length):l[i]?=some l[i]:=List.getElem?_eq_getElem h
theorem Zg {n:Nat}:(List.range n).length=n:=List.length_range ..
theorem Zh {α:Type _}{l:List α}:l.toArray.size=l.length:=List.size_toArray ..
theorem Zi {α:Type _}{a:α}{l:List α}:(a::l).length=l.length+1:=List.length_cons ..
theorem Zj (n:Nat):(n:Int).toNat=n:=Int.toNat_natCast n
theorem Zk {α:Type _}{a:α}:[a].length=1:=List.length_singleton ..
abbrev Zl:=@PySem.wpAny_bind
abbrev Zm:=@PySem.wpAny_pure
abbrev Zn:=@PySem.Heap.get?_push_of_some
abbrev Zo:=@PySem.Heap.get?_push_size
abbrev Zp:=@PySem.Heap.lt_size
abbrev Zq:=@Nat.le_refl
abbrev Zr.{u}:=@Array.length_toList.{u}
namespace L2
open PySem PySem.Spec PyProof.Rows
abbrev ZT:=Sum Int Str
def Vq:ZT->Value->Bool
 | .inl k,v=>Value.isInt k v
 | .inr x,v=>Value.isStrOf x v
def ZkJ (w:World):ZT->Int
 | .inl k=>hashInt k
 | .inr x=>hashStr w x
theorem ZZ:∀{k:ZT}{v:Value},Vq k v=true->(∃i t,k=Sum.inl i/\v=Value.int i t)\/(∃x t,k=Sum.inr x/\v=Value.str x t)
 | .inl i,v,h=>by
  obtain⟨t,e⟩:=Value.isInt_shape (k:=i) (v:=v) h
  exact .inl ⟨i,t,rfl,e⟩
 | .inr x,v,h=>by
  obtain⟨t,e⟩:=Value.isStrOf_shape (x:=x) (v:=v) h
  exact .inr ⟨x,t,rfl,e⟩
theorem Zdh (i:Int)(t:Tok):Vq (.inl i) (.int i t)=true:=by simp[Vq,Value.isInt]
theorem Zdg (x:Str)(t:Tok):Vq (.inr x) (.str x t)=true:=by simp[Vq,Value.isStrOf]
theorem Zh9 (a b:Int):decide ((Sum.inl a:ZT)=Sum.inl b)=(a == b):=by
 by_cases e:a=b
 ·subst e;simp
 ·have h:¬(Sum.inl a:ZT)=Sum.inl b:=fun q=>e (Sum.inl.inj q)
  rw[decide_eq_false h]
  exact (beq_eq_false_iff_ne.mpr e).symm
theorem Zh6 (a b:Str):decide ((Sum.inr a:ZT)=Sum.inr b)=decide (a=b):=by
 by_cases e:a=b
 ·subst e;simp
 ·have h:¬(Sum.inr a:ZT)=Sum.inr b:=fun q=>e (Sum.inr.inj q)
  rw[decide_eq_false h,decide_eq_false e]
theorem Zh8 (a:Int)(b:Str):decide ((Sum.inl a:ZT)=Sum.inr b)=false:=decide_eq_false (fun q=>nomatch q)
theorem Zh7 (a:Str)(b:Int):decide ((Sum.inr a:ZT)=Sum.inl b)=false:=decide_eq_false (fun q=>nomatch q)
def ZS (prog:Program)(w:World):PySem.KeyKind prog w ZT where
 is:=Vq
 hash:=ZkJ w
 inj:=fun v a b ha hb=>by
  rcases ZZ ha with ⟨i,t,rfl,rfl⟩|⟨x,t,rfl,rfl⟩
  ·rcases ZZ hb with ⟨j,u,rfl,e⟩|⟨y,u,rfl,e⟩
   ·injection e with e1 _;rw[e1]
   ·exact nomatch e
  ·rcases ZZ hb with ⟨j,u,rfl,e⟩|⟨y,u,rfl,e⟩
   ·exact nomatch e
   ·injection e with e1 _;rw[e1]
 byValue:=fun k v h=>by
  rcases ZZ h with ⟨i,t,rfl,rfl⟩|⟨x,t,rfl,rfl⟩ <;> rfl
 pyHash:=fun hv h=>by
  rcases ZZ hv with ⟨i,t,rfl,rfl⟩|⟨x,t,rfl,rfl⟩
  ·exact wpAny_pyHash_int h
  ·exact wpAny_pyHash_str h
 eqBool:=fun hu hv h=>by
  rcases ZZ hu with ⟨i,t,rfl,rfl⟩|⟨x,t,rfl,rfl⟩
  ·rcases ZZ hv with ⟨j,u,rfl,rfl⟩|⟨y,u,rfl,rfl⟩
   ·rw[Zh9] at h;exact wpAny_eqBool_int h
   ·rw[Zh8] at h;exact SeqAt.EqAt.int_str i t y u _ _ _ _ h
  ·rcases ZZ hv with ⟨j,u,rfl,rfl⟩|⟨y,u,rfl,rfl⟩
   ·rw[Zh7] at h;exact SeqAt.EqAt.str_int x t j u _ _ _ _ h
   ·rw[Zh6] at h;exact wpAny_eqBool_str h
 «strs»:=fun k x t v h=>by
  rcases ZZ h with ⟨i,u,rfl,e⟩|⟨y,u,rfl,e⟩
  ·exact nomatch e
  ·injection e with e1 _
   subst e1
   cases v <;> rfl
theorem Zan (prog:Program)(w:World)(i:Int)(t:Tok):(ZS prog w).is (.inl i) (.int i t)=true:=Zdh i t
theorem Zam (prog:Program)(w:World)(x:Str)(t:Tok):(ZS prog w).is (.inr x) (.str x t)=true:=Zdg x t
inductive V where
 |non|bl (b:Bool)|int (i:Int)|str (x:Str)|byt (b:Array UInt8)|flt (b:UInt64)|ref (a:Addr)|ty (n:String)
 deriving DecidableEq
def RelV:V->Value->Prop
 | .non,u=>u=Value.none
 | .bl b,u=>u=Value.bool b
 | .int i,u=>∃t,u=Value.int i t
 | .str x,u=>∃t,u=Value.str x t
 | .byt b,u=>∃t,u=Value.bytes b t
 | .flt b,u=>∃t,u=Value.float b t
 | .ref a,u=>u=Value.ref a
 | .ty n,u=>u=Value.type n
abbrev ZB:List V->List Value->Prop:=Paired RelV
theorem ZB.length {xs:List V}{us:List Value}(r:ZB xs us):xs.length=us.length:=Paired.length r
theorem ZB.get:∀{xs:List V}{us:List Value}{i:Nat}{x:V},ZB xs us->xs[i]?=some x->∃u,us[i]?=some u/\RelV x u
 |_,_,_,_,.nil,e=>by simp at e
 |_,_,0,_,.cons r _,e=>by simp at e;subst e;exact⟨_,rfl,r⟩
 |_,_,i+1,x,.cons _ t,e=>by
  obtain⟨u,h1,h2⟩:=ZB.get (i:=i) (x:=x) t (by simpa using e)
  exact⟨u,by simpa using h1,h2⟩
theorem ZB.append:∀{xs ys:List V}{us ws:List Value},ZB xs us->ZB ys ws->ZB (xs++ys) (us++ws)
 |_,_,_,_,.nil,s=>s
 |_,_,_,_,.cons r t,s=>.cons r (ZB.append t s)
theorem ZB.take:∀{xs:List V}{us:List Value} (n:Nat),ZB xs us->ZB (xs.take n) (us.take n)
 |_,_,0,_=>.nil
 |_,_,_+1,.nil=>.nil
 |_,_,n+1,.cons r t=>.cons r (ZB.take n t)
theorem ZB.drop:∀{xs:List V}{us:List Value} (n:Nat),ZB xs us->ZB (xs.drop n) (us.drop n)
 |_,_,0,r=>r
 |_,_,_+1,.nil=>.nil
 |_,_,n+1,.cons _ t=>ZB.drop n t
def X6:Option V->Option Value->Prop
 |some v,some u=>RelV v u
 |none,none=>True
 |_,_=>False
def KV {κ:Type}:List (κ×V)->List (κ×Value)->Prop:=Paired fun (p:κ×V) (q:κ×Value)=>p.1=q.1/\RelV p.2 q.2
def kV:ZT->V
 | .inl i=>.int i
 | .inr x=>.str x
inductive HO where
 |lst (xs:List V)
 |tup (xs:List V)
 |dK (kvs:List (ZT×V))|dT (kvs:List (List ZT×V))
 |set (S:Int->Bool) (n:Nat)
 |ins (C dx:Addr) (fs:List (Str×V))
 |own (x:Addr)
 |xd (fs:List (Str×V))
 |met (f x:Addr)
 |rng (lo hi:Int)
 |frz (o:Obj) (u:HO)
 |tbl (ps:Array Value)
 |ext (φ:Heap->Prop)
abbrev Hp:=Addr->Option HO
def upd (H:Hp)(a:Addr)(o:HO):Hp:=fun b=>if b=a then some o else H b
theorem Zt {H:Hp}{a:Addr}{o:HO}:upd H a o a=some o:=by unfold upd;rw[if_pos rfl]
theorem Zw {H:Hp}{a b:Addr}{o:HO}(h:b≠a):upd H a o b=H b:=by unfold upd;rw[if_neg h]
theorem ZfB {H:Hp}{a:Addr}{o u:HO}:upd (upd H a o) a u=upd H a u:=by
 funext b;unfold upd;split <;> rfl
theorem Zjy {H:Hp}{a b:Addr}{o u:HO}(h:H a=some o)(h':H b=some u)(d:o≠u):a≠b:=by
 intro e;subst e;rw[h] at h';exact d (Option.some.inj h')
theorem ZN {H:Hp}{a b:Addr}{o:HO}(h:H a=some o)(h':H b=none):a≠b:=by
 intro e;subst e;rw[h] at h';cases h'
section
variable (P:Program)(w:World)
def Z3 (H:Hp)(h:Heap)(a:Addr):HO->Prop
 | .lst xs=>xs.length<=sizeLine/\∃(its:List Value) (n:Nat),ZB xs its/\h.get? a=some {cls:=.type "list",data:=.seq its.toArray n}
 | .tup xs=>xs.length<=sizeLine/\∃its:List Value,ZB xs its/\IsTup h a its.toArray
 | .dK kvs=>kvs.length<=sizeLine/\(a == sysModules)=false/\∃vs,KV kvs vs/\h.DictOf (ZS P w) a vs
 | .dT kvs=>kvs.length<=sizeLine/\(a == sysModules)=false/\∃xs:List (List ZT×Addr×Value),
   Paired (fun (p:List ZT×V) (q:List ZT×Addr×Value)=>p.1=q.1/\H q.2.1=some (.tup (p.1.map kV))/\RelV p.2 q.2.2) kvs xs/\
   ∃o es ep,h.get? a=some o/\o.ExactDict/\o.data=.dict es ep/\es.toList=xs.map (entryOfKey (tupleKind (ZS P w)))/\(xs.map (·.1)).Nodup
 | .set S n=>h.SetOf (intKind P w) a S n
 | .ins C dx fs=>H dx=some (.own a)/\fs.length<=1000/\dx≠a/\h.get? a=some (PySem.W.instObj C dx)/\
   ∃mA,h.Ns1 dx mA/\(∀f,X6 (fs.lookup f) (mA f))/\PySem.Within mA (fs.map (·.1))
 | .own _=>∃o,h.get? a=some o
 | .xd fs=>∃mA,h.Ns1 a mA/\∀f,X6 (fs.lookup f) (mA f)
 | .rng lo hi=>∃t u v,h.get? a=some {cls:=.type "range",data:=.fields #[.int lo t,.int hi u,.int 1 v]}
 | .frz o u=>h.get? a=some o/\Z3 H h a u
 | .tbl ps=>h.get? a=some {cls:=.none,data:=.fields ps}
 | .met f x=>h.get? a=some (PySem.W.methodObj (.ref f) (.ref x))
 | .ext φ=>φ h/\(∃o,h.get? a=some o)/\∀h1 h2:Heap,φ h1->(∀o,h1.get? a=some o->h2.get? a=some o)->φ h2
def JC (H:Hp)(h:Heap):Prop:=∀a o,H a=some o->Z3 P w H h a o
end
section
variable {P:Program}{w:World}{H H':Hp}{h h':Heap}{a:Addr}{o:HO}
theorem Z3.lt (x:Z3 P w H h a o):a<h.objs.size:=by
 cases o with
 |lst xs=>obtain⟨_,_,_,_,e⟩:=x;exact Zp e
 |tup xs=>obtain⟨_,_,_,p⟩:=x;exact p.lt
 |dK kvs=>obtain⟨_,_,_,_,o,_,_,e,_⟩:=x;exact Zp e
 |dT kvs=>obtain⟨_,_,_,_,o,_,_,e,_⟩:=x;exact Zp e
 |set S n=>obtain⟨o,_,_,_,e,_⟩:=x;exact Zp e
 |ins C dx fs=>obtain⟨_,_,_,e,_⟩:=x;exact Zp e
 |own y=>obtain⟨_,e⟩:=x;exact Zp e
 |xd fs=>obtain⟨_,⟨_,_,_,e,_⟩,_⟩:=x;exact Zp e
 |rng lo hi=>obtain⟨_,_,_,e⟩:=x;exact Zp e
 |frz ob u=>obtain⟨e,_⟩:=x;exact Zp e
 |tbl ps=>exact Zp (show h.get? a=some _ from x)
 |met f y=>exact Zp (show h.get? a=some _ from x)
 |ext φ=>obtain⟨_,⟨_,e⟩,_⟩:=x;exact Zp e
theorem Paired.mapP {α β:Type}{F G:α->β->Prop}:∀{l₁:List α}{l₂:List β},Paired F l₁ l₂->(∀a b,F a b->G a b)->Paired G l₁ l₂
 |_,_,.nil,_=>.nil
 |_,_,.cons r t,f=>.cons (f _ _ r) (Paired.mapP t f)
theorem Z3.stay (x:Z3 P w H h a o)(k:∀b u,(b=a\/H b=some (.own a))->h.get? b=some u->h'.get? b=some u)
  (ho:∀b,H b=some (.own a)->H' b=some (.own a)) (ht:∀b xs,H b=some (.tup xs)->H' b=some (.tup xs)):Z3 P w H' h' a o:=by
 induction o with
 |lst xs=>obtain⟨z,its,n,r,e⟩:=x;exact⟨z,its,n,r,k _ _ (.inl rfl) e⟩
 |tup xs=>obtain⟨z,its,r,ob,e,c⟩:=x;exact⟨z,its,r,ob,k _ _ (.inl rfl) e,c⟩
 |dK kvs=>obtain⟨z,y,vs,r,ob,es,ep,e,c⟩:=x;exact⟨z,y,vs,r,ob,es,ep,k _ _ (.inl rfl) e,c⟩
 |dT kvs=>
  obtain⟨z,y,xs,r,ob,es,ep,e,c⟩:=x
  exact⟨z,y,xs,Paired.mapP r fun p q z=>⟨z.1,ht _ _ z.2.1,z.2.2⟩,ob,es,ep,k _ _ (.inl rfl) e,c⟩
 |set S n=>obtain⟨ob,es,ep,t,e,c⟩:=x;exact⟨ob,es,ep,t,k _ _ (.inl rfl) e,c⟩
 |ins C dx fs=>
  obtain⟨d,z,ne,e,mA,⟨od,es,ep,e2,c⟩,r⟩:=x
  exact⟨ho _ d,z,ne,k _ _ (.inl rfl) e,mA,⟨od,es,ep,k _ _ (.inr d) e2,c⟩,r⟩
 |own y=>obtain⟨ob,e⟩:=x;exact⟨ob,k _ _ (.inl rfl) e⟩
 |xd fs=>obtain⟨mA,⟨od,es,ep,e,c⟩,r⟩:=x;exact⟨mA,⟨od,es,ep,k _ _ (.inl rfl) e,c⟩,r⟩
 |rng lo hi=>obtain⟨t,u,v,e⟩:=x;exact⟨t,u,v,k _ _ (.inl rfl) e⟩
 |frz ob u ih=>obtain⟨e,q⟩:=x;exact⟨k _ _ (.inl rfl) e,ih q⟩
 |tbl ps=>
  have e:h.get? a=some {cls:=.none,data:=.fields ps}:=x
  show h'.get? a=some {cls:=.none,data:=.fields ps}
  exact k a _ (.inl rfl) e
 |met f y=>
  have e:h.get? a=some (PySem.W.methodObj (.ref f) (.ref y)):=x
  show h'.get? a=some (PySem.W.methodObj (.ref f) (.ref y))
  exact k a _ (.inl rfl) e
 |ext φ=>obtain⟨p,⟨o,e⟩,st⟩:=x;exact⟨st _ _ p fun o q=>k _ _ (.inl rfl) q,⟨o,k _ _ (.inl rfl) e⟩,st⟩
theorem JC.lt (x:JC P w H h)(e:H a=some o):a<h.objs.size:=(x a o e).lt
theorem JC.fresh (x:JC P w H h)(e:h.objs.size<=a):H a=none:=by
 cases q:H a with
 |none=>rfl
 |some u=>exact absurd (Nat.lt_of_lt_of_le (x.lt q) e) (Nat.lt_irrefl _)
theorem JC.kept (x:JC P w H h)(k:∀b u,h.get? b=some u->h'.get? b=some u):JC P w H h':=fun a o e=>
 (x a o e).stay (fun b u _ q=>k b u q) (fun _ q=>q) fun _ _ q=>q
theorem JC.laid (x:JC P w H h)(k:∀b u,h.get? b=some u->h'.get? b=some u)(hp:h.objs.size<=a)(new:Z3 P w (upd H a o) h' a o):JC P w (upd H a o) h':=fun b u e=>by
 have hn:=x.fresh hp
 by_cases hb:b=a
 ·subst hb;rw[Zt] at e;cases e;exact new
 ·rw[Zw hb] at e
  exact (x b u e).stay (fun c v _ q=>k c v q) (fun c q=>by rw[Zw (ZN q hn)];exact q) fun c xs q=>by rw[Zw (ZN q hn)];exact q
end
def Rd (H:Hp)(a:Addr)(u:HO):Prop:=H a=some u\/∃o,H a=some (.frz o u)
theorem Rd.ok {P:Program}{w:World}{H:Hp}{h:Heap}{a:Addr}{u:HO}(r:Rd H a u)(x:JC P w H h):Z3 P w H h a u:=by
 rcases r with r|⟨o,r⟩
 ·exact x a u r
 ·obtain⟨_,q⟩:=x a _ r
  exact q
def Mut:Option HO->Prop
 |some (.lst _)=>True
 |some (.dK _)=>True
 |some (.dT _)=>True
 |some (.set _ _)=>True
 |some (.ins _ _ _)=>True
 |some (.ext _)=>True
 |_=>False
section
variable {P:Program}{w:World}{H:Hp}{h h':Heap}{x e:Addr}{o':HO}
theorem JC.write (ok:JC P w H h)(mu:Mut (H x))(he:e=x\/H e=some (.own x))(k:∀b u,b≠e->h.get? b=some u->h'.get? b=some u)(heo:∃u,h'.get? e=some u)
  (new:Z3 P w (upd H x o') h' x o'):JC P w (upd H x o') h':=fun b u q=>by
 have nown:∀c y,H c=some (.own y)->c≠x:=fun c y r z=>by subst z;rw[r] at mu;exact mu
 have ntup:∀c xs,H c=some (.tup xs)->c≠x:=fun c xs r z=>by subst z;rw[r] at mu;exact mu
 by_cases hb:b=x
 ·subst hb;rw[Zt] at q;cases q;exact new
 ·rw[Zw hb] at q
  by_cases hbe:b=e
  ·have q':H b=some (.own x):=by
    rcases he with z|z
    ·exact absurd (hbe.trans z) hb
    ·rw[hbe];exact z
   rw[q] at q';cases q'
   obtain⟨v,hv⟩:=heo
   exact⟨v,by rw[hbe];exact hv⟩
  ·refine (ok b u q).stay (fun c v hc r=>k c v ?_ r) (fun c r=>by rw[Zw (nown c b r)];exact r) fun c xs r=>by rw[Zw (ntup c xs r)];exact r
   rcases hc with rfl|hc
   ·exact hbe
   ·rintro rfl
    rcases he with z|z
    ·exact nown c b hc z
    ·rw[hc] at z;cases z;exact hb rfl
end
structure Un (fs ex:List Addr)(H H':Hp)(h h':Heap):Prop where
 keep:∀b o,h.get? b=some o->H b=none->b∉fs->b∉ex->h'.get? b=some o
 slot:∀b o,h.get? b=some o->H b=none->b∈fs->b∉ex->∃sl,h'.get? b=some {o with slots:=sl}
 free:∀b o,h.get? b=some o->H b=none->b∉ex->H' b=none
 there:∀b o,h.get? b=some o->b∉ex->∃o',h'.get? b=some o'
 tups:∀b xs,H b=some (.tup xs)->H' b=some (.tup xs)
 frzs:∀b o u,H b=some (.frz o u)->H' b=some (.frz o u)
 tbls:∀b ps,H b=some (.tbl ps)->∃more,H' b=some (.tbl (ps++more))
section
variable {fs fs' ex ex':List Addr}{H H1 H2:Hp}{h h1 h2 h':Heap}{a x e:Addr}{o:HO}
theorem Un.any (u:Un fs ex H H1 h h1){b:Addr}{ob:Obj}(q:h.get? b=some ob)(n:H b=none)(hx:b∉ex):∃sl,h1.get? b=some {ob with slots:=sl}:=by
 by_cases hb:b∈fs
 ·exact u.slot b ob q n hb hx
 ·exact⟨ob.slots,u.keep b ob q n hb hx⟩
theorem Un.kept (k:∀b u,h.get? b=some u->h'.get? b=some u):Un fs ex H H h h':=
 ⟨fun b ob q _ _ _=>k b ob q,fun b ob q _ _ _=>⟨ob.slots,k b ob q⟩,fun _ _ _ n _=>n,fun b ob q _=>⟨ob,k b ob q⟩,fun _ _ q=>q,fun _ _ _ q=>q,fun _ ps q=>⟨#[],by rw[q];simp⟩⟩
theorem Un.refl:Un fs ex H H h h:=Un.kept fun _ _ q=>q
theorem Un.laid (k:∀b u,h.get? b=some u->h'.get? b=some u)(hp:h.objs.size<=a)(hn:H a=none):Un fs ex H (upd H a o) h h' where
 keep:=fun b u q _ _ _=>k b u q
 slot:=fun b u q _ _ _=>⟨u.slots,k b u q⟩
 free:=fun b u q n _=>by rw[Zw (Nat.ne_of_lt (Nat.lt_of_lt_of_le (Zp q) hp))];exact n
 there:=fun b u q _=>⟨u,k b u q⟩
 tups:=fun b xs q=>by rw[Zw (ZN q hn)];exact q
 frzs:=fun b u xs q=>by rw[Zw (ZN q hn)];exact q
 tbls:=fun b ps q=>⟨#[],by rw[Zw (ZN q hn),q];simp⟩
theorem Un.write (mu:Mut (H x))(he:e=x\/H e=some (.own x))(k:∀b u,b≠e->h.get? b=some u->h'.get? b=some u)(heo:∃u,h'.get? e=some u):Un fs ex H (upd H x o) h h':=by
 have hx:∀b,H b=none->b≠x:=fun b n z=>by subst z;rw[n] at mu;exact mu
 have hb:∀b,H b=none->b≠e:=fun b n z=>by
  subst z
  rcases he with r|r
  ·exact hx b n r
  ·rw[n] at r;cases r
 have hm:∀b u,H b=some u->¬Mut (some u)->b≠x:=fun b u q nm z=>by subst z;rw[q] at mu;exact nm mu
 refine⟨fun b u q n _ _=>k b u (hb b n) q,fun b u q n _ _=>⟨u.slots,k b u (hb b n) q⟩,fun b u q n _=>by rw[Zw (hx b n)];exact n,fun b u q _=>?_,
  fun b xs q=>by rw[Zw (hm b _ q fun z=>z)];exact q,fun b u xs q=>by rw[Zw (hm b _ q fun z=>z)];exact q,fun b ps q=>⟨#[],by rw[Zw (hm b _ q fun z=>z),q];simp⟩⟩
 by_cases hbe:b=e
 ·subst hbe;exact heo
 ·exact⟨u,k b u hbe q⟩
end
def trk (h:Heap)(H:Hp):List Addr:=(List.range h.objs.size).filter fun a=>(H a).isSome
def Uo (h:Heap)(H:Hp):Heap:=PySem.W.hideAll h (trk h H)
theorem Zdk (h:Heap)(H:Hp):(Uo h H).objs.size=h.objs.size:=PySem.W.hideAll_size _ _
theorem Ze2 {h:Heap}{H:Hp}{b:Addr}{o:Obj}(e:h.get? b=some o)(n:H b=none):(Uo h H).get? b=some o:=
 PySem.W.hideAll_get _ e fun hm=>by
  have q:(H b).isSome=true:=(List.mem_filter.mp hm).2
  rw[n] at q;simp at q
theorem Zgi {h:Heap}{H:Hp}{b:Addr}{o:Obj}(e:(Uo h H).get? b=some o):h.get? b=some o/\H b=none:=by
 have e':h.get? b=some o:=PySem.W.of_hideAll (trk h H) e
 refine⟨e',?_⟩
 cases q:H b with
 |none=>rfl
 |some x=>
  have hm:b∈trk h H:=List.mem_filter.mpr ⟨List.mem_range.mpr (Zp e'),by simp[q]⟩
  have z:(Uo h H).get? b=none:=PySem.W.hideAll_none (trk h H) hm
  rw[z] at e;cases e
structure Mod (K:PySem.W.Frag)(mg:Str->Option Value)(base:Heap):Prop where
 kin:K.In base
 glob:base.Ns mainGlobals mg
 blt:∃mb,base.Ns builtinsNs mb/\∀x:Str,x ≠ "__name__"->mb x=bootBuiltins x
 nolimit:base.NoLimit
structure Cx where
 prog:Program
 w:World
 K:PySem.W.Frag
 mg:Str->Option Value
 base:Heap
 A:Around
 N:List Str
 s₀:Shared
 H₀:Hp
 env:Env
 outer:List Env
 stack:List Env
 ex:List Addr
 fn:Str->Bool
 calm:Bool
 pn:List (Addr×Obj)
 xe:Value->Shared->Prop
def frs (l:List Env):List Addr:=l.filterMap (·.frame)
abbrev Cx.fs (X:Cx):List Addr:=frs X.outer
def Vis (sc:Scope)(x:Str):Prop:=sc.names.lookup x=some .local\/sc.names.lookup x=some .cell\/sc.names.lookup x=some .free
def Loc (sc:Scope)(x:Str):Prop:=sc.names.lookup x=some .local\/sc.names.lookup x=some .cell
def Look (env:Env)(h:Heap)(m:Str->Option Value)(x:Str)(u:Value):Prop:=
 (env.kindOf x=some .local/\m x=some u)\/((env.kindOf x=some .cell\/env.kindOf x=some .free)/\∃c,env.cells.lookup x=some c/\h.IsCell c (some u))
structure Cx.Ok (X:Cx):Prop where
 mod:Mod X.K X.mg X.base
 kind:X.env.scope.kind=.function
 glob:X.env.globals=mainGlobals
 blt:X.env.builtins=builtinsNs
 above:X.s₀.heap.objs.size<=X.env.locals
 inj:∀x y c,X.env.cells.lookup x=some c->X.env.cells.lookup y=some c->x=y
 has:∀x,(X.env.kindOf x=some .cell\/X.env.kindOf x=some .free)->∃c,X.env.cells.lookup x=some c
 cab:∀x c,X.fn x=true->X.env.cells.lookup x=some c->X.s₀.heap.objs.size<=c
 hd:X.calm=true->X.A.handled=none
 frames:X.A.frames=some X.stack
 stk:X.stack=X.outer\/(X.stack=X.env::X.outer/\X.env.frame=some X.env.locals)
 exf:∀b∈X.ex,b≠X.env.locals/\∀x c,X.env.cells.lookup x=some c->c≠b
 bs:∀b o,X.base.get? b=some o->X.s₀.heap.get? b=some o/\X.H₀ b=none
 bsz:X.base.objs.size<=X.s₀.heap.objs.size
 noex:∀b o,X.base.get? b=some o->b∉X.ex
 exfs:∀b∈X.ex,b∉X.fs
 funs:X.s₀.heap.FunFrames X.base X.outer
 frf:∀b∈X.fs,X.H₀ b=none
structure Inv (X:Cx)(pins:List (Addr×Obj))(σ:List (Option V))(H:Hp)(s:Shared):Prop where
 ok:X.Ok
 os:s.os=X.s₀.os
 bare:AllBare s.gens
 base:Un X.fs X.ex X.H₀ H X.s₀.heap s.heap
 loc:∃m,s.heap.Ns X.env.locals m/\∀(i:Nat) (x:Str) (v:V),X.N[i]?=some x->σ[i]?=some (some v)->Vis X.env.scope x->∃u,RelV v u/\Look X.env s.heap m x u
 cell:∀x c,X.env.cells.lookup x=some c->∃v,s.heap.IsCell c v
 free:H X.env.locals=none
 freeC:∀x c,X.env.cells.lookup x=some c->H c=none
 pin:∀p∈X.pn++pins,s.heap.get? p.1=some p.2/\H p.1=none/\p.1≠X.env.locals/\p.1∉X.fs/\∀v,p.2.data≠.cell v
 hok:JC X.prog X.w H s.heap
 len:σ.length=X.N.length
section
variable {X:Cx}{pins:List (Addr×Obj)}{σ:List (Option V)}{H H':Hp}{s:Shared}{h':Heap}
theorem Cx.Ok.nofr (ok:X.Ok){b:Addr}{o:Obj}(e:X.base.get? b=some o):b∉X.fs:=fun hb=>by
 have:=(ok.funs.mem hb).1
 rw[e] at this;cases this
theorem Inv.bs (I:Inv X pins σ H s):∀b o,X.base.get? b=some o->s.heap.get? b=some o/\H b=none:=fun b o e=>
 ⟨I.base.keep b o (I.ok.bs b o e).1 (I.ok.bs b o e).2 (I.ok.nofr e) (I.ok.noex b o e),I.base.free b o (I.ok.bs b o e).1 (I.ok.bs b o e).2 (I.ok.noex b o e)⟩
theorem Inv.bk (I:Inv X pins σ H s):∀b o,X.base.get? b=some o->s.heap.get? b=some o:=fun b o e=>(I.bs b o e).1
theorem Inv.mod (I:Inv X pins σ H s):Mod X.K X.mg X.base:=I.ok.mod
theorem Inv.kIn (I:Inv X pins σ H s):X.K.In s.heap:=I.ok.mod.kin.keeps I.bk
theorem Inv.lt (I:Inv X pins σ H s):X.env.locals<s.heap.objs.size:=let ⟨_,hn,_⟩:=I.loc;hn.lt
theorem Inv.sz (I:Inv X pins σ H s):X.s₀.heap.objs.size<=s.heap.objs.size:=Nat.le_trans I.ok.above (Nat.le_of_lt I.lt)
theorem Inv.nofs (I:Inv X pins σ H s){a:Addr}(h:s.heap.objs.size<=a):a∉X.fs:=fun hb=>by
 obtain⟨_,o,ho,_⟩:=I.ok.funs.mem hb
 exact absurd (Nat.lt_of_lt_of_le (Zp ho) (Nat.le_trans I.sz h)) (Nat.lt_irrefl _)
theorem Inv.cne (I:Inv X pins σ H s):∀x c,X.env.cells.lookup x=some c->c≠X.env.locals:=fun x c e z=>by
 obtain⟨v,o,ho,hd⟩:=I.cell x c e
 obtain⟨m,⟨o',es,ep,ho',hd',_⟩,_⟩:=I.loc
 rw[z,ho'] at ho;cases ho;rw[hd'] at hd;cases hd
theorem Inv.funs (I:Inv X pins σ H s):s.heap.FunFrames X.base X.outer:=by
 have all:∀(l:List Env),(∀b∈frs l,b∈X.fs)->X.s₀.heap.FunFrames X.base l->s.heap.FunFrames X.base l:=by
  intro l
  induction l with
  |nil=>intro _ _;trivial
  |cons env r ih=>
   intro hs hl
   obtain⟨hk,⟨L,o,hf,hn,ho,hd⟩,hr⟩:=hl
   have hL:L∈X.fs:=hs L (by unfold frs;rw[List.filterMap_cons,hf];exact List.mem_cons_self)
   obtain⟨sl,e⟩:=I.base.slot L o ho (I.ok.frf L hL) hL fun z=>I.ok.exfs L z hL
   exact⟨hk,⟨L,_,hf,hn,e,hd⟩,ih (fun b hb=>hs b (by unfold frs;rw[List.filterMap_cons,hf];exact List.mem_cons_of_mem _ hb)) hr⟩
 exact all X.outer (fun _ hb=>hb) I.ok.funs
theorem Inv.stack (I:Inv X pins σ H s):s.heap.FunFrames X.base X.stack:=by
 rcases I.ok.stk with e|⟨e,hf⟩
 ·rw[e];exact I.funs
 ·rw[e]
  obtain⟨m,hn,_⟩:=I.loc
  refine .cons (by rw[I.ok.kind];decide) hf hn ?_ I.funs
  exact Heap.get?_none_of_le (Nat.le_trans I.ok.bsz I.ok.above)
theorem Inv.stkSub (I:Inv X pins σ H s):∀b∈frs X.stack,b∈X.env.locals::X.fs:=fun b hb=>by
 rcases I.ok.stk with e|⟨e,hf⟩
 ·rw[e] at hb;exact List.mem_cons_of_mem _ hb
 ·rw[e] at hb
  unfold frs at hb
  rw[List.filterMap_cons,hf] at hb
  exact hb
theorem Inv.stkFree (I:Inv X pins σ H s):∀b∈frs X.stack,H b=none:=fun b hb=>by
 rcases List.mem_cons.mp (I.stkSub b hb) with e|hb
 ·rw[e];exact I.free
 ·obtain⟨_,o,ho,_⟩:=I.ok.funs.mem hb
  exact I.base.free b o ho (I.ok.frf b hb) fun z=>I.ok.exfs b z hb
theorem Inv.step {g':Array GenState}{t':Nat}{d':Drawn}{ch:List Addr}(I:Inv X pins σ H s)
  (hch:∀b∈ch,(b∈X.ex\/X.s₀.heap.objs.size<=b)/\b≠X.env.locals/\(∀x c,X.env.cells.lookup x=some c->c≠b)/\∀p∈X.pn++pins,p.1≠b)
  (keep:∀b o,b≠X.env.locals->b∉X.fs->b∉ch->s.heap.get? b=some o->H b=none->h'.get? b=some o)
  (slot:∀b o,b≠X.env.locals->b∈X.fs->b∉ch->s.heap.get? b=some o->H b=none->∃sl,h'.get? b=some {o with slots:=sl}) (free:∀b o,b∉ch->s.heap.get? b=some o->H b=none->H' b=none)
  (there:∀b o,b∉ch->s.heap.get? b=some o->∃o',h'.get? b=some o')
  (tups:∀b xs,H b=some (.tup xs)->H' b=some (.tup xs)) (frzs:∀b o u,H b=some (.frz o u)->H' b=some (.frz o u)) (tbls:∀b ps,H b=some (.tbl ps)->∃more,H' b=some (.tbl (ps++more)))
  (ns:∀m,s.heap.Ns X.env.locals m->h'.Ns X.env.locals m) (hok:JC X.prog X.w H' h') (hg:AllBare g') :
  Inv X pins σ H' {s with heap:=h',gens:=g',drawn:=d',toks:=t'}:=by
 have neL:∀b o,X.s₀.heap.get? b=some o->b≠X.env.locals:=fun b o e=>Nat.ne_of_lt (Nat.lt_of_lt_of_le (Zp e) I.ok.above)
 have neC:∀b o,X.s₀.heap.get? b=some o->b∉X.ex->b∉ch:=fun b o e hx hb=>by
  rcases (hch b hb).1 with z|z
  ·exact hx z
  ·exact absurd (Nat.lt_of_lt_of_le (Zp e) z) (Nat.lt_irrefl _)
 have cellK:∀x c,X.env.cells.lookup x=some c->∀v,s.heap.IsCell c v->h'.IsCell c v:=fun x c e v ⟨o,ho,hd⟩=>by
  have nch:c∉ch:=fun z=>(hch c z).2.2.1 x c e rfl
  by_cases hc:c∈X.fs
  ·obtain⟨sl,q⟩:=slot c o (I.cne x c e) hc nch ho (I.freeC x c e)
   exact⟨_,q,hd⟩
  ·exact⟨o,keep c o (I.cne x c e) hc nch ho (I.freeC x c e),hd⟩
 refine⟨I.ok,I.os,hg,⟨fun b o e n hb hx=>?_,fun b o e n hb hx=>?_,fun b o e n hx=>?_,fun b o e hx=>?_,fun b xs e=>tups b xs (I.base.tups b xs e),fun b o xs e=>frzs b o xs (I.base.frzs b o xs e),fun b ps e=>?_⟩,?_,fun x c e=>?_,?_,fun x c e=>?_,fun p hp=>?_,hok,I.len⟩
 ·exact keep b o (neL b o e) hb (neC b o e hx) (I.base.keep b o e n hb hx) (I.base.free b o e n hx)
 ·obtain⟨sl,e1⟩:=I.base.slot b o e n hb hx
  obtain⟨sl',e2⟩:=slot b _ (neL b o e) hb (neC b o e hx) e1 (I.base.free b o e n hx)
  exact⟨sl',e2⟩
 ·obtain⟨o',e1⟩:=I.base.there b o e hx
  exact free b o' (neC b o e hx) e1 (I.base.free b o e n hx)
 ·obtain⟨o',e1⟩:=I.base.there b o e hx
  exact there b o' (neC b o e hx) e1
 ·obtain⟨m1,e1⟩:=I.base.tbls b ps e
  obtain⟨m2,e2⟩:=tbls b _ e1
  exact⟨m1++m2,by rw[e2,Array.append_assoc]⟩
 ·obtain⟨m,hn,hl⟩:=I.loc
  refine⟨m,ns m hn,fun i x v e1 e2 e3=>?_⟩
  obtain⟨u,r,l⟩:=hl i x v e1 e2 e3
  refine⟨u,r,?_⟩
  rcases l with l|⟨k,c,e,z⟩
  ·exact .inl l
  ·exact .inr ⟨k,c,e,cellK x c e _ z⟩
 ·obtain⟨v,z⟩:=I.cell x c e
  exact⟨v,cellK x c e v z⟩
 ·obtain⟨m,⟨o,_,_,ho,_⟩,_⟩:=I.loc
  exact free _ o (fun z=>(hch _ z).2.1 rfl) ho I.free
 ·obtain⟨v,o,ho,hd⟩:=I.cell x c e
  exact free c o (fun z=>(hch c z).2.2.1 x c e rfl) ho (I.freeC x c e)
 ·obtain⟨e,n,ne,nf,d⟩:=I.pin p hp
  have nch:p.1∉ch:=fun z=>(hch p.1 z).2.2.2 p hp rfl
  exact⟨keep p.1 p.2 ne nf nch e n,free p.1 p.2 nch e n,ne,nf,d⟩
theorem Inv.un {t':Nat}(I:Inv X pins σ H s)(u:Un X.fs [] H H' s.heap h')(hok:JC X.prog X.w H' h'):Inv X pins σ H' {s with heap:=h',toks:=t'}:=by
 obtain⟨m,⟨o,es,ep,ho,r⟩,_⟩:=id I.loc
 obtain⟨sl,hL⟩:=u.any ho I.free (by simp)
 exact I.step (g':=s.gens) (d':=s.drawn) (ch:=[]) (fun _ z=>nomatch z) (fun b o _ hb _ e n=>u.keep b o e n hb (by simp)) (fun b o _ hb _ e n=>u.slot b o e n hb (by simp)) (fun b o _ e n=>u.free b o e n (by simp)) (fun b o _ e=>u.there b o e (by simp)) u.tups u.frzs u.tbls (fun m' hm=>by
  obtain⟨o',es',ep',ho',r'⟩:=hm
  rw[ho] at ho';cases ho'
  exact⟨_,es',ep',hL,r'⟩) hok I.bare
theorem Inv.call {g':Array GenState}{t':Nat}{d':Drawn}{ch:List Addr}(I:Inv X pins σ H s)(u:Un (frs X.stack) ch H H' s.heap h')(hok:JC X.prog X.w H' h')(hg:AllBare g')
  (hch:∀b∈ch,(b∈X.ex\/X.s₀.heap.objs.size<=b)/\b≠X.env.locals/\(∀x c,X.env.cells.lookup x=some c->c≠b)/\∀p∈X.pn++pins,p.1≠b) :
  Inv X pins σ H' {s with heap:=h',gens:=g',drawn:=d',toks:=t'}:=by
 obtain⟨m,⟨o,es,ep,ho,r⟩,_⟩:=id I.loc
 obtain⟨sl,hL⟩:=u.any ho I.free fun z=>(hch _ z).2.1 rfl
 exact I.step (ch:=ch) hch (fun b o hL hb hc e n=>u.keep b o e n (fun z=>(List.mem_cons.mp (I.stkSub b z)).elim hL hb) hc) (fun b o _ _ hc e n=>u.any e n hc) (fun b o hc e n=>u.free b o e n hc) (fun b o hc e=>u.there b o e hc) u.tups u.frzs u.tbls (fun m' hm=>by
  obtain⟨o',es',ep',ho',r'⟩:=hm
  rw[ho] at ho';cases ho'
  exact⟨_,es',ep',hL,r'⟩) hok hg
theorem Inv.turned {t':Nat}{it:Addr}(I:Inv X pins σ H s)(k:∀b o,b≠it->s.heap.get? b=some o->h'.get? b=some o)(hn:H it=none)(hL:it≠X.env.locals)
  (h1:it∈X.ex\/X.s₀.heap.objs.size<=it) (h2:∀x c,X.env.cells.lookup x=some c->c≠it) (h3:∀p∈X.pn++pins,p.1≠it):Inv X pins σ H {s with heap:=h',toks:=t'}:=by
 have nit:∀b u,H b=some u->b≠it:=fun b u e z=>by rw[z,hn] at e;cases e
 refine I.step (g':=s.gens) (d':=s.drawn) (ch:=[it]) (fun b hb=>?_) (fun b o _ _ hc e _=>k b o (fun z=>hc (by simp[z])) e) (fun b o _ _ hc e _=>⟨o.slots,k b o (fun z=>hc (by simp[z])) e⟩) (fun _ _ _ _ n=>n)
  (fun b o hc e=>⟨o,k b o (fun z=>hc (by simp[z])) e⟩) (fun _ _ e=>e) (fun _ _ _ e=>e) (fun b ps e=>⟨#[],by rw[e];simp⟩) (fun m hm=>?_) (fun b u e=>?_) I.bare
 ·have e:b=it:=by simpa using hb
  subst e
  exact⟨h1,hL,h2,h3⟩
 ·obtain⟨o,es,ep,ho,r⟩:=hm
  exact⟨o,es,ep,k _ o (Ne.symm hL) ho,r⟩
 ·refine (I.hok b u e).stay (fun c v hc q=>k c v ?_ q) (fun _ q=>q) fun _ _ q=>q
  rcases hc with z|z
  ·rw[z];exact nit b u e
  ·exact nit c _ z
theorem Inv.tok (I:Inv X pins σ H s)(t:Nat):Inv X pins σ H {s with toks:=t}:=I.un (h':=s.heap) (t':=t) Un.refl I.hok
theorem Inv.kept {t':Nat}(I:Inv X pins σ H s)(k:∀b u,s.heap.get? b=some u->h'.get? b=some u):Inv X pins σ H {s with heap:=h',toks:=t'}:=I.un (Un.kept k) (I.hok.kept k)
theorem Inv.laid {a:Addr}{o:HO}{t':Nat}(I:Inv X pins σ H s)(k:∀b u,s.heap.get? b=some u->h'.get? b=some u)(hp:s.heap.objs.size<=a)(new:Z3 X.prog X.w (upd H a o) h' a o) :
  Inv X pins σ (upd H a o) {s with heap:=h',toks:=t'}:=I.un (Un.laid k hp (I.hok.fresh hp)) (I.hok.laid k hp new)
theorem Inv.write {x e:Addr}{o:HO}{t':Nat}(I:Inv X pins σ H s)(mu:Mut (H x))(he:e=x\/H e=some (.own x))(k:∀b u,b≠e->s.heap.get? b=some u->h'.get? b=some u)(heo:∃u,h'.get? e=some u)
  (new:Z3 X.prog X.w (upd H x o) h' x o):Inv X pins σ (upd H x o) {s with heap:=h',toks:=t'}:=I.un (Un.write mu he k heo) (I.hok.write mu he k heo new)
theorem Inv.pins_of {pins':List (Addr×Obj)}(I:Inv X pins σ H s)(h:∀p∈pins',s.heap.get? p.1=some p.2/\H p.1=none/\p.1≠X.env.locals/\p.1∉X.fs/\∀v,p.2.data≠.cell v):Inv X pins' σ H s:=
 ⟨I.ok,I.os,I.bare,I.base,I.loc,I.cell,I.free,I.freeC,fun p hp=>(List.mem_append.mp hp).elim (fun z=>I.pin p (List.mem_append_left _ z)) (h p),I.hok,I.len⟩
theorem Zai {N:List Str}(hN:N.Nodup){i j:Nat}{x:Str}(a:N[i]?=some x)(b:N[j]?=some x):i=j:=by
 obtain⟨h1,e1⟩:=List.getElem?_eq_some_iff.mp a
 obtain⟨h2,e2⟩:=List.getElem?_eq_some_iff.mp b
 exact (List.getElem_inj hN).mp (e1.trans e2.symm)
theorem Vc {M:Model}{A:Around}{E:Value->Shared->Prop}{i:Nat}{x:Str}{v:V}{u:Value}{Q:Unit->Shared->Prop}(I:Inv X pins σ H s)(hN:X.N.Nodup)(hi:X.N[i]?=some x)(hx:Loc X.env.scope x)(r:RelV v u)
  (h:∀s',Inv X pins (σ.set i (some v)) H s'->(∃a,Heap.SameBut a s.heap s'.heap/\(a=X.env.locals\/X.env.cells.lookup x=some a))->Q () s') (hf:X.fn x=true\/X.env.scope.names.lookup x=some .local:=by first|exact .inl rfl|exact .inr rfl|assumption):wpAny M A (storeName X.env x u) Q E s:=by
 obtain⟨m,hn,hl⟩:=id I.loc
 have hcls:(X.env.scope.kind == .class || (X.env.scope.kind == .module && X.env.locals != X.env.globals))=false:=by rw[I.ok.kind];rfl
 have hiσ:i < σ.length:=by rw[I.len];exact (List.getElem?_eq_some_iff.mp hi).1
 have cne:=I.cne
 have tracked:∀{a:Addr}{h':Heap},(∃o,s.heap.get? a=some o/\H a=none)->Heap.SameBut a s.heap h'->JC X.prog X.w H h':=fun {a h'} ha hs b ob e=>by
  obtain⟨_,_,hfree⟩:=ha
  refine (I.hok b ob e).stay (fun c w' hc q=>(hs.2 c ?_).trans q) (fun _ q=>q) fun _ _ q=>q
  rintro rfl
  rcases hc with rfl|hc
  ·rw[hfree] at e;cases e
  ·rw[hfree] at hc;cases hc
 rcases hx with hk|hk
 ·refine wpAny_storeName_local hk hn (fun h' hn' hs=>?_) hcls
  obtain⟨oL,_,_,hoL,_⟩:=id hn
  refine h _ ⟨I.ok,I.os,I.bare,⟨fun b o e n hb hx=>?_,fun b o e n hb hx=>?_,I.base.free,fun b o e hx=>?_,I.base.tups,I.base.frzs,I.base.tbls⟩,⟨_,hn',fun j y v' e1 e2 e3=>?_⟩,fun y c e=>?_,I.free,I.freeC,fun p hp=>?_,tracked ⟨oL,hoL,I.free⟩ hs,by simpa using I.len⟩ ⟨_,hs,.inl rfl⟩
  ·exact (hs.2 b (Nat.ne_of_lt (Nat.lt_of_lt_of_le (Zp e) I.ok.above))).trans (I.base.keep b o e n hb hx)
  ·obtain⟨sl,e1⟩:=I.base.slot b o e n hb hx
   exact⟨sl,(hs.2 b (Nat.ne_of_lt (Nat.lt_of_lt_of_le (Zp e) I.ok.above))).trans e1⟩
  ·obtain⟨o',e1⟩:=I.base.there b o e hx
   exact⟨o',(hs.2 b (Nat.ne_of_lt (Nat.lt_of_lt_of_le (Zp e) I.ok.above))).trans e1⟩
  ·by_cases hj:j=i
   ·subst hj
    rw[hi] at e1;cases e1
    rw[List.getElem?_set_self hiσ] at e2
    cases e2
    exact⟨u,r,.inl ⟨hk,by simp⟩⟩
   ·rw[List.getElem?_set_ne (Ne.symm hj)] at e2
    obtain⟨u',r',q⟩:=hl j y v' e1 e2 e3
    refine⟨u',r',?_⟩
    rcases q with ⟨k,e⟩|⟨k,c,e,z⟩
    ·refine .inl ⟨k,?_⟩
     have:y≠x:=fun e=>hj (Zai hN e1 (e▸hi))
     simp[this,e]
    ·exact .inr ⟨k,c,e,z.sameBut hs (cne y c e)⟩
  ·obtain⟨w',z⟩:=I.cell y c e
   exact⟨w',z.sameBut hs (cne y c e)⟩
  ·obtain⟨e,n,ne,nf,d⟩:=I.pin p hp
   exact⟨(hs.2 p.1 ne).trans e,n,ne,nf,d⟩
 ·have hfn:X.fn x=true:=by
   rcases hf with z|z
   ·exact z
   ·rw[z] at hk;cases hk
  obtain⟨c,hc⟩:=I.ok.has x (.inl hk)
  obtain⟨w',z⟩:=I.cell x c hc
  refine wpAny_storeName_cell I.ok.kind hk hc z (fun h' hc' hs=>?_)
  obtain⟨oc,hoc,hocd⟩:=id z
  refine h {s with heap:=h'} ⟨I.ok,I.os,I.bare,⟨fun b o e n hb hx=>?_,fun b o e n hb hx=>?_,I.base.free,fun b o e hx=>?_,I.base.tups,I.base.frzs,I.base.tbls⟩,⟨m,hn.sameBut hs (Ne.symm (cne x c hc)),fun j y v' e1 e2 e3=>?_⟩,fun y c' e=>?_,I.free,I.freeC,fun p hp=>?_,tracked ⟨oc,hoc,I.freeC x c hc⟩ hs,by simpa using I.len⟩ ⟨c,hs,.inr hc⟩
  ·exact (hs.2 b (Nat.ne_of_lt (Nat.lt_of_lt_of_le (Zp e) (I.ok.cab x c hfn hc)))).trans (I.base.keep b o e n hb hx)
  ·obtain⟨sl,e1⟩:=I.base.slot b o e n hb hx
   exact⟨sl,(hs.2 b (Nat.ne_of_lt (Nat.lt_of_lt_of_le (Zp e) (I.ok.cab x c hfn hc)))).trans e1⟩
  ·obtain⟨o',e1⟩:=I.base.there b o e hx
   exact⟨o',(hs.2 b (Nat.ne_of_lt (Nat.lt_of_lt_of_le (Zp e) (I.ok.cab x c hfn hc)))).trans e1⟩
  ·by_cases hj:j=i
   ·subst hj
    rw[hi] at e1;cases e1
    rw[List.getElem?_set_self hiσ] at e2
    cases e2
    exact⟨u,r,.inr ⟨.inl hk,c,hc,hc'⟩⟩
   ·rw[List.getElem?_set_ne (Ne.symm hj)] at e2
    obtain⟨u',r',q⟩:=hl j y v' e1 e2 e3
    refine⟨u',r',?_⟩
    rcases q with q|⟨k,c',e,z'⟩
    ·exact .inl q
    ·refine .inr ⟨k,c',e,z'.sameBut hs ?_⟩
     rintro rfl
     exact hj (Zai hN e1 (I.ok.inj _ _ _ e hc▸hi))
  ·by_cases hcc:c'=c
   ·subst hcc;exact⟨_,hc'⟩
   ·obtain⟨w2,z2⟩:=I.cell y c' e
    exact⟨w2,z2.sameBut hs hcc⟩
  ·obtain⟨e,n,ne,nf,d⟩:=I.pin p hp
   refine⟨(hs.2 p.1 ?_).trans e,n,ne,nf,d⟩
   intro q
   rw[q,hoc] at e
   have q':oc=p.2:=Option.some.inj e
   exact d w' (by rw[<-q'];exact hocd)
theorem Ym {M:Model}{A:Around}{E:Value->Shared->Prop}{i:Nat}{x:Str}{v:V}{u:Value}{Q:Unit->Shared->Prop}(I:Inv X pins σ H s)(hN:X.N.Nodup)(hi:X.N[i]?=some x)(hx:Loc X.env.scope x)(r:RelV v u)
  (h:∀s',Inv X pins (σ.set i (some v)) H s'->Q () s') (hf:X.fn x=true\/X.env.scope.names.lookup x=some .local:=by first|exact .inl rfl|exact .inr rfl|assumption):wpAny M A (storeName X.env x u) Q E s:=
 Vc I hN hi hx r (fun s' I' _=>h s' I') hf
theorem Inv.call' {s':Shared}{ch:List Addr}(I:Inv X pins σ H s)(ho:s'.os=s.os)(u:Un (frs X.stack) ch H H' s.heap s'.heap)(hok:JC X.prog X.w H' s'.heap)(hg:AllBare s'.gens)
  (hch:∀b∈ch,(b∈X.ex\/X.s₀.heap.objs.size<=b)/\b≠X.env.locals/\(∀x c,X.env.cells.lookup x=some c->c≠b)/\∀p∈X.pn++pins,p.1≠b):Inv X pins σ H' s':=by
 obtain⟨h',g',d',t',o'⟩:=s'
 have e:o'=s.os:=ho
 subst e
 exact I.call (g':=g') (t':=t') (d':=d') u hok hg hch
end
abbrev XK:=Value->Option Addr->Hp->Prop
abbrev St:=List (Option V)
abbrev VK:=V->Hp->Prop
abbrev TE:=St->Hp->VK->Prop
abbrev TT:=St->Hp->(Bool->Hp->Prop)->Prop
abbrev TA:=St->Hp->(List V->Hp->Prop)->Prop
structure XU where
 nx:St->Hp->Prop
 rt:VK
 bk:St->Hp->Prop:=fun _ _=>False
 ct:St->Hp->Prop:=fun _ _=>False
abbrev TS:=XU->St->Hp->Prop
def EP (X:Cx)(pins:List (Addr×Obj))(σ:St)(Q:VK)(u:Value)(s':Shared):Prop:=∃v H',Inv X pins σ H' s'/\RelV v u/\Q v H'
def TP (X:Cx)(pins:List (Addr×Obj))(σ:St)(Q:Bool->Hp->Prop)(b:Bool)(s':Shared):Prop:=∃H',Inv X pins σ H' s'/\Q b H'
def AP (X:Cx)(pins:List (Addr×Obj))(σ:St)(Q:List V->Hp->Prop)(us:List Value)(s':Shared):Prop:=∃vs H',Inv X pins σ H' s'/\ZB vs us/\Q vs H'
def SP (X:Cx)(pins:List (Addr×Obj))(D:XU)(f:Flow)(s':Shared):Prop:=
 match f with
 | .next=>∃ σ' H',Inv X pins σ' H' s'/\D.nx σ' H'
 | .brk=>∃ σ' H',Inv X pins σ' H' s'/\D.bk σ' H'
 | .cont=>∃ σ' H',Inv X pins σ' H' s'/\D.ct σ' H'
 | .ret u=>∃v σ' H',Inv X pins σ' H' s'/\RelV v u/\D.rt v H'
def PE (X:Cx)(e:Expr)(t:TE):Prop:=
 ∀(pins:List (Addr×Obj)) (s:Shared) (σ:St) (H:Hp) (Q:VK),Inv X pins σ H s->t σ H Q->wpAny (model X.prog X.w) X.A (eval e X.env) (EP X pins σ Q) X.xe s
def PT (X:Cx)(e:Expr)(t:TT):Prop:=
 ∀(pins:List (Addr×Obj)) (s:Shared) (σ:St) (H:Hp) (Q:Bool->Hp->Prop),Inv X pins σ H s->t σ H Q->wpAny (model X.prog X.w) X.A (isTrue e X.env (eval e X.env)) (TP X pins σ Q) X.xe s
def PW (X:Cx)(e:Expr)(t:TT):Prop:=
 ∀(whole:Sem Value) (pins:List (Addr×Obj)) (s:Shared) (σ:St) (H:Hp) (Q:Bool->Hp->Prop),Inv X pins σ H s->t σ H Q->wpAny (model X.prog X.w) X.A (isTrue e X.env whole) (TP X pins σ Q) X.xe s
theorem PW.pt {X:Cx}{e:Expr}{t:TT}(h:PW X e t):PT X e t:=h _
def PA (X:Cx)(es:List Expr)(t:TA):Prop:=
 ∀(pos:Pos) (pins:List (Addr×Obj)) (s:Shared) (σ:St) (H:Hp) (Q:List V->Hp->Prop),Inv X pins σ H s->t σ H Q->wpAny (model X.prog X.w) X.A (spliced (backTo pos (starEach es X.env))) (AP X pins σ Q) X.xe s
def PS (X:Cx)(st:Stmt)(t:TS):Prop:=
 ∀(pins:List (Addr×Obj)) (s:Shared) (σ:St) (H:Hp) (D:XU),Inv X pins σ H s->t D σ H->wpAny (model X.prog X.w) X.A (exec st X.env) (SP X pins D) X.xe s
def PSs (X:Cx)(st:List Stmt)(t:TS):Prop:=
 ∀(pins:List (Addr×Obj)) (s:Shared) (σ:St) (H:Hp) (D:XU),Inv X pins σ H s->t D σ H->wpAny (model X.prog X.w) X.A (execs st X.env) (SP X pins D) X.xe s
theorem Z7 {α:Type}{t:Sem α}{Q Q':α->Shared->Prop}{M:Model}{A:Around}{E:Value->Shared->Prop}{s:Shared}(h:wpAny M A t Q E s)(hQ:∀a s,Q a s->Q' a s):wpAny M A t Q' E s:=wpAny_mono h hQ fun _ _ x=>x
section
variable {X:Cx}
def Zhq (i:Nat):TE:=fun σ H Q=>∃v,σ[i]?=some (some v)/\Q v H
def tC (v:V):TE:=fun _ H Q=>Q v H
theorem ZhN {i:Nat}{x:Str}{pos:Pos}(hN:X.N[i]?=some x)(hv:Vis X.env.scope x)(hd:(x == ("__debug__":Str))=false:=by decide)(hcd:(x == ("__classdict__":Str))=false:=by decide):PE X (.Name x pos) (Zhq i):=by
 intro pins s σ H Q I h
 obtain⟨v,e,h⟩:=h
 obtain⟨m,hn,hl⟩:=I.loc
 obtain⟨u,r,l⟩:=hl i x v hN e hv
 have fin:EP X pins σ Q u s:=⟨v,H,I,r,h⟩
 rcases l with ⟨hk,hm⟩|⟨hk,c,hc,hcell⟩
 ·exact wpAny_Name (wpAny_loadName_local I.ok.kind hk hn hm fin) hd
 ·rcases hk with hk|hk
  ·exact wpAny_Name (wpAny_loadName_cell I.ok.kind hk hc hcell fin) hd
  ·exact wpAny_Name (wpAny_loadName_free I.ok.kind hk hc hcell fin hcd) hd
theorem Zx {i j pos}:PE X (.Constant (.int i) j pos) (tC (.int i)):=fun _ _ _ H _ I h=>wpAny_Constant_int ⟨.int i,H,I.tok _,⟨_,rfl⟩,h⟩
theorem JW {b j pos}:PE X (.Constant (.bool b) j pos) (tC (.bl b)):=fun _ _ _ H _ I h=>Constant_bool ⟨.bl b,H,I,rfl,h⟩
theorem Y9 {x j pos}:PE X (.Constant (.str x) j pos) (tC (.str x)):=fun _ _ _ H _ I h=>Calls.Constant_str ⟨.str x,H,I.tok _,⟨_,rfl⟩,h⟩
def Gl (X:Cx)(x:Str):Prop:=X.env.kindOf x=some .globalImplicit
theorem Zgn {E:Value->Shared->Prop}{pins:List (Addr×Obj)}{s:Shared}{σ:St}{H:Hp}{x:Str}{u:Value}{pos:Pos}{Q:Value->Shared->Prop}(I:Inv X pins σ H s)(hg:Gl X x)(hm:X.mg x=some u)(h:Q u s)
  (hd:(x == ("__debug__":Str))=false:=by decide):wpAny (model X.prog X.w) X.A (eval (.Name x pos) X.env) Q E s:=
 Calls.Name_function_global I.ok.kind hg (Calls.loadGlobal_global (by rw[I.ok.glob];exact I.mod.glob.keeps I.bk) hm h) hd
theorem JO {E:Value->Shared->Prop}{pins:List (Addr×Obj)}{s:Shared}{σ:St}{H:Hp}{x:Str}{u:Value}{pos:Pos}{Q:Value->Shared->Prop}(I:Inv X pins σ H s)(hg:Gl X x)(hm:X.mg x=none)(hv:bootBuiltins x=some u)(h:Q u s)
  (hn:x ≠ "__name__":=by decide) (hd:(x == ("__debug__":Str))=false:=by decide):wpAny (model X.prog X.w) X.A (eval (.Name x pos) X.env) Q E s:=by
 obtain⟨mb,h1,h2⟩:=I.mod.blt
 exact Calls.Name_function_global I.ok.kind hg (Calls.loadGlobal_builtin (by rw[I.ok.glob];exact I.mod.glob.keeps I.bk) hm (by rw[I.ok.blt];exact h1.keeps I.bk) ((h2 x hn).trans hv) h) hd
variable {a b:Expr}{ta tb:TE}{pos:Pos}
def PC (X:Cx)(op:CmpOp)(a b:Expr)(t:TE):Prop:=
 ∀(pins:List (Addr×Obj)) (s:Shared) (σ:St) (H:Hp) (Q:VK),Inv X pins σ H s->t σ H Q->
  wpAny (model X.prog X.w) X.A (eval a X.env) (fun v s₁=>wpAny (model X.prog X.w) X.A (eval b X.env) (fun u s₂=>wpAny (model X.prog X.w) X.A (compareOp op v u) (EP X pins σ Q) X.xe s₂) X.xe s₁) X.xe s
def tB (t:TE):TT:=fun σ H Q=>t σ H fun x H1=>∃c,x=.bl c/\Q c H1
theorem Zbe {op:CmpOp}{t:TE}(h:PC X op a b t)(h1:behindInMarks op b=false:=by first|exact nobehind _ (by decide) (by decide)|rfl):PT X (.Compare a [op] [b] pos) (tB t):=by
 intro pins s σ H Q I hw
 refine wpAny_isTrue_Compare1 (Z7 (h pins s σ H _ I hw) fun v s1 h1=>Z7 h1 fun u s2 h2=>Z7 h2 fun c s3 ⟨x,H1,I1,r1,q1⟩=>?_) h1
 obtain⟨d,rfl,q⟩:=q1
 cases r1
 exact wpAny_truthy_bool ⟨H1,I1,q⟩
theorem ZhI {e:Expr}{t:TE}(h:PE X e t)(he:∀whole,isTrue e X.env whole=(do let v <-whole;standAt e.pos;holding [v] (truthy v)):=by intro _;rfl):PT X e (tB t):=by
 intro pins s σ H Q I hw
 refine isTrue_plain (Z7 (h pins s σ H _ I hw) fun v s1 ⟨x,H1,I1,r1,q1⟩=>?_) (he _)
 obtain⟨d,rfl,q⟩:=q1
 cases r1
 exact wpAny_truthy_bool ⟨H1,I1,q⟩
variable {tA tB':TT}{rest:List Expr}
def Zkt (t u:TT):TT:=fun σ H Q=>t σ H fun c H1=>if c=true then u σ H1 Q else Q false H1
theorem ZfU (ha:PT X a tA):PW X (.BoolOp .And [a] pos) tA:=by
 intro wh pins s σ H Q I h
 refine isTrue_and (Z7 (ha pins s σ H Q I h) fun c s1 e=>?_)
 cases c with
 |true=>exact isTrue_and_nil e
 |false=>exact e
theorem ZhF (ha:PT X a tA)(hb:PW X (.BoolOp .And (b::rest) pos) tB'):PW X (.BoolOp .And (a::b::rest) pos) (Zkt tA tB'):=by
 intro wh pins s σ H Q I h
 refine isTrue_and (Z7 (ha pins s σ H _ I h) fun c s1 ⟨H1,I1,q1⟩=>?_)
 cases c with
 |true=>exact hb wh pins s1 σ H1 Q I1 q1
 |false=>exact⟨H1,I1,q1⟩
end
def Wb (K:PySem.W.Frag)(H:Hp)(a:Addr)(xs:List V):Prop:=
 Rd H a (.lst xs)\/
  ∃(o:Obj) (its:Array Value) (n:Nat),K.lookup a=some o/\o.cls=.type "list"/\o.dict=none/\o.data=.seq its n/\its.size<=sizeLine/\ZB xs its.toList
def Wp (K:PySem.W.Frag)(H:Hp)(a:Addr)(xs:List V):Prop:=
 Rd H a (.tup xs)\/
  ∃(o:Obj) (its:Array Value) (n:Nat),K.lookup a=some o/\o.cls=.type "tuple"/\o.data=.seq its n/\its.size<=sizeLine/\ZB xs its.toList
def ZkM:Value->Option V
 | .none=>some .non
 | .bool b=>some (.bl b)
 | .int i _=>some (.int i)
 | .str x _=>some (.str x)
 | .bytes b _=>some (.byt b)
 | .float b _=>some (.flt b)
 | .ref a=>some (.ref a)
 | .type n=>some (.ty n)
 |_=>none
theorem RelV.abs {x:V}{u:Value}(r:RelV x u):ZkM u=some x:=by
 cases x with
 |non=>cases r;rfl
 |bl _=>cases r;rfl
 |int _=>obtain⟨t,rfl⟩:=r;rfl
 |str _=>obtain⟨t,rfl⟩:=r;rfl
 |byt _=>obtain⟨t,rfl⟩:=r;rfl
 |flt _=>obtain⟨t,rfl⟩:=r;rfl
 |ref _=>cases r;rfl
 |ty _=>cases r;rfl
theorem RelV.inj {x y:V}{u:Value}(r:RelV x u)(q:RelV y u):x=y:=Option.some.inj (r.abs.symm.trans q.abs)
theorem ZB.inj:∀{xs ys:List V}{us:List Value},ZB xs us->ZB ys us->xs=ys
 |_,_,_,.nil,.nil=>rfl
 |_,_,_,.cons r t,.cons r' t'=>by rw[r.inj r',ZB.inj t t']
section
variable {X:Cx}{pins:List (Addr×Obj)}{σ:St}{H:Hp}{s:Shared}{a:Addr}{xs ys:List V}
theorem Wb.of {K:PySem.W.Frag}(h:H a=some (.lst xs)):Wb K H a xs:=.inl (.inl h)
theorem Wp.of {K:PySem.W.Frag}(h:H a=some (.tup xs)):Wp K H a xs:=.inl (.inl h)
theorem Inv.list (I:Inv X pins σ H s)(h:Wb X.K H a xs):∃its:List Value,ZB xs its/\PlainL s.heap a its.toArray/\xs.length<=sizeLine:=by
 rcases h with h|⟨o,its,n,hk,hc,hd,hs,hz,r⟩
 ·obtain⟨z,its,n,r,e⟩:=h.ok I.hok
  exact⟨its,r,⟨_,n,e,rfl,rfl,rfl⟩,z⟩
 ·refine⟨its.toList,r,⟨o,n,I.kIn a o hk,hc,hd,by simpa using hs⟩,?_⟩
  have e:=r.length
  simp only[Zr] at e
  omega
theorem Inv.tuple (I:Inv X pins σ H s)(h:Wp X.K H a xs):∃its:List Value,ZB xs its/\IsTup s.heap a its.toArray/\xs.length<=sizeLine:=by
 rcases h with h|⟨o,its,n,hk,hc,hs,hz,r⟩
 ·obtain⟨z,its,r,p⟩:=h.ok I.hok
  exact⟨its,r,p,z⟩
 ·refine⟨its.toList,r,⟨o,I.kIn a o hk,hc,n,by simpa using hs⟩,?_⟩
  have e:=r.length
  simp only[Zr] at e
  omega
theorem Inv.list_inj (I:Inv X pins σ H s)(h:Wb X.K H a xs)(h':Wb X.K H a ys):xs=ys:=by
 obtain⟨its,r,⟨o,n,e,_,_,d⟩,_⟩:=I.list h
 obtain⟨its',r',⟨o',n',e',_,_,d'⟩,_⟩:=I.list h'
 rw[e] at e';cases e'
 rw[d] at d'
 injection d' with d1 _
 have:its=its':=by simpa using congrArg Array.toList d1
 subst this
 exact r.inj r'
theorem Inv.tuple_inj (I:Inv X pins σ H s)(h:Wp X.K H a xs)(h':Wp X.K H a ys):xs=ys:=by
 obtain⟨its,r,⟨o,e,_,n,d⟩,_⟩:=I.tuple h
 obtain⟨its',r',⟨o',e',_,n',d'⟩,_⟩:=I.tuple h'
 rw[e] at e';cases e'
 rw[d] at d'
 injection d' with d1 _
 have:its=its':=by simpa using congrArg Array.toList d1
 subst this
 exact r.inj r'
end
abbrev Cx.wish (X:Cx)(E:Value->Shared->Prop):Cx:={X with xe:=E}
abbrev Cx.nox (X:Cx):Cx:=X.wish fun _ _=>False
theorem Cx.Ok.wish {X:Cx}(ok:X.Ok)(E:Value->Shared->Prop):(X.wish E).Ok:=
 ⟨ok.mod,ok.kind,ok.glob,ok.blt,ok.above,ok.inj,ok.has,ok.cab,ok.hd,ok.frames,ok.stk,ok.exf,ok.bs,ok.bsz,ok.noex,ok.exfs,ok.funs,ok.frf⟩
theorem Cx.Ok.unwish {X:Cx}{E:Value->Shared->Prop}(ok:(X.wish E).Ok):X.Ok:=
 ⟨ok.mod,ok.kind,ok.glob,ok.blt,ok.above,ok.inj,ok.has,ok.cab,ok.hd,ok.frames,ok.stk,ok.exf,ok.bs,ok.bsz,ok.noex,ok.exfs,ok.funs,ok.frf⟩
section
variable {X:Cx}{pins:List (Addr×Obj)}{σ:St}{H:Hp}{s:Shared}{E:Value->Shared->Prop}
theorem Inv.wish (I:Inv X pins σ H s)(E:Value->Shared->Prop):Inv (X.wish E) pins σ H s:=⟨I.ok.wish E,I.os,I.bare,I.base,I.loc,I.cell,I.free,I.freeC,I.pin,I.hok,I.len⟩
theorem Inv.unwish (I:Inv (X.wish E) pins σ H s):Inv X pins σ H s:=⟨I.ok.unwish,I.os,I.bare,I.base,I.loc,I.cell,I.free,I.freeC,I.pin,I.hok,I.len⟩
theorem SP.unwish {D:XU}{f:Flow}{s':Shared}(h:SP (X.wish E) pins D f s'):SP X pins D f s':=by
 cases f with
 |next=>obtain⟨σ',H',I,q⟩:=h;exact⟨σ',H',I.unwish,q⟩
 |brk=>obtain⟨σ',H',I,q⟩:=h;exact⟨σ',H',I.unwish,q⟩
 |cont=>obtain⟨σ',H',I,q⟩:=h;exact⟨σ',H',I.unwish,q⟩
 |ret u=>obtain⟨v,σ',H',I,r,q⟩:=h;exact⟨v,σ',H',I.unwish,r,q⟩
theorem PSs.nox {st:List Stmt}{t:TS}(h:PSs X.nox st t):PSs X st t:=fun pins s σ H D I hw=>
 wpAny_mono (h pins s σ H D (I.wish _) hw) (fun _ _ q=>q.unwish) fun _ _ z=>False.elim z
end
section
variable {X:Cx}{st:Stmt}{rest:List Stmt}{t u:TS}{e:Expr}{te:TE}{pos:Pos}
def Zi3:TS:=fun D σ H=>D.nx σ H
def Zhr (t u:TS):TS:=fun D σ H=>t {D with nx:=u D} σ H
theorem Z4:PSs X [] Zi3:=fun _ _ σ H _ I h=>wpAny_execs_nil ⟨σ,H,I,h⟩
theorem Zu (h1:PS X st t)(h2:PSs X rest u):PSs X (st::rest) (Zhr t u):=by
 intro pins s σ H D I h
 refine wpAny_execs_cons (Z7 (h1 pins s σ H {D with nx:=u D} I h) fun f s1 q=>?_)
 cases f with
 |next=>
  obtain⟨σ',H',I',q⟩:=q
  exact h2 pins s1 σ' H' D I' q
 |ret v=>exact q
 |brk=>exact q
 |cont=>exact q
theorem Zv (h1:PS X st t):PSs X [st] t:=by
 intro pins s σ H D I h
 refine wpAny_execs_cons (Z7 (h1 pins s σ H D I h) fun f s1 q=>?_)
 cases f with
 |next=>exact wpAny_execs_nil q
 |ret v=>exact q
 |brk=>exact q
 |cont=>exact q
theorem Inv.quiet {pins:List (Addr×Obj)}{σ:St}{H:Hp}{s:Shared}(I:Inv X pins σ H s):interactive X.env=false:=by simp[interactive,I.ok.kind]
def ZdW (te:TE):TS:=fun D σ H=>te σ H fun _ H1=>D.nx σ H1
theorem Yq (he:PE X e te)(hs:swapsWith e none pos.line X.env=pure false:=by rfl):PS X (.Expr e pos) (ZdW te):=by
 intro pins s σ H D I h
 exact wpAny_Expr_any (Z7 (he pins s σ H _ I h) fun v s1 ⟨x,H1,I1,r1,q1⟩=>⟨σ,H1,I1,q1⟩) I.quiet hs
def Zkn (te:TE):TS:=fun D σ H=>te σ H D.rt
theorem ZD (he:PE X e te):PS X (.Return (some e) pos) (Zkn te):=by
 intro pins s σ H D I h
 exact wpAny_Return_some (Z7 (he pins s σ H _ I h) fun v s1 ⟨x,H1,I1,r1,q1⟩=>⟨x,σ,H1,I1,r1,q1⟩)
def Zi4 (c:TT)(t u:TS):TS:=fun D σ H=>c σ H fun b H1=>if b=true then t D σ H1 else u D σ H1
theorem YR {c:Expr}{a b:List Stmt}{tc:TT}(hc:PT X c tc)(ha:PSs X a t)(hb:PSs X b u):PS X (.If c a b pos) (Zi4 tc t u):=by
 intro pins s σ H D I h
 refine wpAny_If (Z7 (hc pins s σ H _ I h) fun d s1 ⟨H1,I1,q1⟩=>?_)
 cases d with
 |true=>exact ha pins s1 σ H1 D I1 q1
 |false=>exact hb pins s1 σ H1 D I1 q1
end
abbrev TG:=V->St->Hp->(St->Hp->Prop)->Prop
abbrev TGs:=List V->St->Hp->(St->Hp->Prop)->Prop
def PG (X:Cx)(target:Expr)(t:TG):Prop:=
 ∀(pins:List (Addr×Obj)) (s:Shared) (σ:St) (H:Hp) (v:V) (u:Value) (Q:St->Hp->Prop),Inv X pins σ H s->RelV v u->t v σ H Q->
  wpAny (model X.prog X.w) X.A (assign target X.env u) (fun _ s'=>∃ σ' H',Inv X pins σ' H' s'/\Q σ' H') X.xe s
def PGs (X:Cx)(ts:List Expr)(t:TGs):Prop:=
 ∀(pins:List (Addr×Obj)) (s:Shared) (σ:St) (H:Hp) (vs:List V) (us:List Value) (Q:St->Hp->Prop),Inv X pins σ H s->ZB vs us->t vs σ H Q->
  wpAny (model X.prog X.w) X.A (assignInOrder ((assignEach ts X.env).map (·.2)) us) (fun _ s'=>∃ σ' H',Inv X pins σ' H' s'/\Q σ' H') X.xe s
abbrev TIp:=V->V->Hp->VK->Prop
def PIp (X:Cx)(op:Operator)(t:TIp):Prop:=
 ∀(pins:List (Addr×Obj)) (s:Shared) (σ:St) (H:Hp) (x y:V) (v u:Value) (Q:VK),Inv X pins σ H s->RelV x v->RelV y u->t x y H Q->
  wpAny (model X.prog X.w) X.A (inplaceOp op v u) (EP X pins σ Q) X.xe s
section
variable {X:Cx}{pos:Pos}
def Yg (i:Nat):TG:=fun v σ H Q=>Q (σ.set i (some v)) H
theorem Zcf {i:Nat}{x:Str}(hN:X.N.Nodup)(hi:X.N[i]?=some x)(hx:Loc X.env.scope x)(hf:X.fn x=true\/X.env.scope.names.lookup x=some .local:=by first|exact .inl rfl|exact .inr rfl|assumption):PG X (.Name x pos) (Yg i):=by
 intro pins s σ H v u Q I r h
 exact wpAny_assign_Name (Ym I hN hi hx r (fun s' I'=>⟨_,H,I',h⟩) hf)
def Zgt:TGs:=fun vs σ H Q=>vs=[]/\Q σ H
def XF (t:TG)(u:TGs):TGs:=fun vs σ H Q=>∃v r,vs=v::r/\t v σ H fun σ' H'=>u r σ' H' Q
theorem ZfW:PGs X [] Zgt:=by
 intro pins s σ H vs us Q I r h
 obtain⟨e,h⟩:=h
 subst e
 cases r
 exact assignInOrder_nil ⟨σ,H,I,h⟩
theorem Zaa {e:Expr}{es:List Expr}{t:TG}{u:TGs}(h1:PG X e t)(h2:PGs X es u)
  (hs:(assignEach (e::es) X.env).map (·.2)=assign e X.env::(assignEach es X.env).map (·.2):=by rfl):PGs X (e::es) (XF t u):=by
 intro pins s σ H vs us Q I r h
 obtain⟨v,vr,e1,h⟩:=h
 subst e1
 cases r with
 |cons r rr=>
  rw[hs]
  refine assignInOrder_cons (Z7 (h1 pins s σ H _ _ _ I r h) fun _ s1 ⟨σ1,H1,I1,q1⟩=>?_)
  exact h2 pins s1 σ1 H1 _ _ Q I1 rr q1
def Zgs (K:PySem.W.Frag)(n:Nat)(t:TGs):TG:=fun v σ H Q=>∃a xs,v=.ref a/\Wp K H a xs/\xs.length=n/\t xs σ H Q
theorem ZhM {es:List Expr}{k:Nat}{t:TGs}{n:Nat}(hc:X.calm=true)(h:PGs X es t)
  (hn:(assignEach es X.env).length=n:=by rfl) (hst:(assignEach es X.env).findIdx? (·.1)=none:=by rfl):PG X (.Tuple es k pos) (Zgs X.K n t):=by
 intro pins s σ H v u Q I r hw
 obtain⟨a,xs,e1,hq,hl,hw⟩:=hw
 subst e1
 cases r
 obtain⟨its,rv,ht,hz⟩:=I.tuple hq
 refine assign_Tuple_tuple (I.ok.hd hc) ht (by simp[hn,<-hl,rv.length]) hst fun h' hx=>?_
 have I1:Inv X pins σ H {s with heap:=h'}:=I.kept (t':=s.toks) fun b o e=>hx b o (Nat.ne_of_lt (Zp e)) e
 exact h pins _ σ H xs _ Q I1 (by simpa using rv) hw
def ZcS (te:TE)(g:TG):TS:=fun D σ H=>te σ H fun x H1=>g x σ H1 D.nx
theorem ZhJ {i:Nat}{x:Str}{e:Expr}{te:TE}{pos':Pos}(hN:X.N.Nodup)(hi:X.N[i]?=some x)(hx:Loc X.env.scope x)(he:PE X e te)(hs:swapsWith e (some (.Name x pos')) pos.line X.env=pure false:=by rfl)(hf:X.fn x=true\/X.env.scope.names.lookup x=some .local:=by first|exact .inl rfl|exact .inr rfl|assumption) :
  PS X (.Assign [.Name x pos'] e pos) (ZcS te (Yg i)):=by
 intro pins s σ H D I h
 refine wpAny_Assign_Name (Z7 (he pins s σ H _ I h) fun v s1 ⟨y,H1,I1,r1,q1⟩=>?_) hs
 exact Ym I1 hN hi hx r1 (fun s2 I2=>⟨_,H1,I2,q1⟩) hf
def Zko (i j:Nat)(ta:TA):TS:=fun D σ H=>ta σ H fun vs H1=>∃v w,vs=[v,w]/\D.nx ((σ.set i (some v)).set j (some w)) H1
theorem ZhK {i j:Nat}{x y:Str}{a b:Expr}{ta:TA}{px py pt:Pos}{kt k2 pt2}(hc:X.calm=true)(hN:X.N.Nodup)(hi:X.N[i]?=some x)(hj:X.N[j]?=some y)(hij:i≠j)
  (hx:X.env.scope.names.lookup x=some .local) (hy:X.env.scope.names.lookup y=some .local) (ha:PA X [a,b] ta)
  (hw:swappedStores [.Tuple [.Name x px,.Name y py] kt pt] (.Tuple [a,b] k2 pt2) X.env=pure (some [x,y]))
  (hs:swapsWithSole [.Tuple [.Name x px,.Name y py] kt pt] (.Tuple [a,b] k2 pt2) pos.line X.env=pure false:=by rfl) :
  PS X (.Assign [.Tuple [.Name x px,.Name y py] kt pt] (.Tuple [a,b] k2 pt2) pos) (Zko i j ta):=by
 intro pins s σ H D I h
 rw[exec_Assign_arm]
 refine Zl (wpAny_standAt ?_)
 rw[hs]
 refine Zl (Zm ?_)
 rw[if_neg (by decide)]
 refine Zl (Tuple_ (Z7 (ha _ pins s σ H _ I h) fun us s1 ⟨vs,H1,I1,r1,q1⟩=>?_))
 obtain⟨v,w,e1,q1⟩:=q1
 subst e1
 obtain⟨u1,u2,rfl,rv,rw'⟩:∃u1 u2,us=[u1,u2]/\RelV v u1/\RelV w u2:=by
  cases r1 with
  |cons p q=>
   cases q with
   |cons p' q'=>
    cases q'
    exact⟨_,_,rfl,p,p'⟩
 refine wpAny_newObj_type ?_ (by show 2<=sizeLine;decide)
 have I2:Inv X pins σ H1 {s1 with heap:=s1.heap.push {cls:=.type "tuple",data:=.seq [u1,u2].toArray}}:=I1.kept (t':=s1.toks) fun b o e=>Zn _ e
 rw[hw]
 refine Zl (Zm ?_)
 show wpAny (model X.prog X.w) X.A (do rule "assign.swapped-stores";let items <-unpackItems (.ref s1.heap.objs.size) 2 none;assignInOrder [fun v=>bindName X.env y v,fun v=>bindName X.env x v] items.reverse;pure Flow.next) _ _ _
 refine Zl (wpAny_rule (Zl (unpackItems_tuple (items:=#[u1,u2]) (I.ok.hd hc) (IsTup.new s1.heap _) fun h' hx'=>?_)))
 have I3:=I2.kept (h':=h') (t':=s1.toks) fun b o e=>hx' b o (Nat.ne_of_lt (Zp e)) e
 show wpAny _ _ (assignInOrder [fun v=>bindName X.env y v,fun v=>bindName X.env x v] [u2,u1] >>= fun _=>pure Flow.next) _ _ _
 refine Zl (assignInOrder_cons (wpAny_bindName (Ym I3 hN hj (.inl hy) rw' (fun s2 I4=>?_) (.inr hy))))
 refine assignInOrder_cons (wpAny_bindName (Ym I4 hN hi (.inl hx) rv (fun s3 I5=>assignInOrder_nil (Zm ?_)) (.inr hx)))
 rw[List.set_comm _ _ (Ne.symm hij)] at I5
 exact⟨_,H1,I5,q1⟩
def Zks (i:Nat)(te:TE)(ti:TIp):TS:=fun D σ H=>∃x,σ[i]?=some (some x)/\te σ H fun y H1=>ti x y H1 fun z H2=>D.nx (σ.set i (some z)) H2
theorem Zbg {i:Nat}{x:Str}{e:Expr}{te:TE}{op:Operator}{ti:TIp}{pos':Pos}(hN:X.N.Nodup)(hi:X.N[i]?=some x)(hx:Loc X.env.scope x)(he:PE X e te)(ho:PIp X op ti)(hf:X.fn x=true\/X.env.scope.names.lookup x=some .local:=by first|exact .inl rfl|exact .inr rfl|assumption) :
  PS X (.AugAssign (.Name x pos') op e pos) (Zks i te ti):=by
 intro pins s σ H D I h
 obtain⟨v,e1,h⟩:=h
 obtain⟨m,hn,hl⟩:=I.loc
 have vis:Vis X.env.scope x:=by rcases hx with k|k;exact .inl k;exact .inr (.inl k)
 obtain⟨u,r,l⟩:=hl i x v hi e1 vis
 refine wpAny_AugAssign_Name ?_
 have go:wpAny (model X.prog X.w) X.A (eval e X.env) (fun w s₂=>wpAny (model X.prog X.w) X.A (inplaceOp op u w) (fun r s₃=>wpAny (model X.prog X.w) X.A (storeName X.env x r) (fun _=>SP X pins D .next) X.xe s₃) X.xe s₂) X.xe s:=by
  refine Z7 (he pins s σ H _ I h) fun w s1 ⟨y,H1,I1,r1,q1⟩=>?_
  refine Z7 (ho pins s1 σ H1 v y u w _ I1 r r1 q1) fun z s2 ⟨zv,H2,I2,r2,q2⟩=>?_
  exact Ym I2 hN hi hx r2 (fun s3 I3=>⟨_,H2,I3,q2⟩) hf
 rcases l with ⟨hk,hm⟩|⟨hk,c,hc,hcell⟩
 ·exact wpAny_loadName_local I.ok.kind hk hn hm go
 ·rcases hk with hk|hk
  ·exact wpAny_loadName_cell I.ok.kind hk hc hcell go
  ·rcases hx with k|k
   ·have:X.env.scope.names.lookup x=some .free:=hk
    rw[k] at this;cases this
   ·have:X.env.scope.names.lookup x=some .free:=hk
    rw[k] at this;cases this
def ipI (f:Int->Int->Int):TIp:=fun x y H Q=>∃i j,x=.int i/\y=.int j/\Q (.int (f i j)) H
theorem Zbr:PIp X .Add (ipI fun i j=>i+j):=by
 intro pins s σ H x y v u Q I r1 r2 h
 obtain⟨i,j,e1,e2,q⟩:=h
 subst e1;subst e2
 obtain⟨t,rfl⟩:=r1
 obtain⟨t',rfl⟩:=r2
 exact iadd_int ⟨.int _,H,I.tok _,⟨_,rfl⟩,q⟩
end
section
variable {X:Cx}{pos:Pos}
def ZdU (c:TT)(tb:TS):TS:=fun D σ H=>∃W:Nat->St->Hp->Prop,(∃m,W m σ H)/\∀m σ H,W m σ H->
 c σ H fun b H1=>if b=true then ∃N:St->Hp->Prop,(∀ σ' H',N σ' H'->∃m',m'<m/\W m' σ' H')/\tb {D with nx:=N,ct:=N,bk:=D.nx} σ H1 else D.nx σ H1
theorem Yu {c:Expr}{body:List Stmt}{tc:TT}{tb:TS}(hp:PassesOwn (model X.prog X.w) X.A X.env X.xe)(hc:PT X c tc)(hb:PSs X body tb):PS X (.While c body [] pos) (ZdU tc tb):=by
 intro pins s σ H D I h
 obtain⟨W,⟨m0,w0⟩,turn⟩:=h
 refine wpAny_While (codeAny_whileLoop (fun n s'=>∃ σ' H',Inv X pins σ' H' s'/\W n σ' H') ?_ m0 ⟨σ,H,I,w0⟩)
 rintro n s1 ⟨σ1,H1,I1,w1⟩
 refine wpAny_passesOwn hp (Z7 (hc pins s1 σ1 H1 _ I1 (turn n σ1 H1 w1)) fun b s2 ⟨H2,I2,q2⟩=>?_)
 cases b with
 |true=>
  obtain⟨N,hN,q2⟩:=q2
  rw[if_pos rfl]
  refine wpAny_passesOwn hp (Z7 (hb pins s2 σ1 H2 _ I2 q2) fun f s3 q3=>?_)
  cases f with
  |next=>
   obtain⟨σ3,H3,I3,n3⟩:=q3
   obtain⟨m',hm,w3⟩:=hN σ3 H3 n3
   exact⟨m',hm,σ3,H3,I3,w3⟩
  |cont=>
   obtain⟨σ3,H3,I3,n3⟩:=q3
   obtain⟨m',hm,w3⟩:=hN σ3 H3 n3
   exact⟨m',hm,σ3,H3,I3,w3⟩
  |brk=>exact q3
  |ret v=>exact q3
 |false=>
  rw[if_neg Bool.false_ne_true]
  exact wpAny_execs_nil ⟨σ1,H2,I2,q2⟩
end
structure It where
 go:Nat->Hp->Prop
 yld:Nat->Hp->V->Hp->Prop
 stop:Nat->Hp->Prop
def X7 (X:Cx)(pins:List (Addr×Obj))(H:Hp)(b:Addr):Prop:=
 H b=none/\b≠X.env.locals/\b∉X.fs/\(b∈X.ex\/X.s₀.heap.objs.size<=b)/\(∀x c,X.env.cells.lookup x=some c->c≠b)/\∀p∈X.pn++pins,p.1≠b
theorem Inv.fpOk {X:Cx}{pins:List (Addr×Obj)}{σ:St}{H H':Hp}{s:Shared}{b:Addr}(I:Inv X pins σ H s)(hb:s.heap.objs.size<=b)(hn:H' b=none):X7 X pins H' b:=by
 refine⟨hn,Nat.ne_of_gt (Nat.lt_of_lt_of_le I.lt hb),I.nofs hb,.inr (Nat.le_trans I.sz hb),fun x c e z=>?_,fun p hp z=>?_⟩
 ·obtain⟨v,q⟩:=I.cell x c e
  exact absurd (Nat.lt_of_lt_of_le q.lt (by rw[z];exact hb)) (Nat.lt_irrefl _)
 ·exact absurd (Nat.lt_of_lt_of_le (Zp (I.pin p hp).1) (by rw[z];exact hb)) (Nat.lt_irrefl _)
structure ZaR (P:Program)(w:World)(K:PySem.W.Frag)(tg:Expr)(J:It)(fp:List Addr)(it:Addr)(tn:Nat->Heap->Prop):Prop where
 mem:it∈fp
 obj:∀i h,tn i h->∀b∈fp,∃o,h.get? b=some o/\∀v,o.data≠.cell v
 keep:∀i h h',tn i h->(∀b∈fp,∀o,h.get? b=some o->h'.get? b=some o)->tn i h'
 item:∀(X:Cx),X.prog=P->X.w=w->X.K=K->X.calm=true->∀(i:Nat) (pins:List (Addr×Obj)) (s:Shared) (σ:St) (H:Hp) (E:Value->Shared->Prop),Inv X pins σ H s->(∀b∈fp,X7 X pins H b)->tn i s.heap->J.go i H->
  wpAny (model P w) X.A (pyNext (.ref it)) (fun r s1=>∃u,r=some u/\
   wpAny (model P w) X.A (letOwnedTupleGo tg (.ref it) u) (fun _ s2=>∃x H',Inv X pins σ H' s2/\RelV x u/\J.yld i H x H'/\tn (i+1) s2.heap/\∀b∈fp,H' b=none) E s1) E s
 done:∀(X:Cx),X.prog=P->X.w=w->X.K=K->X.calm=true->∀(i:Nat) (pins:List (Addr×Obj)) (s:Shared) (σ:St) (H:Hp) (E:Value->Shared->Prop),Inv X pins σ H s->(∀b∈fp,X7 X pins H b)->tn i s.heap->J.stop i H->
  wpAny (model P w) X.A (pyNext (.ref it)) (fun r s1=>r=none/\Inv X pins σ H s1) E s
 self:∀(A:Around) (i:Nat) (s:Shared) (Q:Value->Shared->Prop) (E:Value->Shared->Prop),tn i s.heap->Q (.ref it) s->wpAny (model P w) A (pyIter (.ref it)) Q E s
abbrev TI:=St->Hp->(It->Hp->Prop)->Prop
def PIE (X:Cx)(pins:List (Addr×Obj))(σ:St)(tg:Expr)(R:It->Hp->Prop)(itv:Value)(s2:Shared):Prop:=
 ∃(it:Addr) (fp:List Addr) (tn:Nat->Heap->Prop) (J:It) (H':Hp),itv=.ref it/\Inv X pins σ H' s2/\ZaR X.prog X.w X.K tg J fp it tn/\tn 0 s2.heap/\(∀b∈fp,X7 X pins H' b)/\R J H'
def PI (X:Cx)(tg iter:Expr)(wi:TI):Prop:=
 ∀(pins:List (Addr×Obj)) (s:Shared) (σ:St) (H:Hp) (R:It->Hp->Prop),Inv X pins σ H s->wi σ H R->
  wpAny (model X.prog X.w) X.A (eval iter X.env) (fun v s1=>wpAny (model X.prog X.w) X.A (pyIter v) (PIE X pins σ tg R) X.xe s1) X.xe s
theorem Ze4 {M:Model}{A:Around}{E:Value->Shared->Prop}{s:Shared}{tg:Expr}{it:Addr}{u:Value}{o:Obj}{n:String}{vs:Array Value}{Q:Unit->Shared->Prop}(ho:s.heap.get? it=some o)(hc:o.cls=.type n)(hd:o.data=.fields vs)
    (hn:["enumerate", "zip", "dict_itemiterator", "dict_reverseitemiterator", "odict_iterator", "itertools.zip_longest", "itertools.pairwise"].contains n=false) (hQ:Q () s):wpAny M A (letOwnedTupleGo tg (.ref it) u) Q E s:=by
  unfold letOwnedTupleGo
  cases tg <;> first
    |exact Zm hQ
    |(cases u <;> first
        |exact Zm hQ
        | (refine Zl (wpAny_load ho ?_)
           rw[hc,hd]
           show wpAny M A (if (["enumerate", "zip", "dict_itemiterator", "dict_reverseitemiterator", "odict_iterator", "itertools.zip_longest", "itertools.pairwise"].contains n && vs[0]? == some (rawInt _))=true then _ else _) Q E s
           rw[if_neg (by intro h;rw[hn,Bool.false_and] at h;cases h)]
           exact Zm hQ))
def Itl (K:PySem.W.Frag)(a:Addr):It:=
 ⟨fun i H=>∃xs x,Wb K H a xs/\xs[i]?=some x,fun i H x H'=>H'=H/\∀xs,Wb K H a xs->xs[i]?=some x,fun i H=>∃xs,Wb K H a xs/\xs.length<=i⟩
def Itt (K:PySem.W.Frag)(a:Addr):It:=
 ⟨fun i H=>∃xs x,Wp K H a xs/\xs[i]?=some x,fun i H x H'=>H'=H/\∀xs,Wp K H a xs->xs[i]?=some x,fun i H=>∃xs,Wp K H a xs/\xs.length<=i⟩
def Itr (lo:Int)(n:Nat):It:=⟨fun i _=>i<n,fun i H x H'=>H'=H/\x=.int (lo+i),fun i _=>n<=i⟩
theorem ZcQ {P:Program}{w:World}{K:PySem.W.Frag}{tg:Expr}(a it:Addr):ZaR P w K tg (Itl K a) [it] it (fun i h=>h.IsListIter it a i) where
 mem:=by simp
 obj:=fun i h st b hb=>by
  have e:b=it:=by simpa using hb
  subst e
  obtain⟨o,e,c,d⟩:=st
  exact⟨o,e,fun v z=>by rw[d] at z;cases z⟩
 keep:=fun i h h' st k=>st.at fun o e=>k it (by simp) o e
 item:=by
  intro X hP hw hK hc i pins s σ H E I hf st hg
  subst hP hw hK
  obtain⟨xs,x,hq,hx⟩:=hg
  obtain⟨its,rv,p,hz⟩:=I.list hq
  obtain⟨u,hu,ru⟩:=rv.get hx
  obtain⟨f0,f1,f2,f3,f4,f5⟩:=hf it (by simp)
  refine wpAny_pyNext_list_item st p.isList (x:=u) (by simpa using hu) fun h' st' sb=>?_
  have I1:Inv X pins σ H {s with heap:=h'}:=I.turned (t':=s.toks) (fun b o hb e=>(sb.2 b hb).trans e) f0 f1 f3 f4 f5
  obtain⟨o,e,c,d⟩:=id st'
  exact⟨u,rfl,Ze4 (s:={s with heap:=h'}) e c d (by decide) ⟨x,H,I1,ru,⟨rfl,fun ys hy=>by rw[I.list_inj hy hq];exact hx⟩,st',fun b hb=>(hf b hb).1⟩⟩
 done:=by
  intro X hP hw hK hc i pins s σ H E I hf st hg
  subst hP hw hK
  obtain⟨xs,hq,hx⟩:=hg
  obtain⟨its,rv,p,hz⟩:=I.list hq
  obtain⟨f0,f1,f2,f3,f4,f5⟩:=hf it (by simp)
  have hl:=rv.length
  exact wpAny_pyNext_list_end (I.ok.hd hc) st p.isList (by simp;omega) fun h' eb=>⟨rfl,I.turned (t':=s.toks) (fun b o hb e=>eb b o hb e) f0 f1 f3 f4 f5⟩
 self:=fun _ _ _ _ _ st h=>wpAny_pyIter_listiter st h
theorem ZaX {P:Program}{w:World}{K:PySem.W.Frag}{tg:Expr}(a it:Addr):ZaR P w K tg (Itt K a) [it] it (fun i h=>h.IsTupleIter it a i) where
 mem:=by simp
 obj:=fun i h st b hb=>by
  have e:b=it:=by simpa using hb
  subst e
  obtain⟨o,e,c,d⟩:=st
  exact⟨o,e,fun v z=>by rw[d] at z;cases z⟩
 keep:=fun i h h' st k=>st.at fun o e=>k it (by simp) o e
 item:=by
  intro X hP hw hK hc i pins s σ H E I hf st hg
  subst hP hw hK
  obtain⟨xs,x,hq,hx⟩:=hg
  obtain⟨its,rv,p,hz⟩:=I.tuple hq
  obtain⟨u,hu,ru⟩:=rv.get hx
  obtain⟨f0,f1,f2,f3,f4,f5⟩:=hf it (by simp)
  refine wpAny_pyNext_tuple_item st (show s.heap.IsTuple a its.toArray from p) (x:=u) (by simpa using hu) fun h' st' sb=>?_
  have I1:Inv X pins σ H {s with heap:=h'}:=I.turned (t':=s.toks) (fun b o hb e=>(sb.2 b hb).trans e) f0 f1 f3 f4 f5
  obtain⟨o,e,c,d⟩:=id st'
  exact⟨u,rfl,Ze4 (s:={s with heap:=h'}) e c d (by decide) ⟨x,H,I1,ru,⟨rfl,fun ys hy=>by rw[I.tuple_inj hy hq];exact hx⟩,st',fun b hb=>(hf b hb).1⟩⟩
 done:=by
  intro X hP hw hK hc i pins s σ H E I hf st hg
  subst hP hw hK
  obtain⟨xs,hq,hx⟩:=hg
  obtain⟨its,rv,p,hz⟩:=I.tuple hq
  obtain⟨f0,f1,f2,f3,f4,f5⟩:=hf it (by simp)
  have hl:=rv.length
  exact wpAny_pyNext_tuple_end (I.ok.hd hc) st (show s.heap.IsTuple a its.toArray from p) (by simp;omega) fun h' eb=>⟨rfl,I.turned (t':=s.toks) (fun b o hb e=>eb b o hb e) f0 f1 f3 f4 f5⟩
 self:=fun _ _ _ _ _ st h=>wpAny_pyIter_tupleiter st h
theorem ZaY {P:Program}{w:World}{K:PySem.W.Frag}{tg:Expr}(it:Addr)(lo:Int)(n:Nat):ZaR P w K tg (Itr lo n) [it] it (fun i h=>IsRangeIter h it (lo+(i:Nat)*1) ((n:Int)-(i:Nat)) 1) where
 mem:=by simp
 obj:=fun i h st b hb=>by
  have e:b=it:=by simpa using hb
  subst e
  exact⟨_,st,fun v z=>by
   have z':Data.fields _=Data.cell v:=z
   cases z'⟩
 keep:=fun i h h' st k=>k it (by simp) _ st
 item:=by
  intro X hP hw hK hc i pins s σ H E I hf st hg
  subst hP hw hK
  obtain⟨f0,f1,f2,f3,f4,f5⟩:=hf it (by simp)
  have W:=Walks.range (prog:=X.prog) (w:=X.w) (I.ok.hd hc) it lo 1 n
  refine W.item i s _ _ hg st fun v h' tk hv st' kk=>?_
  obtain⟨t,rfl⟩:=hv
  have I1:Inv X pins σ H {s with heap:=h',toks:=tk}:=I.turned (fun b o hb e=>kk b o (by simpa using hb) e) f0 f1 f3 f4 f5
  refine⟨_,rfl,Ze4 (s:={s with heap:=h',toks:=tk}) (n:="range_iterator") st' rfl rfl (by decide) ⟨.int (lo+i),H,I1,⟨t,?_⟩,⟨rfl,rfl⟩,st',fun b hb=>(hf b hb).1⟩⟩
  rw[Int.mul_one]
 done:=by
  intro X hP hw hK hc i pins s σ H E I hf st hg
  subst hP hw hK
  obtain⟨f0,f1,f2,f3,f4,f5⟩:=hf it (by simp)
  exact wpAny_pyNext_range_end (I.ok.hd hc) st (by have:n<=i:=hg;omega) fun h' eb=>⟨rfl,I.turned (t':=s.toks) (fun b o hb e=>eb b o hb e) f0 f1 f3 f4 f5⟩
 self:=fun _ _ _ _ _ st h=>wpAny_pyIter_rangeiter st h
section
variable {X:Cx}{tg:Expr}
def Zhi (K:PySem.W.Frag)(tl:TE):TI:=fun σ H R=>tl σ H fun x H1=>∃a,x=.ref a/\(∃xs,Wb K H1 a xs)/\R (Itl K a) H1
def ZjG (K:PySem.W.Frag)(tl:TE):TI:=fun σ H R=>tl σ H fun x H1=>∃a,x=.ref a/\(∃xs,Wp K H1 a xs)/\R (Itt K a) H1
theorem ZfV {l:Expr}{tl:TE}(hl:PE X l tl):PI X tg l (Zhi X.K tl):=by
 intro pins s σ H R I h
 refine Z7 (hl pins s σ H _ I h) fun v s1 ⟨x,H1,I1,r1,q1⟩=>?_
 obtain⟨a,e,⟨xs,hq⟩,q⟩:=q1
 subst e
 cases r1
 obtain⟨its,rv,p,hz⟩:=I1.list hq
 refine wpAny_pyIter_list p.isList ?_
 refine⟨s1.heap.objs.size,[s1.heap.objs.size],_,_,H1,rfl,I1.kept (t':=s1.toks) fun b o e=>Zn _ e,ZcQ a _,⟨_,Zo _ rfl,rfl,rfl⟩,fun b hb=>?_,q⟩
 have e:b=s1.heap.objs.size:=by simpa using hb
 subst e
 exact I1.fpOk (Zq _) (I1.hok.fresh (Zq _))
theorem ZhL {l:Expr}{tl:TE}(hl:PE X l tl):PI X tg l (ZjG X.K tl):=by
 intro pins s σ H R I h
 refine Z7 (hl pins s σ H _ I h) fun v s1 ⟨x,H1,I1,r1,q1⟩=>?_
 obtain⟨a,e,⟨xs,hq⟩,q⟩:=q1
 subst e
 cases r1
 obtain⟨its,rv,p,hz⟩:=I1.tuple hq
 refine wpAny_pyIter_tuple (show s1.heap.IsTuple a its.toArray from p) ?_
 refine⟨s1.heap.objs.size,[s1.heap.objs.size],_,_,H1,rfl,I1.kept (t':=s1.toks) fun b o e=>Zn _ e,ZaX a _,⟨_,Zo _ rfl,rfl,rfl⟩,fun b hb=>?_,q⟩
 have e:b=s1.heap.objs.size:=by simpa using hb
 subst e
 exact I1.fpOk (Zq _) (I1.hok.fresh (Zq _))
theorem U6 {pins:List (Addr×Obj)}{σ:St}{H:Hp}{s:Shared}{R:It->Hp->Prop}{E:Value->Shared->Prop}{lo hi:Int}{t u v:Tok}{tk:Nat}(I:Inv X pins σ H s)(h1:-(2 ^ 62)<=lo)(h2:lo<2 ^ 62)(h3:-(2 ^ 62)<=hi)(h4:hi<2 ^ 62)
  (q:R (Itr lo (hi-lo).toNat) H):wpAny (model X.prog X.w) X.A (pyIter (.ref s.heap.objs.size)) (PIE X pins σ tg R) E {s with heap:=s.heap.push {cls:=.type "range",data:=.fields #[.int lo t,.int hi u,.int 1 v]},toks:=tk}:=by
 refine wpAny_pyIter_range (IsRange.new ..) (small_one h1 h2 h3 h4) ?_
 have I1:Inv X pins σ H {s with heap:=s.heap.push {cls:=.type "range",data:=.fields #[.int lo t,.int hi u,.int 1 v]},toks:=tk}:=I.kept fun b o e=>Zn _ e
 refine⟨(s.heap.push {cls:=.type "range",data:=.fields #[.int lo t,.int hi u,.int 1 v]}).objs.size,[(s.heap.push {cls:=.type "range",data:=.fields #[.int lo t,.int hi u,.int 1 v]}).objs.size],_,_,H,rfl,
  I1.kept (t':=tk) fun b o e=>Zn _ e,ZaY _ lo (hi-lo).toNat,?_,fun b hb=>?_,q⟩
 ·have e1:lo+((0:Nat):Int)*1=lo:=by simp
  have e2:(((hi-lo).toNat:Nat):Int)-((0:Nat):Int)=Builtin.Range.rangeSize lo hi 1:=by rw[rangeSize_one];split <;> omega
  show IsRangeIter _ _ (lo+((0:Nat):Int)*1) ((((hi-lo).toNat:Nat):Int)-((0:Nat):Int)) 1
  rw[e1,e2]
  exact Zo _ rfl
 ·have e:b=(s.heap.push {cls:=.type "range",data:=.fields #[.int lo t,.int hi u,.int 1 v]}).objs.size:=by simpa using hb
  subst e
  exact I1.fpOk (Zq _) (I1.hok.fresh (Zq _))
def Zhh (ta:TA):TI:=fun σ H R=>ta σ H fun vs H1=>∃j:Int,vs=[.int j]/\-(2 ^ 62)<=j/\j<2 ^ 62/\R (Itr 0 j.toNat) H1
def Zhg (ta:TA):TI:=fun σ H R=>ta σ H fun vs H1=>∃i j:Int,vs=[.int i,.int j]/\(-(2 ^ 62)<=i/\i<2 ^ 62/\-(2 ^ 62)<=j/\j<2 ^ 62)/\R (Itr i (j-i).toNat) H1
theorem Zc0 {a:Expr}{ta:TA}{p pos:Pos}(hg:Gl X "range")(hm:X.mg "range"=none)(ha:PA X [a] ta)(hs:starEach [a] X.env=[(false,eval a X.env)]:=by rfl):PI X tg (.Call (.Name "range" p) [a] [] pos) (Zhh ta):=by
 intro pins s σ H R I h
 refine Call_ (JO I hg hm boot_range (PyProof.Rows.callWith_type1 (Z7 (ha pos pins s σ H _ I h) fun us s1 ⟨vs,H1,I1,r1,q1⟩=>?_) hs rfl))
 obtain⟨j,e,q1,q2,q⟩:=q1
 subst e
 cases r1 with
 |cons r rr=>
  cases rr
  obtain⟨t,rfl⟩:=r
  exact call_range_1 (U6 I1 (by omega) (by omega) q1 q2 (by simpa using q))
theorem ZcZ {a b:Expr}{ta:TA}{p pos:Pos}(hg:Gl X "range")(hm:X.mg "range"=none)(ha:PA X [a,b] ta)(hs:starEach [a,b] X.env=[(false,eval a X.env),(false,eval b X.env)]:=by rfl)(hs2:starEach [b] X.env=[(false,eval b X.env)]:=by rfl) :
  PI X tg (.Call (.Name "range" p) [a,b] [] pos) (Zhg ta):=by
 intro pins s σ H R I h
 refine Call_ (JO I hg hm boot_range (PyProof.Rows.callWith_type1 (Z7 (ha pos pins s σ H _ I h) fun us s1 ⟨vs,H1,I1,r1,q1⟩=>?_) (by rw[hs,hs2]) (by rw[hs2];rfl)))
 obtain⟨i,j,e,⟨q1,q2,q3,q4⟩,q⟩:=q1
 subst e
 cases r1 with
 |cons r rr=>
  cases rr with
  |cons r' rr=>
   cases rr
   obtain⟨t,rfl⟩:=r
   obtain⟨t',rfl⟩:=r'
   exact call_range_2 (U6 I1 q1 q2 q3 q4 q)
def Zkp (wi:TI)(g:TG)(tb:TS):TS:=fun D σ H=>wi σ H fun J H1=>∃W:Nat->Nat->St->Hp->Prop,(∃m,W 0 m σ H1)/\∀i m σ H,W i m σ H->
 (J.stop i H/\D.nx σ H)\/(J.go i H/\∃N:St->Hp->Prop,(∀ σ' H',N σ' H'->∃m',m'<m/\W (i+1) m' σ' H')/\∀x H',J.yld i H x H'->g x σ H' fun σ2 H2=>tb {D with nx:=N,ct:=N,bk:=D.nx} σ2 H2)
def Xx (fp:List Addr)(h:Heap):List (Addr×Obj):=fp.filterMap fun b=>(h.get? b).map fun o=>(b,o)
theorem Wx {fp:List Addr}{h:Heap}{b:Addr}{o:Obj}(hb:b∈fp)(e:h.get? b=some o):(b,o)∈Xx fp h:=List.mem_filterMap.mpr ⟨b,hb,by rw[e];rfl⟩
theorem Zda {fp:List Addr}{h:Heap}{p:Addr×Obj}(hp:p∈Xx fp h):p.1∈fp/\h.get? p.1=some p.2:=by
 obtain⟨b,hb,e⟩:=List.mem_filterMap.mp hp
 cases q:h.get? b with
 |none=>rw[q] at e;cases e
 |some o=>
  rw[q] at e
  have e':(b,o)=p:=Option.some.inj e
  subst e'
  exact⟨hb,q⟩
theorem Inv.pinned {pins:List (Addr×Obj)}{σ:St}{H:Hp}{s:Shared}{fp:List Addr}(I:Inv X pins σ H s)(hf:∀b∈fp,X7 X pins H b)(ho:∀b∈fp,∃o,s.heap.get? b=some o/\∀v,o.data≠.cell v):Inv X (pins++Xx fp s.heap) σ H s:=
 I.pins_of fun p hp=>(List.mem_append.mp hp).elim (fun z=>I.pin p (List.mem_append_right _ z)) fun z=>by
  obtain⟨hb,e⟩:=Zda z
  obtain⟨f0,f1,f2,_⟩:=hf p.1 hb
  obtain⟨o,e',d⟩:=ho p.1 hb
  rw[e] at e';cases e'
  exact⟨e,f0,f1,f2,d⟩
theorem Inv.unpinned {pins pl:List (Addr×Obj)}{σ:St}{H:Hp}{s:Shared}(I:Inv X (pins++pl) σ H s):Inv X pins σ H s:=I.pins_of fun p hp=>I.pin p (List.mem_append_right _ (List.mem_append_left _ hp))
theorem Yi {iter:Expr}{body:List Stmt}{wi:TI}{g:TG}{tb:TS}{pos:Pos}(hp:PassesOwn (model X.prog X.w) X.A X.env X.xe)(hc:X.calm=true)(hi:PI X tg iter wi)(hg:PG X tg g)(hb:PSs X body tb)
  (hs:∀x,foldedSetIterable iter X.env x=pure x:=by intro _;rfl):PS X (.For tg iter body [] pos) (Zkp wi g tb):=by
 intro pins s σ H D I h
 refine wpAny_For (Z7 (hi pins s σ H _ I h) fun v s1 h1=>Z7 h1 fun itv s2 h2=>?_) hs
 obtain⟨it,fp,tn,J,H2,e,I2,T,st2,f2,W,⟨m0,w0⟩,turn⟩:=h2
 subst e
 have stat:∀{H':Hp},(∀b∈fp,H' b=none)->∀b∈fp,X7 X pins H' b:=fun hn b hb=>⟨hn b hb,(f2 b hb).2⟩
 refine codeAny_forLoop_any (fun n s'=>∃i σ' H',Inv X pins σ' H' s'/\tn i s'.heap/\(∀b∈fp,H' b=none)/\W i n σ' H') ?_ m0 ⟨0,σ,H2,I2,st2,fun b hb=>(f2 b hb).1,w0⟩
 rintro n s3 ⟨i,σ3,H3,I3,st3,fr3,w3⟩
 rcases turn i n σ3 H3 w3 with ⟨stop,qn⟩|⟨go,N,hN,step⟩
 ·refine wpAny_passesOwn hp (Z7 (T.done X rfl rfl rfl hc i pins s3 σ3 H3 X.xe I3 (stat fr3) st3 stop) fun r s4 ⟨hr,I4⟩=>?_)
  subst hr
  exact wpAny_execs_nil ⟨σ3,H3,I4,qn⟩
 ·refine wpAny_passesOwn hp (Z7 (T.item X rfl rfl rfl hc i pins s3 σ3 H3 X.xe I3 (stat fr3) st3 go) fun r s4 ⟨u,hr,h4⟩=>?_)
  subst hr
  refine wpAny_passesOwn hp (Z7 h4 fun _ s5 ⟨x,H5,I5,r5,y5,st5,fr5⟩=>?_)
  have I5':=I5.pinned (stat fr5) (T.obj _ _ st5)
  refine wpAny_passesOwn hp (Z7 (hg _ s5 σ3 H5 x u _ I5' r5 (step x H5 y5)) fun _ s6 ⟨σ6,H6,I6,q6⟩=>?_)
  refine wpAny_passesOwn hp (Z7 (hb _ s6 σ6 H6 _ I6 q6) fun f s7 q7=>?_)
  have again:∀{σ7:St}{H7:Hp},Inv X (pins++Xx fp s5.heap) σ7 H7 s7->N σ7 H7->∃m,m<n/\∃i σ' H',Inv X pins σ' H' s7/\tn i s7.heap/\(∀b∈fp,H' b=none)/\W i m σ' H':=fun {σ7 H7} I7 n7=>by
   obtain⟨m',hm,w7⟩:=hN σ7 H7 n7
   refine⟨m',hm,i+1,σ7,H7,I7.unpinned,T.keep _ _ _ st5 fun b hb o e=>(I7.pin (b,o) (List.mem_append_right _ (List.mem_append_right _ (Wx hb e)))).1,fun b hb=>?_,w7⟩
   obtain⟨o,e,d⟩:=T.obj _ _ st5 b hb
   exact (I7.pin (b,o) (List.mem_append_right _ (List.mem_append_right _ (Wx hb e)))).2.1
  cases f with
  |next=>obtain⟨σ7,H7,I7,n7⟩:=q7;exact again I7 n7
  |cont=>obtain⟨σ7,H7,I7,n7⟩:=q7;exact again I7 n7
  |brk=>obtain⟨σ7,H7,I7,q7⟩:=q7;exact⟨σ7,H7,I7.unpinned,q7⟩
  |ret v=>obtain⟨x7,σ7,H7,I7,r7,q7⟩:=q7;exact⟨x7,σ7,H7,I7.unpinned,r7,q7⟩
end
theorem Zgv {K:PySem.W.Frag}{a:Addr}{xs:List V}{g:TG}{tb:TS}{D:XU}{σ:St}{H:Hp}(Pv:Nat->St->Hp->Prop)(h0:Pv 0 σ H)(hl:∀i σ H,i<=xs.length->Pv i σ H->Wp K H a xs)
  (hs:∀i x σ H,xs[i]?=some x->Pv i σ H->g x σ H fun σ2 H2=>tb {D with nx:=Pv (i+1),ct:=Pv (i+1),bk:=D.nx} σ2 H2) (hd:∀ σ H,Pv xs.length σ H->D.nx σ H) :
  ∃W:Nat->Nat->St->Hp->Prop,(∃m,W 0 m σ H)/\∀i m σ H,W i m σ H->
   ((Itt K a).stop i H/\D.nx σ H)\/((Itt K a).go i H/\∃N:St->Hp->Prop,(∀ σ' H',N σ' H'->∃m',m'<m/\W (i+1) m' σ' H')/\∀x H',(Itt K a).yld i H x H'->g x σ H' fun σ2 H2=>tb {D with nx:=N,ct:=N,bk:=D.nx} σ2 H2):=by
 refine⟨fun i m σ H=>m=xs.length-i/\i<=xs.length/\Pv i σ H,⟨xs.length,by simp,Nat.zero_le _,h0⟩,?_⟩
 rintro i m σ H ⟨rfl,hi,p⟩
 have q:=hl i σ H hi p
 by_cases hlt:i<xs.length
 ·refine .inr ⟨⟨xs,xs[i],q,by simp[hlt]⟩,Pv (i+1),fun σ' H' p'=>⟨xs.length-(i+1),by omega,rfl,hlt,p'⟩,fun x H' y=>?_⟩
  obtain⟨e,y⟩:=y
  subst e
  exact hs i x σ _ (y xs q) p
 ·have e:i=xs.length:=by omega
  subst e
  exact .inl ⟨⟨xs,q,Zq _⟩,hd σ H p⟩
theorem Z8 {lo:Int}{n:Nat}{g:TG}{tb:TS}{D:XU}{σ:St}{H:Hp}(Pv:Nat->St->Hp->Prop)(h0:Pv 0 σ H)
  (hs:∀i σ H,i<n->Pv i σ H->g (.int (lo+i)) σ H fun σ2 H2=>tb {D with nx:=Pv (i+1),ct:=Pv (i+1),bk:=D.nx} σ2 H2) (hd:∀ σ H,Pv n σ H->D.nx σ H) :
  ∃W:Nat->Nat->St->Hp->Prop,(∃m,W 0 m σ H)/\∀i m σ H,W i m σ H->
   ((Itr lo n).stop i H/\D.nx σ H)\/((Itr lo n).go i H/\∃N:St->Hp->Prop,(∀ σ' H',N σ' H'->∃m',m'<m/\W (i+1) m' σ' H')/\∀x H',(Itr lo n).yld i H x H'->g x σ H' fun σ2 H2=>tb {D with nx:=N,ct:=N,bk:=D.nx} σ2 H2):=by
 refine⟨fun i m σ H=>m=n-i/\i<=n/\Pv i σ H,⟨n,by simp,Nat.zero_le _,h0⟩,?_⟩
 rintro i m σ H ⟨rfl,hi,p⟩
 by_cases hlt:i<n
 ·refine .inr ⟨hlt,Pv (i+1),fun σ' H' p'=>⟨n-(i+1),by omega,rfl,hlt,p'⟩,fun x H' y=>?_⟩
  obtain⟨e,y⟩:=y
  subst e y
  exact hs i σ _ hlt p
 ·have e:i=n:=by omega
  subst e
  exact .inl ⟨Zq _,hd σ H p⟩
abbrev R2:=V->V->Hp->VK->Prop
def J5 (X:Cx)(f:Value->Value->Sem Value)(r:R2):Prop:=
 ∀(pins:List (Addr×Obj)) (s:Shared) (σ:St) (H:Hp) (x y:V) (v u:Value) (Q:VK),Inv X pins σ H s->RelV x v->RelV y u->r x y H Q->
  wpAny (model X.prog X.w) X.A (f v u) (EP X pins σ Q) X.xe s
def UnR (X:Cx)(f:Value->Sem Value)(r:V->Hp->VK->Prop):Prop:=
 ∀(pins:List (Addr×Obj)) (s:Shared) (σ:St) (H:Hp) (x:V) (v:Value) (Q:VK),Inv X pins σ H s->RelV x v->r x H Q->
  wpAny (model X.prog X.w) X.A (f v) (EP X pins σ Q) X.xe s
def ZW (X:Cx)(f:Value)(r:List V->Hp->VK->Prop):Prop:=
 ∀(pins:List (Addr×Obj)) (s:Shared) (σ:St) (H:Hp) (xs:List V) (us:List Value) (Q:VK),Inv X pins σ H s->ZB xs us->r xs H Q->
  wpAny (model X.prog X.w) X.A (call f us) (EP X pins σ Q) X.xe s
def tOp (r:R2)(ta tb:TE):TE:=fun σ H Q=>ta σ H fun x H1=>tb σ H1 fun y H2=>r x y H2 Q
def tUn (r:V->Hp->VK->Prop)(ta:TE):TE:=fun σ H Q=>ta σ H fun x H1=>r x H1 Q
def rI (C:Int->Int->Prop)(g:Int->Int->V):R2:=fun x y H Q=>∃i j,x=.int i/\y=.int j/\C i j/\Q (g i j) H
def rI0 (g:Int->Int->V):R2:=fun x y H Q=>∃i j,x=.int i/\y=.int j/\Q (g i j) H
def rU (g:Int->V):V->Hp->VK->Prop:=fun x H Q=>∃i,x=.int i/\Q (g i) H
section
variable {X:Cx}{a b c:Expr}{ta tb tc:TE}{pos:Pos}
theorem Zix (ha:PE X a ta)(hb:PE X b tb){pins:List (Addr×Obj)}{s:Shared}{σ:St}{H:Hp}{R:V->V->Hp->Prop}(I:Inv X pins σ H s)
  (h:ta σ H fun x H1=>tb σ H1 fun y H2=>R x y H2) {Q:Value->Shared->Prop}{f:Value->Value->Sem Value}
  (hf:∀v u s2 x y H2,Inv X pins σ H2 s2->RelV x v->RelV y u->R x y H2->wpAny (model X.prog X.w) X.A (f v u) Q X.xe s2) :
  wpAny (model X.prog X.w) X.A (eval a X.env) (fun v s₁=>wpAny (model X.prog X.w) X.A (eval b X.env) (fun u s₂=>wpAny (model X.prog X.w) X.A (f v u) Q X.xe s₂) X.xe s₁) X.xe s:=by
 refine Z7 (ha pins s σ H _ I h) fun v s1 ⟨x,H1,I1,r1,q1⟩=>?_
 refine Z7 (hb pins s1 σ H1 _ I1 q1) fun u s2 ⟨y,H2,I2,r2,q2⟩=>?_
 exact hf v u s2 x y H2 I2 r1 r2 q2
theorem ZC {op:Operator}{r:R2}(ho:J5 X (binaryOp op) r)(ha:PE X a ta)(hb:PE X b tb):PE X (.BinOp a op b pos) (tOp r ta tb):=by
 intro pins s σ H Q I h
 exact wpAny_BinOp (Zix ha hb I h fun v u s2 x y H2 I2 rx ry q=>ho pins s2 σ H2 x y v u Q I2 rx ry q)
theorem Zg3 {op:UnaryOp}{r:V->Hp->VK->Prop}(ho:UnR X (unaryOp op) r)(ha:PE X a ta):PE X (.UnaryOp op a pos) (tUn r ta):=by
 intro pins s σ H Q I h
 exact UnaryOp_ (Z7 (ha pins s σ H _ I h) fun v s1 ⟨x,H1,I1,r1,q1⟩=>ho pins s1 σ H1 x v Q I1 r1 q1)
theorem opI {f:Value->Value->Sem Value}{C:Int->Int->Prop}{g:Int->Int->Int}
  (rule:∀(i j:Int) (t u:Tok) (s:Shared) (Q:Value->Shared->Prop) (E:Value->Shared->Prop),C i j->Q (.int (g i j) s.toks) {s with toks:=s.toks+1}->wpAny (model X.prog X.w) X.A (f (.int i t) (.int j u)) Q E s) :
  J5 X f (rI C fun i j=>.int (g i j)):=by
 intro pins s σ H x y v u Q I rx ry h
 obtain⟨i,j,rfl,rfl,hc,q⟩:=h
 obtain⟨t,rfl⟩:=rx
 obtain⟨t',rfl⟩:=ry
 exact rule i j t t' s _ _ hc ⟨.int (g i j),H,I.tok _,⟨_,rfl⟩,q⟩
theorem Zjv {f:Value->Value->Sem Value}{g:Int->Int->Int}
  (rule:∀(i j:Int) (t u:Tok) (s:Shared) (Q:Value->Shared->Prop) (E:Value->Shared->Prop),Q (.int (g i j) s.toks) {s with toks:=s.toks+1}->wpAny (model X.prog X.w) X.A (f (.int i t) (.int j u)) Q E s) :
  J5 X f (rI0 fun i j=>.int (g i j)):=by
 intro pins s σ H x y v u Q I rx ry h
 obtain⟨i,j,rfl,rfl,q⟩:=h
 obtain⟨t,rfl⟩:=rx
 obtain⟨t',rfl⟩:=ry
 exact rule i j t t' s _ _ ⟨.int (g i j),H,I.tok _,⟨_,rfl⟩,q⟩
theorem ZhU {f:Value->Value->Sem Value}{g:Int->Int->Bool}
  (rule:∀(i j:Int) (t u:Tok) (s:Shared) (Q:Value->Shared->Prop) (E:Value->Shared->Prop),Q (.bool (g i j)) s->wpAny (model X.prog X.w) X.A (f (.int i t) (.int j u)) Q E s) :
  J5 X f (rI0 fun i j=>.bl (g i j)):=by
 intro pins s σ H x y v u Q I rx ry h
 obtain⟨i,j,rfl,rfl,q⟩:=h
 obtain⟨t,rfl⟩:=rx
 obtain⟨t',rfl⟩:=ry
 exact rule i j t t' s _ _ ⟨.bl (g i j),H,I,rfl,q⟩
def ZkS (i j:Int):Prop:=0<j/\j<1073741824
def ZkR (i j:Int):Prop:=0<=j/\j<=1000000/\i.natAbs<2 ^ 64
def ZiM (i j:Int):Prop:=(-(2 ^ 64)<i/\i<2 ^ 64)\/(-(2 ^ 64)<j/\j<2 ^ 64)
theorem ZiM.ok {i j:Int}(h:ZiM i j):IntMulOk i j:=by
 rcases h with ⟨h1,h2⟩|⟨h1,h2⟩
 ·exact .of_left (intBits_le_64 h1 h2)
 ·exact .of_right (intBits_le_64 h1 h2)
theorem YD:J5 X (binaryOp .Add) (rI0 fun i j=>.int (i+j)):=Zjv fun _ _ _ _ _ _ _ q=>add_int q
theorem V7:J5 X (binaryOp .Sub) (rI0 fun i j=>.int (i-j)):=Zjv fun _ _ _ _ _ _ _ q=>sub_int q
theorem Jb:J5 X (binaryOp .Mult) (rI ZiM fun i j=>.int (i*j)):=opI fun _ _ _ _ _ _ _ hc q=>mul_int q hc.ok
theorem W0:J5 X (binaryOp .FloorDiv) (rI ZkS fun i j=>.int (i / j)):=opI fun i j _ _ _ _ _ hc q=>by
 have h1:(0:Int)<j:=hc.1
 have h2:j<1073741824:=hc.2
 exact floordiv_int (by omega) (by rw[Int.fdiv_eq_ediv_of_nonneg i (by omega)];exact q) (.inl (PyProof.noPylong_small (by omega)))
theorem YL:J5 X (binaryOp .Mod) (rI (fun _ j=>0<j) fun i j=>.int (i % j)):=opI fun i j _ _ _ _ _ hc q=>by
 have h1:(0:Int)<j:=hc
 exact mod_int' (by omega) (by rw[Int.fmod_eq_emod_of_nonneg i (by omega)];exact q)
theorem ZhR:J5 X (binaryOp .Pow) (rI ZkR fun i j=>.int (i ^ j.toNat)):=opI fun _ _ _ _ _ _ _ hc q=>pow_int_small hc.1 hc.2.1 hc.2.2 q
theorem unI {f:Value->Sem Value}{g:Int->Int}
  (rule:∀(i:Int) (t:Tok) (s:Shared) (Q:Value->Shared->Prop) (E:Value->Shared->Prop),Q (.int (g i) s.toks) {s with toks:=s.toks+1}->wpAny (model X.prog X.w) X.A (f (.int i t)) Q E s) :
  UnR X f (rU fun i=>.int (g i)):=by
 intro pins s σ H x v Q I rx h
 obtain⟨i,rfl,q⟩:=h
 obtain⟨t,rfl⟩:=rx
 exact rule i t s _ _ ⟨.int (g i),H,I.tok _,⟨_,rfl⟩,q⟩
theorem ZdN:UnR X (unaryOp .USub) (rU fun i=>.int (-i)):=unI fun _ _ _ _ _ q=>neg_int q
end
def Zja:V->V->Bool
 | .non,.non=>true | .non,.int _=>true | .int _,.non=>true | .non,.bl _=>true | .bl _,.non=>true | .non,.str _=>true | .str _,.non=>true
 | .int _,.int _=>true | .bl _,.bl _=>true | .str _,.str _=>true | .byt _,.byt _=>true
 | .int _,.str _=>true | .str _,.int _=>true | .bl _,.str _=>true | .str _,.bl _=>true
 |_,_=>false
def rEq:R2:=fun x y H Q=>Zja x y=true/\Q (.bl (decide (x=y))) H
def rNe:R2:=fun x y H Q=>Zja x y=true/\Q (.bl (!decide (x=y))) H
theorem YT {i j:Int}:decide (V.int i=V.int j)=(i == j):=by
 rw[Bool.eq_iff_iff]
 simp
theorem Zfh {i j:Bool}:decide (V.bl i=V.bl j)=(i == j):=by
 rw[Bool.eq_iff_iff]
 simp
theorem ZcC {i j:Str}:decide (V.str i=V.str j)=(i == j):=by
 rw[Bool.eq_iff_iff]
 simp
theorem ZcD {i j:Array UInt8}:decide (V.byt i=V.byt j)=(i.toList == j.toList):=by
 rw[Bool.eq_iff_iff]
 cases i
 cases j
 simp
section
variable {X:Cx}{a b c:Expr}{ta tb tc:TE}{pos:Pos}
theorem ZJ {pins:List (Addr×Obj)}{σ:St}{H:Hp}{s:Shared}{Q:VK}{k k':Bool}(I:Inv X pins σ H s)(q:Q (.bl k) H)(e:k=k'):EP X pins σ Q (.bool k') s:=by
 subst e
 exact⟨.bl k,H,I,rfl,q⟩
theorem Vk:J5 X (compareOp .Eq) rEq:=by
 intro pins s σ H x y v u Q I rx ry h
 obtain⟨hs,q⟩:=h
 cases x with
 |non=>
  cases rx
  cases y with
  |non=>cases ry;exact PySem.EqNone.eq_none_none (ZJ I q (by simp))
  |bl j=>cases ry;exact PySem.EqNone.eq_none_bool (ZJ I q (by simp))
  |int j=>obtain⟨t',rfl⟩:=ry;exact PySem.EqNone.eq_none_int (ZJ I q (by simp))
  |str j=>obtain⟨t',rfl⟩:=ry;exact PySem.EqNone.eq_none_str (ZJ I q (by simp))
  |_=>exact absurd (show false=true from hs) Bool.false_ne_true
 |bl i=>
  cases rx
  cases y with
  |non=>cases ry;exact PySem.EqNone.eq_bool_none (ZJ I q (by simp))
  |bl j=>cases ry;exact eq_bool (ZJ I q Zfh)
  |str j=>obtain⟨t',rfl⟩:=ry;exact PySem.EqMixed.eq_bool_str (ZJ I q (by simp))
  |_=>exact absurd (show false=true from hs) Bool.false_ne_true
 |int i=>
  obtain⟨t,rfl⟩:=rx
  cases y with
  |non=>cases ry;exact PySem.EqNone.eq_int_none (ZJ I q (by simp))
  |int j=>obtain⟨t',rfl⟩:=ry;exact eq_int (ZJ I q YT)
  |str j=>obtain⟨t',rfl⟩:=ry;exact PySem.EqMixed.eq_int_str (ZJ I q (by simp))
  |_=>exact absurd (show false=true from hs) Bool.false_ne_true
 |str i=>
  obtain⟨t,rfl⟩:=rx
  cases y with
  |non=>cases ry;exact PySem.EqNone.eq_str_none (ZJ I q (by simp))
  |bl j=>cases ry;exact PySem.EqMixed.eq_str_bool (ZJ I q (by simp))
  |int j=>obtain⟨t',rfl⟩:=ry;exact PySem.EqMixed.eq_str_int (ZJ I q (by simp))
  |str j=>obtain⟨t',rfl⟩:=ry;exact eq_str (ZJ I q ZcC)
  |_=>exact absurd (show false=true from hs) Bool.false_ne_true
 |byt i=>
  obtain⟨t,rfl⟩:=rx
  cases y with
  |byt j=>obtain⟨t',rfl⟩:=ry;exact PySem.W.eq_bytes (ZJ I q ZcD)
  |_=>exact absurd (show false=true from hs) Bool.false_ne_true
 |_=>cases y <;> exact absurd (show false=true from hs) Bool.false_ne_true
theorem Zac:J5 X (compareOp .NotEq) rNe:=by
 intro pins s σ H x y v u Q I rx ry h
 obtain⟨hs,q⟩:=h
 cases x with
 |non=>
  cases rx
  cases y with
  |non=>cases ry;exact PySem.EqNone.ne_none_none (ZJ I q (by simp))
  |bl j=>cases ry;exact PySem.EqNone.ne_none_bool (ZJ I q (by simp))
  |int j=>obtain⟨t',rfl⟩:=ry;exact PySem.EqNone.ne_none_int (ZJ I q (by simp))
  |str j=>obtain⟨t',rfl⟩:=ry;exact PySem.EqNone.ne_none_str (ZJ I q (by simp))
  |_=>exact absurd (show false=true from hs) Bool.false_ne_true
 |bl i=>
  cases rx
  cases y with
  |non=>cases ry;exact PySem.EqNone.ne_bool_none (ZJ I q (by simp))
  |bl j=>cases ry;exact ne_bool (ZJ I q (congrArg not Zfh))
  |str j=>obtain⟨t',rfl⟩:=ry;exact PySem.EqMixed.ne_bool_str (ZJ I q (by simp))
  |_=>exact absurd (show false=true from hs) Bool.false_ne_true
 |int i=>
  obtain⟨t,rfl⟩:=rx
  cases y with
  |non=>cases ry;exact PySem.EqNone.ne_int_none (ZJ I q (by simp))
  |int j=>obtain⟨t',rfl⟩:=ry;exact ne_int (ZJ I q (congrArg not YT))
  |str j=>obtain⟨t',rfl⟩:=ry;exact PySem.EqMixed.ne_int_str (ZJ I q (by simp))
  |_=>exact absurd (show false=true from hs) Bool.false_ne_true
 |str i=>
  obtain⟨t,rfl⟩:=rx
  cases y with
  |non=>cases ry;exact PySem.EqNone.ne_str_none (ZJ I q (by simp))
  |bl j=>cases ry;exact PySem.EqMixed.ne_str_bool (ZJ I q (by simp))
  |int j=>obtain⟨t',rfl⟩:=ry;exact PySem.EqMixed.ne_str_int (ZJ I q (by simp))
  |str j=>obtain⟨t',rfl⟩:=ry;exact ne_str (ZJ I q (congrArg not ZcC))
  |_=>exact absurd (show false=true from hs) Bool.false_ne_true
 |byt i=>
  obtain⟨t,rfl⟩:=rx
  cases y with
  |byt j=>obtain⟨t',rfl⟩:=ry;exact PySem.W.ne_bytes (ZJ I q (congrArg not ZcD))
  |_=>exact absurd (show false=true from hs) Bool.false_ne_true
 |_=>cases y <;> exact absurd (show false=true from hs) Bool.false_ne_true
theorem Zev:J5 X (compareOp .Lt) (rI0 fun i j=>.bl (decide (i<j))):=ZhU fun _ _ _ _ _ _ _ q=>lt_int q
theorem Zju:J5 X (compareOp .LtE) (rI0 fun i j=>.bl (decide (i<=j))):=ZhU fun _ _ _ _ _ _ _ q=>le_int q
theorem Zad:J5 X (compareOp .Gt) (rI0 fun i j=>.bl (decide (j<i))):=ZhU fun _ _ _ _ _ _ _ q=>gt_int q
theorem ZR (b:Expr){op:CmpOp}(h:op≠.In:=by decide)(h2:op≠.NotIn:=by decide):behindInMarks op b=false:=by
 have e1:(op == CmpOp.In)=false:=by cases op <;> first|rfl|exact absurd rfl h
 have e2:(op == CmpOp.NotIn)=false:=by cases op <;> first|rfl|exact absurd rfl h2
 cases b <;> simp[behindInMarks,e1,e2]
theorem Zf1 {op:CmpOp}{r:R2}(ho:J5 X (compareOp op) r)(ha:PE X a ta)(hb:PE X b tb)(hm:behindInMarks op b=false):PE X (.Compare a [op] [b] pos) (tOp r ta tb):=by
 intro pins s σ H Q I h
 exact wpAny_Compare1 (Zix ha hb I h fun v u s2 x y H2 I2 rx ry q=>ho pins s2 σ H2 x y v u Q I2 rx ry q) hm
def Zi0 (t:TE):TT:=fun σ H Q=>t σ H fun x H'=>∃k,x=.bl k/\Q k H'
theorem ZI {op:CmpOp}{r:R2}(ho:J5 X (compareOp op) r)(ha:PE X a ta)(hb:PE X b tb)(hm:behindInMarks op b=false):PT X (.Compare a [op] [b] pos) (Zi0 (tOp r ta tb)):=by
 intro pins s σ H Q I h
 refine wpAny_isTrue_Compare1 (Z7 (ha pins s σ H _ I h) fun v s1 ⟨x,H1,I1,r1,q1⟩=>Z7 (hb pins s1 σ H1 _ I1 q1) fun u s2 ⟨y,H2,I2,r2,q2⟩=>
  Z7 (ho pins s2 σ H2 x y v u _ I2 r1 r2 q2) fun c s3 ⟨z,H3,I3,r3,k,e,q3⟩=>?_) hm
 subst e
 cases r3
 exact wpAny_truthy_bool ⟨H3,I3,q3⟩
theorem Uh:(sizeLine:Nat)<2 ^ 63:=by rw[sizeLine_eq];decide
theorem vals1 {x:V}{us:List Value}(r:ZB [x] us):∃u,us=[u]/\RelV x u:=by
 cases r with
 |cons r1 r2=>cases r2;exact⟨_,rfl,r1⟩
theorem vals2 {x y:V}{us:List Value}(r:ZB [x,y] us):∃u w',us=[u,w']/\RelV x u/\RelV y w':=by
 cases r with
 |cons r1 r2=>
  cases r2 with
  |cons r3 r4=>cases r4;exact⟨_,_,rfl,r1,r3⟩
theorem ZdD (hc:X.calm=true):ZW X (.builtin "max") (fun xs H Q=>∃i j,xs=[.int i,.int j]/\Q (.int (if j > i then j else i)) H):=by
 intro pins s σ H xs us Q I r h
 obtain⟨i,j,rfl,q⟩:=h
 obtain⟨u,w',rfl,⟨t,rfl⟩,⟨t',rfl⟩⟩:=vals2 r
 refine max_two_ints (I.ok.hd hc) fun h' tk k=>⟨_,H,I.kept k,?_,q⟩
 by_cases hj:j > i
 ·rw[if_pos hj,if_pos hj];exact⟨_,rfl⟩
 ·rw[if_neg hj,if_neg hj];exact⟨_,rfl⟩
end
section
variable {prog:Program}{w:World}{A:Around}{E:Value->Shared->Prop}{s:Shared}{K:PySem.W.Frag}{x dx C f:Addr}{mA:Str->Option Value}{name:Str}{v:Value}
end
theorem X6.some_of {v:V}{o:Option Value}(r:X6 (some v) o):∃u,o=some u/\RelV v u:=by
 cases o with
 |none=>exact (show False from r).elim
 |some u=>exact⟨u,rfl,r⟩
section
variable {P:Program}{w:World}{H H':Hp}{h h':Heap}{a C dx:Addr}{fs fs':List (Str×V)}
end
section
variable {X:Cx}{pins:List (Addr×Obj)}{σ:St}{H:Hp}{s:Shared}{a C dx:Addr}{fs:List (Str×V)}{f:Str}{v:V}{A:Around}{E:Value->Shared->Prop}
end
section
variable {X:Cx}{o e value:Expr}{f:Str}{pos pos' tpos:Pos}{ta tv:TE}
end
section
variable {X:Cx}{pins:List (Addr×Obj)}{σ:St}{H:Hp}{s:Shared}{A:Around}{E:Value->Shared->Prop}{Q:Value->Shared->Prop}{c:Value}{b:Bool}
end
structure Wm (k:Nat)(A:Around):Prop where
 hd:A.handled=none
 dp:A.depth+3*k+5<recursionLimit
 un:A.units+16*k+200<cLine
 gd:A.guards=some []
theorem Wm.mono {j k:Nat}{A:Around}(r:Wm k A)(h:j<=k):Wm j A:=⟨r.hd,by have:=r.dp;omega,by have:=r.un;omega,r.gd⟩
theorem Wm.deeper {k:Nat}{A:Around}(r:Wm (k+1) A)(env:Env):Wm k (A.deeper env):=
 ⟨r.hd,by have:=r.dp;show A.depth+1+3*k+5<_;omega,by have:=r.un;show A.units+3+16*k+200<_;omega,r.gd⟩
theorem Wm.depth {k:Nat}{A:Around}(r:Wm k A):A.depth<recursionLimit:=by have:=r.dp;omega
theorem Wm.units {k:Nat}{A:Around}(r:Wm k A):A.units+64<cLine:=by have:=r.un;omega
def ZfF:TA:=fun _ H Q=>Q [] H
def UM (ta:TE)(tr:TA):TA:=fun σ H Q=>ta σ H fun x H1=>tr σ H1 fun xs H2=>Q (x::xs) H2
section
variable {X:Cx}{e:Expr}{es:List Expr}{te:TE}{t:TA}{pos:Pos}
theorem Zs:PA X [] ZfF:=fun _ _ _ _ H Q I h=>Calls.spliced_nil ⟨[],H,I,.nil,h⟩
theorem Zf5 (ha:PE X e te)(hr:PA X es t)(hs:starEach (e::es) X.env=(false,eval e X.env)::starEach es X.env:=by rfl):PA X (e::es) (UM te t):=by
 intro pos pins s σ H Q I h
 rw[hs]
 show wpAny _ _ (spliced ((false,eval e X.env)::backTo pos (starEach es X.env))) _ _ s
 refine Calls.spliced_cons (Z7 (ha pins s σ H _ I h) fun u s1 ⟨x,H1,I1,r1,q1⟩=>?_)
 exact Z7 (hr pos pins s1 σ H1 _ I1 q1) fun us s2 ⟨xs,H2,I2,r2,q2⟩=>⟨x::xs,H2,I2,.cons r1 r2,q2⟩
def Zkm (t:TA):TE:=fun σ H Q=>t σ H fun xs H1=>xs.length<=sizeLine/\∀p,H1 p=none->Q (.ref p) (upd H1 p (.tup xs))
def Zhs (t:TA):TE:=fun σ H Q=>t σ H fun xs H1=>xs.length<=sizeLine/\∀p,H1 p=none->Q (.ref p) (upd H1 p (.lst xs))
theorem JJ {x1}(h:PA X es t):PE X (.Tuple es x1 pos) (Zkm t):=by
 intro pins s σ H Q I hq
 refine wpAny_Tuple_spliced (Z7 (h pos pins s σ H _ I hq) fun us s1 ⟨xs,H1,I1,r,z,q⟩=>⟨by rw[<-r.length];exact z,?_⟩)
 have hf:H1 s1.heap.objs.size=none:=I1.hok.fresh (Zq _)
 refine⟨.ref s1.heap.objs.size,upd H1 s1.heap.objs.size (.tup xs),I1.laid (t':=s1.toks) (fun b u e=>Zn _ e) (Zq _) ?_,rfl,q _ hf⟩
 exact⟨z,us,r,⟨_,Zo _ rfl,rfl,_,rfl⟩⟩
theorem Ys (h:PA X es t):PE X (.List es pos) (Zhs t):=by
 intro pins s σ H Q I hq
 refine wpAny_List_spliced (Z7 (h pos pins s σ H _ I hq) fun us s1 ⟨xs,H1,I1,r,z,q⟩=>⟨by rw[<-r.length];exact z,?_⟩)
 have hf:H1 s1.heap.objs.size=none:=I1.hok.fresh (Zq _)
 refine⟨.ref s1.heap.objs.size,upd H1 s1.heap.objs.size (.lst xs),I1.laid (t':=s1.toks) (fun b u e=>Zn _ e) (Zq _) ?_,rfl,q _ hf⟩
 exact⟨z,us,0,r,Zo _ rfl⟩
end
abbrev Sp:=List V->Hp->VK->XK->Prop
abbrev CXT:=List Env->Hp->Shared->XK->Value->Shared->Prop
structure ZgJ (P:Program)(w:World)(K:PySem.W.Frag)(mg:Str->Option Value)(base:Heap)(A:Around)(outer:List Env)(s:Shared)(H:Hp):Prop where
 frames:A.frames=some outer
 mod:Mod K mg base
 bs:∀b o,base.get? b=some o->s.heap.get? b=some o/\H b=none
 bsz:base.objs.size<=s.heap.objs.size
 funs:s.heap.FunFrames base outer
 frf:∀b∈frs outer,H b=none
 hok:JC P w H s.heap
 bare:AllBare s.gens
def CE (outer:List Env)(P:Program)(w:World)(H:Hp)(s:Shared)(Q:VK)(u:Value)(s':Shared):Prop:=
 ∃v H',s'.os=s.os/\AllBare s'.gens/\Un (frs outer) [] H H' s.heap s'.heap/\JC P w H' s'.heap/\RelV v u/\Q v H'
def CR (CX:CXT)(outer:List Env)(P:Program)(w:World)(H:Hp)(s:Shared)(Q:VK)(E:XK)(r:Result)(s':Shared):Prop:=
 match r with
 | .ok (.ret u)=>CE outer P w H s Q u s'
 | .ok _=>False
 | .error e=>CX outer H s E e s'
structure Z1 (P:Program)(w:World)(K:PySem.W.Frag)(mg:Str->Option Value)(base:Heap)(CX:CXT)(k:Nat)(f:Addr)(fd:FuncData)(ps:List Str)(sp:Sp):Prop where
 len:∀vs H Q E,sp vs H Q E->vs.length=ps.length
 run:∀(A:Around) (outer:List Env) (s:Shared) (H:Hp) (args:Args) (us:List Value) (vs:List V) (Q:VK) (E:XK),Wm k A->ZgJ P w K mg base A outer s H->BindsTo s fd args (ps.zip us)->ZB vs us->sp vs H Q E->
  codeAny (model P w) A (.call (.ref f) args) (CR CX outer P w H s Q E) s
section
variable {X:Cx}{pins:List (Addr×Obj)}{σ:St}{H:Hp}{s s':Shared}
theorem Inv.env0 (I:Inv X pins σ H s):ZgJ X.prog X.w X.K X.mg X.base X.A X.stack s H:=
 ⟨I.ok.frames,I.ok.mod,I.bs,Nat.le_trans I.ok.bsz I.sz,I.stack,I.stkFree,I.hok,I.bare⟩
theorem Inv.after {Q:VK}{u:Value}(I:Inv X pins σ H s)(h:CE X.stack X.prog X.w H s Q u s'):EP X pins σ Q u s':=by
 obtain⟨v,H',os,bare,un,hok,r,q⟩:=h
 obtain⟨hh,g,d,t,os'⟩:=s'
 obtain rfl:os'=s.os:=os
 exact⟨v,H',I.call (h':=hh) (g':=g) (d':=d) (t':=t) (ch:=[]) un hok bare (fun b z=>absurd z (by simp)),r,q⟩
end
def ZgN (sp:Sp)(dvs:List V)(E:XK)(t:TA):TE:=fun σ H Q=>t σ H fun vs H1=>sp (vs++dvs) H1 Q E
def Binds (K:PySem.W.Frag)(fd:FuncData)(ps:List Str)(ds:List Value):Prop:=
 ∀(s:Shared) (us:List Value),K.In s.heap->(us++ds).length=ps.length->BindsTo s fd ⟨us,[]⟩ (ps.zip (us++ds))
theorem Binds.all {K:PySem.W.Frag}{fd:FuncData}{ps:List Str}(h:∀us:List Value,us.length=ps.length->bindArgs fd ⟨us,[]⟩=pure (ps.zip us)):Binds K fd ps []:=fun s us _ hl=>by
 rw[List.append_nil] at hl ⊢
 exact .of_eq (h us hl)
def UD (CX:CXT)(X:Cx)(E:XK):Prop:=∀(pins:List (Addr×Obj)) (σ:St) (H:Hp) (s:Shared) (e:Value) (s':Shared),Inv X pins σ H s->CX X.stack H s E e s'->X.xe e s'
section
variable {X:Cx}{CX:CXT}{k:Nat}{f C:Addr}{fd:FuncData}{ps:List Str}{sp:Sp}{dvs:List V}{ds:List Value}{E:XK}{x m:Str}{p pos apos:Pos}{e o:Expr}{es:List Expr}{ta:TE}{t:TA}
theorem Zhy {pins:List (Addr×Obj)}{σ:St}{H:Hp}{s:Shared}{Q:VK}{us:List Value}{vs:List V}(F:Z1 X.prog X.w X.K X.mg X.base CX k f fd ps sp)(hr:Wm k X.A)(hb:Binds X.K fd ps ds)(hd:ZB dvs ds)(hx:UD CX X E)
  (I:Inv X pins σ H s) (r:ZB vs us) (h:sp (vs++dvs) H Q E):wpAny (model X.prog X.w) X.A (call (.ref f) us) (EP X pins σ Q) X.xe s:=by
 have r2:ZB (vs++dvs) (us++ds):=r.append hd
 have hl:(us++ds).length=ps.length:=by rw[<-r2.length];exact F.len _ _ _ _ h
 refine wpAny_call (codeAny_mono (F.run X.A X.stack s H ⟨us,[]⟩ (us++ds) (vs++dvs) Q E hr I.env0 (hb s us I.kIn hl) r2 h) fun r s' hq=>?_)
 cases r with
 |error e=>exact hx pins σ H s e s' I hq
 |ok fl=>
  cases fl with
  |ret u=>exact I.after hq
  |next=>exact False.elim hq
  |brk=>exact False.elim hq
  |cont=>exact False.elim hq
theorem Zf2 (F:Z1 X.prog X.w X.K X.mg X.base CX k f fd ps sp)(hr:Wm k X.A)(hg:Gl X x)(hm:X.mg x=some (.ref f))(hk:PySem.W.keepIn X.K (.ref f)=true)(hb:Binds X.K fd ps ds)(hd:ZB dvs ds)(hx:UD CX X E)
  (ha:PA X (e::es) t) (hdb:(x == ("__debug__":Str))=false:=by decide) (he:starEach (e::es) X.env=(false,eval e X.env)::starEach es X.env:=by rfl) (hpl:(backTo pos (starEach es X.env)).any (·.1)=false:=by rfl) :
  PE X (.Call (.Name x p) (e::es) [] pos) (ZgN sp dvs E t):=by
 intro pins s σ H Q I h
 refine wpAny_Call_Name_kw (Zgn I hg hm ?_ hdb)
 refine PySem.W.callWith_K (h₀:=X.base) I.ok.mod.kin hk (Z7 (ha pos pins s σ H _ I h) fun us s1 ⟨vs,H1,I1,r,q⟩=>⟨I1.kIn,?_⟩) he hpl
 exact Zhy F hr hb hd hx I1 r q
end
section
variable {X:Cx}{CX:CXT}{k:Nat}{f C:Addr}{fd:FuncData}{ps ks:List Str}{sp:Sp}{E:XK}{x m:Str}{p pos apos kpos:Pos}{e o:Expr}{es:List Expr}{kws:List Keyword}{te ta:TE}{t tk:TA}{nm:Option Str}
variable {g:List Value->List Value->List Value}{gV:List V->List V->List V}
end
structure Xk (N P:List Str)(sc:Scope):Prop where
 kind:sc.kind=.function
 co:sc.isCoroutine=false
 gen:sc.isGenerator=false
 nd:N.Nodup
 pre:N.take P.length=P
 par:∀x∈P,sc.names.lookup x=some .local\/sc.names.lookup x=some .cell
 nofree:∀y∈sc.names,y.2≠.free
theorem FS {N P:List Str}{sc:Scope}(a:sc.kind=.function:=by rfl)(b:sc.isCoroutine=false:=by rfl)(c:sc.isGenerator=false:=by rfl)(d:N.Nodup:=by decide +kernel)(e:N.take P.length=P:=by rfl)(f:∀x∈P,sc.names.lookup x=some .local\/sc.names.lookup x=some .cell:=by decide +kernel)(g:∀y∈sc.names,y.2≠.free:=by decide +kernel):Xk N P sc:=⟨a,b,c,d,e,f,g⟩
theorem bd1 {α:Type}{f g:List Value->α}(h:∀a,f [a]=g [a])(us:List Value)(l:us.length=1):f us=g us:=by
  cases us with
  |nil=>cases l
  |cons a r=>cases r with
    |nil=>exact h a
    |cons b r=>simp at l
theorem UF {α:Type}{f g:List Value->α}(h:∀a b,f [a,b]=g [a,b])(us:List Value)(l:us.length=2):f us=g us:=by
  cases us with
  |nil=>cases l
  |cons a r=>exact bd1 (f:=fun r=>f (a::r)) (g:=fun r=>g (a::r)) (h a) r (Nat.succ.inj l)
theorem bd3 {α:Type}{f g:List Value->α}(h:∀a b c,f [a,b,c]=g [a,b,c])(us:List Value)(l:us.length=3):f us=g us:=by
  cases us with
  |nil=>cases l
  |cons a r=>exact UF (f:=fun r=>f (a::r)) (g:=fun r=>g (a::r)) (h a) r (Nat.succ.inj l)
theorem bd4 {α:Type}{f g:List Value->α}(h:∀a b c d,f [a,b,c,d]=g [a,b,c,d])(us:List Value)(l:us.length=4):f us=g us:=by
  cases us with
  |nil=>cases l
  |cons a r=>exact bd3 (f:=fun r=>f (a::r)) (g:=fun r=>g (a::r)) (h a) r (Nat.succ.inj l)
theorem VC {kindOf:Str->Option NameKind}{x:Str}:∀{binds:List (Str×Value)}{m:Str->Option Value},(∀v,(x,v)∉binds)->bindL kindOf binds m x=m x
 | [],_,_=>rfl
 |(n,v)::r,m,h=>by
  unfold bindL
  rw[VC fun w hw=>h w (List.mem_cons_of_mem _ hw)]
  split
  ·have:x≠n:=by rintro rfl;exact h v List.mem_cons_self
   simp[this]
  ·rfl
theorem VE {kindOf:Str->Option NameKind}{x:Str}:∀{binds:List (Str×Value)}{m:Str->Option Value},(∀v,(x,v)∉binds)->bindC kindOf binds m x=m x
 | [],_,_=>rfl
 |(n,v)::r,m,h=>by
  unfold bindC
  rw[VE fun w hw=>h w (List.mem_cons_of_mem _ hw)]
  split
  ·rfl
  ·have:x≠n:=by rintro rfl;exact h v List.mem_cons_self
   simp[this]
theorem VD {kindOf:Str->Option NameKind}{x:Str}{v:Value}:∀{P:List Str}{vs:List Value}{i:Nat}{m:Str->Option Value},P.Nodup->P[i]?=some x->vs[i]?=some v->kindOf x=some .local->
  bindL kindOf (P.zip vs) m x=some v
 | [],_,_,_,_,h,_,_=>by simp at h
 |_::_,[],_,_,_,_,h,_=>by simp at h
 |p::P,w::vs,0,m,nd,h1,h2,hk=>by
  simp at h1 h2;subst h1;subst h2
  show bindL kindOf ((p,w)::P.zip vs) m p=_
  unfold bindL
  rw[VC fun v hv=>(List.nodup_cons.mp nd).1 (List.of_mem_zip hv).1,if_pos hk]
  simp
 |p::P,w::vs,i+1,m,nd,h1,h2,hk=>by
  show bindL kindOf ((p,w)::P.zip vs) m x=_
  unfold bindL
  exact VD (i:=i) (List.nodup_cons.mp nd).2 (by simpa using h1) (by simpa using h2) hk
theorem VF {kindOf:Str->Option NameKind}{x:Str}{v:Value}:∀{P:List Str}{vs:List Value}{i:Nat}{m:Str->Option Value},P.Nodup->P[i]?=some x->vs[i]?=some v->kindOf x≠some .local->
  bindC kindOf (P.zip vs) m x=some v
 | [],_,_,_,_,h,_,_=>by simp at h
 |_::_,[],_,_,_,_,h,_=>by simp at h
 |p::P,w::vs,0,m,nd,h1,h2,hk=>by
  simp at h1 h2;subst h1;subst h2
  show bindC kindOf ((p,w)::P.zip vs) m p=_
  unfold bindC
  rw[VE fun v hv=>(List.nodup_cons.mp nd).1 (List.of_mem_zip hv).1,if_neg hk]
  simp
 |p::P,w::vs,i+1,m,nd,h1,h2,hk=>by
  show bindC kindOf ((p,w)::P.zip vs) m x=_
  unfold bindC
  exact VF (i:=i) (List.nodup_cons.mp nd).2 (by simpa using h1) (by simpa using h2) hk
def start (N:List Str)(vs:List V):St:=vs.map some++List.replicate (N.length-vs.length) none
def Zdw (CX:CXT)(P:Program)(w:World)(K:PySem.W.Frag)(mg:Str->Option Value)(base:Heap)(N:List Str)(qual:Str)(scope:Scope)(f:Addr)(cd:Value)(A:Around)(outer:List Env)(s:Shared)(H:Hp)(E:XK):Cx where
 prog:=P
 w:=w
 K:=K
 mg:=mg
 base:=base
 A:=A.deeper (envOfC qual scope s.heap.objs.size f cd)
 N:=N
 s₀:=s
 H₀:=H
 env:=envOfC qual scope s.heap.objs.size f cd
 outer:=outer
 stack:=envOfC qual scope s.heap.objs.size f cd::outer
 ex:=[]
 calm:=true
 fn:=fun _=>true
 pn:=[]
 xe:=fun e s'=>wpAny (model P w) (A.deeper (envOfC qual scope s.heap.objs.size f cd)) (leaving (envOfC qual scope s.heap.objs.size f cd) e) (fun _ s''=>CX outer H s E e s'') (fun e' s''=>CX outer H s E e' s'') s'
theorem ZaL {sc:Scope}{n:Nat}{x:Str}(h:sc.names.lookup x=some .cell):∃c,(cellsFrom n sc.names []).lookup x=some c:=by
 have q:=PySem.W.cellsFrom_some sc.names n [] (.inl h)
 exact Option.isSome_iff_exists.mp q
theorem Zdj {CX:CXT}{P:Program}{w:World}{K:PySem.W.Frag}{mg:Str->Option Value}{base:Heap}{N ps:List Str}{qual:Str}{scope:Scope}{f:Addr}{cd:Value}{A:Around}{outer:List Env}{s s1:Shared}{H:Hp}{E:XK}{us:List Value}{vs:List V}
  (S:Xk N ps scope) (hd:A.handled=none) (e0:ZgJ P w K mg base A outer s H) (hl:vs.length=ps.length) (r:ZB vs us)
  (x:InCallC s s.heap.objs.size (bindL (envOfC qual scope s.heap.objs.size f cd).kindOf (ps.zip us) fun _=>none) (cellsFrom (s.heap.objs.size+1) scope.names []) (bindC (envOfC qual scope s.heap.objs.size f cd).kindOf (ps.zip us) fun _=>none) s1) :
  Inv (Zdw CX P w K mg base N qual scope f cd A outer s H E) [] (start N vs) H s1:=by
 have hpl:ps.length<=N.length:=by have:=congrArg List.length S.pre;rw[List.length_take] at this;omega
 obtain⟨h1,tk,rfl,hk⟩:=x.done
 have noA:∀b:Addr,b∉(Zdw CX P w K mg base N qual scope f cd A outer s H E).ex:=fun b z=>absurd (show b∈([]:List Addr) from z) (by simp)
 refine⟨⟨e0.mod,S.kind,rfl,rfl,Zq _,fun y z c h1 h2=>?_,fun y hy=>?_,fun y c _ h=>?_,fun _=>hd,Around.frames_deeper e0.frames,.inr ⟨rfl,rfl⟩,fun b z=>absurd z (noA b),e0.bs,e0.bsz,fun b _ _=>noA b,fun b z=>absurd z (noA b),e0.funs,e0.frf⟩,
  rfl,e0.bare,Un.kept hk,⟨_,x.toInCall.ns,fun i y v h1 h2 h3=>?_⟩,fun y c h=>⟨_,x.cell y c h⟩,e0.hok.fresh (Zq _),fun y c h=>?_,fun p hp=>absurd (show p∈([]:List (Addr×Obj)) from hp) (by simp),e0.hok.kept hk,?_⟩
 ·exact name_of_addr x.apart (PySem.mem_of_lookup h1) (PySem.mem_of_lookup h2)
 ·have hy:scope.names.lookup y=some .cell\/scope.names.lookup y=some .free:=hy
  rcases hy with hy|hy
  ·exact ZaL hy
  ·exact absurd rfl (S.nofree _ (PySem.mem_of_lookup hy))
 ·exact Nat.le_of_lt (x.above y c (PySem.mem_of_lookup h))
 ·have hi:i<vs.length:=by
   unfold start at h2
   by_cases hi:i<vs.length
   ·exact hi
   ·rw[List.getElem?_append_right (by simpa using hi)] at h2
    rw[List.getElem?_replicate] at h2
    split at h2 <;> cases h2
  have ha:vs[i]?=some v:=by
   unfold start at h2
   rw[List.getElem?_append_left (by simpa using hi),Zc] at h2
   cases e:vs[i]? with
   |none=>rw[e] at h2;cases h2
   |some a=>rw[e] at h2;cases h2;rfl
  obtain⟨u,hu,rv⟩:=r.get ha
  have hp:ps[i]?=some y:=by
   rw[<-S.pre,List.getElem?_take_of_lt (by omega)];exact h1
  have ndP:ps.Nodup:=by rw[<-S.pre];exact S.nd.sublist (List.take_sublist _ _)
  refine⟨u,rv,?_⟩
  rcases S.par y (List.mem_of_getElem? hp) with k|k
  ·exact .inl ⟨k,VD ndP hp hu k⟩
  ·obtain⟨c,e⟩:=ZaL (n:=s.heap.objs.size+1) k
   refine .inr ⟨.inl k,c,e,?_⟩
   have q:=x.cell y c e
   rw[VF ndP hp hu (by show scope.names.lookup y≠_;rw[k];decide)] at q
   exact q
 ·exact e0.hok.fresh (Nat.le_of_lt (x.above y c (PySem.mem_of_lookup h)))
 ·unfold start
  show _=N.length
  rw[Zd,Za,Ze]
  omega
theorem ZjH {CX:CXT}{P:Program}{w:World}{K:PySem.W.Frag}{mg:Str->Option Value}{base:Heap}{k:Nat}{f:Addr}{name qual:Str}{params:Arguments}{body:List Stmt}{scope:Scope}{dV kV doc pm cdv ct oc:Value}{an od:Option Addr}
  {osl:Array (Option Value)}{N ps:List Str}{sp:Sp} (lk:K.lookup f=some ⟨oc,od,.func (PySem.W.fnOf name qual params body scope dV kV doc pm an cdv ct),osl⟩) (hcd:PySem.W.codeIn K cdv qual=true) (S:Xk N ps scope)
  (len:∀vs H Q E,sp vs H Q E->vs.length=ps.length)
  (hbody:∀(A:Around) (outer:List Env) (s:Shared) (H:Hp) (vs:List V) (Q:VK) (E:XK),Wm k (A.deeper (envOfC qual scope s.heap.objs.size f cdv))->sp vs H Q E->
   ∃t,PSs (Zdw CX P w K mg base N qual scope f cdv A outer s H E) body t/\t {nx:=fun _ H'=>Q .non H',rt:=Q} (start N vs) H) :
  Z1 P w K mg base CX (k+1) f (PySem.W.fnOf name qual params body scope dV kV doc pm an cdv ct) ps sp:=by
 refine⟨len,fun A outer s H args us vs Q E hr e0 hb r hsp=>?_⟩
 have hl:=len _ _ _ _ hsp
 have KX:K.In s.heap:=e0.mod.kin.keeps fun b o e=>(e0.bs b o e).1
 have lim:s.heap.NoLimit:=e0.mod.nolimit.keeps fun b o e=>(e0.bs b o e).1
 have hkind:∀y∈ps.zip us,scope.names.lookup y.1=some .local\/(scope.names.lookup y.1=some .cell/\((cellsFrom (s.heap.objs.size+1) scope.names []).lookup y.1).isSome=true):=fun ⟨n,v⟩ hy=>by
  rcases S.par n (List.of_mem_zip hy).1 with q|q
  ·exact .inl q
  ·exact .inr ⟨q,PySem.W.cellsFrom_some _ _ _ (.inl q)⟩
 refine codeAny_call_function hr.depth (KX _ _ lk) rfl S.co S.gen rfl (PySem.W.codeRec_of KX hcd) (hb _ _ _ _ ?_)
 refine wpAny_newFunctionEnv_cells S.kind hkind fun env he s1 x=>?_
 subst he
 refine⟨lim.keeps x.toInCall.keep,codeAny_func ?_⟩
 obtain⟨t,ht,hq⟩:=hbody A outer s H vs Q E (hr.deeper _) hsp
 have I:Inv (Zdw CX P w K mg base N qual scope f cdv A outer s H E) [] (start N vs) H s1:=Zdj S hr.hd e0 hl r x
 refine wpAny_mono (ht [] s1 (start N vs) H _ I hq) (fun fl s' hs=>?_) fun e s' hs=>hs
 have fin:∀{σ':St}{H':Hp}{v:V}{u:Value},Inv (Zdw CX P w K mg base N qual scope f cdv A outer s H E) [] σ' H' s'->RelV v u->Q v H'->CE outer P w H s Q u s':=
  fun {σ' H' v u} J rv q=>⟨v,H',J.os,J.bare,J.base,J.hok,rv,q⟩
 cases fl with
 |ret u=>
  obtain⟨v,σ',H',J,rv,q⟩:=hs
  exact fin J rv q
 |next=>
  obtain⟨σ',H',J,q⟩:=hs
  exact fin (v:=V.non) (u:=Value.none) J rfl q
 |brk=>
  obtain⟨_,_,_,q⟩:=hs
  exact False.elim q
 |cont=>
  obtain⟨_,_,_,q⟩:=hs
  exact False.elim q
section
variable {X:Cx}{x:Str}{p pos:Pos}{e:Expr}{es:List Expr}{t:TA}{id T:String}{r:List V->Hp->VK->Prop}
def tCB (r:List V->Hp->VK->Prop)(t:TA):TE:=fun σ H Q=>t σ H fun vs H1=>r vs H1 Q
theorem Zep (hc:ZW X (.builtin id) r)(hg:Gl X x)(hm:X.mg x=none)(hv:bootBuiltins x=some (.builtin id))(ha:PA X (e::es) t)(hn:x ≠ "__name__":=by decide)(hdb:(x == ("__debug__":Str))=false:=by decide)
  (he:starEach (e::es) X.env=(false,eval e X.env)::starEach es X.env:=by rfl) (hpl:(backTo pos (starEach es X.env)).any (·.1)=false:=by rfl):PE X (.Call (.Name x p) (e::es) [] pos) (tCB r t):=by
 intro pins s σ H Q I h
 refine wpAny_Call_Name_kw (JO I hg hm hv ?_ hn hdb)
 exact PyProof.Rows.callWith_builtin1 (Z7 (ha pos pins s σ H _ I h) fun us s1 ⟨vs,H1,I1,r1,q1⟩=>hc pins s1 σ H1 vs us Q I1 r1 q1) he hpl
theorem Zc1 (hc:ZW X (.type T) r)(hg:Gl X x)(hm:X.mg x=none)(hv:bootBuiltins x=some (.type T))(ha:PA X (e::es) t)(hn:x ≠ "__name__":=by decide)(hdb:(x == ("__debug__":Str))=false:=by decide)
  (he:starEach (e::es) X.env=(false,eval e X.env)::starEach es X.env:=by rfl) (hpl:(backTo pos (starEach es X.env)).any (·.1)=false:=by rfl):PE X (.Call (.Name x p) (e::es) [] pos) (tCB r t):=by
 intro pins s σ H Q I h
 refine wpAny_Call_Name_kw (JO I hg hm hv ?_ hn hdb)
 exact PyProof.Rows.callWith_type1 (Z7 (ha pos pins s σ H _ I h) fun us s1 ⟨vs,H1,I1,r1,q1⟩=>hc pins s1 σ H1 vs us Q I1 r1 q1) he hpl
end
end L2
namespace HT
open PySem PyProof.Rows
section
open PySem.SeqAt
open PySem.AutoSeq1 (wpAny_loadPart')
open PySem.MeetsSeq PySem.MeetsSeq2 PySem.MeetsSeq3
end
section
variable {prog:Program}{w:World}{A:Around}{E:Value->Shared->Prop}{s:Shared}
theorem ZgA {t b:Addr}{vs ws:List Value}{Q:Value->Shared->Prop}(ht:IsTup s.heap t vs.toArray)(hb:IsTup s.heap b ws.toArray)(hv:vs≠[])
  (h1:ws=[]->Q (.ref t) s) (h2:ws≠[]->Q (.ref s.heap.objs.size) {s with heap:=s.heap.push {cls:=.type "tuple",data:=.seq (vs++ws).toArray}})
  (hsz:vs.length+ws.length<=sizeLine):wpAny (model prog w) A (binaryOp .Add (.ref t) (.ref b)) Q E s:=by
 obtain⟨⟨cls,dd,data,sl⟩,ho,hc,n,hd⟩:=id ht
 obtain⟨⟨cls2,dd2,data2,sl2⟩,ho2,hc2,n2,hd2⟩:=id hb
 simp only at hc hd hc2 hd2
 subst hc hd hc2 hd2
 have e:vs.toArray++ws.toArray=(vs++ws).toArray:=by simp
 by_cases hw:ws=[]
 ·exact concat_meets ⟨_,ho,rfl⟩ ⟨_,ho2,rfl⟩ noFill_tuple_add seq_tuple_add PySem.F.slot_tuple_add PySem.F.entry_tuple_add (PySem.F.args_tuple_add_2 _ _)
   (tuple_addW1 t b vs.toArray ws.toArray n n2 dd dd2 sl sl2 (by simpa using hv) (by simp[hw])) ⟨ho,ho2,h1 hw⟩
 ·refine concat_meets ⟨_,ho,rfl⟩ ⟨_,ho2,rfl⟩ noFill_tuple_add seq_tuple_add PySem.F.slot_tuple_add PySem.F.entry_tuple_add (PySem.F.args_tuple_add_2 _ _)
   (tuple_addW2 t b vs.toArray ws.toArray n n2 dd dd2 sl sl2 (by simpa using hv) (by simpa using hw) (by rw[Zh,Zh];exact hsz)) ⟨ho,ho2,?_⟩
  rw[e]
  exact h2 hw
def VQ (n d:Nat):Option Int->Nat
 |none=>d
 |some v=>if v<0 then (v+(n:Int)).toNat else min v.toNat n
theorem U1 (n d:Nat):VQ n d none=d:=rfl
theorem Zca (n d k:Nat):VQ n d (some (k:Int))=min k n:=by
 show (if (k:Int)<0 then ((k:Int)+(n:Int)).toNat else min (k:Int).toNat n)=min k n
 rw[if_neg (by omega),Zj]
end
end HT
namespace L2
open PySem PySem.Spec PyProof.Rows
abbrev TO:=St->Hp->(Option Int->Hp->Prop)->Prop
def PO (X:Cx)(e:Option Expr)(t:TO):Prop:=
 ∀(pins:List (Addr×Obj)) (s:Shared) (σ:St) (H:Hp) (Q:Option Int->Hp->Prop),Inv X pins σ H s->t σ H Q->
  wpAny (model X.prog X.w) X.A (evalPart e X.env) (fun u s'=>∃o H',Inv X pins σ H' s'/\IsPart u o/\Q o H') X.xe s
def ZfE:TO:=fun _ H Q=>Q none H
def Zi1 (t:TE):TO:=fun σ H Q=>t σ H fun x H1=>∃i,x=.int i/\Q (some i) H1
section
variable {X:Cx}{e:Expr}{te:TE}{lo hi:Option Expr}{tl th:TO}{pos p2:Pos}
theorem V2:PO X none ZfE:=by
 intro pins s σ H Q I h
 rw[evalPart_none]
 exact Zm ⟨none,H,I,.none,h⟩
theorem V1 (h:PE X e te):PO X (some e) (Zi1 te):=by
 intro pins s σ H Q I hw
 rw[evalPart_some]
 refine Z7 (h pins s σ H _ I hw) fun u s1 ⟨x,H1,I1,r1,q1⟩=>?_
 obtain⟨i,rfl,q⟩:=q1
 obtain⟨t,rfl⟩:=r1
 exact⟨some i,H1,I1,.int i t,q⟩
def SlR (X:Cx)(r:V->Option Int->Option Int->Hp->VK->Prop):Prop:=
 ∀(pins:List (Addr×Obj)) (s:Shared) (σ:St) (H:Hp) (x:V) (v vl vu:Value) (lo hi:Option Int) (sl:Addr) (Q:VK),Inv X pins σ H s->RelV x v->s.heap.IsSliceOf sl vl vu .none->IsPart vl lo->IsPart vu hi->r x lo hi H Q->
  ∃T id,typeLookup (.type T) "__getitem__"=pure (some (.builtin id))/\s.TypeIs v T/\wpAny (model X.prog X.w) X.A (getItem v (.ref sl)) (EP X pins σ Q) X.xe s
def tSl (r:V->Option Int->Option Int->Hp->VK->Prop)(te:TE)(tl th:TO):TE:=fun σ H Q=>te σ H fun x H1=>tl σ H1 fun l H2=>th σ H2 fun u H3=>r x l u H3 Q
theorem Xy {r:V->Option Int->Option Int->Hp->VK->Prop}(hr:SlR X r)(he:PE X e te)(hl:PO X lo tl)(hu:PO X hi th):PE X (.Subscript e (.Slice lo hi none p2) pos) (tSl r te tl th):=by
 intro pins s σ H Q I h
 refine Subscript_ (Z7 (he pins s σ H _ I h) fun v s1 ⟨x,H1,I1,r1,q1⟩=>?_)
 refine wpAny_Slice (Z7 (hl pins s1 σ H1 _ I1 q1) fun vl s2 ⟨l,H2,I2,pl,q2⟩=>Z7 (hu pins s2 σ H2 _ I2 q2) fun vu s3 ⟨u,H3,I3,pu,q3⟩=>?_)
 rw[evalPart_none]
 refine Zm ?_
 have I4:Inv X pins σ H3 {s3 with heap:=s3.heap.push {cls:=.type "slice",data:=.fields #[vl,vu,.none]}}:=I3.kept (t':=s3.toks) fun b ob q=>Zn _ q
 obtain⟨T,id,hT,ht,hg⟩:=hr pins {s3 with heap:=s3.heap.push {cls:=.type "slice",data:=.fields #[vl,vu,.none]}} σ H3 x v vl vu l u s3.heap.objs.size Q I4 r1 (Heap.IsSliceOf.new ..) pl pu q3
 show wpAny (model X.prog X.w) X.A (subscriptTail e (.Slice lo hi none p2) v (.ref s3.heap.objs.size)) (EP X pins σ Q) X.xe {s3 with heap:=s3.heap.push {cls:=.type "slice",data:=.fields #[vl,vu,.none]}}
 exact tail_any (ops:=[.ref s3.heap.objs.size,v]) ht hT hg (by with_unfolding_all rfl)
def Ut (xs:List V)(lo hi:Option Int):List V:=(xs.drop (HT.VQ xs.length 0 lo)).take (HT.VQ xs.length xs.length hi-HT.VQ xs.length 0 lo)
theorem J1 (xs:List V)(lo hi:Option Int):(Ut xs lo hi).length<=xs.length:=by
 unfold Ut
 rw[List.length_take,List.length_drop]
 omega
def Zjm (K:PySem.W.Frag):R2:=fun x y H Q=>∃a b xs ys,x=.ref a/\y=.ref b/\Wp K H a xs/\Wp K H b ys/\xs≠[]/\xs.length+ys.length<=sizeLine/\
 (ys=[]->Q (.ref a) H)/\(ys≠[]->∀p,H p=none->Q (.ref p) (upd H p (.tup (xs++ys))))
theorem ZB.nil_iff {xs:List V}{us:List Value}(r:ZB xs us):us=[]↔xs=[]:=by
 cases r with
 |nil=>simp
 |cons _ _=>simp
theorem Zf7:J5 X (binaryOp .Add) (Zjm X.K):=by
 intro pins s σ H x y v u Q I rx ry h
 obtain⟨a,b,xs,ys,rfl,rfl,ha,hb,hx,hz,q1,q2⟩:=h
 cases rx
 cases ry
 obtain⟨its,r1,p1,_⟩:=I.tuple ha
 obtain⟨its2,r2,p2,_⟩:=I.tuple hb
 refine HT.ZgA p1 p2 (fun z=>hx (r1.nil_iff.mp z)) (fun z=>⟨.ref a,H,I,rfl,q1 (r2.nil_iff.mp z)⟩) (fun z=>?_) (by rw[<-r1.length,<-r2.length];exact hz)
 refine⟨.ref s.heap.objs.size,_,I.laid (t':=s.toks) (o:=.tup (xs++ys)) (fun b ob q=>Zn _ q) (Zq _) ?_,rfl,q2 (fun w=>z (r2.nil_iff.mpr w)) _ (I.hok.fresh (Zq _))⟩
 exact⟨by rw[Zd];exact hz,_,r1.append r2,IsTup.new _ _⟩
end
def ixN (n:Nat)(i:Int):Option Nat:=if 0<=i then (if i<n then some i.toNat else none) else if -(n:Int)<=i then some (i+n).toNat else none
def UA {α:Type}(xs:List α)(i:Int):Option α:=(ixN xs.length i).bind fun j=>xs[j]?
theorem Ul {n:Nat}{i:Int}{j:Nat}(h:ixN n i=some j):seqIndex? i n=some j/\j<n/\-(n:Int)<=i/\i<n:=by
 unfold ixN at h
 by_cases h0:0<=i
 ·rw[if_pos h0] at h
  by_cases h1:i<n
  ·rw[if_pos h1] at h
   have e:i.toNat=j:=Option.some.inj h
   exact⟨by rw[seqIndex_of h0 h1,e],by omega,by omega,h1⟩
  ·rw[if_neg h1] at h;cases h
 ·rw[if_neg h0] at h
  by_cases h1:-(n:Int)<=i
  ·rw[if_pos h1] at h
   have e:(i+n).toNat=j:=Option.some.inj h
   exact⟨by rw[seqIndex_neg (by omega) h1,e],by omega,h1,by omega⟩
  ·rw[if_neg h1] at h;cases h
theorem ZcI {α:Type}{xs:List α}{i:Int}{v:α}(h:UA xs i=some v):∃j,seqIndex? i xs.length=some j/\xs[j]?=some v/\j<xs.length/\-(xs.length:Int)<=i/\i<xs.length:=by
 unfold UA at h
 cases e:ixN xs.length i with
 |none=>rw[e] at h;cases h
 |some j=>
  rw[e] at h
  obtain⟨h1,h2,h3,h4⟩:=Ul e
  exact⟨j,h1,h,h2,h3,h4⟩
theorem YJ {α:Type}{xs:List α}{j:Nat}{v:α}(h:xs[j]?=some v):UA xs (j:Int)=some v:=by
 have hj:j<xs.length:=(List.getElem?_eq_some_iff.mp h).1
 have e:ixN xs.length (j:Int)=some j:=by
  unfold ixN
  rw[if_pos (by omega),if_pos (by omega)];simp
 unfold UA;rw[e];exact h
theorem Zft {α:Type}(xs:List α)(v:α):UA (xs++[v]) (-1)=some v:=by
 have hl:(xs++[v]).length=xs.length+1:=by simp
 have e:ixN (xs++[v]).length (-1)=some xs.length:=by
  unfold ixN
  rw[hl,if_neg (by decide),if_pos (by omega)]
  congr 1
  omega
 unfold UA
 rw[e]
 show (xs++[v])[xs.length]?=some v
 simp
def ZgF (b:Expr):Prop:=∀o i,subscripted b false o i=operate [o,i] (getItem o i)
def IxR (X:Cx)(r:R2):Prop:=
 ∀(value slice:Expr) (pins:List (Addr×Obj)) (s:Shared) (σ:St) (H:Hp) (x y:V) (v u:Value) (Q:VK),Inv X pins σ H s->RelV x v->RelV y u->r x y H Q->
  subscripted slice false v u=operate [v,u] (getItem v u)->wpAny (model X.prog X.w) X.A (subscriptTail value slice v u) (EP X pins σ Q) X.xe s
def MtR (X:Cx)(id:String)(r:V->List V->Hp->VK->Prop):Prop:=
 ∀(pins:List (Addr×Obj)) (s:Shared) (σ:St) (H:Hp) (x:V) (xs:List V) (v:Value) (us:List Value) (Q:VK),Inv X pins σ H s->RelV x v->ZB xs us->r x xs H Q->
  wpAny (model X.prog X.w) X.A (call (.builtin id) (v::us)) (EP X pins σ Q) X.xe s
section
variable {X:Cx}{a b:Expr}{ta tb:TE}{pos:Pos}
theorem ZF {r:R2}(hr:IxR X r)(ha:PE X a ta)(hb:PE X b tb)(hs:ZgF b):PE X (.Subscript a b pos) (tOp r ta tb):=by
 intro pins s σ H Q I h
 exact Subscript_ (Zix ha hb I h fun v u s2 x y H2 I2 rx ry q=>hr a b pins s2 σ H2 x y v u Q I2 rx ry q (hs _ _))
def Zjj (K:PySem.W.Frag):R2:=fun x y H Q=>∃p xs i v,x=.ref p/\y=.int i/\Wb K H p xs/\UA xs i=some v/\Q v H
def Zji (K:PySem.W.Frag):R2:=fun x y H Q=>∃p xs i v,x=.ref p/\y=.int i/\Wp K H p xs/\UA xs i=some v/\Q v H
theorem Zgq:IxR X (Zjj X.K):=by
 intro value slice pins s σ H x y v u Q I rx ry h hs
 obtain⟨p,xs,i,z,rfl,rfl,hq,he,q⟩:=h
 cases rx
 obtain⟨t,rfl⟩:=ry
 obtain⟨its,r,pl,hz⟩:=I.list hq
 obtain⟨j,h1,h2,h3,h4,h5⟩:=ZcI he
 obtain⟨w,ew,rw'⟩:=r.get h2
 have hl:=r.length
 have hn:=Uh
 have fin:EP X pins σ Q w s:=⟨z,H,I,rw',q⟩
 by_cases h0:0<=i
 ·have hj:i.toNat=j:=by
   rw[seqIndex_of h0 h5] at h1
   exact Option.some.inj h1
  exact item_listR pl.isList h0 (by omega) (by rw[hj];simpa using ew) fin hs
 ·have hj:(i+(its.toArray.size:Int)).toNat=j:=by
   rw[seqIndex_neg (by omega) h4] at h1
   rw[Zh,<-hl]
   exact Option.some.inj h1
  exact subscriptTail_builtinR (x:=w) pl.isList.typeIs slot_list_getitem.lookup
   (wpAny_getItem_list_neg (Q:=fun r s'=>r=w/\EP X pins σ Q r s') pl.isList (by omega) (by rw[Zh] <;> omega) (by omega) (by rw[hj];simpa using ew) ⟨rfl,fin⟩) hs
theorem Zia:IxR X (Zji X.K):=by
 intro value slice pins s σ H x y v u Q I rx ry h hs
 obtain⟨p,xs,i,z,rfl,rfl,hq,he,q⟩:=h
 cases rx
 obtain⟨t,rfl⟩:=ry
 obtain⟨its,r,pl,hz⟩:=I.tuple hq
 obtain⟨j,h1,h2,h3,h4,h5⟩:=ZcI he
 obtain⟨w,ew,rw'⟩:=r.get h2
 have hl:=r.length
 have hn:=Uh
 have fin:EP X pins σ Q w s:=⟨z,H,I,rw',q⟩
 exact subscriptTail_builtinR (x:=w) pl.typeIs slot_tuple_getitem.lookup
  (getItem_tuple (j:=j) (Q:=fun r s'=>r=w/\EP X pins σ Q r s') pl (by omega) (by omega) (by rw[Zh,<-hl];exact h1) (by simpa using ew) ⟨rfl,fin⟩) hs
theorem VN (lo hi:Option Int)(n:Nat):(sliceBounds lo hi none n).1=((HT.VQ n 0 lo:Nat):Int)/\(sliceBounds lo hi none n).2.1=((HT.VQ n n hi:Nat):Int)/\(sliceBounds lo hi none n).2.2=1:=by
 refine⟨?_,?_,rfl⟩
 ·cases lo with
  |none=>simp[sliceBounds,HT.VQ]
  |some i=>
   simp only[sliceBounds,HT.VQ,Option.getD_none,show (1:Int) > 0 by decide,if_true]
   by_cases h:i<0
   ·simp only[h,if_true] <;> omega
   ·simp only[h,if_false] <;> omega
 ·cases hi with
  |none=>simp[sliceBounds,HT.VQ]
  |some i=>
   simp only[sliceBounds,HT.VQ,Option.getD_none,show (1:Int) > 0 by decide,if_true]
   by_cases h:i<0
   ·simp only[h,if_true] <;> omega
   ·simp only[h,if_false] <;> omega
theorem XX (its:List Value)(lo hi:Option Int):slicePick its.toArray lo hi none=((its.drop (HT.VQ its.length 0 lo)).take (HT.VQ its.length its.length hi-HT.VQ its.length 0 lo)).toArray:=by
 obtain⟨h1,h2,h3⟩:=VN lo hi its.toArray.size
 unfold slicePick
 rw[h1,h2,h3]
 simp only[sliceRange_one,pick_run,Zh] <;> rfl
def Zky (K:PySem.W.Frag):V->Option Int->Option Int->Hp->VK->Prop:=fun x lo hi H Q=>∃a xs,x=.ref a/\Wb K H a xs/\∀p,H p=none->Q (.ref p) (upd H p (.lst (Ut xs lo hi)))
theorem VO:SlR X (Zky X.K):=by
 intro pins s σ H x v vl vu lo hi sl Q I rx hs pl pu h
 obtain⟨a,xs,rfl,hx,q⟩:=h
 cases rx
 obtain⟨its,r,ht,hz⟩:=I.list hx
 have hlen:=r.length
 refine⟨"list",_,slot_list_getitem.lookup,ht.isList.typeIs,?_⟩
 refine wpAny_getItem_list_slice ht.isList hs pl pu .none (by simp) ?_ (by rw[Zh] <;> omega)
 rw[XX,<-hlen]
 refine⟨.ref s.heap.objs.size,_,I.laid (t':=s.toks) (o:=.lst (Ut xs lo hi)) (fun b ob q=>Zn _ q) (Zq _) ?_,rfl,q _ (I.hok.fresh (Zq _))⟩
 exact⟨Nat.le_trans (J1 xs lo hi) hz,_,0,(r.drop (HT.VQ xs.length 0 lo)).take (HT.VQ xs.length xs.length hi-HT.VQ xs.length 0 lo),Zo _ rfl⟩
def JZ:V->Bool
 | .non=>true
 | .bl _=>true
 | .int _=>true
 | .str _=>true
 |_=>false
def eqV:V->V->Bool
 | .non,.non=>true
 | .bl a,.bl b=>a == b
 | .bl a,.int b=>(if a then 1 else 0) == b
 | .int a,.bl b=>a == (if b then 1 else 0)
 | .int a,.int b=>a == b
 | .str a,.str b=>a == b
 |_,_=>false
theorem Zin {A:Around}{s:Shared}{y x:V}{u v:Value}(ry:RelV y u)(rx:RelV x v)(fy:JZ y=true)(fx:JZ x=true):SeqAt.EqAt A s u v (eqV y x):=by
 cases y with
 |non=>
  cases ry
  cases x with
  |non=>cases rx;exact SeqAt.EqAt.same _
  |bl b=>cases rx;exact SeqAt.EqAt.none_bool b
  |int b=>obtain⟨t,rfl⟩:=rx;exact SeqAt.EqAt.none_int b t
  |str b=>obtain⟨t,rfl⟩:=rx;exact SeqAt.EqAt.none_str b t
  |_=>exact absurd (show false=true from fx) Bool.false_ne_true
 |bl a=>
  cases ry
  cases x with
  |non=>cases rx;exact SeqAt.EqAt.bool_none a
  |bl b=>cases rx;exact SeqAt.EqAt.bool_bool a b
  |int b=>obtain⟨t,rfl⟩:=rx;exact SeqAt.EqAt.bool_int a b t
  |str b=>obtain⟨t,rfl⟩:=rx;exact SeqAt.EqAt.bool_str a b t
  |_=>exact absurd (show false=true from fx) Bool.false_ne_true
 |int a=>
  obtain⟨t',rfl⟩:=ry
  cases x with
  |non=>cases rx;exact SeqAt.EqAt.int_none a t'
  |bl b=>cases rx;exact SeqAt.EqAt.int_bool a t' b
  |int b=>obtain⟨t,rfl⟩:=rx;exact SeqAt.EqAt.int_int a t' b t
  |str b=>obtain⟨t,rfl⟩:=rx;exact SeqAt.EqAt.int_str a t' b t
  |_=>exact absurd (show false=true from fx) Bool.false_ne_true
 |str a=>
  obtain⟨t',rfl⟩:=ry
  cases x with
  |non=>cases rx;exact SeqAt.EqAt.str_none a t'
  |bl b=>cases rx;exact SeqAt.EqAt.str_bool a t' b
  |int b=>obtain⟨t,rfl⟩:=rx;exact SeqAt.EqAt.str_int a t' b t
  |str b=>obtain⟨t,rfl⟩:=rx;exact SeqAt.EqAt.str_str a t' b t
  |_=>exact absurd (show false=true from fx) Bool.false_ne_true
 |_=>exact absurd (show false=true from fy) Bool.false_ne_true
def eqU (x:V)(u:Value):Bool:=match u with
 | .none=>eqV .non x
 | .bool b=>eqV (.bl b) x
 | .int i _=>eqV (.int i) x
 | .str z _=>eqV (.str z) x
 |_=>false
theorem Zff {x y:V}{u:Value}(r:RelV y u)(f:JZ y=true):eqU x u=eqV y x:=by
 cases y with
 |non=>cases r;rfl
 |bl b=>cases r;rfl
 |int i=>obtain⟨t,rfl⟩:=r;rfl
 |str z=>obtain⟨t,rfl⟩:=r;rfl
 |_=>exact absurd (show false=true from f) Bool.false_ne_true
theorem Zap {A:Around}{s:Shared}{x:V}{v:Value}(rx:RelV x v)(fx:JZ x=true):∀{xs:List V}{us:List Value},ZB xs us->xs.all JZ=true->∀u∈us,SeqAt.EqAt A s u v (eqU x u)
 |_,_,.nil,_=>fun u hu=>by cases hu
 |y::xs,u::us,.cons r t,f=>fun u' hu=>by
  rw[List.all_cons,Bool.and_eq_true] at f
  rcases List.mem_cons.mp hu with rfl|hu
  ·rw[Zff r f.1];exact Zin r rx f.1 fx
  ·exact Zap rx fx t f.2 u' hu
theorem Ux:ZW X (.builtin "len") (fun xs H Q=>∃p ys,xs=[.ref p]/\(Wb X.K H p ys\/Wp X.K H p ys)/\Q (.int ys.length) H):=by
 intro pins s σ H xs us Q I r h
 obtain⟨p,ys,rfl,hq,q⟩:=h
 obtain⟨u,rfl,rx⟩:=vals1 r
 cases rx
 have hn:=Uh
 rcases hq with hq|hq
 ·obtain⟨its,r',pl,hz⟩:=I.list hq
  have hlen:=r'.length
  exact Calls.call_len_list pl.isList (by simp only[Zh] <;> omega) ⟨.int ys.length,H,I.tok _,⟨s.toks+1,by rw[Zh,hlen]⟩,q⟩
 ·obtain⟨its,r',pl,hz⟩:=I.tuple hq
  have hlen:=r'.length
  exact len_tuple pl (by simp only[Zh] <;> omega) ⟨.int ys.length,H,I.tok _,⟨s.toks+1,by rw[Zh,hlen]⟩,q⟩
theorem Uw:ZW X (.type "list") (fun xs H Q=>∃p ys,xs=[.ref p]/\(Wb X.K H p ys\/Wp X.K H p ys)/\∀l,H l=none->Q (.ref l) (upd H l (.lst ys))):=by
 intro pins s σ H xs us Q I r h
 obtain⟨p,ys,rfl,hq,q⟩:=h
 obtain⟨u,rfl,rx⟩:=vals1 r
 cases rx
 have fin:∀(its:List Value),ZB ys its->ys.length<=sizeLine->∀(h':Heap) (c':Nat),(∀b o',s.heap.get? b=some o'->h'.get? b=some o')->
   h'.get? s.heap.objs.size=some {cls:=.type "list",dict:=none,data:=.seq its.toArray c',slots:=#[]}->EP X pins σ Q (.ref s.heap.objs.size) {s with heap:=h'}:=fun its r' hz h' c' kp e=>
  ⟨.ref s.heap.objs.size,_,I.laid (t':=s.toks) kp (Zq _) (show Z3 X.prog X.w _ h' _ (.lst ys) from ⟨hz,its,c',r',e⟩),rfl,q _ (I.hok.fresh (Zq _))⟩
 rcases hq with hq|hq
 ·obtain⟨its,r',pl,hz⟩:=I.list hq
  have hlen:=r'.length
  obtain⟨o,ho,hc,n,hd⟩:=pl.isList
  exact call_list_seq p (.inl rfl) ho hc hd (fun h' c' kp e=>fin its r' hz h' c' kp e) (by simp only[Zh] <;> omega)
 ·obtain⟨its,r',pl,hz⟩:=I.tuple hq
  have hlen:=r'.length
  obtain⟨o,ho,hc,n,hd⟩:=pl
  exact call_list_seq p (.inr rfl) ho hc hd (fun h' c' kp e=>fin its r' hz h' c' kp e) (by simp only[Zh] <;> omega)
theorem ZG:ZW X (.type "tuple") (fun xs H Q=>∃p ys,xs=[.ref p]/\((Wb X.K H p ys/\∀l,H l=none->Q (.ref l) (upd H l (.tup ys)))\/(Wp X.K H p ys/\Q (.ref p) H))):=by
 intro pins s σ H xs us Q I r h
 obtain⟨p,ys,rfl,h⟩:=h
 obtain⟨u,rfl,rx⟩:=vals1 r
 cases rx
 rcases h with ⟨hq,q⟩|⟨hq,q⟩
 ·obtain⟨its,r',pl,hz⟩:=I.list hq
  have hlen:=r'.length
  refine call_tuple_list pl.isList (fun h' kp=>?_) (by simp only[Zh] <;> omega)
  have I1:Inv X pins σ H {s with heap:=h'}:=I.kept (t':=s.toks) kp
  have I2:Inv X pins σ (upd H h'.objs.size (.tup ys)) {s with heap:=h'.push {cls:=.type "tuple",data:=.seq its.toArray}}:=
   I1.laid (t':=s.toks) (fun b o e=>Zn _ e) (Zq _) (show Z3 X.prog X.w _ _ _ (.tup ys) from ⟨hz,its,r',IsTup.new _ _⟩)
  exact⟨.ref h'.objs.size,_,I2,rfl,q _ (I1.hok.fresh (Zq _))⟩
 ·obtain⟨its,r',pl,hz⟩:=I.tuple hq
  exact call_tuple_same pl ⟨.ref p,H,I,rfl,q⟩
def tyV (K:PySem.W.Frag)(T:String)(x:V)(H:Hp):Prop:=match x with
 | .str _=>T = "str"
 | .int _=>T = "int"
 | .ref p=>(T = "list"/\∃xs,Wb K H p xs)\/(T = "tuple"/\∃o,K.lookup p=some o/\o.cls=.type "tuple"/\o.dict=none)\/
   (T = "dict"/\((∃kvs,H p=some (.dK kvs))\/∃kvs,H p=some (.dT kvs)))\/(T = "set"/\∃S n,H p=some (.set S n))
 |_=>False
theorem ZdO {pins:List (Addr×Obj)}{σ:St}{H:Hp}{s:Shared}{T:String}{x:V}{v:Value}(I:Inv X pins σ H s)(r:RelV x v)(ty:tyV X.K T x H) :
  s.TypeIs v T/\∀a,v=.ref a->∃ob,s.heap.get? a=some ob/\ob.dict=none:=by
 cases x with
 |str z=>
  obtain⟨t,rfl⟩:=r
  cases (show T = "str" from ty)
  exact⟨typeIs_str s z t,fun _ e=>nomatch e⟩
 |int i=>
  obtain⟨t,rfl⟩:=r
  cases (show T = "int" from ty)
  exact⟨typeIs_int s i t,fun _ e=>nomatch e⟩
 |ref p=>
  cases r
  rcases ty with ⟨rfl,xs,hq⟩|⟨rfl,o,hk,hc,hd⟩|⟨rfl,hk⟩|⟨rfl,S,n,hk⟩
  ·obtain⟨its,_,pl,_⟩:=I.list hq
   refine⟨pl.isList.typeIs,fun a e=>?_⟩
   cases e
   obtain⟨o,n,e,c,hd,_⟩:=pl
   exact⟨o,e,hd⟩
  ·refine⟨⟨o,I.kIn p o hk,hc⟩,fun a e=>?_⟩
   cases e
   exact⟨o,I.kIn _ o hk,hd⟩
  ·have z:∃o,s.heap.get? p=some o/\o.ExactDict:=by
    rcases hk with ⟨kvs,hk⟩|⟨kvs,hk⟩
    ·obtain⟨_,_,_,_,o,_,_,e,ex,_⟩:=I.hok p _ hk
     exact⟨o,e,ex⟩
    ·obtain⟨_,_,_,_,o,_,_,e,ex,_⟩:=I.hok p _ hk
     exact⟨o,e,ex⟩
   obtain⟨o,e,ex⟩:=z
   refine⟨⟨o,e,ex.1⟩,fun a e2=>?_⟩
   cases e2
   exact⟨o,e,ex.2.1⟩
  ·obtain⟨o,_,_,_,e,ex,_⟩:=I.hok p _ hk
   refine⟨⟨o,e,ex.1⟩,fun a e2=>?_⟩
   cases e2
   exact⟨o,e,ex.2.1⟩
 |_=>exact False.elim ty
def Zkr (K:PySem.W.Frag)(T:String)(r:V->List V->Hp->VK->Prop)(to:TE):TE:=fun σ H Q=>to σ H fun x H1=>tyV K T x H1/\r x [] H1 Q
def tBM (K:PySem.W.Frag)(T:String)(r:V->List V->Hp->VK->Prop)(to:TE)(t:TA):TE:=fun σ H Q=>to σ H fun x H1=>tyV K T x H1/\t σ H1 fun xs H2=>r x xs H2 Q
variable {o e:Expr}{es:List Expr}{to:TE}{t:TA}{name:Str}{apos cpos:Pos}{T id:String}{r:V->List V->Hp->VK->Prop}
theorem Zes (pa:PlainAttrs T)(slot:Slot T name id)(hty:typeOf (.builtin id)=pure (.type "method_descriptor"))(hm:MtR X id r)(ho:PE X o to)
  (hbase:attributeBase o name X.env (eval o X.env)=eval o X.env:=by rfl) (hline:(apos.endLine == cpos.line)=true:=by rfl):PE X (.Call (.Attribute o name apos) [] [] cpos) (Zkr X.K T r to):=by
 intro pins s σ H Q I h
 refine wpAny_Call_method0_late hbase hline (Z7 (ho pins s σ H _ I h) fun v s1 ⟨x,H1,I1,r1,ty,q1⟩=>?_)
 obtain⟨h1,h2⟩:=ZdO I1 r1 ty
 exact⟨T,id,pa,slot,hty,h1,h2,Calls.callWith_builtin rfl (PySem.evalArgs_none (hm pins s1 σ H1 x [] v [] Q I1 r1 .nil q1))⟩
theorem Wg (pa:PlainAttrs T)(slot:Slot T name id)(hty:typeOf (.builtin id)=pure (.type "method_descriptor"))(hm:MtR X id r)(ho:PE X o to)(ha:PA X (e::es) t)
  (hbase:attributeBase o name X.env (eval o X.env)=eval o X.env:=by rfl)
  (hfew:((backTo cpos (starEach (e::es) X.env)).all (fun x=>!x.1) && (backToKw cpos (keywordEach [] X.env)).all (fun x=>x.1.isSome)
   && decide ((e::es).length+([]:List Keyword).length+(if ([]:List Keyword).isEmpty then 0 else 1)<30))=true:=by rfl)
  (hline:(apos.endLine == cpos.line)=true:=by rfl) (hs:starEach (e::es) X.env=(false,eval e X.env)::starEach es X.env:=by rfl) (hplain:(backTo cpos (starEach es X.env)).any (·.1)=false:=by rfl) :
  PE X (.Call (.Attribute o name apos) (e::es) [] cpos) (tBM X.K T r to t):=by
 intro pins s σ H Q I h
 refine wpAny_Call_method_late hbase hfew hline rfl (Z7 (ho pins s σ H _ I h) fun v s1 ⟨x,H1,I1,r1,ty,q1⟩=>?_)
 obtain⟨h1,h2⟩:=ZdO I1 r1 ty
 refine⟨T,id,pa,slot,hty,h1,h2,?_⟩
 have hA:=ha cpos pins s1 σ H1 _ I1 q1
 rw[hs] at hA ⊢
 refine Calls.callWith_builtin (by show (false || (backTo cpos (starEach es X.env)).any (·.1))=false;rw[hplain] <;> rfl) (Calls.evalArgs_plain ?_)
 exact Z7 hA fun us s2 ⟨vs,H2,I2,r2,q2⟩=>hm pins s2 σ H2 x vs v us Q I2 r1 r2 q2
end
def MtM (X:Cx)(id:String)(r:V->List V->Hp->VK->Prop):Prop:=
 ∀(pins:List (Addr×Obj)) (s:Shared) (σ:St) (H:Hp) (x:V) (xs:List V) (v:Value) (us:List Value) (Q:VK),Inv X pins σ H s->RelV x v->ZB xs us->r x xs H Q->
  wpAny (model X.prog X.w) X.A (call (.builtin id) (v::us)) (EP X pins σ Q) X.xe s
theorem ZB.one:∀{x:V}{us:List Value},ZB [x] us->∃u,us=[u]/\RelV x u
 |_,_,.cons r .nil=>⟨_,rfl,r⟩
theorem ZB.zero:∀{us:List Value},ZB [] us->us=[]
 |_,.nil=>rfl
theorem ZB.dropLast {xs:List V}{us:List Value}(h:ZB xs us):ZB xs.dropLast us.dropLast:=by
 induction h with
 |nil=>exact .nil
 |cons r t ih=>
  cases t with
  |nil=>exact .nil
  |cons q t'=>exact .cons r ih
theorem ZB.eraseIdx:∀{xs:List V}{us:List Value} (i:Nat),ZB xs us->ZB (xs.eraseIdx i) (us.eraseIdx i)
 |_,_,_,.nil=>.nil
 |_,_,0,.cons _ t=>t
 |_,_,i+1,.cons r t=>.cons r (ZB.eraseIdx i t)
theorem Zbw {α:Type}(l:List α):l.eraseIdx (l.length-1)=l.dropLast:=by
 induction l with
 |nil=>rfl
 |cons a r ih=>
  cases r with
  |nil=>rfl
  |cons b r=>
   have e:(a::b::r).length-1=((b::r).length-1)+1:=by
    have h1:(a::b::r).length=r.length+2:=rfl
    have h2:(b::r).length=r.length+1:=rfl
    omega
   rw[e,List.eraseIdx_cons_succ,ih]
   all_goals rfl
theorem Vp {α:Type}:∀(l:List α) (i:Nat),(l.eraseIdx i).length<=l.length
 | [],_=>Zq _
 |_::_,0=>Nat.le_succ _
 |_::r,i+1=>Nat.succ_le_succ (Vp r i)
section
variable {X:Cx}{pins:List (Addr×Obj)}{σ:St}{H:Hp}{s:Shared}{l b:Addr}{xs ys zs:List V}
theorem Inv.lset {its its':List Value}{n:Nat}{f:Array Value->Array Value}{t':Nat}(I:Inv X pins σ H s)(hH:H l=some (.lst xs))
  (e:s.heap.get? l=some {cls:=.type "list",data:=.seq its.toArray n}) (hf:f its.toArray=its'.toArray) (hv:ZB ys its') (hz:ys.length<=sizeLine) :
  Inv X pins σ (upd H l (.lst ys)) {s with heap:=s.heap.update l (Obj.mapSeq f),toks:=t'}:=by
 have q:=PySem.IsL.update e f
 rw[hf] at q
 refine I.write (x:=l) (e:=l) (by rw[hH];exact trivial) (.inl rfl) (fun b' u hb hu=>(Heap.get?_update_other s.heap (Obj.mapSeq f) (Ne.symm hb)).trans hu) ⟨_,q⟩ ?_
 exact⟨hz,its',_,hv,q⟩
theorem Inv.lnew {its:List Value}{t':Nat}(I:Inv X pins σ H s)(hv:ZB ys its)(hz:ys.length<=sizeLine) :
  Inv X pins σ (upd H s.heap.objs.size (.lst ys)) {s with heap:=s.heap.push {cls:=.type "list",data:=.seq its.toArray},toks:=t'}:=
 I.laid (fun _ _ q=>Zn _ q) (Zq _) ⟨hz,its,0,hv,Zo _ rfl⟩
theorem Inv.fresh (I:Inv X pins σ H s):H s.heap.objs.size=none:=I.hok.fresh (Zq _)
theorem Inv.lstM (I:Inv X pins σ H s)(hH:H l=some (.lst xs)):xs.length<=sizeLine/\∃(its:List Value) (n:Nat),ZB xs its/\xs.length=its.length/\s.heap.get? l=some {cls:=.type "list",data:=.seq its.toArray n}:=by
 obtain⟨z,its,n,r,e⟩:=I.hok l _ hH
 exact⟨z,its,n,r,r.length,e⟩
end
section
variable {X:Cx}
def VX:V->List V->Hp->VK->Prop:=fun x vs H Q=>∃l xs y,x=.ref l/\vs=[y]/\H l=some (.lst xs)/\xs.length<sizeLine/\Q .non (upd H l (.lst (xs++[y])))
theorem ZX:MtM X "list.append" VX:=by
 intro pins s σ H x vs v us Q I rx rv h
 obtain⟨l,xs,y,rfl,rfl,hH,hz,q⟩:=h
 cases rx
 obtain⟨u,rfl,ru⟩:=rv.one
 obtain⟨z,its,n,r,hl,e⟩:=I.lstM hH
 refine call_meets F.slot_list_append ⟨_,e,rfl⟩ F.entry_list_append (F.args_list_append_2 _ _) (PySem.list_append l its.toArray n u (by rw[Zh];omega)) ⟨e,?_⟩
 refine⟨.non,_,I.lset (its':=its++[u]) hH e (by simp) (r.append (.cons ru .nil)) ?_,rfl,q⟩
 rw[Zd,Zk]
 omega
def Zkz:V->List V->Hp->VK->Prop:=fun x vs H Q=>∃l xs y,x=.ref l/\vs=[]/\H l=some (.lst xs)/\xs[xs.length-1]?=some y/\Q y (upd H l (.lst xs.dropLast))
theorem ZeM:MtM X "list.pop" Zkz:=by
 intro pins s σ H x vs v us Q I rx rv h
 obtain⟨l,xs,y,rfl,rfl,hH,hy,q⟩:=h
 cases rx
 have hus:=rv.zero
 subst hus
 obtain⟨z,its,n,r,hl,e⟩:=I.lstM hH
 obtain⟨u,hu,ru⟩:=r.get hy
 have hy':its.toArray[its.toArray.size-1]?=some u:=by
  show its.toArray[its.length-1]?=some u
  rw[<-Array.getElem?_toList,<-hl]
  exact hu
 refine call_meets F.slot_list_pop ⟨_,e,rfl⟩ F.entry_list_pop (F.args_list_pop_1 _) (MeetsSeq.list_pop_last l its.toArray n u hy' (by rw[Zh];omega)) ⟨e,?_⟩
 refine⟨y,_,I.lset (its':=its.dropLast) hH e ?_ r.dropLast ?_,ru,q⟩
 ·show its.toArray.eraseIdxIfInBounds (its.toArray.size-1)=its.dropLast.toArray
  rw[Zh,List.eraseIdxIfInBounds_toArray,Zbw]
 ·rw[List.length_dropLast]
  omega
def ZhC:V->List V->Hp->VK->Prop:=fun x vs H Q=>∃l xs i k y,x=.ref l/\vs=[.int i]/\H l=some (.lst xs)/\-(2 ^ 63)<=i/\i<2 ^ 63/\seqIndex? i xs.length=some k/\xs[k]?=some y/\Q y (upd H l (.lst (xs.eraseIdx k)))
theorem Zal:MtM X "list.pop" ZhC:=by
 intro pins s σ H x vs v us Q I rx rv h
 obtain⟨l,xs,i,k,y,rfl,rfl,hH,h1,h2,hk,hy,q⟩:=h
 cases rx
 obtain⟨u,rfl,ru⟩:=rv.one
 obtain⟨t,rfl⟩:=ru
 obtain⟨z,its,n,r,hl,e⟩:=I.lstM hH
 obtain⟨w,hw,rw'⟩:=r.get hy
 refine call_meets F.slot_list_pop ⟨_,e,rfl⟩ F.entry_list_pop (F.args_list_pop_2 _ _)
  (MeetsSeq.list_pop_at l its.toArray n i t k w (fitsIndex_both h1 h2) (by rw[Zh,<-hl];exact hk) (by rw[<-Array.getElem?_toList];exact hw) (by rw[Zh];omega)) ⟨e,?_⟩
 refine⟨y,_,I.lset (its':=its.eraseIdx k) hH e ?_ (r.eraseIdx k) ?_,rw',q⟩
 ·show its.toArray.eraseIdxIfInBounds k=(its.eraseIdx k).toArray
  rw[List.eraseIdxIfInBounds_toArray]
 ·have:=Vp xs k
  omega
def ZkB:R2:=fun x y H Q=>∃l b xs zs,x=.ref l/\y=.ref b/\H l=some (.lst xs)/\H b=some (.lst zs)/\xs.length+zs.length<=sizeLine/\∀p,H p=none->Q (.ref p) (upd H p (.lst (xs++zs)))
theorem ZhT:J5 X (binaryOp .Add) ZkB:=by
 intro pins s σ H x y v u Q I rx ry h
 obtain⟨l,b,xs,zs,rfl,rfl,hH,hB,hz,q⟩:=h
 cases rx
 cases ry
 obtain⟨z,its,n,r,hl,e⟩:=I.lstM hH
 obtain⟨z2,its2,n2,r2,hl2,e2⟩:=I.lstM hB
 refine PySem.P.add_list e e2 ?_ (by rw[Zh,Zh];omega)
 have ea:its.toArray++its2.toArray=(its++its2).toArray:=by simp
 rw[ea]
 exact⟨.ref _,_,I.lnew (t':=s.toks) (r.append r2) (by rw[Zd];omega),rfl,q _ I.fresh⟩
theorem Zcs {α:Type}(xs:List α)(k:Nat):(List.replicate k xs).flatten.length=k*xs.length:=by
 induction k with
 |zero=>simp
 |succ k ih=>rw[List.replicate_succ,List.flatten_cons,Zd,ih,Nat.succ_mul,Nat.add_comm]
end
section
variable {prog:Program}{w:World}{A:Around}{E:Value->Shared->Prop}{s:Shared}
end
section
variable {X:Cx}
end
end L2
namespace Att
open PySem PySem.W PySem.Calls PyProof.Rows
theorem J6 {P:Params}{h:Heap}:∀(ns:List Int) (vs:List Value),WellAll P h vs (ns.map WData.int)->IntsAre vs ns:=by
 intro ns
 induction ns with
 |nil=>
  intro vs w
  rw[List.map_nil] at w
  cases w
  exact .nil
 |cons n ns ih=>
  intro vs w
  rw[List.map_cons] at w
  cases w with
  |cons a b=>
   cases a
   exact .cons _ _ (ih _ b)
theorem ZcU {l:OpenLaw}{n:Nat}(hn:l.most=some n){P:Params}{h:Heap}{args:List WData}{YC:List Value}
  (hpre:l.row.toRowW.claim.pre args=true) (hwl:WellAll P h YC args) :
  ∃a vs ns,YC=[Value.ref a]/\args=[WData.list (ns.map WData.int)]/\h.get? a=some {cls:=.type "list",data:=.seq vs.toArray}/\IntsAre vs ns/\ns.length<=n:=by
 have hsh:WShape.hasAll [] args [.list .int]=true:=(pre_splitW hpre).1
 have hc:l.pre.holds [] {args:=args}=true:=(pre_splitW hpre).2
 obtain⟨d,r,rfl,h1,h2⟩:=hasAllW_cons hsh
 obtain rfl:=hasAllW_nil h2
 obtain⟨xs,rfl,h3⟩:=hasW_list h1
 obtain⟨ns,rfl⟩:=items_int h3
 have hlen:ns.length<=n:=by
  unfold OpenLaw.pre at hc
  have h4:(WTm.not (.lt (.lit (.int (n:Int))) (.len (.arg 0)))).holds [] {args:=[.list (ns.map .int)]}=true:=by
   have h4:=(holds_andW hc).1
   rw[hn] at h4
   exact h4
  have h5:=condW_of h4 (w_not (w_lt w_lit (w_len_list (w_arg rfl))))
  rw[Za] at h5
  refine Nat.le_of_not_lt fun q=>?_
  have q':(n:Int)<((ns.length:Nat):Int):=by omega
  first
   |(rw[decide_eq_true q'] at h5;exact absurd h5 (by decide))
   |(simp at h5;omega)
 cases hwl with
 |cons w1 w2=>
  cases w2
  cases w1 with
  |list ho hall=>exact⟨_,_,ns,rfl,rfl,ho,J6 ns _ hall,hlen⟩
theorem ZcX (l:OpenLaw)(args:List WData):l.row.toRowW.claim.post args (.bool true) args=true:=
 postW_of (r:=l.row.toRowW) (X:=(true == true))
  (show WShape.has [] (.bool true) .bool=true by first|rfl|decide|simp[WShape.has,WShape.arms,WShape.armsAll])
  (show (WTm.eq .res (.lit (.bool true))).value [] {args:=args,res:=some (.bool true),after:=args}=some (.bool (true == true)) from w_eq_bool (w_res rfl) w_lit) rfl
theorem ZaP {l:OpenLaw}{n:Nat}{q:Program}{loose:List Str}{XP:(Str->Option Value)->Heap->Prop}{YP:World->Heap->Prop}{d:DefRec}
  (hn:l.most=some n) (hdf:d.params.defaults=[])
  (call:∀(w:World) (s₀ s₁:Shared) (mg mb:Str->Option Value) (fa:Addr) (o:Obj) (pm cd doc:Value) (a:Addr) (vs:List Value) (ns:List Int),
   Ground q loose [] XP w s₀ mg mb s₁.heap->YP w s₁.heap->
   s₁.heap.get? fa=some o->o.data=.func (docDef d.name d.params d.body d.scope pm cd doc)->s₁.heap.CodeRec cd d.name->mg d.name=some (.ref fa)->
   s₁.heap.get? a=some {cls:=.type "list",data:=.seq vs.toArray}->IntsAre vs ns->ns.length<=n->s₁.gens=#[]->
   codeAny (model l.prog w) callerA (.call (.ref fa) ⟨[.ref a],[]⟩) (fun r s'=>r=.ok (.ret (.bool true))/\OldK s₁.heap s'.heap/\s'.os=s₁.os/\AllBare s'.gens) s₁) :
  WalkO q loose XP YP l.row.toRowW d [] (fun f vs=>PySem.call f vs):=by
 intro w s₀ s₁ mg mb G Y fa o pm cd doc dV kV ho hd hcd hD hmg hg args YC as hpre hlay hrd hwl hlo
 obtain rfl:dV=.none:=Dflts.none hD hdf
 obtain rfl:kV=.none:=Dflts.noKw hD
 obtain⟨a,vs,ns,rfl,rfl,hobj,hints,hlen⟩:=ZcU hn hpre hwl
 refine enter_call (codeAny_mono (call w s₀ s₁ mg mb fa o pm cd doc a vs ns G Y ho (fd_plain hd) hcd hmg hobj hints hlen hg) fun r s' hq=>?_)
 obtain⟨rfl,h2,h3,h4⟩:=hq
 exact⟨.inl ⟨.bool true,.bool true,[],rfl,fun _=>rfl,.bool true,ZcX l _,fun _=>⟨List.Pairwise.nil,fun _ hm=>(nomatch hm)⟩⟩,h2,h3,h4⟩
section
variable {prog:Program}{w:World}{A:Around}{E:Value->Shared->Prop}{s:Shared}{K:Frag}
end
end Att
namespace L2
open PySem PySem.Spec PyProof.Rows
theorem X9:∀{vs:List Value}{ns:List Int},IntsAre vs ns->ZB (ns.map V.int) vs
 |_,_,.nil=>.nil
 |_,_,.cons n t h=>.cons ⟨t,rfl⟩ (X9 h)
def ZiK (H:Hp):Prop:=∀b,H b=none\/∃o xs,H b=some (.frz o (.lst xs))
theorem ZeT {P:Program}{w:World}{K:PySem.W.Frag}{mg mb:Str->Option Value}{CX:CXT}{k:Nat}{fa a:Addr}{fd:FuncData}{x:Str}{sp:Sp}{s₁:Shared}{vs:List Value}{ns:List Int}
  (KX:K.In s₁.heap) (hns:s₁.heap.Ns mainGlobals mg) (hb:s₁.heap.Ns builtinsNs mb) (hbb:∀x:Str,x ≠ "__name__"->mb x=bootBuiltins x) (hlim:s₁.heap.NoLimit) (hg:s₁.gens=#[])
  (ha:s₁.heap.get? a=some {cls:=.type "list",data:=.seq vs.toArray}) (hi:IntsAre vs ns) (hl:ns.length<=sizeLine) (hr:Wm k callerA)
  (F:∀base:Heap,K.In base->base.Ns mainGlobals mg->Z1 P w K mg base CX k fa fd [x] sp) (hbind:∀(s:Shared) (u:Value),BindsTo s fd ⟨[u],[]⟩ [(x,u)])
  (hsp:∀H:Hp,ZiK H->Wb K H a (ns.map V.int)->sp [.ref a] H (fun v _=>v=.bl true) fun _ _ _=>False)
  (hCX:∀H e s',CX [] H s₁ (fun _ _ _=>False) e s'->False) :
  codeAny (model P w) callerA (.call (.ref fa) ⟨[.ref a],[]⟩) (fun r s'=>r=.ok (.ret (.bool true))/\OldK s₁.heap s'.heap/\s'.os=s₁.os/\AllBare s'.gens) s₁:=by
 have rv:=X9 hi
 have lenV:=hi.length
 have core:∀H:Hp,ZiK H->Wb K H a (ns.map V.int)->JC P w H s₁.heap->(∀b,H b≠none->b=a)->(H a≠none->K.lookup a=none)->
   codeAny (model P w) callerA (.call (.ref fa) ⟨[.ref a],[]⟩) (fun r s'=>r=.ok (.ret (.bool true))/\OldK s₁.heap s'.heap/\s'.os=s₁.os/\AllBare s'.gens) s₁:=by
  intro H hO hS hok hA hK
  have base_of:∀{b:Addr}{o:Obj},s₁.heap.get? b=some o->H b=none->(Uo s₁.heap H).get? b=some o:=fun e n=>Ze2 e n
  have noA:∀{b:Addr}{o:Obj}{es:Array DictEntry}{ep:Nat},s₁.heap.get? b=some o->o.data=.dict es ep->H b=none:=fun {b o es ep} e d=>by
   cases q:H b with
   |none=>rfl
   |some u=>
    have e':b=a:=hA b (by rw[q];simp)
    subst e'
    rw[ha] at e;cases e
    have d':Data.seq vs.toArray _=Data.dict es ep:=d
    cases d'
  have nsK:∀{b:Addr}{m:Str->Option Value},s₁.heap.Ns b m->(Uo s₁.heap H).Ns b m:=fun {b m} ⟨o,es,ep,e,d,r⟩=>⟨o,es,ep,base_of e (noA e d),d,r⟩
  have hKb:K.In (Uo s₁.heap H):=fun b o e=>base_of (KX b o e) (by
   cases q:H b with
   |none=>rfl
   |some u=>
    have e':b=a:=hA b (by rw[q];simp)
    subst e'
    rw[hK (by rw[q];simp)] at e;cases e)
  have hM:Mod K mg (Uo s₁.heap H):=⟨hKb,nsK hns,⟨mb,nsK hb,hbb⟩,let ⟨mc,h1,h2⟩:=hlim;⟨mc,nsK h1,h2⟩⟩
  have e0:ZgJ P w K mg (Uo s₁.heap H) callerA [] s₁ H:=⟨rfl,hM,fun b o e=>Zgi e,Nat.le_of_eq (Zdk _ _),trivial,fun b hb=>absurd (show b∈([]:List Addr) from hb) (by simp),hok,.of_eq hg⟩
  refine codeAny_mono ((F _ hKb (nsK hns)).run callerA [] s₁ H ⟨[.ref a],[]⟩ [.ref a] [.ref a] _ _ hr e0 (hbind s₁ (.ref a)) (.cons rfl .nil) (hsp H hO hS)) fun r s' h=>?_
  cases r with
  |error e=>exact (hCX H e s' h).elim
  |ok fl=>
   cases fl with
   |next=>exact False.elim h
   |brk=>exact False.elim h
   |cont=>exact False.elim h
   |ret u=>
    obtain⟨v,H',os,bare,un,hok',r',q⟩:=h
    have q':v=.bl true:=q
    subst q'
    obtain rfl:u=Value.bool true:=r'
    refine⟨rfl,OldK.of_keep fun b o e=>?_,os,bare⟩
    cases q:H b with
    |none=>exact un.keep b o e q (by intro z;exact absurd (show b∈([]:List Addr) from z) (by simp)) (by simp)
    |some u=>
     rcases hO b with z|⟨ob,xs,z⟩
     ·rw[q] at z;cases z
     ·have z2:=un.frzs b ob _ z
      obtain⟨e1,_⟩:=hok b _ z
      obtain⟨e2,_⟩:=hok' b _ z2
      rw[e] at e1;cases e1
      exact e2
 cases hk:K.lookup a with
 |some o=>
  have e:=KX a o hk
  rw[ha] at e
  cases e
  refine core (fun _=>none) (fun _=>.inl rfl) (.inr ⟨_,vs.toArray,_,hk,rfl,rfl,rfl,by rw[Zh,lenV];exact hl,by simpa using rv⟩) (fun b u z=>by have z':(none:Option HO)=some u:=z;cases z') (fun b z=>absurd rfl z) fun z=>absurd rfl z
 |none=>
  refine core (fun b=>if b=a then some (.frz {cls:=.type "list",data:=.seq vs.toArray} (.lst (ns.map V.int))) else none) (fun b=>?_) (.inl (.inr ⟨{cls:=.type "list",data:=.seq vs.toArray},if_pos rfl⟩)) (fun b u z=>?_) (fun b z=>?_) fun _=>hk
  ·by_cases hb:b=a
   ·exact .inr ⟨_,_,if_pos hb⟩
   ·exact .inl (if_neg hb)
  ·by_cases hb:b=a
   ·have z':=(if_pos hb).symm.trans z
    cases z'
    subst hb
    exact⟨ha,by rw[Za];exact hl,vs,_,rv,ha⟩
   ·have z':=(if_neg hb).symm.trans z
    cases z'
  ·by_cases hb:b=a
   ·exact hb
   ·exact absurd (if_neg hb) z
theorem VH {l:PySem.W.OpenLaw}{n k:Nat}{q:Program}{loose:List Str}{XP:(Str->Option Value)->Heap->Prop}{YP:World->Heap->Prop}{d:DefRec}{K:Params->PySem.W.Frag}{CX:World->CXT}{sp:World->Sp}{x:Str}
  (hn:l.most=some n) (hn2:n<=sizeLine) (hdf:d.params.defaults=[]) (hr:Wm k callerA)
  (hY:∀(w:World) (h:Heap),YP w h->(K w.params).In h)
  (F:∀(w:World) (mg:Str->Option Value) (fa:Addr) (h:Heap),(K w.params).In h->h.Ns mainGlobals mg->mg d.name=some (.ref fa)->
   ∃fd:FuncData,(∀(s:Shared) (u:Value),BindsTo s fd ⟨[u],[]⟩ [(x,u)])/\
    ∀base:Heap,(K w.params).In base->base.Ns mainGlobals mg->Z1 l.prog w (K w.params) mg base (CX w) k fa fd [x] (sp w))
  (hsp:∀(w:World) (H:Hp) (a:Addr) (ns:List Int),ns.length<=n->ZiK H->Wb (K w.params) H a (ns.map V.int)->sp w [.ref a] H (fun v _=>v=.bl true) fun _ _ _=>False)
  (hCX:∀(w:World) (H:Hp) (s:Shared) (e:Value) (s':Shared),CX w [] H s (fun _ _ _=>False) e s'->False) :
  PySem.W.WalkO q loose XP YP l.row.toRowW d [] (fun f vs=>PySem.call f vs):=by
 refine Att.ZaP hn hdf fun w s₀ s₁ mg mb fa o pm cd doc a vs ns G Y ho hd hcd hmg hobj hints hlen hg=>?_
 have KX:=hY w _ Y
 obtain⟨fd,hb,hF⟩:=F w mg fa _ KX G.T.g hmg
 exact ZeT KX G.T.g G.T.b G.T.builtins G.T.nolimit hg hobj hints (Nat.le_trans hlen hn2) hr hF hb (fun H hO hS=>hsp w H a ns hlen hO hS) fun H e s'=>hCX w H s₁ e s'
def YI (s:Stmt):Arguments:=match s with
 | .FunctionDef _ a _ _ _ _ _ _ _ _=>a
 |_=>{posonlyargs:=[],args:=[],vararg:=none,kwonlyargs:=[],kw_defaults:=[],kwarg:=none,defaults:=[]}
def Yx (s:Stmt):List Stmt:=match s with
 | .FunctionDef _ _ b _ _ _ _ _ _ _=>b
 |_=>[]
def ZM (s:Stmt):Scope:=match s with
 | .FunctionDef _ _ _ _ _ _ sc _ _ _=>sc
 |_=>{kind:=.function,names:=[],isGenerator:=false,isCoroutine:=false}
abbrev Yc:CXT:=fun _ _ _ _ _ _=>False
abbrev E0:XK:=fun _ _ _=>False
theorem ZE {X:Cx}:UD Yc X E0:=fun _ _ _ _ _ _ _ h=>h.elim
structure WB (K:PySem.W.Frag)(x qual:Str)(st:Stmt)(f:Addr)(fd:FuncData):Prop where
 ex:∃(oc:Value) (od:Option Addr) (kV doc pm:Value) (an:Option Addr) (cdv ct:Value) (osl:Array (Option Value)),
  fd=PySem.W.fnOf x qual (YI st) (Yx st) (ZM st) .none kV doc pm an cdv ct/\K.lookup f=some ⟨oc,od,.func fd,osl⟩/\PySem.W.codeIn K cdv qual=true
 kp:PySem.W.keepIn K (.ref f)=true
section
variable {P:Program}{w:World}{K:PySem.W.Frag}{mg:Str->Option Value}{base:Heap}
theorem WB.ok {x qual:Str}{st:Stmt}{f:Addr}{fd:FuncData}{N ps:List Str}{k:Nat}{sp:Sp}(F:WB K x qual st f fd)(S:Xk N ps (ZM st))(len:∀vs H Q E,sp vs H Q E->vs.length=ps.length)
  (hbody:∀(cdv:Value) (A:Around) (outer:List Env) (s:Shared) (H:Hp) (vs:List V) (Q:VK) (E:XK),Wm k (A.deeper (envOfC qual (ZM st) s.heap.objs.size f cdv))->sp vs H Q E->
   ∃t,PSs (Zdw Yc P w K mg base N qual (ZM st) f cdv A outer s H E).nox (Yx st) t/\t {nx:=fun _ H'=>Q .non H',rt:=Q} (start N vs) H):Z1 P w K mg base Yc (k+1) f fd ps sp:=by
 obtain⟨oc,od,kV,doc,pm,an,cdv,ct,osl,rfl,lk,hcd⟩:=F.ex
 refine ZjH lk hcd S len fun A outer s H vs Q E hr hsp=>?_
 obtain⟨t,h,q⟩:=hbody cdv A outer s H vs Q E hr hsp
 exact⟨t,h.nox,q⟩
theorem WB.binds {x qual:Str}{st:Stmt}{f:Addr}{fd:FuncData}{ps:List Str}(F:WB K x qual st f fd)
  (h:∀(kV doc pm:Value) (an:Option Addr) (cdv ct:Value) (us:List Value),us.length=ps.length->bindArgs (PySem.W.fnOf x qual (YI st) (Yx st) (ZM st) .none kV doc pm an cdv ct) ⟨us,[]⟩=pure (ps.zip us)):Binds K fd ps []:=by
 obtain⟨oc,od,kV,doc,pm,an,cdv,ct,osl,rfl,lk,hcd⟩:=F.ex
 exact .all (h kV doc pm an cdv ct)
theorem Zbu {x qual:Str}{st:Stmt}{f:Addr}{oc:Value}{od an:Option Addr}{osl:Array (Option Value)}{kV doc pm cdv ct:Value}(l:K.lookup f=some ⟨oc,od,.func (PySem.W.fnOf x qual (YI st) (Yx st) (ZM st) .none kV doc pm an cdv ct),osl⟩)
  (c:PySem.W.codeIn K cdv qual=true) (k:PySem.W.keepIn K (.ref f)=true):WB K x qual st f (PySem.W.fnOf x qual (YI st) (Yx st) (ZM st) .none kV doc pm an cdv ct):=⟨⟨oc,od,kV,doc,pm,an,cdv,ct,osl,rfl,l,c⟩,k⟩
end
section
variable {X:Cx}
end
theorem YN {c A B:Prop} [Decidable c](h1:c->A)(h2:¬c->B):if c then A else B:=by
 by_cases h:c
 ·rw[if_pos h]
  exact h1 h
 ·rw[if_neg h]
  exact h2 h
def Same (H H':Hp):Prop:=∀b o,H b=some o->H' b=some o
theorem Same.refl (H:Hp):Same H H:=fun _ _ h=>h
theorem Same.trans {H H1 H2:Hp}(a:Same H H1)(b:Same H1 H2):Same H H2:=fun c o h=>b c o (a c o h)
theorem Same.free {H H':Hp}(e:Same H H'){l:Addr}(h:H' l=Option.none):H l=Option.none:=by
 cases q:H l with
 |none=>rfl
 |some o=>
  rw[e l o q] at h
  cases h
theorem Same.seq {K:PySem.W.Frag}{H H':Hp}{a:Addr}{xs:List V}(e:Same H H')(h:Wb K H a xs):Wb K H' a xs:=by
 rcases h with (h|⟨o,h⟩)|h
 ·exact .inl (.inl (e _ _ h))
 ·exact .inl (.inr ⟨o,e _ _ h⟩)
 ·exact .inr h
end L2
set_option maxHeartbeats 4000000
namespace L2
open PySem PySem.Spec PyProof.Rows
structure Wo (N:List Str)(esc:Scope)(own:List Str)(caps:List Nat)(N':List Str)(sc:Scope):Prop where
 kind:sc.kind=.function
 ndn:(sc.names.map (·.1)).Nodup
 uniq:∀y∈sc.names,y.2=.local->sc.names.lookup y.1=some .local
 nd:N'.Nodup
 eqN:N'=own++caps.map fun j=>N.getD j ""
 cap:∀j∈caps,j<N.length/\sc.names.lookup (N.getD j "")=some .free
 fr:∀y∈sc.names,y.2=.free->esc.names.lookup y.1=some .cell\/esc.names.lookup y.1=some .free
def Jz (own:List Str)(caps:List Nat)(σ:St):St:=List.replicate own.length none++caps.map fun j=>(σ[j]?).join
theorem Jg {env:Env}:∀(names:List (Str×NameKind)) (acc:List (Str×Addr)),(∀y∈names,y.2=.free->∃c,env.cells.lookup y.1=some c)->(∀y c,acc.lookup y=some c->env.cells.lookup y=some c)->
  ∃cl,(forIn names acc (fun x r=>if (x.2 == NameKind.free)=true then (do let c <-cellOf env x.1;pure (ForInStep.yield ((x.1,c)::r))) else pure (ForInStep.yield r)):Sem (List (Str×Addr)))=pure cl/\
   (∀y c,cl.lookup y=some c->env.cells.lookup y=some c)/\(∀y,(∃c,acc.lookup y=some c)->∃c,cl.lookup y=some c)/\∀y∈names,y.2=.free->∃c,cl.lookup y.1=some c
 | [],acc,_,ha=>⟨acc,rfl,ha,fun _ h=>h,fun _ h=>absurd h (by simp)⟩
 | (n,k)::r,acc,hn,ha=>by
  rw[List.forIn_cons]
  by_cases hk:k=.free
  ·subst hk
   obtain⟨c,hc⟩:=hn (n,.free) List.mem_cons_self rfl
   have ha':∀y d,((n,c)::acc).lookup y=some d->env.cells.lookup y=some d:=fun y d e=>by
    rw[List.lookup_cons] at e
    cases q:y == n with
    |true=>rw[q] at e;cases e;rw[beq_iff_eq.mp q];exact hc
    |false=>rw[q] at e;exact ha y d e
   obtain⟨cl,e,h1,h2,h3⟩:=Jg r ((n,c)::acc) (fun y hy=>hn y (List.mem_cons_of_mem _ hy)) ha'
   have hh:∀y,(∃d,acc.lookup y=some d)->∃d,((n,c)::acc).lookup y=some d:=fun y ⟨d,hd⟩=>by
    rw[List.lookup_cons]
    cases q:y == n with
    |true=>exact⟨c,rfl⟩
    |false=>exact⟨d,hd⟩
   have hs:∃d,((n,c)::acc).lookup n=some d:=⟨c,by rw[List.lookup_cons,beq_self_eq_true]⟩
   refine⟨cl,?_,h1,fun y hy=>h2 y (hh y hy),fun y hy hf=>?_⟩
   ·have hcell:cellOf env n=pure c:=by simp only[cellOf,hc]
    simp only[beq_self_eq_true,if_true,hcell]
    simp only[pure_bind]
    exact e
   ·rcases List.mem_cons.mp hy with rfl|hy
    ·exact h2 _ hs
    ·exact h3 y hy hf
  ·obtain⟨cl,e,h1,h2,h3⟩:=Jg r acc (fun y hy=>hn y (List.mem_cons_of_mem _ hy)) ha
   refine⟨cl,?_,h1,h2,fun y hy hf=>?_⟩
   ·have hb:(k == NameKind.free)=false:=by simpa using hk
    simp only[hb,Bool.false_eq_true,if_false,pure_bind]
    exact e
   ·rcases List.mem_cons.mp hy with rfl|hy
    ·exact absurd hf hk
    ·exact h3 y hy hf
theorem XO {scope:Scope}{env:Env}(h:∀y∈scope.names,y.2=.free->∃c,env.cells.lookup y.1=some c) :
  ∃cl,closureFor scope env=pure cl/\(∀y c,cl.lookup y=some c->env.cells.lookup y=some c)/\∀y∈scope.names,y.2=.free->∃c,cl.lookup y.1=some c:=by
 obtain⟨cl,e,h1,_,h3⟩:=Jg (env:=env) scope.names [] h (fun y c e=>by simp at e)
 refine⟨cl,?_,h1,h3⟩
 have q:closureFor scope env=((forIn scope.names ([]:List (Str×Addr)) (fun x r=>if (x.2 == NameKind.free)=true then (do let c <-cellOf env x.1;pure (ForInStep.yield ((x.1,c)::r))) else pure (ForInStep.yield r)):Sem (List (Str×Addr))) >>= fun cs=>pure cs):=rfl
 rw[q,e]
 rfl
theorem Y1 {names:List (Str×NameKind)}{x:Str}{k:NameKind}(h:names.lookup x=some k):(x,k)∈names:=PySem.mem_of_lookup h
theorem Yw {env:Env}{x:Str}:∀{names:List (Str×NameKind)}{k:NameKind},
  (names.map fun (n,k)=>if (k == NameKind.free && env.scope.kind == .function && env.kindOf n == some .cell) then (n,NameKind.cell) else (n,k)).lookup x=some k->
  names.lookup x=some k\/(k=.cell/\names.lookup x=some .free)
 | [],_,h=>by simp at h
 | (n,k0)::r,k,h=>by
  have ih:=@Yw env x r k
  have h:List.lookup x ((if (k0 == NameKind.free && env.scope.kind == .function && env.kindOf n == some .cell)=true then (n,NameKind.cell) else (n,k0))::_)=some k:=h
  rw[List.lookup_cons]
  by_cases hc:(k0 == NameKind.free && env.scope.kind == .function && env.kindOf n == some .cell)=true
  ·rw[if_pos hc,List.lookup_cons] at h
   have hk0:k0=.free:=by
    simp only[Bool.and_eq_true,beq_iff_eq] at hc
    exact hc.1.1
   cases q:x == n with
   |true=>rw[q] at h;cases h;right;exact⟨rfl,by rw[hk0]⟩
   |false=>rw[q] at h;exact ih h
  ·rw[if_neg hc,List.lookup_cons] at h
   cases q:x == n with
   |true=>rw[q] at h;cases h;left;rfl
   |false=>rw[q] at h;exact ih h
section
variable {X:Cx}
def Zfn (scope:Scope)(x:Str):Bool:=scope.names.any fun y=>y.1 == x && (match y.2 with | .cell=>true|_=>false)
theorem ZdA {scope:Scope}{x:Str}(h:Zfn scope x=true):(x,NameKind.cell)∈scope.names:=by
 unfold Zfn at h
 obtain⟨⟨n,k⟩,hm,hy⟩:=List.any_eq_true.mp h
 rw[Bool.and_eq_true] at hy
 obtain⟨h1,h2⟩:=hy
 have e:n=x:=by simpa using h1
 subst e
 cases k <;> first|exact hm|cases h2
theorem JL {x:Str}{k:NameKind}:∀{names:List (Str×NameKind)},(names.map (·.1)).Nodup->(x,k)∈names->names.lookup x=some k
 | [],_,h=>by cases h
 | (n,k0)::r,nd,h=>by
  rw[List.map_cons,List.nodup_cons] at nd
  rw[List.lookup_cons]
  rcases List.mem_cons.mp h with e|h
  ·cases e
   simp
  ·have:(x == n)=false:=by
    refine Bool.eq_false_iff.mpr fun z=>nd.1 ?_
    rw[<-beq_iff_eq.mp z]
    exact List.mem_map.mpr ⟨_,h,rfl⟩
   rw[this]
   exact JL nd.2 h
theorem W5:∀(names:List (Str×NameKind)) (n:Nat) (acc:List (Str×Addr)),cellsFrom n names acc=cellsFrom n names []++acc
 | [],n,acc=>rfl
 |(x,k)::r,n,acc=>by
  unfold cellsFrom
  by_cases hk:(k == NameKind.cell)=true
  ·rw[if_pos hk,if_pos hk,W5 r (n+1) ((x,n)::acc),W5 r (n+1) [(x,n)],List.append_assoc]
   rfl
  ·rw[if_neg hk,if_neg hk,W5 r n acc]
theorem JQ {x:Str}{c:Addr}:∀(names:List (Str×NameKind)) (n:Nat) (acc:List (Str×Addr)),(x,c)∈cellsFrom n names acc->(x,NameKind.cell)∈names\/(x,c)∈acc
 | [],n,acc,h=>.inr h
 | (y,k)::r,n,acc,h=>by
  unfold cellsFrom at h
  by_cases hk:(k == NameKind.cell)=true
  ·rw[if_pos hk] at h
   rcases JQ r (n+1) _ h with z|z
   ·exact .inl (List.mem_cons_of_mem _ z)
   ·rcases List.mem_cons.mp z with e|z
    ·cases e
     have:k=.cell:=by cases k <;> first|rfl|cases hk
     rw[this]
     exact .inl List.mem_cons_self
    ·exact .inr z
  ·rw[if_neg hk] at h
   rcases JQ r n _ h with z|z
   ·exact .inl (List.mem_cons_of_mem _ z)
   ·exact .inr z
theorem Zgj {M:Model}{A:Around}{E:Value->Shared->Prop}{s:Shared}{scope:Scope}{globals:Addr}{cl:List (Str×Addr)}{qual:Str}{around:Env}{Q:Env->Shared->Prop}
  (hQ:Q (newEnv scope s.heap.objs.size globals (cellsFrom (s.heap.objs.size+1) scope.names cl) qual none .none (some around) builtinsNs) {s with heap:=pushCells (s.heap.push {cls:=.type "dict",data:=.dict #[]}) scope.names}) :
  wpAny M A (newFunctionEnv scope globals cl [] qual none .none (some around)) Q E s:=by
 unfold newFunctionEnv
 refine Zl (wpAny_alloc ?_)
 refine Zl (wpAny_layCells _ (fun name kind cells=>by cases hkc:kind == NameKind.cell <;> simp[hkc]) _ _ _ _ ?_)
 rw[show ({s with heap:=s.heap.push {cls:=.type (if (some around).isSome=true then "dict" else "frame"),data:=.dict #[]}}:Shared).heap.objs.size=s.heap.objs.size+1 from Heap.size_push ..]
 exact Zl (by rw[List.forIn_nil];exact Zm (Zm hQ))
def Yk (X:Cx)(scope:Scope)(cl:List (Str×Addr))(N':List Str)(C:Addr)(s:Shared)(H:Hp)(ex:List Addr):Cx:=
 {X with N:=N',s₀:=s,H₀:=H,env:=compEnvC scope cl C X.env,outer:=X.stack,ex:=ex,fn:=Zfn scope,pn:=[],xe:=fun _ _=>False}
def WX (own:List Str)(caps:List Nat)(g:TG)(tc:TT)(te:TE)(σ:St)(Q:VK)(J:It)(H1:Hp):Prop:=∀D,H1 D=none->
 ∃W:Nat->Nat->St->Hp->Prop,(∃m,W 0 m (Jz own caps σ) (upd H1 D (.lst [])))/\∀i m σ' H',W i m σ' H'->
  (J.stop i H'/\Q (.ref D) H')\/(J.go i H'/\∃N:St->Hp->Prop,(∀ σ2 H2,N σ2 H2->∃m',m'<m/\W (i+1) m' σ2 H2)/\∀x H2,J.yld i H' x H2->g x σ' H2 fun σ3 H3=>tc σ3 H3 fun b H4=>
   if b=true then te σ3 H4 fun v H5=>∃xs,H5 D=some (.lst xs)/\xs.length<sizeLine/\N σ3 (upd H5 D (.lst (xs++[v]))) else N σ3 H4)
def ZbP (own:List Str)(caps:List Nat)(wi:TI)(g:TG)(tc:TT)(te:TE):TE:=fun σ H Q=>wi σ H fun J H1=>WX own caps g tc te σ Q J H1
def WG:TT:=fun _ H Q=>Q true H
def PIf (X:Cx)(ifs:List Expr)(t:TT):Prop:=
 ∀(pins:List (Addr×Obj)) (s:Shared) (σ:St) (H:Hp) (Q:Bool->Hp->Prop),Inv X pins σ H s->t σ H Q->
  wpAny (model X.prog X.w) X.A (forIn ifs true fun c r=>if r=true then do let ok <-isTrue c X.env (eval c X.env);pure (ForInStep.yield ok) else pure (ForInStep.yield r)) (TP X pins σ Q) X.xe s
theorem ZQ:PIf X [] WG:=fun _ _ _ H _ I h=>wpAny_tests_nil ⟨H,I,h⟩
theorem V3 {c:Expr}{t:TT}(h:PT X c t):PIf X [c] t:=fun pins s σ H Q I q=>wpAny_tests_one (h pins s σ H Q I q)
theorem WR {prog:Program}{w:World}{A:Around}{R:Result->Shared->Prop}{s:Shared}{elt target iter:Expr}{ifs:List Expr}{scope:Scope}{pos:Pos}{it acc:Value}{env:Env}(I:Nat->Shared->Prop)
  (turn:∀n s,I n s->wpAny (model prog w) A (pyNext it) (fun r s₁=>match r with
   |none=>R (.ok .next) s₁
   |some v=>wpAny (model prog w) A (letOwnedTupleGo target it v) (fun _ s₁'=>wpAny (model prog w) A (assign target env v) (fun _ s₂=>
     wpAny (model prog w) A (forIn ifs true fun c r=>if r=true then do let ok <-isTrue c env (eval c env);pure (ForInStep.yield ok) else pure (ForInStep.yield r)) (fun ok s₃=>
      if ok=true then wpAny (model prog w) A (eval elt env) (fun x s₄=>
       wpAny (model prog w) A (call (.builtin "list.append") [acc,x]) (fun _ s₅=>∃m,m<n/\I m s₅) (fun _ _=>False) s₄) (fun _ _=>False) s₃
      else ∃m,m<n/\I m s₃) (fun _ _=>False) s₂) (fun _ _=>False) s₁') (fun _ _=>False) s₁) (fun _ _=>False) s)
  (n:Nat) (h:I n s) :
  codeAny (model prog w) A (.compLoop (.ListComp elt [⟨target,iter,ifs,0⟩] scope pos) 0 it acc env) R s:=by
 refine codeAny_loop rfl I (fun n s hI=>?_) n h
 show wpAny _ A ((compTurn (.ListComp elt [⟨target,iter,ifs,0⟩] scope pos) 0 it acc env).onRaise (fun x=>do noteFrame x env;theTreesLotGoes x)) _ _ s
 refine wpAny_noted ?_
 rw[compTurn_list]
 refine Zl (wpAny_standAt (Zl (wpAny_mono (turn n s hI) (fun r s₁ h₁=>?_) fun _ _ h'=>h'.elim)))
 cases r with
 |none=>exact Zm h₁
 |some v=>
  refine Zl (wpAny_mono h₁ (fun _ s₁' h₁'=>?_) fun _ _ h'=>h'.elim)
  refine Zl (wpAny_mono h₁' (fun _ s₂ h₂=>Zl (wpAny_mono h₂ (fun ok s₃ h₃=>?_) fun _ _ h'=>h'.elim)) fun _ _ h'=>h'.elim)
  cases ok with
  |false=>exact Zm ⟨rfl,h₃⟩
  |true=>
   exact Zl (Zl (wpAny_mono h₃ (fun x s₄ h₄=>Zl (wpAny_mono h₄ (fun _ s₅ h₅=>Zm (Zm ⟨rfl,h₅⟩)) fun _ _ h'=>h'.elim)) fun _ _ h'=>h'.elim))
theorem XN {own:List Str}{caps:List Nat}{N':List Str}{esc scope:Scope}{elt iter tg:Expr}{ifs:List Expr}{pos:Pos}{g:TG}{tc:TT}{te:TE}{cl:List (Str×Addr)}
  (hesc:X.env.scope=esc) (S:Wo X.N esc own caps N' scope) (hc:X.calm=true)
  (hcl1:∀y c,cl.lookup y=some c->X.env.cells.lookup y=some c) (hcl2:∀y∈scope.names,y.2=.free->∃c,cl.lookup y.1=some c)
  (hg:∀cl C s H ex,PG (Yk X scope cl N' C s H ex) tg g) (ht:∀cl C s H ex,PIf (Yk X scope cl N' C s H ex) ifs tc) (he:∀cl C s H ex,PE (Yk X scope cl N' C s H ex) elt te)
  {pins:List (Addr×Obj)}{σ:St}{H2:Hp}{s2:Shared}{it:Addr}{fp:List Addr}{tn:Nat->Heap->Prop}{J:It}{Q:VK}{RR:Value->Addr->Result->Shared->Prop}{E:Value->Shared->Prop}
  (I2:Inv X pins σ H2 s2) (T:ZaR X.prog X.w X.K tg J fp it tn) (st2:tn 0 s2.heap) (f2:∀b∈fp,X7 X pins H2 b)
  (h:WX own caps g tc te σ Q J H2)
  (hRR:∀D C s' m H',s'.heap.Ns C m->C≠X.env.locals->(∀x c,X.env.cells.lookup x=some c->c≠C)->X.s₀.heap.objs.size<=C->(∀p∈X.pn++pins,p.1≠C)->H' C=none->Q (.ref D) H'->(∀h',Heap.SameBut C s'.heap h'->Inv X pins σ H' {s' with heap:=h'})->RR (.ref D) C (.ok .next) s') :
  wpAny (model X.prog X.w) X.A (newList []) (fun acc s₃=>wpAny (model X.prog X.w) X.A (newFunctionEnv scope X.env.globals cl [] X.env.qual none .none (some X.env)) (fun cenv s₄=>
   codeAny (model X.prog X.w) X.A (.compStart (.ListComp elt [⟨tg,iter,ifs,0⟩] scope pos) 0 (.ref it) acc {cenv with scope:=relabel scope X.env}) (RR acc cenv.locals) s₄) E s₃) E s2:=by
 refine wpAny_newObj_type (Zgj ?_)
 dsimp only
 have hD:H2 s2.heap.objs.size=none:=I2.hok.fresh (Zq _)
 obtain⟨W,⟨m0,w0⟩,turn⟩:=h _ hD
 generalize hH3:s2.heap.push {cls:=.type "list",dict:=none,data:=.seq ([]:List Value).toArray}=g3
 have hC:g3.objs.size=s2.heap.objs.size+1:=by rw[<-hH3,Heap.size_push]
 have old3:∀b o,s2.heap.get? b=some o->g3.get? b=some o:=fun b o e=>hH3▸Zn _ e
 have I3:Inv X pins σ (upd H2 s2.heap.objs.size (.lst [])) {s2 with heap:=g3,toks:=s2.toks}:=
  I2.laid (t':=s2.toks) old3 (Zq _) ⟨Nat.zero_le _,[],0,.nil,hH3▸Zo _ rfl⟩
 generalize hh1:pushCells (g3.push {cls:=.type "dict",data:=.dict #[]}) scope.names=h₁
 have k1:∀b o,g3.get? b=some o->h₁.get? b=some o:=fun b o e=>hh1▸pushCells_keeps _ _ b o (Zn _ e)
 have hns₁:h₁.Ns g3.objs.size (fun _=>none):=hh1▸(Heap.Ns.new g3 (.type "dict")).keeps (pushCells_keeps _ _)
 have okA:CellsOk h₁ (g3.objs.size+1) (cellsFrom (g3.objs.size+1) scope.names []):=by
  have q:=cellsFrom_ok scope.names (g3.push {cls:=.type "dict",data:=.dict #[]}) (g3.objs.size+1) [] ⟨fun _ _ hm=>(nomatch hm),List.Pairwise.nil⟩ (by rw[Heap.size_push];exact Zq _)
  rw[Heap.size_push,hh1] at q
  exact q
 have hcl':cellsFrom (g3.objs.size+1) scope.names cl=cellsFrom (g3.objs.size+1) scope.names []++cl:=W5 _ _ _
 have hsomeA:∀y,scope.names.lookup y=some .cell->∃c,(cellsFrom (g3.objs.size+1) scope.names []).lookup y=some c:=fun y hy=>Option.isSome_iff_exists.mp (PySem.W.cellsFrom_some scope.names (g3.objs.size+1) [] (.inl hy))
 generalize hcA:cellsFrom (g3.objs.size+1) scope.names []=cA at okA hcl' hsomeA
 have memA:∀y c,cA.lookup y=some c->(y,NameKind.cell)∈scope.names:=fun y c e=>by
  have:=PySem.mem_of_lookup e
  rw[<-hcA] at this
  rcases JQ _ _ _ this with z|z
  ·exact z
  ·cases z
 generalize hcE:cellsFrom (g3.objs.size+1) scope.names cl=cE at hcl'
 have lkE:∀y c,cE.lookup y=some c->cA.lookup y=some c\/(cA.lookup y=none/\cl.lookup y=some c):=fun y c e=>by
  rw[hcl',List.lookup_append] at e
  cases q:cA.lookup y with
  |none=>rw[q] at e;exact .inr ⟨rfl,by simpa using e⟩
  |some c'=>rw[q] at e;exact .inl (by simpa using e)
 have lkF:∀y c,scope.names.lookup y=some .free->cl.lookup y=some c->cE.lookup y=some c:=fun y c hy e=>by
  rw[hcl',List.lookup_append]
  cases q:cA.lookup y with
  |none=>simpa using e
  |some c'=>
   have:=JL S.ndn (memA y c' q)
   rw[hy] at this
   cases this
 have fpn:∀b∈fp,upd H2 s2.heap.objs.size (.lst []) b=none:=fun b hb=>by
  obtain⟨o,ho,_⟩:=T.obj _ _ st2 b hb
  rw[Zw (Nat.ne_of_lt (Zp ho))]
  exact (f2 b hb).1
 have fplt:∀b∈fp,b<g3.objs.size:=fun b hb=>by
  obtain⟨o,ho,_⟩:=T.obj _ _ st2 b hb
  rw[hC];exact Nat.lt_succ_of_lt (Zp ho)
 generalize hX':Yk X scope cE N' g3.objs.size {s2 with heap:=g3,toks:=s2.toks} (upd H2 s2.heap.objs.size (.lst [])) fp=X'
 have hfs:X'.fs=frs X.stack:=by rw[<-hX'];rfl
 have kindL:∀y,X'.env.kindOf y=some .cell\/X'.env.kindOf y=some .free->∃c,cE.lookup y=some c:=fun y hy=>by
  have hy':(relabel scope X.env).names.lookup y=some .cell\/(relabel scope X.env).names.lookup y=some .free:=by rw[<-hX'] at hy;exact hy
  have hf:scope.names.lookup y=some .free->∃c,cE.lookup y=some c:=fun hf=>by
   obtain⟨c,hc'⟩:=hcl2 _ (Y1 hf) rfl
   exact⟨c,lkF y c hf hc'⟩
  have hcc:scope.names.lookup y=some .cell->∃c,cE.lookup y=some c:=fun hf=>by
   obtain⟨c,hc'⟩:=hsomeA y hf
   exact⟨c,by rw[hcl',List.lookup_append,hc'];rfl⟩
  rcases hy' with q|q
  ·rcases Yw q with z|z
   ·exact hcc z
   ·exact hf z.2
  ·rcases Yw q with z|z
   ·exact hf z
   ·exact absurd z.1 (by decide)
 have cellsX:X'.env.cells=cE:=by rw[<-hX'];rfl
 have locX:X'.env.locals=g3.objs.size:=by rw[<-hX'];rfl
 have cne:∀x c,cl.lookup x=some c->c≠g3.objs.size/\c<g3.objs.size:=fun x c e=>by
  obtain⟨v,q⟩:=I3.cell x c (hcl1 x c e)
  exact⟨Nat.ne_of_lt q.lt,q.lt⟩
 have aboveA:∀x c,cA.lookup x=some c->g3.objs.size+1<=c:=fun x c e=>(okA.empty x c (PySem.mem_of_lookup e)).2
 have injE:∀x y c,cE.lookup x=some c->cE.lookup y=some c->x=y:=fun x y c a b=>by
  rcases lkE x c a with a|⟨_,a⟩ <;> rcases lkE y c b with b|⟨_,b⟩
  ·exact name_of_addr okA.apart (PySem.mem_of_lookup a) (PySem.mem_of_lookup b)
  ·have h1:g3.objs.size+1<=c:=aboveA x c a
   exact absurd (Nat.lt_of_lt_of_le (cne y c b).2 (Nat.le_of_succ_le h1)) (Nat.lt_irrefl _)
  ·have h1:g3.objs.size+1<=c:=aboveA y c b
   exact absurd (Nat.lt_of_lt_of_le (cne x c a).2 (Nat.le_of_succ_le h1)) (Nat.lt_irrefl _)
  ·exact I3.ok.inj x y c (hcl1 x c a) (hcl1 y c b)
 have ok':X'.Ok:=by
  refine hX'▸⟨I3.ok.mod,S.kind,I3.ok.glob,I3.ok.blt,Zq _,injE,?_,?cab,I3.ok.hd,I3.ok.frames,.inl rfl,?_,?_,?_,?_,?_,I3.stack,I3.stkFree⟩
  ·intro y hy
   exact kindL y (by rw[<-hX'];exact hy)
  ·intro x c z e
   have hm:=JL S.ndn (ZdA z)
   rcases lkE x c e with e|⟨n,_⟩
   ·exact Nat.le_of_succ_le (aboveA x c e)
   ·obtain⟨c',hc'⟩:=hsomeA x hm
    rw[n] at hc'
    cases hc'
  ·intro b hb
   refine⟨Nat.ne_of_lt (fplt b hb),fun x c e=>?_⟩
   rcases lkE x c e with e|⟨_,e⟩
   ·have h1:g3.objs.size+1<=c:=aboveA x c e
    exact fun z=>absurd (Nat.lt_of_lt_of_le (fplt b hb) (Nat.le_of_succ_le h1)) (by rw[z];exact Nat.lt_irrefl _)
   ·exact (f2 b hb).2.2.2.2.1 x c (hcl1 x c e)
  ·exact I3.bs
  ·exact Nat.le_trans I3.ok.bsz I3.sz
  ·intro b o e hb
   rcases (f2 b hb).2.2.2.1 with z|z
   ·exact I3.ok.noex b o e z
   ·exact absurd (Nat.lt_of_lt_of_le (Zp e) (Nat.le_trans I3.ok.bsz z)) (Nat.lt_irrefl _)
  ·intro b hb z
   rcases List.mem_cons.mp (I3.stkSub b z) with e|e
   ·exact (f2 b hb).2.1 e
   ·exact (f2 b hb).2.2.1 e
 have I4:Inv X' [] (Jz own caps σ) (upd H2 s2.heap.objs.size (.lst [])) {s2 with heap:=h₁,toks:=s2.toks}:=by
  refine⟨ok',hX'▸rfl,I3.bare,?_,⟨_,by rw[locX];exact hns₁,?_⟩,?_,?_,?_,?_,?_,?_⟩
  ·rw[<-hX'];exact Un.kept k1
  ·intro i x v hN hσ hV
   have hN':N'[i]?=some x:=by rw[<-hX'] at hN;exact hN
   unfold Jz at hσ
   by_cases hi:i<own.length
   ·rw[List.getElem?_append_left (by simpa using hi),List.getElem?_replicate] at hσ
    rw[if_pos hi] at hσ;cases hσ
   ·rw[List.getElem?_append_right (by simpa using hi),Ze,Zc] at hσ
    rw[S.eqN,List.getElem?_append_right (by omega),Zc] at hN'
    cases hj:caps[i-own.length]? with
    |none=>rw[hj] at hσ;cases hσ
    |some j=>
     rw[hj] at hσ hN'
     have hx:X.N.getD j ""=x:=Option.some.inj hN'
     obtain⟨hjl,hjf⟩:=S.cap j (List.mem_of_getElem? hj)
     rw[hx] at hjf
     have hjN:X.N[j]?=some x:=by
      rw[Zf hjl,<-hx,Zb,Zf hjl];rfl
     have hv:σ[j]?=some (some v):=by
      have q:(σ[j]?).join=some v:=Option.some.inj hσ
      cases q':σ[j]? with
      |none=>rw[q'] at q;cases q
      |some o=>rw[q'] at q;rw[show o=some v from q]
     have hkX:=S.fr (x,.free) (Y1 hjf) rfl
     rw[<-hesc] at hkX
     obtain⟨m,hn,hl⟩:=I3.loc
     have visX:Vis X.env.scope x:=hkX.elim (fun z=>.inr (.inl z)) fun z=>.inr (.inr z)
     obtain⟨u,ru,look⟩:=hl j x v hjN hv visX
     refine⟨u,ru,?_⟩
     obtain⟨c,hcc⟩:=hcl2 (x,.free) (Y1 hjf) rfl
     rcases look with ⟨a,_⟩|⟨_,c',hc',hcell⟩
     ·rcases hkX with z|z
      ·rw[show X.env.kindOf x=X.env.scope.names.lookup x from rfl,z] at a;cases a
      ·rw[show X.env.kindOf x=X.env.scope.names.lookup x from rfl,z] at a;cases a
     ·have:c'=c:=by rw[hcl1 _ _ hcc] at hc';cases hc';rfl
      subst this
      refine .inr ⟨?_,c',by rw[cellsX];exact lkF _ _ hjf hcc,hcell.keeps k1⟩
      rcases hV with q|q|q
      ·have q':(relabel scope X.env).names.lookup x=some .local:=by rw[<-hX'] at q;exact q
       rcases Yw q' with z|z
       ·rw[hjf] at z;cases z
       ·exact absurd z.1 (by decide)
      ·exact .inl q
      ·exact .inr q
  ·intro x c e
   rw[cellsX] at e
   rcases lkE x c e with e|⟨_,e⟩
   ·exact⟨_,(okA.empty x c (PySem.mem_of_lookup e)).1⟩
   ·obtain⟨v,q⟩:=I3.cell x c (hcl1 x c e)
    exact⟨v,q.keeps k1⟩
  ·rw[locX];exact I3.hok.fresh (Zq _)
  ·intro x c e
   rw[cellsX] at e
   rcases lkE x c e with e|⟨_,e⟩
   ·exact I3.hok.fresh (Nat.le_of_succ_le (aboveA x c e))
   ·exact I3.freeC x c (hcl1 x c e)
  ·intro p hp
   have:p∈([]:List (Addr×Obj)):=by rw[<-hX'] at hp;exact hp
   cases this
  ·rw[<-hX'];exact I3.hok.kept k1
  ·rw[<-hX']
   show (Jz own caps σ).length=N'.length
   unfold Jz
   rw[S.eqN,Zd,Zd,Ze,Za,Za]
 have pX:X'.prog=X.prog:=by rw[<-hX'];rfl
 have wX:X'.w=X.w:=by rw[<-hX'];rfl
 have KX:X'.K=X.K:=by rw[<-hX'];rfl
 have AX:X'.A=X.A:=by rw[<-hX'];rfl
 have cX:X'.calm=true:=by rw[<-hX'];exact hc
 have xX:X'.xe=fun _ _=>False:=by rw[<-hX'];rfl
 have envX:X'.env=compEnvC scope cE g3.objs.size X.env:=by rw[<-hX'];rfl
 have exX:X'.ex=fp:=by rw[<-hX'];rfl
 have hg':PG X' tg g:=hX'▸hg _ _ _ _ _
 have ht':PIf X' ifs tc:=hX'▸ht _ _ _ _ _
 have he':PE X' elt te:=hX'▸he _ _ _ _ _
 have fpk:∀{H':Hp},(∀b∈fp,H' b=none)->∀b∈fp,X7 X' [] H' b:=fun {H'} hn b hb=>by
  refine⟨hn b hb,?_,?_,?_,?_,?_⟩
  ·rw[locX];exact Nat.ne_of_lt (fplt b hb)
  ·rw[hfs];intro z
   rcases List.mem_cons.mp (I3.stkSub b z) with e|e
   ·exact (f2 b hb).2.1 e
   ·exact (f2 b hb).2.2.1 e
  ·rw[exX];exact .inl hb
  ·intro x c e
   rw[cellsX] at e
   rcases lkE x c e with e|⟨_,e⟩
   ·have h1:g3.objs.size+1<=c:=aboveA x c e
    exact fun z=>absurd (Nat.lt_of_lt_of_le (fplt b hb) (Nat.le_of_succ_le h1)) (by rw[z];exact Nat.lt_irrefl _)
   ·exact (f2 b hb).2.2.2.2.1 x c (hcl1 x c e)
  ·intro p hp
   have:p∈([]:List (Addr×Obj)):=by rw[<-hX'] at hp;exact hp
   cases this
 have st1:tn 0 h₁:=T.keep _ _ _ st2 fun b hb o e=>k1 b o (old3 b o e)
 have back:∀{σ':St}{H':Hp}{s':Shared}{pp:List (Addr×Obj)}{h':Heap},Inv X' pp σ' H' s'->Heap.SameBut g3.objs.size s'.heap h'->Inv X pins σ H' {s' with heap:=h'}:=fun {σ' H' s' pp h'} I' sb=>by
  have u:=I'.base
  rw[hfs,exX] at u
  have hs0:X'.s₀.heap=g3:=by rw[<-hX'];rfl
  have hH0:X'.H₀=upd H2 s2.heap.objs.size (.lst []):=by rw[<-hX'];rfl
  rw[hs0,hH0] at u
  have ne:∀b o,g3.get? b=some o->b≠g3.objs.size:=fun b o e=>Nat.ne_of_lt (Zp e)
  have hCn:H' g3.objs.size=none:=by have:=I'.free;rw[locX] at this;exact this
  refine I3.call' (s':={s' with heap:=h'}) (ch:=fp) ?_ ⟨?_,?_,?_,?_,?_,?_,?_⟩ ?_ I'.bare ?_
  ·have:=I'.os;rw[<-hX'] at this;exact this
  ·intro b o e n hb hx;exact sb.extBut b o (ne b o e) (u.keep b o e n hb hx)
  ·intro b o e n hb hx
   obtain⟨sl,q⟩:=u.slot b o e n hb hx
   exact⟨sl,sb.extBut b _ (ne b o e) q⟩
  ·exact u.free
  ·intro b o e hx
   obtain⟨o',q⟩:=u.there b o e hx
   exact⟨o',sb.extBut b _ (ne b o e) q⟩
  ·exact u.tups
  ·exact u.frzs
  ·exact u.tbls
  ·have hok:=I'.hok
   rw[pX,wX] at hok
   intro a o e
   refine (hok a o e).stay (fun b v hb r=>sb.extBut b v ?_ r) (fun b r=>r) fun b xs r=>r
   rcases hb with rfl|hb
   ·intro z;rw[z,hCn] at e;cases e
   ·intro z;rw[z,hCn] at hb;cases hb
  ·intro b hb
   refine⟨(f2 b hb).2.2.2.1,(f2 b hb).2.1,(f2 b hb).2.2.2.2.1,(f2 b hb).2.2.2.2.2⟩
 have loop:∀s3:Shared,s3={s2 with heap:=h₁,toks:=s2.toks}->
   codeAny (model X.prog X.w) X.A (.compLoop (.ListComp elt [⟨tg,iter,ifs,0⟩] scope pos) 0 (.ref it) (.ref s2.heap.objs.size) (compEnvC scope cE g3.objs.size X.env)) (RR (.ref s2.heap.objs.size) g3.objs.size) s3:=by
  rintro s3 rfl
  refine WR (fun n s'=>∃i σ' H',Inv X' [] σ' H' s'/\tn i s'.heap/\(∀b∈fp,H' b=none)/\W i n σ' H') ?_ m0 ⟨0,_,_,I4,st1,fpn,w0⟩
  rintro n s5 ⟨i,σ5,H5,I5,st5,fr5,w5⟩
  rcases turn i n σ5 H5 w5 with ⟨stop,qn⟩|⟨go,N,hN,step⟩
  ·have q:=T.done X' pX wX KX cX i [] s5 σ5 H5 (fun _ _=>False) I5 (fpk fr5) st5 stop
   rw[AX] at q
   refine Z7 q fun r s6 ⟨hr,I6⟩=>?_
   subst hr
   obtain⟨m,hn,_⟩:=I6.loc
   rw[locX] at hn
   refine hRR _ _ s6 m H5 hn ?_ ?_ I3.sz ?_ ?_ qn fun h' sb=>back I6 sb
   ·exact Nat.ne_of_gt I3.lt
   ·intro x c e
    obtain⟨v,q⟩:=I3.cell x c e
    exact Nat.ne_of_lt q.lt
   ·intro pp hpp
    exact Nat.ne_of_lt (Zp (I3.pin pp hpp).1)
   ·have:=I6.free;rw[locX] at this;exact this
  ·have q:=T.item X' pX wX KX cX i [] s5 σ5 H5 (fun _ _=>False) I5 (fpk fr5) st5 go
   rw[AX] at q
   refine Z7 q fun r s6 ⟨u,hr,h6⟩=>?_
   subst hr
   refine Z7 h6 fun _ s7 ⟨x,H7,I7,r7,y7,st7,fr7⟩=>?_
   have I7':=I7.pinned (fpk fr7) (T.obj _ _ st7)
   have q8:=hg' _ s7 σ5 H7 x u _ I7' r7 (step x H7 y7)
   rw[pX,wX,AX,envX,xX] at q8
   refine Z7 q8 fun _ s8 ⟨σ8,H8,I8,q8⟩=>?_
   have q9:=ht' _ s8 σ8 H8 _ I8 q8
   rw[pX,wX,AX,envX,xX] at q9
   have again:∀{σ':St}{H':Hp}{s':Shared},Inv X' ([]++Xx fp s7.heap) σ' H' s'->N σ' H'->∃m,m<n/\∃i σ' H',Inv X' [] σ' H' s'/\tn i s'.heap/\(∀b∈fp,H' b=none)/\W i m σ' H':=fun {σ' H' s'} I' n'=>by
    obtain⟨m',hm,w'⟩:=hN σ' H' n'
    refine⟨m',hm,i+1,σ',H',I'.unpinned,T.keep _ _ _ st7 fun b hb o e=>(I'.pin (b,o) (List.mem_append_right _ (List.mem_append_right _ (Wx hb e)))).1,fun b hb=>?_,w'⟩
    obtain⟨o,e,d⟩:=T.obj _ _ st7 b hb
    exact (I'.pin (b,o) (List.mem_append_right _ (List.mem_append_right _ (Wx hb e)))).2.1
   refine Z7 q9 fun ok s9 ⟨H9,I9,q9⟩=>?_
   cases ok with
   |false=>
    simp only[Bool.false_eq_true,if_false] at q9 ⊢
    exact again I9 q9
   |true=>
    simp only[if_true] at q9 ⊢
    have q10:=he' _ s9 σ8 H9 _ I9 q9
    rw[pX,wX,AX,envX,xX] at q10
    refine Z7 q10 fun y s10 ⟨v,H10,I10,rv,xs,hxs,hz,q10⟩=>?_
    have q11:=ZX (X:=X') _ s10 σ8 H10 (.ref s2.heap.objs.size) [v] (.ref s2.heap.objs.size) [y] (fun _ H'=>N σ8 H') I10 rfl (.cons rv .nil) ⟨_,xs,v,rfl,rfl,hxs,hz,q10⟩
    rw[pX,wX,AX,xX] at q11
    exact Z7 q11 fun _ s11 ⟨_,H11,I11,_,q11⟩=>again I11 q11
 exact codeAny_compStart_list (loop _ rfl) (T.self _ 0 _ _ _ st1 (loop _ rfl))
theorem Zf0 {own:List Str}{caps:List Nat}{N':List Str}{esc scope:Scope}{elt iter tg:Expr}{ifs:List Expr}{pos:Pos}{wi:TI}{g:TG}{tc:TT}{te:TE}
  (hesc:X.env.scope=esc) (S:Wo X.N esc own caps N' scope) (hc:X.calm=true) (hi:PI X tg iter wi)
  (hg:∀cl C s H ex,PG (Yk X scope cl N' C s H ex) tg g) (ht:∀cl C s H ex,PIf (Yk X scope cl N' C s H ex) ifs tc) (he:∀cl C s H ex,PE (Yk X scope cl N' C s H ex) elt te)
  (hs:∀x,foldedSetIterable iter X.env x=pure x:=by intro _;rfl) :
  PE X (.ListComp elt [⟨tg,iter,ifs,0⟩] scope pos) (ZbP own caps wi g tc te):=by
 intro pins s σ H Q I h
 obtain⟨cl,hcl,hcl1,hcl2⟩:=XO (scope:=scope) (env:=X.env) fun y hy hf=>by
  have:=S.fr y hy hf
  rw[<-hesc] at this
  exact I.ok.has y.1 this
 rw[eval_ListComp]
 refine wpAny_comprehension_free (use:=none) rfl hs hcl S.kind S.uniq (Z7 (hi pins s σ H _ I h) fun v s1 h1=>Z7 h1 fun itv s2 h2=>?_)
 obtain⟨it,fp,tn,J,H2,e,I2,T,st2,f2,q⟩:=h2
 subst e
 refine XN (RR:=fun acc C=>compPost (model X.prog X.w) X.A X.xe none (EP X pins σ Q) acc C) hesc S hc hcl1 hcl2 hg ht he I2 T st2 f2 q ?_
 intro D C s' m H' hn _ _ _ _ _ q' hb
 exact⟨m,hn,fun h' sb=>⟨.ref D,H',hb h' sb,rfl,q'⟩⟩
theorem Zbf {own:List Str}{caps:List Nat}{N':List Str}{esc scope:Scope}{elt iter tg:Expr}{ifs:List Expr}{pos spos py:Pos}{y:Str}{i:Nat}{wi:TI}{g:TG}{tc:TT}{te:TE}
  (hesc:X.env.scope=esc) (S:Wo X.N esc own caps N' scope) (hc:X.calm=true) (hi:PI X tg iter wi)
  (hg:∀cl C s H ex,PG (Yk X scope cl N' C s H ex) tg g) (ht:∀cl C s H ex,PIf (Yk X scope cl N' C s H ex) ifs tc) (he:∀cl C s H ex,PE (Yk X scope cl N' C s H ex) elt te)
  (hN:X.N.Nodup) (hy:X.N[i]?=some y) (hx:Loc X.env.scope y) (hf:X.fn y=true\/X.env.scope.names.lookup y=some .local)
  (hsw:swapsWith (.ListComp elt [⟨tg,iter,ifs,0⟩] scope pos) (some (.Name y py)) spos.line X.env=pure true)
  (hs:∀x,foldedSetIterable iter X.env x=pure x:=by intro _;rfl) :
  PS X (.Assign [.Name y py] (.ListComp elt [⟨tg,iter,ifs,0⟩] scope pos) spos) (ZcS (ZbP own caps wi g tc te) (Yg i)):=by
 intro pins s σ H D0 I h
 obtain⟨cl,hcl,hcl1,hcl2⟩:=XO (scope:=scope) (env:=X.env) fun y hy hf=>by
  have:=S.fr y hy hf
  rw[<-hesc] at this
  exact I.ok.has y.1 this
 rw[exec_Assign_Name_used _ _ _ _ hsw]
 refine Zl (wpAny_standAt (Zl ?_))
 show wpAny _ X.A (do let _ <-comprehension (.ListComp elt [⟨tg,iter,ifs,0⟩] scope pos) scope X.env _ (newList []) false (eval iter X.env) (some (assign (.Name y py) X.env))) _ _ s
 refine Zl (wpAny_mono (wpAny_comprehension_free (use:=some (assign (.Name y py) X.env)) (Q:=fun _ s'=>SP X pins D0 .next s') rfl hs hcl S.kind S.uniq
  (Z7 (hi pins s σ H _ I h) fun v s1 h1=>Z7 h1 fun itv s2 h2=>?_)) (fun _ s' hq=>Zm (Zm hq)) fun _ _ e=>e)
 obtain⟨it,fp,tn,J,H2,e,I2,T,st2,f2,q⟩:=h2
 subst e
 refine XN (RR:=fun acc C=>compPost (model X.prog X.w) X.A X.xe (some (assign (.Name y py) X.env)) (fun _ s'=>SP X pins D0 .next s') acc C) hesc S hc hcl1 hcl2 hg ht he I2 T st2 f2 q ?_
 intro D C s' m H' hn hCL hCc hC0 hCp hCn q' hb
 have I':Inv X pins σ H' s':=hb s'.heap (.refl ..)
 show wpAny _ X.A (assign (.Name y py) X.env (.ref D)) _ _ s'
 refine wpAny_assign_Name (Vc I' hN hy hx (v:=.ref D) rfl (fun s'' I'' ⟨a,sb,ha⟩=>?_) hf)
 have hCa:C≠a:=by
  rcases ha with rfl|ha
  ·exact hCL
  ·exact fun z=>hCc y a ha z.symm
 refine⟨m,hn.sameBut sb hCa,fun h' sb'=>⟨_,H',?_,q'⟩⟩
 exact I''.turned (t':=s''.toks) (fun b o hb e=>sb'.extBut b o hb e) hCn hCL (.inr hC0) hCc hCp
end
section
variable {κ:Type} [DecidableEq κ]
def Yr (kvs:List (κ×V))(k:κ):Option V:=(kvs.find? fun kv=>decide (kv.1=k)).map (·.2)
def Yt (kvs:List (κ×V))(k:κ)(v:V):List (κ×V):=
 if (kvs.any fun kv=>decide (kv.1=k))=true then kvs.map (fun kv=>if kv.1=k then (kv.1,v) else kv) else kvs++[(k,v)]
theorem Yd {p:κ×V}{r:List (κ×V)}{k:κ}(e:p.1=k):Yr (p::r) k=some p.2:=by simp[Yr,List.find?_cons,e]
theorem Ye {p:κ×V}{r:List (κ×V)}{k:κ}(e:¬p.1=k):Yr (p::r) k=Yr r k:=by simp[Yr,List.find?_cons,e]
theorem YX (k:κ):∀kvs:List (κ×V),(kvs.any fun kv=>decide (kv.1=k))=(Yr kvs k).isSome
 | []=>rfl
 |p::r=>by
  rw[List.any_cons]
  by_cases e:p.1=k
  ·simp only[Yd e,decide_eq_true e,Bool.true_or,Option.isSome_some]
  ·rw[Ye e,decide_eq_false e,Bool.false_or];exact YX k r
theorem UJ (k j:κ)(y:V):∀kvs:List (κ×V),Yr (kvs.map fun kv=>if kv.1=k then (kv.1,y) else kv) j=(Yr kvs j).map fun x=>if j=k then y else x
 | []=>rfl
 |p::r=>by
  have ih:=UJ k j y r
  rw[List.map_cons]
  by_cases h:p.1=k
  ·rw[if_pos h]
   by_cases e:p.1=j
   ·rw[Yd (p:=(p.1,y)) e,Yd e,Option.map_some,if_pos (e.symm.trans h)]
   ·rw[Ye (p:=(p.1,y)) e,Ye e,ih]
  ·rw[if_neg h]
   by_cases e:p.1=j
   ·rw[Yd (p:=p) e,Yd e,Option.map_some,if_neg (fun z=>h (e.trans z))]
   ·rw[Ye (p:=p) e,Ye e,ih]
theorem Va (k j:κ)(y:V):∀kvs:List (κ×V),Yr kvs k=none->Yr (kvs++[(k,y)]) j=if j=k then some y else Yr kvs j
 | [],_=>by
  by_cases e:k=j
  ·rw[if_pos e.symm];exact Yd (p:=(k,y)) e
  ·rw[if_neg (fun z=>e z.symm)];exact Ye (p:=(k,y)) e
 |p::r,hn=>by
  rw[List.cons_append]
  have hk:¬p.1=k:=fun z=>by rw[Yd z] at hn;cases hn
  rw[Ye hk] at hn
  have ih:=Va k j y r hn
  by_cases e:p.1=j
  ·rw[Yd e,Yd e,if_neg (fun z=>hk (e.trans z))]
  ·rw[Ye e,Ye e,ih]
theorem ZdL (kvs:List (κ×V))(k j:κ)(y:V):Yr (Yt kvs k y) j=if j=k then some y else Yr kvs j:=by
 unfold Yt
 by_cases a:(kvs.any fun kv=>decide (kv.1=k))=true
 ·rw[if_pos a,UJ]
  rw[YX] at a
  by_cases e:j=k
  ·obtain⟨x,hx⟩:=Option.isSome_iff_exists.mp a
   rw[if_pos e,e,hx,Option.map_some,if_pos rfl]
  ·rw[if_neg e]
   cases Yr kvs j with
   |none=>rfl
   |some x=>rw[Option.map_some,if_neg e]
 ·rw[if_neg a]
  refine Va k j y kvs ?_
  rw[YX] at a
  cases q:Yr kvs k with
  |none=>rfl
  |some x=>rw[q] at a;exact (a rfl).elim
theorem Y6 (kvs:List (κ×V))(k:κ)(v:V):(Yt kvs k v).length<=kvs.length+1:=by
 unfold Yt
 split
 ·rw[Za];omega
 ·rw[Zd,Zi,List.length_nil];omega
theorem Zen {kvs:List (κ×V)}{k:κ}(v:V)(h:Yr kvs k=none):Yt kvs k v=kvs++[(k,v)]:=by
 unfold Yt
 rw[YX,h]
 exact if_neg (by decide)
theorem X6.isSome_eq {o:Option V}{u:Option Value}(r:X6 o u):o.isSome=u.isSome:=by
 cases o with
 |none=>cases u with
  |none=>rfl
  |some _=>exact (show False from r).elim
 |some _=>cases u with
  |none=>exact (show False from r).elim
  |some _=>rfl
theorem KV.val {kvs:List (κ×V)}{vs:List (κ×Value)}(r:KV kvs vs)(k:κ):X6 (Yr kvs k) (valueAt vs k):=by
 unfold KV at r
 induction r with
 |nil=>exact True.intro
 | @cons p q ps qs h t ih=>
  obtain⟨h1,h2⟩:=h
  by_cases e:p.1=k
  ·have e':q.1=k:=h1.symm.trans e
   have b:valueAt (q::qs) k=some q.2:=by simp[valueAt,List.find?_cons,e']
   rw[Yd e,b];exact h2
  ·have e':¬q.1=k:=fun z=>e (h1.trans z)
   have b:valueAt (q::qs) k=valueAt qs k:=by simp[valueAt,List.find?_cons,e']
   rw[Ye e,b];exact ih
theorem KV.any {kvs:List (κ×V)}{vs:List (κ×Value)}(r:KV kvs vs)(k:κ):(kvs.any fun kv=>decide (kv.1=k))=vs.any fun kv=>decide (kv.1=k):=by
 unfold KV at r
 induction r with
 |nil=>rfl
 |cons h t ih=>rw[List.any_cons,List.any_cons,ih,h.1]
theorem KV.repl {kvs:List (κ×V)}{vs:List (κ×Value)}(r:KV kvs vs)(k:κ){y:V}{u:Value}(ry:RelV y u) :
  KV (kvs.map fun kv=>if kv.1=k then (kv.1,y) else kv) (vs.map fun kv=>if kv.1=k then (kv.1,u) else kv):=by
 unfold KV at r ⊢
 induction r with
 |nil=>exact .nil
 | @cons p q ps qs h t ih=>
  rw[List.map_cons,List.map_cons]
  refine .cons ?_ ih
  obtain⟨h1,h2⟩:=h
  by_cases e:p.1=k
  ·rw[if_pos e,if_pos (h1.symm.trans e)];exact⟨h1,ry⟩
  ·rw[if_neg e,if_neg (fun z=>e (h1.trans z))];exact⟨h1,h2⟩
theorem KV.put {kvs:List (κ×V)}{vs:List (κ×Value)}(r:KV kvs vs)(k:κ){y:V}{u:Value}(ry:RelV y u):KV (Yt kvs k y) (stored vs k u):=by
 unfold Yt stored
 rw[r.any k]
 by_cases e:(vs.any fun kv=>decide (kv.1=k))=true
 ·rw[if_pos e,if_pos e];exact r.repl k ry
 ·rw[if_neg e,if_neg e];exact Paired.snoc r ⟨rfl,ry⟩
theorem KV.keys {kvs:List (κ×V)}{vs:List (κ×Value)}(r:KV kvs vs):kvs.map (·.1)=vs.map (·.1):=by
 unfold KV at r
 induction r with
 |nil=>rfl
 |cons h t ih=>rw[List.map_cons,List.map_cons,ih,h.1]
theorem KV.length {kvs:List (κ×V)}{vs:List (κ×Value)}(r:KV kvs vs):kvs.length=vs.length:=Paired.length r
end
theorem Vr {P:Program}{w:World}{k:ZT}{u:Value}(r:RelV (kV k) u):(ZS P w).is k u=true:=by
 cases k with
 |inl i=>obtain⟨t,e⟩:=(show ∃t,u=Value.int i t from r);subst e;exact Zan P w i t
 |inr x=>obtain⟨t,e⟩:=(show ∃t,u=Value.str x t from r);subst e;exact Zam P w x t
theorem Vs {P:Program}{w:World}:∀{ks:List ZT}{us:List Value},ZB (ks.map kV) us->ItemsAre (ZS P w) ks us
 | [],_,r=>by rw[List.map_nil] at r;cases r;exact .nil
 |k::ks,_,r=>by
  rw[List.map_cons] at r
  cases r with
  |cons h t=>exact .cons (Vr h) (Vs t)
abbrev KT (H:Hp):List (List ZT×V)->List (List ZT×Addr×Value)->Prop:=Paired fun p q=>p.1=q.1/\H q.2.1=some (.tup (p.1.map kV))/\RelV p.2 q.2.2
theorem KT.val {H:Hp}{kvs:List (List ZT×V)}{xs:List (List ZT×Addr×Value)}(r:KT H kvs xs)(k:List ZT):X6 (Yr kvs k) ((atKey xs k).map (·.2)):=by
 induction r with
 |nil=>exact True.intro
 | @cons p q ps qs h t ih=>
  obtain⟨h1,_,h2⟩:=h
  by_cases e:p.1=k
  ·have e':q.1=k:=h1.symm.trans e
   have b:atKey (q::qs) k=some q.2:=by simp[atKey,List.find?_cons,e']
   rw[Yd e,b];exact h2
  ·have e':¬q.1=k:=fun z=>e (h1.trans z)
   have b:atKey (q::qs) k=atKey qs k:=by simp[atKey,List.find?_cons,e']
   rw[Ye e,b];exact ih
theorem KT.repl {H:Hp}{kvs:List (List ZT×V)}{xs:List (List ZT×Addr×Value)}(r:KT H kvs xs)(k:List ZT){y:V}{u:Value}(ry:RelV y u) :
  KT H (kvs.map fun kv=>if kv.1=k then (kv.1,y) else kv) (xs.map (putAt k u)):=by
 induction r with
 |nil=>exact .nil
 | @cons p q ps qs h t ih=>
  rw[List.map_cons,List.map_cons]
  refine .cons ?_ ih
  obtain⟨h1,h2,h3⟩:=h
  unfold putAt
  by_cases e:p.1=k
  ·rw[if_pos e,if_pos (h1.symm.trans e)];exact⟨h1,h2,ry⟩
  ·rw[if_neg e,if_neg (fun z=>e (h1.trans z))];exact⟨h1,h2,h3⟩
theorem KT.put {H:Hp}{kvs:List (List ZT×V)}{xs:List (List ZT×Addr×Value)}(r:KT H kvs xs)(k:List ZT){b:Addr}{y:V}{u:Value}(hb:H b=some (.tup (k.map kV)))(ry:RelV y u) :
  KT H (Yt kvs k y) (storedH xs k b u):=by
 have e:(kvs.any fun kv=>decide (kv.1=k))=(atKey xs k).isSome:=by
  rw[YX,(r.val k).isSome_eq,Option.isSome_map]
 unfold Yt storedH
 rw[e]
 by_cases q:(atKey xs k).isSome=true
 ·rw[if_pos q,if_pos q];exact r.repl k ry
 ·rw[if_neg q,if_neg q];exact Paired.snoc r ⟨rfl,hb,ry⟩
theorem KT.keeps {H H':Hp}{kvs:List (List ZT×V)}{xs:List (List ZT×Addr×Value)}(r:KT H kvs xs)(ht:∀b ys,H b=some (.tup ys)->H' b=some (.tup ys)):KT H' kvs xs:=
 Paired.mapP r fun _ _ z=>⟨z.1,ht _ _ z.2.1,z.2.2⟩
section
variable {P:Program}{w:World}{H:Hp}{h:Heap}{a:Addr}
theorem ZgY {u:HO}(ok:JC P w H h)(e:Rd H a u):Z3 P w H h a u:=e.ok ok
theorem ZaE {kvs:List (ZT×V)}(ok:JC P w H h)(e:Rd H a (.dK kvs)):kvs.length<=sizeLine/\(a == sysModules)=false/\∃vs,KV kvs vs/\h.DictOf (ZS P w) a vs:=
 show Z3 P w H h a (.dK kvs) from ZgY ok e
theorem ZaF {kvs:List (ZT×V)}(ok:JC P w H h)(e:H a=some (.dK kvs)):kvs.length<=sizeLine/\(a == sysModules)=false/\∃vs,KV kvs vs/\h.DictOf (ZS P w) a vs:=ZaE ok (.inl e)
theorem Uj {ks:List ZT}(ok:JC P w H h)(e:H a=some (.tup (ks.map kV))):(tupleKind (ZS P w)).is h ks a:=by
 obtain⟨_,its,r,o,h1,h2,n,h3⟩:=(show Z3 P w H h a (.tup (ks.map kV)) from ok a _ e)
 exact⟨o,its.toArray,n,h1,h2,h3,by simpa using Vs r⟩
theorem ZaD {kvs:List (List ZT×V)}(ok:JC P w H h)(e:Rd H a (.dT kvs)):kvs.length<=sizeLine/\(a == sysModules)=false/\
  ∃xs,KT H kvs xs/\h.DictOfH (tupleKind (ZS P w)) a xs:=by
 obtain⟨z,y,xs,r,o,es,ep,h1,h2,h3,h4,h5⟩:=(show Z3 P w H h a (.dT kvs) from ZgY ok e)
 refine⟨z,y,xs,r,o,es,ep,h1,h2,h3,h4,fun x hx=>?_,h5⟩
 have all:∀{l:List (List ZT×V)}{m:List (List ZT×Addr×Value)},KT H l m->∀x∈m,(tupleKind (ZS P w)).is h x.1 x.2.1:=by
  intro l m q
  induction q with
  |nil=>intro x hx;exact nomatch hx
  | @cons p q ps qs hq t ih=>
   intro x hx
   rcases List.mem_cons.mp hx with e|hx
   ·subst e
    exact Uj ok (by rw[<-hq.1];exact hq.2.1)
   ·exact ih x hx
 exact all r x hx
theorem ZjN {kvs:List (List ZT×V)}(ok:JC P w H h)(e:H a=some (.dT kvs)):kvs.length<=sizeLine/\(a == sysModules)=false/\
  ∃xs,KT H kvs xs/\h.DictOfH (tupleKind (ZS P w)) a xs:=ZaD ok (.inl e)
end
def Wn (H:Hp)(a:Addr)(y:V)(r:Option V):Prop:=
 (∃kvs k,Rd H a (.dK kvs)/\y=kV k/\r=Yr kvs k)\/∃kvs k b,Rd H a (.dT kvs)/\y=.ref b/\H b=some (.tup (k.map kV))/\r=Yr kvs k
def Ji (H:Hp)(a:Addr)(y v:V)(H':Hp):Prop:=
 (∃kvs k,H a=some (.dK kvs)/\y=kV k/\kvs.length<sizeLine/\H'=upd H a (.dK (Yt kvs k v)))\/
 ∃kvs k b,H a=some (.dT kvs)/\y=.ref b/\H b=some (.tup (k.map kV))/\kvs.length<sizeLine/\H'=upd H a (.dT (Yt kvs k v))
theorem Wn.k {H:Hp}{a:Addr}{kvs:List (ZT×V)}{k:ZT}(e:H a=some (.dK kvs)):Wn H a (kV k) (Yr kvs k):=.inl ⟨kvs,k,.inl e,rfl,rfl⟩
theorem Wn.t {H:Hp}{a b:Addr}{kvs:List (List ZT×V)}{k:List ZT}(e:H a=some (.dT kvs))(eb:H b=some (.tup (k.map kV))):Wn H a (.ref b) (Yr kvs k):=.inr ⟨kvs,k,b,.inl e,rfl,eb,rfl⟩
theorem Ji.k {H:Hp}{a:Addr}{kvs:List (ZT×V)}{k:ZT}{v:V}(e:H a=some (.dK kvs))(hl:kvs.length<sizeLine):Ji H a (kV k) v (upd H a (.dK (Yt kvs k v))):=.inl ⟨kvs,k,e,rfl,hl,rfl⟩
theorem Ji.t {H:Hp}{a b:Addr}{kvs:List (List ZT×V)}{k:List ZT}{v:V}(e:H a=some (.dT kvs))(eb:H b=some (.tup (k.map kV)))(hl:kvs.length<sizeLine) :
  Ji H a (.ref b) v (upd H a (.dT (Yt kvs k v))):=.inr ⟨kvs,k,b,e,rfl,eb,hl,rfl⟩
section
variable {X:Cx}{pins:List (Addr×Obj)}{σ:St}{H:Hp}{s:Shared}{a:Addr}{y v:V}{u r:Value}{o:Option V}{A:Around}{E:Value->Shared->Prop}
theorem Inv.big (I:Inv X pins σ H s):sysModules<s.heap.objs.size:=by
 have h:mainGlobals<s.heap.objs.size:=(I.mod.glob.keeps I.bk).lt
 exact Nat.lt_trans (by decide) h
theorem Zdu {Q:Value->Shared->Prop}(hu:A.units+1<cLine)(I:Inv X pins σ H s)(g:Wn H a y (some v))(ry:RelV y u)(h:∀w' s',Inv X pins σ H s'->RelV v w'->Q w' s') :
  wpAny (model X.prog X.w) A (getItem (.ref a) u) Q E s:=by
 rcases g with ⟨kvs,k,e,ey,l⟩|⟨kvs,k,b,e,ey,eb,l⟩
 ·subst ey
  obtain⟨z,hd,vs,rel,dd⟩:=ZaE I.hok e
  obtain⟨w',hw,rw'⟩:=X6.some_of (v:=v) (o:=valueAt vs k) (by rw[l];exact rel.val k)
  exact wpAny_getItem_of (Vr ry) dd.mapOf hw (h w' _ (I.tok _) rw')
 ·subst ey
  cases (show u=Value.ref b from ry)
  obtain⟨z,hd,xs,rel,dd⟩:=ZaD I.hok e
  obtain⟨w',hw,rw'⟩:=X6.some_of (v:=v) (o:=(atKey xs k).map (·.2)) (by rw[l];exact rel.val k)
  obtain⟨p,hp,hp2⟩:=Option.map_eq_some_iff.mp hw
  refine wpAny_getItem_heap (tupleKind_room_in1 hu) (Uj I.hok eb) dd hp ?_
  rw[hp2]
  exact h w' _ (I.tok _) rw'
theorem Zgy {Q:Value->Shared->Prop}(hu:A.units+1<cLine)(I:Inv X pins σ H s)(g:Wn H a y o)(ry:RelV y u)(h:∀s',Inv X pins σ H s'->Q (.bool (!o.isSome)) s') :
  wpAny (model X.prog X.w) A (compareOp .NotIn u (.ref a)) Q E s:=by
 rcases g with ⟨kvs,k,e,ey,l⟩|⟨kvs,k,b,e,ey,eb,l⟩
 ·subst ey
  obtain⟨z,hd,vs,rel,dd⟩:=ZaE I.hok e
  refine wpAny_notIn_of (Vr ry) hd dd.mapOf ?_
  rw[<-(rel.val k).isSome_eq,<-l]
  exact h _ (I.tok _)
 ·subst ey
  cases (show u=Value.ref b from ry)
  obtain⟨z,hd,xs,rel,dd⟩:=ZaD I.hok e
  refine wpAny_notIn_heap (tupleKind_room_in1 hu) (Uj I.hok eb) hd dd ?_
  have q:=(rel.val k).isSome_eq
  rw[Option.isSome_map] at q
  rw[<-q,<-l]
  exact h _ (I.tok _)
theorem Xh {h':Heap}{t':Nat}{ob:HO}(I:Inv X pins σ H s)(mu:Mut (H a))(hs:Heap.SameBut a s.heap h')(he:∃q,h'.get? a=some q)(new:Z3 X.prog X.w (upd H a ob) h' a ob) :
  Inv X pins σ (upd H a ob) {s with heap:=h',toks:=t'}:=
 I.write (x:=a) (e:=a) mu (.inl rfl) (fun b q hb z=>(hs.2 b hb).trans z) he new
theorem Us {P:Program}{w:World}{H':Hp}{h':Heap}{kvs:List (ZT×V)}{vs:List (ZT×Value)}(z:kvs.length<=sizeLine)(hd:(a == sysModules)=false)(rel:KV kvs vs)(dd:h'.DictOf (ZS P w) a vs) :
  Z3 P w H' h' a (.dK kvs):=⟨z,hd,vs,rel,dd⟩
theorem Zdt {H':Hp}{Q:Unit->Shared->Prop}(hu:A.units+1<cLine)(I:Inv X pins σ H s)(g:Ji H a y v H')(ry:RelV y u)(rv:RelV v r)(h:∀s',Inv X pins σ H' s'->Q () s') :
  wpAny (model X.prog X.w) A (setItem (.ref a) u r) Q E s:=by
 rcases g with ⟨kvs,k,e,ey,l,eH⟩|⟨kvs,k,b,e,ey,eb,l,eH⟩
 ·subst ey eH
  obtain⟨z,hd,vs,rel,dd⟩:=ZaF I.hok e
  have hz:vs.length<=sizeLine:=by rw[<-rel.length];exact z
  have hl:(Yt kvs k v).length<=sizeLine:=by have:=Y6 kvs k v;omega
  refine wpAny_setItem_pairs (hsz:=hz) (Vr ry) dd fun h' dd' hs=>h _ ?_
  have he:∃q,h'.get? a=some q:=let ⟨q,_,_,hq,_⟩:=dd';⟨q,hq⟩
  exact Xh I (by rw[e];exact True.intro) hs he (Us hl hd (rel.put k rv) dd')
 ·subst ey eH
  cases (show u=Value.ref b from ry)
  obtain⟨z,hd,xs,rel,dd⟩:=ZjN I.hok e
  have hz:xs.length<=sizeLine:=by rw[<-Paired.length rel];exact z
  have hl:(Yt kvs k v).length<=sizeLine:=by have:=Y6 kvs k v;omega
  refine wpAny_setItem_heap (hsz:=hz) (tupleKind_room_in1 hu) (Uj I.hok eb) dd fun h' dd' hs=>h _ ?_
  obtain⟨q,es,ep,hq,h2,h3,h4,_,h5⟩:=dd'
  refine Xh I (by rw[e];exact True.intro) hs ⟨q,hq⟩ ⟨hl,hd,_,(rel.put k eb rv).keeps fun c ys ec=>?_,q,es,ep,hq,h2,h3,h4,h5⟩
  rw[Zw (Zjy ec e (fun z=>nomatch z))]
  exact ec
end
section
variable {X:Cx}{pins:List (Addr×Obj)}{σ:St}{H:Hp}{s:Shared}{a:Addr}{kvs:List (ZT×V)}{k:ZT}{u:Value}{A:Around}{E:Value->Shared->Prop}
end
def ZjT (i:Expr):Prop:=∀ov iv,subscripted i false ov iv=operate [ov,iv] (getItem ov iv)
theorem ZfH {prog:Program}{w:World}{A:Around}{E:Value->Shared->Prop}{s:Shared}{env:Env}{value slice:Expr}{pos:Pos}{T id:String}{Q:Value->Shared->Prop}
  (hl:typeLookup (.type T) "__getitem__"=pure (some (.builtin id))) (hs:ZjT slice)
  (h:wpAny (model prog w) A (eval value env) (fun o s₁=>wpAny (model prog w) A (eval slice env) (fun i s₂=>s₂.TypeIs o T/\wpAny (model prog w) A (getItem o i) Q E s₂) E s₁) E s) :
  wpAny (model prog w) A (eval (.Subscript value slice pos) env) Q E s:=by
 refine Subscript_ (wpAny_mono h (fun o s₁ h₁=>wpAny_mono h₁ (fun i s₂ h₂=>?_) fun _ _ x=>x) fun _ _ x=>x)
 obtain⟨hT,h₂⟩:=h₂
 unfold subscriptTail
 refine Zl ?_
 rw[getitemInPython_of_ne hT.not_modules]
 refine Zl (wpAny_specialOf hT hl ?_)
 have fin:wpAny (model prog w) A (subscripted slice false o i) (fun r s₃=>wpAny (model prog w) A (letTemporaryGo value o r >>= fun _=>pure r) Q E s₃) E s₂:=by
  rw[hs o i]
  exact wpAny_operating (wpAny_mono h₂ (fun r s₃ h₃=>Zl (wpAny_letTemporaryGo (Zm h₃))) fun _ _ x=>x)
 first
  |exact Zm (Zl fin)
  |exact Zl (Zm (Zl fin))
  |exact Zl fin
theorem ZaH {X:Cx}{pins:List (Addr×Obj)}{σ:St}{H:Hp}{s:Shared}{a:Addr}{y:V}{o:Option V}(I:Inv X pins σ H s)(g:Wn H a y o):s.TypeIs (.ref a) "dict":=by
 rcases g with ⟨kvs,k,e,_,_⟩|⟨kvs,k,b,e,_,_,_⟩
 ·obtain⟨_,_,vs,_,dd⟩:=ZaE I.hok e
  exact dd.typeIs
 ·obtain⟨_,_,xs,_,dd⟩:=ZaD I.hok e
  exact dd.typeIs
def Zi7 (td ty:TE):TE:=fun σ H Q=>td σ H fun x H1=>ty σ H1 fun y H2=>∃a v,x=.ref a/\Wn H2 a y (some v)/\Q v H2
def ZfG (ty td:TE):TE:=fun σ H Q=>ty σ H fun y H1=>td σ H1 fun x H2=>∃a o,x=.ref a/\Wn H2 a y o/\Q (.bl (!o.isSome)) H2
def Zje (td ty tv:TE):TS:=fun D σ H=>tv σ H fun v H1=>td σ H1 fun x H2=>ty σ H2 fun y H3=>∃a H4,x=.ref a/\Ji H3 a y v H4/\D.nx σ H4
section
variable {X:Cx}{o i e value:Expr}{pos pos' tpos:Pos}{td ty tv:TE}
theorem Ww (hu:X.A.units+1<cLine)(ho:PE X o td)(hi:PE X i ty)(hs:ZjT i):PE X (.Subscript o i pos) (Zi7 td ty):=by
 intro pins s σ H Q I h
 refine ZfH PySem.F.slot_dict_getitem.lookup hs (Z7 (ho pins s σ H _ I h) fun u s1 ⟨x,H1,I1,rx,q1⟩=>Z7 (hi pins s1 σ H1 _ I1 q1) fun iv s2 ⟨y,H2,I2,ry,a,v,ex,g,q2⟩=>?_)
 subst ex
 obtain rfl:u=Value.ref a:=rx
 exact⟨ZaH I2 g,Zdu hu I2 g ry fun w' s3 I3 rw'=>⟨v,H2,I3,rw',q2⟩⟩
theorem JK (hu:X.A.units+1<cLine)(hi:PE X i ty)(ho:PE X o td):PC X .NotIn i o (ZfG ty td):=by
 intro pins s σ H Q I h
 refine Z7 (hi pins s σ H _ I h) fun iv s1 ⟨y,H1,I1,ry,q1⟩=>Z7 (ho pins s1 σ H1 _ I1 q1) fun u s2 ⟨x,H2,I2,rx,a,ov,ex,g,q2⟩=>?_
 subst ex
 obtain rfl:u=Value.ref a:=rx
 exact Zgy hu I2 g ry fun s3 I3=>⟨.bl (!ov.isSome),H2,I3,rfl,q2⟩
theorem Wu (hu:X.A.units+1<cLine)(ho:PE X o td)(hi:PE X i ty)(hv:PE X value tv)(hs:swapsWith value (some (.Subscript o i pos')) pos.line X.env=pure false) :
  PS X (.Assign [.Subscript o i pos'] value pos) (Zje td ty tv):=by
 intro pins s σ H D I h
 refine wpAny_Assign_Subscript (Z7 (hv pins s σ H _ I h) fun r s1 ⟨v,H1,I1,rv,q1⟩=>Z7 (ho pins s1 σ H1 _ I1 q1) fun u s2 ⟨x,H2,I2,rx,q2⟩=>Z7 (hi pins s2 σ H2 _ I2 q2) fun iv s3 ⟨y,H3,I3,ry,a,H4,ex,g,q3⟩=>?_) hs
 subst ex
 obtain rfl:u=Value.ref a:=rx
 exact Zdt hu I3 g ry rv fun s4 I4=>⟨σ,H4,I4,q3⟩
end
theorem ZaG {P:Program}{w:World}{H:Hp}(h:Heap)(hb:sysModules<h.objs.size):Z3 P w H (h.push {cls:=.type "dict",data:=.dict #[]}) h.objs.size (.dK []):=
 ⟨Nat.zero_le _,beq_eq_false_iff_ne.mpr (Ne.symm (Nat.ne_of_lt hb)),[],.nil,Heap.DictOf.new h⟩
theorem Zfg {P:Program}{w:World}{H:Hp}(h:Heap)(hb:sysModules<h.objs.size):Z3 P w H (h.push {cls:=.type "dict",data:=.dict #[]}) h.objs.size (.dT []):=
 ⟨Nat.zero_le _,beq_eq_false_iff_ne.mpr (Ne.symm (Nat.ne_of_lt hb)),[],.nil,_,#[],0,Zo _ rfl,⟨rfl,rfl,rfl⟩,rfl,rfl,List.nodup_nil⟩
def Zhu:TE:=fun _ H Q=>∀p,H p=none->Q (.ref p) (upd H p (.dK []))
def Zht:TE:=fun _ H Q=>∀p,H p=none->Q (.ref p) (upd H p (.dT []))
section
variable {X:Cx}{pos:Pos}
theorem Js:PE X (.Dict [] [] pos) Zhu:=fun pins s σ H Q I h=>
 wpAny_Dict_empty ⟨.ref s.heap.objs.size,_,I.laid (a:=s.heap.objs.size) (o:=.dK []) (t':=s.toks) (fun _ _ q=>Zn _ q) (Zq _) (ZaG s.heap I.big),rfl,h _ (I.hok.fresh (Zq _))⟩
theorem Zeo:PE X (.Dict [] [] pos) Zht:=fun pins s σ H Q I h=>
 wpAny_Dict_empty ⟨.ref s.heap.objs.size,_,I.laid (a:=s.heap.objs.size) (o:=.dT []) (t':=s.toks) (fun _ _ q=>Zn _ q) (Zq _) (Zfg s.heap I.big),rfl,h _ (I.hok.fresh (Zq _))⟩
end
def Za2:List (TE×TE)->St->Hp->(List (V×V)->Hp->Prop)->Prop
 | [],_,H,Q=>Q [] H
 |(tk,tv)::r,σ,H,Q=>tk σ H fun x H1=>tv σ H1 fun y H2=>Za2 r σ H2 fun ps H3=>Q ((x,y)::ps) H3
abbrev VV:List (V×V)->List (Value×Value)->Prop:=Paired fun p q=>RelV p.1 q.1/\RelV p.2 q.2
def PPs (X:Cx)(pos:Pos)(keys:List (Option Expr))(values:List Expr)(trs:List (TE×TE)):Prop:=
 ∀(pins:List (Addr×Obj)) (s:Shared) (σ:St) (H:Hp) (Q:List (V×V)->Hp->Prop),Inv X pins σ H s->Za2 trs σ H Q->
  wpAny (model X.prog X.w) X.A (evalPairs (pairTrees keys values X.env pos)) (fun vs s'=>∃ps H',Inv X pins σ H' s'/\VV ps vs/\Q ps H') X.xe s
theorem Zce {X:Cx}{pos:Pos}:PPs X pos [] [] []:=fun pins s σ H Q I h=>pairTrees_nil_walk ⟨[],H,I,.nil,h⟩
theorem Jr {X:Cx}{pos:Pos}{k v:Expr}{ks:List (Option Expr)}{vs:List Expr}{tk tv:TE}{trs:List (TE×TE)}(hk:PE X k tk)(hv:PE X v tv)(hr:PPs X pos ks vs trs) :
  PPs X pos (some k::ks) (v::vs) ((tk,tv)::trs):=fun pins s σ H Q I h=>
 pairTrees_cons_walk (Z7 (hk pins s σ H _ I h) fun u s1 ⟨x,H1,I1,rx,q1⟩=>Z7 (hv pins s1 σ H1 _ I1 q1) fun w2 s2 ⟨y,H2,I2,ry,q2⟩=>
  Z7 (hr pins s2 σ H2 _ I2 q2) fun ws s3 ⟨ps,H3,I3,rel,q3⟩=>⟨(x,y)::ps,H3,I3,.cons ⟨rx,ry⟩ rel,q3⟩)
def ZU (kvs more:List (ZT×V)):List (ZT×V):=more.foldl (fun acc kv=>Yt acc kv.1 kv.2) kvs
theorem KV.merge:∀{more:List (ZT×V)}{rs:List (ZT×Value)}{kvs:List (ZT×V)}{vs:List (ZT×Value)},KV more rs->KV kvs vs->KV (ZU kvs more) (merged vs rs):=by
 intro more rs kvs vs r
 unfold KV at r
 induction r generalizing kvs vs with
 |nil=>intro q;exact q
 | @cons p q ps qs h t ih=>
  intro r0
  have e:KV (Yt kvs p.1 p.2) (stored vs q.1 q.2):=by
   have:=r0.put p.1 h.2
   rw[<-h.1];exact this
  exact ih e
theorem Yn:∀(more kvs:List (ZT×V)),(ZU kvs more).length<=kvs.length+more.length
 | [],kvs=>by show kvs.length<=kvs.length+0;omega
 |p::r,kvs=>by
  have h1:=Yn r (Yt kvs p.1 p.2)
  have h2:=Y6 kvs p.1 p.2
  show (ZU (Yt kvs p.1 p.2) r).length<=_
  rw[Zi];omega
theorem XQ {P:Program}{w:World}:∀{kvs:List (ZT×V)}{ws:List (Value×Value)},VV (kvs.map fun kv=>(kV kv.1,kv.2)) ws->∃rs,Carries (ZS P w) ws rs/\KV kvs rs
 | [],_,r=>by rw[List.map_nil] at r;cases r;exact⟨[],True.intro,.nil⟩
 |p::kvs,_,r=>by
  rw[List.map_cons] at r
  cases r with
  | @cons a b as bs h t=>
   obtain⟨rs,c,q⟩:=XQ (P:=P) (w:=w) t
   obtain⟨b1,b2⟩:=b
   exact⟨(p.1,b2)::rs,⟨Vr h.1,rfl,c⟩,.cons ⟨rfl,h.2⟩ q⟩
def Zi5 (trs:List (TE×TE)):TE:=fun σ H Q=>∀p,H p=none->Za2 trs σ (upd H p (.dK [])) fun ps H2=>H2 p=some (.dK [])/\∃kvs:List (ZT×V),ps=kvs.map (fun kv=>(kV kv.1,kv.2))/\kvs.length<=15/\Q (.ref p) (upd H2 p (.dK (ZU [] kvs)))
theorem Zcg {X:Cx}{pos:Pos}{keys:List (Option Expr)}{values:List Expr}{trs:List (TE×TE)}(h:PPs X pos keys values trs)(hall:keys.all (·.isSome)=true)(hl:keys.length=values.length)(h0:keys≠[])
  (h15:keys.length<=15):PE X (.Dict keys values pos) (Zi5 trs):=by
 intro pins s σ H Q I q
 have hn:=I.hok.fresh (Zq s.heap.objs.size)
 have I1:=I.laid (a:=s.heap.objs.size) (o:=.dK []) (h':=s.heap.push {cls:=.type "dict",data:=.dict #[]}) (t':=s.toks) (fun _ _ q=>Zn _ q) (Zq _) (ZaG s.heap I.big)
 refine wpAny_Dict_walk (knd:=ZS X.prog X.w) hall hl h0 h15 (Z7 (h pins _ σ _ _ I1 (q _ hn)) fun ws s2 ⟨ps,H2,I2,rel,e,kvs,ep,lk,q2⟩=>?_)
 subst ep
 obtain⟨rs,c,rk⟩:=XQ (P:=X.prog) (w:=X.w) rel
 obtain⟨z,hd,vs0,r0,dd⟩:=ZaF I2.hok e
 cases r0
 refine⟨rs,c,dd,fun h' dd' hs=>⟨.ref s.heap.objs.size,_,?_,rfl,q2⟩⟩
 have hz:(ZU [] kvs).length<=sizeLine:=by
  have h1:=Yn kvs []
  rw[List.length_nil] at h1
  rw[sizeLine_eq];omega
 have he:∃q,h'.get? s.heap.objs.size=some q:=let ⟨q,_,_,hq,_⟩:=dd';⟨q,hq⟩
 exact Xh I2 (by rw[e];exact True.intro) hs he (Us hz hd (rk.merge .nil) dd')
structure M1 (X:Cx)(o:Expr)(m:Str)(apos:Pos)(e:Expr)(cpos:Pos):Prop where
 base:attributeBase o m X.env (eval o X.env)=eval o X.env
 few:((backTo cpos (starEach [e] X.env)).all (fun x=>!x.1) && (backToKw cpos (keywordEach [] X.env)).all (fun x=>x.1.isSome)
  && decide (([e]:List Expr).length+([]:List Keyword).length+(if ([]:List Keyword).isEmpty then 0 else 1)<30))=true
 line:(apos.endLine == cpos.line)=true
 trees:backTo cpos (starEach [e] X.env)=[(false,eval e X.env)]
def IsD (H:Hp)(a:Addr):Prop:=(∃kvs,Rd H a (.dK kvs))\/∃kvs,Rd H a (.dT kvs)
theorem Zid {X:Cx}{pins:List (Addr×Obj)}{σ:St}{H:Hp}{s:Shared}{a:Addr}(I:Inv X pins σ H s)(d:IsD H a) :
  s.TypeIs (.ref a) "dict"/\(∀b,Value.ref a=.ref b->∃ob,s.heap.get? b=some ob/\ob.dict=none)/\(a == sysModules)=false:=by
 rcases d with ⟨kvs,e⟩|⟨kvs,e⟩
 ·obtain⟨_,hd,vs,_,dd⟩:=ZaE I.hok e
  refine⟨dd.typeIs,fun b q=>?_,hd⟩
  cases q
  obtain⟨ob,_,_,h1,h2,_⟩:=dd
  exact⟨ob,h1,h2.2.1⟩
 ·obtain⟨_,hd,xs,_,dd⟩:=ZaD I.hok e
  refine⟨dd.typeIs,fun b q=>?_,hd⟩
  cases q
  obtain⟨ob,_,_,h1,h2,_⟩:=dd
  exact⟨ob,h1,h2.2.1⟩
section
variable {X:Cx}{pins:List (Addr×Obj)}{σ:St}{H:Hp}{s:Shared}{a:Addr}{y d:V}{u r:Value}{o:Option V}{A:Around}{E:Value->Shared->Prop}
end
section
variable {X:Cx}{o e f:Expr}{apos cpos:Pos}{td ty tx:TE}
end
section
variable {X:Cx}{pins:List (Addr×Obj)}{σ:St}{H:Hp}{s:Shared}{a:Addr}{kvs:List (ZT×V)}{A:Around}{E:Value->Shared->Prop}
end
section
variable {X:Cx}{pins:List (Addr×Obj)}{σ:St}{H:Hp}{s:Shared}{a:Addr}{y:V}{u:Value}{A:Around}{E:Value->Shared->Prop}
end
mutual
inductive Xj (K:PySem.W.Frag) (H:Hp):V->PyData->Prop where
 |non:Xj K H .non .none
 |bl (b:Bool):Xj K H (.bl b) (.bool b)
 |int (i:Int):Xj K H (.int i) (.int i)
 |str (x:Str):Xj K H (.str x) (.str x)
 |lst {a:Addr}{xs:List V}{ds:List PyData} (h:Wb K H a xs) (r:YF K H xs ds):Xj K H (.ref a) (.list ds)
 |tup {a:Addr}{xs:List V}{ds:List PyData} (h:Wp K H a xs) (r:YF K H xs ds):Xj K H (.ref a) (.tuple ds)
inductive YF (K:PySem.W.Frag) (H:Hp):List V->List PyData->Prop where
 |nil:YF K H [] []
 |cons {x:V}{xs:List V}{d:PyData}{ds:List PyData} (h:Xj K H x d) (r:YF K H xs ds):YF K H (x::xs) (d::ds)
end
section
variable {K:PySem.W.Frag}{H H':Hp}
theorem Same.tup {a:Addr}{xs:List V}(e:Same H H')(h:Wp K H a xs):Wp K H' a xs:=by
 rcases h with (h|⟨o,h⟩)|h
 ·exact .inl (.inl (e _ _ h))
 ·exact .inl (.inr ⟨o,e _ _ h⟩)
 ·exact .inr h
theorem Same.upd {p:Addr}{o:HO}(h:H p=none):Same H (upd H p o):=fun b u e=>by rw[Zw (ZN e h)];exact e
theorem Same.updr {p:Addr}{o:HO}(s:Same H H')(h:H p=none):Same H (L2.upd H' p o):=fun b u e=>by rw[Zw (ZN e h)];exact s b u e
mutual
theorem Xj.mono (s:Same H H'):∀{v:V}{d:PyData},Xj K H v d->Xj K H' v d
 |_,_,.non=>.non
 |_,_,.bl b=>.bl b
 |_,_,.int i=>.int i
 |_,_,.str x=>.str x
 |_,_,.lst h r=>.lst (s.seq h) (YF.mono s r)
 |_,_,.tup h r=>.tup (s.tup h) (YF.mono s r)
theorem YF.mono (s:Same H H'):∀{v:List V}{d:List PyData},YF K H v d->YF K H' v d
 |_,_,.nil=>.nil
 |_,_,.cons h r=>.cons (Xj.mono s h) (YF.mono s r)
end
theorem YF.ints:∀ns:List Int,YF K H (ns.map V.int) (ns.map PyData.int)
 | []=>.nil
 |n::r=>.cons (.int n) (YF.ints r)
end
section
variable {X:Cx}{pins:List (Addr×Obj)}{σ:St}{H:Hp}{s:Shared}
mutual
theorem Inv.reads (I:Inv X pins σ H s):∀{v:V}{d:PyData}{u:Value},Xj X.K H v d->RelV v u->∃as,Reads s.heap u d as
 |_,_,_,.non,r=>by cases (show _=Value.none from r);exact⟨_,.none⟩
 |_,_,_,.bl b,r=>by cases (show _=Value.bool b from r);exact⟨_,.bool b⟩
 |_,_,_,.int i,r=>by obtain⟨t,rfl⟩:=r;exact⟨_,.int i t⟩
 |_,_,_,.str x,r=>by obtain⟨t,rfl⟩:=r;exact⟨_,.str x t⟩
 |_,_,_,.lst (a:=a) h q,r=>by
  cases (show _=Value.ref a from r)
  obtain⟨its,rv,⟨o,n,e,c,_,d⟩,_⟩:=I.list h
  obtain⟨as,ra⟩:=Inv.readsAll I q rv
  exact⟨_,.list e c d (by simpa using ra)⟩
 |_,_,_,.tup (a:=a) h q,r=>by
  cases (show _=Value.ref a from r)
  obtain⟨its,rv,⟨o,e,c,n,d⟩,_⟩:=I.tuple h
  obtain⟨as,ra⟩:=Inv.readsAll I q rv
  exact⟨_,.tuple e c d (by simpa using ra)⟩
theorem Inv.readsAll (I:Inv X pins σ H s):∀{v:List V}{d:List PyData}{u:List Value},YF X.K H v d->ZB v u->∃as,ReadsAll s.heap u d as
 |_,_,_,.nil,r=>by cases r;exact⟨_,.nil⟩
 |_,_,_,.cons h q,r=>by
  cases r with
  |cons r rr=>
   obtain⟨a1,h1⟩:=Inv.reads I h r
   obtain⟨a2,h2⟩:=Inv.readsAll I q rr
   exact⟨_,.cons h1 h2⟩
end
end
structure ZdG (d:PyData):Prop where
 sh:d.showable=true
 nd:d.hasDict=false
 dp:d.depth<=60
 sz:d.shown.length<=sizeLine
section
variable {X:Cx}
theorem ZhS (hu:X.A.units+64<cLine):J5 X (compareOp .NotEq) (fun x y H Q=>∃dx dy,Xj X.K H x dx/\Xj X.K H y dy/\SeqAt.shaped dx=true/\SeqAt.shaped dy=true/\Q (.bl (!PyData.eqv dx dy)) H):=by
 intro pins s σ H x y v u Q I rx ry ⟨dx,dy,h1,h2,s1,s2,q⟩
 obtain⟨as,r1⟩:=I.reads h1 rx
 obtain⟨bs,r2⟩:=I.reads h2 ry
 exact SeqAt.compareNe_shaped r1 r2 s1 s2 hu ⟨.bl _,H,I,rfl,q⟩
theorem ZdC {k:Nat}(hr:Wm k X.A):ZW X (.builtin "repr") (fun xs H Q=>∃x d,xs=[x]/\Xj X.K H x d/\ZdG d/\Q (.str d.shown) H):=by
 intro pins s σ H xs us Q I r h
 obtain⟨x,d,rfl,hd,F,q⟩:=h
 obtain⟨u,rfl,ru⟩:=vals1 r
 obtain⟨as,rd⟩:=I.reads hd ru
 have hun:X.A.units+61<cLine:=by have:=hr.units;omega
 have fin:∀(h':Heap) (u:Tok) (tk:Nat),(∀b o,s.heap.get? b=some o->h'.get? b=some o)->EP X pins σ Q (.str d.shown u) {s with heap:=h',toks:=tk}:=fun h' u tk k=>⟨.str d.shown,H,I.kept k,⟨u,rfl⟩,q⟩
 cases rd with
 |none=>exact P.repr_of_none (fin s.heap _ _ fun _ _ e=>e)
 |bool b=>exact P.repr_of_bool (by have:=fin s.heap s.toks (s.toks+1) fun _ _ e=>e;simpa only[PyData.shown] using this)
 |int i t=>exact P.repr_of_int (by simpa only[PyData.showable,decide_eq_true_eq] using F.sh) (by have:=fin s.heap s.toks (s.toks+1) fun _ _ e=>e;simpa only[PyData.shown] using this)
 |str y t=>exact P.repr_of_str (by have:=fin s.heap s.toks (s.toks+1) fun _ _ e=>e;simpa only[PyData.shown] using this) (by simpa only[PyData.shown] using F.sz)
 |list h1 h2 h3 h4=>exact repr_of_reads' (.list h1 h2 h3 h4) F.sh (fun z=>by rw[F.nd] at z;cases z) hr.gd (by have:=F.dp;omega) (fun _ _ e=>e) (fun h' u tk k=>fin h' u tk k) F.sz
 |tuple h1 h2 h3 h4=>exact repr_of_reads' (.tuple h1 h2 h3 h4) F.sh (fun z=>by rw[F.nd] at z;cases z) hr.gd (by have:=F.dp;omega) (fun _ _ e=>e) (fun h' u tk k=>fin h' u tk k) F.sz
 |dict h1 h2 h3 h4 h5=>cases hd
end
abbrev WC (ns:List Int)(n:Nat):List Int:=firstMet (fun i=>ns.getD i 0) n
section
variable {prog:Program}{w:World}{A:Around}{E:Value->Shared->Prop}{s:Shared}
end
theorem Um:∀{ns:List Int}{us:List Value},ZB (ns.map V.int) us->IntsAre us ns
 | [],_,.nil=>.nil
 |n::r,_,.cons h t=>by
  obtain⟨k,rfl⟩:=(show ∃t,_=Value.int n t from h)
  exact .cons n k (Um t)
section
variable {X:Cx}
theorem WU:ZW X (.type "range") (fun xs H Q=>∃j:Int,xs=[.int j]/\∀p,H p=none->Q (.ref p) (upd H p (.rng 0 j))):=by
 intro pins s σ H xs us Q I r h
 obtain⟨j,rfl,q⟩:=h
 obtain⟨u,rfl,ru⟩:=vals1 r
 obtain⟨t,rfl⟩:=ru
 exact call_range_1 ⟨.ref s.heap.objs.size,_,I.laid (a:=s.heap.objs.size) (o:=.rng 0 j) (fun b o e=>Zn _ e) (Zq _) ⟨_,_,_,Zo _ rfl⟩,rfl,q _ (I.hok.fresh (Zq _))⟩
def Z2 (lo:Int)(n:Nat):List Int:=(List.range n).map fun i:Nat=>lo+(i:Int)
theorem U2 {lo:Int}{n i:Nat}(h:i<n):(Z2 lo n)[i]?=some (lo+i):=by unfold Z2;rw[Zc,List.getElem?_range h];rfl
theorem ZY {lo:Int}{n:Nat}:(Z2 lo n).length=n:=by unfold Z2;rw[Za,Zg]
theorem X8 {lo:Int}{n:Nat}{acc:Array Value}(h:ItemsOf (fun i v=>∃t,v=.int (lo+i*1) t) acc n):ZB ((Z2 lo n).map V.int) acc.toList:=by
 have go:∀(l:List Value) (k:Nat),(∀(j:Nat) v,l[j]?=some v->∃t,v=.int (lo+((k+j:Nat):Int)) t)->ZB (((List.range' k l.length).map fun i:Nat=>lo+(i:Int)).map V.int) l:=by
  intro l
  induction l with
  |nil=>intro k _;exact .nil
  |cons x r ih=>
   intro k hk
   rw[Zi,List.range'_succ]
   refine .cons ?_ (ih (k+1) fun j v hv=>?_)
   ·obtain⟨t,e⟩:=hk 0 x rfl
    exact⟨t,e⟩
   ·obtain⟨t,e⟩:=hk (j+1) v hv
    exact⟨t,by rw[e];congr 2;omega⟩
 have e:=go acc.toList 0 fun j v hv=>by
  rw[Array.getElem?_toList] at hv
  obtain⟨t,e⟩:=h.2 j v hv
  exact⟨t,by rw[e];congr 1 <;> omega⟩
 rw[Zr,h.1] at e
 unfold Z2
 rw[List.range_eq_range']
 exact e
theorem X5 (hc:X.calm=true):ZW X (.type "list") (fun xs H Q=>∃(a:Addr) (lo hi:Int),xs=[.ref a]/\H a=some (.rng lo hi)/\(-(2 ^ 62)<=lo/\lo<2 ^ 62/\-(2 ^ 62)<=hi/\hi<2 ^ 62)/\(hi-lo).toNat<=sizeLine/\
  ∀l,H l=none->Q (.ref l) (upd H l (.lst ((Z2 lo (hi-lo).toNat).map V.int)))):=by
 intro pins s σ H xs us Q I r h
 obtain⟨a,lo,hi,rfl,ha,⟨b1,b2,b3,b4⟩,hz,q⟩:=h
 obtain⟨u,rfl,ru⟩:=vals1 r
 cases ru
 obtain⟨t,u,v,e⟩:=(show ∃t u v,s.heap.get? a=some {cls:=.type "range",data:=.fields #[.int lo t,.int hi u,.int 1 v]} from I.hok a _ ha)
 refine call_list_range (n:=(hi-lo).toNat) (I.ok.hd hc) e (small_one b1 b2 b3 b4) (by rw[rangeSize_one];split <;> omega) hz fun h' tk acc c' hk hl hit=>?_
 exact⟨.ref _,_,I.laid (a:=s.heap.objs.size) (o:=.lst ((Z2 lo (hi-lo).toNat).map V.int)) (t':=tk) hk (Zq _) ⟨by rw[Za,ZY];exact hz,acc.toList,c',X8 hit,by simpa using hl⟩,rfl,q _ (I.hok.fresh (Zq _))⟩
end
def Wa:List Str->Bool
 | []=>true
 |x::r=>!(r.contains x) && Wa r
theorem Z6:∀{l:List Str},Wa l=true->l.Nodup
 | [],_=>List.nodup_nil
 |x::r,h=>by
  unfold Wa at h
  simp only[Bool.and_eq_true,Bool.not_eq_true'] at h
  refine List.nodup_cons.mpr ⟨fun z=>?_,Z6 h.2⟩
  have:=List.contains_iff_mem.mpr z
  rw[h.1] at this;cases this
def Vt (sc:Scope)(x:Str):Bool:=match sc.names.lookup x with
 |some .local=>true
 |some .cell=>true
 |_=>false
theorem Wi {sc:Scope}{x:Str}(h:Vt sc x=true):Loc sc x:=by
 unfold Vt at h
 split at h
 ·rename_i e;exact .inl e
 ·rename_i e;exact .inr e
 ·cases h
def Wz (sc:Scope)(x:Str):Bool:=match sc.names.lookup x with
 |some .local=>true
 |_=>false
theorem Yo {sc:Scope}{x:Str}(h:Wz sc x=true):sc.names.lookup x=some .local:=by
 unfold Wz at h
 split at h
 ·rename_i e;exact e
 ·cases h
def ZeY (sc:Scope)(x:Str):Bool:=match sc.names.lookup x with
 |some .local=>true
 |some .cell=>true
 |some .free=>true
 |_=>false
theorem ZeX {sc:Scope}{x:Str}(h:ZeY sc x=true):Vis sc x:=by
 unfold ZeY at h
 split at h
 ·rename_i e;exact .inl e
 ·rename_i e;exact .inr (.inl e)
 ·rename_i e;exact .inr (.inr e)
 ·cases h
def Y2 (sc:Scope)(x:Str):Bool:=match sc.names.lookup x with
 |some .globalImplicit=>true
 |_=>false
def YM:Expr->Bool
 | .Starred _ _=>false
 |_=>true
theorem Wc {e:Expr}{es:List Expr}{env:Env}(h:YM e=true):starEach (e::es) env=(false,eval e env)::starEach es env:=by cases e <;> first|rfl|cases h
def W1:List Expr->Bool
 | []=>true
 |e::r=>YM e && W1 r
theorem Y5 {env:Env}{pos:Pos}:∀{es:List Expr},W1 es=true->(backTo pos (starEach es env)).any (·.1)=false
 | [],_=>rfl
 |e::r,h=>by
  unfold W1 at h
  rw[Bool.and_eq_true] at h
  rw[Wc h.1]
  exact Y5 h.2
section
variable {X:Cx}
theorem pc {e:Expr}{es:List Expr}{te:TE}{t:TA}(ha:PE X e te)(hr:PA X es t)(hs:YM e=true:=by rfl):PA X (e::es) (UM te t):=Zf5 ha hr (Wc hs)
theorem XE {x:Str}(h:Y2 X.env.scope x=true):Gl X x:=by
 unfold Y2 at h
 split at h
 ·rename_i e;exact e
 ·cases h
theorem vn (i:Nat){x:Str}{pos:Pos}(hN:X.N[i]?=some x:=by rfl)(hv:ZeY X.env.scope x=true:=by kernel_rfl)(hd:(x == ("__debug__":Str))=false:=by kernel_rfl)(hcd:(x == ("__classdict__":Str))=false:=by kernel_rfl) :
  PE X (.Name x pos) (Zhq i):=ZhN hN (ZeX hv) hd hcd
theorem gn (i:Nat){x:Str}{pos:Pos}(hi:X.N[i]?=some x:=by rfl)(hN:Wa X.N=true:=by kernel_rfl)(hx:Wz X.env.scope x=true:=by kernel_rfl):PG X (.Name x pos) (Yg i):=
 Zcf (Z6 hN) hi (.inl (Yo hx)) (.inr (Yo hx))
theorem gnf (i:Nat){x:Str}{pos:Pos}(hf:X.fn x=true)(hi:X.N[i]?=some x:=by rfl)(hN:Wa X.N=true:=by kernel_rfl)(hx:Vt X.env.scope x=true:=by kernel_rfl):PG X (.Name x pos) (Yg i):=
 Zcf (Z6 hN) hi (Wi hx) (.inl hf)
theorem ZH (i:Nat){x:Str}{e:Expr}{te:TE}{pos pos':Pos}(hf:X.fn x=true)(he:PE X e te)(hi:X.N[i]?=some x:=by rfl)(hN:Wa X.N=true:=by kernel_rfl)(hx:Vt X.env.scope x=true:=by kernel_rfl)
  (hs:swapsWith e (some (.Name x pos')) pos.line X.env=pure false:=by rfl):PS X (.Assign [.Name x pos'] e pos) (ZcS te (Yg i)):=
 ZhJ (Z6 hN) hi (Wi hx) he hs (.inl hf)
theorem cb {x:Str}{id:String}{r:List V->Hp->VK->Prop}{e:Expr}{es:List Expr}{t:TA}{p pos:Pos}(hc:ZW X (.builtin id) r)(hm:X.mg x=none)(ha:PA X (e::es) t)(hg:Y2 X.env.scope x=true:=by kernel_rfl)(hv:bootBuiltins x=some (.builtin id):=by kernel_rfl)
  (hn:x ≠ "__name__":=by decide) (hd:(x == ("__debug__":Str))=false:=by kernel_rfl) (he:YM e=true:=by rfl) (hpl:W1 es=true:=by rfl) :
  PE X (.Call (.Name x p) (e::es) [] pos) (tCB r t):=Zep hc (XE hg) hm hv ha hn hd (Wc he) (Y5 hpl)
theorem ct {x:Str}{T:String}{r:List V->Hp->VK->Prop}{e:Expr}{es:List Expr}{t:TA}{p pos:Pos}(hc:ZW X (.type T) r)(hm:X.mg x=none)(ha:PA X (e::es) t)(hg:Y2 X.env.scope x=true:=by kernel_rfl)(hv:bootBuiltins x=some (.type T):=by kernel_rfl)
  (hn:x ≠ "__name__":=by decide) (hd:(x == ("__debug__":Str))=false:=by kernel_rfl) (he:YM e=true:=by rfl) (hpl:W1 es=true:=by rfl) :
  PE X (.Call (.Name x p) (e::es) [] pos) (tCB r t):=Zc1 hc (XE hg) hm hv ha hn hd (Wc he) (Y5 hpl)
theorem Wt {tg a:Expr}{ta:TA}{p pos:Pos}(hm:X.mg "range"=none)(ha:PA X [a] ta)(hg:Y2 X.env.scope "range"=true:=by kernel_rfl)(hs:starEach [a] X.env=[(false,eval a X.env)]:=by rfl):PI X tg (.Call (.Name "range" p) [a] [] pos) (Zhh ta):=Zc0 (XE hg) hm ha hs
theorem Zkw {tg a b:Expr}{ta:TA}{p pos:Pos}(hm:X.mg "range"=none)(ha:PA X [a,b] ta)(hg:Y2 X.env.scope "range"=true:=by kernel_rfl)(hs:starEach [a,b] X.env=[(false,eval a X.env),(false,eval b X.env)]:=by rfl)(hs2:starEach [b] X.env=[(false,eval b X.env)]:=by rfl) :
  PI X tg (.Call (.Name "range" p) [a,b] [] pos) (Zhg ta):=ZcZ (XE hg) hm ha hs hs2
end
def Fn (P:Program)(w:World)(K:PySem.W.Frag)(mg:Str->Option Value)(base:Heap)(CX:CXT)(k:Nat)(x:Str)(ps:List Str)(sp:Sp):Prop:=
 ∃f fd,Z1 P w K mg base CX k f fd ps sp/\mg x=some (.ref f)/\PySem.W.keepIn K (.ref f)=true/\Binds K fd ps []
section
variable {X:Cx}
theorem Y3 {CX:CXT}{k j:Nat}{x:Str}{ps:List Str}{sp:Sp}{E:XK}{e:Expr}{es:List Expr}{t:TA}{p pos:Pos}(G:Fn X.prog X.w X.K X.mg X.base CX k x ps sp)(hr:Wm j X.A)(hx:UD CX X E)(ha:PA X (e::es) t)(hk:k<=j:=by decide)
  (hg:Y2 X.env.scope x=true:=by kernel_rfl) (hd:(x == ("__debug__":Str))=false:=by kernel_rfl) (he:YM e=true:=by rfl) (hpl:W1 es=true:=by rfl) :
  PE X (.Call (.Name x p) (e::es) [] pos) (ZgN sp [] E t):=by
 obtain⟨f,fd,F,hm,kp,b⟩:=G
 exact Zf2 F (hr.mono hk) (XE hg) hm kp b .nil hx ha hd (Wc he) (Y5 hpl)
end
theorem Fn.mk {P:Program}{w:World}{K:PySem.W.Frag}{mg:Str->Option Value}{base h:Heap}{CX:CXT}{k:Nat}{x:Str}{ps:List Str}{sp:Sp}{st:Stmt}{f:Addr}{oc:Value}{od an:Option Addr}{osl:Array (Option Value)}{kV doc pm cdv ct:Value}(X:K.In h)(G:h.Ns mainGlobals mg)
  (a:PySem.W.nsIn K mainGlobals x=some (some (.ref f))) (l:K.lookup f=some ⟨oc,od,.func (PySem.W.fnOf x x (YI st) (Yx st) (ZM st) .none kV doc pm an cdv ct),osl⟩) (c:PySem.W.codeIn K cdv x=true) (kp:PySem.W.keepIn K (.ref f)=true)
  (hok:∀fd,WB K x x st f fd->Z1 P w K mg base CX k f fd ps sp)
  (hb:∀(kV doc pm:Value) (an:Option Addr) (cdv ct:Value) (us:List Value),us.length=ps.length->bindArgs (PySem.W.fnOf x x (YI st) (Yx st) (ZM st) .none kV doc pm an cdv ct) ⟨us,[]⟩=pure (ps.zip us)) :
  Fn P w K mg base CX k x ps sp:=
 ⟨f,_,hok _ (Zbu l c kp),PySem.W.mg_of X G a,kp,(Zbu l c kp).binds hb⟩
section
variable {X:Cx}
theorem WF (K:PySem.W.Frag)(hK:X.K=K:=by rfl):IxR X (Zji K):=hK▸Zia
theorem ixL (K:PySem.W.Frag)(hK:X.K=K:=by rfl):IxR X (Zjj K):=hK▸Zgq
def ZkA (K:PySem.W.Frag):List V->Hp->VK->Prop:=fun xs H Q=>∃p ys,xs=[.ref p]/\(Wb K H p ys\/Wp K H p ys)/\Q (.int ys.length) H
theorem Yj (K:PySem.W.Frag)(hK:X.K=K:=by rfl):ZW X (.builtin "len") (ZkA K):=hK▸Ux
theorem itT (K:PySem.W.Frag){tg l:Expr}{tl:TE}(hl:PE X l tl)(hK:X.K=K:=by rfl):PI X tg l (ZjG K tl):=hK▸ZhL hl
theorem itL (K:PySem.W.Frag){tg l:Expr}{tl:TE}(hl:PE X l tl)(hK:X.K=K:=by rfl):PI X tg l (Zhi K tl):=hK▸ZfV hl
end
def Uv (N:List Str)(esc:Scope)(own:List Str)(caps:List Nat)(N':List Str)(sc:Scope):Bool:=
 (sc.kind == .function) && Wa (sc.names.map (·.1)) && sc.names.all (fun y=>y.2 != .local || Wz sc y.1) && Wa N' && decide (N'=own++caps.map fun j=>N.getD j "") &&
  caps.all (fun j=>decide (j<N.length) && (match sc.names.lookup (N.getD j "") with|some .free=>true|_=>false)) &&
  sc.names.all (fun y=>y.2 != .free || (match esc.names.lookup y.1 with|some .cell=>true|some .free=>true|_=>false))
theorem Wo.of {N:List Str}{esc:Scope}{own:List Str}{caps:List Nat}{N':List Str}{sc:Scope}(h:Uv N esc own caps N' sc=true):Wo N esc own caps N' sc:=by
 unfold Uv at h
 simp only[Bool.and_eq_true,List.all_eq_true,decide_eq_true_eq,beq_iff_eq,bne_iff_ne,ne_eq,Bool.or_eq_true] at h
 obtain⟨⟨⟨⟨⟨⟨h1,h2⟩,h3⟩,h4⟩,h5⟩,h6⟩,h7⟩:=h
 refine⟨h1,Z6 h2,fun y hy e=>?_,Z6 h4,h5,fun j hj=>⟨(h6 j hj).1,?_⟩,fun y hy e=>?_⟩
 ·rcases h3 y hy with z|z
  ·exact absurd e z
  ·exact Yo z
 ·have:=(h6 j hj).2
  split at this
  ·rename_i z;exact z
  ·cases this
 ·rcases h7 y hy with z|z
  ·exact absurd e z
  ·split at z
   ·rename_i q;exact .inl q
   ·rename_i q;exact .inr q
   ·cases z
theorem cmp {X:Cx}(own:List Str)(caps:List Nat)(N':List Str){scope:Scope}{elt iter tg:Expr}{ifs:List Expr}{pos:Pos}{wi:TI}{g:TG}{tc:TT}{te:TE}(hc:X.calm=true)(hi:PI X tg iter wi)
  (hg:∀cl C s H ex,PG (Yk X scope cl N' C s H ex) tg g) (ht:∀cl C s H ex,PIf (Yk X scope cl N' C s H ex) ifs tc) (he:∀cl C s H ex,PE (Yk X scope cl N' C s H ex) elt te)
  (hS:Uv X.N X.env.scope own caps N' scope=true:=by kernel_rfl) (hs:∀x,foldedSetIterable iter X.env x=pure x:=by intro _;rfl) :
  PE X (.ListComp elt [⟨tg,iter,ifs,0⟩] scope pos) (ZbP own caps wi g tc te):=Zf0 rfl (.of hS) hc hi hg ht he hs
section
variable {X:Cx}
def Zjl:R2:=fun x y H Q=>∃(a b:Addr) (xs ys:List V),x=.ref a/\y=.ref b/\H a=some (.tup xs)/\H b=some (.tup ys)/\xs.length+ys.length<=sizeLine/\∀p H',Same H H'->H' p=some (.tup (xs++ys))->Q (.ref p) H'
theorem V8:J5 X (binaryOp .Add) Zjl:=by
 intro pins s σ H x y v u Q I rx ry h
 obtain⟨a,b,xs,ys,rfl,rfl,ha,hb,hz,q⟩:=h
 by_cases hx:xs=[]
 ·subst hx
  cases rx;cases ry
  obtain⟨its,r1,p1,_⟩:=I.tuple (Wp.of ha)
  obtain⟨its2,r2,p2,_⟩:=I.tuple (Wp.of hb)
  cases r1
  obtain⟨⟨cls,dd,data,sl⟩,ho,hc,n,hd⟩:=id p1
  obtain⟨⟨cls2,dd2,data2,sl2⟩,ho2,hc2,n2,hd2⟩:=id p2
  simp only at hc hd hc2 hd2
  subst hc hd hc2 hd2
  exact concat_meets ⟨_,ho,rfl⟩ ⟨_,ho2,rfl⟩ noFill_tuple_add seq_tuple_add PySem.F.slot_tuple_add PySem.F.entry_tuple_add (PySem.F.args_tuple_add_2 _ _) (tuple_addW0 a b _ _ n n2 dd dd2 sl sl2 rfl) ⟨ho,ho2,⟨.ref b,H,I,rfl,q b H (Same.refl H) hb⟩⟩
 ·refine Zf7 pins s σ H _ _ v u Q I rx ry ⟨a,b,xs,ys,rfl,rfl,.of ha,.of hb,hx,hz,fun e=>?_,fun e p hp=>q p _ (Same.upd hp) Zt⟩
  subst e
  exact q a H (Same.refl H) (by rw[List.append_nil];exact ha)
end
theorem Yl {c:TT}{tb:TS}{D:XU}{σ:St}{H:Hp}(Pv:Nat->St->Hp->Prop)(Ex:St->Hp->Prop)(hend:∀ σ H,Ex σ H->D.nx σ H)(h0:∃m,Pv m σ H)
  (turn:(∀ σ H,Ex σ H->D.nx σ H)->∀m σ H,Pv m σ H->c σ H fun b H1=>if b=true then ∃N:St->Hp->Prop,(∀ σ' H',N σ' H'->∃m',m'<m/\Pv m' σ' H')/\tb {D with nx:=N,ct:=N,bk:=D.nx} σ H1 else D.nx σ H1) :
  ZdU c tb D σ H:=⟨Pv,h0,turn hend⟩
structure Wj (J:It)(H:Hp)(xs:List V):Prop where
 go:∀(i:Nat) H',Same H H'->i<xs.length->J.go i H'
 yld:∀(i:Nat) H' x H2,Same H H'->i<xs.length->J.yld i H' x H2->H2=H'/\xs[i]?=some x
 stop:∀H',Same H H'->J.stop xs.length H'
theorem Wj.mono {J:It}{H H':Hp}{xs:List V}(s:Same H H')(S:Wj J H xs):Wj J H' xs:=
 ⟨fun i H2 e=>S.go i H2 (s.trans e),fun i H2 x H3 e=>S.yld i H2 x H3 (s.trans e),fun H2 e=>S.stop H2 (s.trans e)⟩
theorem Ws {K:PySem.W.Frag}{H:Hp}{a:Addr}{xs:List V}(h:Wp K H a xs):Wj (Itt K a) H xs:=
 ⟨fun i H' s hi=>⟨xs,_,s.tup h,Zf hi⟩,fun i H' x H2 s _ y=>⟨y.1,y.2 xs (s.tup h)⟩,fun H' s=>⟨xs,s.tup h,Zq _⟩⟩
theorem Y4 {K:PySem.W.Frag}{H:Hp}{a:Addr}{xs:List V}(h:Wb K H a xs):Wj (Itl K a) H xs:=
 ⟨fun i H' s hi=>⟨xs,_,s.seq h,Zf hi⟩,fun i H' x H2 s _ y=>⟨y.1,y.2 xs (s.seq h)⟩,fun H' s=>⟨xs,s.seq h,Zq _⟩⟩
theorem YG {H:Hp}(lo:Int)(n:Nat):Wj (Itr lo n) H ((Z2 lo n).map V.int):=by
 have hl:((Z2 lo n).map V.int).length=n:=by rw[Za,ZY]
 refine⟨fun i H' s hi=>by rw[hl] at hi;exact hi,fun i H' x H2 s hi y=>?_,fun H' s=>by show n<=_;rw[hl];exact Zq _⟩
 rw[hl] at hi
 exact⟨y.1,by rw[y.2,Zc,U2 hi];rfl⟩
theorem ZaJ {J:It}{own:List Str}{caps:List Nat}{g:TG}{tc:TT}{te:TE}{σ:St}{H:Hp}{Q:VK}{xs:List V}(S:Wj J H xs)(cs:St)(hcs:Jz own caps σ=none::cs)(f:V->Option V)(hz:xs.length<=1000000)
  (hs:∀(i:Nat) x v0 H',xs[i]?=some x->Same H H'->∀(R:St->V->Hp->Prop) (R':St->Hp->Prop),(∀v H5,f x=some v->Same H' H5->R (some x::cs) v H5)->(∀H4,f x=none->Same H' H4->R' (some x::cs) H4)->
   g x (v0::cs) H' fun σ3 H3=>tc σ3 H3 fun b H4=>if b=true then te σ3 H4 (R σ3) else R' σ3 H4)
  (hd:∀D H',H D=none->Same H H'->H' D=some (.lst (xs.filterMap f))->Q (.ref D) H') :
  WX own caps g tc te σ Q J H:=by
 intro D hD
 refine⟨fun i m σ' H'=>m=xs.length-i/\i<=xs.length/\(∃v0,σ'=v0::cs)/\Same H H'/\H' D=some (.lst ((xs.take i).filterMap f)),⟨_,rfl,Nat.zero_le _,⟨none,hcs⟩,Same.upd hD,by rw[Zt,List.take_zero];rfl⟩,?_⟩
 rintro i m σ' H' ⟨rfl,hi,⟨v0,rfl⟩,s,hl⟩
 by_cases hlt:i<xs.length
 ·refine .inr ⟨S.go i H' s hlt,_,fun σ2 H2 z=>z,fun x H2 y=>?_⟩
  obtain⟨rfl,hx⟩:=S.yld i H' x H2 s hlt y
  have ht:xs.take (i+1)=xs.take i++[x]:=by rw[List.take_add_one,hx];rfl
  have hlen:((xs.take i).filterMap f).length<=i:=Nat.le_trans (List.length_filterMap_le _ _) (by rw[List.length_take];omega)
  refine hs i x v0 H2 hx s _ _ (fun v H5 e s5=>?_) (fun H4 e s4=>?_)
  ·refine⟨_,s5 _ _ hl,?_,xs.length-(i+1),by omega,rfl,hlt,⟨_,rfl⟩,(s.trans s5).updr hD,?_⟩
   ·have:(16777216:Nat)=sizeLine:=by decide
    omega
   ·rw[Zt,ht,List.filterMap_append,List.filterMap_cons,e];rfl
  ·refine⟨xs.length-(i+1),by omega,rfl,hlt,⟨_,rfl⟩,s.trans s4,?_⟩
   rw[s4 _ _ hl,ht,List.filterMap_append,List.filterMap_cons,e]
   simp
 ·have e:i=xs.length:=by omega
  subst e
  refine .inl ⟨S.stop H' s,hd D H' hD s ?_⟩
  rw[hl,List.take_length]
theorem Ju {J:It}{g:TG}{tb:TS}{D:XU}{σ:St}{H0 H:Hp}{xs:List V}(S:Wj J H0 xs)(Pv:Nat->St->Hp->Prop)(h0:Pv 0 σ H)(hS:∀i σ H,Pv i σ H->Same H0 H)
  (hs:∀(i:Nat) x σ H,xs[i]?=some x->Pv i σ H->g x σ H fun σ2 H2=>tb {D with nx:=Pv (i+1),ct:=Pv (i+1),bk:=D.nx} σ2 H2) (hd:∀ σ H,Pv xs.length σ H->D.nx σ H) :
  ∃W:Nat->Nat->St->Hp->Prop,(∃m,W 0 m σ H)/\∀i m σ H,W i m σ H->
   (J.stop i H/\D.nx σ H)\/(J.go i H/\∃N:St->Hp->Prop,(∀ σ' H',N σ' H'->∃m',m'<m/\W (i+1) m' σ' H')/\∀x H',J.yld i H x H'->g x σ H' fun σ2 H2=>tb {D with nx:=N,ct:=N,bk:=D.nx} σ2 H2):=by
 refine⟨fun i m σ H=>m=xs.length-i/\i<=xs.length/\Pv i σ H,⟨_,rfl,Nat.zero_le _,h0⟩,?_⟩
 rintro i m σ H ⟨rfl,hi,p⟩
 have s:=hS i σ H p
 by_cases hlt:i<xs.length
 ·refine .inr ⟨S.go i H s hlt,Pv (i+1),fun σ' H' p'=>⟨xs.length-(i+1),by omega,rfl,hlt,p'⟩,fun x H' y=>?_⟩
  obtain⟨rfl,hx⟩:=S.yld i H x H' s hlt y
  exact hs i x σ _ hx p
 ·have e:i=xs.length:=by omega
  subst e
  exact .inl ⟨S.stop H s,hd σ H p⟩
theorem tT {A B:Hp->Prop}{σ:St}{H:Hp}(h:A H):WG σ H fun b H4=>if b=true then A H4 else B H4:=by
 show if true=true then A H else B H
 rw[if_pos rfl];exact h
theorem Zcy {α β:Type}(g:α->β):∀xs:List α,xs.filterMap (fun y=>some (g y))=xs.map g
 | []=>rfl
 |x::r=>by rw[List.filterMap_cons,List.map_cons,Zcy g r]
theorem Zhl {α β:Type}(p:α->Bool)(g:α->β):∀xs:List α,xs.filterMap (fun y=>if p y=true then some (g y) else none)=(xs.filter p).map g
 | []=>rfl
 |x::r=>by
  rw[List.filterMap_cons,List.filter_cons,Zhl p g r]
  by_cases h:p x=true
  ·rw[if_pos h,if_pos h];rfl
  ·rw[if_neg h,if_neg h]
theorem ZjD {c A B:Prop} [Decidable c](hc:c)(h:A):if c then A else B:=by rw[if_pos hc];exact h
theorem Zdi {c A B:Prop} [Decidable c](hc:¬c)(h:B):if c then A else B:=by rw[if_neg hc];exact h
theorem WO {J:It}{own:List Str}{caps:List Nat}{te:TE}{σ:St}{H:Hp}{Q:VK}{xs:List V}(S:Wj J H xs)(cs:St)(hcs:Jz own caps σ=none::cs)(f:V->V)(hz:xs.length<=1000000)
  (hs:∀(i:Nat) x H',xs[i]?=some x->Same H H'->∀R:VK,(∀H5,Same H' H5->R (f x) H5)->te (some x::cs) H' R)
  (hd:∀D H',H D=none->Same H H'->H' D=some (.lst (xs.map f))->Q (.ref D) H'):WX own caps (Yg 0) WG te σ Q J H:=by
 refine ZaJ S cs hcs (fun x=>some (f x)) hz (fun i x v0 H' hx s R R' h1 h2=>?_) fun D H' hD s hl=>hd D H' hD s (by rw[hl,Zcy])
 show WG (some x::cs) H' fun b H4=>if b=true then te (some x::cs) H4 (R (some x::cs)) else R' (some x::cs) H4
 exact tT (A:=fun H4=>te (some x::cs) H4 (R (some x::cs))) (hs i x H' hx s _ fun H5 s5=>h1 _ H5 rfl s5)
theorem VA {J:It}{own:List Str}{caps:List Nat}{tc:TT}{te:TE}{σ:St}{H:Hp}{Q:VK}{xs:List V}(S:Wj J H xs)(cs:St)(hcs:Jz own caps σ=none::cs)(p:V->Bool)(f:V->V)(hz:xs.length<=1000000)
  (hs:∀(i:Nat) x H',xs[i]?=some x->Same H H'->∀(R:VK) (R':Hp->Prop),(p x=true->∀H5,Same H' H5->R (f x) H5)->(p x=false->∀H4,Same H' H4->R' H4)->tc (some x::cs) H' fun b H4=>if b=true then te (some x::cs) H4 R else R' H4)
  (hd:∀D H',H D=none->Same H H'->H' D=some (.lst ((xs.filter p).map f))->Q (.ref D) H'):WX own caps (Yg 0) tc te σ Q J H:=by
 refine ZaJ S cs hcs (fun x=>if p x=true then some (f x) else none) hz (fun i x v0 H' hx s R R' h1 h2=>?_) fun D H' hD s hl=>hd D H' hD s (by rw[hl,Zhl])
 exact hs i x H' hx s (R (some x::cs)) (R' (some x::cs)) (fun e H5 s5=>h1 _ H5 (by rw[if_pos e]) s5) fun e H4 s4=>h2 H4 (by rw[if_neg (by rw[e];decide)]) s4
theorem Wr:∀{ns:List Int},(∀n∈ns,n.natAbs<2 ^ 200)->PyData.showableAll (ns.map PyData.int)=true/\PyData.hasDictAll (ns.map PyData.int)=false/\PyData.depthAll (ns.map PyData.int)=0/\PyData.leavesShortAll 300 (ns.map PyData.int)=true/\PyData.bulkAll (ns.map PyData.int)=ns.length/\PyData.canLayAll0 (ns.map PyData.int)=true
 | [],_=>⟨rfl,rfl,rfl,rfl,rfl,rfl⟩
 |n::r,h=>by
  obtain⟨h1,h2,h3,h4,h5,h6⟩:=Wr (ns:=r) fun m hm=>h m (List.mem_cons_of_mem _ hm)
  have hn:=h n List.mem_cons_self
  have hlog:n.natAbs.log2<1920:=by
   by_cases h0:n.natAbs=0
   ·rw[h0];decide +kernel
   ·have:=(Nat.log2_lt h0).mpr hn
    omega
  have hlen:(PyData.shown (.int n)).length<=300:=by
   have h2:n.natAbs.log2<200:=by
    by_cases h0:n.natAbs=0
    ·rw[h0];decide +kernel
    ·exact (Nat.log2_lt h0).mpr hn
   have:=int_text_length_le (k:=200) (by decide) h2
   simp only[PyData.shown]
   rw[PySem.ofString_length];omega
  refine⟨?_,?_,?_,?_,?_,?_⟩
  ·simp only[List.map_cons,PyData.showableAll,PyData.showable,h1,Bool.and_true,decide_eq_true_eq];exact hlog
  ·simp only[List.map_cons,PyData.hasDictAll,PyData.hasDict,h2,Bool.or_false]
  ·simp only[List.map_cons,PyData.depthAll,PyData.depth,h3];rfl
  ·simp only[List.map_cons,PyData.leavesShortAll,PyData.leavesShort,h4,Bool.and_true,decide_eq_true_eq];exact hlen
  ·simp only[List.map_cons,PyData.bulkAll,PyData.bulk,h5,Zi];omega
  ·simp only[List.map_cons,PyData.canLayAll0,PyData.canLay0,h6,Bool.and_true]
def Zy (K:PySem.W.Frag)(x:Str)(st:Stmt):Prop:=
 ∃(f:Addr) (oc:Value) (od an:Option Addr) (osl:Array (Option Value)) (kV doc pm cdv ct:Value),PySem.W.nsIn K mainGlobals x=some (some (.ref f))/\
  K.lookup f=some ⟨oc,od,.func (PySem.W.fnOf x x (YI st) (Yx st) (ZM st) .none kV doc pm an cdv ct),osl⟩/\PySem.W.codeIn K cdv x=true/\PySem.W.keepIn K (.ref f)=true
theorem Zy.mk {K:PySem.W.Frag}{x:Str}{st:Stmt}{f:Addr}{oc:Value}{od an:Option Addr}{osl:Array (Option Value)}{kV doc pm cdv ct:Value}(a:PySem.W.nsIn K mainGlobals x=some (some (.ref f)))
  (l:K.lookup f=some ⟨oc,od,.func (PySem.W.fnOf x x (YI st) (Yx st) (ZM st) .none kV doc pm an cdv ct),osl⟩) (c:PySem.W.codeIn K cdv x=true) (k:PySem.W.keepIn K (.ref f)=true):Zy K x st:=
 ⟨f,oc,od,an,osl,kV,doc,pm,cdv,ct,a,l,c,k⟩
theorem Zy.fn {P:Program}{w:World}{K:PySem.W.Frag}{mg:Str->Option Value}{base h:Heap}{CX:CXT}{k:Nat}{x:Str}{ps:List Str}{sp:Sp}{st:Stmt}(D:Zy K x st)(X:K.In h)(G:h.Ns mainGlobals mg)
  (hok:∀f fd,WB K x x st f fd->Z1 P w K mg base CX k f fd ps sp)
  (hb:∀(kV doc pm:Value) (an:Option Addr) (cdv ct:Value) (us:List Value),us.length=ps.length->bindArgs (PySem.W.fnOf x x (YI st) (Yx st) (ZM st) .none kV doc pm an cdv ct) ⟨us,[]⟩=pure (ps.zip us)) :
  Fn P w K mg base CX k x ps sp:=by
 obtain⟨f,oc,od,an,osl,kV,doc,pm,cdv,ct,a,l,c,kp⟩:=D
 exact Fn.mk X G a l c kp (fun fd F=>hok f fd F) hb
theorem Zy.law {P:Program}{w:World}{K:PySem.W.Frag}{mg:Str->Option Value}{h:Heap}{CX:CXT}{k:Nat}{x:Str}{p:Str}{sp:Sp}{st:Stmt}{fa:Addr}(D:Zy K x st)(X:K.In h)(G:h.Ns mainGlobals mg)(hfa:mg x=some (.ref fa))
  (hok:∀(base:Heap) f fd,base.Ns mainGlobals mg->K.In base->WB K x x st f fd->Z1 P w K mg base CX k f fd [p] sp)
  (hb:∀(kV doc pm:Value) (an:Option Addr) (cdv ct:Value) (s:Shared) (u:Value),BindsTo s (PySem.W.fnOf x x (YI st) (Yx st) (ZM st) .none kV doc pm an cdv ct) ⟨[u],[]⟩ [(p,u)]) :
  ∃fd:FuncData,(∀(s:Shared) (u:Value),BindsTo s fd ⟨[u],[]⟩ [(p,u)])/\∀base:Heap,K.In base->base.Ns mainGlobals mg->Z1 P w K mg base CX k fa fd [p] sp:=by
 obtain⟨f,oc,od,an,osl,kV,doc,pm,cdv,ct,a,l,c,kp⟩:=D
 have e:=hfa.symm.trans (PySem.W.mg_of X G a)
 cases e
 exact⟨_,fun s u=>hb kV doc pm an cdv ct s u,fun base kb nb=>hok base _ _ nb kb (Zbu l c kp)⟩
theorem Wh (val:Nat->Int):∀i,(firstMet val i).Nodup
 |0=>List.nodup_nil
 |i+1=>by
  have ih:=Wh val i
  rw[firstMet_succ]
  unfold step_dedup
  split
  ·exact ih
  ·rename_i h
   refine List.nodup_append.mpr ⟨ih,List.nodup_cons.mpr ⟨by simp,List.nodup_nil⟩,?_⟩
   intro a ha b hb e
   rw[List.mem_singleton.mp hb] at e
   apply h
   first
    |exact List.any_eq_true.mpr ⟨a,ha,by simp[e]⟩
    |simpa [e] using ha
theorem Zcp (val:Nat->Int)(i:Nat)(k:Int):k∈firstMet val i↔∃j,j<i/\val j=k:=by
 have h:=firstMet_any val i k
 constructor
 ·intro hk
  have:(firstMet val i).any (· == k)=true:=List.any_eq_true.mpr ⟨k,hk,by simp⟩
  rw[h] at this
  obtain⟨x,hx,e⟩:=List.any_eq_true.mp this
  obtain⟨j,hj,rfl⟩:=List.mem_map.mp hx
  exact⟨j,List.mem_range.mp hj,by simpa using e⟩
 ·rintro⟨j,hj,rfl⟩
  have:((List.range i).map val).any (· == val j)=true:=List.any_eq_true.mpr ⟨val j,List.mem_map.mpr ⟨j,List.mem_range.mpr hj,rfl⟩,by simp⟩
  rw[<-h] at this
  obtain⟨x,hx,e⟩:=List.any_eq_true.mp this
  have:x=val j:=by simpa using e
  exact this▸hx
theorem Zdd (ns:List Int)(k:Int):k∈WC ns ns.length↔k∈ns:=by
 rw[Zcp]
 constructor
 ·rintro⟨j,hj,rfl⟩
  rw[Zb,Zf hj];exact List.getElem_mem hj
 ·intro h
  obtain⟨j,hj,e⟩:=List.getElem_of_mem h
  exact⟨j,hj,by rw[Zb,Zf hj];exact e⟩
theorem ZeH:fillsNumberSlot (.type "tuple") "mul"=pure false:=
 PySem.fillsNumberSlot_seq (id:="tuple.__mul__") (r:=some (.builtin "tuple.__rmul__")) PySem.F.slot_tuple_mul.lookup (by decide +kernel) PySem.F.slot_tuple_rmul.lookup (by decide +kernel)
theorem Zkx:seqRepeat? (.type "tuple")=pure (some (.builtin "tuple.__mul__")):=by
 unfold seqRepeat?;rw[PySem.seqSlot_of (T:="tuple") (name:="__mul__") (id:="tuple.__mul__") PySem.F.slot_tuple_mul.lookup (by decide +kernel),PySem.seqSlot_of (T:="tuple") (name:="__rmul__") (id:="tuple.__rmul__") PySem.F.slot_tuple_rmul.lookup (by decide +kernel)];rfl
abbrev tob (dd:Option Addr)(items:Array Value)(n:Nat)(sl:Array (Option Value)):Obj:={cls:=.type "tuple",dict:=dd,data:=.seq items n,slots:=sl}
theorem Zjg (a:Int)(t:Tok)(l:Addr)(items:Array Value)(n:Nat)(dd:Option Addr)(sl:Array (Option Value)) :
  Meets (Builtin.«int.__rmul__» ⟨[.int a t,.ref l],[]⟩) (fun _ R s=>s.heap.get? l=some (tob dd items n sl)/\R (.ok (.ret Value.notImplemented)) s):=.of_wp fun prog w A R s h=>by
 obtain⟨hp,g,d,tk,os⟩:=s;obtain⟨hl,h⟩:=h
 wp_walk;exact⟨_,rfl,h⟩
theorem ZjA (l:Addr)(items:Array Value)(n:Nat)(dd:Option Addr)(sl:Array (Option Value))(t:Tok) :
  Meets (Builtin.«tuple.__mul__» ⟨[.ref l,.int 1 t],[]⟩) (fun _ R s=>s.heap.get? l=some (tob dd items n sl)/\R (.ok (.ret (.ref l))) s):=.of_wp fun prog w A R s h=>by
 obtain⟨hp,g,d,tk,os⟩:=s;obtain⟨hl,h⟩:=h
 have f1:=AutoSeq1.idx_int;have f2:=AutoSeq1.sub_tuple_tuple
 wp_walk using wpAny_loadPart' hl
 exact⟨_,rfl,h⟩
theorem ZjB (l:Addr)(items:Array Value)(n:Nat)(dd:Option Addr)(sl:Array (Option Value))(t:Tok)(he:items.isEmpty=false) :
  Meets (Builtin.«tuple.__mul__» ⟨[.ref l,.int 0 t],[]⟩) (fun _ R s=>s.heap.get? l=some (tob dd items n sl)/\R (.ok (.ret (.ref s.heap.objs.size))) {s with heap:=s.heap.push {cls:=.type "tuple",data:=.seq #[]}}):=.of_wp fun prog w A R s h=>by
 obtain⟨hp,g,d,tk,os⟩:=s;obtain⟨hl,h⟩:=h
 have f1:=AutoSeq1.idx_int;have f2:=AutoSeq1.sub_tuple_tuple
 wp_walk using wpAny_loadPart' hl
 exact⟨_,rfl,h⟩
theorem Zjz (l:Addr)(items:Array Value)(n:Nat)(dd:Option Addr)(sl:Array (Option Value))(k:Int)(t:Tok)(h1:¬(decide (k < -(2 ^ 63)) || decide (k ≥ 2 ^ 63))=true)(h2:¬(items.isEmpty || k == 1)=true)(h3:¬(decide (k<=0) || items.isEmpty)=true)
  (h4:¬((items.size:Int)*k > (2 ^ 63-1) / 8)) (h5:¬Builtin.Tuple.tupleTooMany ((items.size:Int)*k)=true) (h6:((List.replicate k.toNat items).foldl (· ++ ·) #[]).size<=sizeLine) :
  Meets (Builtin.«tuple.__mul__» ⟨[.ref l,.int k t],[]⟩) (fun _ R s=>s.heap.get? l=some (tob dd items n sl)/\R (.ok (.ret (.ref s.heap.objs.size))) {s with heap:=s.heap.push {cls:=.type "tuple",data:=.seq ((List.replicate k.toNat items).foldl (· ++ ·) #[])}}):=.of_wp fun prog w A R s h=>by
 obtain⟨hp,g,d,tk,os⟩:=s;obtain⟨hl,h⟩:=h
 have f1:=AutoSeq1.idx_int;have f2:=AutoSeq1.sub_tuple_tuple
 wp_walk using wpAny_loadPart' hl
 rw[if_neg h1]
 wp_walk using wpAny_loadPart' hl
 all_goals (try rw[if_neg h2])
 all_goals (try wp_walk using wpAny_loadPart' hl)
 all_goals (try rw[if_neg h3])
 all_goals (try wp_walk using wpAny_loadPart' hl)
 all_goals (try rw[if_neg h4])
 all_goals (try wp_walk using wpAny_loadPart' hl)
 all_goals (try rw[if_neg h5])
 all_goals (try wp_walk using wpAny_loadPart' hl)
 all_goals first|exact⟨_,rfl,h⟩|exact h6
theorem Vw (its:List Value):∀(m:Nat) (acc:List Value),(List.replicate m its.toArray).foldl (· ++ ·) acc.toArray=(acc++(List.replicate m its).flatten).toArray
 |0,acc=>by simp
 |m+1,acc=>by
  rw[List.replicate_succ,List.foldl_cons,List.replicate_succ,List.flatten_cons,<-List.append_assoc]
  have:acc.toArray++its.toArray=(acc++its).toArray:=by simp
  rw[this]
  exact Vw its m (acc++its)
section
variable {X:Cx}
theorem ZB.repl {xs:List V}{us:List Value}(r:ZB xs us):∀m:Nat,ZB (List.replicate m xs).flatten (List.replicate m us).flatten
 |0=>.nil
 |m+1=>by rw[List.replicate_succ,List.replicate_succ,List.flatten_cons,List.flatten_cons];exact r.append (ZB.repl r m)
def Zjh:R2:=fun x y H Q=>∃(a:Addr) (xs:List V) (k:Nat),x=.ref a/\y=.int k/\H a=some (.tup xs)/\xs≠[]/\xs.length*k<=1000000/\k<=1000000/\∀p H',Same H H'->H' p=some (.tup (List.replicate k xs).flatten)->Q (.ref p) H'
theorem Zch:J5 X (binaryOp .Mult) Zjh:=by
 intro pins s σ H x y v u Q I rx ry h
 obtain⟨a,xs,k,rfl,rfl,ha,hx,hz,hk,q⟩:=h
 cases rx
 obtain⟨t,rfl⟩:=ry
 obtain⟨its,r1,p1,_⟩:=I.tuple (Wp.of ha)
 have hl:=r1.length
 have hne:its≠[]:=fun e=>by rw[e] at r1;cases r1;exact hx rfl
 have hem:its.toArray.isEmpty=false:=by cases its with|nil=>exact absurd rfl hne|cons _ _=>rfl
 obtain⟨⟨cls,dd,data,sl⟩,ho,hc,n,hd⟩:=id p1
 simp only at hc hd
 subst hc hd
 have sz:(16777216:Nat)=sizeLine:=by decide
 have fl:(List.replicate ((k:Nat):Int).toNat its.toArray).foldl (· ++ ·) #[]=((List.replicate k its).flatten).toArray:=by
  have:=Vw its k []
  rw[Zj];simpa using this
 have flen:((List.replicate k its).flatten).length=k*its.length:=Zcs its k
 refine wpAny_binaryOp_repeat_ref (T:="tuple") (U:="int") (by decide) ⟨_,ho,rfl⟩ (fun s'=>typeIs_int s' k t) ZeH F.fills_int_mul F.slot_int_rmul Zkx F.slot_int_index.lookup
  (call_meets F.slot_int_rmul (typeIs_int s k t) F.entry_int_rmul (F.args_int_rmul_2 _ _) (Zjg k t a its.toArray n dd sl) ⟨ho,rfl,⟨_,ho,rfl⟩,?_⟩)
 by_cases k0:k=0
 ·subst k0
  refine call_meets F.slot_tuple_mul ⟨_,ho,rfl⟩ F.entry_tuple_mul (F.args_tuple_mul_2 _ _) (ZjB a its.toArray n dd sl t hem) ⟨ho,?_⟩
  exact⟨.ref s.heap.objs.size,_,I.laid (t':=s.toks) (o:=.tup []) (fun b ob q=>Zn _ q) (Zq _) ⟨Nat.zero_le _,[],.nil,IsTup.new _ _⟩,rfl,q _ _ (Same.upd (I.hok.fresh (Zq _))) (by rw[Zt];rfl)⟩
 by_cases k1:k=1
 ·subst k1
  refine call_meets F.slot_tuple_mul ⟨_,ho,rfl⟩ F.entry_tuple_mul (F.args_tuple_mul_2 _ _) (ZjA a its.toArray n dd sl t) ⟨ho,?_⟩
  exact⟨.ref a,H,I,rfl,q _ _ (Same.refl H) (by rw[ha];simp)⟩
 ·refine call_meets F.slot_tuple_mul ⟨_,ho,rfl⟩ F.entry_tuple_mul (F.args_tuple_mul_2 _ _) (Zjz a its.toArray n dd sl k t ?_ ?_ ?_ ?_ ?_ ?_) ⟨ho,?_⟩
  ·simp only[Bool.or_eq_true,decide_eq_true_eq,not_or];omega
  ·rw[hem];simp;omega
  ·rw[hem];simp;omega
  ·rw[Zh,<-hl]
   have:((xs.length*k:Nat):Int)<=1000000:=by omega
   rw[Int.natCast_mul] at this
   omega
  ·unfold Builtin.Tuple.tupleTooMany
   rw[Zh,<-hl]
   have:((xs.length*k:Nat):Int)<=1000000:=by omega
   rw[Int.natCast_mul] at this
   simp only[decide_eq_true_eq]
   omega
  ·rw[fl,Zh,flen,<-hl,Nat.mul_comm];omega
  ·rw[fl]
   exact⟨.ref s.heap.objs.size,_,I.laid (t':=s.toks) (o:=.tup (List.replicate k xs).flatten) (fun b ob q=>Zn _ q) (Zq _) ⟨by rw[Zcs,Nat.mul_comm];omega,_,ZB.repl r1 k,IsTup.new _ _⟩,rfl,q _ _ (Same.upd (I.hok.fresh (Zq _))) Zt⟩
end
theorem gT {te:TE}{N:St->Hp->Prop}{Kt:St->V->Hp->Prop}{x:V}{v0:Option V}{cs:St}{H:Hp}(h:te (some x::cs) H (Kt (some x::cs))):Yg 0 x (v0::cs) H fun σ3 H3=>WG σ3 H3 fun b H4=>if b=true then te σ3 H4 (Kt σ3) else N σ3 H4:=by
 show if true=true then te (some x::cs) H (Kt (some x::cs)) else N (some x::cs) H
 rw[if_pos rfl];exact h
theorem Jx {J:It}{own:List Str}{caps:List Nat}{te:TE}{σ:St}{H:Hp}{Q:VK}{xs:List V}(G:Addr->Nat->List V->Hp->Prop)(cs:St)(hcs:Jz own caps σ=none::cs)(hz:xs.length<=1000000)
  (S:∀D i ys H',H D=none->H' D=some (.lst ys)->G D i ys H'->(i<xs.length->J.go i H'/\∀x H2,J.yld i H' x H2->H2=H'/\xs[i]?=some x)/\(i=xs.length->J.stop i H'))
  (h0:∀D,H D=none->G D 0 [] (upd H D (.lst [])))
  (hs:∀D (i:Nat) x ys H',H D=none->H' D=some (.lst ys)->xs[i]?=some x->G D i ys H'->∀R:VK,(∀v H5,H5 D=some (.lst ys)->G D (i+1) (ys++[v]) (upd H5 D (.lst (ys++[v])))->R v H5)->te (some x::cs) H' R)
  (hd:∀D ys H',H D=none->H' D=some (.lst ys)->ys.length=xs.length->G D xs.length ys H'->Q (.ref D) H'):WX own caps (Yg 0) WG te σ Q J H:=by
 intro D hD
 refine⟨fun i m σ' H'=>m=xs.length-i/\i<=xs.length/\(∃v0,σ'=v0::cs)/\∃ys,H' D=some (.lst ys)/\ys.length=i/\G D i ys H',⟨_,rfl,Nat.zero_le _,⟨none,hcs⟩,[],Zt,rfl,h0 D hD⟩,?_⟩
 rintro i m σ' H' ⟨rfl,hi,⟨v0,rfl⟩,ys,hl,hy,g⟩
 obtain⟨S1,S2⟩:=S D i ys H' hD hl g
 by_cases hlt:i<xs.length
 ·refine .inr ⟨(S1 hlt).1,_,fun σ2 H2 z=>z,fun x H2 y=>?_⟩
  obtain⟨rfl,hx⟩:=(S1 hlt).2 x H2 y
  refine gT ?_
  refine hs D i x ys H2 hD hl hx g _ fun v H5 h5 g5=>⟨ys,h5,?_,xs.length-(i+1),by omega,rfl,hlt,⟨_,rfl⟩,ys++[v],Zt,by rw[Zd];simp[hy],g5⟩
  have:(16777216:Nat)=sizeLine:=by decide
  omega
 ·have e:i=xs.length:=by omega
  exact .inl ⟨S2 e,hd D ys H' hD hl (by omega) (e▸g)⟩
theorem Zku {X:Cx}(i:Nat)(own:List Str)(caps:List Nat)(N':List Str){scope:Scope}{elt iter tg:Expr}{ifs:List Expr}{pos spos py:Pos}{y:Str}{wi:TI}{g:TG}{tc:TT}{te:TE}(hc:X.calm=true)(hf:X.fn y=true)(hi:PI X tg iter wi)
  (hg:∀cl C s H ex,PG (Yk X scope cl N' C s H ex) tg g) (ht:∀cl C s H ex,PIf (Yk X scope cl N' C s H ex) ifs tc) (he:∀cl C s H ex,PE (Yk X scope cl N' C s H ex) elt te)
  (hS:Uv X.N X.env.scope own caps N' scope=true:=by kernel_rfl) (hy:X.N[i]?=some y:=by rfl) (hN:Wa X.N=true:=by kernel_rfl) (hx:Vt X.env.scope y=true:=by kernel_rfl)
  (hsw:swapsWith (.ListComp elt [⟨tg,iter,ifs,0⟩] scope pos) (some (.Name y py)) spos.line X.env=pure true:=by rfl) (hs:∀x,foldedSetIterable iter X.env x=pure x:=by intro _;rfl) :
  PS X (.Assign [.Name y py] (.ListComp elt [⟨tg,iter,ifs,0⟩] scope pos) spos) (ZcS (ZbP own caps wi g tc te) (Yg i)):=Zbf rfl (.of hS) hc hi hg ht he (Z6 hN) hy (Wi hx) (.inl hf) hsw hs
end L2
namespace HT
open PySem PyProof.Rows
section
variable {prog:Program}{w:World}{A:Around}{E:Value->Shared->Prop}{s:Shared}
end
end HT
namespace L2
open PySem PySem.Spec PyProof.Rows
section
variable {X:Cx}{e:Expr}{te ts:TE}{st:Expr}{pos p2:Pos}
end
end L2
namespace HT
open PySem PyProof.Rows
section
variable {prog:Program}{w:World}{A:Around}{E:Value->Shared->Prop}{s:Shared}
end
end HT
namespace L2
open PySem PySem.Spec PyProof.Rows
section
variable {X:Cx}
end
end L2
namespace PyS
open PySem PySem.SetTable
def WE (p:Array Nat):Prop:=p.toList.Pairwise (· < ·)
theorem WE.lt {p:Array Nat}(h:WE p){i j:Nat}{x y:Nat}(hij:i<j)(hi:p[i]?=some x)(hj:p[j]?=some y):x<y:=by
 rw[<-Array.getElem?_toList] at hi hj
 obtain⟨li,rfl⟩:=List.getElem?_eq_some_iff.mp hi
 obtain⟨lj,rfl⟩:=List.getElem?_eq_some_iff.mp hj
 exact List.pairwise_iff_getElem.mp h i j li lj hij
structure ZbL (p:Array Nat)(j k:Nat):Prop where
 le:k<=p.size
 lo:∀i x,i<k->p[i]?=some x->x<j
 hi:∀i x,k<=i->p[i]?=some x->j<=x
theorem Zbs {p:Array Nat}(h:WE p)(j:Nat):∀(fuel lo hi:Nat),lo<=hi->hi<=p.size->hi-lo<=fuel->(∀i x,i<lo->p[i]?=some x->x<j)->(∀i x,hi<=i->p[i]?=some x->j<=x)->ZbL p j (below.go p j fuel lo hi)
 |0,lo,hi,h1,h2,h3,h4,h5=>by
  have:lo=hi:=by omega
  subst this
  exact⟨h2,h4,h5⟩
 |fuel+1,lo,hi,h1,h2,h3,h4,h5=>by
  unfold below.go
  by_cases hlt:lo<hi
  ·rw[if_pos hlt]
   dsimp only
   have hm:(lo+hi) / 2<p.size:=by omega
   have em:p[(lo+hi) / 2]?=some p[(lo+hi) / 2]:=Array.getElem?_eq_getElem hm
   have eg:p.getD ((lo+hi) / 2) j=p[(lo+hi) / 2]:=by rw[Array.getD_eq_getD_getElem?,em];rfl
   rw[eg]
   by_cases hc:p[(lo+hi) / 2]<j
   ·rw[if_pos hc]
    refine Zbs h j fuel _ _ (by omega) h2 (by omega) (fun i x hi' e=>?_) h5
    by_cases e1:i=(lo+hi) / 2
    ·subst e1
     rw[em] at e
     cases e
     exact hc
    ·exact Nat.lt_trans (h.lt (by omega) e em) hc
   ·rw[if_neg hc]
    refine Zbs h j fuel _ _ (by omega) (by omega) (by omega) h4 fun i x hi' e=>?_
    by_cases e1:i=(lo+hi) / 2
    ·subst e1
     rw[em] at e
     cases e
     omega
    ·have:=h.lt (by omega) em e
     omega
  ·rw[if_neg hlt]
   have:lo=hi:=by omega
   subst this
   exact⟨h2,h4,h5⟩
theorem W6 {p:Array Nat}(h:WE p)(j:Nat):ZbL p j (below p j):=Zbs h j _ _ _ (Nat.zero_le _) (Zq _) (by omega) (fun i x hi=>absurd hi (Nat.not_lt_zero _)) (fun i x hi e=>by
 rw[Array.getElem?_eq_none hi] at e
 cases e)
theorem ZbL.uniq {p:Array Nat}{j k k':Nat}(a:ZbL p j k)(b:ZbL p j k'):k=k':=by
 have key:∀{k k':Nat},ZbL p j k->ZbL p j k'->¬k<k':=fun {k k'} a b hlt=>by
  have hs:k<p.size:=Nat.lt_of_lt_of_le hlt b.le
  have e:p[k]?=some p[k]:=Array.getElem?_eq_getElem hs
  have h1:=b.lo k _ hlt e
  have h2:=a.hi k _ (Zq _) e
  omega
 have:=key a b
 have:=key b a
 omega
theorem WE.insert {p:Array Nat}(h:WE p){j:Nat}(hn:p[below p j]?≠some j):WE (insertAt p (below p j) j):=by
 have c:=W6 h j
 generalize below p j=k at c hn
 unfold WE
 rw[toList_insertAt]
 have hm:∀y∈p.toList.take k,y<j:=fun y hy=>by
  obtain⟨i,hi,rfl⟩:=List.mem_take_iff_getElem.mp hy
  have:i<p.size:=by rw[<-Zr];omega
  exact c.lo i _ (by omega) (by rw[Array.getElem?_eq_getElem this];simp)
 have hd:∀y∈p.toList.drop k,j<y:=fun y hy=>by
  obtain⟨i,hi,rfl⟩:=List.mem_drop_iff_getElem.mp hy
  have hs:k+i<p.size:=by rw[Zr] at hi;omega
  have h1:=c.hi (k+i) p[k+i] (by omega) (by rw[Array.getElem?_eq_getElem hs])
  have h2:p[k+i]≠j:=fun z=>by
   by_cases e:i=0
   ·subst e
    exact hn (by rw[<-z];exact Array.getElem?_eq_getElem (by simpa using hs))
   ·have hk:k<p.size:=by omega
    have h3:=h.lt (i:=k) (j:=k+i) (by omega) (Array.getElem?_eq_getElem hk) (Array.getElem?_eq_getElem hs)
    have h4:=c.hi k _ (Zq _) (Array.getElem?_eq_getElem hk)
    omega
  show j<p.toList[k+i]
  rw[Array.getElem_toList]
  omega
 rw[List.pairwise_append]
 refine⟨List.Pairwise.sublist (List.take_sublist k _) h,?_,fun a ha b hb=>?_⟩
 ·rw[List.pairwise_cons]
  exact⟨hd,List.Pairwise.sublist (List.drop_sublist k _) h⟩
 ·rcases List.mem_cons.mp hb with hb|hb
  ·rw[hb];exact hm a ha
  ·exact Nat.lt_trans (hm a ha) (hd b hb)
theorem JU {t:SetTable}(hd:t.dummies=#[]){hashAt:Nat->Int}{h:Int}:∀(fuel:Nat) (p:Probe),p.dummy=none->∀{j:Nat}{d:Option Nat},probe.go t hashAt h fuel p=some (.empty j d)->t.slot j=.empty/\d=none
 |0,p,_,j,d,e=>by
  unfold probe.go at e
  cases e
 |fuel+1,p,hp,j,d,e=>by
  unfold probe.go at e
  cases hs:t.slot p.j with
  |empty=>
   rw[hs] at e
   dsimp only at e
   have e:=Option.some.inj e
   injection e with e1 e2
   subst e1
   exact⟨hs,by rw[<-e2];exact hp⟩
  |dummy=>
   exfalso
   unfold SetTable.slot at hs
   dsimp only at hs
   split at hs
   ·cases hs
   ·split at hs
    ·rename_i hh
     unfold has at hh
     rw[hd] at hh
     simp at hh
    ·cases hs
  |live i=>
   rw[hs] at e
   dsimp only at e
   split at e
   ·cases e
   ·refine JU hd fuel _ ?_ e
    unfold advance
    split
    ·exact hp
    ·exact hp
theorem Zdn {t:SetTable}(hd:t.dummies=#[]){h:Int}{j:Nat}{b:Bool}(e:t.freeSlot h=some (j,b)):t.place[below t.place j]?≠some j:=by
 unfold SetTable.freeSlot at e
 split at e
 ·rename_i j' d' e'
  have e:=Option.some.inj e
  injection e with e1 e2
  obtain⟨h1,h2⟩:=JU hd _ _ rfl e'
  subst h2
  have e1:j'=j:=e1
  subst e1
  unfold SetTable.slot at h1
  dsimp only at h1
  split at h1
  ·cases h1
  ·rename_i hne
   intro z
   exact hne (by rw[z];simp)
 ·cases e
structure Wk (t:SetTable)(led:Bool):Prop where
 rise:WE t.place
 dum:t.dummies=#[]
 led:t.led=led
theorem Zba (n:Nat):WE (Array.range n):=by
 unfold WE
 rw[Array.toList_range]
 exact List.pairwise_lt_range
theorem Wk.standIn {t:SetTable}{led:Bool}(h:t.led=led)(n:Nat):Wk (t.standIn n) led:=⟨Zba n,rfl,h⟩
theorem Wk.lay {t:SetTable}{led:Bool}(W:Wk t led)(es:Array (Int×Value))(h:Int)(x:Value):Wk (layNew t es h x).2.1 led:=by
 unfold layNew
 split
 ·rename_i slot was e
  dsimp only
  have hne:=Zdn W.dum e
  have hp:Wk (t.put slot).1 led:=by
   unfold put
   dsimp only
   refine⟨W.rise.insert hne,?_,W.led⟩
   dsimp only
   rw[W.dum]
   unfold has
   simp
  unfold SetTable.orStandIn
  split
  ·exact hp
  ·exact .standIn hp.led _
 ·exact .standIn W.led _
theorem V4 {n:Nat}(g:Nat->Option Nat):(((List.range n).filterMap fun j=>(g j).map (j,·)).map (·.1)).Pairwise (· < ·):=by
 have e:∀l:List Nat,(l.filterMap fun j=>(g j).map (j,·)).map (·.1)=l.filter fun j=>(g j).isSome:=fun l=>by
  induction l with
  |nil=>rfl
  |cons a l ih=>
   rw[List.filterMap_cons,List.filter_cons]
   cases h:g a with
   |none=>rw[Option.map_none];dsimp only;rw[ih];rfl
   |some b=>rw[Option.map_some];dsimp only;rw[List.map_cons,ih];rfl
 rw[e]
 exact List.Pairwise.sublist List.filter_sublist List.pairwise_lt_range
theorem Wk.relay {t:SetTable}{led:Bool}(W:Wk t led)(es:Array (Int×Value))(wanted:Nat):Wk (relayAll t es wanted).2.1 led:=by
 unfold relayAll
 split
 ·rename_i t' order e
  dsimp only
  split
  ·dsimp only
   unfold relaid laid at e
   cases ho:layClean (sizeAbove wanted-1) (es.map (·.1)) with
   |none=>rw[ho] at e;cases e
   |some owner=>
    rw[ho] at e
    have e:=Option.some.inj e
    injection e with e1 e2
    subst e1
    refine⟨?_,rfl,W.led⟩
    unfold WE
    exact V4 _
  ·exact .standIn W.led _
 ·exact .standIn W.led _
theorem Wk.plain {t:SetTable}{led:Bool}(W:Wk t led)(b:Bool):Wk {t with plain:=b} led:=⟨W.rise,W.dum,W.led⟩
theorem Wk.fresh (led:Bool):Wk (SetTable.fresh 0 0 led) led:=⟨List.Pairwise.nil,rfl,rfl⟩
theorem Zck {p:Array Nat}(h:WE p){i:Nat}{slot:Nat}(hi:i<=p.size)(hs:(i=0/\slot=0)\/(∃j x,i=j+1/\p[j]?=some x/\slot=x+1)):below p slot=i:=by
 refine (W6 h slot).uniq ⟨hi,fun k x hk e=>?_,fun k x hk e=>?_⟩
 ·rcases hs with ⟨rfl,_⟩|⟨j,y,rfl,ey,rfl⟩
  ·omega
  ·by_cases e1:k=j
   ·subst e1
    rw[ey] at e
    cases e
    omega
   ·have:=h.lt (by omega) e ey
    omega
 ·rcases hs with ⟨_,rfl⟩|⟨j,y,rfl,ey,rfl⟩
  ·omega
  ·have:=h.lt (by omega) ey e
   omega
theorem Jf {α:Type}:∀{l:List α}{i:Nat}{x:α},l[i]?=some x->List.Perm (x::l.eraseIdx i) l
 | [],i,x,e=>by cases e
 |a::l,0,x,e=>by cases e;exact List.Perm.refl _
 |a::l,i+1,x,e=>by
  rw[List.getElem?_cons_succ] at e
  rw[List.eraseIdx_cons_succ]
  exact (List.Perm.swap a x _).trans ((Jf e).cons a)
theorem Vj {α:Type}(next:Nat->Nat):∀(fuel k:Nat) (left:List α) (out:Array α),left.length<=fuel->List.Perm (pickOrder.go next fuel k left out).toList (out.toList++left)
 |0,k,left,out,h=>by
  have:left=[]:=List.length_eq_zero_iff.mp (by omega)
  subst this
  unfold pickOrder.go
  rw[List.append_nil]
 |fuel+1,k,left,out,h=>by
  unfold pickOrder.go
  split
  ·rename_i x e
   have hl:=(List.getElem?_eq_some_iff.mp e).1
   refine (Vj next fuel (k+1) _ _ (by rw[List.length_eraseIdx];split <;> omega)).trans ?_
   rw[Array.toList_push,List.append_assoc]
   refine List.Perm.append_left _ ?_
   exact Jf e
  ·rename_i e
   have:left=[]:=by
    rcases left with _|⟨a,l⟩
    ·rfl
    ·exfalso
     rw[List.getElem?_eq_none_iff] at e
     have:=Nat.mod_lt (next k) (show 0<(a::l).length by rw[Zi];omega)
     omega
   subst this
   rw[List.append_nil]
theorem YZ {α:Type}(next:Nat->Nat)(xs:Array α):List.Perm (pickOrder next xs).toList xs.toList:=by
 unfold pickOrder
 have:=Vj next xs.size 0 xs.toList #[] (by rw[Zr];exact Zq _)
 simpa using this
end PyS
namespace PyS
open PySem
theorem ZL:Slot "set_iterator" "__next__" "set_iterator.__next__":=
 .of (owner:="set_iterator") (n:="__next__") (by rw[typeLookup_type,builtinLookup_eq_fast];kernel_rfl) (by decide +kernel) (by decide +kernel) (by decide +kernel)
  (by first|exact .inl (by decide +kernel)|exact .inr (by decide +kernel)) (by rw[isSubtype_type];kernel_rfl)
theorem YH:entryFor table "set_iterator.__next__"=some Builtin.«set_iterator.__next__»:=entryFor_of_tree (by kernel_rfl)
theorem Zab:Manifest.owners.lookup (String.ofList ['r','o','t','a','r','e','t','i','_','t','e','s'].reverse)=some Manifest.sig_set_iterator:=by kernel_rfl
theorem YV (a:Value):argsOk "set_iterator.__next__" ⟨[a],[]⟩:=by
 unfold argsOk;rw[signature?_of (id:="set_iterator.__next__") (n:=['_','_','t','x','e','n','_','_']) (o:=['r','o','t','a','r','e','t','i','_','t','e','s']) (by kernel_rfl) Zab];kernel_rfl
theorem Jn:Slot "set_iterator" "__iter__" "set_iterator.__iter__":=
 .of (owner:="set_iterator") (n:="__iter__") (by rw[typeLookup_type,builtinLookup_eq_fast];kernel_rfl) (by decide +kernel) (by decide +kernel) (by decide +kernel)
  (by first|exact .inl (by decide +kernel)|exact .inr (by decide +kernel)) (by rw[isSubtype_type];kernel_rfl)
theorem X1:entryFor table "set_iterator.__iter__"=some Builtin.«dict_keyiterator.__iter__»:=entryFor_alias (id':="dict_keyiterator.__iter__") (by kernel_rfl) rfl (by decide +kernel) (by kernel_rfl)
theorem UB (a:Value):argsOk "set_iterator.__iter__" ⟨[a],[]⟩:=by
 unfold argsOk;rw[signature?_of (id:="set_iterator.__iter__") (n:=['_','_','r','e','t','i','_','_']) (o:=['r','o','t','a','r','e','t','i','_','t','e','s']) (by kernel_rfl) Zab];kernel_rfl
theorem XI:entryFor table "set.__iter__"=some Builtin.«frozenset.__iter__»:=entryFor_alias (id':="frozenset.__iter__") (by kernel_rfl) rfl (by decide +kernel) (by kernel_rfl)
def Wl (h:Heap)(a:Addr)(es:Array (Int×Value))(ep:Nat)(t:SetTable):Prop:=∃o,h.get? a=some o/\o.ExactSet/\o.data=.set es ep t/\t.fits es.size=true
def Yp (h:Heap)(I:Addr)(first:Value)(i:Nat)(a:Addr)(n ep:Nat):Prop:=∃o,h.get? I=some o/\o.cls=.type "set_iterator"/\o.data=.fields #[first,.int i 0,.ref a,.int n 0,.int ep 0]
theorem Wl.keep {h h':Heap}{a:Addr}{es:Array (Int×Value)}{ep:Nat}{t:SetTable}(S:Wl h a es ep t)(k:∀o,h.get? a=some o->h'.get? a=some o):Wl h' a es ep t:=let ⟨o,e,r⟩:=S;⟨o,k o e,r⟩
theorem Yp.keep {h h':Heap}{I:Addr}{first:Value}{i:Nat}{a:Addr}{n ep:Nat}(S:Yp h I first i a n ep)(k:∀o,h.get? I=some o->h'.get? I=some o):Yp h' I first i a n ep:=let ⟨o,e,r⟩:=S;⟨o,k o e,r⟩
section
variable {prog:Program}{w:World}{A:Around}{E:Value->Shared->Prop}{s:Shared}{I a:Addr}{es:Array (Int×Value)}{ep:Nat}{t:SetTable}{first:Value}{i n:Nat}
theorem Yp.typeIs (h:Yp s.heap I first i a n ep):s.TypeIs (.ref I) "set_iterator":=let ⟨o,e,c,_⟩:=h;⟨o,e,c⟩
theorem Wl.typeIs (h:Wl s.heap a es ep t):s.TypeIs (.ref a) "set":=let ⟨o,e,c,_⟩:=h;⟨o,e,c.1⟩
theorem Wl.state (h:Wl s.heap a es ep t){Q:(Array (Int×Value)×Nat×SetTable)->Shared->Prop}(q:Q (es,ep,t) s):wpAny (model prog w) A (setState a) Q E s:=let ⟨_,e,_,d,f⟩:=h;wpAny_setState_of e d f q
theorem Wl.entries (h:Wl s.heap a es ep t){Q:Array (Int×Value)->Shared->Prop}(q:Q es s):wpAny (model prog w) A (setEntries a) Q E s:=by
 unfold setEntries
 exact Zl (h.state (Zm q))
theorem Wl.epoch (h:Wl s.heap a es ep t){Q:Nat->Shared->Prop}(q:Q ep s):wpAny (model prog w) A (setEpoch a) Q E s:=by
 unfold setEpoch
 exact Zl (h.state (Zm q))
theorem Uy {Q:Bool->Shared->Prop}(q:Q (w.params.followText "set-order") s):wpAny (model prog w) A setsByText Q E s:=by
 unfold setsByText
 exact Zl (wpAny_askSetting (Zm q))
theorem Yp.turn {h:Heap}{o:Obj}(e:h.get? I=some o)(c:o.cls=.type "set_iterator")(d:o.data=.fields #[first,.int i 0,.ref a,.int n 0,.int ep 0])(next:Value) :
  Yp ((h.update I (Obj.mapFields (·.setIfInBounds 0 next))).update I (Obj.mapFields (·.setIfInBounds 1 (rawInt ((i:Int)+1))))) I next (i+1) a n ep:=by
 have h1:=Heap.get?_update_self (Obj.mapFields (·.setIfInBounds 0 next)) e (Obj.isFreed_of_fields (Obj.data_mapFields d _))
 have d1:=Obj.data_mapFields d (·.setIfInBounds 0 next)
 refine⟨_,Heap.get?_update_self _ h1 (Obj.isFreed_of_fields (Obj.data_mapFields d1 _)),?_,?_⟩
 ·rw[Obj.cls_mapFields,Obj.cls_mapFields,c]
 ·rw[Obj.data_mapFields d1]
  simp[rawInt]
theorem Zaj {slot:Nat}{Q:Option Value->Shared->Prop}(hI:Yp s.heap I (.int slot 0) i a n ep)(hS:Wl s.heap a es ep t)(hn:es.size=n){x:Value}{nx:Nat}
  (hN:∀{R:Option (Value×Nat)->Shared->Prop}{A':Around}{E':Value->Shared->Prop},R (some (x,nx)) s->wpAny (model prog w) A' (setNext a slot i ep) R E' s)
  (q:∀h',Yp h' I (.int nx 0) (i+1) a n ep->Heap.SameBut I s.heap h'->Q (some x) {s with heap:=h'}):wpAny (model prog w) A (pyNext (.ref I)) Q E s:=by
 obtain⟨o,e,c,d⟩:=id hI
 unfold pyNext
 refine Zl (wpAny_attempt (wpAny_callSpecial?_slot (name:=Str.ofString "__next__") hI.typeIs ZL (wpAny_call_entry ZL hI.typeIs YH ?_ (YV _))))
 unfold Builtin.«set_iterator.__next__»
 refine Zl (Zm ?_)
 refine Zl (wpAny_fieldsOf e d ?_)
 refine Zl (hS.entries ?_)
 rw[hn]
 rw[if_neg (by simp)]
 show wpAny _ _ (setNext a slot i ep >>= _) _ _ s
 refine Zl (hN ?_)
 dsimp only
 refine Zl (wpAny_setField e d (by simp) ?_)
 have h1:=Heap.get?_update_self (Obj.mapFields (·.setIfInBounds 0 (rawInt nx))) e (Obj.isFreed_of_fields (Obj.data_mapFields d _))
 have d1:=Obj.data_mapFields d (·.setIfInBounds 0 (rawInt nx))
 refine Zl (wpAny_setField h1 d1 (by simp) ?_)
 exact Zm ⟨_,rfl,Zm (q _ (Yp.turn e c d _) ((Heap.SameBut.update ..).trans (Heap.SameBut.update ..)))⟩
theorem UN {h:Heap}{Q:Option Value->Shared->Prop}{F:Fin->Shared->Prop}(hh:A.handled=none)(q:∀h',(∀b o,h.get? b=some o->h'.get? b=some o)->Q none {s with heap:=h'}) :
  wpAny (model prog w) A.in1 (do let x <-newExc (.type "StopIteration") [];raiseNew (α:=Fin) x) F (fun e s'=>wpAny (model prog w) A (do let b <-isInstance e (.type "StopIteration");if b=true then pure none else throw e) Q E s') {s with heap:=h}:=by
 refine Zl ?_
 unfold newExc newTuple
 refine Zl (wpAny_newObj_type (Q:=_) ?_ (by size_fits))
 refine Zl (m:=firstArgMember _ _) (wpAny_of_eq (a:=Value.none) (by first|rfl|(unfold firstArgMember;rfl)) ?_)
 refine wpAny_newObj_type (Q:=_) ?_ (by size_fits)
 unfold raiseNew
 refine Zl (wpAny_handled ?_)
 rw[show A.in1.handled=none from hh]
 refine Zl (Zm (wpAny_throw ?_))
 refine Zl (wpAny_isInstance (T:="StopIteration") (b:=true) ⟨_,Zo _ rfl,rfl⟩ isSubtype_stop ?_)
 exact Zm (q _ fun b o e=>Zn _ (Zn _ e))
theorem ZcA {slot:Nat}{Q:Option Value->Shared->Prop}(hh:A.handled=none)(hI:Yp s.heap I (.int slot 0) i a n ep)(hS:Wl s.heap a es ep t)(hn:es.size=n)
  (hN:∀{R:Option (Value×Nat)->Shared->Prop}{A':Around}{E':Value->Shared->Prop},R none s->wpAny (model prog w) A' (setNext a slot i ep) R E' s)
  (q:∀h',(∀b o,b≠I->s.heap.get? b=some o->h'.get? b=some o)->Q none {s with heap:=h'}):wpAny (model prog w) A (pyNext (.ref I)) Q E s:=by
 obtain⟨o,e,c,d⟩:=id hI
 unfold pyNext
 refine Zl (wpAny_attempt (wpAny_callSpecial?_slot (name:=Str.ofString "__next__") hI.typeIs ZL (wpAny_call_entry ZL hI.typeIs YH ?_ (YV _))))
 unfold Builtin.«set_iterator.__next__»
 refine Zl (Zm ?_)
 refine Zl (wpAny_fieldsOf e d ?_)
 refine Zl (hS.entries ?_)
 rw[hn]
 rw[if_neg (by simp)]
 show wpAny _ _ (setNext a slot i ep >>= _) _ _ s
 refine Zl (hN ?_)
 dsimp only
 refine Zl (wpAny_setField e d (by simp) ?_)
 exact UN hh fun h' k=>q h' fun b o' hb e'=>k b o' ((Heap.SameBut.update s.heap I _).extBut b o' hb e')
theorem Zci (ht:w.params.followText "set-order"=true)(hS:Wl s.heap a es ep t){slot:Nat}{R:Option (Value×Nat)->Shared->Prop}
  (q:R (((pickOrder (w.params.setOrder a ep) es)[i]?).map fun e=>(e.2,slot)) s):wpAny (model prog w) A (setNext a slot i ep) R E s:=by
 unfold setNext
 refine Zl (hS.state ?_)
 dsimp only
 refine Zl (Uy ?_)
 rw[ht,if_pos rfl,if_neg (by simp)]
 refine Zl ?_
 unfold setWalk
 refine Zl (hS.state ?_)
 dsimp only
 refine Zl (Uy ?_)
 rw[ht,if_pos rfl]
 exact Zl (wpAny_askSetting (Zm (Zm q)))
theorem Zaf (ht:w.params.followText "set-order"=false)(hS:Wl s.heap a es ep t)(hd:t.plain=true\/es.size<=1)(hl:t.led=true){slot:Nat}{R:Option (Value×Nat)->Shared->Prop}
  (q:R (match es[SetTable.below t.place slot]?,t.place[SetTable.below t.place slot]? with|some (_,x),some j=>some (x,j+1)|_,_=>none) s):wpAny (model prog w) A (setNext a slot i ep) R E s:=by
 unfold setNext
 refine Zl (hS.state ?_)
 dsimp only
 refine Zl (Uy ?_)
 rw[ht,if_neg (by decide)]
 show wpAny _ _ (if (!t.plain && decide (es.size > 1))=true then _ else _) _ _ s
 rw[if_neg (by
  rcases hd with hd|hd
  ·rw[hd];simp
  ·rw[decide_eq_false (by omega),Bool.and_false];decide)]
 show wpAny _ _ ((if (!t.led && !es.isEmpty)=true then _ else _) >>= _) _ _ s
 rw[hl]
 exact Zl (Zm (Zm q))
theorem Zbn {T0:Addr}{ps:Array Value}{pl:Nat}{Q:Option Value->Shared->Prop}(hI:Yp s.heap I (.ref T0) i a n ep)(hT:∃o k,s.heap.get? T0=some o/\o.data=.seq ps k)(hS:Wl s.heap a es ep t)(hn:es.size=n)(hp:ps[i]?=some (.int pl 0)){h:Int}{x:Value}(hx:es[pl]?=some (h,x))
  (q:∀h',Yp h' I (.ref T0) (i+1) a n ep->Heap.SameBut I s.heap h'->Q (some x) {s with heap:=h'}):wpAny (model prog w) A (pyNext (.ref I)) Q E s:=by
 obtain⟨o,e,c,d⟩:=id hI
 obtain⟨ot,k,et,dt⟩:=hT
 unfold pyNext
 refine Zl (wpAny_attempt (wpAny_callSpecial?_slot (name:=Str.ofString "__next__") hI.typeIs ZL (wpAny_call_entry ZL hI.typeIs YH ?_ (YV _))))
 unfold Builtin.«set_iterator.__next__»
 refine Zl (Zm ?_)
 refine Zl (wpAny_fieldsOf e d ?_)
 refine Zl (hS.entries ?_)
 rw[hn]
 rw[if_neg (by simp)]
 show wpAny _ _ (seqItems? (.ref T0) >>= _) _ _ s
 refine Zl (wpAny_seqItems et dt ?_)
 dsimp only
 rw[Zj,hp]
 show wpAny _ _ (setNextDrawn a pl ep >>= _) _ _ s
 refine Zl ?_
 unfold setNextDrawn
 refine Zl (hS.state ?_)
 dsimp only
 rw[if_neg (by simp),hx]
 refine Zm ?_
 refine Zl (wpAny_setField e d (by simp) ?_)
 refine Zm ⟨_,rfl,Zm (q _ ⟨_,Heap.get?_update_self _ e (Obj.isFreed_of_fields (Obj.data_mapFields d _)),?_,?_⟩ (Heap.SameBut.update ..))⟩
 ·rw[Obj.cls_mapFields,c]
 ·rw[Obj.data_mapFields d]
  simp[rawInt]
theorem Zdq {T0:Addr}{ps:Array Value}{Q:Option Value->Shared->Prop}(hh:A.handled=none)(hI:Yp s.heap I (.ref T0) i a n ep)(hT:∃o k,s.heap.get? T0=some o/\o.data=.seq ps k)(hS:Wl s.heap a es ep t)(hn:es.size=n)(hp:ps[i]?=none)
  (q:∀h',(∀b o,b≠I->s.heap.get? b=some o->h'.get? b=some o)->Q none {s with heap:=h'}):wpAny (model prog w) A (pyNext (.ref I)) Q E s:=by
 obtain⟨o,e,c,d⟩:=id hI
 obtain⟨ot,k,et,dt⟩:=hT
 unfold pyNext
 refine Zl (wpAny_attempt (wpAny_callSpecial?_slot (name:=Str.ofString "__next__") hI.typeIs ZL (wpAny_call_entry ZL hI.typeIs YH ?_ (YV _))))
 unfold Builtin.«set_iterator.__next__»
 refine Zl (Zm ?_)
 refine Zl (wpAny_fieldsOf e d ?_)
 refine Zl (hS.entries ?_)
 rw[hn]
 rw[if_neg (by simp)]
 show wpAny _ _ (seqItems? (.ref T0) >>= _) _ _ s
 refine Zl (wpAny_seqItems et dt ?_)
 dsimp only
 rw[Zj,hp]
 dsimp only
 refine Zl (wpAny_setField e d (by simp) ?_)
 have h1:=Heap.get?_update_self (Obj.mapFields (·.setIfInBounds 0 (rawInt 0))) e (Obj.isFreed_of_fields (Obj.data_mapFields d _))
 have d1:=Obj.data_mapFields d (·.setIfInBounds 0 (rawInt 0))
 refine Zl (wpAny_setField h1 d1 (by simp) ?_)
 exact UN hh fun h' k=>q h' fun b o' hb e'=>k b o' (((Heap.SameBut.update s.heap I _).trans (Heap.SameBut.update _ I _)).extBut b o' hb e')
theorem Zdz {src:Source}{m:Nat}{Q:Nat->Shared->Prop}(hm:m≠0)(q:∀k dr,k<m->Q k {s with drawn:=dr}):wpAny (model prog w) A (choose src m) Q E s:=fun _ _ _=>⟨hm,q _ _ (Nat.mod_lt _ (by omega))⟩
theorem Vy {α:Type}:∀(m:Nat) (xs:List α) {s:Shared}{Q:List α->Shared->Prop},xs.length<=m->(∀ys dr,List.Perm ys xs->Q ys {s with drawn:=dr})->wpAny (model prog w) A (drawOrder m xs) Q E s
 |0,xs,s,Q,h,q=>by
  have:xs=[]:=List.length_eq_zero_iff.mp (by omega)
  subst this
  unfold drawOrder
  exact Zm (q [] s.drawn (List.Perm.refl _))
 |m+1,[],s,Q,h,q=>by
  unfold drawOrder
  exact Zm (q [] s.drawn (List.Perm.refl _))
 |m+1,x::xs,s,Q,h,q=>by
  unfold drawOrder
  refine Zl (Zdz (by rw[Zi];omega) fun k dr hk=>?_)
  rw[Zf hk]
  dsimp only
  refine Zl (Vy m _ (by rw[List.length_eraseIdx,if_pos hk];omega) fun ys dr' hp=>Zm ?_)
  exact q _ dr' ((hp.cons _).trans (Jf (Zf hk)))
end
section
variable {prog:Program}{w:World}{A:Around}{E:Value->Shared->Prop}{s:Shared}{I a:Addr}{es:Array (Int×Value)}{ep:Nat}{t:SetTable}{first:Value}{i n:Nat}
theorem VP {Q:Value->Shared->Prop}(hI:Yp s.heap I first i a n ep)(q:Q (.ref I) s):wpAny (model prog w) A (pyIter (.ref I)) Q E s:=by
 refine wpAny_pyIter_slot hI.typeIs Jn (wpAny_call_entry Jn hI.typeIs X1 ?_ (UB _))
 show wpAny _ _ (ret (.ref I)) _ _ s
 exact Zm ⟨_,rfl, "set_iterator",_,hI.typeIs,ZL.lookup,q⟩
def YC (es:Array (Int×Value)):List Value:=es.toList.map (·.2)
theorem ZcO (hh:A.handled=none)(ht:w.params.followText "set-order"=true)(hne:a≠I) :
  Walks prog w A I [I,a] [I] es.size (fun i v=>((pickOrder (w.params.setOrder a ep) es).toList.map (·.2))[i]?=some v) (fun i h=>Yp h I (.int 0 0) i a es.size ep/\Wl h a es ep t) where
 sub:=fun b hb=>by simp at hb;simp[hb]
 frame:=fun _ _ _ st k=>⟨st.1.keep fun o e=>k I (by simp) o e,st.2.keep fun o e=>k a (by simp) o e⟩
 item:=fun i s Q E hi st hQ=>by
  have hp:=YZ (w.params.setOrder a ep) es
  have hl:(pickOrder (w.params.setOrder a ep) es).size=es.size:=by rw[<-Zr,hp.length_eq,Zr]
  have e:(pickOrder (w.params.setOrder a ep) es)[i]?=some ((pickOrder (w.params.setOrder a ep) es)[i]'(by omega)):=Array.getElem?_eq_getElem (by omega)
  generalize (pickOrder (w.params.setOrder a ep) es)[i]'(by omega)=y at e
  refine Zaj (slot:=0) (x:=y.2) (nx:=0) st.1 st.2 rfl (fun {R A' E'} r=>Zci ht st.2 (by rw[e];exact r)) fun h' i' sb=>?_
  refine hQ y.2 h' s.toks ?_ ⟨i',st.2.keep fun o e=>sb.extBut a o hne e⟩ fun b o hb e=>sb.extBut b o (fun z=>hb (by simp[z])) e
  rw[Zc,Array.getElem?_toList,e]
  rfl
 done:=fun s Q E st hQ=>by
  have hp:=YZ (w.params.setOrder a ep) es
  have hl:(pickOrder (w.params.setOrder a ep) es).size=es.size:=by rw[<-Zr,hp.length_eq,Zr]
  refine ZcA (slot:=0) hh st.1 st.2 rfl (fun {R A' E'} r=>Zci ht st.2 (by rw[Array.getElem?_eq_none (by omega)];exact r)) fun h' k=>hQ h' s.toks fun b o hb e=>k b o (fun z=>hb (by simp[z])) e
 self:=fun _ _ _ _ st hQ=>VP st.1 hQ
theorem ZaV (hh:A.handled=none)(ht:w.params.followText "set-order"=false)(hd:t.plain=true\/es.size<=1)(W:Wk t true)(hne:a≠I) :
  Walks prog w A I [I,a] [I] es.size (fun i v=>(YC es)[i]?=some v) (fun i h=>∃slot:Nat,((i=0/\slot=0)\/(∃j x,i=j+1/\t.place[j]?=some x/\slot=x+1))/\Yp h I (.int slot 0) i a es.size ep/\Wl h a es ep t) where
 sub:=fun b hb=>by simp at hb;simp[hb]
 frame:=fun _ _ _ st k=>by
  obtain⟨slot,h1,h2,h3⟩:=st
  exact⟨slot,h1,h2.keep fun o e=>k I (by simp) o e,h3.keep fun o e=>k a (by simp) o e⟩
 item:=fun i s Q E hi st hQ=>by
  obtain⟨slot,h1,h2,h3⟩:=st
  have hf:t.place.size=es.size:=by
   obtain⟨_,_,_,_,f⟩:=h3
   simp only[SetTable.fits,Bool.and_eq_true,beq_iff_eq] at f
   exact f.1
  have hb:=Zck W.rise (i:=i) (slot:=slot) (by omega) h1
  have e1:es[i]?=some es[i]:=Array.getElem?_eq_getElem hi
  have e2:t.place[i]?=some (t.place[i]'(by omega)):=Array.getElem?_eq_getElem (by omega)
  generalize es[i]=y at e1
  generalize t.place[i]'(by omega)=j at e2
  refine Zaj (slot:=slot) (x:=y.2) (nx:=j+1) h2 h3 rfl (fun {R A' E'} r=>Zaf ht h3 hd W.led (by rw[hb,e1,e2];exact r)) fun h' i' sb=>?_
  refine hQ y.2 h' s.toks ?_ ⟨j+1,.inr ⟨i,j,rfl,e2,rfl⟩,i',h3.keep fun o e=>sb.extBut a o hne e⟩ fun b o hb e=>sb.extBut b o (fun z=>hb (by simp[z])) e
  show (es.toList.map (·.2))[i]?=some y.2
  rw[Zc,Array.getElem?_toList,e1]
  rfl
 done:=fun s Q E st hQ=>by
  obtain⟨slot,h1,h2,h3⟩:=st
  have hf:t.place.size=es.size:=by
   obtain⟨_,_,_,_,f⟩:=h3
   simp only[SetTable.fits,Bool.and_eq_true,beq_iff_eq] at f
   exact f.1
  have hb:=Zck W.rise (i:=es.size) (slot:=slot) (by omega) h1
  refine ZcA (slot:=slot) hh h2 h3 rfl (fun {R A' E'} r=>Zaf ht h3 hd W.led (by rw[hb,Array.getElem?_eq_none (Zq _)];exact r)) fun h' k=>hQ h' s.toks fun b o hb e=>k b o (fun z=>hb (by simp[z])) e
 self:=fun _ _ _ _ st hQ=>by
  obtain⟨slot,h1,h2,h3⟩:=st
  exact VP h2 hQ
theorem ZaW (hh:A.handled=none){T0:Addr}{ps:List Nat}(hp:List.Perm ps (List.range es.size))(hne:a≠I)(hnT:T0≠I) :
  Walks prog w A I [I,a,T0] [I] es.size (fun i v=>(ps.filterMap fun p=>(es[p]?).map (·.2))[i]?=some v) (fun i h=>Yp h I (.ref T0) i a es.size ep/\Wl h a es ep t/\∃o k,h.get? T0=some o/\o.data=.seq (ps.map fun (p:Nat)=>rawInt p).toArray k) where
 sub:=fun b hb=>by simp at hb;simp[hb]
 frame:=fun _ _ _ st k=>by
  obtain⟨h1,h2,o,k0,h3,h4⟩:=st
  exact⟨h1.keep fun o e=>k I (by simp) o e,h2.keep fun o e=>k a (by simp) o e,o,k0,k T0 (by simp) o h3,h4⟩
 item:=fun i s Q E hi st hQ=>by
  obtain⟨h1,h2,h3⟩:=st
  have hl:ps.length=es.size:=by rw[hp.length_eq,Zg]
  have e0:ps[i]?=some (ps[i]'(by omega)):=Zf (by omega)
  have hm:ps[i]'(by omega)<es.size:=List.mem_range.mp (hp.mem_iff.mp (List.getElem_mem _))
  generalize ps[i]'(by omega)=pl at e0 hm
  have e1:es[pl]?=some es[pl]:=Array.getElem?_eq_getElem hm
  generalize es[pl]=y at e1
  obtain⟨hv,x⟩:=y
  refine Zbn (pl:=pl) h1 h3 h2 rfl (by simp[e0,rawInt]) e1 fun h' i' sb=>?_
  obtain⟨o,k0,h3,h4⟩:=h3
  refine hQ x h' s.toks ?_ ⟨i',h2.keep fun o e=>sb.extBut a o hne e,o,k0,sb.extBut T0 o hnT h3,h4⟩ fun b o hb e=>sb.extBut b o (fun z=>hb (by simp[z])) e
  have all:∀(l:List Nat),(∀p∈l,p<es.size)->(l.filterMap fun p=>(es[p]?).map (·.2))=l.map fun p=>(es.getD p (0,.none)).2:=fun l=>by
   induction l with
   |nil=>intro _;rfl
   |cons p l ih=>
    intro h
    have hp:=h p List.mem_cons_self
    rw[List.filterMap_cons,Array.getElem?_eq_getElem hp,Option.map_some,List.map_cons,ih fun q hq=>h q (List.mem_cons_of_mem _ hq)]
    dsimp only
    rw[Array.getD_eq_getD_getElem?,Array.getElem?_eq_getElem hp]
    rfl
  rw[all ps fun p hm=>List.mem_range.mp (hp.mem_iff.mp hm),Zc,e0,Option.map_some,Array.getD_eq_getD_getElem?,e1]
  rfl
 done:=fun s Q E st hQ=>by
  obtain⟨h1,h2,h3⟩:=st
  have hl:ps.length=es.size:=by rw[hp.length_eq,Zg]
  refine Zdq hh h1 h3 h2 rfl (by rw[Array.getElem?_eq_none (by simp[hl])]) fun h' k=>hQ h' s.toks fun b o hb e=>k b o (fun z=>hb (by simp[z])) e
 self:=fun _ _ _ _ st hQ=>VP st.1 hQ
theorem Zd6 (hz:es.size<=sizeLine)(hS:Wl s.heap a es ep t)(W:Wk t (!w.params.followText "set-order")){Q:Value->Shared->Prop}
  (q:∀(I:Addr) (fp:List Addr) (h':Heap) (dr:Drawn) (L:List Value) (St:Nat->Heap->Prop),s.heap.objs.size<=I->(∀b∈fp,b=a\/s.heap.objs.size<=b)->(∀b o,s.heap.get? b=some o->h'.get? b=some o)->List.Perm L (YC es)->
   (∀A':Around,A'.handled=none->Walks prog w A' I fp [I] es.size (fun i v=>L[i]?=some v) St)->St 0 h'->Q (.ref I) {s with heap:=h',drawn:=dr}) :
  wpAny (model prog w) A (pyIter (.ref a)) Q E s:=by
 have ha:a<s.heap.objs.size:=let ⟨o,e,_⟩:=hS;Zp e
 refine wpAny_pyIter_slot hS.typeIs F.slot_set_iter (wpAny_call_entry F.slot_set_iter hS.typeIs XI ?_ (F.args_set_iter_1 _))
 unfold Builtin.«frozenset.__iter__»
 show wpAny _ _ (pure a >>= _) _ _ s
 refine Zl (Zm ?_)
 refine Zl ?_
 unfold Builtin.Frozenset.sizeOf
 refine Zl (hS.entries (Zm ?_))
 refine Zl ?_
 unfold setDrawn
 refine Zl (hS.state ?_)
 dsimp only
 refine Zl (Uy (Zm ?_))
 show wpAny _ _ (if (!w.params.followText "set-order" && (!t.plain && decide (es.size > 1)))=true then _ else _) _ _ s
 by_cases hdr:(!w.params.followText "set-order" && (!t.plain && decide (es.size > 1)))=true
 ·rw[if_pos hdr]
  refine Zl (Vy _ _ (by rw[Zg];exact Zq _) fun ps dr hp=>?_)
  have hl:ps.length=es.size:=by rw[hp.length_eq,Zg]
  unfold newTuple
  refine Zl (wpAny_newObj_type ?_ (by show (List.map (fun (i:Nat)=>rawInt i) ps).toArray.size<=sizeLine;rw[Zh,Za,hl];exact hz))
  have h1:(s.heap.push {cls:=.type "tuple",data:=.seq (List.map (fun (i:Nat)=>rawInt i) ps).toArray}).get? s.heap.objs.size=some {cls:=.type "tuple",data:=.seq (List.map (fun (i:Nat)=>rawInt i) ps).toArray}:=Zo _ rfl
  have hk1:∀b o,s.heap.get? b=some o->(s.heap.push {cls:=.type "tuple",data:=.seq (List.map (fun (i:Nat)=>rawInt i) ps).toArray}).get? b=some o:=fun b o e=>Zn _ e
  have hz1:(s.heap.push {cls:=.type "tuple",data:=.seq (List.map (fun (i:Nat)=>rawInt i) ps).toArray}).objs.size=s.heap.objs.size+1:=Heap.size_push ..
  generalize s.heap.push {cls:=.type "tuple",data:=.seq (List.map (fun (i:Nat)=>rawInt i) ps).toArray}=g1 at h1 hk1 hz1 ⊢
  have hS1:Wl g1 a es ep t:=hS.keep fun o e=>hk1 a o e
  refine Zl (Wl.epoch (s:={s with heap:=g1,drawn:=dr}) hS1 ?_)
  refine Zl ?_
  unfold newFields
  refine wpAny_newObj_type (Zm ⟨_,rfl, "set_iterator",_,⟨_,Zo _ rfl,rfl⟩,ZL.lookup,?_⟩) (by size_fits)
  refine q g1.objs.size [g1.objs.size,a,s.heap.objs.size] _ dr _ (fun i h=>Yp h g1.objs.size (.ref s.heap.objs.size) i a es.size ep/\Wl h a es ep t/\∃o k,h.get? s.heap.objs.size=some o/\o.data=.seq (ps.map fun (p:Nat)=>rawInt p).toArray k) (by omega) (fun b hb=>?_) (fun b o e=>Zn _ (hk1 b o e)) ?_
   (fun A' hh=>ZaW hh hp (Nat.ne_of_lt (by rw[hz1];exact Nat.lt_succ_of_lt ha)) (Nat.ne_of_lt (by rw[hz1];exact Nat.lt_succ_self _))) ⟨⟨_,Zo _ rfl,rfl,rfl⟩,hS1.keep fun o e=>Zn _ e,_,_,Zn _ h1,rfl⟩
  ·simp only[List.mem_cons,List.not_mem_nil,or_false] at hb
   rcases hb with rfl|rfl|rfl
   ·right;omega
   ·left;rfl
   ·right;omega
  ·refine (hp.filterMap _).trans ?_
   have e:((List.range es.size).filterMap fun p=>(es[p]?).map (·.2))=YC es:=by
    unfold YC
    rw[<-filterMap_getElem?_range es,List.map_filterMap]
   rw[e]
 ·rw[if_neg hdr]
  refine Zl (Zm ?_)
  refine Zl (hS.epoch ?_)
  refine Zl ?_
  unfold newFields
  refine wpAny_newObj_type (Zm ⟨_,rfl, "set_iterator",_,⟨_,Zo _ rfl,rfl⟩,ZL.lookup,?_⟩) (by size_fits)
  have fpok:∀b∈[s.heap.objs.size,a],b=a\/s.heap.objs.size<=b:=fun b hb=>by
   simp only[List.mem_cons,List.not_mem_nil,or_false] at hb
   rcases hb with rfl|rfl
   ·right;omega
   ·left;rfl
  cases ht:w.params.followText "set-order" with
  |true=>
   refine q s.heap.objs.size [s.heap.objs.size,a] _ s.drawn _ (fun i h=>Yp h s.heap.objs.size (.int 0 0) i a es.size ep/\Wl h a es ep t) (Zq _) fpok (fun b o e=>Zn _ e) ?_
    (fun A' hh=>ZcO hh ht (Nat.ne_of_lt ha)) ⟨⟨_,Zo _ rfl,rfl,rfl⟩,hS.keep fun o e=>Zn _ e⟩
   exact (YZ _ es).map _
  |false=>
   rw[ht] at W hdr
   refine q s.heap.objs.size [s.heap.objs.size,a] _ s.drawn _ (fun i h=>∃slot:Nat,((i=0/\slot=0)\/(∃j x,i=j+1/\t.place[j]?=some x/\slot=x+1))/\Yp h s.heap.objs.size (.int slot 0) i a es.size ep/\Wl h a es ep t) (Zq _) fpok (fun b o e=>Zn _ e) (List.Perm.refl _)
    (fun A' hh=>ZaV hh ht ?_ W (Nat.ne_of_lt ha)) ⟨0,.inl ⟨rfl,rfl⟩,⟨_,Zo _ rfl,rfl,rfl⟩,hS.keep fun o e=>Zn _ e⟩
   cases hp:t.plain with
   |true=>exact .inl rfl
   |false=>
    rw[hp] at hdr
    right
    by_cases h1:es.size > 1
    ·exfalso
     apply hdr
     simp[h1]
    ·omega
end
end PyS
namespace PyS
open PySem PySem.W PyProof.Rows PySem.Calls PyProof.V PySem.Spec
section
variable {prog:Program}{w:World}{A:Around}{E:Value->Shared->Prop}{s:Shared}{a:Addr}{es:Array (Int×Value)}{ep:Nat}{t:SetTable}
theorem Ze1 {r:Addr}{Q:Bool->Shared->Prop}(hT:s.TypeIs (.ref r) "set")(h:Q false s):wpAny (model prog w) A (Builtin.List.listLengthHint (.ref r)) Q E s:=by
 unfold Builtin.List.listLengthHint
 refine Zl (wpAny_specialOf hT PySem.F.slot_set_len.lookup ?_)
 generalize hid:("set.__len__":String)=id0
 wp_delta
 rw[show splitId id0=some ("set", "__len__") from by subst hid;decide +kernel]
 subst hid
 refine Zl (wpAny_isInstance (T:="set") (b:=true) hT (by rw[isSubtype_type];kernel_rfl) ?_)
 refine wpAny_ite_split (fun hab=>absurd hab (by decide)) (fun _=>?_)
 refine wpAny_ite_split (fun _=>?_) (fun hab=>absurd (by decide +kernel) hab)
 refine Zl (wpAny_typeOf hT ?_)
 exact Zm h
theorem Zay {L:List Value}{acc:Array Value}{n:Nat}(hl:L.length=n)(h:ItemsOf (fun i v=>L[i]?=some v) acc n):acc.toList=L:=by
 refine List.ext_getElem? fun i=>?_
 by_cases hi:i<n
 ·have e:acc[i]?=some (acc[i]'(by rw[h.1];exact hi)):=Array.getElem?_eq_getElem _
  rw[Array.getElem?_toList,e]
  exact (h.2 i _ e).symm
 ·rw[List.getElem?_eq_none (by rw[Zr,h.1];omega),List.getElem?_eq_none (by omega)]
structure Src (prog:Program)(w:World)(T:String)(a:Addr)(n:Nat)(Good:(Nat->Value->Prop)->Prop)(OK:Heap->Prop):Prop where
 type:∀s:Shared,OK s.heap->s.TypeIs (.ref a) T
 keep:∀h h':Heap,OK h->(∀o,h.get? a=some o->h'.get? a=some o)->OK h'
 notList:(Value.type T == Value.type "list")=false
 notTuple:(Value.type T == Value.type "tuple")=false
 hint:∀(A:Around) (E:Value->Shared->Prop) (s:Shared) (Q:Bool->Shared->Prop),OK s.heap->Q false s->wpAny (model prog w) A (Builtin.List.listLengthHint (.ref a)) Q E s
 iter:∀(A:Around) (E:Value->Shared->Prop) (s:Shared) (Q:Value->Shared->Prop),OK s.heap->
  (∀(I:Addr) (fp:List Addr) (h':Heap) (dr:Drawn) (P:Nat->Value->Prop) (St:Nat->Heap->Prop),s.heap.objs.size<=I->(∀b∈fp,b=a\/s.heap.objs.size<=b)->(∀b o,s.heap.get? b=some o->h'.get? b=some o)->Good P->
   (∀A':Around,A'.handled=none->Walks prog w A' I fp [I] n P St)->St 0 h'->Q (.ref I) {s with heap:=h',drawn:=dr})->wpAny (model prog w) A (pyIter (.ref a)) Q E s
section
variable {T:String}{n:Nat}{Good:(Nat->Value->Prop)->Prop}{OK:Heap->Prop}
theorem Za5 {R:Result->Shared->Prop}(C:Src prog w T a n Good OK)(hh:A.handled=none)(hz:n<=sizeLine)(hok:OK s.heap)(S:Addr)(hSa:S≠a)(res:Value)(c₀:Nat)(hL:s.heap.get? S=some {cls:=.type "list",data:=.seq #[] c₀})
  (hR:∀h' dr tk (acc':Array Value) c' P,(∀b o,b≠S->s.heap.get? b=some o->h'.get? b=some o)->h'.get? S=some {cls:=.type "list",dict:=none,data:=.seq acc' c',slots:=#[]}->Good P->ItemsOf P acc' n->R (.ok (.ret res)) {s with heap:=h',drawn:=dr,toks:=tk}) :
  wpAny (model prog w) A.in1 (Builtin.List.listExtendWith (.ref S) (.ref a) res)
   (fun fin s'=>match fin with | .done f=>R (.ok f) s' | .again c'=>c'.quiet=true/\codeAny (model prog w) A c' R s') (fun e s'=>R (.error e) s') s:=by
 have hlt:S<s.heap.objs.size:=Zp hL
 unfold Builtin.List.listExtendWith
 refine Zl (wpAny_typeOf (T:=T) (C.type s hok) ?_)
 have h1:Builtin.List.listSameRef (.ref S) (.ref a)=false:=by simp[Builtin.List.listSameRef,hSa]
 simp only[h1,C.notList,C.notTuple,Bool.or_false,Bool.false_eq_true,if_false]
 refine Zl (C.iter _ _ _ _ hok fun I fp h' dr P St hI hfp hk hp Wk' st=>?_)
 have hSf:S∉fp:=fun z=>by
  rcases hfp S z with e|e
  ·exact hSa e
  ·exact absurd hlt (Nat.not_lt.mpr e)
 have key:∀(h:Heap) (c₁ tk:Nat),St 0 h->(∀b o,b≠S->s.heap.get? b=some o->h.get? b=some o)->
   h.get? S=some {cls:=.type "list",data:=.seq #[] c₁}->codeAny (model prog w) A (.builtin "list.extend.loop" ⟨[.ref S,.ref I,res],[]⟩) R {s with heap:=h,drawn:=dr,toks:=tk}:=by
  intro h c₁ tk hst hk hS₁
  refine codeAny_extend_loopS (Wk' A.in1 hh).toS hz S hSf res n 0 _ #[] c₁ rfl (Nat.zero_le _) hst hS₁ (ItemsOf.nil _) fun s' acc' c' hm hS' hacc=>?_
  rw[Moved.eq_with hm]
  refine hR s'.heap dr s'.toks acc' c' P (fun b o hb e=>hm.heap b o (fun hmem=>?_) (hk b o hb e)) hS' hp hacc
  rcases List.mem_cons.mp hmem with e'|hmem
  ·exact hb e'
  ·exact absurd (Zp e) (by rw[List.mem_singleton.mp hmem];exact Nat.not_lt.mpr hI)
 have hS₁:=hk S _ hL
 refine Zl (wpAny_holding (C.hint _ _ {s with heap:=h',drawn:=dr} _ (C.keep _ _ hok fun o e=>hk a o e) ?_))
 refine wpAny_ite_split (fun _=>?_) (fun _=>Zm ⟨plainId_quiet PySem.F.plain_extend_loop _,key _ c₀ _ st (fun b o _ e=>hk b o e) hS₁⟩)
 refine Zl (wpAny_rule ?_)
 refine Zl ?_
 show wpAny _ _ (updateSeq S (·.push .none) >>= fun _=>updateSeq S (·.pop)) _ _ _
 refine Zl (wpAny_updateSeq hS₁ rfl ?_)
 have hS₂:=Heap.get?_update_self (Obj.mapSeq (·.push Value.none)) hS₁ rfl
 refine wpAny_updateSeq (hz:=by seq_fits) hS₂ rfl ?_
 have hS₃:=Heap.get?_update_self (Obj.mapSeq (·.pop)) hS₂ rfl
 refine Zm ⟨plainId_quiet PySem.F.plain_extend_loop _,key _ _ _ ?_ (fun b o hb e=>?_) hS₃⟩
 ·refine (Wk' A.in1 hh).frame 0 _ _ st fun b hb o e=>?_
  have hbS:b≠S:=fun h=>hSf (h▸hb)
  exact (Heap.get?_update_other _ _ (Ne.symm hbS)).trans ((Heap.get?_update_other _ _ (Ne.symm hbS)).trans e)
 ·exact (Heap.get?_update_other _ _ (Ne.symm hb)).trans ((Heap.get?_update_other _ _ (Ne.symm hb)).trans (hk b o e))
theorem WI {R:List Value->Shared->Prop}(C:Src prog w T a n Good OK)(hh:A.handled=none)(hz:n<=sizeLine)(hok:OK s.heap)
  (h:∀(h':Heap) (dr:Drawn) (tk:Nat) (acc:Array Value) (P:Nat->Value->Prop),s.heap.objs.size<h'.objs.size->(∀b o,s.heap.get? b=some o->h'.get? b=some o)->Good P->ItemsOf P acc n->R acc.toList {s with heap:=h',drawn:=dr,toks:=tk}) :
  wpAny (model prog w) A (collect (.ref a)) R E s:=by
 have ha:a<s.heap.objs.size:=let ⟨o,e,_⟩:=C.type s hok;Zp e
 unfold collect
 refine Zl (wpAny_runValue (codeAny_builtin entry_proto_collect' ?_))
 rw[Around.under_plainId PySem.F.plain_proto_collect _]
 show wpAny _ A.in1 (newList [] >>= fun l=>again (.builtin "list.__iadd__" ⟨[l,.ref a],[]⟩)) _ _ s
 refine Zl (wpAny_newObj_type ?_)
 refine Zm ⟨plainId_quiet PySem.F.plain_list_iadd _,codeAny_builtin entry_list_iadd' ?_⟩
 rw[Around.under_plainId PySem.F.plain_list_iadd _]
 have hS₁:(s.heap.push {cls:=.type "list",data:=.seq ([]:List Value).toArray}).get? s.heap.objs.size=some {cls:=.type "list",data:=.seq #[]}:=Zo _ rfl
 show wpAny _ A.in1 (Builtin.List.listExtendWith (.ref s.heap.objs.size) (.ref a) (.ref s.heap.objs.size)) _ _ _
 have key:=Za5 (prog:=prog) (w:=w) (A:=A) (s:={s with heap:=s.heap.push {cls:=.type "list",data:=.seq ([]:List Value).toArray}})
  (R:=fun (q:Result) (s':Shared)=>∃(h':Heap) (dr:Drawn) (tk:Nat) (acc':Array Value) (c':Nat) (P:Nat->Value->Prop),q=.ok (.ret (.ref s.heap.objs.size))/\s'={s with heap:=h',drawn:=dr,toks:=tk}/\
   (∀b o,s.heap.get? b=some o->h'.get? b=some o)/\h'.get? s.heap.objs.size=some {cls:=.type "list",dict:=none,data:=.seq acc' c',slots:=#[]}/\Good P/\ItemsOf P acc' n)
  C hh hz (C.keep _ _ hok fun o e=>Zn _ e) s.heap.objs.size (Nat.ne_of_gt ha) (.ref s.heap.objs.size) 0 hS₁
  (fun h' dr tk acc' c' P hk hS' hg hacc=>⟨h',dr,tk,acc',c',P,rfl,rfl,fun b o e=>hk b o (Nat.ne_of_lt (Zp e)) (Zn _ e),hS',hg,hacc⟩)
 refine wpAny_mono key (fun fin s' x=>?_) fun e s' x=>?_
 ·cases fin with
  |done f=>
   obtain⟨h',dr,tk,acc',c',P,e,rfl,hk,hS',hg,hacc⟩:=x
   cases e
   show wpAny _ A (load s.heap.objs.size >>= _) _ _ _
   refine Zl (wpAny_load hS' ?_)
   exact Zm (h h' dr tk acc' P (Zp hS') hk hg hacc)
  |again c₁=>
   refine⟨x.1,codeAny_mono x.2 fun q s₂ y=>?_⟩
   obtain⟨h',dr,tk,acc',c',P,rfl,rfl,hk,hS',hg,hacc⟩:=y
   show wpAny _ A (load s.heap.objs.size >>= _) _ _ _
   refine Zl (wpAny_load hS' ?_)
   exact Zm (h h' dr tk acc' P (Zp hS') hk hg hacc)
 ·obtain⟨_,_,_,_,_,_,e',_⟩:=x
  cases e'
def Zah:Value->Int
 | .int k _=>k
 |_=>0
theorem Ze0:∀{l:List Value}{ns:List Int},IntsAre l ns->ns=l.map Zah
 |_,_,.nil=>rfl
 |_,_,.cons n t r=>by rw[List.map_cons,<-Ze0 r];rfl
theorem ZeZ:∀{l:List Value}{ns:List Int},IntsAre l ns->∀v∈l,∃k t,v=.int k t
 |_,_,.nil,v,h=>by cases h
 |_,_,.cons n t r,v,h=>by
  rcases List.mem_cons.mp h with h|h
  ·exact⟨n,t,h⟩
  ·exact ZeZ r v h
theorem Zcv:∀{l:List Value},(∀v∈l,∃k t,v=.int k t)->IntsAre l (l.map Zah)
 | [],_=>.nil
 |v::l,h=>by
  obtain⟨k,t,rfl⟩:=h v List.mem_cons_self
  exact .cons k t (Zcv fun u hu=>h u (List.mem_cons_of_mem _ hu))
theorem Zgr {l l':List Value}{ns:List Int}(p:List.Perm l' l)(h:IntsAre l ns):IntsAre l' (l'.map Zah)/\List.Perm (l'.map Zah) ns:=
 ⟨Zcv fun v hv=>ZeZ h v (p.mem_iff.mp hv),by rw[Ze0 h];exact p.map _⟩
theorem Xn {Q:Value->Shared->Prop}(C:Src prog w T a n Good OK)(hh:A.handled=none)(h64:n<64)(hok:OK s.heap){ns:List Int}(hi:∀P acc,Good P->ItemsOf P acc n->IntsAre acc.toList (acc.toList.map Zah)/\List.Perm (acc.toList.map Zah) ns)
    (q:∀(D:Addr) (h':Heap) (dr:Drawn) (tk:Nat) (out:List Value) (ns':List Int) (c:Nat),s.heap.objs.size<=D->(∀b o,s.heap.get? b=some o->h'.get? b=some o)->h'.get? D=some (seqObj "list" out.toArray c)->IntsAre out ns'->List.Perm ns' ns->ns'.Pairwise (· ≤ ·)->Q (.ref D) {s with heap:=h',drawn:=dr,toks:=tk}) :
    wpAny (model prog w) A (call (.builtin "sorted") [.ref a]) Q E s:=by
  have hz : n ≤ sizeLine := by have:(16777216:Nat)=sizeLine:=by decide
                               omega
  refine call_function_entry kind_sorted plain_sorted entry_sorted (args_sorted1 _) ?_
  unfold Builtin.«sorted»
  refine Zl (m:=checkCount "sorted" 1 1 _) (Zm ?_)
  refine Zl (WI (A:=A.in1) C hh hz hok fun h' dr tk acc P hgt hk hg hacc=>?_)
  obtain⟨i1,i2⟩:=hi P acc hg hacc
  have hl:acc.toList.length=n:=by rw[Zr];exact hacc.1
  generalize acc.toList=vs at i1 i2 hl ⊢
  refine Zl (wpAny_newList ?_ (by rw[hl];exact hz))
  have ho:(h'.push {cls:=.type "list",data:=.seq vs.toArray}).get? h'.objs.size=some (seqObj "list" vs.toArray 0):=Zo _ rfl
  have hkk:∀b o,s.heap.get? b=some o->(h'.push {cls:=.type "list",data:=.seq vs.toArray}).get? b=some o:=fun b o e=>Zn _ (hk b o e)
  refine Zl (wpAny_holding ?_)
  refine wpAny_call_entry slot_list_sort ⟨_,ho,rfl⟩ entry_list_sort (list_sort_tree (n:=0) (vs:=vs) ho i1 (by omega) fun out ns' hI hpp hP=>⟨.none,rfl,?_⟩) (args_list_sort _)
  refine Zm ⟨_,rfl,?_⟩
  have o1:=get?_update_seq ho (fun _=>(#[]:Array Value))
  have o2:=Zn (seqObj "tuple" vs.toArray 0) o1
  have o3:=Zn (seqObj "list" #[] 0) o2
  have o4:=get?_update_seq o3 (fun _=>out)
  refine q h'.objs.size _ dr tk out.toList ns' _ (Nat.le_of_lt hgt) (fun b o e=>?_) (by rw[Array.toArray_toList];exact o4) hI (hpp.trans i2) hP
  have hb:b≠h'.objs.size:=Nat.ne_of_lt (Nat.lt_trans (Zp e) hgt)
  unfold sortedHeap
  rw[Heap.get?_update_other _ _ (Ne.symm hb)]
  refine Zn _ (Zn _ ?_)
  rw[Heap.get?_update_other _ _ (Ne.symm hb)]
  exact hkk b o e
end
theorem ZbR (hz:es.size<=sizeLine)(W:Wk t (!w.params.followText "set-order")):Src prog w "set" a es.size (fun P=>∃L:List Value,List.Perm L (YC es)/\P=fun i v=>L[i]?=some v) (fun h=>Wl h a es ep t) where
 type:=fun s h=>Wl.typeIs h
 keep:=fun h h' S k=>S.keep k
 notList:=by decide
 notTuple:=by decide
 hint:=fun A E s Q S q=>Ze1 (Wl.typeIs S) q
 iter:=fun A E s Q S q=>Zd6 hz S W fun I fp h' dr L St hI hfp hk hp Wk' st=>q I fp h' dr _ St hI hfp hk ⟨L,hp,rfl⟩ Wk' st
theorem Za6 {ns:List Int}{Q:Value->Shared->Prop}(hh:A.handled=none)(h64:es.size<64)(hS:Wl s.heap a es ep t)(W:Wk t (!w.params.followText "set-order"))(hi:IntsAre (YC es) ns)
    (q:∀(D:Addr) (h':Heap) (dr:Drawn) (tk:Nat) (out:List Value) (ns':List Int) (c:Nat),s.heap.objs.size<=D->(∀b o,s.heap.get? b=some o->h'.get? b=some o)->h'.get? D=some (seqObj "list" out.toArray c)->IntsAre out ns'->List.Perm ns' ns->ns'.Pairwise (· ≤ ·)->Q (.ref D) {s with heap:=h',drawn:=dr,toks:=tk}) :
    wpAny (model prog w) A (call (.builtin "sorted") [.ref a]) Q E s:=by
  have hz : es.size ≤ sizeLine := by have:(16777216:Nat)=sizeLine:=by decide
                                     omega
  refine Xn (ZbR (ep:=ep) hz W) hh h64 hS (ns:=ns) (fun P acc hg hacc=>?_) q
  obtain⟨L,hp,rfl⟩:=hg
  rw[Zay (by rw[hp.length_eq];unfold YC;rw[Za,Zr]) hacc]
  exact Zgr hp hi
section
variable {K:Type} [DecidableEq K]{knd:PySem.KeyKind prog w K}{kvs:List (K×Value)}
theorem ZdX (lo:(a == sysModules)=false):Src prog w "dict" a kvs.length (fun P=>P=fun i v=>∃k x,kvs[i]?=some (k,x)/\knd.is k v=true) (fun h=>h.DictAt knd a kvs ep) where
 type:=fun _ hm=>hm.dictOf.typeIs
 keep:=fun _ _ hm hk=>hm.at' hk
 notList:=by decide
 notTuple:=by decide
 hint:=fun _ _ _ _ hm hq=>kdl_hint_dict hm.dictOf.typeIs hq
 iter:=fun A E s Q hm q=>by
  refine wpAny_pyIter_dict lo hm ?_
  refine q s.heap.objs.size [s.heap.objs.size,a] _ s.drawn _ (fun i h=>h.IsKeyIter s.heap.objs.size a i kvs.length ep/\h.DictAt knd a kvs ep) (Zq _) (fun b hb=>?_) (fun b o e=>Zn _ e) rfl
   (fun A' hh=>Walks.dictKeys hh _ a (Nat.ne_of_lt hm.lt_size) kvs ep) ⟨⟨_,Zo _ rfl,rfl,rfl⟩,hm.push _⟩
  simp only[List.mem_cons,List.not_mem_nil,or_false] at hb
  rcases hb with rfl|rfl
  ·right;exact Zq _
  ·left;rfl
end
end
structure SX (prog:Program)(w:World)(h:Heap)(a:Addr)(es:Array (Int×Value))(ep:Nat)(t:SetTable)(S:Int->Bool)(n:Nat):Prop where
 at_:Wl h a es ep t
 el:ElemsOf (intKind prog w) es.toList
 mem:∀k,S k=true↔∃e∈es.toList,(intKind prog w).is k e.2=true
 sb:es.size<scanBound
 sz:es.size=n
 wk:Wk t (!w.params.followText "set-order")
def JA (prog:Program)(w:World)(h:Heap)(a:Addr)(S:Int->Bool)(n:Nat):Prop:=∃es ep t,SX prog w h a es ep t S n
section
variable {prog:Program}{w:World}{A:Around}{E:Value->Shared->Prop}{s:Shared}{a:Addr}
theorem JA.keep {h h':Heap}{S:Int->Bool}{n:Nat}(X:JA prog w h a S n)(k:∀o,h.get? a=some o->h'.get? a=some o):JA prog w h' a S n:=by
 obtain⟨es,ep,t,X⟩:=X
 exact⟨es,ep,t,X.at_.keep k,X.el,X.mem,X.sb,X.sz,X.wk⟩
theorem JA.congr {h:Heap}{S S':Int->Bool}{n n':Nat}(X:JA prog w h a S n)(e:∀k,S k=S' k)(en:n=n'):JA prog w h a S' n':=by
 have:S=S':=funext e
 subst this
 subst en
 exact X
theorem stored {h:Heap}{es es':Array (Int×Value)}{ep:Nat}{t t':SetTable}(S:Wl h a es ep t)(hf:t'.fits es'.size=true):Wl (h.update a (Obj.putSet es' t')) a es' (ep+1) t':=by
 obtain⟨o,e,x,d,_⟩:=S
 have hg:=Heap.get?_update_self (Obj.putSet es' t') e (by rw[putSet_of es' t' d];rfl)
 rw[putSet_of es' t' d] at hg
 exact⟨_,hg,x,rfl,hf⟩
theorem Ym {es es':Array (Int×Value)}{ep:Nat}{t t':SetTable}{Q:Unit->Shared->Prop}(S:Wl s.heap a es ep t)(hz:es'.size<=sizeLine)(q:Q () {s with heap:=s.heap.update a (Obj.putSet es' t')}):wpAny (model prog w) A (storeSet a es' t') Q E s:=by
 obtain⟨o,e,x,d,_⟩:=S
 exact wpAny_storeSet_of e d q hz
theorem ZaQ {g:Bool->Sem Unit}(hg:∀(b:Bool) (s₁:Shared) (Q':Unit->Shared->Prop),Q' () s₁->wpAny (model prog w) A (g b) Q' E s₁){es es1:Array (Int×Value)}{ep:Nat}{t t2:SetTable}{led:Bool}(S:Wl s.heap a es ep t)(hz:es1.size<=sizeLine)(f2:t2.fits es1.size=true)(w2:Wk t2 led)
  {wasD:Bool}{R:Option Bool->Shared->Prop} (fin:∀(h':Heap) (es':Array (Int×Value)) (ep':Nat) (t':SetTable),Heap.SameBut a s.heap h'->Wl h' a es' ep' t'->List.Perm es'.toList es1.toList->Wk t' led->R (some true) {s with heap:=h'}) :
  wpAny (model prog w) A (do
    storeSet a es1 t2
    if (!wasD && t2.tooFull)=true then do
      g (relayAll t2 es1 (SetTable.grown es1.size)).2.2
      storeSet a (relayAll t2 es1 (SetTable.grown es1.size)).1 (relayAll t2 es1 (SetTable.grown es1.size)).2.1
      pure (some true)
     else pure (some true)) R E s:=by
 refine Zl (Ym S hz ?_)
 have S2:=stored S (es':=es1) f2
 have sbb:=Heap.SameBut.update s.heap a (Obj.putSet es1 t2)
 generalize s.heap.update a (Obj.putSet es1 t2)=h2 at S2 sbb ⊢
 by_cases hfull:(!wasD && t2.tooFull)=true
 ·rw[if_pos hfull]
  have hp3:=relayAll_perm t2 es1 (SetTable.grown es1.size)
  have hf3:=relayAll_fits t2 es1 (SetTable.grown es1.size)
  have hw3:=w2.relay es1 (SetTable.grown es1.size)
  generalize relayAll t2 es1 (SetTable.grown es1.size)=Rl at hp3 hf3 hw3 ⊢
  obtain⟨es2,t3,gave2⟩:=Rl
  dsimp only at hp3 hf3 hw3 ⊢
  have hs2:es2.size=es1.size:=by rw[<-Zr,hp3.length_eq,Zr]
  refine Zl (hg _ _ _ ?_)
  refine Zl (Ym (s:={s with heap:=h2}) S2 (by rw[hs2];exact hz) ?_)
  exact Zm (fin _ es2 _ t3 (sbb.trans (Heap.SameBut.update _ a _)) (stored S2 hf3) hp3 hw3)
 ·rw[if_neg hfull]
  exact Zm (fin h2 es1 _ t2 sbb S2 (List.Perm.refl _) w2)
theorem add_int {S:Int->Bool}{n:Nat}{k:Int}{x:Value}{Q:Bool->Shared->Prop}(hkey:(intKind prog w).is k x=true)(hsc:x.scannable=true)(X:JA prog w s.heap a S n)(hroom:n+1<scanBound)
  (q:∀b h',Heap.SameBut a s.heap h'->JA prog w h' a (fun k'=>S k' || decide (k'=k)) (if S k then n else n+1)->Q b {s with heap:=h'}) :
  wpAny (model prog w) A (setAddHashed a x ((intKind prog w).hash k)) Q E s:=by
 obtain⟨es,ep,t,X⟩:=X
 obtain⟨o,e1,e2,e3,e4⟩:=id X.at_
 unfold setAddHashed setAddHashedIn
 refine wpAny_holding (Zl (X.at_.state ?_))
 dsimp only
 rw[byScan_of hsc X.sb X.el]
 simp only[↓reduceIte]
 unfold setAddByScan
 refine Zl (Zl (wpAny_rule (Zl (wpAny_setScan_of hkey e1 e3 e4 X.el ?_))))
 cases hr:List.findIdx? (fun e=>(intKind prog w).is k e.2) es.toList with
 |some j=>
  obtain⟨hj,hpj,_⟩:=List.findIdx?_eq_some_iff_getElem.mp hr
  have hSk:S k=true:=(X.mem k).mpr ⟨_,List.getElem_mem hj,hpj⟩
  refine Zm (Zm ?_)
  have:=q false s.heap (Heap.SameBut.refl a s.heap) ⟨es,ep,t,X.at_,X.el,fun k'=>?_,X.sb,by rw[hSk];exact X.sz,X.wk⟩
  ·exact this
  ·rw[Bool.or_eq_true,decide_eq_true_eq,<-X.mem k']
   exact⟨fun h=>h.elim id fun e=>by rw[e];exact hSk,.inl⟩
 |none=>
  have hSk:S k=false:=by
   cases hk:S k with
   |false=>rfl
   |true=>
    obtain⟨e,he,hp⟩:=(X.mem k).mp hk
    have:=List.findIdx?_eq_none_iff.mp hr e he
    rw[hp] at this
    exact Bool.noConfusion this
  dsimp only
  have hperm:=layNew_perm t es ((intKind prog w).hash k) x
  have hfits:=layNew_fits t es ((intKind prog w).hash k) x
  have hwk:=X.wk.lay es ((intKind prog w).hash k) x
  generalize layNew t es ((intKind prog w).hash k) x=L at hperm hfits hwk ⊢
  obtain⟨es1,t1,wasD,gave⟩:=L
  dsimp only at hperm hfits hwk ⊢
  rw[Array.toList_push] at hperm
  have hgw:∀(b:Bool) {s₁:Shared}{Q':Unit->Shared->Prop},Q' () s₁->wpAny (model prog w) A (match b with|true=>rule "set.scan.the-table-gave-way" |false=>pure ()) Q' E s₁:=
   fun b s₁ Q' hq=>by cases b <;> first|exact Zm hq|exact wpAny_rule hq
  have sz1:es1.size=n+1:=by rw[<-Zr,hperm.length_eq,Zd,Zr,X.sz];rfl
  have el1:ElemsOf (intKind prog w) es1.toList:=(X.el.push hkey hsc).perm hperm
  have mem1:∀k',(S k' || decide (k'=k))=true↔∃e∈es1.toList,(intKind prog w).is k' e.2=true:=mem_push_iff hkey X.mem hperm
  have sb1:es1.size<scanBound:=by rw[sz1];exact hroom
  have zl:∀m,m<scanBound->m<=sizeLine:=fun m h=>fits_of_scanBound h
  have fin:∀(h':Heap) (es':Array (Int×Value)) (ep':Nat) (t':SetTable),Heap.SameBut a s.heap h'->Wl h' a es' ep' t'->List.Perm es'.toList es1.toList->Wk t' (!w.params.followText "set-order")->Q true {s with heap:=h'}:=fun h' es' ep' t' sb at' hp wk'=>by
   have hs:es'.size=es1.size:=by rw[<-Zr,hp.length_eq,Zr]
   refine q true h' sb ⟨es',ep',t',at',el1.perm hp,fun k'=>?_,by rw[hs];exact sb1,by rw[hSk,hs];exact sz1,wk'⟩
   rw[mem1 k']
   exact⟨fun ⟨e,he,r⟩=>⟨e,hp.mem_iff.mpr he,r⟩,fun ⟨e,he,r⟩=>⟨e,hp.mem_iff.mp he,r⟩⟩
  refine Zl (hgw gave ?_)
  split
  ·refine Zl ?_
   rw[hashByValue_scannable 8 hsc]
   refine Zm ?_
   refine ZaQ (fun b s₁ Q' hq=>?_) X.at_ (zl _ sb1) ?_ ?_ fun h' es' ep' t' sb at' hp wk'=>Zm (fin h' es' ep' t' sb at' hp wk')
   ·cases b <;> first|exact Zm hq|exact wpAny_rule hq
   ·split
    ·exact hfits
    ·exact SetTable.fits_plain_off hfits
   ·split
    ·exact hwk
    ·exact hwk.plain false
  ·refine Zl (Zm ?_)
   simp only[↓reduceIte]
   refine ZaQ (fun b s₁ Q' hq=>?_) X.at_ (zl _ sb1) hfits hwk fun h' es' ep' t' sb at' hp wk'=>Zm (fin h' es' ep' t' sb at' hp wk')
   cases b <;> first|exact Zm hq|exact wpAny_rule hq
end
section
variable {prog:Program}{w:World}{A:Around}{R:Result->Shared->Prop}{I:Addr}{fp wr:List Addr}{G:Array GenState->Array GenState->Prop}{n:Nat}{P:Nat->Value->Prop}{St:Nat->Shared->Prop}
theorem ZdM (W:WalksS prog w A.in1 I fp wr G n P St)(S:Addr)(hSf:S∉fp)(val:Nat->Int)(hval:∀i v,P i v->∃t,v=.int (val i) t)(hb:n+1<scanBound) :
  ∀(k i:Nat) (s:Shared),n-i=k->i<=n->St i s->JA prog w s.heap S (fun k'=>(firstMet val i).any (· == k')) (firstMet val i).length->
   (∀s',Moved (S::wr) G s s'->JA prog w s'.heap S (fun k'=>(firstMet val n).any (· == k')) (firstMet val n).length->R (.ok (.ret .none)) s')->
   codeAny (model prog w) A (.builtin "set.update.loop" ⟨[.ref S,.ref I],[]⟩) R s:=by
 have hSw:S∉wr:=fun h=>hSf (W.sub _ h)
 have hsub:∀b∈wr,b∈S::wr:=fun b hb=>List.mem_cons_of_mem _ hb
 intro k
 induction k with
 |zero=>
  intro i s hk hi hst hS hR
  have hin:i=n:=by omega
  subst hin
  refine codeAny_builtin PyProof.Rows.F.entry_set_update_loop ?_
  rw[Around.under_plainId PyProof.Rows.F.plain_set_update_loop _]
  show wpAny _ A.in1 (pyNext (.ref I) >>= _) _ _ s
  refine Zl (W.done s _ _ hst fun s' hm=>?_)
  show wpAny _ A.in1 (ret Value.none) _ _ s'
  exact Zm (hR s' (hm.mono hsub) (hS.keep fun o e=>hm.heap S o hSw e))
 |succ k ih=>
  intro i s hk hi hst hS hR
  have hlt:i<n:=by omega
  refine codeAny_builtin PyProof.Rows.F.entry_set_update_loop ?_
  rw[Around.under_plainId PyProof.Rows.F.plain_set_update_loop _]
  show wpAny _ A.in1 (pyNext (.ref I) >>= _) _ _ s
  refine Zl (W.item i s _ _ hlt hst fun v s' hP hst' hm=>?_)
  obtain⟨t,rfl⟩:=hval i v hP
  have hS':=hS.keep fun o e=>hm.heap S o hSw e
  show wpAny _ A.in1 (holding [Value.int (val i) t] (setAdd S (.int (val i) t)) >>= _) _ _ s'
  refine Zl (wpAny_holding ?_)
  unfold setAdd
  refine wpAny_holding ?_
  refine Zl ((intKind prog w).pyHash (k:=val i) (intKind_is _ _ _ _) ?_)
  have hroom:(firstMet val i).length+1<scanBound:=by have:=firstMet_length_le val i;omega
  refine add_int (s:={s' with toks:=s'.toks+1}) (intKind_is _ _ _ _) rfl hS' hroom fun _ h' hsb hS2=>?_
  have hSi:JA prog w h' S (fun k'=>(firstMet val (i+1)).any (· == k')) (firstMet val (i+1)).length:=
   hS2.congr (fun k'=>by rw[firstMet_succ,step_any]) (by rw[firstMet_succ,step_length])
  refine Zm ⟨plainId_quiet PyProof.Rows.F.plain_set_update_loop _,ih (i+1) _ (by omega) hlt (W.frame _ s' _ _ hst' (Nat.le_succ _) fun b hb o e=>?_) hSi fun s'' hm'' hS''=>?_⟩
  ·rw[hsb.2 b (fun h:b=S=>hSf (by rw[<-h];exact hb))];exact e
  ·refine hR s'' (Moved.trans W.gtrans ((hm.mono hsub).then_heap (Nat.le_succ _) fun b o hb e=>?_) hm'') hS''
   rw[hsb.2 b (fun h:b=S=>hb (by rw[h];exact List.mem_cons_self))];exact e
end
section
variable {prog:Program}{w:World}{A:Around}{E:Value->Shared->Prop}{s:Shared}
theorem Zb0 (a:Value){Q₁:Value->Shared->Prop}
  (h:Q₁ (.ref s.heap.objs.size) {s with heap:=s.heap.push {cls:=.type "set",dict:=none,data:=.set #[] 0 (.fresh 0 0 (!w.params.followText "set-order"))}}) :
  codeAny (model prog w) A (.call (.builtin "set.__new__") ⟨[.type "set",a],[]⟩) (wants Q₁ E) s:=by
 refine codeAny_of_tree ?_
 show wpAny _ A.in1 (do checkBuiltinCall "set.__new__" ⟨[.type "set",a],[]⟩;again (.builtin "set.__new__" ⟨[.type "set",a],[]⟩)) _ _ s
 refine Zl (wpAny_of_eq (PySem.F.newCall_set_1 a) (Zm ⟨plainId_quiet PySem.F.plain_set_new _,codeAny_builtin PySem.F.entry_set_new ?_⟩))
 rw[Around.under_plainId PySem.F.plain_set_new _]
 unfold Builtin.«set.__new__» Builtin.Frozenset.newClass
 have hsub:=sub_set_self
 obtain⟨hp,g,d,tk,os⟩:=s
 dsimp only
 wp_walk
 refine wpAny_askSetting (Zm ?_)
 dsimp only
 simp only[newObj]
 refine Zl (wpAny_alloc (Zm ?_))
 exact Zm h
theorem Zgu {h:Heap}{a:Addr}(e:h.get? a=some {cls:=.type "set",dict:=none,data:=.set #[] 0 (.fresh 0 0 (!w.params.followText "set-order"))}):JA prog w h a (fun _=>false) 0:=
 ⟨#[],0,_,⟨_,e,⟨rfl,rfl,rfl⟩,rfl,rfl⟩,fun x hx=>(by simp at hx),fun k=>(by simp),by unfold scanBound;decide,rfl,Wk.fresh _⟩
abbrev ZcJ (prog:Program)(w:World)(s:Shared)(ns:List Int)(n:Nat)(h':Heap):Prop:=
 JA prog w h' s.heap.objs.size (fun k'=>(L2.WC ns n).any (· == k')) (L2.WC ns n).length/\∀b o,b<s.heap.objs.size->s.heap.get? b=some o->h'.get? b=some o
theorem UY {l:Addr}{items:Array Value}{ns:List Int}{Q:Value->Shared->Prop}(hh:A.handled=none)(hl:s.heap.IsList l items)(hi:IntsAre items.toList ns)(hb:items.size+1<scanBound)
  (h:∀(h':Heap) (tk:Nat),ZcJ prog w s ns items.size h'->Q (.ref s.heap.objs.size) {s with heap:=h',toks:=tk}):wpAny (model prog w) A (call (.type "set") [.ref l]) Q E s:=by
 obtain⟨c,tl,hmro⟩:=PySem.F.called_set.mro
 have hmade:=PySem.F.called_set.made;have hsub:=PySem.F.called_set.sub
 refine wpAny_call (codeAny_of_tree ?_);show wpAny _ _ (callAny (.type "set") _) _ _ _
 refine Zm ⟨Code.quiet_builtin _ (by decide +kernel),codeAny_builtin PySem.F.entry_type_call ?_⟩;rw[Around.under_plain (weight_type_call_type "set" [.ref l] []) rfl]
 have h1:=PySem.F.called_set.notType;have h2:=PySem.F.called_set.canCreate;have hct:=PySem.F.typeCall_set_1 (.ref l)
 repeat (any_goals (first|assumption|wp_step))
 let ob:Obj:={cls:=.type "set",dict:=none,data:=.set #[] 0 (.fresh 0 0 (!w.params.followText "set-order"))}
 refine codeAny_mono (Zb0 (.ref l) (E:=E) (Q₁:=fun obj s₁=>obj=.ref s.heap.objs.size/\s₁={s with heap:=s.heap.push ob}) ⟨rfl,rfl⟩) fun r s₁ hr=>?_
 cases r with
 |error e=>exact hr
 |ok fl=>
  cases fl with
  |ret obj=>
   obtain⟨rfl,rfl⟩:=hr
   have hS:(s.heap.push ob).get? s.heap.objs.size=some ob:=Zo _ rfl
   have hT:Shared.TypeIs {s with heap:=s.heap.push ob} (.ref s.heap.objs.size) "set":=⟨_,hS,rfl⟩
   have hli:=PySem.F.called_set.init.lookup;have hbi:=PySem.F.called_set.init.bind (.ref s.heap.objs.size)
   repeat (any_goals (first|assumption|wp_step))
   refine codeAny_mono (codeAny_call_builtin (R:=wants (fun r s₂=>r=.none/\∃h' tk,s₂={s with heap:=h',toks:=tk}/\ZcJ prog w s ns items.size h') E) PySem.F.called_set.init.plain PySem.F.entry_set_init (check_set_init_1 hT ?_)) fun r₂ s₂ hr₂=>?_
   ·obtain⟨ol,hol,hcl,nl,hdl⟩:=id hl
    obtain⟨ocls,odict,odata,oslots⟩:=ol
    simp only at hcl hdl
    subst hcl;subst hdl
    have hol':(s.heap.push ob).get? l=some {cls:=.type "list",dict:=odict,data:=.seq items nl,slots:=oslots}:=Zn _ hol
    have hsls:=PySem.F.sub_list_set;have hslf:=PySem.F.sub_list_frozenset
    have hne:(Value.type "list" == Value.type "dict")=false:=by decide
    have hl1:(s.heap.push ob).IsList l items:=⟨_,hol',rfl,nl,rfl⟩
    unfold Builtin.«set.__init__» noKeywords Builtin.Frozenset.updateFrom;generalize hPI:pyIter=PI
    wp_walk
    subst hPI
    refine wpAny_pyIter_list hl1 ?_
    refine Zl (wpAny_runValue ?_)
    have hlS:l<s.heap.objs.size:=Zp hol
    have hneI:l≠(s.heap.push ob).objs.size:=by rw[Heap.size_push];exact Nat.ne_of_lt (Nat.lt_succ_of_lt hlS)
    have hSf:s.heap.objs.size∉[(s.heap.push ob).objs.size,l]:=by
     rw[Heap.size_push];intro z
     rcases List.mem_cons.mp z with z|z
     ·exact absurd z (Nat.ne_of_lt (Nat.lt_succ_self _))
     ·exact absurd (List.mem_singleton.mp z) (Nat.ne_of_gt hlS)
    refine ZdM ((Walks.list (A:=A.in1.in1.in1) (by simp[hh]) _ l hneI items).toS) s.heap.objs.size hSf (fun i=>ns.getD i 0) (fun i v hv=>IntsAre.int_at hi i v (by rw[Array.getElem?_toList];exact hv)) hb (items.size-0) 0 _ (by omega) (Nat.zero_le _)
     ⟨⟨_,Zo _ rfl,rfl,rfl⟩,⟨_,Zn _ hol',rfl,nl,rfl⟩⟩ ?hS0 ?hR
    case hS0=>exact (Zgu (Zn _ hS)).congr (fun _=>rfl) rfl
    case hR=>
     intro s' hm hS'
     obtain⟨h',g',d',tk',os'⟩:=s'
     obtain rfl:g'=s.gens:=hm.gens
     obtain rfl:d'=s.drawn:=hm.drawn
     obtain rfl:os'=s.os:=hm.os
     show wpAny _ _ _ _ _ _
     refine Zm ?_;show wpAny _ _ (ret Value.none) _ _ _
     refine Zm ⟨rfl,h',tk',rfl,hS',fun b o hb e=>hm.heap b o (fun z=>?_) (Zn _ (Zn _ e))⟩
     rcases List.mem_cons.mp z with z|z
     ·exact absurd z (Nat.ne_of_lt hb)
     ·refine absurd (List.mem_singleton.mp z) (Nat.ne_of_lt ?_);rw[Heap.size_push];exact Nat.lt_succ_of_lt hb
   ·cases r₂ with
    |error e=>exact hr₂
    |ok fl₂=>
     cases fl₂ with
     |ret r=>
      obtain⟨rfl,h',tk,rfl,he⟩:=hr₂
      repeat (any_goals (first|assumption|wp_step))
      exact h _ _ he
     |_=>exact hr₂.elim
  |_=>exact hr.elim
end
end PyS
namespace L2
open PySem PySem.Spec PyProof.Rows
theorem JV:∀{M L:List Int},M.Nodup->(∀x∈M,x∈L)->L.length=M.length->List.Perm L M
 | [],L,_,_,h=>by
  have:L=[]:=List.length_eq_zero_iff.mp (by simpa using h)
  subst this
  exact List.Perm.refl _
 |x::M,L,hn,hs,h=>by
  have hx:=hs x List.mem_cons_self
  have hp:=List.perm_cons_erase hx
  rw[List.nodup_cons] at hn
  refine hp.trans ((JV hn.2 (fun y hy=>?_) ?_).cons x)
  ·have hne:y≠x:=fun z=>hn.1 (z▸hy)
   exact (List.mem_erase_of_ne hne).mpr (hs y (List.mem_cons_of_mem _ hy))
  ·have:=hp.length_eq
   rw[Zi] at this
   rw[Zi] at h
   omega
theorem J8:∀{out:List Value}{ns:List Int},IntsAre out ns->ZB (ns.map V.int) out
 |_,_,.nil=>.nil
 |_,_,.cons n t r=>.cons ⟨t,rfl⟩ (J8 r)
def UZ (prog:Program)(w:World)(a:Addr)(M:List Int):HO:=.ext fun h=>PyS.JA prog w h a (fun k=>M.any (· == k)) M.length
section
variable {X:Cx}{pins:List (Addr×Obj)}{σ:L2.St}{H:Hp}{s:Shared}
theorem Inv.drawn (I:Inv X pins σ H s)(d:Drawn):Inv X pins σ H {s with drawn:=d}:=⟨I.ok,I.os,I.bare,I.base,I.loc,I.cell,I.free,I.freeC,I.pin,I.hok,I.len⟩
theorem VB (hc:X.calm=true):ZW X (.type "set") (fun xs H Q=>∃(a:Addr) (ns:List Int),xs=[.ref a]/\Wb X.K H a (ns.map V.int)/\ns.length<1000/\∀p,H p=none->Q (.ref p) (upd H p (UZ X.prog X.w p (WC ns ns.length)))):=by
 intro pins s σ H xs us Q I r h
 obtain⟨a,ns,rfl,hq,hn,q⟩:=h
 obtain⟨u,rfl,ru⟩:=vals1 r
 cases ru
 obtain⟨its,rv,p,hz⟩:=I.list hq
 have hl:its.toArray.size=ns.length:=by rw[Zh,<-rv.length,Za]
 refine PyS.UY (I.ok.hd hc) p.isList (ns:=ns) (by simpa using Um rv) (by rw[hl];unfold scanBound;omega) fun h' tk ⟨e1,e2⟩=>?_
 rw[hl] at e1
 refine⟨.ref _,_,I.laid (a:=s.heap.objs.size) (o:=UZ X.prog X.w s.heap.objs.size (WC ns ns.length)) (t':=tk) (fun b o e=>e2 b o (Zp e) e) (Zq _) ⟨e1,?_,fun h1 h2 x k=>x.keep k⟩,rfl,q _ (I.hok.fresh (Zq _))⟩
 obtain⟨es,ep,t,⟨o,e,_⟩,_⟩:=e1
 exact⟨o,e⟩
theorem XR (hc:X.calm=true):ZW X (.builtin "sorted") (fun xs H Q=>∃(a:Addr) (M:List Int),xs=[.ref a]/\H a=some (UZ X.prog X.w a M)/\M.Nodup/\M.length<64/\∀l ns,H l=none->List.Perm ns M->ns.Pairwise (· ≤ ·)->Q (.ref l) (upd H l (.lst (ns.map V.int)))):=by
 intro pins s σ H xs us Q I r h
 obtain⟨a,M,rfl,ha,hn,h64,q⟩:=h
 obtain⟨u,rfl,ru⟩:=vals1 r
 cases ru
 obtain⟨X0,_,_⟩:=(show Z3 X.prog X.w H s.heap a (UZ X.prog X.w a M) from I.hok a _ ha)
 obtain⟨es,ep,t,X0⟩:=X0
 have hint:∀v∈PyS.YC es,∃k tk,v=.int k tk:=fun v hv=>by
  obtain⟨e,he,rfl⟩:=List.mem_map.mp hv
  obtain⟨⟨k,hk,_⟩,_⟩:=X0.el e he
  obtain⟨tk,et⟩:=Value.isInt_shape hk
  exact⟨k,tk,et⟩
 have hia:=PyS.Zcv hint
 have hp:List.Perm ((PyS.YC es).map PyS.Zah) M:=by
  refine JV hn (fun x hx=>?_) ?_
  ·have hS:M.any (· == x)=true:=List.any_eq_true.mpr ⟨x,hx,by simp⟩
   obtain⟨e,he,hk⟩:=(X0.mem x).mp hS
   obtain⟨tk,et⟩:=Value.isInt_shape hk
   refine List.mem_map.mpr ⟨e.2,List.mem_map.mpr ⟨e,he,rfl⟩,?_⟩
   rw[et]
   rfl
  ·unfold PyS.YC
   rw[Za,Za,Zr]
   exact X0.sz
 refine PyS.Za6 (I.ok.hd hc) (by rw[X0.sz];exact h64) X0.at_ X0.wk hia fun D h' dr tk out ns' c hD kp hD' hi hpp hP=>?_
 have hl:ZB (ns'.map V.int) out:=J8 hi
 have sz:(16777216:Nat)=sizeLine:=by decide
 have hll:ns'.length=M.length:=(hpp.trans hp).length_eq
 refine⟨.ref D,_,(I.laid (a:=D) (o:=.lst (ns'.map V.int)) (t':=tk) kp hD ⟨by rw[Za];omega,out,c,hl,hD'⟩).drawn dr,rfl,q _ ns' (I.hok.fresh hD) (hpp.trans hp) hP⟩
end
section
variable {X:Cx}{pins:List (Addr×Obj)}{σ:L2.St}{H:Hp}{s:Shared}
theorem WA (hc:X.calm=true):ZW X (.builtin "sorted") (fun xs H Q=>∃(a:Addr) (kvs:List (ZT×V)) (ks:List Int),xs=[.ref a]/\H a=some (.dK kvs)/\kvs.map (·.1)=ks.map Sum.inl/\ks.length<64/\∀l ns,H l=none->List.Perm ns ks->ns.Pairwise (· ≤ ·)->Q (.ref l) (upd H l (.lst (ns.map V.int)))):=by
 intro pins s σ H xs us Q I r h
 obtain⟨a,kvs,ks,rfl,ha,hk,h64,q⟩:=h
 obtain⟨u,rfl,ru⟩:=vals1 r
 cases ru
 obtain⟨z,lo,vs,kv,hD⟩:=ZaF I.hok ha
 obtain⟨ep,hat⟩:=hD.dictAt
 have hl:vs.length=ks.length:=by rw[<-kv.length,<-Za (f:=fun p:ZT×V=>p.1),hk,Za]
 have hvk:vs.map (·.1)=ks.map Sum.inl:=by rw[<-kv.keys];exact hk
 refine PyS.Xn (PyS.ZdX (knd:=ZS X.prog X.w) (kvs:=vs) (ep:=ep) lo) (I.ok.hd hc) (by omega) hat (ns:=ks) (fun P acc hg hacc=>?_) fun D h' dr tk out ns' c hD' kp hD2 hi hpp hP=>?_
 ·subst hg
  have key:∀i v,acc.toList[i]?=some v->∃t,v=.int (ks.getD i 0) t/\i<ks.length:=fun i v e=>by
   rw[Array.getElem?_toList] at e
   obtain⟨k,x,e1,e2⟩:=hacc.2 i v e
   have e3:(vs.map (·.1))[i]?=some k:=by rw[Zc,e1];rfl
   rw[hvk,Zc] at e3
   cases hki:ks[i]? with
   |none=>rw[hki] at e3;cases e3
   |some j=>
    rw[hki] at e3
    cases e3
    obtain⟨t,et⟩:=Value.isInt_shape (show Value.isInt j v=true from e2)
    exact⟨t,by rw[et,Zb,hki];rfl,(List.getElem?_eq_some_iff.mp hki).1⟩
  have e:acc.toList.map PyS.Zah=ks:=by
   refine List.ext_getElem? fun i=>?_
   rw[Zc]
   by_cases hi:i<ks.length
   ·have hs:i<acc.toList.length:=by rw[Zr,hacc.1];omega
    obtain⟨t,e1,_⟩:=key i _ (Zf hs)
    rw[Zf hs,e1,Option.map_some,Zf hi,Zb,Zf hi]
    rfl
   ·rw[List.getElem?_eq_none (by rw[Zr,hacc.1];omega),List.getElem?_eq_none (by omega)]
    rfl
  refine⟨PyS.Zcv fun v hv=>?_,by rw[e]⟩
  obtain⟨i,hi⟩:=List.getElem?_of_mem hv
  obtain⟨t,e1,_⟩:=key i v hi
  exact⟨_,t,e1⟩
 ·have hl2:ZB (ns'.map V.int) out:=J8 hi
  have sz:(16777216:Nat)=sizeLine:=by decide
  have hll:ns'.length=ks.length:=hpp.length_eq
  exact⟨.ref D,_,(I.laid (a:=D) (o:=.lst (ns'.map V.int)) (t':=tk) kp hD' ⟨by rw[Za];omega,out,c,hl2,hD2⟩).drawn dr,rfl,q _ ns' (I.hok.fresh hD') hpp hP⟩
def Zi6 (td ty:TE):TE:=fun σ H Q=>td σ H fun x H1=>∃a,x=.ref a/\IsD H1 a/\ty σ H1 fun y H2=>∃b kvs more,y=.ref b/\a≠b/\H2 a=some (.dK kvs)/\H2 b=some (.dK more)/\kvs.length+more.length<=sizeLine/\Q .non (upd H2 a (.dK (ZU kvs more)))
theorem ZfZ {o e:Expr}{apos cpos:Pos}{td ty:TE}(ho:PE X o td)(he:PE X e ty)(m:M1 X o "update" apos e cpos):PE X (.Call (.Attribute o "update" apos) [e] [] cpos) (Zi6 td ty):=by
 intro pins s σ H Q I h
 refine wpAny_Call_method m.base m.few m.line PySem.F.plainAttrs_dict PySem.F.slot_dict_update PySem.F.type_dict_update (Z7 (ho pins s σ H _ I h) fun u s1 ⟨x,H1,I1,rx,a,ex,d,q1⟩=>?_)
 subst ex
 obtain rfl:u=Value.ref a:=rx
 obtain⟨t1,t2,_⟩:=Zid I1 d
 refine⟨t1,t2,?_⟩
 rw[m.trees]
 refine Calls.callWith_builtin rfl (Calls.evalArgs_plain (Calls.spliced_cons (Z7 (he pins s1 σ H1 _ I1 q1) fun iv s2 ⟨y,H2,I2,ry,b,kvs,more,ey,hab,ha,hb,hz,q2⟩=>Calls.spliced_nil ?_)))
 subst ey
 obtain rfl:iv=Value.ref b:=ry
 obtain⟨_,lo,vs,kv,hD⟩:=ZaF I2.hok ha
 obtain⟨_,lo',ws,kv',hD'⟩:=ZaF I2.hok hb
 refine call_meetsIn PySem.F.slot_dict_update hD.typeIs PySem.F.entry_dict_update (PySem.F.args_dict_update_2 _ _) (meets_dict_update (ZS X.prog X.w) a b hab lo') ⟨vs,ws,hD,hD',by rw[<-kv.length,<-kv'.length];exact hz,fun h' d1 d2 sb=>?_⟩
 have he':∃q,h'.get? a=some q:=let ⟨q,_,_,hq,_⟩:=d1;⟨q,hq⟩
 exact⟨.non,_,Xh (t':=s2.toks) I2 (by rw[ha];exact True.intro) sb he' (Us (Nat.le_trans (Yn more kvs) hz) lo (KV.merge kv' kv) d1),rfl,q2⟩
end
end L2
namespace C27
open PySem L2 PySem.Spec PyProof.Rows
def top (i:Nat):Stmt:=PySem.Challenge.pw_classtab_k27_traces_and_pieces.main.body.getD i (.Pass ⟨0,0,0,0⟩)
abbrev ZgR:Stmt:=top 17
abbrev Zea:Stmt:=top 18
structure BlB (mg:Str->Option Value):Prop where
 list:mg "list"=none
 len:mg "len"=none
 range:mg "range"=none
 tuple:mg "tuple"=none
 max:mg "max"=none
 sorted:mg "sorted"=none
def tpK (c l n:Int):List (ZT×V):=[(.inr "cell",.int c),(.inr "left",.int l),(.inr "turn",.int n)]
def ZV (H:Hp)(p:Addr)(b:Nat):Prop:=∃c l n:Int,H p=some (.dK (tpK c l n))/\0<=l/\0<=n/\n<=b
theorem ZV.mono {H H':Hp}{p:Addr}{b:Nat}(s:Same H H')(h:ZV H p b):ZV H' p b:=by
 obtain⟨c,l,n,h1,h2⟩:=h
 exact⟨c,l,n,s _ _ h1,h2⟩
theorem ZV.le {H:Hp}{p:Addr}{b b':Nat}(h:ZV H p b)(hb:b<=b'):ZV H p b':=by
 obtain⟨c,l,n,h1,h2,h3,h4⟩:=h
 exact⟨c,l,n,h1,h2,h3,by omega⟩
theorem Zig {H:Hp}{p:Addr}{c l n:Int}(h:H p=some (.dK (tpK c l n))):Wn H p (.str "cell") (some (.int c)):=Wn.k (k:=.inr "cell") h
theorem Zbt {H:Hp}{p:Addr}{c l n:Int}(h:H p=some (.dK (tpK c l n))):Wn H p (.str "left") (some (.int l)):=Wn.k (k:=.inr "left") h
theorem Zif {H:Hp}{p:Addr}{c l n:Int}(h:H p=some (.dK (tpK c l n))):Wn H p (.str "turn") (some (.int n)):=Wn.k (k:=.inr "turn") h
theorem ZhP {H:Hp}{p:Addr}{c l n l':Int}(h:H p=some (.dK (tpK c l n))):Ji H p (.str "left") (.int l') (upd H p (.dK (tpK c l' n))):=Ji.k (k:=.inr "left") h (by rw[sizeLine_eq];show 3<_;omega)
theorem ZhO {H:Hp}{p:Addr}{c l n n':Int}(h:H p=some (.dK (tpK c l n))):Ji H p (.str "turn") (.int n') (upd H p (.dK (tpK c l n'))):=Ji.k (k:=.inr "turn") h (by rw[sizeLine_eq];show 3<_;omega)
theorem _root_.L2.Same.upd2 {H:Hp}{p:Addr}{o o':HO}(h:H p=none):Same H (upd (upd H p o) p o'):=fun b u e=>by
 have hb:b≠p:=fun z=>by rw[z,h] at e;cases e
 rw[Zw hb,Zw hb]
 exact e
def Tk (p:Addr)(H H':Hp):Prop:=∀b o,H b=some o->b≠p->H' b=some o
theorem Tk.of {p:Addr}{H H':Hp}(s:Same H H'):Tk p H H':=fun b o e _=>s b o e
theorem Tk.trans {p:Addr}{H H1 H2:Hp}(a:Tk p H H1)(b:Tk p H1 H2):Tk p H H2:=fun c o e n=>b c o (a c o e n) n
theorem ZV.ne {H:Hp}{p a:Addr}{b:Nat}{o:HO}(h:ZV H p b)(e:H a=some o)(hd:∀kvs,o≠.dK kvs):a≠p:=fun z=>by
 obtain⟨c,l,n,h1,_⟩:=h
 rw[z,h1] at e
 exact hd _ (Option.some.inj e).symm
theorem ZV.neN {H:Hp}{p a:Addr}{b:Nat}(h:ZV H p b)(e:H a=none):a≠p:=fun z=>by
 obtain⟨c,l,n,h1,_⟩:=h
 rw[z,h1] at e
 cases e
theorem Tk.tup {p a:Addr}{H H':Hp}{b:Nat}{xs:List V}(d:Tk p H H')(T:ZV H p b)(h:H a=some (.tup xs)):H' a=some (.tup xs):=d a _ h (T.ne h fun _ z=>by cases z)
theorem Tk.lst {p a:Addr}{H H':Hp}{b:Nat}{xs:List V}(d:Tk p H H')(T:ZV H p b)(h:H a=some (.lst xs)):H' a=some (.lst xs):=d a _ h (T.ne h fun _ z=>by cases z)
def ZdZ (K:PySem.W.Frag):Sp:=fun vs H Q _=>∃(a:Addr) (ns:List Int) (i:Nat),vs=[.ref a,.int i]/\Wb K H a (ns.map V.int)/\ns.length<=63/\∀p H',Same H H'->H p=none->ZV H' p 0->Q (.ref p) H'
def JG:Sp:=fun vs H Q _=>∃(p:Addr) (m:Int) (b:Nat),vs=[.ref p,.int m]/\ZV H p b/\b<2 ^ 60/\0<m/\m<1073741824/\∀r H',0<=r->r<m->Tk p H H'->ZV H' p (b+1)->Q (.int r) H'
section
variable {P:Program}{w:World}{K:PySem.W.Frag}{mg:Str->Option Value}{base:Heap}
theorem Zgb {f:Addr}{fd:FuncData}(F:WB K "_law_pick" "_law_pick" Zea f fd):Z1 P w K mg base Yc 1 f fd ["_law_tape_here", "_law_many"] JG:=by
 refine F.ok (FS (N:=["_law_tape_here", "_law_many", "_law_turn", "_law_found", "_law_stirred"])) (fun vs H Q E h=>?_) (fun cdv A outer s H vs Q E hr h=>?_)
 ·obtain⟨p,m,b,rfl,_⟩:=h;rfl
 ·obtain⟨p,m,b,rfl,⟨c,l,n,h1,l0,n0,nb⟩,hb,m0,m1,q⟩:=h
  have hu:(A.deeper (envOfC "_law_pick" (ZM Zea) s.heap.objs.size f cdv)).units+1<cLine:=by have:=hr.un;omega
  refine⟨_,Zu (ZH 2 rfl (ZC YD (Ww hu (vn 0) Y9 (fun _ _=>rfl)) Zx))
   (Zu (Wu hu (vn 0) Y9 (vn 2) (by rfl))
   (Zu (YR (ZI Zad (Ww hu (vn 0) Y9 (fun _ _=>rfl)) Zx (ZR _))
    (Zu (ZH 3 rfl (ZC YL (Ww hu (vn 0) Y9 (fun _ _=>rfl)) (vn 1)))
    (Zu (Wu hu (vn 0) Y9 (ZC W0 (Ww hu (vn 0) Y9 (fun _ _=>rfl)) (vn 1)) (by rfl))
    (Zv (ZD (vn 3))))) Z4)
   (Zu (ZH 4 rfl (ZC Jb (ZC YD (ZC YD (ZC YL (Ww hu (vn 0) Y9 (fun _ _=>rfl)) Zx) (ZC Jb (ZC Jb Zx (vn 2)) (vn 2))) Zx) Zx))
   (Zu (ZH 4 rfl (ZC Jb (ZC YD (ZC YL (vn 4) Zx) (ZC Jb Zx (vn 2))) Zx))
   (Zv (ZD (ZC YL (ZC W0 (ZC YL (vn 4) Zx) Zx) (vn 1)))))))),?_⟩
  refine⟨_,rfl,p,_,rfl,Zif h1,_,_,rfl,rfl,?_⟩
  refine⟨_,rfl,_,rfl,p,_,rfl,ZhO h1,?_⟩
  have h2:upd H p (.dK (tpK c l (n+1))) p=some (.dK (tpK c l (n+1))):=Zt
  have k2:Tk p H (upd H p (.dK (tpK c l (n+1)))):=fun b o e hb=>by rw[Zw hb];exact e
  generalize upd H p (.dK (tpK c l (n+1)))=H2 at h2 k2 ⊢
  refine⟨_,rfl,p,_,rfl,Zbt h2,_,_,rfl,rfl,_,rfl,?_⟩
  refine YN (fun h=>?_) (fun h=>?_)
  ·refine⟨_,rfl,p,_,rfl,Zbt h2,_,rfl,_,_,rfl,rfl,m0,?_⟩
   refine⟨_,rfl,p,_,rfl,Zbt h2,_,rfl,_,_,rfl,rfl,⟨m0,m1⟩,_,rfl,p,_,rfl,ZhP h2,?_⟩
   refine⟨_,rfl,q _ _ (Int.emod_nonneg _ (by omega)) (Int.emod_lt_of_pos _ m0) (k2.trans fun b o e hb=>by rw[Zw hb];exact e) ⟨c,l / m,n+1,Zt,Int.ediv_nonneg l0 (by omega),by omega,by omega⟩⟩
  ·refine⟨_,rfl,p,_,rfl,Zig h2,_,_,rfl,rfl,(by show (0:Int)<_;decide),_,rfl,_,_,rfl,rfl,.inl ⟨by decide,by decide⟩,_,rfl,_,_,rfl,rfl,.inr ⟨by omega,by omega⟩,_,_,rfl,rfl,_,_,rfl,rfl,_,_,rfl,rfl,.inr ⟨by decide,by decide⟩,?_⟩
   refine⟨_,rfl,_,_,rfl,rfl,(by show (0:Int)<_;decide),_,rfl,_,_,rfl,rfl,.inl ⟨by decide,by decide⟩,_,_,rfl,rfl,_,_,rfl,rfl,.inr ⟨by decide,by decide⟩,?_⟩
   refine⟨_,rfl,_,_,rfl,rfl,(by show (0:Int)<_;decide),_,_,rfl,rfl,⟨by decide,by decide⟩,_,rfl,_,_,rfl,rfl,m0,?_⟩
   exact q _ _ (Int.emod_nonneg _ (by omega)) (Int.emod_lt_of_pos _ m0) k2 ⟨c,l,n+1,h2,l0,by omega,by omega⟩
theorem Zf9 {f:Addr}{fd:FuncData}(F:WB K "_law_tape" "_law_tape" ZgR f fd)(T:BlB mg):Z1 P w K mg base Yc 1 f fd ["_law_script", "_law_at"] (ZdZ K):=by
 refine F.ok (FS (N:=["_law_script", "_law_at", "_law_cell"])) (fun vs H Q E h=>?_) (fun cdv A outer s H vs Q E hr h=>?_)
 ·obtain⟨a,ns,i,rfl,_⟩:=h;rfl
 ·obtain⟨a,ns,i,rfl,hS,hn,q⟩:=h
  refine⟨_,Zu (ZH 2 rfl (vn 1))
   (Zu (YR (ZI Zad (cb (Yj K) T.len (pc (vn 0) Zs)) Zx (ZR _))
    (Zv (ZH 2 rfl (ZC YD (ZF (ixL K) (vn 0) (ZC YL (vn 1) (cb (Yj K) T.len (pc (vn 0) Zs))) (fun _ _=>rfl)) (ZC W0 (vn 1) (cb (Yj K) T.len (pc (vn 0) Zs)))))) Z4)
   (Zv (ZD (Zcg (Jr Y9 (vn 2) (Jr Y9 (cb (ZdD rfl) T.max (pc Zx (pc (ZC V7 (vn 2) (ZC ZhR Zx Zx)) Zs))) (Jr Y9 Zx Zce))) rfl rfl (by simp) (by decide))))),?_⟩
  have len:(ns.map V.int).length=ns.length:=List.length_map ..
  refine⟨_,rfl,_,rfl,a,_,rfl,.inl hS,_,_,rfl,rfl,_,rfl,?_⟩
  refine YN (fun h=>?_) (fun h=>?_)
  ·have h:(0:Int)<(ns.map V.int).length:=of_decide_eq_true h
   rw[len] at h
   have m0:=Int.emod_nonneg (i:Int) (show (ns.length:Int)≠0 by omega)
   have m1:=Int.emod_lt_of_pos (i:Int) h
   obtain⟨j,ej⟩:=Int.eq_ofNat_of_zero_le m0
   have hj:j<ns.length:=by omega
   have at1:UA (ns.map V.int) (j:Int)=some (.int (ns[j])):=YJ (by rw[Zc,Zf hj];rfl)
   refine⟨_,rfl,_,rfl,_,rfl,a,_,rfl,.inl hS,?_⟩
   rw[len]
   refine⟨_,_,rfl,rfl,h,?_⟩
   dsimp only
   rw[ej]
   refine⟨a,_,_,_,rfl,rfl,hS,at1,_,rfl,_,rfl,a,_,rfl,.inl hS,?_⟩
   rw[len]
   refine⟨_,_,rfl,rfl,⟨h,by omega⟩,_,_,rfl,rfl,?_⟩
   intro p np
   refine⟨_,rfl,_,rfl,_,_,rfl,rfl,⟨by decide,by decide,by decide⟩,_,_,rfl,rfl,_,_,rfl,Zt,tpK (ns[j]+(i:Int) / (ns.length:Int)) (if (ns[j]+(i:Int) / (ns.length:Int))-10 ^ (18:Int).toNat > 0 then (ns[j]+(i:Int) / (ns.length:Int))-10 ^ (18:Int).toNat else 0) 0,rfl,(show 3<=15 by decide),?_⟩
   refine q p _ (Same.upd2 np) np ⟨_,_,0,Zt,?_,by decide,by decide⟩
   split <;> omega
  ·generalize (i:Int)=c
   intro p np
   refine⟨_,rfl,_,rfl,_,_,rfl,rfl,⟨by decide,by decide,by decide⟩,_,_,rfl,rfl,_,_,rfl,Zt,tpK c (if c-10 ^ (18:Int).toNat > 0 then c-10 ^ (18:Int).toNat else 0) 0,rfl,(show 3<=15 by decide),?_⟩
   refine q p _ (Same.upd2 np) np ⟨_,_,0,Zt,?_,by decide,by decide⟩
   split <;> omega
end
end C27
namespace Tb
def Zz (t:List (List Nat))(a b:Nat):Nat:=(t.getD a []).getD b 0
def it (t:List (List Nat))(a:Nat):Nat->Nat
 |0=>0
 |k+1=>Zz t (it t a k) a
structure Rd (t:List (List Nat))(a r:Nat):Prop where
 r1:1<=r
 rn:r<=t.length
 dv:t.length % r=0
 z:it t a r=0
 nz:∀k,1<=k->k<r->it t a k≠0
 bk:Zz t a (it t a (r-1))=0
 un:∀b,b<t.length->Zz t a b=0->b=it t a (r-1)
structure PW (t:List (List Nat)):Prop where
 n1:1<=t.length
 n60:t.length<=60
 len:∀row∈t,row.length=t.length
 lt:∀a b,a<t.length->b<t.length->Zz t a b<t.length
 one:∀a,a<t.length->Zz t 0 a=a
 rd:∀a,a<t.length->∃r,Rd t a r
 oneR:∀a,a<t.length->Zz t a 0=a
 ass:∀a b c,a<t.length->b<t.length->c<t.length->Zz t (Zz t a b) c=Zz t a (Zz t b c)
section
variable {t:List (List Nat)}{a r:Nat}
theorem JY (P:PW t)(ha:a<t.length):∀k,it t a k<t.length
 |0=>P.n1
 |k+1=>P.lt _ _ (JY P ha k) ha
theorem ZeW (P:PW t)(ha:a<t.length):it t a 1=a:=P.one a ha
end
def rdB (t:List (List Nat))(n a:Nat):Nat->Nat->Nat->Bool
 |0,_,_=>false
 |f+1,k,prev=>
  let x:=Zz t prev a
  match x with
  |0=>decide (n % (k+1)=0) && decide (k+1<=n) && decide (Zz t a prev=0) && ((List.range n).all fun b=>decide (b=prev) || !decide (Zz t a b=0))
  |y+1=>rdB t n a f (k+1) (y+1)
def fq1 {β:Type}(m:Nat)(k:Nat->β):β:=match m with
 |0=>k 0
 |m+1=>k (m+1)
theorem Ze6 {β:Type}(m:Nat)(k:Nat->β):fq1 m k=k m:=by cases m <;> rfl
def fql {β:Type}:List Nat->(List Nat->β)->β
 | [],k=>k []
 |x::xs,k=>fq1 x fun y=>fql xs fun ys=>k (y::ys)
theorem Uq {β:Type}:∀(a:List Nat) (k:List Nat->β),fql a k=k a
 | [],k=>rfl
 |x::xs,k=>by rw[fql,Ze6,Uq xs]
def ZiE (acc:List Nat)(y:Nat):List Nat:=if acc.contains y then acc else acc++[y]
def ZdE (t:List (List Nat))(gens:List Nat):Nat->Nat->List Nat->List Nat
 |0,_,acc=>acc
 |f+1,i,acc=>match acc[i]? with
  |none=>acc
  |some x=>fql (gens.foldl (fun acc g=>fq1 (Zz t x g) fun y=>ZiE acc y) acc) fun acc=>ZdE t gens f (i+1) acc
def Zcx (t:List (List Nat)):Nat->Nat->List Nat->List Nat->List Nat
 |0,_,gens,_=>gens
 |f+1,a,gens,acc=>if acc.contains a then Zcx t f (a+1) gens acc else fql (ZdE t (gens++[a]) t.length 0 [0]) fun acc=>Zcx t f (a+1) (gens++[a]) acc
def liB (t:List (List Nat))(g:Nat):Bool:=decide (g<t.length) && t.all fun rx=>(t.getD (rx.getD g 0) [] == (t.getD g []).map fun c=>rx.getD c 0)
def asG (t:List (List Nat))(gens:List Nat):Bool:=gens.all (liB t) && fql (ZdE t gens t.length 0 [0]) fun acc=>(List.range t.length).all fun a=>acc.contains a
def asB (t:List (List Nat)):Bool:=fql (Zcx t t.length 0 [] [0]) (asG t)
def Zjr (t:List (List Nat)):Bool:=decide (1<=t.length) && decide (t.length<=60) && (t.all fun row=>decide (row.length=t.length) && row.all fun x=>decide (x<t.length)) && ((List.range t.length).all fun a=>decide (Zz t 0 a=a) && rdB t t.length a t.length 0 0)
def pwB (t:List (List Nat)):Bool:=Zjr t && ((List.range t.length).all fun a=>decide (Zz t a 0=a)) && asB t
def Pr (t:List (List Nat))(a:Nat):Prop:=a<t.length/\∀x y,x<t.length->y<t.length->Zz t (Zz t x a) y=Zz t x (Zz t a y)
theorem ZjC {t:List (List Nat)}(hl:∀row∈t,row.length=t.length){g:Nat}(h:liB t g=true):Pr t g:=by
 unfold liB at h
 simp only[List.all_eq_true,Bool.and_eq_true,beq_iff_eq,decide_eq_true_eq] at h
 obtain⟨hg,h⟩:=h
 refine⟨hg,fun x y hx hy=>?_⟩
 have hm:t.getD x []∈t:=by
  rw[Zb,Zf hx]
  exact List.getElem_mem hx
 have hmg:t.getD g []∈t:=by
  rw[Zb,Zf hg]
  exact List.getElem_mem hg
 have h1:=h _ hm
 unfold Zz
 rw[h1]
 have hlb:=hl _ hmg
 generalize t.getD g []=rb at *
 have hc':y<rb.length:=by omega
 rw[Zb,Zc,Zf hc',Zb (l:=rb),Zf hc']
 rfl
theorem Pr.times {t:List (List Nat)}(lt:∀a b,a<t.length->b<t.length->Zz t a b<t.length){a g:Nat}(ha:Pr t a)(hg:Pr t g):Pr t (Zz t a g):=by
 refine⟨lt _ _ ha.1 hg.1,fun x y hx hy=>?_⟩
 rw[<-ha.2 x g hx hg.1,hg.2 _ y (lt _ _ hx ha.1) hy,ha.2 x _ hx (lt _ _ hg.1 hy),hg.2 a y ha.1 hy]
theorem ZcH {t:List (List Nat)}(lt:∀a b,a<t.length->b<t.length->Zz t a b<t.length){gens:List Nat}(hg:∀g∈gens,Pr t g):∀(f i:Nat) (acc:List Nat),(∀a∈acc,Pr t a)->∀a∈ZdE t gens f i acc,Pr t a
 |0,i,acc,h=>by unfold ZdE;exact h
 |f+1,i,acc,h=>by
  unfold ZdE
  split
  ·exact h
  ·rename_i x hx
   rw[Uq]
   refine ZcH lt hg f (i+1) _ ?_
   have hxp:=h x (List.mem_of_getElem? hx)
   have key:∀(gs acc:List Nat),(∀g∈gs,Pr t g)->(∀a∈acc,Pr t a)->∀a∈gs.foldl (fun acc g=>fq1 (Zz t x g) fun y=>ZiE acc y) acc,Pr t a:=fun gs=>by
    induction gs with
    |nil=>intro acc _ h;exact h
    |cons g gs ih=>
     intro acc hgs hacc
     rw[List.foldl_cons]
     refine ih _ (fun g' hg'=>hgs g' (List.mem_cons_of_mem _ hg')) fun a ha=>?_
     rw[Ze6] at ha
     unfold ZiE at ha
     split at ha
     ·exact hacc a ha
     ·rcases List.mem_append.mp ha with ha|ha
      ·exact hacc a ha
      ·rw[List.mem_singleton.mp ha]
       exact hxp.times lt (hgs g List.mem_cons_self)
   exact key gens acc hg h
theorem Ziz {t:List (List Nat)}(n1:1<=t.length)(hl:∀row∈t,row.length=t.length)(lt:∀a b,a<t.length->b<t.length->Zz t a b<t.length)(one:∀a,a<t.length->Zz t 0 a=a)(oneR:∀a,a<t.length->Zz t a 0=a)(h:asB t=true):∀a b c,a<t.length->b<t.length->c<t.length->Zz t (Zz t a b) c=Zz t a (Zz t b c):=by
 intro a b c ha hb hc
 unfold asB at h
 rw[Uq] at h
 generalize Zcx t t.length 0 [] [0]=gens at h
 unfold asG at h
 rw[Uq,Bool.and_eq_true,List.all_eq_true,List.all_eq_true] at h
 have h0:Pr t 0:=⟨by omega,fun x y hx hy=>by rw[oneR x hx,one y hy]⟩
 have hb':=ZcH lt (fun g hg=>ZjC hl (h.1 g hg)) t.length 0 [0] (fun a ha=>by rw[List.mem_singleton.mp ha];exact h0) b (List.contains_iff_mem.mp (h.2 b (List.mem_range.mpr hb)))
 exact hb'.2 a c ha hc
theorem Zem {t:List (List Nat)}{a:Nat}:∀(f k prev:Nat),prev=it t a k->(∀j,1<=j->j<=k->it t a j≠0)->rdB t t.length a f k prev=true->∃r,Rd t a r
 |0,k,prev,_,_,h=>by cases h
 |f+1,k,prev,e,hz,h=>by
  unfold rdB at h
  have ex:it t a (k+1)=Zz t prev a:=by rw[it,e]
  cases hx:Zz t prev a with
  |zero=>
   simp only[hx,Bool.and_eq_true,decide_eq_true_eq,List.all_eq_true,Bool.or_eq_true,Bool.not_eq_true',decide_eq_false_iff_not] at h
   obtain⟨⟨⟨h1,h2⟩,h3⟩,h4⟩:=h
   refine⟨k+1,by omega,h2,h1,by rw[ex,hx],fun j j1 jk=>hz j j1 (by omega),by rw[Nat.add_sub_cancel,<-e];exact h3,fun b hb hm=>?_⟩
   rw[Nat.add_sub_cancel,<-e]
   exact (h4 b (List.mem_range.mpr hb)).resolve_right fun z=>z hm
  |succ y=>
   simp only[hx] at h
   refine Zem f (k+1) (y+1) (by rw[ex,hx]) (fun j j1 jk=>?_) h
   by_cases ej:j=k+1
   ·rw[ej,ex,hx]
    exact Nat.succ_ne_zero _
   ·exact hz j j1 (by omega)
theorem ZhG {t:List (List Nat)}(h:pwB t=true):PW t:=by
 unfold pwB at h
 rw[Bool.and_eq_true,Bool.and_eq_true] at h
 obtain⟨⟨h,hr1⟩,hr2⟩:=h
 unfold Zjr at h
 simp only[Bool.and_eq_true,decide_eq_true_eq,List.all_eq_true] at h
 obtain⟨⟨⟨h1,h2⟩,h3⟩,h4⟩:=h
 have lt:∀a b,a<t.length->b<t.length->Zz t a b<t.length:=fun a b ha hb=>by
  unfold Zz
  have hm:t.getD a []∈t:=by
   rw[Zb,Zf ha]
   exact List.getElem_mem ha
  obtain⟨hl,hx⟩:=h3 _ hm
  generalize t.getD a []=row at *
  have hb':b<row.length:=by omega
  refine hx _ ?_
  rw[Zb,Zf hb']
  exact List.getElem_mem hb'
 have oneR:∀a,a<t.length->Zz t a 0=a:=fun a ha=>of_decide_eq_true (List.all_eq_true.mp hr1 a (List.mem_range.mpr ha))
 have one:∀a,a<t.length->Zz t 0 a=a:=fun a ha=>(h4 a (List.mem_range.mpr ha)).1
 refine⟨h1,h2,fun row hr=>(h3 row hr).1,lt,one,fun a ha=>?_,oneR,Ziz h1 (fun row hr=>(h3 row hr).1) lt one oneR hr2⟩
 ·exact Zem _ 0 0 rfl (fun j j1 j0=>by omega) (h4 a (List.mem_range.mpr ha)).2
def pos (o:List Nat)(v:Nat):Nat:=o.findIdx (· == v)
def VU (t:List (List Nat))(o:List Nat):List (List Nat):=o.map fun a=>o.map fun b=>pos o (Zz t a b)
structure Ord (n:Nat)(o:List Nat):Prop where
 len:o.length=n
 nd:o.Nodup
 all:∀v,v<n->v∈o
 lt:∀v∈o,v<n
 z:o.getD 0 0=0
section
variable {t:List (List Nat)}{o:List Nat}
theorem Z0 {o:List Nat}{i:Nat}(h:i<o.length):o[i]?=some (o.getD i 0):=by
 rw[Zb,Zf h]
 rfl
theorem VZ {n v:Nat}(O:Ord n o)(hv:v<n):pos o v<n/\o.getD (pos o v) 0=v:=by
 have hm:=O.all v hv
 have h1:o.findIdx (· == v)<o.length:=List.findIdx_lt_length_of_exists ⟨v,hm,by simp⟩
 refine⟨by rw[<-O.len];exact h1,?_⟩
 have h2:=List.findIdx_getElem (w:=h1)
 have h3:o[o.findIdx (· == v)]=v:=by simpa using h2
 unfold pos
 rw[Zb,Zf h1]
 exact h3
theorem inj {n i j:Nat}(O:Ord n o)(hi:i<n)(hj:j<n)(e:o.getD i 0=o.getD j 0):i=j:=by
 have h1:=Z0 (o:=o) (i:=i) (by rw[O.len];exact hi)
 have h2:=Z0 (o:=o) (i:=j) (by rw[O.len];exact hj)
 rw[e] at h1
 exact (List.getElem?_inj (by rw[O.len];exact hi) O.nd).mp (h1.trans h2.symm)
theorem W7 {n i:Nat}(O:Ord n o)(hi:i<n):o.getD i 0<n:=O.lt _ (List.mem_of_getElem? (Z0 (by rw[O.len];exact hi)))
theorem VT:(VU t o).length=o.length:=by unfold VU;rw[Za]
theorem Zcl {n i j:Nat}(O:Ord n o)(hi:i<n)(hj:j<n):Zz (VU t o) i j=pos o (Zz t (o.getD i 0) (o.getD j 0)):=by
 unfold Zz VU
 have h1:=Z0 (o:=o) (i:=i) (by rw[O.len];exact hi)
 have h2:=Z0 (o:=o) (i:=j) (by rw[O.len];exact hj)
 rw[Zb (l:=o.map _),Zc,h1]
 show (o.map fun b=>pos o ((t.getD (o.getD i 0) []).getD b 0)).getD j 0=_
 rw[Zb,Zc,h2]
 rfl
theorem ZhE (P:PW t)(O:Ord t.length o):PW (VU t o):=by
 have L:(VU t o).length=t.length:=by rw[VT,O.len]
 have back:∀i j,i<t.length->j<t.length->o.getD (Zz (VU t o) i j) 0=Zz t (o.getD i 0) (o.getD j 0):=fun i j hi hj=>by
  rw[Zcl O hi hj]
  exact (VZ O (P.lt _ _ (W7 O hi) (W7 O hj))).2
 have lt:∀i j,i<t.length->j<t.length->Zz (VU t o) i j<t.length:=fun i j hi hj=>by
  rw[Zcl O hi hj]
  exact (VZ O (P.lt _ _ (W7 O hi) (W7 O hj))).1
 have n1:=P.n1
 have itb:∀a,a<t.length->∀k,it (VU t o) a k<t.length/\o.getD (it (VU t o) a k) 0=it t (o.getD a 0) k:=fun a ha k=>by
  induction k with
  |zero=>exact⟨n1,O.z⟩
  |succ k ih=>
   rw[it,it]
   exact⟨lt _ _ ih.1 ha,by rw[back _ _ ih.1 ha,ih.2]⟩
 have zz:∀i,i<t.length->(i=0↔o.getD i 0=0):=fun i hi=>by
  constructor
  ·intro e;rw[e,O.z]
  ·intro e;exact inj O hi n1 (by rw[e,O.z])
 refine⟨by omega,by have:=P.n60;omega,fun row hr=>?_,fun a b ha hb=>by rw[L];exact lt a b (by omega) (by omega),fun a ha=>?_,fun a ha=>?_,fun a ha=>?_,fun a b c ha hb hc=>?_⟩
 ·unfold VU at hr
  obtain⟨a,_,rfl⟩:=List.mem_map.mp hr
  rw[Za,VT]
 ·refine inj O (lt 0 a n1 (by omega)) (by omega) ?_
  rw[back 0 a n1 (by omega),O.z,P.one _ (W7 O (by omega))]
 ·have ha':a<t.length:=by omega
  obtain⟨r,R⟩:=P.rd _ (W7 O ha')
  have key:∀k,it (VU t o) a k=0↔it t (o.getD a 0) k=0:=fun k=>by
   rw[zz _ (itb a ha' k).1,(itb a ha' k).2]
  refine⟨r,R.r1,by rw[L];exact R.rn,by rw[L];exact R.dv,(key r).mpr R.z,fun k k1 kr z=>R.nz k k1 kr ((key k).mp z),?_,fun b hb hm=>?_⟩
  ·refine (zz _ (lt _ _ ha' (itb a ha' _).1)).mpr ?_
   rw[back _ _ ha' (itb a ha' _).1,(itb a ha' _).2]
   exact R.bk
  ·have hb':b<t.length:=by omega
   refine inj O hb' (itb a ha' _).1 ?_
   rw[(itb a ha' _).2]
   refine R.un _ (W7 O hb') ?_
   rw[<-back a b ha' hb',hm,O.z]
 ·refine inj O (lt a 0 (by omega) n1) (by omega) ?_
  rw[back a 0 (by omega) n1,O.z,P.oneR _ (W7 O (by omega))]
 ·have ha':a<t.length:=by omega
  have hb':b<t.length:=by omega
  have hc':c<t.length:=by omega
  refine inj O (lt _ _ (lt _ _ ha' hb') hc') (lt _ _ ha' (lt _ _ hb' hc')) ?_
  rw[back _ _ (lt _ _ ha' hb') hc',back _ _ ha' hb',back _ _ ha' (lt _ _ hb' hc'),back _ _ hb' hc']
  exact P.ass _ _ _ (W7 O ha') (W7 O hb') (W7 O hc')
end
def upTo (r st:Nat):Nat->Nat->Nat
 |0,f=>f
 |k+1,f=>if f % r=0 then f else upTo r st k (f+st)
theorem Vb {r st B:Nat}(st1:1<=st)(hB:B % r=0)(hB2:B % st=0):∀(k f:Nat),f % st=0->f<=B->B-f<k*st->(∀x,x % st=0->x % r=0->1<=x->x<f->False)->upTo r st k f % r=0/\upTo r st k f % st=0/\f<=upTo r st k f/\upTo r st k f<=B/\(∀x,x % st=0->x % r=0->1<=x->x<upTo r st k f->False)
 |0,f,h1,h2,h3,_=>by rw[Nat.zero_mul] at h3;omega
 |k+1,f,h1,h2,h3,h4=>by
  unfold upTo
  by_cases h:f % r=0
  ·rw[if_pos h]
   exact⟨h,h1,Zq _,h2,h4⟩
  ·rw[if_neg h]
   have fB:f≠B:=fun z=>h (z▸hB)
   obtain⟨u,rfl⟩:=Nat.dvd_of_mod_eq_zero h1
   obtain⟨v,rfl⟩:=Nat.dvd_of_mod_eq_zero hB2
   have uv:u<v:=Nat.lt_of_mul_lt_mul_left (Nat.lt_of_le_of_ne h2 fB)
   have h5:st*u+st<=st*v:=by
    have:=Nat.mul_le_mul_left st (show u+1<=v by omega)
    rw[Nat.mul_add,Nat.mul_one] at this
    exact this
   have:=Vb st1 hB hB2 k (st*u+st) (by rw[Nat.add_mod_right,Nat.mul_mod_right]) h5 (by rw[Nat.succ_mul] at h3;omega) fun x x1 x2 x3 x4=>?_
   ·exact⟨this.1,this.2.1,by omega,this.2.2.2.1,this.2.2.2.2⟩
   ·by_cases hx:x<st*u
    ·exact h4 x x1 x2 x3 hx
    ·obtain⟨y,rfl⟩:=Nat.dvd_of_mod_eq_zero x1
     have y1:u<=y:=Nat.le_of_mul_le_mul_left (by omega) st1
     have y2:y<u+1:=Nat.lt_of_mul_lt_mul_left (a:=st) (by rw[Nat.mul_add,Nat.mul_one];exact x4)
     have:y=u:=by omega
     rw[this] at x2
     exact h x2
theorem Zcm {x d r:Nat}(hx:x % r=0)(hd:d % r=0):x % d % r=0:=by
 have h1:=Nat.mod_add_div x d
 have h2:(d*(x / d)) % r=0:=by rw[Nat.mul_mod,hd,Nat.zero_mul,Nat.zero_mod]
 have h3:(x % d+d*(x / d)) % r=0:=by rw[h1];exact hx
 rw[Nat.add_mod,h2,Nat.add_zero,Nat.mod_mod] at h3
 exact h3
structure Lc (rs:Nat->Nat)(i f:Nat):Prop where
 f1:1<=f
 dv:∀a,a<i->f % rs a=0
 mn:∀x,(∀a,a<i->x % rs a=0)->x % f=0
theorem Lc.step {rs:Nat->Nat}{i f B:Nat}(L:Lc rs i f)(hB:1<=B)(hB':∀a,a<i+1->B % rs a=0){k:Nat}(hk:B<k):Lc rs (i+1) (upTo (rs i) f k f):=by
 have Bf:B % f=0:=L.mn B fun a ha=>hB' a (by omega)
 have f1:=L.f1
 have fB:f<=B:=Nat.le_of_dvd (by omega) (Nat.dvd_of_mod_eq_zero Bf)
 obtain⟨h1,h2,h3,h4,h5⟩:=Vb (r:=rs i) f1 (hB' i (by omega)) Bf k f (Nat.mod_self f) fB (by
  have:k*1<=k*f:=Nat.mul_le_mul_left k f1
  omega) fun x x1 x2 x3 x4=>by
   have:=Nat.le_of_dvd (by omega) (Nat.dvd_of_mod_eq_zero x1)
   omega
 refine⟨by omega,fun a ha=>?_,fun x hx=>?_⟩
 ·by_cases e:a=i
  ·rw[e];exact h1
  ·have:=L.dv a (by omega)
   obtain⟨u,hu⟩:=Nat.dvd_of_mod_eq_zero h2
   rw[hu,Nat.mul_mod,this,Nat.zero_mul,Nat.zero_mod]
 ·have xf:x % f=0:=L.mn x fun a ha=>hx a (by omega)
  apply Classical.byContradiction
  intro z
  exact h5 (x % upTo (rs i) f k f) (Zcm xf h2) (Zcm (hx i (by omega)) h1) (by omega) (Nat.mod_lt _ (by omega))
end Tb
namespace L2
open PySem PySem.Spec PyProof.Rows
section
variable {X:Cx}
def Zjk (K:PySem.W.Frag)(neg:Bool):R2:=fun x y H Q=>∃p xs ds dx,y=.ref p/\(Wb K H p xs\/Wp K H p xs)/\YF K H xs ds/\Xj K H x dx/\PyData.canLayAll0 ds=true/\dx.canLay0=true/\dx.depth<=60/\Q (.bl (if neg then !(ds.any fun y=>y.eqv dx) else ds.any fun y=>y.eqv dx)) H
theorem Zc2 (hu:X.A.units+64<cLine):J5 X (compareOp .NotIn) (Zjk X.K true):=by
 intro pins s σ H x y v u Q I rx ry h
 obtain⟨p,xs,ds,dx,rfl,hq,hs,hd,c1,c2,dp,q⟩:=h
 cases ry
 obtain⟨bs,r1⟩:=I.reads hd rx
 rcases hq with hq|hq
 ·obtain⟨its,r,pl,hz⟩:=I.list hq
  obtain⟨as,ra⟩:=I.readsAll hs r
  refine SeqAt.notIn_listAt _ pl.isList (SeqAt.items_eqAt (by simpa using ra) r1 c1 c2 (by omega)) ⟨.bl _,H,I,rfl,?_⟩
  rw[SeqAt.any_by_data (by simpa using ra) c1]
  exact q
 ·obtain⟨its,r,pl,hz⟩:=I.tuple hq
  obtain⟨as,ra⟩:=I.readsAll hs r
  refine SeqAt.notIn_tupleAt _ pl (SeqAt.items_eqAt (by simpa using ra) r1 c1 c2 (by omega)) ⟨.bl _,H,I,rfl,?_⟩
  rw[SeqAt.any_by_data (by simpa using ra) c1]
  exact q
theorem ZeJ (K:PySem.W.Frag)(hu:X.A.units+64<cLine)(hK:X.K=K:=by rfl):J5 X (compareOp .NotIn) (Zjk K true):=hK▸Zc2 hu
end
theorem J2:∀ns:List Int,PyData.canLayAll0 (ns.map PyData.int)=true
 | []=>rfl
 |n::ns=>by
  show (PyData.canLay0 (.int n) && PyData.canLayAll0 (ns.map PyData.int))=true
  rw[J2 ns]
  rfl
theorem Jh (ns:List Int):PyData.canLay0 (.tuple (ns.map PyData.int))=true:=J2 ns
theorem XL:∀ns:List Int,PyData.depthAll (ns.map PyData.int)<=1
 | []=>by decide
 |n::ns=>by
  have:=XL ns
  show max (PyData.depth (.int n)) (PyData.depthAll (ns.map PyData.int))<=1
  have e:PyData.depth (.int n)<=1:=by simp[PyData.depth]
  omega
end L2
namespace L2
open PySem
theorem JP (ns:List Int):PyData.depth (.tuple (ns.map PyData.int))<=60:=by
 have:=XL ns
 show PyData.depthAll (ns.map PyData.int)+1<=60
 omega
end L2
namespace PyZ
open PySem
theorem XV (l:Addr)(items:Array Value)(x:Value)(e:Value->Bool)(j:Nat)(hj:j<items.size)(hit:e items[j]=true)(hno:∀(m:Nat) (hm:m<items.size),m<j->e items[m]=false) :
  Meets (Builtin.«tuple.index» {pos:=[Value.ref l,x]}) fun A R s=>
   s.heap.IsTuple l items/\(∀(y:Value),y∈items->SeqAt.EqAt A.in1 s y x (e y))/\
    R (Except.ok (Flow.ret (Value.int (↑j) s.toks))) {heap:=s.heap,gens:=s.gens,drawn:=s.drawn,toks:=s.toks+1,os:=s.os}:=by
 intro prog w A R s h
 obtain⟨hl,he,h⟩:=h
 obtain⟨oa,ha,_,na,da⟩:=hl
 unfold Builtin.«tuple.index»
 refine Zl ?_
 show wpAny _ _ (pure (Value.ref l,[x])) _ _ s
 refine Zm ?_
 show wpAny _ _ (Builtin.Tuple.tupleItemsOf (Value.ref l) >>= _) _ _ s
 refine Zl ?_
 unfold Builtin.Tuple.tupleItemsOf
 refine Zl (wpAny_seqItems ha da ?_)
 refine Zm ?_
 show wpAny _ _ (pure 0 >>= _) _ _ s
 refine Zl (Zm ?_)
 show wpAny _ _ (pure items.size >>= _) _ _ s
 refine Zl (Zm ?_)
 refine Zl ?_
 rw[Nat.min_self,Std.Legacy.Range.forIn_eq_forIn_range']
 have hsz:(List.range' ([0:items.size]:Std.Legacy.Range).start ([0:items.size]:Std.Legacy.Range).size ([0:items.size]:Std.Legacy.Range).step)=List.range' 0 items.size:=by
  show List.range' 0 ((items.size-0+1-1) / 1) 1=_
  rw[Nat.div_one,Nat.sub_zero,Nat.add_sub_cancel]
 rw[hsz]
 refine wpAny_forIn_list _ (fun rest b s'=>s'=s/\b=(none,())/\∃k,rest=List.range' k (items.size-k)/\k<=j) _ ?_ ?_ _ _ ⟨rfl,rfl,0,rfl,Nat.zero_le _⟩
 ·rintro i rest b s' ⟨rfl,rfl,k,hr,hk⟩
  have hs:items.size-k=(items.size-(k+1))+1:=by omega
  rw[hs,List.range'_succ] at hr
  obtain⟨rfl,rfl⟩:=List.cons.inj hr
  have hi:i<items.size:=by omega
  rw[Array.getElem?_eq_getElem hi]
  show wpAny _ _ (eqBool items[i] x >>= _) _ _ _
  refine Zl (he items[i] (Array.getElem_mem hi) _ _ _ _ ?_)
  by_cases hij:i=j
  ·subst hij
   rw[hit,if_pos rfl]
   refine Zl ?_
   unfold retInt
   refine Zl (wpAny_mkInt ?_)
   refine Zm ?_
   refine Zm ?_
   show wpAny _ _ (pure _) _ _ _
   exact Zm h
  ·rw[hno i hi (by omega),if_neg Bool.false_ne_true]
   refine Zm ?_
   exact⟨rfl,rfl,i+1,rfl,by omega⟩
 ·rintro b s' ⟨rfl,rfl,k,hr,hk⟩
  have:items.size-k=0:=by
   have:=congrArg List.length hr
   rw[List.length_range'] at this
   exact this.symm
  omega
end PyZ
namespace L2
open PySem PySem.Spec PyProof.Rows
section
variable {X:Cx}
def Zg0 (K:PySem.W.Frag):V->List V->Hp->VK->Prop:=fun x vs H Q=>∃p xs y,∃j:Nat,x=.ref p/\vs=[y]/\Wp K H p xs/\JZ y=true/\xs.all JZ=true/\j<xs.length/\(∀z,xs[j]?=some z->eqV z y=true)/\(∀m z,m<j->xs[m]?=some z->eqV z y=false)/\Q (.int j) H
theorem Zdb:MtR X "tuple.index" (Zg0 X.K):=by
 intro pins s σ H x vs v us Q I rx rv h
 obtain⟨p,xs,y,j,rfl,rfl,hq,fy,fs,hj,h1,h2,q⟩:=h
 cases rx
 obtain⟨u,rfl,ru⟩:=rv.one
 obtain⟨its,r,pl,hz⟩:=I.tuple hq
 have hl:=r.length
 have flat_at:∀(m:Nat) (z:V),xs[m]?=some z->JZ z=true:=fun m z hm=>List.all_eq_true.mp fs z (List.mem_of_getElem? hm)
 have eu:∀(m:Nat) (hm:m<its.toArray.size),∃z,xs[m]?=some z/\eqU y its.toArray[m]=eqV z y:=fun m hm=>by
  have hm':m<xs.length:=by rw[hl];simpa using hm
  obtain⟨w,hw,rw'⟩:=r.get (Zf hm')
  have hw2:its.toArray[m]=w:=by
   have:=(List.getElem?_eq_some_iff.mp hw).2
   simpa using this
  exact⟨_,Zf hm',by rw[hw2];exact Zff rw' (flat_at m _ (Zf hm'))⟩
 have hjs:j<its.toArray.size:=by rw[Zh,<-hl];exact hj
 have tyI:s.TypeIs (.ref p) "tuple":=PySem.Heap.IsTuple.typeIs pl
 refine call_meets F.slot_tuple_index tyI F.entry_tuple_index (F.args_tuple_index_2 _ _) (PyZ.XV p its.toArray u (eqU y) j hjs ?_ ?_) ⟨pl,fun w hw=>Zap ru fy r fs w (by simpa using hw),?_⟩
 ·obtain⟨z,hz1,hz2⟩:=eu j hjs
  rw[hz2]
  exact h1 z hz1
 ·intro m hm hmj
  obtain⟨z,hz1,hz2⟩:=eu m hm
  rw[hz2]
  exact h2 m z hmj hz1
 ·exact⟨.int j,H,I.kept (t':=s.toks+1) fun b o e=>e,⟨_,rfl⟩,q⟩
def Zg1 (K:PySem.W.Frag):V->List V->Hp->VK->Prop:=fun x vs H Q=>∃p xs ds dy y,∃j:Nat,x=.ref p/\vs=[y]/\H p=some (.lst xs)/\YF K H xs ds/\Xj K H y dy/\PyData.canLayAll0 ds=true/\dy.canLay0=true/\dy.depth<=60/\j<ds.length/\(∀d,ds[j]?=some d->d.eqv dy=true)/\(∀m d,m<j->ds[m]?=some d->d.eqv dy=false)/\Q (.int j) H
theorem Zdc (hu:X.A.units+64<cLine):MtR X "list.index" (Zg1 X.K):=by
 intro pins s σ H x vs v us Q I rx rv h
 obtain⟨p,xs,ds,dy,y,j,rfl,rfl,hp,hs,hd,c1,c2,dp,hj,h1,h2,q⟩:=h
 cases rx
 obtain⟨u,rfl,ru⟩:=rv.one
 obtain⟨z,its,n,r,hl,e⟩:=I.lstM hp
 obtain⟨bs,r1⟩:=I.reads hd ru
 obtain⟨as,ra⟩:=I.readsAll hs r
 have hm:=SeqAt.readsAll_map ds its as c1 ra
 have hlen:its.length=ds.length:=by rw[<-hm,Za]
 have at':∀(m:Nat) (hh:m<its.toArray.size),ds[m]?=some (SeqAt.readOf s.heap its.toArray[m]):=fun m hh=>by
  have hh':m<its.length:=by simpa using hh
  rw[<-hm,Zc,Zf hh']
  simp
 have hjs:j<its.toArray.size:=by rw[Zh,hlen];exact hj
 have sz:=Uh
 refine call_meets F.slot_list_index ⟨_,e,rfl⟩ F.entry_list_index (F.args_list_index_2 _ _) (SeqAt.list_indexAt p its.toArray n none #[] u (fun y=>(SeqAt.readOf s.heap y).eqv dy) j hjs (by omega) (h1 _ (at' j hjs)) fun m hh hmj=>h2 m _ hmj (at' m hh)) ⟨e,SeqAt.items_eqAt (by simpa using ra) r1 c1 c2 (by omega),?_⟩
 exact⟨.int j,H,I.kept (t':=s.toks+1) fun b o e=>e,⟨_,rfl⟩,q⟩
theorem ZiY (K:PySem.W.Frag)(hK:X.K=K:=by rfl):MtR X "tuple.index" (Zg0 K):=hK▸Zdb
theorem ZkG (K:PySem.W.Frag)(hu:X.A.units+64<cLine)(hK:X.K=K:=by rfl):MtR X "list.index" (Zg1 K):=hK▸Zdc hu
end
end L2
namespace PyZ
open PySem PyProof PyProof.Rows
def JI (n:Nat)(cmp:Nat->Nat->Bool){α:Type}:W.KasT α->Option α
 | .ret a=>some a
 | .ask i j k=>if i<n/\j<n then JI n cmp (k (cmp i j)) else none
theorem W4 {α:Type}{n:Nat}{cmp:Nat->Nat->Bool}{ask:Nat->Nat->(Bool->Shared->Prop)->Shared->Prop}{s:Shared}(h:∀i j C,i<n->j<n->C (cmp i j) s->ask i j C s):∀(t:W.KasT α) (a:α) (Q:α->Shared->Prop),JI n cmp t=some a->Q a s->W.KasT.kasWp ask t Q s
 | .ret b,a,Q,e,q=>by
  cases (Option.some.inj e)
  exact q
 | .ask i j k,a,Q,e,q=>by
  rw[JI] at e
  by_cases hh:i<n/\j<n
  ·rw[if_pos hh] at e
   exact h i j _ hh.1 hh.2 (W4 h (k (cmp i j)) a Q e q)
  ·rw[if_neg hh] at e
   cases e
def Ui (fin:Bool):List Int->List Int->Bool
 | [],_=>fin
 |_::_,[]=>fin
 |x::xs,y::ys=>if x=y then Ui fin xs ys else decide (x<y)
def WM (xs ys:List Int):Bool:=Ui (decide (xs.length<ys.length)) xs ys
section
variable {prog:Program}{w:World}{A:Around}{E:Value->Shared->Prop}{s:Shared}
theorem Zbq {fin:Bool}{Q:Bool->Shared->Prop}:∀(us vs:List Value) (xs ys:List Int) (i:Nat),IntsAre us xs->IntsAre vs ys->Q (Ui fin xs ys) s->W.KatLex prog w A true fin Q (us.zip vs) i s
 | [],vs,xs,ys,i,h1,h2,q=>by
  cases h1
  exact W.kat_nil q
 |_::_,[],xs,ys,i,h1,h2,q=>by
  cases h2
  cases xs with
  |nil=>exact W.kat_nil q
  |cons x xs=>exact W.kat_nil q
 |u::us,v::vs,xs,ys,i,h1,h2,q=>by
  cases h1 with
  |cons x t1 r1=>
   cases h2 with
   |cons y t2 r2=>
    rename_i xs ys
    rw[List.zip_cons_cons]
    refine W.kat_cons ?_
    refine SeqAt.EqAt.int_int _ _ _ _ prog w _ _ ?_
    rw[Ui] at q
    by_cases e:x=y
    ·rw[if_pos e] at q
     rw[show (x == y)=true from beq_iff_eq.mpr e]
     exact W.kat_yes (Zbq us vs xs ys (i+1) r1 r2 q)
    ·rw[if_neg e] at q
     rw[show (x == y)=false from beq_eq_false_iff_ne.mpr e]
     refine W.kat_no ?_
     by_cases hi:i=0
     ·subst hi
      exact oneLt_int q
     ·have:(true && i == 0)=false:=by simp[hi]
      rw[this]
      exact W.kat_one _ _ (lt_int q)
def X3 (h:Heap)(L:Addr):Heap:={h with objs:=h.objs.extract 0 L}
theorem Yh {h:Heap}{L b:Addr}(hb:b<L):(X3 h L).get? b=h.get? b:=by
 unfold X3 Heap.get?
 have:(h.objs.extract 0 L)[b]?=h.objs[b]?:=by
  rw[Array.getElem?_extract]
  by_cases h1:b<h.objs.size
  ·simp only[Nat.sub_zero,Nat.zero_add]
   rw[if_pos (show b<min L h.objs.size from Nat.lt_min.mpr ⟨hb,h1⟩)]
  ·rw[Array.getElem?_eq_none (Nat.le_of_not_lt h1)]
   split <;> simp_all
 simp only[this]
theorem YE {h:Heap}{L b:Addr}(hb:L<=b):(X3 h L).get? b=none:=by
 unfold X3 Heap.get?
 have:(h.objs.extract 0 L)[b]?=none:=by
  apply Array.getElem?_eq_none
  rw[Array.size_extract]
  exact Nat.le_trans (by rw[Nat.sub_zero];exact Nat.min_le_left ..) hb
 simp only[this]
def ZP (h:Heap)(L:Addr):List (Addr×Obj):=(List.range h.objs.size).filterMap fun a=>if L<a then (h.get? a).map fun o=>(a,o) else none
theorem ZO {h:Heap}{L:Addr}{p:Addr×Obj}:p∈ZP h L↔L<p.1/\h.get? p.1=some p.2:=by
 unfold ZP
 rw[List.mem_filterMap]
 constructor
 ·rintro⟨a,ha,e⟩
  by_cases hl:L<a
  ·rw[if_pos hl] at e
   cases q:h.get? a with
   |none=>rw[q] at e;cases e
   |some o=>
    rw[q] at e
    cases (Option.some.inj e)
    exact⟨hl,q⟩
  ·rw[if_neg hl] at e
   cases e
 ·rintro⟨hl,e⟩
  refine⟨p.1,List.mem_range.mpr (Zp e),?_⟩
  rw[if_pos hl,e]
  rfl
theorem Uk {h:Heap}:∀(as:List Addr) (yss:List (List Int)),as.length=yss.length->(∀(i:Nat) a,as[i]?=some a->∃(us:List Value) (ys:List Int),yss[i]?=some ys/\h.IsTuple a us.toArray/\IntsAre us ys/\ys≠[])->
  ∃fs:List Value,W.KatTups h (as.map Value.ref) fs/\fs.length=as.length/\∀v∈fs,∃n t,v=Value.int n t
 | [],[],_,_=>⟨[],W.KatTups.nil,rfl,fun v hv=>by cases hv⟩
 | [],_::_,h,_=>by cases h
 |_::_,[],h,_=>by cases h
 |a::as,ys::yss,hl,g=>by
  obtain⟨us,ys',e,⟨o,e1,c,n,d⟩,ia,ne⟩:=g 0 a rfl
  cases e
  obtain⟨fs,k,l,f⟩:=Uk as yss (Nat.succ.inj hl) fun i a' hi=>g (i+1) a' hi
  cases ia with
  |nil=>exact absurd rfl ne
  |cons z t r=>
   refine⟨Value.int z t::fs,W.KatTups.cons e1 c d (by simp) k,by rw[Zi,Zi,l],fun v hv=>?_⟩
   rcases List.mem_cons.mp hv with rfl|hv
   ·exact⟨_,_,rfl⟩
   ·exact f v hv
theorem UU {l L:Addr}{m:Str->Option Value}{as:List Addr}{yss:List (List Int)}{p:Array Nat}{Q:Value->Shared->Prop}(hNs:s.heap.Ns L m)(hl:s.heap.IsList l (as.map Value.ref).toArray)(n2:2<=as.length)(n64:as.length<64)(hy:as.length=yss.length)
  (ht:∀(i:Nat) a,as[i]?=some a->a≠L/\∃(us:List Value) (ys:List Int),yss[i]?=some ys/\s.heap.IsTuple a us.toArray/\IntsAre us ys/\ys≠[])
  (hp:JI as.length (fun i j=>WM (yss.getD i []) (yss.getD j [])) (W.kas_sort as.length)=some p)
  (q:∀D c h',s.heap.get? D=none->D≠L->(∀b o,b≠L->s.heap.get? b=some o->h'.get? b=some o)->h'.Ns L m->h'.get? D=some (W.listOf (p.toList.map fun i=>(as.map Value.ref).getD i Value.none).toArray c)->Q (.ref D) {s with heap:=h'}) :
  wpAny (model prog w) A (call (.builtin "sorted") [.ref l]) Q E s:=by
 have fr:Fr (X3 s.heap L) L s.heap m:=by
  refine⟨hNs,fun b o e=>?_,?_⟩
  ·by_cases hb:b<L
   ·rw[Yh hb] at e;exact e
   ·rw[YE (Nat.le_of_not_lt hb)] at e
    cases e
  ·show (s.heap.objs.extract 0 L).size<=L
   rw[Array.size_extract,Nat.sub_zero]
   exact Nat.min_le_left ..
 have nw:News (X3 s.heap L) L s.heap (ZP s.heap L):=fun x hx=>by
  obtain⟨h1,h2⟩:=ZO.mp hx
  exact⟨h2,Nat.ne_of_gt h1,YE (Nat.le_of_lt h1)⟩
 have lv:(as.map Value.ref).length=as.length:=List.length_map ..
 refine W.kat_sorted fr nw hl (by rw[lv];exact n2) (by rw[lv];exact n64) fun D e1 h' fr' nw' big=>?_
 have kept:∀b o,b≠L->s.heap.get? b=some o->h'.get? b=some o:=fun b o hb e=>by
  rcases Nat.lt_or_ge b L with h1|h1
  ·exact fr'.keep b o (by rw[Yh h1];exact e)
  ·exact (nw' (b,o) (List.mem_cons_of_mem _ (ZO.mpr ⟨Nat.lt_of_le_of_ne h1 (Ne.symm hb),e⟩))).1
 have dn:s.heap.get? D=none:=by
  cases e:s.heap.get? D with
  |none=>rfl
  |some o=>
   obtain⟨_,dL,dc⟩:=nw' _ (List.mem_cons_self ..)
   rcases Nat.lt_or_ge D L with h1|h1
   ·rw[Yh h1] at dc
    rw[dc] at e
    cases e
   ·exact absurd (big (D,o) (ZO.mpr ⟨Nat.lt_of_le_of_ne h1 (Ne.symm dL),e⟩)) (Nat.lt_irrefl _)
 have dL:D≠L:=(nw' _ (List.mem_cons_self ..)).2.1
 have ht':∀(i:Nat) a,as[i]?=some a->∃(us:List Value) (ys:List Int),yss[i]?=some ys/\h'.IsTuple a us.toArray/\IntsAre us ys/\ys≠[]:=fun i a hi=>by
  obtain⟨aL,us,ys,e,⟨o,g1,g2⟩,ia,ne⟩:=ht i a hi
  exact⟨us,ys,e,⟨o,kept a o aL g1,g2⟩,ia,ne⟩
 obtain⟨fs,kt,fl,fi⟩:=Uk as yss hy ht'
 refine W.kat_kind (T:=Value.type "int") kt (by omega) (fun v hv=>?_) (by decide +kernel) ?_
 ·obtain⟨n,t,rfl⟩:=fi v hv
  intro A Q E s' _ q
  exact Zm q
 ·rw[lv]
  have kb:(Value.type "int" != Value.type "tuple")=true:=by decide +kernel
  rw[kb]
  refine W4 (cmp:=fun i j=>WM (yss.getD i []) (yss.getD j [])) (fun i j C hi hj c=>?_) _ p _ hp ?_
  ·unfold W.kas_ask
   obtain⟨us,ys,e,⟨o,g1,g2,n1,g3⟩,ia,_⟩:=ht' i as[i] (Zf hi)
   obtain⟨us2,ys2,e2,⟨o2,k1,k2,n2',k3⟩,ia2,_⟩:=ht' j as[j] (Zf hj)
   have v1:(as.map Value.ref).getD i Value.none=.ref as[i]:=by
    rw[Zb,Zc,Zf hi]
    rfl
   have v2:(as.map Value.ref).getD j Value.none=.ref as[j]:=by
    rw[Zb,Zc,Zf hj]
    rfl
   have w1:yss.getD i []=ys:=by rw[Zb,e];rfl
   have w2:yss.getD j []=ys2:=by rw[Zb,e2];rfl
   rw[v1,v2]
   refine W.kat_lt g1 g3 k1 k3 ?_
   have il:∀{us:List Value}{ys:List Int},IntsAre us ys->us.length=ys.length:=fun {us ys} h=>by
    induction h with
    |nil=>rfl
    |cons _ _ _ ih=>rw[Zi,Zi,ih]
   refine Zbq us us2 ys ys2 0 ia ia2 ?_
   rw[w1,w2] at c
   unfold WM at c
   rw[Zh,Zh,il ia,il ia2]
   exact c
  ·refine⟨_,_,fr',nw',W.UpdF.head (fun x hx=>Nat.ne_of_lt (big x hx)),fun h'' c fr'' nw''=>?_⟩
   refine q D c h'' dn dL (fun b o hb e=>?_) fr''.ns (nw'' _ (List.mem_cons_self ..)).1
   rcases Nat.lt_or_ge b L with h1|h1
   ·exact fr''.keep b o (by rw[Yh h1];exact e)
   ·exact (nw'' (b,o) (List.mem_cons_of_mem _ (ZO.mpr ⟨Nat.lt_of_le_of_ne h1 (Ne.symm hb),e⟩))).1
end
end PyZ
namespace L2
open PySem PySem.Spec PyProof.Rows
theorem Z3.there {P:Program}{w:World}{H:Hp}{h:Heap}{a:Addr}{o:HO}(x:Z3 P w H h a o):∃ob,h.get? a=some ob:=by
 cases o with
 |lst xs=>obtain⟨_,_,_,_,e⟩:=x;exact⟨_,e⟩
 |tup xs=>obtain⟨_,_,_,ob,e,_⟩:=x;exact⟨_,e⟩
 |dK kvs=>obtain⟨_,_,_,_,o,_,_,e,_⟩:=x;exact⟨_,e⟩
 |dT kvs=>obtain⟨_,_,_,_,o,_,_,e,_⟩:=x;exact⟨_,e⟩
 |set S n=>obtain⟨o,_,_,_,e,_⟩:=x;exact⟨_,e⟩
 |ins C dx fs=>obtain⟨_,_,_,e,_⟩:=x;exact⟨_,e⟩
 |own y=>obtain⟨_,e⟩:=x;exact⟨_,e⟩
 |xd fs=>obtain⟨_,⟨_,_,_,e,_⟩,_⟩:=x;exact⟨_,e⟩
 |rng lo hi=>obtain⟨_,_,_,e⟩:=x;exact⟨_,e⟩
 |frz ob u=>obtain⟨e,_⟩:=x;exact⟨_,e⟩
 |tbl ps=>exact⟨_,(show h.get? a=some _ from x)⟩
 |met f y=>exact⟨_,(show h.get? a=some _ from x)⟩
 |ext φ=>obtain⟨_,⟨_,e⟩,_⟩:=x;exact⟨_,e⟩
section
variable {X:Cx}{pins:List (Addr×Obj)}{σ:St}{H:Hp}{s:Shared}
theorem Inv.newL {D:Addr}{c:Nat}{h':Heap}{m:Str->Option Value}{ys:List V}{its:List Value}(I:Inv X pins σ H s)(hm:s.heap.Ns X.env.locals m)
  (hl:∀(i:Nat) (x:Str) (v:V),X.N[i]?=some x->σ[i]?=some (some v)->Vis X.env.scope x->∃u,RelV v u/\Look X.env s.heap m x u)
  (dn:s.heap.get? D=none) (dL:D≠X.env.locals) (kept:∀b o,b≠X.env.locals->s.heap.get? b=some o->h'.get? b=some o) (hn':h'.Ns X.env.locals m) (hz:ys.length<=sizeLine) (hv:ZB ys its) (hD:h'.get? D=some {cls:=.type "list",data:=.seq its.toArray c}) :
  Inv X pins σ (upd H D (.lst ys)) {s with heap:=h'}/\H D=none:=by
 have hHD:H D=none:=by
  cases e:H D with
  |none=>rfl
  |some o=>
   obtain⟨ob,e2⟩:=(I.hok D o e).there
   rw[dn] at e2
   cases e2
 have neD:∀{b:Addr}{o:Obj},s.heap.get? b=some o->b≠D:=fun {b o} e z=>by rw[z,dn] at e;cases e
 have neH:∀{b:Addr}{o:HO},H b=some o->b≠D:=fun {b o} e z=>by rw[z,hHD] at e;cases e
 have neL:∀{b:Addr}{o:HO},H b=some o->b≠X.env.locals:=fun {b o} e z=>by rw[z,I.free] at e;cases e
 have bL:∀{b:Addr}{o:Obj},X.s₀.heap.get? b=some o->b≠X.env.locals:=fun {b o} e=>Nat.ne_of_lt (Nat.lt_of_lt_of_le (Zp e) I.ok.above)
 refine⟨⟨I.ok,I.os,I.bare,⟨fun b o e n hb hx=>?_,fun b o e n hb hx=>?_,fun b o e n hx=>?_,fun b o e hx=>?_,fun b xs e=>?_,fun b o u e=>?_,fun b ps e=>?_⟩,⟨m,hn',fun j y v e1 e2 e3=>?_⟩,fun y c' e=>?_,?_,fun y c' e=>?_,fun p hp=>?_,fun b ob e=>?_,I.len⟩,hHD⟩
 ·exact kept b o (bL e) (I.base.keep b o e n hb hx)
 ·obtain⟨sl,e1⟩:=I.base.slot b o e n hb hx
  exact⟨sl,kept b _ (bL e) e1⟩
 ·obtain⟨o',e1⟩:=I.base.there b o e hx
  rw[Zw (neD e1)]
  exact I.base.free b o e n hx
 ·obtain⟨o',e1⟩:=I.base.there b o e hx
  exact⟨o',kept b _ (bL e) e1⟩
 ·have:=I.base.tups b xs e
  rw[Zw (neH this)]
  exact this
 ·have:=I.base.frzs b o u e
  rw[Zw (neH this)]
  exact this
 ·obtain⟨more,this⟩:=I.base.tbls b ps e
  exact⟨more,by rw[Zw (neH this)];exact this⟩
 ·obtain⟨u,r,q⟩:=hl j y v e1 e2 e3
  refine⟨u,r,?_⟩
  rcases q with ⟨k,e⟩|⟨k,c',e,z⟩
  ·exact .inl ⟨k,e⟩
  ·obtain⟨o,g,rest⟩:=z
   exact .inr ⟨k,c',e,o,kept c' o (I.cne y c' e) g,rest⟩
 ·obtain⟨w',o,g,rest⟩:=I.cell y c' e
  exact⟨w',o,kept c' o (I.cne y c' e) g,rest⟩
 ·rw[Zw (Ne.symm dL)]
  exact I.free
 ·obtain⟨w',o,g,rest⟩:=I.cell y c' e
  rw[Zw (neD g)]
  exact I.freeC y c' e
 ·obtain⟨e,n,ne,nf,d⟩:=I.pin p hp
  exact⟨kept p.1 _ ne e,by rw[Zw (neD e)];exact n,ne,nf,d⟩
 ·by_cases hb:b=D
  ·subst hb
   rw[Zt] at e
   cases (Option.some.inj e)
   exact⟨hz,its,c,hv,hD⟩
  ·rw[Zw hb] at e
   refine (I.hok b ob e).stay (fun c' w' hc q=>kept c' w' ?_ q) (fun c' q=>?_) fun c' xs q=>?_
   ·rcases hc with rfl|hc
    ·exact neL e
    ·exact neL hc
   ·rw[Zw (neH q)]
    exact q
   ·rw[Zw (neH q)]
    exact q
theorem WY:∀{as:List Addr}{us:List Value},ZB (as.map V.ref) us->us=as.map Value.ref
 | [],_,h=>by cases h;rfl
 |a::as,_,h=>by
  cases h with
  |cons r t=>rw[show _=Value.ref a from r,WY t];rfl
theorem Wq:∀{ns:List Int}{us:List Value},ZB (ns.map V.int) us->IntsAre us ns
 | [],_,h=>by cases h;exact .nil
 |n::ns,_,h=>by
  cases h with
  |cons r t=>
   obtain⟨k,rfl⟩:=r
   exact .cons n k (Wq t)
theorem We:∀as:List Addr,ZB (as.map V.ref) (as.map Value.ref)
 | []=>.nil
 |a::as=>.cons rfl (We as)
end
section
variable {X:Cx}
def Tz (H:Hp)(a:Addr)(ys:List V):Prop:=∃o:Obj,H a=some (.frz o (.tup ys))/\o.cls=.type "tuple"/\o.dict=none
theorem Tz.sq {K:PySem.W.Frag}{H:Hp}{a:Addr}{ys:List V}(h:Tz H a ys):Wp K H a ys:=by
 obtain⟨o,h,_⟩:=h
 exact .inl (.inr ⟨o,h⟩)
theorem Tz.mono {H H':Hp}{a:Addr}{ys:List V}(s:Same H H')(h:Tz H a ys):Tz H' a ys:=by
 obtain⟨o,h,r⟩:=h
 exact⟨o,s _ _ h,r⟩
theorem ZaM:ZW X (.type "tuple") (fun xs H Q=>∃p ys,xs=[.ref p]/\Wb X.K H p ys/\∀l H',H l=none->Same H H'->Tz H' l ys->Q (.ref l) H'):=by
 intro pins s σ H xs us Q I r h
 obtain⟨p,ys,rfl,hq,q⟩:=h
 obtain⟨u,rfl,rx⟩:=vals1 r
 cases rx
 obtain⟨its,r',pl,hz⟩:=I.list hq
 have hlen:=r'.length
 refine call_tuple_list pl.isList (fun h' kp=>?_) (by simp only[Zh] <;> omega)
 have I1:Inv X pins σ H {s with heap:=h'}:=I.kept (t':=s.toks) kp
 have hf:=I1.hok.fresh (Zq _)
 have I2:Inv X pins σ (upd H h'.objs.size (.frz {cls:=.type "tuple",data:=.seq its.toArray} (.tup ys))) {s with heap:=h'.push {cls:=.type "tuple",data:=.seq its.toArray}}:=
  I1.laid (t':=s.toks) (fun b o e=>Zn _ e) (Zq _) ⟨Zo _ rfl,hz,its,r',IsTup.new _ _⟩
 exact⟨.ref h'.objs.size,_,I2,rfl,q _ _ hf (Same.upd hf) ⟨_,Zt,rfl,rfl⟩⟩
variable {o e:Expr}{es:List Expr}{to:TE}{t:TA}{name:Str}{apos cpos:Pos}{id:String}{r:V->List V->Hp->VK->Prop}
def Zkq (r:V->List V->Hp->VK->Prop)(to:TE)(t:TA):TE:=fun σ H Q=>to σ H fun x H1=>(∃p ys,x=.ref p/\Tz H1 p ys)/\t σ H1 fun xs H2=>r x xs H2 Q
theorem Zeq (pa:PlainAttrs "tuple")(slot:Slot "tuple" name id)(hty:typeOf (.builtin id)=pure (.type "method_descriptor"))(hm:MtR X id r)(ho:PE X o to)(ha:PA X (e::es) t)
  (hbase:attributeBase o name X.env (eval o X.env)=eval o X.env:=by rfl)
  (hfew:((backTo cpos (starEach (e::es) X.env)).all (fun x=>!x.1) && (backToKw cpos (keywordEach [] X.env)).all (fun x=>x.1.isSome)
   && decide ((e::es).length+([]:List Keyword).length+(if ([]:List Keyword).isEmpty then 0 else 1)<30))=true:=by rfl)
  (hline:(apos.endLine == cpos.line)=true:=by rfl) (hs:starEach (e::es) X.env=(false,eval e X.env)::starEach es X.env:=by rfl) (hplain:(backTo cpos (starEach es X.env)).any (·.1)=false:=by rfl) :
  PE X (.Call (.Attribute o name apos) (e::es) [] cpos) (Zkq r to t):=by
 intro pins s σ H Q I h
 refine wpAny_Call_method_late hbase hfew hline rfl (Z7 (ho pins s σ H _ I h) fun v s1 ⟨x,H1,I1,r1,ty,q1⟩=>?_)
 obtain⟨p,ys,rfl,ob,hob,hc,hd⟩:=ty
 cases r1
 obtain⟨eo,_⟩:=I1.hok p _ hob
 refine⟨"tuple",id,pa,slot,hty,⟨ob,eo,hc⟩,fun a e=>?_,?_⟩
 ·cases e
  exact⟨ob,eo,hd⟩
 have hA:=ha cpos pins s1 σ H1 _ I1 q1
 rw[hs] at hA ⊢
 refine Calls.callWith_builtin (by show (false || (backTo cpos (starEach es X.env)).any (·.1))=false;rw[hplain] <;> rfl) (Calls.evalArgs_plain ?_)
 exact Z7 hA fun us s2 ⟨vs,H2,I2,r2,q2⟩=>hm pins s2 σ H2 (.ref p) vs (.ref p) us Q I2 rfl r2 q2
end
end L2
namespace PyZ
open PySem PySem.Spec PyProof.Rows
section
variable {prog:Program}{w:World}{A:Around}{E:Value->Shared->Prop}{s:Shared}
theorem X4 {R:List Value->Shared->Prop}{r:Addr}{a b c:Int}{t u v:Tok}{n:Nat}(hh:A.handled=none)(hr:IsRange s.heap r a b c t u v)(hsmall:Builtin.Range.small a b c=true)
  (hn:Builtin.Range.rangeSize a b c=n) (hlen:n<=2 ^ 24)
  (h:∀(h':Heap) (tk:Nat) (acc:Array Value),(∀b o,s.heap.get? b=some o->h'.get? b=some o)->ItemsOf (fun i v=>∃t,v=.int (a+i*c) t) acc n->R acc.toList {s with heap:=h',toks:=tk}) :
  wpAny (model prog w) A (collect (.ref r)) R E s:=by
 unfold collect
 refine Zl (wpAny_runValue (codeAny_builtin PySem.F.entry_proto_collect ?_))
 rw[Around.under_plainId PySem.F.plain_proto_collect _]
 show wpAny _ A.in1 (newList [] >>= fun l=>again (.builtin "list.__iadd__" ⟨[l,.ref r],[]⟩)) _ _ s
 refine Zl (wpAny_newObj_type ?_)
 refine Zm ⟨plainId_quiet PySem.F.plain_list_iadd _,codeAny_builtin PySem.F.entry_list_iadd ?_⟩
 rw[Around.under_plainId PySem.F.plain_list_iadd _]
 have hS₁:(s.heap.push {cls:=.type "list",data:=.seq ([]:List Value).toArray}).get? s.heap.objs.size=some {cls:=.type "list",data:=.seq #[]}:=Zo _ rfl
 show wpAny _ A.in1 (Builtin.List.listExtendWith (.ref s.heap.objs.size) (.ref r) (.ref s.heap.objs.size)) _ _ _
 have key:=wpAny_extend_range (prog:=prog) (w:=w) (A:=A) (s:={s with heap:=s.heap.push {cls:=.type "list",data:=.seq ([]:List Value).toArray}})
  (R:=fun (q:Result) (s':Shared)=>∃(h':Heap) (tk:Nat) (acc':Array Value) (c':Nat),q=.ok (.ret (.ref s.heap.objs.size))/\s'={s with heap:=h',toks:=tk}/\
   (∀b o,s.heap.get? b=some o->h'.get? b=some o)/\h'.get? s.heap.objs.size=some {cls:=.type "list",dict:=none,data:=.seq acc' c',slots:=#[]}/\ItemsOf (fun i v=>∃t,v=.int (a+i*c) t) acc' n)
  hh (Zn _ hr) hsmall hn hlen s.heap.objs.size (.ref s.heap.objs.size) 0 hS₁
  (fun h' tk acc' c' hk hS' hacc=>⟨h',tk,acc',c',rfl,rfl,fun b o e=>hk b o (Nat.ne_of_lt (Zp e)) (Zn _ e),hS',hacc⟩)
 refine wpAny_mono key (fun fin s' x=>?_) fun e s' x=>?_
 ·cases fin with
  |done f=>
   obtain⟨h',tk,acc',c',e,rfl,hk,hS',hacc⟩:=x
   cases e
   show wpAny _ A (load s.heap.objs.size >>= _) _ _ _
   refine Zl (wpAny_load hS' ?_)
   exact Zm (h h' tk acc' hk hacc)
  |again c₁=>
   refine⟨x.1,codeAny_mono x.2 fun q s₂ y=>?_⟩
   obtain⟨h',tk,acc',c',rfl,rfl,hk,hS',hacc⟩:=y
   show wpAny _ A (load s.heap.objs.size >>= _) _ _ _
   refine Zl (wpAny_load hS' ?_)
   exact Zm (h h' tk acc' hk hacc)
 ·obtain⟨_,_,_,_,e',_⟩:=x
  cases e'
theorem WQ {Q₁:Value->Shared->Prop}{r:Addr}{a b c:Int}{t u v:Tok}{n:Nat}(hh:A.handled=none)(hr:IsRange s.heap r a b c t u v)(hsmall:Builtin.Range.small a b c=true)
  (hn:Builtin.Range.rangeSize a b c=n) (hlen:n<=2 ^ 24)
  (h:∀(h':Heap) (tk:Nat) (acc:Array Value),(∀b o,s.heap.get? b=some o->h'.get? b=some o)->ItemsOf (fun i v=>∃t,v=.int (a+i*c) t) acc n->
   Q₁ (.ref h'.objs.size) {s with heap:=h'.push {cls:=.type "tuple",data:=.seq acc},toks:=tk}) :
  codeAny (model prog w) A (.call (.builtin "tuple.__new__") ⟨[.type "tuple",.ref r],[]⟩) (wants Q₁ E) s:=by
 refine codeAny_of_tree ?_
 show wpAny _ A.in1 (do checkBuiltinCall "tuple.__new__" ⟨[.type "tuple",.ref r],[]⟩;again (.builtin "tuple.__new__" ⟨[.type "tuple",.ref r],[]⟩)) _ _ s
 refine Zl (wpAny_of_eq (PySem.F.newCall_tuple_1 _) (Zm ⟨plainId_quiet (show plainId "tuple.__new__"=true by decide +kernel) _,codeAny_builtin PySem.F.entry_tuple_new ?_⟩))
 rw[Around.under_plainId (show plainId "tuple.__new__"=true by decide +kernel) _]
 have hsub:=sub_tuple_self
 have hinit:=init_tuple_lookup
 have hmh:=madeHere_tuple
 have hTI:s.TypeIs (.ref r) "range":=⟨_,hr,rfl⟩
 have hsz:n<=sizeLine:=by
  have:(16777216:Nat)=sizeLine:=by decide
  omega
 wp_walk using wpAny_typeOf hTI,X4 (A:=A.in1) hh hr hsmall hn hlen
 intro h' tk acc hm hacc
 show wpAny _ _ (Builtin.Tuple.tupleExact acc.toList.toArray >>= fun v=>ret v) _ _ _
 unfold Builtin.Tuple.tupleExact
 refine Zl (wpAny_newObj_type ?_ (by show acc.toList.toArray.size<=sizeLine;simp only[Array.toArray_toList];rw[hacc.1];exact hsz))
 refine Zm ?_
 have e:acc.toList.toArray=acc:=by simp
 rw[e]
 exact h h' tk acc hm hacc
theorem JR {Q:Value->Shared->Prop}{r:Addr}{a b c:Int}{t u v:Tok}{n:Nat}(hh:A.handled=none)(hr:IsRange s.heap r a b c t u v)(hsmall:Builtin.Range.small a b c=true)
  (hn:Builtin.Range.rangeSize a b c=n) (hlen:n<=2 ^ 24)
  (h:∀(h':Heap) (tk:Nat) (acc:Array Value),(∀b o,s.heap.get? b=some o->h'.get? b=some o)->ItemsOf (fun i v=>∃t,v=.int (a+i*c) t) acc n->
   Q (.ref h'.objs.size) {s with heap:=h'.push {cls:=.type "tuple",data:=.seq acc},toks:=tk}) :
  wpAny (model prog w) A (call (.type "tuple") [.ref r]) Q E s:=by
 refine callType_codes (Q₁:=fun obj s₁=>s₁.TypeIs obj "tuple"/\Q obj s₁) PySem.F.called_tuple (PySem.F.typeCall_tuple_1 _) PySem.F.entry_object_init
  (WQ (A:=A.in1) hh hr hsmall hn hlen fun h' tk acc hk hacc=>⟨⟨_,Zo _ rfl,rfl⟩,h h' tk acc hk hacc⟩) fun obj s₁ h₁=>?_
 exact⟨h₁.1,PySem.F.args_object_init_2 obj _,object_init_meets PySem.F.called_tuple.init.lookup PySem.F.called_tuple.made (by decide) prog w A.in1 _ s₁ ⟨h₁.1,rfl,h₁.2⟩⟩
end
end PyZ
namespace L2
open PySem PySem.Spec PyProof.Rows
section
variable {X:Cx}
theorem WT (hc:X.calm=true):ZW X (.type "tuple") (fun xs H Q=>∃(a:Addr) (lo hi:Int),xs=[.ref a]/\H a=some (.rng lo hi)/\(-(2 ^ 62)<=lo/\lo<2 ^ 62/\-(2 ^ 62)<=hi/\hi<2 ^ 62)/\(hi-lo).toNat<=sizeLine/\
  ∀l,H l=none->Q (.ref l) (upd H l (.tup ((Z2 lo (hi-lo).toNat).map V.int)))):=by
 intro pins s σ H xs us Q I r h
 obtain⟨a,lo,hi,rfl,ha,⟨b1,b2,b3,b4⟩,hz,q⟩:=h
 obtain⟨u,rfl,ru⟩:=vals1 r
 cases ru
 obtain⟨t,u,v,e⟩:=(show ∃t u v,s.heap.get? a=some {cls:=.type "range",data:=.fields #[.int lo t,.int hi u,.int 1 v]} from I.hok a _ ha)
 refine PyZ.JR (n:=(hi-lo).toNat) (I.ok.hd hc) e (small_one b1 b2 b3 b4) (by rw[rangeSize_one];split <;> omega) hz fun h' tk acc hk hit=>?_
 have I1:Inv X pins σ H {s with heap:=h',toks:=tk}:=I.kept (t':=tk) hk
 have I2:Inv X pins σ (upd H h'.objs.size (.tup ((Z2 lo (hi-lo).toNat).map V.int))) {s with heap:=h'.push {cls:=.type "tuple",data:=.seq acc},toks:=tk}:=
  I1.laid (t':=tk) (fun b o e=>Zn _ e) (Zq _) (show Z3 X.prog X.w _ _ _ (.tup ((Z2 lo (hi-lo).toNat).map V.int)) from ⟨by rw[Za,ZY];exact hz,acc.toList,X8 hit,by simpa using IsTup.new _ _⟩)
 exact⟨.ref h'.objs.size,_,I2,rfl,q _ (I1.hok.fresh (Zq _))⟩
end
end L2
namespace PyY
open PySem
open AutoSeq1 (wpAny_loadPart')
section
variable {prog:Program}{w:World}{A:Around}{E:Value->Shared->Prop}{s:Shared}
theorem XD {j a:Addr}{k:Nat}{us:Array Value}{y:Value}{Q:Value->Shared->Prop}(c:s.heap.IsTupleIter j a k)(d:s.heap.IsTuple a us)(e:us[k]?=some y)
  (q:∀g,g.IsTupleIter j a (k+1)->Heap.SameBut j s.heap g->Q y {s with heap:=g}):wpAny (model prog w) A (Builtin.SmallTypes.nextOf (.ref j)) Q E s:=by
 obtain⟨oj,hj,cj,dj⟩:=id c
 obtain⟨oa,ha,_,na,da⟩:=d
 unfold Builtin.SmallTypes.nextOf
 refine Zl (wpAny_callSpecial?_slot (name:=Str.ofString "__next__") c.typeIs F.slot_tuple_iterator_next (wpAny_call_entry F.slot_tuple_iterator_next c.typeIs F.entry_tuple_iterator_next ?_ (F.args_tuple_iterator_next_1 _)))
 show wpAny _ _ (field (.ref j) 0 >>= _) _ _ s
 refine Zl (wpAny_field hj dj (x:=.ref a) rfl ?_)
 show wpAny _ _ (if (Value.ref a == Value.none)=true then _ else _) _ _ s
 rw[if_neg (show ¬((Value.ref a == Value.none)=true) from Bool.false_ne_true)]
 show wpAny _ _ (field (.ref j) 1 >>= _) _ _ s
 refine Zl (wpAny_field hj dj (x:=.int k 0) rfl ?_)
 show wpAny _ _ (seqItems? (.ref a) >>= _) _ _ s
 refine Zl (wpAny_seqItems ha da ?_)
 simp only[Zj,e]
 refine Zl (wpAny_setField hj dj (by simp) (Zm ⟨y,rfl,Zm (q _ ?_ (Heap.SameBut.update ..))⟩))
 refine⟨_,Heap.get?_update_self _ hj (Obj.isFreed_of_fields (Obj.data_mapFields dj _)),(Obj.cls_mapFields ..).trans cj,?_⟩
 rw[Obj.data_mapFields dj]
 simp[rawInt]
theorem Vl {j a:Addr}{k:Nat}{us:Array Value}{Q:Value->Shared->Prop}(hn:A.handled=none)(c:s.heap.IsTupleIter j a k)(d:s.heap.IsTuple a us)(e:us[k]?=none)
  (q:∀g x,Heap.ExtBut j s.heap g->(∃o,g.get? x=some o/\o.cls=.type "StopIteration")->E (.ref x) {s with heap:=g}):wpAny (model prog w) A (Builtin.SmallTypes.nextOf (.ref j)) Q E s:=by
 obtain⟨oj,hj,cj,dj⟩:=id c
 obtain⟨oa,ha,_,na,da⟩:=d
 unfold Builtin.SmallTypes.nextOf
 refine Zl (wpAny_callSpecial?_slot (name:=Str.ofString "__next__") c.typeIs F.slot_tuple_iterator_next (wpAny_call_entry F.slot_tuple_iterator_next c.typeIs F.entry_tuple_iterator_next ?_ (F.args_tuple_iterator_next_1 _)))
 show wpAny _ _ (field (.ref j) 0 >>= _) _ _ s
 refine Zl (wpAny_field hj dj (x:=.ref a) rfl ?_)
 show wpAny _ _ (if (Value.ref a == Value.none)=true then _ else _) _ _ s
 rw[if_neg (show ¬((Value.ref a == Value.none)=true) from Bool.false_ne_true)]
 show wpAny _ _ (field (.ref j) 1 >>= _) _ _ s
 refine Zl (wpAny_field hj dj (x:=.int k 0) rfl ?_)
 show wpAny _ _ (seqItems? (.ref a) >>= _) _ _ s
 refine Zl (wpAny_seqItems ha da ?_)
 simp only[Zj,e]
 refine Zl (wpAny_rule (Zl (wpAny_setField hj dj (by simp) ?_)))
 show wpAny _ _ (newExc (.type "StopIteration") [] >>= _) _ _ {s with heap:=_}
 refine Zl ?_
 unfold newExc newTuple
 refine Zl (wpAny_newObj_type (Q:=_) ?_ (by size_fits))
 refine Zl (m:=firstArgMember _ _) (wpAny_of_eq (a:=Value.none) (by first|rfl|(unfold firstArgMember;rfl)) ?_)
 refine wpAny_newObj_type (Q:=_) ?_ (by size_fits)
 unfold raiseNew
 refine Zl (wpAny_handled ?_)
 have hn':A.in1.handled=none:=hn
 rw[hn']
 refine Zl (Zm (wpAny_throw (E:=E) ?_))
 exact q _ _ (((Heap.SameBut.update ..).extBut.push _).push _) ⟨_,Zo _ rfl,rfl⟩
theorem Zby {n j a:Addr}{k:Nat}{us:Array Value}{y old:Value}{Q:Option Value->Shared->Prop}(b:IsEnum s.heap n j k old)(c:s.heap.IsTupleIter j a k)(d:s.heap.IsTuple a us)(e:us[k]?=some y)(nj:n≠j)
  (q:∀g,IsEnumOut g n j ((k:Int)+1) y s.heap.objs.size->g.IsTupleIter j a (k+1)->g.get? s.heap.objs.size=some {cls:=.type "tuple",data:=.seq #[.int k s.toks,y]}->g.objs.size=s.heap.objs.size+1->
   (∀x o,x≠n->x≠j->s.heap.get? x=some o->g.get? x=some o)->Q (some (.ref s.heap.objs.size)) {s with heap:=g,toks:=s.toks+1}):wpAny (model prog w) A (pyNext (.ref n)) Q E s:=by
 have tn:s.TypeIs (.ref n) "enumerate":=⟨_,b,rfl⟩
 unfold pyNext
 refine Zl (wpAny_attempt (wpAny_callSpecial?_slot (name:=Str.ofString "__next__") tn F.slot_enumerate_next (wpAny_call_entry F.slot_enumerate_next tn F.entry_enumerate_next ?_ (F.args_enumerate_next_1 _))))
 obtain⟨g0,gs,dr,tk,os⟩:=s
 show wpAny _ _ (field (.ref n) 2 >>= _) _ _ _
 refine Zl (wpAny_field b rfl (x:=.ref j) rfl ?_)
 refine Zl (XD c d e fun g1 c1 s1=>?_)
 replace s1:Heap.SameBut j g0 g1:=s1
 have b1:IsEnum g1 n j k old:=(s1.2 n nj).trans b
 show wpAny _ _ (field (.ref n) 3 >>= _) _ _ ⟨g1,gs,dr,tk,os⟩
 refine Zl (wpAny_field b1 rfl (x:=rawInt k) rfl ?_)
 show wpAny _ _ (field (.ref n) 4 >>= _) _ _ ⟨g1,gs,dr,tk,os⟩
 refine Zl (wpAny_field b1 rfl (x:=.none) rfl ?_)
 show wpAny _ _ (mkInt k >>= _) _ _ ⟨g1,gs,dr,tk,os⟩
 refine Zl (wpAny_mkInt ?_)
 show wpAny _ _ (setField (.ref n) 3 (rawInt ((k:Int)+1)) >>= _) _ _ ⟨g1,gs,dr,tk+1,os⟩
 refine Zl (wpAny_setField_rec b1 (by simp) fun g2 b2 s2=>?_)
 replace s2:Heap.SameBut n g1 g2:=s2
 replace b2:IsEnum g2 n j ((k:Int)+1) old:=b2
 show wpAny _ _ (setField (.ref n) 4 .none >>= _) _ _ ⟨g2,gs,dr,tk+1,os⟩
 refine Zl (wpAny_setField_rec b2 (by simp) fun g3 b3 s3=>?_)
 replace s3:Heap.SameBut n g2 g3:=s3
 replace b3:IsEnum g3 n j ((k:Int)+1) old:=b3
 show wpAny _ _ (newTuple [.int k tk,y] >>= _) _ _ ⟨g3,gs,dr,tk+1,os⟩
 refine Zl (wpAny_newTuple ?_)
 have b4:IsEnum (g3.push {cls:=.type "tuple",data:=.seq #[.int k tk,y]}) n j ((k:Int)+1) old:=Zn _ b3
 generalize z4:g3.push {cls:=.type "tuple",data:=.seq #[.int k tk,y]}=g4 at b4
 have sz:g3.objs.size=g0.objs.size:=by rw[s3.1,s2.1,s1.1]
 have nl:n<g0.objs.size:=Zp b
 have t4:g4.get? g0.objs.size=some {cls:=.type "tuple",data:=.seq #[.int k tk,y]}:=by
  rw[<-z4,<-sz]
  exact Zo _ rfl
 have w4:g4.objs.size=g0.objs.size+1:=by
  rw[<-z4,Heap.size_push,sz]
 have k4:∀x o,x≠n->x≠j->g0.get? x=some o->g4.get? x=some o:=fun x o xn xj hx=>by
  rw[<-z4]
  exact Zn _ (s3.extBut x o xn (s2.extBut x o xn (s1.extBut x o xj hx)))
 have c4:g4.IsTupleIter j a (k+1):=by
  obtain⟨o,ho,r⟩:=(c1.extBut s2.extBut (Ne.symm nj)).extBut s3.extBut (Ne.symm nj)
  rw[<-z4]
  exact⟨o,Zn _ ho,r⟩
 show wpAny _ _ (Builtin.SmallTypes.ownedTupleIsFree (.ref n) >>= _) _ _ ⟨g4,gs,dr,tk+1,os⟩
 rw[sz]
 clear z4 b3 s3 b2 s2 b1 s1 c1 sz g3 g2 g1
 refine Zl ?_
 unfold Builtin.SmallTypes.ownedTupleIsFree
 refine Zl (wpAny_field b4 rfl (x:=.none) rfl (Zm ?_))
 rw[if_pos rfl]
 refine Zl (wpAny_rule (Zl (wpAny_field b4 rfl (x:=old) rfl ?_)))
 refine Zl (wpAny_setField_rec b4 (by simp) fun g5 b5 s5=>?_)
 replace s5:Heap.SameBut n g4 g5:=s5
 replace b5:IsEnum g5 n j ((k:Int)+1) y:=b5
 show wpAny _ _ (Builtin.SmallTypes.ownedTupleHandOut (.ref n) (.ref g0.objs.size) >>= _) _ _ ⟨g5,gs,dr,tk+1,os⟩
 refine Zl ?_
 unfold Builtin.SmallTypes.ownedTupleHandOut
 refine Zl (wpAny_setField_rec b5 (by simp) fun g6 b6 s6=>?_)
 replace s6:Heap.SameBut n g5 g6:=s6
 replace b6:IsEnumOut g6 n j ((k:Int)+1) y g0.objs.size:=b6
 refine wpAny_setField_rec b6 (by simp) fun g7 b7 s7=>?_
 replace s7:Heap.SameBut n g6 g7:=s7
 replace b7:IsEnumOut g7 n j ((k:Int)+1) y g0.objs.size:=b7
 refine Zl (wpAny_letGo (Zm ⟨_,rfl,Zm (q g7 b7 ?_ ?_ ?_ ?_)⟩))
 ·exact ((c4.extBut s5.extBut (Ne.symm nj)).extBut s6.extBut (Ne.symm nj)).extBut s7.extBut (Ne.symm nj)
 ·exact s7.extBut _ _ (Nat.ne_of_gt nl) (s6.extBut _ _ (Nat.ne_of_gt nl) (s5.extBut _ _ (Nat.ne_of_gt nl) t4))
 ·rw[s7.1,s6.1,s5.1,w4]
 ·exact fun x o xn xj hx=>s7.extBut x o xn (s6.extBut x o xn (s5.extBut x o xn (k4 x o xn xj hx)))
theorem Zdp {n j a:Addr}{k:Nat}{us:Array Value}{old:Value}{Q:Option Value->Shared->Prop}(hn:A.handled=none)(b:IsEnum s.heap n j k old)(c:s.heap.IsTupleIter j a k)(d:s.heap.IsTuple a us)(e:us[k]?=none)
  (q:∀g,Heap.ExtBut j s.heap g->Q none {s with heap:=g}):wpAny (model prog w) A (pyNext (.ref n)) Q E s:=by
 have tn:s.TypeIs (.ref n) "enumerate":=⟨_,b,rfl⟩
 unfold pyNext
 refine Zl (wpAny_attempt (wpAny_callSpecial?_slot (name:=Str.ofString "__next__") tn F.slot_enumerate_next (wpAny_call_entry F.slot_enumerate_next tn F.entry_enumerate_next ?_ (F.args_enumerate_next_1 _))))
 show wpAny _ _ (field (.ref n) 2 >>= _) _ _ _
 refine Zl (wpAny_field b rfl (x:=.ref j) rfl ?_)
 refine Zl (Vl hn c d e fun g x xe xs=>?_)
 obtain⟨o,ho,hc⟩:=xs
 refine Zl (wpAny_isInstance (T:="StopIteration") (b:=true) ⟨o,ho,hc⟩ isSubtype_stop ?_)
 exact Zm (q _ xe)
theorem Zdo (a:Addr)(us:Array Value)(n:Nat)(dd:Option Addr)(sl:Array (Option Value)) :
  Meets (Builtin.«enumerate.__new__» ⟨[.type "enumerate",.ref a],[]⟩) (fun _ R s=>s.heap.get? a=some {cls:=.type "tuple",dict:=dd,data:=.seq us n,slots:=sl}/\
   R (.ok (.ret (.ref (s.heap.push {cls:=.type "tuple_iterator",data:=.fields #[.ref a,.int 0 0]}).objs.size)))
    {s with heap:=(s.heap.push {cls:=.type "tuple_iterator",data:=.fields #[.ref a,.int 0 0]}).push {cls:=.type "enumerate",data:=.fields #[.none,.bool false,.ref s.heap.objs.size,rawInt 0,.none,.none]}}):=
 .of_wp fun prog w A R s h=>by
  obtain⟨hh,gg,dr,tk,os⟩:=s
  obtain⟨ha,h⟩:=h
  have sub:=sub_enumerate
  have hT:Heap.IsTuple (Shared.heap ⟨hh,gg,dr,tk,os⟩) a us:=⟨_,ha,rfl,n,rfl⟩
  wp_walk using wpAny_loadPart' ha
  refine wpAny_stack_any fun st=>Zm ?_
  split
  ·rename_i c1 _ _ _ _ _
   cases (c1 == Value.type "enumerate") <;> (wp_walk using wpAny_loadPart' ha,wpAny_pyIter_tuple hT) <;> exact⟨_,rfl,h⟩
  ·wp_walk using wpAny_loadPart' ha,wpAny_pyIter_tuple hT
   exact⟨_,rfl,h⟩
theorem ZbF {a:Addr}{us:Array Value}{Q:Value->Shared->Prop}(hT:s.heap.IsTuple a us)
  (h:∀g,IsEnum g (s.heap.objs.size+1) s.heap.objs.size 0 .none->g.IsTupleIter s.heap.objs.size a 0->g.objs.size=s.heap.objs.size+2->(∀b o,s.heap.get? b=some o->g.get? b=some o)->Q (.ref (s.heap.objs.size+1)) {s with heap:=g}) :
  wpAny (model prog w) A (call (.type "enumerate") [.ref a]) Q E s:=by
 obtain⟨⟨cc,dd,dt,sl⟩,ha,hc,n,hd⟩:=hT
 have hc':cc=.type "tuple":=hc
 have hd':dt=.seq us n:=hd
 subst hc' hd'
 refine callType_new F.called_enumerate (by decide) (F.typeCall_enumerate_1 _) (F.newCall_enumerate_1 _) (fun obj=>F.args_object_init_2 obj _) F.entry_enumerate_new (Zdo a us n dd sl) ⟨ha,?_⟩
 have hz:(s.heap.push {cls:=.type "tuple_iterator",data:=.fields #[.ref a,.int 0 0]}).objs.size=s.heap.objs.size+1:=Heap.size_push ..
 show _/\_
 rw[hz]
 have he:IsEnum ((s.heap.push {cls:=.type "tuple_iterator",data:=.fields #[.ref a,.int 0 0]}).push {cls:=.type "enumerate",data:=.fields #[.none,.bool false,.ref s.heap.objs.size,rawInt 0,.none,.none]}) (s.heap.objs.size+1) s.heap.objs.size 0 .none:=by
  have z:=Zo (s.heap.push {cls:=.type "tuple_iterator",data:=.fields #[.ref a,.int 0 0]}) (o:={cls:=.type "enumerate",data:=.fields #[.none,.bool false,.ref s.heap.objs.size,rawInt 0,.none,.none]}) rfl
  rw[hz] at z
  exact z
 exact⟨⟨_,he,rfl⟩,h _ he ⟨_,Zn _ (Zo _ rfl),rfl,rfl⟩ (by rw[Heap.size_push,hz]) fun b o y=>Zn _ (Zn _ y)⟩
end
end PyY
namespace L2
open PySem PySem.Spec PyProof.Rows
section
variable {X:Cx}{pins:List (Addr×Obj)}{σ:St}{H:Hp}{s:Shared}{h':Heap}
theorem Inv.turnLay {t':Nat}{ts:List Addr}{T:Addr}{o:HO}(I:Inv X pins σ H s)(k:∀b u,b∉ts->s.heap.get? b=some u->h'.get? b=some u)(ht:∀b∈ts,∃u,h'.get? b=some u)(hf:∀b∈ts,X7 X pins H b)(hT:s.heap.objs.size<=T)
  (new:Z3 X.prog X.w (upd H T o) h' T o):Inv X pins σ (upd H T o) {s with heap:=h',toks:=t'}:=by
 have fT:H T=none:=I.hok.fresh hT
 have nts:∀b u,H b=some u->b∉ts:=fun b u e z=>by
  have:=(hf b z).1
  rw[e] at this
  cases this
 refine I.call (ch:=ts) (g':=s.gens) (d':=s.drawn) ⟨fun b u e _ _ nx=>k b u nx e,fun b u e _ _ nx=>⟨u.slots,k b u nx e⟩,fun b u e n _=>?_,fun b u e nx=>⟨u,k b u nx e⟩,fun b ys q=>?_,fun b u v q=>?_,fun b ps q=>⟨#[],?_⟩⟩
  (fun b u e=>?_) I.bare fun b hb=>?_
 ·rw[Zw (Nat.ne_of_lt (Nat.lt_of_lt_of_le (Zp e) hT))]
  exact n
 ·rw[Zw (ZN q fT)]
  exact q
 ·rw[Zw (ZN q fT)]
  exact q
 ·rw[Zw (ZN q fT),q]
  simp
 ·by_cases hb:b=T
  ·subst hb
   rw[Zt] at e
   cases e
   exact new
  ·rw[Zw hb] at e
   refine (I.hok b u e).stay (fun c v hc q=>k c v ?_ q) (fun c r=>by rw[Zw (ZN r fT)];exact r) fun c ys r=>by rw[Zw (ZN r fT)];exact r
   rcases hc with z|z
   ·rw[z]
    exact nts b u e
   ·exact nts c _ z
 ·obtain⟨f0,f1,f2,f3,f4,f5⟩:=hf b hb
  exact⟨f3,f1,f4,f5⟩
theorem Inv.turnedL {t':Nat}{ts:List Addr}(I:Inv X pins σ H s)(k:∀b u,b∉ts->s.heap.get? b=some u->h'.get? b=some u)(hf:∀b∈ts,X7 X pins H b):Inv X pins σ H {s with heap:=h',toks:=t'}:=by
 have nts:∀b u,H b=some u->b∉ts:=fun b u e z=>by
  have:=(hf b z).1
  rw[e] at this
  cases this
 refine I.call (ch:=ts) (g':=s.gens) (d':=s.drawn) ⟨fun b u e _ _ nx=>k b u nx e,fun b u e _ _ nx=>⟨u.slots,k b u nx e⟩,fun b u e n _=>n,fun b u e nx=>⟨u,k b u nx e⟩,fun b ys q=>q,fun b u v q=>q,fun b ps q=>⟨#[],by rw[q];simp⟩⟩
  (fun b u e=>?_) I.bare fun b hb=>?_
 ·refine (I.hok b u e).stay (fun c v hc q=>k c v ?_ q) (fun c r=>r) fun c ys r=>r
  rcases hc with z|z
  ·rw[z]
   exact nts b u e
  ·exact nts c _ z
 ·obtain⟨f0,f1,f2,f3,f4,f5⟩:=hf b hb
  exact⟨f3,f1,f4,f5⟩
end
def ZjW (K:PySem.W.Frag)(a:Addr):It:=
 ⟨fun i H=>∃xs x,Wb K H a xs/\xs[i]?=some x,fun i H x H'=>∃T y,x=.ref T/\H T=none/\H'=upd H T (.tup [.int i,y])/\∀xs,Wb K H a xs->xs[i]?=some y,fun i H=>∃xs,Wb K H a xs/\xs.length<=i⟩
def ZiL (K:PySem.W.Frag)(a:Addr):It:=
 ⟨fun i H=>∃xs x,Wp K H a xs/\xs[i]?=some x,fun i H x H'=>∃T y,x=.ref T/\H T=none/\H'=upd H T (.tup [.int i,y])/\∀xs,Wp K H a xs->xs[i]?=some y,fun i H=>∃xs,Wp K H a xs/\xs.length<=i⟩
theorem Za0 {P:Program}{w:World}{K:PySem.W.Frag}{elts:List Expr}{x1}{pos:Pos}(a e it:Addr)(ne:e≠it) :
  ZaR P w K (.Tuple elts x1 pos) (ZjW K a) [e,it] e (fun i h=>(∃old,IsEnum h e it i old)/\h.IsListIter it a i) where
 mem:=by simp
 obj:=fun i h st b hb=>by
  obtain⟨⟨old,se⟩,⟨o,e1,c,d⟩⟩:=st
  rcases List.mem_cons.mp hb with rfl|hb
  ·exact⟨_,se,fun v z=>by
    have z':Data.fields _=Data.cell v:=z
    cases z'⟩
  ·have q:b=it:=by simpa using hb
   subst q
   exact⟨o,e1,fun v z=>by rw[d] at z;cases z⟩
 keep:=fun i h h' st k=>by
  obtain⟨⟨old,se⟩,si⟩:=st
  exact⟨⟨old,k e (by simp) _ se⟩,si.at fun o q=>k it (by simp) o q⟩
 item:=by
  intro X hP hw hK hc i pins s σ H E I hf st hg
  subst hP hw hK
  obtain⟨⟨old,se⟩,si⟩:=st
  obtain⟨xs,x,hq,hx⟩:=hg
  obtain⟨its,rv,p,hz⟩:=I.list hq
  obtain⟨u,hu,ru⟩:=rv.get hx
  refine wpAny_pyNext_enum_item se si p.isList (x:=u) (by simpa using hu) ne fun h1 ho hi1 hT hsz hk=>?_
  refine⟨_,rfl,wpAny_letOwnedTupleGo_enum ho fun h2 he2 hs2=>?_⟩
  have le:e<s.heap.objs.size:=Zp se
  have hs3:Heap.SameBut e h1 h2:=hs2
  have hT2:h2.get? s.heap.objs.size=some {cls:=.type "tuple",data:=.seq #[.int i s.toks,u]}:=(hs3.2 _ (Nat.ne_of_gt le)).trans hT
  have hi2:h2.IsListIter it a (i+1):=hi1.at fun o q=>(hs3.2 it (Ne.symm ne)).trans q
  have he3:IsEnum h2 e it ((i+1:Nat):Int) u:=by
   have:=he2
   simpa using this
  have nT:H s.heap.objs.size=none:=I.hok.fresh (Zq _)
  have I2:=I.turnLay (t':=s.toks+1) (h':=h2) (ts:=[e,it]) (T:=s.heap.objs.size) (o:=.tup [.int i,x]) (fun b v hb q=>?_) (fun b hb=>?_) hf (Zq _) ⟨by show 2<=sizeLine;decide,[.int i s.toks,u],.cons ⟨_,rfl⟩ (.cons ru .nil),_,hT2,rfl,0,rfl⟩
  ·refine⟨.ref s.heap.objs.size,_,I2,rfl,⟨_,x,rfl,nT,rfl,fun ys hy=>by rw[I.list_inj hy hq];exact hx⟩,⟨⟨u,he3⟩,hi2⟩,fun b hb=>?_⟩
   have fb:=(hf b hb).1
   have lb:b<s.heap.objs.size:=by
    rcases List.mem_cons.mp hb with rfl|hb
    ·exact le
    ·have q:b=it:=by simpa using hb
     subst q
     obtain⟨o,e1,_⟩:=si
     exact Zp e1
   rw[Zw (Nat.ne_of_lt lb)]
   exact fb
  ·have q1:b≠e:=fun z=>hb (by simp[z])
   have q2:b≠it:=fun z=>hb (by simp[z])
   exact (hs3.2 b q1).trans (hk b v q1 q2 q)
  ·rcases List.mem_cons.mp hb with rfl|hb
   ·exact⟨_,he3⟩
   ·have q:b=it:=by simpa using hb
    subst q
    obtain⟨o,e1,_⟩:=hi2
    exact⟨o,e1⟩
 done:=by
  intro X hP hw hK hc i pins s σ H E I hf st hg
  subst hP hw hK
  obtain⟨⟨old,se⟩,si⟩:=st
  obtain⟨xs,hq,hx⟩:=hg
  obtain⟨its,rv,p,hz⟩:=I.list hq
  have hl:=rv.length
  exact wpAny_pyNext_enum_end (I.ok.hd hc) se si p.isList (by simp;omega) fun h1 eb=>⟨rfl,I.turnedL (t':=s.toks) (ts:=[e,it]) (fun b o hb q=>eb b o (fun z=>hb (by simp[z])) q) hf⟩
 self:=fun _ _ _ _ _ st h=>by
  obtain⟨⟨old,se⟩,si⟩:=st
  exact wpAny_pyIter_enum se h
theorem ZaZ {P:Program}{w:World}{K:PySem.W.Frag}{elts:List Expr}{x1}{pos:Pos}(a e it:Addr)(ne:e≠it) :
  ZaR P w K (.Tuple elts x1 pos) (ZiL K a) [e,it] e (fun i h=>(∃old,IsEnum h e it i old)/\h.IsTupleIter it a i) where
 mem:=by simp
 obj:=fun i h st b hb=>by
  obtain⟨⟨old,se⟩,⟨o,e1,c,d⟩⟩:=st
  rcases List.mem_cons.mp hb with rfl|hb
  ·exact⟨_,se,fun v z=>by
    have z':Data.fields _=Data.cell v:=z
    cases z'⟩
  ·have q:b=it:=by simpa using hb
   subst q
   exact⟨o,e1,fun v z=>by rw[d] at z;cases z⟩
 keep:=fun i h h' st k=>by
  obtain⟨⟨old,se⟩,si⟩:=st
  exact⟨⟨old,k e (by simp) _ se⟩,si.at fun o q=>k it (by simp) o q⟩
 item:=by
  intro X hP hw hK hc i pins s σ H E I hf st hg
  subst hP hw hK
  obtain⟨⟨old,se⟩,si⟩:=st
  obtain⟨xs,x,hq,hx⟩:=hg
  obtain⟨its,rv,p,hz⟩:=I.tuple hq
  obtain⟨u,hu,ru⟩:=rv.get hx
  refine PyY.Zby se si (show s.heap.IsTuple a its.toArray from p) (y:=u) (by simpa using hu) ne fun h1 ho hi1 hT hsz hk=>?_
  refine⟨_,rfl,wpAny_letOwnedTupleGo_enum ho fun h2 he2 hs2=>?_⟩
  have le:e<s.heap.objs.size:=Zp se
  have hs3:Heap.SameBut e h1 h2:=hs2
  have hT2:h2.get? s.heap.objs.size=some {cls:=.type "tuple",data:=.seq #[.int i s.toks,u]}:=(hs3.2 _ (Nat.ne_of_gt le)).trans hT
  have hi2:h2.IsTupleIter it a (i+1):=hi1.at fun o q=>(hs3.2 it (Ne.symm ne)).trans q
  have he3:IsEnum h2 e it ((i+1:Nat):Int) u:=by
   have:=he2
   simpa using this
  have nT:H s.heap.objs.size=none:=I.hok.fresh (Zq _)
  have I2:=I.turnLay (t':=s.toks+1) (h':=h2) (ts:=[e,it]) (T:=s.heap.objs.size) (o:=.tup [.int i,x]) (fun b v hb q=>?_) (fun b hb=>?_) hf (Zq _) ⟨by show 2<=sizeLine;decide,[.int i s.toks,u],.cons ⟨_,rfl⟩ (.cons ru .nil),_,hT2,rfl,0,rfl⟩
  ·refine⟨.ref s.heap.objs.size,_,I2,rfl,⟨_,x,rfl,nT,rfl,fun ys hy=>by rw[I.tuple_inj hy hq];exact hx⟩,⟨⟨u,he3⟩,hi2⟩,fun b hb=>?_⟩
   have fb:=(hf b hb).1
   have lb:b<s.heap.objs.size:=by
    rcases List.mem_cons.mp hb with rfl|hb
    ·exact le
    ·have q:b=it:=by simpa using hb
     subst q
     obtain⟨o,e1,_⟩:=si
     exact Zp e1
   rw[Zw (Nat.ne_of_lt lb)]
   exact fb
  ·have q1:b≠e:=fun z=>hb (by simp[z])
   have q2:b≠it:=fun z=>hb (by simp[z])
   exact (hs3.2 b q1).trans (hk b v q1 q2 q)
  ·rcases List.mem_cons.mp hb with rfl|hb
   ·exact⟨_,he3⟩
   ·have q:b=it:=by simpa using hb
    subst q
    obtain⟨o,e1,_⟩:=hi2
    exact⟨o,e1⟩
 done:=by
  intro X hP hw hK hc i pins s σ H E I hf st hg
  subst hP hw hK
  obtain⟨⟨old,se⟩,si⟩:=st
  obtain⟨xs,hq,hx⟩:=hg
  obtain⟨its,rv,p,hz⟩:=I.tuple hq
  have hl:=rv.length
  exact PyY.Zdp (I.ok.hd hc) se si (show s.heap.IsTuple a its.toArray from p) (by simp;omega) fun h1 eb=>⟨rfl,I.turnedL (t':=s.toks) (ts:=[e,it]) (fun b o hb q=>eb b o (fun z=>hb (by simp[z])) q) hf⟩
 self:=fun _ _ _ _ _ st h=>by
  obtain⟨⟨old,se⟩,si⟩:=st
  exact wpAny_pyIter_enum se h
section
variable {X:Cx}
def Zhj (K:PySem.W.Frag)(ta:TA):TI:=fun σ H R=>ta σ H fun vs H1=>∃a,vs=[.ref a]/\(((∃xs,Wb K H1 a xs)/\R (ZjW K a) H1)\/((∃xs,Wp K H1 a xs)/\R (ZiL K a) H1))
theorem ZjK {elts:List Expr}{x1}{pt:Pos}{l:Expr}{ta:TA}{p pos:Pos}(hm:X.mg "enumerate"=none)(ha:PA X [l] ta)(hg:Y2 X.env.scope "enumerate"=true:=by kernel_rfl)(hs:starEach [l] X.env=[(false,eval l X.env)]:=by rfl) :
  PI X (.Tuple elts x1 pt) (.Call (.Name "enumerate" p) [l] [] pos) (Zhj X.K ta):=by
 intro pins s σ H R I h
 refine Call_ (JO I (XE hg) hm (show bootBuiltins "enumerate"=some (.type "enumerate") by kernel_rfl) (PyProof.Rows.callWith_type1 (Z7 (ha pos pins s σ H _ I h) fun us s1 ⟨vs,H1,I1,r1,q1⟩=>?_) hs rfl))
 obtain⟨a,e,q⟩:=q1
 subst e
 cases r1 with
 |cons r rr=>
  cases rr
  cases (show _=Value.ref a from r)
  have sz:∀b,b∈[s1.heap.objs.size+1,s1.heap.objs.size]->s1.heap.objs.size<=b:=fun b hb=>by
   rcases List.mem_cons.mp hb with rfl|hb
   ·exact Nat.le_succ _
   ·have:b=s1.heap.objs.size:=by simpa using hb
    rw[this]
    exact Zq _
  rcases q with ⟨⟨xs,hq⟩,q⟩|⟨⟨xs,hq⟩,q⟩
  ·obtain⟨its,rv,p,hz⟩:=I1.list hq
   refine call_enumerate_list p.isList fun g ge gi gs gk=>?_
   refine wpAny_pyIter_enum ge ?_
   exact⟨_,[s1.heap.objs.size+1,s1.heap.objs.size],_,_,H1,rfl,I1.kept (t':=s1.toks) gk,Za0 a _ _ (Nat.ne_of_gt (Nat.lt_succ_self _)),⟨⟨_,ge⟩,gi⟩,fun b hb=>I1.fpOk (sz b hb) (I1.hok.fresh (sz b hb)),q⟩
  ·obtain⟨its,rv,p,hz⟩:=I1.tuple hq
   refine PyY.ZbF (show s1.heap.IsTuple a its.toArray from p) fun g ge gi gs gk=>?_
   refine wpAny_pyIter_enum ge ?_
   exact⟨_,[s1.heap.objs.size+1,s1.heap.objs.size],_,_,H1,rfl,I1.kept (t':=s1.toks) gk,ZaZ a _ _ (Nat.ne_of_gt (Nat.lt_succ_self _)),⟨⟨_,ge⟩,gi⟩,fun b hb=>I1.fpOk (sz b hb) (I1.hok.fresh (sz b hb)),q⟩
theorem ZjL (K:PySem.W.Frag){elts:List Expr}{x1}{pt:Pos}{l:Expr}{ta:TA}{p pos:Pos}(hm:X.mg "enumerate"=none)(ha:PA X [l] ta)(hK:X.K=K:=by rfl)(hg:Y2 X.env.scope "enumerate"=true:=by kernel_rfl)(hs:starEach [l] X.env=[(false,eval l X.env)]:=by rfl) :
  PI X (.Tuple elts x1 pt) (.Call (.Name "enumerate" p) [l] [] pos) (Zhj K ta):=hK▸ZjK hm ha hg hs
end
structure ZjX (J:It)(At:Hp->Prop)(xs:List V):Prop where
 go:∀i H,At H->i<xs.length->J.go i H
 yld:∀i H x H2,At H->J.yld i H x H2->∃T y,x=.ref T/\H T=none/\H2=upd H T (.tup [.int i,y])/\xs[i]?=some y
 stop:∀i H,At H->xs.length<=i->J.stop i H
theorem Zio {K:PySem.W.Frag}{a:Addr}{xs:List V}:ZjX (ZiL K a) (fun H=>Wp K H a xs) xs:=
 ⟨fun i H h hi=>⟨xs,xs[i],h,by simp[hi]⟩,fun i H x H2 h hy=>by
  obtain⟨T,y,e,hT,e2,q⟩:=hy
  exact⟨T,y,e,hT,e2,q xs h⟩,fun i H h hi=>⟨xs,h,hi⟩⟩
theorem g2 (K:PySem.W.Frag)(i j:Nat){X:Cx}{x y:Str}{k}{px py pos:Pos}(hc:X.calm=true)(hx:PG X (.Name x px) (Yg i))(hy:PG X (.Name y py) (Yg j))(hK:X.K=K:=by rfl)
  (hn:(assignEach [.Name x px,.Name y py] X.env).length=2:=by rfl) (hst:(assignEach [.Name x px,.Name y py] X.env).findIdx? (·.1)=none:=by rfl) :
  PG X (.Tuple [.Name x px,.Name y py] k pos) (Zgs K 2 (XF (Yg i) (XF (Yg j) Zgt))):=hK▸ZhM hc (Zaa hx (Zaa hy ZfW)) hn hst
theorem Zer {X:Cx}(K:PySem.W.Frag){o e:Expr}{es:List Expr}{to:TE}{t:TA}{name:Str}{apos cpos:Pos}{T id:String}{r:V->List V->Hp->VK->Prop}(pa:PlainAttrs T)(slot:Slot T name id)(hty:typeOf (.builtin id)=pure (.type "method_descriptor"))(hm:MtR X id r)(ho:PE X o to)(ha:PA X (e::es) t)
  (hK:X.K=K:=by rfl) (hbase:attributeBase o name X.env (eval o X.env)=eval o X.env:=by rfl)
  (hfew:((backTo cpos (starEach (e::es) X.env)).all (fun x=>!x.1) && (backToKw cpos (keywordEach [] X.env)).all (fun x=>x.1.isSome)
   && decide ((e::es).length+([]:List Keyword).length+(if ([]:List Keyword).isEmpty then 0 else 1)<30))=true:=by rfl)
  (hline:(apos.endLine == cpos.line)=true:=by rfl) (hs:starEach (e::es) X.env=(false,eval e X.env)::starEach es X.env:=by rfl) (hplain:(backTo cpos (starEach es X.env)).any (·.1)=false:=by rfl) :
  PE X (.Call (.Attribute o name apos) (e::es) [] cpos) (tBM K T r to t):=hK▸Wg pa slot hty hm ho ha hbase hfew hline hs hplain
structure Sml (k b:Nat)(d:PyData):Prop where
 sh:d.showable=true
 nd:d.hasDict=false
 dp:d.depth<=k
 lv:d.leavesShort 300=true
 bl:d.bulk<=b
theorem Sml.all {k b:Nat}:∀{ds:List PyData},(∀d∈ds,Sml k b d)->PyData.showableAll ds=true/\PyData.hasDictAll ds=false/\PyData.depthAll ds<=k/\PyData.leavesShortAll 300 ds=true/\PyData.bulkAll ds<=ds.length*(b+1)
 | [],_=>⟨rfl,rfl,Nat.zero_le _,rfl,Nat.zero_le _⟩
 |d::ds,h=>by
  obtain⟨h1,h2,h3,h4,h5⟩:=Sml.all (ds:=ds) fun e he=>h e (List.mem_cons_of_mem _ he)
  have hd:=h d List.mem_cons_self
  refine⟨?_,?_,?_,?_,?_⟩
  ·simp only[PyData.showableAll,hd.sh,h1,Bool.and_self]
  ·simp only[PyData.hasDictAll,hd.nd,h2,Bool.or_self]
  ·simp only[PyData.depthAll]
   exact Nat.max_le.mpr ⟨hd.dp,h3⟩
  ·simp only[PyData.leavesShortAll,hd.lv,h4,Bool.and_self]
  ·simp only[PyData.bulkAll,Zi]
   have:=hd.bl
   rw[Nat.succ_mul]
   omega
theorem Sml.fit {k b:Nat}{d:PyData}(h:Sml k b d)(hk:k<=60)(hb:b<=50000):ZdG d:=by
 refine⟨h.sh,h.nd,Nat.le_trans h.dp hk,?_⟩
 have:=PyData.shown_le_bulk 300 (by decide) d h.lv
 have h5:=h.bl
 have e:(16777216:Nat)=sizeLine:=by decide
 omega
theorem Sml.tup {k b n:Nat}{ds:List PyData}(hn:ds.length<=n)(h:∀d∈ds,Sml k b d):Sml (k+1) (n*(b+1)) (.tuple ds):=by
 obtain⟨h1,h2,h3,h4,h5⟩:=Sml.all h
 refine⟨by simp only[PyData.showable];exact h1,by simp only[PyData.hasDict];exact h2,by simp only[PyData.depth];omega,by simp only[PyData.leavesShort];exact h4,?_⟩
 simp only[PyData.bulk]
 exact Nat.le_trans h5 (Nat.mul_le_mul_right _ hn)
theorem ZfN {k:Nat}(h:k<=1000):Sml 0 0 (.int (k:Int)):=by
 obtain⟨h1,_,_,h4,_,_⟩:=Wr (ns:=[(k:Int)]) (fun n hn=>by
  rw[List.mem_singleton.mp hn,Int.natAbs_natCast]
  exact Nat.lt_of_le_of_lt h (by decide))
 simp only[List.map_cons,List.map_nil,PyData.showableAll,PyData.leavesShortAll,Bool.and_true] at h1 h4
 exact⟨h1,rfl,Nat.zero_le _,h4,Nat.zero_le _⟩
end L2
namespace Pm
open PySem L2 PySem.Spec PyProof.Rows
open Tb
def nV (k:Nat):V:=.int (k:Int)
def GT (H:Hp)(g:Addr)(t:List (List Nat)):Prop:=∃rs:List Addr,H g=some (.tup (rs.map V.ref))/\rs.length=t.length/\∀(i:Nat) r,rs[i]?=some r->Tz H r ((t.getD i []).map nV)
theorem GT.mono {H H':Hp}{g:Addr}{t:List (List Nat)}(s:Same H H')(G:GT H g t):GT H' g t:=by
 obtain⟨rs,h1,h2,h3⟩:=G
 exact⟨rs,s _ _ h1,h2,fun i r hr=>(h3 i r hr).mono s⟩
theorem VS {t:List (List Nat)}(P:PW t){a:Nat}(ha:a<t.length):(t.getD a []).length=t.length:=by
 refine P.len _ ?_
 rw[Zb,Zf ha]
 exact List.getElem_mem ha
theorem Xu {t:List (List Nat)}(P:PW t){a b:Nat}(ha:a<t.length)(hb:b<t.length):((t.getD a []).map nV)[b]?=some (.int (Zz t a b:Nat)):=by
 have hl:=VS P ha
 unfold Zz
 generalize t.getD a []=row at *
 rw[Zc,Zf (show b<row.length by omega),Zb,Zf (show b<row.length by omega)]
 rfl
theorem GT.at {H:Hp}{g:Addr}{t:List (List Nat)}(G:GT H g t)(P:PW t){a:Nat}(ha:a<t.length):∃(rs:List Addr) (r:Addr),H g=some (.tup (rs.map V.ref))/\rs.length=t.length/\UA (rs.map V.ref) (a:Int)=some (.ref r)/\Tz H r ((t.getD a []).map nV)/\∀b,b<t.length->UA ((t.getD a []).map nV) (b:Int)=some (.int (Zz t a b:Nat)):=by
 obtain⟨rs,h1,h2,h3⟩:=G
 have hr:rs[a]?=some (rs[a]'(by omega)):=Zf (by omega)
 exact⟨rs,_,h1,h2,YJ (by rw[Zc,hr];rfl),h3 a _ hr,fun b hb=>YJ (Xu P ha hb)⟩
def ZkO (H:Hp)(L:Addr)(rs:List Addr)(f:Nat->List Nat):Prop:=H L=some (.lst (rs.map V.ref))/\∀(i:Nat) r,rs[i]?=some r->Tz H r ((f i).map nV)
theorem Zcz (i j:Int):PyData.eqv (.int i) (.int j)=decide (i=j):=by
 first|rfl|simp[PyData.eqv]
theorem Zaw {n i:Nat}(h:i<n):ixN n (i:Int)=some i:=by
 unfold ixN
 rw[if_pos (Int.natCast_nonneg _),if_pos (by omega),Zj]
theorem XH {α:Type}:∀(l:List α) (i:Nat) (h:i<l.length),(l[i]::l.eraseIdx i).Perm l
 |x::l,0,h=>List.Perm.refl _
 |x::l,i+1,h=>by
  show ((l[i]'(Nat.lt_of_succ_lt_succ h))::x::l.eraseIdx i).Perm (x::l)
  exact (List.Perm.swap x _ _).trans (List.Perm.cons x (XH l i (Nat.lt_of_succ_lt_succ h)))
theorem XG:∀(xs:List Nat) (j:Nat),(xs.map nV).eraseIdx j=(xs.eraseIdx j).map nV
 | [],j=>rfl
 |x::xs,0=>rfl
 |x::xs,j+1=>by
  show nV x::(xs.map nV).eraseIdx j=nV x::(xs.eraseIdx j).map nV
  rw[XG xs j]
theorem ZhQ {n:Nat}{os:List Nat}(n1:1<=n)(p:os.Perm (List.range n))(h0:os[0]?=some 0):Ord n os:=by
 refine⟨by rw[p.length_eq,Zg],p.nodup_iff.mpr List.nodup_range,fun v hv=>p.mem_iff.mpr (List.mem_range.mpr hv),fun v hv=>List.mem_range.mp (p.mem_iff.mp hv),?_⟩
 rw[Zb,h0]
 rfl
theorem Jd {xs:List Nat}{i:Nat}{y:V}(h:(xs.map nV)[i]?=some y):∃k,xs[i]?=some k/\y=.int (k:Nat):=by
 rw[Zc] at h
 cases e:xs[i]? with
 |none=>rw[e] at h;cases h
 |some k=>rw[e] at h;exact⟨k,rfl,(Option.some.inj h).symm⟩
def W9 (f g:List Nat):List Nat:=g.map fun i=>f.getD i 0
def nI (xs:List Nat):List Int:=xs.map fun k:Nat=>((k:Nat):Int)
theorem Ub (xs:List Nat):(nI xs).map V.int=xs.map nV:=by unfold nI;rw[List.map_map];rfl
def TupsAt (H:Hp)(L:Addr)(bs:List Addr)(yss:List (List Nat)):Prop:=H L=some (.lst (bs.map V.ref))/\bs.length=yss.length/\∀(i:Nat) b,bs[i]?=some b->H b=some (.tup ((yss.getD i []).map nV))
theorem TupsAt.mono {H H':Hp}{L:Addr}{bs:List Addr}{yss:List (List Nat)}(s:Same H H')(R:TupsAt H L bs yss):TupsAt H' L bs yss:=⟨s _ _ R.1,R.2.1,fun i b hb=>s _ _ (R.2.2 i b hb)⟩
theorem TupsAt.push {H:Hp}{L:Addr}{bs:List Addr}{yss:List (List Nat)}{b:Addr}{ys:List Nat}(R:TupsAt H L bs yss)(h:H b=some (.tup (ys.map nV))):TupsAt (upd H L (.lst (bs.map V.ref++[.ref b]))) L (bs++[b]) (yss++[ys]):=by
 have ne:∀{b ys},H b=some (.tup ys)->upd H L (.lst (bs.map V.ref++[.ref b])) b=some (.tup ys):=fun {b ys} hb=>by
  rw[Zw (fun z=>by rw[z,R.1] at hb;cases hb)]
  exact hb
 refine⟨by rw[Zt,List.map_append];rfl,by rw[Zd,Zd,R.2.1];rfl,fun i c hc=>?_⟩
 have nb:c≠L->upd H L (.lst (bs.map V.ref++[.ref b])) c=H c:=fun z=>Zw z
 by_cases hi:i<bs.length
 ·rw[List.getElem?_append_left hi] at hc
  have:=R.2.2 i c hc
  rw[nb (fun z=>by rw[z,R.1] at this;cases this),Zb,List.getElem?_append_left (by rw[<-R.2.1];exact hi),<-Zb]
  exact this
 ·rw[List.getElem?_append_right (by omega)] at hc
  have e0:i-bs.length=0:=by
   apply Classical.byContradiction
   intro z
   rw[List.getElem?_eq_none (by rw[Zk];omega)] at hc
   cases hc
  rw[e0] at hc
  cases hc
  have:i=yss.length:=by rw[<-R.2.1];omega
  rw[nb (fun z=>by rw[z,R.1] at h;cases h),this,Zb,List.getElem?_append_right (Zq _),Nat.sub_self]
  exact h
theorem VW {K:PySem.W.Frag}{H:Hp}:∀(bs:List Addr) (yss:List (List Nat)),bs.length=yss.length->(∀(j:Nat) b,bs[j]?=some b->H b=some (.tup ((yss.getD j []).map nV)))->YF K H (bs.map V.ref) (yss.map fun ns=>PyData.tuple ((nI ns).map PyData.int))
 | [],[],_,_=>.nil
 | [],_::_,h,_=>by cases h
 |_::_,[],h,_=>by cases h
 |b::bs,y::yss,h,g=>by
  have hb:=g 0 b rfl
  have hb':H b=some (.tup ((nI y).map V.int)):=by rw[Ub];exact hb
  exact .cons (.tup (.of hb') (YF.ints _)) (VW bs yss (Nat.succ.inj h) fun j b' hj=>g (j+1) b' hj)
theorem Zh3 {a b:List Nat}:nI a=nI b↔a=b:=by
 constructor
 ·intro h
  unfold nI at h
  exact (List.map_inj_right (fun x y e=>by exact Int.ofNat.inj e)).mp h
 ·intro h;rw[h]
theorem Zfe (a b:List Nat):PyData.eqv (.tuple ((nI a).map PyData.int)) (.tuple ((nI b).map PyData.int))=decide (a=b):=by
 have:PyData.eqv (.tuple ((nI a).map PyData.int)) (.tuple ((nI b).map PyData.int))=decide (nI a=nI b):=by
  show PyData.eqvAll _ _=_
  exact PySem.W.ked_eqvAll _ _
 rw[this,decide_eq_decide]
 exact Zh3
theorem UC (yss:List (List Nat))(o:List Nat):((yss.map fun ns=>PyData.tuple ((nI ns).map PyData.int)).any fun y=>y.eqv (.tuple ((nI o).map PyData.int)))=yss.contains o:=by
 rw[List.any_map,List.contains_eq_any_beq]
 congr 1
 funext y
 show PyData.eqv _ _=(o == y)
 rw[Zfe]
 by_cases h:y=o
 ·rw[decide_eq_true h,h,beq_self_eq_true]
 ·rw[decide_eq_false h]
  exact (beq_eq_false_iff_ne.mpr (fun z=>h z.symm)).symm
def Zim (cur:List Nat):V->V
 | .int z=>nV (cur.getD z.toNat 0)
 |y=>y
theorem Zfb (cur g:List Nat):(g.map nV).map (Zim cur)=(W9 cur g).map nV:=by
 unfold W9
 rw[List.map_map,List.map_map]
 refine List.map_congr_left fun b _=>?_
 show nV (cur.getD (b:Int).toNat 0)=nV (cur.getD b 0)
 rw[Zj]
def YY (srt:List (List Nat)):List (List Nat):=srt.map fun a=>srt.map fun b=>srt.findIdx (· == W9 a b)
def Gk (k:Nat)(y:List Nat):Prop:=y.length=k/\∀x∈y,x<k
theorem Zfu {k:Nat}{a g:List Nat}(ha:Gk k a)(hg:Gk k g):Gk k (W9 a g):=by
 unfold W9
 refine⟨by rw[Za];exact hg.1,fun x hx=>?_⟩
 obtain⟨i,hi,rfl⟩:=List.mem_map.mp hx
 have h1:=hg.2 i hi
 have h2:=ha.1
 rw[Zb,Zf (show i<a.length by omega)]
 exact ha.2 _ (List.getElem_mem _)
theorem TupsAt.get {H:Hp}{L:Addr}{bs:List Addr}{yss:List (List Nat)}(R:TupsAt H L bs yss){i:Nat}(hi:i<yss.length):∃b,bs[i]?=some b/\UA (bs.map V.ref) (i:Int)=some (.ref b)/\H b=some (.tup ((yss.getD i []).map nV)):=by
 have hb:i<bs.length:=by rw[R.2.1];exact hi
 have e:bs[i]?=some bs[i]:=Zf hb
 exact⟨_,e,YJ (by rw[Zc,e];rfl),R.2.2 i _ e⟩
theorem TupsAt.ref {H:Hp}{L:Addr}{bs:List Addr}{yss:List (List Nat)}(R:TupsAt H L bs yss){i:Nat}{y:V}(h:(bs.map V.ref)[i]?=some y):∃b,y=.ref b/\i<yss.length/\H b=some (.tup ((yss.getD i []).map nV)):=by
 rw[Zc] at h
 cases e:bs[i]? with
 |none=>rw[e] at h;cases h
 |some b=>
  rw[e] at h
  refine⟨b,(Option.some.inj h).symm,?_,R.2.2 i b e⟩
  rw[<-R.2.1]
  exact (List.getElem?_eq_some_iff.mp e).1
theorem getL {yss:List (List Nat)}{i:Nat}(h:i<yss.length):yss[i]?=some (yss.getD i []):=by
 rw[Zb,Zf h]
 rfl
theorem Zbp {yss:List (List Nat)}{i:Nat}(h:i<yss.length):yss.getD i []∈yss:=List.mem_of_getElem? (getL h)
theorem Zjw {xs:List Nat}{i:Nat}(h:i<xs.length):UA (xs.map nV) (i:Int)=some (nV (xs.getD i 0)):=YJ (by rw[Zc,Zf h,Zb,Zf h];rfl)
def Zak:List (List Nat)->Hp->(List V->Hp->Prop)->Prop
 | [],H,Q=>Q [] H
 |x::r,H,Q=>(x.map nV).length<=sizeLine/\∀p,H p=none->Zak r (upd H p (.tup (x.map nV))) fun vs H2=>Q (.ref p::vs) H2
theorem WL:∀(xss:List (List Nat)) (H:Hp) (Q:List V->Hp->Prop),(∀x∈xss,x.length<=1000)->
  (∀(bs:List Addr) (H':Hp),Same H H'->bs.length=xss.length->(∀(i:Nat) b,bs[i]?=some b->H' b=some (.tup ((xss.getD i []).map nV)))->Q (bs.map V.ref) H')->Zak xss H Q
 | [],H,Q,_,q=>q [] H (Same.refl _) rfl fun i b hb=>by cases hb
 |x::r,H,Q,hl,q=>by
  have sz:(16777216:Nat)=sizeLine:=by decide
  refine⟨?_,fun p hp=>WL r _ _ (fun y hy=>hl y (List.mem_cons_of_mem _ hy)) fun bs H' s' hb hi=>?_⟩
  ·have:=hl x List.mem_cons_self
   rw[Za]
   omega
  ·refine q (p::bs) H' ((Same.upd hp).trans s') (by rw[Zi,Zi,hb]) fun i b hib=>?_
   cases i with
   |zero=>
    cases hib
    exact s' _ _ Zt
   |succ i=>exact hi i b hib
def ZeK:List (List (List Nat))->Hp->(List V->Hp->Prop)->Prop
 | [],H,Q=>Q [] H
 |xss::r,H,Q=>Zak xss H fun vs H1=>vs.length<=sizeLine/\∀p,H1 p=none->ZeK r (upd H1 p (.lst vs)) fun us H2=>Q (.ref p::us) H2
theorem JX:∀(xsss:List (List (List Nat))) (H:Hp) (Q:List V->Hp->Prop),(∀xss∈xsss,xss.length<=1000/\∀x∈xss,x.length<=1000)->
  (∀(ls:List Addr) (H':Hp),Same H H'->ls.length=xsss.length->(∀(i:Nat) l,ls[i]?=some l->H l=none/\∃bs,TupsAt H' l bs (xsss.getD i []))->Q (ls.map V.ref) H')->ZeK xsss H Q
 | [],H,Q,_,q=>q [] H (Same.refl _) rfl fun i b hb=>by cases hb
 |xss::r,H,Q,hl,q=>by
  have sz:(16777216:Nat)=sizeLine:=by decide
  obtain⟨h1,h2⟩:=hl xss List.mem_cons_self
  refine WL xss H _ h2 fun bs H1 s1 hb hi=>⟨by rw[Za];omega,fun p hp=>JX r _ _ (fun y hy=>hl y (List.mem_cons_of_mem _ hy)) fun ls H' s' hls hi'=>?_⟩
  have s2:=s1.trans (Same.upd (o:=.lst (bs.map V.ref)) hp)
  refine q (p::ls) H' (s2.trans s') (by rw[Zi,Zi,hls]) fun i l hil=>?_
  cases i with
  |zero=>
   cases hil
   refine⟨s1.free hp,bs,TupsAt.mono s' ⟨Zt,hb,fun i b hib=>?_⟩⟩
   exact Same.upd (o:=.lst (bs.map V.ref)) hp _ _ (hi i b hib)
  |succ i=>
   obtain⟨h3,h4⟩:=hi' i l hil
   exact⟨s2.free h3,h4⟩
section
variable {X:Cx}
def teT (x:List Nat):TE:=fun _ H Q=>(x.map nV).length<=sizeLine/\∀p,H p=none->Q (.ref p) (upd H p (.tup (x.map nV)))
theorem ZfX (x:List Nat){es:List Expr}{t:TA}{x1}{pos:Pos}(h:PA X es t)(e:t=fun _ H Q=>Q (x.map nV) H):PE X (.Tuple es x1 pos) (teT x):=by
 subst e
 exact JJ h
def taN (xss:List (List Nat)):TA:=fun _ H Q=>Zak xss H Q
theorem Zf3:PA X [] (taN []):=Zs
theorem pan {e:Expr}{es:List Expr}{x:List Nat}{xss:List (List Nat)}(h:PE X e (teT x))(r:PA X es (taN xss))(hs:YM e=true:=by rfl):PA X (e::es) (taN (x::xss)):=pc h r hs
def teL (xss:List (List Nat)):TE:=fun _ H Q=>Zak xss H fun vs H1=>vs.length<=sizeLine/\∀p,H1 p=none->Q (.ref p) (upd H1 p (.lst vs))
theorem ZfY {es:List Expr}{xss:List (List Nat)}{pos:Pos}(h:PA X es (taN xss)):PE X (.List es pos) (teL xss):=Ys h
def taL (xsss:List (List (List Nat))):TA:=fun _ H Q=>ZeK xsss H Q
theorem Zf4:PA X [] (taL []):=Zs
theorem pal {e:Expr}{es:List Expr}{xss:List (List Nat)}{xsss:List (List (List Nat))}(h:PE X e (teL xss))(r:PA X es (taL xsss))(hs:YM e=true:=by rfl):PA X (e::es) (taL (xss::xsss)):=pc h r hs
structure QE (X:Cx)(e:Expr)(t:TE):Prop where
 h:PE X e t
structure QA (X:Cx)(es:List Expr)(t:TA):Prop where
 h:PA X es t
structure QS (X:Cx)(st:Stmt)(t:TS):Prop where
 h:PS X st t
structure QSs (X:Cx)(sts:List Stmt)(t:TS):Prop where
 h:PSs X sts t
theorem qi {i:Int}{j}{pos:Pos}:QE X (.Constant (.int i) j pos) (tC (.int i)):=⟨Zx⟩
theorem Z9:QA X [] ZfF:=⟨Zs⟩
theorem qa {e:Expr}{es:List Expr}{te:TE}{t:TA}(h:QE X e te)(r:QA X es t)(hs:YM e=true:=by rfl):QA X (e::es) (UM te t):=⟨pc h.h r.h hs⟩
theorem Yz (x:List Nat){es:List Expr}{t:TA}{x1}{pos:Pos}(h:QA X es t)(e:t=fun _ H Q=>Q (x.map nV) H):QE X (.Tuple es x1 pos) (teT x):=⟨ZfX x h.h e⟩
theorem YS:QA X [] (taN []):=⟨Zf3⟩
theorem UE {e:Expr}{es:List Expr}{x:List Nat}{xss:List (List Nat)}(h:QE X e (teT x))(r:QA X es (taN xss))(hs:YM e=true:=by rfl):QA X (e::es) (taN (x::xss)):=⟨pan h.h r.h hs⟩
theorem Jq {es:List Expr}{xss:List (List Nat)}{pos:Pos}(h:QA X es (taN xss)):QE X (.List es pos) (teL xss):=⟨ZfY h.h⟩
theorem Zcd:QA X [] (taL []):=⟨Zf4⟩
theorem qal {e:Expr}{es:List Expr}{xss:List (List Nat)}{xsss:List (List (List Nat))}(h:QE X e (teL xss))(r:QA X es (taL xsss))(hs:YM e=true:=by rfl):QA X (e::es) (taL (xss::xsss)):=⟨pal h.h r.h hs⟩
theorem Zjn {es:List Expr}{t:TA}{pos:Pos}(h:QA X es t):QE X (.List es pos) (Zhs t):=⟨Ys h.h⟩
theorem Zg2 (i:Nat){x:Str}{e:Expr}{te:TE}{pos pos':Pos}(hf:X.fn x=true)(he:QE X e te)(hi:X.N[i]?=some x:=by rfl)(hN:Wa X.N=true:=by kernel_rfl)(hx:Vt X.env.scope x=true:=by kernel_rfl)
  (hs:swapsWith e (some (.Name x pos')) pos.line X.env=pure false:=by rfl):QS X (.Assign [.Name x pos'] e pos) (ZcS te (Yg i)):=⟨ZH i hf he.h hi hN hx hs⟩
theorem Y8 {st:Stmt}{rest:List Stmt}{t u:TS}(h1:QS X st t)(h2:QSs X rest u):QSs X (st::rest) (Zhr t u):=⟨Zu h1.h h2.h⟩
theorem QSs.out {sts:List Stmt}{t:TS}(h:QSs X sts t):PSs X sts t:=h.h
theorem ZfP {te:TE}{g:TG}{u:TS}{D:XU}{σ:L2.St}{H:Hp}(h:te σ H fun x H1=>g x σ H1 (u D)):Zhr (ZcS te g) u D σ H:=h
theorem UL (xsss:List (List (List Nat))){σ:L2.St}{H:Hp}{Q:VK}(hl:∀xss∈xsss,xss.length<=1000/\∀x∈xss,x.length<=1000)(hk:xsss.length<=1000)
  (q:∀(ls:List Addr) (H':Hp),Same H H'->ls.length=xsss.length->(∀(i:Nat) l,ls[i]?=some l->H l=none/\∃bs,TupsAt H' l bs (xsss.getD i []))->∀S,H' S=none->Q (.ref S) (upd H' S (.lst (ls.map V.ref)))):Zhs (taL xsss) σ H Q:=by
 have sz:(16777216:Nat)=sizeLine:=by decide
 exact JX xsss H _ hl fun ls H' s' h1 h2=>⟨by rw[Za];omega,q ls H' s' h1 h2⟩
theorem ZdV (xss:List (List Nat)){σ:L2.St}{H:Hp}{Q:VK}(hl:∀x∈xss,x.length<=1000)(hk:xss.length<=1000)
  (q:∀(bs:List Addr) (H':Hp),Same H H'->bs.length=xss.length->(∀(i:Nat) b,bs[i]?=some b->H' b=some (.tup ((xss.getD i []).map nV)))->∀S,H' S=none->Q (.ref S) (upd H' S (.lst (bs.map V.ref)))):teL xss σ H Q:=by
 have sz:(16777216:Nat)=sizeLine:=by decide
 exact WL xss H _ hl fun bs H' s' h1 h2=>⟨by rw[Za];omega,q bs H' s' h1 h2⟩
end
theorem ZfS {bs:List Addr}{i:Nat}(h:i<bs.length):∃b,bs[i]?=some b/\UA (bs.map V.ref) (i:Int)=some (.ref b):=⟨_,Zf h,YJ (by rw[Zc,Zf h];rfl)⟩
def CT (H:Hp)(c:Addr)(css:List (List Nat)):Prop:=∃rs:List Addr,H c=some (.tup (rs.map V.ref))/\rs.length=css.length/\∀(i:Nat) r,rs[i]?=some r->H r=some (.tup ((css.getD i []).map nV))
theorem CT.mono {H H':Hp}{c:Addr}{css:List (List Nat)}(s:Same H H')(h:CT H c css):CT H' c css:=by
 obtain⟨rs,h1,h2,h3⟩:=h
 exact⟨rs,s _ _ h1,h2,fun i r hr=>s _ _ (h3 i r hr)⟩
theorem tupK {X:Cx}(K:PySem.W.Frag)(hK:X.K=K:=by rfl):ZW X (.type "tuple") (fun xs H Q=>∃p ys,xs=[.ref p]/\((Wb K H p ys/\∀l,H l=none->Q (.ref l) (upd H l (.tup ys)))\/(Wp K H p ys/\Q (.ref p) H))):=hK▸ZG
theorem ZcV (m:Nat):(Z2 0 m).map V.int=(List.range m).map nV:=by
 unfold Z2
 rw[List.map_map]
 refine List.map_congr_left fun i _=>?_
 show V.int (0+(i:Int))=nV i
 rw[Int.zero_add]
 rfl
theorem J9 {m i:Nat}{y:V}(h:((Z2 0 m).map V.int)[i]?=some y):i<m/\y=.int (i:Nat):=by
 rw[ZcV] at h
 have hi:i<m:=by
  have:=(List.getElem?_eq_some_iff.mp h).1
  rw[Za,Zg] at this
  exact this
 rw[Zc,List.getElem?_range hi] at h
 exact⟨hi,(Option.some.inj h).symm⟩
def Zfi (row:List Nat):PyData:=.tuple (row.map fun k:Nat=>PyData.int (k:Int))
def dCs (css:List (List Nat)):PyData:=.tuple (css.map Zfi)
theorem ZfM {row:List Nat}(hl:row.length<=60)(h:∀k∈row,k<=1000):Sml 1 60 (Zfi row):=by
 have:=Sml.tup (k:=0) (b:=0) (n:=60) (ds:=row.map fun k:Nat=>PyData.int (k:Int)) (by rw[Za];exact hl) fun d hd=>by
  obtain⟨k,hk,rfl⟩:=List.mem_map.mp hd
  exact ZfN (h k hk)
 exact this
theorem Zij {css:List (List Nat)}(hl:css.length<=60)(h:∀row∈css,row.length<=60/\∀k∈row,k<=1000):ZdG (dCs css):=by
 have:=Sml.tup (k:=1) (b:=60) (n:=60) (ds:=css.map Zfi) (by rw[Za];exact hl) fun d hd=>by
  obtain⟨row,hr,rfl⟩:=List.mem_map.mp hd
  exact ZfM (h row hr).1 (h row hr).2
 exact this.fit (by decide) (by decide)
theorem Wf {K:PySem.W.Frag}{H:Hp}:∀row:List Nat,YF K H (row.map nV) (row.map fun k:Nat=>PyData.int (k:Int))
 | []=>.nil
 |k::r=>.cons (.int _) (Wf r)
theorem Zhz {K:PySem.W.Frag}{H:Hp}{a:Addr}{row:List Nat}(h:H a=some (.tup (row.map nV))):Xj K H (.ref a) (Zfi row):=.tup (.of h) (Wf row)
theorem U5 {K:PySem.W.Frag}{H:Hp}:∀{rs:List Addr}{css:List (List Nat)},rs.length=css.length->(∀(i:Nat) r,rs[i]?=some r->H r=some (.tup ((css.getD i []).map nV)))->YF K H (rs.map V.ref) (css.map Zfi)
 | [],[],_,_=>.nil
 | [],_::_,h,_=>by cases h
 |_::_,[],h,_=>by cases h
 |r::rs,c::css,h,g=>.cons (Zhz (g 0 r rfl)) (U5 (Nat.succ.inj h) fun i r' hr=>g (i+1) r' hr)
theorem CT.rd {K:PySem.W.Frag}{H:Hp}{c:Addr}{css:List (List Nat)}(h:CT H c css):Xj K H (.ref c) (dCs css):=by
 obtain⟨rs,h1,h2,h3⟩:=h
 exact .tup (.of h1) (U5 h2 h3)
def cyc (m:Nat):List Nat:=(List.range m).map fun i=>(i+1) % m
def neg (m:Nat):List Nat:=(List.range m).map fun i=>(m-i) % m
def mn1:List (List (List Nat)):=[[[1,0,2,3],[0,1,3,2]],[[1,0,2,3,4,5],[0,1,3,4,5,2]]]
def ma1:List (List Nat):=[[1,2,0,3],[1,0,3,2]]
def ma2:List (List Nat):=[[1,2,3,0,5,6,7,4],[4,7,6,5,2,1,0,3]]
def ma3:List (List Nat):=[[1,2,0,3,4,5,6],[0,2,1,4,5,6,3]]
def ma4:List (List Nat):=[[1,2,0,3,4,5],[0,1,2,4,5,3]]
def mn2:List (List (List Nat)):=[[[1,2,3,4,0],[0,2,4,1,3]],[[1,2,3,0],[1,0,2,3]]]
def ma5:List (List Nat):=[[1,2,3,4,5,6,0],[0,2,4,6,1,3,5]]
def mnS:List (List (List Nat)):=mn1++[ma1]++[ma2]++[ma3]++[ma4]
def mnG:List (List (List Nat)):=mnS++mn2++[ma5]
def Z5 (cur:List Nat)(ps:List (List Nat))(s:List (List Nat)×List (List Nat)):List (List Nat)×List (List Nat):=ps.foldl (fun s p=>if s.1.contains (W9 cur p) then s else (s.1++[W9 cur p],s.2++[W9 cur p])) s
def dfs (ps:List (List Nat)):Nat->List (List Nat)->List (List Nat)->Option (List (List Nat))
 |f,fd,[]=>some fd
 |0,fd,_::_=>none
 |f+1,fd,x::ln=>match Z5 ((x::ln).getLast?.getD []) ps (fd,(x::ln).dropLast) with
  |(fd',ln')=>dfs ps f fd' ln'
structure ZjS (ps:List (List Nat))(k:Nat)(fd:List (List Nat)):Prop where
 k1:1<=k
 k10:k<=10
 p1:1<=ps.length
 p9:ps.length<=9
 pl:∀g∈ps,Gk k g
 run:dfs ps 61 [List.range k] [List.range k]=some fd
 n60:fd.length<=24
 hd:fd[0]?=some (List.range k)
 nd:fd.Nodup
 fg:∀g∈fd,Gk k g
 pw:PW (YY fd)
 cl:∀a∈fd,∀b∈fd,W9 a b∈fd
def gkB (k:Nat)(y:List Nat):Bool:=decide (y.length=k) && y.all fun x=>decide (x<k)
theorem Zhk {k:Nat}{y:List Nat}(h:gkB k y=true):Gk k y:=by
 unfold gkB at h
 rw[Bool.and_eq_true,decide_eq_true_eq,List.all_eq_true] at h
 exact⟨h.1,fun x hx=>of_decide_eq_true (h.2 x hx)⟩
def ndB:List (List Nat)->Bool
 | []=>true
 |x::r=>!r.contains x && ndB r
theorem Zg8:∀{xs:List (List Nat)},ndB xs=true->xs.Nodup
 | [],_=>List.nodup_nil
 |x::r,h=>by
  unfold ndB at h
  rw[Bool.and_eq_true,Bool.not_eq_true'] at h
  refine List.nodup_cons.mpr ⟨fun hx=>?_,Zg8 h.2⟩
  rw[List.contains_iff_mem.mpr hx] at h
  cases h.1
def psB (ps:List (List Nat)):Bool:=
 let k:=(ps.getD 0 []).length
 decide (1<=k) && decide (k<=10) && decide (1<=ps.length) && decide (ps.length<=9) && ps.all (gkB k) && match dfs ps 61 [List.range k] [List.range k] with
  |none=>false
  |some fd=>decide (fd.length<=24) && decide (fd[0]?=some (List.range k)) && ndB fd && fd.all (gkB k) && pwB (YY fd)
theorem Zie {srt:List (List Nat)}(Pt:PW (YY srt)):∀a∈srt,∀b∈srt,W9 a b∈srt:=by
 intro a ha b hb
 obtain⟨i,hi⟩:=List.getElem?_of_mem ha
 obtain⟨j,hj⟩:=List.getElem?_of_mem hb
 have hl:(YY srt).length=srt.length:=by unfold YY;rw[Za]
 have il:=(List.getElem?_eq_some_iff.mp hi).1
 have jl:=(List.getElem?_eq_some_iff.mp hj).1
 have h:=Pt.lt i j (by rw[hl];exact il) (by rw[hl];exact jl)
 have e:Zz (YY srt) i j=srt.findIdx (· == W9 a b):=by
  unfold Zz YY
  rw[Zb,Zb,Zc,hi]
  show (Option.getD (srt.map _)[j]? 0)=_
  rw[Zc,hj]
  rfl
 rw[e,hl] at h
 obtain⟨x,hx,hx2⟩:=List.findIdx_lt_length.mp h
 rw[<-eq_of_beq hx2]
 exact hx
theorem Zjs {ps:List (List Nat)}(h:psB ps=true):∃fd,ZjS ps (ps.getD 0 []).length fd:=by
 unfold psB at h
 simp only[Bool.and_eq_true,decide_eq_true_eq,List.all_eq_true] at h
 obtain⟨⟨⟨⟨⟨h1,h2⟩,h3⟩,h4⟩,h5⟩,h6⟩:=h
 cases hd:dfs ps 61 [List.range (ps.getD 0 []).length] [List.range (ps.getD 0 []).length] with
 |none=>rw[hd] at h6;cases h6
 |some fd=>
  rw[hd] at h6
  simp only[Bool.and_eq_true,decide_eq_true_eq,List.all_eq_true] at h6
  obtain⟨⟨⟨⟨g1,g2⟩,g3⟩,g4⟩,g5⟩:=h6
  have Pt:=ZhG g5
  exact⟨fd,h1,h2,h3,h4,fun g hg=>Zhk (h5 g hg),hd,g1,g2,Zg8 g3,fun g hg=>Zhk (g4 g hg),Pt,Zie Pt⟩
theorem Ziu:((List.range 10).all fun j=>psB [cyc (j+1)])=true:=by decide +kernel
theorem Zh0:((List.range 4).all fun j=>psB [cyc (j+3),neg (j+3)])=true:=by decide +kernel
theorem Zh4:(mnG.all psB)=true:=by decide +kernel
def ZgI (ps:List (List Nat)):Prop:=psB ps=true
theorem Zic {j:Nat}(h:j<10):ZgI [cyc (j+1)]:=List.all_eq_true.mp Ziu j (List.mem_range.mpr h)
theorem Zib {j:Nat}(h:j<4):ZgI [cyc (j+3),neg (j+3)]:=List.all_eq_true.mp Zh0 j (List.mem_range.mpr h)
theorem ZjE {ps:List (List Nat)}(h:ps∈mnG):ZgI ps:=List.all_eq_true.mp Zh4 ps h
end Pm
namespace Pm
open PySem L2 PySem.Spec PyProof.Rows
section
variable {X:Cx}
theorem U7 {o e:Expr}{to te:TE}{apos cpos spos:Pos}(ho:PE X o to)(he:QE X e te)(hns:YM e=true:=by rfl)
  (hbase:attributeBase o "append" X.env (eval o X.env)=eval o X.env:=by rfl)
  (hfew:((backTo cpos (starEach [e] X.env)).all (fun x=>!x.1) && (backToKw cpos (keywordEach [] X.env)).all (fun x=>x.1.isSome)
   && decide (([e]:List Expr).length+([]:List Keyword).length+(if ([]:List Keyword).isEmpty then 0 else 1)<30))=true:=by rfl)
  (hline:(apos.endLine == cpos.line)=true:=by rfl) (hs:starEach [e] X.env=(false,eval e X.env)::starEach [] X.env:=by rfl) (hplain:(backTo cpos (starEach [] X.env)).any (·.1)=false:=by rfl)
  (hsw:swapsWith (.Call (.Attribute o "append" apos) [e] [] cpos) none spos.line X.env=pure false:=by rfl) :
  QS X (.Expr (.Call (.Attribute o "append" apos) [e] [] cpos) spos) (ZdW (tBM X.K "list" VX to (UM te ZfF))):=⟨Yq (Wg PySem.F.plainAttrs_list PySem.F.slot_list_append PySem.F.type_list_append ZX ho (pc he.h Zs hns) hbase hfew hline hs hplain) hsw⟩
theorem Zjq {c:Expr}{a b:List Stmt}{tc:TT}{t u:TS}{pos:Pos}(hc:PT X c tc)(ha:QSs X a t)(hb:PSs X b u):QS X (.If c a b pos) (Zi4 tc t u):=⟨YR hc ha.h hb⟩
theorem Zjp {st:Stmt}{t:TS}(h1:QS X st t):QSs X [st] t:=⟨Zv h1.h⟩
theorem Zjo {op:Operator}{r:R2}{a b:Expr}{ta tb:TE}{pos:Pos}(ho:J5 X (binaryOp op) r)(ha:PE X a ta)(hb:QE X b tb):QE X (.BinOp a op b pos) (tOp r ta tb):=⟨ZC ho ha hb.h⟩
end
def YO (H:Hp)(M:Addr)(ls:List Addr)(mn:List (List (List Nat))):Prop:=H M=some (.lst (ls.map V.ref))/\ls.length=mn.length/\∀(i:Nat) l,ls[i]?=some l->l≠M/\∃bs,TupsAt H l bs (mn.getD i [])
theorem YO.mono {H H':Hp}{M:Addr}{ls:List Addr}{mn:List (List (List Nat))}(s:Same H H')(h:YO H M ls mn):YO H' M ls mn:=
 ⟨s _ _ h.1,h.2.1,fun i l hl=>let ⟨a,bs,b⟩:=h.2.2 i l hl;⟨a,bs,b.mono s⟩⟩
theorem TupsAt.updM {H:Hp}{L M:Addr}{bs:List Addr}{yss:List (List Nat)}{vs:List V}{o:HO}(R:TupsAt H L bs yss)(hM:H M=some (.lst vs))(hn:L≠M):TupsAt (upd H M o) L bs yss:=
 ⟨by rw[Zw hn];exact R.1,R.2.1,fun i b hb=>by
  have:=R.2.2 i b hb
  rw[Zw (fun z=>by rw[z,hM] at this;cases this)]
  exact this⟩
theorem YO.push {H:Hp}{M S:Addr}{ls bs:List Addr}{mn:List (List (List Nat))}{xss:List (List Nat)}(h:YO H M ls mn)(hS:TupsAt H S bs xss)(hn:S≠M):YO (upd H M (.lst (ls.map V.ref++[.ref S]))) M (ls++[S]) (mn++[xss]):=by
 refine⟨by rw[Zt,List.map_append];rfl,by rw[Zd,Zd,h.2.1];rfl,fun i l hl=>?_⟩
 by_cases hi:i<ls.length
 ·rw[List.getElem?_append_left hi] at hl
  obtain⟨a,cs,b⟩:=h.2.2 i l hl
  refine⟨a,cs,?_⟩
  rw[Zb,List.getElem?_append_left (by rw[<-h.2.1];exact hi),<-Zb]
  exact b.updM h.1 a
 ·rw[List.getElem?_append_right (by omega)] at hl
  have e0:i-ls.length=0:=by
   apply Classical.byContradiction
   intro z
   rw[List.getElem?_eq_none (by rw[Zk];omega)] at hl
   cases hl
  rw[e0] at hl
  cases hl
  have:i=mn.length:=by rw[<-h.2.1];omega
  refine⟨hn,bs,?_⟩
  rw[this,Zb,List.getElem?_append_right (Zq _),Nat.sub_self]
  exact hS.updM h.1 hn
end Pm
namespace C27
open PySem L2 PySem.Spec PyProof.Rows
open Tb Pm
abbrev Zjf:Stmt:=top 19
abbrev Zeb:Stmt:=top 20
abbrev Zei:Stmt:=top 21
def ZgP:Sp:=fun vs H Q _=>∃(m:Nat),vs=[.int m]/\1<=m/\m<=60/\∀r H',H r=none->Same H H'->H' r=some (.tup ((cyc m).map nV))->Q (.ref r) H'
def ZbT:Sp:=fun vs H Q _=>∃(p:Addr) (b:Nat) (gr:Bool),vs=[.ref p,.bl gr]/\ZV H p b/\b+2<2 ^ 60/\∀L bs ps H',Tk p H H'->ZV H' p (b+2)->ZgI ps->TupsAt H' L bs ps->Q (.ref L) H'
def VJ:Sp:=fun vs H Q _=>∃(f g:Addr) (k:Nat) (x y:List Nat),vs=[.ref f,.ref g]/\H f=some (.tup (x.map nV))/\H g=some (.tup (y.map nV))/\Gk k x/\Gk k y/\k<=1000/\∀r H',H r=none->Same H H'->H' r=some (.tup ((W9 x y).map nV))->Q (.ref r) H'
def Zil (m:Nat):V->V
 | .int z=>nV ((z.toNat+1) % m)
 |y=>y
def Zik (m:Nat):V->V
 | .int z=>nV ((m-z.toNat) % m)
 |y=>y
theorem TupsAt.tk {H H':Hp}{p L:Addr}{b:Nat}{bs:List Addr}{yss:List (List Nat)}(T:ZV H p b)(d:Tk p H H')(R:TupsAt H L bs yss):TupsAt H' L bs yss:=⟨d.lst T R.1,R.2.1,fun i b hb=>d.tup T (R.2.2 i b hb)⟩
section
variable {P:Program}{w:World}{K:PySem.W.Frag}{mg:Str->Option Value}{base:Heap}
theorem ZhZ {f:Addr}{fd:FuncData}(F:WB K "_law_cycle" "_law_cycle" Zjf f fd)(T:BlB mg):Z1 P w K mg base Yc 1 f fd ["_law_many"] ZgP:=by
 refine F.ok (FS (N:=["_law_many"])) (fun vs H Q E h=>?_) (fun cdv A outer s H vs Q E hr h=>?_)
 ·obtain⟨m,rfl,_⟩:=h;rfl
 ·obtain⟨m,rfl,m1,m60,q⟩:=h
  refine⟨_,Zv (ZD (ct ZG T.tuple (pc (cmp ["_law_place"] [0] ["_law_place", "_law_many"] rfl (Wt T.range (pc (vn 0) Zs)) (fun _ _ _ _ _=>gn 0) (fun _ _ _ _ _=>ZQ)
   (fun _ _ _ _ _=>ZC YL (ZC YD (vn 0) Zx) (vn 1))) Zs))),?_⟩
  refine⟨_,rfl,_,rfl,by omega,by omega,?_⟩
  rw[Zj]
  refine WO (YG 0 m) [some (.int (m:Nat))] rfl (Zil m) (by rw[Za,ZY];omega) (fun i x H' hx s' R gg=>?_) (fun D H' nD s' hD=>?_)
  ·obtain⟨hi,rfl⟩:=J9 hx
   have fin:=gg H' (Same.refl _)
   have e:Zil m (.int (i:Nat))=V.int (((i:Int)+1) % (m:Int)):=by
    show V.int ((((i:Int).toNat+1) % m:Nat):Int)=_
    rw[Zj,Int.natCast_emod]
    rfl
   rw[e] at fin
   exact⟨_,rfl,_,_,rfl,rfl,_,rfl,_,_,rfl,rfl,(by show (0:Int)<(m:Int);omega),fin⟩
  ·have e:((Z2 0 m).map V.int).map (Zil m)=(cyc m).map nV:=by
    rw[ZcV]
    unfold cyc
    rw[List.map_map,List.map_map]
    refine List.map_congr_left fun i _=>?_
    show nV (((i:Int).toNat+1) % m)=nV ((i+1) % m)
    rw[Zj]
   rw[e] at hD
   exact⟨D,_,rfl,.inl ⟨.of hD,fun r nr=>q r _ (s'.free nr) (s'.trans (Same.upd nr)) Zt⟩⟩
theorem ZeF {f:Addr}{fd:FuncData}(F:WB K "_law_after" "_law_after" Zei f fd)(T:BlB mg):Z1 P w K mg base Yc 1 f fd ["_law_one", "_law_other"] VJ:=by
 refine F.ok (FS (N:=["_law_one", "_law_other"])) (fun vs H Q E h=>?_) (fun cdv A outer s H vs Q E hr h=>?_)
 ·obtain⟨f,g,k,x,y,rfl,_⟩:=h;rfl
 ·obtain⟨f,g,k,x,y,rfl,hf,hg,gx,gy,k10,q⟩:=h
  refine⟨_,Zv (ZD (ct ZG T.tuple (pc (cmp ["_law_place"] [0] ["_law_place", "_law_one"] rfl (itT K (vn 1)) (fun _ _ _ _ _=>gn 0) (fun _ _ _ _ _=>ZQ)
   (fun _ _ _ _ _=>ZF (WF K) (vn 1) (vn 0) (fun _ _=>rfl))) Zs))),?_⟩
  refine⟨_,rfl,g,rfl,⟨_,.of hg⟩,?_⟩
  refine WO (Ws (K:=K) (.of hg)) [some (.ref f)] rfl (Zim x) (by rw[Za,gy.1];omega) (fun i v H' hx s' R gg=>?_) (fun D H' nD s' hD=>?_)
  ·obtain⟨j,hj,rfl⟩:=Jd hx
   have hjk:=gy.2 j (List.mem_of_getElem? hj)
   have fin:=gg H' (Same.refl _)
   have e:Zim x (.int (j:Nat))=nV (x.getD j 0):=by
    show nV (x.getD (j:Int).toNat 0)=_
    rw[Zj]
   rw[e] at fin
   exact⟨_,rfl,_,rfl,f,_,_,_,rfl,rfl,.of (s' _ _ hf),Zjw (by rw[gx.1];exact hjk),fin⟩
  ·rw[Zfb] at hD
   exact⟨D,_,rfl,.inl ⟨.of hD,fun r nr=>q r _ (s'.free nr) (s'.trans (Same.upd nr)) Zt⟩⟩
end
section
variable {P:Program}{w:World}{K:PySem.W.Frag}{mg:Str->Option Value}{base:Heap}
theorem Xl {H:Hp}{L c:Addr}{x:List Nat}(h:H L=some (.lst [.ref c]))(hc:H c=some (.tup (x.map nV))):TupsAt H L [c] [x]:=⟨h,rfl,fun i b hb=>by
 cases i with
 |zero=>cases hb;exact hc
 |succ i=>cases hb⟩
theorem ZdR {H:Hp}{L c d:Addr}{x y:List Nat}(h:H L=some (.lst [.ref c,.ref d]))(hc:H c=some (.tup (x.map nV)))(hd:H d=some (.tup (y.map nV))):TupsAt H L [c,d] [x,y]:=⟨h,rfl,fun i b hb=>by
 cases i with
 |zero=>cases hb;exact hc
 |succ i=>
  cases i with
  |zero=>cases hb;exact hd
  |succ i=>cases hb⟩
theorem Zgk {m i:Nat}(h:i<m):(-(i:Int)) % (m:Int)=(((m-i) % m:Nat):Int):=by
 rw[Int.natCast_emod,Int.ofNat_sub (by omega),show (m:Int)-(i:Int)=-(i:Int)+(m:Int)*1 by omega,Int.add_mul_emod_self_left]
theorem WV {K:PySem.W.Frag}{i:Nat}{M:Addr}{σ:L2.St}{Hb H:Hp}{ls:List Addr}{mn:List (List (List Nat))}{xss:List (List Nat)}{D:XU}(hσ:σ[i]?=some (some (.ref M)))(m:YO H M ls mn)(s:Same Hb H)(nM:Hb M=none)(hx:∀x∈xss,x.length<=1000)(hk:xss.length<=1000)(hl:mn.length<=1000)
  (q:∀S H',Same Hb H'->YO H' M (ls++[S]) (mn++[xss])->D.nx σ H'):ZdW (tBM K "list" VX (Zhq i) (UM (teL xss) ZfF)) D σ H:=by
 have sz:(16777216:Nat)=sizeLine:=by decide
 refine⟨_,hσ,.inl ⟨rfl,_,.of m.1⟩,ZdV xss hx hk fun bs H1 s1 hb hi S hS=>?_⟩
 have s2:=s1.trans (Same.upd (o:=.lst (bs.map V.ref)) hS)
 have m2:=m.mono s2
 have nS:S≠M:=fun z=>by
  have:=s1 _ _ m.1
  rw[<-z,hS] at this
  cases this
 have R:TupsAt (upd H1 S (.lst (bs.map V.ref))) S bs xss:=⟨Zt,hb,fun i b hib=>Same.upd (o:=.lst (bs.map V.ref)) hS _ _ (hi i b hib)⟩
 refine⟨M,_,_,rfl,rfl,m2.1,by rw[Za,m.2.1];omega,q S _ ((s.trans s2).updr nM) (m2.push R nS)⟩
theorem Zez {f:Addr}{fd:FuncData}(F:WB K "_law_perms" "_law_perms" Zeb f fd)(T:BlB mg)(GP:Fn P w K mg base Yc 1 "_law_pick" ["_law_tape_here", "_law_many"] JG)(GC:Fn P w K mg base Yc 1 "_law_cycle" ["_law_many"] ZgP):Z1 P w K mg base Yc 2 f fd ["_law_tape_here", "_law_great"] ZbT:=by
 refine F.ok (FS (N:=["_law_tape_here", "_law_great", "_law_way", "_law_many", "_law_menu"])) (fun vs H Q E h=>?_) (fun cdv A outer s H vs Q E hr h=>?_)
 ·obtain⟨p,b,gr,rfl,_⟩:=h;rfl
 ·obtain⟨p,b,gr,rfl,T0,hb,q⟩:=h
  refine⟨_,QSs.out (Y8 ⟨ZH 2 rfl (Y3 GP hr ZE (pc (vn 0) (pc Zx Zs)))⟩
   (Y8 ⟨YR (ZI Zev (vn 2) Zx (ZR _)) (Zv (ZD (Ys (pc (Y3 GC hr ZE (pc (ZC YD Zx (Y3 GP hr ZE (pc (vn 0) (pc Zx Zs)))) Zs)) Zs)))) Z4⟩
   (Y8 ⟨YR (ZI Zev (vn 2) Zx (ZR _))
    (Zu (ZH 3 rfl (ZC YD Zx (Y3 GP hr ZE (pc (vn 0) (pc Zx Zs)))))
    (Zv (ZD (Ys (pc (Y3 GC hr ZE (pc (vn 3) Zs)) (pc (ct ZG T.tuple (pc (cmp ["_law_place"] [3] ["_law_place", "_law_many"] rfl (Wt T.range (pc (vn 3) Zs)) (fun _ _ _ _ _=>gn 0) (fun _ _ _ _ _=>ZQ)
     (fun _ _ _ _ _=>ZC YL (Zg3 ZdN (vn 0)) (vn 1))) Zs)) Zs)))))) Z4⟩
   (Y8 (Zg2 4 rfl (Zjn (qal (Jq (UE (Yz [1,0,2,3] (qa qi (qa qi (qa qi (qa qi Z9)))) (by rfl)) (UE (Yz [0,1,3,2] (qa qi (qa qi (qa qi (qa qi Z9)))) (by rfl)) YS))) (qal (Jq (UE (Yz [1,0,2,3,4,5] (qa qi (qa qi (qa qi (qa qi (qa qi (qa qi Z9)))))) (by rfl)) (UE (Yz [0,1,3,4,5,2] (qa qi (qa qi (qa qi (qa qi (qa qi (qa qi Z9)))))) (by rfl)) YS))) Zcd))))
   (Y8 (U7 (vn 4) (Jq (UE (Yz [1,2,0,3] (qa qi (qa qi (qa qi (qa qi Z9)))) (by rfl)) (UE (Yz [1,0,3,2] (qa qi (qa qi (qa qi (qa qi Z9)))) (by rfl)) YS)))) (Y8 (U7 (vn 4) (Jq (UE (Yz [1,2,3,0,5,6,7,4] (qa qi (qa qi (qa qi (qa qi (qa qi (qa qi (qa qi (qa qi Z9)))))))) (by rfl)) (UE (Yz [4,7,6,5,2,1,0,3] (qa qi (qa qi (qa qi (qa qi (qa qi (qa qi (qa qi (qa qi Z9)))))))) (by rfl)) YS)))) (Y8 (U7 (vn 4) (Jq (UE (Yz [1,2,0,3,4,5,6] (qa qi (qa qi (qa qi (qa qi (qa qi (qa qi (qa qi Z9))))))) (by rfl)) (UE (Yz [0,2,1,4,5,6,3] (qa qi (qa qi (qa qi (qa qi (qa qi (qa qi (qa qi Z9))))))) (by rfl)) YS)))) (Y8 (U7 (vn 4) (Jq (UE (Yz [1,2,0,3,4,5] (qa qi (qa qi (qa qi (qa qi (qa qi (qa qi Z9)))))) (by rfl)) (UE (Yz [0,1,2,4,5,3] (qa qi (qa qi (qa qi (qa qi (qa qi (qa qi Z9)))))) (by rfl)) YS))))
   (Y8 (Zjq (ZhI (vn 1)) (Y8 (Zg2 4 rfl (Zjo ZhT (vn 4) (Zjn (qal (Jq (UE (Yz [1,2,3,4,0] (qa qi (qa qi (qa qi (qa qi (qa qi Z9))))) (by rfl)) (UE (Yz [0,2,4,1,3] (qa qi (qa qi (qa qi (qa qi (qa qi Z9))))) (by rfl)) YS))) (qal (Jq (UE (Yz [1,2,3,0] (qa qi (qa qi (qa qi (qa qi Z9)))) (by rfl)) (UE (Yz [1,0,2,3] (qa qi (qa qi (qa qi (qa qi Z9)))) (by rfl)) YS))) Zcd))))) (Zjp (U7 (vn 4) (Jq (UE (Yz [1,2,3,4,5,6,0] (qa qi (qa qi (qa qi (qa qi (qa qi (qa qi (qa qi Z9))))))) (by rfl)) (UE (Yz [0,2,4,6,1,3,5] (qa qi (qa qi (qa qi (qa qi (qa qi (qa qi (qa qi Z9))))))) (by rfl)) YS)))))) Z4)
   ⟨Zv (ZD (ZF (ixL K) (vn 4) (Y3 GP hr ZE (pc (vn 0) (pc (cb (Yj K) T.len (pc (vn 4) Zs)) Zs))) (fun _ _=>rfl)))⟩))))))))),?_⟩
  have sz:(16777216:Nat)=sizeLine:=by decide
  refine⟨_,rfl,p,8,b,rfl,T0,by omega,by decide,by decide,fun r H1 a0 a1 k1 T1=>?_⟩
  refine⟨_,rfl,_,_,rfl,rfl,_,rfl,YN (fun _=>?_) (fun _=>?_)⟩
  ·refine⟨_,rfl,p,10,b+1,rfl,T1,by omega,by decide,by decide,fun r2 H2 c0 c1 k2 T2=>?_⟩
   obtain⟨j,rfl⟩:=Int.eq_ofNat_of_zero_le c0
   have hj:j<10:=by omega
   refine⟨_,_,rfl,rfl,j+1,?_,by omega,by omega,fun c H3 nc s3 hc=>⟨(by show 1<=sizeLine;decide),fun L nL=>?_⟩⟩
   ·show [V.int (1+(j:Int))]=[V.int ((j+1:Nat):Int)]
    rw[show (1:Int)+(j:Int)=((j+1:Nat):Int) by omega]
   ·have s4:=s3.trans (Same.upd (o:=.lst [.ref c]) nL)
    exact q L [c] [cyc (j+1)] _ ((k1.trans k2).trans (Tk.of s4)) (T2.mono s4) (Zic hj) (Xl Zt (Same.upd nL _ _ hc))
  refine⟨_,rfl,_,_,rfl,rfl,_,rfl,YN (fun _=>?_) (fun _=>?_)⟩
  ·refine⟨_,rfl,p,4,b+1,rfl,T1,by omega,by decide,by decide,fun r2 H2 c0 c1 k2 T2=>⟨_,_,rfl,rfl,?_⟩⟩
   obtain⟨j,rfl⟩:=Int.eq_ofNat_of_zero_le c0
   have hj:j<4:=by omega
   have e3:(3:Int)+(j:Int)=((j+3:Nat):Int):=by omega
   dsimp only
   rw[e3]
   refine⟨_,rfl,j+3,rfl,by omega,by omega,fun c H3 nc s3 hc=>?_⟩
   refine⟨_,rfl,_,rfl,by omega,by omega,?_⟩
   rw[Zj]
   refine WO (YG 0 (j+3)) [some (.int ((j+3:Nat):Int))] rfl (Zik (j+3)) (by rw[Za,ZY];omega) (fun i x H' hx s' R gg=>?_) (fun D H4 nD s4 hD=>?_)
   ·obtain⟨hi,rfl⟩:=J9 hx
    have fin:=gg H' (Same.refl _)
    have e:Zik (j+3) (.int (i:Nat))=V.int ((-(i:Int)) % ((j+3:Nat):Int)):=by
     show V.int ((((j+3)-(i:Int).toNat) % (j+3):Nat):Int)=_
     rw[Zj,Zgk hi]
    rw[e] at fin
    exact⟨_,rfl,_,rfl,_,rfl,_,_,rfl,rfl,(by show (0:Int)<((j+3:Nat):Int);omega),fin⟩
   ·have e:((Z2 0 (j+3)).map V.int).map (Zik (j+3))=(neg (j+3)).map nV:=by
     rw[ZcV]
     unfold neg
     rw[List.map_map,List.map_map]
     refine List.map_congr_left fun i _=>?_
     show nV ((j+3-(i:Int).toNat) % (j+3))=nV ((j+3-i) % (j+3))
     rw[Zj]
    rw[e] at hD
    refine⟨D,_,rfl,.inl ⟨.of hD,fun d nd=>⟨(by show 2<=sizeLine;decide),fun L nL=>?_⟩⟩⟩
    have s5:=Same.upd (o:=.lst [.ref c,.ref d]) nL
    have s6:=(s3.trans s4).trans ((Same.upd (o:=.tup ((neg (j+3)).map nV)) nd).trans s5)
    exact q L [c,d] [cyc (j+3),neg (j+3)] _ ((k1.trans k2).trans (Tk.of s6)) (T2.mono s6) (Zib hj) (ZdR Zt (s5 _ _ (Same.upd nd _ _ (s4 _ _ hc))) (s5 _ _ Zt))
  have out:∀(M:Addr) (ls:List Addr) (mn:List (List (List Nat))) (H9 H2:Hp) {j:Nat}{Gl:Prop},Same H1 H9->YO H9 M ls mn->(∀ps∈mn,ps∈mnG)->Tk p H9 H2->ZV H2 p (b+1+1)->(j:Int)<(mn.length:Nat)->(∀{l:Addr},H2 M=some (.lst (ls.map V.ref))->UA (ls.map V.ref) (j:Int)=some (.ref l)->Q (.ref l) H2->Gl)->Gl:=fun M ls mn H9 H2 {j Gl} s9 m hin k2 T2 hj fin=>by
   have hjl:j<ls.length:=by rw[m.2.1];omega
   obtain⟨l,hl,hat⟩:=ZfS hjl
   obtain⟨_,bs,R⟩:=m.2.2 j l hl
   have T9:=T1.mono s9
   have hm:mn.getD j []∈mn:=by
    rw[Zb,Zf (show j<mn.length by omega)]
    exact List.getElem_mem _
   exact fin (k2.lst T9 m.1) hat (q l bs _ H2 ((k1.trans (Tk.of s9)).trans k2) T2 (ZjE (hin _ hm)) (TupsAt.tk T9 k2 R))
  refine ZfP (UL mn1 (by decide) (by decide) fun ls H2 s2 hl2 hi2 M hM=>?_)
  have s3:=s2.trans (Same.upd (H:=H2) (o:=.lst (ls.map V.ref)) hM)
  have nM:H1 M=none:=s2.free hM
  have m0:YO (upd H2 M (.lst (ls.map V.ref))) M ls mn1:=⟨Zt,hl2,fun i l hl=>by
   obtain⟨u1,bs,u2⟩:=hi2 i l hl
   refine⟨fun z=>?_,bs,u2.mono (Same.upd hM)⟩
   have:=u2.1
   rw[z,hM] at this
   cases this⟩
  generalize upd H2 M (.lst (ls.map V.ref))=H3 at s3 m0 ⊢
  refine WV (xss:=ma1) rfl m0 s3 nM (by decide) (by decide) (by decide) fun S1 H4 s4 m4=>?_
  refine WV (xss:=ma2) rfl m4 s4 nM (by decide) (by decide) (by decide) fun S2 H5 s5 m5=>?_
  refine WV (xss:=ma3) rfl m5 s5 nM (by decide) (by decide) (by decide) fun S3 H6 s6 m6=>?_
  refine WV (xss:=ma4) rfl m6 s6 nM (by decide) (by decide) (by decide) fun S4 H7 s7 m7=>?_
  replace m7:YO H7 M (ls++[S1]++[S2]++[S3]++[S4]) mnS:=m7
  generalize ls++[S1]++[S2]++[S3]++[S4]=L5 at m7
  refine⟨_,rfl,gr,rfl,YN (fun _=>?_) (fun _=>?_)⟩
  ·refine⟨_,rfl,UL mn2 (by decide) (by decide) fun ls' H8 s8 hl8 hi8 M' hM'=>?_⟩
   have s9:=Same.upd (H:=H8) (o:=.lst (ls'.map V.ref)) hM'
   have hA:=m7.mono (s8.trans s9)
   refine⟨M,M',_,_,rfl,rfl,hA.1,Zt,by rw[Za,Za,hA.2.1,hl8];decide,fun N nN=>?_⟩
   have sX:=Same.upd (o:=.lst (L5.map V.ref++ls'.map V.ref)) nN
   have s10:=((s7.trans s8).trans s9).trans sX
   have nN1:H1 N=none:=((s7.trans s8).trans s9).free nN
   have mN:YO (upd (upd H8 M' (.lst (ls'.map V.ref))) N (.lst (L5.map V.ref++ls'.map V.ref))) N (L5++ls') (mnS++mn2):=by
    have lm:L5.length=mnS.length:=hA.2.1
    refine⟨by rw[Zt,List.map_append],by rw[Zd,Zd,lm,hl8],fun i l hl=>?_⟩
    have go:∀{H':Hp}{l:Addr}{bs:List Addr}{xss:List (List Nat)},TupsAt H' l bs xss->Same H' (upd H8 M' (.lst (ls'.map V.ref)))->l≠N:=fun {H' l bs xss} R s z=>by
     have:=s _ _ R.1
     rw[z,nN] at this
     cases this
    by_cases hi:i<L5.length
    ·rw[List.getElem?_append_left hi] at hl
     obtain⟨_,bs,u2⟩:=hA.2.2 i l hl
     refine⟨go u2 (Same.refl _),bs,?_⟩
     rw[Zb,List.getElem?_append_left (by rw[<-lm];exact hi),<-Zb]
     exact u2.mono sX
    ·rw[List.getElem?_append_right (by omega)] at hl
     obtain⟨_,bs,u2⟩:=hi8 _ l hl
     refine⟨go u2 s9,bs,?_⟩
     rw[Zb,List.getElem?_append_right (by rw[<-lm];omega),<-lm,<-Zb]
     exact u2.mono (s9.trans sX)
   generalize upd (upd H8 M' (.lst (ls'.map V.ref))) N (.lst (L5.map V.ref++ls'.map V.ref))=HN at s10 mN ⊢
   refine WV (xss:=ma5) rfl mN s10 nN1 (by decide) (by decide) (by decide) fun S5 H9 s11 m11=>?_
   refine⟨_,rfl,_,rfl,_,rfl,N,_,rfl,.inl (.of m11.1),?_⟩
   rw[Za,m11.2.1]
   refine⟨p,_,b+1,rfl,T1.mono s11,by omega,by decide,by decide,fun r2 H2 c0 c1 k2 T2=>?_⟩
   obtain⟨j,rfl⟩:=Int.eq_ofNat_of_zero_le c0
   exact out _ _ _ _ _ s11 m11 (by decide) k2 T2 c1 fun hM hat R=>⟨N,_,_,_,rfl,rfl,.of hM,hat,R⟩
  ·refine⟨_,rfl,_,rfl,_,rfl,M,_,rfl,.inl (.of m7.1),?_⟩
   rw[Za,m7.2.1]
   refine⟨p,_,b+1,rfl,T1.mono s7,by omega,by decide,by decide,fun r2 H2 c0 c1 k2 T2=>?_⟩
   obtain⟨j,rfl⟩:=Int.eq_ofNat_of_zero_le c0
   exact out _ _ _ _ _ s7 m7 (by decide) k2 T2 c1 fun hM hat R=>⟨M,_,_,_,rfl,rfl,.of hM,hat,R⟩
end
end C27
namespace Pm
open PySem L2 PySem.Spec PyProof.Rows
open Tb
theorem neC {X:Cx}(K:PySem.W.Frag)(hu:X.A.units+64<cLine)(hK:X.K=K:=by rfl):J5 X (compareOp .NotEq) (fun x y H Q=>∃dx dy,Xj K H x dx/\Xj K H y dy/\SeqAt.shaped dx=true/\SeqAt.shaped dy=true/\Q (.bl (!PyData.eqv dx dy)) H):=hK▸ZhS hu
theorem Zbx (ds:List PyData):PyData.eqv (.list ds) (.list [])=ds.isEmpty:=by
 cases ds with
 |nil=>rfl
 |cons d r=>rfl
def dT (x:List Nat):PyData:=PyData.tuple ((nI x).map PyData.int)
theorem Xf:∀yss:List (List Nat),PyData.canLayAll0 (yss.map dT)=true
 | []=>rfl
 |y::yss=>by
  show (PyData.canLay0 (.tuple ((nI y).map PyData.int)) && PyData.canLayAll0 (yss.map dT))=true
  rw[Xf yss,Jh]
  rfl
theorem Vx:∀yss:List (List Nat),PyData.depthAll (yss.map dT)<=60
 | []=>Nat.zero_le _
 |y::yss=>by
  show max (PyData.depth (.tuple ((nI y).map PyData.int))) (PyData.depthAll (yss.map dT))<=60
  exact Nat.max_le.mpr ⟨JP _,Vx yss⟩
theorem UW (yss:List (List Nat)):SeqAt.shaped (.list (yss.map dT))=true:=by
 unfold SeqAt.shaped
 have h1:PyData.canLay0 (.list (yss.map dT))=true:=Xf yss
 have h2:PyData.depth (.list (yss.map dT))<=64:=by
  have:=Vx yss
  show PyData.depthAll (yss.map dT)+1<=64
  omega
 simp only[h1,Bool.true_and,Bool.and_true,decide_eq_true_eq]
 exact h2
theorem TupsAt.rds {K:PySem.W.Frag}{H:Hp}{L:Addr}{bs:List Addr}{yss:List (List Nat)}(R:TupsAt H L bs yss):YF K H (bs.map V.ref) (yss.map dT):=VW bs yss R.2.1 R.2.2
theorem TupsAt.rd {K:PySem.W.Frag}{H:Hp}{L:Addr}{bs:List Addr}{yss:List (List Nat)}(R:TupsAt H L bs yss):Xj K H (.ref L) (.list (yss.map dT)):=.lst (.of R.1) R.rds
theorem TupsAt.pop {H:Hp}{L:Addr}{bs:List Addr}{yss:List (List Nat)}(R:TupsAt H L bs yss):TupsAt (upd H L (.lst (bs.map V.ref).dropLast)) L bs.dropLast yss.dropLast:=by
 refine⟨by rw[Zt,List.map_dropLast],by rw[List.length_dropLast,List.length_dropLast,R.2.1],fun i b hb=>?_⟩
 have hi:i<bs.length-1:=by
  have:=(List.getElem?_eq_some_iff.mp hb).1
  rw[List.length_dropLast] at this
  exact this
 rw[List.getElem?_dropLast,if_pos hi] at hb
 have h:=R.2.2 i b hb
 rw[Zw (fun z=>by rw[z,R.1] at h;cases h),h,Zb,Zb,List.getElem?_dropLast,if_pos (by rw[<-R.2.1];exact hi)]
theorem Za3 (cur:List Nat){ps:List (List Nat)}{s:List (List Nat)×List (List Nat)}{i:Nat}{g:List Nat}(h:ps[i]?=some g):Z5 cur (ps.take (i+1)) s=if (Z5 cur (ps.take i) s).1.contains (W9 cur g) then Z5 cur (ps.take i) s else ((Z5 cur (ps.take i) s).1++[W9 cur g],(Z5 cur (ps.take i) s).2++[W9 cur g]):=by
 unfold Z5
 rw[List.take_add_one,h,List.foldl_append]
 rfl
theorem JF (cur:List Nat):∀(ps:List (List Nat)) (s:List (List Nat)×List (List Nat)),s.1.length<=(Z5 cur ps s).1.length
 | [],s=>Zq _
 |p::ps,s=>by
  show s.1.length<=(Z5 cur ps (if s.1.contains (W9 cur p) then s else (s.1++[W9 cur p],s.2++[W9 cur p]))).1.length
  refine Nat.le_trans ?_ (JF cur ps _)
  split
  ·exact Zq _
  ·show s.1.length<=(s.1++[W9 cur p]).length
   rw[Zd];omega
theorem Za4 (cur:List Nat)(ps:List (List Nat))(s:List (List Nat)×List (List Nat))(i:Nat):(Z5 cur (ps.take i) s).1.length<=(Z5 cur ps s).1.length:=by
 have:Z5 cur ps s=Z5 cur (ps.drop i) (Z5 cur (ps.take i) s):=by
  unfold Z5
  rw[<-List.foldl_append,List.take_append_drop]
 rw[this]
 exact JF _ _ _
theorem ZcB (ps:List (List Nat)):∀(f:Nat) (fd ln r:List (List Nat)),dfs ps f fd ln=some r->fd.length<=r.length
 |f,fd,[],r,h=>by
  have:fd=r:=by cases f <;> exact Option.some.inj h
  rw[this]
  exact Zq _
 |0,fd,_::_,r,h=>by cases h
 |f+1,fd,x::ln,r,h=>by
  exact Nat.le_trans (JF ((x::ln).getLast?.getD []) ps (fd,(x::ln).dropLast)) (ZcB ps f (Z5 ((x::ln).getLast?.getD []) ps (fd,(x::ln).dropLast)).1 (Z5 ((x::ln).getLast?.getD []) ps (fd,(x::ln).dropLast)).2 r h)
theorem Zau (x:List Nat)(r:List (List Nat)):(x::r).getD ((x::r).length-1) []=(x::r).getLast?.getD []:=by
 rw[List.getLast?_eq_getElem?,Zb]
end Pm
namespace C27
open PySem L2 PySem.Spec PyProof.Rows
open Tb Pm
abbrev Zb4:Stmt:=top 22
def UP:Sp:=fun vs H Q _=>∃(L:Addr) (bs:List Addr) (ps:List (List Nat)) (k:Nat) (fd:List (List Nat)),vs=[.ref L]/\TupsAt H L bs ps/\ZjS ps k fd/\∀D cs H',H D=none->Same H H'->TupsAt H' D cs fd->Q (.ref D) H'
section
variable {P:Program}{w:World}{K:PySem.W.Frag}{mg:Str->Option Value}{base:Heap}
theorem Zc5 {f:Addr}{fd:FuncData}(F:WB K "_law_things" "_law_things" Zb4 f fd)(T:BlB mg)(GA:Fn P w K mg base Yc 1 "_law_after" ["_law_one", "_law_other"] VJ):Z1 P w K mg base Yc 2 f fd ["_law_perms_here"] UP:=by
 refine F.ok (FS (N:=["_law_perms_here", "_law_found", "_law_line", "_law_here", "_law_perm", "_law_later"])) (fun vs H Q E h=>?_) (fun cdv A outer s H vs Q E hr h=>?_)
 ·obtain⟨L,bs,ps,k,fd,rfl,_⟩:=h;rfl
 ·obtain⟨L,bs,ps,k,fd0,rfl,R0,B,q⟩:=h
  refine⟨_,Zu (ZH 1 rfl (Ys (pc (ct (WT rfl) T.tuple (pc (ct WU T.range (pc (cb (Yj K) T.len (pc (ZF (ixL K) (vn 0) Zx (fun _ _=>rfl)) Zs)) Zs)) Zs)) Zs)))
   (Zu (ZH 2 rfl (ct Uw T.list (pc (vn 1) Zs)))
   (Zu (Yu PassesOwn.never (ZI (neC K hr.units) (vn 2) (Ys Zs) (ZR _))
    (Zu (ZH 3 rfl (Zes PySem.F.plainAttrs_list PySem.F.slot_list_pop PySem.F.type_list_pop ZeM (vn 2)))
    (Zv (Yi PassesOwn.never rfl (itL K (vn 0)) (gn 4)
     (Zu (ZH 5 rfl (Y3 GA hr ZE (pc (vn 3) (pc (vn 4) Zs))))
     (Zv (YR (ZI (ZeJ K hr.units) (vn 5) (vn 1) (by rfl))
      (Zu (Yq (Wg PySem.F.plainAttrs_list PySem.F.slot_list_append PySem.F.type_list_append ZX (vn 1) (pc (vn 5) Zs)))
      (Zv (Yq (Wg PySem.F.plainAttrs_list PySem.F.slot_list_append PySem.F.type_list_append ZX (vn 2) (pc (vn 5) Zs))))) Z4)))))))
   (Zv (ZD (vn 1))))),?_⟩
  have sz:(16777216:Nat)=sizeLine:=by decide
  have k1:=B.k1
  have k10:=B.k10
  have p1:=B.p1
  have p9:=B.p9
  have n60:=B.n60
  obtain⟨b0,_,hat0,hb0⟩:=R0.get (i:=0) (by omega)
  have e0:((ps.getD 0 []).map nV).length=k:=by rw[Za];exact (B.pl _ (Zbp (by omega))).1
  refine⟨_,rfl,L,_,_,_,rfl,rfl,.of R0.1,hat0,b0,_,rfl,.inr (.of hb0),_,rfl,fun r0 hr0=>⟨r0,0,_,rfl,Zt,⟨by omega,by omega,by rw[e0];omega,by rw[e0];omega⟩,by rw[e0];omega,fun l hl=>?_⟩⟩
  rw[e0] at hl ⊢
  have ek:((k:Int)-0).toNat=k:=by omega
  rw[ek] at *
  refine⟨(by show 1<=sizeLine;decide),fun D nD'=>?_⟩
  have s1:Same H (upd H r0 (.rng 0 (k:Int))):=Same.upd hr0
  have s2:=s1.trans (Same.upd (o:=.tup ((Z2 0 k).map V.int)) hl)
  have s3:=s2.trans (Same.upd (o:=.lst [.ref l]) nD')
  have nD:H D=none:=s2.free nD'
  have R1:TupsAt (upd (upd (upd H r0 (.rng 0 (k:Int))) l (.tup ((Z2 0 k).map V.int))) D (.lst [.ref l])) D [l] [List.range k]:=Xl Zt (by
   rw[Zw (fun z=>by rw[<-z,Zt] at nD';cases nD'),Zt,ZcV])
  generalize upd (upd (upd H r0 (.rng 0 (k:Int))) l (.tup ((Z2 0 k).map V.int))) D (.lst [.ref l])=H3 at s3 R1 ⊢
  refine⟨_,rfl,D,[.ref l],rfl,.inl (.of R1.1),fun Ln nL'=>?_⟩
  have s4:=Same.upd (H:=H3) (o:=.lst [.ref l]) nL'
  have nL:H Ln=none:=s3.free nL'
  have nDL:D≠Ln:=fun z=>by
   have:=R1.1
   rw[z,nL'] at this
   cases this
  have R2:TupsAt (upd H3 Ln (.lst [.ref l])) Ln [l] [List.range k]:=Xl Zt (s4 _ _ (R1.2.2 0 l rfl))
  have R1':=R1.mono s4
  have s34:=s3.trans s4
  generalize upd H3 Ln (.lst [.ref l])=H4 at s34 R1' R2 ⊢
  have g0:∀y∈[List.range k],Gk k y:=fun y hy=>by
   rw[List.mem_singleton.mp hy]
   exact⟨Zg,fun x hx=>List.mem_range.mp hx⟩
  refine Yl (fun m σ' H'=>∃(cs es:List Addr) (yss ln:List (List Nat)) (v3 v4 v5:Option V),σ'=[some (.ref L),some (.ref D),some (.ref Ln),v3,v4,v5]/\Same H H'/\TupsAt H' D cs yss/\TupsAt H' Ln es ln/\(∀y∈yss,Gk k y)/\(∀y∈ln,Gk k y)/\ln.length<=yss.length/\dfs ps m yss ln=some fd0)
   (fun σ' H'=>∃(cs:List Addr) (v3 v4 v5:Option V),σ'=[some (.ref L),some (.ref D),some (.ref Ln),v3,v4,v5]/\Same H H'/\TupsAt H' D cs fd0) ?hend ⟨61,_,_,_,_,_,_,_,rfl,s34,R1',R2,g0,g0,Zq _,B.run⟩ ?turn
  case hend=>
   rintro σ' H' ⟨cs,v3,v4,v5,rfl,sm,R⟩
   exact⟨_,rfl,q D cs H' nD sm R⟩
  case turn=>
   rintro hend m σ' H' ⟨cs,es,yss,ln,v3,v4,v5,rfl,sm,R,S,gd,gl,ll,run⟩
   refine⟨_,rfl,(by show 0<=sizeLine;decide),fun e0 ne0=>?_⟩
   have sE:=Same.upd (H:=H') (o:=.lst []) ne0
   have RE:=R.mono sE
   have SE:=S.mono sE
   have smE:=sm.trans sE
   refine⟨_,_,SE.rd,.lst (.of Zt) .nil,UW ln,rfl,_,rfl,?_⟩
   generalize upd H' e0 (.lst [])=HE at RE SE smE ⊢
   rw[Zbx]
   cases ln with
   |nil=>
    refine Zdi (by decide) (hend _ _ ⟨cs,v3,v4,v5,rfl,smE,?_⟩)
    have:yss=fd0:=by cases m <;> exact Option.some.inj run
    rw[<-this]
    exact RE
   |cons x r=>
    refine ZjD rfl ?_
    cases m with
    |zero=>cases run
    |succ m=>
     have run:dfs ps m (Z5 ((x::r).getLast?.getD []) ps (yss,(x::r).dropLast)).1 (Z5 ((x::r).getLast?.getD []) ps (yss,(x::r).dropLast)).2=some fd0:=run
     have esl:es.length=(x::r).length:=SE.2.1
     have hel:es.length-1<es.length:=by rw[esl,Zi];omega
     have hlast:=SE.2.2 (es.length-1) _ (Zf hel)
     have hcg:Gk k ((x::r).getLast?.getD []):=by
      rw[<-Zau]
      exact gl _ (Zbp (by rw[Zi];omega))
     have el:(x::r).getD (es.length-1) []=(x::r).getLast?.getD []:=by rw[esl];exact Zau x r
     rw[el] at hlast
     have hlen:=ZcB ps m _ _ _ run
     have gl0:∀y∈(x::r).dropLast,Gk k y:=fun y hy=>gl y (List.dropLast_subset _ hy)
     have ll0:(x::r).dropLast.length<=yss.length:=by rw[List.length_dropLast];omega
     have hxs:(es.map V.ref)[(es.map V.ref).length-1]?=some (.ref es[es.length-1]):=by rw[Za,Zc,Zf hel];rfl
     have SP:=SE.pop
     have RP:=RE.updM (o:=.lst (es.map V.ref).dropLast) SE.1 nDL
     have smP:=smE.updr (o:=.lst (es.map V.ref).dropLast) nL
     have hcP:upd HE Ln (.lst (es.map V.ref).dropLast) es[es.length-1]=some (.tup (((x::r).getLast?.getD []).map nV)):=by
      rw[Zw (fun z=>by rw[z,SE.1] at hlast;cases hlast)]
      exact hlast
     refine⟨_,fun _ _ z=>z,_,rfl,.inl ⟨rfl,_,.of SE.1⟩,Ln,_,_,rfl,rfl,SE.1,hxs,?_⟩
     generalize upd HE Ln (.lst (es.map V.ref).dropLast)=HP at SP RP smP hcP ⊢
     generalize es[es.length-1]=ea at hcP ⊢
     generalize (x::r).getLast?.getD []=cur at hcP hcg run hlen ⊢
     generalize (x::r).dropLast=ln0 at SP run hlen gl0 ll0
     have pll:(bs.map V.ref).length=ps.length:=by rw[Za,R0.2.1]
     refine⟨_,rfl,L,rfl,⟨_,.of (smP _ _ R0.1)⟩,?_⟩
     refine Ju (H0:=H) (Y4 (K:=K) (.of R0.1)) (fun i τ HH=>∃(cs' es':List Addr) (w4 w5:Option V),τ=[some (.ref L),some (.ref D),some (.ref Ln),some (.ref ea),w4,w5]/\Same H HH/\TupsAt HH D cs' (Z5 cur (ps.take i) (yss,ln0)).1/\TupsAt HH Ln es' (Z5 cur (ps.take i) (yss,ln0)).2/\(∀y∈(Z5 cur (ps.take i) (yss,ln0)).1,Gk k y)/\(∀y∈(Z5 cur (ps.take i) (yss,ln0)).2,Gk k y)/\(Z5 cur (ps.take i) (yss,ln0)).2.length<=(Z5 cur (ps.take i) (yss,ln0)).1.length/\HH ea=some (.tup (cur.map nV)))
      ⟨_,_,_,_,rfl,smP,RP,SP,gd,gl0,ll0,hcP⟩ (fun i τ HH h=>h.choose_spec.choose_spec.choose_spec.choose_spec.2.1) ?_ ?_
     ·rintro i y τ HH hy ⟨cs',es',w4,w5,rfl,sH,R',S',gd',gl',ll',hc'⟩
      obtain⟨b,rfl,hi,hb0'⟩:=R0.ref hy
      have hbH:=sH _ _ hb0'
      have gg:Gk k (ps.getD i []):=B.pl _ (Zbp hi)
      have pi:ps[i]?=some (ps.getD i []):=getL hi
      generalize ps.getD i []=gp at *
      have hcl:(Z5 cur (ps.take i) (yss,ln0)).1.length<=60:=Nat.le_trans (Za4 cur ps (yss,ln0) i) (by omega)
      have est:=Za3 cur (s:=(yss,ln0)) pi
      rw[est]
      generalize Z5 cur (ps.take i) (yss,ln0)=zs at *
      refine⟨_,rfl,_,rfl,ea,b,k,cur,gp,rfl,hc',hbH,hcg,gg,by omega,fun tp HF ntp sF hF=>?_⟩
      have RF:=R'.mono sF
      have SF:=S'.mono sF
      have go:Gk k (W9 cur gp):=Zfu hcg gg
      refine⟨_,rfl,_,rfl,D,_,(zs.1.map fun ns=>PyData.tuple ((nI ns).map PyData.int)),.tuple ((nI (W9 cur gp)).map PyData.int),rfl,.inl (.of RF.1),VW _ _ RF.2.1 RF.2.2,.tup (.of (by rw[Ub];exact hF)) (YF.ints _),Xf zs.1,Jh _,JP _,_,rfl,?_⟩
      rw[if_pos rfl,UC]
      have zl:=RF.2.1
      have wl:=SF.2.1
      refine YN (fun h2=>?_) (fun h2=>?_)
      ·have h2:zs.1.contains (W9 cur gp)=false:=by simpa using h2
       rw[if_neg (by rw[h2];decide)]
       refine⟨_,rfl,.inl ⟨rfl,_,.of RF.1⟩,_,rfl,D,_,_,rfl,rfl,RF.1,by rw[Za];omega,?_⟩
       have R2':=RF.push hF
       have S2':=SF.updM (o:=.lst (cs'.map V.ref++[.ref tp])) RF.1 nDL.symm
       have s2':=(sH.trans sF).updr (o:=.lst (cs'.map V.ref++[.ref tp])) nD
       have hF2:upd HF D (.lst (cs'.map V.ref++[.ref tp])) tp=some (.tup ((W9 cur gp).map nV)):=by
        rw[Zw (fun z=>by rw[z,RF.1] at hF;cases hF)]
        exact hF
       have hc2:upd HF D (.lst (cs'.map V.ref++[.ref tp])) ea=some (.tup (cur.map nV)):=by
        have:=sF _ _ hc'
        rw[Zw (fun z=>by rw[z,RF.1] at this;cases this)]
        exact this
       generalize upd HF D (.lst (cs'.map V.ref++[.ref tp]))=HG at R2' S2' s2' hF2 hc2 ⊢
       refine⟨_,rfl,.inl ⟨rfl,_,.of S2'.1⟩,_,rfl,Ln,_,_,rfl,rfl,S2'.1,by rw[Za];omega,?_⟩
       refine⟨cs'++[tp],es'++[tp],_,_,rfl,s2'.updr nL,R2'.updM S2'.1 nDL,S2'.push hF2,fun y hy=>?_,fun y hy=>?_,?_,?_⟩
       ·rcases List.mem_append.mp hy with z|z
        ·exact gd' y z
        ·rw[List.mem_singleton.mp z];exact go
       ·rcases List.mem_append.mp hy with z|z
        ·exact gl' y z
        ·rw[List.mem_singleton.mp z];exact go
       ·show (zs.2++[W9 cur gp]).length<=(zs.1++[W9 cur gp]).length
        rw[Zd,Zd];omega
       ·rw[Zw (fun z=>by rw[z,S2'.1] at hc2;cases hc2)]
        exact hc2
      ·have h2:zs.1.contains (W9 cur gp)=true:=by simpa using h2
       rw[if_pos h2]
       exact⟨cs',es',_,_,rfl,sH.trans sF,RF,SF,gd',gl',ll',sF _ _ hc'⟩
     ·rintro τ HH ⟨cs',es',w4,w5,rfl,sH,R',S',gd',gl',ll',hc'⟩
      rw[pll,List.take_length] at R' S' gd' gl' ll'
      exact⟨m,by omega,cs',es',_,_,_,_,_,rfl,sH,R',S',gd',gl',ll',run⟩
end
end C27
namespace Pm
open PySem L2 PySem.Spec PyProof.Rows
open Tb
theorem WN {W:Type}(adr:W->Addr)(Pr:Nat->W->Hp->Prop)(Nw:W->Hp->Prop){J:It}{own:List Str}{caps:List Nat}{te:TE}{σ:L2.St}{H:Hp}{Q:VK}{xs:List V}(S:Wj J H xs)(cs:L2.St)(hcs:Jz own caps σ=none::cs)(hn:xs.length<=1000)
  (mono:∀i w H H',Same H H'->Pr i w H->Pr i w H') (anti:∀w H H',Same H H'->Nw w H'->Nw w H) (hu:∀i w H0 H1 D o ys ys',Pr i w H1->Nw w H0->H0 D=some (.lst o)->H1 D=some (.lst ys)->Pr i w (upd H1 D (.lst ys')))
  (hs:∀(i:Nat) y,xs[i]?=some y->∀H',Same H H'->∀R:VK,(∀w H5,Same H' H5->Pr i w H5->Nw w H'->R (.ref (adr w)) H5)->te (some y::cs) H' R)
  (hd:∀D (ws:List W) H',H D=none->Same H H'->H' D=some (.lst (ws.map fun w=>V.ref (adr w)))->ws.length=xs.length->(∀(i:Nat) w,ws[i]?=some w->Pr i w H'/\Nw w H)->(∀(i j:Nat) w w',i<j->ws[i]?=some w->ws[j]?=some w'->∃Hm,Pr i w Hm/\Nw w' Hm)->Q (.ref D) H'):WX own caps (Yg 0) WG te σ Q J H:=by
 refine Jx (xs:=xs) (fun D i ys H'=>Same H H'/\∃ws:List W,ys=ws.map (fun w=>V.ref (adr w))/\ws.length=i/\(∀(i:Nat) w,ws[i]?=some w->Pr i w H'/\Nw w H/\∃H0 o,H0 D=some (.lst o)/\Nw w H0)/\(∀(i j:Nat) w w',i<j->ws[i]?=some w->ws[j]?=some w'->∃Hm,Pr i w Hm/\Nw w' Hm)) cs hcs (by omega) ?_ ?_ ?_ ?_
 ·intro D i ys H' hD hD' p
  have S':=S.mono p.1
  exact⟨fun hi=>⟨S'.go i H' (Same.refl _) hi,fun x H3 y=>S'.yld i H' x H3 (Same.refl _) hi y⟩,fun e=>e▸S'.stop H' (Same.refl _)⟩
 ·intro D hD
  exact⟨Same.upd hD,[],rfl,rfl,(fun i w hw=>by cases hw),(fun i j w w' _ h=>by cases h)⟩
 ·rintro D i y ys H' hD hD' hy ⟨sm,ws,rfl,wl,hw,hp⟩ R k
  refine hs i y hy H' sm R fun w H5 s5 p5 n5=>?_
  have hD5:=s5 _ _ hD'
  have lst:∀(b:Nat) v,(ws++[w])[b]?=some v->(b<ws.length/\ws[b]?=some v)\/(b=ws.length/\v=w):=fun b v hb=>by
   by_cases hbl:b<ws.length
   ·rw[List.getElem?_append_left hbl] at hb
    exact .inl ⟨hbl,hb⟩
   ·rw[List.getElem?_append_right (by omega)] at hb
    have hb0:b-ws.length=0:=by
     apply Classical.byContradiction
     intro z
     rw[List.getElem?_eq_none (by rw[Zk];omega)] at hb
     cases hb
    rw[hb0] at hb
    cases hb
    exact .inr ⟨by omega,rfl⟩
  refine k _ H5 hD5 ⟨(sm.trans s5).updr hD,ws++[w],by rw[List.map_append];rfl,by rw[Zd,wl];rfl,fun b v hv=>?_,fun a b v v' hab ha hb=>?_⟩
  ·rcases lst b v hv with ⟨_,hv⟩|⟨hb,hv⟩
   ·obtain⟨h1,h2,H0,o,h3,h4⟩:=hw b v hv
    exact⟨hu b v H0 H5 D o _ _ (mono b v _ _ s5 h1) h4 h3 hD5,h2,H0,o,h3,h4⟩
   ·subst hv
    subst hb
    rw[<-wl] at p5
    exact⟨hu _ v H' H5 D _ _ _ p5 n5 hD' hD5,anti v _ _ sm n5,H',_,hD',n5⟩
  ·rcases lst b v' hb with ⟨hbl,hb⟩|⟨hbl,hb⟩
   ·rw[List.getElem?_append_left (by omega)] at ha
    exact hp a b v v' hab ha hb
   ·subst hb
    rw[List.getElem?_append_left (by omega)] at ha
    exact⟨H',(hw a v ha).1,n5⟩
 ·rintro D ys H5 hD hD' hyl ⟨sm,ws,rfl,wl,hw,hp⟩
  exact hd D ws H5 hD sm hD' wl (fun i w h=>⟨(hw i w h).1,(hw i w h).2.1⟩) hp
theorem WP {J:It}{own:List Str}{caps:List Nat}{te:TE}{σ:L2.St}{H:Hp}{Q:VK}{xs:List V}(S:Wj J H xs)(cs:L2.St)(hcs:Jz own caps σ=none::cs)(F:Nat->V)(hz:xs.length<=1000)
  (hs:∀(i:Nat) y,xs[i]?=some y->∀H',Same H H'->∀R:VK,(∀H5,Same H' H5->R (F i) H5)->te (some y::cs) H' R)
  (hd:∀D H',H D=none->Same H H'->H' D=some (.lst ((List.range xs.length).map F))->Q (.ref D) H'):WX own caps (Yg 0) WG te σ Q J H:=by
 refine Jx (xs:=xs) (fun D i ys H'=>Same H H'/\ys=(List.range i).map F) cs hcs (by omega) ?_ ?_ ?_ ?_
 ·intro D i ys H' hD hD' p
  have S':=S.mono p.1
  exact⟨fun hi=>⟨S'.go i H' (Same.refl _) hi,fun x H3 y=>S'.yld i H' x H3 (Same.refl _) hi y⟩,fun e=>e▸S'.stop H' (Same.refl _)⟩
 ·intro D hD
  exact⟨Same.upd hD,rfl⟩
 ·rintro D i y ys H' hD hD' hy ⟨sm,rfl⟩ R k
  refine hs i y hy H' sm R fun H5 s5=>k _ H5 (s5 _ _ hD') ⟨(sm.trans s5).updr hD,?_⟩
  rw[List.range_succ,List.map_append]
  rfl
 ·rintro D ys H5 hD hD' hyl ⟨sm,rfl⟩
  exact hd D H5 hD sm hD'
theorem ZgL {X:Cx}(K:PySem.W.Frag)(hK:X.K=K:=by rfl):ZW X (.type "tuple") (fun xs H Q=>∃p ys,xs=[.ref p]/\Wb K H p ys/\∀l H',H l=none->Same H H'->Tz H' l ys->Q (.ref l) H'):=hK▸ZaM
theorem Tz.updL {H:Hp}{a D:Addr}{ys zs:List V}{o:HO}(h:Tz H a ys)(hD:H D=some (.lst zs)):Tz (upd H D o) a ys:=by
 obtain⟨u,h1,h2⟩:=h
 exact⟨u,by rw[Zw (fun z=>by rw[z,hD] at h1;cases h1)];exact h1,h2⟩
def Je (y:List Nat):List ZT:=y.map fun x:Nat=>Sum.inl (x:Int)
theorem ZeV (y:List Nat):(Je y).map kV=y.map nV:=by
 unfold Je
 rw[List.map_map]
 rfl
theorem Zav {a b:List Nat}(h:Je a=Je b):a=b:=by
 unfold Je at h
 refine (List.map_inj_right (fun x y e=>?_)).mp h
 injection e with e
 omega
def kvN (fd:List (List Nat))(os:List Nat)(m:Nat):List (List ZT×V):=(List.range m).map fun i=>(Je (fd.getD (os.getD i 0) []),.int (i:Nat))
section
variable {fd:List (List Nat)}{os:List Nat}
theorem Zfa (nd:fd.Nodup){a b:Nat}(ha:a<fd.length)(hb:b<fd.length)(h:fd.getD a []=fd.getD b []):a=b:=by
 have h1:=getL ha
 have h2:=getL hb
 rw[h,<-h2] at h1
 exact (List.getElem?_inj ha nd).mp h1
theorem ZeU (nd:fd.Nodup){n:Nat}(hn:fd.length=n)(O:Ord n os){i c:Nat}(hi:i<n)(hc:c<n):Je (fd.getD (os.getD i 0) [])=Je (fd.getD c [])↔i=pos os c:=by
 have ho:=W7 O hi
 obtain⟨p1,p2⟩:=VZ O hc
 constructor
 ·intro h
  have:=Zfa nd (by omega) (by omega) (Zav h)
  exact inj O hi p1 (by rw[this,p2])
 ·rintro rfl
  rw[p2]
theorem Zgp (nd:fd.Nodup){n:Nat}(hn:fd.length=n)(O:Ord n os){m:Nat}(hm:m<n):Yt (kvN fd os m) (Je (fd.getD (os.getD m 0) [])) (.int (m:Nat))=kvN fd os (m+1):=by
 have:(kvN fd os m).any (fun kv=>decide (kv.1=Je (fd.getD (os.getD m 0) [])))=false:=by
  rw[Bool.eq_false_iff]
  intro h
  rw[List.any_eq_true] at h
  obtain⟨kv,hkv,e⟩:=h
  obtain⟨i,hi,rfl⟩:=List.mem_map.mp hkv
  have hi:=List.mem_range.mp hi
  have e:=of_decide_eq_true e
  have:=Zfa nd (by have:=W7 O (show i<n by omega);omega) (by have:=W7 O hm;omega) (Zav e)
  have:=inj O (by omega) hm this
  omega
 unfold Yt
 rw[this]
 unfold kvN
 rw[List.range_succ,List.map_append]
 rfl
theorem Zgo (nd:fd.Nodup){n:Nat}(hn:fd.length=n)(O:Ord n os){c:Nat}(hc:c<n):Yr (kvN fd os n) (Je (fd.getD c []))=some (.int (pos os c:Nat)):=by
 obtain⟨p1,p2⟩:=VZ O hc
 unfold Yr kvN
 rw[List.find?_map]
 have:(List.range n).find? ((fun kv:List ZT×V=>decide (kv.1=Je (fd.getD c []))) ∘ fun i:Nat=>((Je (fd.getD (os.getD i 0) []),V.int (i:Nat)):List ZT×V))=some (pos os c):=by
  rw[List.find?_range_eq_some]
  refine⟨decide_eq_true ((ZeU nd hn O p1 hc).mpr rfl),List.mem_range.mpr p1,fun j hj=>?_⟩
  rw[Bool.not_eq_true']
  refine decide_eq_false fun h=>?_
  have:=(ZeU nd hn O (by omega) hc).mp h
  omega
 rw[this]
 rfl
theorem ZiC (cl:∀a∈fd,∀b∈fd,W9 a b∈fd){a b:Nat}(ha:a<fd.length)(hb:b<fd.length):Zz (YY fd) a b<fd.length/\fd.getD (Zz (YY fd) a b) []=W9 (fd.getD a []) (fd.getD b []):=by
 have e:Zz (YY fd) a b=fd.findIdx (· == W9 (fd.getD a []) (fd.getD b [])):=by
  unfold Zz YY
  rw[Zb (l:=fd.map _),Zc,getL ha]
  show (fd.map fun b=>fd.findIdx (· == W9 (fd.getD a []) b)).getD b 0=_
  rw[Zb,Zc,getL hb]
  rfl
 have hm:=cl _ (Zbp ha) _ (Zbp hb)
 have hl:fd.findIdx (· == W9 (fd.getD a []) (fd.getD b []))<fd.length:=List.findIdx_lt_length.mpr ⟨_,hm,by exact beq_self_eq_true _⟩
 rw[e]
 refine⟨hl,?_⟩
 have:=List.findIdx_getElem (w:=hl)
 rw[Zb,Zf hl]
 exact eq_of_beq this
theorem ZdT (fd:List (List Nat)):(YY fd).length=fd.length:=by unfold YY;rw[Za]
end
theorem Xe {α β:Type}(f:α->β):∀(xs:List α) (j:Nat),(xs.map f).eraseIdx j=(xs.eraseIdx j).map f
 | [],j=>rfl
 |x::xs,0=>rfl
 |x::xs,j+1=>by
  show f x::(xs.map f).eraseIdx j=f x::(xs.eraseIdx j).map f
  rw[Xe f xs j]
theorem TupsAt.erase {H:Hp}{L:Addr}{bs:List Addr}{yss:List (List Nat)}(R:TupsAt H L bs yss)(j:Nat):TupsAt (upd H L (.lst ((bs.map V.ref).eraseIdx j))) L (bs.eraseIdx j) (yss.eraseIdx j):=by
 refine⟨by rw[Zt,Xe],by rw[List.length_eraseIdx,List.length_eraseIdx,R.2.1],fun i b hb=>?_⟩
 rw[List.getElem?_eraseIdx] at hb
 rw[Zb,List.getElem?_eraseIdx]
 have key:∀i',bs[i']?=some b->upd H L (.lst ((bs.map V.ref).eraseIdx j)) b=some (.tup ((yss[i']?.getD []).map nV)):=fun i' h'=>by
  have h:=R.2.2 i' b h'
  rw[Zw (fun z=>by rw[z,R.1] at h;cases h),h,Zb]
 by_cases hi:i<j
 ·rw[if_pos hi] at hb ⊢
  exact key _ hb
 ·rw[if_neg hi] at hb ⊢
  exact key _ hb
theorem TupsAt.sub {H:Hp}{L A:Addr}{cs:List Addr}{fd:List (List Nat)}(R:TupsAt H L cs fd)(os:List Nat)(ho:∀i∈os,i<fd.length)(hA:H A=some (.lst ((os.map fun i=>cs.getD i 0).map V.ref))):TupsAt H A (os.map fun i=>cs.getD i 0) (os.map fun i=>fd.getD i []):=by
 refine⟨hA,by rw[Za,Za],fun i b hb=>?_⟩
 rw[Zc] at hb
 cases e:os[i]? with
 |none=>rw[e] at hb;cases hb
 |some j=>
  rw[e] at hb
  have hj:=ho j (List.mem_of_getElem? e)
  have hjc:j<cs.length:=by rw[R.2.1];exact hj
  have hb':cs[j]?=some b:=by
   rw[<-Option.some.inj hb]
   show cs[j]?=some (cs.getD j 0)
   rw[Zb,Zf hjc]
   rfl
  rw[R.2.2 j b hb',Zb (l:=os.map _),Zc,e]
  rfl
end Pm
namespace C27
open PySem L2 PySem.Spec PyProof.Rows
open Tb Pm
abbrev Za9:Stmt:=top 23
def ZbY:Sp:=fun vs H Q _=>∃(p:Addr) (b:Nat) (gr:Bool),vs=[.ref p,.bl gr]/\ZV H p b/\b+100<2 ^ 60/\∀g t H',Tk p H H'->ZV H' p (b+70)->GT H' g t->PW t->t.length<=24->Q (.ref g) H'
theorem Zfj {xs:List V}(h:1<=xs.length):Ut xs (some 1) none=xs.drop 1:=by
 unfold Ut
 have e1:HT.VQ xs.length 0 (some 1)=1:=by
  have:=HT.Zca xs.length 0 1
  rw[show ((1:Nat):Int)=1 from rfl] at this
  rw[this]
  omega
 rw[e1,HT.U1]
 rw[List.take_of_length_le (by rw[List.length_drop];omega)]
theorem Ziv {xs:List V}(h:1<=xs.length):Ut xs none (some 1)=xs.take 1:=by
 unfold Ut
 have e1:HT.VQ xs.length xs.length (some 1)=1:=by
  have:=HT.Zca xs.length xs.length 1
  rw[show ((1:Nat):Int)=1 from rfl] at this
  rw[this]
  omega
 rw[e1,HT.U1]
 rfl
theorem Zds {cs:List Addr}{n:Nat}(h:cs.length=n):(cs.map V.ref).drop 1=(((List.range (n-1)).map (· + 1)).map fun i=>cs.getD i 0).map V.ref:=by
 refine List.ext_getElem? fun i=>?_
 rw[List.getElem?_drop,Zc,Zc,Zc,Zc]
 by_cases hi:i<n-1
 ·rw[List.getElem?_range hi,Zf (show 1+i<cs.length by omega)]
  show some (V.ref cs[1+i])=some (V.ref (cs.getD (i+1) 0))
  rw[Zb,Zf (show i+1<cs.length by omega)]
  congr 3
  omega
 ·rw[List.getElem?_eq_none (by omega),List.getElem?_eq_none (by rw[Zg];omega)]
  rfl
theorem ZcR {cs:List Addr}(h:1<=cs.length):(cs.map V.ref).take 1=(([0]:List Nat).map fun i=>cs.getD i 0).map V.ref:=by
 cases cs with
 |nil=>cases h
 |cons c r=>rfl
theorem Tk.updN {p l:Addr}{H H1:Hp}{o:HO}(a:Tk p H H1)(h:H l=none):Tk p H (upd H1 l o):=fun c u e n=>by
 rw[Zw (ZN e h)]
 exact a c u e n
theorem Tk.same {p:Addr}{H H1 H2:Hp}(a:Tk p H H1)(s:Same H1 H2):Tk p H H2:=a.trans (Tk.of s)
theorem ZV.updN {p l:Addr}{H:Hp}{b:Nat}{o:HO}(h:ZV H p b)(hl:l≠p):ZV (upd H l o) p b:=by
 obtain⟨c,l',n,h1,h2⟩:=h
 exact⟨c,l',n,by rw[Zw hl.symm];exact h1,h2⟩
theorem Zh5 (os:List Nat)(g:Nat->Nat):(List.range os.length).map (fun j=>g (os.getD j 0))=os.map g:=by
 refine List.ext_getElem? fun i=>?_
 rw[Zc,Zc]
 by_cases hi:i<os.length
 ·rw[List.getElem?_range hi,Zf hi]
  show some (g (os.getD i 0))=some (g os[i])
  rw[Zb,Zf hi]
  rfl
 ·rw[List.getElem?_eq_none (by rw[Zg];omega),List.getElem?_eq_none (by omega)]
  rfl
theorem Ud {os:List Nat}{fd:List (List Nat)}{i:Nat}(hi:i<os.length):(os.map fun i=>fd.getD i []).getD i []=fd.getD (os.getD i 0) []:=by
 rw[Zb,Zc,Zf hi,Zb (l:=os),Zf hi]
 rfl
section
variable {P:Program}{w:World}{K:PySem.W.Frag}{mg:Str->Option Value}{base:Heap}
theorem ZeD {f:Addr}{fd:FuncData}(F:WB K "_law_group" "_law_group" Za9 f fd)(T:BlB mg)(GT':Fn P w K mg base Yc 2 "_law_things" ["_law_perms_here"] UP)(GP:Fn P w K mg base Yc 2 "_law_perms" ["_law_tape_here", "_law_great"] ZbT)(GK:Fn P w K mg base Yc 1 "_law_pick" ["_law_tape_here", "_law_many"] JG)(GA:Fn P w K mg base Yc 1 "_law_after" ["_law_one", "_law_other"] VJ) :
  Z1 P w K mg base Yc 3 f fd ["_law_tape_here", "_law_great"] ZbY:=by
 refine F.ok (FS (N:=["_law_tape_here", "_law_great", "_law_things_here", "_law_left", "_law_order", "_law_numbers", "_law_k"])) (fun vs H Q E h=>?_) (fun cdv A outer s H vs Q E hr h=>?_)
 ·obtain⟨p,b,gr,rfl,_⟩:=h;rfl
 ·obtain⟨p,b,gr,rfl,T0,hb,q⟩:=h
  have hu:(A.deeper (envOfC "_law_group" (ZM Za9) s.heap.objs.size f cdv)).units+1<cLine:=by have:=hr.un;omega
  refine⟨_,Zu (ZH 2 rfl (Y3 GT' hr ZE (pc (Y3 GP hr ZE (pc (vn 0) (pc (vn 1) Zs))) Zs)))
   (Zu (ZH 3 rfl (Xy VO (vn 2) (V1 Zx) V2))
   (Zu (ZH 4 rfl (Xy VO (vn 2) V2 (V1 Zx)))
   (Zu (Yu PassesOwn.never (ZI (neC K hr.units) (vn 3) (Ys Zs) (ZR _))
    (Zv (Yq (Wg PySem.F.plainAttrs_list PySem.F.slot_list_append PySem.F.type_list_append ZX (vn 4)
     (pc (Wg PySem.F.plainAttrs_list PySem.F.slot_list_pop PySem.F.type_list_pop Zal (vn 3) (pc (Y3 GK hr ZE (pc (vn 0) (pc (cb (Yj K) T.len (pc (vn 3) Zs)) Zs))) Zs)) Zs)))))
   (Zu (ZH 5 rfl Zeo)
   (Zu (Yi PassesOwn.never rfl (Wt T.range (pc (cb (Yj K) T.len (pc (vn 4) Zs)) Zs)) (gn 6)
    (Zv (Wu hu (vn 5) (ZF (ixL K) (vn 4) (vn 6) (fun _ _=>rfl)) (vn 6) (by rfl))))
   (Zv (ZD (ct ZG T.tuple (pc (cmp ["_law_one"] [5,4] ["_law_one", "_law_numbers", "_law_order"] rfl (itL K (vn 4)) (fun _ _ _ _ _=>gnf 0 rfl) (fun _ _ _ _ _=>ZQ)
    (fun _ _ _ _ _=>ct (ZgL K) (by exact T.tuple) (pc (cmp ["_law_other"] [1,0] ["_law_other", "_law_numbers", "_law_one"] rfl (itL K (vn 2)) (fun _ _ _ _ _=>gn 0) (fun _ _ _ _ _=>ZQ)
     (fun _ _ _ _ _=>Ww hu (vn 1) (Y3 GA hr ZE (pc (vn 2) (pc (vn 0) Zs))) (fun _ _=>rfl))) Zs))) Zs))))))))),?_⟩
  have sz:(16777216:Nat)=sizeLine:=by decide
  refine⟨_,rfl,_,rfl,p,b,gr,rfl,T0,by omega,fun L bs ps H1 k1 T1 hps R1=>?_⟩
  obtain⟨fd0,B⟩:=Zjs hps
  generalize (ps.getD 0 []).length=k at B
  have n60:=B.n60
  have k10:=B.k10
  have n1:1<=fd0.length:=(List.getElem?_eq_some_iff.mp B.hd).1
  refine⟨L,bs,ps,k,fd0,rfl,R1,B,fun D cs H2 nD s2 R2=>?_⟩
  have csl:cs.length=fd0.length:=R2.2.1
  have cml:(cs.map V.ref).length=fd0.length:=by rw[Za,csl]
  refine⟨_,rfl,_,rfl,D,_,rfl,.of R2.1,fun Lf nLf=>?_⟩
  rw[Zfj (by omega),Zds csl]
  have s3:=Same.upd (H:=H2) (o:=.lst ((((List.range (fd0.length-1)).map (· + 1)).map fun i=>cs.getD i 0).map V.ref)) nLf
  have hLf:upd H2 Lf (.lst ((((List.range (fd0.length-1)).map (· + 1)).map fun i=>cs.getD i 0).map V.ref)) Lf=some (.lst ((((List.range (fd0.length-1)).map (· + 1)).map fun i=>cs.getD i 0).map V.ref)):=Zt
  generalize upd H2 Lf (.lst ((((List.range (fd0.length-1)).map (· + 1)).map fun i=>cs.getD i 0).map V.ref))=H3 at s3 hLf ⊢
  refine⟨_,rfl,_,rfl,D,_,rfl,.of (s3 _ _ R2.1),fun Od nOd=>?_⟩
  rw[Ziv (by omega),ZcR (by omega)]
  have s4:=Same.upd (H:=H3) (o:=.lst ((([0]:List Nat).map fun i=>cs.getD i 0).map V.ref)) nOd
  have hOd:upd H3 Od (.lst ((([0]:List Nat).map fun i=>cs.getD i 0).map V.ref)) Od=some (.lst ((([0]:List Nat).map fun i=>cs.getD i 0).map V.ref)):=Zt
  generalize upd H3 Od (.lst ((([0]:List Nat).map fun i=>cs.getD i 0).map V.ref))=H4 at s4 hOd ⊢
  have s24:=s3.trans s4
  have R4:=R2.mono s24
  have nOd2:H2 Od=none:=s3.free nOd
  have nLO:Lf≠Od:=fun z=>by rw[z,nOd] at hLf;cases hLf
  have T2:=T1.mono s2
  have T4:=T2.mono s24
  have nLp:Lf≠p:=T2.neN nLf
  have nOp:Od≠p:=T2.neN nOd2
  have RL4:=R4.sub ((List.range (fd0.length-1)).map (· + 1)) (fun i hi=>by
   obtain⟨j,hj,rfl⟩:=List.mem_map.mp hi
   have:=List.mem_range.mp hj
   omega) (s4 _ _ hLf)
  have RO4:=R4.sub [0] (fun i hi=>by rw[List.mem_singleton.mp hi];omega) hOd
  have p0:([0]++(List.range (fd0.length-1)).map (· + 1)).Perm (List.range fd0.length):=by
   have:List.range fd0.length=[0]++(List.range (fd0.length-1)).map (· + 1):=by
    obtain⟨k,hk⟩:∃k,fd0.length=k+1:=⟨fd0.length-1,by omega⟩
    rw[hk,List.range_succ_eq_map]
    rfl
   rw[this]
  refine Yl (fun m σ' H'=>∃(ls os:List Nat),σ'=[some (.ref p),some (.bl gr),some (.ref D),some (.ref Lf),some (.ref Od),none,none]/\Tk p H2 H'/\ZV H' p (b+2+os.length)/\TupsAt H' Lf (ls.map fun i=>cs.getD i 0) (ls.map fun i=>fd0.getD i [])/\TupsAt H' Od (os.map fun i=>cs.getD i 0) (os.map fun i=>fd0.getD i [])/\(os++ls).Perm (List.range fd0.length)/\os[0]?=some 0/\m=ls.length)
   (fun σ' H'=>∃(os:List Nat),σ'=[some (.ref p),some (.bl gr),some (.ref D),some (.ref Lf),some (.ref Od),none,none]/\Tk p H2 H'/\ZV H' p (b+2+os.length)/\TupsAt H' Od (os.map fun i=>cs.getD i 0) (os.map fun i=>fd0.getD i [])/\os.Perm (List.range fd0.length)/\os[0]?=some 0) ?hend ⟨_,_,_,rfl,Tk.of s24,T4.le (by omega),RL4,RO4,p0,rfl,rfl⟩ ?turn
  case turn=>
   rintro hend m σ' H' ⟨ls,os,rfl,kk,Tp,RL,RO,pm,h0,hm⟩
   have pl:=pm.length_eq
   rw[Zd,Zg] at pl
   refine⟨_,rfl,(by show 0<=sizeLine;decide),fun e0 ne0=>?_⟩
   have sE:=Same.upd (H:=H') (o:=.lst []) ne0
   have RLE:=RL.mono sE
   have ROE:=RO.mono sE
   have kE:=kk.same sE
   have TE:=Tp.mono sE
   refine⟨_,_,RLE.rd,.lst (.of Zt) .nil,UW _,rfl,_,rfl,?_⟩
   generalize upd H' e0 (.lst [])=HE at RLE ROE kE TE ⊢
   rw[Zbx]
   refine YN (fun hne=>?_) (fun he=>?_)
   ·have hpos:0<ls.length:=by
     cases ls with
     |nil=>cases hne
     |cons x r=>rw[Zi];omega
    refine⟨_,fun _ _ z=>z,_,rfl,.inl ⟨rfl,_,.of ROE.1⟩,_,rfl,.inl ⟨rfl,_,.of RLE.1⟩,_,rfl,_,rfl,Lf,_,rfl,.inl (.of RLE.1),p,_,b+2+os.length,rfl,TE,by omega,?_,?_,fun r5 H5 c0 c1 k5 T5=>?_⟩
    ·rw[Za,Za];omega
    ·rw[Za,Za];omega
    rw[Za,Za] at c1
    obtain⟨j,rfl⟩:=Int.eq_ofNat_of_zero_le c0
    have hj:j<ls.length:=by omega
    have RL5:=TupsAt.tk TE k5 RLE
    have RO5:=TupsAt.tk TE k5 ROE
    have hat:((ls.map fun i=>cs.getD i 0).map V.ref)[j]?=some (.ref (cs.getD ls[j] 0)):=by rw[Zc,Zc,Zf hj];rfl
    obtain⟨sx,_⟩:=Ul (Zaw (n:=((ls.map fun i=>cs.getD i 0).map V.ref).length) (i:=j) (by rw[Za,Za];exact hj))
    have hb5:=RL5.2.2 j (cs.getD ls[j] 0) (by rw[Zc,Zf hj];rfl)
    have ef:(ls.map fun i=>fd0.getD i []).getD j []=fd0.getD ls[j] []:=by
     rw[Zb,Zc,Zf hj]
     rfl
    rw[ef] at hb5
    have RL6:=RL5.erase j
    have RO6:=RO5.updM (o:=.lst (((ls.map fun i=>cs.getD i 0).map V.ref).eraseIdx j)) RL5.1 nLO.symm
    have T6:=T5.updN (o:=.lst (((ls.map fun i=>cs.getD i 0).map V.ref).eraseIdx j)) nLp
    have k6:=(kE.trans k5).updN (o:=.lst (((ls.map fun i=>cs.getD i 0).map V.ref).eraseIdx j)) nLf
    have hb6:upd H5 Lf (.lst (((ls.map fun i=>cs.getD i 0).map V.ref).eraseIdx j)) (cs.getD ls[j] 0)=some (.tup ((fd0.getD ls[j] []).map nV)):=by
     rw[Zw (fun z=>by rw[z,RL5.1] at hb5;cases hb5)]
     exact hb5
    refine⟨Lf,_,j,j,_,rfl,rfl,RL5.1,by omega,by omega,sx,hat,?_⟩
    generalize upd H5 Lf (.lst (((ls.map fun i=>cs.getD i 0).map V.ref).eraseIdx j))=H6 at RL6 RO6 T6 k6 hb6 ⊢
    refine⟨Od,_,_,rfl,rfl,RO6.1,by rw[Za,Za];omega,?_⟩
    rw[Xe,Xe] at RL6
    refine⟨(ls.eraseIdx j).length,by rw[List.length_eraseIdx,if_pos hj];omega,ls.eraseIdx j,os++[ls[j]],rfl,k6.updN nOd2,?_,RL6.updM RO6.1 nLO,?_,?_,?_,rfl⟩
    ·rw[Zd]
     exact T6.updN nOp
    ·rw[List.map_append,List.map_append]
     exact RO6.push hb6
    ·rw[List.append_assoc]
     exact (List.Perm.append_left os (XH ls j hj)).trans pm
    ·rw[List.getElem?_append_left]
     ·exact h0
     ·exact (List.getElem?_eq_some_iff.mp h0).1
   ·have:ls=[]:=by
     cases ls with
     |nil=>rfl
     |cons x r=>exact absurd rfl he
    subst this
    rw[List.append_nil] at pm
    exact hend _ _ ⟨os,rfl,kE,TE,ROE,pm,h0⟩
  case hend=>
   rintro σ' H5 ⟨os,rfl,kk,Tp,RO,pm,h0⟩
   have O:=ZhQ n1 pm h0
   have osl:=O.len
   have nd:=B.nd
   refine fun Nd nNd=>?_
   have s6:=Same.upd (H:=H5) (o:=.dT []) nNd
   have hN6:upd H5 Nd (.dT []) Nd=some (.dT []):=Zt
   generalize upd H5 Nd (.dT [])=H6 at s6 hN6 ⊢
   have ol:((os.map fun i=>cs.getD i 0).map V.ref).length=fd0.length:=by rw[Za,Za,osl]
   refine⟨_,rfl,Od,_,rfl,.inl (.of (s6 _ _ RO.1)),_,rfl,by rw[ol];omega,by rw[ol];omega,?_⟩
   rw[ol,Zj]
   refine Z8 (fun m σ' H'=>∃v6:Option V,σ'=[some (.ref p),some (.bl gr),some (.ref D),some (.ref Lf),some (.ref Od),some (.ref Nd),v6]/\Same H5 H'/\H' Nd=some (.dT (kvN fd0 os m))) ⟨_,rfl,s6,hN6⟩ ?_ ?_
   ·rintro m σ' H7 hm ⟨v6,rfl,s7,hN7⟩
    rw[show (0:Int)+(m:Int)=(m:Int) by omega]
    have RO7:=RO.mono s7
    obtain⟨c,_,hat,hc⟩:=RO7.get (i:=m) (by rw[Za,osl];exact hm)
    rw[Ud (by omega)] at hc
    refine⟨_,rfl,_,rfl,_,rfl,_,rfl,Od,_,_,_,rfl,rfl,.of RO7.1,hat,Nd,_,rfl,Ji.t (k:=Je (fd0.getD (os.getD m 0) [])) hN7 (by rw[ZeV];exact hc) (by unfold kvN;rw[Za,Zg];omega),?_⟩
    rw[Zgp nd rfl O hm]
    exact⟨_,rfl,s7.updr nNd,Zt⟩
   ·rintro σ' H7 ⟨v6,rfl,s7,hN7⟩
    have RO7:=RO.mono s7
    refine⟨_,rfl,Od,rfl,⟨_,.of RO7.1⟩,?_⟩
    have Ot:Ord (YY fd0).length os:=by rw[ZdT];exact O
    have Pt:PW (VU (YY fd0) os):=ZhE B.pw Ot
    have rl:(VU (YY fd0) os).length=fd0.length:=by rw[VT,osl]
    have rat:∀i,i<fd0.length->(VU (YY fd0) os).getD i []=os.map fun b=>pos os (Zz (YY fd0) (os.getD i 0) b):=fun i hi=>by
     unfold VU
     rw[Zb,Zc,Z0 (show i<os.length by omega)]
     rfl
    refine WN (W:=Addr) id (fun i w H=>Tz H w (((VU (YY fd0) os).getD i []).map nV)) (fun _ _=>True) (Y4 (K:=K) (.of RO7.1)) [some (.ref Nd),some (.ref Od)] rfl (by rw[ol];omega) (fun i w H H' s h=>h.mono s) (fun w H H' s h=>trivial) (fun i w H0 H1 D o ys ys' h h0 h1 h2=>Tz.updL h h2) (fun i y hy H8 s8 R k8=>?_) (fun D8 ws H8 nD8 s8 hD8 wl hw hp=>?_)
    ·obtain⟨c,rfl,hi,hc⟩:=RO7.ref hy
     rw[Za,osl] at hi
     rw[Ud (by omega)] at hc
     have RO8:=RO7.mono s8
     have hoi:=W7 O hi
     refine⟨_,rfl,Od,rfl,⟨_,.of RO8.1⟩,?_⟩
     refine WP (Y4 (K:=K) (.of RO8.1)) [some (.ref Nd),some (.ref c)] rfl (fun j=>nV (pos os (Zz (YY fd0) (os.getD i 0) (os.getD j 0)))) (by rw[ol];omega) (fun j y' hy' H9 s9 R' k9=>?_) (fun D9 H9 nD9 s9 hD9=>?_)
     ·obtain⟨d,rfl,hj,hd⟩:=RO8.ref hy'
      rw[Za,osl] at hj
      rw[Ud (by omega)] at hd
      have hoj:=W7 O hj
      obtain⟨ml,me⟩:=ZiC B.cl hoi hoj
      refine⟨_,rfl,_,rfl,_,rfl,c,d,k,_,_,rfl,(s8.trans s9) _ _ hc,s9 _ _ hd,B.fg _ (Zbp hoi),B.fg _ (Zbp hoj),by omega,fun r HA nr sA hr'=>?_⟩
      have dg:=Wn.t (H:=HA) (k:=Je (W9 (fd0.getD (os.getD i 0) []) (fd0.getD (os.getD j 0) []))) (((s8.trans s9).trans sA) _ _ hN7) (by rw[ZeV];exact hr')
      rw[<-me,Zgo nd rfl O ml] at dg
      exact⟨Nd,_,rfl,dg,k9 HA sA⟩
     ·rw[ol] at hD9
      have e:(List.range fd0.length).map (fun j=>nV (pos os (Zz (YY fd0) (os.getD i 0) (os.getD j 0))))=((VU (YY fd0) os).getD i []).map nV:=by
       rw[rat i hi,<-Zh5 os,List.map_map,osl]
       rfl
      rw[e] at hD9
      exact⟨D9,_,rfl,.of hD9,fun z Hz nz sz' hz=>k8 z Hz (s9.trans sz') hz trivial⟩
    ·refine⟨D8,_,rfl,.inl ⟨.of hD8,fun g ng=>?_⟩⟩
     have s9:=Same.upd (H:=H8) (o:=.tup (ws.map fun w=>V.ref (id w))) ng
     have sX:=(s7.trans s8).trans s9
     refine q g (VU (YY fd0) os) _ (((k1.same s2).trans kk).same sX) ((Tp.mono sX).le (by omega)) ⟨ws,Zt,by rw[wl,ol,rl],fun i r hr=>((hw i r hr).1).mono s9⟩ Pt (by rw[rl];exact B.n60)
end
structure Bl (mg:Str->Option Value):Prop where
 list:mg "list"=none
 len:mg "len"=none
 abs:mg "abs"=none
 range:mg "range"=none
 tuple:mg "tuple"=none
 isi:mg "isinstance"=none
 all:mg "all"=none
 set:mg "set"=none
 repr:mg "repr"=none
 any:mg "any"=none
 int:mg "int"=none
 bool:mg "bool"=none
abbrev ZgV:Stmt:=top 1
def VI (K:PySem.W.Frag):Sp:=fun vs H Q _=>∃(g:Addr) (t:List (List Nat)) (a r:Nat),vs=[.ref g,.int a]/\GT H g t/\PW t/\a<t.length/\Rd t a r/\Q (.int (it t a (r-1):Nat)) H
section
variable {P:Program}{w:World}{K:PySem.W.Frag}{mg:Str->Option Value}{base:Heap}
theorem Zgf {f:Addr}{fd:FuncData}(F:WB K "back" "back" ZgV f fd):Z1 P w K mg base Yc 1 f fd ["group", "a"] (VI K):=by
 refine F.ok (FS (N:=["group", "a"])) (fun vs H Q E h=>?_) (fun cdv A outer s H vs Q E hr h=>?_)
 ·obtain⟨g,t,a,r,rfl,_⟩:=h;rfl
 ·obtain⟨g,t,a,r,rfl,G,Pt,ha,R,q⟩:=h
  refine⟨_,Zv (ZD (Zeq PySem.F.plainAttrs_tuple PySem.F.slot_tuple_index PySem.F.type_tuple_index (ZiY K) (ZF (WF K) (vn 0) (vn 1) (fun _ _=>rfl)) (pc Zx Zs))),?_⟩
  obtain⟨rs,r1,h1,_,h2,h3,h4⟩:=G.at Pt ha
  have hl:=VS Pt ha
  have il:=JY Pt ha (r-1)
  refine⟨_,rfl,_,rfl,g,_,_,_,rfl,rfl,.of h1,h2,⟨_,_,rfl,h3⟩,r1,_,.int 0,it t a (r-1),rfl,rfl,h3.sq,rfl,?_,by rw[Za,hl];exact il,fun z hz=>?_,fun m z hm hz=>?_,q⟩
  ·rw[List.all_eq_true]
   intro z hz
   obtain⟨k,_,rfl⟩:=List.mem_map.mp hz
   rfl
  ·rw[Xu Pt ha il,R.bk] at hz
   cases hz
   decide
  ·have hm':m<t.length:=by omega
   rw[Xu Pt ha hm'] at hz
   cases hz
   have:Zz t a m≠0:=fun z=>by
    have:=R.un m hm' z
    omega
   show decide ((Zz t a m:Int)=0)=false
   exact decide_eq_false (by omega)
end
end C27
namespace Tb
section
variable {t:List (List Nat)}
def JD (t:List (List Nat))(a:Nat):Nat:=((List.range t.length).find? fun b=>Zz t a b == 0).getD 0
theorem Yb (P:PW t){a:Nat}(ha:a<t.length):JD t a<t.length/\Zz t a (JD t a)=0:=by
 obtain⟨r,R⟩:=P.rd a ha
 unfold JD
 cases h:(List.range t.length).find? fun b=>Zz t a b == 0 with
 |none=>
  exfalso
  rw[List.find?_eq_none] at h
  exact h _ (List.mem_range.mpr (JY P ha (r-1))) (by rw[R.bk];rfl)
 |some b=>
  have h1:=List.mem_range.mp (List.mem_of_find?_eq_some h)
  have h2:=List.find?_some h
  exact⟨h1,by simpa using h2⟩
theorem Uz (P:PW t){a r:Nat}(ha:a<t.length)(R:Rd t a r):it t a (r-1)=JD t a:=((R.un _ (Yb P ha).1 (Yb P ha).2)).symm
theorem Zfs (P:PW t){a b:Nat}(ha:a<t.length)(hb:b<t.length)(h:Zz t a b=0):b=JD t a:=by
 obtain⟨r,R⟩:=P.rd a ha
 rw[<-Uz P ha R]
 exact R.un b hb h
theorem ZaO (P:PW t){a:Nat}(ha:a<t.length):Zz t (JD t a) a=0:=by
 obtain⟨h1,h2⟩:=Yb P ha
 obtain⟨h3,h4⟩:=Yb P h1
 have e:a=JD t (JD t a):=by
  have:=P.ass a (JD t a) (JD t (JD t a)) ha h1 h3
  rw[h2,h4,P.one _ h3,P.oneR a ha] at this
  exact this.symm
 conv=>lhs;rw[e]
 rw[<-e]
 conv=>lhs;rw[e]
 rw[<-e]
 rw[show Zz t (JD t a) a=Zz t (JD t a) (JD t (JD t a)) by rw[<-e]]
 exact h4
def tb (t:List (List Nat))(b x:Nat):Nat:=Zz t (Zz t x b) (JD t x)
theorem ZiZ (P:PW t){b x:Nat}(hb:b<t.length)(hx:x<t.length):tb t b x<t.length:=P.lt _ _ (P.lt _ _ hx hb) (Yb P hx).1
theorem ZbO (P:PW t){b:Nat}(hb:b<t.length):tb t b 0=b:=by
 have n1:=P.n1
 have e:JD t 0=0:=(Zfs P (by omega) (by omega) (P.one 0 (by omega))).symm
 unfold tb
 rw[e,P.one b hb,P.oneR b hb]
def YK (t:List (List Nat))(b:Nat):List Nat:=(List.range t.length).filter fun a=>(List.range t.length).any fun x=>tb t b x == a
theorem Y7 (P:PW t){b a:Nat}(hb:b<t.length):a∈YK t b↔∃x,x<t.length/\tb t b x=a:=by
 unfold YK
 rw[List.mem_filter,List.any_eq_true]
 constructor
 ·rintro⟨_,x,hx,e⟩
  exact⟨x,List.mem_range.mp hx,by simpa using e⟩
 ·rintro⟨x,hx,e⟩
  exact⟨List.mem_range.mpr (e▸ZiZ P hb hx),x,List.mem_range.mpr hx,by simpa using e⟩
theorem ZbB {b a:Nat}(h:a∈YK t b):a<t.length:=List.mem_range.mp (List.mem_filter.mp h).1
theorem ZaK (b:Nat):(YK t b).Pairwise (· < ·):=List.Pairwise.sublist List.filter_sublist List.pairwise_lt_range
theorem ZcG (b:Nat):(YK t b).length<=t.length:=by
 have:=List.length_filter_le (fun a=>(List.range t.length).any fun x=>tb t b x == a) (List.range t.length)
 rw[Zg] at this
 exact this
theorem Jy (P:PW t){b:Nat}(hb:b<t.length):b∈YK t b:=(Y7 P hb).mpr ⟨0,by have:=P.n1;omega,ZbO P hb⟩
def ZK (t:List (List Nat)):Nat->List (List Nat)
 |0=>[]
 |k+1=>if (ZK t k).any (·.contains k) then ZK t k else ZK t k++[YK t k]
def YQ (css:List (List Nat))(a:Nat):Bool:=css.any (·.contains a)
theorem Xi (P:PW t):∀k,k<=t.length->∀c∈ZK t k,∃b,b<k/\c=YK t b
 |0,_,c,h=>by cases h
 |k+1,hk,c,h=>by
  unfold ZK at h
  split at h
  ·obtain⟨b,h1,h2⟩:=Xi P k (by omega) c h
   exact⟨b,by omega,h2⟩
  ·rcases List.mem_append.mp h with h|h
   ·obtain⟨b,h1,h2⟩:=Xi P k (by omega) c h
    exact⟨b,by omega,h2⟩
   ·exact⟨k,by omega,List.mem_singleton.mp h⟩
theorem WS:∀k,(ZK t k).length<=k
 |0=>Zq _
 |k+1=>by
  have:=WS k
  unfold ZK
  split
  ·omega
  ·rw[Zd,Zk];omega
end
end Tb
namespace C27
open PySem L2 PySem.Spec PyProof.Rows
open Tb Pm
abbrev Zb2:Stmt:=top 5
abbrev Vi:Stmt:=top 6
abbrev Xr:Stmt:=top 7
abbrev Zef:Stmt:=top 26
abbrev Zjc:Stmt:=top 35
structure ZaS (mg:Str->Option Value):Prop where
 sorted:mg "sorted"=none
 enumerate:mg "enumerate"=none
theorem WZ {ns M:List Int}{c:List Nat}(hp:List.Perm ns M)(hs:ns.Pairwise (· ≤ ·))(hn:M.Nodup)(hm:∀k:Int,k∈M↔∃a∈c,k=(a:Int))(hc:c.Pairwise (· < ·)):ns.map V.int=c.map nV:=by
 have e:ns=c.map fun a:Nat=>(a:Int):=by
  refine PySem.W.lks_uniq (hp.trans ?_) hs ?_
  ·refine (List.perm_ext_iff_of_nodup hn ?_).mpr fun k=>?_
   ·refine List.Pairwise.map _ (fun a b (h:a<b)=>?_) hc
    omega
   ·rw[hm k,List.mem_map]
    exact⟨fun ⟨a,ha,e⟩=>⟨a,ha,e.symm⟩,fun ⟨a,ha,e⟩=>⟨a,ha,e.symm⟩⟩
  ·refine List.Pairwise.map _ (fun a b (h:a<b)=>?_) hc
   omega
 rw[e,List.map_map]
 rfl
def Jm:Sp:=fun vs H Q _=>∃(g:Addr) (t:List (List Nat)) (b x:Nat),vs=[.ref g,.int b,.int x]/\GT H g t/\PW t/\b<t.length/\x<t.length/\Q (.int (tb t b x:Nat)) H
def Xo:Sp:=fun vs H Q _=>∃(g:Addr) (t:List (List Nat)) (b:Nat),vs=[.ref g,.int b]/\GT H g t/\PW t/\b<t.length/\∀r H',Same H H'->H' r=some (.tup ((YK t b).map nV))->Q (.ref r) H'
section
variable {P:Program}{w:World}{K:PySem.W.Frag}{mg:Str->Option Value}{base:Heap}
theorem Zc3 {f:Addr}{fd:FuncData}(F:WB K "turned_by" "turned_by" Zb2 f fd)(GB:Fn P w K mg base Yc 1 "back" ["group", "a"] (VI K)):Z1 P w K mg base Yc 2 f fd ["group", "b", "t"] Jm:=by
 refine F.ok (FS (N:=["group", "b", "t"])) (fun vs H Q E h=>?_) (fun cdv A outer s H vs Q E hr h=>?_)
 ·obtain⟨g,t,b,x,rfl,_⟩:=h;rfl
 ·obtain⟨g,t,b,x,rfl,G,Pt,hb,hx,q⟩:=h
  refine⟨_,Zv (ZD (ZF (WF K) (ZF (WF K) (vn 0) (ZF (WF K) (ZF (WF K) (vn 0) (vn 2) (fun _ _=>rfl)) (vn 1) (fun _ _=>rfl)) (fun _ _=>rfl)) (Y3 GB hr ZE (pc (vn 0) (pc (vn 2) Zs))) (fun _ _=>rfl))),?_⟩
  obtain⟨r,R⟩:=Pt.rd x hx
  obtain⟨rs,r1,h1,_,h2,h3,h4⟩:=G.at Pt hx
  have ml:=Pt.lt _ _ hx hb
  obtain⟨rs',r2,g1,_,g2,g3,g4⟩:=G.at Pt ml
  have q':Q (.int (Zz t (Zz t x b) (it t x (r-1)):Nat)) H:=by rw[Uz Pt hx R];exact q
  exact⟨_,rfl,_,rfl,_,rfl,g,_,_,_,rfl,rfl,.of h1,h2,_,rfl,r1,_,_,_,rfl,rfl,h3.sq,h4 b hb,g,_,_,_,rfl,rfl,.of g1,g2,_,rfl,_,rfl,g,t,x,r,rfl,G,Pt,hx,R,r2,_,_,_,rfl,rfl,g3.sq,g4 _ (JY Pt hx (r-1)),q'⟩
def fTb (t:List (List Nat))(b:Nat):V->V
 | .int z=>nV (tb t b z.toNat)
 |y=>y
theorem Zae {f:Addr}{fd:FuncData}(F:WB K "turnings" "turnings" Vi f fd)(T:Bl mg)(T2:ZaS mg)(GT':Fn P w K mg base Yc 2 "turned_by" ["group", "b", "t"] Jm):Z1 P w K mg base Yc 3 f fd ["group", "b"] Xo:=by
 refine F.ok (FS (N:=["group", "b"])) (fun vs H Q E h=>?_) (fun cdv A outer s H vs Q E hr h=>?_)
 ·obtain⟨g,t,b,rfl,_⟩:=h;rfl
 ·obtain⟨g,t,b,rfl,G,Pt,hb,q⟩:=h
  refine⟨_,Zv (ZD (ct ZG T.tuple (pc (cb (XR rfl) T2.sorted (pc (ct (VB rfl) T.set (pc (cmp ["t"] [0,1] ["t", "group", "b"] rfl (Wt T.range (pc (cb (Yj K) T.len (pc (vn 0) Zs)) Zs)) (fun _ _ _ _ _=>gn 0) (fun _ _ _ _ _=>ZQ)
   (fun _ _ _ _ _=>Y3 GT' hr ZE (pc (vn 1) (pc (vn 2) (pc (vn 0) Zs))))) Zs)) Zs)) Zs))),?_⟩
  have n60:=Pt.n60
  obtain⟨gs,u1,u2,_⟩:=id G
  have el:(gs.map V.ref).length=t.length:=by rw[Za,u2]
  refine⟨_,rfl,g,_,rfl,.inr (.of u1),_,rfl,by rw[el];omega,by rw[el];omega,?_⟩
  rw[el,Zj]
  refine WO (YG 0 t.length) [some (.ref g),some (.int b)] rfl (fTb t b) (by rw[Za,ZY];omega) (fun i x H' hx sm R gg=>?_) (fun D H' hD sm hD'=>?_)
  ·have hi:i<t.length:=by
    have:=(List.getElem?_eq_some_iff.mp hx).1
    rw[Za,ZY] at this
    exact this
   rw[Zc,U2 hi] at hx
   have hx:x=.int (i:Int):=by
    have:=Option.some.inj hx
    rw[<-this,Int.zero_add]
   subst hx
   have fin:=gg H' (Same.refl _)
   exact⟨_,rfl,_,rfl,_,rfl,g,t,b,i,rfl,G.mono sm,Pt,hb,hi,fin⟩
  ·have e1:((Z2 0 t.length).map V.int).map (fTb t b)=((List.range t.length).map fun x=>((tb t b x:Nat):Int)).map V.int:=by
    unfold Z2
    rw[List.map_map,List.map_map,List.map_map]
    refine List.map_congr_left fun i _=>?_
    show nV (tb t b ((0:Int)+(i:Int)).toNat)=V.int _
    rw[Int.zero_add,Zj]
    rfl
   rw[e1] at hD'
   generalize hN:((List.range t.length).map fun x=>((tb t b x:Nat):Int))=N at hD'
   have nl:N.length=t.length:=by rw[<-hN,Za,Zg]
   refine⟨D,N,rfl,.of hD',by omega,fun p1 h1=>?_⟩
   have s1:=Same.upd (o:=UZ P w p1 (WC N N.length)) h1
   have ml:(WC N N.length).length<=N.length:=firstMet_length_le _ _
   refine⟨p1,WC N N.length,rfl,Zt,Wh _ _,by omega,fun l ns h2 hp hs=>?_⟩
   have s2:=Same.upd (o:=.lst (ns.map V.int)) h2
   have e:=WZ (c:=YK t b) hp hs (Wh _ _) (fun k=>?_) (ZaK b)
   ·refine⟨l,_,rfl,.inl ⟨.of Zt,fun r nr=>?_⟩⟩
    exact q r _ (((sm.trans s1).trans s2).trans (Same.upd nr)) (by rw[<-e];exact Zt)
   ·rw[Zcp]
    constructor
    ·rintro⟨j,hj,e⟩
     have hj':j<t.length:=by omega
     refine⟨tb t b j,(Y7 Pt hb).mpr ⟨j,hj',rfl⟩,?_⟩
     rw[<-e,<-hN,Zb,Zc,List.getElem?_range hj']
     rfl
    ·rintro⟨a,ha,rfl⟩
     obtain⟨x,hx,e⟩:=(Y7 Pt hb).mp ha
     refine⟨x,by omega,?_⟩
     rw[<-e,<-hN,Zb,Zc,List.getElem?_range hx]
     rfl
end
structure KS (kvs:List (ZT×V))(ks:List Nat):Prop where
 keys:kvs.map (·.1)=ks.map fun a:Nat=>(Sum.inl (a:Int):ZT)
 nd:ks.Nodup
theorem KS.nil:KS [] []:=⟨rfl,List.nodup_nil⟩
theorem KS.len {kvs:List (ZT×V)}{ks:List Nat}(h:KS kvs ks):kvs.length=ks.length:=by
 have:=congrArg List.length h.keys
 rwa [Za,Za] at this
theorem KS.some {kvs:List (ZT×V)}{ks:List Nat}(h:KS kvs ks)(a:Nat):(Yr kvs (.inl (a:Int))).isSome=ks.contains a:=by
 rw[<-YX]
 have e:(kvs.any fun kv=>decide (kv.1=(.inl (a:Int):ZT)))=(kvs.map (·.1)).any fun k=>decide (k=(.inl (a:Int):ZT)):=by rw[List.any_map];rfl
 rw[e,h.keys,List.any_map]
 by_cases hm:a∈ks
 ·rw[List.contains_iff_mem.mpr hm,List.any_eq_true]
  exact⟨a,hm,by simp⟩
 ·have hc:ks.contains a=false:=by
   cases hc:ks.contains a with
   |false=>rfl
   |true=>exact absurd (List.contains_iff_mem.mp hc) hm
  rw[hc,List.any_eq_false]
  intro b hb z
  have z:=of_decide_eq_true z
  injection z with z
  have:b=a:=by omega
  exact hm (this▸hb)
theorem KS.put {kvs:List (ZT×V)}{ks:List Nat}(h:KS kvs ks)(a:Nat)(v:V):KS (Yt kvs (.inl (a:Int)) v) (if ks.contains a then ks else ks++[a]):=by
 have hs:=h.some a
 by_cases hm:ks.contains a=true
 ·rw[if_pos hm]
  rw[hm] at hs
  refine⟨?_,h.nd⟩
  unfold Yt
  rw[if_pos (by rw[YX];exact hs),List.map_map,<-h.keys]
  refine List.map_congr_left fun kv _=>?_
  show (if kv.1=_ then (kv.1,v) else kv).1=kv.1
  split <;> rfl
 ·rw[if_neg hm]
  have hn:Yr kvs (.inl (a:Int))=none:=by
   cases hv:Yr kvs (.inl (a:Int)) with
   |none=>rfl
   |some x=>rw[hv] at hs;exact absurd hs.symm hm
  rw[Zen v hn]
  refine⟨by rw[List.map_append,List.map_append,h.keys];rfl,?_⟩
  rw[List.nodup_append]
  refine⟨h.nd,by simp,fun b hb c hc z=>hm ?_⟩
  rw[List.mem_singleton.mp hc] at z
  exact List.contains_iff_mem.mpr (z▸hb)
theorem Xa {ks:List Nat}{a b:Nat}:b∈(if ks.contains a then ks else ks++[a])↔b∈ks\/b=a:=by
 split
 ·rename_i h
  exact⟨.inl,fun z=>z.elim id fun e=>by rw[e];exact List.contains_iff_mem.mp h⟩
 ·rw[List.mem_append,List.mem_singleton]
theorem VY (ks:List Nat)(a:Nat):(if ks.contains a then ks else ks++[a]).length<=ks.length+1:=by
 split
 ·omega
 ·rw[Zd,Zk];exact Zq _
theorem KS.merge {kvs:List (ZT×V)}{ks:List Nat}(h:KS kvs ks):∀{more:List (ZT×V)}{ms:List Nat},KS more ms->∃ks',KS (ZU kvs more) ks'/\(∀a,a∈ks'↔a∈ks\/a∈ms)/\ks'.length<=ks.length+ms.length:=by
 intro more
 induction more generalizing kvs ks with
 |nil=>
  intro ms hm
  have:ms=[]:=List.length_eq_zero_iff.mp (by have:=hm.len;simpa using this.symm)
  subst this
  exact⟨ks,h,fun a=>by simp,by simp⟩
 |cons p ps ih=>
  intro ms hm
  cases ms with
  |nil=>exact absurd hm.len (by simp)
  |cons m ms=>
   have hk:=hm.keys
   rw[List.map_cons,List.map_cons] at hk
   injection hk with h1 h2
   have hm':KS ps ms:=⟨h2,(List.nodup_cons.mp hm.nd).2⟩
   have hp:=h.put m p.2
   obtain⟨ks',k1,k2,k3⟩:=ih hp hm'
   refine⟨ks',?_,fun a=>?_,?_⟩
   ·show KS (ZU (Yt kvs p.1 p.2) ps) ks'
    rw[h1]
    exact k1
   ·rw[k2,Xa,List.mem_cons]
    exact⟨fun z=>z.elim (fun z=>z.elim .inl fun e=>.inr (.inl e)) fun z=>.inr (.inr z),fun z=>z.elim (fun z=>.inl (.inl z)) fun z=>z.elim (fun e=>.inl (.inr e)) .inr⟩
   ·have:=VY ks m
    rw[Zi]
    omega
def Vg:Sp:=fun vs H Q _=>∃(g:Addr) (t:List (List Nat)),vs=[.ref g]/\GT H g t/\PW t/\∀c H',Same H H'->CT H' c (ZK t t.length)->Q (.ref c) H'
theorem _root_.Pm.TupsAt.updD {H:Hp}{L D:Addr}{bs:List Addr}{yss:List (List Nat)}{kvs:List (ZT×V)}{o:HO}(hD:H D=some (.dK kvs))(R:TupsAt H L bs yss):TupsAt (upd H D o) L bs yss:=by
 refine⟨?_,R.2.1,fun i b hb=>?_⟩
 ·rw[Zw fun z=>by have:=R.1;rw[z,hD] at this;cases this]
  exact R.1
 ·rw[Zw fun z=>by have:=R.2.2 i b hb;rw[z,hD] at this;cases this]
  exact R.2.2 i b hb
theorem _root_.Pm.TupsAt.last {H:Hp}{L r:Addr}{bs:List Addr}{yss:List (List Nat)}{ys:List Nat}(R:TupsAt H L (bs++[r]) (yss++[ys])):H r=some (.tup (ys.map nV)):=by
 have hl:=R.2.1
 rw[Zd,Zd,Zk,Zk] at hl
 have:=R.2.2 bs.length r (by rw[List.getElem?_append_right (Zq _),Nat.sub_self];rfl)
 rw[Zb,List.getElem?_append_right (by omega),show bs.length-yss.length=0 by omega] at this
 exact this
theorem ZjP {H:Hp}{L c:Addr}{bs:List Addr}{yss:List (List Nat)}(R:TupsAt H L bs yss)(hc:H c=none):CT (upd H c (.tup (bs.map V.ref))) c yss:=⟨bs,Zt,R.2.1,fun i r hr=>Same.upd hc _ _ (R.2.2 i r hr)⟩
section
variable {P:Program}{w:World}{K:PySem.W.Frag}{mg:Str->Option Value}{base:Heap}
theorem Zbm {f:Addr}{fd:FuncData}(F:WB K "classes_of" "classes_of" Xr f fd)(T:Bl mg)(GN:Fn P w K mg base Yc 3 "turnings" ["group", "b"] Xo):Z1 P w K mg base Yc 4 f fd ["group"] Vg:=by
 refine F.ok (FS (N:=["group", "found", "seen", "b", "a"])) (fun vs H Q E h=>?_) (fun cdv A outer s H vs Q E hr h=>?_)
 ·obtain⟨g,t,rfl,_⟩:=h;rfl
 ·obtain⟨g,t,rfl,G,Pt,q⟩:=h
  have hu:(A.deeper (envOfC "classes_of" (ZM Xr) s.heap.objs.size f cdv)).units+1<cLine:=by have:=hr.un;omega
  refine⟨_,Zu (ZH 1 rfl (Ys Zs))
   (Zu (ZH 2 rfl Js)
   (Zu (Yi PassesOwn.never rfl (Wt T.range (pc (cb (Yj K) T.len (pc (vn 0) Zs)) Zs)) (gn 3)
    (Zv (YR (Zbe (JK hu (vn 3) (vn 2)))
     (Zu (Yq (Wg PySem.F.plainAttrs_list PySem.F.slot_list_append PySem.F.type_list_append ZX (vn 1) (pc (Y3 GN hr ZE (pc (vn 0) (pc (vn 3) Zs))) Zs)))
     (Zv (Yi PassesOwn.never rfl (itT K (ZF (ixL K) (vn 1) (Zg3 ZdN Zx) (fun _ _=>rfl))) (gn 4) (Zv (Wu hu (vn 2) (vn 4) JW (by rfl)))))) Z4)))
   (Zv (ZD (ct ZG T.tuple (pc (vn 1) Zs)))))),?_⟩
  have sz:(16777216:Nat)=sizeLine:=by decide
  have n60:=Pt.n60
  refine⟨(by show 0<=sizeLine;decide),fun L nL=>fun D nD=>?_⟩
  have s1:=Same.upd (H:=H) (o:=.lst []) nL
  have s2:=s1.trans (Same.upd (o:=.dK []) nD)
  have nDH:H D=none:=s1.free nD
  obtain⟨gs,u1,u2,_⟩:=id (G.mono s2)
  have el:(gs.map V.ref).length=t.length:=by rw[Za,u2]
  refine⟨_,rfl,g,_,rfl,.inr (.of u1),_,rfl,by rw[el];omega,by rw[el];omega,?_⟩
  rw[el,Zj]
  refine Z8 (fun i σ' H'=>∃(w3 w4:Option V) (bs:List Addr) (kvs:List (ZT×V)) (ks:List Nat),σ'=[some (.ref g),some (.ref L),some (.ref D),w3,w4]/\Same H H'/\TupsAt H' L bs (ZK t i)/\H' D=some (.dK kvs)/\KS kvs ks/\(∀a,a∈ks↔YQ (ZK t i) a=true)/\ks.length<=60*i)
   ⟨_,_,[],[],[],rfl,s2,⟨Same.upd nD _ _ Zt,rfl,fun i b hb=>by cases hb⟩,Zt,.nil,fun a=>⟨fun z=>(by cases z),fun z=>(by cases z)⟩,Zq _⟩ ?_ ?_
  ·rintro i σ' H3 hi ⟨w3,w4,bs,kvs,ks,rfl,s3,R,hD,hK,hks,kl⟩
   rw[show (0:Int)+(i:Int)=(i:Int) by omega]
   refine⟨_,rfl,_,rfl,D,_,rfl,Wn.k (k:=.inl (i:Int)) hD,_,rfl,?_⟩
   have hseen:(Yr kvs (.inl (i:Int))).isSome=YQ (ZK t i) i:=by
    rw[hK.some]
    cases hc:YQ (ZK t i) i with
    |true=>exact List.contains_iff_mem.mpr ((hks i).mpr hc)
    |false=>
     cases hc2:ks.contains i with
     |false=>rfl
     |true=>rw[(hks i).mp (List.contains_iff_mem.mp hc2)] at hc;cases hc
   rw[hseen]
   refine YN (fun h=>?_) (fun h=>?_)
   ·have h:YQ (ZK t i) i=false:=by simpa using h
    have eU:ZK t (i+1)=ZK t i++[YK t i]:=by
     rw[ZK,if_neg (by unfold YQ at h;rw[h];decide)]
    refine⟨_,rfl,.inl ⟨rfl,_,.of R.1⟩,_,rfl,_,rfl,g,t,i,rfl,G.mono s3,Pt,hi,fun r H4 s4 hr4=>?_⟩
    have R4:=R.mono s4
    have bl:=R4.2.1
    have ul:=WS (t:=t) i
    refine⟨L,_,_,rfl,rfl,R4.1,by rw[Za];omega,?_⟩
    have R5:=R4.push hr4
    have hD5:upd H4 L (.lst (bs.map V.ref++[.ref r])) D=some (.dK kvs):=by
     rw[Zw fun z=>by have:=s4 _ _ hD;rw[z,R4.1] at this;cases this]
     exact s4 _ _ hD
    have s5:Same H (upd H4 L (.lst (bs.map V.ref++[.ref r]))):=(s3.trans s4).updr nL
    refine⟨_,rfl,_,rfl,L,_,_,_,rfl,rfl,.of Zt,Zft _ _,r,rfl,⟨_,.of R5.last⟩,?_⟩
    generalize upd H4 L (.lst (bs.map V.ref++[.ref r]))=H5 at R5 hD5 s5 ⊢
    have cl:=ZcG (t:=t) i
    refine Zgv (K:=K) (a:=r) (xs:=(YK t i).map nV) (fun j σ' H'=>∃(w4:Option V) (kvs:List (ZT×V)) (ks':List Nat),σ'=[some (.ref g),some (.ref L),some (.ref D),some (.int (i:Nat)),w4]/\Same H H'/\TupsAt H' L (bs++[r]) (ZK t i++[YK t i])/\H' D=some (.dK kvs)/\KS kvs ks'/\(∀a,a∈ks'↔a∈ks\/a∈(YK t i).take j)/\ks'.length<=60*i+j)
     ⟨_,kvs,ks,rfl,s5,R5,hD5,hK,fun a=>⟨.inl,fun z=>z.elim id fun z=>by rw[List.take_zero] at z;cases z⟩,kl⟩ (fun j σ' H' _ h=>by
      obtain⟨_,_,_,_,_,R',_⟩:=h
      exact .of R'.last) ?_ ?_
    ·rintro j y σ' H6 hy ⟨w4',kvs',ks',rfl,s6,R6,hD6,hK6,hks6,kl6⟩
     obtain⟨k,hk,rfl⟩:=Jd hy
     have hj:j<(YK t i).length:=(List.getElem?_eq_some_iff.mp hk).1
     refine⟨_,rfl,_,rfl,D,_,rfl,Ji.k (k:=.inl (k:Int)) hD6 (by rw[hK6.len];omega),?_⟩
     refine⟨_,_,_,rfl,s6.updr nDH,R6.updD hD6,Zt,hK6.put k (.bl true),fun a=>?_,?_⟩
     ·rw[Xa,hks6,List.take_add_one,hk,List.mem_append]
      show _↔a∈ks\/a∈(YK t i).take j\/a∈[k]
      rw[List.mem_singleton]
      exact⟨fun z=>z.elim (fun z=>z.elim .inl fun z=>.inr (.inl z)) fun z=>.inr (.inr z),fun z=>z.elim (fun z=>.inl (.inl z)) fun z=>z.elim (fun z=>.inl (.inr z)) .inr⟩
     ·have:=VY ks' k
      omega
    ·rintro σ' H6 ⟨w4',kvs',ks',rfl,s6,R6,hD6,hK6,hks6,kl6⟩
     rw[Za] at hks6 kl6
     refine⟨_,_,bs++[r],kvs',ks',rfl,s6,by rw[eU];exact R6,hD6,hK6,fun a=>?_,by omega⟩
     rw[hks6,List.take_length,hks a,eU]
     unfold YQ
     rw[List.any_append,Bool.or_eq_true,List.any_cons,List.any_nil,Bool.or_false,List.contains_iff_mem]
   ·have h:YQ (ZK t i) i=true:=by simpa using h
    have eU:ZK t (i+1)=ZK t i:=by
     rw[ZK,if_pos (by unfold YQ at h;rw[h])]
    exact⟨_,_,bs,kvs,ks,rfl,s3,by rw[eU];exact R,hD,hK,fun a=>by rw[eU];exact hks a,by omega⟩
  ·rintro σ' H3 ⟨w3,w4,bs,kvs,ks,rfl,s3,R,hD,hK,hks,kl⟩
   exact⟨_,rfl,L,_,rfl,.inl ⟨.of R.1,fun c nc=>q c _ (s3.trans (Same.upd nc)) (ZjP R nc)⟩⟩
end
abbrev Zeg:Stmt:=top 24
abbrev U0:Stmt:=top 25
section
variable {P:Program}{w:World}{K:PySem.W.Frag}{mg:Str->Option Value}{base:Heap}
theorem ZeB {f:Addr}{fd:FuncData}(F:WB K "_law_back" "_law_back" Zeg f fd):Z1 P w K mg base Yc 1 f fd ["_law_group_here", "_law_a"] (VI K):=by
 refine F.ok (FS (N:=["_law_group_here", "_law_a"])) (fun vs H Q E h=>?_) (fun cdv A outer s H vs Q E hr h=>?_)
 ·obtain⟨g,t,a,r,rfl,_⟩:=h;rfl
 ·obtain⟨g,t,a,r,rfl,G,Pt,ha,R,q⟩:=h
  refine⟨_,Zv (ZD (Zeq PySem.F.plainAttrs_tuple PySem.F.slot_tuple_index PySem.F.type_tuple_index (ZiY K) (ZF (WF K) (vn 0) (vn 1) (fun _ _=>rfl)) (pc Zx Zs))),?_⟩
  obtain⟨rs,r1,h1,_,h2,h3,h4⟩:=G.at Pt ha
  have hl:=VS Pt ha
  have il:=JY Pt ha (r-1)
  refine⟨_,rfl,_,rfl,g,_,_,_,rfl,rfl,.of h1,h2,⟨_,_,rfl,h3⟩,r1,_,.int 0,it t a (r-1),rfl,rfl,h3.sq,rfl,?_,by rw[Za,hl];exact il,fun z hz=>?_,fun m z hm hz=>?_,q⟩
  ·rw[List.all_eq_true]
   intro z hz
   obtain⟨k,_,rfl⟩:=List.mem_map.mp hz
   rfl
  ·rw[Xu Pt ha il,R.bk] at hz
   cases hz
   decide
  ·have hm':m<t.length:=by omega
   rw[Xu Pt ha hm'] at hz
   cases hz
   have:Zz t a m≠0:=fun z=>by
    have:=R.un m hm' z
    omega
   show decide ((Zz t a m:Int)=0)=false
   exact decide_eq_false (by omega)
theorem Zbl {f:Addr}{fd:FuncData}(F:WB K "_law_turned" "_law_turned" U0 f fd)(GB:Fn P w K mg base Yc 1 "_law_back" ["_law_group_here", "_law_a"] (VI K)):Z1 P w K mg base Yc 2 f fd ["_law_group_here", "_law_thing", "_law_t"] Jm:=by
 refine F.ok (FS (N:=["_law_group_here", "_law_thing", "_law_t"])) (fun vs H Q E h=>?_) (fun cdv A outer s H vs Q E hr h=>?_)
 ·obtain⟨g,t,b,x,rfl,_⟩:=h;rfl
 ·obtain⟨g,t,b,x,rfl,G,Pt,hb,hx,q⟩:=h
  refine⟨_,Zv (ZD (ZF (WF K) (ZF (WF K) (vn 0) (ZF (WF K) (ZF (WF K) (vn 0) (vn 2) (fun _ _=>rfl)) (vn 1) (fun _ _=>rfl)) (fun _ _=>rfl)) (Y3 GB hr ZE (pc (vn 0) (pc (vn 2) Zs))) (fun _ _=>rfl))),?_⟩
  obtain⟨r,R⟩:=Pt.rd x hx
  obtain⟨rs,r1,h1,_,h2,h3,h4⟩:=G.at Pt hx
  have ml:=Pt.lt _ _ hx hb
  obtain⟨rs',r2,g1,_,g2,g3,g4⟩:=G.at Pt ml
  have q':Q (.int (Zz t (Zz t x b) (it t x (r-1)):Nat)) H:=by rw[Uz Pt hx R];exact q
  exact⟨_,rfl,_,rfl,_,rfl,g,_,_,_,rfl,rfl,.of h1,h2,_,rfl,r1,_,_,_,rfl,rfl,h3.sq,h4 b hb,g,_,_,_,rfl,rfl,.of g1,g2,_,rfl,_,rfl,g,t,x,r,rfl,G,Pt,hx,R,r2,_,_,_,rfl,rfl,g3.sq,g4 _ (JY Pt hx (r-1)),q'⟩
def Zd4:Sp:=fun vs H Q _=>∃(g:Addr) (t:List (List Nat)),vs=[.ref g]/\GT H g t/\PW t/\∀L bs H',H L=none->Same H H'->TupsAt H' L bs (ZK t t.length)->Q (.ref L) H'
theorem Zgd {f:Addr}{fd:FuncData}(F:WB K "_law_classes" "_law_classes" Zef f fd)(T:Bl mg)(T2:ZaS mg)(GU:Fn P w K mg base Yc 2 "_law_turned" ["_law_group_here", "_law_thing", "_law_t"] Jm):Z1 P w K mg base Yc 3 f fd ["_law_group_here"] Zd4:=by
 refine F.ok (FS (N:=["_law_group_here", "_law_found", "_law_met", "_law_thing", "_law_row", "_law_t"])) (fun vs H Q E h=>?_) (fun cdv A outer s H vs Q E hr h=>?_)
 ·obtain⟨g,t,rfl,_⟩:=h;rfl
 ·obtain⟨g,t,rfl,G,Pt,q⟩:=h
  have hu:(A.deeper (envOfC "_law_classes" (ZM Zef) s.heap.objs.size f cdv)).units+1<cLine:=by have:=hr.un;omega
  refine⟨_,Zu (ZH 1 rfl (Ys Zs))
   (Zu (ZH 2 rfl Js)
   (Zu (Yi PassesOwn.never rfl (Wt T.range (pc (cb (Yj K) T.len (pc (vn 0) Zs)) Zs)) (gn 3)
    (Zv (YR (Zbe (JK hu (vn 3) (vn 2)))
     (Zu (ZH 4 rfl Js)
     (Zu (Yi PassesOwn.never rfl (Wt T.range (pc (cb (Yj K) T.len (pc (vn 0) Zs)) Zs)) (gn 5)
      (Zv (Wu hu (vn 4) (Y3 GU hr ZE (pc (vn 0) (pc (vn 3) (pc (vn 5) Zs)))) JW (by rfl))))
     (Zu (Yq (ZfZ (vn 2) (vn 4) ⟨rfl,rfl,rfl,rfl⟩))
     (Zv (Yq (Wg PySem.F.plainAttrs_list PySem.F.slot_list_append PySem.F.type_list_append ZX (vn 1) (pc (ct ZG T.tuple (pc (cb (WA rfl) T2.sorted (pc (vn 4) Zs)) Zs)) Zs))))))) Z4)))
   (Zv (ZD (vn 1))))),?_⟩
  have sz:(16777216:Nat)=sizeLine:=by decide
  have n60:=Pt.n60
  obtain⟨gs,u1,u2,_⟩:=id G
  have el:(gs.map V.ref).length=t.length:=by rw[Za,u2]
  refine⟨(by show 0<=sizeLine;decide),fun L nL=>fun D nD'=>?_⟩
  have s4:=Same.upd (H:=H) (o:=.lst []) nL
  have s5:=s4.trans (Same.upd (o:=.dK []) nD')
  have nD:H D=none:=s4.free nD'
  refine⟨_,rfl,g,_,rfl,.inr (.of (s5 _ _ u1)),_,rfl,by rw[el];omega,by rw[el];omega,?_⟩
  rw[el,Zj]
  refine Z8 (fun i σ' H'=>∃(w5 w6 w7:Option V) (bs:List Addr) (kvs:List (ZT×V)) (ks:List Nat),σ'=[some (.ref g),some (.ref L),some (.ref D),w5,w6,w7]/\Same H H'/\TupsAt H' L bs (ZK t i)/\H' D=some (.dK kvs)/\KS kvs ks/\(∀a,a∈ks↔YQ (ZK t i) a=true)/\ks.length<=60*i)
   ⟨_,_,_,[],[],[],rfl,s5,⟨Same.upd nD' _ _ Zt,rfl,fun i b hb=>by cases hb⟩,Zt,.nil,fun a=>⟨fun z=>(by cases z),fun z=>(by cases z)⟩,Zq _⟩ ?_ ?_
  ·rintro i σ' H6 hi ⟨w5,w6,w7,bs,kvs,ks,rfl,s6,R,hD,hK,hks,kl⟩
   rw[show (0:Int)+(i:Int)=(i:Int) by omega]
   refine⟨_,rfl,_,rfl,D,_,rfl,Wn.k (k:=.inl (i:Int)) hD,_,rfl,?_⟩
   have hseen:(Yr kvs (.inl (i:Int))).isSome=YQ (ZK t i) i:=by
    rw[hK.some]
    cases hc:YQ (ZK t i) i with
    |true=>exact List.contains_iff_mem.mpr ((hks i).mpr hc)
    |false=>
     cases hc2:ks.contains i with
     |false=>rfl
     |true=>rw[(hks i).mp (List.contains_iff_mem.mp hc2)] at hc;cases hc
   rw[hseen]
   refine YN (fun h=>?_) (fun h=>?_)
   ·have h:YQ (ZK t i) i=false:=by simpa using h
    have eU:ZK t (i+1)=ZK t i++[YK t i]:=by
     rw[ZK,if_neg (by unfold YQ at h;rw[h];decide)]
    refine fun E nE=>?_
    have s7:=Same.upd (H:=H6) (o:=.dK []) nE
    have hE7:=Zt (H:=H6) (a:=E) (o:=.dK [])
    have nE3:H E=none:=s6.free nE
    have hDE:D≠E:=fun z=>by rw[z,nE] at hD;cases hD
    have hD7:=s7 _ _ hD
    have R7:=R.mono s7
    have s37:=s6.trans s7
    generalize upd H6 E (.dK [])=H7 at s7 hE7 hD7 R7 s37 ⊢
    refine⟨_,rfl,g,_,rfl,.inr (.of (s37 _ _ u1)),_,rfl,by rw[el];omega,by rw[el];omega,?_⟩
    rw[el,Zj]
    refine Z8 (fun j σ' H'=>∃(w7:Option V) (kvr:List (ZT×V)) (ms:List Nat),σ'=[some (.ref g),some (.ref L),some (.ref D),some (.int (i:Nat)),some (.ref E),w7]/\Same H H'/\TupsAt H' L bs (ZK t i)/\H' D=some (.dK kvs)/\H' E=some (.dK kvr)/\KS kvr ms/\(∀a,a∈ms↔∃x,x<j/\tb t i x=a)/\ms.length<=j)
     ⟨_,[],[],rfl,s37,R7,hD7,hE7,.nil,fun a=>⟨fun z=>(by cases z),fun ⟨x,hx,_⟩=>absurd hx (Nat.not_lt_zero _)⟩,Zq _⟩ ?_ ?_
    ·rintro j σ' H8 hj ⟨w7',kvr,ms,rfl,s8,R8,hD8,hE8,hKr,hms,ml⟩
     rw[show (0:Int)+(j:Int)=(j:Int) by omega]
     refine⟨_,rfl,_,rfl,_,rfl,_,rfl,g,t,i,j,rfl,G.mono s8,Pt,hi,hj,E,_,rfl,Ji.k (k:=.inl ((tb t i j:Nat):Int)) hE8 (by rw[hKr.len];omega),?_⟩
     refine⟨_,_,_,rfl,s8.updr nE3,R8.updD hE8,by rw[Zw hDE];exact hD8,Zt,hKr.put (tb t i j) (.bl true),fun a=>?_,?_⟩
     ·rw[Xa,hms]
      constructor
      ·rintro (⟨x,hx,e⟩|e)
       ·exact⟨x,by omega,e⟩
       ·exact⟨j,by omega,e.symm⟩
      ·rintro⟨x,hx,e⟩
       by_cases ej:x=j
       ·right;rw[<-e,ej]
       ·exact .inl ⟨x,by omega,e⟩
     ·have:=VY ms (tb t i j)
      omega
    ·rintro σ' H8 ⟨w7',kvr,ms,rfl,s8,R8,hD8,hE8,hKr,hms,ml⟩
     have hkl:=hK.len
     have hrl:=hKr.len
     refine⟨_,rfl,D,rfl,.inl ⟨_,.inl hD8⟩,_,rfl,E,kvs,kvr,rfl,hDE,hD8,hE8,by rw[hkl,hrl];omega,?_⟩
     obtain⟨ks',hK',hks',kl'⟩:=hK.merge hKr
     have R9:=R8.updD (o:=.dK (ZU kvs kvr)) hD8
     have hE9:upd H8 D (.dK (ZU kvs kvr)) E=some (.dK kvr):=by rw[Zw (Ne.symm hDE)];exact hE8
     have hD9:=Zt (H:=H8) (a:=D) (o:=.dK (ZU kvs kvr))
     have s9:Same H (upd H8 D (.dK (ZU kvs kvr))):=s8.updr nD
     generalize upd H8 D (.dK (ZU kvs kvr))=H9 at R9 hE9 hD9 s9 ⊢
     refine⟨_,rfl,.inl ⟨rfl,_,.of R9.1⟩,_,rfl,E,kvr,ms.map fun a:Nat=>(a:Int),rfl,hE9,?_,by rw[Za];omega,fun l2 ns nl2 hp hs=>?_⟩
     ·rw[hKr.keys,List.map_map]
      rfl
     have hnd:(ms.map fun a:Nat=>(a:Int)).Nodup:=List.Pairwise.map _ (fun a b (hab:a≠b)=>by omega) hKr.nd
     have e:=WZ (c:=YK t i) hp hs hnd (fun k=>?_) (ZaK i)
     ·have s10:=Same.upd (o:=.lst (ns.map V.int)) nl2
      refine⟨l2,_,rfl,.inl ⟨.of Zt,fun r nr=>?_⟩⟩
      have s11:=Same.upd (o:=.tup (ns.map V.int)) nr
      have R11:=R9.mono (s10.trans s11)
      have hr11:upd (upd H9 l2 (.lst (ns.map V.int))) r (.tup (ns.map V.int)) r=some (.tup ((YK t i).map nV)):=by rw[<-e];exact Zt
      have hD11:=(s10.trans s11) _ _ hD9
      have s311:=s9.trans (s10.trans s11)
      have bl:=R11.2.1
      have ul:=WS (t:=t) i
      refine⟨L,_,_,rfl,rfl,R11.1,by rw[Za];omega,?_⟩
      refine⟨_,_,_,bs++[r],_,ks',rfl,s311.updr nL,by rw[eU];exact R11.push hr11,?_,hK',fun a=>?_,by omega⟩
      ·rw[Zw fun z=>by have:=hD11;rw[z,R11.1] at this;cases this]
       exact hD11
      ·rw[hks',hks a,eU]
       unfold YQ
       rw[List.any_append,Bool.or_eq_true,List.any_cons,List.any_nil,Bool.or_false,List.contains_iff_mem,Y7 Pt hi,hms]
     ·rw[List.mem_map]
      constructor
      ·rintro⟨a,ha,rfl⟩
       exact⟨a,(Y7 Pt hi).mpr ((hms a).mp ha),rfl⟩
      ·rintro⟨a,ha,rfl⟩
       exact⟨a,(hms a).mpr ((Y7 Pt hi).mp ha),rfl⟩
   ·have h:YQ (ZK t i) i=true:=by simpa using h
    have eU:ZK t (i+1)=ZK t i:=by
     rw[ZK,if_pos (by unfold YQ at h;rw[h])]
    exact⟨_,_,_,bs,kvs,ks,rfl,s6,by rw[eU];exact R,hD,hK,fun a=>by rw[eU];exact hks a,by omega⟩
  ·rintro σ' H6 ⟨w5,w6,w7,bs,kvs,ks,rfl,s6,R,hD,hK,hks,kl⟩
   exact⟨_,rfl,q L bs H6 nL s6 R⟩
end
end C27
namespace PyS
open PySem PySem.W PyProof.Rows PySem.Calls PyProof.V PySem.Spec
section
variable {prog:Program}{w:World}{A:Around}{R:Result->Shared->Prop}{I:Addr}{fp wr:List Addr}{G:Array GenState->Array GenState->Prop}{n:Nat}{P:Nat->Value->Prop}{St:Nat->Shared->Prop}
variable {prog:Program}{w:World}{A:Around}{E:Value->Shared->Prop}{s:Shared}
end
end PyS
namespace L2
open PySem PySem.Spec PyProof.Rows
section
variable {X:Cx}
end
end L2
namespace Tb
inductive JB (On:Nat->List Nat):Nat->Prop where
 |zero:JB On 0
 |step {a b:Nat} (h:JB On a) (hb:b∈On a):JB On b
section
variable {t:List (List Nat)}{On:Nat->List Nat}{n:Nat}
theorem JB.lt (n1:1<=n)(h:∀a,a<n->∀b∈On a,b<n){x:Nat}(r:JB On x):x<n:=by
 induction r with
 |zero=>exact n1
 |step _ hb ih=>exact h _ ih _ hb
theorem JB.sub {S:List Nat}(h0:0∈S)(hc:∀x∈S,∀y∈On x,y∈S){x:Nat}(r:JB On x):x∈S:=by
 induction r with
 |zero=>exact h0
 |step _ hb ih=>exact hc _ ih _ hb
open Classical in
noncomputable def prtL (n:Nat) (On:Nat->List Nat):List Nat:=(List.range n).filter fun x=>decide (JB On x)
open Classical in
theorem Wv {x:Nat}:x∈prtL n On↔x<n/\JB On x:=by
 unfold prtL
 rw[List.mem_filter,List.mem_range,decide_eq_true_iff]
theorem Xv:(prtL n On).Pairwise (· < ·):=List.Pairwise.sublist List.filter_sublist List.pairwise_lt_range
def onG (t:List (List Nat))(gs:List Nat):Nat->List Nat:=fun a=>gs.map (Zz t a)
theorem Zbk (P:PW t){gs:List Nat}(hg:∀g∈gs,g<t.length):∀a,a<t.length->∀b∈onG t gs a,b<t.length:=fun a ha b hb=>by
 obtain⟨g,hg',rfl⟩:=List.mem_map.mp hb
 exact P.lt _ _ ha (hg g hg')
theorem ZfT (P:PW t){gs:List Nat}(hg:∀g∈gs,g<t.length){a b:Nat}(ra:JB (onG t gs) a)(rb:JB (onG t gs) b):JB (onG t gs) (Zz t a b):=by
 have la:=ra.lt P.n1 (Zbk P hg)
 induction rb with
 |zero=>rw[P.oneR a la];exact ra
 | @step c d rc hd ih=>
  obtain⟨g,hg',rfl⟩:=List.mem_map.mp hd
  have lc:=rc.lt P.n1 (Zbk P hg)
  rw[<-P.ass a c g la lc (hg g hg')]
  exact .step ih (List.mem_map.mpr ⟨g,hg',rfl⟩)
theorem ZeL:∀(n:Nat) (l:List Nat),l.Nodup->(∀x∈l,x<n)->l.length<=n
 |0,l,_,h=>by
  cases l with
  |nil=>exact Zq _
  |cons a r=>exact absurd (h a List.mem_cons_self) (Nat.not_lt_zero _)
 |n+1,l,nd,h=>by
  have h1:=ZeL n (l.filter (· != n)) (nd.sublist List.filter_sublist) fun x hx=>by
   obtain⟨hx,hn⟩:=List.mem_filter.mp hx
   have:=h x hx
   have hn:x≠n:=by simpa using hn
   omega
  have h2:(l.filter (· != n)).length+1 ≥ l.length:=by
   by_cases hm:n∈l
   ·have:l.filter (· != n)=l.erase n:=(nd.erase_eq_filter n).symm
    rw[this,List.length_erase_of_mem hm]
    omega
   ·rw[List.filter_eq_self.mpr fun x hx=>by
     have:x≠n:=fun z=>hm (z▸hx)
     simpa using this]
    omega
  omega
end
end Tb
namespace L2
open PySem PySem.Spec PyProof.Rows
section
variable {M:Model}{A:Around}{E:Value->Shared->Prop}{s₀:Shared}{env:Env}{cl:List (Str×Addr)}
end
section
variable {M:Model}{A:Around}{E:Value->Shared->Prop}{s:Shared}
end
section
variable {X:Cx}
end
section
variable {X:Cx}
end
end L2
namespace C27
open PySem L2 PySem.Spec PyProof.Rows
open Tb Pm
theorem ZeI:∀ns:List Nat,PyData.canLayAll0 (ns.map fun k:Nat=>PyData.int (k:Int))=true
 | []=>rfl
 |n::ns=>ZeI ns
theorem Zh1:∀ns:List Nat,PyData.depthAll (ns.map fun k:Nat=>PyData.int (k:Int))=0
 | []=>rfl
 |n::ns=>by
  show max 0 (PyData.depthAll (ns.map fun k:Nat=>PyData.int (k:Int)))=0
  rw[Zh1 ns]
  rfl
theorem ZfO (ns:List Nat):SeqAt.shaped (.list (ns.map fun k:Nat=>PyData.int (k:Int)))=true:=by
 unfold SeqAt.shaped
 have h1:PyData.canLay0 (.list (ns.map fun k:Nat=>PyData.int (k:Int)))=true:=ZeI ns
 have h2:PyData.depth (.list (ns.map fun k:Nat=>PyData.int (k:Int)))<=64:=by
  show PyData.depthAll (ns.map fun k:Nat=>PyData.int (k:Int))+1<=64
  rw[Zh1 ns]
  omega
 simp only[h1,Bool.true_and,Bool.and_true,decide_eq_true_eq]
 exact h2
structure JT (n:Nat)(On:Nat->List Nat)(fd ln:List Nat)(ex:Nat->Prop):Prop where
 z:0∈fd
 nd:fd.Nodup
 lt:∀x∈fd,x<n
 rch:∀x∈fd,JB On x
 sub:∀x∈ln,x∈fd
 cl:∀x∈fd,x∉ln->¬ex x->∀y∈On x,y∈fd
theorem JT.len {n:Nat}{On:Nat->List Nat}{fd ln:List Nat}{ex:Nat->Prop}(h:JT n On fd ln ex):fd.length<=n:=ZeL n fd h.nd h.lt
theorem JT.add {n:Nat}{On:Nat->List Nat}{fd ln:List Nat}{ex:Nat->Prop}(h:JT n On fd ln ex){y:Nat}(hy:y∉fd)(hl:y<n)(hr:JB On y):JT n On (fd++[y]) (ln++[y]) ex where
 z:=List.mem_append_left _ h.z
 nd:=List.nodup_append.mpr ⟨h.nd,by simp,fun a ha b hb=>by rw[List.mem_singleton.mp hb];rintro rfl;exact hy ha⟩
 lt:=fun x hx=>(List.mem_append.mp hx).elim (h.lt x) fun hx=>by rw[List.mem_singleton.mp hx];exact hl
 rch:=fun x hx=>(List.mem_append.mp hx).elim (h.rch x) fun hx=>by rw[List.mem_singleton.mp hx];exact hr
 sub:=fun x hx=>(List.mem_append.mp hx).elim (fun hx=>List.mem_append_left _ (h.sub x hx)) fun hx=>List.mem_append_right _ hx
 cl:=fun x hx hn he z hz=>by
  rcases List.mem_append.mp hx with hx|hx
  ·exact List.mem_append_left _ (h.cl x hx (fun q=>hn (List.mem_append_left _ q)) he z hz)
  ·exact absurd (List.mem_append_right _ hx) hn
theorem JT.done {n:Nat}{On:Nat->List Nat}{fd:List Nat}(h:JT n On fd [] fun _=>False)(x:Nat):x∈fd↔x∈prtL n On:=by
 constructor
 ·intro hx
  exact Wv.mpr ⟨h.lt x hx,h.rch x hx⟩
 ·intro hx
  exact (Wv.mp hx).2.sub h.z fun x hx=>h.cl x hx (by simp) (fun z=>z)
theorem ZfI {n:Nat}{On:Nat->List Nat}{fd:List Nat}{ns:List Int}(h:JT n On fd [] fun _=>False)(hp:List.Perm ns (fd.map fun a:Nat=>(a:Int)))(hs:ns.Pairwise (· ≤ ·)):ns.map V.int=(prtL n On).map nV:=by
 refine WZ hp hs ?_ (fun k=>?_) Xv
 ·exact List.Pairwise.map _ (fun a b (e:a≠b)=>by omega) h.nd
 ·rw[List.mem_map]
  constructor
  ·rintro⟨a,ha,rfl⟩;exact⟨a,(h.done a).mp ha,rfl⟩
  ·rintro⟨a,ha,rfl⟩;exact⟨a,(h.done a).mpr ha,rfl⟩
abbrev Zec:Stmt:=top 27
def ZbU:Sp:=fun vs H Q _=>∃(g L:Addr) (t:List (List Nat)) (gs:List Nat),vs=[.ref g,.ref L]/\GT H g t/\PW t/\H L=some (.lst (gs.map nV))/\gs.length<=4000/\(∀x∈gs,x<t.length)/\∀r H',Same H H'->Tz H' r ((prtL t.length (onG t gs)).map nV)->Q (.ref r) H'
section
variable {P:Program}{w:World}{K:PySem.W.Frag}{mg:Str->Option Value}{base:Heap}
theorem Zgc {f:Addr}{fd:FuncData}(F:WB K "_law_part" "_law_part" Zec f fd)(T:Bl mg)(T2:ZaS mg):Z1 P w K mg base Yc 1 f fd ["_law_group_here", "_law_things_here"] ZbU:=by
 refine F.ok (FS (N:=["_law_group_here", "_law_things_here", "_law_found", "_law_line", "_law_here", "_law_one", "_law_later"])) (fun vs H Q E h=>?_) (fun cdv A outer s H vs Q E hr h=>?_)
 ·obtain⟨g,L,t,gs,rfl,_⟩:=h;rfl
 ·obtain⟨g,L,t,gs,rfl,G,Pt,hL,gl,glt,q⟩:=h
  have hu:(A.deeper (envOfC "_law_part" (ZM Zec) s.heap.objs.size f cdv)).units+1<cLine:=by have:=hr.un;omega
  refine⟨_,Zu (ZH 2 rfl (Zcg (Jr Zx JW Zce) rfl rfl (by simp) (by decide)))
   (Zu (ZH 3 rfl (Ys (pc Zx Zs)))
   (Zu (Yu PassesOwn.never (ZI (neC K hr.units) (vn 3) (Ys Zs) (ZR _))
    (Zu (ZH 4 rfl (Zes PySem.F.plainAttrs_list PySem.F.slot_list_pop PySem.F.type_list_pop ZeM (vn 3)))
    (Zv (Yi PassesOwn.never rfl (itL K (vn 1)) (gn 5)
     (Zu (ZH 6 rfl (ZF (WF K) (ZF (WF K) (vn 0) (vn 4) (fun _ _=>rfl)) (vn 5) (fun _ _=>rfl)))
     (Zv (YR (Zbe (JK hu (vn 6) (vn 2)))
      (Zu (Wu hu (vn 2) (vn 6) JW (by rfl))
      (Zv (Yq (Wg PySem.F.plainAttrs_list PySem.F.slot_list_append PySem.F.type_list_append ZX (vn 3) (pc (vn 6) Zs))))) Z4)))))))
   (Zv (ZD (ct (ZgL K) T.tuple (pc (cb (WA rfl) T2.sorted (pc (vn 2) Zs)) Zs)))))),?_⟩
  have sz:(16777216:Nat)=sizeLine:=by decide
  have n1:=Pt.n1
  have n60:=Pt.n60
  intro D nD
  refine⟨Zt,[(.inl 0,.bl true)],rfl,(by show 1<=15;decide),?_⟩
  have s1:Same H (upd (upd H D (.dK [])) D (.dK (ZU [] [(.inl 0,.bl true)]))):=Same.upd2 nD
  have hD1:=Zt (H:=upd H D (.dK [])) (a:=D) (o:=.dK (ZU [] [(.inl 0,.bl true)]))
  generalize upd (upd H D (.dK [])) D (.dK (ZU [] [(.inl 0,.bl true)]))=H1 at s1 hD1 ⊢
  have KS0:KS (ZU [] [(Sum.inl 0,V.bl true)]) [0]:=⟨rfl,by simp⟩
  refine⟨(by show 1<=sizeLine;decide),fun Ln nL1=>?_⟩
  have nLn:H Ln=none:=s1.free nL1
  have s2:=s1.trans (Same.upd (o:=.lst [.int 0]) nL1)
  have hD2:=Same.upd (o:=.lst [.int 0]) nL1 _ _ hD1
  have hL2:=Zt (H:=H1) (a:=Ln) (o:=.lst [.int 0])
  generalize upd H1 Ln (.lst [.int 0])=H2 at s2 hD2 hL2 ⊢
  generalize hOn:onG t gs=On at q
  have onlt:∀a,a<t.length->∀b∈On a,b<t.length:=by rw[<-hOn];exact Zbk Pt glt
  have I0:JT t.length On [0] [0] fun _=>False:=⟨by simp,by simp,fun x hx=>by rw[List.mem_singleton.mp hx];exact n1,fun x hx=>by rw[List.mem_singleton.mp hx];exact .zero,fun x hx=>hx,fun x hx hn=>absurd hx hn⟩
  refine Yl (fun m σ' H'=>∃(kvs:List (ZT×V)) (fd ln:List Nat) (v4 v5 v6:Option V),σ'=[some (.ref g),some (.ref L),some (.ref D),some (.ref Ln),v4,v5,v6]/\Same H H'/\H' D=some (.dK kvs)/\KS kvs fd/\H' Ln=some (.lst (ln.map nV))/\JT t.length On fd ln (fun _=>False)/\ln.length<=fd.length/\m=2*(t.length-fd.length)+ln.length)
   (fun σ' H'=>∃(kvs:List (ZT×V)) (fd:List Nat) (v4 v5 v6:Option V),σ'=[some (.ref g),some (.ref L),some (.ref D),some (.ref Ln),v4,v5,v6]/\Same H H'/\H' D=some (.dK kvs)/\KS kvs fd/\JT t.length On fd [] (fun _=>False)) ?hend ⟨_,_,[0],[0],_,_,_,rfl,s2,hD2,KS0,hL2,I0,Zq _,rfl⟩ ?turn
  case hend=>
   rintro σ' H' ⟨kvs,fd,v4,v5,v6,rfl,sm,hD,hK,I⟩
   have fl:=I.len
   refine⟨_,rfl,D,kvs,fd.map fun a:Nat=>(a:Int),rfl,hD,by rw[hK.keys,List.map_map];rfl,by rw[Za];omega,fun l ns nl hp hs=>?_⟩
   refine⟨l,_,rfl,.of Zt,fun r H9 nr s9 hz=>?_⟩
   refine q r _ ((sm.trans (Same.upd nl)).trans s9) ?_
   rw[<-ZfI I hp hs]
   exact hz
  case turn=>
   rintro hend m σ' H' ⟨kvs,fd,ln,v4,v5,v6,rfl,sm,hD,hK,hLn,I,ll,hm⟩
   have fl:=I.len
   refine⟨_,rfl,(by show 0<=sizeLine;decide),fun e0 ne0=>?_⟩
   have sE:=Same.upd (H:=H') (o:=.lst []) ne0
   have hDE:=sE _ _ hD
   have hLE:=sE _ _ hLn
   have smE:=sm.trans sE
   refine⟨_,_,.lst (.of hLE) (Wf ln),.lst (.of Zt) .nil,ZfO ln,rfl,_,rfl,?_⟩
   generalize upd H' e0 (.lst [])=HE at hDE hLE smE ⊢
   rw[Zbx]
   by_cases hz:ln=[]
   ·subst hz
    exact Zdi (by decide) (hend _ _ ⟨kvs,fd,v4,v5,v6,rfl,smE,hDE,hK,I⟩)
   ·have lpos:0<ln.length:=List.length_pos_iff.mpr hz
    refine ZjD (by rw[List.isEmpty_map];cases ln with|nil=>exact absurd rfl hz|cons a r=>rfl) ?_
    obtain⟨ln0,cur,rfl⟩:∃ln0 cur,ln=ln0++[cur]:=⟨ln.dropLast,ln.getLast hz,(List.dropLast_concat_getLast hz).symm⟩
    have hcf:cur∈fd:=I.sub cur (List.mem_append_right _ List.mem_cons_self)
    have hcl:=I.lt cur hcf
    refine⟨_,fun _ _ z=>z,_,rfl,.inl ⟨rfl,_,.of hLE⟩,Ln,_,nV cur,rfl,rfl,hLE,by rw[List.map_append,Zd,Za];show (ln0.map nV++[nV cur])[ln0.length+1-1]?=_;rw[Nat.add_sub_cancel,List.getElem?_append_right (by rw[Za];exact Zq _),Za,Nat.sub_self];rfl,?_⟩
    have edl:((ln0++[cur]).map nV).dropLast=ln0.map nV:=by rw[List.map_append];exact List.dropLast_concat
    rw[edl]
    have hDL:D≠Ln:=fun z=>by rw[z,hLE] at hDE;cases hDE
    have smP:=smE.updr (o:=.lst (ln0.map nV)) nLn
    have hDP:upd HE Ln (.lst (ln0.map nV)) D=some (.dK kvs):=by rw[Zw hDL];exact hDE
    have hLP:=Zt (H:=HE) (a:=Ln) (o:=.lst (ln0.map nV))
    generalize upd HE Ln (.lst (ln0.map nV))=HP at smP hDP hLP ⊢
    have IP:JT t.length On fd ln0 fun x=>x=cur:=⟨I.z,I.nd,I.lt,I.rch,fun x hx=>I.sub x (List.mem_append_left _ hx),fun x hx hn he=>I.cl x hx (fun z=>(List.mem_append.mp z).elim hn fun z=>he (List.mem_singleton.mp z)) (fun z=>z)⟩
    rw[Zd,Zk] at ll hm
    refine⟨_,rfl,L,rfl,⟨_,.of (smP _ _ hL)⟩,?_⟩
    refine Ju (H0:=H) (Y4 (K:=K) (.of hL)) (fun i τ HH=>∃(kvs':List (ZT×V)) (fd' ln':List Nat) (w5 w6:Option V),τ=[some (.ref g),some (.ref L),some (.ref D),some (.ref Ln),some (.int (cur:Nat)),w5,w6]/\Same H HH/\HH D=some (.dK kvs')/\KS kvs' fd'/\HH Ln=some (.lst (ln'.map nV))/\JT t.length On fd' ln' (fun x=>x=cur)/\cur∈fd'/\(∀x∈gs.take i,Zz t cur x∈fd')/\fd.length+ln'.length=fd'.length+ln0.length/\fd.length<=fd'.length)
     ⟨_,fd,ln0,_,_,rfl,smP,hDP,hK,hLP,IP,hcf,fun x hx=>(by cases hx),rfl,Zq _⟩ (fun i τ HH h=>by obtain⟨_,_,_,_,_,_,hs,_⟩:=h;exact hs) ?_ ?_
    ·rintro i y τ H8 hy ⟨kvs',fd',ln',w5,w6,rfl,s8,hD8,hK8,hL8,I8,hc8,hg8,e8,f8⟩
     obtain⟨x,hx,rfl⟩:=Jd hy
     have hxg:=List.mem_of_getElem? hx
     have hxl:=glt x hxg
     obtain⟨rs,r2,g1,_,g2,g3,g4⟩:=(G.mono s8).at Pt hcl
     refine⟨_,rfl,_,rfl,g,_,_,_,rfl,rfl,.of g1,g2,_,rfl,r2,_,_,_,rfl,rfl,g3.sq,g4 x hxl,?_⟩
     have hml:=Pt.lt _ _ hcl hxl
     have hon:Zz t cur x∈On cur:=by rw[<-hOn];exact List.mem_map.mpr ⟨x,hxg,rfl⟩
     have tk:∀z,z∈gs.take (i+1)->z∈gs.take i\/z=x:=fun z hz=>by
      rw[List.take_add_one,hx] at hz
      rcases List.mem_append.mp hz with h|h
      ·exact .inl h
      ·exact .inr (List.mem_singleton.mp h)
     refine⟨_,rfl,_,rfl,D,_,rfl,Wn.k (k:=.inl ((Zz t cur x:Nat):Int)) hD8,_,rfl,?_⟩
     rw[hK8.some]
     have fl8:=I8.len
     refine YN (fun hn=>?_) (fun hn=>?_)
     ·have hn:Zz t cur x∉fd':=fun z=>by
       rw[List.contains_iff_mem.mpr z] at hn
       cases hn
      refine⟨_,rfl,_,rfl,D,_,rfl,Ji.k (k:=.inl ((Zz t cur x:Nat):Int)) hD8 (by rw[hK8.len];omega),?_⟩
      have hDL8:D≠Ln:=hDL
      have hL9:upd H8 D (.dK (Yt kvs' (.inl ((Zz t cur x:Nat):Int)) (.bl true))) Ln=some (.lst (ln'.map nV)):=by rw[Zw (Ne.symm hDL8)];exact hL8
      have s9:Same H (upd H8 D (.dK (Yt kvs' (.inl ((Zz t cur x:Nat):Int)) (.bl true)))):=s8.updr nD
      have hD9:=Zt (H:=H8) (a:=D) (o:=.dK (Yt kvs' (.inl ((Zz t cur x:Nat):Int)) (.bl true)))
      have hK9:=hK8.put (Zz t cur x) (.bl true)
      have ec:fd'.contains (Zz t cur x)=false:=by
       cases q:fd'.contains (Zz t cur x) with
       |false=>rfl
       |true=>exact absurd (List.contains_iff_mem.mp q) hn
      rw[ec,if_neg (by decide)] at hK9
      generalize upd H8 D (.dK (Yt kvs' (.inl ((Zz t cur x:Nat):Int)) (.bl true)))=H9 at hL9 s9 hD9 ⊢
      have I9:=I8.add hn hml (.step (I8.rch cur hc8) hon)
      have fl9:=I9.len
      rw[Zd,Zk] at fl9
      refine⟨_,rfl,.inl ⟨rfl,_,.of hL9⟩,_,rfl,Ln,_,_,rfl,rfl,hL9,by rw[Za];omega,?_⟩
      refine⟨_,fd'++[Zz t cur x],ln'++[Zz t cur x],_,_,rfl,s9.updr nLn,by rw[Zw hDL];exact hD9,hK9,by rw[Zt,List.map_append];rfl,I9,List.mem_append_left _ hc8,fun z hz=>?_,by rw[Zd,Zd];omega,by rw[Zd];omega⟩
      rcases tk z hz with h|h
      ·exact List.mem_append_left _ (hg8 z h)
      ·rw[h];exact List.mem_append_right _ List.mem_cons_self
     ·have hn:Zz t cur x∈fd':=by
       cases q:fd'.contains (Zz t cur x) with
       |true=>exact List.contains_iff_mem.mp q
       |false=>exact absurd (show (!fd'.contains (Zz t cur x))=true by rw[q];rfl) (by simpa using hn)
      refine⟨_,fd',ln',_,_,rfl,s8,hD8,hK8,hL8,I8,hc8,fun z hz=>?_,e8,f8⟩
      rcases tk z hz with h|h
      ·exact hg8 z h
      ·rw[h];exact hn
    ·rintro τ H8 ⟨kvs',fd',ln',w5,w6,rfl,s8,hD8,hK8,hL8,I8,hc8,hg8,e8,f8⟩
     rw[Za,List.take_length] at hg8
     have fl8:=I8.len
     refine⟨2*(t.length-fd'.length)+ln'.length,by omega,kvs',fd',ln',_,_,_,rfl,s8,hD8,hK8,hL8,⟨I8.z,I8.nd,I8.lt,I8.rch,I8.sub,fun x hx hn _=>?_⟩,by omega,rfl⟩
     by_cases hxc:x=cur
     ·rw[hxc,<-hOn]
      intro y hy
      obtain⟨z,hz,rfl⟩:=List.mem_map.mp hy
      exact hg8 z hz
     ·exact I8.cl x hx hn hxc
end
end C27
namespace HT
open PySem PyProof.Rows
open PySem.SeqAt
open PySem.AutoSeq1 (wpAny_loadPart' idx_int)
open PySem.MeetsSeq PySem.MeetsSeq2 PySem.MeetsSeq3
end HT
namespace L2
open PySem PySem.Spec PyProof.Rows
section
variable {X:Cx}
end
end L2
namespace C27
open PySem L2 PySem.Spec PyProof.Rows
open Tb Pm
abbrev ZgS:Stmt:=top 28
def Zd0:Sp:=fun vs H Q _=>∃(p g:Addr) (b:Nat) (t:List (List Nat)),vs=[.ref p,.ref g]/\ZV H p b/\b+100<2 ^ 60/\GT H g t/\PW t/\∀L (gs:List Nat) H',Tk p H H'->ZV H' p (b+3)->H L=none->H' L=some (.lst (gs.map nV))->gs.length<=2->(∀x∈gs,x<t.length)->Q (.ref L) H'
theorem GT.tk {H H':Hp}{p g:Addr}{b:Nat}{t:List (List Nat)}(T:ZV H p b)(d:Tk p H H')(G:GT H g t):GT H' g t:=by
 obtain⟨rs,h1,h2,h3⟩:=G
 refine⟨rs,d.tup T h1,h2,fun i r hr=>?_⟩
 obtain⟨o,e1,e2⟩:=h3 i r hr
 exact⟨o,d _ _ e1 (T.ne e1 fun _ z=>by cases z),e2⟩
theorem GT.len {K:PySem.W.Frag}{H:Hp}{g:Addr}{t:List (List Nat)}(G:GT H g t):∃xs:List V,Wp K H g xs/\xs.length=t.length:=by
 obtain⟨rs,h1,h2,_⟩:=G
 exact⟨_,.of h1,by rw[Za];exact h2⟩
section
variable {P:Program}{w:World}{K:PySem.W.Frag}{mg:Str->Option Value}{base:Heap}
theorem Zga {f:Addr}{fd:FuncData}(F:WB K "_law_some" "_law_some" ZgS f fd)(T:Bl mg)(GK:Fn P w K mg base Yc 1 "_law_pick" ["_law_tape_here", "_law_many"] JG):Z1 P w K mg base Yc 2 f fd ["_law_tape_here", "_law_group_here"] Zd0:=by
 refine F.ok (FS (N:=["_law_tape_here", "_law_group_here"])) (fun vs H Q E h=>?_) (fun cdv A outer s H vs Q E hr h=>?_)
 ·obtain⟨p,g,b,t,rfl,_⟩:=h;rfl
 ·obtain⟨p,g,b,t,rfl,T0,hb,G,Pt,q⟩:=h
  refine⟨_,Zv (ZD (cmp ["_law_k"] [1,0] ["_law_k", "_law_group_here", "_law_tape_here"] rfl (Wt T.range (pc (Y3 GK hr ZE (pc (vn 0) (pc Zx Zs))) Zs)) (fun _ _ _ _ _=>gn 0) (fun _ _ _ _ _=>ZQ)
   (fun _ _ _ _ _=>Y3 GK hr ZE (pc (vn 2) (pc (cb (Yj K) (by exact T.len) (pc (vn 1) Zs)) Zs))))),?_⟩
  have n1:=Pt.n1
  have n60:=Pt.n60
  refine⟨_,rfl,p,3,b,rfl,T0,by omega,by decide,by decide,fun r H1 a0 a1 k1 T1=>?_⟩
  obtain⟨j,rfl⟩:=Int.eq_ofNat_of_zero_le a0
  have hj:j<3:=by omega
  have G1:=GT.tk T0 k1 G
  refine⟨_,rfl,by omega,by omega,?_⟩
  rw[Zj]
  have rl:((Z2 0 j).map V.int).length=j:=by rw[Za,ZY]
  refine Jx (xs:=(Z2 0 j).map V.int) (fun D i ys H'=>Tk p H1 H'/\ZV H' p (b+1+i)/\∃gs:List Nat,ys=gs.map nV/\gs.length=i/\∀x∈gs,x<t.length) [some (.ref g),some (.ref p)] rfl (by rw[rl];omega) ?_ ?_ ?_ ?_
  ·intro D i ys H' hD hD' _
   have S:=YG (H:=H') 0 j
   exact⟨fun hi=>⟨S.go i H' (Same.refl _) hi,fun x H3' y=>S.yld i H' x H3' (Same.refl _) hi y⟩,fun e=>e▸S.stop H' (Same.refl _)⟩
  ·intro D hD
   exact⟨Tk.of (Same.upd hD),T1.mono (Same.upd hD),[],rfl,rfl,fun x hx=>by cases hx⟩
  ·rintro D i y ys H' hD hD' hy ⟨kD,TD,gs,rfl,gl,glt⟩ R k
   obtain⟨xs,h1,h2⟩:=GT.len (K:=K) (GT.tk T1 kD G1)
   refine⟨_,rfl,_,rfl,g,xs,rfl,.inr h1,p,_,_,rfl,TD,by have:=(List.getElem?_eq_some_iff.mp hy).1;omega,by omega,by omega,fun r5 H5 c0 c1 k5 T5=>?_⟩
   rw[h2] at c1
   obtain⟨x,rfl⟩:=Int.eq_ofNat_of_zero_le c0
   have nD:=T1.neN hD
   refine k _ H5 (k5 _ _ hD' nD) ⟨?_,?_,gs++[x],by rw[List.map_append];rfl,by rw[Zd,gl];rfl,fun z hz=>?_⟩
   ·intro b' o e ne
    rw[Zw fun z=>by rw[z,hD] at e;cases e]
    exact (kD.trans k5) b' o e ne
   ·obtain⟨c,l,m,h1,h2⟩:=T5
    exact⟨c,l,m,by rw[Zw (Ne.symm nD)];exact h1,h2⟩
   ·rcases List.mem_append.mp hz with h|h
    ·exact glt z h
    ·rw[List.mem_singleton.mp h];omega
  ·rintro D ys H5 hD hD' hyl ⟨kD,TD,gs,rfl,gl,glt⟩
   rw[rl] at *
   refine q D gs H5 (k1.trans kD) (TD.le (by omega)) ?_ hD' (by omega) glt
   cases e:H D with
   |none=>rfl
   |some o=>have:=k1 D o e (T1.neN hD);rw[hD] at this;cases this
end
end C27
namespace Tb
structure Sub (t:List (List Nat))(o:List Nat):Prop where
 n1:1<=o.length
 nd:o.Nodup
 lt:∀v∈o,v<t.length
 z:o.getD 0 0=0
 cl:∀a∈o,∀b∈o,Zz t a b∈o
section
variable {t:List (List Nat)}{o:List Nat}
theorem ZkI (P:PW t){x u v:Nat}(hx:x<t.length)(hu:u<t.length)(hv:v<t.length)(h:Zz t x u=Zz t x v):u=v:=by
 have hb:=(Yb P hx).1
 have e:∀w,w<t.length->Zz t (JD t x) (Zz t x w)=w:=fun w hw=>by
  rw[<-P.ass _ _ _ hb hx hw,ZaO P hx,P.one w hw]
 rw[<-e u hu,<-e v hv,h]
theorem ZgQ {v:Nat}(hm:v∈o):pos o v<o.length/\o.getD (pos o v) 0=v:=by
 have h1:o.findIdx (· == v)<o.length:=List.findIdx_lt_length_of_exists ⟨v,hm,by simp⟩
 refine⟨h1,?_⟩
 have h2:=List.findIdx_getElem (w:=h1)
 have h3:o[o.findIdx (· == v)]=v:=by simpa using h2
 unfold pos
 rw[Zb,Zf h1]
 exact h3
theorem Zhw {i:Nat}(hi:i<o.length):o.getD i 0∈o:=List.mem_of_getElem? (Z0 hi)
theorem Zd7 (nd:o.Nodup){i j:Nat}(hi:i<o.length)(hj:j<o.length)(e:o.getD i 0=o.getD j 0):i=j:=by
 have h1:=Z0 (o:=o) hi
 have h2:=Z0 (o:=o) hj
 rw[e] at h1
 exact (List.getElem?_inj hi nd).mp (h1.trans h2.symm)
end
section
variable {t:List (List Nat)}{o o2:List Nat}
theorem Zdl {l:List Nat}(hs:l.Pairwise (· < ·))(h0:0∈l):l.getD 0 0=0:=by
 cases l with
 |nil=>cases h0
 |cons x r=>
  show x=0
  rcases List.mem_cons.mp h0 with h|h
  ·exact h.symm
  ·have:=(List.pairwise_cons.mp hs).1 0 h
   omega
theorem ZfK {l:List Nat}(hs:l.Pairwise (· < ·)):l.Nodup:=List.Pairwise.imp (fun h=>Nat.ne_of_lt h) hs
theorem ZbQ (P:PW t){gs:List Nat}(hg:∀g∈gs,g<t.length):Sub t (prtL t.length (onG t gs)):=by
 have h0:0∈prtL t.length (onG t gs):=Wv.mpr ⟨P.n1,.zero⟩
 refine⟨List.length_pos_of_mem h0,ZfK Xv,fun v hv=>(Wv.mp hv).1,Zdl Xv h0,fun a ha b hb=>?_⟩
 obtain⟨la,ra⟩:=Wv.mp ha
 obtain⟨lb,rb⟩:=Wv.mp hb
 exact Wv.mpr ⟨P.lt _ _ la lb,ZfT P hg ra rb⟩
theorem range_getD {n i:Nat}(h:i<n):(List.range n).getD i 0=i:=by
 rw[Zb,List.getElem?_range h];rfl
theorem JE (P:PW t):Sub t (List.range t.length):=
 ⟨by rw[Zg];exact P.n1,List.nodup_range,fun v hv=>List.mem_range.mp hv,range_getD P.n1,fun a ha b hb=>List.mem_range.mpr (P.lt _ _ (List.mem_range.mp ha) (List.mem_range.mp hb))⟩
end
end Tb
namespace C27
open PySem L2 PySem.Spec PyProof.Rows
open Tb Pm
abbrev ZgW:Stmt:=top 29
def Zd5:Sp:=fun vs H Q _=>∃(p g:Addr) (b:Nat) (t:List (List Nat)),vs=[.ref p,.ref g]/\ZV H p b/\b+100<2 ^ 60/\GT H g t/\PW t/\∀r (gs:List Nat) H',Tk p H H'->ZV H' p (b+3)->(∀x∈gs,x<t.length)->Tz H' r ((prtL t.length (onG t gs)).map nV)->Q (.ref r) H'
section
variable {P:Program}{w:World}{K:PySem.W.Frag}{mg:Str->Option Value}{base:Heap}
theorem Zgg {f:Addr}{fd:FuncData}(F:WB K "_law_any_part" "_law_any_part" ZgW f fd)(GS:Fn P w K mg base Yc 2 "_law_some" ["_law_tape_here", "_law_group_here"] Zd0)(GL:Fn P w K mg base Yc 1 "_law_part" ["_law_group_here", "_law_things_here"] ZbU):Z1 P w K mg base Yc 3 f fd ["_law_tape_here", "_law_group_here"] Zd5:=by
 refine F.ok (FS (N:=["_law_tape_here", "_law_group_here"])) (fun vs H Q E h=>?_) (fun cdv A outer s H vs Q E hr h=>?_)
 ·obtain⟨p,g,b,t,rfl,_⟩:=h;rfl
 ·obtain⟨p,g,b,t,rfl,T0,hb,G,Pt,q⟩:=h
  refine⟨_,Zv (ZD (Y3 GL hr ZE (pc (vn 1) (pc (Y3 GS hr ZE (pc (vn 0) (pc (vn 1) Zs))) Zs)))),?_⟩
  exact⟨_,rfl,_,rfl,_,rfl,p,g,b,t,rfl,T0,hb,G,Pt,fun L gs H1 k1 T1 nL hL gl glt=>⟨g,L,t,gs,rfl,GT.tk T0 k1 G,Pt,hL,by omega,glt,fun r H2 s2 hr2=>q r gs H2 (k1.trans (.of s2)) (T1.mono s2) glt hr2⟩⟩
end
end C27
namespace L2
open PySem PySem.Spec PyProof.Rows
section
variable {X:Cx}
end
def TT2 (H:Hp)(a:Addr)(ys:List V):Prop:=H a=some (.tup ys)\/Tz H a ys
theorem TT2.sq {K:PySem.W.Frag}{H:Hp}{a:Addr}{ys:List V}(h:TT2 H a ys):Wp K H a ys:=h.elim (fun h=>.of h) fun h=>h.sq
theorem TT2.mono {H H':Hp}{a:Addr}{ys:List V}(s:Same H H')(h:TT2 H a ys):TT2 H' a ys:=h.elim (fun h=>.inl (s _ _ h)) fun h=>.inr (h.mono s)
end L2
namespace Tb
section
variable {t:List (List Nat)}{o:List Nat}
theorem ZgC (P:PW t){a b:Nat}(ha:a<t.length)(hb:b<t.length):JD t (Zz t a b)=Zz t (JD t b) (JD t a):=by
 have la:=(Yb P ha).1
 have lb:=(Yb P hb).1
 refine (Zfs P (P.lt _ _ ha hb) (P.lt _ _ lb la) ?_).symm
 rw[<-P.ass _ _ _ (P.lt _ _ ha hb) lb la,P.ass _ _ _ ha hb lb,(Yb P hb).2,P.oneR a ha,(Yb P ha).2]
theorem Za1 (P:PW t){b x y:Nat}(hb:b<t.length)(hx:x<t.length)(hy:y<t.length):tb t b (Zz t x y)=tb t (tb t b y) x:=by
 have lx:=(Yb P hx).1
 have ly:=(Yb P hy).1
 unfold tb
 rw[ZgC P hx hy,P.ass x y b hx hy hb,P.ass x _ _ hx (P.lt _ _ hy hb) (P.lt _ _ ly lx),<-P.ass _ _ _ (P.lt _ _ hy hb) ly lx,<-P.ass x _ _ hx (P.lt _ _ (P.lt _ _ hy hb) ly) lx]
theorem ZfD (P:PW t){b x:Nat}(hb:b<t.length)(hx:x<t.length):tb t (tb t b x) (JD t x)=b:=by
 rw[<-Za1 P hb (Yb P hx).1 hx,ZaO P hx,ZbO P hb]
end
end Tb
namespace Tb
open Pm
theorem gD {α:Type}{l:List (List α)}{i:Nat}(h:i<l.length):l[i]?=some (l.getD i []):=by
 rw[Zb,Zf h];rfl
theorem gN {l:List Nat}{i:Nat}(h:i<l.length):l[i]?=some (l.getD i 0):=by
 rw[Zb,Zf h];rfl
def Vn (n m:Nat)(f:Nat->Nat->Nat):List (List Nat):=(List.range n).map fun a=>(List.range m).map fun i=>f a i
section
variable {n m:Nat}{f g:Nat->Nat->Nat}
theorem Zco:(Vn n m f).length=n:=by unfold Vn;rw[Za,Zg]
theorem Zcn {a:Nat}(ha:a<n):(Vn n m f).getD a []=(List.range m).map fun i=>f a i:=by
 unfold Vn
 rw[Zb,Zc,List.getElem?_range ha]
 rfl
theorem ZeN {a:Nat}(ha:a<n):((Vn n m f).getD a []).length=m:=by rw[Zcn ha,Za,Zg]
theorem JM {a i:Nat}(ha:a<n)(hi:i<m):Zz (Vn n m f) a i=f a i:=by
 unfold Zz
 rw[Zcn ha,Zb,Zc,List.getElem?_range hi]
 rfl
theorem ZfR {r s:List Nat}(hl:r.length=s.length)(h:∀i,i<r.length->r.getD i 0=s.getD i 0):r=s:=by
 refine List.ext_getElem? fun i=>?_
 by_cases hi:i<r.length
 ·rw[gN hi,gN (by omega),h i hi]
 ·rw[List.getElem?_eq_none (by omega),List.getElem?_eq_none (by omega)]
end
structure Dd (t:List (List Nat))(m:Nat)(ds:List (List Nat)):Prop where
 m1:1<=m
 len:ds.length=t.length
 rl:∀a,a<t.length->(ds.getD a []).length=m
 lt:∀a i,a<t.length->i<m->Zz ds a i<m
 one:∀i,i<m->Zz ds 0 i=i
 go:∀a b i,a<t.length->b<t.length->i<m->Zz ds (Zz t a b) i=Zz ds a (Zz ds b i)
section
variable {t:List (List Nat)}{m m2:Nat}{ds es:List (List Nat)}
theorem Dd.inj (P:PW t)(D:Dd t m ds){a i j:Nat}(ha:a<t.length)(hi:i<m)(hj:j<m)(h:Zz ds a i=Zz ds a j):i=j:=by
 have hb:=Yb P ha
 have key:∀k,k<m->Zz ds (JD t a) (Zz ds a k)=k:=fun k hk=>by
  rw[<-D.go _ _ _ hb.1 ha hk,ZaO P ha,D.one k hk]
 rw[<-key i hi,<-key j hj,h]
theorem Dd.of {f:Nat->Nat->Nat}(P:PW t)(m1:1<=m)(lt:∀a i,a<t.length->i<m->f a i<m)(one:∀i,i<m->f 0 i=i)(go:∀a b i,a<t.length->b<t.length->i<m->f (Zz t a b) i=f a (f b i)):Dd t m (Vn t.length m f) where
 m1:=m1
 len:=Zco
 rl:=fun a ha=>ZeN ha
 lt:=fun a i ha hi=>by rw[JM ha hi];exact lt a i ha hi
 one:=fun i hi=>by rw[JM P.n1 hi];exact one i hi
 go:=fun a b i ha hb hi=>by
  rw[JM (P.lt a b ha hb) hi,JM hb hi,JM ha (lt b i hb hi)]
  exact go a b i ha hb hi
def bsF (m:Nat)(ds es:List (List Nat))(a i:Nat):Nat:=if i<m then Zz ds a i else m+Zz es a (i-m)
theorem Zit (P:PW t)(D:Dd t m ds)(E:Dd t m2 es):Dd t (m+m2) (Vn t.length (m+m2) (bsF m ds es)):=by
 have m1:=D.m1
 refine Dd.of P (by omega) (fun a i ha hi=>?_) (fun i hi=>?_) fun a b i ha hb hi=>?_
 ·unfold bsF
  split
  ·rename_i h;have:=D.lt a i ha h;omega
  ·have:=E.lt a (i-m) ha (by omega);omega
 ·unfold bsF
  split
  ·rename_i h;exact D.one i h
  ·rw[E.one (i-m) (by omega)];omega
 ·unfold bsF
  by_cases h:i<m
  ·rw[if_pos h,if_pos h,if_pos (D.lt b i hb h)]
   exact D.go a b i ha hb h
  ·rw[if_neg h,if_neg h,if_neg (by omega),show m+Zz es b (i-m)-m=Zz es b (i-m) by omega,E.go a b _ ha hb (by omega)]
def orF (os:List Nat)(ds:List (List Nat))(a k:Nat):Nat:=os.getD (Zz ds a (pos os k)) 0
theorem Zis (P:PW t)(D:Dd t m ds){os:List Nat}(hp:os.Perm (List.range m)):Dd t m (Vn t.length m (orF os ds)):=by
 have ol:os.length=m:=by rw[hp.length_eq,Zg]
 have mem:∀{k},k<m->k∈os:=fun {k} hk=>hp.mem_iff.mpr (List.mem_range.mpr hk)
 have onm:os.Nodup:=hp.nodup_iff.mpr List.nodup_range
 have lt:∀{i},i<m->os.getD i 0<m:=fun {i} hi=>List.mem_range.mp (hp.mem_iff.mp (List.mem_of_getElem? (gN (by omega))))
 have ps:∀{k},k<m->pos os k<m/\os.getD (pos os k) 0=k:=fun {k} hk=>by
  have:=ZgQ (mem hk)
  exact⟨by omega,this.2⟩
 have pi:∀{i},i<m->pos os (os.getD i 0)=i:=fun {i} hi=>by
  have:=ps (lt hi)
  exact Zd7 onm (by omega) (by omega) this.2
 refine Dd.of P D.m1 (fun a i ha hi=>lt (D.lt a _ ha (ps hi).1)) (fun i hi=>?_) fun a b i ha hb hi=>?_
 ·unfold orF
  rw[D.one _ (ps hi).1]
  exact (ps hi).2
 ·unfold orF
  rw[pi (D.lt b _ hb (ps hi).1),D.go a b _ ha hb (ps hi).1]
structure Sd (t:List (List Nat))(m:Nat)(rss:List (List Nat))(num:Nat->Nat):Prop where
 m1:1<=m
 len:rss.length=m
 ne:∀k,k<m->rss.getD k []≠[]
 mem:∀k x,k<m->(x∈rss.getD k []↔x<t.length/\num x=k)
 lt:∀x,x<t.length->num x<m
 go:∀a x y,a<t.length->x<t.length->y<t.length->num x=num y->num (Zz t a x)=num (Zz t a y)
def sdF (t rss:List (List Nat))(num:Nat->Nat)(a k:Nat):Nat:=num (Zz t a ((rss.getD k []).getD 0 0))
theorem Sd.rep {rss:List (List Nat)}{num:Nat->Nat}(S:Sd t m rss num){k:Nat}(hk:k<m):(rss.getD k []).getD 0 0<t.length/\num ((rss.getD k []).getD 0 0)=k:=by
 have h0:0<(rss.getD k []).length:=List.length_pos_iff.mpr (S.ne k hk)
 exact (S.mem k _ hk).mp (List.mem_of_getElem? (gN h0))
theorem ZbA (P:PW t){rss:List (List Nat)}{num:Nat->Nat}(S:Sd t m rss num):Dd t m (Vn t.length m (sdF t rss num)):=by
 refine Dd.of P S.m1 (fun a i ha hi=>S.lt _ (P.lt _ _ ha (S.rep hi).1)) (fun i hi=>?_) fun a b i ha hb hi=>?_
 ·unfold sdF
  rw[P.one _ (S.rep hi).1]
  exact (S.rep hi).2
 ·unfold sdF
  have r:=(S.rep hi).1
  have hx:=P.lt b _ hb r
  have hk:=S.lt _ hx
  rw[P.ass a b _ ha hb r]
  exact S.go a _ _ ha hx (S.rep hk).1 (S.rep hk).2.symm
end
end Tb
namespace Tb
section
variable {t:List (List Nat)}{o:List Nat}
theorem sub_zero (S:Sub t o):0∈o:=by
 have:=Zhw (o:=o) S.n1
 rw[S.z] at this
 exact this
theorem Ziy (P:PW t)(S:Sub t o){a:Nat}(ha:a∈o):JD t a∈o:=by
 obtain⟨r,R⟩:=P.rd a (S.lt a ha)
 rw[<-Uz P (S.lt a ha) R]
 have:∀k,it t a k∈o:=fun k=>by
  induction k with
  |zero=>exact sub_zero S
  |succ k ih=>exact S.cl _ ih _ ha
 exact this _
end
end Tb
namespace Tb
open Pm
section
variable {t:List (List Nat)}{o:List Nat}
def sC (t:List (List Nat))(o:List Nat)(a:Nat):List Nat:=(List.range t.length).filter fun x=>(o.map (Zz t a)).contains x
theorem WJ {a x:Nat}:x∈sC t o a↔x<t.length/\∃h∈o,Zz t a h=x:=by
 unfold sC
 rw[List.mem_filter,List.mem_range,List.contains_iff_mem,List.mem_map]
theorem ZfQ (a:Nat):(sC t o a).Pairwise (· < ·):=List.Pairwise.sublist List.filter_sublist List.pairwise_lt_range
theorem VR (P:PW t)(S:Sub t o){a:Nat}(ha:a<t.length):a∈sC t o a:=WJ.mpr ⟨ha,0,sub_zero S,P.oneR a ha⟩
theorem ZgU (P:PW t)(S:Sub t o){a x:Nat}(ha:a<t.length)(h:x∈sC t o a):sC t o x=sC t o a:=by
 obtain⟨hx,k,hk,rfl⟩:=WJ.mp h
 have kl:=S.lt k hk
 unfold sC
 refine List.filter_congr fun y hy=>?_
 have key:(o.map (Zz t (Zz t a k))).contains y=true↔(o.map (Zz t a)).contains y=true:=by
  rw[List.contains_iff_mem,List.contains_iff_mem,List.mem_map,List.mem_map]
  constructor
  ·rintro⟨j,hj,rfl⟩
   exact⟨Zz t k j,S.cl k hk j hj,(P.ass a k j ha kl (S.lt j hj)).symm⟩
  ·rintro⟨j,hj,rfl⟩
   have hb:=Ziy P S hk
   have bl:=S.lt _ hb
   refine⟨Zz t (JD t k) j,S.cl _ hb j hj,?_⟩
   rw[P.ass a k _ ha kl (P.lt _ _ bl (S.lt j hj)),<-P.ass k _ j kl bl (S.lt j hj),(Yb P kl).2,P.one j (S.lt j hj)]
 cases e:(o.map (Zz t a)).contains y with
 |true=>exact key.mpr e
 |false=>
  cases e2:(o.map (Zz t (Zz t a k))).contains y with
  |false=>rfl
  |true=>rw[key.mp e2] at e;cases e
def Ya (t:List (List Nat))(o:List Nat):Nat->List (List Nat)
 |0=>[]
 |i+1=>if (Ya t o i).contains (sC t o i) then Ya t o i else Ya t o i++[sC t o i]
theorem Jv:∀i,∀r∈Ya t o i,∃a,a<i/\r=sC t o a
 |0,r,h=>by cases h
 |i+1,r,h=>by
  unfold Ya at h
  split at h
  ·obtain⟨a,ha,e⟩:=Jv i r h
   exact⟨a,by omega,e⟩
  ·rcases List.mem_append.mp h with h|h
   ·obtain⟨a,ha,e⟩:=Jv i r h
    exact⟨a,by omega,e⟩
   ·exact⟨i,by omega,List.mem_singleton.mp h⟩
theorem ZaI:∀i a,a<i->sC t o a∈Ya t o i
 |i+1,a,h=>by
  unfold Ya
  by_cases e:a=i
  ·subst e
   split
   ·rename_i h2;exact List.contains_iff_mem.mp h2
   ·exact List.mem_append_right _ List.mem_cons_self
  ·have:=ZaI i a (by omega)
   split
   ·exact this
   ·exact List.mem_append_left _ this
theorem Uu:∀i,(Ya t o i).Nodup
 |0=>List.nodup_nil
 |i+1=>by
  unfold Ya
  split
  ·exact Uu i
  ·rename_i h
   refine List.nodup_append.mpr ⟨Uu i,by simp,fun a ha b hb e=>h ?_⟩
   rw[List.mem_singleton.mp hb] at e
   exact List.contains_iff_mem.mpr (e▸ha)
theorem Jw:∀i,(Ya t o i).length<=i
 |0=>Zq _
 |i+1=>by
  unfold Ya
  have:=Jw i
  split
  ·omega
  ·rw[Zd,Zk];omega
theorem Zfl (P:PW t):(Ya t (List.range t.length) t.length).length=1:=by
 have S:=JE P
 have h0:∀a,a<t.length->sC t (List.range t.length) a=sC t (List.range t.length) 0:=fun a ha=>
  ZgU P S P.n1 (WJ.mpr ⟨ha,a,List.mem_range.mpr ha,P.one a ha⟩)
 have key:∀i,i<=t.length->Ya t (List.range t.length) i=if i=0 then [] else [sC t (List.range t.length) 0]:=fun i=>by
  induction i with
  |zero=>intro _;rfl
  |succ i ih=>
   intro hi
   rw[if_neg (Nat.succ_ne_zero i)]
   show (if (Ya t _ i).contains _ then _ else _)=_
   rw[ih (by omega),h0 i (by omega)]
   by_cases e:i=0
   ·rw[if_pos e];rfl
   ·rw[if_neg e,if_pos (by simp)]
 have n1:=P.n1
 rw[key _ (Zq _),if_neg (by omega)]
 rfl
theorem Zh2 {α:Type}{l:List α}(nd:l.Nodup){i j:Nat}(hi:i<l.length)(hj:j<l.length)(e:l[i]=l[j]):i=j:=by
 rw[List.nodup_iff_pairwise_ne,List.pairwise_iff_getElem] at nd
 rcases Nat.lt_trichotomy i j with h|h|h
 ·exact absurd e (nd i j hi hj h)
 ·exact h
 ·exact absurd e.symm (nd j i hj hi h)
def Y0 (rss:List (List Nat))(x:Nat):Nat:=rss.findIdx (·.contains x)
theorem Zb1 (P:PW t)(S:Sub t o){rss:List (List Nat)}(hp:rss.Perm (Ya t o t.length)):Sd t rss.length rss (Y0 rss):=by
 have nd:rss.Nodup:=hp.nodup_iff.mpr (Uu _)
 have of:∀k,k<rss.length->∃a,a<t.length/\rss.getD k []=sC t o a:=fun k hk=>Jv _ _ (hp.mem_iff.mp (List.mem_of_getElem? (gD hk)))
 have all:∀x,x<t.length->sC t o x∈rss:=fun x hx=>hp.mem_iff.mpr (ZaI _ _ hx)
 have lt:∀x,x<t.length->Y0 rss x<rss.length/\x∈rss.getD (Y0 rss x) []:=fun x hx=>by
  have h1:Y0 rss x<rss.length:=List.findIdx_lt_length.mpr ⟨_,all x hx,List.contains_iff_mem.mpr (VR P S hx)⟩
  refine⟨h1,?_⟩
  have h2:=List.findIdx_getElem (p:=fun r:List Nat=>r.contains x) (xs:=rss) (w:=h1)
  have e:rss.getD (Y0 rss x) []=rss[Y0 rss x]'h1:=by
   rw[Zb,Zf h1]
   rfl
  rw[e]
  exact List.contains_iff_mem.mp h2
 have row:∀k x,k<rss.length->x∈rss.getD k []->rss.getD k []=sC t o x:=fun k x hk hx=>by
  obtain⟨a,ha,e⟩:=of k hk
  rw[e] at hx ⊢
  exact (ZgU P S ha hx).symm
 have un:∀k x,k<rss.length->x<t.length->x∈rss.getD k []->Y0 rss x=k:=fun k x hk hxl hx=>by
  obtain⟨h1,h2⟩:=lt x hxl
  have e:rss.getD (Y0 rss x) []=rss.getD k []:=by rw[row _ _ h1 h2,row _ _ hk hx]
  have e2:rss[Y0 rss x]'h1=rss[k]'hk:=by
   rw[Zb,Zf h1,Zb,Zf hk] at e
   exact e
  exact Zh2 nd h1 hk e2
 refine⟨?_,rfl,fun k hk e=>?_,fun k x hk=>⟨fun hx=>?_,?_⟩,fun x hx=>(lt x hx).1,fun a x y ha hx hy e=>?_⟩
 ·exact List.length_pos_of_mem (all 0 P.n1)
 ·obtain⟨a,ha,e2⟩:=of k hk
  have:=VR P S ha
  rw[<-e2,e] at this
  cases this
 ·obtain⟨a,ha,e⟩:=of k hk
  have hxl:=(WJ.mp (e▸hx)).1
  exact⟨hxl,un k x hk hxl hx⟩
 ·rintro⟨hx,rfl⟩
  exact (lt x hx).2
 ·obtain⟨h1,h2⟩:=lt y hy
  have hxy:y∈sC t o x:=by
   obtain⟨g1,g2⟩:=lt x hx
   rw[<-row _ _ g1 g2,e]
   exact h2
  obtain⟨_,h,hh,rfl⟩:=WJ.mp hxy
  have al:=P.lt a x ha hx
  have bl:=P.lt a _ ha hy
  obtain⟨g1,g2⟩:=lt _ al
  refine (un _ _ g1 bl ?_).symm
  rw[row _ _ g1 g2]
  exact WJ.mpr ⟨bl,h,hh,P.ass a x h ha hx (S.lt h hh)⟩
end
end Tb
namespace PyZ
open PySem PyProof PyProof.Rows
def Runs (n:Nat)(cmp:Nat->Nat->Bool){α:Type}:W.KasT α->(α->Prop)->Prop
 | .ret a,Q=>Q a
 | .ask i j k,Q=>i<n/\j<n/\Runs n cmp (k (cmp i j)) Q
theorem Runs.run {n:Nat}{cmp:Nat->Nat->Bool}{α:Type}{Q:α->Prop}:∀{t:W.KasT α},Runs n cmp t Q->∃a,JI n cmp t=some a/\Q a
 | .ret a,h=>⟨a,rfl,h⟩
 | .ask i j k,h=>by
  obtain⟨h1,h2,h3⟩:=h
  obtain⟨a,e,q⟩:=h3.run
  exact⟨a,by rw[JI,if_pos ⟨h1,h2⟩];exact e,q⟩
theorem Runs.bind {n:Nat}{cmp:Nat->Nat->Bool}{α β:Type}{f:α->W.KasT β}{Q:β->Prop}:∀{t:W.KasT α},Runs n cmp t (fun a=>Runs n cmp (f a) Q)->Runs n cmp (t.bind f) Q
 | .ret a,h=>h
 | .ask i j k,h=>⟨h.1,h.2.1,h.2.2.bind⟩
theorem Runs.mono {n:Nat}{cmp:Nat->Nat->Bool}{α:Type}{Q Q':α->Prop}(hq:∀a,Q a->Q' a):∀{t:W.KasT α},Runs n cmp t Q->Runs n cmp t Q'
 | .ret a,h=>hq a h
 | .ask i j k,h=>⟨h.1,h.2.1,h.2.2.mono hq⟩
section
variable {n:Nat}{rank:Nat->Nat}
abbrev YU (rank:Nat->Nat):Nat->Nat->Bool:=fun i j=>decide (rank i<rank j)
def RK (rank:Nat->Nat)(p:Array Nat)(i:Nat):Nat:=rank (p.getD i 0)
structure XT (n:Nat)(p:Array Nat):Prop where
 pm:p.Perm (List.range n).toArray
theorem XT.size {p:Array Nat}(h:XT n p):p.size=n:=by
 have:=h.pm.size_eq
 simpa using this
theorem XT.lt {p:Array Nat}(h:XT n p){i:Nat}(hi:i<n):p.getD i 0<n:=by
 have hs:=h.size
 have hp:p.toList.Perm (List.range n):=by have:=h.pm;rw[Array.perm_iff_toList_perm] at this;simpa using this
 have e:p.getD i 0=p[i]'(by omega):=by simp[Array.getD,hs,hi]
 rw[e]
 have hm:p[i]'(by omega)∈p.toList:=by simp
 exact List.mem_range.mp (hp.mem_iff.mp hm)
theorem WW {p q:Array Nat}{i j:Nat}(h:p[i]?=q[j]?):RK rank p i=RK rank q j:=by
 unfold RK
 rw[Array.getD_eq_getD_getElem?,Array.getD_eq_getD_getElem?,h]
theorem ZdF {xs:Array Nat}{src d:Nat}(hs:src<xs.size)(hd:d<=src)(k:Nat) :
  RK rank (bubble xs src d) k=if k=src-d then RK rank xs src else if src-d<k/\k<=src then RK rank xs (k-1) else RK rank xs k:=by
 have e:=getElem?_bubble hs d hd k
 by_cases h1:k=src-d
 ·rw[if_pos h1] at e ⊢;exact WW e
 ·rw[if_neg h1] at e ⊢
  by_cases h2:src-d<k/\k<=src
  ·rw[if_pos h2] at e ⊢;exact WW e
  ·rw[if_neg h2] at e ⊢;exact WW e
theorem ZbK {xs:Array Nat}{i j:Nat}(hj:j<=xs.size)(k:Nat):RK rank (W.kas_rev xs i j) k=if i<=k/\k<j then RK rank xs (i+j-1-k) else RK rank xs k:=by
 have e:=getElem?_mirror_all (i:=i) hj k
 unfold W.kas_rev
 by_cases h1:i<=k/\k<j
 ·rw[if_pos h1] at e ⊢;exact WW e
 ·rw[if_neg h1] at e ⊢;exact WW e
theorem JS {xs:Array Nat}{i j:Nat}(hj:j<=xs.size)(heq:∀k,i<=k->k<j->RK rank xs k=RK rank xs (j-1))(k:Nat):RK rank (W.kas_rev xs i j) k=RK rank xs k:=by
 rw[ZbK hj]
 split
 ·rw[heq _ (by omega) (by omega),heq k (by omega) (by omega)]
 ·rfl
theorem XT.rev {p:Array Nat}(h:XT n p)(i j:Nat):XT n (W.kas_rev p i j):=⟨(mirror_perm p i j _).trans h.pm⟩
theorem XT.bub {p:Array Nat}(h:XT n p)(k d:Nat):XT n (bubble p k d):=⟨(bubble_perm p k d).trans h.pm⟩
def Up (rank:Nat->Nat)(p:Array Nat)(k:Nat):Prop:=∀i j,i<=j->j<k->RK rank p i<=RK rank p j
def Dn (rank:Nat->Nat)(p:Array Nat)(k:Nat):Prop:=∀i j,i<=j->j<k->RK rank p j<=RK rank p i
theorem Up.snoc {p:Array Nat}{k:Nat}(h1:1<=k)(h:Up rank p k)(hk:RK rank p (k-1)<=RK rank p k):Up rank p (k+1):=fun i j hij hj=>by
 by_cases e:j=k
 ·subst e
  by_cases e2:i=j
  ·rw[e2];exact Zq _
  ·exact Nat.le_trans (h i (j-1) (by omega) (by omega)) hk
 ·exact h i j hij (by omega)
theorem Dn.snoc {p:Array Nat}{k:Nat}(h1:1<=k)(h:Dn rank p k)(hk:RK rank p k<=RK rank p (k-1)):Dn rank p (k+1):=fun i j hij hj=>by
 by_cases e:j=k
 ·subst e
  by_cases e2:i=j
  ·rw[e2];exact Zq _
  ·exact Nat.le_trans hk (h i (j-1) (by omega) (by omega))
 ·exact h i j hij (by omega)
theorem ZbH {p:Array Nat}(hp:XT n p):∀(f k:Nat),1<=k->k+f<=n->Up rank p k->Runs n (YU rank) (W.kas_asc p f k) fun m=>k<=m/\m<=k+f/\Up rank p m/\(m<k+f->RK rank p m<RK rank p (m-1))
 |0,k,h1,hk,hu=>⟨Zq _,Zq _,hu,fun z=>absurd z (by omega)⟩
 |f+1,k,h1,hk,hu=>by
  refine⟨hp.lt (by omega),hp.lt (by omega),?_⟩
  by_cases c:rank (p.getD k 0)<rank (p.getD (k-1) 0)
  ·rw[show YU rank _ _=true from decide_eq_true c]
   exact⟨Zq _,by omega,hu,fun _=>c⟩
  ·rw[show YU rank _ _=false from decide_eq_false c]
   refine (ZbH hp f (k+1) (by omega) (by omega) (hu.snoc h1 (by unfold RK;omega))).mono fun m ⟨a,b,u,d⟩=>⟨by omega,by omega,u,fun z=>d (by omega)⟩
theorem Xg:∀(f:Nat) (p:Array Nat) (k q:Nat),XT n p->1<=k->k+f<=n->q+1<=k->Dn rank p k->(∀j,k-1-q<=j->j<k->RK rank p j=RK rank p (k-1))->
  Runs n (YU rank) (W.kas_desc f p k q) fun r=>XT n r.1/\1<=r.2.1/\r.2.1<=k+f/\r.2.2+1<=r.2.1/\Dn rank r.1 r.2.1/\∀j,r.2.1-1-r.2.2<=j->j<r.2.1->RK rank r.1 j=RK rank r.1 (r.2.1-1)
 |0,p,k,q,hp,h1,hk,hq,hd,he=>⟨hp,h1,Zq _,hq,hd,he⟩
 |f+1,p,k,q,hp,h1,hk,hq,hd,he=>by
  refine⟨hp.lt (by omega),hp.lt (by omega),?_⟩
  by_cases c:rank (p.getD k 0)<rank (p.getD (k-1) 0)
  ·rw[show YU rank _ _=true from decide_eq_true c]
   show Runs n (YU rank) (if q > 0 then W.kas_desc f (W.kas_rev p (k-(q+1)) k) (k+1) 0 else W.kas_desc f p (k+1) 0) _
   have hd2:=hd.snoc h1 (Nat.le_of_lt c)
   have sz:=hp.size
   split
   ·have er:∀j,RK rank (W.kas_rev p (k-(q+1)) k) j=RK rank p j:=fun j=>JS (by omega) (fun i a b=>he i (by omega) b) j
    refine (Xg f _ (k+1) 0 (hp.rev _ _) (by omega) (by omega) (by omega) (fun i j a b=>?_) (fun j a b=>?_)).mono fun r ⟨a,b,c,d⟩=>⟨a,b,by omega,d⟩
    ·rw[er,er];exact hd2 i j a b
    ·rw[show j=k+1-1 by omega]
   ·refine (Xg f _ (k+1) 0 hp (by omega) (by omega) (by omega) hd2 (fun j a b=>?_)).mono fun r ⟨a,b,c,d⟩=>⟨a,b,by omega,d⟩
    rw[show j=k+1-1 by omega]
  ·rw[show YU rank _ _=false from decide_eq_false c]
   refine⟨hp.lt (by omega),hp.lt (by omega),?_⟩
   by_cases d:rank (p.getD (k-1) 0)<rank (p.getD k 0)
   ·rw[show YU rank _ _=true from decide_eq_true d]
    exact⟨hp,h1,(show k<=k+(f+1) by omega),hq,hd,he⟩
   ·rw[show YU rank _ _=false from decide_eq_false d]
    have e:RK rank p k=RK rank p (k-1):=by unfold RK;omega
    refine (Xg f _ (k+1) (q+1) hp (by omega) (by omega) (by omega) (hd.snoc h1 (by omega)) (fun j a b=>?_)).mono fun r ⟨a,b,c,d⟩=>⟨a,b,by omega,d⟩
    rw[show k+1-1=k by omega]
    by_cases ej:j=k
    ·rw[ej]
    ·rw[he j (by omega) (by omega),e]
theorem UK {p:Array Nat}{k:Nat}(hp:XT n p)(h1:1<=k)(hk:k<=n)(hd:Dn rank p k):Runs n (YU rank) (W.kas_tail3 k n p) fun r=>1<=r.1/\r.1<=n/\XT n r.2/\Up rank r.2 r.1:=by
 have sz:=hp.size
 have hu:Up rank (W.kas_rev p 0 k) k:=fun i j a b=>by
  rw[ZbK (by omega),ZbK (by omega),if_pos ⟨Nat.zero_le _,by omega⟩,if_pos ⟨Nat.zero_le _,b⟩]
  exact hd _ _ (by omega) (by omega)
 exact Runs.bind ((ZbH (hp.rev 0 k) (n-k) k h1 (by omega) hu).mono fun m ⟨a,b,c,_⟩=>⟨Nat.le_trans h1 a,by show m<=n;omega,hp.rev 0 k,c⟩)
theorem J0 {p:Array Nat}{k:Nat}(hp:XT n p)(hk:k+1<=n)(hd:Dn rank p (k+1)):Runs n (YU rank) (W.kas_descPart k n p) fun r=>1<=r.1/\r.1<=n/\XT n r.2/\Up rank r.2 r.1:=by
 refine Runs.bind ((Xg (n-(k+1)) p (k+1) 0 hp (by omega) (by omega) (by omega) hd (fun j a b=>by rw[show j=k+1-1 by omega])).mono fun r ⟨a,b,c,d,e,g⟩=>?_)
 have sz:=a.size
 show Runs n (YU rank) (if r.2.2 > 0 then W.kas_tail3 r.2.1 n (W.kas_rev r.1 (r.2.1-(r.2.2+1)) r.2.1) else W.kas_tail3 r.2.1 n r.1) _
 split
 ·have er:∀j,RK rank (W.kas_rev r.1 (r.2.1-(r.2.2+1)) r.2.1) j=RK rank r.1 j:=fun j=>JS (by omega) (fun i x y=>g i (by omega) y) j
  exact UK (a.rev _ _) b (by omega) fun i j x y=>by rw[er,er];exact e i j x y
 ·exact UK a b (by omega) e
theorem Zfk {p:Array Nat}(hp:XT n p)(h1:1<=n):Runs n (YU rank) (W.kas_count n p) fun r=>1<=r.1/\r.1<=n/\XT n r.2/\Up rank r.2 r.1:=by
 refine Runs.bind ((ZbH hp (n-1) 1 (Zq _) (by omega) (fun i j a b=>by rw[show i=0 by omega,show j=0 by omega];exact Zq _)).mono fun m ⟨a,b,c,d⟩=>?_)
 have sz:=hp.size
 show Runs n (YU rank) (if (m == n)=true then _ else _) _
 by_cases e:m=n
 ·rw[if_pos (by rw[e];exact beq_self_eq_true n)]
  exact⟨a,by show m<=n;omega,hp,c⟩
 ·rw[if_neg (by simpa using e)]
  have dm:=d (by omega)
  have dn:Dn rank p m->Dn rank p (m+1):=fun h=>h.snoc a (Nat.le_of_lt dm)
  split
  ·refine⟨hp.lt (by omega),hp.lt (by omega),?_⟩
   by_cases g:rank (p.getD 0 0)<rank (p.getD (m-1) 0)
   ·rw[show YU rank _ _=true from decide_eq_true g]
    exact⟨a,by show m<=n;omega,hp,c⟩
   ·rw[show YU rank _ _=false from decide_eq_false g]
    have all:∀j,j<m->RK rank p j=RK rank p (m-1):=fun j hj=>by
     have x:=c 0 j (by omega) hj
     have y:=c j (m-1) (by omega) (by omega)
     unfold RK at x y ⊢
     omega
    have er:∀j,RK rank (W.kas_rev p 0 m) j=RK rank p j:=fun j=>JS (by omega) (fun i _ y=>all i y) j
    refine J0 (hp.rev 0 m) (by omega) fun i j x y=>?_
    rw[er,er]
    exact dn (fun i j x y=>by rw[all i (by omega),all j y];exact Zq _) i j x y
  ·have e1:m=1:=by omega
   subst e1
   exact J0 hp (by omega) (dn fun i j x y=>by rw[show i=0 by omega,show j=0 by omega];exact Zq _)
theorem Xw {p:Array Nat}{k:Nat}(hp:XT n p)(hk:k<n)(hu:Up rank p k):∀(f l r:Nat),r-l<=f->l<=r->r<=k->(∀i,i<l->RK rank p i<=RK rank p k)->(∀i,r<=i->i<k->RK rank p k<RK rank p i)->
  Runs n (YU rank) (W.kas_place p k f l r) fun m=>m<=k/\(∀i,i<m->RK rank p i<=RK rank p k)/\∀i,m<=i->i<k->RK rank p k<RK rank p i
 |0,l,r,hf,hlr,hr,h1,h2=>by
  have e:l=r:=by omega
  subst e
  exact⟨hr,h1,h2⟩
 |f+1,l,r,hf,hlr,hr,h1,h2=>by
  show Runs n (YU rank) (if l ≥ r then _ else _) _
  split
  ·have e:l=r:=by omega
   subst e
   exact⟨hr,h1,h2⟩
  ·refine⟨hp.lt hk,hp.lt (by omega),?_⟩
   by_cases c:rank (p.getD k 0)<rank (p.getD ((l+r) / 2) 0)
   ·rw[show YU rank _ _=true from decide_eq_true c]
    refine Xw hp hk hu f l ((l+r) / 2) (by omega) (by omega) (by omega) h1 fun i a b=>?_
    exact Nat.lt_of_lt_of_le c (hu _ _ a b)
   ·rw[show YU rank _ _=false from decide_eq_false c]
    refine Xw hp hk hu f ((l+r) / 2+1) r (by omega) (by omega) hr (fun i a=>?_) h2
    have:=hu i ((l+r) / 2) (by omega) (by omega)
    unfold RK at this ⊢
    omega
theorem Zfq:∀(f:Nat) (p:Array Nat) (k:Nat),XT n p->k+f=n->Up rank p k->Runs n (YU rank) (W.kas_bin f p k) fun r=>XT n r/\Up rank r n
 |0,p,k,hp,hk,hu=>⟨hp,by rw[<-hk];exact hu⟩
 |f+1,p,k,hp,hk,hu=>by
  have sz:=hp.size
  refine Runs.bind ((Xw hp (by omega) hu k 0 k (by omega) (by omega) (Zq _) (fun i h=>by omega) (fun i a b=>by omega)).mono fun l ⟨a,b,c⟩=>?_)
  refine Zfq f _ (k+1) (hp.bub _ _) (by omega) fun i j hij hj=>?_
  have hb:=fun x=>ZdF (rank:=rank) (xs:=p) (src:=k) (d:=k-l) (by omega) (by omega) x
  rw[hb i,hb j]
  have el:k-(k-l)=l:=by omega
  rw[el]
  have hu':=hu
  by_cases i1:i=l
  ·rw[if_pos i1]
   by_cases j1:j=l
   ·rw[if_pos j1];exact Zq _
   ·rw[if_neg j1,if_pos ⟨by omega,by omega⟩]
    exact Nat.le_of_lt (c (j-1) (by omega) (by omega))
  ·rw[if_neg i1]
   by_cases i2:l<i/\i<=k
   ·rw[if_pos i2,if_neg (by omega),if_pos ⟨by omega,by omega⟩]
    exact hu _ _ (by omega) (by omega)
   ·rw[if_neg i2]
    have il:i<l:=by omega
    by_cases j1:j=l
    ·rw[if_pos j1];exact b i il
    ·rw[if_neg j1]
     by_cases j2:l<j/\j<=k
     ·rw[if_pos j2];exact hu _ _ (by omega) (by omega)
     ·rw[if_neg j2];exact hu _ _ hij (by omega)
theorem ZfJ (h1:1<=n)(rank:Nat->Nat):∃p,JI n (YU rank) (W.kas_sort n)=some p/\p.toList.Perm (List.range n)/\(p.toList.map rank).Pairwise (· ≤ ·):=by
 have:Runs n (YU rank) (W.kas_sort n) fun p=>XT n p/\Up rank p n:=by
  refine Runs.bind ((Zfk (rank:=rank) ⟨Array.Perm.refl _⟩ h1).mono fun r ⟨a,b,c,d⟩=>?_)
  show Runs n (YU rank) (if r.1<n then _ else _) _
  split
  ·have e:max r.1 1=r.1:=by omega
   rw[e]
   exact Zfq _ _ _ c (by omega) d
  ·exact⟨c,by rw[show n=r.1 by omega];exact d⟩
 obtain⟨p,e,hp,hu⟩:=this.run
 refine⟨p,e,?_,?_⟩
 ·have:=hp.pm
  rw[Array.perm_iff_toList_perm] at this
  simpa using this
 ·have sz:=hp.size
  rw[List.pairwise_iff_getElem]
  intro i j hi hj hij
  rw[Za] at hi hj
  have li:i<p.size:=by simpa using hi
  have lj:j<p.size:=by simpa using hj
  have:=hu i j (by omega) (by omega)
  unfold RK at this
  rw[List.getElem_map,List.getElem_map]
  have ei:p.getD i 0=p.toList[i]'hi:=by simp[Array.getD,li]
  have ej:p.getD j 0=p.toList[j]'hj:=by simp[Array.getD,lj]
  rw[ei,ej] at this
  exact this
end
end PyZ
namespace PyZ
open PySem PyProof PyProof.Rows SeqAt
open AutoSeq1 (wpAny_loadPart')
theorem Zct {vs:List Value}{ns:List Int}(h:IntsAre vs ns):∀{i:Nat}{v:Value},vs[i]?=some v->∃n t,ns[i]?=some n/\v=.int n t:=by
 induction h with
 |nil=>intro i v e;simp at e
 |cons n t _ ih=>
  intro i v e
  match i,e with
  |0,e=>cases e;exact⟨_,_,rfl,rfl⟩
  |i+1,e=>exact ih (i:=i) (by simpa using e)
theorem Zaz {vs:List Value}{ns:List Int}(h:IntsAre vs ns):vs.length=ns.length:=by
 induction h with
 |nil=>rfl
 |cons _ _ _ ih=>rw[Zi,Zi,ih]
theorem Zde {fin:Bool}{xs ys:List Int}{i:Nat}{x y:Int}(hx:xs[i]?=some x)(hy:ys[i]?=some y):Ui fin (xs.drop i) (ys.drop i)=if x=y then Ui fin (xs.drop (i+1)) (ys.drop (i+1)) else decide (x<y):=by
 have h1:=(List.getElem?_eq_some_iff.mp hx)
 have h2:=(List.getElem?_eq_some_iff.mp hy)
 obtain⟨l1,e1⟩:=h1
 obtain⟨l2,e2⟩:=h2
 rw[List.drop_eq_getElem_cons l1,List.drop_eq_getElem_cons l2,e1,e2]
 rfl
theorem Zar {fin:Bool}{xs ys:List Int}{i:Nat}(h:xs[i]?=none\/ys[i]?=none):Ui fin (xs.drop i) (ys.drop i)=fin:=by
 rcases h with h|h
 ·rw[List.drop_eq_nil_of_le (List.getElem?_eq_none_iff.mp h)]
  rfl
 ·rw[List.drop_eq_nil_of_le (as:=ys) (List.getElem?_eq_none_iff.mp h)]
  cases xs.drop i with
  |nil=>rfl
  |cons _ _=>rfl
theorem Zgl (l b:Addr)(items items2:Array Value)(n n2:Nat)(dd dd2:Option Addr)(sl sl2:Array (Option Value)){xs ys:List Int}(hx:IntsAre items.toList xs)(hy:IntsAre items2.toList ys)(k:Nat) :
  ∀i:Nat,items.size-i=k->Meets (Builtin.«list.__eq__.loop» ⟨[.ref l,.ref b,rawInt i,rawInt 0],[]⟩)
   (fun A R s=>s.heap.get? l=some {cls:=.type "list",dict:=dd,data:=.seq items n,slots:=sl}/\s.heap.get? b=some {cls:=.type "list",dict:=dd2,data:=.seq items2 n2,slots:=sl2}/\
    R (.ok (.ret (.bool (Ui (decide (xs.length<ys.length)) (xs.drop i) (ys.drop i))))) s):=by
 have sx:items.size=xs.length:=by rw[<-Zaz hx,Zr]
 have sy:items2.size=ys.length:=by rw[<-Zaz hy,Zr]
 induction k with
 |zero=>
  intro i hk prog w A R s h
  obtain⟨hp,g,d,tk,os⟩:=s;obtain⟨hl,hb,h⟩:=h
  wp_walk using wpAny_loadPart' hl,wpAny_loadPart' hb
  have hi1:items[((i:Nat):Int).toNat]?=none:=by simp;omega
  rw[Zar (.inl (List.getElem?_eq_none (by omega)))] at h
  rw[hi1]
  wp_walk using wpAny_loadPart' hl,wpAny_loadPart' hb
  show R (.ok (.ret (.bool (decide (items.size<items2.size))))) _
  rw[sx,sy]
  exact h
 |succ k ih=>
  intro i hk prog w A R s h
  obtain⟨hp,g,d,tk,os⟩:=s;obtain⟨hl,hb,h⟩:=h
  wp_walk using wpAny_loadPart' hl,wpAny_loadPart' hb
  have hlt:i<items.size:=by omega
  have hi1:items[((i:Nat):Int).toNat]?=some items[i]:=by simp[hlt]
  have hc:((i:Int)+1)=((i+1:Nat):Int):=by push_cast;rfl
  by_cases hlt2:i<items2.size
  ·have hi2:items2[((i:Nat):Int).toNat]?=some items2[i]:=by simp[hlt2]
   obtain⟨x,tx,ex,vx⟩:=Zct hx (i:=i) (v:=items[i]) (by simp[hlt])
   obtain⟨y,ty,ey,vy⟩:=Zct hy (i:=i) (v:=items2[i]) (by simp[hlt2])
   rw[Zde ex ey] at h
   rw[hi1,hi2,vx,vy]
   refine Zl (EqAt.int_int _ _ _ _ prog w _ _ ?_)
   by_cases e:x=y
   ·rw[if_pos e] at h
    rw[show (x == y)=true from beq_iff_eq.mpr e]
    wp_walk
    rw[hc]
    exact⟨plainId_quiet MeetsSeq3.plain_eq_loop _,codeAny_builtin MeetsSeq3.entry_eq_loop (by
     rw[Around.under_plainId MeetsSeq3.plain_eq_loop _]
     exact ih (i+1) (by omega) prog w A R _ ⟨hl,hb,h⟩)⟩
   ·rw[if_neg e] at h
    rw[show (x == y)=false from beq_eq_false_iff_ne.mpr e]
    wp_walk using wpAny_loadPart' hl,wpAny_loadPart' hb
    rw[hi1,hi2,vx,vy]
    refine Zl (lt_int ?_)
    exact Zm h
  ·have hi2:items2[((i:Nat):Int).toNat]?=none:=by simp;omega
   rw[Zar (.inr (List.getElem?_eq_none (by omega)))] at h
   rw[hi1,hi2]
   wp_walk using wpAny_loadPart' hl,wpAny_loadPart' hb
   show R (.ok (.ret (.bool (decide (items.size<items2.size))))) _
   rw[sx,sy]
   exact h
theorem Zgm (l b:Addr)(items items2:Array Value)(n n2:Nat)(dd dd2:Option Addr)(sl sl2:Array (Option Value)){xs ys:List Int}(hx:IntsAre items.toList xs)(hy:IntsAre items2.toList ys) :
  Meets (Builtin.«list.__lt__» ⟨[.ref l,.ref b],[]⟩)
   (fun A R s=>s.heap.get? l=some {cls:=.type "list",dict:=dd,data:=.seq items n,slots:=sl}/\s.heap.get? b=some {cls:=.type "list",dict:=dd2,data:=.seq items2 n2,slots:=sl2}/\
    R (.ok (.ret (.bool (WM xs ys)))) s):=by
 intro prog w A R s h
 obtain⟨hp,g,d,tk,os⟩:=s;obtain⟨hl,hb,h⟩:=h
 have f3:=AutoSeq1.sub_list_list
 wp_walk using wpAny_loadPart' hl,wpAny_loadPart' hb
 exact⟨plainId_quiet MeetsSeq3.plain_eq_loop _,codeAny_builtin MeetsSeq3.entry_eq_loop (by
  rw[Around.under_plainId MeetsSeq3.plain_eq_loop _]
  exact Zgl l b items items2 n n2 dd dd2 sl sl2 hx hy _ 0 rfl prog w A R _ ⟨hl,hb,by simpa [WM] using h⟩)⟩
section
variable {prog:Program}{w:World}{A:Around}{E:Value->Shared->Prop}{s:Shared}
theorem Zbj {l b:Addr}{us vs:List Value}{xs ys:List Int}{Q:Bool->Shared->Prop}(hu:A.units<cLine)(hl:s.heap.IsList l us.toArray)(hb:s.heap.IsList b vs.toArray)(hx:IntsAre us xs)(hy:IntsAre vs ys)(h:Q (WM xs ys) s) :
  wpAny (model prog w) A (keyLt' oneType' (.ref l) (.ref b)) Q E s:=by
 obtain⟨ol,e1,c1,n1,d1⟩:=hl
 obtain⟨ob,e2,c2,n2,d2⟩:=hb
 obtain⟨ocls,odict,odata,oslots⟩:=ol
 obtain⟨ocls2,odict2,odata2,oslots2⟩:=ob
 simp only at c1 d1 c2 d2
 subst c1 d1 c2 d2
 rw[keyLt'_oneType,oneLt'_eq]
 simp only[if_true]
 refine Zl (wpAny_cRoomFor hu ?_)
 refine Zl (wpAny_callSpecialIfBound?_slot ⟨_,e1,rfl⟩ PySem.F.slot_list_lt ?_)
 refine call_meets PySem.F.slot_list_lt ⟨_,e1,rfl⟩ PySem.F.entry_list_lt (PySem.F.args_list_lt_2 _ _) (Zgm l b us.toArray vs.toArray n1 n2 odict odict2 oslots oslots2 (by simpa using hx) (by simpa using hy)) ⟨e1,e2,?_⟩
 exact wpAny_truthy_bool h
end
end PyZ
namespace PyZ
open PySem PyProof PyProof.Rows
theorem Uf (ys:List Int):WM [] ys=decide (0<ys.length):=rfl
theorem Zaq (xs:List Int):WM xs []=false:=by
 cases xs with
 |nil=>rfl
 |cons x xs=>
  show decide ((x::xs).length<([]:List Int).length)=false
  exact decide_eq_false (by simp)
theorem Jt (x y:Int)(xs ys:List Int):WM (x::xs) (y::ys)=if x=y then WM xs ys else decide (x<y):=by
 unfold WM
 show (if x=y then Ui _ xs ys else _)=_
 have e:decide ((x::xs).length<(y::ys).length)=decide (xs.length<ys.length):=by
  simp only[Zi,Nat.add_lt_add_iff_right]
 rw[e]
theorem Zcq:∀xs:List Int,WM xs xs=false
 | []=>rfl
 |x::xs=>by rw[Jt,if_pos rfl];exact Zcq xs
theorem Ue:∀{xs ys:List Int},WM xs ys=false->WM ys xs=false->xs=ys
 | [],[],_,_=>rfl
 | [],_::_,h,_=>by rw[Uf] at h;simp at h
 |_::_,[],_,h=>by rw[Uf] at h;simp at h
 |x::xs,y::ys,h1,h2=>by
  rw[Jt] at h1 h2
  by_cases e:x=y
  ·rw[if_pos e] at h1
   rw[if_pos e.symm] at h2
   rw[e,Ue h1 h2]
  ·rw[if_neg e] at h1
   rw[if_neg (Ne.symm e)] at h2
   have a:=of_decide_eq_false h1
   have b:=of_decide_eq_false h2
   omega
theorem Vo:∀{xs ys zs:List Int},WM xs ys=true->WM ys zs=true->WM xs zs=true
 |xs,ys,[],_,h=>by rw[Zaq] at h;cases h
 |xs,[],z::zs,h,_=>by rw[Zaq] at h;cases h
 | [],y::ys,z::zs,_,_=>by rw[Uf];exact decide_eq_true (by simp)
 |x::xs,y::ys,z::zs,h1,h2=>by
  rw[Jt] at h1 h2 ⊢
  by_cases e1:x=y
  ·rw[if_pos e1] at h1
   by_cases e2:y=z
   ·rw[if_pos e2] at h2
    rw[if_pos (e1.trans e2)]
    exact Vo h1 h2
   ·rw[if_neg e2] at h2
    have:=of_decide_eq_true h2
    rw[if_neg (by omega)]
    exact decide_eq_true (by omega)
  ·rw[if_neg e1] at h1
   have a:=of_decide_eq_true h1
   by_cases e2:y=z
   ·rw[if_neg (by omega)]
    exact decide_eq_true (by omega)
   ·rw[if_neg e2] at h2
    have:=of_decide_eq_true h2
    rw[if_neg (by omega)]
    exact decide_eq_true (by omega)
theorem Xt {n:Nat}{cmp cmp':Nat->Nat->Bool}(h:∀i j,i<n->j<n->cmp i j=cmp' i j){α:Type}:∀t:W.KasT α,JI n cmp t=JI n cmp' t
 | .ret a=>rfl
 | .ask i j k=>by
  rw[JI,JI]
  by_cases hh:i<n/\j<n
  ·rw[if_pos hh,if_pos hh,h i j hh.1 hh.2]
   exact Xt h _
  ·rw[if_neg hh,if_neg hh]
theorem Vz {α:Type}{p q:α->Bool}:∀{l:List α},(∀x∈l,p x=true->q x=true)->(∃x∈l,p x=false/\q x=true)->l.countP p<l.countP q
 | [],_,⟨x,hx,_⟩=>by cases hx
 |y::l,h,⟨x,hx,hp,hq⟩=>by
  have le:∀{l:List α},(∀x∈l,p x=true->q x=true)->l.countP p<=l.countP q:=fun {l} h=>List.countP_mono_left h
  rw[List.countP_cons,List.countP_cons]
  have h':∀x∈l,p x=true->q x=true:=fun z hz=>h z (List.mem_cons_of_mem _ hz)
  rcases List.mem_cons.mp hx with e|hx
  ·rw[<-e,hp,hq]
   have:=le h'
   simp only[Bool.false_eq_true,if_false,if_true]
   omega
  ·have:=Vz h' ⟨x,hx,hp,hq⟩
   have hy:=h y List.mem_cons_self
   cases e1:p y with
   |true=>rw[hy e1];omega
   |false=>
    simp only[Bool.false_eq_true,if_false]
    split <;> omega
def rkB (yss:List (List Int))(i:Nat):Nat:=(List.range yss.length).countP fun k=>WM (yss.getD k []) (yss.getD i [])
theorem Zej {yss:List (List Int)}{i j:Nat}(hi:i<yss.length)(hj:j<yss.length):WM (yss.getD i []) (yss.getD j [])=decide (rkB yss i<rkB yss j):=by
 have up:∀{i j:Nat},i<yss.length->WM (yss.getD i []) (yss.getD j [])=true->rkB yss i<rkB yss j:=fun {i j} hi h=>by
  refine Vz (fun k _ hk=>Vo hk h) ⟨i,List.mem_range.mpr hi,Zcq _,h⟩
 cases e:WM (yss.getD i []) (yss.getD j []) with
 |true=>rw[decide_eq_true (up hi e)]
 |false=>
  cases e2:WM (yss.getD j []) (yss.getD i []) with
  |true=>
   have:=up hj e2
   rw[decide_eq_false (by omega)]
  |false=>
   have:=Ue e e2
   unfold rkB
   rw[this]
   exact (decide_eq_false (by omega)).symm
theorem Vh {yss:List (List Int)}(h1:1<=yss.length):∃p,JI yss.length (fun i j=>WM (yss.getD i []) (yss.getD j [])) (W.kas_sort yss.length)=some p/\p.toList.Perm (List.range yss.length)/\(p.toList.map fun i=>yss.getD i []).Pairwise fun a b=>WM b a=false:=by
 obtain⟨p,e,hp,hs⟩:=ZfJ h1 (rkB yss)
 refine⟨p,(Xt (fun i j hi hj=>Zej hi hj) _).trans e,hp,?_⟩
 rw[List.pairwise_map] at hs ⊢
 refine List.Pairwise.imp_of_mem (fun {a b} ha hb hab=>?_) hs
 have la:=List.mem_range.mp (hp.mem_iff.mp ha)
 have lb:=List.mem_range.mp (hp.mem_iff.mp hb)
 rw[Zej lb la]
 exact decide_eq_false (by omega)
section
variable {prog:Program}{w:World}{A:Around}{E:Value->Shared->Prop}{s:Shared}
theorem Xp {a:Addr}{vs:List Value}{n:Nat}{P:Fin->Shared->Prop}(ho:s.heap.get? a=some (seqObj "list" vs.toArray n))(h2:vs.length<2)
  (h:P (.done (.ret .none)) {s with heap:=sortedHeap s.heap a vs vs.toArray}):wpAny (model prog w) A (Builtin.«list.sort» ⟨[.ref a],[]⟩) P E s:=by
 rw[list_sort_plain]
 have ha:a<s.heap.objs.size:=Zp ho
 refine Zl (listItems_at ho rfl ?_)
 refine Zl (listUpdate_at ho rfl ?_)
 obtain⟨e1,ho1⟩:∃e1,(s.heap.update a (Obj.mapSeq fun _=>#[])).get? a=some (seqObj "list" #[] e1):=⟨_,get?_update_seq ho (fun _=>#[])⟩
 refine Zl (seqEpoch_at ho1 rfl ?_)
 refine Zl (wpAny_newTuple ?_)
 refine Zl (wpAny_newList ?_)
 refine wpAny_holding ?_
 have ho6:(((s.heap.update a (Obj.mapSeq fun _=>#[])).push (seqObj "tuple" vs.toArray 0)).push (seqObj "list" #[] 0)).get? a=some (seqObj "list" #[] e1):=by
  rw[Heap.get?_push_ne _ _ _ (by rw[size_push',Heap.size_update];exact Nat.ne_of_lt (Nat.lt_succ_of_lt ha)),Heap.get?_push_ne _ _ _ (by rw[Heap.size_update];exact Nat.ne_of_lt ha)]
  exact ho1
 show wpAny (model prog w) A _ P E {s with heap:=((s.heap.update a (Obj.mapSeq fun _=>#[])).push (seqObj "tuple" vs.toArray 0)).push (seqObj "list" #[] 0)}
 dsimp only
 have hsz:vs.toArray.size=vs.length:=by simp
 have h2':vs.toArray.size<2:=by omega
 rw[if_pos h2',if_pos h2']
 refine Zl (Zm ?_)
 rw[StateT.run_pure]
 refine Zl (Zm ?_)
 dsimp only
 have eo:(arrOf (SortSt.mk' general' (vs.toArray.zip vs.toArray) #[] 7 none)).map (·.2)=vs.toArray:=by
  show (vs.toArray.zip vs.toArray).map (·.2)=vs.toArray
  match vs,h2 with
  | [],_=>simp
  | [v],_=>simp
 refine Zl (seqEpoch_at ho6 rfl ?_)
 refine Zl (listUpdate_at ho6 rfl ?_ (hsz2:=by rw[Array.size_map];show (pairsOf vs).size<=_;rw[pairsOf_size,sizeLine_eq];omega))
 simp only[bne_self_eq_false,Bool.false_eq_true,if_false]
 refine Zm ?_
 rw[eo]
 exact h
theorem VL {l:Addr}{vs:List Value}{Q:Value->Shared->Prop}(hl:s.heap.IsList l vs.toArray)(h2:vs.length<2)
  (h:Q (.ref (s.heap.objs.size+1)) {s with heap:=sortedAll s.heap vs vs.toArray}):wpAny (model prog w) A (call (.builtin "sorted") [.ref l]) Q E s:=by
 refine Calls.call_function_entry kind_sorted plain_sorted entry_sorted (args_sorted1 _) ?_
 unfold Builtin.«sorted»
 refine Zl (m:=checkCount "sorted" 1 1 _) (Zm ?_)
 refine Zl (collect_list hl ?_ (by rw[sizeLine_eq];omega))
 refine Zl (wpAny_newList ?_ (by rw[sizeLine_eq];omega))
 have hsz:((s.heap.push (seqObj "list" #[] 0)).update s.heap.objs.size (Obj.mapSeq (· ++ vs.toArray))).objs.size=s.heap.objs.size+1:=by
  rw[Heap.size_update,size_push']
 have hoL:(((s.heap.push (seqObj "list" #[] 0)).update s.heap.objs.size (Obj.mapSeq (· ++ vs.toArray))).push (seqObj "list" vs.toArray 0)).get? (s.heap.objs.size+1)=some (seqObj "list" vs.toArray 0):=by
  rw[<-hsz];exact Zo _ rfl
 show wpAny _ _ _ _ _ {s with heap:=((s.heap.push (seqObj "list" #[] 0)).update s.heap.objs.size (Obj.mapSeq (· ++ vs.toArray))).push (seqObj "list" vs.toArray 0)}
 rw[hsz]
 refine Zl (wpAny_holding (wpAny_call_entry slot_list_sort ⟨_,hoL,rfl⟩ entry_list_sort (Xp hoL h2 ⟨_,rfl,?_⟩) (args_list_sort _)))
 exact Zm ⟨_,rfl,h⟩
end
section
variable {prog:Program}{w:World}{A:Around}{E:Value->Shared->Prop}{s:Shared}
theorem VM {l L:Addr}{m:Str->Option Value}{as:List Addr}{yss:List (List Int)}{p:Array Nat}{Q:Value->Shared->Prop}(hu:A.units+2<cLine)(hNs:s.heap.Ns L m)(hl:s.heap.IsList l (as.map Value.ref).toArray)(n2:2<=as.length)(n64:as.length<64)(hy:as.length=yss.length)
  (ht:∀(i:Nat) a,as[i]?=some a->a≠L/\∃(us:List Value) (ys:List Int),yss[i]?=some ys/\s.heap.IsList a us.toArray/\IntsAre us ys)
  (hp:JI as.length (fun i j=>WM (yss.getD i []) (yss.getD j [])) (W.kas_sort as.length)=some p)
  (q:∀D c h',s.heap.get? D=none->D≠L->(∀b o,b≠L->s.heap.get? b=some o->h'.get? b=some o)->h'.Ns L m->h'.get? D=some (W.listOf (p.toList.map fun i=>(as.map Value.ref).getD i Value.none).toArray c)->Q (.ref D) {s with heap:=h'}) :
  wpAny (model prog w) A (call (.builtin "sorted") [.ref l]) Q E s:=by
 have fr:Fr (X3 s.heap L) L s.heap m:=by
  refine⟨hNs,fun b o e=>?_,?_⟩
  ·by_cases hb:b<L
   ·rw[Yh hb] at e;exact e
   ·rw[YE (Nat.le_of_not_lt hb)] at e
    cases e
  ·show (s.heap.objs.extract 0 L).size<=L
   rw[Array.size_extract,Nat.sub_zero]
   exact Nat.min_le_left ..
 have nw:News (X3 s.heap L) L s.heap (ZP s.heap L):=fun x hx=>by
  obtain⟨h1,h2⟩:=ZO.mp hx
  exact⟨h2,Nat.ne_of_gt h1,YE (Nat.le_of_lt h1)⟩
 have lv:(as.map Value.ref).length=as.length:=List.length_map ..
 refine W.kat_sorted fr nw hl (by rw[lv];exact n2) (by rw[lv];exact n64) fun D e1 h' fr' nw' big=>?_
 have kept:∀b o,b≠L->s.heap.get? b=some o->h'.get? b=some o:=fun b o hb e=>by
  rcases Nat.lt_or_ge b L with h1|h1
  ·exact fr'.keep b o (by rw[Yh h1];exact e)
  ·exact (nw' (b,o) (List.mem_cons_of_mem _ (ZO.mpr ⟨Nat.lt_of_le_of_ne h1 (Ne.symm hb),e⟩))).1
 have dn:s.heap.get? D=none:=by
  cases e:s.heap.get? D with
  |none=>rfl
  |some o=>
   obtain⟨_,dL,dc⟩:=nw' _ (List.mem_cons_self ..)
   rcases Nat.lt_or_ge D L with h1|h1
   ·rw[Yh h1] at dc
    rw[dc] at e
    cases e
   ·exact absurd (big (D,o) (ZO.mpr ⟨Nat.lt_of_le_of_ne h1 (Ne.symm dL),e⟩)) (Nat.lt_irrefl _)
 have dL:D≠L:=(nw' _ (List.mem_cons_self ..)).2.1
 have ht':∀(i:Nat) a,as[i]?=some a->∃(us:List Value) (ys:List Int),yss[i]?=some ys/\h'.IsList a us.toArray/\IntsAre us ys:=fun i a hi=>by
  obtain⟨aL,us,ys,e,⟨o,g1,g2⟩,ia⟩:=ht i a hi
  exact⟨us,ys,e,⟨o,kept a o aL g1,g2⟩,ia⟩
 refine W.kas_kind (T:=Value.type "list") (by rw[lv];exact n2) (fun v hv=>?_) (by decide +kernel) (by decide +kernel) ?_
 ·obtain⟨a,ha,rfl⟩:=List.mem_map.mp hv
  obtain⟨i,hi⟩:=List.getElem?_of_mem ha
  obtain⟨us,ys,_,⟨o,g1,g2,_⟩,_⟩:=ht' i a hi
  intro A Q E s' hk q
  refine wpAny_typeOf (T:="list") ⟨o,hk _ _ g1,g2⟩ q
 ·rw[lv]
  refine W4 (cmp:=fun i j=>WM (yss.getD i []) (yss.getD j [])) (fun i j C hi hj c=>?_) _ p _ hp ?_
  ·unfold W.kas_ask
   obtain⟨us,ys,e,i1,ia⟩:=ht' i as[i] (Zf hi)
   obtain⟨us2,ys2,e2,i2,ia2⟩:=ht' j as[j] (Zf hj)
   have v1:(as.map Value.ref).getD i Value.none=.ref as[i]:=by
    rw[Zb,Zc,Zf hi]
    rfl
   have v2:(as.map Value.ref).getD j Value.none=.ref as[j]:=by
    rw[Zb,Zc,Zf hj]
    rfl
   have w1:yss.getD i []=ys:=by rw[Zb,e];rfl
   have w2:yss.getD j []=ys2:=by rw[Zb,e2];rfl
   rw[v1,v2]
   rw[w1,w2] at c
   exact Zbj (by show A.units+1+1<cLine;omega) i1 i2 ia ia2 c
  ·refine⟨_,_,fr',nw',W.UpdF.head (fun x hx=>Nat.ne_of_lt (big x hx)),fun h'' c fr'' nw''=>?_⟩
   refine q D c h'' dn dL (fun b o hb e=>?_) fr''.ns (nw'' _ (List.mem_cons_self ..)).1
   rcases Nat.lt_or_ge b L with h1|h1
   ·exact fr''.keep b o (by rw[Yh h1];exact e)
   ·exact (nw'' (b,o) (List.mem_cons_of_mem _ (ZO.mpr ⟨Nat.lt_of_le_of_ne h1 (Ne.symm hb),e⟩))).1
end
end PyZ
namespace L2
open PySem PySem.Spec PyProof.Rows
section
variable {X:Cx}{pins:List (Addr×Obj)}{σ:St}{H:Hp}{s:Shared}
theorem Zf8:∀{as:List Addr},as.length<2->((List.range as.length).map fun i=>as.getD i 0)=as
 | [],_=>rfl
 | [_],_=>rfl
theorem ZhV {β:Type}:∀{n:Nat},n<2->∀(f:Nat->β) (R:β->β->Prop),((List.range n).map f).Pairwise R
 |0,_,_,_=>List.Pairwise.nil
 |1,_,_,_=>List.pairwise_singleton _ _
def Zkv (tp:Bool)(ys:List Int):HO:=if tp then .tup (ys.map V.int) else .lst (ys.map V.int)
def ZhB (tp:Bool):List V->Hp->VK->Prop:=fun xs H Q=>∃(l:Addr) (as:List Addr) (yss:List (List Int)),xs=[.ref l]/\H l=some (.lst (as.map V.ref))/\as.length=yss.length/\as.length<64/\
 (∀(i:Nat) a,as[i]?=some a->∃ys,yss[i]?=some ys/\ys≠[]/\H a=some (Zkv tp ys))/\
 ∀D js,H D=none->List.Perm js (List.range as.length)->(js.map fun i=>yss.getD i []).Pairwise (fun a b=>PyZ.WM b a=false)->Q (.ref D) (upd H D (.lst ((js.map fun i=>as.getD i 0).map V.ref)))
theorem ZbD (tp:Bool)(hu:X.A.units+64<cLine):ZW X (.builtin "sorted") (ZhB tp):=by
 intro pins s σ H xs us Q I r h
 obtain⟨l,as,yss,rfl,hl,hy,n64,ht,q⟩:=h
 obtain⟨u,rfl,ru⟩:=r.one
 cases ru
 obtain⟨m,hm,hlk⟩:=id I.loc
 obtain⟨z,its,n,rv,hlen,e⟩:=I.lstM hl
 have ei:=WY rv
 subst ei
 have hil:s.heap.IsList l (as.map Value.ref).toArray:=(I.list (.of hl)).elim fun its' hh=>by
  obtain⟨rv',pl,_⟩:=hh
  have:=WY rv'
  rw[this] at pl
  exact pl.isList
 have szl:(16777216:Nat)=sizeLine:=by decide
 have neL:∀{a:Addr}{o:HO},H a=some o->a≠X.env.locals:=fun {a o} e z=>by rw[z,I.free] at e;cases e
 by_cases n2:as.length<2
 ·refine PyZ.VL hil (by rw[Za];exact n2) ?_
  obtain⟨e1,he⟩:=sortedAll_at s.heap (as.map Value.ref) (as.map Value.ref).toArray
  have old:∀b o,s.heap.get? b=some o->(sortedAll s.heap (as.map Value.ref) (as.map Value.ref).toArray).get? b=some o:=fun b o e=>sortedAll_old e
  generalize sortedAll s.heap (as.map Value.ref) (as.map Value.ref).toArray=h' at he old ⊢
  have hle:s.heap.objs.size<=s.heap.objs.size+1:=Nat.le_succ _
  generalize s.heap.objs.size+1=D at he hle ⊢
  have em:=Zf8 n2
  have hpw:=ZhV n2 (fun i=>yss.getD i []) fun a b=>PyZ.WM b a=false
  have fin:=q D (List.range as.length) (I.hok.fresh hle) (List.Perm.refl _) hpw
  rw[em] at fin
  have I':Inv X pins σ (upd H D (.lst (as.map V.ref))) {s with heap:=h',toks:=s.toks}:=I.laid (a:=D) (o:=.lst (as.map V.ref)) (t':=s.toks) old hle ⟨by rw[Za];omega,as.map Value.ref,e1,We as,he⟩
  exact⟨.ref D,_,I',rfl,fin⟩
 ·obtain⟨p,hp,hpm,hps⟩:=PyZ.Vh (yss:=yss) (by omega)
  rw[<-hy] at hp hpm
  have hpi:∀i∈p.toList,i<as.length:=fun i hi=>List.mem_range.mp (hpm.mem_iff.mp hi)
  have pl:p.toList.length=as.length:=by rw[hpm.length_eq,Zg]
  have es:(p.toList.map fun i=>(as.map Value.ref).getD i Value.none)=(p.toList.map fun i=>as.getD i 0).map Value.ref:=by
   rw[List.map_map]
   refine List.map_congr_left fun i hi=>?_
   have:=hpi i hi
   show (as.map Value.ref).getD i Value.none=Value.ref (as.getD i 0)
   rw[Zb,Zc,Zf this,Zb,Zf this]
   rfl
  have fin:∀D c h',s.heap.get? D=none->D≠X.env.locals->(∀b o,b≠X.env.locals->s.heap.get? b=some o->h'.get? b=some o)->h'.Ns X.env.locals m->h'.get? D=some (W.listOf (p.toList.map fun i=>(as.map Value.ref).getD i Value.none).toArray c)->
    ∃v H',Inv X pins σ H' {s with heap:=h'}/\RelV v (.ref D)/\Q v H':=fun D c h' dn dL kept hn' hD=>by
   rw[es] at hD
   obtain⟨I',hH⟩:=I.newL (ys:=(p.toList.map fun i=>as.getD i 0).map V.ref) hm hlk dn dL kept hn' (by rw[Za,Za];omega) (We _) hD
   exact⟨.ref D,_,I',rfl,q D _ hH hpm hps⟩
  cases tp with
  |true=>
   refine PyZ.UU (yss:=yss) (p:=p) hm hil (by omega) n64 hy (fun i a hi=>?_) hp fin
   obtain⟨ys,e1,ne,ha⟩:=ht i a hi
   have ha:H a=some (.tup (ys.map V.int)):=ha
   obtain⟨us,rv',pt,_⟩:=I.tuple (.of ha)
   exact⟨neL ha,us,ys,e1,pt,Wq rv',ne⟩
  |false=>
   refine PyZ.VM (yss:=yss) (p:=p) (by omega) hm hil (by omega) n64 hy (fun i a hi=>?_) hp fin
   obtain⟨ys,e1,ne,ha⟩:=ht i a hi
   have ha:H a=some (.lst (ys.map V.int)):=ha
   obtain⟨us,rv',pt,_⟩:=I.list (.of ha)
   exact⟨neL ha,us,ys,e1,pt.isList,Wq rv'⟩
end
end L2
namespace PyY
open PySem
open AutoSeq1 (wpAny_loadPart')
def J4 (b:Bool)(h:Heap)(j a:Addr)(k:Nat):Prop:=match b with
 |true=>h.IsTupleIter j a k
 |false=>h.IsListIter j a k
def J3 (b:Bool)(h:Heap)(a:Addr)(us:Array Value):Prop:=match b with
 |true=>h.IsTuple a us
 |false=>h.IsList a us
theorem J4.ext {b:Bool}{h h':Heap}{c j a:Addr}{k:Nat}(x:J4 b h j a k)(e:Heap.ExtBut c h h')(n:j≠c):J4 b h' j a k:=by
 cases b
 ·exact Heap.IsListIter.extBut x e n
 ·exact Heap.IsTupleIter.extBut x e n
theorem J3.ext {b:Bool}{h h':Heap}{c a:Addr}{us:Array Value}(x:J3 b h a us)(e:Heap.ExtBut c h h')(n:a≠c):J3 b h' a us:=by
 cases b
 ·exact Heap.IsList.extBut x e n
 ·exact Heap.IsTuple.extBut x e n
theorem J4.at {b:Bool}{h h':Heap}{j a:Addr}{k:Nat}(x:J4 b h j a k)(e:∀o,h.get? j=some o->h'.get? j=some o):J4 b h' j a k:=by
 cases b
 ·exact Heap.IsListIter.at x e
 ·obtain⟨o,ho,r⟩:=(show h.IsTupleIter j a k from x)
  exact⟨o,e o ho,r⟩
theorem J3.at {b:Bool}{h h':Heap}{a:Addr}{us:Array Value}(x:J3 b h a us)(e:∀o,h.get? a=some o->h'.get? a=some o):J3 b h' a us:=by
 cases b
 ·exact Heap.IsList.at x e
 ·obtain⟨o,ho,r⟩:=(show h.IsTuple a us from x)
  exact⟨o,e o ho,r⟩
theorem J4.obj {b:Bool}{h:Heap}{j a:Addr}{k:Nat}(x:J4 b h j a k):∃o,h.get? j=some o/\∀v,o.data≠.cell v:=by
 cases b
 ·obtain⟨o,ho,_,d⟩:=(show h.IsListIter j a k from x)
  exact⟨o,ho,fun v z=>by rw[d] at z;cases z⟩
 ·obtain⟨o,ho,_,d⟩:=(show h.IsTupleIter j a k from x)
  exact⟨o,ho,fun v z=>by rw[d] at z;cases z⟩
section
variable {prog:Program}{w:World}{A:Around}{E:Value->Shared->Prop}{s:Shared}
theorem Jc {b:Bool}{j a:Addr}{k:Nat}{us:Array Value}{y:Value}{Q:Value->Shared->Prop}(c:J4 b s.heap j a k)(d:J3 b s.heap a us)(e:us[k]?=some y)
  (q:∀g,J4 b g j a (k+1)->Heap.SameBut j s.heap g->Q y {s with heap:=g}):wpAny (model prog w) A (Builtin.SmallTypes.nextOf (.ref j)) Q E s:=by
 cases b
 ·exact wpAny_nextOf_list_item c d e q
 ·exact XD c d e q
theorem Vm {b:Bool}{j a:Addr}{k:Nat}{us:Array Value}{Q:Value->Shared->Prop}(hn:A.handled=none)(c:J4 b s.heap j a k)(d:J3 b s.heap a us)(e:us[k]?=none)
  (q:∀g x,Heap.ExtBut j s.heap g->(∃o,g.get? x=some o/\o.cls=.type "StopIteration")->E (.ref x) {s with heap:=g}):wpAny (model prog w) A (Builtin.SmallTypes.nextOf (.ref j)) Q E s:=by
 cases b
 ·exact wpAny_nextOf_list_end hn c d e q
 ·exact Vl hn c d e q
structure ZA (z p r i j a b:Addr):Prop where
 pz:p≠z
 rz:r≠z
 iz:i≠z
 jz:j≠z
 pr:p≠r
 pi:p≠i
 pj:p≠j
 ri:r≠i
 rj:r≠j
 ij:i≠j
 az:a≠z
 ar:a≠r
 ai:a≠i
 aj:a≠j
 bz:b≠z
 br:b≠r
 bi:b≠i
 bj:b≠j
theorem ZcN {u v:Bool}{z p r i j a b:Addr}{k:Nat}{us vs:Array Value}{x y o1 o2:Value}{Q:Option Value->Shared->Prop}(D:ZA z p r i j a b)
  (hz:IsZip s.heap z p r .none) (hp:IsPair s.heap p (.ref i) (.ref j)) (hr:IsPair s.heap r o1 o2) (hi:J4 u s.heap i a k) (hj:J4 v s.heap j b k) (ha:J3 u s.heap a us) (hb:J3 v s.heap b vs) (ex:us[k]?=some x) (ey:vs[k]?=some y)
  (q:∀g,IsZip g z p r (rawInt s.heap.objs.size)->IsPair g r x y->J4 u g i a (k+1)->J4 v g j b (k+1)->IsPair g s.heap.objs.size x y->g.objs.size=s.heap.objs.size+1->
   (∀c o,c≠z->c≠r->c≠i->c≠j->s.heap.get? c=some o->g.get? c=some o)->Q (some (.ref s.heap.objs.size)) {s with heap:=g}):wpAny (model prog w) A (pyNext (.ref z)) Q E s:=by
 have tz:s.TypeIs (.ref z) "zip":=⟨_,hz,rfl⟩
 unfold pyNext
 refine Zl (wpAny_attempt (wpAny_callSpecial?_slot (name:=Str.ofString "__next__") tz F.slot_zip_next (wpAny_call_entry F.slot_zip_next tz F.entry_zip_next ?_ (F.args_zip_next_1 _))))
 show wpAny _ _ (field (.ref z) 2 >>= _) _ _ s
 refine Zl (wpAny_field hz rfl (x:=.bool false) rfl ?_)
 show wpAny _ _ (field (.ref z) 3 >>= _) _ _ s
 refine Zl (wpAny_field hz rfl (x:=.ref p) rfl ?_)
 refine Zl (wpAny_seqItems hp rfl ?_)
 show wpAny _ _ (Builtin.SmallTypes.ownedTupleIsFree (.ref z) >>= _) _ _ s
 refine Zl ?_
 unfold Builtin.SmallTypes.ownedTupleIsFree
 refine Zl (wpAny_field hz rfl (x:=.none) rfl (Zm ?_))
 rw[if_pos rfl]
 refine Zl (wpAny_rule (Zl (wpAny_field hz rfl (x:=.ref r) rfl ?_)))
 refine Zl (wpAny_setField_rec hz (by simp) fun g1 z1 s1=>?_)
 replace z1:IsZip g1 z p r .ellipsis:=z1
 refine Zl ?_
 simp only[List.zipIdx_cons,List.zipIdx_nil,List.forIn_cons,List.forIn_nil]
 refine Zl (Zl (wpAny_onRaise ?_))
 show wpAny _ _ (Builtin.SmallTypes.nextOf (.ref i) >>= _) _ _ _
 refine Zl (Jc (hi.ext s1.extBut D.iz) (ha.ext s1.extBut D.az) ex fun g2 i2 s2=>Zm ?_)
 have r2:IsPair g2 r o1 o2:=s2.extBut _ _ D.ri (s1.extBut _ _ D.rz hr)
 refine Zl (wpAny_seqItems r2 rfl ?_)
 refine Zl (wpAny_updateSeq_pair r2 fun g3 r3 s3=>?_)
 replace r3:IsPair g3 r x o2:=r3
 refine Zl (wpAny_letGo (Zm ?_))
 refine Zl (Zl (wpAny_onRaise ?_))
 show wpAny _ _ (Builtin.SmallTypes.nextOf (.ref j) >>= _) _ _ _
 refine Zl (Jc (((hj.ext s1.extBut D.jz).ext s2.extBut D.ij.symm).ext s3.extBut D.rj.symm) (((hb.ext s1.extBut D.bz).ext s2.extBut D.bi).ext s3.extBut D.br) ey fun g4 j4 s4=>Zm ?_)
 have r4:IsPair g4 r x o2:=s4.extBut _ _ D.rj r3
 refine Zl (wpAny_seqItems r4 rfl ?_)
 refine Zl (wpAny_updateSeq_pair r4 fun g5 r5 s5=>?_)
 replace r5:IsPair g5 r x y:=r5
 refine Zl (wpAny_letGo (Zm (Zm ?_)))
 refine Zl (wpAny_seqItems r5 rfl ?_)
 refine Zl (wpAny_newTuple ?_)
 have sz:g5.objs.size=s.heap.objs.size:=by rw[s5.1,s4.1,s3.1,s2.1,s1.1]
 have z5:IsZip g5 z p r .ellipsis:=s5.extBut _ _ D.rz.symm (s4.extBut _ _ D.jz.symm (s3.extBut _ _ D.rz.symm (s2.extBut _ _ D.iz.symm z1)))
 have k5:∀c o,c≠z->c≠r->c≠i->c≠j->s.heap.get? c=some o->g5.get? c=some o:=fun c o c1 c2 c3 c4 e=>s5.extBut _ _ c2 (s4.extBut _ _ c4 (s3.extBut _ _ c2 (s2.extBut _ _ c3 (s1.extBut _ _ c1 e))))
 have i5:J4 u g5 i a (k+1):=((i2.ext s3.extBut D.ri.symm).ext s4.extBut D.ij).ext s5.extBut D.ri.symm
 have j5:J4 v g5 j b (k+1):=j4.ext s5.extBut D.rj.symm
 have zl:z<g5.objs.size:=Zp z5
 show wpAny _ _ (Builtin.SmallTypes.ownedTupleHandOut (.ref z) (.ref g5.objs.size) >>= _) _ _ _
 refine Zl ?_
 unfold Builtin.SmallTypes.ownedTupleHandOut
 have z6:IsZip (g5.push {cls:=.type "tuple",data:=.seq #[x,y]}) z p r .ellipsis:=Zn _ z5
 refine Zl (wpAny_setField_rec z6 (by simp) fun g7 z7 s7=>?_)
 replace z7:IsZip g7 z p r (rawInt g5.objs.size):=z7
 refine wpAny_setField_rec z7 (by simp) fun g8 z8 s8=>?_
 replace z8:IsZip g8 z p r (rawInt g5.objs.size):=z8
 have up:∀c o,c≠z->g5.get? c=some o->g8.get? c=some o:=fun c o c1 e=>s8.extBut _ _ c1 (s7.extBut _ _ c1 (Zn _ e))
 have t8:IsPair g8 g5.objs.size x y:=s8.extBut _ _ (Nat.ne_of_gt zl) (s7.extBut _ _ (Nat.ne_of_gt zl) (Zo _ rfl))
 have e8:g8.objs.size=g5.objs.size+1:=by rw[s8.1,s7.1,Heap.size_push]
 rw[sz] at z8 t8 e8
 refine Zm ⟨_,rfl,Zm ?_⟩
 show Q (some (.ref g5.objs.size)) _
 rw[sz]
 exact q g8 z8 (up _ _ D.rz r5) (i5.at fun o e=>up _ o D.iz e) (j5.at fun o e=>up _ o D.jz e) t8 e8 fun c o c1 c2 c3 c4 e=>up c o c1 (k5 c o c1 c2 c3 c4 e)
theorem ZcM {u v:Bool}{z p r i j a b:Addr}{k:Nat}{us vs:Array Value}{o1 o2:Value}{Q:PySem.Fin->Shared->Prop}(hn:A.handled=none)(D:ZA z p r i j a b)
  (hz:IsZip s.heap z p r .none) (hp:IsPair s.heap p (.ref i) (.ref j)) (hr:IsPair s.heap r o1 o2) (hi:J4 u s.heap i a k) (hj:J4 v s.heap j b k) (ha:J3 u s.heap a us) (hb:J3 v s.heap b vs) (en:us[k]?=none\/vs[k]?=none)
  (q:∀g e,(∀c o,c≠z->c≠r->c≠i->c≠j->s.heap.get? c=some o->g.get? c=some o)->(∃o,g.get? e=some o/\o.cls=.type "StopIteration")->E (.ref e) {s with heap:=g}) :
  wpAny (model prog w) A (Builtin.«zip.__next__» ⟨[.ref z],[]⟩) Q E s:=by
 show wpAny _ _ (field (.ref z) 2 >>= _) _ _ s
 refine Zl (wpAny_field hz rfl (x:=.bool false) rfl ?_)
 show wpAny _ _ (field (.ref z) 3 >>= _) _ _ s
 refine Zl (wpAny_field hz rfl (x:=.ref p) rfl ?_)
 refine Zl (wpAny_seqItems hp rfl ?_)
 show wpAny _ _ (Builtin.SmallTypes.ownedTupleIsFree (.ref z) >>= _) _ _ s
 refine Zl ?_
 unfold Builtin.SmallTypes.ownedTupleIsFree
 refine Zl (wpAny_field hz rfl (x:=.none) rfl (Zm ?_))
 rw[if_pos rfl]
 refine Zl (wpAny_rule (Zl (wpAny_field hz rfl (x:=.ref r) rfl ?_)))
 refine Zl (wpAny_setField_rec hz (by simp) fun g1 z1 s1=>?_)
 replace z1:IsZip g1 z p r .ellipsis:=z1
 refine Zl ?_
 simp only[List.zipIdx_cons,List.zipIdx_nil,List.forIn_cons,List.forIn_nil]
 refine Zl (Zl (wpAny_onRaise ?_))
 show wpAny _ _ (Builtin.SmallTypes.nextOf (.ref i) >>= _) _ _ _
 cases ex:us[k]? with
 |none=>
  refine Zl (Vm hn (hi.ext s1.extBut D.iz) (ha.ext s1.extBut D.az) ex fun g2 e s2 he=>?_)
  obtain⟨oe,hoe,hce⟩:=he
  have z2:IsZip g2 z p r .ellipsis:=s2 _ _ D.iz.symm z1
  have nez:e≠z:=fun x=>by
   subst x
   rw[z2] at hoe
   cases hoe
   simp at hce
  exact wpAny_setField_rec z2 (by simp) fun g3 _ s3=>q g3 e (fun c o c1 _ c3 _ x=>s3.extBut _ _ c1 (s2 _ _ c3 (s1.extBut _ _ c1 x))) ⟨oe,s3.extBut _ _ nez hoe,hce⟩
 |some x=>
  have ey:vs[k]?=none:=by
   rcases en with h|h
   ·rw[ex] at h;cases h
   ·exact h
  refine Zl (Jc (hi.ext s1.extBut D.iz) (ha.ext s1.extBut D.az) ex fun g2 i2 s2=>Zm ?_)
  have r2:IsPair g2 r o1 o2:=s2.extBut _ _ D.ri (s1.extBut _ _ D.rz hr)
  refine Zl (wpAny_seqItems r2 rfl ?_)
  refine Zl (wpAny_updateSeq_pair r2 fun g3 r3 s3=>?_)
  refine Zl (wpAny_letGo (Zm ?_))
  refine Zl (Zl (wpAny_onRaise ?_))
  show wpAny _ _ (Builtin.SmallTypes.nextOf (.ref j) >>= _) _ _ _
  refine Zl (Vm hn (((hj.ext s1.extBut D.jz).ext s2.extBut D.ij.symm).ext s3.extBut D.rj.symm) (((hb.ext s1.extBut D.bz).ext s2.extBut D.bi).ext s3.extBut D.br) ey fun g4 e s4 he=>?_)
  obtain⟨oe,hoe,hce⟩:=he
  have z4:IsZip g4 z p r .ellipsis:=s4 _ _ D.jz.symm (s3.extBut _ _ D.rz.symm (s2.extBut _ _ D.iz.symm z1))
  have nez:e≠z:=fun x=>by
   subst x
   rw[z4] at hoe
   cases hoe
   simp at hce
  exact wpAny_setField_rec z4 (by simp) fun g5 _ s5=>q g5 e (fun c o c1 c2 c3 c4 x=>s5.extBut _ _ c1 (s4 _ _ c4 (s3.extBut _ _ c2 (s2.extBut _ _ c3 (s1.extBut _ _ c1 x))))) ⟨oe,s5.extBut _ _ nez hoe,hce⟩
theorem ZdK {u v:Bool}{z p r i j a b:Addr}{k:Nat}{us vs:Array Value}{o1 o2:Value}{Q:Option Value->Shared->Prop}(hn:A.handled=none)(D:ZA z p r i j a b)
  (hz:IsZip s.heap z p r .none) (hp:IsPair s.heap p (.ref i) (.ref j)) (hr:IsPair s.heap r o1 o2) (hi:J4 u s.heap i a k) (hj:J4 v s.heap j b k) (ha:J3 u s.heap a us) (hb:J3 v s.heap b vs) (en:us[k]?=none\/vs[k]?=none)
  (q:∀g,(∀c o,c≠z->c≠r->c≠i->c≠j->s.heap.get? c=some o->g.get? c=some o)->Q none {s with heap:=g}):wpAny (model prog w) A (pyNext (.ref z)) Q E s:=by
 have tz:s.TypeIs (.ref z) "zip":=⟨_,hz,rfl⟩
 unfold pyNext
 refine Zl (wpAny_attempt (wpAny_callSpecial?_slot (name:=Str.ofString "__next__") tz F.slot_zip_next (wpAny_call_entry F.slot_zip_next tz F.entry_zip_next (ZcM hn D hz hp hr hi hj ha hb en fun g e hk he=>?_) (F.args_zip_next_1 _))))
 obtain⟨o,ho,hc⟩:=he
 refine Zl (wpAny_isInstance (T:="StopIteration") (b:=true) ⟨o,ho,hc⟩ isSubtype_stop ?_)
 exact Zm (q _ hk)
def Zb9 (b:Bool):String:=match b with
 |true => "tuple_iterator"
 |false => "list_iterator"
theorem Zhd {b:Bool}{a:Addr}{us:Array Value}{Q:Value->Shared->Prop}(h:J3 b s.heap a us)(q:Q (.ref s.heap.objs.size) {s with heap:=s.heap.push {cls:=.type (Zb9 b),data:=.fields #[.ref a,.int 0 0]}}):wpAny (model prog w) A (pyIter (.ref a)) Q E s:=by
 cases b
 ·exact wpAny_pyIter_list h q
 ·exact wpAny_pyIter_tuple h q
abbrev zh1 (h:Heap)(u:Bool)(a:Addr):Heap:=h.push {cls:=.type (Zb9 u),data:=.fields #[.ref a,.int 0 0]}
abbrev zh2 (h:Heap)(u v:Bool)(a b:Addr):Heap:=(zh1 h u a).push {cls:=.type (Zb9 v),data:=.fields #[.ref b,.int 0 0]}
abbrev zh3 (h:Heap)(u v:Bool)(a b:Addr):Heap:=(zh2 h u v a b).push {cls:=.type "tuple",data:=.seq #[.ref h.objs.size,.ref (zh1 h u a).objs.size]}
abbrev zh4 (h:Heap)(u v:Bool)(a b:Addr):Heap:=(zh3 h u v a b).push {cls:=.type "tuple",data:=.seq #[.none,.none]}
abbrev zh5 (h:Heap)(u v:Bool)(a b:Addr):Heap:=(zh4 h u v a b).push {cls:=.type "zip",data:=.fields #[.none,.bool false,.bool false,.ref (zh2 h u v a b).objs.size,.ref (zh3 h u v a b).objs.size]}
theorem J3.push {b:Bool}{h:Heap}{a:Addr}{us:Array Value}(x:J3 b h a us)(o:Obj):J3 b (h.push o) a us:=x.at fun _ e=>Zn _ e
theorem ZdJ (u v:Bool)(a b:Addr)(us vs:Array Value) :
  Meets (Builtin.«zip.__new__» ⟨[.type "zip",.ref a,.ref b],[]⟩) (fun _ R s=>J3 u s.heap a us/\J3 v s.heap b vs/\R (.ok (.ret (.ref (zh4 s.heap u v a b).objs.size))) {s with heap:=zh5 s.heap u v a b}):=
 .of_wp fun prog w A R s h=>by
  obtain⟨hh,gg,dr,tk,os⟩:=s
  obtain⟨ha,hb,h⟩:=h
  have sub:=sub_zip
  have hA:J3 u (Shared.heap ⟨hh,gg,dr,tk,os⟩) a us:=ha
  have hB:J3 v (Shared.heap ⟨zh1 hh u a,gg,dr,tk,os⟩) b vs:=J3.push hb _
  wp_walk using Zhd hA,Zhd hB
  exact⟨_,rfl,h⟩
theorem ZdB {u v:Bool}{a b:Addr}{us vs:Array Value}{Q:Value->Shared->Prop}(ha:J3 u s.heap a us)(hb:J3 v s.heap b vs)
  (q:∀g,IsZip g (s.heap.objs.size+4) (s.heap.objs.size+2) (s.heap.objs.size+3) .none->IsPair g (s.heap.objs.size+2) (.ref s.heap.objs.size) (.ref (s.heap.objs.size+1))->IsPair g (s.heap.objs.size+3) .none .none->
   J4 u g s.heap.objs.size a 0->J4 v g (s.heap.objs.size+1) b 0->(∀c o,s.heap.get? c=some o->g.get? c=some o)->Q (.ref (s.heap.objs.size+4)) {s with heap:=g}) :
  wpAny (model prog w) A (call (.type "zip") [.ref a,.ref b]) Q E s:=by
 refine callType_new F.called_zip (by decide) (F.typeCall_zip_2 _ _) (F.newCall_zip_2 _ _) (fun obj=>F.args_object_init_3 obj _ _) F.entry_zip_new (ZdJ u v a b us vs) ⟨ha,hb,?_⟩
 have e1:(zh1 s.heap u a).objs.size=s.heap.objs.size+1:=Heap.size_push ..
 have e2:(zh2 s.heap u v a b).objs.size=s.heap.objs.size+2:=by rw[Heap.size_push,e1]
 have e3:(zh3 s.heap u v a b).objs.size=s.heap.objs.size+3:=by rw[Heap.size_push,e2]
 have e4:(zh4 s.heap u v a b).objs.size=s.heap.objs.size+4:=by rw[Heap.size_push,e3]
 have w5:(zh5 s.heap u v a b).get? (zh4 s.heap u v a b).objs.size=some _:=Zo _ rfl
 have w4:(zh5 s.heap u v a b).get? (zh3 s.heap u v a b).objs.size=some _:=Zn _ (Zo _ rfl)
 have w3:(zh5 s.heap u v a b).get? (zh2 s.heap u v a b).objs.size=some _:=Zn _ (Zn _ (Zo _ rfl))
 have w2:(zh5 s.heap u v a b).get? (zh1 s.heap u a).objs.size=some _:=Zn _ (Zn _ (Zn _ (Zo _ rfl)))
 have w1:(zh5 s.heap u v a b).get? s.heap.objs.size=some _:=Zn _ (Zn _ (Zn _ (Zn _ (Zo _ rfl))))
 have it:∀(x:Bool) (g:Heap) (j c:Addr),g.get? j=some {cls:=.type (Zb9 x),data:=.fields #[.ref c,.int 0 0]}->J4 x g j c 0:=fun x g j c e=>by
  cases x <;> exact⟨_,e,rfl,rfl⟩
 show _/\_
 rw[e2,e3,e4] at w5
 rw[e1,e2] at w3
 rw[e3] at w4
 rw[e1] at w2
 rw[e4]
 exact⟨⟨_,w5,rfl⟩,q _ w5 w3 w4 (it u _ _ _ w1) (it v _ _ _ w2) fun c o x=>Zn _ (Zn _ (Zn _ (Zn _ (Zn _ x))))⟩
end
end PyY
namespace L2
open PySem PySem.Spec PyProof.Rows
def UG (b:Bool)(K:PySem.W.Frag)(H:Hp)(a:Addr)(xs:List V):Prop:=match b with
 |true=>Wp K H a xs
 |false=>Wb K H a xs
theorem UG.mono {b:Bool}{K:PySem.W.Frag}{H H':Hp}{a:Addr}{xs:List V}(h:UG b K H a xs)(s:Same H H'):UG b K H' a xs:=by
 cases b
 ·exact s.seq h
 ·exact s.tup h
theorem UG.tup {K:PySem.W.Frag}{H:Hp}{a:Addr}{xs:List V}(h:Wp K H a xs):UG true K H a xs:=h
section
variable {X:Cx}{pins:List (Addr×Obj)}{σ:St}{H:Hp}{s:Shared}
theorem Inv.sqB {b:Bool}{a:Addr}{xs:List V}(I:Inv X pins σ H s)(h:UG b X.K H a xs):∃its,ZB xs its/\PyY.J3 b s.heap a its.toArray:=by
 cases b
 ·obtain⟨its,rv,p,_⟩:=I.list h
  exact⟨its,rv,p.isList⟩
 ·obtain⟨its,rv,p,_⟩:=I.tuple h
  exact⟨its,rv,p⟩
theorem Inv.sqB_inj {b:Bool}{a:Addr}{xs ys:List V}(I:Inv X pins σ H s)(h:UG b X.K H a xs)(h':UG b X.K H a ys):xs=ys:=by
 cases b
 ·exact I.list_inj h h'
 ·exact I.tuple_inj h h'
end
def Itz (K:PySem.W.Frag)(u v:Bool)(a b:Addr):It:=
  ⟨fun i H=>∃xs ys x y,UG u K H a xs/\UG v K H b ys/\xs[i]?=some x/\ys[i]?=some y,
   fun i H x H'=>∃T x1 y1,x=.ref T/\H T=none/\H'=upd H T (.tup [x1,y1])/\(∀xs,UG u K H a xs->xs[i]?=some x1)/\∀ys,UG v K H b ys->ys[i]?=some y1,
   fun i H=>∃xs ys,UG u K H a xs/\UG v K H b ys/\(xs.length<=i\/ys.length<=i)⟩
theorem ZdQ {P:Program}{w:World}{K:PySem.W.Frag}{elts:List Expr}{x1}{pos:Pos}(u v:Bool)(a b z p r i j:Addr)(D:PyY.ZA z p r i j a b) :
  ZaR P w K (.Tuple elts x1 pos) (Itz K u v a b) [z,p,r,i,j] z (fun k h=>IsZip h z p r .none/\IsPair h p (.ref i) (.ref j)/\(∃o1 o2,IsPair h r o1 o2)/\PyY.J4 u h i a k/\PyY.J4 v h j b k) where
 mem:=by simp
 obj:=fun k h st c hc=>by
  obtain⟨hz,hp,⟨o1,o2,hr⟩,hi,hj⟩:=st
  simp only[List.mem_cons,List.not_mem_nil,or_false] at hc
  rcases hc with rfl|rfl|rfl|rfl|rfl
  ·exact⟨_,hz,fun v z=>by
    have z':Data.fields _=Data.cell v:=z
    cases z'⟩
  ·exact⟨_,hp,fun v z=>by
    have z':Data.seq _ _=Data.cell v:=z
    cases z'⟩
  ·exact⟨_,hr,fun v z=>by
    have z':Data.seq _ _=Data.cell v:=z
    cases z'⟩
  ·exact hi.obj
  ·exact hj.obj
 keep:=fun k h h' st kk=>by
  obtain⟨hz,hp,⟨o1,o2,hr⟩,hi,hj⟩:=st
  exact⟨kk z (by simp) _ hz,kk p (by simp) _ hp,⟨o1,o2,kk r (by simp) _ hr⟩,hi.at fun o q=>kk i (by simp) o q,hj.at fun o q=>kk j (by simp) o q⟩
 item:=by
  intro X hP hw hK hc k pins s σ H E I hf st hg
  subst hP hw hK
  obtain⟨hz,hp,⟨o1,o2,hr⟩,hi,hj⟩:=st
  obtain⟨xs,ys,x,y,hA,hB,hx,hy⟩:=hg
  obtain⟨its,rv,pa⟩:=I.sqB hA
  obtain⟨jts,rw',pb⟩:=I.sqB hB
  obtain⟨ux,hux,rux⟩:=rv.get hx
  obtain⟨uy,huy,ruy⟩:=rw'.get hy
  refine PyY.ZcN D hz hp hr hi hj pa pb (x:=ux) (y:=uy) (by simpa using hux) (by simpa using huy) fun h1 z1 r1 i1 j1 t1 sz1 k1=>?_
  refine⟨_,rfl,wpAny_letOwnedTupleGo_zip z1 fun h2 z2 s2=>?_⟩
  have lt:∀c∈[z,p,r,i,j],c<s.heap.objs.size:=fun c hc'=>by
   simp only[List.mem_cons,List.not_mem_nil,or_false] at hc'
   rcases hc' with rfl|rfl|rfl|rfl|rfl
   ·exact Zp hz
   ·exact Zp hp
   ·exact Zp hr
   ·obtain⟨o,e,_⟩:=hi.obj;exact Zp e
   ·obtain⟨o,e,_⟩:=hj.obj;exact Zp e
  have s3:Heap.SameBut z h1 h2:=s2
  have t2:IsPair h2 s.heap.objs.size ux uy:=(s3.2 _ (Nat.ne_of_gt (lt z (by simp)))).trans t1
  have nT:H s.heap.objs.size=none:=I.hok.fresh (Zq _)
  have p2:IsPair h2 p (.ref i) (.ref j):=(s3.2 _ D.pz).trans (k1 _ _ D.pz D.pr D.pi D.pj hp)
  have r2:IsPair h2 r ux uy:=(s3.2 _ D.rz).trans r1
  have i2:=i1.ext s3.extBut D.iz
  have j2:=j1.ext s3.extBut D.jz
  have I2:=I.turnLay (t':=s.toks) (h':=h2) (ts:=[z,p,r,i,j]) (T:=s.heap.objs.size) (o:=.tup [x,y]) (fun c o hc' q=>?_) (fun c hc'=>?_) hf (Zq _) ⟨by show 2<=sizeLine;decide,[ux,uy],.cons rux (.cons ruy .nil),_,t2,rfl,0,rfl⟩
  ·refine⟨.ref s.heap.objs.size,_,I2,rfl,⟨_,x,y,rfl,nT,rfl,fun zs hzs=>by rw[I.sqB_inj hzs hA];exact hx,fun zs hzs=>by rw[I.sqB_inj hzs hB];exact hy⟩,⟨z2,p2,⟨_,_,r2⟩,i2,j2⟩,fun c hc'=>?_⟩
   rw[Zw (Nat.ne_of_lt (lt c hc'))]
   exact (hf c hc').1
  ·have q1:c≠z:=fun e=>hc' (by simp[e])
   have q2:c≠r:=fun e=>hc' (by simp[e])
   have q3:c≠i:=fun e=>hc' (by simp[e])
   have q4:c≠j:=fun e=>hc' (by simp[e])
   exact (s3.2 c q1).trans (k1 c o q1 q2 q3 q4 q)
  ·simp only[List.mem_cons,List.not_mem_nil,or_false] at hc'
   rcases hc' with rfl|rfl|rfl|rfl|rfl
   ·exact⟨_,z2⟩
   ·exact⟨_,p2⟩
   ·exact⟨_,r2⟩
   ·obtain⟨o,e,_⟩:=i2.obj;exact⟨o,e⟩
   ·obtain⟨o,e,_⟩:=j2.obj;exact⟨o,e⟩
 done:=by
  intro X hP hw hK hc k pins s σ H E I hf st hg
  subst hP hw hK
  obtain⟨hz,hp,⟨o1,o2,hr⟩,hi,hj⟩:=st
  obtain⟨xs,ys,hA,hB,hl⟩:=hg
  obtain⟨its,rv,pa⟩:=I.sqB hA
  obtain⟨jts,rw',pb⟩:=I.sqB hB
  have l1:=rv.length
  have l2:=rw'.length
  refine PyY.ZdK (I.ok.hd hc) D hz hp hr hi hj pa pb ?_ fun h1 k1=>⟨rfl,I.turnedL (t':=s.toks) (ts:=[z,p,r,i,j]) (fun c o hc' q=>?_) hf⟩
  ·rcases hl with h|h
   ·exact .inl (by simp;omega)
   ·exact .inr (by simp;omega)
  ·exact k1 c o (fun e=>hc' (by simp[e])) (fun e=>hc' (by simp[e])) (fun e=>hc' (by simp[e])) (fun e=>hc' (by simp[e])) q
 self:=fun _ _ _ _ _ st h=>wpAny_pyIter_zip st.1 h
structure Zfv (J:It)(At:Hp->Prop)(ps:List (V×V)):Prop where
 go:∀i H,At H->i<ps.length->J.go i H
 yld:∀i H x H2,At H->J.yld i H x H2->∃T y z,x=.ref T/\H T=none/\H2=upd H T (.tup [y,z])/\ps[i]?=some (y,z)
 stop:∀i H,At H->ps.length<=i->J.stop i H
theorem ZiV {K:PySem.W.Frag}{u v:Bool}{a b:Addr}{xs ys:List V}:Zfv (Itz K u v a b) (fun H=>UG u K H a xs/\UG v K H b ys) (xs.zip ys) where
 go:=fun i H h hi=>by
  rw[List.length_zip] at hi
  exact⟨xs,ys,xs[i]'(by omega),ys[i]'(by omega),h.1,h.2,by simp,by simp⟩
 yld:=fun i H x H2 h hy=>by
  obtain⟨T,y,z,e,hT,e2,q1,q2⟩:=hy
  refine⟨T,y,z,e,hT,e2,?_⟩
  rw[List.getElem?_zip_eq_some]
  exact⟨q1 xs h.1,q2 ys h.2⟩
 stop:=fun i H h hi=>by
  rw[List.length_zip] at hi
  exact⟨xs,ys,h.1,h.2,by omega⟩
def ZjF (K:PySem.W.Frag)(ta:TA):TI:=fun σ H R=>ta σ H fun vs H1=>∃a b u v xs ys Hx,vs=[.ref a,.ref b]/\UG u K Hx a xs/\UG v K Hx b ys/\Same Hx H1/\∀J At,Zfv J At (xs.zip ys)->(∀H',Same Hx H'->At H')->R J H1
theorem Zkj {X:Cx}{elts:List Expr}{x1}{pt:Pos}{l m:Expr}{ta:TA}{p pos:Pos}(hm:X.mg "zip"=none)(ha:PA X [l,m] ta)(hg:Y2 X.env.scope "zip"=true:=by kernel_rfl)(hs:starEach [l,m] X.env=(false,eval l X.env)::starEach [m] X.env:=by rfl)(hs2:(backTo pos (starEach [m] X.env)).any (·.1)=false:=by rfl) :
  PI X (.Tuple elts x1 pt) (.Call (.Name "zip" p) [l,m] [] pos) (ZjF X.K ta):=by
 intro pins s σ H R I h
 refine Call_ (JO I (XE hg) hm (show bootBuiltins "zip"=some (.type "zip") by kernel_rfl) (PyProof.Rows.callWith_type1 (Z7 (ha pos pins s σ H _ I h) fun us s1 ⟨vs,H1,I1,r1,q1⟩=>?_) hs hs2))
 obtain⟨a,b,u,v,xs,ys,Hx,e,hA,hB,sm,q⟩:=q1
 subst e
 cases r1 with
 |cons r rr=>
  cases rr with
  |cons r' rr=>
   cases rr
   cases (show _=Value.ref a from r)
   cases (show _=Value.ref b from r')
   obtain⟨its,rv,pa⟩:=I1.sqB (hA.mono sm)
   obtain⟨jts,rw',pb⟩:=I1.sqB (hB.mono sm)
   have la:a<s1.heap.objs.size:=by
    cases u
    ·obtain⟨o,e,_⟩:=(show s1.heap.IsList a _ from pa);exact Zp e
    ·obtain⟨o,e,_⟩:=(show s1.heap.IsTuple a _ from pa);exact Zp e
   have lb:b<s1.heap.objs.size:=by
    cases v
    ·obtain⟨o,e,_⟩:=(show s1.heap.IsList b _ from pb);exact Zp e
    ·obtain⟨o,e,_⟩:=(show s1.heap.IsTuple b _ from pb);exact Zp e
   have nn:∀{c d:Nat},c<d->(c:Addr)≠d:=fun h=>Nat.ne_of_lt h
   have D:PyY.ZA (s1.heap.objs.size+4) (s1.heap.objs.size+2) (s1.heap.objs.size+3) s1.heap.objs.size (s1.heap.objs.size+1) a b:=by
    have la':(a:Nat)<s1.heap.objs.size:=la
    have lb':(b:Nat)<s1.heap.objs.size:=lb
    constructor <;> first|exact Nat.ne_of_lt (Nat.lt_of_lt_of_le la (Nat.le_add_right _ _))|exact Nat.ne_of_lt (Nat.lt_of_lt_of_le lb (Nat.le_add_right _ _))|exact Nat.ne_of_lt la|exact Nat.ne_of_lt lb|exact Nat.ne_of_lt (by omega)|exact Nat.ne_of_gt (by omega)
   refine PyY.ZdB pa pb fun g gz gp gr gi gj gk=>wpAny_pyIter_zip gz ?_
   have sz:∀c∈[s1.heap.objs.size+4,s1.heap.objs.size+2,s1.heap.objs.size+3,s1.heap.objs.size,s1.heap.objs.size+1],s1.heap.objs.size<=c:=fun c hc=>by
    simp only[List.mem_cons,List.not_mem_nil,or_false] at hc
    rcases hc with rfl|rfl|rfl|rfl|rfl
    ·exact Nat.le_add_right _ _
    ·exact Nat.le_add_right _ _
    ·exact Nat.le_add_right _ _
    ·exact Zq _
    ·exact Nat.le_add_right _ _
   exact⟨_,[s1.heap.objs.size+4,s1.heap.objs.size+2,s1.heap.objs.size+3,s1.heap.objs.size,s1.heap.objs.size+1],_,_,H1,rfl,I1.kept (t':=s1.toks) gk,ZdQ u v a b _ _ _ _ _ D,⟨gz,gp,⟨_,_,gr⟩,gi,gj⟩,fun c hc=>I1.fpOk (sz c hc) (I1.hok.fresh (sz c hc)),q _ _ ZiV fun H' s'=>⟨hA.mono s',hB.mono s'⟩⟩
theorem Zkk (K:PySem.W.Frag){X:Cx}{elts:List Expr}{x1}{pt:Pos}{l m:Expr}{ta:TA}{p pos:Pos}(hm:X.mg "zip"=none)(ha:PA X [l,m] ta)(hK:X.K=K:=by rfl)(hg:Y2 X.env.scope "zip"=true:=by kernel_rfl)(hs:starEach [l,m] X.env=(false,eval l X.env)::starEach [m] X.env:=by rfl)(hs2:(backTo pos (starEach [m] X.env)).any (·.1)=false:=by rfl) :
  PI X (.Tuple elts x1 pt) (.Call (.Name "zip" p) [l,m] [] pos) (ZjF K ta):=hK▸Zkj hm ha hg hs hs2
end L2
namespace C27
open PySem L2 PySem.Spec PyProof.Rows
open Tb Pm
def DT (H:Hp)(d:Addr)(ds:List (List Nat)):Prop:=∃rs:List Addr,H d=some (.tup (rs.map V.ref))/\rs.length=ds.length/\∀(i:Nat) r,rs[i]?=some r->TT2 H r ((ds.getD i []).map nV)
theorem DT.row {H:Hp}{g:Addr}{t:List (List Nat)}(G:DT H g t){rs:List Addr}(h:H g=some (.tup (rs.map V.ref))){i:Nat}{y:V}(hy:(rs.map V.ref)[i]?=some y):∃r,y=.ref r/\i<t.length/\TT2 H r ((t.getD i []).map nV):=by
 obtain⟨rs',h1,h2,h3⟩:=G
 have ers:rs'=rs:=by
  rw[h] at h1
  have hh:=Option.some.inj h1
  injection hh with hh
  exact ((List.map_inj_right (fun x y e=>by injection e)).mp hh).symm
 subst ers
 rw[Zc] at hy
 cases e:rs'[i]? with
 |none=>rw[e] at hy;cases hy
 |some r=>
  rw[e] at hy
  exact⟨r,(Option.some.inj hy).symm,by have:=(List.getElem?_eq_some_iff.mp e).1;omega,h3 i r e⟩
theorem Zag {l:List Nat}{i:Nat}(h:i<l.length):UA (l.map nV) (i:Int)=some (.int (l.getD i 0:Nat)):=YJ (by rw[Zc,Z0 h];rfl)
theorem ZjO (a b:Nat):decide (V.int ((a:Nat):Int)=V.int ((b:Nat):Int))=decide (a=b):=by
 rw[YT]
 by_cases e:a=b
 ·rw[decide_eq_true e,e];exact beq_self_eq_true _
 ·rw[decide_eq_false e];exact beq_eq_false_iff_ne.mpr (by omega)
theorem ZjM {J:It}{At:Hp->Prop}{xs:List V}(S:ZjX J At xs):Zfv J At (((List.range xs.length).map nV).zip xs) where
 go:=fun i H h hi=>S.go i H h (by rw[List.length_zip,Za,Zg,Nat.min_self] at hi;exact hi)
 yld:=fun i H x H2 h hy=>by
  obtain⟨T,y,rfl,hT,rfl,e⟩:=S.yld i H x H2 h hy
  have hi:=(List.getElem?_eq_some_iff.mp e).1
  refine⟨T,.int i,y,rfl,hT,rfl,?_⟩
  rw[List.getElem?_zip_eq_some,Zc,List.getElem?_range hi]
  exact⟨rfl,e⟩
 stop:=fun i H h hi=>S.stop i H h (by rw[List.length_zip,Za,Zg,Nat.min_self] at hi;exact hi)
theorem Zip {xs:List V}{i:Nat}{x y:V}(h:(((List.range xs.length).map nV).zip xs)[i]?=some (x,y)):i<xs.length/\x=.int (i:Nat)/\xs[i]?=some y:=by
 rw[List.getElem?_zip_eq_some,Zc] at h
 obtain⟨h1,h2⟩:=h
 have hi:=(List.getElem?_eq_some_iff.mp h2).1
 rw[List.getElem?_range hi] at h1
 exact⟨hi,(Option.some.inj h1).symm,h2⟩
section
variable {P:Program}{w:World}{K:PySem.W.Frag}{mg:Str->Option Value}{base:Heap}
end
theorem DT.ct {H:Hp}{d:Addr}{ds:List (List Nat)}(h:CT H d ds):DT H d ds:=by
 obtain⟨rs,h1,h2,h3⟩:=h
 exact⟨rs,h1,h2,fun i r hr=>.inl (h3 i r hr)⟩
theorem ZdS {H:Hp}{a D:Addr}{ys zs:List V}{o:HO}(h:H a=some (.tup ys))(hD:H D=some (.lst zs)):upd H D o a=some (.tup ys):=by
 rw[Zw (fun z=>by rw[z,hD] at h;cases h)];exact h
theorem XM {J:It}{own:List Str}{caps:List Nat}{te:TE}{σ:L2.St}{H:Hp}{Q:VK}{xs:List V}(S:Wj J H xs)(cs:L2.St)(hcs:Jz own caps σ=none::cs)(hn:xs.length<=1000)(F:Nat->List Nat)
  (hs:∀(i:Nat) y,xs[i]?=some y->∀H',Same H H'->∀R:VK,(∀r H5,Same H' H5->H5 r=some (.tup ((F i).map nV))->R (.ref r) H5)->te (some y::cs) H' R)
  (hd:∀D (ws:List Addr) H',H D=none->Same H H'->H' D=some (.lst (ws.map V.ref))->ws.length=xs.length->(∀(i:Nat) w,ws[i]?=some w->H' w=some (.tup ((F i).map nV)))->Q (.ref D) H'):WX own caps (Yg 0) WG te σ Q J H:=by
 refine WN (W:=Addr) id (fun i w H=>H w=some (.tup ((F i).map nV))) (fun _ _=>True) S cs hcs hn (fun i w H H' s h=>s _ _ h) (fun w H H' s h=>trivial) (fun i w H0 H1 D o ys ys' h h0 h1 h2=>ZdS h h2) (fun i y hy H' s R k=>hs i y hy H' s R fun r H5 s5 h5=>k r H5 s5 h5 trivial) fun D ws H' nD s hD wl hw _=>hd D ws H' nD s hD wl fun i w hi=>(hw i w hi).1
theorem ZcE {H:Hp}{c:Addr}{ws:List Addr}{n:Nat}{F:Nat->List Nat}(hc:H c=some (.tup (ws.map V.ref)))(wl:ws.length=n)(hw:∀(i:Nat) w,ws[i]?=some w->H w=some (.tup ((F i).map nV))):CT H c ((List.range n).map F):=by
 refine⟨ws,hc,by rw[Za,Zg];exact wl,fun i r hr=>?_⟩
 have hi:=(List.getElem?_eq_some_iff.mp hr).1
 rw[Zb,Zc,List.getElem?_range (by omega)]
 exact hw i r hr
theorem Zdx {K:PySem.W.Frag}{J:It}{At:Hp->Prop}{own:List Str}{caps:List Nat}{te:TE}{σ:L2.St}{H Hx:Hp}{Q:VK}{ps:List (V×V)}(S:Zfv J At ps)(hAt:∀H',Same Hx H'->At H')(sx:Same Hx H)(cs:L2.St)(hcs:Jz own caps σ=none::none::cs)(F:Nat->List Int)(hz:ps.length<=1000)
  (hs:∀(i:Nat) x y H',ps[i]?=some (x,y)->Same H H'->∀R:VK,(∀r H5,Same H' H5->H5 r=some (.tup ((F i).map V.int))->R (.ref r) H5)->te (some x::some y::cs) H' R)
  (hd:∀D (rs:List Addr) H',H D=none->Same H H'->H' D=some (.lst (rs.map V.ref))->rs.length=ps.length->(∀(i:Nat) r,rs[i]?=some r->H' r=some (.tup ((F i).map V.int)))->Q (.ref D) H'):WX own caps (Zgs K 2 (XF (Yg 0) (XF (Yg 1) Zgt))) WG te σ Q J H:=by
 have sz:(16777216:Nat)=sizeLine:=by decide
 intro D hD
 refine⟨fun i m σ' H'=>m=ps.length-i/\i<=ps.length/\(∃v0 v1,σ'=v0::v1::cs)/\Same H H'/\∃rs:List Addr,H' D=some (.lst (rs.map V.ref))/\rs.length=i/\∀(i:Nat) r,rs[i]?=some r->H' r=some (.tup ((F i).map V.int)),⟨_,rfl,Nat.zero_le _,⟨none,none,hcs⟩,Same.upd hD,[],Zt,rfl,fun i r hr=>by cases hr⟩,?_⟩
 rintro i m σ' H' ⟨rfl,hi,⟨v0,v1,rfl⟩,s,rs,hl,rl,hr⟩
 have at':=hAt H' (sx.trans s)
 by_cases hlt:i<ps.length
 ·refine .inr ⟨S.go i H' at' hlt,fun σ2 H2=>(∃v0 v1,σ2=v0::v1::cs)/\Same H H2/\∃rs:List Addr,H2 D=some (.lst (rs.map V.ref))/\rs.length=i+1/\∀(i:Nat) r,rs[i]?=some r->H2 r=some (.tup ((F i).map V.int)),fun σ2 H2 z=>⟨ps.length-(i+1),by omega,rfl,hlt,z.1,z.2.1,z.2.2⟩,fun x H2 hy=>?_⟩
  obtain⟨T,y,z,rfl,hT,rfl,hx⟩:=S.yld i H' x H2 at' hy
  refine⟨T,_,rfl,.of Zt,rfl,_,_,rfl,_,_,rfl,rfl,?_⟩
  refine tT (A:=fun H4=>te (some y::some z::cs) H4 fun v H5=>∃xs,H5 D=some (.lst xs)/\xs.length<sizeLine/\(∃v0 v1,(some y::some z::cs:L2.St)=v0::v1::cs)/\Same H (upd H5 D (.lst (xs++[v])))/\∃rs:List Addr,(upd H5 D (.lst (xs++[v]))) D=some (.lst (rs.map V.ref))/\rs.length=i+1/\∀(i:Nat) r,rs[i]?=some r->(upd H5 D (.lst (xs++[v]))) r=some (.tup ((F i).map V.int))) ?_
  refine hs i y z _ hx (s.trans (Same.upd hT)) _ fun r H5 s5 h5=>?_
  have s4:=(Same.upd (H:=H') (o:=.tup [y,z]) hT).trans s5
  have hD5:=s4 _ _ hl
  refine⟨_,hD5,by rw[Za];omega,⟨_,_,rfl⟩,(s.trans s4).updr hD,rs++[r],by rw[Zt,List.map_append];rfl,by rw[Zd,rl];rfl,fun j c hc=>?_⟩
  have nt:∀{c:Addr}{ws:List V},H5 c=some (.tup ws)->upd H5 D (.lst (rs.map V.ref++[.ref r])) c=some (.tup ws):=fun {c ws} h=>by
   rw[Zw (fun z=>by rw[z,hD5] at h;cases h)]
   exact h
  by_cases hj:j<rs.length
  ·rw[List.getElem?_append_left hj] at hc
   exact nt (s4 _ _ (hr j c hc))
  ·rw[List.getElem?_append_right (by omega)] at hc
   have e0:j-rs.length=0:=by
    apply Classical.byContradiction
    intro z
    rw[List.getElem?_eq_none (by rw[Zk];omega)] at hc
    cases hc
   rw[e0] at hc
   cases hc
   have:j=i:=by omega
   subst this
   exact nt h5
 ·have e:i=ps.length:=by omega
  subst e
  exact .inl ⟨S.stop _ H' at' (Zq _),hd D rs H' hD s hl rl hr⟩
section
variable {P:Program}{w:World}{K:PySem.W.Frag}{mg:Str->Option Value}{base:Heap}
end
structure BlZ (mg:Str->Option Value):Prop where
 zip:mg "zip"=none
theorem ZdP {rs ss:List Addr}{i:Nat}{x y:V}(h:((rs.map V.ref).zip (ss.map V.ref))[i]?=some (x,y)):∃a b,rs[i]?=some a/\ss[i]?=some b/\x=.ref a/\y=.ref b:=by
 rw[List.getElem?_zip_eq_some,Zc,Zc] at h
 obtain⟨h1,h2⟩:=h
 cases e1:rs[i]? with
 |none=>rw[e1] at h1;cases h1
 |some a=>
  cases e2:ss[i]? with
  |none=>rw[e2] at h2;cases h2
  |some b=>
   rw[e1] at h1
   rw[e2] at h2
   exact⟨a,b,rfl,rfl,(Option.some.inj h1).symm,(Option.some.inj h2).symm⟩
theorem Ziw {t ds es:List (List Nat)}{m m2 a:Nat}(D:Dd t m ds)(E:Dd t m2 es)(ha:a<t.length):ds.getD a []++(es.getD a []).map (m + ·)=(Vn t.length (m+m2) (bsF m ds es)).getD a []:=by
 have l1:=D.rl a ha
 have l2:=E.rl a ha
 refine ZfR (by rw[Zd,Za,l1,l2,ZeN ha]) fun i hi=>?_
 rw[Zd,Za,l1,l2] at hi
 rw[show ((Vn t.length (m+m2) (bsF m ds es)).getD a []).getD i 0=bsF m ds es a i from JM ha hi]
 unfold bsF
 by_cases h:i<m
 ·rw[if_pos h,Zb,List.getElem?_append_left (by omega),Z0 (by omega)]
  rfl
 ·rw[if_neg h,Zb,List.getElem?_append_right (by omega),Zc,l1,Z0 (by omega)]
  rfl
def ZjI (m:Nat):V->V
 | .int z=>.int ((m:Int)+z)
 |y=>y
theorem Zfc (m:Nat)(xs:List Nat):(xs.map nV).map (ZjI m)=(xs.map (m + ·)).map nV:=by
 rw[List.map_map,List.map_map]
 refine List.map_congr_left fun x _=>?_
 show V.int ((m:Int)+(x:Int))=V.int (((m+x:Nat)):Int)
 rw[Int.natCast_add]
section
variable {P:Program}{w:World}{K:PySem.W.Frag}{mg:Str->Option Value}{base:Heap}
end
end C27
namespace L2
open PySem PySem.Spec PyProof.Rows
section
variable {X:Cx}
theorem ZbC (K:PySem.W.Frag)(hK:X.K=K:=by rfl):ZW X (.builtin "sorted") (fun xs H Q=>∃(a:Addr) (ns:List Int),xs=[.ref a]/\Wb K H a (ns.map V.int)/\ns.length<64/\∀l ns',H l=none->List.Perm ns' ns->ns'.Pairwise (· ≤ ·)->Q (.ref l) (upd H l (.lst (ns'.map V.int)))):=by
 subst hK
 intro pins s σ H xs us Q I r h
 obtain⟨a,ns,rfl,hq,h64,q⟩:=h
 obtain⟨u,rfl,ru⟩:=vals1 r
 cases ru
 obtain⟨its,rv,p,hz⟩:=I.list hq
 have hl:its.length=ns.length:=by rw[<-rv.length,Za]
 have szl:(16777216:Nat)=sizeLine:=by decide
 refine sorted_ints p.isList (ns:=ns) (Um rv) (by omega) fun out ns' h1 h2 h3=>?_
 obtain⟨e1,he⟩:=sortedAll_at s.heap its out
 have old:∀b o,s.heap.get? b=some o->(sortedAll s.heap its out).get? b=some o:=fun b o e=>sortedAll_old e
 generalize sortedAll s.heap its out=h' at he old ⊢
 have hle:s.heap.objs.size<=s.heap.objs.size+1:=Nat.le_succ _
 generalize s.heap.objs.size+1=D at he hle ⊢
 have fin:=q D ns' (I.hok.fresh hle) h2 h3
 have I':Inv X pins σ (upd H D (.lst (ns'.map V.int))) {s with heap:=h',toks:=s.toks}:=I.laid (a:=D) (o:=.lst (ns'.map V.int)) (t':=s.toks) old hle ⟨by rw[Za,h2.length_eq];omega,out.toList,e1,J8 h1,by simpa using he⟩
 exact⟨.ref D,_,I',rfl,fin⟩
end
end L2
namespace C27
open PySem L2 PySem.Spec PyProof.Rows
open Tb Pm
section
variable {P:Program}{w:World}{K:PySem.W.Frag}{mg:Str->Option Value}{base:Heap}
end
section
variable {P:Program}{w:World}{K:PySem.W.Frag}{mg:Str->Option Value}{base:Heap}
end
abbrev Za8:Stmt:=top 30
def J7 (H:Hp)(L:Addr)(bs:List Addr)(yss:List (List Nat)):Prop:=H L=some (.lst (bs.map V.ref))/\bs.length=yss.length/\∀(i:Nat) b,bs[i]?=some b->b≠L/\H b=some (.lst ((yss.getD i []).map nV))
theorem J7.mono {H H':Hp}{L:Addr}{bs:List Addr}{yss:List (List Nat)}(s:Same H H')(R:J7 H L bs yss):J7 H' L bs yss:=⟨s _ _ R.1,R.2.1,fun i b hb=>⟨(R.2.2 i b hb).1,s _ _ (R.2.2 i b hb).2⟩⟩
theorem J7.push {H:Hp}{L:Addr}{bs:List Addr}{yss:List (List Nat)}{b:Addr}{ys:List Nat}(R:J7 H L bs yss)(hn:b≠L)(h:H b=some (.lst (ys.map nV))):J7 (upd H L (.lst (bs.map V.ref++[.ref b]))) L (bs++[b]) (yss++[ys]):=by
 refine⟨by rw[Zt,List.map_append];rfl,by rw[Zd,Zd,R.2.1];rfl,fun i c hc=>?_⟩
 have bl:=R.2.1
 by_cases hi:i<bs.length
 ·rw[List.getElem?_append_left hi] at hc
  obtain⟨h1,h2⟩:=R.2.2 i c hc
  have e:(yss++[ys]).getD i []=yss.getD i []:=by rw[Zb,List.getElem?_append_left (by omega),Zb]
  rw[e]
  exact⟨h1,by rw[Zw h1];exact h2⟩
 ·rw[List.getElem?_append_right (by omega)] at hc
  have hi0:i-bs.length=0:=by
   apply Classical.byContradiction
   intro z
   rw[List.getElem?_eq_none (by rw[Zk];omega)] at hc
   cases hc
  rw[hi0] at hc
  cases hc
  have e:(yss++[ys]).getD i []=ys:=by rw[Zb,List.getElem?_append_right (by omega),show i-yss.length=0 by omega];rfl
  rw[e]
  exact⟨hn,by rw[Zw hn];exact h⟩
theorem J7.ref {H:Hp}{L:Addr}{bs:List Addr}{yss:List (List Nat)}(R:J7 H L bs yss){i:Nat}{y:V}(h:(bs.map V.ref)[i]?=some y):∃b,y=.ref b/\i<yss.length/\H b=some (.lst ((yss.getD i []).map nV)):=by
 rw[Zc] at h
 cases e:bs[i]? with
 |none=>rw[e] at h;cases h
 |some b=>
  rw[e] at h
  exact⟨b,(Option.some.inj h).symm,by have:=(List.getElem?_eq_some_iff.mp e).1;have:=R.2.1;omega,(R.2.2 i b e).2⟩
theorem J7.get {H:Hp}{L:Addr}{bs:List Addr}{yss:List (List Nat)}(R:J7 H L bs yss){i:Nat}(hi:i<yss.length):∃b,UA (bs.map V.ref) (i:Int)=some (.ref b)/\H b=some (.lst ((yss.getD i []).map nV)):=by
 have bl:=R.2.1
 have e:bs[i]?=some (bs[i]'(by omega)):=Zf (by omega)
 exact⟨_,YJ (by rw[Zc,e];rfl),(R.2.2 i _ e).2⟩
def dLs (ns:List Nat):PyData:=.list (ns.map fun k:Nat=>PyData.int (k:Int))
theorem ZgZ {K:PySem.W.Frag}{H:Hp}:∀(bs:List Addr) (yss:List (List Nat)),bs.length=yss.length->(∀(j:Nat) b,bs[j]?=some b->H b=some (.lst ((yss.getD j []).map nV)))->YF K H (bs.map V.ref) (yss.map dLs)
 | [],[],_,_=>.nil
 | [],_::_,h,_=>by cases h
 |_::_,[],h,_=>by cases h
 |b::bs,y::yss,h,g=>.cons (.lst (.of (g 0 b rfl)) (Wf y)) (ZgZ bs yss (Nat.succ.inj h) fun j c hc=>g (j+1) c hc)
theorem ZjJ (a b:List Nat):PyData.eqv (dLs a) (dLs b)=decide (a=b):=by
 have h:=Zfe a b
 unfold dLs
 have e:∀c:List Nat,(c.map fun k:Nat=>PyData.int (k:Int))=(nI c).map PyData.int:=fun c=>by unfold nI;rw[List.map_map];rfl
 rw[e,e]
 exact h
theorem ZiA (yss:List (List Nat))(o:List Nat):((yss.map dLs).any fun y=>y.eqv (dLs o))=yss.contains o:=by
 rw[List.any_map,List.contains_eq_any_beq]
 congr 1
 funext a
 show PyData.eqv (dLs a) (dLs o)=(o == a)
 rw[ZjJ]
 by_cases h:a=o
 ·subst h;simp
 ·rw[decide_eq_false h]
  exact (beq_eq_false_iff_ne.mpr (Ne.symm h)).symm
theorem ZeS:∀yss:List (List Nat),PyData.canLayAll0 (yss.map dLs)=true
 | []=>rfl
 |c::css=>by
  show (PyData.canLayAll0 (c.map fun k:Nat=>PyData.int (k:Int)) && PyData.canLayAll0 (css.map dLs))=true
  rw[ZeI,ZeS css]
  rfl
theorem Zir (ns:List Nat):PyData.depth (dLs ns)<=60:=by
 show PyData.depthAll (ns.map fun k:Nat=>PyData.int (k:Int))+1<=60
 rw[Zh1 ns]
 decide
def Zd1 (K:PySem.W.Frag):Sp:=fun vs H Q _=>∃(g a:Addr) (t:List (List Nat)) (o:List Nat),vs=[.ref g,.ref a]/\GT H g t/\PW t/\Sub t o/\Wp K H a (o.map nV)/\∀r rss H',Same H H'->rss.Perm (Ya t o t.length)->CT H' r (Vn t.length rss.length (sdF t rss (Y0 rss)))->Q (.ref r) H'
theorem ZhA {t:List (List Nat)}{o:List Nat}(P:PW t)(S:Sub t o){a:Nat}(ha:a<t.length):(nI (o.map (Zz t a))).Nodup:=by
 unfold nI
 rw[List.map_map]
 refine List.Pairwise.map _ (fun x y (h:x≠y/\x<t.length/\y<t.length) e=>h.1 ?_) ((List.pairwise_and_iff.mpr ⟨S.nd,?_⟩))
 ·have e:((Zz t a x:Nat):Int)=((Zz t a y:Nat):Int):=e
  exact ZkI P ha h.2.1 h.2.2 (by omega)
 ·exact List.pairwise_of_forall_mem_list fun x hx y hy=>⟨S.lt x hx,S.lt y hy⟩
section
variable {P:Program}{w:World}{K:PySem.W.Frag}{mg:Str->Option Value}{base:Heap}
theorem Zex {f:Addr}{fd:FuncData}(F:WB K "_law_side_deed" "_law_side_deed" Za8 f fd)(T:Bl mg)(T2:ZaS mg):Z1 P w K mg base Yc 1 f fd ["_law_group_here", "_law_part_here"] (Zd1 K):=by
 refine F.ok (FS (N:=["_law_group_here", "_law_part_here", "_law_rows", "_law_a", "_law_row", "_law_numbers", "_law_k", "_law_one"])) (fun vs H Q E h=>?_) (fun cdv A outer s H vs Q E hr h=>?_)
 ·obtain⟨g,a,t,o,rfl,_⟩:=h;rfl
 ·obtain⟨g,pa,t,o,rfl,G,Pt,S,ha,q⟩:=h
  have hu:(A.deeper (envOfC "_law_side_deed" (ZM Za8) s.heap.objs.size f cdv)).units+1<cLine:=by have:=hr.un;omega
  refine⟨_,Zu (ZH 2 rfl (Ys Zs))
   (Zu (Yi PassesOwn.never rfl (Wt T.range (pc (cb (Yj K) T.len (pc (vn 0) Zs)) Zs)) (gnf 3 rfl)
    (Zu (ZH 4 rfl (cb (ZbC K) T2.sorted (pc (cmp ["_law_h"] [0,3] ["_law_h", "_law_group_here", "_law_a"] rfl (itT K (vn 1)) (fun _ _ _ _ _=>gn 0) (fun _ _ _ _ _=>ZQ) (fun _ _ _ _ _=>ZF (WF K) (ZF (WF K) (vn 1) (vn 2) (fun _ _=>rfl)) (vn 0) (fun _ _=>rfl))) Zs)))
    (Zv (YR (ZI (ZeJ K hr.units) (vn 4) (vn 2) (by rfl)) (Zv (Yq (Wg PySem.F.plainAttrs_list PySem.F.slot_list_append PySem.F.type_list_append ZX (vn 2) (pc (vn 4) Zs)))) Z4))))
   (Zu (ZH 2 rfl (cb (ZbD false hr.units) T2.sorted (pc (vn 2) Zs)))
   (Zu (ZH 5 rfl Js)
   (Zu (Yi PassesOwn.never rfl (Wt T.range (pc (cb (Yj K) T.len (pc (vn 2) Zs)) Zs)) (gn 6)
    (Zv (Yi PassesOwn.never rfl (itL K (ZF (ixL K) (vn 2) (vn 6) (fun _ _=>rfl))) (gn 7) (Zv (Wu hu (vn 5) (vn 7) (vn 6) (by rfl))))))
   (Zv (ZD (ct ZG T.tuple (pc (cmp ["_law_a"] [5,2,0] ["_law_a", "_law_numbers", "_law_rows", "_law_group_here"] rfl (Wt T.range (pc (cb (Yj K) T.len (pc (vn 0) Zs)) Zs)) (fun _ _ _ _ _=>gnf 0 rfl) (fun _ _ _ _ _=>ZQ)
    (fun _ _ _ _ _=>ct (tupK K) (by exact T.tuple) (pc (cmp ["_law_row"] [1,3,0] ["_law_row", "_law_numbers", "_law_group_here", "_law_a"] rfl (itL K (vn 2)) (fun _ _ _ _ _=>gn 0) (fun _ _ _ _ _=>ZQ)
     (fun _ _ _ _ _=>Ww hu (vn 1) (ZF (WF K) (ZF (WF K) (vn 2) (vn 3) (fun _ _=>rfl)) (ZF (ixL K) (vn 0) Zx (fun _ _=>rfl)) (fun _ _=>rfl)) (fun _ _=>rfl))) Zs))) Zs)))))))),?_⟩
  have sz:(16777216:Nat)=sizeLine:=by decide
  have n1:=Pt.n1
  have n60:=Pt.n60
  have o60:o.length<=60:=by have:=ZeL _ _ S.nd S.lt;omega
  have ol:(o.map nV).length=o.length:=List.length_map ..
  refine⟨(by show 0<=sizeLine;decide),fun Rw nRw=>?_⟩
  have s1:=Same.upd (H:=H) (o:=.lst []) nRw
  have hR1:=Zt (H:=H) (a:=Rw) (o:=.lst [])
  generalize upd H Rw (.lst [])=H1 at s1 hR1 ⊢
  obtain⟨gxs,u1,u2⟩:=GT.len (K:=K) (G.mono s1)
  refine⟨_,rfl,g,gxs,rfl,.inr u1,_,rfl,by omega,by omega,?_⟩
  rw[u2,Zj]
  refine Z8 (fun i σ' H'=>∃(bs:List Addr) (v3 v4 v5 v6 v7:Option V),σ'=[some (.ref g),some (.ref pa),some (.ref Rw),v3,v4,v5,v6,v7]/\Same H H'/\J7 H' Rw bs (Ya t o i))
   ⟨[],_,_,_,_,_,rfl,s1,hR1,rfl,fun i b h=>by cases h⟩ ?_ ?_
  ·rintro i σ' H2 hi ⟨bs,v3,v4,v5,v6,v7,rfl,s2,R2⟩
   rw[show (0:Int)+(i:Int)=(i:Int) by omega]
   have ha2:=s2.tup ha
   refine⟨_,rfl,pa,rfl,⟨_,ha2⟩,?_⟩
   refine WP (Ws (K:=K) ha2) [some (.ref g),some (.int (i:Nat))] rfl (fun j=>nV (Zz t i (o.getD j 0))) (by rw[ol];omega) (fun j y hy H3 s3 R k=>?_) (fun L H3 nL s3 hL=>?_)
   ·obtain⟨x,hx,rfl⟩:=Jd hy
    have hxl:=S.lt x (List.mem_of_getElem? hx)
    have ox:o.getD j 0=x:=by rw[Zb,hx];rfl
    obtain⟨rs,r2,g1,_,g2,g3,g4⟩:=(G.mono (s2.trans s3)).at Pt hi
    have fin:=k H3 (Same.refl _)
    rw[ox] at fin
    exact⟨_,rfl,_,rfl,g,_,_,_,rfl,rfl,.of g1,g2,_,rfl,r2,_,_,_,rfl,rfl,g3.sq,g4 x hxl,fin⟩
   ·have eL:(List.range (o.map nV).length).map (fun j=>nV (Zz t i (o.getD j 0)))=(nI (o.map (Zz t i))).map V.int:=by
     rw[ol,Ub,List.map_map]
     refine List.ext_getElem? fun j=>?_
     rw[Zc,Zc]
     by_cases hj:j<o.length
     ·rw[List.getElem?_range hj,Z0 hj];rfl
     ·rw[List.getElem?_eq_none (by rw[Zg];omega),List.getElem?_eq_none (by omega)];rfl
    rw[eL] at hL
    refine⟨L,_,rfl,.of hL,by unfold nI;rw[Za,Za];omega,fun Rr ns nRr hp hs=>?_⟩
    have er:ns.map V.int=(sC t o i).map nV:=WZ hp hs (ZhA Pt S hi) (fun k=>by
     unfold nI
     rw[List.map_map,List.mem_map]
     constructor
     ·rintro⟨h,hh,rfl⟩
      exact⟨Zz t i h,WJ.mpr ⟨Pt.lt _ _ hi (S.lt h hh),h,hh,rfl⟩,rfl⟩
     ·rintro⟨x,hx,rfl⟩
      obtain⟨_,h,hh,rfl⟩:=WJ.mp hx
      exact⟨h,hh,rfl⟩) (ZfQ i)
    rw[er]
    have s4:=s3.trans (Same.upd (H:=H3) (o:=.lst ((sC t o i).map nV)) nRr)
    have hr4:=Zt (H:=H3) (a:=Rr) (o:=.lst ((sC t o i).map nV))
    have nRR:Rr≠Rw:=fun z=>by have:=s3 _ _ R2.1;rw[<-z,nRr] at this;cases this
    generalize upd H3 Rr (.lst ((sC t o i).map nV))=H4 at s4 hr4 ⊢
    have R4:=R2.mono s4
    have cl:=Jw (t:=t) (o:=o) i
    refine⟨_,rfl,_,rfl,Rw,_,(Ya t o i).map dLs,dLs (sC t o i),rfl,.inl (.of R4.1),ZgZ _ _ R4.2.1 (fun j b hb=>(R4.2.2 j b hb).2),.lst (.of hr4) (Wf _),ZeS _,ZeI _,Zir _,_,rfl,?_⟩
    rw[if_pos rfl,ZiA]
    refine YN (fun h2=>?_) (fun h2=>?_)
    ·have h2:(Ya t o i).contains (sC t o i)=false:=by simpa using h2
     refine⟨_,rfl,.inl ⟨rfl,_,.of R4.1⟩,_,rfl,Rw,_,_,rfl,rfl,R4.1,by rw[Za,R4.2.1];omega,?_⟩
     refine⟨bs++[Rr],_,_,_,_,_,rfl,(s2.trans s4).updr nRw,?_⟩
     unfold Ya
     rw[if_neg (by rw[h2];decide)]
     exact R4.push nRR hr4
    ·have h2:(Ya t o i).contains (sC t o i)=true:=by simpa using h2
     refine⟨bs,_,_,_,_,_,rfl,s2.trans s4,?_⟩
     unfold Ya
     rw[if_pos h2]
     exact R4
  ·rintro σ' H2 ⟨bs,v3,v4,v5,v6,v7,rfl,s2,R2⟩
   have cl:=Jw (t:=t) (o:=o) t.length
   have bl:=R2.2.1
   refine⟨_,rfl,Rw,bs,(Ya t o t.length).map nI,rfl,R2.1,by rw[Za];exact bl,by omega,fun j b hb=>?_,fun Rs js nRs hp hs=>?_⟩
   ·have hj:=(List.getElem?_eq_some_iff.mp hb).1
    refine⟨nI ((Ya t o t.length).getD j []),by rw[Zc,gD (by omega)];rfl,fun z=>?_,?_⟩
    ·obtain⟨a,ha',e⟩:=Jv _ _ (List.mem_of_getElem? (gD (l:=Ya t o t.length) (i:=j) (by omega)))
     have:=VR Pt S ha'
     rw[<-e] at this
     have hl:=List.length_pos_of_mem this
     have:(nI ((Ya t o t.length).getD j [])).length=0:=by rw[z];rfl
     unfold nI at this
     rw[Za] at this
     omega
    ·show H2 b=some (.lst ((nI _).map V.int))
     rw[Ub]
     exact (R2.2.2 j b hb).2
   ·have hpr:(js.map fun j=>(Ya t o t.length).getD j []).Perm (Ya t o t.length):=by
     have:=hp.map fun j=>(Ya t o t.length).getD j []
     rw[bl] at this
     refine this.trans ?_
     have e:(List.range (Ya t o t.length).length).map (fun j=>(Ya t o t.length).getD j [])=Ya t o t.length:=by
      refine List.ext_getElem? fun i=>?_
      rw[Zc]
      by_cases hi:i<(Ya t o t.length).length
      ·rw[List.getElem?_range hi,gD hi];rfl
      ·rw[List.getElem?_eq_none (by rw[Zg];omega),List.getElem?_eq_none (by omega)];rfl
     rw[e]
    have s3:=Same.upd (H:=H2) (o:=.lst ((js.map fun i=>bs.getD i 0).map V.ref)) nRs
    have R3:J7 (upd H2 Rs (.lst ((js.map fun i=>bs.getD i 0).map V.ref))) Rs (js.map fun i=>bs.getD i 0) (js.map fun j=>(Ya t o t.length).getD j []):=by
     refine⟨Zt,by rw[Za,Za],fun i b hb=>?_⟩
     rw[Zc] at hb
     cases e:js[i]? with
     |none=>rw[e] at hb;cases hb
     |some j=>
      rw[e] at hb
      have hb:=Option.some.inj hb
      have hj:j<bs.length:=List.mem_range.mp (hp.mem_iff.mp (List.mem_of_getElem? e))
      have ej:bs[j]?=some b:=by rw[Z0 hj,<-hb]
      have h2:=(R2.2.2 j b ej).2
      have nb:b≠Rs:=fun z=>by rw[z,nRs] at h2;cases h2
      have er:(js.map fun j=>(Ya t o t.length).getD j []).getD i []=(Ya t o t.length).getD j []:=by rw[Zb,Zc,e];rfl
      rw[er]
      exact⟨nb,by rw[Zw nb];exact h2⟩
    generalize (js.map fun j=>(Ya t o t.length).getD j [])=rss at hpr R3
    generalize (js.map fun i=>bs.getD i 0)=cs at s3 R3 ⊢
    generalize upd H2 Rs (.lst (cs.map V.ref))=H3 at s3 R3 ⊢
    have Sdd:=Zb1 Pt S hpr
    have rl:rss.length<=60:=by rw[hpr.length_eq];omega
    have s03:=s2.trans s3
    have cl3:(cs.map V.ref).length=rss.length:=by rw[Za,R3.2.1]
    intro Nd nNd
    have s4:=Same.upd (H:=H3) (o:=.dK []) nNd
    have hN4:=Zt (H:=H3) (a:=Nd) (o:=.dK [])
    generalize upd H3 Nd (.dK [])=H4 at s4 hN4 ⊢
    refine⟨_,rfl,Rs,_,rfl,.inl (.of (s4 _ _ R3.1)),_,rfl,by rw[cl3];omega,by rw[cl3];omega,?_⟩
    rw[cl3,Zj]
    refine Z8 (fun k σ' H'=>∃(kvs:List (ZT×V)) (v6 v7:Option V),σ'=[some (.ref g),some (.ref pa),some (.ref Rs),v3,v4,some (.ref Nd),v6,v7]/\Same H3 H'/\H' Nd=some (.dK kvs)/\kvs.length<=60*k/\∀x,x<t.length->Y0 rss x<k->Yr kvs (.inl (x:Int))=some (.int (Y0 rss x:Nat)))
     ⟨[],_,_,rfl,s4,hN4,by simp,fun x _ h=>by omega⟩ ?_ ?_
    ·rintro k σ' H5 hk ⟨kvs,v6,v7,rfl,s5,hN5,hl5,hv5⟩
     rw[show (0:Int)+(k:Int)=(k:Int) by omega]
     obtain⟨b,b2,b3⟩:=R3.get hk
     have rowl:(rss.getD k []).length<=60:=by
      obtain⟨a,ha',e⟩:=Jv _ _ (hpr.mem_iff.mp (List.mem_of_getElem? (gD hk)))
      rw[e]
      unfold sC
      have:=List.length_filter_le (fun x=>(o.map (Zz t a)).contains x) (List.range t.length)
      rw[Zg] at this
      omega
     refine⟨_,rfl,_,rfl,Rs,_,_,_,rfl,rfl,.of (s5 _ _ R3.1),b2,b,rfl,⟨_,.of (s5 _ _ b3)⟩,?_⟩
     refine Ju (H0:=H3) (Y4 (K:=K) (.of b3)) (fun j σ' H'=>∃(kvs:List (ZT×V)) (v7:Option V),σ'=[some (.ref g),some (.ref pa),some (.ref Rs),v3,v4,some (.ref Nd),some (.int (k:Nat)),v7]/\Same H3 H'/\H' Nd=some (.dK kvs)/\kvs.length<=60*k+j/\∀x,x<t.length->(Y0 rss x<k\/x∈(rss.getD k []).take j)->Yr kvs (.inl (x:Int))=some (.int (Y0 rss x:Nat)))
      ⟨kvs,_,rfl,s5,hN5,by omega,fun x hx h=>hv5 x hx (h.elim id fun h=>by cases h)⟩ (fun j σ' H' h=>by obtain⟨_,_,_,sm,_⟩:=h;exact sm) ?_ ?_
     ·rintro j y σ' H6 hy ⟨kvs,v7,rfl,s6,hN6,hl6,hv6⟩
      obtain⟨x,hx,rfl⟩:=Jd hy
      have jl:j<60:=by have:=(List.getElem?_eq_some_iff.mp hx).1;omega
      obtain⟨hxl,hxk⟩:=(Sdd.mem k x hk).mp (List.mem_of_getElem? hx)
      refine⟨_,rfl,_,rfl,_,rfl,Nd,_,rfl,Ji.k (k:=.inl (x:Int)) hN6 (by omega),?_⟩
      refine⟨_,_,rfl,s6.updr nNd,Zt,Nat.le_trans (Y6 ..) (by omega),fun z hz h=>?_⟩
      rw[ZdL]
      by_cases e:z=x
      ·subst e
       rw[if_pos rfl,hxk]
      ·rw[if_neg fun c=>e (by injection c with c;omega)]
       refine hv6 z hz (h.elim .inl fun h=>.inr ?_)
       rw[List.take_add_one,hx] at h
       rcases List.mem_append.mp h with h|h
       ·exact h
       ·exact absurd (List.mem_singleton.mp h) e
     ·rintro σ' H6 ⟨kvs,v7,rfl,s6,hN6,hl6,hv6⟩
      rw[Za] at hl6 hv6
      rw[List.take_length] at hv6
      refine⟨kvs,_,_,rfl,s6,hN6,by omega,fun x hx h=>hv6 x hx ?_⟩
      by_cases e:Y0 rss x=k
      ·exact .inr ((Sdd.mem k x hk).mpr ⟨hx,e⟩)
      ·exact .inl (by omega)
    ·rintro σ' H5 ⟨kvs,v6,v7,rfl,s5,hN5,hl5,hv5⟩
     have s05:=s03.trans s5
     have R5:=R3.mono s5
     obtain⟨gxs,u1,u2⟩:=GT.len (K:=K) (G.mono s05)
     refine⟨_,rfl,g,gxs,rfl,.inr u1,_,rfl,by omega,by omega,?_⟩
     rw[u2,Zj]
     refine XM (YG 0 t.length) [some (.ref Nd),some (.ref Rs),some (.ref g)] rfl (by rw[Za,ZY];omega) (fun a=>(List.range rss.length).map fun k=>sdF t rss (Y0 rss) a k) (fun a y hy H6 s6 R k6=>?_) (fun D ws H6 nD s6 hD wl hw=>?_)
     ·obtain⟨ha',rfl⟩:=J9 hy
      have R6:=R5.mono s6
      refine⟨_,rfl,Rs,rfl,⟨_,.of R6.1⟩,?_⟩
      refine WP (Y4 (K:=K) (.of R6.1)) [some (.ref Nd),some (.ref g),some (.int (a:Nat))] rfl (fun k=>nV (sdF t rss (Y0 rss) a k)) (by rw[cl3];omega) (fun k y' hy' H7 s7 R' k7=>?_) (fun D2 H7 nD2 s7 hD2=>?_)
      ·obtain⟨b,rfl,hk,hb⟩:=R6.ref hy'
       obtain⟨r1,r2⟩:=Sdd.rep hk
       have h0:0<(rss.getD k []).length:=List.length_pos_iff.mpr (Sdd.ne k hk)
       obtain⟨rs,rr,g1,_,g2,g3,g4⟩:=(G.mono (s05.trans (s6.trans s7))).at Pt ha'
       have hx:=Pt.lt _ _ ha' r1
       have dg:=Wn.k (k:=.inl ((Zz t a ((rss.getD k []).getD 0 0):Nat):Int)) ((s6.trans s7) _ _ hN5)
       rw[hv5 _ hx (Sdd.lt _ hx)] at dg
       exact⟨_,rfl,_,rfl,_,rfl,g,_,_,_,rfl,rfl,.of g1,g2,_,rfl,b,_,_,_,rfl,rfl,.of (s7 _ _ hb),Zag h0,rr,_,_,_,rfl,rfl,g3.sq,g4 _ r1,Nd,_,rfl,dg,k7 H7 (Same.refl _)⟩
      ·rw[cl3,show (List.range rss.length).map (fun k=>nV (sdF t rss (Y0 rss) a k))=((List.range rss.length).map fun k=>sdF t rss (Y0 rss) a k).map nV by rw[List.map_map];rfl] at hD2
       exact⟨D2,_,rfl,.inl ⟨.of hD2,fun l nl=>k6 l _ (s7.trans (Same.upd nl)) Zt⟩⟩
     ·rw[Za,ZY] at wl
      refine⟨D,_,rfl,.inl ⟨.of hD,fun r nr=>?_⟩⟩
      have s7:=Same.upd (H:=H6) (o:=.tup (ws.map V.ref)) nr
      exact q r rss _ ((s05.trans s6).trans s7) hpr (ZcE Zt wl fun i w h=>s7 _ _ (hw i w h))
end
abbrev Zeh:Stmt:=top 31
theorem CT.tk {H H':Hp}{p r:Addr}{b:Nat}{ds:List (List Nat)}(T:ZV H p b)(d:Tk p H H')(h:CT H r ds):CT H' r ds:=by
 obtain⟨rs,h1,h2,h3⟩:=h
 exact⟨rs,d.tup T h1,h2,fun i b hb=>d.tup T (h3 i b hb)⟩
theorem CT.at {H:Hp}{d:Addr}{ds:List (List Nat)}(h:CT H d ds){a:Nat}(ha:a<ds.length):∃(rs:List Addr) (r:Addr),H d=some (.tup (rs.map V.ref))/\rs.length=ds.length/\UA (rs.map V.ref) (a:Int)=some (.ref r)/\H r=some (.tup ((ds.getD a []).map nV)):=by
 obtain⟨rs,h1,h2,h3⟩:=h
 have hr:rs[a]?=some (rs[a]'(by omega)):=Zf (by omega)
 exact⟨rs,_,h1,h2,YJ (by rw[Zc,hr];rfl),h3 a _ hr⟩
def Mw (p L:Addr)(H H':Hp):Prop:=∀b o,H b=some o->b≠p->b≠L->H' b=some o
theorem Mw.ct {p L r:Addr}{H H':Hp}{b:Nat}{xs:List V}{ds:List (List Nat)}(T:ZV H p b)(hL:H L=some (.lst xs))(d:Mw p L H H')(h:CT H r ds):CT H' r ds:=by
 obtain⟨rs,h1,h2,h3⟩:=h
 have st:∀{a:Addr}{ys:List V},H a=some (.tup ys)->H' a=some (.tup ys):=fun {a ys} e=>d a _ e (T.ne e fun _ z=>by cases z) fun z=>by rw[z,hL] at e;cases e
 exact⟨rs,st h1,h2,fun i b hb=>st (h3 i b hb)⟩
def ZbZ (K:PySem.W.Frag):Sp:=fun vs H Q _=>∃(p g:Addr) (b most:Nat) (t:List (List Nat)),vs=[.ref p,.ref g,.int (most:Nat)]/\ZV H p b/\b+200<2 ^ 60/\GT H g t/\PW t/\t.length<=24/\1<=most/\most<=24/\∀r ds m H',Tk p H H'->ZV H' p (b+40)->CT H' r ds->Dd t m ds->m<=most->Q (.ref r) H'
section
variable {P:Program}{w:World}{K:PySem.W.Frag}{mg:Str->Option Value}{base:Heap}
theorem ZeE {f:Addr}{fd:FuncData}(F:WB K "_law_deed" "_law_deed" Zeh f fd)(T:Bl mg)(TZ:BlZ mg)(GS:Fn P w K mg base Yc 1 "_law_side_deed" ["_law_group_here", "_law_part_here"] (Zd1 K))(GA:Fn P w K mg base Yc 3 "_law_any_part" ["_law_tape_here", "_law_group_here"] Zd5)(GK:Fn P w K mg base Yc 1 "_law_pick" ["_law_tape_here", "_law_many"] JG):Z1 P w K mg base Yc 4 f fd ["_law_tape_here", "_law_group_here", "_law_most"] (ZbZ K):=by
 refine F.ok (FS (N:=["_law_tape_here", "_law_group_here", "_law_most", "_law_found", "_law_other", "_law_many", "_law_left", "_law_order"])) (fun vs H Q E h=>?_) (fun cdv A outer s H vs Q E hr h=>?_)
 ·obtain⟨p,g,b,most,t,rfl,_⟩:=h;rfl
 ·obtain⟨p,g,b,most,t,rfl,T0,hb,G,Pt,n24,m1,m24,q⟩:=h
  refine⟨_,Zu (ZH 3 rfl (Y3 GS hr ZE (pc (vn 1) (pc (Y3 GA hr ZE (pc (vn 0) (pc (vn 1) Zs))) Zs))))
   (Zu (YR (ZI Zad (cb (Yj K) T.len (pc (ZF (WF K) (vn 3) Zx (fun _ _=>rfl)) Zs)) (vn 2) (ZR _)) (Zv (ZH 3 rfl (Y3 GS hr ZE (pc (vn 1) (pc (ct (WT rfl) T.tuple (pc (ct WU T.range (pc (cb (Yj K) T.len (pc (vn 1) Zs)) Zs)) Zs)) Zs))))) Z4)
   (Zu (ZH 4 rfl (Y3 GS hr ZE (pc (vn 1) (pc (Y3 GA hr ZE (pc (vn 0) (pc (vn 1) Zs))) Zs))))
   (Zu (ZH 5 rfl (cb (Yj K) T.len (pc (ZF (WF K) (vn 3) Zx (fun _ _=>rfl)) Zs)))
   (Zu (YR (ZhF (ZI Zju (ZC YD (vn 5) (cb (Yj K) T.len (pc (ZF (WF K) (vn 4) Zx (fun _ _=>rfl)) Zs))) (vn 2) (ZR _)) (ZfU (ZI Vk (Y3 GK hr ZE (pc (vn 0) (pc Zx Zs))) Zx (ZR _)))).pt
    (Zv (ZH 3 rfl (ct ZG T.tuple (pc (cmp ["_law_one", "_law_two"] [5] ["_law_one", "_law_two", "_law_many"] rfl (Zkk K TZ.zip (pc (vn 3) (pc (vn 4) Zs))) (fun _ _ _ _ _=>g2 K 0 1 rfl (gn 0) (gn 1)) (fun _ _ _ _ _=>ZQ)
     (fun _ _ _ _ _=>ZC V8 (vn 0) (ct (tupK K) (by exact T.tuple) (pc (cmp ["_law_j"] [2] ["_law_j", "_law_many"] rfl (itT K (vn 1)) (fun _ _ _ _ _=>gn 0) (fun _ _ _ _ _=>ZQ) (fun _ _ _ _ _=>ZC YD (vn 1) (vn 0))) Zs)))) Zs)))) Z4)
   (Zu (ZH 6 rfl (ct (X5 rfl) T.list (pc (ct WU T.range (pc (cb (Yj K) T.len (pc (ZF (WF K) (vn 3) Zx (fun _ _=>rfl)) Zs)) Zs)) Zs)))
   (Zu (ZH 7 rfl (cmp ["_law_k"] [6,0] ["_law_k", "_law_left", "_law_tape_here"] rfl (Wt T.range (pc (cb (Yj K) T.len (pc (ZF (WF K) (vn 3) Zx (fun _ _=>rfl)) Zs)) Zs)) (fun _ _ _ _ _=>gn 0) (fun _ _ _ _ _=>ZQ)
    (fun _ _ _ _ _=>Zer K PySem.F.plainAttrs_list PySem.F.slot_list_pop PySem.F.type_list_pop Zal (vn 1) (pc (Y3 GK hr ZE (pc (vn 2) (pc (cb (Yj K) (by exact T.len) (pc (vn 1) Zs)) Zs))) Zs))))
   (Zv (ZD (ct ZG T.tuple (pc (cmp ["_law_one"] [7] ["_law_one", "_law_order"] rfl (itT K (vn 3)) (fun _ _ _ _ _=>gnf 0 rfl) (fun _ _ _ _ _=>ZQ)
    (fun _ _ _ _ _=>ct (tupK K) (by exact T.tuple) (pc (cmp ["_law_k"] [1,0] ["_law_k", "_law_order", "_law_one"] rfl (Wt (by exact T.range) (pc (cb (Yj K) (by exact T.len) (pc (vn 1) Zs)) Zs)) (fun _ _ _ _ _=>gn 0) (fun _ _ _ _ _=>ZQ)
     (fun _ _ _ _ _=>ZF (ixL K) (vn 1) (ZF (WF K) (vn 2) (Zer K PySem.F.plainAttrs_list PySem.F.slot_list_index PySem.F.type_list_index (ZkG K hr.units) (vn 1) (pc (vn 0) Zs)) (fun _ _=>rfl)) (fun _ _=>rfl))) Zs))) Zs)))))))))),?_⟩
  have sz:(16777216:Nat)=sizeLine:=by decide
  have n1:=Pt.n1
  have n60:=Pt.n60
  refine⟨_,rfl,_,rfl,_,rfl,p,g,b,t,rfl,T0,by omega,G,Pt,fun pa gs H1 k1 T1 glt hpa=>?_⟩
  have S:=ZbQ Pt glt
  generalize prtL t.length (onG t gs)=o at S hpa
  have G1:=GT.tk T0 k1 G
  refine⟨g,pa,t,o,rfl,G1,Pt,S,hpa.sq,fun fo rss H3 s3 hpr C3=>?_⟩
  have k3:=k1.trans (Tk.of s3)
  have T3:=T1.mono s3
  have G3:=G1.mono s3
  have D3:=ZbA Pt (Zb1 Pt S hpr)
  obtain⟨rs,fr,c1,_,c2,c3⟩:=CT.at C3 (a:=0) (by rw[D3.len];exact n1)
  have l0:(((Vn t.length rss.length (sdF t rss (Y0 rss))).getD 0 []).map nV).length=rss.length:=by rw[Za,D3.rl 0 n1]
  refine⟨_,rfl,fo,_,_,_,rfl,rfl,.of c1,c2,fr,_,rfl,.inr (.of c3),_,rfl,_,_,rfl,rfl,_,rfl,YN (fun hgt=>?a) (fun hgt=>?b)⟩
  case' a=>
   obtain⟨gxs,u1,u2⟩:=GT.len (K:=K) G3
   refine⟨_,rfl,_,rfl,g,gxs,rfl,.inr u1,_,rfl,fun r9 nr9=>⟨r9,0,_,rfl,Zt,⟨by decide,by decide,by omega,by omega⟩,by omega,fun l9 nl9=>?_⟩⟩
   rw[u2] at nl9 ⊢
   have s9:=(Same.upd (H:=H3) (o:=.rng 0 (t.length:Int)) nr9).trans (Same.upd (o:=.tup ((Z2 0 ((t.length:Int)-0).toNat).map V.int)) nl9)
   have h9:=Zt (H:=upd H3 r9 (.rng 0 (t.length:Int))) (a:=l9) (o:=.tup ((Z2 0 ((t.length:Int)-0).toNat).map V.int))
   generalize upd (upd H3 r9 (.rng 0 (t.length:Int))) l9 (.tup ((Z2 0 ((t.length:Int)-0).toNat).map V.int))=H9 at s9 h9 ⊢
   rw[show ((t.length:Int)-0).toNat=t.length by omega,ZcV] at h9
   refine⟨g,l9,t,List.range t.length,rfl,G3.mono s9,Pt,JE Pt,.of h9,fun fo4 rss4 H4 s4 hpr4 C4=>?_⟩
   have D4:=ZbA Pt (Zb1 Pt (JE Pt) hpr4)
   have mle:rss4.length<=most:=by rw[hpr4.length_eq,Zfl Pt];exact m1
   have k4:=k3.trans (Tk.of (s9.trans s4))
   have T4:=T3.mono (s9.trans s4)
   have G4:=G3.mono (s9.trans s4)
   generalize Vn t.length rss4.length (sdF t rss4 (Y0 rss4))=df at D4 C4
   generalize rss4.length=mf at D4 mle
  case' b=>
   have D4:=D3
   have C4:=C3
   have mle:rss.length<=most:=by rw[l0] at hgt;have:¬((most:Int)<(rss.length:Int)):=fun z=>hgt (decide_eq_true z);omega
   have k4:=k3
   have T4:=T3
   have G4:=G3
   clear c1 c2 c3 l0 hgt
   generalize Vn t.length rss.length (sdF t rss (Y0 rss))=df at D4 C4
   generalize rss.length=mf at D4 mle
  all_goals
   refine⟨_,rfl,_,rfl,_,rfl,p,g,b+3,t,rfl,T4,by omega,G4,Pt,fun pa5 gs5 H5 k5 T5 glt5 hpa5=>?_⟩
   have S5:=ZbQ Pt glt5
   generalize prtL t.length (onG t gs5)=o5 at S5 hpa5
   have G5:=GT.tk T4 k5 G4
   have C5:=CT.tk T4 k5 C4
   refine⟨g,pa5,t,o5,rfl,G5,Pt,S5,hpa5.sq,fun oo rss6 H6 s6 hpr6 E6=>?_⟩
   have F6:=ZbA Pt (Zb1 Pt S5 hpr6)
   have cl6:=Jw (t:=t) (o:=o5) t.length
   have me24:rss6.length<=24:=by rw[hpr6.length_eq];omega
   generalize Vn t.length rss6.length (sdF t rss6 (Y0 rss6))=de at F6 E6
   generalize rss6.length=me at F6 me24
   have C6:=C5.mono s6
   have T6:=T5.mono s6
   have k6:=(k4.trans k5).trans (Tk.of s6)
   have dl:=D4.len
   have el:=F6.len
   obtain⟨rs6,fr6,c1',_,c2',c3'⟩:=CT.at C6 (a:=0) (by omega)
   obtain⟨ss6,or6,e1,_,e2,e3⟩:=CT.at E6 (a:=0) (by omega)
   have lf:((df.getD 0 []).map nV).length=mf:=by rw[Za,D4.rl 0 n1]
   have le:((de.getD 0 []).map nV).length=me:=by rw[Za,F6.rl 0 n1]
   refine⟨_,rfl,_,_,_,_,rfl,rfl,.of c1',c2',fr6,_,rfl,.inr (.of c3'),?_⟩
   rw[lf]
   refine⟨_,rfl,_,rfl,oo,_,_,_,rfl,rfl,.of e1,e2,or6,_,rfl,.inr (.of e3),_,_,rfl,rfl,_,rfl,_,_,rfl,rfl,_,rfl,?_⟩
   rw[le]
   refine YN (fun hle=>?_) (fun hle=>?_)
   case' refine_2=>
    refine Zdi (by decide) ?_
    have T7:=T6.le (b':=b+7) (by omega)
    have k7:=k6
    obtain⟨d7,m7,D7,C27,ml7⟩:∃d7 m7,Dd t m7 d7/\CT H6 _ d7/\m7<=most:=⟨_,_,D4,C6,mle⟩
    obtain⟨Hq,eHq⟩:∃x,x=H6:=⟨_,rfl⟩
    subst eHq
   case' refine_1=>
    refine⟨_,rfl,p,2,_,rfl,T6,by omega,by decide,by decide,fun pk H7 a0 a1 k7' T7'=>⟨rfl,_,rfl,YN (fun hz=>?_) (fun hz=>?_)⟩⟩
    case' refine_2=>
     have T7:=T7'.le (b':=b+7) (by omega)
     have k7:=k6.trans k7'
     obtain⟨d7,m7,D7,C27,ml7⟩:∃d7 m7,Dd t m7 d7/\CT H7 _ d7/\m7<=most:=⟨_,_,D4,CT.tk T6 k7' C6,mle⟩
     obtain⟨Hq,eHq⟩:∃x,x=H7:=⟨_,rfl⟩
     subst eHq
    case' refine_1=>
     have Cq:=CT.tk T6 k7' C6
     have Eq:=CT.tk T6 k7' E6
     obtain⟨rs,x1,x2,x3⟩:=id Cq
     obtain⟨ss,y1,y2,y3⟩:=id Eq
     have pl:((rs.map V.ref).zip (ss.map V.ref)).length=t.length:=by rw[List.length_zip,Za,Za];omega
     refine⟨_,rfl,_,rfl,_,oo,true,true,_,_,H7,rfl,.tup (.of x1),.tup (.of y1),Same.refl _,fun J At SS hAt=>?_⟩
     refine Zdx SS hAt (Same.refl _) [some (.int (mf:Nat))] rfl (fun i=>nI ((Vn t.length (mf+me) (bsF mf df de)).getD i [])) (by omega) (fun a u v H8 huv s8 R k=>?_) (fun L ws H8 nL s8 hL wl hw=>?_)
     ·obtain⟨ra,rb,r1,r2,rfl,rfl⟩:=ZdP huv
      have ha:a<t.length:=by have:=(List.getElem?_eq_some_iff.mp r1).1;omega
      have hra:=s8 _ _ (x3 a ra r1)
      have hrb:=s8 _ _ (y3 a rb r2)
      have q1:=D4.rl a ha
      have q2:=F6.rl a ha
      refine⟨_,rfl,_,rfl,rb,rfl,⟨_,.of hrb⟩,?_⟩
      refine WO (Ws (K:=K) (.of hrb)) [some (.int (mf:Nat))] rfl (ZjI mf) (by rw[Za];omega) (fun i z H9 hz' s9 R' k9=>?_) (fun L9 H9 nL9 s9 hL9=>?_)
      ·obtain⟨c,hc,rfl⟩:=Jd hz'
       exact⟨_,rfl,_,rfl,_,_,rfl,rfl,k9 H9 (Same.refl _)⟩
      ·rw[Zfc] at hL9
       refine⟨L9,_,rfl,.inl ⟨.of hL9,fun w nw=>?_⟩⟩
       have s10:=Same.upd (H:=H9) (o:=.tup (((de.getD a []).map (mf + ·)).map nV)) nw
       refine⟨ra,w,_,_,rfl,rfl,(s9.trans s10) _ _ hra,Zt,by rw[Za,Za,Za];omega,fun r H11 s11 hr11=>?_⟩
       rw[<-List.map_append,Ziw D4 F6 ha] at hr11
       exact k r H11 ((s9.trans s10).trans s11) (by rw[Ub];exact hr11)
     rw[pl] at wl
     refine⟨L,_,rfl,.inl ⟨.of hL,fun nf nnf=>?_⟩⟩
     have s9:=s8.trans (Same.upd (H:=H8) (o:=.tup (ws.map V.ref)) nnf)
     have C27:CT (upd H8 nf (.tup (ws.map V.ref))) nf (Vn t.length (mf+me) (bsF mf df de)):=⟨ws,Zt,by rw[Zco];exact wl,fun i w h=>by have:=Same.upd (H:=H8) (o:=.tup (ws.map V.ref)) nnf _ _ (hw i w h);rw[Ub] at this;exact this⟩
     generalize upd H8 nf (.tup (ws.map V.ref))=H9 at s9 C27 ⊢
     have D7:=Zit Pt D4 F6
     have ml7:mf+me<=most:=by have:=of_decide_eq_true hle;omega
     have T7:=(T7'.mono s9).le (b':=b+7) (by omega)
     have k7:=(k6.trans k7').trans (Tk.of s9)
     generalize Vn t.length (mf+me) (bsF mf df de)=d7 at D7 C27
     generalize mf+me=m7 at D7 ml7
     obtain⟨Hq,eHq⟩:∃x,x=H9:=⟨_,rfl⟩
     subst eHq
   all_goals
    have m724:=Nat.le_trans ml7 m24
    have m71:=D7.m1
    obtain⟨rsT,frT,t1,_,t2,t3⟩:=CT.at C27 (a:=0) (by rw[D7.len];exact n1)
    have lT:((d7.getD 0 []).map nV).length=m7:=by rw[Za,D7.rl 0 n1]
    refine⟨_,rfl,_,_,_,_,rfl,rfl,.of t1,t2,frT,_,rfl,.inr (.of t3),?_⟩
    rw[lT]
    refine⟨_,rfl,fun r9 nr9=>⟨r9,0,_,rfl,Zt,⟨by decide,by decide,by omega,by omega⟩,by omega,fun Lf nLf=>?_⟩⟩
    have sL:=(Same.upd (H:=Hq) (o:=.rng 0 (m7:Int)) nr9).trans (Same.upd (o:=.lst ((Z2 0 ((m7:Int)-0).toNat).map V.int)) nLf)
    have hL:=Zt (H:=upd Hq r9 (.rng 0 (m7:Int))) (a:=Lf) (o:=.lst ((Z2 0 ((m7:Int)-0).toNat).map V.int))
    have nLq:Hq Lf=none:=(Same.upd (H:=Hq) (o:=.rng 0 (m7:Int)) nr9).free nLf
    generalize upd (upd Hq r9 (.rng 0 (m7:Int))) Lf (.lst ((Z2 0 ((m7:Int)-0).toNat).map V.int))=Hs at sL hL ⊢
    rw[show ((m7:Int)-0).toNat=m7 by omega,ZcV] at hL
    have Ts:=T7.mono sL
    have Cs:=C27.mono sL
    have nLp:Lf≠p:=T7.neN nLq
    refine⟨_,rfl,_,_,_,_,rfl,rfl,.of (sL _ _ t1),t2,frT,_,rfl,.inr (.of (sL _ _ t3)),?_⟩
    rw[lT]
    refine⟨_,rfl,by omega,by omega,?_⟩
    rw[Zj]
    have rl7:((Z2 0 m7).map V.int).length=m7:=by rw[Za,ZY]
    refine Jx (xs:=(Z2 0 m7).map V.int) (fun D i ys H'=>Mw p Lf Hs H'/\ZV H' p (b+7+i)/\∃os lf:List Nat,ys=os.map nV/\os.length=i/\H' Lf=some (.lst (lf.map nV))/\D≠Lf/\D≠p/\(os++lf).Perm (List.range m7)) [some (.ref Lf),some (.ref p)] rfl (by rw[rl7];omega) ?_ ?_ ?_ ?_
    ·intro D i ys H' hD hD' _
     have SS:=YG (H:=H') 0 m7
     exact⟨fun hi=>⟨SS.go i H' (Same.refl _) hi,fun x H3' y=>SS.yld i H' x H3' (Same.refl _) hi y⟩,fun e=>e▸SS.stop H' (Same.refl _)⟩
    ·intro D hD
     have nDL:D≠Lf:=fun z=>by rw[z,hL] at hD;cases hD
     exact⟨fun c u e _ _=>Same.upd hD c u e,Ts.mono (Same.upd hD),[],List.range m7,rfl,rfl,by rw[Zw nDL.symm];exact hL,nDL,Ts.neN hD,List.Perm.refl _⟩
    ·rintro D i y ys H' hD hD' hy ⟨mw,TD,os,lf,rfl,oll,hLf,nDL,nDp,pm⟩ R k
     have hi:i<m7:=by have:=(List.getElem?_eq_some_iff.mp hy).1;omega
     have pml:=pm.length_eq
     rw[Zd,Zg] at pml
     refine⟨_,rfl,.inl ⟨rfl,_,.of hLf⟩,_,rfl,_,rfl,Lf,_,rfl,.inl (.of hLf),p,_,b+7+i,rfl,TD,by omega,?_,?_,fun r5 H5 c0 c1 k5 T5=>?_⟩
     ·rw[Za];omega
     ·rw[Za];omega
     rw[Za] at c1
     obtain⟨j,rfl⟩:=Int.eq_ofNat_of_zero_le c0
     have hj:j<lf.length:=by omega
     obtain⟨sx,_⟩:=Ul (Zaw (n:=(lf.map nV).length) (i:=j) (by rw[Za];exact hj))
     have hL5:=k5.lst TD hLf
     have hat:(lf.map nV)[j]?=some (nV lf[j]):=by rw[Zc,Zf hj];rfl
     refine⟨Lf,_,_,j,_,rfl,rfl,hL5,by omega,by omega,sx,hat,?_⟩
     rw[XG]
     have hD5:=k5.lst TD hD'
     refine k _ _ (by rw[Zw nDL];exact hD5) ⟨fun c u e ne1 ne2=>?_,(T5.updN nLp).updN nDp,os++[lf[j]],lf.eraseIdx j,by rw[List.map_append];rfl,by rw[Zd,oll];rfl,by rw[Zw nDL.symm,Zt],nDL,nDp,?_⟩
     ·rw[Zw (fun z=>by rw[z,hD] at e;cases e),Zw ne2]
      exact k5 _ _ (mw c u e ne1 ne2) ne1
     ·rw[List.append_assoc]
      exact (List.Perm.append_left os (XH lf j hj)).trans pm
    ·rintro D ys H' hD hD' hyl ⟨mw,TD,os,lf,rfl,oll,hLf,nDL,nDp,pm⟩
     rw[rl7] at oll TD
     have pml:=pm.length_eq
     rw[Zd,Zg,oll] at pml
     have lf0:lf=[]:=List.length_eq_zero_iff.mp (by omega)
     subst lf0
     rw[List.append_nil] at pm
     have Cf:=Mw.ct Ts hL mw Cs
     have kf:Tk p H H':=fun c u e ne=>by
      have e2:=k7 c u e ne
      refine mw c u (sL _ _ e2) ne fun z=>?_
      rw[z,nLq] at e2
      cases e2
     obtain⟨rf,f1,f2,f3⟩:=id Cf
     have fl:(rf.map V.ref).length=t.length:=by rw[Za,f2,D7.len]
     refine⟨_,rfl,_,rfl,⟨_,.of f1⟩,?_⟩
     refine XM (Ws (K:=K) (.of f1)) [some (.ref D)] rfl (by omega) (fun a=>(List.range m7).map fun k=>orF os d7 a k) (fun a y hy H8 s8 R k8=>?_) (fun L ws H8 nL s8 hLL wl hw=>?_)
     ·obtain⟨r,rfl,ha,hr8⟩:=DT.row (DT.ct Cf) f1 hy
      have ha:a<t.length:=by rw[D7.len] at ha;exact ha
      have hD8:=s8 _ _ hD'
      refine⟨_,rfl,D,_,rfl,.inl (.of hD8),_,rfl,by rw[Za];omega,by rw[Za];omega,?_⟩
      rw[Za,oll,Zj]
      refine WP (YG 0 m7) [some (.ref D),some (.ref r)] rfl (fun k=>nV (orF os d7 a k)) (by rw[rl7];omega) (fun k y' hy' H9 s9 R' k9=>?_) (fun L9 H9 nL9 s9 hL9=>?_)
      ·obtain⟨hk,rfl⟩:=J9 hy'
       have km:k∈os:=pm.mem_iff.mpr (List.mem_range.mpr hk)
       obtain⟨p1,p2⟩:=ZgQ km
       have pm7:pos os k<m7:=by omega
       have hD9:=s9 _ _ hD8
       have onm:os.Nodup:=pm.nodup_iff.mpr List.nodup_range
       have dlt:=D7.lt a _ ha pm7
       refine⟨_,rfl,_,rfl,_,rfl,.inl ⟨rfl,_,.of hD9⟩,_,rfl,D,_,os.map fun k:Nat=>PyData.int (k:Int),.int (k:Int),_,pos os k,rfl,rfl,hD9,Wf os,.int _,ZeI os,rfl,Nat.zero_le _,by rw[Za];exact p1,fun d hd=>?_,fun m' d hm' hd=>?_,r,_,_,_,rfl,rfl,(hr8.mono (s8.trans s9)).sq,Zag (l:=d7.getD a []) (by rw[D7.rl a ha];exact pm7),D,_,_,_,rfl,rfl,.of hD9,Zag (l:=os) (i:=Zz d7 a (pos os k)) (by omega),k9 H9 (Same.refl _)⟩
       ·rw[Zc,Z0 p1,p2] at hd
        cases hd
        rw[Zcz]
        exact decide_eq_true rfl
       ·have hml:m'<os.length:=by omega
        rw[Zc,Z0 hml] at hd
        cases hd
        rw[Zcz]
        refine decide_eq_false fun e=>?_
        have e:os.getD m' 0=k:=by omega
        have:=Zd7 onm hml p1 (by rw[e,p2])
        omega
      ·rw[rl7,show (List.range m7).map (fun k=>nV (orF os d7 a k))=((List.range m7).map fun k=>orF os d7 a k).map nV by rw[List.map_map];rfl] at hL9
       exact⟨L9,_,rfl,.inl ⟨.of hL9,fun l nl=>k8 l _ (s9.trans (Same.upd nl)) Zt⟩⟩
     ·rw[fl] at wl
      refine⟨L,_,rfl,.inl ⟨.of hLL,fun r nr=>?_⟩⟩
      have s9:=s8.trans (Same.upd (H:=H8) (o:=.tup (ws.map V.ref)) nr)
      exact q r _ m7 _ (kf.trans (Tk.of s9)) ((TD.mono s9).le (by omega)) (ZcE (F:=fun a=>(List.range m7).map fun k=>orF os d7 a k) Zt wl fun i w h=>Same.upd nr _ _ (hw i w h)) (Zis Pt D7 pm) ml7
end
end C27
namespace N27
open PySem L2 PySem.Spec PyProof.Rows
def top (i:Nat):Stmt:=PySem.Challenge.pw_classtab_k27_traces_and_pieces.main.body.getD i (.Pass ⟨0,0,0,0⟩)
structure Bl (mg:Str->Option Value):Prop where
 list:mg "list"=none
 len:mg "len"=none
 abs:mg "abs"=none
 range:mg "range"=none
 tuple:mg "tuple"=none
 isi:mg "isinstance"=none
 all:mg "all"=none
 set:mg "set"=none
 repr:mg "repr"=none
 any:mg "any"=none
 int:mg "int"=none
 bool:mg "bool"=none
section
variable {P:Program}{w:World}{K:PySem.W.Frag}{mg:Str->Option Value}{base:Heap}
end
section
variable {P:Program}{w:World}{K:PySem.W.Frag}{mg:Str->Option Value}{base:Heap}
end
abbrev Zb6:Stmt:=top 9
abbrev Zb7:Stmt:=top 10
abbrev Zjb:Stmt:=top 11
abbrev Zjd:Stmt:=top 32
abbrev Zee:Stmt:=top 34
def strip:Nat->Int->Int->Int
 |0,r,_=>r
 |g+1,r,p=>if r % p=0 then strip g (r / p) p else r
def pr:Nat->Int->Int->List Int->List Int
 |0,_,_,acc=>acc
 |f+1,r,p,acc=>if 1<r then pr f (strip 6 r p) (p+1) (if r % p=0 then acc++[p] else acc) else acc
def Zbz:Nat->Int->Int->Bool
 |0,r,_=>decide (r<=1)
 |f+1,r,p=>if 1<r then Zbz f (strip 6 r p) (p+1) else true
def Yv (n:Int):List Int:=pr 100 n 2 []
def XY (n:Int):Int:=(Yv n).foldl (fun f p=>f / p*(p-1)) n
def Zdm:Nat->Int->Int->Int
 |0,a,_=>a
 |f+1,a,b=>if 0<b then Zdm f b (a % b) else a
def XZ (a b:Int):Int:=Zdm 100 a b
def Zat (n:Int):Int:=(((Z2 1 n.toNat).filter fun k=>decide (XZ k n=1)).length:Nat)
def okN (n:Nat):Bool:=Zbz 100 n 2 && (Yv n).all (fun p=>decide (2<=p) && decide (p<=60)) && decide (XY n=Zat n) && decide (1<=XY n) && decide (XY n<=60)
theorem Zgh:((List.range 61).all fun n=>n == 0 || okN n)=true:=by decide +kernel
theorem V9 {n:Nat}(h1:1<=n)(h2:n<=60):Zbz 100 n 2=true/\(∀p∈Yv n,2<=p/\p<=60)/\XY n=Zat n/\1<=XY n/\XY n<=60:=by
 have h:=List.all_eq_true.mp Zgh n (List.mem_range.mpr (by omega))
 have h0:(n == 0)=false:=by simp;omega
 rw[h0,Bool.false_or] at h
 unfold okN at h
 simp only[Bool.and_eq_true,decide_eq_true_eq,List.all_eq_true] at h
 exact⟨h.1.1.1.1,h.1.1.1.2,h.1.1.2,h.1.2,h.2⟩
theorem XJ {r p:Int}(hr:1<=r)(hp:2<=p)(h:r % p=0):1<=r / p/\2*(r / p)<=r:=by
 have e:p*(r / p)=r:=Int.mul_ediv_cancel' (Int.dvd_of_emod_eq_zero h)
 generalize r / p=q at e
 have q1:1<=q:=by
  apply Classical.byContradiction
  intro hn
  have:p*q<=p*0:=Int.mul_le_mul_of_nonneg_left (by omega) (by omega)
  omega
 have:2*q<=p*q:=Int.mul_le_mul_of_nonneg_right hp (by omega)
 omega
theorem Jk:∀(g:Nat) {r p:Int},1<=r->2<=p->1<=strip g r p/\strip g r p<=r
 |0,r,p,hr,_=>⟨hr,Int.le_refl _⟩
 |g+1,r,p,hr,hp=>by
  unfold strip
  by_cases h:r % p=0
  ·rw[if_pos h]
   obtain⟨a,b⟩:=XJ hr hp h
   have:=Jk g (r:=r / p) (p:=p) a hp
   omega
  ·rw[if_neg h];omega
theorem Xm {g:Nat}{r p:Int}(h:¬r % p=0):strip g r p=r:=by
 cases g with
 |zero=>rfl
 |succ g=>unfold strip;rw[if_neg h]
def UR:Sp:=fun vs H Q _=>∃n:Nat,vs=[.int n]/\1<=n/\n<=60/\∀l H',Same H H'->H' l=some (.lst ((Yv n).map V.int))->Q (.ref l) H'
def US:Sp:=fun vs H Q _=>∃n:Nat,vs=[.int n]/\1<=n/\n<=60/\∀H',Same H H'->Q (.int (XY n)) H'
def Zd2:Sp:=fun vs H Q _=>∃a b:Int,vs=[.int a,.int b]/\0<=b/\b<100/\Q (.int (XZ a b)) H
def ZbW:Sp:=fun vs H Q _=>∃n:Nat,vs=[.int n]/\1<=n/\n<=60/\∀H',Same H H'->Q (.int (Zat n)) H'
section
variable {P:Program}{w:World}{K:PySem.W.Frag}{mg:Str->Option Value}{base:Heap}
theorem Zc7 {f:Addr}{fd:FuncData}(F:WB K "primes_of" "primes_of" Zb6 f fd)(T:Bl mg):Z1 P w K mg base Yc 1 f fd ["n"] UR:=by
 refine F.ok (FS (N:=["n", "primes", "rest", "p"])) (fun vs H Q E h=>?_) (fun cdv A outer s H vs Q E hr h=>?_)
 ·obtain⟨n,rfl,_⟩:=h;rfl
 ·obtain⟨n,rfl,n1,n60,q⟩:=h
  obtain⟨hends,hps,_⟩:=V9 n1 n60
  refine⟨_,Zu (ZH 1 rfl (Ys Zs)) (Zu (ZH 2 rfl (vn 0)) (Zu (ZH 3 rfl Zx)
   (Zu (Yu PassesOwn.never (ZI Zad (vn 2) Zx (ZR _))
    (Zu (YR (ZI Vk (ZC YL (vn 2) (vn 3)) Zx (ZR _)) (Zv (Yq (Wg PySem.F.plainAttrs_list PySem.F.slot_list_append PySem.F.type_list_append ZX (vn 1) (pc (vn 3) Zs)))) Z4)
    (Zu (Yu PassesOwn.never (ZI Vk (ZC YL (vn 2) (vn 3)) Zx (ZR _)) (Zv (ZH 2 rfl (ZC W0 (vn 2) (vn 3)))))
    (Zv (Zbg (i:=3) (Z6 (by kernel_rfl)) rfl (Wi (by kernel_rfl)) Zx Zbr (.inl rfl))))))
   (Zv (ZD (vn 1)))))),?_⟩
  refine⟨by decide,fun l hl=>⟨_,rfl,?_⟩⟩
  have s1:Same H (upd H l (.lst [])):=Same.upd hl
  refine Yl (fun f σ' H'=>∃(r p:Int) (acc:List Int),σ'=[some (.int n),some (.ref l),some (.int r),some (.int p)]/\H'=upd H l (.lst (acc.map V.int))/\1<=r/\r<=60/\2<=p/\p+f=102/\acc.length+f<=100/\Zbz f r p=true/\pr f r p acc=Yv n)
   (fun σ' H'=>∃r p:Option V,σ'=[some (.int n),some (.ref l),r,p]/\H'=upd H l (.lst ((Yv n).map V.int))) ?hend ⟨100,n,2,[],rfl,rfl,by omega,by omega,by omega,by omega,by decide,hends,rfl⟩ ?turn
  case hend=>
   rintro σ' H' ⟨r,p,rfl,rfl⟩
   exact⟨_,rfl,q l _ (Same.upd hl) Zt⟩
  case turn=>
   rintro hend f σ' H' ⟨r,p,acc,rfl,rfl,r1,r60,p2,pf,al,he,hp⟩
   refine⟨_,rfl,_,_,rfl,rfl,_,rfl,?_⟩
   refine YN (fun h1=>?_) (fun h1=>?_)
   rotate_left
   ·have h1:¬ 1<r:=fun z=>h1 (decide_eq_true z)
    refine hend _ _ ⟨_,_,rfl,?_⟩
    have:pr f r p acc=acc:=by cases f with|zero=>rfl|succ f=>unfold pr;rw[if_neg h1]
    rw[<-hp,this]
   have h1:1<r:=of_decide_eq_true h1
   obtain⟨g,rfl⟩:∃g,f=g+1:=by
    cases f with
    |zero=>unfold Zbz at he;have:=of_decide_eq_true he;omega
    |succ g=>exact⟨g,rfl⟩
   refine⟨_,fun _ _ z=>z,?_⟩
   unfold Zbz at he
   unfold pr at hp
   rw[if_pos h1] at he hp
   have sz:(16777216:Nat)=sizeLine:=by decide
   refine⟨_,rfl,_,rfl,_,_,rfl,rfl,(by show (0:Int)<p;omega),rfl,_,rfl,?_⟩
   obtain⟨acc',hacc,hp',hA⟩:∃acc':List Int,acc'=(if r % p=0 then acc++[p] else acc)/\pr g (strip 6 r p) (p+1) acc'=Yv n/\acc'.length<=acc.length+1:=⟨_,rfl,hp,by split <;> simp⟩
   obtain⟨sb1,sb2⟩:=Jk 6 (r:=r) (p:=p) r1 p2
   refine YN (fun h2=>?_) (fun h2=>?_)
   ·have h2:r % p=0:=V.int.inj (of_decide_eq_true h2)
    refine⟨_,rfl,.inl ⟨rfl,_,.of Zt⟩,_,rfl,l,_,_,rfl,rfl,Zt,by rw[Za];omega,?_⟩
    have e1:upd (upd H l (.lst (acc.map V.int))) l (.lst (acc.map V.int++[.int p]))=upd H l (.lst (acc'.map V.int)):=by
     rw[ZfB,hacc,if_pos h2,List.map_append];rfl
    rw[e1]
    refine Yl (fun m σ'' H''=>∃(r':Int) (g':Nat),σ''=[some (.int n),some (.ref l),some (.int r'),some (.int p)]/\H''=upd H l (.lst (acc'.map V.int))/\1<=r'/\r'<=60/\r'<2 ^ g'/\strip g' r' p=strip 6 r p/\m=r'.toNat)
     (fun σ'' H''=>σ''=[some (.int n),some (.ref l),some (.int (strip 6 r p)),some (.int p)]/\H''=upd H l (.lst (acc'.map V.int))) ?hend2 ⟨_,r,6,rfl,rfl,r1,r60,by omega,rfl,rfl⟩ ?turn2
    case hend2=>
     rintro σ'' H'' ⟨rfl,rfl⟩
     exact⟨_,rfl,_,_,rfl,rfl,g,by omega,strip 6 r p,p+1,acc',rfl,rfl,sb1,by omega,by omega,by omega,by omega,he,hp'⟩
    case turn2=>
     rintro hend2 m σ'' H'' ⟨r',g',rfl,rfl,a1,a2,a3,a4,rfl⟩
     refine⟨_,rfl,_,rfl,_,_,rfl,rfl,(by show (0:Int)<p;omega),rfl,_,rfl,?_⟩
     refine YN (fun h3=>?_) (fun h3=>?_)
     ·have h3:r' % p=0:=V.int.inj (of_decide_eq_true h3)
      obtain⟨b1,b2⟩:=XJ a1 p2 h3
      obtain⟨g2,rfl⟩:∃g2,g'=g2+1:=by
       cases g' with
       |zero=>simp at a3;omega
       |succ g2=>exact⟨g2,rfl⟩
      unfold strip at a4
      rw[if_pos h3] at a4
      refine⟨_,fun _ _ z=>z,_,rfl,_,rfl,_,_,rfl,rfl,⟨by omega,by omega⟩,(r' / p).toNat,by omega,r' / p,g2,rfl,rfl,b1,by omega,?_,a4,rfl⟩
      rw[Int.pow_succ] at a3
      omega
     ·have h3:¬r' % p=0:=fun z=>h3 (decide_eq_true (congrArg V.int z))
      rw[Xm h3] at a4
      exact hend2 _ _ ⟨by rw[a4],rfl⟩
   ·have h2:¬r % p=0:=fun z=>h2 (decide_eq_true (congrArg V.int z))
    have e1:upd H l (.lst (acc.map V.int))=upd H l (.lst (acc'.map V.int)):=by rw[hacc,if_neg h2]
    rw[e1]
    have e2:strip 6 r p=r:=Xm h2
    refine Yl (fun m σ'' H''=>σ''=[some (.int n),some (.ref l),some (.int r),some (.int p)]/\H''=upd H l (.lst (acc'.map V.int)))
     (fun σ'' H''=>σ''=[some (.int n),some (.ref l),some (.int r),some (.int p)]/\H''=upd H l (.lst (acc'.map V.int))) ?hend3 ⟨0,rfl,rfl⟩ ?turn3
    case hend3=>
     rintro σ'' H'' ⟨rfl,rfl⟩
     exact⟨_,rfl,_,_,rfl,rfl,g,by omega,r,p+1,acc',rfl,rfl,r1,by omega,by omega,by omega,by omega,e2▸he,e2▸hp'⟩
    case turn3=>
     rintro hend3 m σ'' H'' ⟨rfl,rfl⟩
     refine⟨_,rfl,_,rfl,_,_,rfl,rfl,(by show (0:Int)<p;omega),rfl,_,rfl,?_⟩
     exact Zdi (fun z=>h2 (V.int.inj (of_decide_eq_true z))) (hend3 _ _ ⟨rfl,rfl⟩)
theorem Zc8 {f:Addr}{fd:FuncData}(F:WB K "places" "places" Zb7 f fd)(T:Bl mg)(GP:Fn P w K mg base Yc 1 "primes_of" ["n"] UR):Z1 P w K mg base Yc 2 f fd ["n"] US:=by
 refine F.ok (FS (N:=["n", "found", "p"])) (fun vs H Q E h=>?_) (fun cdv A outer s H vs Q E hr h=>?_)
 ·obtain⟨n,rfl,_⟩:=h;rfl
 ·obtain⟨n,rfl,n1,n60,q⟩:=h
  obtain⟨_,hps,_⟩:=V9 n1 n60
  refine⟨_,Zu (ZH 1 rfl (vn 0)) (Zu (Yi PassesOwn.never rfl (itL K (Y3 GP hr ZE (pc (vn 0) Zs))) (gn 2)
   (Zv (ZH 1 rfl (ZC Jb (ZC W0 (vn 1) (vn 2)) (ZC V7 (vn 2) Zx)))))
   (Zv (ZD (vn 1)))),?_⟩
  refine⟨_,rfl,_,rfl,n,rfl,n1,n60,fun l H1 s1 hl=>⟨l,rfl,⟨_,.of hl⟩,?_⟩⟩
  refine Ju (Y4 (Wb.of hl)) (fun i σ' H'=>∃v2:Option V,σ'=[some (.int n),some (.int (((Yv n).take i).foldl (fun f p=>f / p*(p-1)) n)),v2]/\H'=H1) ⟨none,rfl,rfl⟩ (fun _ _ _ ⟨_,_,e⟩=>e▸Same.refl _) ?_ ?_
  ·rintro i x σ' H' hx ⟨v2,rfl,rfl⟩
   rw[Zc] at hx
   cases e:(Yv n)[i]? with
   |none=>rw[e] at hx;cases hx
   |some p=>
    rw[e] at hx
    cases hx
    obtain⟨a1,a2⟩:=hps p (List.mem_of_getElem? e)
    refine⟨_,rfl,_,rfl,_,_,rfl,rfl,⟨by omega,by omega⟩,_,rfl,_,_,rfl,rfl,_,_,rfl,rfl,.inr ⟨by omega,by omega⟩,?_⟩
    refine⟨some (.int p),?_,rfl⟩
    have ht:(Yv n).take (i+1)=(Yv n).take i++[p]:=by rw[List.take_add_one,e];rfl
    rw[ht,List.foldl_append]
    rfl
  ·rintro σ' H' ⟨v2,rfl,rfl⟩
   refine⟨_,rfl,?_⟩
   rw[Za,List.take_length]
   exact q H' s1
theorem ZhY {f:Addr}{fd:FuncData}(F:WB K "_law_shared" "_law_shared" Zjd f fd):Z1 P w K mg base Yc 1 f fd ["_law_one", "_law_other"] Zd2:=by
 refine F.ok (FS (N:=["_law_one", "_law_other"])) (fun vs H Q E h=>?_) (fun cdv A outer s H vs Q E hr h=>?_)
 ·obtain⟨a,b,rfl,_⟩:=h;rfl
 ·obtain⟨a,b,rfl,b0,b1,q⟩:=h
  refine⟨_,Zu (Yu PassesOwn.never (ZI Zad (vn 1) Zx (ZR _)) (Zv (ZhK (i:=0) (j:=1) rfl (Z6 (by kernel_rfl)) rfl rfl (by decide) (Yo (by kernel_rfl)) (Yo (by kernel_rfl)) (pc (vn 1) (pc (ZC YL (vn 0) (vn 1)) Zs)) rfl)))
   (Zv (ZD (vn 0))),?_⟩
  refine Yl (fun m σ' H'=>∃(a' b':Int),σ'=[some (.int a'),some (.int b')]/\H'=H/\0<=b'/\b'<m/\Zdm m a' b'=XZ a b) (fun σ' H'=>∃b':Option V,σ'=[some (.int (XZ a b)),b']/\H'=H) ?hend ⟨100,a,b,rfl,rfl,b0,b1,rfl⟩ ?turn
  case hend=>
   rintro σ' H' ⟨b',rfl,rfl⟩
   exact⟨_,rfl,q⟩
  case turn=>
   rintro hend m σ' H' ⟨a',b',rfl,rfl,c0,c1,c2⟩
   refine⟨_,rfl,_,_,rfl,rfl,_,rfl,?_⟩
   obtain⟨m2,rfl⟩:∃m2,m=m2+1:=⟨m-1,by omega⟩
   unfold Zdm at c2
   refine YN (fun h1=>?_) (fun h1=>?_)
   ·have h1:0<b':=of_decide_eq_true h1
    rw[if_pos h1] at c2
    refine⟨_,fun _ _ z=>z,_,rfl,_,rfl,_,rfl,_,_,rfl,rfl,h1,_,_,rfl,m2,by omega,b',a' % b',rfl,rfl,Int.emod_nonneg _ (by omega),?_,c2⟩
    have:=Int.emod_lt_of_pos a' h1
    omega
   ·have h1:¬ 0<b':=fun z=>h1 (decide_eq_true z)
    rw[if_neg h1] at c2
    exact hend _ _ ⟨_,by rw[c2],rfl⟩
end
def ZgO:Sp:=fun vs H Q _=>∃(n:Nat) (k:Int),vs=[.int n,.int k]/\1<=n/\n<=60/\∀p H',Same H H'->H' p=some (.tup ((k::List.replicate (XY n-1).toNat 0).map V.int))->Q (.ref p) H'
section
variable {P:Program}{w:World}{K:PySem.W.Frag}{mg:Str->Option Value}{base:Heap}
theorem ZeC {f:Addr}{fd:FuncData}(F:WB K "_law_places" "_law_places" Zee f fd)(T:Bl mg)(GG:Fn P w K mg base Yc 1 "_law_shared" ["_law_one", "_law_other"] Zd2):Z1 P w K mg base Yc 2 f fd ["_law_n"] ZbW:=by
 refine F.ok (FS (N:=["_law_n"])) (fun vs H Q E h=>?_) (fun cdv A outer s H vs Q E hr h=>?_)
 ·obtain⟨n,rfl,_⟩:=h;rfl
 ·obtain⟨n,rfl,n1,n60,q⟩:=h
  refine⟨_,Zv (ZD (cb (Yj K) T.len (pc (cmp ["_law_k"] [0] ["_law_k", "_law_n"] rfl (Zkw T.range (pc Zx (pc (ZC YD (vn 0) Zx) Zs))) (fun _ _ _ _ _=>gn 0)
   (fun _ _ _ _ _=>V3 (ZI Vk (Y3 GG hr ZE (pc (vn 0) (pc (vn 1) Zs))) Zx (ZR _))) (fun _ _ _ _ _=>vn 0)) Zs))),?_⟩
  refine⟨_,rfl,_,_,rfl,rfl,1,(n:Int)+1,rfl,⟨by omega,by omega,by omega,by omega⟩,?_⟩
  have en:((n:Int)+1-1).toNat=n:=by omega
  rw[en]
  refine VA (YG 1 n) [some (.int n)] rfl (fun y=>match y with | .int k=>decide (XZ k n=1)|_=>false) (fun y=>y) (by rw[Za,ZY];omega) ?_ ?_
  ·intro i y H' hy s' R R' g1 g2
   rw[Zc] at hy
   cases e:(Z2 1 n)[i]? with
   |none=>rw[e] at hy;cases hy
   |some k=>
    rw[e] at hy
    cases hy
    refine⟨_,rfl,_,rfl,k,n,rfl,by omega,by omega,rfl,_,rfl,?_⟩
    refine YN (fun b1=>?_) (fun b1=>?_)
    ·have b1:XZ k n=1:=V.int.inj (of_decide_eq_true b1)
     exact⟨_,rfl,g1 (decide_eq_true b1) H' (Same.refl _)⟩
    ·have b1:¬XZ k n=1:=fun z=>b1 (decide_eq_true (congrArg V.int z))
     exact g2 (decide_eq_false b1) H' (Same.refl _)
  ·intro D H' hD s' hD'
   refine⟨D,_,rfl,.inl (.of hD'),?_⟩
   have e:((((Z2 1 n).map V.int).filter fun y=>match y with | .int k=>decide (XZ k n=1)|_=>false).map fun y=>y).length=((Z2 1 n).filter fun k=>decide (XZ k n=1)).length:=by
    rw[List.map_id',List.filter_map,Za];rfl
   rw[e]
   have:=q H' s'
   unfold Zat at this
   rw[Zj] at this
   exact this
theorem Jp (m:Nat):(List.replicate m [V.int 0]).flatten=(List.replicate m (0:Int)).map V.int:=by
 induction m with
 |zero=>rfl
 |succ m ih=>rw[List.replicate_succ,List.flatten_cons,ih,List.replicate_succ];rfl
theorem ZhW {f:Addr}{fd:FuncData}(F:WB K "whole" "whole" Zjb f fd)(GP:Fn P w K mg base Yc 2 "places" ["n"] US):Z1 P w K mg base Yc 3 f fd ["n", "k"] ZgO:=by
 refine F.ok (FS (N:=["n", "k"])) (fun vs H Q E h=>?_) (fun cdv A outer s H vs Q E hr h=>?_)
 ·obtain⟨n,k,rfl,_⟩:=h;rfl
 ·obtain⟨n,k,rfl,n1,n60,q⟩:=h
  obtain⟨_,_,_,p1,p60⟩:=V9 n1 n60
  refine⟨_,Zv (ZD (ZC V8 (JJ (pc (vn 1) Zs)) (ZC Zch (JJ (pc Zx Zs)) (ZC V7 (Y3 GP hr ZE (pc (vn 0) Zs)) Zx)))),?_⟩
  refine⟨_,rfl,(by show 1<=sizeLine;decide),fun t1 h1=>⟨(by show 1<=sizeLine;decide),fun t2 h2=>⟨_,rfl,n,rfl,n1,n60,fun H1 s1=>⟨_,_,rfl,rfl,?_⟩⟩⟩⟩
  have st1:Same H (upd H t1 (.tup [.int k])):=Same.upd h1
  have st2:=Same.upd (o:=.tup [.int 0]) h2
  obtain⟨m,hm⟩:=Int.eq_ofNat_of_zero_le (show 0<=XY n-1 by omega)
  refine⟨t2,_,m,rfl,congrArg V.int hm,s1 _ _ Zt,by simp,by simp;omega,by omega,fun t3 H3 s3 h3=>?_⟩
  refine⟨t1,t3,_,_,rfl,rfl,s3 _ _ (s1 _ _ (st2 _ _ Zt)),h3,?_,fun t4 H4 s4 h4=>?_⟩
  ·rw[Jp,Za,Ze]
   have:(16777216:Nat)=sizeLine:=by decide
   simp;omega
  ·refine q t4 H4 ((((st1.trans st2).trans s1).trans s3).trans s4) ?_
   rw[h4,Jp,hm,Zj];rfl
end
end N27
namespace C27
open PySem L2 PySem.Spec PyProof.Rows
open Tb Pm
abbrev Zb5:Stmt:=top 33
theorem ZaA:∀(f a b:Nat),b<f->N27.Zdm f (a:Int) (b:Int)=(Nat.gcd a b:Nat)
 |0,a,b,h=>by omega
 |f+1,a,b,h=>by
  rw[N27.Zdm]
  by_cases h0:(0:Int)<(b:Int)
  ·rw[if_pos h0]
   have hb:0<b:=by omega
   have e:(a:Int) % (b:Int)=((a % b:Nat):Int):=by push_cast;rfl
   rw[e,ZaA f b (a % b) (by have:=Nat.mod_lt a hb;omega),Nat.gcd_comm b (a % b),<-Nat.gcd_rec,Nat.gcd_comm]
  ·rw[if_neg h0]
   have:b=0:=by omega
   subst this
   rw[Nat.gcd_zero_right]
theorem Ze5 {a b:Nat}(h:b<100):N27.XZ (a:Int) (b:Int)=(Nat.gcd a b:Nat):=ZaA 100 a b h
theorem Zcc {t:List (List Nat)}{a r r':Nat}(R:Rd t a r)(R':Rd t a r'):r=r':=by
 apply Classical.byContradiction
 intro z
 rcases Nat.lt_or_gt_of_ne z with h|h
 ·exact R'.nz r R.r1 h R.z
 ·exact R.nz r' R'.r1 h R'.z
def UQ:Sp:=fun vs H Q _=>∃(g:Addr) (t:List (List Nat)),vs=[.ref g]/\GT H g t/\PW t/\∀(m:Nat) H',Same H H'->1<=m->m<=60->(∀a,a<t.length->∀r,Rd t a r->r ∣ m)->(∀M,(∀a,a<t.length->∀r,Rd t a r->r ∣ M)->m ∣ M)->Q (.int m) H'
section
variable {P:Program}{w:World}{K:PySem.W.Frag}{mg:Str->Option Value}{base:Heap}
theorem Zc6 {f:Addr}{fd:FuncData}(F:WB K "_law_round" "_law_round" Zb5 f fd)(T:Bl mg)(GS:Fn P w K mg base Yc 1 "_law_shared" ["_law_one", "_law_other"] N27.Zd2):Z1 P w K mg base Yc 2 f fd ["_law_group_here"] UQ:=by
 refine F.ok (FS (N:=["_law_group_here", "_law_found", "_law_a", "_law_here", "_law_many"])) (fun vs H Q E h=>?_) (fun cdv A outer s H vs Q E hr h=>?_)
 ·obtain⟨g,t,rfl,_⟩:=h;rfl
 ·obtain⟨g,t,rfl,G,Pt,q⟩:=h
  refine⟨_,Zu (ZH 1 rfl Zx)
   (Zu (Yi PassesOwn.never rfl (Wt T.range (pc (cb (Yj K) T.len (pc (vn 0) Zs)) Zs)) (gn 2)
    (Zu (ZH 3 rfl (vn 2))
    (Zu (ZH 4 rfl Zx)
    (Zu (Yu PassesOwn.never (ZI Zac (vn 3) Zx (ZR _))
     (Zu (ZH 3 rfl (ZF (WF K) (ZF (WF K) (vn 0) (vn 3) (fun _ _=>rfl)) (vn 2) (fun _ _=>rfl)))
     (Zv (ZH 4 rfl (ZC YD (vn 4) Zx)))))
    (Zv (ZH 1 rfl (ZC W0 (ZC Jb (vn 1) (vn 4)) (Y3 GS hr ZE (pc (vn 1) (pc (vn 4) Zs))))))))))
   (Zv (ZD (vn 1)))),?_⟩
  have n60:=Pt.n60
  have n1:=Pt.n1
  obtain⟨gs,u1,u2,_⟩:=id G
  have el:(gs.map V.ref).length=t.length:=by rw[Za,u2]
  refine⟨_,rfl,g,_,rfl,.inr (.of u1),_,rfl,by rw[el];omega,by rw[el];omega,?_⟩
  rw[el,Zj]
  refine Z8 (fun i σ' H'=>∃(m:Nat) (v2 v3 v4:Option V),σ'=[some (.ref g),some (.int (m:Nat)),v2,v3,v4]/\Same H H'/\1<=m/\m ∣ t.length/\(∀b,b<i->∀r,Rd t b r->r ∣ m)/\∀M,(∀b,b<i->∀r,Rd t b r->r ∣ M)->m ∣ M) ⟨1,_,_,_,rfl,Same.refl _,Zq _,Nat.one_dvd _,fun b hb=>absurd hb (Nat.not_lt_zero _),fun M _=>Nat.one_dvd _⟩ ?_ ?_
  ·rintro a σ' H1 ha ⟨m,v2,v3,v4,rfl,s1,m1,md,mr,ml⟩
   rw[show (0:Int)+(a:Int)=(a:Int) by omega]
   obtain⟨r,R⟩:=Pt.rd a ha
   have r1:=R.r1
   have rn:=R.rn
   refine⟨_,rfl,?_⟩
   refine Yl (fun x σ' H'=>∃k:Nat,σ'=[some (.ref g),some (.int (m:Nat)),some (.int (a:Nat)),some (.int (it t a k:Nat)),some (.int (k:Nat))]/\Same H H'/\1<=k/\k<=r/\x=r-k)
    (fun σ' H'=>∃v3:Option V,σ'=[some (.ref g),some (.int (m:Nat)),some (.int (a:Nat)),v3,some (.int (r:Nat))]/\Same H H') ?hend ⟨r-1,1,by rw[ZeW Pt ha];rfl,s1,Zq _,r1,rfl⟩ ?turn
   case hend=>
    rintro σ' H' ⟨v3',rfl,sm⟩
    have mle:m<=60:=Nat.le_trans (Nat.le_of_dvd n1 md) n60
    have gp:0<Nat.gcd m r:=Nat.gcd_pos_of_pos_left _ m1
    have gle:Nat.gcd m r<=m:=Nat.gcd_le_left _ m1
    have eL:((m:Int)*(r:Int)) / ((Nat.gcd m r:Nat):Int)=((Nat.lcm m r:Nat):Int):=by
     unfold Nat.lcm
     push_cast
     rfl
    refine⟨_,rfl,_,rfl,_,_,rfl,rfl,.inl ⟨by omega,by omega⟩,_,rfl,_,rfl,_,_,rfl,by omega,by omega,?_⟩
    rw[Ze5 (by omega)]
    refine⟨_,_,rfl,rfl,⟨by omega,by omega⟩,?_⟩
    dsimp only
    rw[eL]
    refine⟨_,_,_,_,rfl,sm,Nat.lcm_pos m1 r1,Nat.lcm_dvd md (Nat.dvd_of_mod_eq_zero R.dv),fun b hb r' R'=>?_,fun M hM=>Nat.lcm_dvd (ml M fun b hb=>hM b (by omega)) (hM a (by omega) r R)⟩
    by_cases e:b=a
    ·subst e
     rw[Zcc R' R]
     exact Nat.dvd_lcm_right _ _
    ·exact Nat.dvd_trans (mr b (by omega) r' R') (Nat.dvd_lcm_left _ _)
   case turn=>
    rintro hend x σ' H' ⟨k,rfl,sm,k1,kr,hx⟩
    refine⟨_,rfl,rfl,_,rfl,?_⟩
    refine YN (fun h1=>?_) (fun h1=>?_)
    ·have h1:it t a k≠0:=fun z=>by
      rw[YT,z] at h1
      simp at h1
     have kr':k<r:=Nat.lt_of_le_of_ne kr fun z=>h1 (z▸R.z)
     obtain⟨rs,r2,g1,_,g2,g3,g4⟩:=(G.mono sm).at Pt (JY Pt ha k)
     refine⟨_,fun _ _ z=>z,_,rfl,_,rfl,g,_,_,_,rfl,rfl,.of g1,g2,_,rfl,r2,_,_,_,rfl,rfl,g3.sq,g4 a ha,_,rfl,_,_,rfl,rfl,r-(k+1),by omega,k+1,rfl,sm,by omega,by omega,rfl⟩
    ·have h1:it t a k=0:=by
      apply Classical.byContradiction
      intro z
      apply h1
      rw[YT]
      simp[z]
     have:k=r:=by
      apply Classical.byContradiction
      intro z
      exact R.nz k k1 (by omega) h1
     subst this
     exact hend _ _ ⟨_,rfl,sm⟩
  ·rintro σ' H1 ⟨m,v2,v3,v4,rfl,s1,m1,md,mr,ml⟩
   exact⟨_,rfl,q m H1 s1 m1 (Nat.le_trans (Nat.le_of_dvd n1 md) n60) mr ml⟩
end
end C27
namespace L2
open PySem PySem.Spec PyProof.Rows
section
variable {X:Cx}{pos:Pos}
end
end L2
namespace C27
open PySem L2 PySem.Spec PyProof.Rows
open Tb Pm
abbrev Zd9:Stmt:=top 2
abbrev ZgT:Stmt:=top 3
def ZbS:Sp:=fun vs H Q _=>∃(g:Addr) (t:List (List Nat)) (a r:Nat),vs=[.ref g,.int a]/\GT H g t/\PW t/\a<t.length/\Rd t a r/\Q (.int r) H
def Zd3:Sp:=fun vs H Q _=>∃(g:Addr) (t:List (List Nat)) (rs:Nat->Nat),vs=[.ref g]/\GT H g t/\PW t/\(∀a,a<t.length->Rd t a (rs a))/\∀(f:Nat) H',Same H H'->Lc rs t.length f->Q (.int f) H'
section
variable {P:Program}{w:World}{K:PySem.W.Frag}{mg:Str->Option Value}{base:Heap}
theorem Zey {f:Addr}{fd:FuncData}(F:WB K "round_of" "round_of" Zd9 f fd):Z1 P w K mg base Yc 1 f fd ["group", "a"] ZbS:=by
 refine F.ok (FS (N:=["group", "a", "k", "found"])) (fun vs H Q E h=>?_) (fun cdv A outer s H vs Q E hr h=>?_)
 ·obtain⟨g,t,a,r,rfl,_⟩:=h;rfl
 ·obtain⟨g,t,a,r,rfl,G,Pt,ha,R,q⟩:=h
  refine⟨_,Zu (ZH 2 rfl Zx) (Zu (ZH 3 rfl (vn 1))
   (Zu (Yu PassesOwn.never (ZI Zac (vn 3) Zx (ZR _))
    (Zu (ZH 3 rfl (ZF (WF K) (ZF (WF K) (vn 0) (vn 3) (fun _ _=>rfl)) (vn 1) (fun _ _=>rfl)))
    (Zv (Zbg (i:=2) (Z6 (by kernel_rfl)) rfl (Wi (by kernel_rfl)) Zx Zbr (.inl rfl)))))
   (Zv (ZD (vn 2))))),?_⟩
  have r1:=R.r1
  refine⟨_,rfl,?_⟩
  refine Yl (fun m σ' H'=>∃k:Nat,σ'=[some (.ref g),some (.int a),some (.int k),some (.int (it t a k:Nat))]/\H'=H/\1<=k/\k<=r/\m=r-k)
   (fun σ' H'=>∃v3:Option V,σ'=[some (.ref g),some (.int a),some (.int r),v3]/\H'=H) ?hend ⟨r-1,1,by rw[ZeW Pt ha];rfl,rfl,Zq _,r1,rfl⟩ ?turn
  case hend=>
   rintro σ' H' ⟨v3,rfl,rfl⟩
   exact⟨_,rfl,q⟩
  case turn=>
   rintro hend m σ' H' ⟨k,rfl,rfl,k1,kr,hm⟩
   refine⟨_,rfl,rfl,_,rfl,?_⟩
   refine YN (fun h1=>?_) (fun h1=>?_)
   ·have h1:it t a k≠0:=fun z=>by
     rw[YT,z] at h1
     simp at h1
    have kr':k<r:=Nat.lt_of_le_of_ne kr fun z=>h1 (z▸R.z)
    obtain⟨rs,r2,g1,_,g2,g3,g4⟩:=G.at Pt (JY Pt ha k)
    refine⟨_,fun _ _ z=>z,_,rfl,_,rfl,g,_,_,_,rfl,rfl,.of g1,g2,_,rfl,r2,_,_,_,rfl,rfl,g3.sq,g4 a ha,_,rfl,_,_,rfl,rfl,r-(k+1),by omega,k+1,?_,rfl,by omega,by omega,rfl⟩
    rfl
   ·have h1:it t a k=0:=by
     apply Classical.byContradiction
     intro z
     apply h1
     rw[YT]
     simp[z]
    have:k=r:=by
     apply Classical.byContradiction
     intro z
     exact R.nz k k1 (by omega) h1
    exact hend _ _ ⟨_,by rw[this],rfl⟩
theorem Zge {f:Addr}{fd:FuncData}(F:WB K "full_round" "full_round" ZgT f fd)(T:Bl mg)(GR:Fn P w K mg base Yc 1 "round_of" ["group", "a"] ZbS):Z1 P w K mg base Yc 2 f fd ["group"] Zd3:=by
 refine F.ok (FS (N:=["group", "found", "a", "step"])) (fun vs H Q E h=>?_) (fun cdv A outer s H vs Q E hr h=>?_)
 ·obtain⟨g,t,rs,rfl,_⟩:=h;rfl
 ·obtain⟨g,t,rs,rfl,G,Pt,R,q⟩:=h
  refine⟨_,Zu (ZH 1 rfl Zx) (Zu (Yi PassesOwn.never rfl (Wt T.range (pc (cb (Yj K) T.len (pc (vn 0) Zs)) Zs)) (gn 2)
    (Zu (ZH 3 rfl (vn 1))
    (Zv (Yu PassesOwn.never (ZI Zac (ZC YL (vn 1) (Y3 GR hr ZE (pc (vn 0) (pc (vn 2) Zs)))) Zx (ZR _)) (Zv (Zbg (i:=1) (Z6 (by kernel_rfl)) rfl (Wi (by kernel_rfl)) (vn 3) Zbr (.inl rfl)))))))
   (Zv (ZD (vn 1)))),?_⟩
  have n1:=Pt.n1
  have n60:=Pt.n60
  obtain⟨gs,g1,g2,_⟩:=id G
  have el:(gs.map V.ref).length=t.length:=by rw[Za,g2]
  refine⟨_,rfl,g,_,rfl,.inr (.of g1),_,rfl,by omega,by rw[el];omega,?_⟩
  rw[Zj,el]
  refine Z8 (fun i σ' H'=>∃(f:Nat) (v2 v3:Option V),σ'=[some (.ref g),some (.int f),v2,v3]/\Same H H'/\Lc rs i f) ⟨1,_,_,rfl,Same.refl _,⟨Zq _,fun a ha=>absurd ha (Nat.not_lt_zero _),fun x _=>Nat.mod_one x⟩⟩ ?_ ?_
  ·rintro i σ' H' hi ⟨f,v2,v3,rfl,sm,L⟩
   rw[show (0:Int)+(i:Int)=(i:Int) by omega]
   have Ri:=R i hi
   have ri1:=Ri.r1
   have L2:Lc rs (i+1) (upTo (rs i) f 61 f):=L.step (B:=t.length) n1 (fun a ha=>(R a (by omega)).dv) (by omega)
   have dvt:=L2.dv i (by omega)
   refine⟨_,rfl,?_⟩
   refine Yl (fun m σ'' H''=>∃x:Nat,σ''=[some (.ref g),some (.int x),some (.int i),some (.int f)]/\H''=H'/\upTo (rs i) f m x=upTo (rs i) f 61 f)
    (fun σ'' H''=>σ''=[some (.ref g),some (.int (upTo (rs i) f 61 f:Nat)),some (.int i),some (.int f)]/\H''=H') ?hend ⟨61,f,rfl,rfl,rfl⟩ ?turn
   case hend=>
    rintro σ'' H'' ⟨rfl,rfl⟩
    exact⟨_,_,_,rfl,sm,L2⟩
   case turn=>
    rintro hend m σ'' H'' ⟨x,rfl,rfl,hx⟩
    have eT:(x:Int) % ((rs i:Nat):Int)=((x % rs i:Nat):Int):=by push_cast;rfl
    refine⟨_,rfl,_,rfl,_,rfl,g,t,i,rs i,rfl,G.mono sm,Pt,hi,Ri,_,_,rfl,rfl,(by show (0:Int)<(rs i:Nat);omega),rfl,_,rfl,?_⟩
    refine YN (fun h1=>?_) (fun h1=>?_)
    ·have h1:x % rs i≠0:=fun z=>by
      rw[YT,eT,z] at h1
      simp at h1
     cases m with
     |zero=>
      have hx:x=upTo (rs i) f 61 f:=hx
      rw[<-hx] at dvt
      exact absurd dvt h1
     |succ m=>
      rw[Tb.upTo,if_neg h1] at hx
      exact⟨_,fun _ _ z=>z,_,rfl,_,rfl,_,_,rfl,rfl,m,by omega,x+f,rfl,rfl,hx⟩
    ·have h1:x % rs i=0:=by
      apply Classical.byContradiction
      intro z
      apply h1
      rw[YT,eT]
      simp
      omega
     have:x=upTo (rs i) f 61 f:=by
      cases m with
      |zero=>exact hx
      |succ m=>rw[Tb.upTo,if_pos h1] at hx;exact hx
     exact hend _ _ ⟨by rw[this],rfl⟩
  ·rintro σ' H' ⟨f,v2,v3,rfl,sm,L⟩
   exact⟨_,rfl,q f H' sm L⟩
end
end C27
namespace PyS
open PySem PySem.SetTable
def adv (m:Nat)(p:Probe):Probe:=
 if p.more > 0 then {p with j:=p.j+1,more:=p.more-1} else
 let (i,perturb):=leap m p.i p.perturb
 {p with j:=i,more:=runEnd m i-i,i,perturb}
theorem ZiD (t:SetTable)(p:Probe):t.advance p=adv t.mask p:=rfl
theorem VG (m:Nat)(p:Probe):(adv m p).dummy=p.dummy:=by
 unfold adv
 split <;> rfl
def wk (m:Nat):Nat->Probe->Probe
 |0,p=>p
 |k+1,p=>wk m k (adv m p)
theorem YB (m:Nat):∀(a b:Nat) (p:Probe),wk m (a+b) p=wk m b (wk m a p)
 |0,b,p=>by rw[Nat.zero_add];rfl
 |a+1,b,p=>by rw[show a+1+b=(a+b)+1 by omega];exact YB m a b _
theorem ZbM (m k:Nat)(p:Probe):wk m (k+1) p=adv m (wk m k p):=YB m k 1 p
theorem UH (m:Nat):∀(k:Nat) (p:Probe),(wk m k p).dummy=p.dummy
 |0,p=>rfl
 |k+1,p=>(UH m k _).trans (VG m p)
def st0 (m i pt:Nat):Probe:=⟨i,runEnd m i-i,i,pt,none⟩
theorem Wd {m i:Nat}(h:i<=m):i<=runEnd m i/\runEnd m i<=m/\runEnd m i<=i+9:=by
 unfold runEnd
 split <;> omega
theorem run (m i pt:Nat):∀c,c<=runEnd m i-i->wk m c (st0 m i pt)=⟨i+c,runEnd m i-i-c,i,pt,none⟩
 |0,_=>rfl
 |c+1,h=>by
  rw[ZbM,run m i pt c (by omega)]
  unfold adv
  dsimp only
  rw[if_pos (by omega)]
  congr 1
theorem Xs (m i pt:Nat):wk m (runEnd m i-i+1) (st0 m i pt)=st0 m (leap m i pt).1 (leap m i pt).2:=by
 rw[ZbM,run m i pt _ (Zq _)]
 unfold adv
 dsimp only
 rw[if_neg (by omega)]
 rfl
def lp (m:Nat):Nat->Nat×Nat->Nat×Nat
 |0,x=>x
 |l+1,x=>lp m l (leap m x.1 x.2)
theorem ZeP (m:Nat):∀(a b:Nat) (x:Nat×Nat),lp m (a+b) x=lp m b (lp m a x)
 |0,b,x=>by rw[Nat.zero_add];rfl
 |a+1,b,x=>by rw[show a+1+b=(a+b)+1 by omega];exact ZeP m a b _
theorem W3 (m i pt:Nat):(leap m i pt).1<=m:=by
 unfold leap
 have:=Nat.mod_lt (i*5+1+pt / 32) (show 0<m+1 by omega)
 dsimp only
 omega
theorem Zha (m:Nat):∀(l:Nat) (x:Nat×Nat),x.1<=m->(lp m l x).1<=m
 |0,x,h=>h
 |l+1,x,h=>Zha m l _ (W3 m x.1 x.2)
theorem Zhx (m:Nat):∀(l i pt:Nat),i<=m->∃k,k<=10*l/\wk m k (st0 m i pt)=st0 m (lp m l (i,pt)).1 (lp m l (i,pt)).2
 |0,i,pt,_=>⟨0,by omega,rfl⟩
 |l+1,i,pt,hi=>by
  obtain⟨k,hk,e⟩:=Zhx m l (leap m i pt).1 (leap m i pt).2 (W3 m i pt)
  have:=Wd hi
  refine⟨runEnd m i-i+1+k,by omega,?_⟩
  rw[YB,Xs,e]
  rfl
theorem Zg9 (m:Nat):∀(l i pt:Nat),(lp m l (i,pt)).2=pt / 32 ^ l
 |0,i,pt=>by rw[Nat.pow_zero,Nat.div_one];rfl
 |l+1,i,pt=>by
  show (lp m l ((leap m i pt).1,pt / 32)).2=_
  rw[Zg9 m l,Nat.div_div_eq_div_mul,Nat.pow_succ,Nat.mul_comm]
def f5 (m:Nat):Nat->Nat->Nat
 |0,i=>i
 |c+1,i=>f5 m c ((i*5+1) % (m+1))
theorem Ur (m:Nat):∀(a b i:Nat),f5 m (a+b) i=f5 m b (f5 m a i)
 |0,b,i=>by rw[Nat.zero_add];rfl
 |a+1,b,i=>by rw[show a+1+b=(a+b)+1 by omega];exact Ur m a b _
theorem Zcr (m:Nat):∀(c i:Nat),lp m c (i,0)=(f5 m c i,0)
 |0,i=>rfl
 |c+1,i=>by
  show lp m c ((i*5+1+0 / 32) % (m+1),0 / 32)=_
  rw[Nat.zero_div,Nat.add_zero,Zcr m c]
  rfl
def ring (m:Nat):Nat->Nat->List Nat
 |0,_=>[]
 |c+1,i=>i::ring m c ((i*5+1) % (m+1))
theorem U4 (m:Nat):∀(c i j:Nat),j∈ring m c i->∃k,k<c/\f5 m k i=j
 |0,i,j,h=>by cases h
 |c+1,i,j,h=>by
  rcases List.mem_cons.mp h with h|h
  ·exact⟨0,by omega,h.symm⟩
  ·obtain⟨k,hk,e⟩:=U4 m c _ j h
   exact⟨k+1,by omega,e⟩
def Zbc (m:Nat):Bool:=(List.range (m+1)).all (fun j=>(ring m (m+1) 0).contains j) && f5 m (m+1) 0 == 0
theorem Zbb {m:Nat}(h:Zbc m=true){i j:Nat}(hi:i<=m)(hj:j<=m):∃c,c<=m/\f5 m c i=j:=by
 unfold Zbc at h
 rw[Bool.and_eq_true,List.all_eq_true] at h
 have all:∀j,j<=m->∃k,k<m+1/\f5 m k 0=j:=fun j hj=>U4 m _ _ _ (List.contains_iff_mem.mp (h.1 j (List.mem_range.mpr (by omega))))
 have e0:f5 m (m+1) 0=0:=eq_of_beq h.2
 obtain⟨a,ha,ea⟩:=all i hi
 obtain⟨b,hb,eb⟩:=all j hj
 by_cases hab:a<=b
 ·refine⟨b-a,by omega,?_⟩
  rw[<-ea,<-Ur,show a+(b-a)=b by omega,eb]
 ·refine⟨m+1-a+b,by omega,?_⟩
  rw[<-ea,<-Ur,show a+(m+1-a+b)=(m+1)+b by omega,Ur,e0,eb]
def Msk (m:Nat):Prop:=m=7\/m=31\/m=127
theorem Msk.ring {m:Nat}(h:Msk m):Zbc m=true:=by
 rcases h with rfl|rfl|rfl <;> decide +kernel
theorem ZgB (h:Int):bits h<2 ^ 64:=by
 unfold bits
 have:=Int.emod_lt_of_pos h (show (0:Int)<2 ^ 64 by decide)
 have:=Int.emod_nonneg h (show (2 ^ 64:Int)≠0 by decide)
 omega
def Jl (m:Nat)(h:Int):Probe:=st0 m (bits h % (m+1)) (bits h)
theorem WH (m:Nat)(h:Int):bits h % (m+1)<=m:=by
 have:=Nat.mod_lt (bits h) (show 0<m+1 by omega)
 omega
theorem ZcF {m:Nat}(M:Msk m)(h:Int){j:Nat}(hj:j<=m):∃l,l<turns m/\(lp m l (bits h % (m+1),bits h)).1=j:=by
 have h0:(lp m 13 (bits h % (m+1),bits h)).2=0:=by
  rw[Zg9]
  refine Nat.div_eq_of_lt (Nat.lt_of_lt_of_le (ZgB h) (by decide))
 have hi:=Zha m 13 (bits h % (m+1),bits h) (WH m h)
 obtain⟨c,hc,e⟩:=Zbb M.ring hi hj
 refine⟨13+c,by unfold turns;omega,?_⟩
 rw[ZeP]
 have:lp m 13 (bits h % (m+1),bits h)=((lp m 13 (bits h % (m+1),bits h)).1,0):=by rw[<-h0]
 rw[this,Zcr]
 exact e
theorem ZjQ {m:Nat}(M:Msk m)(h:Int){j:Nat}(hj:j<=m):∃k,k<10*turns m/\(wk m k (Jl m h)).j=j:=by
 obtain⟨l,hl,e⟩:=ZcF M h hj
 obtain⟨k,hk,e'⟩:=Zhx m l (bits h % (m+1)) (bits h) (WH m h)
 refine⟨k,by omega,?_⟩
 unfold Jl
 rw[e']
 exact e
theorem ZgK (m:Nat):∀(k:Nat) (p:Probe),p.j+p.more<=m->(wk m k p).j+(wk m k p).more<=m
 |0,p,h=>h
 |k+1,p,h=>by
  refine ZgK m k _ ?_
  unfold adv
  split
  ·dsimp only;omega
  ·dsimp only
   have:=W3 m p.i p.perturb
   have:=Wd (W3 m p.i p.perturb)
   show (leap m p.i p.perturb).1+(runEnd m (leap m p.i p.perturb).1-(leap m p.i p.perturb).1)<=m
   omega
theorem V0 (m:Nat)(h:Int)(k:Nat):(wk m k (Jl m h)).j<=m:=by
 have:=ZgK m k (Jl m h) (by
  unfold Jl st0
  dsimp only
  have:=Wd (WH m h)
  omega)
 omega
def OnP (m:Nat)(L:Nat->Prop)(h:Int)(j:Nat):Prop:=∃k,(wk m k (Jl m h)).j=j/\∀k',k'<k->L (wk m k' (Jl m h)).j
theorem OnP.mono {m:Nat}{L L':Nat->Prop}{h:Int}{j:Nat}(H:∀x,x<=m->L x->L' x)(o:OnP m L h j):OnP m L' h j:=by
 obtain⟨k,e,a⟩:=o
 exact⟨k,e,fun k' hk=>H _ (V0 m h k') (a k' hk)⟩
def Lv (t:SetTable)(j:Nat):Prop:=j∈t.place.toList
section
variable {t:SetTable}
theorem JH (R:WE t.place){i j:Nat}(h:t.place[i]?=some j):t.slot j=.live i:=by
 have hi:i<=t.place.size:=by
  have:=Array.getElem?_eq_some_iff.mp h
  have:=this.1
  omega
 have hb:below t.place j=i:=(W6 R j).uniq ⟨hi,fun k x hk e=>R.lt hk e h,fun k x hk e=>by
  by_cases z:i=k
  ·subst z;rw[h] at e;cases e;exact Zq _
  ·have:=R.lt (by omega) h e;omega⟩
 unfold slot
 rw[hb]
 dsimp only
 rw[h]
 simp
theorem Xq (hd:t.dummies=#[])(j:Nat):(∃i,t.slot j=.live i/\t.place[i]?=some j)\/(t.slot j=.empty/\t.place[below t.place j]?≠some j):=by
 unfold slot
 dsimp only
 split
 ·rename_i hh
  exact .inl ⟨_,rfl,by simpa using hh⟩
 ·rename_i hh
  right
  rw[if_neg (by unfold has;rw[hd];simp)]
  exact⟨rfl,by simpa using hh⟩
theorem W2 {j:Nat}{i:Nat}(h:t.place[i]?=some j):Lv t j:=by
 unfold Lv
 rw[<-Array.getElem?_toList] at h
 exact List.mem_of_getElem? h
theorem Zdr (R:WE t.place)(hd:t.dummies=#[]){j:Nat}(h:t.slot j=.empty):¬Lv t j:=fun z=>by
 obtain⟨i,e⟩:=List.getElem?_of_mem z
 rw[Array.getElem?_toList] at e
 rw[JH R e] at h
 cases h
inductive ZcL (t:SetTable) (hashAt:Nat->Int) (h:Int) (fuel:Nat) (p:Probe):Option Met->Prop
 |none:(∀k,k<fuel->Lv t (wk t.mask k p).j)->ZcL t hashAt h fuel p none
 |empty {j:Nat} (k:Nat):k<fuel->(wk t.mask k p).j=j->t.slot j=.empty->(∀k',k'<k->∃i,t.slot (wk t.mask k' p).j=.live i/\hashAt i≠h)->ZcL t hashAt h fuel p (some (.empty j none))
 |cand {j i:Nat} (k:Nat):k<fuel->(wk t.mask k p).j=j->t.slot j=.live i->t.place[i]?=some j->hashAt i=h->(∀k',k'<k->∃i,t.slot (wk t.mask k' p).j=.live i/\hashAt i≠h)->ZcL t hashAt h fuel p (some (.candidate j i (wk t.mask (k+1) p)))
theorem Ze3 (hd:t.dummies=#[]){hashAt:Nat->Int}{h:Int}:∀(fuel:Nat) (p:Probe),p.dummy=none->ZcL t hashAt h fuel p (probe.go t hashAt h fuel p)
 |0,p,_=>.none fun k hk=>absurd hk (Nat.not_lt_zero _)
 |fuel+1,p,hp=>by
  unfold probe.go
  rcases Xq hd p.j with ⟨i,hs,hpl⟩|⟨hs,_⟩
  ·rw[hs]
   dsimp only
   by_cases e:hashAt i=h
   ·rw[if_pos (by simpa using e)]
    exact .cand 0 (by omega) rfl hs hpl e fun k' hk=>absurd hk (Nat.not_lt_zero _)
   ·rw[if_neg (by simpa using e)]
    have ih:=Ze3 hd (hashAt:=hashAt) (h:=h) fuel (t.advance p) ((VG _ _).trans hp)
    generalize probe.go t hashAt h fuel (t.advance p)=r at ih
    rw[ZiD] at ih
    have pre:∀{k:Nat},(∀k',k'<k->∃i,t.slot (wk t.mask k' (adv t.mask p)).j=.live i/\hashAt i≠h)->∀k',k'<k+1->∃i,t.slot (wk t.mask k' p).j=.live i/\hashAt i≠h:=fun {k} a k' hk=>by
     cases k' with
     |zero=>exact⟨i,hs,e⟩
     |succ k'=>exact a k' (by omega)
    cases ih with
    |none a=>
     refine .none fun k hk=>?_
     cases k with
     |zero=>exact W2 hpl
     |succ k=>exact a k (by omega)
    |empty k hk e1 e2 a=>exact .empty (k+1) (by omega) e1 e2 (pre a)
    |cand k hk e1 e2 e3 e4 a=>exact .cand (k+1) (by omega) e1 e2 e3 e4 (pre a)
  ·rw[hs]
   dsimp only
   rw[hp]
   exact .empty 0 (by omega) rfl hs fun k' hk=>absurd hk (Nat.not_lt_zero _)
end
theorem Wy:∀(l l':List Nat),l.Nodup->(∀a∈l,a∈l')->l.length<=l'.length
 | [],l',_,_=>Nat.zero_le _
 |a::l,l',hn,hs=>by
  rw[List.nodup_cons] at hn
  have ha:=hs a List.mem_cons_self
  have h1:=Wy l (l'.erase a) hn.2 fun b hb=>(List.mem_erase_of_ne (show b≠a from fun z=>hn.1 (z▸hb))).mpr (hs b (List.mem_cons_of_mem _ hb))
  have h2:=List.length_erase_of_mem ha
  have h3:=List.length_pos_of_mem ha
  rw[Zi]
  omega
structure T3 (t:SetTable)(es:Array (Int×Value)):Prop where
 rise:WE t.place
 dum:t.dummies=#[]
 msk:Msk t.mask
 le:∀j,Lv t j->j<=t.mask
 sz:t.place.size=es.size
 room:es.size<=t.mask
 path:∀(i j:Nat) (e:Int×Value),t.place[i]?=some j->es[i]?=some e->OnP t.mask (Lv t) e.1 j
section
variable {t:SetTable}{es:Array (Int×Value)}
theorem Za7 (T:T3 t es):∃j,j<=t.mask/\¬Lv t j:=by
 refine Classical.byContradiction fun h=>?_
 have h:∀j,j<=t.mask->Lv t j:=fun j hj=>Classical.byContradiction fun z=>h ⟨j,hj,z⟩
 have:=Wy (List.range (t.mask+1)) t.place.toList List.nodup_range fun a ha=>h a (by have:=List.mem_range.mp ha;omega)
 rw[Zg,Zr,T.sz] at this
 have:=T.room
 omega
theorem ZeR {P:Nat->Prop}:∀n,(∀k,k<n->P k)\/∃K,K<n/\¬P K/\∀k,k<K->P k
 |0=>.inl fun k hk=>absurd hk (Nat.not_lt_zero _)
 |n+1=>by
  rcases ZeR (P:=P) n with h|⟨K,hK,h⟩
  ·by_cases hn:P n
   ·refine .inl fun k hk=>?_
    by_cases e:k=n
    ·exact e▸hn
    ·exact h k (by omega)
   ·exact .inr ⟨n,by omega,hn,h⟩
  ·exact .inr ⟨K,by omega,h⟩
theorem ZaC (T:T3 t es)(h:Int):∃K,K<10*turns t.mask/\¬Lv t (wk t.mask K (Jl t.mask h)).j/\∀k,k<K->Lv t (wk t.mask k (Jl t.mask h)).j:=by
 obtain⟨j,hj,hn⟩:=Za7 T
 obtain⟨k,hk,e⟩:=ZjQ T.msk h hj
 rcases ZeR (P:=fun k=>Lv t (wk t.mask k (Jl t.mask h)).j) (10*turns t.mask) with a|b
 ·exact absurd (e▸a k hk) hn
 ·exact b
theorem Zcu {α:Type}(xs:Array α){p:Nat}(hp:p<=xs.size)(x:α)(i:Nat):(insertAt xs p x)[i]?=if i<p then xs[i]? else if i=p then some x else xs[i-1]?:=by
 rw[<-Array.getElem?_toList,toList_insertAt]
 have hl:(xs.toList.take p).length=p:=by rw[List.length_take,Zr];omega
 by_cases h1:i<p
 ·rw[if_pos h1,List.getElem?_append_left (by omega),List.getElem?_take_of_lt h1,Array.getElem?_toList]
 ·rw[if_neg h1,List.getElem?_append_right (by omega),hl]
  by_cases h2:i=p
  ·rw[if_pos h2,h2,Nat.sub_self];rfl
  ·rw[if_neg h2,show i-p=(i-p-1)+1 by omega,List.getElem?_cons_succ,List.getElem?_drop,Array.getElem?_toList,show p+(i-p-1)=i-1 by omega]
theorem ZhH (hd:t.dummies=#[])(j:Nat):t.put j=({t with place:=insertAt t.place (below t.place j) j},below t.place j):=by
 unfold put
 dsimp only
 rw[if_neg (by unfold has;rw[hd];simp)]
theorem ZeO {p j x:Nat}:x∈(insertAt t.place p j).toList↔Lv t x\/x=j:=by
 rw[(insertAt_perm t.place p j).mem_iff,Array.toList_push,List.mem_append,List.mem_singleton]
 rfl
theorem T3.put (T:T3 t es){h:Int}{K:Nat}{x:Value}(hn:¬Lv t (wk t.mask K (Jl t.mask h)).j)(ha:∀k,k<K->Lv t (wk t.mask k (Jl t.mask h)).j)(hroom:es.size+1<=t.mask) :
  T3 {t with place:=insertAt t.place (below t.place (wk t.mask K (Jl t.mask h)).j) (wk t.mask K (Jl t.mask h)).j} (insertAt es (below t.place (wk t.mask K (Jl t.mask h)).j) (h,x)):=by
 have hj:=V0 t.mask h K
 have hO:OnP t.mask (Lv t) h (wk t.mask K (Jl t.mask h)).j:=⟨K,rfl,ha⟩
 generalize (wk t.mask K (Jl t.mask h)).j=j at hn hj hO
 have hb:=(W6 T.rise j).le
 have hb':below t.place j<=es.size:=by rw[<-T.sz];exact hb
 have hne:t.place[below t.place j]?≠some j:=fun z=>hn (W2 z)
 have up:∀{h':Int}{j':Nat},OnP t.mask (Lv t) h' j'->OnP t.mask (fun x=>x∈(insertAt t.place (below t.place j) j).toList) h' j':=fun o=>o.mono fun x _ l=>ZeO.mpr (.inl l)
 have szI:∀{α:Type} (a:Array α) (p:Nat) (y:α),(insertAt a p y).size=a.size+1:=fun a p y=>by
  rw[<-Zr,(insertAt_perm a p y).length_eq,Array.toList_push,Zd,Zr];rfl
 refine⟨T.rise.insert hne,T.dum,T.msk,fun x hx=>?_,?_,?_,fun i j' e h1 h2=>?_⟩
 ·rcases ZeO.mp hx with l|rfl
  ·exact T.le x l
  ·exact hj
 ·show (insertAt _ _ _).size=_
  rw[szI,szI,T.sz]
 ·show _<=t.mask
  rw[szI]
  exact hroom
 ·have h1:(insertAt t.place (below t.place j) j)[i]?=some j':=h1
  rw[Zcu t.place hb] at h1
  rw[Zcu es hb'] at h2
  show OnP t.mask (fun x=>x∈(insertAt t.place (below t.place j) j).toList) e.1 j'
  by_cases c1:i<below t.place j
  ·rw[if_pos c1] at h1 h2
   exact up (T.path i j' e h1 h2)
  ·rw[if_neg c1] at h1 h2
   by_cases c2:i=below t.place j
   ·rw[if_pos c2] at h1 h2
    cases h1
    cases h2
    exact up hO
   ·rw[if_neg c2] at h1 h2
    exact up (T.path _ j' e h1 h2)
end
def Ow (o:Array (Option Nat))(j:Nat):Prop:=(o.getD j (some 0)).isSome=true
theorem XB {o:Array (Option Nat)}{j:Nat}(h:j<o.size):Ow o j↔∃q,o[j]?=some (some q):=by
 unfold Ow
 rw[Array.getD_eq_getD_getElem?,Array.getElem?_eq_getElem h]
 simp only[Option.getD_some,Option.some.injEq]
 exact Option.isSome_iff_exists
theorem Zg4 {o:Array (Option Nat)}{j:Nat}(h:¬(o.getD j (some 0)).isNone=true):Ow o j:=by
 unfold Ow
 cases e:o.getD j (some 0) with
 |none=>rw[e] at h;exact absurd rfl h
 |some q=>rfl
theorem Zbd {P:Nat->Bool}{n k:Nat}(h:(List.range n).find? P=some k):k<n/\P k=true/\∀k',k'<k->P k'=false:=by
 rw[List.find?_range_eq_some] at h
 obtain⟨h1,h2,h3⟩:=h
 exact⟨List.mem_range.mp h2,h1,fun k' hk=>by simpa using h3 k' hk⟩
theorem Vu {m:Nat}{o:Array (Option Nat)}:∀(fuel i pt:Nat) {j:Nat},i<=m->layClean.free m o fuel i pt=some j->∃k,(wk m k (st0 m i pt)).j=j/\¬Ow o j/\∀k',k'<k->Ow o (wk m k' (st0 m i pt)).j
 |0,i,pt,j,_,e=>by
  unfold layClean.free at e
  cases e
 |fuel+1,i,pt,j,hi,e=>by
  unfold layClean.free at e
  have hre:=Wd hi
  have hpos:∀c,c<=runEnd m i-i->(wk m c (st0 m i pt)).j=i+c:=fun c hc=>by rw[run m i pt c hc]
  split at e
  ·rename_i k hk
   obtain⟨h1,h2,h3⟩:=Zbd hk
   cases e
   refine⟨k,hpos k (by omega),fun z=>?_,fun k' hk'=>?_⟩
   ·unfold Ow at z
    rw[Option.isNone_iff_eq_none] at h2
    rw[h2] at z
    cases z
   ·rw[hpos k' (by omega)]
    have:=h3 k' hk'
    unfold Ow
    simpa using this
  ·rename_i hk
   dsimp only at e
   obtain⟨k,e1,e2,e3⟩:=Vu fuel _ _ (W3 m i pt) e
   rw[List.find?_eq_none] at hk
   refine⟨runEnd m i-i+1+k,?_,e2,fun k' hk'=>?_⟩
   ·rw[YB,Xs]
    exact e1
   ·by_cases c:k'<=runEnd m i-i
    ·rw[hpos k' c]
     have:=hk k' (List.mem_range.mpr (by omega))
     exact Zg4 this
    ·rw[show k'=runEnd m i-i+1+(k'-(runEnd m i-i+1)) by omega,YB,Xs]
     exact e3 _ (by omega)
theorem Vv {m:Nat}{o:Array (Option Nat)}:∀(fuel i pt:Nat),i<=m->layClean.free m o fuel i pt=none->∀l,l<fuel->Ow o (lp m l (i,pt)).1
 |0,i,pt,_,_,l,hl=>absurd hl (Nat.not_lt_zero _)
 |fuel+1,i,pt,hi,e,l,hl=>by
  unfold layClean.free at e
  have hre:=Wd hi
  split at e
  ·cases e
  ·rename_i hk
   dsimp only at e
   rw[List.find?_eq_none] at hk
   cases l with
   |zero=>
    have:=hk 0 (List.mem_range.mpr (by omega))
    exact Zg4 this
   |succ l=>exact Vv fuel _ _ (W3 m i pt) e l (by omega)
structure Own (m:Nat)(hs:List Int)(o:Array (Option Nat))(n:Nat):Prop where
 sz:o.size=m+1
 put:∀k:Nat,k<n->∃(j:Nat) (h:Int),hs[k]?=some h/\o[j]?=some (some k)/\OnP m (Ow o) h j
 lt:∀(j q:Nat),o[j]?=some (some q)->q<n
 inj:∀(j j' q:Nat),o[j]?=some (some q)->o[j']?=some (some q)->j=j'
theorem Zeu {m:Nat}{hs:List Int}{o:Array (Option Nat)}{n:Nat}(O:Own m hs o n)(hn:n<=m):∃j,j<=m/\¬Ow o j:=by
 refine Classical.byContradiction fun h=>?_
 have h:∀j,j<=m->∃q,o[j]?=some (some q):=fun j hj=>(XB (by rw[O.sz];omega)).mp (Classical.byContradiction fun z=>h ⟨j,hj,z⟩)
 have e1:((List.range (m+1)).map fun j=>((o[j]?.getD none).getD 0)).Nodup:=by
  refine List.Pairwise.map _ (R:=fun a b=>a<b/\b<m+1) (fun a b ⟨hab,hb⟩ e=>?_) ?_
  ·obtain⟨q,hq⟩:=h a (by omega)
   obtain⟨q',hq'⟩:=h b (by omega)
   rw[hq,hq'] at e
   have e:q=q':=e
   subst e
   have:=O.inj a b q hq hq'
   omega
  ·exact (List.Pairwise.and_mem.mp List.pairwise_lt_range).imp fun ⟨_,hb,hab⟩=>⟨hab,List.mem_range.mp hb⟩
 have:=Wy _ (List.range n) e1 fun x hx=>by
  obtain⟨j,hj,rfl⟩:=List.mem_map.mp hx
  obtain⟨q,hq⟩:=h j (by have:=List.mem_range.mp hj;omega)
  rw[hq]
  exact List.mem_range.mpr (O.lt j q hq)
 rw[Za,Zg,Zg] at this
 omega
theorem Zet {m:Nat}(M:Msk m){hs:List Int}{o:Array (Option Nat)}{n:Nat}{h:Int}(O:Own m hs o n)(hn:n<=m)(hh:hs[n]?=some h) :
  ∃j,layClean.free m o (turns m) (bits h % (m+1)) (bits h)=some j/\Own m hs (o.setIfInBounds j (some n)) (n+1):=by
 cases e:layClean.free m o (turns m) (bits h % (m+1)) (bits h) with
 |none=>
  obtain⟨j,hj,hno⟩:=Zeu O hn
  obtain⟨l,hl,el⟩:=ZcF M h hj
  exact absurd (el▸Vv _ _ _ (WH m h) e l hl) hno
 |some j=>
  obtain⟨k,e1,e2,e3⟩:=Vu _ _ _ (WH m h) e
  have hj:j<=m:=e1▸V0 m h k
  have hjs:j<o.size:=by rw[O.sz];omega
  have get:∀i,(o.setIfInBounds j (some n))[i]?=if j=i then some (some n) else o[i]?:=fun i=>by
   rw[Array.getElem?_setIfInBounds]
   by_cases c:j=i
   ·subst c
    rw[if_pos rfl,if_pos rfl,if_pos hjs]
   ·rw[if_neg c,if_neg c]
  have hjn:∀q,o[j]?≠some (some q):=fun q z=>e2 ((XB hjs).mpr ⟨q,z⟩)
  have up:∀x,x<=m->Ow o x->Ow (o.setIfInBounds j (some n)) x:=fun x hx ho=>by
   rw[XB (by rw[O.sz];omega)] at ho
   rw[XB (by rw[Array.size_setIfInBounds,O.sz];omega)]
   obtain⟨q,hq⟩:=ho
   rw[get]
   by_cases c:j=x
   ·exact⟨n,by rw[if_pos c]⟩
   ·exact⟨q,by rw[if_neg c];exact hq⟩
  refine⟨j,rfl,by rw[Array.size_setIfInBounds];exact O.sz,fun k' hk'=>?_,fun i q hq=>?_,fun i i' q hi hi'=>?_⟩
  ·by_cases c:k'=n
   ·subst c
    exact⟨j,h,hh,by rw[get,if_pos rfl],k,e1,fun k' hk'=>up _ (V0 m h k') (e3 k' hk')⟩
   ·obtain⟨i,h',a1,a2,a3⟩:=O.put k' (by omega)
    exact⟨i,h',a1,by rw[get,if_neg fun z=>hjn _ (z▸a2)];exact a2,a3.mono up⟩
  ·rw[get] at hq
   by_cases c:j=i
   ·rw[if_pos c] at hq
    cases hq
    omega
   ·rw[if_neg c] at hq
    have:=O.lt i q hq
    omega
  ·rw[get] at hi hi'
   by_cases c:j=i
   ·rw[if_pos c] at hi
    cases hi
    by_cases c':j=i'
    ·omega
    ·rw[if_neg c'] at hi'
     have:=O.lt _ _ hi'
     omega
   ·rw[if_neg c] at hi
    by_cases c':j=i'
    ·rw[if_pos c'] at hi'
     cases hi'
     have:=O.lt _ _ hi
     omega
    ·rw[if_neg c'] at hi'
     exact O.inj i i' q hi hi'
theorem Zas {m:Nat}(M:Msk m):∀(rest done:List Int) (o:Array (Option Nat)),Own m (done++rest) o done.length->(done++rest).length<=m->
  ∃o',rest.foldl (fun acc h=>do
   let (owner,k) <-acc
   let j <-layClean.free m owner (turns m) (bits h % (m+1)) (bits h)
   pure (owner.setIfInBounds j (some k),k+1)) (some (o,done.length))=some (o',(done++rest).length)/\Own m (done++rest) o' (done++rest).length
 | [],done,o,O,_=>⟨o,by rw[List.append_nil];rfl,by rw[List.append_nil] at O ⊢;exact O⟩
 |h::rest,done,o,O,hl=>by
  rw[Zd,Zi] at hl
  obtain⟨j,e,O'⟩:=Zet M (h:=h) O (by omega) (by rw[List.getElem?_append_right (Zq _),Nat.sub_self];rfl)
  have ea:done++h::rest=(done++[h])++rest:=by simp
  have el:(done++[h]).length=done.length+1:=by simp
  rw[ea,<-el] at O'
  obtain⟨o',e1,e2⟩:=Zas M rest (done++[h]) _ O' (by rw[<-ea,Zd,Zi];omega)
  refine⟨o',?_,ea▸e2⟩
  rw[List.foldl_cons]
  show List.foldl _ (do let j <-layClean.free m o (turns m) (bits h % (m+1)) (bits h);pure (o.setIfInBounds j (some done.length),done.length+1)) rest=_
  rw[e,ea,<-e1,el]
  rfl
theorem Zdf {m:Nat}(M:Msk m)(hs:Array Int)(hl:hs.size<=m):∃o,layClean m hs=some o/\Own m hs.toList o hs.size:=by
 have O0:Own m ([]++hs.toList) (Array.replicate (m+1) none) ([]:List Int).length:=by
  have hnn:∀(j q:Nat),(Array.replicate (m+1) (none:Option Nat))[j]?≠some (some q):=fun j q z=>by
   rw[Array.getElem?_replicate] at z
   split at z <;> cases z
  exact⟨Array.size_replicate,fun k hk=>absurd hk (Nat.not_lt_zero _),fun j q z=>absurd z (hnn j q),fun j j' q z=>absurd z (hnn j q)⟩
 obtain⟨o,e1,e2⟩:=Zas M hs.toList [] _ O0 (by rw[List.nil_append,Zr];exact hl)
 rw[List.nil_append,Zr] at e1 e2
 refine⟨o,?_,e2⟩
 unfold layClean
 rw[<-Array.foldl_toList]
 have e1':(List.foldl (fun acc h=>do
   let (owner,k) <-acc
   let j <-layClean.free m owner (turns m) (bits h % (m+1)) (bits h)
   pure (owner.setIfInBounds j (some k),k+1)) (some (Array.replicate (m+1) (none:Option Nat),0)) hs.toList)=some (o,hs.size):=e1
 rw[e1']
 rfl
theorem Zbv {α β:Type}{f:α->Option β}:∀{l:List α},(∀x∈l,(f x).isSome=true)->∀i:Nat,(l.filterMap f)[i]?=l[i]?.bind f
 | [],_,i=>by simp
 |x::l,h,i=>by
  obtain⟨y,hy⟩:=Option.isSome_iff_exists.mp (h x List.mem_cons_self)
  rw[List.filterMap_cons,hy]
  dsimp only
  cases i with
  |zero=>rw[List.getElem?_cons_zero,List.getElem?_cons_zero];exact hy.symm
  |succ i=>rw[List.getElem?_cons_succ,List.getElem?_cons_succ];exact Zbv (fun z hz=>h z (List.mem_cons_of_mem _ hz)) i
theorem Ze7 {α:Type}(l:List α):(List.range l.length).filterMap (fun i=>l[i]?)=l:=by
 refine List.ext_getElem? fun i=>?_
 rw[Zbv (fun x hx=>by rw[Zf (List.mem_range.mp hx)];rfl)]
 by_cases h:i<l.length
 ·rw[List.getElem?_range h];rfl
 ·rw[List.getElem?_eq_none (by rw[Zg];omega),List.getElem?_eq_none (by omega)];rfl
section
variable {t:SetTable}{es:Array (Int×Value)}
def YA (m:Nat)(o:Array (Option Nat)):List (Nat×Nat):=(List.range (m+1)).filterMap fun j=>(o.getD j none).map (j,·)
theorem ZeQ {m:Nat}{o:Array (Option Nat)}(hs:o.size=m+1){j q:Nat}:(j,q)∈YA m o↔o[j]?=some (some q):=by
 unfold YA
 rw[List.mem_filterMap]
 constructor
 ·rintro⟨a,ha,e⟩
  obtain⟨q',e1,e2⟩:=Option.map_eq_some_iff.mp e
  injection e2 with e2 e3
  subst e2
  subst e3
  rw[Array.getD_eq_getD_getElem?] at e1
  cases h:o[a]? with
  |none=>rw[h] at e1;cases e1
  |some z=>rw[h] at e1;rw[show z=some q' from e1]
 ·intro e
  have hl:=(Array.getElem?_eq_some_iff.mp e).1
  refine⟨j,List.mem_range.mpr (by omega),?_⟩
  rw[Array.getD_eq_getD_getElem?,e]
  rfl
theorem ZcW {m wanted:Nat}(hm:sizeAbove wanted-1=m)(M:Msk m)(hl:es.size<=m):∃t' order,t.relaid (es.map (·.1)) wanted=some (t',order)/\List.Perm (order.filterMap (es[·]?)).toList es.toList/\T3 t' (order.filterMap (es[·]?))/\t'.mask=m/\t'.led=t.led/\t'.plain=t.plain:=by
 obtain⟨o,e,O⟩:=Zdf M (es.map (·.1)) (by rw[Array.size_map];exact hl)
 rw[Array.size_map] at O
 have hmem:∀{j q:Nat},(j,q)∈YA m o↔o[j]?=some (some q):=ZeQ O.sz
 refine⟨{mask:=m,place:=((YA m o).map (·.1)).toArray,dummies:=#[],finger:=t.finger,led:=t.led,moves:=t.movedTo m,plain:=t.plain},((YA m o).map (·.2)).toArray,by unfold relaid laid;rw[hm,e];rfl,?_⟩
 have hL:∀q∈(YA m o).map (·.2),(es[q]?).isSome=true:=fun q hq=>by
  obtain⟨⟨j,q'⟩,hjq,rfl⟩:=List.mem_map.mp hq
  rw[Array.getElem?_eq_getElem (O.lt j q' (hmem.mp hjq))]
  rfl
 have eL:(((YA m o).map (·.2)).toArray.filterMap (es[·]?)).toList=((YA m o).map (·.2)).filterMap (es[·]?):=by simp
 have hfst:(YA m o).Pairwise fun a b=>a.1<b.1:=List.pairwise_map.mp (V4 fun j=>o.getD j none)
 have hnd:((YA m o).map (·.2)).Nodup:=by
  refine List.pairwise_map.mpr ((List.Pairwise.and_mem.mp hfst).imp fun {a b} ⟨ha,hb,hab⟩ z=>?_)
  have h1:=hmem.mp (show (a.1,a.2)∈_ from ha)
  have h2:=hmem.mp (show (b.1,b.2)∈_ from hb)
  rw[z] at h1
  have:=O.inj _ _ _ h1 h2
  omega
 have hp:List.Perm ((YA m o).map (·.2)) (List.range es.size):=(List.perm_ext_iff_of_nodup hnd List.nodup_range).mpr fun q=>by
  rw[List.mem_range]
  constructor
  ·intro hq
   obtain⟨⟨j,q'⟩,hjq,rfl⟩:=List.mem_map.mp hq
   exact O.lt j q' (hmem.mp hjq)
  ·intro hq
   obtain⟨j,_,_,e2,_⟩:=O.put q hq
   exact List.mem_map.mpr ⟨(j,q),hmem.mpr e2,rfl⟩
 have hperm:List.Perm (((YA m o).map (·.2)).filterMap (es[·]?)) es.toList:=by
  refine (hp.filterMap _).trans ?_
  have:=Ze7 es.toList
  rw[Zr] at this
  simp only[Array.getElem?_toList] at this
  rw[this]
 rw[eL]
 refine⟨hperm,?_,rfl,rfl,rfl⟩
 have lvw:∀x q,o[x]?=some (some q)->x∈(YA m o).map (·.1):=fun x q hq=>List.mem_map.mpr ⟨(x,q),hmem.mpr hq,rfl⟩
 have szp:(YA m o).length=es.size:=by
  have:=hp.length_eq
  rwa [Za,Zg] at this
 refine⟨?_,rfl,M,fun x hx=>?_,?_,?_,fun i j e' h1 h2=>?_⟩
 ·unfold WE
  exact V4 fun j=>o.getD j none
 ·have hx:x∈((YA m o).map (·.1)).toArray.toList:=hx
  rw[List.toList_toArray] at hx
  obtain⟨⟨j,q⟩,hjq,rfl⟩:=List.mem_map.mp hx
  have h:=(Array.getElem?_eq_some_iff.mp (hmem.mp hjq)).1
  rw[O.sz] at h
  show j<=m
  omega
 ·show ((YA m o).map (·.1)).toArray.size=_
  rw[<-Zr (xs:=Array.filterMap _ _),eL,hperm.length_eq,Zr,Zh,Za,szp]
 ·rw[<-Zr,eL,hperm.length_eq,Zr]
  exact hl
 ·have h1:((YA m o).map (·.1)).toArray[i]?=some j:=h1
  rw[List.getElem?_toArray,Zc] at h1
  rw[<-Array.getElem?_toList,eL,Zbv hL,Zc] at h2
  obtain⟨⟨j',q⟩,hi,ej⟩:=Option.map_eq_some_iff.mp h1
  have ej:j'=j:=ej
  subst ej
  rw[hi] at h2
  have h2:es[q]?=some e':=h2
  have hq:=hmem.mp (List.mem_of_getElem? hi)
  obtain⟨j2,h,a1,a2,a3⟩:=O.put q (O.lt _ _ hq)
  have:=O.inj _ _ _ hq a2
  subst this
  rw[Array.getElem?_toList,Array.getElem?_map,h2] at a1
  have a1:e'.1=h:=Option.some.inj a1
  rw[a1]
  refine a3.mono fun x hx ho=>?_
  have hx:x<=m:=hx
  rw[XB (by rw[O.sz];omega)] at ho
  obtain⟨q',hq'⟩:=ho
  show x∈((YA m o).map (·.1)).toArray.toList
  rw[List.toList_toArray]
  exact lvw x q' hq'
end
end PyS
namespace PyS
open PySem PySem.SetTable PySem.W PyProof.Rows PySem.Calls PyProof.V PySem.Spec
abbrev TK (prog:Program)(w:World)(h:Heap)(ks:List Int)(a:Addr):Prop:=IsTupleKey (intKind prog w) h ks a
abbrev hT (prog:Program)(w:World)(ks:List Int):Int:=tupleKeyHash (intKind prog w) ks
section
variable {prog:Program}{w:World}{A:Around}{E:Value->Shared->Prop}{s:Shared}
theorem items_int {ks:List Int}{vs:List Value}(h:ItemsAre (intKind prog w) ks vs):∀v∈vs,∃k t,v=.int k t:=by
 induction h with
 |nil=>intro v hv;cases hv
 |cons h1 _ ih=>
  intro v hv
  rcases List.mem_cons.mp hv with rfl|hv
  ·obtain⟨t,e⟩:=Value.isInt_shape h1
   exact⟨_,t,e⟩
  ·exact ih v hv
theorem Zcj {ks:List Int}{b:Addr}{Q:Bool->Shared->Prop}(hk:TK prog w s.heap ks b)(q:Q false s):wpAny (model prog w) A (ofAClassStatement 8 (.ref b)) Q E s:=by
 have hTy:=hk.typeIs
 obtain⟨o,items,n,ho,_,hd,hi⟩:=hk
 have hint:=items_int hi
 unfold ofAClassStatement
 refine Zl (wpAny_typeOf hTy ?_)
 dsimp only
 rw[if_pos (by decide)]
 refine Zl (Zm ?_)
 simp only[Bool.not_true,Bool.false_eq_true,if_false]
 refine Zl (wpAny_seqItems ho hd ?_)
 dsimp only
 refine Zl ?_
 rw[<-Array.forIn_toList]
 refine wpAny_forIn_list _ (fun rest r s'=>r.1=none/\s'=s/\∀v∈rest,∃k t,v=.int k t) _ ?_ ?_ _ _ ⟨rfl,rfl,hint⟩
 ·rintro v rest r s' ⟨hr,rfl,hall⟩
  obtain⟨k,t,rfl⟩:=hall v List.mem_cons_self
  unfold ofAClassStatement
  refine Zl (Zm ?_)
  simp only[Bool.false_eq_true,if_false]
  exact Zm ⟨rfl,rfl,fun u hu=>hall u (List.mem_cons_of_mem _ hu)⟩
 ·rintro⟨r1,r2⟩ s' ⟨hr,rfl,_⟩
  simp only at hr
  subst hr
  exact Zm q
theorem Zfo {ks:List Int}{b:Addr}{Q:Bool->Shared->Prop}(hk:TK prog w s.heap ks b)(q:Q true s):wpAny (model prog w) A (hashByValue 8 (.ref b)) Q E s:=by
 have hTy:=hk.typeIs
 obtain⟨o,items,n,ho,_,hd,hi⟩:=hk
 have hint:=items_int hi
 unfold hashByValue
 refine Zl (wpAny_specialOf hTy F.slot_tuple_hash.lookup ?_)
 show wpAny _ _ (seqItems? (.ref b) >>= _) _ _ s
 refine Zl (wpAny_seqItems ho hd ?_)
 refine Zl ?_
 show wpAny _ _ (forIn items _ _) _ _ s
 rw[<-Array.forIn_toList]
 refine wpAny_forIn_list _ (fun rest r s'=>r.1=none/\s'=s/\∀v∈rest,∃k t,v=.int k t) _ ?_ ?_ _ _ ⟨rfl,rfl,hint⟩
 ·rintro v rest r s' ⟨hr,rfl,hall⟩
  obtain⟨k,t,rfl⟩:=hall v List.mem_cons_self
  unfold hashByValue
  refine Zl (Zm ?_)
  simp only[Bool.not_true,Bool.false_eq_true,if_false]
  exact Zm ⟨rfl,rfl,fun u hu=>hall u (List.mem_cons_of_mem _ hu)⟩
 ·rintro⟨r1,r2⟩ s' ⟨hr,rfl,_⟩
  simp only at hr
  subst hr
  exact Zm q
theorem ZeG {kb:List Int}{b:Addr}{stored:List Value}{Q:Bool->Shared->Prop}(hb:TK prog w s.heap kb b)(hs:∀y∈stored,∃c ks,y=.ref c/\TK prog w s.heap ks c)(q:Q false s):wpAny (model prog w) A (searchCouldBeSeen (.ref b) stored) Q E s:=by
 unfold searchCouldBeSeen
 refine Zl ?_
 refine wpAny_forIn_list _ (fun rest r s'=>r.1=none/\s'=s/\∀y∈rest,∃c ks,y=.ref c/\TK prog w s.heap ks c) _ ?_ ?_ _ _ ⟨rfl,rfl,hs⟩
 ·rintro v rest r s' ⟨hr,rfl,hall⟩
  obtain⟨c,ks,rfl,hc⟩:=hall v List.mem_cons_self
  have go:∀u∈rest,∃c ks,u=Value.ref c/\TK prog w s'.heap ks c:=fun u hu=>hall u (List.mem_cons_of_mem _ hu)
  dsimp only
  by_cases e:(b == c)=true
  ·rw[e]
   simp only[Bool.true_or,if_true]
   exact Zm ⟨rfl,rfl,go⟩
  ·have e:(b == c)=false:=by simpa using e
   rw[e]
   simp only[carriedByValue,Bool.false_or,Bool.and_self,Bool.false_eq_true,if_false]
   refine Zl (wpAny_eqIsQuiet_tuple hb ?_)
   simp only[Bool.not_true,Bool.false_eq_true,if_false]
   refine Zl (wpAny_eqIsQuiet_tuple hc ?_)
   simp only[Bool.not_true,Bool.false_eq_true,if_false]
   refine Zl (Zcj hb ?_)
   simp only[Bool.false_eq_true,if_false]
   refine Zl (Zcj hc ?_)
   simp only[Bool.false_eq_true,if_false]
   exact Zm ⟨rfl,rfl,go⟩
 ·rintro⟨r1,r2⟩ s' ⟨hr,rfl,_⟩
  simp only at hr
  subst hr
  exact Zm q
end
structure SXT (prog:Program)(w:World)(key:Addr->List Int)(h:Heap)(a:Addr)(es:Array (Int×Value))(ep:Nat)(t:SetTable):Prop where
 at_:Wl h a es ep t
 t3:T3 t es
 full:es.size*5<t.mask*3
 led:t.led = !w.params.followText "set-order"
 pl:t.plain=true
 el:∀e∈es.toList,∃b,e.2=.ref b/\e.1=hT prog w (key b)/\TK prog w h (key b) b
section
variable {prog:Program}{w:World}{A:Around}{E:Value->Shared->Prop}{s:Shared}{a b:Addr}{es:Array (Int×Value)}{ep:Nat}{t:SetTable}{key:Addr->List Int}
theorem Zfd (X:SXT prog w key s.heap a es ep t){i j:Nat}(h:t.place[i]?=some j):∃c,es[i]?=some (hT prog w (key c),.ref c)/\TK prog w s.heap (key c) c:=by
 have hi:=(Array.getElem?_eq_some_iff.mp h).1
 rw[X.t3.sz] at hi
 have e:es[i]?=some es[i]:=Array.getElem?_eq_getElem hi
 obtain⟨c,e1,e2,e3⟩:=X.el es[i] (by simp)
 exact⟨c,by rw[e,<-e2,<-e1],e3⟩
theorem ZcY (R:WE t.place){i i' j:Nat}(h:t.place[i]?=some j)(h':t.place[i']?=some j):i=i':=by
 rcases Nat.lt_trichotomy i i' with c|c|c
 ·have:=R.lt c h h';omega
 ·exact c
 ·have:=R.lt c h' h;omega
theorem ZcT {Q:SetFound->Shared->Prop}(hu:A.units<cLine)(X:SXT prog w key s.heap a es ep t)(hb:TK prog w s.heap (key b) b){K:Nat}(hK:K<10*turns t.mask)(hn:¬Lv t (wk t.mask K (Jl t.mask (hT prog w (key b)))).j)(hl:∀k,k<K->Lv t (wk t.mask k (Jl t.mask (hT prog w (key b)))).j)
  (q1:∀c,Value.ref c∈YC es->key c=key b->Q (.there none) s) (q2:(∀c,Value.ref c∈YC es->key c≠key b)->Q (.free (wk t.mask K (Jl t.mask (hT prog w (key b)))).j false) s) :
  ∀(n m:Nat) (stand:Option Probe),K-m=n->m<=K->stand.getD (t.probeStart (hT prog w (key b)))=wk t.mask m (Jl t.mask (hT prog w (key b)))->
   (∀(k i:Nat) (c:Addr),k<m->t.place[i]?=some (wk t.mask k (Jl t.mask (hT prog w (key b)))).j->es[i]?=some (hT prog w (key c),.ref c)->key c≠key b)->∀fuel,n<fuel->wpAny (model prog w) A (setSearchFrom a (.ref b) (hT prog w (key b)) true fuel stand) Q E s:=by
 intro n
 induction n using Nat.strongRecOn with
 |_ n ih=>
 intro m stand hnm hmK hst hkn fuel hf
 obtain⟨fuel,rfl⟩:∃f,fuel=f+1:=⟨fuel-1,by omega⟩
 unfold setSearchFrom
 refine Zl (X.at_.state ?_)
 dsimp only
 have hgw:t.gaveWay=false:=by
  unfold SetTable.gaveWay
  rcases X.t3.msk with h|h|h <;> rw[h] <;> decide
 rw[hgw]
 simp only[Bool.false_eq_true,if_false]
 rw[hst]
 have hg:=Ze3 X.t3.dum (hashAt:=fun i=>(es[i]?.map (·.1)).getD 0) (h:=hT prog w (key b)) (10*turns t.mask) (wk t.mask m (Jl t.mask (hT prog w (key b)))) (UH _ _ _)
 have hashAt:∀{i j:Nat},t.place[i]?=some j->∃c,es[i]?=some (hT prog w (key c),.ref c)/\((es[i]?.map (·.1)).getD 0)=hT prog w (key c):=fun {i j} h=>by
  obtain⟨c,e,_⟩:=Zfd X h
  exact⟨c,e,by rw[e];rfl⟩
 show wpAny _ A (match probe.go t (fun i=>(es[i]?.map (·.1)).getD 0) (hT prog w (key b)) (10*turns t.mask) (wk t.mask m (Jl t.mask (hT prog w (key b)))) with|some met=>_|_=>_) Q E s
 generalize probe.go t (fun i=>(es[i]?.map (·.1)).getD 0) (hT prog w (key b)) (10*turns t.mask) (wk t.mask m (Jl t.mask (hT prog w (key b))))=r at hg
 cases hg with
 |none al=>
  exfalso
  have:=al (K-m) (by omega)
  rw[<-YB,show m+(K-m)=K by omega] at this
  exact hn this
 | @empty j k hk e1 e2 al=>
  dsimp only
  rw[<-YB] at e1
  have hne:¬Lv t j:=Zdr X.t3.rise X.t3.dum e2
  have h1:¬m+k<K:=fun z=>hne (e1▸hl _ z)
  have h2:¬K<m+k:=fun z=>by
   obtain⟨i,hi,_⟩:=al (K-m) (by omega)
   rw[<-YB,show m+(K-m)=K by omega] at hi
   rcases Xq X.t3.dum (wk t.mask K (Jl t.mask (hT prog w (key b)))).j with ⟨i',_,e⟩|⟨e,_⟩
   ·exact hn (W2 e)
   ·rw[e] at hi;cases hi
  have h3:m+k=K:=by omega
  rw[h3] at e1
  subst e1
  refine Zm (q2 fun c hc hkey=>?_)
  obtain⟨e,he,hec⟩:=List.mem_map.mp hc
  obtain⟨i,hi⟩:=List.getElem?_of_mem he
  rw[Array.getElem?_toList] at hi
  have his:i<es.size:=(Array.getElem?_eq_some_iff.mp hi).1
  have hp:t.place[i]?=some (t.place[i]'(by rw[X.t3.sz];exact his)):=Array.getElem?_eq_getElem _
  generalize t.place[i]'(by rw[X.t3.sz];exact his)=j' at hp
  obtain⟨c',ec',_⟩:=Zfd X hp
  rw[hi] at ec'
  have ee:=Option.some.inj ec'
  subst ee
  have hcc:c'=c:=by injection hec
  subst hcc
  obtain⟨k0,p1,p2⟩:=X.t3.path i j' _ hp hi
  rw[hkey] at p1 p2
  have hk0:k0<K:=by
   rcases Nat.lt_trichotomy k0 K with z|z|z
   ·exact z
   ·rw[z] at p1
    exact absurd (p1▸W2 hp) hn
   ·exact absurd (p2 K z) hn
  by_cases z:k0<m
  ·exact hkn k0 i c' z (by rw[p1];exact hp) hi hkey
  ·obtain⟨i',q3,q4⟩:=al (k0-m) (by omega)
   rw[<-YB,show m+(k0-m)=k0 by omega,p1,JH X.t3.rise hp] at q3
   injection q3 with q3
   subst q3
   obtain⟨c2,ec2,hh⟩:=hashAt hp
   rw[hi] at ec2
   have:=Option.some.inj ec2
   injection this with z1 z2
   exact q4 (by rw[hh,<-z1,hkey])
 | @cand j i k hk e1 e2 e3 e4 al=>
  dsimp only
  rw[<-YB] at e1
  obtain⟨c,ec,hh⟩:=hashAt e3
  obtain⟨c',ec',hc⟩:=Zfd X e3
  have:c'=c:=by
   rw[ec] at ec'
   have:=Option.some.inj ec'
   injection this with _ z
   injection z with z
   exact z.symm
  subst this
  have hlt:m+k<K:=by
   rcases Nat.lt_trichotomy (m+k) K with z|z|z
   ·exact z
   ·rw[z] at e1
    exact absurd (e1▸W2 e3) hn
   ·obtain⟨i',q3,_⟩:=al (K-m) (by omega)
    rw[<-YB,show m+(K-m)=K by omega] at q3
    rcases Xq X.t3.dum (wk t.mask K (Jl t.mask (hT prog w (key b)))).j with ⟨i',_,e⟩|⟨e,_⟩
    ·exact absurd (W2 e) hn
    ·rw[e] at q3;cases q3
  have fin:∀{s':Shared},s'=s->wpAny (model prog w) A (match es[i]? with
    |some (_,y)=>do
     let equal <-holding [y] (eqBool y (.ref b))
     let (es',_,t') <-setState a
     if (true && equal)=true then pure (SetFound.there none) else do
     match t'.sameMemory t.moves t.mask with
     |some same0=>do
      let still <-match (if same0 then t'.slot j else .empty) with
       | .live i'=>match es'[i']? with
        |some (_,y')=>do pure (if <-isSame y' y then some i' else none)
        |none=>pure none
       |_=>pure none
      match still with
      |none=>do rule "set.search.anew";setSearchFrom a (.ref b) (hT prog w (key b)) true fuel none
      |some i'=>if equal=true then pure (SetFound.there (some i')) else setSearchFrom a (.ref b) (hT prog w (key b)) true fuel (some (wk t.mask (k+1) (wk t.mask m (Jl t.mask (hT prog w (key b))))))
     |_=>unsupported "set.changed-during-lookup:is-the-new-block-at-the-old-address"
    |_=>unsupported "internal:set-entry") Q E s':=by
   intro s' hs'
   subst hs'
   rw[ec]
   dsimp only
   refine Zl (wpAny_holding (wpAny_eqBool_tuple hu hc hb ?_))
   refine Zl (X.at_.state ?_)
   dsimp only
   by_cases hkey:key c'=key b
   ·rw[decide_eq_true hkey]
    simp only[Bool.and_self,if_true]
    refine Zm (q1 c' (List.mem_map.mpr ⟨(hT prog w (key c'),.ref c'),?_,rfl⟩) hkey)
    rw[<-Array.getElem?_toList] at ec
    exact List.mem_of_getElem? ec
   ·rw[decide_eq_false hkey]
    simp only[Bool.and_false,Bool.false_eq_true,if_false]
    have hsm:t.sameMemory t.moves t.mask=some true:=by
     unfold SetTable.sameMemory
     rw[if_pos (by simp)]
    rw[hsm]
    simp only[if_true]
    rw[e2]
    dsimp only
    rw[ec]
    dsimp only
    refine Zl (wpAny_isSame_ref_self ?_)
    refine Zl (Zm ?_)
    simp only[if_true]
    refine ih (K-(m+(k+1))) (by omega) (m+(k+1)) _ rfl (by omega) ?_ (fun k' i' c2 hk' hp' he'=>?_) fuel (by omega)
    ·rw[Option.getD_some]
     exact (YB _ _ _ _).symm
    ·by_cases z:k'<m
     ·exact hkn k' i' c2 z hp' he'
     ·by_cases z2:k'=m+k
      ·subst z2
       rw[e1] at hp'
       have:=ZcY X.t3.rise e3 hp'
       subst this
       rw[ec] at he'
       have:=Option.some.inj he'
       injection this with _ z3
       injection z3 with z3
       exact z3▸hkey
      ·obtain⟨i2,q3,q4⟩:=al (k'-m) (by omega)
       rw[<-YB,show m+(k'-m)=k' by omega,JH X.t3.rise hp'] at q3
       injection q3 with q3
       subst q3
       intro zk
       refine q4 ?_
       show (es[i']?.map (·.1)).getD 0=_
       rw[he',<-zk]
       rfl
  by_cases hled:t.led=true
  ·rw[hled]
   simp only[Bool.not_true,Bool.false_eq_true,if_false]
   exact fin rfl
  ·have hled:t.led=false:=by simpa using hled
   rw[hled]
   simp only[Bool.not_false,if_true]
   refine Zl (ZeG hb (fun y hy=>?_) ?_)
   ·obtain⟨e,he,rfl⟩:=List.mem_map.mp hy
    have he:e∈es.toList:=by
     rw[Array.toList_filter] at he
     exact (List.mem_filter.mp he).1
    obtain⟨c,e1,_,e3⟩:=X.el e he
    exact⟨c,_,e1,e3⟩
   ·simp only[Bool.false_eq_true,if_false]
    exact fin rfl
end
def XS (prog:Program)(w:World)(key:Addr->List Int)(h:Heap)(a:Addr)(M:List Addr):Prop:=∃es ep t,SXT prog w key h a es ep t/\List.Perm (YC es) (M.map Value.ref)
section
variable {prog:Program}{w:World}{A:Around}{E:Value->Shared->Prop}{s:Shared}{a b:Addr}{es:Array (Int×Value)}{ep:Nat}{t:SetTable}{key:Addr->List Int}{M:List Addr}
theorem ZfC {h h':Heap}{ks:List Int}{c:Addr}(x:TK prog w h ks c)(S:Wl h a es ep t)(sb:Heap.SameBut a h h'):TK prog w h' ks c:=by
 obtain⟨o,items,n,ho,hc,hd,hi⟩:=x
 obtain⟨o',e1,e2,e3,e4⟩:=S
 have hne:c≠a:=fun z=>by
  subst z
  obtain rfl:o=o':=Option.some.inj (ho.symm.trans e1)
  rw[hd] at e3
  cases e3
 exact⟨o,items,n,(sb.2 c hne).trans ho,hc,hd,hi⟩
theorem SXT.size (X:SXT prog w key s.heap a es ep t)(p:List.Perm (YC es) (M.map Value.ref)):es.size=M.length:=by
 have:=p.length_eq
 unfold YC at this
 rwa [Za,Za,Zr] at this
theorem Zek {m wanted:Nat}{Q:Unit->Shared->Prop}(S:Wl s.heap a es ep t)(hsz:es.size<=sizeLine)(hm:sizeAbove wanted-1=m)(hbig:¬sizeAbove wanted > sizeLine)(Mk:Msk m)(hl:es.size<=m)
  (q:∀(es':Array (Int×Value)) (t':SetTable),List.Perm es'.toList es.toList->T3 t' es'->t'.mask=m->t'.led=t.led->t'.plain=t.plain->t'.fits es'.size=true->Q () {s with heap:=s.heap.update a (Obj.putSet es' t')}):wpAny (model prog w) A (setRelay a wanted) Q E s:=by
 unfold setRelay
 refine Zl (S.state ?_)
 dsimp only
 rw[if_neg hbig]
 obtain⟨t',order,e,hp,h3,h4,h5,h6⟩:=ZcW (t:=t) (es:=es) hm Mk hl
 rw[e]
 have hz:(order.filterMap (es[·]?)).size=es.size:=by rw[<-Zr,hp.length_eq,Zr]
 refine Zl (m:=_) ?_
 show wpAny _ A (if ((order.filterMap (es[·]?)).size != es.size)=true then _ else _) _ E s
 rw[if_neg (by rw[hz];simp)]
 refine Zm ?_
 dsimp only
 refine Ym S (by rw[hz];exact hsz) (q _ t' hp h3 h4 h5 h6 ?_)
 unfold SetTable.fits SetTable.fill
 rw[h3.dum,h3.sz]
 have:=h3.room
 simp
 omega
theorem ZgE {Q:Bool->Shared->Prop}(hu:A.units<cLine)(X:XS prog w key s.heap a M)(hb:TK prog w s.heap (key b) b)(hM:M.length+1<=70)
  (q1:∀c∈M,key c=key b->Q false s) (q2:(∀c∈M,key c≠key b)->∀h',Heap.SameBut a s.heap h'->XS prog w key h' a (M++[b])->Q true {s with heap:=h'}) :
  wpAny (model prog w) A (setAddHashed a (.ref b) (hT prog w (key b))) Q E s:=by
 obtain⟨es,ep,t,X,hp⟩:=X
 have hsz:=X.size hp
 unfold setAddHashed setAddHashedIn
 refine wpAny_holding (Zl (X.at_.state ?_))
 dsimp only
 have hbs:byScan (.ref b) es=false:=rfl
 rw[hbs]
 simp only[Bool.false_eq_true,if_false]
 obtain⟨K,hK,hn,hl⟩:=ZaC X.t3 (hT prog w (key b))
 have hv:∀c,Value.ref c∈YC es↔c∈M:=fun c=>by
  rw[hp.mem_iff,List.mem_map]
  constructor
  ·rintro⟨d,hd,e⟩
   cases e
   exact hd
  ·exact fun h=>⟨c,h,rfl⟩
 refine Zl ?_
 unfold setSearch
 refine ZcT hu X hb hK hn hl (fun c hc hk=>?_) (fun hno=>?_) _ 0 none rfl (Nat.zero_le _) rfl (fun k i c hk=>absurd hk (Nat.not_lt_zero _)) _ ?_
 ·exact Zm (q1 c ((hv c).mp hc) hk)
 ·dsimp only
  refine Zl (X.at_.state ?_)
  dsimp only
  rw[ZhH X.t3.dum]
  dsimp only
  rw[X.pl]
  simp only[if_true]
  refine Zl (Zfo hb ?_)
  simp only[if_true]
  have hfull:=X.full
  have msk:=X.t3.msk
  have hroom:es.size+1<=t.mask:=by rcases msk with h|h|h <;> rw[h] at hfull ⊢ <;> omega
  have T':=X.t3.put (x:=Value.ref b) hn hl hroom
  generalize (wk t.mask K (Jl t.mask (hT prog w (key b)))).j=j at T' ⊢
  have hlv:(insertAt es (below t.place j) (hT prog w (key b),Value.ref b)).size=es.size+1:=by
   rw[<-Zr,(insertAt_perm _ _ _).length_eq,Array.toList_push,Zd,Zr];rfl
  have hperm:List.Perm (YC (insertAt es (below t.place j) (hT prog w (key b),Value.ref b))) ((M++[b]).map Value.ref):=by
   unfold YC
   refine ((insertAt_perm _ _ _).map _).trans ?_
   rw[Array.toList_push,List.map_append,List.map_append]
   exact hp.append_right _
  have hel:∀e∈(insertAt es (below t.place j) (hT prog w (key b),Value.ref b)).toList,∃c,e.2=.ref c/\e.1=hT prog w (key c)/\TK prog w s.heap (key c) c:=fun e he=>by
   rw[(insertAt_perm _ _ _).mem_iff,Array.toList_push,List.mem_append,List.mem_singleton] at he
   rcases he with he|rfl
   ·exact X.el e he
   ·exact⟨b,rfl,rfl,hb⟩
  generalize insertAt es (below t.place j) (hT prog w (key b),Value.ref b)=es1 at T' hlv hperm hel ⊢
  have hno':∀c∈M,key c≠key b:=fun c hc=>hno c ((hv c).mpr hc)
  have led1:({t with place:=insertAt t.place (below t.place j) j,plain:=true}:SetTable).led = !w.params.followText "set-order":=X.led
  have plT:({t with place:=insertAt t.place (below t.place j) j}:SetTable)={t with place:=insertAt t.place (below t.place j) j,plain:=true}:=by rw[<-X.pl]
  rw[plT] at T'
  generalize ht1:({t with place:=insertAt t.place (below t.place j) j,plain:=true}:SetTable)=t1 at T' led1 ⊢
  have hmk:t1.mask=t.mask:=by rw[<-ht1]
  have pl1:t1.plain=true:=by rw[<-ht1]
  have sz1:es1.size<=sizeLine:=by
   have:(16777216:Nat)=sizeLine:=by decide
   omega
  have fit1:t1.fits es1.size=true:=by
   unfold SetTable.fits SetTable.fill
   rw[T'.dum,T'.sz]
   have:=T'.room
   simp
   omega
  have tk2:∀{h':Heap},Heap.SameBut a s.heap h'->∀e∈es1.toList,∃c,e.2=.ref c/\e.1=hT prog w (key c)/\TK prog w h' (key c) c:=fun sb e he=>by
   obtain⟨c,e1,e2,e3⟩:=hel e he
   exact⟨c,e1,e2,ZfC e3 X.at_ sb⟩
  refine Zl (Ym X.at_ sz1 ?_)
  have S2:=stored X.at_ (es':=es1) fit1
  have sbb:=Heap.SameBut.update s.heap a (Obj.putSet es1 t1)
  generalize s.heap.update a (Obj.putSet es1 t1)=h2 at S2 sbb ⊢
  have hfl:t1.fill=es.size+1:=by
   unfold SetTable.fill
   rw[T'.dum,T'.sz,hlv]
   rfl
  by_cases hf:t1.tooFull=true
  ·rw[hf]
   simp only[Bool.not_false,Bool.and_self,if_true]
   have hf':(es.size+1)*5 ≥ t.mask*3:=by
    unfold SetTable.tooFull at hf
    rw[hfl,hmk] at hf
    exact of_decide_eq_true hf
   have cases2:(t.mask=7/\es.size=4)\/(t.mask=31/\es.size=18):=by
    rcases msk with h|h|h <;> rw[h] at hf' hfull <;> omega
   obtain⟨m',e1,e2,e3,e4,e5⟩:∃m',sizeAbove (grown (es.size+1))-1=m'/\¬sizeAbove (grown (es.size+1)) > sizeLine/\Msk m'/\es1.size<=m'/\es1.size*5<m'*3:=by
    have sl:(16777216:Nat)=sizeLine:=by decide
    rcases cases2 with ⟨_,h⟩|⟨_,h⟩
    ·rw[hlv,h]
     exact⟨31,by decide +kernel,by rw[<-sl];decide +kernel,.inr (.inl rfl),by decide,by decide⟩
    ·rw[hlv,h]
     exact⟨127,by decide +kernel,by rw[<-sl];decide +kernel,.inr (.inr rfl),by decide,by decide⟩
   refine Zl (Zek (s:={s with heap:=h2}) S2 sz1 e1 e2 e3 e4 fun es' t' hpe h3 h4 h5 h6 h7=>?_)
   have sb2:=sbb.trans (Heap.SameBut.update h2 a (Obj.putSet es' t'))
   have hsz':es'.size=es1.size:=by rw[<-Zr,hpe.length_eq,Zr]
   refine Zm (q2 hno' _ sb2 ⟨es',_,t',⟨stored S2 h7,h3,by rw[h4,hsz'];exact e5,h5.trans led1,h6.trans pl1,fun e he=>tk2 sb2 e (hpe.mem_iff.mp he)⟩,?_⟩)
   exact (hpe.map _).trans hperm
  ·have hf:t1.tooFull=false:=by simpa using hf
   rw[hf]
   simp only[Bool.and_false,Bool.false_eq_true,if_false]
   have hf':¬(es.size+1)*5 ≥ t.mask*3:=by
    unfold SetTable.tooFull at hf
    rw[hfl,hmk] at hf
    exact of_decide_eq_false hf
   exact Zm (q2 hno' _ sbb ⟨es1,_,t1,⟨S2,T',by rw[hlv,hmk];omega,led1,pl1,tk2 sbb⟩,hperm⟩)
 ·rcases X.t3.msk with h|h|h <;> rw[h] at hK <;> unfold turns at hK <;> omega
end
def Vf (key:Addr->List Int)(acc:List Addr)(b:Addr):List Addr:=if (acc.any fun c=>decide (key c=key b))=true then acc else acc++[b]
def W8 (key:Addr->List Int)(bs:List Addr):List Addr:=bs.foldl (Vf key) []
theorem JN (key:Addr->List Int)(bs:List Addr)(b:Addr):W8 key (bs++[b])=Vf key (W8 key bs) b:=by
 unfold W8
 rw[List.foldl_append]
 rfl
theorem Vd {key:Addr->List Int}{acc:List Addr}{b c:Addr}(hc:c∈acc)(e:key c=key b):Vf key acc b=acc:=by
 unfold Vf
 rw[if_pos (List.any_eq_true.mpr ⟨c,hc,decide_eq_true e⟩)]
theorem Ve {key:Addr->List Int}{acc:List Addr}{b:Addr}(h:∀c∈acc,key c≠key b):Vf key acc b=acc++[b]:=by
 unfold Vf
 rw[if_neg]
 intro z
 obtain⟨c,hc,e⟩:=List.any_eq_true.mp z
 exact h c hc (of_decide_eq_true e)
structure Zhn (key:Addr->List Int)(bs M:List Addr):Prop where
 sub:∀c∈M,c∈bs
 nd:(M.map key).Nodup
 all:∀b∈bs,∃c∈M,key c=key b
 len:M.length<=bs.length
theorem Uc (key:Addr->List Int)(bs:List Addr):Zhn key bs (W8 key bs):=by
 suffices h:∀n,n<=bs.length->Zhn key (bs.take n) (W8 key (bs.take n)) by
  have:=h bs.length (Zq _)
  rwa [List.take_length] at this
 intro n
 induction n with
 |zero=>intro _;exact⟨fun c h=>(by cases h),List.nodup_nil,fun b h=>(by cases h),Zq _⟩
 |succ n ih=>
  intro hn
  have ih:=ih (by omega)
  have et:bs.take (n+1)=bs.take n++[bs[n]]:=(List.take_append_getElem (by omega)).symm
  rw[et,JN]
  generalize bs.take n=p at ih ⊢
  generalize bs[n]=b
  generalize W8 key p=M at ih ⊢
  by_cases h:∃c∈M,key c=key b
  ·obtain⟨c,hc,e⟩:=h
   rw[Vd hc e]
   refine⟨fun c hc=>List.mem_append_left _ (ih.sub c hc),ih.nd,fun x hx=>?_,by rw[Zd];have:=ih.len;omega⟩
   rcases List.mem_append.mp hx with hx|hx
   ·exact ih.all x hx
   ·rw[List.mem_singleton.mp hx];exact⟨c,hc,e⟩
  ·have h:∀c∈M,key c≠key b:=fun c hc e=>h ⟨c,hc,e⟩
   rw[Ve h]
   refine⟨fun c hc=>?_,?_,fun x hx=>?_,by rw[Zd,Zd];have:=ih.len;exact Nat.add_le_add this (Zq _)⟩
   ·rcases List.mem_append.mp hc with hc|hc
    ·exact List.mem_append_left _ (ih.sub c hc)
    ·exact List.mem_append_right _ hc
   ·rw[List.map_append,List.nodup_append]
    refine⟨ih.nd,by simp,fun x hx y hy=>?_⟩
    obtain⟨c,hc,rfl⟩:=List.mem_map.mp hx
    have hy:y=key b:=by simpa using hy
    rw[hy]
    exact h c hc
   ·rcases List.mem_append.mp hx with hx|hx
    ·obtain⟨c,hc,e⟩:=ih.all x hx
     exact⟨c,List.mem_append_left _ hc,e⟩
    ·rw[List.mem_singleton.mp hx]
     exact⟨b,List.mem_append_right _ (List.mem_singleton.mpr rfl),rfl⟩
section
variable {prog:Program}{w:World}{A:Around}{R:Result->Shared->Prop}{I:Addr}{fp wr:List Addr}{G:Array GenState->Array GenState->Prop}{n:Nat}{P:Nat->Value->Prop}{St:Nat->Shared->Prop}
theorem XS.keep {key:Addr->List Int}{h h':Heap}{a:Addr}{M:List Addr}(X:XS prog w key h a M)(k:∀o,h.get? a=some o->h'.get? a=some o)(kt:∀c∈M,TK prog w h (key c) c->TK prog w h' (key c) c):XS prog w key h' a M:=by
 obtain⟨es,ep,t,X,p⟩:=X
 refine⟨es,ep,t,⟨X.at_.keep k,X.t3,X.full,X.led,X.pl,fun e he=>?_⟩,p⟩
 obtain⟨b,e1,e2,e3⟩:=X.el e he
 refine⟨b,e1,e2,kt b ?_ e3⟩
 have:Value.ref b∈YC es:=List.mem_map.mpr ⟨e,he,e1⟩
 obtain⟨c,hc,z⟩:=List.mem_map.mp (p.mem_iff.mp this)
 cases z
 exact hc
theorem Jj {h h':Heap}{ks:List Int}{c:Addr}(k:∀o,h.get? c=some o->h'.get? c=some o)(x:TK prog w h ks c):TK prog w h' ks c:=by
 obtain⟨o,items,m,ho,r⟩:=x
 exact⟨o,items,m,k o ho,r⟩
theorem ZcP (hu:A.in1.units<cLine)(W:WalksS prog w A.in1 I fp wr G n P St)(S:Addr)(hSf:S∉fp)(key:Addr->List Int)(bs:List Addr)(hbl:bs.length=n)(hn:n<=69)(hval:∀i v,P i v->∃b,bs[i]?=some b/\v=.ref b)(hbw:∀b∈bs,b∉S::wr) :
  ∀(k i:Nat) (s:Shared),n-i=k->i<=n->St i s->XS prog w key s.heap S (W8 key (bs.take i))->(∀b∈bs,TK prog w s.heap (key b) b)->
   (∀s',Moved (S::wr) G s s'->XS prog w key s'.heap S (W8 key bs)->R (.ok (.ret .none)) s')->
   codeAny (model prog w) A (.builtin "set.update.loop" ⟨[.ref S,.ref I],[]⟩) R s:=by
 have hSw:S∉wr:=fun h=>hSf (W.sub _ h)
 have hsub:∀b∈wr,b∈S::wr:=fun b hb=>List.mem_cons_of_mem _ hb
 have hbw':∀b∈bs,b∉wr:=fun b hb z=>hbw b hb (List.mem_cons_of_mem _ z)
 have msub:∀i,∀c∈W8 key (bs.take i),c∈bs:=fun i c hc=>List.mem_of_mem_take ((Uc key (bs.take i)).sub c hc)
 intro k
 induction k with
 |zero=>
  intro i s hk hi hst hS hT hR
  have hin:i=n:=by omega
  subst hin
  refine codeAny_builtin PyProof.Rows.F.entry_set_update_loop ?_
  rw[Around.under_plainId PyProof.Rows.F.plain_set_update_loop _]
  show wpAny _ A.in1 (pyNext (.ref I) >>= _) _ _ s
  refine Zl (W.done s _ _ hst fun s' hm=>?_)
  show wpAny _ A.in1 (ret Value.none) _ _ s'
  rw[<-hbl,List.take_length] at hS
  refine Zm (hR s' (hm.mono hsub) (hS.keep (fun o e=>hm.heap S o hSw e) fun c hc=>Jj fun o e=>hm.heap c o (hbw' c ((Uc key bs).sub c hc)) e))
 |succ k ih=>
  intro i s hk hi hst hS hT hR
  have hlt:i<n:=by omega
  refine codeAny_builtin PyProof.Rows.F.entry_set_update_loop ?_
  rw[Around.under_plainId PyProof.Rows.F.plain_set_update_loop _]
  show wpAny _ A.in1 (pyNext (.ref I) >>= _) _ _ s
  refine Zl (W.item i s _ _ hlt hst fun v s' hP hst' hm=>?_)
  obtain⟨b,hb,rfl⟩:=hval i v hP
  have hbm:b∈bs:=List.mem_of_getElem? hb
  have hT':∀b∈bs,TK prog w s'.heap (key b) b:=fun c hc=>Jj (fun o e=>hm.heap c o (hbw' c hc) e) (hT c hc)
  have hS':=hS.keep (fun o e=>hm.heap S o hSw e) fun c hc=>Jj fun o e=>hm.heap c o (hbw' c (msub i c hc)) e
  show wpAny _ A.in1 (holding [Value.ref b] (setAdd S (.ref b)) >>= _) _ _ s'
  refine Zl (wpAny_holding ?_)
  unfold setAdd
  refine wpAny_holding ?_
  refine Zl (wpAny_pyHash_tuple hu (hT' b hbm) ?_)
  have et:bs.take (i+1)=bs.take i++[b]:=by
   have hi':i<bs.length:=by omega
   have e:bs[i]=b:=Option.some.inj ((Zf hi').symm.trans hb)
   rw[<-e]
   exact (List.take_append_getElem hi').symm
  have hln:(W8 key (bs.take i)).length<=i:=Nat.le_trans (Uc key (bs.take i)).len (by rw[List.length_take];omega)
  have fin:∀h':Heap,Heap.SameBut S s'.heap h'->XS prog w key h' S (W8 key (bs.take (i+1)))->∀tk:Nat,s'.toks<=tk->
    codeAny (model prog w) A (.builtin "set.update.loop" ⟨[.ref S,.ref I],[]⟩) R {s' with heap:=h',toks:=tk}:=fun h' hsb hSi tk htk=>by
   refine ih (i+1) _ (by omega) hlt (W.frame _ s' _ _ hst' htk fun b hb o e=>?_) hSi (fun c hc=>Jj (fun o e=>by rw[hsb.2 c fun z=>hbw c hc (by rw[z];exact List.mem_cons_self)];exact e) (hT' c hc)) fun s'' hm'' hS''=>?_
   ·rw[hsb.2 b (fun h:b=S=>hSf (by rw[<-h];exact hb))];exact e
   ·refine hR s'' (Moved.trans W.gtrans ((hm.mono hsub).then_heap htk fun b o hb e=>?_) hm'') hS''
    rw[hsb.2 b (fun h:b=S=>hb (by rw[h];exact List.mem_cons_self))];exact e
  refine ZgE (s:={s' with toks:=_}) hu hS' (hT' b hbm) (by omega) (fun c hc e=>?_) (fun hno h' hsb hS2=>?_)
  ·refine Zm ⟨plainId_quiet PyProof.Rows.F.plain_set_update_loop _,?_⟩
   refine fin s'.heap (Heap.SameBut.refl S s'.heap) ?_ _ (Nat.le_add_right _ _)
   rw[et,JN,Vd hc e]
   exact hS'
  ·refine Zm ⟨plainId_quiet PyProof.Rows.F.plain_set_update_loop _,?_⟩
   refine fin h' hsb ?_ _ (Nat.le_add_right _ _)
   rw[et,JN,Ve hno]
   exact hS2
end
section
variable {prog:Program}{w:World}{A:Around}{E:Value->Shared->Prop}{s:Shared}
theorem Zih {key:Addr->List Int}{h:Heap}{a:Addr}(e:h.get? a=some {cls:=.type "set",dict:=none,data:=.set #[] 0 (.fresh 0 0 (!w.params.followText "set-order"))}):XS prog w key h a []:=by
 refine⟨#[],0,_,⟨⟨_,e,⟨rfl,rfl,rfl⟩,rfl,rfl⟩,⟨List.Pairwise.nil,rfl,.inl rfl,fun j hj=>(by cases hj),rfl,Nat.zero_le _,fun i j e h=>(by have h:(#[]:Array Nat)[i]?=some j:=h;simp at h)⟩,(by show 0*5<7*3;decide),rfl,rfl,fun x hx=>(by simp at hx)⟩,List.Perm.refl _⟩
abbrev ZcK (prog:Program)(w:World)(s:Shared)(key:Addr->List Int)(bs:List Addr)(h':Heap):Prop:=
 XS prog w key h' s.heap.objs.size (W8 key bs)/\∀b o,b<s.heap.objs.size->s.heap.get? b=some o->h'.get? b=some o
theorem UX {l:Addr}{items:Array Value}{key:Addr->List Int}{bs:List Addr}{Q:Value->Shared->Prop}(hu:A.units+8<cLine)(hh:A.handled=none)(hl:s.heap.IsList l items)(hi:items.toList=bs.map Value.ref)(hb:bs.length<=69)(hT:∀b∈bs,TK prog w s.heap (key b) b)
  (h:∀(h':Heap) (tk:Nat),ZcK prog w s key bs h'->Q (.ref s.heap.objs.size) {s with heap:=h',toks:=tk}):wpAny (model prog w) A (call (.type "set") [.ref l]) Q E s:=by
 obtain⟨c,tl,hmro⟩:=PySem.F.called_set.mro
 have hmade:=PySem.F.called_set.made;have hsub:=PySem.F.called_set.sub
 refine wpAny_call (codeAny_of_tree ?_);show wpAny _ _ (callAny (.type "set") _) _ _ _
 refine Zm ⟨Code.quiet_builtin _ (by decide +kernel),codeAny_builtin PySem.F.entry_type_call ?_⟩;rw[Around.under_plain (weight_type_call_type "set" [.ref l] []) rfl]
 have h1:=PySem.F.called_set.notType;have h2:=PySem.F.called_set.canCreate;have hct:=PySem.F.typeCall_set_1 (.ref l)
 repeat (any_goals (first|assumption|wp_step))
 let ob:Obj:={cls:=.type "set",dict:=none,data:=.set #[] 0 (.fresh 0 0 (!w.params.followText "set-order"))}
 refine codeAny_mono (Zb0 (.ref l) (E:=E) (Q₁:=fun obj s₁=>obj=.ref s.heap.objs.size/\s₁={s with heap:=s.heap.push ob}) ⟨rfl,rfl⟩) fun r s₁ hr=>?_
 cases r with
 |error e=>exact hr
 |ok fl=>
  cases fl with
  |ret obj=>
   obtain⟨rfl,rfl⟩:=hr
   have hS:(s.heap.push ob).get? s.heap.objs.size=some ob:=Zo _ rfl
   have hTy:Shared.TypeIs {s with heap:=s.heap.push ob} (.ref s.heap.objs.size) "set":=⟨_,hS,rfl⟩
   have hli:=PySem.F.called_set.init.lookup;have hbi:=PySem.F.called_set.init.bind (.ref s.heap.objs.size)
   repeat (any_goals (first|assumption|wp_step))
   refine codeAny_mono (codeAny_call_builtin (R:=wants (fun r s₂=>r=.none/\∃h' tk,s₂={s with heap:=h',toks:=tk}/\ZcK prog w s key bs h') E) PySem.F.called_set.init.plain PySem.F.entry_set_init (check_set_init_1 hTy ?_)) fun r₂ s₂ hr₂=>?_
   ·obtain⟨ol,hol,hcl,nl,hdl⟩:=id hl
    obtain⟨ocls,odict,odata,oslots⟩:=ol
    simp only at hcl hdl
    subst hcl;subst hdl
    have hol':(s.heap.push ob).get? l=some {cls:=.type "list",dict:=odict,data:=.seq items nl,slots:=oslots}:=Zn _ hol
    have hsls:=PySem.F.sub_list_set;have hslf:=PySem.F.sub_list_frozenset
    have hne:(Value.type "list" == Value.type "dict")=false:=by decide
    have hl1:(s.heap.push ob).IsList l items:=⟨_,hol',rfl,nl,rfl⟩
    unfold Builtin.«set.__init__» noKeywords Builtin.Frozenset.updateFrom;generalize hPI:pyIter=PI
    wp_walk
    subst hPI
    refine wpAny_pyIter_list hl1 ?_
    refine Zl (wpAny_runValue ?_)
    have hlS:l<s.heap.objs.size:=Zp hol
    have hneI:l≠(s.heap.push ob).objs.size:=by rw[Heap.size_push];exact Nat.ne_of_lt (Nat.lt_succ_of_lt hlS)
    have hSf:s.heap.objs.size∉[(s.heap.push ob).objs.size,l]:=by
     rw[Heap.size_push];intro z
     rcases List.mem_cons.mp z with z|z
     ·exact absurd z (Nat.ne_of_lt (Nat.lt_succ_self _))
     ·exact absurd (List.mem_singleton.mp z) (Nat.ne_of_gt hlS)
    have hzs:bs.length=items.size:=by rw[<-Zr,hi,Za]
    have hblt:∀b∈bs,b<s.heap.objs.size:=fun b hb=>by
     obtain⟨o,_,_,e,_⟩:=hT b hb
     exact Zp e
    refine ZcP (by simp only[Around.in1_units];omega) ((Walks.list (A:=A.in1.in1.in1) (by simp[hh]) _ l hneI items).toS) s.heap.objs.size hSf key bs hzs (by omega) (fun i v hv=>?hv) (fun b hb z=>?hbw) (items.size-0) 0 _ (by omega) (Nat.zero_le _)
     ⟨⟨_,Zo _ rfl,rfl,rfl⟩,⟨_,Zn _ hol',rfl,nl,rfl⟩⟩ ?hS0 (fun b hb=>Jj (fun o e=>Zn _ (Zn _ e)) (hT b hb)) ?hR
    case hv=>
     have hv:items[i]?=some v:=hv
     rw[<-Array.getElem?_toList,hi,Zc] at hv
     obtain⟨b,hb,e⟩:=Option.map_eq_some_iff.mp hv
     exact⟨b,hb,e.symm⟩
    case hbw=>
     have:=hblt b hb
     rcases List.mem_cons.mp z with z|z
     ·rw[z] at this
      exact absurd this (Nat.lt_irrefl _)
     ·rw[List.mem_singleton.mp z,Heap.size_push] at this
      exact absurd this (Nat.not_lt.mpr (Nat.le_succ _))
    case hS0=>exact Zih (Zn _ hS)
    case hR=>
     intro s' hm hS'
     obtain⟨h',g',d',tk',os'⟩:=s'
     obtain rfl:g'=s.gens:=hm.gens
     obtain rfl:d'=s.drawn:=hm.drawn
     obtain rfl:os'=s.os:=hm.os
     show wpAny _ _ _ _ _ _
     refine Zm ?_;show wpAny _ _ (ret Value.none) _ _ _
     refine Zm ⟨rfl,h',tk',rfl,hS',fun b o hb e=>hm.heap b o (fun z=>?_) (Zn _ (Zn _ e))⟩
     rcases List.mem_cons.mp z with z|z
     ·exact absurd z (Nat.ne_of_lt hb)
     ·refine absurd (List.mem_singleton.mp z) (Nat.ne_of_lt ?_);rw[Heap.size_push];exact Nat.lt_succ_of_lt hb
   ·cases r₂ with
    |error e=>exact hr₂
    |ok fl₂=>
     cases fl₂ with
     |ret r=>
      obtain⟨rfl,h',tk,rfl,he⟩:=hr₂
      repeat (any_goals (first|assumption|wp_step))
      exact h _ _ he
     |_=>exact hr₂.elim
  |_=>exact hr.elim
end
end PyS
namespace PyS
open PySem PySem.W PyProof.Rows PySem.Calls PyProof.V PySem.Spec
section
variable {prog:Program}{w:World}{A:Around}{E:Value->Shared->Prop}{s:Shared}{a L:Addr}{m:Str->Option Value}{T:String}{n:Nat}{Good:(Nat->Value->Prop)->Prop}{OK:Heap->Prop}
theorem UV {M:List Addr}{key:Addr->List Int}{Q:Value->Shared->Prop}(C:Src prog w T a n Good OK)(hh:A.handled=none)(n2:2<=n)(n64:n<64)(hok:OK s.heap)(hNs:s.heap.Ns L m)
    (hi:∀P acc,Good P->ItemsOf P acc n->∃as:List Addr,acc.toList=as.map Value.ref/\List.Perm as M)
    (ht:∀b∈M,b≠L/\key b≠[]/\∃us:List Value,s.heap.IsTuple b us.toArray/\IntsAre us (key b))
    (q:∀D c h' dr tk (as:List Addr),s.heap.get? D=none->D≠L->(∀b o,b≠L->s.heap.get? b=some o->h'.get? b=some o)->h'.Ns L m->List.Perm as M->(as.map key).Pairwise (fun x y=>PyZ.WM y x=false)->h'.get? D=some (W.listOf (as.map Value.ref).toArray c)->Q (.ref D) {s with heap:=h',drawn:=dr,toks:=tk}) :
    wpAny (model prog w) A (call (.builtin "sorted") [.ref a]) Q E s:=by
  have hz : n ≤ sizeLine := by have:(16777216:Nat)=sizeLine:=by decide
                               omega
  refine call_function_entry kind_sorted plain_sorted entry_sorted (args_sorted1 _) ?_
  unfold Builtin.«sorted»
  refine Zl (m:=checkCount "sorted" 1 1 _) (Zm ?_)
  refine Zl (WI (A:=A.in1) C hh hz hok fun h1 dr tk acc P hgt hk hg hacc=>?_)
  obtain⟨as,ea,hperm⟩:=hi P acc hg hacc
  have hl:as.length=n:=by rw[<-Za (f:=Value.ref),<-ea,Zr];exact hacc.1
  rw[ea]
  have lv:(as.map Value.ref).length=as.length:=List.length_map ..
  refine Zl (wpAny_newList ?_ (by rw[lv,hl];exact hz))
  have hLs:L<s.heap.objs.size:=hNs.lt
  have hL:L<h1.objs.size:=Nat.lt_trans hLs hgt
  have hNs1:h1.Ns L m:=hNs.keeps hk
  obtain⟨h2,hh2⟩:∃h2,h2=h1.push {cls:=.type "list",data:=.seq (as.map Value.ref).toArray}:=⟨_,rfl⟩
  have hoL:h2.get? h1.objs.size=some (seqObj "list" (as.map Value.ref).toArray 0):=by rw[hh2];exact Zo _ rfl
  have hk2:∀b o,h1.get? b=some o->h2.get? b=some o:=fun b o e=>by rw[hh2];exact Zn _ e
  have hNs2:h2.Ns L m:=hNs1.keeps hk2
  have hbig:∀b o,h2.get? b=some o->b≠h1.objs.size->b<h1.objs.size:=fun b o e ne=>by
    have:=Zp e
    rw[hh2,Heap.size_push] at this
    exact Nat.lt_of_le_of_ne (Nat.le_of_lt_succ this) ne
  show wpAny _ _ _ _ _ {s with heap:=h1.push {cls:=.type "list",data:=.seq (as.map Value.ref).toArray},drawn:=dr,toks:=tk}
  rw[<-hh2]
  have fr:Fr (PyZ.X3 h2 L) L h2 m:=by
    refine⟨hNs2,fun b o e=>?_,?_⟩
    · by_cases hb:b<L
      · rw[PyZ.Yh hb] at e;exact e
      · rw[PyZ.YE (Nat.le_of_not_lt hb)] at e
        cases e
    · show (h2.objs.extract 0 L).size<=L
      rw[Array.size_extract,Nat.sub_zero]
      exact Nat.min_le_left ..
  have nw:News (PyZ.X3 h2 L) L h2 (PyZ.ZP h1 L):=fun x hx=>by
    obtain⟨e1,e2⟩:=PyZ.ZO.mp hx
    exact⟨hk2 _ _ e2,Nat.ne_of_gt e1,PyZ.YE (Nat.le_of_lt e1)⟩
  have big:∀x∈PyZ.ZP h1 L,x.1<h1.objs.size:=fun x hx=>Zp (PyZ.ZO.mp hx).2
  refine Zl (wpAny_holding (wpAny_call_entry slot_list_sort ⟨_,hoL,rfl⟩ entry_list_sort ?body (args_list_sort _)))
  case body=>
    refine W.kat_list_sort (s:={s with heap:=h2,drawn:=dr,toks:=tk}) fr nw hoL (Nat.ne_of_gt hL) (PyZ.YE (Nat.le_of_lt hL)) (fun x hx=>Nat.ne_of_lt (big x hx)) (by rw[lv,hl];exact n2) (by rw[lv,hl];exact n64) fun e1 h' fr' nw'=>?_
    have kept:∀b o,b≠L->h1.get? b=some o->h'.get? b=some o:=fun b o hb e=>by
      rcases Nat.lt_or_ge b L with c1|c1
      · exact fr'.keep b o (by rw[PyZ.Yh c1];exact hk2 b o e)
      · exact (nw' (b,o) (List.mem_cons_of_mem _ (PyZ.ZO.mpr ⟨Nat.lt_of_le_of_ne c1 (Ne.symm hb),e⟩))).1
    obtain⟨yss,hyss⟩:∃yss,yss=as.map key:=⟨_,rfl⟩
    have hy:as.length=yss.length:=by rw[hyss,Za]
    have yat:∀i a,as[i]?=some a->yss[i]?=some (key a):=fun i a e=>by rw[hyss,Zc,e];rfl
    have ht':∀(i:Nat) a,as[i]?=some a->∃(us:List Value) (ys:List Int),yss[i]?=some ys/\h'.IsTuple a us.toArray/\IntsAre us ys/\ys≠[]:=fun i a e=>by
      obtain⟨aL,ne,us,⟨o,g1,g2⟩,ia⟩:=ht a (hperm.mem_iff.mp (List.mem_of_getElem? e))
      exact⟨us,_,yat i a e,⟨o,kept a o aL (hk a o g1),g2⟩,ia,ne⟩
    obtain⟨fs,kt,fl,fi⟩:=PyZ.Uk as yss hy ht'
    obtain⟨p,hp,hpm,hps⟩:=PyZ.Vh (yss:=yss) (by omega)
    rw[<-hy] at hp hpm
    have hpi:∀i∈p.toList,i<as.length:=fun i hi=>List.mem_range.mp (hpm.mem_iff.mp hi)
    have es:(p.toList.map fun i=>(as.map Value.ref).getD i Value.none)=(p.toList.map fun i=>as.getD i 0).map Value.ref:=by
      rw[List.map_map]
      refine List.map_congr_left fun i hi=>?_
      have:=hpi i hi
      show (as.map Value.ref).getD i Value.none=Value.ref (as.getD i 0)
      rw[Zb,Zc,Zf this,Zb,Zf this]
      rfl
    have ekey:(p.toList.map fun i=>as.getD i 0).map key=p.toList.map fun i=>yss.getD i []:=by
      rw[List.map_map]
      refine List.map_congr_left fun i hi=>?_
      have:=hpi i hi
      show key (as.getD i 0)=yss.getD i []
      rw[Zb,Zf this,Zb,yat i _ (Zf this)]
      rfl
    have pas:List.Perm (p.toList.map fun i=>as.getD i 0) M:=by
      refine List.Perm.trans ?_ hperm
      refine (hpm.map _).trans ?_
      have:((List.range as.length).map fun i=>as.getD i 0)=as:=by
        refine List.ext_getElem? fun i=>?_
        rw[Zc]
        by_cases c:i<as.length
        · rw[List.getElem?_range c,Zf c]
          show some (as.getD i 0)=_
          rw[Zb,Zf c]
          rfl
        · rw[List.getElem?_eq_none (by rw[Zg];omega),List.getElem?_eq_none (by omega)]
          rfl
      rw[this]
    refine W.kat_kind (T:=Value.type "int") kt (by omega) (fun v hv=>?_) (by decide +kernel) ?_
    · obtain⟨n,t,rfl⟩:=fi v hv
      intro A Q E s' _ q
      exact Zm q
    · rw[lv]
      have kb:(Value.type "int" != Value.type "tuple")=true:=by decide +kernel
      rw[kb]
      refine PyZ.W4 (cmp:=fun i j=>PyZ.WM (yss.getD i []) (yss.getD j [])) (fun i j C hi hj c=>?_) _ p _ hp ?_
      · unfold W.kas_ask
        obtain⟨us,ys,e,⟨o,g1,g2,n1,g3⟩,ia,_⟩:=ht' i as[i] (Zf hi)
        obtain⟨us2,ys2,e2,⟨o2,k1,k2,n2',k3⟩,ia2,_⟩:=ht' j as[j] (Zf hj)
        have v1:(as.map Value.ref).getD i Value.none=.ref as[i]:=by
          rw[Zb,Zc,Zf hi]
          rfl
        have v2:(as.map Value.ref).getD j Value.none=.ref as[j]:=by
          rw[Zb,Zc,Zf hj]
          rfl
        have w1:yss.getD i []=ys:=by rw[Zb,e];rfl
        have w2:yss.getD j []=ys2:=by rw[Zb,e2];rfl
        rw[v1,v2]
        refine W.kat_lt g1 g3 k1 k3 ?_
        have il:∀{us:List Value}{ys:List Int},IntsAre us ys->us.length=ys.length:=fun {us ys} h=>by
          induction h with
          |nil=>rfl
          |cons _ _ _ ih=>rw[Zi,Zi,ih]
        refine PyZ.Zbq us us2 ys ys2 0 ia ia2 ?_
        rw[w1,w2] at c
        unfold PyZ.WM at c
        rw[Zh,Zh,il ia,il ia2]
        exact c
      · refine⟨_,_,fr',nw',W.UpdF.head (fun x hx=>Nat.ne_of_lt (big x hx)),fun h'' c fr'' nw''=>?_⟩
        refine⟨_,rfl,Zm ⟨_,rfl,?_⟩⟩
        have hD:=(nw'' _ (List.mem_cons_self ..)).1
        rw[es] at hD
        refine q h1.objs.size c h'' dr tk _ (Heap.get?_none_of_le (Nat.le_of_lt hgt)) (Nat.ne_of_gt hL) (fun b o hb e=>?_) fr''.ns pas (by rw[ekey];exact hps) hD
        rcases Nat.lt_or_ge b L with c1|c1
        · exact fr''.keep b o (by rw[PyZ.Yh c1];exact hk2 b o (hk b o e))
        · exact (nw'' (b,o) (List.mem_cons_of_mem _ (PyZ.ZO.mpr ⟨Nat.lt_of_le_of_ne c1 (Ne.symm hb),hk b o e⟩))).1
end
section
variable {prog:Program}{w:World}{A:Around}{E:Value->Shared->Prop}{s:Shared}{a L:Addr}{m:Str->Option Value}{T:String}{n:Nat}{Good:(Nat->Value->Prop)->Prop}{OK:Heap->Prop}
theorem XW {M:List Addr}{Q:Value->Shared->Prop}(C:Src prog w T a n Good OK)(hh:A.handled=none)(n2:n<2)(hok:OK s.heap)
    (hi:∀P acc,Good P->ItemsOf P acc n->∃as:List Addr,acc.toList=as.map Value.ref/\List.Perm as M)
    (q:∀D c h' dr tk (as:List Addr),s.heap.objs.size<=D->(∀b o,s.heap.get? b=some o->h'.get? b=some o)->List.Perm as M->h'.get? D=some (seqObj "list" (as.map Value.ref).toArray c)->Q (.ref D) {s with heap:=h',drawn:=dr,toks:=tk}) :
    wpAny (model prog w) A (call (.builtin "sorted") [.ref a]) Q E s:=by
  have hz : n ≤ sizeLine := by have:(16777216:Nat)=sizeLine:=by decide
                               omega
  refine call_function_entry kind_sorted plain_sorted entry_sorted (args_sorted1 _) ?_
  unfold Builtin.«sorted»
  refine Zl (m:=checkCount "sorted" 1 1 _) (Zm ?_)
  refine Zl (WI (A:=A.in1) C hh hz hok fun h1 dr tk acc P hgt hk hg hacc=>?_)
  obtain⟨as,ea,hperm⟩:=hi P acc hg hacc
  have hl:as.length=n:=by rw[<-Za (f:=Value.ref),<-ea,Zr];exact hacc.1
  rw[ea]
  have lv:(as.map Value.ref).length=as.length:=List.length_map ..
  refine Zl (wpAny_newList ?_ (by rw[lv,hl];exact hz))
  have ho:(h1.push {cls:=.type "list",data:=.seq (as.map Value.ref).toArray}).get? h1.objs.size=some (seqObj "list" (as.map Value.ref).toArray 0):=Zo _ rfl
  refine Zl (wpAny_holding (wpAny_call_entry slot_list_sort ⟨_,ho,rfl⟩ entry_list_sort (PyZ.Xp ho (by rw[lv];omega) ⟨_,rfl,?_⟩) (args_list_sort _)))
  refine Zm ⟨_,rfl,?_⟩
  have o1:=get?_update_seq ho (fun _=>(#[]:Array Value))
  have o2:=Zn (seqObj "tuple" (as.map Value.ref).toArray 0) o1
  have o3:=Zn (seqObj "list" #[] 0) o2
  have o4:=get?_update_seq o3 (fun _=>(as.map Value.ref).toArray)
  refine q h1.objs.size _ _ dr tk as (Nat.le_of_lt hgt) (fun b o e=>?_) hperm o4
  have hb:b≠h1.objs.size:=Nat.ne_of_lt (Nat.lt_trans (Zp e) hgt)
  unfold sortedHeap
  rw[Heap.get?_update_other _ _ (Ne.symm hb)]
  refine Zn _ (Zn _ ?_)
  rw[Heap.get?_update_other _ _ (Ne.symm hb)]
  exact Zn _ (hk b o e)
def ZbJ (w:World)(h:Heap)(a:Addr)(M:List Addr):Prop:=∃es ep t,Wl h a es ep t/\Wk t (!w.params.followText "set-order")/\List.Perm (YC es) (M.map Value.ref)
theorem ZbJ.of {key:Addr->List Int}{h:Heap}{M:List Addr}(X:XS prog w key h a M):ZbJ w h a M:=by
 obtain⟨es,ep,t,X,p⟩:=X
 exact⟨es,ep,t,X.at_,⟨X.t3.rise,X.t3.dum,X.led⟩,p⟩
theorem ZbJ.keep {h h':Heap}{M:List Addr}(X:ZbJ w h a M)(k:∀o,h.get? a=some o->h'.get? a=some o):ZbJ w h' a M:=by
 obtain⟨es,ep,t,S,r⟩:=X
 exact⟨es,ep,t,S.keep k,r⟩
end
end PyS
namespace L2
open PySem PySem.Spec PyProof.Rows
def Jo (w:World)(a:Addr)(M:List Addr):HO:=.ext fun h=>PyS.ZbJ w h a M
def Zjx:V->Int
 | .int k=>k
 |_=>0
def Yf (H:Hp)(b:Addr):List Int:=match H b with
 |some (.tup xs)=>xs.map Zjx
 |_=>[]
theorem WK {H:Hp}{b:Addr}{ys:List Int}(h:H b=some (.tup (ys.map V.int))):Yf H b=ys:=by
 unfold Yf
 rw[h]
 show (ys.map V.int).map Zjx=ys
 rw[List.map_map]
 exact List.map_id' _
section
variable {X:Cx}{pins:List (Addr×Obj)}{σ:L2.St}{H:Hp}{s:Shared}
theorem Zax {P:Program}{w:World}:∀{ks:List Int}{us:List Value},ZB (ks.map V.int) us->ItemsAre (intKind P w) ks us
 | [],_,r=>by rw[List.map_nil] at r;cases r;exact .nil
 |k::ks,_,r=>by
  rw[List.map_cons] at r
  cases r with
  |cons h t=>
   obtain⟨tk,rfl⟩:=(show ∃t,_=Value.int k t from h)
   exact .cons (intKind_is _ _ _ _) (Zax t)
theorem ZiX (I:Inv X pins σ H s){b:Addr}{ys:List Int}(h:H b=some (.tup (ys.map V.int))):PyS.TK X.prog X.w s.heap ys b:=by
 obtain⟨its,rv,⟨o,e,c,n,d⟩,_⟩:=I.tuple (.of h)
 exact⟨o,_,n,e,c,d,by simpa using Zax rv⟩
theorem ZbE (hc:X.calm=true)(hu:X.A.units+64<cLine):ZW X (.type "set") (fun xs H Q=>∃(a:Addr) (bs:List Addr),xs=[.ref a]/\H a=some (.lst (bs.map V.ref))/\bs.length<=60/\(∀b∈bs,∃ys:List Int,H b=some (.tup (ys.map V.int)))/\∀p,H p=none->Q (.ref p) (upd H p (Jo X.w p (PyS.W8 (Yf H) bs)))):=by
 intro pins s σ H xs us Q I r h
 obtain⟨a,bs,rfl,ha,hn,ht,q⟩:=h
 obtain⟨u,rfl,ru⟩:=vals1 r
 cases ru
 obtain⟨its,rv,p,hz⟩:=I.list (.of ha)
 have ei:=WY rv
 subst ei
 refine PyS.UX (key:=Yf H) (bs:=bs) (by omega) (I.ok.hd hc) p.isList (by simp) (by omega) (fun b hb=>?_) fun h' tk ⟨e1,e2⟩=>?_
 ·obtain⟨ys,hy⟩:=ht b hb
  rw[WK hy]
  exact ZiX I hy
 ·have e1:=PyS.ZbJ.of e1
  refine⟨.ref _,_,I.laid (a:=s.heap.objs.size) (o:=Jo X.w s.heap.objs.size (PyS.W8 (Yf H) bs)) (t':=tk) (fun b o e=>e2 b o (Zp e) e) (Zq _) ⟨e1,?_,fun h1 h2 x k=>x.keep k⟩,rfl,q _ (I.hok.fresh (Zq _))⟩
  obtain⟨es,ep,t,⟨o,e,_⟩,_⟩:=e1
  exact⟨o,e⟩
theorem ZaN (hc:X.calm=true):ZW X (.builtin "sorted") (fun xs H Q=>∃(a:Addr) (M:List Addr),xs=[.ref a]/\H a=some (Jo X.w a M)/\M.length<64/\(∀b∈M,∃ys:List Int,ys≠[]/\H b=some (.tup (ys.map V.int)))/\
  ∀l as,H l=none->List.Perm as M->(as.map (Yf H)).Pairwise (fun x y=>PyZ.WM y x=false)->Q (.ref l) (upd H l (.lst (as.map V.ref)))):=by
 intro pins s σ H xs us Q I r h
 obtain⟨a,M,rfl,ha,h64,ht,q⟩:=h
 obtain⟨u,rfl,ru⟩:=vals1 r
 cases ru
 obtain⟨X0,_,_⟩:=(show Z3 X.prog X.w H s.heap a (Jo X.w a M) from I.hok a _ ha)
 obtain⟨es,ep,t,S,wk,pm⟩:=X0
 have hsz:es.size=M.length:=by
  have:=pm.length_eq
  unfold PyS.YC at this
  rwa [Za,Za,Zr] at this
 have szl:(16777216:Nat)=sizeLine:=by decide
 have C:=PyS.ZbR (prog:=X.prog) (w:=X.w) (a:=a) (ep:=ep) (es:=es) (t:=t) (by omega) wk
 have hi:∀P acc,(∃L:List Value,List.Perm L (PyS.YC es)/\P=fun i v=>L[i]?=some v)->ItemsOf P acc es.size->∃as:List Addr,acc.toList=as.map Value.ref/\List.Perm as M:=fun P acc hg hacc=>by
  obtain⟨L,hp,rfl⟩:=hg
  have e:=PyS.Zay (by rw[hp.length_eq];unfold PyS.YC;rw[Za,Zr]) hacc
  rw[e]
  have hp':=hp.trans pm
  clear e hacc hp
  have hr:∀v∈L,∃b,v=Value.ref b:=fun v hv=>by
   obtain⟨b,_,e⟩:=List.mem_map.mp (hp'.mem_iff.mp hv)
   exact⟨b,e.symm⟩
  obtain⟨as,rfl⟩:∃as:List Addr,L=as.map Value.ref:=by
   clear hp'
   induction L with
   |nil=>exact⟨[],rfl⟩
   |cons v L ih=>
    obtain⟨as,e⟩:=ih fun v hv=>hr v (List.mem_cons_of_mem _ hv)
    obtain⟨b,rfl⟩:=hr v List.mem_cons_self
    exact⟨b::as,by rw[e];rfl⟩
  refine⟨as,rfl,?_⟩
  have:=hp'.map (fun v=>match v with|Value.ref b=>b|_=>0)
  rw[List.map_map,List.map_map] at this
  have e1:as.map ((fun v=>match v with|Value.ref b=>b|_=>0) ∘ Value.ref)=as:=List.map_id' _
  have e2:M.map ((fun v=>match v with|Value.ref b=>b|_=>0) ∘ Value.ref)=M:=List.map_id' _
  rwa [e1,e2] at this
 have neL:∀{a:Addr}{o:HO},H a=some o->a≠X.env.locals:=fun {a o} e z=>by rw[z,I.free] at e;cases e
 obtain⟨m,hm,hlk⟩:=id I.loc
 by_cases n2:es.size<2
 ·refine PyS.XW C (I.ok.hd hc) n2 S hi fun D c h' dr tk as hD kp pas hD'=>?_
  have hll:as.length<2:=by rw[pas.length_eq,<-hsz];exact n2
  refine⟨.ref D,_,(I.laid (a:=D) (o:=.lst (as.map V.ref)) (t':=tk) kp hD ⟨by rw[Za];omega,as.map Value.ref,c,We as,hD'⟩).drawn dr,rfl,q _ as (I.hok.fresh hD) pas ?_⟩
  match as,hll with
  | [],_=>exact List.Pairwise.nil
  | [_],_=>exact List.pairwise_singleton _ _
 ·refine PyS.UV (key:=Yf H) C (I.ok.hd hc) (by omega) (by omega) S hm hi (fun b hb=>?_) fun D c h' dr tk as dn dL kept hn' pas hso hD=>?_
  ·obtain⟨ys,ne,hy⟩:=ht b hb
   obtain⟨us,rv',pt,_⟩:=I.tuple (.of hy)
   rw[WK hy]
   exact⟨neL hy,ne,us,pt,Wq rv'⟩
  ·have hll:as.length<64:=by rw[pas.length_eq];exact h64
   obtain⟨I',hH⟩:=I.newL (ys:=as.map V.ref) hm hlk dn dL kept hn' (by rw[Za];omega) (We _) hD
   exact⟨.ref D,_,(I'.kept (t':=tk) fun b o e=>e).drawn dr,rfl,q D as hH pas hso⟩
theorem Zi8 (w:World)(hc:X.calm=true)(hu:X.A.units+64<cLine)(hw:X.w=w:=by rfl):ZW X (.type "set") (fun xs H Q=>∃(a:Addr) (bs:List Addr),xs=[.ref a]/\H a=some (.lst (bs.map V.ref))/\bs.length<=60/\(∀b∈bs,∃ys:List Int,H b=some (.tup (ys.map V.int)))/\∀p,H p=none->Q (.ref p) (upd H p (Jo w p (PyS.W8 (Yf H) bs)))):=hw▸ZbE hc hu
theorem ZfL (w:World)(hc:X.calm=true)(hw:X.w=w:=by rfl):ZW X (.builtin "sorted") (fun xs H Q=>∃(a:Addr) (M:List Addr),xs=[.ref a]/\H a=some (Jo w a M)/\M.length<64/\(∀b∈M,∃ys:List Int,ys≠[]/\H b=some (.tup (ys.map V.int)))/\
  ∀l as,H l=none->List.Perm as M->(as.map (Yf H)).Pairwise (fun x y=>PyZ.WM y x=false)->Q (.ref l) (upd H l (.lst (as.map V.ref)))):=hw▸ZaN hc
end
theorem Zi9 {X:Cx}(K:PySem.W.Frag)(P:Program)(w:World)(hc:X.calm=true)(hK:X.K=K:=by rfl)(hP:X.prog=P:=by rfl)(hw:X.w=w:=by rfl):ZW X (.type "set") (fun xs H Q=>∃(a:Addr) (ns:List Int),xs=[.ref a]/\Wb K H a (ns.map V.int)/\ns.length<1000/\∀p,H p=none->Q (.ref p) (upd H p (UZ P w p (WC ns ns.length)))):=by
 subst hK hP hw
 exact VB hc
theorem Zhv {X:Cx}(P:Program)(w:World)(hc:X.calm=true)(hP:X.prog=P:=by rfl)(hw:X.w=w:=by rfl):ZW X (.builtin "sorted") (fun xs H Q=>∃(a:Addr) (M:List Int),xs=[.ref a]/\H a=some (UZ P w a M)/\M.Nodup/\M.length<64/\∀l ns,H l=none->List.Perm ns M->ns.Pairwise (· ≤ ·)->Q (.ref l) (upd H l (.lst (ns.map V.int)))):=by
 subst hP hw
 exact XR hc
theorem Zdy {K:PySem.W.Frag}{J:It}{At:Hp->Prop}{own:List Str}{caps:List Nat}{tc:TT}{te:TE}{σ:St}{H Hx:Hp}{Q:VK}{ps:List (V×V)}(S:Zfv J At ps)(hAt:∀H',Same Hx H'->At H')(sx:Same Hx H)(cs:St)(hcs:Jz own caps σ=none::none::cs)(p:V->V->Bool)(f:V->V->V)(hz:ps.length<=1000000)
  (hs:∀(i:Nat) x y H',ps[i]?=some (x,y)->Same H H'->∀(R:VK) (R':Hp->Prop),(p x y=true->∀H5,Same H' H5->R (f x y) H5)->(p x y=false->∀H5,Same H' H5->R' H5)->tc (some x::some y::cs) H' fun b H4=>if b=true then te (some x::some y::cs) H4 R else R' H4)
  (hd:∀D H',H D=none->Same H H'->H' D=some (.lst ((ps.filter fun q=>p q.1 q.2).map fun q=>f q.1 q.2))->Q (.ref D) H'):WX own caps (Zgs K 2 (XF (Yg 0) (XF (Yg 1) Zgt))) tc te σ Q J H:=by
 intro D hD
 refine⟨fun i m σ' H'=>m=ps.length-i/\i<=ps.length/\(∃v0 v1,σ'=v0::v1::cs)/\Same H H'/\H' D=some (.lst (((ps.take i).filter fun q=>p q.1 q.2).map fun q=>f q.1 q.2)),⟨_,rfl,Nat.zero_le _,⟨none,none,hcs⟩,Same.upd hD,by rw[Zt,List.take_zero];rfl⟩,?_⟩
 rintro i m σ' H' ⟨rfl,hi,⟨v0,v1,rfl⟩,s,hl⟩
 have at':=hAt H' (sx.trans s)
 by_cases hlt:i<ps.length
 ·refine .inr ⟨S.go i H' at' hlt,_,fun σ2 H2 z=>z,fun x H2 hy=>?_⟩
  obtain⟨T,y,z,rfl,hT,rfl,hx⟩:=S.yld i H' x H2 at' hy
  have ht:ps.take (i+1)=ps.take i++[(y,z)]:=by rw[List.take_add_one,hx];rfl
  refine⟨T,_,rfl,.of Zt,rfl,_,_,rfl,_,_,rfl,rfl,?_⟩
  have hll:(((ps.take i).filter fun q=>p q.1 q.2).map fun q=>f q.1 q.2).length<=i:=by
   rw[Za]
   exact Nat.le_trans (List.length_filter_le _ _) (by rw[List.length_take];omega)
  refine hs i y z _ hx (s.trans (Same.upd hT)) _ _ (fun e H5 s5=>?_) (fun e H5 s5=>?_)
  ·refine⟨_,s5 _ _ (Same.upd hT _ _ hl),?_,ps.length-(i+1),by omega,rfl,hlt,⟨_,_,rfl⟩,((s.trans (Same.upd hT)).trans s5).updr hD,?_⟩
   ·have:(16777216:Nat)=sizeLine:=by decide
    omega
   ·rw[Zt,ht,List.filter_append,List.map_append,List.filter_cons,if_pos e]
    rfl
  ·refine⟨ps.length-(i+1),by omega,rfl,hlt,⟨_,_,rfl⟩,(s.trans (Same.upd hT)).trans s5,?_⟩
   rw[s5 _ _ (Same.upd hT _ _ hl),ht,List.filter_append,List.map_append,List.filter_cons,if_neg (by rw[e];decide)]
   simp
 ·have e:i=ps.length:=by omega
  subst e
  refine .inl ⟨S.stop _ H' at' (Zq _),hd D H' hD s ?_⟩
  rw[hl,List.take_length]
end L2
namespace Tb
open Pm
section
variable {t:List (List Nat)}{o:List Nat}
def nJ (l:List Nat):List Int:=l.map fun k:Nat=>(k:Int)
theorem Zbo {a b:List Nat}(h:nJ a=nJ b):a=b:=by
 have:=congrArg (List.map Int.toNat) h
 unfold nJ at this
 rw[List.map_map,List.map_map] at this
 have e:∀l:List Nat,l.map (Int.toNat ∘ fun k:Nat=>(k:Int))=l:=fun l=>by
  have:(Int.toNat ∘ fun k:Nat=>(k:Int))=id:=funext fun k=>Zj k
  rw[this,List.map_id]
 rwa [e,e] at this
end
end Tb
namespace Tb
section
variable {t:List (List Nat)}{o:List Nat}
theorem Zfm (P:PW t){b c:Nat}(hb:b<t.length)(hc:c<t.length)(h:c∈YK t b):YK t c=YK t b:=by
 unfold YK
 refine List.filter_congr fun a ha=>?_
 have ha:=List.mem_range.mp ha
 rw[Bool.eq_iff_iff]
 obtain⟨z,hz,rfl⟩:=(Y7 P hb).mp h
 simp only[List.any_eq_true,List.mem_range,beq_iff_eq]
 constructor
 ·rintro⟨x,hx,rfl⟩
  exact⟨Zz t x z,P.lt _ _ hx hz,Za1 P hb hx hz⟩
 ·rintro⟨x,hx,rfl⟩
  have lz:=(Yb P hz).1
  refine⟨Zz t x (JD t z),P.lt _ _ hx lz,?_⟩
  rw[Za1 P hc hx lz,ZfD P hb hz]
end
end Tb
namespace Tb
open Pm
section
variable {t:List (List Nat)}{m:Nat}{ds:List (List Nat)}
def Yy (m:Nat)(ds:List (List Nat))(a:Nat):List Nat:=(List.range m).filter fun i=>decide (Zz ds a i=i)
theorem Xd {a i:Nat}:i∈Yy m ds a↔i<m/\Zz ds a i=i:=by
 unfold Yy
 rw[List.mem_filter,List.mem_range,decide_eq_true_iff]
theorem Ze8 (P:PW t)(D:Dd t m ds){b c:Nat}(hb:b<t.length)(h:c∈YK t b):(Yy m ds b).length<=(Yy m ds c).length:=by
 obtain⟨x,hx,rfl⟩:=(Y7 P hb).mp h
 have hbx:=Yb P hx
 have nd:((Yy m ds b).map (Zz ds x)).Nodup:=by
  refine List.Pairwise.map _ (R:=fun u v=>u≠v/\u<m/\v<m) (fun u v h e=>h.1 (D.inj P hx h.2.1 h.2.2 e)) ?_
  refine List.pairwise_and_iff.mpr ⟨?_,List.pairwise_of_forall_mem_list fun u hu v hv=>⟨(Xd.mp hu).1,(Xd.mp hv).1⟩⟩
  exact List.nodup_range.sublist List.filter_sublist
 have:=PyS.Wy _ (Yy m ds (tb t b x)) nd fun j hj=>by
  obtain⟨i,hi,rfl⟩:=List.mem_map.mp hj
  obtain⟨h1,h2⟩:=Xd.mp hi
  refine Xd.mpr ⟨D.lt x i hx h1,?_⟩
  unfold tb
  have hxb:=P.lt x b hx hb
  have e1:Zz ds (JD t x) (Zz ds x i)=i:=by rw[<-D.go _ _ _ hbx.1 hx h1,ZaO P hx,D.one i h1]
  rw[D.go _ _ _ hxb hbx.1 (D.lt x i hx h1),e1,D.go x b i hx hb h1,h2]
 rwa [Za] at this
theorem ZaB (P:PW t)(D:Dd t m ds){b c:Nat}(hb:b<t.length)(h:c∈YK t b):(Yy m ds c).length=(Yy m ds b).length:=by
 have hc:=ZbB h
 have e:=Zfm P hb hc h
 exact Nat.le_antisymm (Ze8 P D hc (by rw[e];exact Jy P hb)) (Ze8 P D hb h)
def YW (n m:Nat)(ds:List (List Nat))(i:Nat):List Nat:=(List.range m).filter fun j=>(List.range n).any fun a=>Zz ds a i == j
theorem Ja {n i j:Nat}:j∈YW n m ds i↔j<m/\∃a,a<n/\Zz ds a i=j:=by
 unfold YW
 rw[List.mem_filter,List.mem_range,List.any_eq_true]
 constructor
 ·rintro⟨h,a,ha,e⟩
  exact⟨h,a,List.mem_range.mp ha,by simpa using e⟩
 ·rintro⟨h,a,ha,e⟩
  exact⟨h,a,List.mem_range.mpr ha,by simpa using e⟩
theorem Xb {n:Nat}(i:Nat):(YW n m ds i).Pairwise (· < ·):=List.Pairwise.sublist List.filter_sublist List.pairwise_lt_range
theorem or_self (P:PW t)(D:Dd t m ds){i:Nat}(hi:i<m):i∈YW t.length m ds i:=Ja.mpr ⟨hi,0,P.n1,D.one i hi⟩
theorem Zjt (P:PW t)(D:Dd t m ds){i j:Nat}(hi:i<m)(h:j∈YW t.length m ds i):YW t.length m ds j=YW t.length m ds i:=by
 obtain⟨hj,a,ha,rfl⟩:=Ja.mp h
 unfold YW
 refine List.filter_congr fun y hy=>?_
 rw[Bool.eq_iff_iff,List.any_eq_true,List.any_eq_true]
 have hb:=Yb P ha
 constructor
 ·rintro⟨b,hbm,e⟩
  have hbl:=List.mem_range.mp hbm
  refine⟨Zz t b a,List.mem_range.mpr (P.lt b a hbl ha),?_⟩
  rw[D.go b a i hbl ha hi]
  exact e
 ·rintro⟨b,hbm,e⟩
  have hbl:=List.mem_range.mp hbm
  refine⟨Zz t b (JD t a),List.mem_range.mpr (P.lt _ _ hbl hb.1),?_⟩
  rw[D.go b _ _ hbl hb.1 hj,<-D.go _ a i hb.1 ha hi,ZaO P ha,D.one i hi]
  exact e
def Xc (n m:Nat)(ds:List (List Nat)):Nat->List (List Nat)
 |0=>[]
 |i+1=>if (Xc n m ds i).contains (YW n m ds i) then Xc n m ds i else Xc n m ds i++[YW n m ds i]
theorem XC {n:Nat}:∀i,∀r∈Xc n m ds i,∃a,a<i/\r=YW n m ds a
 |0,r,h=>by cases h
 |i+1,r,h=>by
  unfold Xc at h
  split at h
  ·obtain⟨a,ha,e⟩:=XC i r h
   exact⟨a,by omega,e⟩
  ·rcases List.mem_append.mp h with h|h
   ·obtain⟨a,ha,e⟩:=XC i r h
    exact⟨a,by omega,e⟩
   ·exact⟨i,by omega,List.mem_singleton.mp h⟩
theorem V6 {n:Nat}:∀i a,a<i->YW n m ds a∈Xc n m ds i
 |i+1,a,h=>by
  unfold Xc
  by_cases e:a=i
  ·subst e
   split
   ·rename_i h2;exact List.contains_iff_mem.mp h2
   ·exact List.mem_append_right _ List.mem_cons_self
  ·have:=V6 (n:=n) i a (by omega)
   split
   ·exact this
   ·exact List.mem_append_left _ this
theorem Zbi {n:Nat}:∀i,(Xc n m ds i).Nodup
 |0=>List.nodup_nil
 |i+1=>by
  unfold Xc
  split
  ·exact Zbi i
  ·rename_i h
   refine List.nodup_append.mpr ⟨Zbi i,by simp,fun a ha b hb e=>h ?_⟩
   rw[List.mem_singleton.mp hb] at e
   exact List.contains_iff_mem.mpr (e▸ha)
theorem V5 {n:Nat}:∀i,(Xc n m ds i).length<=i
 |0=>Zq _
 |i+1=>by
  unfold Xc
  have:=V5 (n:=n) i
  split
  ·omega
  ·rw[Zd,Zk];omega
theorem Zcw {l:List Nat}{x:Nat}(hs:l.Pairwise (· < ·))(h:x∈l):∃y r,l=y::r/\y<=x:=by
 cases l with
 |nil=>cases h
 |cons y r=>
  refine⟨y,r,rfl,?_⟩
  rcases List.mem_cons.mp h with e|e
  ·omega
  ·have:=(List.pairwise_cons.mp hs).1 x e
   omega
theorem Zbh (P:PW t)(D:Dd t m ds):∀i,i<=m->(Xc t.length m ds i).Pairwise fun a b=>PyZ.WM (nJ b) (nJ a)=false
 |0,_=>List.Pairwise.nil
 |i+1,hi=>by
  unfold Xc
  split
  ·exact Zbh P D i (by omega)
  ·rename_i hn
   refine List.pairwise_append.mpr ⟨Zbh P D i (by omega),List.pairwise_singleton _ _,fun r hr s hs=>?_⟩
   rw[List.mem_singleton.mp hs]
   obtain⟨a,ha,rfl⟩:=XC i r hr
   obtain⟨y,rr,ey,hy⟩:=Zcw (Xb (n:=t.length) (m:=m) (ds:=ds) a) (or_self P D (by omega))
   obtain⟨z,sr,ez,hz⟩:=Zcw (Xb (n:=t.length) (m:=m) (ds:=ds) i) (or_self P D (by omega))
   have hzi:z=i:=by
    apply Classical.byContradiction
    intro ne
    have hlt:z<i:=by omega
    have hzm:z∈YW t.length m ds i:=by rw[ez];exact List.mem_cons_self
    have:=Zjt P D (by omega) hzm
    have h2:=V6 (n:=t.length) (m:=m) (ds:=ds) i z hlt
    rw[this] at h2
    exact hn (List.contains_iff_mem.mpr h2)
   rw[ey,ez]
   unfold nJ
   rw[List.map_cons,List.map_cons,PyZ.Jt,if_neg (by omega)]
   exact decide_eq_false (by omega)
theorem Zf6 (P:PW t)(D:Dd t m ds){rss:List (List Nat)}(nd:rss.Nodup)(hm:∀r,r∈rss↔∃a,a<m/\r=YW t.length m ds a)(so:rss.Pairwise fun a b=>PyZ.WM (nJ b) (nJ a)=false):rss=Xc t.length m ds m:=by
 refine List.Perm.eq_of_pairwise (fun p q _ _ h1 h2=>Zbo (PyZ.Ue h2 h1)) so (Zbh P D m (Zq _)) ?_
 refine (List.perm_ext_iff_of_nodup nd (Zbi _)).mpr fun r=>(hm r).trans ⟨fun ⟨a,ha,e⟩=>e▸V6 m a ha,XC m r⟩
end
end Tb
namespace C27
open PySem L2 PySem.Spec PyProof.Rows
open Tb Pm
abbrev Zb3:Stmt:=top 13
abbrev Zed:Stmt:=top 14
abbrev Zb8:Stmt:=top 15
theorem ZgX {rs:List Addr}{i:Nat}{r:Addr}(h:rs[i]?=some r):UA (rs.map V.ref) (i:Int)=some (.ref r):=YJ (by rw[Zc,h];rfl)
theorem U3 {n i:Nat}{y:V}(h:((Z2 0 n).map V.int)[i]?=some y):i<n/\y=.int ((i:Nat):Int):=by
 unfold Z2 at h
 rw[List.map_map,Zc] at h
 by_cases hi:i<n
 ·rw[List.getElem?_range hi] at h
  refine⟨hi,(Option.some.inj h).symm.trans ?_⟩
  show V.int (0+(i:Int))=_
  rw[Int.zero_add]
 ·rw[List.getElem?_eq_none (by rw[Zg];omega)] at h
  cases h
def ZbV:Sp:=fun vs H Q _=>∃(r:Addr) (ds:List (List Nat)) (m a:Nat),vs=[.ref r]/\H r=some (.tup ((ds.getD a []).map nV))/\(ds.getD a []).length=m/\m<=1000/\∀H',Same H H'->Q (.int ((Yy m ds a).length:Nat)) H'
def whI (n:Nat)(k:Nat):List Int:=(k:Int)::List.replicate (N27.XY n-1).toNat 0
def TTI (H:Hp)(r:Addr)(xss:List (List Int)):Prop:=∃rs:List Addr,H r=some (.tup (rs.map V.ref))/\rs.length=xss.length/\∀(i:Nat) b,rs[i]?=some b->H b=some (.tup ((xss.getD i []).map V.int))
def UO:Sp:=fun vs H Q _=>∃(g d:Addr) (t ds:List (List Nat)) (m n:Nat),vs=[.ref g,.ref d]/\GT H g t/\PW t/\CT H d ds/\Dd t m ds/\m<=24/\1<=n/\n<=60/\(∀a,a<t.length->∀r,Rd t a r->r ∣ n)/\(∀M,(∀a,a<t.length->∀r,Rd t a r->r ∣ M)->n ∣ M)/\
 ∀r H',Same H H'->TTI H' r ((ZK t t.length).map fun c=>whI n (Yy m ds (c.getD 0 0)).length)->Q (.ref r) H'
def UT:Sp:=fun vs H Q _=>∃(g d:Addr) (t ds:List (List Nat)) (m:Nat),vs=[.ref g,.ref d]/\PW t/\CT H d ds/\Dd t m ds/\m<=24/\∀r H',Same H H'->CT H' r (Xc t.length m ds m)->Q (.ref r) H'
theorem Ze9 {ds:List (List Nat)}{m a:Nat}(hl:(ds.getD a []).length=m):((((List.range ((ds.getD a []).map nV).length).map nV).zip ((ds.getD a []).map nV)).filter fun q=>decide (q.1=q.2)).length=(Yy m ds a).length:=by
 rw[Za,hl]
 have e:((List.range m).map nV).zip ((ds.getD a []).map nV)=(List.range m).map fun i=>(nV i,nV (Zz ds a i)):=by
  refine List.ext_getElem? fun i=>?_
  rw[Zc]
  by_cases hi:i<m
  ·rw[List.getElem?_range hi]
   refine List.getElem?_zip_eq_some.mpr ⟨by rw[Zc,List.getElem?_range hi];rfl,?_⟩
   rw[Zc,Z0 (by omega)]
   rfl
  ·rw[List.getElem?_eq_none (by rw[List.length_zip,Za,Zg];omega),List.getElem?_eq_none (by rw[Zg];omega)]
   rfl
 rw[e,List.filter_map,Za]
 unfold Yy
 congr 1
 refine List.filter_congr fun i _=>?_
 show decide (V.int (i:Int)=V.int ((Zz ds a i:Nat):Int))=decide (Zz ds a i=i)
 rw[ZjO]
 by_cases h:i=Zz ds a i
 ·rw[decide_eq_true h,decide_eq_true h.symm]
 ·rw[decide_eq_false h,decide_eq_false (Ne.symm h)]
section
variable {P:Program}{w:World}{K:PySem.W.Frag}{mg:Str->Option Value}{base:Heap}
theorem ZeA {f:Addr}{fd:FuncData}(F:WB K "places_left" "places_left" Zed f fd)(T:Bl mg)(T2:ZaS mg):Z1 P w K mg base Yc 1 f fd ["perm"] ZbV:=by
 refine F.ok (FS (N:=["perm"])) (fun vs H Q E h=>?_) (fun cdv A outer s H vs Q E hr h=>?_)
 ·obtain⟨r,ds,m,a,rfl,_⟩:=h;rfl
 ·obtain⟨r,ds,m,a,rfl,hr0,hl,m1000,q⟩:=h
  refine⟨_,Zv (ZD (cb (Yj K) T.len (pc (cmp ["i", "place"] [] ["i", "place"] rfl (ZjL K T2.enumerate (pc (vn 0) Zs)) (fun _ _ _ _ _=>g2 K 0 1 rfl (gn 0) (gn 1)) (fun _ _ _ _ _=>V3 (ZI Vk (vn 0) (vn 1) (ZR _))) (fun _ _ _ _ _=>vn 0)) Zs))),?_⟩
  refine⟨_,rfl,r,rfl,.inr ⟨⟨_,.of hr0⟩,?_⟩⟩
  refine Zdy (ZjM (Zio (K:=K) (xs:=(ds.getD a []).map nV))) (Hx:=H) (fun H' s'=>.of (s' _ _ hr0)) (Same.refl _) [] rfl (fun x y=>decide (x=y)) (fun x _=>x) (by rw[List.length_zip,Za,Zg,Za];omega) (fun b x y H3 hxy s3 R R' k1 k2=>?_) (fun L H3 nL s3 hL=>?_)
  ·obtain⟨hb,rfl,ey⟩:=Zip hxy
   obtain⟨z,hz,rfl⟩:=Jd ey
   refine⟨_,rfl,_,rfl,rfl,_,rfl,?_⟩
   exact YN (fun h=>⟨_,rfl,k1 h H3 (Same.refl _)⟩) (fun h=>k2 (by simpa using h) H3 (Same.refl _))
  ·refine⟨L,_,rfl,.inl (.of hL),?_⟩
   rw[Za,Ze9 hl]
   exact q H3 s3
theorem Zc4 {f:Addr}{fd:FuncData}(F:WB K "traces" "traces" Zb3 f fd)(T:Bl mg)(GF:Fn P w K mg base Yc 2 "full_round" ["group"] Zd3)(GW:Fn P w K mg base Yc 3 "whole" ["n", "k"] N27.ZgO)(GPL:Fn P w K mg base Yc 1 "places_left" ["perm"] ZbV)(GC:Fn P w K mg base Yc 4 "classes_of" ["group"] Vg) :
  Z1 P w K mg base Yc 5 f fd ["group", "deed"] UO:=by
 refine F.ok (FS (N:=["group", "deed", "n"])) (fun vs H Q E h=>?_) (fun cdv A outer s H vs Q E hr h=>?_)
 ·obtain⟨g,d,t,ds,m,n,rfl,_⟩:=h;rfl
 ·obtain⟨g,d,t,ds,m,n,rfl,G,Pt,hd,D,m24,n1,n60,hdv,hmn,q⟩:=h
  refine⟨_,Zu (ZH 2 rfl (Y3 GF hr ZE (pc (vn 0) Zs)))
   (Zv (ZD (ct (tupK K) T.tuple (pc (cmp ["members"] [2,1] ["members", "n", "deed"] rfl (itT K (Y3 GC hr ZE (pc (vn 0) Zs))) (fun _ _ _ _ _=>gn 0) (fun _ _ _ _ _=>ZQ) (fun _ _ _ _ _=>Y3 GW hr ZE (pc (vn 1) (pc (Y3 GPL hr ZE (pc (ZF (WF K) (vn 2) (ZF (WF K) (vn 0) Zx (fun _ _=>rfl)) (fun _ _=>rfl)) Zs)) Zs)))) Zs)))),?_⟩
  have t60:=Pt.n60
  obtain⟨rs,hrs⟩:∃rs:Nat->Nat,∀a,a<t.length->Rd t a (rs a):=by
   refine⟨fun a=>if h:a<t.length then (Pt.rd a h).choose else 0,fun a ha=>?_⟩
   show Rd t a (if h:a<t.length then (Pt.rd a h).choose else 0)
   rw[dif_pos ha]
   exact (Pt.rd a ha).choose_spec
  refine⟨_,rfl,g,t,rs,rfl,G,Pt,hrs,fun f1 H1 s1 L1=>?_⟩
  have ef:f1=n:=by
   have h1:n % f1=0:=L1.mn n fun a ha=>Nat.mod_eq_zero_of_dvd (hdv a ha _ (hrs a ha))
   have h2:n ∣ f1:=hmn f1 fun a ha r R=>by
    rw[Zcc R (hrs a ha)]
    exact Nat.dvd_of_mod_eq_zero (L1.dv a ha)
   exact Nat.dvd_antisymm (Nat.dvd_of_mod_eq_zero h1) h2
  subst ef
  refine⟨_,rfl,g,t,rfl,G.mono s1,Pt,fun c H2 s2 hc=>?_⟩
  obtain⟨cs,c1,c2,c3⟩:=id hc
  have cl:=WS (t:=t) t.length
  have csl:(cs.map V.ref).length=(ZK t t.length).length:=by rw[Za,c2]
  refine⟨c,rfl,⟨_,.of c1⟩,?_⟩
  refine WN (W:=Addr) id (fun i b H=>H b=some (.tup ((((ZK t t.length).map fun c=>whI f1 (Yy m ds (c.getD 0 0)).length).getD i []).map V.int))) (fun _ _=>True) (Ws (K:=K) (.of c1)) [some (.int (f1:Nat)),some (.ref d)] rfl (by rw[csl];omega) (fun i w H H' s h=>s _ _ h) (fun _ _ _ _ h=>h) (fun i w H0 H1 D o' ys ys' h h0 h1 h2=>?_) (fun i y hy H3 s3 R k=>?_) (fun D bs H3 nD s3 hD wl hw _=>?_)
  ·rw[Zw fun z=>by rw[z,h2] at h;cases h]
   exact h
  ·rw[Zc] at hy
   cases er:cs[i]? with
   |none=>rw[er] at hy;cases hy
   |some b=>
    rw[er] at hy
    cases hy
    have hi:i<(ZK t t.length).length:=by rw[<-c2];exact (List.getElem?_eq_some_iff.mp er).1
    have hb:=s3 _ _ (c3 i b er)
    obtain⟨x,hx,ex⟩:=Xi Pt t.length (Zq _) _ (List.mem_of_getElem? (gD hi))
    have h0:0<((ZK t t.length).getD i []).length:=by rw[ex];exact List.length_pos_of_mem (Jy Pt hx)
    have hz:((ZK t t.length).getD i []).getD 0 0<t.length:=by
     have:=List.mem_of_getElem? (gN h0)
     rw[ex] at this
     rw[ex]
     exact ZbB this
    obtain⟨dr,d1,d2,d3⟩:=hd.mono ((s1.trans s2).trans s3)
    have hzz:dr[((ZK t t.length).getD i []).getD 0 0]?=some (dr[((ZK t t.length).getD i []).getD 0 0]'(by rw[d2,D.len];exact hz)):=Zf _
    have hrow:=d3 _ _ hzz
    refine⟨_,rfl,_,rfl,_,rfl,b,_,_,_,rfl,rfl,.of hb,Zag (l:=(ZK t t.length).getD i []) (i:=0) h0,d,_,_,_,rfl,rfl,.of d1,ZgX hzz,_,ds,m,_,rfl,hrow,D.rl _ hz,by omega,fun H4 s4=>?_⟩
    refine⟨f1,_,rfl,n1,n60,fun r H5 s5 h5=>?_⟩
    refine k r H5 (s4.trans s5) ?_ trivial
    rw[Zb,Zc,gD hi]
    exact h5
  ·have hD:H3 D=some (.lst (bs.map V.ref)):=hD
   refine⟨D,_,rfl,.inl ⟨.of hD,fun r nr=>?_⟩⟩
   refine q r _ (((s1.trans s2).trans s3).trans (Same.upd nr)) ⟨bs,Zt,by rw[wl,csl,Za],fun i b hb=>Same.upd nr _ _ (hw i b hb).1⟩
theorem Zc9 {f:Addr}{fd:FuncData}(F:WB K "pieces" "pieces" Zb8 f fd)(T:Bl mg)(T2:ZaS mg):Z1 P w K mg base Yc 1 f fd ["group", "deed"] UT:=by
 refine F.ok (FS (N:=["group", "deed", "found"])) (fun vs H Q E h=>?_) (fun cdv A outer s H vs Q E hr h=>?_)
 ·obtain⟨g,d,t,ds,m,rfl,_⟩:=h;rfl
 ·obtain⟨g,d,t,ds,m,rfl,Pt,hd,D,m24,q⟩:=h
  refine⟨_,Zu (Zku 2 ["i"] [1] ["i", "deed"] rfl rfl (Wt T.range (pc (cb (Yj K) T.len (pc (ZF (WF K) (vn 1) Zx (fun _ _=>rfl)) Zs)) Zs)) (fun _ _ _ _ _=>gnf 0 rfl) (fun _ _ _ _ _=>ZQ) (fun _ _ _ _ _=>ct (tupK K) (by exact T.tuple) (pc (cb (Zhv P w rfl) (by exact T2.sorted) (pc (ct (Zi9 K P w rfl) (by exact T.set) (pc (cmp ["perm"] [0] ["perm", "i"] rfl (itT K (vn 1)) (fun _ _ _ _ _=>gn 0) (fun _ _ _ _ _=>ZQ) (fun _ _ _ _ _=>ZF (WF K) (vn 0) (vn 1) (fun _ _=>rfl))) Zs)) Zs)) Zs)))
   (Zv (ZD (ct (tupK K) T.tuple (pc (cb (ZfL w rfl) T2.sorted (pc (ct (Zi8 w rfl hr.units) T.set (pc (vn 2) Zs)) Zs)) Zs)))),?_⟩
  have sz:(16777216:Nat)=sizeLine:=by decide
  have n1:=Pt.n1
  have n60:=Pt.n60
  obtain⟨dr,d1,d2,d3⟩:=id hd
  have hz0:dr[0]?=some (dr[0]'(by rw[d2,D.len];exact n1)):=Zf _
  have row0:((ds.getD 0 []).map nV).length=m:=by rw[Za];exact D.rl 0 n1
  refine⟨_,rfl,d,_,_,_,rfl,rfl,.of d1,ZgX (i:=0) hz0,_,_,rfl,.inr (.of (d3 0 _ hz0)),_,rfl,by rw[row0];omega,by rw[row0];omega,?_⟩
  rw[row0,Zj]
  have rl:((Z2 0 m).map V.int).length=m:=by rw[Za,ZY]
  refine WN (W:=Addr) id (fun i b H=>H b=some (.tup ((YW t.length m ds i).map nV))) (fun _ _=>True) (YG 0 m) [some (.ref d)] rfl (by rw[rl];omega) (fun i w H H' s h=>s _ _ h) (fun _ _ _ _ h=>h) (fun i w H0 H1 D o' ys ys' h h0 h1 h2=>?_) (fun i y hy H1 s1 R k=>?_) (fun D' bs H1 nD s1 hD wl hw _=>?_)
  ·rw[Zw fun z=>by rw[z,h2] at h;cases h]
   exact h
  ·obtain⟨hi,rfl⟩:=U3 hy
   obtain⟨er,e1,e2,e3⟩:=hd.mono s1
   have el:(er.map V.ref).length=t.length:=by rw[Za,e2,D.len]
   refine⟨_,rfl,d,rfl,⟨_,.of e1⟩,?_⟩
   refine WP (Ws (K:=K) (.of e1)) [some (.int (i:Nat))] rfl (fun a=>nV (Zz ds a i)) (by rw[el];omega) (fun a y hy H2 s2 R k=>?_) (fun L H2 nL s2 hL=>?_)
   ·rw[Zc] at hy
    cases ea:er[a]? with
    |none=>rw[ea] at hy;cases hy
    |some b=>
     rw[ea] at hy
     cases hy
     have ha:a<t.length:=by rw[<-D.len,<-e2];exact (List.getElem?_eq_some_iff.mp ea).1
     exact⟨_,rfl,_,rfl,b,_,_,_,rfl,rfl,.of (s2 _ _ (e3 a b ea)),Zag (l:=ds.getD a []) (i:=i) (by rw[D.rl a ha];exact hi),k H2 (Same.refl _)⟩
   ·rw[el] at hL
    obtain⟨N,hN⟩:∃N:List Int,N=(List.range t.length).map fun a=>((Zz ds a i:Nat):Int):=⟨_,rfl⟩
    have eN:(List.range t.length).map (fun a=>nV (Zz ds a i))=N.map V.int:=by rw[hN,List.map_map];rfl
    rw[eN] at hL
    have nl:N.length=t.length:=by rw[hN,Za,Zg]
    refine⟨L,N,rfl,.of hL,by omega,fun p1 h1=>?_⟩
    have t1:=Same.upd (o:=UZ P w p1 (WC N N.length)) h1
    have ml:(WC N N.length).length<=N.length:=firstMet_length_le _ _
    refine⟨p1,WC N N.length,rfl,Zt,Wh _ _,by omega,fun l ns h2 hp hs=>?_⟩
    have t2:=Same.upd (o:=.lst (ns.map V.int)) h2
    have e:=WZ (c:=YW t.length m ds i) hp hs (Wh _ _) (fun k=>by
     rw[Zdd,hN,List.mem_map]
     constructor
     ·rintro⟨a,ha,rfl⟩
      have ha:=List.mem_range.mp ha
      exact⟨Zz ds a i,Ja.mpr ⟨D.lt a i ha hi,a,ha,rfl⟩,rfl⟩
     ·rintro⟨x,hx,rfl⟩
      obtain⟨_,a,ha,rfl⟩:=Ja.mp hx
      exact⟨a,List.mem_range.mpr ha,rfl⟩) (Xb i)
    refine⟨l,_,rfl,.inl ⟨.of Zt,fun r nr=>?_⟩⟩
    refine k r _ (((s2.trans t1).trans t2).trans (Same.upd nr)) ?_ trivial
    rw[<-e]
    exact Zt
  ·have hD:H1 D'=some (.lst (bs.map V.ref)):=hD
   rw[rl] at wl
   have hb:∀(i:Nat) b,bs[i]?=some b->i<m/\H1 b=some (.tup ((nI (YW t.length m ds i)).map V.int)):=fun i b e=>by
    rw[Ub]
    exact⟨by rw[<-wl];exact (List.getElem?_eq_some_iff.mp e).1,(hw i b e).1⟩
   have hm:∀b∈bs,∃i,i<m/\H1 b=some (.tup ((nI (YW t.length m ds i)).map V.int)):=fun b e=>by
    obtain⟨i,hi⟩:=List.getElem?_of_mem e
    exact⟨i,hb i b hi⟩
   refine⟨_,rfl,D',bs,rfl,hD,by omega,fun b e=>(hm b e).elim fun i h=>⟨_,h.2⟩,fun p np=>?_⟩
   have MO:=PyS.Uc (Yf H1) bs
   generalize PyS.W8 (Yf H1) bs=M at MO ⊢
   have s2:=Same.upd (H:=H1) (o:=Jo w p M) np
   have h2:=Zt (H:=H1) (a:=p) (o:=Jo w p M)
   generalize upd H1 p (Jo w p M)=H2 at s2 h2 ⊢
   have hm2:∀b∈M,∃i,i<m/\H2 b=some (.tup ((nI (YW t.length m ds i)).map V.int))/\Yf H1 b=nI (YW t.length m ds i)/\Yf H2 b=nI (YW t.length m ds i):=fun b e=>by
    obtain⟨i,hi,h⟩:=hm b (MO.sub b e)
    exact⟨i,hi,s2 _ _ h,WK h,WK (s2 _ _ h)⟩
   refine⟨p,M,rfl,h2,by have:=MO.len;omega,fun b e=>?_,fun l as nl pas hso=>?_⟩
   ·obtain⟨i,hi,h,_⟩:=hm2 b e
    refine⟨_,fun z=>?_,h⟩
    have:=List.length_pos_of_mem (or_self Pt D hi)
    have z:=congrArg List.length z
    unfold nI at z
    rw[Za,List.length_nil] at z
    omega
   ·have s3:=Same.upd (H:=H2) (o:=.lst (as.map V.ref)) nl
    refine⟨l,_,rfl,.inl ⟨.of Zt,fun r nr=>?_⟩⟩
    have s4:=s3.trans (Same.upd (H:=upd H2 l (.lst (as.map V.ref))) (o:=.tup (as.map V.ref)) nr)
    have hma:∀b∈as,∃i,i<m/\H2 b=some (.tup ((nI (YW t.length m ds i)).map V.int))/\Yf H1 b=nI (YW t.length m ds i)/\Yf H2 b=nI (YW t.length m ds i):=fun b e=>hm2 b (pas.mem_iff.mp e)
    have enat:∀b∈as,nJ ((Yf H2 b).map Int.toNat)=Yf H2 b:=fun b e=>by
     obtain⟨i,_,_,_,e2⟩:=hma b e
     rw[e2]
     unfold nJ nI
     rw[List.map_map,List.map_map]
     exact List.map_congr_left fun k _=>rfl
    have eq0:(as.map fun b=>(Yf H2 b).map Int.toNat)=Xc t.length m ds m:=by
     refine Zf6 Pt D ?_ (fun r=>?_) ?_
     ·have nd:(as.map (Yf H1)).Nodup:=(pas.map _).nodup_iff.mpr MO.nd
      refine List.pairwise_map.mpr ((List.Pairwise.and_mem.mp (List.pairwise_map.mp nd)).imp fun {x y} ⟨hx,hy,hne⟩ z=>hne ?_)
      obtain⟨i,_,_,e1,e2⟩:=hma x hx
      obtain⟨j,_,_,e3,e4⟩:=hma y hy
      rw[e1,e3,<-e2,<-e4,<-enat x hx,<-enat y hy,z]
     ·rw[List.mem_map]
      constructor
      ·rintro⟨b,hb,rfl⟩
       obtain⟨i,hi,_,_,e2⟩:=hma b hb
       refine⟨i,hi,Zbo ?_⟩
       rw[enat b hb,e2]
       rfl
      ·rintro⟨i,hi,rfl⟩
       have e:bs[i]?=some (bs[i]'(by omega)):=Zf (by omega)
       obtain⟨_,h⟩:=hb i _ e
       obtain⟨c,hc,ek⟩:=MO.all _ (List.mem_of_getElem? e)
       rw[WK h] at ek
       have hc':=pas.mem_iff.mpr hc
       refine⟨c,hc',Zbo ?_⟩
       rw[enat c hc']
       obtain⟨j,_,_,e3,e4⟩:=hma c hc'
       rw[e4,<-e3,ek]
       rfl
     ·refine List.pairwise_map.mpr ((List.Pairwise.and_mem.mp (List.pairwise_map.mp hso)).imp fun {x y} ⟨hx,hy,hlt⟩=>?_)
      rw[enat x hx,enat y hy]
      exact hlt
    refine q r _ ((s1.trans s2).trans s4) ?_
    rw[<-eq0]
    refine⟨as,Zt,by rw[Za],fun i b e=>?_⟩
    have hbm:=List.mem_of_getElem? e
    obtain⟨j,_,h,_,e2⟩:=hma b hbm
    have er:(as.map fun b=>(Yf H2 b).map Int.toNat).getD i []=(Yf H2 b).map Int.toNat:=by rw[Zb,Zc,e];rfl
    rw[er]
    have:((Yf H2 b).map Int.toNat).map nV=(nI (YW t.length m ds j)).map V.int:=by
     rw[<-Ub]
     have:=enat b hbm
     show (nJ ((Yf H2 b).map Int.toNat)).map V.int=_
     rw[this,e2]
    rw[this]
    exact s4 _ _ h
end
end C27
namespace PyZ
open PySem PySem.Spec PyProof.Rows
section
variable {prog:Program}{w:World}{A:Around}{E:Value->Shared->Prop}{s:Shared}
theorem Ug:typeLookup (.type "list") "keys"=pure none:=am_miss_of_fast (by kernel_rfl)
theorem Ua {a:Addr}{xs:Array Value}{k:Nat}{sl:Array (Option Value)}{name:Str}{Q:Option Value->Shared->Prop}
  (hx:s.heap.get? a=some {cls:=.type "list",dict:=none,data:=.seq xs k,slots:=sl}) (hmiss:typeLookup (.type "list") name=pure none) (hname:(["__module__", "__name__", "__qualname__", "__doc__", "__annotations__"]:List Str).contains name=false) (hA:A.handled=none) (hsz:name.length+100<=sizeLine)
  (h:∀h' tk,(∀b ob,s.heap.get? b=some ob->h'.get? b=some ob)->Q none {s with heap:=h',toks:=tk}):wpAny (model prog w) A (getAttr? (.ref a) name) Q E s:=by
 obtain⟨hp,g,d,tk,os⟩:=s
 have hT:∀tk',(⟨hp,g,d,tk',os⟩:Shared).TypeIs (.ref a) "list":=fun _=>⟨_,hx,rfl⟩
 have f1:=sub_AttributeError
 have f3:=F.slot_list_getattribute.lookup
 have f4:=F.slot_list_getattribute.bind (.ref a)
 have f5:=am_list_getattr_none
 unfold getAttr? getAttrBy? getAttrBy
 repeat (any_goals (first|assumption|exact hT _|((with_reducible show wpAny _ _ (call (Value.builtin "list.__getattribute__") _ _) _ _ _);refine call_meets F.slot_list_getattribute (hT _) am_entry_list_getattribute (F.args_list_getattribute_2 _ _) (meets_getattribute_miss_list a xs k sl name _ hmiss hname hsz) ⟨hx,hA,fun h' tk' e hx'=>?_⟩)|wp_step))
 obtain⟨t',u',he⟩:=hx'.there
 show wpAny _ _ (getattributeRaised _ _ _ _ _ _ _) _ _ _
 unfold getattributeRaised
 repeat (any_goals (first|assumption|wp_step))
 exact h _ _ hx'.keeps
end
theorem WD:entryFor table "dict.update.loop"=some Builtin.«dict.update.loop»:=entryFor_of_tree (by kernel_rfl)
section
variable {prog:Program}{w:World}{A:Around}{E:Value->Shared->Prop}{K:Type} [DecidableEq K]{knd:KeyKind prog w K}
theorem XA {h0:Heap}{d it l:Addr}{items:Array Value}{ps:List (K×Value)}{R:Result->Shared->Prop}(hh:A.handled=none)(hdi:d≠it)(hli:l≠it)(hld:l≠d)
  (hps:∀(i:Nat) k v,ps[i]?=some (k,v)->∃(ti:Addr) (key:Value) (o:Obj) (n:Nat),items[i]?=some (.ref ti)/\ti≠d/\ti≠it/\h0.get? ti=some o/\o.cls=.type "tuple"/\o.data=.seq #[key,v] n/\knd.is k key=true) (hsz:items.size=ps.length) (hl0:h0.IsList l items) :
  ∀(m i:Nat) (s:Shared) (kvs:List (K×Value)),i+m=ps.length->s.heap.DictOf knd d kvs->kvs.length+m<=sizeLine->s.heap.IsListIter it l i->(∀b ob,b≠d->b≠it->h0.get? b=some ob->s.heap.get? b=some ob)->
   (∀h' tk,h'.DictOf knd d (merged kvs (ps.drop i))->(∀b ob,b≠d->b≠it->h0.get? b=some ob->h'.get? b=some ob)->R (.ok (.ret .none)) {s with heap:=h',toks:=tk})->
   codeAny (model prog w) A (.builtin "dict.update.loop" ⟨[.ref d,.ref it,.int i 0,.none],[]⟩) R s
 |0,i,s,kvs,hm,hD,hz,hit,hk,q=>by
  obtain⟨ol,hol,hoc,hod⟩:=hl0
  have hL:s.heap.IsList l items:=⟨ol,hk _ _ hld hli hol,hoc,hod⟩
  refine codeAny_builtin WD ?_
  unfold Builtin.«dict.update.loop»
  refine Zl (wpAny_pyNext_list_end hh hit hL (Array.getElem?_eq_none (by omega)) fun h' hx=>?_)
  have e:ps.drop i=[]:=List.drop_eq_nil_of_le (by omega)
  rw[e] at q
  refine Zl (Zm (Zm ?_))
  exact q h' s.toks (hD.extBut hx hdi) fun b ob n1 n2 e=>hx b ob n2 (hk b ob n1 n2 e)
 |m+1,i,s,kvs,hm,hD,hz,hit,hk,q=>by
  obtain⟨ol,hol,hoc,hod⟩:=id hl0
  have hL:s.heap.IsList l items:=⟨ol,hk _ _ hld hli hol,hoc,hod⟩
  have hip:i<ps.length:=by omega
  obtain⟨⟨k,v⟩,hkv⟩:∃p,ps[i]?=some p:=⟨_,Zf hip⟩
  obtain⟨ti,key,o,n,e1,e2,e3,e4,e5,e6,e7⟩:=hps i k v hkv
  refine codeAny_builtin WD ?_
  unfold Builtin.«dict.update.loop»
  refine Zl (wpAny_pyNext_list_item hit hL e1 fun h1 hit1 sb1=>?_)
  have g1:h1.get? ti=some o:=(sb1.2 ti e3).trans (hk _ _ e2 e3 e4)
  refine Zl (wpAny_holding ?_)
  refine Zl (wpAny_tryCatch ?_)
  unfold Builtin.Dict.pairItems
  refine Zl (wpAny_typeOf (T:="tuple") ⟨o,g1,e5⟩ ?_)
  rw[if_pos (by decide)]
  refine Zl (wpAny_seqItems g1 e6 ?_)
  refine Zm ?_
  show wpAny _ _ (holding [key,v] (dictSet d key v)) _ _ _
  refine wpAny_holding (wpAny_dictSet_pairs e7 (hD.sameBut sb1 hdi) (fun h2 hD2 sb2=>?_) (by omega))
  refine Zm ⟨Code.quiet_builtin _ (by decide +kernel),?_⟩
  have hit2:h2.IsListIter it l (i+1):=by
   obtain⟨oi,hoi,r⟩:=hit1
   exact⟨oi,(sb2.2 it hdi.symm).trans hoi,r⟩
  have ei:rawInt ((i:Int)+1)=Value.int ((i+1:Nat):Int) 0:=rfl
  show codeAny _ _ (.builtin "dict.update.loop" ⟨[.ref d,.ref it,.int ((i+1:Nat):Int) 0,.none],[]⟩) _ _
  have ln:(stored kvs k v).length<=kvs.length+1:=by
   unfold stored
   split
   ·rw[Za];omega
   ·rw[Zd];exact Zq _
  refine XA hh hdi hli hld hps hsz hl0 m (i+1) _ (stored kvs k v) (by omega) hD2 (by omega) hit2 (fun b ob n1 n2 e=>(sb2.2 b n1).trans ((sb1.2 b n2).trans (hk b ob n1 n2 e))) fun h' tk hD' hk'=>?_
  refine q h' tk ?_ hk'
  have ed:ps.drop i=(k,v)::ps.drop (i+1):=by
   have e:=List.drop_eq_getElem_cons hip
   rw[Zf hip] at hkv
   rw[e,Option.some.inj hkv]
  rw[ed]
  exact hD'
end
section
variable {prog:Program}{w:World}{A:Around}{E:Value->Shared->Prop}{s:Shared}{K:Type} [DecidableEq K]{knd:KeyKind prog w K}
theorem X2 {l:Addr}{items:Array Value}{n:Nat}{sl:Array (Option Value)}{ps:List (K×Value)}{Q:Value->Shared->Prop}(hh:A.handled=none)(hx:s.heap.get? l=some {cls:=.type "list",dict:=none,data:=.seq items n,slots:=sl})
  (hps:∀(i:Nat) k v,ps[i]?=some (k,v)->∃(ti:Addr) (key:Value) (o:Obj) (n:Nat),items[i]?=some (.ref ti)/\s.heap.get? ti=some o/\o.cls=.type "tuple"/\o.data=.seq #[key,v] n/\knd.is k key=true) (hsz:items.size=ps.length) (hz:ps.length<=sizeLine)
  (h:∀h' tk,h'.DictOf knd s.heap.objs.size (merged [] ps)->(∀b ob,s.heap.get? b=some ob->h'.get? b=some ob)->Q (.ref s.heap.objs.size) {s with heap:=h',toks:=tk}) :
  wpAny (model prog w) A (call (.type "dict") [.ref l]) Q E s:=by
 refine callType_codes (Q₁:=fun obj s₁=>obj=.ref s.heap.objs.size/\s₁={s with heap:=s.heap.push {cls:=.type "dict",data:=.dict #[]}}) F.kt_called_dict (F.kt_typeCall_dict_1 _) F.entry_dict_init (kt_code_dict_new _ ⟨rfl,rfl⟩) ?_
 rintro obj s₁ ⟨rfl,rfl⟩
 have hnew:(s.heap.push {cls:=.type "dict",data:=.dict #[]}).DictOf knd s.heap.objs.size []:=Heap.DictOf.new s.heap
 have hx':(s.heap.push {cls:=.type "dict",data:=.dict #[]}).get? l=some {cls:=.type "list",dict:=none,data:=.seq items n,slots:=sl}:=Zn _ hx
 refine⟨hnew.typeIs,F.args_dict_init_2 _ _,?_⟩
 unfold Builtin.«dict.__init__»
 refine Zl ?_
 unfold Builtin.Dict.selfAndRest
 refine Zl (wpAny_notOrdered_dict hnew.typeIs ?_)
 show wpAny _ _ (pure (s.heap.objs.size,[Value.ref l])) _ _ _
 refine Zm ?_
 show wpAny _ _ (Builtin.Dict.updateFrom "dict.__init__" s.heap.objs.size (.ref l) [] .none) _ _ _
 unfold Builtin.Dict.updateFrom
 refine Zl (wpAny_typeOf (T:="list") ⟨_,hx',rfl⟩ ?_)
 rw[if_pos (by decide)]
 refine Zl (Ua hx' Ug (by decide +kernel) hh (by decide +kernel) fun h1 tk1 k1=>?_)
 rw[if_pos (by rfl)]
 refine Zl (wpAny_rule ?_)
 have hL1:h1.IsList l items:=⟨_,k1 _ _ hx',rfl,n,rfl⟩
 refine Zl (wpAny_pyIter_list hL1 ?_)
 have kp:∀b ob,h1.get? b=some ob->(h1.push {cls:=.type "list_iterator",data:=.fields #[.ref l,.int 0 0]}).get? b=some ob:=fun b ob e=>Zn _ e
 have old:∀b ob,s.heap.get? b=some ob->h1.get? b=some ob:=fun b ob e=>k1 b ob (Zn _ e)
 have lts:∀{b ob},s.heap.get? b=some ob->b≠s.heap.objs.size:=fun {b ob} e=>Nat.ne_of_lt (Zp e)
 have hd1:h1.DictOf knd s.heap.objs.size []:=by
  obtain⟨o,es,ep,ho,r⟩:=hnew
  exact⟨o,es,ep,k1 _ _ ho,r⟩
 have dit:s.heap.objs.size≠h1.objs.size:=by
  obtain⟨o,es,ep,ho,r⟩:=hd1
  exact Nat.ne_of_lt (Zp ho)
 have lit:∀{b ob},s.heap.get? b=some ob->b≠h1.objs.size:=fun {b ob} e=>Nat.ne_of_lt (Zp (old _ _ e))
 refine Zm ⟨Code.quiet_builtin _ (by decide +kernel),?_⟩
 refine XA (A:=A.in1) (knd:=knd) (h0:=s.heap) (ps:=ps) hh dit (lit hx) (lts hx) (fun i k v e=>?_) hsz ⟨_,hx,rfl,n,rfl⟩ ps.length 0 {s with heap:=h1.push {cls:=.type "list_iterator",data:=.fields #[.ref l,.int 0 0]},toks:=tk1} [] (by omega) (hd1.push _) (by rw[List.length_nil];omega) ⟨_,Zo _ rfl,rfl,rfl⟩ (fun b ob n1 n2 e=>kp _ _ (old _ _ e)) fun h' tk hD' hk'=>?_
 ·obtain⟨ti,key,o,n,e1,e2,e3,e4,e5⟩:=hps i k v e
  exact⟨ti,key,o,n,e1,lts e2,lit e2,e2,e3,e4,e5⟩
 ·exact⟨rfl,h h' tk hD' fun b ob e=>hk' b ob (lts e) (lit e) e⟩
end
end PyZ
namespace L2
open PySem PySem.Spec PyProof.Rows
theorem UI:∀{bs:List Addr}{its:List Value},ZB (bs.map V.ref) its->its=bs.map Value.ref
 | [],_,.nil=>rfl
 |b::bs,_,.cons r1 r=>by rw[UI r,(show _=Value.ref b from r1)];rfl
section
variable {X:Cx}{pins:List (Addr×Obj)}{σ:L2.St}{H:Hp}{s:Shared}
theorem Xz (I:Inv X pins σ H s):∀(bs:List Addr) (ps:List (ZT×V)),bs.length=ps.length->(∀(i:Nat) b,bs[i]?=some b->∃k v,ps[i]?=some (k,v)/\H b=some (.tup [kV k,v]))->
  ∃ws:List (ZT×Value),KV ps ws/\∀(i:Nat) k u,ws[i]?=some (k,u)->∃(b:Addr) (key:Value) (o:Obj) (n:Nat),bs[i]?=some b/\s.heap.get? b=some o/\o.cls=.type "tuple"/\o.data=.seq #[key,u] n/\(ZS X.prog X.w).is k key=true
 | [],[],_,_=>⟨[],.nil,fun i k u h=>by cases h⟩
 | [],_::_,h,_=>by cases h
 |_::_,[],h,_=>by cases h
 |b::bs,(k,v)::ps,hl,hp=>by
  obtain⟨ws,kv,hw⟩:=Xz I bs ps (Nat.succ.inj hl) fun i b' hb=>hp (i+1) b' hb
  obtain⟨k',v',e,hb⟩:=hp 0 b rfl
  cases e
  obtain⟨its,r,⟨o,ho,hc,n,hd⟩,_⟩:=I.tuple (Wp.of hb)
  cases r with
  |cons r1 r=>
   cases r with
   |cons r2 r=>
    cases r
    rename_i key u
    refine⟨(k,u)::ws,.cons ⟨rfl,r2⟩ kv,fun i k' u' h=>?_⟩
    cases i with
    |zero=>
     cases h
     exact⟨b,key,o,n,rfl,ho,hc,hd,Vr r1⟩
    |succ i=>exact hw i k' u' h
theorem ZbG (hc:X.calm=true):ZW X (.type "dict") (fun xs H Q=>∃(a:Addr) (bs:List Addr) (ps:List (ZT×V)),xs=[.ref a]/\H a=some (.lst (bs.map V.ref))/\bs.length=ps.length/\(∀(i:Nat) b,bs[i]?=some b->∃k v,ps[i]?=some (k,v)/\H b=some (.tup [kV k,v]))/\∀d,H d=none->Q (.ref d) (upd H d (.dK (ZU [] ps)))):=by
 intro pins s σ H xs us Q I r h
 obtain⟨a,bs,ps,rfl,ha,hl,hp,q⟩:=h
 obtain⟨u,rfl,ru⟩:=vals1 r
 cases ru
 obtain⟨z,its,n,rv,el,e⟩:=I.lstM ha
 obtain⟨ws,kv,hw⟩:=Xz I bs ps hl hp
 have lw:ps.length=ws.length:=kv.length
 rw[Za] at z el
 have hit:∀(i:Nat) b,bs[i]?=some b->its[i]?=some (.ref b):=fun i b hb=>by
  rw[UI rv,Zc,hb]
  rfl
 refine PyZ.X2 (knd:=ZS X.prog X.w) (ps:=ws) (I.ok.hd hc) e (fun i k u hk=>?_) (by rw[Zh];omega) (by omega) fun h' tk hD kp=>?_
 ·obtain⟨b,key,o,n',e1,e2,e3,e4,e5⟩:=hw i k u hk
  exact⟨b,key,o,n',by rw[List.getElem?_toArray];exact hit i b e1,e2,e3,e4,e5⟩
 ·refine⟨.ref s.heap.objs.size,_,I.laid (t':=tk) kp (Zq _) (Us ?_ ?_ (KV.merge kv .nil) hD),rfl,q _ (I.hok.fresh (Zq _))⟩
  ·have:=Yn ps []
   rw[List.length_nil] at this
   omega
  ·exact beq_eq_false_iff_ne.mpr (Ne.symm (Nat.ne_of_lt I.big))
end
end L2
namespace C27
open PySem L2 PySem.Spec PyProof.Rows
open Tb Pm
theorem Zcb {X:Cx}(K:PySem.W.Frag){k:Nat}(hr:Wm k X.A)(hK:X.K=K:=by rfl):ZW X (.builtin "repr") (fun xs H Q=>∃x d,xs=[x]/\Xj K H x d/\ZdG d/\Q (.str d.shown) H):=hK▸ZdC hr
theorem ZdY {K:PySem.W.Frag}{H H':Hp}{p x:Addr}{b:Nat}{xs:List V}(T:ZV H p b)(d:Tk p H H')(h:Wb K H x xs):Wb K H' x xs:=by
 rcases h with (h|⟨o,h⟩)|h
 ·exact .inl (.inl (d.lst T h))
 ·exact .inl (.inr ⟨o,d _ _ h (T.ne h fun _ z=>by cases z)⟩)
 ·exact .inr h
theorem Zd8 {H:Hp}{a:Addr}{o:HO}(e:H a=some o):Same (upd (fun _=>none) a o) H:=by
 intro b o' h
 by_cases hb:b=a
 ·subst hb
  rw[Zt] at h
  rw[e]
  exact h
 ·rw[Zw hb] at h
  cases h
theorem Mw.sql {K:PySem.W.Frag}{p L x:Addr}{H0 H H':Hp}{b:Nat}{xs:List V}(T:ZV H p b)(nL:H0 L=none)(s:Same H0 H)(d:Mw p L H H')(h:Wb K H0 x xs):Wb K H' x xs:=by
 rcases h with (h|⟨o,h⟩)|h
 ·have h1:=s _ _ h
  exact .inl (.inl (d _ _ h1 (T.ne h1 fun _ z=>by cases z) fun z=>by rw[z,nL] at h;cases h))
 ·have h1:=s _ _ h
  exact .inl (.inr ⟨o,d _ _ h1 (T.ne h1 fun _ z=>by cases z) fun z=>by rw[z,nL] at h;cases h⟩)
 ·exact .inr h
theorem Mw.tup {p L r:Addr}{H H':Hp}{b:Nat}{xs ys:List V}(T:ZV H p b)(hL:H L=some (.lst xs))(d:Mw p L H H')(h:H r=some (.tup ys)):H' r=some (.tup ys):=d r _ h (T.ne h fun _ z=>by cases z) fun z=>by rw[z,hL] at h;cases h
theorem Mw.gt {p L g:Addr}{H H':Hp}{b:Nat}{xs:List V}{t:List (List Nat)}(T:ZV H p b)(hL:H L=some (.lst xs))(d:Mw p L H H')(h:GT H g t):GT H' g t:=by
 obtain⟨rs,h1,h2,h3⟩:=h
 refine⟨rs,Mw.tup T hL d h1,h2,fun i r hr=>?_⟩
 obtain⟨o,e1,e2⟩:=h3 i r hr
 exact⟨o,d r _ e1 (T.ne e1 fun _ z=>by cases z) (fun z=>by rw[z,hL] at e1;cases e1),e2⟩
theorem Mw.tups {p L M:Addr}{H H':Hp}{b:Nat}{xs:List V}{bs:List Addr}{yss:List (List Nat)}(T:ZV H p b)(hL:H L=some (.lst xs))(ne:M≠L)(d:Mw p L H H')(h:TupsAt H M bs yss):TupsAt H' M bs yss:=
 ⟨d M _ h.1 (T.ne h.1 fun _ z=>by cases z) ne,h.2.1,fun i b hb=>Mw.tup T hL d (h.2.2 i b hb)⟩
def LTI (H:Hp)(L:Addr)(us:List Addr)(xss:List (List Int)):Prop:=H L=some (.lst (us.map V.ref))/\us.length=xss.length/\∀(i:Nat) b,us[i]?=some b->H b=some (.tup ((xss.getD i []).map V.int))
theorem LTI.mono {H H':Hp}{L:Addr}{us:List Addr}{xss:List (List Int)}(s:Same H H')(h:LTI H L us xss):LTI H' L us xss:=⟨s _ _ h.1,h.2.1,fun i b hb=>s _ _ (h.2.2 i b hb)⟩
theorem LTI.tk {H H':Hp}{p L:Addr}{b:Nat}{us:List Addr}{xss:List (List Int)}(T:ZV H p b)(s:Tk p H H')(h:LTI H L us xss):LTI H' L us xss:=⟨s.lst T h.1,h.2.1,fun i b hb=>s.tup T (h.2.2 i b hb)⟩
theorem LTI.push {H:Hp}{L b:Addr}{us:List Addr}{xss:List (List Int)}{ys:List Int}(h:LTI H L us xss)(hb:H b=some (.tup (ys.map V.int))):LTI (upd H L (.lst (us.map V.ref++[.ref b]))) L (us++[b]) (xss++[ys]):=by
 have neL:∀{c:Addr}{zs:List V},H c=some (.tup zs)->c≠L:=fun {c zs} e z=>by rw[z,h.1] at e;cases e
 refine⟨by rw[Zt,List.map_append];rfl,by rw[Zd,Zd,h.2.1];rfl,fun i c hc=>?_⟩
 have hl:=h.2.1
 by_cases hi:i<us.length
 ·rw[List.getElem?_append_left hi] at hc
  have e:=h.2.2 i c hc
  have er:(xss++[ys]).getD i []=xss.getD i []:=by rw[Zb,List.getElem?_append_left (by omega),Zb]
  rw[er,Zw (neL e)]
  exact e
 ·rw[List.getElem?_append_right (by omega)] at hc
  have hi0:i-us.length=0:=by
   apply Classical.byContradiction
   intro z
   rw[List.getElem?_eq_none (by rw[Zk];omega)] at hc
   cases hc
  rw[hi0] at hc
  cases hc
  have er:(xss++[ys]).getD i []=ys:=by rw[Zb,List.getElem?_append_right (by omega),show i-xss.length=0 by omega];rfl
  rw[er,Zw (neL hb)]
  exact hb
def dTI (xss:List (List Int)):PyData:=.tuple (xss.map fun xs=>PyData.tuple (xs.map PyData.int))
theorem Zel {K:PySem.W.Frag}{H:Hp}:∀(rs:List Addr) (xss:List (List Int)),rs.length=xss.length->(∀(i:Nat) b,rs[i]?=some b->H b=some (.tup ((xss.getD i []).map V.int)))->YF K H (rs.map V.ref) (xss.map fun xs=>PyData.tuple (xs.map PyData.int))
 | [],[],_,_=>.nil
 | [],_::_,h,_=>by cases h
 |_::_,[],h,_=>by cases h
 |b::bs,y::yss,h,g=>.cons (.tup (.of (g 0 b rfl)) (YF.ints _)) (Zel bs yss (Nat.succ.inj h) fun j c hc=>g (j+1) c hc)
theorem TTI.rd {K:PySem.W.Frag}{H:Hp}{r:Addr}{xss:List (List Int)}(h:TTI H r xss):Xj K H (.ref r) (dTI xss):=by
 obtain⟨rs,h1,h2,h3⟩:=h
 exact .tup (.of h1) (Zel rs xss h2 h3)
theorem Zgw {xss:List (List Int)}(hl:xss.length<=60)(h:∀xs∈xss,xs.length<=60/\∀k∈xs,k.natAbs<2 ^ 200):ZdG (dTI xss):=by
 have:=Sml.tup (k:=1) (b:=60) (n:=60) (ds:=xss.map fun xs=>PyData.tuple (xs.map PyData.int)) (by rw[Za];exact hl) fun d hd=>by
  obtain⟨xs,hx,rfl⟩:=List.mem_map.mp hd
  obtain⟨h1,h2⟩:=h xs hx
  have:=Sml.tup (k:=0) (b:=0) (n:=60) (ds:=xs.map PyData.int) (by rw[Za];exact h1) fun d hd=>by
   obtain⟨k,hk,rfl⟩:=List.mem_map.mp hd
   obtain⟨q1,_,_,q4,_,_⟩:=Wr (ns:=[k]) (fun n hn=>by rw[List.mem_singleton.mp hn];exact h2 k hk)
   simp only[List.map_cons,List.map_nil,PyData.showableAll,PyData.leavesShortAll,Bool.and_true] at q1 q4
   exact⟨q1,rfl,Nat.zero_le _,q4,Nat.zero_le _⟩
  exact this
 exact this.fit (by decide) (by decide)
theorem Zao:∀(ls:List Nat) {kvs:List (ZT×V)}{ks:List Nat},KS kvs ks->∃ks',KS (ZU kvs (ls.map fun a:Nat=>((Sum.inl (a:Int):ZT),V.bl true))) ks'/\∀b,b∈ks'↔b∈ks\/b∈ls
 | [],kvs,ks,h=>⟨ks,h,fun b=>by simp⟩
 |a::r,kvs,ks,h=>by
  obtain⟨ks',h1,h2⟩:=Zao r (h.put a (.bl true))
  refine⟨ks',h1,fun b=>?_⟩
  rw[h2 b,Xa,List.mem_cons]
  constructor
  ·rintro ((h|h)|h)
   ·exact .inl h
   ·exact .inr (.inl h)
   ·exact .inr (.inr h)
  ·rintro (h|h|h)
   ·exact .inl (.inl h)
   ·exact .inl (.inr h)
   ·exact .inr h
theorem ZiB (yss:List (List Nat))(o:List Nat):((yss.map dT).any fun y=>y.eqv (dT o))=yss.contains o:=by
 rw[List.any_map,List.contains_eq_any_beq]
 congr 1
 funext a
 show PyData.eqv (dT a) (dT o)=(o == a)
 unfold dT
 rw[Zfe]
 by_cases h:a=o
 ·subst h;simp
 ·rw[decide_eq_false h]
  exact (beq_eq_false_iff_ne.mpr (Ne.symm h)).symm
def ZbX (K:PySem.W.Frag):Sp:=fun vs H Q _=>∃(a:Addr) (ns:List Int),vs=[.ref a]/\Wb K H a (ns.map V.int)/\ns.length<=63/\∀H',Q (.bl true) H'
section
variable {P:Program}{w:World}{K:PySem.W.Frag}{mg:Str->Option Value}{base:Heap}
theorem ZhX {f:Addr}{fd:FuncData}(F:WB K "law" "law" Zjc f fd)(T:Bl mg)(T2:ZaS mg)(TD:mg "dict"=none)(GT0:Fn P w K mg base Yc 1 "_law_tape" ["_law_script", "_law_at"] (ZdZ K))(GK:Fn P w K mg base Yc 1 "_law_pick" ["_law_tape_here", "_law_many"] JG)(GG:Fn P w K mg base Yc 3 "_law_group" ["_law_tape_here", "_law_great"] ZbY)
  (GRo:Fn P w K mg base Yc 2 "_law_round" ["_law_group_here"] UQ) (GDl:Fn P w K mg base Yc 4 "_law_deed" ["_law_tape_here", "_law_group_here", "_law_most"] (ZbZ K)) (GLc:Fn P w K mg base Yc 3 "_law_classes" ["_law_group_here"] Zd4) (GPl:Fn P w K mg base Yc 2 "_law_places" ["_law_n"] N27.ZbW)
  (GTr:Fn P w K mg base Yc 5 "traces" ["group", "deed"] UO) (GPi:Fn P w K mg base Yc 1 "pieces" ["group", "deed"] UT) :
  Z1 P w K mg base Yc 6 f fd ["_law_script"] (ZbX K):=by
 refine F.ok (FS (N:=["_law_script", "_law_k", "_law_tape_here", "_law_group_here", "_law_n", "_law_deed_here", "_law_due", "_law_row", "_law_perm", "_law_left", "_law_rows", "_law_place"])) (fun vs H Q E h=>?_) (fun cdv A outer s H vs Q E hr h=>?_)
 ·obtain⟨a,ns,rfl,_⟩:=h;rfl
 ·obtain⟨a,ns,rfl,hS,hlen,q⟩:=h
  refine⟨_,Zu (Yi PassesOwn.never rfl (Wt T.range (pc (ZC YD Zx (cb (Yj K) T.len (pc (Xy VO (vn 0) V2 (V1 Zx)) Zs))) Zs)) (gn 1)
   (Zu (ZH 2 rfl (Y3 GT0 hr ZE (pc (vn 0) (pc (vn 1) Zs))))
   (Zu (ZH 3 rfl (Y3 GG hr ZE (pc (vn 2) (pc (Zf1 Zev (vn 1) Zx (ZR _)) Zs))))
   (Zu (ZH 4 rfl (Y3 GRo hr ZE (pc (vn 3) Zs)))
   (Zu (ZH 5 rfl (Y3 GDl hr ZE (pc (vn 2) (pc (vn 3) (pc Zx Zs)))))
   (Zu (ZH 6 rfl (Ys Zs))
   (Zu (Yi PassesOwn.never rfl (itL K (Y3 GLc hr ZE (pc (vn 3) Zs))) (gn 7)
   (Zu (ZH 8 rfl (ZF (WF K) (vn 5) (ZF (WF K) (vn 7) (Y3 GK hr ZE (pc (vn 2) (pc (cb (Yj K) T.len (pc (vn 7) Zs)) Zs))) (fun _ _=>rfl)) (fun _ _=>rfl)))
   (Zu (ZH 9 rfl (cb (Yj K) T.len (pc (cmp ["_law_place"] [8] ["_law_place", "_law_perm"] rfl (Wt T.range (pc (cb (Yj K) T.len (pc (vn 8) Zs)) Zs)) (fun _ _ _ _ _=>gn 0) (fun _ _ _ _ _=>V3 (ZI Vk (ZF (WF K) (vn 1) (vn 0) (fun _ _=>rfl)) (vn 0) (ZR _))) (fun _ _ _ _ _=>vn 0)) Zs)))
   (Zv (Yq (Wg PySem.F.plainAttrs_list PySem.F.slot_list_append PySem.F.type_list_append ZX (vn 6) (pc (ZC V8 (JJ (pc (vn 9) Zs)) (ZC Zch (JJ (pc Zx Zs)) (ZC V7 (Y3 GPl hr ZE (pc (vn 4) Zs)) Zx))) Zs)))))))
   (Zu (YR (ZI Zac (cb (Zcb K hr) T.repr (pc (Y3 GTr hr ZE (pc (vn 3) (pc (vn 5) Zs))) Zs)) (cb (Zcb K hr) T.repr (pc (ct (tupK K) T.tuple (pc (vn 6) Zs)) Zs)) (ZR _)) (Zv (ZD JW)) Z4)
   (Zu (ZH 10 rfl (Ys Zs))
   (Zu (Yi PassesOwn.never rfl (Wt T.range (pc (cb (Yj K) T.len (pc (ZF (WF K) (vn 5) Zx (fun _ _=>rfl)) Zs)) Zs)) (gnf 11 rfl)
   (Zu (ZH 7 rfl (ct (ZbG rfl) TD (pc (cmp ["_law_perm"] [11] ["_law_perm", "_law_place"] rfl (itT K (vn 5)) (fun _ _ _ _ _=>gn 0) (fun _ _ _ _ _=>ZQ) (fun _ _ _ _ _=>JJ (pc (ZF (WF K) (vn 0) (vn 1) (fun _ _=>rfl)) (pc JW Zs)))) Zs)))
   (Zv (YR (ZI (ZeJ K hr.units) (ct (tupK K) T.tuple (pc (cb (WA rfl) T2.sorted (pc (vn 7) Zs)) Zs)) (vn 10) (by rfl)) (Zv (Yq (Wg PySem.F.plainAttrs_list PySem.F.slot_list_append PySem.F.type_list_append ZX (vn 10) (pc (ct (tupK K) T.tuple (pc (cb (WA rfl) T2.sorted (pc (vn 7) Zs)) Zs)) Zs)))) Z4))))
   (Zv (YR (ZI Zac (cb (Zcb K hr) T.repr (pc (Y3 GPi hr ZE (pc (vn 3) (pc (vn 5) Zs))) Zs)) (cb (Zcb K hr) T.repr (pc (ct (tupK K) T.tuple (pc (vn 10) Zs)) Zs)) (ZR _)) (Zv (ZD JW)) Z4))))))))))))
   (Zv (ZD JW)),?_⟩
  have sz:(16777216:Nat)=sizeLine:=by decide
  refine⟨_,rfl,_,rfl,a,_,rfl,hS,fun l0 nl0=>⟨l0,_,rfl,.inl (.of Zt),_,_,rfl,rfl,_,rfl,?_,?_,?_⟩⟩
  ·omega
  ·have:=J1 (ns.map V.int) none (some 4)
   rw[Za] at this
   omega
  have s0:=Same.upd (H:=H) (o:=.lst (Ut (ns.map V.int) none (some 4))) nl0
  refine Z8 (fun i σ' H'=>∃v1 v2 v3 v4 v5 v6 v7 v8 v9 v10 v11:Option V,σ'=[some (.ref a),v1,v2,v3,v4,v5,v6,v7,v8,v9,v10,v11]/\Wb K H' a (ns.map V.int)) ⟨_,_,_,_,_,_,_,_,_,_,_,rfl,s0.seq hS⟩ ?_ (fun σ' H1 _=>q H1)
  rintro i σ' H1 hi ⟨v1,v2,v3,v4,v5,v6,v7,v8,v9,v10,v11,rfl,hS1⟩
  rw[show (0:Int)+(i:Int)=(i:Int) by omega]
  refine⟨_,rfl,_,rfl,a,ns,i,rfl,hS1,hlen,fun p H2 s2 np T2'=>?_⟩
  have hS2:=s2.seq hS1
  refine⟨_,rfl,_,rfl,_,_,rfl,rfl,p,0,_,rfl,T2',by decide,fun g t H3 k3 T3 G3 Pt n24=>?_⟩
  have hS3:=ZdY T2' k3 hS2
  have n1:=Pt.n1
  have n60:=Pt.n60
  refine⟨_,rfl,g,t,rfl,G3,Pt,fun n H4 s4 nn1 nn60 ndv nmn=>?_⟩
  have T4:=T3.mono s4
  have G4:=G3.mono s4
  refine⟨_,rfl,_,rfl,p,g,_,24,t,rfl,T4,by omega,G4,Pt,n24,by decide,by decide,fun d ds m H5 k5 T5 hd5 D m24=>?_⟩
  have G5:=GT.tk T4 k5 G4
  have hS5:=ZdY T4 k5 (s4.seq hS3)
  refine⟨(by show 0<=sizeLine;decide),fun Du nDu=>?_⟩
  have s6:=Same.upd (H:=H5) (o:=.lst []) nDu
  have hDu6:=Zt (H:=H5) (a:=Du) (o:=.lst [])
  generalize upd H5 Du (.lst [])=H6 at s6 hDu6 ⊢
  refine⟨_,rfl,g,t,rfl,G5.mono s6,Pt,fun Lc cs H7 nLc s7 hc7=>?_⟩
  have nLD:Lc≠Du:=fun z=>by rw[z,hDu6] at nLc;cases nLc
  have s57:=s6.trans s7
  have T7:=T5.mono s57
  have G7:=G5.mono s57
  have hd7:=hd5.mono s57
  have hDu7:=s7 _ _ hDu6
  have cl:=WS (t:=t) t.length
  obtain⟨_,_,ephi,phi1,phi60⟩:=N27.V9 nn1 nn60
  refine⟨Lc,rfl,⟨_,.of hc7.1⟩,?_⟩
  have csl:(cs.map V.ref).length=(ZK t t.length).length:=by rw[Za,hc7.2.1]
  refine Ju (H0:=upd (fun _=>none) Lc (.lst (cs.map V.ref))) (Y4 (K:=K) (.of Zt)) (fun e τ HH=>∃(us:List Addr) (w7 w8 w9:Option V),τ=[some (.ref a),some (.int (i:Nat)),some (.ref p),some (.ref g),some (.int (n:Nat)),some (.ref d),some (.ref Du),w7,w8,w9,v10,v11]/\Mw p Du H7 HH/\ZV HH p (150+e)/\LTI HH Du us (((ZK t t.length).map fun c=>whI n (Yy m ds (c.getD 0 0)).length).take e))
   ⟨[],_,_,_,rfl,fun b o e _ _=>e,T7.le (by omega),hDu7,rfl,fun i b h=>by cases h⟩ (fun e τ HH h=>by
    obtain⟨_,_,_,_,_,mw,_⟩:=h
    exact Zd8 (mw Lc _ hc7.1 (T7.ne hc7.1 fun _ z=>by cases z) nLD)) ?_ ?_
  ·rintro e yv τ H8 hy ⟨us,w7,w8,w9,rfl,mw,T8,U8⟩
   have hd8:=Mw.ct T7 hDu7 mw hd7
   have hc8:=Mw.tups T7 hDu7 nLD mw hc7
   obtain⟨c,rfl,he,hcr⟩:=hc8.ref hy
   obtain⟨x,hx,ex⟩:=Xi Pt t.length (Zq _) _ (List.mem_of_getElem? (gD he))
   have hxr:∀z∈(ZK t t.length).getD e [],z<t.length/\(Yy m ds z).length=(Yy m ds (((ZK t t.length).getD e []).getD 0 0)).length:=fun z hz=>by
    rw[ex] at hz ⊢
    have h0:0<(YK t x).length:=List.length_pos_of_mem (Jy Pt hx)
    refine⟨ZbB hz,?_⟩
    rw[ZaB Pt D hx hz,ZaB Pt D hx (List.mem_of_getElem? (gN h0))]
   have hlen0:0<((ZK t t.length).getD e []).length:=by rw[ex];exact List.length_pos_of_mem (Jy Pt hx)
   have hlen60:((ZK t t.length).getD e []).length<=60:=by rw[ex];have:=ZcG (t:=t) x;omega
   have cln:(((ZK t t.length).getD e []).map nV).length=((ZK t t.length).getD e []).length:=List.length_map ..
   refine⟨_,rfl,_,rfl,_,rfl,_,rfl,c,_,rfl,.inr (.of hcr),p,_,_,rfl,T8,by omega,by rw[cln];omega,by rw[cln];omega,fun r9 H9 a0 a1 k9 T9=>?_⟩
   rw[cln] at a1
   obtain⟨z,rfl⟩:=Int.eq_ofNat_of_zero_le a0
   have hz:z<((ZK t t.length).getD e []).length:=by omega
   have hcr9:=k9.tup T8 hcr
   have hd9:=CT.tk T8 k9 hd8
   obtain⟨yl,yf⟩:=hxr _ (List.mem_of_getElem? (gN hz))
   obtain⟨dr,pm,d1,d2,d3,d4⟩:=CT.at hd9 (a:=((ZK t t.length).getD e []).getD z 0) (by rw[D.len];exact yl)
   refine⟨c,_,_,_,rfl,rfl,.of hcr9,Zag (l:=(ZK t t.length).getD e []) hz,d,_,_,_,rfl,rfl,.of d1,d3,?_⟩
   have U9:=U8.tk T8 k9
   generalize ((ZK t t.length).getD e []).getD z 0=y at yl yf d4
   have pl:((ds.getD y []).map nV).length=m:=by rw[Za];exact D.rl y yl
   refine⟨_,rfl,pm,_,rfl,.inr (.of d4),_,rfl,by rw[pl];omega,by rw[pl];omega,?_⟩
   rw[pl,Zj]
   refine VA (YG 0 m) [some (.ref pm)] rfl (fun v=>match v with | .int q=>decide (Zz ds y q.toNat=q.toNat)|_=>false) (fun y=>y) (by rw[Za,ZY];omega) (fun u yv H10 hyv s10 R R' k1 k2=>?_) (fun L10 H10 nL10 s10 hL10=>?_)
   ·obtain⟨hu,rfl⟩:=U3 hyv
    have k1:decide (Zz ds y u=u)=true->∀H6,Same H10 H6->R (.int (u:Nat)) H6:=k1
    have k2:decide (Zz ds y u=u)=false->∀H6,Same H10 H6->R' H6:=k2
    refine⟨_,rfl,_,rfl,pm,_,_,_,rfl,rfl,.of (s10 _ _ d4),Zag (l:=ds.getD y []) (i:=u) (by rw[D.rl y yl];exact hu),_,rfl,rfl,_,rfl,?_⟩
    have ed:decide (V.int (((ds.getD y []).getD u 0:Nat):Int)=V.int ((u:Nat):Int))=decide (Zz ds y u=u):=ZjO _ _
    rw[ed]
    exact YN (fun h=>⟨_,rfl,k1 h H10 (Same.refl _)⟩) (fun h=>k2 (by simpa using h) H10 (Same.refl _))
   ·have eo:(((Z2 0 m).map V.int).filter fun v=>match v with | .int q=>decide (Zz ds y q.toNat=q.toNat)|_=>false).map (fun y=>y)=(Yy m ds y).map nV:=by
     rw[List.map_id']
     have e1:(Z2 0 m).map V.int=(List.range m).map nV:=by
      unfold Z2
      rw[List.map_map]
      refine List.map_congr_left fun k _=>?_
      show V.int (0+(k:Int))=V.int (k:Int)
      rw[Int.zero_add]
     rw[e1,List.filter_map]
     rfl
    rw[eo] at hL10
    refine⟨L10,_,rfl,.inl (.of hL10),?_⟩
    have U10:=U9.mono s10
    have T10:=T9.mono s10
    refine⟨_,rfl,.inl ⟨rfl,_,.of U10.1⟩,_,rfl,(by show 1<=sizeLine;decide),fun t1 nt1=>⟨(by show 1<=sizeLine;decide),fun t2 nt2=>?_⟩⟩
    have sA:=Same.upd (H:=H10) (o:=.tup [.int (((Yy m ds y).map nV).length:Nat)]) nt1
    have sB:=Same.upd (H:=upd H10 t1 (.tup [.int (((Yy m ds y).map nV).length:Nat)])) (o:=.tup [.int 0]) nt2
    have hA:=sB _ _ (Zt (H:=H10) (a:=t1) (o:=.tup [.int (((Yy m ds y).map nV).length:Nat)]))
    have hB:=Zt (H:=upd H10 t1 (.tup [.int (((Yy m ds y).map nV).length:Nat)])) (a:=t2) (o:=.tup [.int 0])
    have sAB:=sA.trans sB
    generalize upd (upd H10 t1 (.tup [.int (((Yy m ds y).map nV).length:Nat)])) t2 (.tup [.int 0])=H11 at sAB hA hB ⊢
    refine⟨_,rfl,n,rfl,nn1,nn60,fun H12 s12=>⟨_,_,rfl,rfl,?_⟩⟩
    obtain⟨q0,hq0⟩:=Int.eq_ofNat_of_zero_le (show 0<=N27.Zat n-1 by omega)
    refine⟨t2,_,q0,rfl,congrArg V.int hq0,s12 _ _ hB,by simp,by simp;omega,by omega,fun t3 H13 s13 h13=>?_⟩
    refine⟨t1,t3,_,_,rfl,rfl,s13 _ _ (s12 _ _ hA),h13,by rw[N27.Jp];simp;omega,fun t4 H14 s14 h14=>?_⟩
    have s1014:=((sAB.trans s12).trans s13).trans s14
    have U14:=U10.mono s1014
    have ell:(us.map V.ref).length=e:=by
     rw[Za,U14.2.1,List.length_take,Za]
     omega
    have h14':H14 t4=some (.tup ((whI n (Yy m ds (((ZK t t.length).getD e []).getD 0 0)).length).map V.int)):=by
     rw[h14,N27.Jp,<-yf]
     unfold whI
     rw[ephi,hq0,Zj,Za]
     rfl
    refine⟨Du,_,_,rfl,rfl,U14.1,by omega,?_⟩
    have U15:=U14.push h14'
    have T14:=T10.mono s1014
    have nDp:Du≠p:=T14.ne U14.1 fun _ z=>by cases z
    refine⟨us++[t4],_,_,_,rfl,fun b o hb nb1 nb2=>?_,?_,?_⟩
    ·rw[Zw nb2]
     exact s1014 _ _ (s10 _ _ (k9 _ _ (mw _ _ hb nb1 nb2) nb1))
    ·have T15:ZV H14 p (150+e+1):=T14
     exact ZV.updN T15 nDp
    ·rw[List.take_add_one,Zc,gD he]
     exact U15
  ·rintro τ H8 ⟨us,w7,w8,w9,rfl,mw,T8,U8⟩
   rw[csl,show (ZK t t.length).length=((ZK t t.length).map fun c=>whI n (Yy m ds (c.getD 0 0)).length).length by rw[Za],List.take_length] at U8
   have hd8:=Mw.ct T7 hDu7 mw hd7
   have G8:=Mw.gt T7 hDu7 mw G7
   have hS8:=Mw.sql T7 nDu s57 mw hS5
   refine⟨_,rfl,_,rfl,g,d,t,ds,m,n,rfl,G8,Pt,hd8,D,m24,nn1,nn60,ndv,nmn,fun r9 H9 s9 h9=>?_⟩
   have ok9:ZdG (dTI ((ZK t t.length).map fun c=>whI n (Yy m ds (c.getD 0 0)).length)):=by
    refine Zgw (by rw[Za];omega) fun xs hx=>?_
    obtain⟨c,_,rfl⟩:=List.mem_map.mp hx
    unfold whI
    refine⟨by rw[Zi,Ze];omega,fun k hk=>?_⟩
    rcases List.mem_cons.mp hk with rfl|hk
    ·have:(Yy m ds (c.getD 0 0)).length<=m:=by
      unfold Yy
      have:=List.length_filter_le (fun i=>decide (Zz ds (c.getD 0 0) i=i)) (List.range m)
      rwa [Zg] at this
     rw[Int.natAbs_natCast]
     exact Nat.lt_of_le_of_lt this (Nat.lt_of_le_of_lt m24 (by decide))
    ·rw[(List.mem_replicate.mp hk).2]
     decide
   have U9:=U8.mono s9
   refine⟨_,_,rfl,h9.rd,ok9,_,rfl,Du,_,rfl,.inl ⟨.of U9.1,fun l nl=>?_⟩⟩
   have s10:=Same.upd (H:=H9) (o:=.tup (us.map V.ref)) nl
   have h10:TTI (upd H9 l (.tup (us.map V.ref))) l ((ZK t t.length).map fun c=>whI n (Yy m ds (c.getD 0 0)).length):=⟨us,Zt,U9.2.1,fun i b hb=>s10 _ _ (U9.2.2 i b hb)⟩
   generalize upd H9 l (.tup (us.map V.ref))=H10 at s10 h10 ⊢
   refine⟨_,_,rfl,h10.rd,ok9,rfl,_,rfl,Zdi (by simp) ?_⟩
   have s810:=s9.trans s10
   refine⟨(by show 0<=sizeLine;decide),fun Rw nRw=>?_⟩
   have s11:=s810.trans (Same.upd (H:=H10) (o:=.lst []) nRw)
   have nRw8:H8 Rw=none:=s810.free nRw
   have hR11:=Zt (H:=H10) (a:=Rw) (o:=.lst [])
   generalize upd H10 Rw (.lst [])=H11 at s11 hR11 ⊢
   obtain⟨dr,pm,d1,d2,d3,d4⟩:=CT.at (hd8.mono s11) (a:=0) (by rw[D.len];exact n1)
   have row0:((ds.getD 0 []).map nV).length=m:=by rw[Za];exact D.rl 0 n1
   refine⟨_,rfl,d,_,_,_,rfl,rfl,.of d1,d3,_,_,rfl,.inr (.of d4),_,rfl,by rw[row0];omega,by rw[row0];omega,?_⟩
   rw[row0,Zj]
   refine Z8 (fun u σ' HH=>∃(bs:List Addr) (w7 w11:Option V),σ'=[some (.ref a),some (.int (i:Nat)),some (.ref p),some (.ref g),some (.int (n:Nat)),some (.ref d),some (.ref Du),w7,w8,w9,some (.ref Rw),w11]/\Same H8 HH/\TupsAt HH Rw bs (Xc t.length m ds u)) ⟨[],_,_,rfl,s11,hR11,rfl,fun i b h=>by cases h⟩ ?_ ?_
   ·rintro u σ' H12 hu ⟨bs,w7,w11,rfl,s12,R12⟩
    rw[show (0:Int)+(u:Int)=(u:Int) by omega]
    obtain⟨er,e1,e2,e3⟩:=hd8.mono s12
    have el:(er.map V.ref).length=t.length:=by rw[Za,e2,D.len]
    refine⟨_,rfl,d,rfl,⟨_,.of e1⟩,?_⟩
    refine WN (W:=Addr) id (fun x b H=>H b=some (.tup [.int (Zz ds x u:Nat),.bl true])) (fun _ _=>True) (Ws (K:=K) (.of e1)) [some (.int (u:Nat))] rfl (by rw[el];omega) (fun i w H H' s h=>s _ _ h) (fun _ _ _ _ h=>h) (fun i w H0 H1 D o' ys ys' h h0 h1 h2=>?_) (fun x yv H13 hy s13 R k=>?_) (fun Dl ws H13 nDl s13 hDl wl hw _=>?_)
    ·rw[Zw fun z=>by rw[z,h2] at h;cases h]
     exact h
    ·rw[Zc] at H13
     cases ea:er[x]? with
     |none=>rw[ea] at H13;cases H13
     |some b=>
      rw[ea] at H13
      cases H13
      have hx:x<t.length:=by rw[<-D.len,<-e2];exact (List.getElem?_eq_some_iff.mp ea).1
      exact⟨_,rfl,_,rfl,b,_,_,_,rfl,rfl,.of (s13 _ _ (e3 x b ea)),Zag (l:=ds.getD x []) (i:=u) (by rw[D.rl x hx];exact hu),(by show 2<=sizeLine;decide),fun c nc=>k c _ (Same.upd nc) Zt trivial⟩
    have hDl:H13 Dl=some (.lst (ws.map V.ref)):=hDl
    rw[el] at wl
    obtain⟨ls,hls⟩:∃ls:List Nat,ls=(List.range t.length).map fun x=>Zz ds x u:=⟨_,rfl⟩
    have lsl:ls.length=t.length:=by rw[hls,Za,Zg]
    refine⟨Dl,ws,ls.map fun a:Nat=>((Sum.inl (a:Int):ZT),V.bl true),rfl,hDl,by rw[Za,lsl,wl],fun x b hb=>?_,fun dd ndd=>?_⟩
    ·have hx:x<t.length:=by rw[<-wl];exact (List.getElem?_eq_some_iff.mp hb).1
     refine⟨.inl ((Zz ds x u:Nat):Int),.bl true,?_,(hw x b hb).1⟩
     rw[Zc,hls,Zc,List.getElem?_range hx]
     rfl
    obtain⟨ks,hks,hkm⟩:=Zao ls KS.nil
    have lk:ks.length<=t.length:=by
     rw[<-hks.len]
     have:=Yn (ls.map fun a:Nat=>((Sum.inl (a:Int):ZT),V.bl true)) []
     rw[Za,lsl,List.length_nil] at this
     omega
    have ek:(ZU [] (ls.map fun a:Nat=>((Sum.inl (a:Int):ZT),V.bl true))).map (·.1)=(ks.map fun a:Nat=>(a:Int)).map (Sum.inl:Int->ZT):=by rw[hks.keys,List.map_map];rfl
    have s14:=s13.trans (Same.upd (H:=H13) (o:=.dK (ZU [] (ls.map fun a:Nat=>((Sum.inl (a:Int):ZT),V.bl true)))) ndd)
    have h14:=Zt (H:=H13) (a:=dd) (o:=.dK (ZU [] (ls.map fun a:Nat=>((Sum.inl (a:Int):ZT),V.bl true))))
    generalize ZU [] (ls.map fun a:Nat=>((Sum.inl (a:Int):ZT),V.bl true))=kvs at s14 h14 ek ⊢
    generalize upd H13 dd (.dK kvs)=H14 at s14 h14 ⊢
    have srt:∀{zs:List Int},List.Perm zs (ks.map fun a:Nat=>(a:Int))->zs.Pairwise (· ≤ ·)->zs.map V.int=(YW t.length m ds u).map nV:=fun {zs} hp hs=>WZ hp hs (List.Pairwise.map _ (fun x y (h:x≠y) e=>h (by omega)) hks.nd) (fun k=>by
     rw[List.mem_map]
     constructor
     ·rintro⟨x,hx,rfl⟩
      have hx:=(hkm x).mp hx
      rcases hx with hx|hx
      ·cases hx
      ·rw[hls] at hx
       obtain⟨y,hy,rfl⟩:=List.mem_map.mp hx
       have hy:=List.mem_range.mp hy
       exact⟨_,Ja.mpr ⟨D.lt y u hy hu,y,hy,rfl⟩,rfl⟩
     ·rintro⟨x,hx,rfl⟩
      obtain⟨_,y,hy,rfl⟩:=Ja.mp hx
      exact⟨_,(hkm _).mpr (.inr (by rw[hls];exact List.mem_map.mpr ⟨y,List.mem_range.mpr hy,rfl⟩)),rfl⟩) (Xb u)
    refine⟨_,rfl,dd,kvs,_,rfl,h14,ek,by rw[Za];omega,fun l15 zs nl15 hp15 hs15=>?_⟩
    rw[srt hp15 hs15]
    have s15:=s14.trans (Same.upd (H:=H14) (o:=.lst ((YW t.length m ds u).map nV)) nl15)
    refine⟨l15,_,rfl,.inl ⟨.of Zt,fun l16 nl16=>?_⟩⟩
    have s16:=s15.trans (Same.upd (H:=upd H14 l15 (.lst ((YW t.length m ds u).map nV))) (o:=.tup ((YW t.length m ds u).map nV)) nl16)
    have h16:=Zt (H:=upd H14 l15 (.lst ((YW t.length m ds u).map nV))) (a:=l16) (o:=.tup ((YW t.length m ds u).map nV))
    have d16:upd (upd H14 l15 (.lst ((YW t.length m ds u).map nV))) l16 (.tup ((YW t.length m ds u).map nV)) dd=some (.dK kvs):=((Same.upd (H:=H14) (o:=.lst ((YW t.length m ds u).map nV)) nl15).trans (Same.upd (o:=.tup ((YW t.length m ds u).map nV)) nl16)) _ _ h14
    generalize upd (upd H14 l15 (.lst ((YW t.length m ds u).map nV))) l16 (.tup ((YW t.length m ds u).map nV))=H16 at s16 h16 d16 ⊢
    have R16:=R12.mono s16
    have ol:=V5 (n:=t.length) (m:=m) (ds:=ds) u
    refine⟨_,rfl,Rw,_,(Xc t.length m ds u).map dT,dT (YW t.length m ds u),rfl,.inl (.of R16.1),R16.rds,.tup (.of (by rw[Ub];exact h16)) (YF.ints _),Xf _,Jh _,JP _,_,rfl,?_⟩
    rw[if_pos rfl,ZiB]
    refine YN (fun h2=>?_) (fun h2=>?_)
    ·have h2:(Xc t.length m ds u).contains (YW t.length m ds u)=false:=by simpa using h2
     refine⟨_,rfl,.inl ⟨rfl,_,.of R16.1⟩,_,rfl,dd,kvs,_,rfl,d16,ek,by rw[Za];omega,fun l17 zs nl17 hp17 hs17=>?_⟩
     rw[srt hp17 hs17]
     have s17:=s16.trans (Same.upd (H:=H16) (o:=.lst ((YW t.length m ds u).map nV)) nl17)
     refine⟨l17,_,rfl,.inl ⟨.of Zt,fun l18 nl18=>?_⟩⟩
     have s18:=s17.trans (Same.upd (H:=upd H16 l17 (.lst ((YW t.length m ds u).map nV))) (o:=.tup ((YW t.length m ds u).map nV)) nl18)
     have h18:=Zt (H:=upd H16 l17 (.lst ((YW t.length m ds u).map nV))) (a:=l18) (o:=.tup ((YW t.length m ds u).map nV))
     generalize upd (upd H16 l17 (.lst ((YW t.length m ds u).map nV))) l18 (.tup ((YW t.length m ds u).map nV))=H18 at s18 h18 ⊢
     have R18:=R12.mono s18
     refine⟨Rw,_,_,rfl,rfl,R18.1,by rw[Za,R18.2.1];omega,?_⟩
     refine⟨bs++[l18],_,_,rfl,(s12.trans s18).updr nRw8,?_⟩
     unfold Xc
     rw[if_neg (by rw[h2];decide)]
     exact R18.push h18
    ·have h2:(Xc t.length m ds u).contains (YW t.length m ds u)=true:=by simpa using h2
     refine⟨bs,_,_,rfl,s12.trans s16,?_⟩
     unfold Xc
     rw[if_pos h2]
     exact R16
   ·rintro σ' H12 ⟨bs,w7,w11,rfl,s12,R12⟩
    refine⟨_,rfl,_,rfl,g,d,t,ds,m,rfl,Pt,hd8.mono s12,D,m24,fun r13 H13 s13 h13=>?_⟩
    have ol:=V5 (n:=t.length) (m:=m) (ds:=ds) m
    have fit:=Zij (css:=Xc t.length m ds m) (by omega) fun row hrow=>by
     obtain⟨x,_,rfl⟩:=XC m row hrow
     refine⟨?_,fun k hk=>?_⟩
     ·unfold YW
      have:=List.length_filter_le (fun j=>(List.range t.length).any fun a=>Zz ds a x == j) (List.range m)
      rw[Zg] at this
      omega
     ·have:=(Ja.mp hk).1
      omega
    have R13:=R12.mono s13
    refine⟨_,_,rfl,h13.rd,fit,_,rfl,Rw,_,rfl,.inl ⟨.of R13.1,fun l nl=>?_⟩⟩
    have s14:=Same.upd (H:=H13) (o:=.tup (bs.map V.ref)) nl
    have h14:CT (upd H13 l (.tup (bs.map V.ref))) l (Xc t.length m ds m):=⟨bs,Zt,R13.2.1,fun i b hb=>s14 _ _ (R13.2.2 i b hb)⟩
    generalize upd H13 l (.tup (bs.map V.ref))=H14 at s14 h14 ⊢
    refine⟨_,_,rfl,h14.rd,fit,rfl,_,rfl,Zdi (by simp) ?_⟩
    exact⟨_,_,_,_,_,_,_,_,_,_,_,rfl,((s12.trans s13).trans s14).seq hS8⟩
end
end C27
namespace C27
open PySem L2 PySem.Spec PyProof.Rows
theorem all_mk {l:PySem.W.OpenLaw}{w:World}{K:PySem.W.Frag}{h:Heap}{mg:Str->Option Value}{fa:Addr}(X:K.In h)(G:h.Ns mainGlobals mg)(hfa:mg "law"=some (.ref fa))
  (d1:Zy K "back" ZgV) (d2:Zy K "round_of" Zd9) (d3:Zy K "full_round" ZgT) (d4:Zy K "turned_by" Zb2) (d5:Zy K "turnings" Vi) (d6:Zy K "classes_of" Xr) (d7:Zy K "primes_of" N27.Zb6) (d8:Zy K "places" N27.Zb7) (d9:Zy K "whole" N27.Zjb) (d10:Zy K "places_left" Zed) (d11:Zy K "traces" Zb3) (d12:Zy K "pieces" Zb8) (d13:Zy K "_law_tape" ZgR) (d14:Zy K "_law_pick" Zea) (d15:Zy K "_law_cycle" Zjf) (d16:Zy K "_law_perms" Zeb) (d17:Zy K "_law_after" Zei) (d18:Zy K "_law_things" Zb4) (d19:Zy K "_law_group" Za9) (d20:Zy K "_law_back" Zeg) (d21:Zy K "_law_turned" U0) (d22:Zy K "_law_classes" Zef) (d23:Zy K "_law_part" Zec) (d24:Zy K "_law_some" ZgS) (d25:Zy K "_law_any_part" ZgW) (d26:Zy K "_law_side_deed" Za8) (d27:Zy K "_law_deed" Zeh) (d28:Zy K "_law_shared" N27.Zjd) (d29:Zy K "_law_round" Zb5) (d30:Zy K "_law_places" N27.Zee) (d31:Zy K "law" Zjc)
  (z1:PySem.W.nsIn K mainGlobals "list"=some none) (z2:PySem.W.nsIn K mainGlobals "len"=some none) (z3:PySem.W.nsIn K mainGlobals "abs"=some none) (z4:PySem.W.nsIn K mainGlobals "range"=some none) (z5:PySem.W.nsIn K mainGlobals "tuple"=some none) (z6:PySem.W.nsIn K mainGlobals "isinstance"=some none) (z7:PySem.W.nsIn K mainGlobals "all"=some none) (z8:PySem.W.nsIn K mainGlobals "set"=some none) (z9:PySem.W.nsIn K mainGlobals "repr"=some none) (z10:PySem.W.nsIn K mainGlobals "any"=some none) (z11:PySem.W.nsIn K mainGlobals "int"=some none) (z12:PySem.W.nsIn K mainGlobals "bool"=some none) (z13:PySem.W.nsIn K mainGlobals "sorted"=some none) (z14:PySem.W.nsIn K mainGlobals "enumerate"=some none) (z15:PySem.W.nsIn K mainGlobals "max"=some none) (z16:PySem.W.nsIn K mainGlobals "zip"=some none) (z17:PySem.W.nsIn K mainGlobals "dict"=some none) :
  ∃fd:FuncData,(∀(s:Shared) (v:Value),BindsTo s fd ⟨[v],[]⟩ [("_law_script",v)])/\∀base:Heap,K.In base->base.Ns mainGlobals mg->Z1 l.prog w K mg base Yc 6 fa fd ["_law_script"] (ZbX K):=by
 have T:Bl mg:=⟨PySem.W.mg_none_of X G z1,PySem.W.mg_none_of X G z2,PySem.W.mg_none_of X G z3,PySem.W.mg_none_of X G z4,PySem.W.mg_none_of X G z5,PySem.W.mg_none_of X G z6,PySem.W.mg_none_of X G z7,PySem.W.mg_none_of X G z8,PySem.W.mg_none_of X G z9,PySem.W.mg_none_of X G z10,PySem.W.mg_none_of X G z11,PySem.W.mg_none_of X G z12⟩
 have T2:ZaS mg:=⟨PySem.W.mg_none_of X G z13,PySem.W.mg_none_of X G z14⟩
 have TB:BlB mg:=⟨PySem.W.mg_none_of X G z1,PySem.W.mg_none_of X G z2,PySem.W.mg_none_of X G z4,PySem.W.mg_none_of X G z5,PySem.W.mg_none_of X G z15,PySem.W.mg_none_of X G z13⟩
 have TZ:BlZ mg:=⟨PySem.W.mg_none_of X G z16⟩
 have TN:N27.Bl mg:=⟨PySem.W.mg_none_of X G z1,PySem.W.mg_none_of X G z2,PySem.W.mg_none_of X G z3,PySem.W.mg_none_of X G z4,PySem.W.mg_none_of X G z5,PySem.W.mg_none_of X G z6,PySem.W.mg_none_of X G z7,PySem.W.mg_none_of X G z8,PySem.W.mg_none_of X G z9,PySem.W.mg_none_of X G z10,PySem.W.mg_none_of X G z11,PySem.W.mg_none_of X G z12⟩
 have TD:mg "dict"=none:=PySem.W.mg_none_of X G z17
 refine d31.law X G hfa (fun base f fd nb kb F=>?_) (fun _ _ _ _ _ _ _ _=>.of_eq rfl)
 have fn:=@Zy.fn l.prog w K mg base h
 have GBk:=fn d1 X G (fun f fd F=>Zgf F) (fun _ _ _ _ _ _=>UF fun _ _=>rfl)
 have GRd:=fn d2 X G (fun f fd F=>Zey F) (fun _ _ _ _ _ _=>UF fun _ _=>rfl)
 have GF:=fn d3 X G (fun f fd F=>Zge F T GRd) (fun _ _ _ _ _ _=>bd1 fun _=>rfl)
 have GTb:=fn d4 X G (fun f fd F=>Zc3 F GBk) (fun _ _ _ _ _ _=>bd3 fun _ _ _=>rfl)
 have GTn:=fn d5 X G (fun f fd F=>Zae F T T2 GTb) (fun _ _ _ _ _ _=>UF fun _ _=>rfl)
 have GC:=fn d6 X G (fun f fd F=>Zbm F T GTn) (fun _ _ _ _ _ _=>bd1 fun _=>rfl)
 have GPr:=fn d7 X G (fun f fd F=>N27.Zc7 F TN) (fun _ _ _ _ _ _=>bd1 fun _=>rfl)
 have GPc:=fn d8 X G (fun f fd F=>N27.Zc8 F TN GPr) (fun _ _ _ _ _ _=>bd1 fun _=>rfl)
 have GW:=fn d9 X G (fun f fd F=>N27.ZhW F GPc) (fun _ _ _ _ _ _=>UF fun _ _=>rfl)
 have GPL:=fn d10 X G (fun f fd F=>ZeA F T T2) (fun _ _ _ _ _ _=>bd1 fun _=>rfl)
 have GTr:=fn d11 X G (fun f fd F=>Zc4 F T GF GW GPL GC) (fun _ _ _ _ _ _=>UF fun _ _=>rfl)
 have GPi:=fn d12 X G (fun f fd F=>Zc9 F T T2) (fun _ _ _ _ _ _=>UF fun _ _=>rfl)
 have GT0:=fn d13 X G (fun f fd F=>Zf9 F TB) (fun _ _ _ _ _ _=>UF fun _ _=>rfl)
 have GK:=fn d14 X G (fun f fd F=>Zgb F) (fun _ _ _ _ _ _=>UF fun _ _=>rfl)
 have GCy:=fn d15 X G (fun f fd F=>ZhZ F TB) (fun _ _ _ _ _ _=>bd1 fun _=>rfl)
 have GPe:=fn d16 X G (fun f fd F=>Zez F TB GK GCy) (fun _ _ _ _ _ _=>UF fun _ _=>rfl)
 have GA:=fn d17 X G (fun f fd F=>ZeF F TB) (fun _ _ _ _ _ _=>UF fun _ _=>rfl)
 have GTh:=fn d18 X G (fun f fd F=>Zc5 F TB GA) (fun _ _ _ _ _ _=>bd1 fun _=>rfl)
 have GG:=fn d19 X G (fun f fd F=>ZeD F TB GTh GPe GK GA) (fun _ _ _ _ _ _=>UF fun _ _=>rfl)
 have GLB:=fn d20 X G (fun f fd F=>ZeB F) (fun _ _ _ _ _ _=>UF fun _ _=>rfl)
 have GLT:=fn d21 X G (fun f fd F=>Zbl F GLB) (fun _ _ _ _ _ _=>bd3 fun _ _ _=>rfl)
 have GLc:=fn d22 X G (fun f fd F=>Zgd F T T2 GLT) (fun _ _ _ _ _ _=>bd1 fun _=>rfl)
 have GL:=fn d23 X G (fun f fd F=>Zgc F T T2) (fun _ _ _ _ _ _=>UF fun _ _=>rfl)
 have GS:=fn d24 X G (fun f fd F=>Zga F T GK) (fun _ _ _ _ _ _=>UF fun _ _=>rfl)
 have GAP:=fn d25 X G (fun f fd F=>Zgg F GS GL) (fun _ _ _ _ _ _=>UF fun _ _=>rfl)
 have GSd:=fn d26 X G (fun f fd F=>Zex F T T2) (fun _ _ _ _ _ _=>UF fun _ _=>rfl)
 have GDl:=fn d27 X G (fun f fd F=>ZeE F T TZ GSd GAP GK) (fun _ _ _ _ _ _=>bd3 fun _ _ _=>rfl)
 have GSh:=fn d28 X G (fun f fd F=>N27.ZhY F) (fun _ _ _ _ _ _=>UF fun _ _=>rfl)
 have GRo:=fn d29 X G (fun f fd F=>Zc6 F T GSh) (fun _ _ _ _ _ _=>bd1 fun _=>rfl)
 have GPl:=fn d30 X G (fun f fd F=>N27.ZeC F TN GSh) (fun _ _ _ _ _ _=>bd1 fun _=>rfl)
 exact ZhX F T T2 TD GT0 GK GG GRo GDl GLc GPl GTr GPi
theorem walk {l:PySem.W.OpenLaw}{q:Program}{loose:List Str}{XP:(Str->Option Value)->Heap->Prop}{YP:World->Heap->Prop}{d:DefRec}{K:Params->PySem.W.Frag}(hn:l.most=some 63)(hdf:d.params.defaults=[])
  (hY:∀(w:World) (h:Heap),YP w h->(K w.params).In h)
  (F:∀(w:World) (mg:Str->Option Value) (fa:Addr) (h:Heap),(K w.params).In h->h.Ns mainGlobals mg->mg d.name=some (.ref fa)->
   ∃fd:FuncData,(∀(s:Shared) (u:Value),BindsTo s fd ⟨[u],[]⟩ [("_law_script",u)])/\∀base:Heap,(K w.params).In base->base.Ns mainGlobals mg->Z1 l.prog w (K w.params) mg base Yc 6 fa fd ["_law_script"] (ZbX (K w.params))) :
  PySem.W.WalkO q loose XP YP l.row.toRowW d [] (fun f vs=>PySem.call f vs):=
 L2.VH (n:=63) (k:=6) (x:="_law_script") (CX:=fun _=>Yc) (sp:=fun w=>ZbX (K w.params)) hn (by decide) hdf ⟨rfl,by decide,by decide,rfl⟩ hY F (fun _ _ a ns hl _ hS=>⟨a,ns,rfl,hS,hl,fun _=>rfl⟩) fun _ _ _ _ _ z=>z
end C27
namespace PySem.W.Fast
def tw6737414375869862881:=0
def tw18365517453836709534:=0
def tw3704474147557821893:=0
def tw2197259759196248134:=0
def tw11754918196923100455:=0
def tw14906360126831439269:=0
def tw9912305626909819576:=0
def tw9220132544555271760:=0
def tw13234368502580371763:=0
def tw7675832213030756572:=0
def tw5197116149141777663:=0
def tw8342431202295626914:=0
def tw18404665391931767337:=0
def tw9473772680520253182:=0
def tw16448941314094385363:=0
def tw3281941208116534041:=0
def tw12782719378732340459:=0
def tw18017653558350676070:=0
def tw10095113416920790846:=0
def tw9358646453193929623:=0
def tw15314494145370276459:=0
def tw8912332857508770475:=0
def tw8304282246665929543:=0
def tw12087674751670076326:=0
def tw1894547508925273925:=0
def tw18383880074639796412:=0
def tw1671278213197811594:=0
def tw3807253848214931058:=0
def tw7051755227842231416:=0
def tw3883271830652561458:=0
def tw3870086932085849792:=0
def tw6103302900987230410:=0
def tw10721067852997117782:=0
def tw748943344611039391:=0
def tw4563359826638748546:=0
def tw13051240849188617732:=0
def tw13143813667654953290:=0
def tw16018989369319237510:=0
def tw7152476375497484526:=0
def tw15683744061042632517:=0
def tw14664189550161801002:=0
def tw3892487541913948094:=0
def tw367785981649511388:=0
def tw5222065560372582425:=0
def tw8224461006042331889:=0
def tw15524888185842540640:=0
def tw10889849577485614944:=0
def tw7286363848034241518:=0
def tw17743518426369836538:=0
def tw17004476460541098119:=0
def tw4867342142413500479:=0
def tw8414160585429716267:=0
def tw14478068735281064584:=0
def tw8572991525355769343:=0
def tw16528201384443416643:=0
def tw4379902456146691347:=0
def tw2126916145799642524:=0
def tw2767489256380918681:=0
def tw4533891488615022169:=0
def tw12508114237936858489:=0
def tw6788841113078045588:=0
def tw14607542627614411338:=0
def tw2908063372929288561:=0
def tw6323429567640462568:=0
def tw91322246130524920:=0
def tw11193572866716771717:=0
def tw681533419997915447:=0
def tw18155904985092959746:=0
def tw8615124477692096735:=0
def tw17885460252664820077:=0
def tw6906128521464386004:=0
def tw11946057897598274330:=0
def tw18363927773668193204:=0
def tw1980437972638963033:=0
def tw13027367337543974862:=0
def tw5353232179626062149:=0
def tw9383828857677437590:=0
def tw2399310698260837220:=0
def tw5604721005659833410:=0
def tw1649016175576575479:=0
def tw15067026058866100989:=0
def tw18282911747256379189:=0
def tw4271454442143981837:=0
def tw6300308213482721493:=0
def tw10741916902824844135:=0
def tw1793501853228656461:=0
def tw17502927806152499618:=0
def tw9488196452667386356:=0
def tw14572035223568482480:=0
def tw15348631517669774759:=0
def tw14089105686300899538:=0
def tw2293463400423321949:=0
def tw13513168600012949449:=0
def tw17746129656679765340:=0
def tw10323482950655321981:=0
def tw12077389979583640089:=0
def tw10385950303889788699:=0
def tw1645191508252828918:=0
def tw10529599032145937142:=0
def tw17727333415046715123:=0
def tw17997787345558088254:=0
def tw4357221162693493542:=0
def tw3639457992440649231:=0
def tw11852629965034396038:=0
def tw1998003468463283433:=0
def tw1184922848404502619:=0
def tw4680344383802649943:=0
def tw17347185101947553215:=0
def tw1401435987693017065:=0
def tw7232608330288836631:=0
def tw16003100298235789059:=0
def tw4494016010153713196:=0
def tw1525617227091883127:=0
def tw4505702893431044447:=0
def tw17124684115985313841:=0
def tw14348297797452158117:=0
def tw7718043695879493692:=0
def tw13036466108609263098:=0
def tw9274333293990752452:=0
def tw15278843197881389417:=0
def tw843716912337350529:=0
def tw13016578381264614535:=0
def tw2723894113225144966:=0
def tw2243251561571023482:=0
def tw333775103277634524:=0
def tw16348155792483193216:=0
def tw4966458922340899817:=0
def tw9918231989349721320:=0
def tw2540682315249786290:=0
def tw9657404324060414298:=0
def tw9894297436951904970:=0
def tw12990235529296675539:=0
def tw4128740446559323903:=0
def tw15362598858059079385:=0
def tw11215908391477446428:=0
def tw3819583631441834712:=0
def tw861292380346843693:=0
def tw1148565203276626710:=0
def tw4868279761991947513:=0
def tw1885102902105001662:=0
def tw769099697166780069:=0
def tw10028858717651044275:=0
def tw13548545205661456756:=0
def tw17250081750362491145:=0
def tw10540173735813072594:=0
def tw2539377793946129371:=0
def tw4568978234878099224:=0
def tw11195768870584844673:=0
def tw7956576534685065581:=0
def tw3022904088883361692:=0
def tw1960304061142448350:=0
def tw4032397615890308977:=0
def tw5249920151884147239:=0
def tw11040955809901563149:=0
def tw15813645168448446873:=0
def tw4281601806789755856:=0
def tw18022718678838701906:=0
def tw15508674096359094799:=0
def tw16284428358886300964:=0
def tw17841766313894305844:=0
def tw1993842217204426746:=0
def tw5053600689918536791:=0
def tw14137801823241077703:=0
def tw8463470372524637176:=0
def tw13360655320399373043:=0
def tw14991407098299473335:=0
def tw4450129515120724837:=0
def tw14003656347523529059:=0
def tw11918782854644745980:=0
def tw698038431117608440:=0
def tw7454009504650758244:=0
def tw14442314926665203793:=0
def tw3285264900635703251:=0
def tw7280956321273651073:=0
def tw4227174677869389937:=0
def tw12417251229544833878:=0
def tw8579776162762009070:=0
def tw8049174479884601748:=0
def tw11815578889768952237:=0
def tw13561227084044799700:=0
end PySem.W.Fast
open PySem PySem.W PyProof.Rows
set_option maxRecDepth 100000 in
set_option maxHeartbeats 0 in
theorem PySem.Challenge.cw_classtab_k27_traces_and_pieces_holds : PySem.Challenge.rw_classtab_k27_traces_and_pieces.Holds := by
 w_on;o_law;k_head;(case hw=>w_witness2)
 k_fill
 refine C27.walk (l:=PySem.Challenge.rw_classtab_k27_traces_and_pieces) rfl rfl (fun w h Y=>PySem.W.kIn_of Y) ?F
 case F=>
  intro w mg fa h KX G hmg
  refine' C27.all_mk KX G hmg (L2.Zy.mk ?_ ?_ ?_ ?_) (L2.Zy.mk ?_ ?_ ?_ ?_) (L2.Zy.mk ?_ ?_ ?_ ?_) (L2.Zy.mk ?_ ?_ ?_ ?_) (L2.Zy.mk ?_ ?_ ?_ ?_) (L2.Zy.mk ?_ ?_ ?_ ?_) (L2.Zy.mk ?_ ?_ ?_ ?_) (L2.Zy.mk ?_ ?_ ?_ ?_) (L2.Zy.mk ?_ ?_ ?_ ?_) (L2.Zy.mk ?_ ?_ ?_ ?_) (L2.Zy.mk ?_ ?_ ?_ ?_) (L2.Zy.mk ?_ ?_ ?_ ?_) (L2.Zy.mk ?_ ?_ ?_ ?_) (L2.Zy.mk ?_ ?_ ?_ ?_) (L2.Zy.mk ?_ ?_ ?_ ?_) (L2.Zy.mk ?_ ?_ ?_ ?_) (L2.Zy.mk ?_ ?_ ?_ ?_) (L2.Zy.mk ?_ ?_ ?_ ?_) (L2.Zy.mk ?_ ?_ ?_ ?_) (L2.Zy.mk ?_ ?_ ?_ ?_) (L2.Zy.mk ?_ ?_ ?_ ?_) (L2.Zy.mk ?_ ?_ ?_ ?_) (L2.Zy.mk ?_ ?_ ?_ ?_) (L2.Zy.mk ?_ ?_ ?_ ?_) (L2.Zy.mk ?_ ?_ ?_ ?_) (L2.Zy.mk ?_ ?_ ?_ ?_) (L2.Zy.mk ?_ ?_ ?_ ?_) (L2.Zy.mk ?_ ?_ ?_ ?_) (L2.Zy.mk ?_ ?_ ?_ ?_) (L2.Zy.mk ?_ ?_ ?_ ?_) (L2.Zy.mk ?_ ?_ ?_ ?_) ?_ ?_ ?_ ?_ ?_ ?_ ?_ ?_ ?_ ?_ ?_ ?_ ?_ ?_ ?_ ?_ ?_
  any_goals k_is
  all_goals kernel_rfl
