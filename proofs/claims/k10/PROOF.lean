import PyProof.Rows.All
import Wide.All
import OpenK.AllK
import Wide.FinOn
import Lean
import PyProof.EqAt
import PyProof.EqKinds
import PyProof.TupleCall
import PyProof.ExcInit
import PyProof.ExcClass2
import PyProof.ExcClsAt2
import PyProof.ExcBaseAll.ValueError
import PyProof.InstStoreFacts
import PyProof.InstLoad
import PyProof.ExcAttrAll.ValueError
import PyProof.StationsW
import PyProof.RulesAs
import PyProof.NsDelKeeps
import PyProof.IsiBase
import KE.KIsAll
import KE.KSortTup
import PyProof.DictWalks
import KE.KDictSum
import PyProof.EnumMake
import PyProof.EnumFor
import PyProof.TupleIter
import PyProof.Rows.Range3
import KE.KLam
import KE.KNestM
import PyProof.ZipIter
import PySem.Challenge.RW_classtab_k10_put_together_and_renamed
set_option Elab.async false
set_option linter.all false
set_option maxRecDepth 100000
theorem Za {α β:Type _}{l:List α}{f:α->β}:(l.map f).length=l.length:=List.length_map ..
theorem Zb {α:Type _}{l:List α}{i:Nat}{a:α}:l.getD i a=l[i]?.getD a:=List.getD_eq_getElem?_getD ..
theorem Zc {α β:Type _}{f:α->β}{l:List α}{i:Nat}:(l.map f)[i]?=l[i]?.map f:=List.getElem?_map ..
theorem Zd {α:Type _}{a b:List α}:(a++b).length=a.length+b.length:=List.length_append ..
theorem Ze {α:Type _}{n:Nat}{a:α}:(List.replicate n a).length=n:=List.length_replicate ..
theorem Zf {α:Type _}{l:List α}{i:Nat}(h:i<l.length):l[i]?=some l[i]:=List.getElem?_eq_getElem h
theorem Zg {n:Nat}:(List.range n).length=n:=List.length_range ..
theorem Zh {α:Type _}{l:List α}:l.toArray.size=l.length:=List.size_toArray ..
theorem Zi {α:Type _}{a:α}{l:List α}:(a::l).length=l.length+1:=List.length_cons ..
theorem Zj (n:Nat):(n:Int).toNat=n:=Int.toNat_natCast n
theorem Zk {α:Type _}{a:α}:[a].length=1:=List.length_singleton ..
abbrev Zl:=@PySem.wpAny_bind
abbrev Zm:=@PySem.wpAny_pure
abbrev Zn:=@PySem.Heap.get?_push_of_some
abbrev Zo:=@PySem.Heap.get?_push_size
abbrev Zp:=@PySem.Heap.lt_size
abbrev Zq:=@Nat.le_refl
abbrev Zr.{u}:=@Array.length_toList.{u}
namespace L2
open PySem PySem.Spec PyProof.Rows
abbrev YA:=Sum Int Str
def XR:YA->Value->Bool
 | .inl k,v=>Value.isInt k v
 | .inr x,v=>Value.isStrOf x v
def ZhU (w:World):YA->Int
 | .inl k=>hashInt k
 | .inr x=>hashStr w x
theorem Z1:∀{k:YA}{v:Value},XR k v=true->(∃i t,k=Sum.inl i/\v=Value.int i t)\/(∃x t,k=Sum.inr x/\v=Value.str x t)
 | .inl i,v,h=>by
  obtain⟨t,e⟩:=Value.isInt_shape (k:=i) (v:=v) h
  exact .inl ⟨i,t,rfl,e⟩
 | .inr x,v,h=>by
  obtain⟨t,e⟩:=Value.isStrOf_shape (x:=x) (v:=v) h
  exact .inr ⟨x,t,rfl,e⟩
theorem Zbk (i:Int)(t:Tok):XR (.inl i) (.int i t)=true:=by simp[XR,Value.isInt]
theorem Zbj (x:Str)(t:Tok):XR (.inr x) (.str x t)=true:=by simp[XR,Value.isStrOf]
theorem Zfx (a b:Int):decide ((Sum.inl a:YA)=Sum.inl b)=(a == b):=by
 by_cases e:a=b
 ·subst e;simp
 ·have h:¬(Sum.inl a:YA)=Sum.inl b:=fun q=>e (Sum.inl.inj q)
  rw[decide_eq_false h]
  exact (beq_eq_false_iff_ne.mpr e).symm
theorem Zfu (a b:Str):decide ((Sum.inr a:YA)=Sum.inr b)=decide (a=b):=by
 by_cases e:a=b
 ·subst e;simp
 ·have h:¬(Sum.inr a:YA)=Sum.inr b:=fun q=>e (Sum.inr.inj q)
  rw[decide_eq_false h,decide_eq_false e]
theorem Zfw (a:Int)(b:Str):decide ((Sum.inl a:YA)=Sum.inr b)=false:=decide_eq_false (fun q=>nomatch q)
theorem Zfv (a:Str)(b:Int):decide ((Sum.inr a:YA)=Sum.inl b)=false:=decide_eq_false (fun q=>nomatch q)
def Yh (prog:Program)(w:World):PySem.KeyKind prog w YA where
 is:=XR
 hash:=ZhU w
 inj:=fun v a b ha hb=>by
  rcases Z1 ha with ⟨i,t,rfl,rfl⟩|⟨x,t,rfl,rfl⟩
  ·rcases Z1 hb with ⟨j,u,rfl,e⟩|⟨y,u,rfl,e⟩
   ·injection e with e1 _;rw[e1]
   ·exact nomatch e
  ·rcases Z1 hb with ⟨j,u,rfl,e⟩|⟨y,u,rfl,e⟩
   ·exact nomatch e
   ·injection e with e1 _;rw[e1]
 byValue:=fun k v h=>by
  rcases Z1 h with ⟨i,t,rfl,rfl⟩|⟨x,t,rfl,rfl⟩ <;> rfl
 pyHash:=fun hv h=>by
  rcases Z1 hv with ⟨i,t,rfl,rfl⟩|⟨x,t,rfl,rfl⟩
  ·exact wpAny_pyHash_int h
  ·exact wpAny_pyHash_str h
 eqBool:=fun hu hv h=>by
  rcases Z1 hu with ⟨i,t,rfl,rfl⟩|⟨x,t,rfl,rfl⟩
  ·rcases Z1 hv with ⟨j,u,rfl,rfl⟩|⟨y,u,rfl,rfl⟩
   ·rw[Zfx] at h;exact wpAny_eqBool_int h
   ·rw[Zfw] at h;exact SeqAt.EqAt.int_str i t y u _ _ _ _ h
  ·rcases Z1 hv with ⟨j,u,rfl,rfl⟩|⟨y,u,rfl,rfl⟩
   ·rw[Zfv] at h;exact SeqAt.EqAt.str_int x t j u _ _ _ _ h
   ·rw[Zfu] at h;exact wpAny_eqBool_str h
 «strs»:=fun k x t v h=>by
  rcases Z1 h with ⟨i,u,rfl,e⟩|⟨y,u,rfl,e⟩
  ·exact nomatch e
  ·injection e with e1 _
   subst e1
   cases v <;> rfl
theorem VX (prog:Program)(w:World)(i:Int)(t:Tok):(Yh prog w).is (.inl i) (.int i t)=true:=Zbk i t
theorem VW (prog:Program)(w:World)(x:Str)(t:Tok):(Yh prog w).is (.inr x) (.str x t)=true:=Zbj x t
inductive V where
 |non|bl (b:Bool)|int (i:Int)|str (x:Str)|byt (b:Array UInt8)|flt (b:UInt64)|ref (a:Addr)|ty (n:String)
 deriving DecidableEq
def RelV:V->Value->Prop
 | .non,u=>u=Value.none
 | .bl b,u=>u=Value.bool b
 | .int i,u=>∃t,u=Value.int i t
 | .str x,u=>∃t,u=Value.str x t
 | .byt b,u=>∃t,u=Value.bytes b t
 | .flt b,u=>∃t,u=Value.float b t
 | .ref a,u=>u=Value.ref a
 | .ty n,u=>u=Value.type n
abbrev ZE:List V->List Value->Prop:=Paired RelV
theorem ZE.length {xs:List V}{us:List Value}(r:ZE xs us):xs.length=us.length:=Paired.length r
theorem ZE.get:∀{xs:List V}{us:List Value}{i:Nat}{x:V},ZE xs us->xs[i]?=some x->∃u,us[i]?=some u/\RelV x u
 |_,_,_,_,.nil,e=>by simp at e
 |_,_,0,_,.cons r _,e=>by simp at e;subst e;exact⟨_,rfl,r⟩
 |_,_,i+1,x,.cons _ t,e=>by
  obtain⟨u,h1,h2⟩:=ZE.get (i:=i) (x:=x) t (by simpa using e)
  exact⟨u,by simpa using h1,h2⟩
theorem ZE.set {x:V}{u:Value}(r:RelV x u):∀{xs:List V}{us:List Value} (i:Nat),ZE xs us->ZE (xs.set i x) (us.set i u)
 |_,_,_,.nil=>.nil
 |_,_,0,.cons _ t=>.cons r t
 |_,_,i+1,.cons q t=>.cons q (ZE.set r i t)
theorem ZE.append:∀{xs ys:List V}{us ws:List Value},ZE xs us->ZE ys ws->ZE (xs++ys) (us++ws)
 |_,_,_,_,.nil,s=>s
 |_,_,_,_,.cons r t,s=>.cons r (ZE.append t s)
theorem ZE.take:∀{xs:List V}{us:List Value} (n:Nat),ZE xs us->ZE (xs.take n) (us.take n)
 |_,_,0,_=>.nil
 |_,_,_+1,.nil=>.nil
 |_,_,n+1,.cons r t=>.cons r (ZE.take n t)
theorem ZE.drop:∀{xs:List V}{us:List Value} (n:Nat),ZE xs us->ZE (xs.drop n) (us.drop n)
 |_,_,0,r=>r
 |_,_,_+1,.nil=>.nil
 |_,_,n+1,.cons _ t=>ZE.drop n t
def Xm:Option V->Option Value->Prop
 |some v,some u=>RelV v u
 |none,none=>True
 |_,_=>False
def KV {κ:Type}:List (κ×V)->List (κ×Value)->Prop:=Paired fun (p:κ×V) (q:κ×Value)=>p.1=q.1/\RelV p.2 q.2
def kV:YA->V
 | .inl i=>.int i
 | .inr x=>.str x
inductive HO where
 |lst (xs:List V)
 |tup (xs:List V)
 |dK (kvs:List (YA×V))|dT (kvs:List (List YA×V))
 |set (S:Int->Bool) (n:Nat)
 |ins (C dx:Addr) (fs:List (Str×V))
 |own (x:Addr)
 |xd (fs:List (Str×V))
 |met (f x:Addr)
 |rng (lo hi:Int)
 |frz (o:Obj) (u:HO)
 |tbl (ps:Array Value)
 |ext (φ:Heap->Prop)
abbrev Hp:=Addr->Option HO
def upd (H:Hp)(a:Addr)(o:HO):Hp:=fun b=>if b=a then some o else H b
theorem Zt {H:Hp}{a:Addr}{o:HO}:upd H a o a=some o:=by unfold upd;rw[if_pos rfl]
theorem Zy {H:Hp}{a b:Addr}{o:HO}(h:b≠a):upd H a o b=H b:=by unfold upd;rw[if_neg h]
theorem ZgN {H:Hp}{a b:Addr}{o u:HO}(h:H a=some o)(h':H b=some u)(d:o≠u):a≠b:=by
 intro e;subst e;rw[h] at h';exact d (Option.some.inj h')
theorem ZA {H:Hp}{a b:Addr}{o:HO}(h:H a=some o)(h':H b=none):a≠b:=by
 intro e;subst e;rw[h] at h';cases h'
section
variable (P:Program)(w:World)
def ZT (H:Hp)(h:Heap)(a:Addr):HO->Prop
 | .lst xs=>xs.length<=sizeLine/\∃(its:List Value) (n:Nat),ZE xs its/\h.get? a=some {cls:=.type "list",data:=.seq its.toArray n}
 | .tup xs=>xs.length<=sizeLine/\∃its:List Value,ZE xs its/\IsTup h a its.toArray
 | .dK kvs=>kvs.length<=sizeLine/\(a == sysModules)=false/\∃vs,KV kvs vs/\h.DictOf (Yh P w) a vs
 | .dT kvs=>kvs.length<=sizeLine/\(a == sysModules)=false/\∃xs:List (List YA×Addr×Value),
   Paired (fun (p:List YA×V) (q:List YA×Addr×Value)=>p.1=q.1/\H q.2.1=some (.tup (p.1.map kV))/\RelV p.2 q.2.2) kvs xs/\
   ∃o es ep,h.get? a=some o/\o.ExactDict/\o.data=.dict es ep/\es.toList=xs.map (entryOfKey (tupleKind (Yh P w)))/\(xs.map (·.1)).Nodup
 | .set S n=>h.SetOf (intKind P w) a S n
 | .ins C dx fs=>H dx=some (.own a)/\fs.length<=1000/\dx≠a/\h.get? a=some (PySem.W.instObj C dx)/\
   ∃mA,h.Ns1 dx mA/\(∀f,Xm (fs.lookup f) (mA f))/\PySem.Within mA (fs.map (·.1))
 | .own _=>∃o,h.get? a=some o
 | .xd fs=>∃mA,h.Ns1 a mA/\∀f,Xm (fs.lookup f) (mA f)
 | .rng lo hi=>∃t u v,h.get? a=some {cls:=.type "range",data:=.fields #[.int lo t,.int hi u,.int 1 v]}
 | .frz o u=>h.get? a=some o/\ZT H h a u
 | .tbl ps=>h.get? a=some {cls:=.none,data:=.fields ps}
 | .met f x=>h.get? a=some (PySem.W.methodObj (.ref f) (.ref x))
 | .ext φ=>φ h/\(∃o,h.get? a=some o)/\∀h1 h2:Heap,φ h1->(∀o,h1.get? a=some o->h2.get? a=some o)->φ h2
def Wr (H:Hp)(h:Heap):Prop:=∀a o,H a=some o->ZT P w H h a o
end
section
variable {P:Program}{w:World}{H H':Hp}{h h':Heap}{a:Addr}{o:HO}
theorem ZT.lt (x:ZT P w H h a o):a<h.objs.size:=by
 cases o with
 |lst xs=>obtain⟨_,_,_,_,e⟩:=x;exact Zp e
 |tup xs=>obtain⟨_,_,_,p⟩:=x;exact p.lt
 |dK kvs=>obtain⟨_,_,_,_,o,_,_,e,_⟩:=x;exact Zp e
 |dT kvs=>obtain⟨_,_,_,_,o,_,_,e,_⟩:=x;exact Zp e
 |set S n=>obtain⟨o,_,_,_,e,_⟩:=x;exact Zp e
 |ins C dx fs=>obtain⟨_,_,_,e,_⟩:=x;exact Zp e
 |own y=>obtain⟨_,e⟩:=x;exact Zp e
 |xd fs=>obtain⟨_,⟨_,_,_,e,_⟩,_⟩:=x;exact Zp e
 |rng lo hi=>obtain⟨_,_,_,e⟩:=x;exact Zp e
 |frz ob u=>obtain⟨e,_⟩:=x;exact Zp e
 |tbl ps=>exact Zp (show h.get? a=some _ from x)
 |met f y=>exact Zp (show h.get? a=some _ from x)
 |ext φ=>obtain⟨_,⟨_,e⟩,_⟩:=x;exact Zp e
theorem Paired.mapP {α β:Type}{F G:α->β->Prop}:∀{l₁:List α}{l₂:List β},Paired F l₁ l₂->(∀a b,F a b->G a b)->Paired G l₁ l₂
 |_,_,.nil,_=>.nil
 |_,_,.cons r t,f=>.cons (f _ _ r) (Paired.mapP t f)
theorem ZT.stay (x:ZT P w H h a o)(k:∀b u,(b=a\/H b=some (.own a))->h.get? b=some u->h'.get? b=some u)
  (ho:∀b,H b=some (.own a)->H' b=some (.own a)) (ht:∀b xs,H b=some (.tup xs)->H' b=some (.tup xs)):ZT P w H' h' a o:=by
 induction o with
 |lst xs=>obtain⟨z,its,n,r,e⟩:=x;exact⟨z,its,n,r,k _ _ (.inl rfl) e⟩
 |tup xs=>obtain⟨z,its,r,ob,e,c⟩:=x;exact⟨z,its,r,ob,k _ _ (.inl rfl) e,c⟩
 |dK kvs=>obtain⟨z,y,vs,r,ob,es,ep,e,c⟩:=x;exact⟨z,y,vs,r,ob,es,ep,k _ _ (.inl rfl) e,c⟩
 |dT kvs=>
  obtain⟨z,y,xs,r,ob,es,ep,e,c⟩:=x
  exact⟨z,y,xs,Paired.mapP r fun p q z=>⟨z.1,ht _ _ z.2.1,z.2.2⟩,ob,es,ep,k _ _ (.inl rfl) e,c⟩
 |set S n=>obtain⟨ob,es,ep,t,e,c⟩:=x;exact⟨ob,es,ep,t,k _ _ (.inl rfl) e,c⟩
 |ins C dx fs=>
  obtain⟨d,z,ne,e,mA,⟨od,es,ep,e2,c⟩,r⟩:=x
  exact⟨ho _ d,z,ne,k _ _ (.inl rfl) e,mA,⟨od,es,ep,k _ _ (.inr d) e2,c⟩,r⟩
 |own y=>obtain⟨ob,e⟩:=x;exact⟨ob,k _ _ (.inl rfl) e⟩
 |xd fs=>obtain⟨mA,⟨od,es,ep,e,c⟩,r⟩:=x;exact⟨mA,⟨od,es,ep,k _ _ (.inl rfl) e,c⟩,r⟩
 |rng lo hi=>obtain⟨t,u,v,e⟩:=x;exact⟨t,u,v,k _ _ (.inl rfl) e⟩
 |frz ob u ih=>obtain⟨e,q⟩:=x;exact⟨k _ _ (.inl rfl) e,ih q⟩
 |tbl ps=>
  have e:h.get? a=some {cls:=.none,data:=.fields ps}:=x
  show h'.get? a=some {cls:=.none,data:=.fields ps}
  exact k a _ (.inl rfl) e
 |met f y=>
  have e:h.get? a=some (PySem.W.methodObj (.ref f) (.ref y)):=x
  show h'.get? a=some (PySem.W.methodObj (.ref f) (.ref y))
  exact k a _ (.inl rfl) e
 |ext φ=>obtain⟨p,⟨o,e⟩,st⟩:=x;exact⟨st _ _ p fun o q=>k _ _ (.inl rfl) q,⟨o,k _ _ (.inl rfl) e⟩,st⟩
theorem Wr.lt (x:Wr P w H h)(e:H a=some o):a<h.objs.size:=(x a o e).lt
theorem Wr.fresh (x:Wr P w H h)(e:h.objs.size<=a):H a=none:=by
 cases q:H a with
 |none=>rfl
 |some u=>exact absurd (Nat.lt_of_lt_of_le (x.lt q) e) (Nat.lt_irrefl _)
theorem Wr.kept (x:Wr P w H h)(k:∀b u,h.get? b=some u->h'.get? b=some u):Wr P w H h':=fun a o e=>
 (x a o e).stay (fun b u _ q=>k b u q) (fun _ q=>q) fun _ _ q=>q
theorem Wr.laid (x:Wr P w H h)(k:∀b u,h.get? b=some u->h'.get? b=some u)(hp:h.objs.size<=a)(new:ZT P w (upd H a o) h' a o):Wr P w (upd H a o) h':=fun b u e=>by
 have hn:=x.fresh hp
 by_cases hb:b=a
 ·subst hb;rw[Zt] at e;cases e;exact new
 ·rw[Zy hb] at e
  exact (x b u e).stay (fun c v _ q=>k c v q) (fun c q=>by rw[Zy (ZA q hn)];exact q) fun c xs q=>by rw[Zy (ZA q hn)];exact q
end
def Rd (H:Hp)(a:Addr)(u:HO):Prop:=H a=some u\/∃o,H a=some (.frz o u)
theorem Rd.ok {P:Program}{w:World}{H:Hp}{h:Heap}{a:Addr}{u:HO}(r:Rd H a u)(x:Wr P w H h):ZT P w H h a u:=by
 rcases r with r|⟨o,r⟩
 ·exact x a u r
 ·obtain⟨_,q⟩:=x a _ r
  exact q
def Mut:Option HO->Prop
 |some (.lst _)=>True
 |some (.dK _)=>True
 |some (.dT _)=>True
 |some (.set _ _)=>True
 |some (.ins _ _ _)=>True
 |some (.ext _)=>True
 |_=>False
section
variable {P:Program}{w:World}{H:Hp}{h h':Heap}{x e:Addr}{o':HO}
theorem Wr.write (ok:Wr P w H h)(mu:Mut (H x))(he:e=x\/H e=some (.own x))(k:∀b u,b≠e->h.get? b=some u->h'.get? b=some u)(heo:∃u,h'.get? e=some u)
  (new:ZT P w (upd H x o') h' x o'):Wr P w (upd H x o') h':=fun b u q=>by
 have nown:∀c y,H c=some (.own y)->c≠x:=fun c y r z=>by subst z;rw[r] at mu;exact mu
 have ntup:∀c xs,H c=some (.tup xs)->c≠x:=fun c xs r z=>by subst z;rw[r] at mu;exact mu
 by_cases hb:b=x
 ·subst hb;rw[Zt] at q;cases q;exact new
 ·rw[Zy hb] at q
  by_cases hbe:b=e
  ·have q':H b=some (.own x):=by
    rcases he with z|z
    ·exact absurd (hbe.trans z) hb
    ·rw[hbe];exact z
   rw[q] at q';cases q'
   obtain⟨v,hv⟩:=heo
   exact⟨v,by rw[hbe];exact hv⟩
  ·refine (ok b u q).stay (fun c v hc r=>k c v ?_ r) (fun c r=>by rw[Zy (nown c b r)];exact r) fun c xs r=>by rw[Zy (ntup c xs r)];exact r
   rcases hc with rfl|hc
   ·exact hbe
   ·rintro rfl
    rcases he with z|z
    ·exact nown c b hc z
    ·rw[hc] at z;cases z;exact hb rfl
end
structure Un (fs ex:List Addr)(H H':Hp)(h h':Heap):Prop where
 keep:∀b o,h.get? b=some o->H b=none->b∉fs->b∉ex->h'.get? b=some o
 slot:∀b o,h.get? b=some o->H b=none->b∈fs->b∉ex->∃sl,h'.get? b=some {o with slots:=sl}
 free:∀b o,h.get? b=some o->H b=none->b∉ex->H' b=none
 there:∀b o,h.get? b=some o->b∉ex->∃o',h'.get? b=some o'
 tups:∀b xs,H b=some (.tup xs)->H' b=some (.tup xs)
 frzs:∀b o u,H b=some (.frz o u)->H' b=some (.frz o u)
 tbls:∀b ps,H b=some (.tbl ps)->∃more,H' b=some (.tbl (ps++more))
section
variable {fs fs' ex ex':List Addr}{H H1 H2:Hp}{h h1 h2 h':Heap}{a x e:Addr}{o:HO}
theorem Un.any (u:Un fs ex H H1 h h1){b:Addr}{ob:Obj}(q:h.get? b=some ob)(n:H b=none)(hx:b∉ex):∃sl,h1.get? b=some {ob with slots:=sl}:=by
 by_cases hb:b∈fs
 ·exact u.slot b ob q n hb hx
 ·exact⟨ob.slots,u.keep b ob q n hb hx⟩
theorem Un.kept (k:∀b u,h.get? b=some u->h'.get? b=some u):Un fs ex H H h h':=
 ⟨fun b ob q _ _ _=>k b ob q,fun b ob q _ _ _=>⟨ob.slots,k b ob q⟩,fun _ _ _ n _=>n,fun b ob q _=>⟨ob,k b ob q⟩,fun _ _ q=>q,fun _ _ _ q=>q,fun _ ps q=>⟨#[],by rw[q];simp⟩⟩
theorem Un.refl:Un fs ex H H h h:=Un.kept fun _ _ q=>q
theorem Un.laid (k:∀b u,h.get? b=some u->h'.get? b=some u)(hp:h.objs.size<=a)(hn:H a=none):Un fs ex H (upd H a o) h h' where
 keep:=fun b u q _ _ _=>k b u q
 slot:=fun b u q _ _ _=>⟨u.slots,k b u q⟩
 free:=fun b u q n _=>by rw[Zy (Nat.ne_of_lt (Nat.lt_of_lt_of_le (Zp q) hp))];exact n
 there:=fun b u q _=>⟨u,k b u q⟩
 tups:=fun b xs q=>by rw[Zy (ZA q hn)];exact q
 frzs:=fun b u xs q=>by rw[Zy (ZA q hn)];exact q
 tbls:=fun b ps q=>⟨#[],by rw[Zy (ZA q hn),q];simp⟩
theorem Un.write (mu:Mut (H x))(he:e=x\/H e=some (.own x))(k:∀b u,b≠e->h.get? b=some u->h'.get? b=some u)(heo:∃u,h'.get? e=some u):Un fs ex H (upd H x o) h h':=by
 have hx:∀b,H b=none->b≠x:=fun b n z=>by subst z;rw[n] at mu;exact mu
 have hb:∀b,H b=none->b≠e:=fun b n z=>by
  subst z
  rcases he with r|r
  ·exact hx b n r
  ·rw[n] at r;cases r
 have hm:∀b u,H b=some u->¬Mut (some u)->b≠x:=fun b u q nm z=>by subst z;rw[q] at mu;exact nm mu
 refine⟨fun b u q n _ _=>k b u (hb b n) q,fun b u q n _ _=>⟨u.slots,k b u (hb b n) q⟩,fun b u q n _=>by rw[Zy (hx b n)];exact n,fun b u q _=>?_,
  fun b xs q=>by rw[Zy (hm b _ q fun z=>z)];exact q,fun b u xs q=>by rw[Zy (hm b _ q fun z=>z)];exact q,fun b ps q=>⟨#[],by rw[Zy (hm b _ q fun z=>z),q];simp⟩⟩
 by_cases hbe:b=e
 ·subst hbe;exact heo
 ·exact⟨u,k b u hbe q⟩
end
def trk (h:Heap)(H:Hp):List Addr:=(List.range h.objs.size).filter fun a=>(H a).isSome
def Xt (h:Heap)(H:Hp):Heap:=PySem.W.hideAll h (trk h H)
theorem Zbl (h:Heap)(H:Hp):(Xt h H).objs.size=h.objs.size:=PySem.W.hideAll_size _ _
theorem ZcK {h:Heap}{H:Hp}{b:Addr}{o:Obj}(e:h.get? b=some o)(n:H b=none):(Xt h H).get? b=some o:=
 PySem.W.hideAll_get _ e fun hm=>by
  have q:(H b).isSome=true:=(List.mem_filter.mp hm).2
  rw[n] at q;simp at q
theorem ZdT {h:Heap}{H:Hp}{b:Addr}{o:Obj}(e:(Xt h H).get? b=some o):h.get? b=some o/\H b=none:=by
 have e':h.get? b=some o:=PySem.W.of_hideAll (trk h H) e
 refine⟨e',?_⟩
 cases q:H b with
 |none=>rfl
 |some x=>
  have hm:b∈trk h H:=List.mem_filter.mpr ⟨List.mem_range.mpr (Zp e'),by simp[q]⟩
  have z:(Xt h H).get? b=none:=PySem.W.hideAll_none (trk h H) hm
  rw[z] at e;cases e
structure Mod (K:PySem.W.Frag)(mg:Str->Option Value)(base:Heap):Prop where
 kin:K.In base
 glob:base.Ns mainGlobals mg
 blt:∃mb,base.Ns builtinsNs mb/\∀x:Str,x ≠ "__name__"->mb x=bootBuiltins x
 nolimit:base.NoLimit
structure Cx where
 prog:Program
 w:World
 K:PySem.W.Frag
 mg:Str->Option Value
 base:Heap
 A:Around
 N:List Str
 s₀:Shared
 H₀:Hp
 env:Env
 outer:List Env
 stack:List Env
 ex:List Addr
 fn:Str->Bool
 calm:Bool
 pn:List (Addr×Obj)
 xe:Value->Shared->Prop
def Ul (l:List Env):List Addr:=l.filterMap (·.frame)
abbrev Cx.fs (X:Cx):List Addr:=Ul X.outer
def Vis (sc:Scope)(x:Str):Prop:=sc.names.lookup x=some .local\/sc.names.lookup x=some .cell\/sc.names.lookup x=some .free
def Loc (sc:Scope)(x:Str):Prop:=sc.names.lookup x=some .local\/sc.names.lookup x=some .cell
def Look (env:Env)(h:Heap)(m:Str->Option Value)(x:Str)(u:Value):Prop:=
 (env.kindOf x=some .local/\m x=some u)\/((env.kindOf x=some .cell\/env.kindOf x=some .free)/\∃c,env.cells.lookup x=some c/\h.IsCell c (some u))
structure Cx.Ok (X:Cx):Prop where
 mod:Mod X.K X.mg X.base
 kind:X.env.scope.kind=.function
 glob:X.env.globals=mainGlobals
 blt:X.env.builtins=builtinsNs
 above:X.s₀.heap.objs.size<=X.env.locals
 inj:∀x y c,X.env.cells.lookup x=some c->X.env.cells.lookup y=some c->x=y
 has:∀x,(X.env.kindOf x=some .cell\/X.env.kindOf x=some .free)->∃c,X.env.cells.lookup x=some c
 cab:∀x c,X.fn x=true->X.env.cells.lookup x=some c->X.s₀.heap.objs.size<=c
 hd:X.calm=true->X.A.handled=none
 frames:X.A.frames=some X.stack
 stk:X.stack=X.outer\/(X.stack=X.env::X.outer/\X.env.frame=some X.env.locals)
 exf:∀b∈X.ex,b≠X.env.locals/\∀x c,X.env.cells.lookup x=some c->c≠b
 bs:∀b o,X.base.get? b=some o->X.s₀.heap.get? b=some o/\X.H₀ b=none
 bsz:X.base.objs.size<=X.s₀.heap.objs.size
 noex:∀b o,X.base.get? b=some o->b∉X.ex
 exfs:∀b∈X.ex,b∉X.fs
 funs:X.s₀.heap.FunFrames X.base X.outer
 frf:∀b∈X.fs,X.H₀ b=none
structure Inv (X:Cx)(pins:List (Addr×Obj))(σ:List (Option V))(H:Hp)(s:Shared):Prop where
 ok:X.Ok
 os:s.os=X.s₀.os
 bare:AllBare s.gens
 base:Un X.fs X.ex X.H₀ H X.s₀.heap s.heap
 loc:∃m,s.heap.Ns X.env.locals m/\∀(i:Nat) (x:Str) (v:V),X.N[i]?=some x->σ[i]?=some (some v)->Vis X.env.scope x->∃u,RelV v u/\Look X.env s.heap m x u
 cell:∀x c,X.env.cells.lookup x=some c->∃v,s.heap.IsCell c v
 free:H X.env.locals=none
 freeC:∀x c,X.env.cells.lookup x=some c->H c=none
 pin:∀p∈X.pn++pins,s.heap.get? p.1=some p.2/\H p.1=none/\p.1≠X.env.locals/\p.1∉X.fs/\∀v,p.2.data≠.cell v
 hok:Wr X.prog X.w H s.heap
 len:σ.length=X.N.length
section
variable {X:Cx}{pins:List (Addr×Obj)}{σ:List (Option V)}{H H':Hp}{s:Shared}{h':Heap}
theorem Cx.Ok.nofr (ok:X.Ok){b:Addr}{o:Obj}(e:X.base.get? b=some o):b∉X.fs:=fun hb=>by
 have:=(ok.funs.mem hb).1
 rw[e] at this;cases this
theorem Inv.bs (I:Inv X pins σ H s):∀b o,X.base.get? b=some o->s.heap.get? b=some o/\H b=none:=fun b o e=>
 ⟨I.base.keep b o (I.ok.bs b o e).1 (I.ok.bs b o e).2 (I.ok.nofr e) (I.ok.noex b o e),I.base.free b o (I.ok.bs b o e).1 (I.ok.bs b o e).2 (I.ok.noex b o e)⟩
theorem Inv.bk (I:Inv X pins σ H s):∀b o,X.base.get? b=some o->s.heap.get? b=some o:=fun b o e=>(I.bs b o e).1
theorem Inv.mod (I:Inv X pins σ H s):Mod X.K X.mg X.base:=I.ok.mod
theorem Inv.kIn (I:Inv X pins σ H s):X.K.In s.heap:=I.ok.mod.kin.keeps I.bk
theorem Inv.lt (I:Inv X pins σ H s):X.env.locals<s.heap.objs.size:=let ⟨_,hn,_⟩:=I.loc;hn.lt
theorem Inv.sz (I:Inv X pins σ H s):X.s₀.heap.objs.size<=s.heap.objs.size:=Nat.le_trans I.ok.above (Nat.le_of_lt I.lt)
theorem Inv.nofs (I:Inv X pins σ H s){a:Addr}(h:s.heap.objs.size<=a):a∉X.fs:=fun hb=>by
 obtain⟨_,o,ho,_⟩:=I.ok.funs.mem hb
 exact absurd (Nat.lt_of_lt_of_le (Zp ho) (Nat.le_trans I.sz h)) (Nat.lt_irrefl _)
theorem Inv.cne (I:Inv X pins σ H s):∀x c,X.env.cells.lookup x=some c->c≠X.env.locals:=fun x c e z=>by
 obtain⟨v,o,ho,hd⟩:=I.cell x c e
 obtain⟨m,⟨o',es,ep,ho',hd',_⟩,_⟩:=I.loc
 rw[z,ho'] at ho;cases ho;rw[hd'] at hd;cases hd
theorem Inv.funs (I:Inv X pins σ H s):s.heap.FunFrames X.base X.outer:=by
 have all:∀(l:List Env),(∀b∈Ul l,b∈X.fs)->X.s₀.heap.FunFrames X.base l->s.heap.FunFrames X.base l:=by
  intro l
  induction l with
  |nil=>intro _ _;trivial
  |cons env r ih=>
   intro hs hl
   obtain⟨hk,⟨L,o,hf,hn,ho,hd⟩,hr⟩:=hl
   have hL:L∈X.fs:=hs L (by unfold Ul;rw[List.filterMap_cons,hf];exact List.mem_cons_self)
   obtain⟨sl,e⟩:=I.base.slot L o ho (I.ok.frf L hL) hL fun z=>I.ok.exfs L z hL
   exact⟨hk,⟨L,_,hf,hn,e,hd⟩,ih (fun b hb=>hs b (by unfold Ul;rw[List.filterMap_cons,hf];exact List.mem_cons_of_mem _ hb)) hr⟩
 exact all X.outer (fun _ hb=>hb) I.ok.funs
theorem Inv.stack (I:Inv X pins σ H s):s.heap.FunFrames X.base X.stack:=by
 rcases I.ok.stk with e|⟨e,hf⟩
 ·rw[e];exact I.funs
 ·rw[e]
  obtain⟨m,hn,_⟩:=I.loc
  refine .cons (by rw[I.ok.kind];decide) hf hn ?_ I.funs
  exact Heap.get?_none_of_le (Nat.le_trans I.ok.bsz I.ok.above)
theorem Inv.stkSub (I:Inv X pins σ H s):∀b∈Ul X.stack,b∈X.env.locals::X.fs:=fun b hb=>by
 rcases I.ok.stk with e|⟨e,hf⟩
 ·rw[e] at hb;exact List.mem_cons_of_mem _ hb
 ·rw[e] at hb
  unfold Ul at hb
  rw[List.filterMap_cons,hf] at hb
  exact hb
theorem Inv.stkFree (I:Inv X pins σ H s):∀b∈Ul X.stack,H b=none:=fun b hb=>by
 rcases List.mem_cons.mp (I.stkSub b hb) with e|hb
 ·rw[e];exact I.free
 ·obtain⟨_,o,ho,_⟩:=I.ok.funs.mem hb
  exact I.base.free b o ho (I.ok.frf b hb) fun z=>I.ok.exfs b z hb
theorem Inv.step {g':Array GenState}{t':Nat}{d':Drawn}{ch:List Addr}(I:Inv X pins σ H s)
  (hch:∀b∈ch,(b∈X.ex\/X.s₀.heap.objs.size<=b)/\b≠X.env.locals/\(∀x c,X.env.cells.lookup x=some c->c≠b)/\∀p∈X.pn++pins,p.1≠b)
  (keep:∀b o,b≠X.env.locals->b∉X.fs->b∉ch->s.heap.get? b=some o->H b=none->h'.get? b=some o)
  (slot:∀b o,b≠X.env.locals->b∈X.fs->b∉ch->s.heap.get? b=some o->H b=none->∃sl,h'.get? b=some {o with slots:=sl}) (free:∀b o,b∉ch->s.heap.get? b=some o->H b=none->H' b=none)
  (there:∀b o,b∉ch->s.heap.get? b=some o->∃o',h'.get? b=some o')
  (tups:∀b xs,H b=some (.tup xs)->H' b=some (.tup xs)) (frzs:∀b o u,H b=some (.frz o u)->H' b=some (.frz o u)) (tbls:∀b ps,H b=some (.tbl ps)->∃more,H' b=some (.tbl (ps++more)))
  (ns:∀m,s.heap.Ns X.env.locals m->h'.Ns X.env.locals m) (hok:Wr X.prog X.w H' h') (hg:AllBare g') :
  Inv X pins σ H' {s with heap:=h',gens:=g',drawn:=d',toks:=t'}:=by
 have neL:∀b o,X.s₀.heap.get? b=some o->b≠X.env.locals:=fun b o e=>Nat.ne_of_lt (Nat.lt_of_lt_of_le (Zp e) I.ok.above)
 have neC:∀b o,X.s₀.heap.get? b=some o->b∉X.ex->b∉ch:=fun b o e hx hb=>by
  rcases (hch b hb).1 with z|z
  ·exact hx z
  ·exact absurd (Nat.lt_of_lt_of_le (Zp e) z) (Nat.lt_irrefl _)
 have cellK:∀x c,X.env.cells.lookup x=some c->∀v,s.heap.IsCell c v->h'.IsCell c v:=fun x c e v ⟨o,ho,hd⟩=>by
  have nch:c∉ch:=fun z=>(hch c z).2.2.1 x c e rfl
  by_cases hc:c∈X.fs
  ·obtain⟨sl,q⟩:=slot c o (I.cne x c e) hc nch ho (I.freeC x c e)
   exact⟨_,q,hd⟩
  ·exact⟨o,keep c o (I.cne x c e) hc nch ho (I.freeC x c e),hd⟩
 refine⟨I.ok,I.os,hg,⟨fun b o e n hb hx=>?_,fun b o e n hb hx=>?_,fun b o e n hx=>?_,fun b o e hx=>?_,fun b xs e=>tups b xs (I.base.tups b xs e),fun b o xs e=>frzs b o xs (I.base.frzs b o xs e),fun b ps e=>?_⟩,?_,fun x c e=>?_,?_,fun x c e=>?_,fun p hp=>?_,hok,I.len⟩
 ·exact keep b o (neL b o e) hb (neC b o e hx) (I.base.keep b o e n hb hx) (I.base.free b o e n hx)
 ·obtain⟨sl,e1⟩:=I.base.slot b o e n hb hx
  obtain⟨sl',e2⟩:=slot b _ (neL b o e) hb (neC b o e hx) e1 (I.base.free b o e n hx)
  exact⟨sl',e2⟩
 ·obtain⟨o',e1⟩:=I.base.there b o e hx
  exact free b o' (neC b o e hx) e1 (I.base.free b o e n hx)
 ·obtain⟨o',e1⟩:=I.base.there b o e hx
  exact there b o' (neC b o e hx) e1
 ·obtain⟨m1,e1⟩:=I.base.tbls b ps e
  obtain⟨m2,e2⟩:=tbls b _ e1
  exact⟨m1++m2,by rw[e2,Array.append_assoc]⟩
 ·obtain⟨m,hn,hl⟩:=I.loc
  refine⟨m,ns m hn,fun i x v e1 e2 e3=>?_⟩
  obtain⟨u,r,l⟩:=hl i x v e1 e2 e3
  refine⟨u,r,?_⟩
  rcases l with l|⟨k,c,e,z⟩
  ·exact .inl l
  ·exact .inr ⟨k,c,e,cellK x c e _ z⟩
 ·obtain⟨v,z⟩:=I.cell x c e
  exact⟨v,cellK x c e v z⟩
 ·obtain⟨m,⟨o,_,_,ho,_⟩,_⟩:=I.loc
  exact free _ o (fun z=>(hch _ z).2.1 rfl) ho I.free
 ·obtain⟨v,o,ho,hd⟩:=I.cell x c e
  exact free c o (fun z=>(hch c z).2.2.1 x c e rfl) ho (I.freeC x c e)
 ·obtain⟨e,n,ne,nf,d⟩:=I.pin p hp
  have nch:p.1∉ch:=fun z=>(hch p.1 z).2.2.2 p hp rfl
  exact⟨keep p.1 p.2 ne nf nch e n,free p.1 p.2 nch e n,ne,nf,d⟩
theorem Inv.un {t':Nat}(I:Inv X pins σ H s)(u:Un X.fs [] H H' s.heap h')(hok:Wr X.prog X.w H' h'):Inv X pins σ H' {s with heap:=h',toks:=t'}:=by
 obtain⟨m,⟨o,es,ep,ho,r⟩,_⟩:=id I.loc
 obtain⟨sl,hL⟩:=u.any ho I.free (by simp)
 exact I.step (g':=s.gens) (d':=s.drawn) (ch:=[]) (fun _ z=>nomatch z) (fun b o _ hb _ e n=>u.keep b o e n hb (by simp)) (fun b o _ hb _ e n=>u.slot b o e n hb (by simp)) (fun b o _ e n=>u.free b o e n (by simp)) (fun b o _ e=>u.there b o e (by simp)) u.tups u.frzs u.tbls (fun m' hm=>by
  obtain⟨o',es',ep',ho',r'⟩:=hm
  rw[ho] at ho';cases ho'
  exact⟨_,es',ep',hL,r'⟩) hok I.bare
theorem Inv.call {g':Array GenState}{t':Nat}{d':Drawn}{ch:List Addr}(I:Inv X pins σ H s)(u:Un (Ul X.stack) ch H H' s.heap h')(hok:Wr X.prog X.w H' h')(hg:AllBare g')
  (hch:∀b∈ch,(b∈X.ex\/X.s₀.heap.objs.size<=b)/\b≠X.env.locals/\(∀x c,X.env.cells.lookup x=some c->c≠b)/\∀p∈X.pn++pins,p.1≠b) :
  Inv X pins σ H' {s with heap:=h',gens:=g',drawn:=d',toks:=t'}:=by
 obtain⟨m,⟨o,es,ep,ho,r⟩,_⟩:=id I.loc
 obtain⟨sl,hL⟩:=u.any ho I.free fun z=>(hch _ z).2.1 rfl
 exact I.step (ch:=ch) hch (fun b o hL hb hc e n=>u.keep b o e n (fun z=>(List.mem_cons.mp (I.stkSub b z)).elim hL hb) hc) (fun b o _ _ hc e n=>u.any e n hc) (fun b o hc e n=>u.free b o e n hc) (fun b o hc e=>u.there b o e hc) u.tups u.frzs u.tbls (fun m' hm=>by
  obtain⟨o',es',ep',ho',r'⟩:=hm
  rw[ho] at ho';cases ho'
  exact⟨_,es',ep',hL,r'⟩) hok hg
theorem Inv.turned {t':Nat}{it:Addr}(I:Inv X pins σ H s)(k:∀b o,b≠it->s.heap.get? b=some o->h'.get? b=some o)(hn:H it=none)(hL:it≠X.env.locals)
  (h1:it∈X.ex\/X.s₀.heap.objs.size<=it) (h2:∀x c,X.env.cells.lookup x=some c->c≠it) (h3:∀p∈X.pn++pins,p.1≠it):Inv X pins σ H {s with heap:=h',toks:=t'}:=by
 have nit:∀b u,H b=some u->b≠it:=fun b u e z=>by rw[z,hn] at e;cases e
 refine I.step (g':=s.gens) (d':=s.drawn) (ch:=[it]) (fun b hb=>?_) (fun b o _ _ hc e _=>k b o (fun z=>hc (by simp[z])) e) (fun b o _ _ hc e _=>⟨o.slots,k b o (fun z=>hc (by simp[z])) e⟩) (fun _ _ _ _ n=>n)
  (fun b o hc e=>⟨o,k b o (fun z=>hc (by simp[z])) e⟩) (fun _ _ e=>e) (fun _ _ _ e=>e) (fun b ps e=>⟨#[],by rw[e];simp⟩) (fun m hm=>?_) (fun b u e=>?_) I.bare
 ·have e:b=it:=by simpa using hb
  subst e
  exact⟨h1,hL,h2,h3⟩
 ·obtain⟨o,es,ep,ho,r⟩:=hm
  exact⟨o,es,ep,k _ o (Ne.symm hL) ho,r⟩
 ·refine (I.hok b u e).stay (fun c v hc q=>k c v ?_ q) (fun _ q=>q) fun _ _ q=>q
  rcases hc with z|z
  ·rw[z];exact nit b u e
  ·exact nit c _ z
theorem Inv.tok (I:Inv X pins σ H s)(t:Nat):Inv X pins σ H {s with toks:=t}:=I.un (h':=s.heap) (t':=t) Un.refl I.hok
theorem Inv.kept {t':Nat}(I:Inv X pins σ H s)(k:∀b u,s.heap.get? b=some u->h'.get? b=some u):Inv X pins σ H {s with heap:=h',toks:=t'}:=I.un (Un.kept k) (I.hok.kept k)
theorem Inv.laid {a:Addr}{o:HO}{t':Nat}(I:Inv X pins σ H s)(k:∀b u,s.heap.get? b=some u->h'.get? b=some u)(hp:s.heap.objs.size<=a)(new:ZT X.prog X.w (upd H a o) h' a o) :
  Inv X pins σ (upd H a o) {s with heap:=h',toks:=t'}:=I.un (Un.laid k hp (I.hok.fresh hp)) (I.hok.laid k hp new)
theorem Inv.write {x e:Addr}{o:HO}{t':Nat}(I:Inv X pins σ H s)(mu:Mut (H x))(he:e=x\/H e=some (.own x))(k:∀b u,b≠e->s.heap.get? b=some u->h'.get? b=some u)(heo:∃u,h'.get? e=some u)
  (new:ZT X.prog X.w (upd H x o) h' x o):Inv X pins σ (upd H x o) {s with heap:=h',toks:=t'}:=I.un (Un.write mu he k heo) (I.hok.write mu he k heo new)
theorem Inv.weak {σ':List (Option V)}(I:Inv X pins σ H s)(hl:σ'.length=σ.length)(w:∀(i:Nat) v,σ'[i]?=some (some v)->σ[i]?=some (some v)):Inv X pins σ' H s:=
 ⟨I.ok,I.os,I.bare,I.base,let ⟨m,hn,hl'⟩:=I.loc;⟨m,hn,fun i x v e1 e2 e3=>hl' i x v e1 (w i v e2) e3⟩,I.cell,I.free,I.freeC,I.pin,I.hok,hl.trans I.len⟩
theorem Inv.pins_of {pins':List (Addr×Obj)}(I:Inv X pins σ H s)(h:∀p∈pins',s.heap.get? p.1=some p.2/\H p.1=none/\p.1≠X.env.locals/\p.1∉X.fs/\∀v,p.2.data≠.cell v):Inv X pins' σ H s:=
 ⟨I.ok,I.os,I.bare,I.base,I.loc,I.cell,I.free,I.freeC,fun p hp=>(List.mem_append.mp hp).elim (fun z=>I.pin p (List.mem_append_left _ z)) (h p),I.hok,I.len⟩
theorem Xd {N:List Str}(hN:N.Nodup){i j:Nat}{x:Str}(a:N[i]?=some x)(b:N[j]?=some x):i=j:=by
 obtain⟨h1,e1⟩:=List.getElem?_eq_some_iff.mp a
 obtain⟨h2,e2⟩:=List.getElem?_eq_some_iff.mp b
 exact (List.getElem_inj hN).mp (e1.trans e2.symm)
theorem ZaW {M:Model}{A:Around}{E:Value->Shared->Prop}{i:Nat}{x:Str}{v:V}{u:Value}{Q:Unit->Shared->Prop}(I:Inv X pins σ H s)(hN:X.N.Nodup)(hi:X.N[i]?=some x)(hx:Loc X.env.scope x)(r:RelV v u)
  (h:∀s',Inv X pins (σ.set i (some v)) H s'->(∃a,Heap.SameBut a s.heap s'.heap/\(a=X.env.locals\/X.env.cells.lookup x=some a))->Q () s') (hf:X.fn x=true\/X.env.scope.names.lookup x=some .local:=by first|exact .inl rfl|exact .inr rfl|assumption):wpAny M A (storeName X.env x u) Q E s:=by
 obtain⟨m,hn,hl⟩:=id I.loc
 have hcls:(X.env.scope.kind == .class || (X.env.scope.kind == .module && X.env.locals != X.env.globals))=false:=by rw[I.ok.kind];rfl
 have hiσ:i < σ.length:=by rw[I.len];exact (List.getElem?_eq_some_iff.mp hi).1
 have cne:=I.cne
 have tracked:∀{a:Addr}{h':Heap},(∃o,s.heap.get? a=some o/\H a=none)->Heap.SameBut a s.heap h'->Wr X.prog X.w H h':=fun {a h'} ha hs b ob e=>by
  obtain⟨_,_,hfree⟩:=ha
  refine (I.hok b ob e).stay (fun c w' hc q=>(hs.2 c ?_).trans q) (fun _ q=>q) fun _ _ q=>q
  rintro rfl
  rcases hc with rfl|hc
  ·rw[hfree] at e;cases e
  ·rw[hfree] at hc;cases hc
 rcases hx with hk|hk
 ·refine wpAny_storeName_local hk hn (fun h' hn' hs=>?_) hcls
  obtain⟨oL,_,_,hoL,_⟩:=id hn
  refine h _ ⟨I.ok,I.os,I.bare,⟨fun b o e n hb hx=>?_,fun b o e n hb hx=>?_,I.base.free,fun b o e hx=>?_,I.base.tups,I.base.frzs,I.base.tbls⟩,⟨_,hn',fun j y v' e1 e2 e3=>?_⟩,fun y c e=>?_,I.free,I.freeC,fun p hp=>?_,tracked ⟨oL,hoL,I.free⟩ hs,by simpa using I.len⟩ ⟨_,hs,.inl rfl⟩
  ·exact (hs.2 b (Nat.ne_of_lt (Nat.lt_of_lt_of_le (Zp e) I.ok.above))).trans (I.base.keep b o e n hb hx)
  ·obtain⟨sl,e1⟩:=I.base.slot b o e n hb hx
   exact⟨sl,(hs.2 b (Nat.ne_of_lt (Nat.lt_of_lt_of_le (Zp e) I.ok.above))).trans e1⟩
  ·obtain⟨o',e1⟩:=I.base.there b o e hx
   exact⟨o',(hs.2 b (Nat.ne_of_lt (Nat.lt_of_lt_of_le (Zp e) I.ok.above))).trans e1⟩
  ·by_cases hj:j=i
   ·subst hj
    rw[hi] at e1;cases e1
    rw[List.getElem?_set_self hiσ] at e2
    cases e2
    exact⟨u,r,.inl ⟨hk,by simp⟩⟩
   ·rw[List.getElem?_set_ne (Ne.symm hj)] at e2
    obtain⟨u',r',q⟩:=hl j y v' e1 e2 e3
    refine⟨u',r',?_⟩
    rcases q with ⟨k,e⟩|⟨k,c,e,z⟩
    ·refine .inl ⟨k,?_⟩
     have:y≠x:=fun e=>hj (Xd hN e1 (e▸hi))
     simp[this,e]
    ·exact .inr ⟨k,c,e,z.sameBut hs (cne y c e)⟩
  ·obtain⟨w',z⟩:=I.cell y c e
   exact⟨w',z.sameBut hs (cne y c e)⟩
  ·obtain⟨e,n,ne,nf,d⟩:=I.pin p hp
   exact⟨(hs.2 p.1 ne).trans e,n,ne,nf,d⟩
 ·have hfn:X.fn x=true:=by
   rcases hf with z|z
   ·exact z
   ·rw[z] at hk;cases hk
  obtain⟨c,hc⟩:=I.ok.has x (.inl hk)
  obtain⟨w',z⟩:=I.cell x c hc
  refine wpAny_storeName_cell I.ok.kind hk hc z (fun h' hc' hs=>?_)
  obtain⟨oc,hoc,hocd⟩:=id z
  refine h {s with heap:=h'} ⟨I.ok,I.os,I.bare,⟨fun b o e n hb hx=>?_,fun b o e n hb hx=>?_,I.base.free,fun b o e hx=>?_,I.base.tups,I.base.frzs,I.base.tbls⟩,⟨m,hn.sameBut hs (Ne.symm (cne x c hc)),fun j y v' e1 e2 e3=>?_⟩,fun y c' e=>?_,I.free,I.freeC,fun p hp=>?_,tracked ⟨oc,hoc,I.freeC x c hc⟩ hs,by simpa using I.len⟩ ⟨c,hs,.inr hc⟩
  ·exact (hs.2 b (Nat.ne_of_lt (Nat.lt_of_lt_of_le (Zp e) (I.ok.cab x c hfn hc)))).trans (I.base.keep b o e n hb hx)
  ·obtain⟨sl,e1⟩:=I.base.slot b o e n hb hx
   exact⟨sl,(hs.2 b (Nat.ne_of_lt (Nat.lt_of_lt_of_le (Zp e) (I.ok.cab x c hfn hc)))).trans e1⟩
  ·obtain⟨o',e1⟩:=I.base.there b o e hx
   exact⟨o',(hs.2 b (Nat.ne_of_lt (Nat.lt_of_lt_of_le (Zp e) (I.ok.cab x c hfn hc)))).trans e1⟩
  ·by_cases hj:j=i
   ·subst hj
    rw[hi] at e1;cases e1
    rw[List.getElem?_set_self hiσ] at e2
    cases e2
    exact⟨u,r,.inr ⟨.inl hk,c,hc,hc'⟩⟩
   ·rw[List.getElem?_set_ne (Ne.symm hj)] at e2
    obtain⟨u',r',q⟩:=hl j y v' e1 e2 e3
    refine⟨u',r',?_⟩
    rcases q with q|⟨k,c',e,z'⟩
    ·exact .inl q
    ·refine .inr ⟨k,c',e,z'.sameBut hs ?_⟩
     rintro rfl
     exact hj (Xd hN e1 (I.ok.inj _ _ _ e hc▸hi))
  ·by_cases hcc:c'=c
   ·subst hcc;exact⟨_,hc'⟩
   ·obtain⟨w2,z2⟩:=I.cell y c' e
    exact⟨w2,z2.sameBut hs hcc⟩
  ·obtain⟨e,n,ne,nf,d⟩:=I.pin p hp
   refine⟨(hs.2 p.1 ?_).trans e,n,ne,nf,d⟩
   intro q
   rw[q,hoc] at e
   have q':oc=p.2:=Option.some.inj e
   exact d w' (by rw[<-q'];exact hocd)
theorem YW {M:Model}{A:Around}{E:Value->Shared->Prop}{i:Nat}{x:Str}{v:V}{u:Value}{Q:Unit->Shared->Prop}(I:Inv X pins σ H s)(hN:X.N.Nodup)(hi:X.N[i]?=some x)(hx:Loc X.env.scope x)(r:RelV v u)
  (h:∀s',Inv X pins (σ.set i (some v)) H s'->Q () s') (hf:X.fn x=true\/X.env.scope.names.lookup x=some .local:=by first|exact .inl rfl|exact .inr rfl|assumption):wpAny M A (storeName X.env x u) Q E s:=
 ZaW I hN hi hx r (fun s' I' _=>h s' I') hf
theorem Inv.call' {s':Shared}{ch:List Addr}(I:Inv X pins σ H s)(ho:s'.os=s.os)(u:Un (Ul X.stack) ch H H' s.heap s'.heap)(hok:Wr X.prog X.w H' s'.heap)(hg:AllBare s'.gens)
  (hch:∀b∈ch,(b∈X.ex\/X.s₀.heap.objs.size<=b)/\b≠X.env.locals/\(∀x c,X.env.cells.lookup x=some c->c≠b)/\∀p∈X.pn++pins,p.1≠b):Inv X pins σ H' s':=by
 obtain⟨h',g',d',t',o'⟩:=s'
 have e:o'=s.os:=ho
 subst e
 exact I.call (g':=g') (t':=t') (d':=d') u hok hg hch
end
abbrev XK:=Value->Option Addr->Hp->Prop
abbrev St:=List (Option V)
abbrev VK:=V->Hp->Prop
abbrev TE:=St->Hp->VK->Prop
abbrev TT:=St->Hp->(Bool->Hp->Prop)->Prop
abbrev TA:=St->Hp->(List V->Hp->Prop)->Prop
structure Ws where
 nx:St->Hp->Prop
 rt:VK
 bk:St->Hp->Prop:=fun _ _=>False
 ct:St->Hp->Prop:=fun _ _=>False
abbrev TS:=Ws->St->Hp->Prop
def EP (X:Cx)(pins:List (Addr×Obj))(σ:St)(Q:VK)(u:Value)(s':Shared):Prop:=∃v H',Inv X pins σ H' s'/\RelV v u/\Q v H'
def TP (X:Cx)(pins:List (Addr×Obj))(σ:St)(Q:Bool->Hp->Prop)(b:Bool)(s':Shared):Prop:=∃H',Inv X pins σ H' s'/\Q b H'
def AP (X:Cx)(pins:List (Addr×Obj))(σ:St)(Q:List V->Hp->Prop)(us:List Value)(s':Shared):Prop:=∃vs H',Inv X pins σ H' s'/\ZE vs us/\Q vs H'
def SP (X:Cx)(pins:List (Addr×Obj))(D:Ws)(f:Flow)(s':Shared):Prop:=
 match f with
 | .next=>∃ σ' H',Inv X pins σ' H' s'/\D.nx σ' H'
 | .brk=>∃ σ' H',Inv X pins σ' H' s'/\D.bk σ' H'
 | .cont=>∃ σ' H',Inv X pins σ' H' s'/\D.ct σ' H'
 | .ret u=>∃v σ' H',Inv X pins σ' H' s'/\RelV v u/\D.rt v H'
def PE (X:Cx)(e:Expr)(t:TE):Prop:=
 ∀(pins:List (Addr×Obj)) (s:Shared) (σ:St) (H:Hp) (Q:VK),Inv X pins σ H s->t σ H Q->wpAny (model X.prog X.w) X.A (eval e X.env) (EP X pins σ Q) X.xe s
def PT (X:Cx)(e:Expr)(t:TT):Prop:=
 ∀(pins:List (Addr×Obj)) (s:Shared) (σ:St) (H:Hp) (Q:Bool->Hp->Prop),Inv X pins σ H s->t σ H Q->wpAny (model X.prog X.w) X.A (isTrue e X.env (eval e X.env)) (TP X pins σ Q) X.xe s
def PW (X:Cx)(e:Expr)(t:TT):Prop:=
 ∀(whole:Sem Value) (pins:List (Addr×Obj)) (s:Shared) (σ:St) (H:Hp) (Q:Bool->Hp->Prop),Inv X pins σ H s->t σ H Q->wpAny (model X.prog X.w) X.A (isTrue e X.env whole) (TP X pins σ Q) X.xe s
theorem PW.pt {X:Cx}{e:Expr}{t:TT}(h:PW X e t):PT X e t:=h _
def PA (X:Cx)(es:List Expr)(t:TA):Prop:=
 ∀(pos:Pos) (pins:List (Addr×Obj)) (s:Shared) (σ:St) (H:Hp) (Q:List V->Hp->Prop),Inv X pins σ H s->t σ H Q->wpAny (model X.prog X.w) X.A (spliced (backTo pos (starEach es X.env))) (AP X pins σ Q) X.xe s
def PS (X:Cx)(st:Stmt)(t:TS):Prop:=
 ∀(pins:List (Addr×Obj)) (s:Shared) (σ:St) (H:Hp) (D:Ws),Inv X pins σ H s->t D σ H->wpAny (model X.prog X.w) X.A (exec st X.env) (SP X pins D) X.xe s
def Xz (X:Cx)(st:List Stmt)(t:TS):Prop:=
 ∀(pins:List (Addr×Obj)) (s:Shared) (σ:St) (H:Hp) (D:Ws),Inv X pins σ H s->t D σ H->wpAny (model X.prog X.w) X.A (execs st X.env) (SP X pins D) X.xe s
theorem Z8 {α:Type}{t:Sem α}{Q Q':α->Shared->Prop}{M:Model}{A:Around}{E:Value->Shared->Prop}{s:Shared}(h:wpAny M A t Q E s)(hQ:∀a s,Q a s->Q' a s):wpAny M A t Q' E s:=wpAny_mono h hQ fun _ _ x=>x
section
variable {X:Cx}
def Xp (i:Nat):TE:=fun σ H Q=>∃v,σ[i]?=some (some v)/\Q v H
def tC (v:V):TE:=fun _ H Q=>Q v H
theorem Zfa {i:Nat}{x:Str}{pos:Pos}(hN:X.N[i]?=some x)(hv:Vis X.env.scope x)(hd:(x == ("__debug__":Str))=false:=by decide)(hcd:(x == ("__classdict__":Str))=false:=by decide):PE X (.Name x pos) (Xp i):=by
 intro pins s σ H Q I h
 obtain⟨v,e,h⟩:=h
 obtain⟨m,hn,hl⟩:=I.loc
 obtain⟨u,r,l⟩:=hl i x v hN e hv
 have fin:EP X pins σ Q u s:=⟨v,H,I,r,h⟩
 rcases l with ⟨hk,hm⟩|⟨hk,c,hc,hcell⟩
 ·exact wpAny_Name (wpAny_loadName_local I.ok.kind hk hn hm fin) hd
 ·rcases hk with hk|hk
  ·exact wpAny_Name (wpAny_loadName_cell I.ok.kind hk hc hcell fin) hd
  ·exact wpAny_Name (wpAny_loadName_free I.ok.kind hk hc hcell fin hcd) hd
theorem Zv {i j pos}:PE X (.Constant (.int i) j pos) (tC (.int i)):=fun _ _ _ H _ I h=>wpAny_Constant_int ⟨.int i,H,I.tok _,⟨_,rfl⟩,h⟩
theorem JF {b j pos}:PE X (.Constant (.bool b) j pos) (tC (.bl b)):=fun _ _ _ H _ I h=>Constant_bool ⟨.bl b,H,I,rfl,h⟩
theorem UL {j pos}:PE X (.Constant .none j pos) (tC .non):=fun _ _ _ H _ I h=>Constant_none ⟨.non,H,I,rfl,h⟩
theorem Wx {x j pos}:PE X (.Constant (.str x) j pos) (tC (.str x)):=fun _ _ _ H _ I h=>Calls.Constant_str ⟨.str x,H,I.tok _,⟨_,rfl⟩,h⟩
def Gl (X:Cx)(x:Str):Prop:=X.env.kindOf x=some .globalImplicit
theorem WL {E:Value->Shared->Prop}{pins:List (Addr×Obj)}{s:Shared}{σ:St}{H:Hp}{x:Str}{u:Value}{pos:Pos}{Q:Value->Shared->Prop}(I:Inv X pins σ H s)(hg:Gl X x)(hm:X.mg x=some u)(h:Q u s)
  (hd:(x == ("__debug__":Str))=false:=by decide):wpAny (model X.prog X.w) X.A (eval (.Name x pos) X.env) Q E s:=
 Calls.Name_function_global I.ok.kind hg (Calls.loadGlobal_global (by rw[I.ok.glob];exact I.mod.glob.keeps I.bk) hm h) hd
theorem Xh {E:Value->Shared->Prop}{pins:List (Addr×Obj)}{s:Shared}{σ:St}{H:Hp}{x:Str}{u:Value}{pos:Pos}{Q:Value->Shared->Prop}(I:Inv X pins σ H s)(hg:Gl X x)(hm:X.mg x=none)(hv:bootBuiltins x=some u)(h:Q u s)
  (hn:x ≠ "__name__":=by decide) (hd:(x == ("__debug__":Str))=false:=by decide):wpAny (model X.prog X.w) X.A (eval (.Name x pos) X.env) Q E s:=by
 obtain⟨mb,h1,h2⟩:=I.mod.blt
 exact Calls.Name_function_global I.ok.kind hg (Calls.loadGlobal_builtin (by rw[I.ok.glob];exact I.mod.glob.keeps I.bk) hm (by rw[I.ok.blt];exact h1.keeps I.bk) ((h2 x hn).trans hv) h) hd
theorem Zas {x:Str}{v:V}{u:Value}{pos:Pos}(hg:Gl X x)(hm:X.mg x=some u)(r:RelV v u)(hd:(x == ("__debug__":Str))=false:=by decide):PE X (.Name x pos) (tC v):=
 fun _ _ _ H _ I h=>WL I hg hm ⟨v,H,I,r,h⟩ hd
theorem ZdE {x:Str}{v:V}{u:Value}{pos:Pos}(hg:Gl X x)(hm:X.mg x=none)(hv:bootBuiltins x=some u)(r:RelV v u)(hn:x ≠ "__name__":=by decide)(hd:(x == ("__debug__":Str))=false:=by decide):PE X (.Name x pos) (tC v):=
 fun _ _ _ H _ I h=>Xh I hg hm hv ⟨v,H,I,r,h⟩ hn hd
variable {a b:Expr}{ta tb:TE}{pos:Pos}
def tB (t:TE):TT:=fun σ H Q=>t σ H fun x H1=>∃c,x=.bl c/\Q c H1
theorem Js {e:Expr}{t:TE}(h:PE X e t)(he:∀whole,isTrue e X.env whole=(do let v <-whole;standAt e.pos;holding [v] (truthy v)):=by intro _;rfl):PT X e (tB t):=by
 intro pins s σ H Q I hw
 refine isTrue_plain (Z8 (h pins s σ H _ I hw) fun v s1 ⟨x,H1,I1,r1,q1⟩=>?_) (he _)
 obtain⟨d,rfl,q⟩:=q1
 cases r1
 exact wpAny_truthy_bool ⟨H1,I1,q⟩
variable {tA tB':TT}{rest:List Expr}
def ZhB (t u:TT):TT:=fun σ H Q=>t σ H fun c H1=>if c=true then u σ H1 Q else Q false H1
def tOr (t u:TT):TT:=fun σ H Q=>t σ H fun c H1=>if c=true then Q true H1 else u σ H1 Q
def Zhw (t:TT):TT:=fun σ H Q=>t σ H fun c H1=>Q (!c) H1
theorem Zdx (ha:PT X a tA):PW X (.BoolOp .And [a] pos) tA:=by
 intro wh pins s σ H Q I h
 refine isTrue_and (Z8 (ha pins s σ H Q I h) fun c s1 e=>?_)
 cases c with
 |true=>exact isTrue_and_nil e
 |false=>exact e
theorem Zcd (ha:PT X a tA):PW X (.BoolOp .Or [a] pos) tA:=by
 intro wh pins s σ H Q I h
 refine isTrue_or (Z8 (ha pins s σ H Q I h) fun c s1 e=>?_)
 cases c with
 |false=>exact isTrue_or_nil e
 |true=>exact e
theorem Ze1 (ha:PT X a tA)(hb:PW X (.BoolOp .And (b::rest) pos) tB'):PW X (.BoolOp .And (a::b::rest) pos) (ZhB tA tB'):=by
 intro wh pins s σ H Q I h
 refine isTrue_and (Z8 (ha pins s σ H _ I h) fun c s1 ⟨H1,I1,q1⟩=>?_)
 cases c with
 |true=>exact hb wh pins s1 σ H1 Q I1 q1
 |false=>exact⟨H1,I1,q1⟩
theorem Zan (ha:PT X a tA)(hb:PW X (.BoolOp .Or (b::rest) pos) tB'):PW X (.BoolOp .Or (a::b::rest) pos) (tOr tA tB'):=by
 intro wh pins s σ H Q I h
 refine isTrue_or (Z8 (ha pins s σ H _ I h) fun c s1 ⟨H1,I1,q1⟩=>?_)
 cases c with
 |true=>exact⟨H1,I1,q1⟩
 |false=>exact hb wh pins s1 σ H1 Q I1 q1
theorem Vd (ha:PT X a tA):PT X (.UnaryOp .Not a pos) (Zhw tA):=by
 intro pins s σ H Q I h
 exact isTrue_not (ha pins s σ H (fun c H1=>Q (!c) H1) I h)
def Zgh (ta tb:TE):TE:=fun σ H Q=>ta σ H fun x H1=>∃c,x=.bl c/\if c=true then tb σ H1 Q else Q (.bl false) H1
def Zgb (ta:TE):TE:=fun σ H Q=>ta σ H fun x H1=>∃c,x=.bl c/\Q (.bl (!c)) H1
theorem Vg {op}{t:TE}(h:PE X a t):PE X (.BoolOp op [a] pos) t:=fun pins s σ H Q I hw=>BoolOp_one (h pins s σ H Q I hw)
theorem Jt (ha:PE X a ta)(hb:PE X (.BoolOp .And (b::rest) pos) tb):PE X (.BoolOp .And (a::b::rest) pos) (Zgh ta tb):=by
 intro pins s σ H Q I h
 refine BoolOp_and (Z8 (ha pins s σ H _ I h) fun v s1 ⟨x,H1,I1,r1,q1⟩=>?_)
 obtain⟨c,rfl,q1⟩:=q1
 cases r1
 refine wpAny_truthy_bool ?_
 cases c with
 |true=>exact hb pins s1 σ H1 Q I1 q1
 |false=>exact⟨.bl false,H1,I1,rfl,q1⟩
theorem Zfc (ha:PE X a ta):PE X (.UnaryOp .Not a pos) (Zgb ta):=by
 intro pins s σ H Q I h
 refine UnaryOp_ (Z8 (ha pins s σ H _ I h) fun v s1 ⟨x,H1,I1,r1,q1⟩=>?_)
 obtain⟨c,rfl,q1⟩:=q1
 cases r1
 exact not_of (wpAny_truthy_bool ⟨.bl (!c),H1,I1,rfl,q1⟩)
def tIf (t:TT)(ta tb:TE):TE:=fun σ H Q=>t σ H fun c H1=>if c=true then ta σ H1 Q else tb σ H1 Q
theorem J9 {c:Expr}(hc:PT X c tA)(ha:PE X a ta)(hb:PE X b tb):PE X (.IfExp c a b pos) (tIf tA ta tb):=by
 intro pins s σ H Q I h
 refine wpAny_IfExp (Z8 (hc pins s σ H _ I h) fun d s1 ⟨H1,I1,q1⟩=>?_)
 cases d with
 |true=>exact ha pins s1 σ H1 Q I1 q1
 |false=>exact hb pins s1 σ H1 Q I1 q1
end
def Wq (K:PySem.W.Frag)(H:Hp)(a:Addr)(xs:List V):Prop:=
 Rd H a (.lst xs)\/
  ∃(o:Obj) (its:Array Value) (n:Nat),K.lookup a=some o/\o.cls=.type "list"/\o.dict=none/\o.data=.seq its n/\its.size<=sizeLine/\ZE xs its.toList
def Y9 (K:PySem.W.Frag)(H:Hp)(a:Addr)(xs:List V):Prop:=
 Rd H a (.tup xs)\/
  ∃(o:Obj) (its:Array Value) (n:Nat),K.lookup a=some o/\o.cls=.type "tuple"/\o.data=.seq its n/\its.size<=sizeLine/\ZE xs its.toList
def Zh8:Value->Option V
 | .none=>some .non
 | .bool b=>some (.bl b)
 | .int i _=>some (.int i)
 | .str x _=>some (.str x)
 | .bytes b _=>some (.byt b)
 | .float b _=>some (.flt b)
 | .ref a=>some (.ref a)
 | .type n=>some (.ty n)
 |_=>none
theorem RelV.abs {x:V}{u:Value}(r:RelV x u):Zh8 u=some x:=by
 cases x with
 |non=>cases r;rfl
 |bl _=>cases r;rfl
 |int _=>obtain⟨t,rfl⟩:=r;rfl
 |str _=>obtain⟨t,rfl⟩:=r;rfl
 |byt _=>obtain⟨t,rfl⟩:=r;rfl
 |flt _=>obtain⟨t,rfl⟩:=r;rfl
 |ref _=>cases r;rfl
 |ty _=>cases r;rfl
theorem RelV.inj {x y:V}{u:Value}(r:RelV x u)(q:RelV y u):x=y:=Option.some.inj (r.abs.symm.trans q.abs)
theorem ZE.inj:∀{xs ys:List V}{us:List Value},ZE xs us->ZE ys us->xs=ys
 |_,_,_,.nil,.nil=>rfl
 |_,_,_,.cons r t,.cons r' t'=>by rw[r.inj r',ZE.inj t t']
section
variable {X:Cx}{pins:List (Addr×Obj)}{σ:St}{H:Hp}{s:Shared}{a:Addr}{xs ys:List V}
theorem Wq.of {K:PySem.W.Frag}(h:H a=some (.lst xs)):Wq K H a xs:=.inl (.inl h)
theorem Y9.of {K:PySem.W.Frag}(h:H a=some (.tup xs)):Y9 K H a xs:=.inl (.inl h)
theorem Inv.list (I:Inv X pins σ H s)(h:Wq X.K H a xs):∃its:List Value,ZE xs its/\PlainL s.heap a its.toArray/\xs.length<=sizeLine:=by
 rcases h with h|⟨o,its,n,hk,hc,hd,hs,hz,r⟩
 ·obtain⟨z,its,n,r,e⟩:=h.ok I.hok
  exact⟨its,r,⟨_,n,e,rfl,rfl,rfl⟩,z⟩
 ·refine⟨its.toList,r,⟨o,n,I.kIn a o hk,hc,hd,by simpa using hs⟩,?_⟩
  have e:=r.length
  simp only[Zr] at e
  omega
theorem Inv.tuple (I:Inv X pins σ H s)(h:Y9 X.K H a xs):∃its:List Value,ZE xs its/\IsTup s.heap a its.toArray/\xs.length<=sizeLine:=by
 rcases h with h|⟨o,its,n,hk,hc,hs,hz,r⟩
 ·obtain⟨z,its,r,p⟩:=h.ok I.hok
  exact⟨its,r,p,z⟩
 ·refine⟨its.toList,r,⟨o,I.kIn a o hk,hc,n,by simpa using hs⟩,?_⟩
  have e:=r.length
  simp only[Zr] at e
  omega
theorem Inv.list_inj (I:Inv X pins σ H s)(h:Wq X.K H a xs)(h':Wq X.K H a ys):xs=ys:=by
 obtain⟨its,r,⟨o,n,e,_,_,d⟩,_⟩:=I.list h
 obtain⟨its',r',⟨o',n',e',_,_,d'⟩,_⟩:=I.list h'
 rw[e] at e';cases e'
 rw[d] at d'
 injection d' with d1 _
 have:its=its':=by simpa using congrArg Array.toList d1
 subst this
 exact r.inj r'
theorem Inv.tuple_inj (I:Inv X pins σ H s)(h:Y9 X.K H a xs)(h':Y9 X.K H a ys):xs=ys:=by
 obtain⟨its,r,⟨o,e,_,n,d⟩,_⟩:=I.tuple h
 obtain⟨its',r',⟨o',e',_,n',d'⟩,_⟩:=I.tuple h'
 rw[e] at e';cases e'
 rw[d] at d'
 injection d' with d1 _
 have:its=its':=by simpa using congrArg Array.toList d1
 subst this
 exact r.inj r'
end
abbrev Cx.wish (X:Cx)(E:Value->Shared->Prop):Cx:={X with xe:=E}
abbrev Cx.nox (X:Cx):Cx:=X.wish fun _ _=>False
theorem Cx.Ok.wish {X:Cx}(ok:X.Ok)(E:Value->Shared->Prop):(X.wish E).Ok:=
 ⟨ok.mod,ok.kind,ok.glob,ok.blt,ok.above,ok.inj,ok.has,ok.cab,ok.hd,ok.frames,ok.stk,ok.exf,ok.bs,ok.bsz,ok.noex,ok.exfs,ok.funs,ok.frf⟩
theorem Cx.Ok.unwish {X:Cx}{E:Value->Shared->Prop}(ok:(X.wish E).Ok):X.Ok:=
 ⟨ok.mod,ok.kind,ok.glob,ok.blt,ok.above,ok.inj,ok.has,ok.cab,ok.hd,ok.frames,ok.stk,ok.exf,ok.bs,ok.bsz,ok.noex,ok.exfs,ok.funs,ok.frf⟩
section
variable {X:Cx}{pins:List (Addr×Obj)}{σ:St}{H:Hp}{s:Shared}{E:Value->Shared->Prop}
theorem Inv.wish (I:Inv X pins σ H s)(E:Value->Shared->Prop):Inv (X.wish E) pins σ H s:=⟨I.ok.wish E,I.os,I.bare,I.base,I.loc,I.cell,I.free,I.freeC,I.pin,I.hok,I.len⟩
theorem Inv.unwish (I:Inv (X.wish E) pins σ H s):Inv X pins σ H s:=⟨I.ok.unwish,I.os,I.bare,I.base,I.loc,I.cell,I.free,I.freeC,I.pin,I.hok,I.len⟩
theorem SP.unwish {D:Ws}{f:Flow}{s':Shared}(h:SP (X.wish E) pins D f s'):SP X pins D f s':=by
 cases f with
 |next=>obtain⟨σ',H',I,q⟩:=h;exact⟨σ',H',I.unwish,q⟩
 |brk=>obtain⟨σ',H',I,q⟩:=h;exact⟨σ',H',I.unwish,q⟩
 |cont=>obtain⟨σ',H',I,q⟩:=h;exact⟨σ',H',I.unwish,q⟩
 |ret u=>obtain⟨v,σ',H',I,r,q⟩:=h;exact⟨v,σ',H',I.unwish,r,q⟩
theorem Xz.nox {st:List Stmt}{t:TS}(h:Xz X.nox st t):Xz X st t:=fun pins s σ H D I hw=>
 wpAny_mono (h pins s σ H D (I.wish _) hw) (fun _ _ q=>q.unwish) fun _ _ z=>False.elim z
end
section
variable {X:Cx}{st:Stmt}{rest:List Stmt}{t u:TS}{e:Expr}{te:TE}{pos:Pos}
def Zgd:TS:=fun D σ H=>D.nx σ H
def ZbO (t u:TS):TS:=fun D σ H=>t {D with nx:=u D} σ H
theorem ZY:Xz X [] Zgd:=fun _ _ σ H _ I h=>wpAny_execs_nil ⟨σ,H,I,h⟩
theorem Zu (h1:PS X st t)(h2:Xz X rest u):Xz X (st::rest) (ZbO t u):=by
 intro pins s σ H D I h
 refine wpAny_execs_cons (Z8 (h1 pins s σ H {D with nx:=u D} I h) fun f s1 q=>?_)
 cases f with
 |next=>
  obtain⟨σ',H',I',q⟩:=q
  exact h2 pins s1 σ' H' D I' q
 |ret v=>exact q
 |brk=>exact q
 |cont=>exact q
theorem Zx (h1:PS X st t):Xz X [st] t:=by
 intro pins s σ H D I h
 refine wpAny_execs_cons (Z8 (h1 pins s σ H D I h) fun f s1 q=>?_)
 cases f with
 |next=>exact wpAny_execs_nil q
 |ret v=>exact q
 |brk=>exact q
 |cont=>exact q
theorem Inv.quiet {pins:List (Addr×Obj)}{σ:St}{H:Hp}{s:Shared}(I:Inv X pins σ H s):interactive X.env=false:=by simp[interactive,I.ok.kind]
def Zgf (te:TE):TS:=fun D σ H=>te σ H fun _ H1=>D.nx σ H1
theorem Z0 (he:PE X e te)(hs:swapsWith e none pos.line X.env=pure false:=by rfl):PS X (.Expr e pos) (Zgf te):=by
 intro pins s σ H D I h
 exact wpAny_Expr_any (Z8 (he pins s σ H _ I h) fun v s1 ⟨x,H1,I1,r1,q1⟩=>⟨σ,H1,I1,q1⟩) I.quiet hs
def Zf8 (te:TE):TS:=fun D σ H=>te σ H D.rt
theorem ZF (he:PE X e te):PS X (.Return (some e) pos) (Zf8 te):=by
 intro pins s σ H D I h
 exact wpAny_Return_some (Z8 (he pins s σ H _ I h) fun v s1 ⟨x,H1,I1,r1,q1⟩=>⟨x,σ,H1,I1,r1,q1⟩)
def Zge (c:TT)(t u:TS):TS:=fun D σ H=>c σ H fun b H1=>if b=true then t D σ H1 else u D σ H1
theorem YK {c:Expr}{a b:List Stmt}{tc:TT}(hc:PT X c tc)(ha:Xz X a t)(hb:Xz X b u):PS X (.If c a b pos) (Zge tc t u):=by
 intro pins s σ H D I h
 refine wpAny_If (Z8 (hc pins s σ H _ I h) fun d s1 ⟨H1,I1,q1⟩=>?_)
 cases d with
 |true=>exact ha pins s1 σ H1 D I1 q1
 |false=>exact hb pins s1 σ H1 D I1 q1
end
abbrev TG:=V->St->Hp->(St->Hp->Prop)->Prop
abbrev TGs:=List V->St->Hp->(St->Hp->Prop)->Prop
def PG (X:Cx)(target:Expr)(t:TG):Prop:=
 ∀(pins:List (Addr×Obj)) (s:Shared) (σ:St) (H:Hp) (v:V) (u:Value) (Q:St->Hp->Prop),Inv X pins σ H s->RelV v u->t v σ H Q->
  wpAny (model X.prog X.w) X.A (assign target X.env u) (fun _ s'=>∃ σ' H',Inv X pins σ' H' s'/\Q σ' H') X.xe s
def PGs (X:Cx)(ts:List Expr)(t:TGs):Prop:=
 ∀(pins:List (Addr×Obj)) (s:Shared) (σ:St) (H:Hp) (vs:List V) (us:List Value) (Q:St->Hp->Prop),Inv X pins σ H s->ZE vs us->t vs σ H Q->
  wpAny (model X.prog X.w) X.A (assignInOrder ((assignEach ts X.env).map (·.2)) us) (fun _ s'=>∃ σ' H',Inv X pins σ' H' s'/\Q σ' H') X.xe s
abbrev ZfQ:=V->V->V->Hp->(Hp->Prop)->Prop
def Zg0 (X:Cx)(t:ZfQ):Prop:=
 ∀(pins:List (Addr×Obj)) (s:Shared) (σ:St) (H:Hp) (o i v:V) (ov iv u:Value) (Q:Hp->Prop),Inv X pins σ H s->RelV o ov->RelV i iv->RelV v u->t o i v H Q->
  wpAny (model X.prog X.w) X.A (setItem ov iv u) (fun _ s'=>∃H',Inv X pins σ H' s'/\Q H') X.xe s
section
variable {X:Cx}{pos:Pos}
def Z9 (i:Nat):TG:=fun v σ H Q=>Q (σ.set i (some v)) H
theorem Zaq {i:Nat}{x:Str}(hN:X.N.Nodup)(hi:X.N[i]?=some x)(hx:Loc X.env.scope x)(hf:X.fn x=true\/X.env.scope.names.lookup x=some .local:=by first|exact .inl rfl|exact .inr rfl|assumption):PG X (.Name x pos) (Z9 i):=by
 intro pins s σ H v u Q I r h
 exact wpAny_assign_Name (YW I hN hi hx r (fun s' I'=>⟨_,H,I',h⟩) hf)
def Zd3:TGs:=fun vs σ H Q=>vs=[]/\Q σ H
def JJ (t:TG)(u:TGs):TGs:=fun vs σ H Q=>∃v r,vs=v::r/\t v σ H fun σ' H'=>u r σ' H' Q
theorem Zap:PGs X [] Zd3:=by
 intro pins s σ H vs us Q I r h
 obtain⟨e,h⟩:=h
 subst e
 cases r
 exact assignInOrder_nil ⟨σ,H,I,h⟩
theorem Ww {e:Expr}{es:List Expr}{t:TG}{u:TGs}(h1:PG X e t)(h2:PGs X es u)
  (hs:(assignEach (e::es) X.env).map (·.2)=assign e X.env::(assignEach es X.env).map (·.2):=by rfl):PGs X (e::es) (JJ t u):=by
 intro pins s σ H vs us Q I r h
 obtain⟨v,vr,e1,h⟩:=h
 subst e1
 cases r with
 |cons r rr=>
  rw[hs]
  refine assignInOrder_cons (Z8 (h1 pins s σ H _ _ _ I r h) fun _ s1 ⟨σ1,H1,I1,q1⟩=>?_)
  exact h2 pins s1 σ1 H1 _ _ Q I1 rr q1
def Zd2 (K:PySem.W.Frag)(n:Nat)(t:TGs):TG:=fun v σ H Q=>∃a xs,v=.ref a/\Y9 K H a xs/\xs.length=n/\t xs σ H Q
theorem Zck {es:List Expr}{k:Nat}{t:TGs}{n:Nat}(hc:X.calm=true)(h:PGs X es t)
  (hn:(assignEach es X.env).length=n:=by rfl) (hst:(assignEach es X.env).findIdx? (·.1)=none:=by rfl):PG X (.Tuple es k pos) (Zd2 X.K n t):=by
 intro pins s σ H v u Q I r hw
 obtain⟨a,xs,e1,hq,hl,hw⟩:=hw
 subst e1
 cases r
 obtain⟨its,rv,ht,hz⟩:=I.tuple hq
 refine assign_Tuple_tuple (I.ok.hd hc) ht (by simp[hn,<-hl,rv.length]) hst fun h' hx=>?_
 have I1:Inv X pins σ H {s with heap:=h'}:=I.kept (t':=s.toks) fun b o e=>hx b o (Nat.ne_of_lt (Zp e)) e
 exact h pins _ σ H xs _ Q I1 (by simpa using rv) hw
def Zh0 (to ti:TE)(t:ZfQ):TG:=fun v σ H Q=>to σ H fun o H1=>ti σ H1 fun i H2=>t o i v H2 fun H3=>Q σ H3
theorem Vf {o i:Expr}{to ti:TE}{t:ZfQ}(ho:PE X o to)(hi:PE X i ti)(hs:Zg0 X t)
  (ha:∀v,assign (.Subscript o i pos) X.env v=(do
   let ov <-holding [v] (eval o X.env)
   let iv <-holding [v,ov] (eval i X.env)
   standAt pos
   holding [v,ov,iv] (setItem ov iv v)
   release [v,ov,iv] []):=by intro _;rfl):PG X (.Subscript o i pos) (Zh0 to ti t):=by
 intro pins s σ H v u Q I r h
 rw[ha]
 refine Zl (wpAny_holding (Z8 (ho pins s σ H _ I h) fun ov s1 ⟨x,H1,I1,r1,q1⟩=>?_))
 refine Zl (wpAny_holding (Z8 (hi pins s1 σ H1 _ I1 q1) fun iv s2 ⟨y,H2,I2,r2,q2⟩=>?_))
 refine Zl (wpAny_standAt (Zl (wpAny_holding (Z8 (hs pins s2 σ H2 x y v ov iv u _ I2 r1 r2 r q2) fun _ s3 ⟨H3,I3,q3⟩=>?_))))
 exact wpAny_release ⟨σ,H3,I3,q3⟩
def Uu (te:TE)(g:TG):TS:=fun D σ H=>te σ H fun x H1=>g x σ H1 D.nx
theorem J7 {tg e:Expr}{te:TE}{g:TG}(he:PE X e te)(hg:PG X tg g)(hs:swapsWithSole [tg] e pos.line X.env=pure false:=by rfl)(hw:swappedStores [tg] e X.env=pure none:=by rfl)
  (h1:(assignEach [tg] X.env).map (·.2)=[assign tg X.env]:=by rfl):PS X (.Assign [tg] e pos) (Uu te g):=by
 intro pins s σ H D I h
 refine wpAny_Assign_stores (Z8 (he pins s σ H _ I h) fun v s1 ⟨x,H1,I1,r1,q1⟩=>?_) hs hw
 rw[h1]
 exact Z8 (hg pins s1 σ H1 x v _ I1 r1 q1) fun _ s2 q=>q
theorem Ze6 {i:Nat}{x:Str}{e:Expr}{te:TE}{pos':Pos}(hN:X.N.Nodup)(hi:X.N[i]?=some x)(hx:Loc X.env.scope x)(he:PE X e te)(hs:swapsWith e (some (.Name x pos')) pos.line X.env=pure false:=by rfl)(hf:X.fn x=true\/X.env.scope.names.lookup x=some .local:=by first|exact .inl rfl|exact .inr rfl|assumption) :
  PS X (.Assign [.Name x pos'] e pos) (Uu te (Z9 i)):=by
 intro pins s σ H D I h
 refine wpAny_Assign_Name (Z8 (he pins s σ H _ I h) fun v s1 ⟨y,H1,I1,r1,q1⟩=>?_) hs
 exact YW I1 hN hi hx r1 (fun s2 I2=>⟨_,H1,I2,q1⟩) hf
def Zga (i j:Nat)(ta:TA):TS:=fun D σ H=>ta σ H fun vs H1=>∃v w,vs=[v,w]/\D.nx ((σ.set i (some v)).set j (some w)) H1
theorem Ze7 {i j:Nat}{x y:Str}{a b:Expr}{ta:TA}{px py pt:Pos}{kt k2 pt2}(hc:X.calm=true)(hN:X.N.Nodup)(hi:X.N[i]?=some x)(hj:X.N[j]?=some y)(hij:i≠j)
  (hx:X.env.scope.names.lookup x=some .local) (hy:X.env.scope.names.lookup y=some .local) (ha:PA X [a,b] ta)
  (hw:swappedStores [.Tuple [.Name x px,.Name y py] kt pt] (.Tuple [a,b] k2 pt2) X.env=pure (some [x,y]))
  (hs:swapsWithSole [.Tuple [.Name x px,.Name y py] kt pt] (.Tuple [a,b] k2 pt2) pos.line X.env=pure false:=by rfl) :
  PS X (.Assign [.Tuple [.Name x px,.Name y py] kt pt] (.Tuple [a,b] k2 pt2) pos) (Zga i j ta):=by
 intro pins s σ H D I h
 rw[exec_Assign_arm]
 refine Zl (wpAny_standAt ?_)
 rw[hs]
 refine Zl (Zm ?_)
 rw[if_neg (by decide)]
 refine Zl (Tuple_ (Z8 (ha _ pins s σ H _ I h) fun us s1 ⟨vs,H1,I1,r1,q1⟩=>?_))
 obtain⟨v,w,e1,q1⟩:=q1
 subst e1
 obtain⟨u1,u2,rfl,rv,rw'⟩:∃u1 u2,us=[u1,u2]/\RelV v u1/\RelV w u2:=by
  cases r1 with
  |cons p q=>
   cases q with
   |cons p' q'=>
    cases q'
    exact⟨_,_,rfl,p,p'⟩
 refine wpAny_newObj_type ?_ (by show 2<=sizeLine;decide)
 have I2:Inv X pins σ H1 {s1 with heap:=s1.heap.push {cls:=.type "tuple",data:=.seq [u1,u2].toArray}}:=I1.kept (t':=s1.toks) fun b o e=>Zn _ e
 rw[hw]
 refine Zl (Zm ?_)
 show wpAny (model X.prog X.w) X.A (do rule "assign.swapped-stores";let items <-unpackItems (.ref s1.heap.objs.size) 2 none;assignInOrder [fun v=>bindName X.env y v,fun v=>bindName X.env x v] items.reverse;pure Flow.next) _ _ _
 refine Zl (wpAny_rule (Zl (unpackItems_tuple (items:=#[u1,u2]) (I.ok.hd hc) (IsTup.new s1.heap _) fun h' hx'=>?_)))
 have I3:=I2.kept (h':=h') (t':=s1.toks) fun b o e=>hx' b o (Nat.ne_of_lt (Zp e)) e
 show wpAny _ _ (assignInOrder [fun v=>bindName X.env y v,fun v=>bindName X.env x v] [u2,u1] >>= fun _=>pure Flow.next) _ _ _
 refine Zl (assignInOrder_cons (wpAny_bindName (YW I3 hN hj (.inl hy) rw' (fun s2 I4=>?_) (.inr hy))))
 refine assignInOrder_cons (wpAny_bindName (YW I4 hN hi (.inl hx) rv (fun s3 I5=>assignInOrder_nil (Zm ?_)) (.inr hx)))
 rw[List.set_comm _ _ (Ne.symm hij)] at I5
 exact⟨_,H1,I5,q1⟩
end
section
variable {X:Cx}{pos:Pos}
def ZbN (c:TT)(tb:TS):TS:=fun D σ H=>∃W:Nat->St->Hp->Prop,(∃m,W m σ H)/\∀m σ H,W m σ H->
 c σ H fun b H1=>if b=true then ∃N:St->Hp->Prop,(∀ σ' H',N σ' H'->∃m',m'<m/\W m' σ' H')/\tb {D with nx:=N,ct:=N,bk:=D.nx} σ H1 else D.nx σ H1
theorem VM {c:Expr}{body:List Stmt}{tc:TT}{tb:TS}(hp:PassesOwn (model X.prog X.w) X.A X.env X.xe)(hc:PT X c tc)(hb:Xz X body tb):PS X (.While c body [] pos) (ZbN tc tb):=by
 intro pins s σ H D I h
 obtain⟨W,⟨m0,w0⟩,turn⟩:=h
 refine wpAny_While (codeAny_whileLoop (fun n s'=>∃ σ' H',Inv X pins σ' H' s'/\W n σ' H') ?_ m0 ⟨σ,H,I,w0⟩)
 rintro n s1 ⟨σ1,H1,I1,w1⟩
 refine wpAny_passesOwn hp (Z8 (hc pins s1 σ1 H1 _ I1 (turn n σ1 H1 w1)) fun b s2 ⟨H2,I2,q2⟩=>?_)
 cases b with
 |true=>
  obtain⟨N,hN,q2⟩:=q2
  rw[if_pos rfl]
  refine wpAny_passesOwn hp (Z8 (hb pins s2 σ1 H2 _ I2 q2) fun f s3 q3=>?_)
  cases f with
  |next=>
   obtain⟨σ3,H3,I3,n3⟩:=q3
   obtain⟨m',hm,w3⟩:=hN σ3 H3 n3
   exact⟨m',hm,σ3,H3,I3,w3⟩
  |cont=>
   obtain⟨σ3,H3,I3,n3⟩:=q3
   obtain⟨m',hm,w3⟩:=hN σ3 H3 n3
   exact⟨m',hm,σ3,H3,I3,w3⟩
  |brk=>exact q3
  |ret v=>exact q3
 |false=>
  rw[if_neg Bool.false_ne_true]
  exact wpAny_execs_nil ⟨σ1,H2,I2,q2⟩
end
structure It where
 go:Nat->Hp->Prop
 yld:Nat->Hp->V->Hp->Prop
 stop:Nat->Hp->Prop
def XA (X:Cx)(pins:List (Addr×Obj))(H:Hp)(b:Addr):Prop:=
 H b=none/\b≠X.env.locals/\b∉X.fs/\(b∈X.ex\/X.s₀.heap.objs.size<=b)/\(∀x c,X.env.cells.lookup x=some c->c≠b)/\∀p∈X.pn++pins,p.1≠b
theorem Inv.fpOk {X:Cx}{pins:List (Addr×Obj)}{σ:St}{H H':Hp}{s:Shared}{b:Addr}(I:Inv X pins σ H s)(hb:s.heap.objs.size<=b)(hn:H' b=none):XA X pins H' b:=by
 refine⟨hn,Nat.ne_of_gt (Nat.lt_of_lt_of_le I.lt hb),I.nofs hb,.inr (Nat.le_trans I.sz hb),fun x c e z=>?_,fun p hp z=>?_⟩
 ·obtain⟨v,q⟩:=I.cell x c e
  exact absurd (Nat.lt_of_lt_of_le q.lt (by rw[z];exact hb)) (Nat.lt_irrefl _)
 ·exact absurd (Nat.lt_of_lt_of_le (Zp (I.pin p hp).1) (by rw[z];exact hb)) (Nat.lt_irrefl _)
structure Zaa (P:Program)(w:World)(K:PySem.W.Frag)(tg:Expr)(J:It)(fp:List Addr)(it:Addr)(tn:Nat->Heap->Prop):Prop where
 mem:it∈fp
 obj:∀i h,tn i h->∀b∈fp,∃o,h.get? b=some o/\∀v,o.data≠.cell v
 keep:∀i h h',tn i h->(∀b∈fp,∀o,h.get? b=some o->h'.get? b=some o)->tn i h'
 item:∀(X:Cx),X.prog=P->X.w=w->X.K=K->X.calm=true->∀(i:Nat) (pins:List (Addr×Obj)) (s:Shared) (σ:St) (H:Hp) (E:Value->Shared->Prop),Inv X pins σ H s->(∀b∈fp,XA X pins H b)->tn i s.heap->J.go i H->
  wpAny (model P w) X.A (pyNext (.ref it)) (fun r s1=>∃u,r=some u/\
   wpAny (model P w) X.A (letOwnedTupleGo tg (.ref it) u) (fun _ s2=>∃x H',Inv X pins σ H' s2/\RelV x u/\J.yld i H x H'/\tn (i+1) s2.heap/\∀b∈fp,H' b=none) E s1) E s
 done:∀(X:Cx),X.prog=P->X.w=w->X.K=K->X.calm=true->∀(i:Nat) (pins:List (Addr×Obj)) (s:Shared) (σ:St) (H:Hp) (E:Value->Shared->Prop),Inv X pins σ H s->(∀b∈fp,XA X pins H b)->tn i s.heap->J.stop i H->
  wpAny (model P w) X.A (pyNext (.ref it)) (fun r s1=>r=none/\Inv X pins σ H s1) E s
 self:∀(A:Around) (i:Nat) (s:Shared) (Q:Value->Shared->Prop) (E:Value->Shared->Prop),tn i s.heap->Q (.ref it) s->wpAny (model P w) A (pyIter (.ref it)) Q E s
abbrev TI:=St->Hp->(It->Hp->Prop)->Prop
def PIE (X:Cx)(pins:List (Addr×Obj))(σ:St)(tg:Expr)(R:It->Hp->Prop)(itv:Value)(s2:Shared):Prop:=
 ∃(it:Addr) (fp:List Addr) (tn:Nat->Heap->Prop) (J:It) (H':Hp),itv=.ref it/\Inv X pins σ H' s2/\Zaa X.prog X.w X.K tg J fp it tn/\tn 0 s2.heap/\(∀b∈fp,XA X pins H' b)/\R J H'
def PI (X:Cx)(tg iter:Expr)(wi:TI):Prop:=
 ∀(pins:List (Addr×Obj)) (s:Shared) (σ:St) (H:Hp) (R:It->Hp->Prop),Inv X pins σ H s->wi σ H R->
  wpAny (model X.prog X.w) X.A (eval iter X.env) (fun v s1=>wpAny (model X.prog X.w) X.A (pyIter v) (PIE X pins σ tg R) X.xe s1) X.xe s
theorem ZcL {M:Model}{A:Around}{E:Value->Shared->Prop}{s:Shared}{tg:Expr}{it:Addr}{u:Value}{o:Obj}{n:String}{vs:Array Value}{Q:Unit->Shared->Prop}(ho:s.heap.get? it=some o)(hc:o.cls=.type n)(hd:o.data=.fields vs)
    (hn:["enumerate", "zip", "dict_itemiterator", "dict_reverseitemiterator", "odict_iterator", "itertools.zip_longest", "itertools.pairwise"].contains n=false) (hQ:Q () s):wpAny M A (letOwnedTupleGo tg (.ref it) u) Q E s:=by
  unfold letOwnedTupleGo
  cases tg <;> first
    |exact Zm hQ
    |(cases u <;> first
        |exact Zm hQ
        | (refine Zl (wpAny_load ho ?_)
           rw[hc,hd]
           show wpAny M A (if (["enumerate", "zip", "dict_itemiterator", "dict_reverseitemiterator", "odict_iterator", "itertools.zip_longest", "itertools.pairwise"].contains n && vs[0]? == some (rawInt _))=true then _ else _) Q E s
           rw[if_neg (by intro h;rw[hn,Bool.false_and] at h;cases h)]
           exact Zm hQ))
def Itl (K:PySem.W.Frag)(a:Addr):It:=
 ⟨fun i H=>∃xs x,Wq K H a xs/\xs[i]?=some x,fun i H x H'=>H'=H/\∀xs,Wq K H a xs->xs[i]?=some x,fun i H=>∃xs,Wq K H a xs/\xs.length<=i⟩
def Itt (K:PySem.W.Frag)(a:Addr):It:=
 ⟨fun i H=>∃xs x,Y9 K H a xs/\xs[i]?=some x,fun i H x H'=>H'=H/\∀xs,Y9 K H a xs->xs[i]?=some x,fun i H=>∃xs,Y9 K H a xs/\xs.length<=i⟩
def Itr (lo:Int)(n:Nat):It:=⟨fun i _=>i<n,fun i H x H'=>H'=H/\x=.int (lo+i),fun i _=>n<=i⟩
theorem ZaU {P:Program}{w:World}{K:PySem.W.Frag}{tg:Expr}(a it:Addr):Zaa P w K tg (Itl K a) [it] it (fun i h=>h.IsListIter it a i) where
 mem:=by simp
 obj:=fun i h st b hb=>by
  have e:b=it:=by simpa using hb
  subst e
  obtain⟨o,e,c,d⟩:=st
  exact⟨o,e,fun v z=>by rw[d] at z;cases z⟩
 keep:=fun i h h' st k=>st.at fun o e=>k it (by simp) o e
 item:=by
  intro X hP hw hK hc i pins s σ H E I hf st hg
  subst hP hw hK
  obtain⟨xs,x,hq,hx⟩:=hg
  obtain⟨its,rv,p,hz⟩:=I.list hq
  obtain⟨u,hu,ru⟩:=rv.get hx
  obtain⟨f0,f1,f2,f3,f4,f5⟩:=hf it (by simp)
  refine wpAny_pyNext_list_item st p.isList (x:=u) (by simpa using hu) fun h' st' sb=>?_
  have I1:Inv X pins σ H {s with heap:=h'}:=I.turned (t':=s.toks) (fun b o hb e=>(sb.2 b hb).trans e) f0 f1 f3 f4 f5
  obtain⟨o,e,c,d⟩:=id st'
  exact⟨u,rfl,ZcL (s:={s with heap:=h'}) e c d (by decide) ⟨x,H,I1,ru,⟨rfl,fun ys hy=>by rw[I.list_inj hy hq];exact hx⟩,st',fun b hb=>(hf b hb).1⟩⟩
 done:=by
  intro X hP hw hK hc i pins s σ H E I hf st hg
  subst hP hw hK
  obtain⟨xs,hq,hx⟩:=hg
  obtain⟨its,rv,p,hz⟩:=I.list hq
  obtain⟨f0,f1,f2,f3,f4,f5⟩:=hf it (by simp)
  have hl:=rv.length
  exact wpAny_pyNext_list_end (I.ok.hd hc) st p.isList (by simp;omega) fun h' eb=>⟨rfl,I.turned (t':=s.toks) (fun b o hb e=>eb b o hb e) f0 f1 f3 f4 f5⟩
 self:=fun _ _ _ _ _ st h=>wpAny_pyIter_listiter st h
theorem Up {P:Program}{w:World}{K:PySem.W.Frag}{tg:Expr}(a it:Addr):Zaa P w K tg (Itt K a) [it] it (fun i h=>h.IsTupleIter it a i) where
 mem:=by simp
 obj:=fun i h st b hb=>by
  have e:b=it:=by simpa using hb
  subst e
  obtain⟨o,e,c,d⟩:=st
  exact⟨o,e,fun v z=>by rw[d] at z;cases z⟩
 keep:=fun i h h' st k=>st.at fun o e=>k it (by simp) o e
 item:=by
  intro X hP hw hK hc i pins s σ H E I hf st hg
  subst hP hw hK
  obtain⟨xs,x,hq,hx⟩:=hg
  obtain⟨its,rv,p,hz⟩:=I.tuple hq
  obtain⟨u,hu,ru⟩:=rv.get hx
  obtain⟨f0,f1,f2,f3,f4,f5⟩:=hf it (by simp)
  refine wpAny_pyNext_tuple_item st (show s.heap.IsTuple a its.toArray from p) (x:=u) (by simpa using hu) fun h' st' sb=>?_
  have I1:Inv X pins σ H {s with heap:=h'}:=I.turned (t':=s.toks) (fun b o hb e=>(sb.2 b hb).trans e) f0 f1 f3 f4 f5
  obtain⟨o,e,c,d⟩:=id st'
  exact⟨u,rfl,ZcL (s:={s with heap:=h'}) e c d (by decide) ⟨x,H,I1,ru,⟨rfl,fun ys hy=>by rw[I.tuple_inj hy hq];exact hx⟩,st',fun b hb=>(hf b hb).1⟩⟩
 done:=by
  intro X hP hw hK hc i pins s σ H E I hf st hg
  subst hP hw hK
  obtain⟨xs,hq,hx⟩:=hg
  obtain⟨its,rv,p,hz⟩:=I.tuple hq
  obtain⟨f0,f1,f2,f3,f4,f5⟩:=hf it (by simp)
  have hl:=rv.length
  exact wpAny_pyNext_tuple_end (I.ok.hd hc) st (show s.heap.IsTuple a its.toArray from p) (by simp;omega) fun h' eb=>⟨rfl,I.turned (t':=s.toks) (fun b o hb e=>eb b o hb e) f0 f1 f3 f4 f5⟩
 self:=fun _ _ _ _ _ st h=>wpAny_pyIter_tupleiter st h
theorem Uq {P:Program}{w:World}{K:PySem.W.Frag}{tg:Expr}(it:Addr)(lo:Int)(n:Nat):Zaa P w K tg (Itr lo n) [it] it (fun i h=>IsRangeIter h it (lo+(i:Nat)*1) ((n:Int)-(i:Nat)) 1) where
 mem:=by simp
 obj:=fun i h st b hb=>by
  have e:b=it:=by simpa using hb
  subst e
  exact⟨_,st,fun v z=>by
   have z':Data.fields _=Data.cell v:=z
   cases z'⟩
 keep:=fun i h h' st k=>k it (by simp) _ st
 item:=by
  intro X hP hw hK hc i pins s σ H E I hf st hg
  subst hP hw hK
  obtain⟨f0,f1,f2,f3,f4,f5⟩:=hf it (by simp)
  have W:=Walks.range (prog:=X.prog) (w:=X.w) (I.ok.hd hc) it lo 1 n
  refine W.item i s _ _ hg st fun v h' tk hv st' kk=>?_
  obtain⟨t,rfl⟩:=hv
  have I1:Inv X pins σ H {s with heap:=h',toks:=tk}:=I.turned (fun b o hb e=>kk b o (by simpa using hb) e) f0 f1 f3 f4 f5
  refine⟨_,rfl,ZcL (s:={s with heap:=h',toks:=tk}) (n:="range_iterator") st' rfl rfl (by decide) ⟨.int (lo+i),H,I1,⟨t,?_⟩,⟨rfl,rfl⟩,st',fun b hb=>(hf b hb).1⟩⟩
  rw[Int.mul_one]
 done:=by
  intro X hP hw hK hc i pins s σ H E I hf st hg
  subst hP hw hK
  obtain⟨f0,f1,f2,f3,f4,f5⟩:=hf it (by simp)
  exact wpAny_pyNext_range_end (I.ok.hd hc) st (by have:n<=i:=hg;omega) fun h' eb=>⟨rfl,I.turned (t':=s.toks) (fun b o hb e=>eb b o hb e) f0 f1 f3 f4 f5⟩
 self:=fun _ _ _ _ _ st h=>wpAny_pyIter_rangeiter st h
section
variable {X:Cx}{tg:Expr}
def Zey (K:PySem.W.Frag)(tl:TE):TI:=fun σ H R=>tl σ H fun x H1=>∃a,x=.ref a/\(∃xs,Wq K H1 a xs)/\R (Itl K a) H1
def ZgS (K:PySem.W.Frag)(tl:TE):TI:=fun σ H R=>tl σ H fun x H1=>∃a,x=.ref a/\(∃xs,Y9 K H1 a xs)/\R (Itt K a) H1
theorem Zdz {l:Expr}{tl:TE}(hl:PE X l tl):PI X tg l (Zey X.K tl):=by
 intro pins s σ H R I h
 refine Z8 (hl pins s σ H _ I h) fun v s1 ⟨x,H1,I1,r1,q1⟩=>?_
 obtain⟨a,e,⟨xs,hq⟩,q⟩:=q1
 subst e
 cases r1
 obtain⟨its,rv,p,hz⟩:=I1.list hq
 refine wpAny_pyIter_list p.isList ?_
 refine⟨s1.heap.objs.size,[s1.heap.objs.size],_,_,H1,rfl,I1.kept (t':=s1.toks) fun b o e=>Zn _ e,ZaU a _,⟨_,Zo _ rfl,rfl,rfl⟩,fun b hb=>?_,q⟩
 have e:b=s1.heap.objs.size:=by simpa using hb
 subst e
 exact I1.fpOk (Zq _) (I1.hok.fresh (Zq _))
theorem Ze9 {l:Expr}{tl:TE}(hl:PE X l tl):PI X tg l (ZgS X.K tl):=by
 intro pins s σ H R I h
 refine Z8 (hl pins s σ H _ I h) fun v s1 ⟨x,H1,I1,r1,q1⟩=>?_
 obtain⟨a,e,⟨xs,hq⟩,q⟩:=q1
 subst e
 cases r1
 obtain⟨its,rv,p,hz⟩:=I1.tuple hq
 refine wpAny_pyIter_tuple (show s1.heap.IsTuple a its.toArray from p) ?_
 refine⟨s1.heap.objs.size,[s1.heap.objs.size],_,_,H1,rfl,I1.kept (t':=s1.toks) fun b o e=>Zn _ e,Up a _,⟨_,Zo _ rfl,rfl,rfl⟩,fun b hb=>?_,q⟩
 have e:b=s1.heap.objs.size:=by simpa using hb
 subst e
 exact I1.fpOk (Zq _) (I1.hok.fresh (Zq _))
theorem Zb9 {pins:List (Addr×Obj)}{σ:St}{H:Hp}{s:Shared}{R:It->Hp->Prop}{E:Value->Shared->Prop}{lo hi:Int}{t u v:Tok}{tk:Nat}(I:Inv X pins σ H s)(h1:-(2 ^ 62)<=lo)(h2:lo<2 ^ 62)(h3:-(2 ^ 62)<=hi)(h4:hi<2 ^ 62)
  (q:R (Itr lo (hi-lo).toNat) H):wpAny (model X.prog X.w) X.A (pyIter (.ref s.heap.objs.size)) (PIE X pins σ tg R) E {s with heap:=s.heap.push {cls:=.type "range",data:=.fields #[.int lo t,.int hi u,.int 1 v]},toks:=tk}:=by
 refine wpAny_pyIter_range (IsRange.new ..) (small_one h1 h2 h3 h4) ?_
 have I1:Inv X pins σ H {s with heap:=s.heap.push {cls:=.type "range",data:=.fields #[.int lo t,.int hi u,.int 1 v]},toks:=tk}:=I.kept fun b o e=>Zn _ e
 refine⟨(s.heap.push {cls:=.type "range",data:=.fields #[.int lo t,.int hi u,.int 1 v]}).objs.size,[(s.heap.push {cls:=.type "range",data:=.fields #[.int lo t,.int hi u,.int 1 v]}).objs.size],_,_,H,rfl,
  I1.kept (t':=tk) fun b o e=>Zn _ e,Uq _ lo (hi-lo).toNat,?_,fun b hb=>?_,q⟩
 ·have e1:lo+((0:Nat):Int)*1=lo:=by simp
  have e2:(((hi-lo).toNat:Nat):Int)-((0:Nat):Int)=Builtin.Range.rangeSize lo hi 1:=by rw[rangeSize_one];split <;> omega
  show IsRangeIter _ _ (lo+((0:Nat):Int)*1) ((((hi-lo).toNat:Nat):Int)-((0:Nat):Int)) 1
  rw[e1,e2]
  exact Zo _ rfl
 ·have e:b=(s.heap.push {cls:=.type "range",data:=.fields #[.int lo t,.int hi u,.int 1 v]}).objs.size:=by simpa using hb
  subst e
  exact I1.fpOk (Zq _) (I1.hok.fresh (Zq _))
def Zex (ta:TA):TI:=fun σ H R=>ta σ H fun vs H1=>∃j:Int,vs=[.int j]/\-(2 ^ 62)<=j/\j<2 ^ 62/\R (Itr 0 j.toNat) H1
theorem Za5 {a:Expr}{ta:TA}{p pos:Pos}(hg:Gl X "range")(hm:X.mg "range"=none)(ha:PA X [a] ta)(hs:starEach [a] X.env=[(false,eval a X.env)]:=by rfl):PI X tg (.Call (.Name "range" p) [a] [] pos) (Zex ta):=by
 intro pins s σ H R I h
 refine Call_ (Xh I hg hm boot_range (PyProof.Rows.callWith_type1 (Z8 (ha pos pins s σ H _ I h) fun us s1 ⟨vs,H1,I1,r1,q1⟩=>?_) hs rfl))
 obtain⟨j,e,q1,q2,q⟩:=q1
 subst e
 cases r1 with
 |cons r rr=>
  cases rr
  obtain⟨t,rfl⟩:=r
  exact call_range_1 (Zb9 I1 (by omega) (by omega) q1 q2 (by simpa using q))
def Zhy (wi:TI)(g:TG)(tb:TS):TS:=fun D σ H=>wi σ H fun J H1=>∃W:Nat->Nat->St->Hp->Prop,(∃m,W 0 m σ H1)/\∀i m σ H,W i m σ H->
 (J.stop i H/\D.nx σ H)\/(J.go i H/\∃N:St->Hp->Prop,(∀ σ' H',N σ' H'->∃m',m'<m/\W (i+1) m' σ' H')/\∀x H',J.yld i H x H'->g x σ H' fun σ2 H2=>tb {D with nx:=N,ct:=N,bk:=D.nx} σ2 H2)
def J8 (fp:List Addr)(h:Heap):List (Addr×Obj):=fp.filterMap fun b=>(h.get? b).map fun o=>(b,o)
theorem Wj {fp:List Addr}{h:Heap}{b:Addr}{o:Obj}(hb:b∈fp)(e:h.get? b=some o):(b,o)∈J8 fp h:=List.mem_filterMap.mpr ⟨b,hb,by rw[e];rfl⟩
theorem Zba {fp:List Addr}{h:Heap}{p:Addr×Obj}(hp:p∈J8 fp h):p.1∈fp/\h.get? p.1=some p.2:=by
 obtain⟨b,hb,e⟩:=List.mem_filterMap.mp hp
 cases q:h.get? b with
 |none=>rw[q] at e;cases e
 |some o=>
  rw[q] at e
  have e':(b,o)=p:=Option.some.inj e
  subst e'
  exact⟨hb,q⟩
theorem Inv.pinned {pins:List (Addr×Obj)}{σ:St}{H:Hp}{s:Shared}{fp:List Addr}(I:Inv X pins σ H s)(hf:∀b∈fp,XA X pins H b)(ho:∀b∈fp,∃o,s.heap.get? b=some o/\∀v,o.data≠.cell v):Inv X (pins++J8 fp s.heap) σ H s:=
 I.pins_of fun p hp=>(List.mem_append.mp hp).elim (fun z=>I.pin p (List.mem_append_right _ z)) fun z=>by
  obtain⟨hb,e⟩:=Zba z
  obtain⟨f0,f1,f2,_⟩:=hf p.1 hb
  obtain⟨o,e',d⟩:=ho p.1 hb
  rw[e] at e';cases e'
  exact⟨e,f0,f1,f2,d⟩
theorem Inv.unpinned {pins pl:List (Addr×Obj)}{σ:St}{H:Hp}{s:Shared}(I:Inv X (pins++pl) σ H s):Inv X pins σ H s:=I.pins_of fun p hp=>I.pin p (List.mem_append_right _ (List.mem_append_left _ hp))
theorem Z3 {iter:Expr}{body:List Stmt}{wi:TI}{g:TG}{tb:TS}{pos:Pos}(hp:PassesOwn (model X.prog X.w) X.A X.env X.xe)(hc:X.calm=true)(hi:PI X tg iter wi)(hg:PG X tg g)(hb:Xz X body tb)
  (hs:∀x,foldedSetIterable iter X.env x=pure x:=by intro _;rfl):PS X (.For tg iter body [] pos) (Zhy wi g tb):=by
 intro pins s σ H D I h
 refine wpAny_For (Z8 (hi pins s σ H _ I h) fun v s1 h1=>Z8 h1 fun itv s2 h2=>?_) hs
 obtain⟨it,fp,tn,J,H2,e,I2,T,st2,f2,W,⟨m0,w0⟩,turn⟩:=h2
 subst e
 have stat:∀{H':Hp},(∀b∈fp,H' b=none)->∀b∈fp,XA X pins H' b:=fun hn b hb=>⟨hn b hb,(f2 b hb).2⟩
 refine codeAny_forLoop_any (fun n s'=>∃i σ' H',Inv X pins σ' H' s'/\tn i s'.heap/\(∀b∈fp,H' b=none)/\W i n σ' H') ?_ m0 ⟨0,σ,H2,I2,st2,fun b hb=>(f2 b hb).1,w0⟩
 rintro n s3 ⟨i,σ3,H3,I3,st3,fr3,w3⟩
 rcases turn i n σ3 H3 w3 with ⟨stop,qn⟩|⟨go,N,hN,step⟩
 ·refine wpAny_passesOwn hp (Z8 (T.done X rfl rfl rfl hc i pins s3 σ3 H3 X.xe I3 (stat fr3) st3 stop) fun r s4 ⟨hr,I4⟩=>?_)
  subst hr
  exact wpAny_execs_nil ⟨σ3,H3,I4,qn⟩
 ·refine wpAny_passesOwn hp (Z8 (T.item X rfl rfl rfl hc i pins s3 σ3 H3 X.xe I3 (stat fr3) st3 go) fun r s4 ⟨u,hr,h4⟩=>?_)
  subst hr
  refine wpAny_passesOwn hp (Z8 h4 fun _ s5 ⟨x,H5,I5,r5,y5,st5,fr5⟩=>?_)
  have I5':=I5.pinned (stat fr5) (T.obj _ _ st5)
  refine wpAny_passesOwn hp (Z8 (hg _ s5 σ3 H5 x u _ I5' r5 (step x H5 y5)) fun _ s6 ⟨σ6,H6,I6,q6⟩=>?_)
  refine wpAny_passesOwn hp (Z8 (hb _ s6 σ6 H6 _ I6 q6) fun f s7 q7=>?_)
  have again:∀{σ7:St}{H7:Hp},Inv X (pins++J8 fp s5.heap) σ7 H7 s7->N σ7 H7->∃m,m<n/\∃i σ' H',Inv X pins σ' H' s7/\tn i s7.heap/\(∀b∈fp,H' b=none)/\W i m σ' H':=fun {σ7 H7} I7 n7=>by
   obtain⟨m',hm,w7⟩:=hN σ7 H7 n7
   refine⟨m',hm,i+1,σ7,H7,I7.unpinned,T.keep _ _ _ st5 fun b hb o e=>(I7.pin (b,o) (List.mem_append_right _ (List.mem_append_right _ (Wj hb e)))).1,fun b hb=>?_,w7⟩
   obtain⟨o,e,d⟩:=T.obj _ _ st5 b hb
   exact (I7.pin (b,o) (List.mem_append_right _ (List.mem_append_right _ (Wj hb e)))).2.1
  cases f with
  |next=>obtain⟨σ7,H7,I7,n7⟩:=q7;exact again I7 n7
  |cont=>obtain⟨σ7,H7,I7,n7⟩:=q7;exact again I7 n7
  |brk=>obtain⟨σ7,H7,I7,q7⟩:=q7;exact⟨σ7,H7,I7.unpinned,q7⟩
  |ret v=>obtain⟨x7,σ7,H7,I7,r7,q7⟩:=q7;exact⟨x7,σ7,H7,I7.unpinned,r7,q7⟩
end
theorem Z7 {lo:Int}{n:Nat}{g:TG}{tb:TS}{D:Ws}{σ:St}{H:Hp}(Pv:Nat->St->Hp->Prop)(h0:Pv 0 σ H)
  (hs:∀i σ H,i<n->Pv i σ H->g (.int (lo+i)) σ H fun σ2 H2=>tb {D with nx:=Pv (i+1),ct:=Pv (i+1),bk:=D.nx} σ2 H2) (hd:∀ σ H,Pv n σ H->D.nx σ H) :
  ∃W:Nat->Nat->St->Hp->Prop,(∃m,W 0 m σ H)/\∀i m σ H,W i m σ H->
   ((Itr lo n).stop i H/\D.nx σ H)\/((Itr lo n).go i H/\∃N:St->Hp->Prop,(∀ σ' H',N σ' H'->∃m',m'<m/\W (i+1) m' σ' H')/\∀x H',(Itr lo n).yld i H x H'->g x σ H' fun σ2 H2=>tb {D with nx:=N,ct:=N,bk:=D.nx} σ2 H2):=by
 refine⟨fun i m σ H=>m=n-i/\i<=n/\Pv i σ H,⟨n,by simp,Nat.zero_le _,h0⟩,?_⟩
 rintro i m σ H ⟨rfl,hi,p⟩
 by_cases hlt:i<n
 ·refine .inr ⟨hlt,Pv (i+1),fun σ' H' p'=>⟨n-(i+1),by omega,rfl,hlt,p'⟩,fun x H' y=>?_⟩
  obtain⟨e,y⟩:=y
  subst e y
  exact hs i σ _ hlt p
 ·have e:i=n:=by omega
  subst e
  exact .inl ⟨Zq _,hd σ H p⟩
abbrev R2:=V->V->Hp->VK->Prop
def Jm (X:Cx)(f:Value->Value->Sem Value)(r:R2):Prop:=
 ∀(pins:List (Addr×Obj)) (s:Shared) (σ:St) (H:Hp) (x y:V) (v u:Value) (Q:VK),Inv X pins σ H s->RelV x v->RelV y u->r x y H Q->
  wpAny (model X.prog X.w) X.A (f v u) (EP X pins σ Q) X.xe s
def UnR (X:Cx)(f:Value->Sem Value)(r:V->Hp->VK->Prop):Prop:=
 ∀(pins:List (Addr×Obj)) (s:Shared) (σ:St) (H:Hp) (x:V) (v:Value) (Q:VK),Inv X pins σ H s->RelV x v->r x H Q->
  wpAny (model X.prog X.w) X.A (f v) (EP X pins σ Q) X.xe s
def ZN (X:Cx)(f:Value)(r:List V->Hp->VK->Prop):Prop:=
 ∀(pins:List (Addr×Obj)) (s:Shared) (σ:St) (H:Hp) (xs:List V) (us:List Value) (Q:VK),Inv X pins σ H s->ZE xs us->r xs H Q->
  wpAny (model X.prog X.w) X.A (call f us) (EP X pins σ Q) X.xe s
def XE (r:R2)(ta tb:TE):TE:=fun σ H Q=>ta σ H fun x H1=>tb σ H1 fun y H2=>r x y H2 Q
def tUn (r:V->Hp->VK->Prop)(ta:TE):TE:=fun σ H Q=>ta σ H fun x H1=>r x H1 Q
def rI (C:Int->Int->Prop)(g:Int->Int->V):R2:=fun x y H Q=>∃i j,x=.int i/\y=.int j/\C i j/\Q (g i j) H
def rI0 (g:Int->Int->V):R2:=fun x y H Q=>∃i j,x=.int i/\y=.int j/\Q (g i j) H
def rU (g:Int->V):V->Hp->VK->Prop:=fun x H Q=>∃i,x=.int i/\Q (g i) H
section
variable {X:Cx}{a b c:Expr}{ta tb tc:TE}{pos:Pos}
theorem ZfM (ha:PE X a ta)(hb:PE X b tb){pins:List (Addr×Obj)}{s:Shared}{σ:St}{H:Hp}{R:V->V->Hp->Prop}(I:Inv X pins σ H s)
  (h:ta σ H fun x H1=>tb σ H1 fun y H2=>R x y H2) {Q:Value->Shared->Prop}{f:Value->Value->Sem Value}
  (hf:∀v u s2 x y H2,Inv X pins σ H2 s2->RelV x v->RelV y u->R x y H2->wpAny (model X.prog X.w) X.A (f v u) Q X.xe s2) :
  wpAny (model X.prog X.w) X.A (eval a X.env) (fun v s₁=>wpAny (model X.prog X.w) X.A (eval b X.env) (fun u s₂=>wpAny (model X.prog X.w) X.A (f v u) Q X.xe s₂) X.xe s₁) X.xe s:=by
 refine Z8 (ha pins s σ H _ I h) fun v s1 ⟨x,H1,I1,r1,q1⟩=>?_
 refine Z8 (hb pins s1 σ H1 _ I1 q1) fun u s2 ⟨y,H2,I2,r2,q2⟩=>?_
 exact hf v u s2 x y H2 I2 r1 r2 q2
theorem Zz {op:Operator}{r:R2}(ho:Jm X (binaryOp op) r)(ha:PE X a ta)(hb:PE X b tb):PE X (.BinOp a op b pos) (XE r ta tb):=by
 intro pins s σ H Q I h
 exact wpAny_BinOp (ZfM ha hb I h fun v u s2 x y H2 I2 rx ry q=>ho pins s2 σ H2 x y v u Q I2 rx ry q)
theorem Zar {op:UnaryOp}{r:V->Hp->VK->Prop}(ho:UnR X (unaryOp op) r)(ha:PE X a ta):PE X (.UnaryOp op a pos) (tUn r ta):=by
 intro pins s σ H Q I h
 exact UnaryOp_ (Z8 (ha pins s σ H _ I h) fun v s1 ⟨x,H1,I1,r1,q1⟩=>ho pins s1 σ H1 x v Q I1 r1 q1)
theorem opI {f:Value->Value->Sem Value}{C:Int->Int->Prop}{g:Int->Int->Int}
  (rule:∀(i j:Int) (t u:Tok) (s:Shared) (Q:Value->Shared->Prop) (E:Value->Shared->Prop),C i j->Q (.int (g i j) s.toks) {s with toks:=s.toks+1}->wpAny (model X.prog X.w) X.A (f (.int i t) (.int j u)) Q E s) :
  Jm X f (rI C fun i j=>.int (g i j)):=by
 intro pins s σ H x y v u Q I rx ry h
 obtain⟨i,j,rfl,rfl,hc,q⟩:=h
 obtain⟨t,rfl⟩:=rx
 obtain⟨t',rfl⟩:=ry
 exact rule i j t t' s _ _ hc ⟨.int (g i j),H,I.tok _,⟨_,rfl⟩,q⟩
theorem ZgI {f:Value->Value->Sem Value}{g:Int->Int->Int}
  (rule:∀(i j:Int) (t u:Tok) (s:Shared) (Q:Value->Shared->Prop) (E:Value->Shared->Prop),Q (.int (g i j) s.toks) {s with toks:=s.toks+1}->wpAny (model X.prog X.w) X.A (f (.int i t) (.int j u)) Q E s) :
  Jm X f (rI0 fun i j=>.int (g i j)):=by
 intro pins s σ H x y v u Q I rx ry h
 obtain⟨i,j,rfl,rfl,q⟩:=h
 obtain⟨t,rfl⟩:=rx
 obtain⟨t',rfl⟩:=ry
 exact rule i j t t' s _ _ ⟨.int (g i j),H,I.tok _,⟨_,rfl⟩,q⟩
theorem ZdL {f:Value->Value->Sem Value}{g:Int->Int->Bool}
  (rule:∀(i j:Int) (t u:Tok) (s:Shared) (Q:Value->Shared->Prop) (E:Value->Shared->Prop),Q (.bool (g i j)) s->wpAny (model X.prog X.w) X.A (f (.int i t) (.int j u)) Q E s) :
  Jm X f (rI0 fun i j=>.bl (g i j)):=by
 intro pins s σ H x y v u Q I rx ry h
 obtain⟨i,j,rfl,rfl,q⟩:=h
 obtain⟨t,rfl⟩:=rx
 obtain⟨t',rfl⟩:=ry
 exact rule i j t t' s _ _ ⟨.bl (g i j),H,I,rfl,q⟩
def Zig (i j:Int):Prop:=0<j/\j<1073741824
def Zif (i j:Int):Prop:=0<=j/\j<=1000000/\i.natAbs<2 ^ 64
def Zad (i j:Int):Prop:=(-(2 ^ 64)<i/\i<2 ^ 64)\/(-(2 ^ 64)<j/\j<2 ^ 64)
theorem Zad.ok {i j:Int}(h:Zad i j):IntMulOk i j:=by
 rcases h with ⟨h1,h2⟩|⟨h1,h2⟩
 ·exact .of_left (intBits_le_64 h1 h2)
 ·exact .of_right (intBits_le_64 h1 h2)
theorem ZZ:Jm X (binaryOp .Add) (rI0 fun i j=>.int (i+j)):=ZgI fun _ _ _ _ _ _ _ q=>add_int q
theorem Xb:Jm X (binaryOp .Sub) (rI0 fun i j=>.int (i-j)):=ZgI fun _ _ _ _ _ _ _ q=>sub_int q
theorem ZR:Jm X (binaryOp .Mult) (rI Zad fun i j=>.int (i*j)):=opI fun _ _ _ _ _ _ _ hc q=>mul_int q hc.ok
theorem Y3:Jm X (binaryOp .FloorDiv) (rI Zig fun i j=>.int (i / j)):=opI fun i j _ _ _ _ _ hc q=>by
 have h1:(0:Int)<j:=hc.1
 have h2:j<1073741824:=hc.2
 exact floordiv_int (by omega) (by rw[Int.fdiv_eq_ediv_of_nonneg i (by omega)];exact q) (.inl (PyProof.noPylong_small (by omega)))
theorem Z4:Jm X (binaryOp .Mod) (rI (fun _ j=>0<j) fun i j=>.int (i % j)):=opI fun i j _ _ _ _ _ hc q=>by
 have h1:(0:Int)<j:=hc
 exact mod_int' (by omega) (by rw[Int.fmod_eq_emod_of_nonneg i (by omega)];exact q)
theorem Zff:Jm X (binaryOp .Pow) (rI Zif fun i j=>.int (i ^ j.toNat)):=opI fun _ _ _ _ _ _ _ hc q=>pow_int_small hc.1 hc.2.1 hc.2.2 q
theorem unI {f:Value->Sem Value}{g:Int->Int}
  (rule:∀(i:Int) (t:Tok) (s:Shared) (Q:Value->Shared->Prop) (E:Value->Shared->Prop),Q (.int (g i) s.toks) {s with toks:=s.toks+1}->wpAny (model X.prog X.w) X.A (f (.int i t)) Q E s) :
  UnR X f (rU fun i=>.int (g i)):=by
 intro pins s σ H x v Q I rx h
 obtain⟨i,rfl,q⟩:=h
 obtain⟨t,rfl⟩:=rx
 exact rule i t s _ _ ⟨.int (g i),H,I.tok _,⟨_,rfl⟩,q⟩
theorem X0:UnR X (unaryOp .USub) (rU fun i=>.int (-i)):=unI fun _ _ _ _ _ q=>neg_int q
end
def Zgj:V->V->Bool
 | .non,.non=>true | .non,.int _=>true | .int _,.non=>true | .non,.bl _=>true | .bl _,.non=>true | .non,.str _=>true | .str _,.non=>true
 | .int _,.int _=>true | .bl _,.bl _=>true | .str _,.str _=>true | .byt _,.byt _=>true
 | .int _,.str _=>true | .str _,.int _=>true | .bl _,.str _=>true | .str _,.bl _=>true
 |_,_=>false
def rEq:R2:=fun x y H Q=>Zgj x y=true/\Q (.bl (decide (x=y))) H
def rNe:R2:=fun x y H Q=>Zgj x y=true/\Q (.bl (!decide (x=y))) H
theorem ZaI {i j:Int}:decide (V.int i=V.int j)=(i == j):=by
 rw[Bool.eq_iff_iff]
 simp
theorem ZcZ {i j:Bool}:decide (V.bl i=V.bl j)=(i == j):=by
 rw[Bool.eq_iff_iff]
 simp
theorem ZaH {i j:Str}:decide (V.str i=V.str j)=(i == j):=by
 rw[Bool.eq_iff_iff]
 simp
theorem ZaJ {i j:Array UInt8}:decide (V.byt i=V.byt j)=(i.toList == j.toList):=by
 rw[Bool.eq_iff_iff]
 cases i
 cases j
 simp
section
variable {X:Cx}{a b c:Expr}{ta tb tc:TE}{pos:Pos}
theorem ZJ {pins:List (Addr×Obj)}{σ:St}{H:Hp}{s:Shared}{Q:VK}{k k':Bool}(I:Inv X pins σ H s)(q:Q (.bl k) H)(e:k=k'):EP X pins σ Q (.bool k') s:=by
 subst e
 exact⟨.bl k,H,I,rfl,q⟩
theorem JG:Jm X (compareOp .Eq) rEq:=by
 intro pins s σ H x y v u Q I rx ry h
 obtain⟨hs,q⟩:=h
 cases x with
 |non=>
  cases rx
  cases y with
  |non=>cases ry;exact PySem.EqNone.eq_none_none (ZJ I q (by simp))
  |bl j=>cases ry;exact PySem.EqNone.eq_none_bool (ZJ I q (by simp))
  |int j=>obtain⟨t',rfl⟩:=ry;exact PySem.EqNone.eq_none_int (ZJ I q (by simp))
  |str j=>obtain⟨t',rfl⟩:=ry;exact PySem.EqNone.eq_none_str (ZJ I q (by simp))
  |_=>exact absurd (show false=true from hs) Bool.false_ne_true
 |bl i=>
  cases rx
  cases y with
  |non=>cases ry;exact PySem.EqNone.eq_bool_none (ZJ I q (by simp))
  |bl j=>cases ry;exact eq_bool (ZJ I q ZcZ)
  |str j=>obtain⟨t',rfl⟩:=ry;exact PySem.EqMixed.eq_bool_str (ZJ I q (by simp))
  |_=>exact absurd (show false=true from hs) Bool.false_ne_true
 |int i=>
  obtain⟨t,rfl⟩:=rx
  cases y with
  |non=>cases ry;exact PySem.EqNone.eq_int_none (ZJ I q (by simp))
  |int j=>obtain⟨t',rfl⟩:=ry;exact eq_int (ZJ I q ZaI)
  |str j=>obtain⟨t',rfl⟩:=ry;exact PySem.EqMixed.eq_int_str (ZJ I q (by simp))
  |_=>exact absurd (show false=true from hs) Bool.false_ne_true
 |str i=>
  obtain⟨t,rfl⟩:=rx
  cases y with
  |non=>cases ry;exact PySem.EqNone.eq_str_none (ZJ I q (by simp))
  |bl j=>cases ry;exact PySem.EqMixed.eq_str_bool (ZJ I q (by simp))
  |int j=>obtain⟨t',rfl⟩:=ry;exact PySem.EqMixed.eq_str_int (ZJ I q (by simp))
  |str j=>obtain⟨t',rfl⟩:=ry;exact eq_str (ZJ I q ZaH)
  |_=>exact absurd (show false=true from hs) Bool.false_ne_true
 |byt i=>
  obtain⟨t,rfl⟩:=rx
  cases y with
  |byt j=>obtain⟨t',rfl⟩:=ry;exact PySem.W.eq_bytes (ZJ I q ZaJ)
  |_=>exact absurd (show false=true from hs) Bool.false_ne_true
 |_=>cases y <;> exact absurd (show false=true from hs) Bool.false_ne_true
theorem VS:Jm X (compareOp .NotEq) rNe:=by
 intro pins s σ H x y v u Q I rx ry h
 obtain⟨hs,q⟩:=h
 cases x with
 |non=>
  cases rx
  cases y with
  |non=>cases ry;exact PySem.EqNone.ne_none_none (ZJ I q (by simp))
  |bl j=>cases ry;exact PySem.EqNone.ne_none_bool (ZJ I q (by simp))
  |int j=>obtain⟨t',rfl⟩:=ry;exact PySem.EqNone.ne_none_int (ZJ I q (by simp))
  |str j=>obtain⟨t',rfl⟩:=ry;exact PySem.EqNone.ne_none_str (ZJ I q (by simp))
  |_=>exact absurd (show false=true from hs) Bool.false_ne_true
 |bl i=>
  cases rx
  cases y with
  |non=>cases ry;exact PySem.EqNone.ne_bool_none (ZJ I q (by simp))
  |bl j=>cases ry;exact ne_bool (ZJ I q (congrArg not ZcZ))
  |str j=>obtain⟨t',rfl⟩:=ry;exact PySem.EqMixed.ne_bool_str (ZJ I q (by simp))
  |_=>exact absurd (show false=true from hs) Bool.false_ne_true
 |int i=>
  obtain⟨t,rfl⟩:=rx
  cases y with
  |non=>cases ry;exact PySem.EqNone.ne_int_none (ZJ I q (by simp))
  |int j=>obtain⟨t',rfl⟩:=ry;exact ne_int (ZJ I q (congrArg not ZaI))
  |str j=>obtain⟨t',rfl⟩:=ry;exact PySem.EqMixed.ne_int_str (ZJ I q (by simp))
  |_=>exact absurd (show false=true from hs) Bool.false_ne_true
 |str i=>
  obtain⟨t,rfl⟩:=rx
  cases y with
  |non=>cases ry;exact PySem.EqNone.ne_str_none (ZJ I q (by simp))
  |bl j=>cases ry;exact PySem.EqMixed.ne_str_bool (ZJ I q (by simp))
  |int j=>obtain⟨t',rfl⟩:=ry;exact PySem.EqMixed.ne_str_int (ZJ I q (by simp))
  |str j=>obtain⟨t',rfl⟩:=ry;exact ne_str (ZJ I q (congrArg not ZaH))
  |_=>exact absurd (show false=true from hs) Bool.false_ne_true
 |byt i=>
  obtain⟨t,rfl⟩:=rx
  cases y with
  |byt j=>obtain⟨t',rfl⟩:=ry;exact PySem.W.ne_bytes (ZJ I q (congrArg not ZaJ))
  |_=>exact absurd (show false=true from hs) Bool.false_ne_true
 |_=>cases y <;> exact absurd (show false=true from hs) Bool.false_ne_true
theorem XJ:Jm X (compareOp .Lt) (rI0 fun i j=>.bl (decide (i<j))):=ZdL fun _ _ _ _ _ _ _ q=>lt_int q
theorem ZgG:Jm X (compareOp .LtE) (rI0 fun i j=>.bl (decide (i<=j))):=ZdL fun _ _ _ _ _ _ _ q=>le_int q
theorem XL:Jm X (compareOp .Gt) (rI0 fun i j=>.bl (decide (j<i))):=ZdL fun _ _ _ _ _ _ _ q=>gt_int q
theorem ZgH:Jm X (compareOp .GtE) (rI0 fun i j=>.bl (decide (j<=i))):=ZdL fun _ _ _ _ _ _ _ q=>ge_int q
theorem ZS (b:Expr){op:CmpOp}(h:op≠.In:=by decide)(h2:op≠.NotIn:=by decide):behindInMarks op b=false:=by
 have e1:(op == CmpOp.In)=false:=by cases op <;> first|rfl|exact absurd rfl h
 have e2:(op == CmpOp.NotIn)=false:=by cases op <;> first|rfl|exact absurd rfl h2
 cases b <;> simp[behindInMarks,e1,e2]
theorem JW {op:CmpOp}{r:R2}(ho:Jm X (compareOp op) r)(ha:PE X a ta)(hb:PE X b tb)(hm:behindInMarks op b=false):PE X (.Compare a [op] [b] pos) (XE r ta tb):=by
 intro pins s σ H Q I h
 exact wpAny_Compare1 (ZfM ha hb I h fun v u s2 x y H2 I2 rx ry q=>ho pins s2 σ H2 x y v u Q I2 rx ry q) hm
def Zf7 (t:TE):TT:=fun σ H Q=>t σ H fun x H'=>∃k,x=.bl k/\Q k H'
theorem ZL {op:CmpOp}{r:R2}(ho:Jm X (compareOp op) r)(ha:PE X a ta)(hb:PE X b tb)(hm:behindInMarks op b=false):PT X (.Compare a [op] [b] pos) (Zf7 (XE r ta tb)):=by
 intro pins s σ H Q I h
 refine wpAny_isTrue_Compare1 (Z8 (ha pins s σ H _ I h) fun v s1 ⟨x,H1,I1,r1,q1⟩=>Z8 (hb pins s1 σ H1 _ I1 q1) fun u s2 ⟨y,H2,I2,r2,q2⟩=>
  Z8 (ho pins s2 σ H2 x y v u _ I2 r1 r2 q2) fun c s3 ⟨z,H3,I3,r3,k,e,q3⟩=>?_) hm
 subst e
 cases r3
 exact wpAny_truthy_bool ⟨H3,I3,q3⟩
def ZeN (r r':R2)(ta tb tc:TE):TE:=fun σ H Q=>ta σ H fun x H1=>tb σ H1 fun y H2=>r x y H2 fun z H3=>∃k,z=.bl k/\
 (if k=true then tc σ H3 fun w' H4=>r' y w' H4 Q else Q (.bl false) H3)
theorem Zcl {op op':CmpOp}{r r':R2}(ho:Jm X (compareOp op) r)(ho':Jm X (compareOp op') r')(ha:PE X a ta)(hb:PE X b tb)(hc:PE X c tc)
  (hm:lastMarks [op,op'] [b,c]=false:=by with_unfolding_all rfl):PE X (.Compare a [op,op'] [b,c] pos) (ZeN r r' ta tb tc):=by
 intro pins s σ H Q I h
 refine Compare_chain (Z8 (ha pins s σ H _ I h) fun v s1 ⟨x,H1,I1,r1,q1⟩=>chain_link (Z8 (hb pins s1 σ H1 _ I1 q1) fun u s2 ⟨y,H2,I2,r2,q2⟩=>
  Z8 (ho pins s2 σ H2 x y v u _ I2 r1 r2 q2) fun d s3 ⟨z,H3,I3,r3,k,e,q3⟩=>?_)) hm
 subst e
 cases r3
 refine wpAny_truthy_bool ?_
 cases k with
 |false=>exact ite_ff ⟨.bl false,H3,I3,rfl,q3⟩
 |true=>exact ite_tt (chain_last (Z8 (hc pins s3 σ H3 _ I3 q3) fun w' s4 ⟨z',H4,I4,r4,q4⟩=>ho' pins s4 σ H4 y z' u w' Q I4 r2 r4 q4))
theorem Xg:(sizeLine:Nat)<2 ^ 63:=by rw[sizeLine_eq];decide
theorem vals1 {x:V}{us:List Value}(r:ZE [x] us):∃u,us=[u]/\RelV x u:=by
 cases r with
 |cons r1 r2=>cases r2;exact⟨_,rfl,r1⟩
theorem Ue:ZN X (.builtin "abs") (fun xs H Q=>∃i,xs=[.int i]/\Q (.int (if i<0 then -i else i)) H):=by
 intro pins s σ H xs us Q I r h
 obtain⟨i,rfl,q⟩:=h
 obtain⟨u,rfl,t,rfl⟩:=vals1 r
 exact call_abs_int fun u tk=>⟨.int (if i<0 then -i else i),H,I.tok _,⟨_,rfl⟩,q⟩
end
structure ZfS (h:Heap)(x dx C:Addr)(mA:Str->Option Value):Prop where
 obj:h.get? x=some (PySem.W.instObj C dx)
 ns:h.Ns1 dx mA
 ne:dx≠x
theorem Zbg {h:Heap}{dx:Addr}{mA:Str->Option Value}(n:h.Ns1 dx mA):∃od,h.get? dx=some od/\∀name,PySem.W.lookIn name od=some (mA name):=by
 obtain⟨o,es,ep,ho,hd,hk,_,hm⟩:=n
 refine⟨o,ho,fun name=>?_⟩
 have e:=hm name
 unfold nsFind findBy at e
 rw[<-Array.find?_toList] at e
 unfold PySem.W.lookIn
 rw[hd]
 dsimp only
 split
 ·rename_i y q
  rw[q] at e
  exact congrArg some e
 ·rename_i q
  rw[q] at e
  have a:es.toList.any (·.refKey)=false:=by
   rw[List.any_eq_false]
   intro y hy
   obtain⟨z,t,hkey⟩:=hk y (Array.mem_toList_iff.mp hy)
   simp[DictEntry.refKey,hkey]
  have a':¬es.toList.any (·.refKey)=true:=by rw[a];exact Bool.false_ne_true
  rw[if_neg a']
  exact congrArg some e
theorem ZfS.look {h:Heap}{x dx C:Addr}{mA:Str->Option Value}(I:ZfS h x dx C mA):∃od,PySem.W.InstAt h x (PySem.W.instObj C dx) C (some od)/\∀name,PySem.W.lookIn name od=some (mA name):=
 let ⟨od,ho,hl⟩:=Zbg I.ns
 ⟨od,⟨I.obj,rfl,rfl,ho⟩,hl⟩
section
variable {prog:Program}{w:World}{A:Around}{E:Value->Shared->Prop}{s:Shared}{K:PySem.W.Frag}{x dx C f:Addr}{mA:Str->Option Value}{name:Str}{v:Value}
end
theorem Xm.some_of {v:V}{o:Option Value}(r:Xm (some v) o):∃u,o=some u/\RelV v u:=by
 cases o with
 |none=>exact (show False from r).elim
 |some u=>exact⟨u,rfl,r⟩
section
variable {P:Program}{w:World}{H H':Hp}{h h':Heap}{a C dx:Addr}{fs fs':List (Str×V)}
theorem Zd1 (hok:Wr P w H h)(e:H a=some (.ins C dx fs)):∃mA,ZfS h a dx C mA/\(∀f,Xm (fs.lookup f) (mA f))/\PySem.Within mA (fs.map (·.1))/\fs.length<=1000/\H dx=some (.own a):=by
 obtain⟨d,z,ne,ob,mA,n,r,q⟩:=(show ZT P w H h a (.ins C dx fs) from hok a _ e)
 exact⟨mA,⟨ob,n,ne⟩,r,q,z,d⟩
end
structure Cls (K:PySem.W.Frag)(C:Addr):Prop where
 pg:PySem.W.plainGet K C Str.empty=true
 hd:PySem.W.hasDictIn K C=true
 po:PySem.W.plainOver K C=true
 sa:PySem.W.findIn K (.ref C) "__setattr__"=some (some (.builtin "object.__setattr__"))
theorem Cls.get {K:PySem.W.Frag}{C:Addr}(c:Cls K C)(f:Str):PySem.W.plainGet K C f=true:=c.pg
section
variable {X:Cx}{pins:List (Addr×Obj)}{σ:St}{H:Hp}{s:Shared}{a C dx:Addr}{fs:List (Str×V)}{f:Str}{v:V}{A:Around}{E:Value->Shared->Prop}
end
section
variable {X:Cx}{o e value:Expr}{f:Str}{pos pos' tpos:Pos}{ta tv:TE}
end
section
variable {X:Cx}{pins:List (Addr×Obj)}{σ:St}{H:Hp}{s:Shared}{A:Around}{E:Value->Shared->Prop}{Q:Value->Shared->Prop}{c:Value}{b:Bool}
inductive Jk (K:PySem.W.Frag) (H:Hp):V->Value->Prop where
 |non:Jk K H .non (.type "NoneType")
 |bl (x:Bool):Jk K H (.bl x) (.type "bool")
 |int (i:Int):Jk K H (.int i) (.type "int")
 |str (x:Str):Jk K H (.str x) (.type "str")
 |flt (x:UInt64):Jk K H (.flt x) (.type "float")
 |lst {a:Addr}{xs:List V} (e:H a=some (.lst xs)):Jk K H (.ref a) (.type "list")
 |frz {a:Addr}{o:Obj}{xs:List V} (e:H a=some (.frz o (.lst xs))):Jk K H (.ref a) (.type "list")
 |tup {a:Addr}{xs:List V} (e:H a=some (.tup xs)):Jk K H (.ref a) (.type "tuple")
 |dK {a:Addr}{kvs:List (YA×V)} (e:H a=some (.dK kvs)):Jk K H (.ref a) (.type "dict")
 |dT {a:Addr}{kvs:List (List YA×V)} (e:H a=some (.dT kvs)):Jk K H (.ref a) (.type "dict")
 |ins {a C dx:Addr}{fs:List (Str×V)} (e:H a=some (.ins C dx fs)) (cl:Cls K C) (ha:PySem.W.findIn K (.ref C) "__class__"=some (some (.builtin "object.__class__")))
   (hn:PySem.W.specialIn K (.builtin "object.__class__") "__get__"=some (some (.builtin "getset_descriptor.__get__"))) (htk:PySem.W.takesIn K (.builtin "object.__class__")=some true)
   (hm:PySem.W.mroIn K C (.type "object")=some true):Jk K H (.ref a) (.ref C)
theorem XU {x:V}{u t:Value}(I:Inv X pins σ H s)(rx:RelV x u)(ty:Jk X.K H x t)(e:PySem.W.kitOne X.K t c=some b)(h:∀tk,Q (.bool b) {s with toks:=tk}) :
  wpAny (model X.prog X.w) A (call (.builtin "isinstance") [u,c]) Q E s:=by
 cases ty with
 |non=>cases (show u=Value.none from rx);exact PySem.W.kia_one PySem.W.kitx_none I.kIn True.intro e (fun z=>nomatch z) h
 |bl y=>cases (show u=Value.bool y from rx);exact PySem.W.kia_one PySem.W.kitx_bool I.kIn True.intro e (fun z=>nomatch z) h
 |int i=>obtain⟨t,q⟩:=(show ∃t,u=Value.int i t from rx);cases q;exact PySem.W.kia_one PySem.W.kitx_int I.kIn True.intro e (fun z=>nomatch z) h
 |str y=>obtain⟨t,q⟩:=(show ∃t,u=Value.str y t from rx);cases q;exact PySem.W.kia_one PySem.W.kitx_str I.kIn True.intro e (fun z=>nomatch z) h
 |flt y=>obtain⟨t,q⟩:=(show ∃t,u=Value.float y t from rx);cases q;exact PySem.W.kia_one PySem.W.kitx_float I.kIn True.intro e (fun z=>nomatch z) h
 | @lst a xs ea=>
  cases (show u=Value.ref a from rx)
  obtain⟨_,_,n,_,h1⟩:=(show ZT X.prog X.w H s.heap a (.lst xs) from I.hok a _ ea)
  exact PySem.W.kia_one PySem.W.kitx_list I.kIn ⟨_,h1,rfl⟩ e (fun z=>nomatch z) h
 | @frz a ob xs ea=>
  cases (show u=Value.ref a from rx)
  obtain⟨_,_,_,n,_,h1⟩:=(show ZT X.prog X.w H s.heap a (.frz ob (.lst xs)) from I.hok a _ ea)
  exact PySem.W.kia_one PySem.W.kitx_list I.kIn ⟨_,h1,rfl⟩ e (fun z=>nomatch z) h
 | @tup a xs ea=>
  cases (show u=Value.ref a from rx)
  obtain⟨_,_,_,p⟩:=(show ZT X.prog X.w H s.heap a (.tup xs) from I.hok a _ ea)
  obtain⟨o,h1,h2,_⟩:=p
  exact PySem.W.kia_one PySem.W.kitx_tuple I.kIn ⟨o,h1,h2⟩ e (fun z=>nomatch z) h
 | @dK a kvs ea=>
  cases (show u=Value.ref a from rx)
  obtain⟨_,_,vs,_,p⟩:=(show ZT X.prog X.w H s.heap a (.dK kvs) from I.hok a _ ea)
  obtain⟨o,es,ep,h1,h2,_⟩:=p
  exact PySem.W.kia_one PySem.W.kitx_dict I.kIn ⟨o,h1,h2.1⟩ e (fun z=>nomatch z) h
 | @dT a kvs ea=>
  cases (show u=Value.ref a from rx)
  obtain⟨_,_,xs,_,o,es,ep,h1,h2,_⟩:=(show ZT X.prog X.w H s.heap a (.dT kvs) from I.hok a _ ea)
  exact PySem.W.kia_one PySem.W.kitx_dict I.kIn ⟨o,h1,h2.1⟩ e (fun z=>nomatch z) h
 | @ins a C dx fs ea cl ha hn htk hm=>
  cases (show u=Value.ref a from rx)
  obtain⟨mA,O,_⟩:=Zd1 I.hok ea
  obtain⟨od,J,_⟩:=O.look
  exact PySem.W.kia_one (PySem.W.kitx_own (cl.get _) cl.hd ha hn htk hm) I.kIn J e (fun z=>nomatch z) h
end
structure YM (k:Nat)(A:Around):Prop where
 hd:A.handled=none
 dp:A.depth+3*k+5<recursionLimit
 un:A.units+16*k+200<cLine
 gd:A.guards=some []
theorem YM.mono {j k:Nat}{A:Around}(r:YM k A)(h:j<=k):YM j A:=⟨r.hd,by have:=r.dp;omega,by have:=r.un;omega,r.gd⟩
theorem YM.deeper {k:Nat}{A:Around}(r:YM (k+1) A)(env:Env):YM k (A.deeper env):=
 ⟨r.hd,by have:=r.dp;show A.depth+1+3*k+5<_;omega,by have:=r.un;show A.units+3+16*k+200<_;omega,r.gd⟩
theorem YM.depth {k:Nat}{A:Around}(r:YM k A):A.depth<recursionLimit:=by have:=r.dp;omega
theorem YM.units {k:Nat}{A:Around}(r:YM k A):A.units+64<cLine:=by have:=r.un;omega
def Zgc:TA:=fun _ H Q=>Q [] H
def ZbP (ta:TE)(tr:TA):TA:=fun σ H Q=>ta σ H fun x H1=>tr σ H1 fun xs H2=>Q (x::xs) H2
section
variable {X:Cx}{e:Expr}{es:List Expr}{te:TE}{t:TA}{pos:Pos}
theorem Zs:PA X [] Zgc:=fun _ _ _ _ H Q I h=>Calls.spliced_nil ⟨[],H,I,.nil,h⟩
theorem ZdH (ha:PE X e te)(hr:PA X es t)(hs:starEach (e::es) X.env=(false,eval e X.env)::starEach es X.env:=by rfl):PA X (e::es) (ZbP te t):=by
 intro pos pins s σ H Q I h
 rw[hs]
 show wpAny _ _ (spliced ((false,eval e X.env)::backTo pos (starEach es X.env))) _ _ s
 refine Calls.spliced_cons (Z8 (ha pins s σ H _ I h) fun u s1 ⟨x,H1,I1,r1,q1⟩=>?_)
 exact Z8 (hr pos pins s1 σ H1 _ I1 q1) fun us s2 ⟨xs,H2,I2,r2,q2⟩=>⟨x::xs,H2,I2,.cons r1 r2,q2⟩
def Zhu (t:TA):TE:=fun σ H Q=>t σ H fun xs H1=>xs.length<=sizeLine/\∀p,H1 p=none->Q (.ref p) (upd H1 p (.tup xs))
def ZeL (t:TA):TE:=fun σ H Q=>t σ H fun xs H1=>xs.length<=sizeLine/\∀p,H1 p=none->Q (.ref p) (upd H1 p (.lst xs))
theorem Ys {x1}(h:PA X es t):PE X (.Tuple es x1 pos) (Zhu t):=by
 intro pins s σ H Q I hq
 refine wpAny_Tuple_spliced (Z8 (h pos pins s σ H _ I hq) fun us s1 ⟨xs,H1,I1,r,z,q⟩=>⟨by rw[<-r.length];exact z,?_⟩)
 have hf:H1 s1.heap.objs.size=none:=I1.hok.fresh (Zq _)
 refine⟨.ref s1.heap.objs.size,upd H1 s1.heap.objs.size (.tup xs),I1.laid (t':=s1.toks) (fun b u e=>Zn _ e) (Zq _) ?_,rfl,q _ hf⟩
 exact⟨z,us,r,⟨_,Zo _ rfl,rfl,_,rfl⟩⟩
theorem ZQ (h:PA X es t):PE X (.List es pos) (ZeL t):=by
 intro pins s σ H Q I hq
 refine wpAny_List_spliced (Z8 (h pos pins s σ H _ I hq) fun us s1 ⟨xs,H1,I1,r,z,q⟩=>⟨by rw[<-r.length];exact z,?_⟩)
 have hf:H1 s1.heap.objs.size=none:=I1.hok.fresh (Zq _)
 refine⟨.ref s1.heap.objs.size,upd H1 s1.heap.objs.size (.lst xs),I1.laid (t':=s1.toks) (fun b u e=>Zn _ e) (Zq _) ?_,rfl,q _ hf⟩
 exact⟨z,us,0,r,Zo _ rfl⟩
end
abbrev Sp:=List V->Hp->VK->XK->Prop
abbrev JT:=List Env->Hp->Shared->XK->Value->Shared->Prop
structure Vw (P:Program)(w:World)(K:PySem.W.Frag)(mg:Str->Option Value)(base:Heap)(A:Around)(outer:List Env)(s:Shared)(H:Hp):Prop where
 frames:A.frames=some outer
 mod:Mod K mg base
 bs:∀b o,base.get? b=some o->s.heap.get? b=some o/\H b=none
 bsz:base.objs.size<=s.heap.objs.size
 funs:s.heap.FunFrames base outer
 frf:∀b∈Ul outer,H b=none
 hok:Wr P w H s.heap
 bare:AllBare s.gens
def CE (outer:List Env)(P:Program)(w:World)(H:Hp)(s:Shared)(Q:VK)(u:Value)(s':Shared):Prop:=
 ∃v H',s'.os=s.os/\AllBare s'.gens/\Un (Ul outer) [] H H' s.heap s'.heap/\Wr P w H' s'.heap/\RelV v u/\Q v H'
def CR (CX:JT)(outer:List Env)(P:Program)(w:World)(H:Hp)(s:Shared)(Q:VK)(E:XK)(r:Result)(s':Shared):Prop:=
 match r with
 | .ok (.ret u)=>CE outer P w H s Q u s'
 | .ok _=>False
 | .error e=>CX outer H s E e s'
structure Z5 (P:Program)(w:World)(K:PySem.W.Frag)(mg:Str->Option Value)(base:Heap)(CX:JT)(k:Nat)(f:Addr)(fd:FuncData)(ps:List Str)(sp:Sp):Prop where
 len:∀vs H Q E,sp vs H Q E->vs.length=ps.length
 run:∀(A:Around) (outer:List Env) (s:Shared) (H:Hp) (args:Args) (us:List Value) (vs:List V) (Q:VK) (E:XK),YM k A->Vw P w K mg base A outer s H->BindsTo s fd args (ps.zip us)->ZE vs us->sp vs H Q E->
  codeAny (model P w) A (.call (.ref f) args) (CR CX outer P w H s Q E) s
section
variable {X:Cx}{pins:List (Addr×Obj)}{σ:St}{H:Hp}{s s':Shared}
theorem Inv.env0 (I:Inv X pins σ H s):Vw X.prog X.w X.K X.mg X.base X.A X.stack s H:=
 ⟨I.ok.frames,I.ok.mod,I.bs,Nat.le_trans I.ok.bsz I.sz,I.stack,I.stkFree,I.hok,I.bare⟩
theorem Inv.after {Q:VK}{u:Value}(I:Inv X pins σ H s)(h:CE X.stack X.prog X.w H s Q u s'):EP X pins σ Q u s':=by
 obtain⟨v,H',os,bare,un,hok,r,q⟩:=h
 obtain⟨hh,g,d,t,os'⟩:=s'
 obtain rfl:os'=s.os:=os
 exact⟨v,H',I.call (h':=hh) (g':=g) (d':=d) (t':=t) (ch:=[]) un hok bare (fun b z=>absurd z (by simp)),r,q⟩
end
def ZbR (sp:Sp)(dvs:List V)(E:XK)(t:TA):TE:=fun σ H Q=>t σ H fun vs H1=>sp (vs++dvs) H1 Q E
def Binds (K:PySem.W.Frag)(fd:FuncData)(ps:List Str)(ds:List Value):Prop:=
 ∀(s:Shared) (us:List Value),K.In s.heap->(us++ds).length=ps.length->BindsTo s fd ⟨us,[]⟩ (ps.zip (us++ds))
theorem Binds.all {K:PySem.W.Frag}{fd:FuncData}{ps:List Str}(h:∀us:List Value,us.length=ps.length->bindArgs fd ⟨us,[]⟩=pure (ps.zip us)):Binds K fd ps []:=fun s us _ hl=>by
 rw[List.append_nil] at hl ⊢
 exact .of_eq (h us hl)
def WG (CX:JT)(X:Cx)(E:XK):Prop:=∀(pins:List (Addr×Obj)) (σ:St) (H:Hp) (s:Shared) (e:Value) (s':Shared),Inv X pins σ H s->CX X.stack H s E e s'->X.xe e s'
section
variable {X:Cx}{CX:JT}{k:Nat}{f C:Addr}{fd:FuncData}{ps:List Str}{sp:Sp}{dvs:List V}{ds:List Value}{E:XK}{x m:Str}{p pos apos:Pos}{e o:Expr}{es:List Expr}{ta:TE}{t:TA}
theorem Zb4 {pins:List (Addr×Obj)}{σ:St}{H:Hp}{s:Shared}{Q:VK}{us:List Value}{vs:List V}(F:Z5 X.prog X.w X.K X.mg X.base CX k f fd ps sp)(hr:YM k X.A)(hb:Binds X.K fd ps ds)(hd:ZE dvs ds)(hx:WG CX X E)
  (I:Inv X pins σ H s) (r:ZE vs us) (h:sp (vs++dvs) H Q E):wpAny (model X.prog X.w) X.A (call (.ref f) us) (EP X pins σ Q) X.xe s:=by
 have r2:ZE (vs++dvs) (us++ds):=r.append hd
 have hl:(us++ds).length=ps.length:=by rw[<-r2.length];exact F.len _ _ _ _ h
 refine wpAny_call (codeAny_mono (F.run X.A X.stack s H ⟨us,[]⟩ (us++ds) (vs++dvs) Q E hr I.env0 (hb s us I.kIn hl) r2 h) fun r s' hq=>?_)
 cases r with
 |error e=>exact hx pins σ H s e s' I hq
 |ok fl=>
  cases fl with
  |ret u=>exact I.after hq
  |next=>exact False.elim hq
  |brk=>exact False.elim hq
  |cont=>exact False.elim hq
theorem ZdD (F:Z5 X.prog X.w X.K X.mg X.base CX k f fd ps sp)(hr:YM k X.A)(hg:Gl X x)(hm:X.mg x=some (.ref f))(hk:PySem.W.keepIn X.K (.ref f)=true)(hb:Binds X.K fd ps ds)(hd:ZE dvs ds)(hx:WG CX X E)
  (ha:PA X (e::es) t) (hdb:(x == ("__debug__":Str))=false:=by decide) (he:starEach (e::es) X.env=(false,eval e X.env)::starEach es X.env:=by rfl) (hpl:(backTo pos (starEach es X.env)).any (·.1)=false:=by rfl) :
  PE X (.Call (.Name x p) (e::es) [] pos) (ZbR sp dvs E t):=by
 intro pins s σ H Q I h
 refine wpAny_Call_Name_kw (WL I hg hm ?_ hdb)
 refine PySem.W.callWith_K (h₀:=X.base) I.ok.mod.kin hk (Z8 (ha pos pins s σ H _ I h) fun us s1 ⟨vs,H1,I1,r,q⟩=>⟨I1.kIn,?_⟩) he hpl
 exact Zb4 F hr hb hd hx I1 r q
end
section
variable {X:Cx}{CX:JT}{k:Nat}{f C:Addr}{fd:FuncData}{ps ks:List Str}{sp:Sp}{E:XK}{x m:Str}{p pos apos kpos:Pos}{e o:Expr}{es:List Expr}{kws:List Keyword}{te ta:TE}{t tk:TA}{nm:Option Str}
variable {g:List Value->List Value->List Value}{gV:List V->List V->List V}
end
structure WN (N P:List Str)(sc:Scope):Prop where
 kind:sc.kind=.function
 co:sc.isCoroutine=false
 gen:sc.isGenerator=false
 nd:N.Nodup
 pre:N.take P.length=P
 par:∀x∈P,sc.names.lookup x=some .local\/sc.names.lookup x=some .cell
 nofree:∀y∈sc.names,y.2≠.free
theorem FS {N P:List Str}{sc:Scope}(a:sc.kind=.function:=by rfl)(b:sc.isCoroutine=false:=by rfl)(c:sc.isGenerator=false:=by rfl)(d:N.Nodup:=by decide +kernel)(e:N.take P.length=P:=by rfl)(f:∀x∈P,sc.names.lookup x=some .local\/sc.names.lookup x=some .cell:=by decide +kernel)(g:∀y∈sc.names,y.2≠.free:=by decide +kernel):WN N P sc:=⟨a,b,c,d,e,f,g⟩
theorem bd1 {α:Type}{f g:List Value->α}(h:∀a,f [a]=g [a])(us:List Value)(l:us.length=1):f us=g us:=by
  cases us with
  |nil=>cases l
  |cons a r=>cases r with
    |nil=>exact h a
    |cons b r=>simp at l
theorem bd2 {α:Type}{f g:List Value->α}(h:∀a b,f [a,b]=g [a,b])(us:List Value)(l:us.length=2):f us=g us:=by
  cases us with
  |nil=>cases l
  |cons a r=>exact bd1 (f:=fun r=>f (a::r)) (g:=fun r=>g (a::r)) (h a) r (Nat.succ.inj l)
theorem bd3 {α:Type}{f g:List Value->α}(h:∀a b c,f [a,b,c]=g [a,b,c])(us:List Value)(l:us.length=3):f us=g us:=by
  cases us with
  |nil=>cases l
  |cons a r=>exact bd2 (f:=fun r=>f (a::r)) (g:=fun r=>g (a::r)) (h a) r (Nat.succ.inj l)
theorem bd4 {α:Type}{f g:List Value->α}(h:∀a b c d,f [a,b,c,d]=g [a,b,c,d])(us:List Value)(l:us.length=4):f us=g us:=by
  cases us with
  |nil=>cases l
  |cons a r=>exact bd3 (f:=fun r=>f (a::r)) (g:=fun r=>g (a::r)) (h a) r (Nat.succ.inj l)
theorem XY {kindOf:Str->Option NameKind}{x:Str}:∀{binds:List (Str×Value)}{m:Str->Option Value},(∀v,(x,v)∉binds)->bindL kindOf binds m x=m x
 | [],_,_=>rfl
 |(n,v)::r,m,h=>by
  unfold bindL
  rw[XY fun w hw=>h w (List.mem_cons_of_mem _ hw)]
  split
  ·have:x≠n:=by rintro rfl;exact h v List.mem_cons_self
   simp[this]
  ·rfl
theorem XZ {kindOf:Str->Option NameKind}{x:Str}:∀{binds:List (Str×Value)}{m:Str->Option Value},(∀v,(x,v)∉binds)->bindC kindOf binds m x=m x
 | [],_,_=>rfl
 |(n,v)::r,m,h=>by
  unfold bindC
  rw[XZ fun w hw=>h w (List.mem_cons_of_mem _ hw)]
  split
  ·rfl
  ·have:x≠n:=by rintro rfl;exact h v List.mem_cons_self
   simp[this]
theorem JA {kindOf:Str->Option NameKind}{x:Str}{v:Value}:∀{P:List Str}{vs:List Value}{i:Nat}{m:Str->Option Value},P.Nodup->P[i]?=some x->vs[i]?=some v->kindOf x=some .local->
  bindL kindOf (P.zip vs) m x=some v
 | [],_,_,_,_,h,_,_=>by simp at h
 |_::_,[],_,_,_,_,h,_=>by simp at h
 |p::P,w::vs,0,m,nd,h1,h2,hk=>by
  simp at h1 h2;subst h1;subst h2
  show bindL kindOf ((p,w)::P.zip vs) m p=_
  unfold bindL
  rw[XY fun v hv=>(List.nodup_cons.mp nd).1 (List.of_mem_zip hv).1,if_pos hk]
  simp
 |p::P,w::vs,i+1,m,nd,h1,h2,hk=>by
  show bindL kindOf ((p,w)::P.zip vs) m x=_
  unfold bindL
  exact JA (i:=i) (List.nodup_cons.mp nd).2 (by simpa using h1) (by simpa using h2) hk
theorem JB {kindOf:Str->Option NameKind}{x:Str}{v:Value}:∀{P:List Str}{vs:List Value}{i:Nat}{m:Str->Option Value},P.Nodup->P[i]?=some x->vs[i]?=some v->kindOf x≠some .local->
  bindC kindOf (P.zip vs) m x=some v
 | [],_,_,_,_,h,_,_=>by simp at h
 |_::_,[],_,_,_,_,h,_=>by simp at h
 |p::P,w::vs,0,m,nd,h1,h2,hk=>by
  simp at h1 h2;subst h1;subst h2
  show bindC kindOf ((p,w)::P.zip vs) m p=_
  unfold bindC
  rw[XZ fun v hv=>(List.nodup_cons.mp nd).1 (List.of_mem_zip hv).1,if_neg hk]
  simp
 |p::P,w::vs,i+1,m,nd,h1,h2,hk=>by
  show bindC kindOf ((p,w)::P.zip vs) m x=_
  unfold bindC
  exact JB (i:=i) (List.nodup_cons.mp nd).2 (by simpa using h1) (by simpa using h2) hk
def start (N:List Str)(vs:List V):St:=vs.map some++List.replicate (N.length-vs.length) none
def Xu (CX:JT)(P:Program)(w:World)(K:PySem.W.Frag)(mg:Str->Option Value)(base:Heap)(N:List Str)(qual:Str)(scope:Scope)(f:Addr)(cd:Value)(A:Around)(outer:List Env)(s:Shared)(H:Hp)(E:XK):Cx where
 prog:=P
 w:=w
 K:=K
 mg:=mg
 base:=base
 A:=A.deeper (envOfC qual scope s.heap.objs.size f cd)
 N:=N
 s₀:=s
 H₀:=H
 env:=envOfC qual scope s.heap.objs.size f cd
 outer:=outer
 stack:=envOfC qual scope s.heap.objs.size f cd::outer
 ex:=[]
 calm:=true
 fn:=fun _=>true
 pn:=[]
 xe:=fun e s'=>wpAny (model P w) (A.deeper (envOfC qual scope s.heap.objs.size f cd)) (leaving (envOfC qual scope s.heap.objs.size f cd) e) (fun _ s''=>CX outer H s E e s'') (fun e' s''=>CX outer H s E e' s'') s'
theorem Jh {sc:Scope}{n:Nat}{x:Str}(h:sc.names.lookup x=some .cell):∃c,(cellsFrom n sc.names []).lookup x=some c:=by
 have q:=PySem.W.cellsFrom_some sc.names n [] (.inl h)
 exact Option.isSome_iff_exists.mp q
theorem XW {CX:JT}{P:Program}{w:World}{K:PySem.W.Frag}{mg:Str->Option Value}{base:Heap}{N ps:List Str}{qual:Str}{scope:Scope}{f:Addr}{cd:Value}{A:Around}{outer:List Env}{s s1:Shared}{H:Hp}{E:XK}{us:List Value}{vs:List V}
  (S:WN N ps scope) (hd:A.handled=none) (e0:Vw P w K mg base A outer s H) (hl:vs.length=ps.length) (r:ZE vs us)
  (x:InCallC s s.heap.objs.size (bindL (envOfC qual scope s.heap.objs.size f cd).kindOf (ps.zip us) fun _=>none) (cellsFrom (s.heap.objs.size+1) scope.names []) (bindC (envOfC qual scope s.heap.objs.size f cd).kindOf (ps.zip us) fun _=>none) s1) :
  Inv (Xu CX P w K mg base N qual scope f cd A outer s H E) [] (start N vs) H s1:=by
 have hpl:ps.length<=N.length:=by have:=congrArg List.length S.pre;rw[List.length_take] at this;omega
 obtain⟨h1,tk,rfl,hk⟩:=x.done
 have noA:∀b:Addr,b∉(Xu CX P w K mg base N qual scope f cd A outer s H E).ex:=fun b z=>absurd (show b∈([]:List Addr) from z) (by simp)
 refine⟨⟨e0.mod,S.kind,rfl,rfl,Zq _,fun y z c h1 h2=>?_,fun y hy=>?_,fun y c _ h=>?_,fun _=>hd,Around.frames_deeper e0.frames,.inr ⟨rfl,rfl⟩,fun b z=>absurd z (noA b),e0.bs,e0.bsz,fun b _ _=>noA b,fun b z=>absurd z (noA b),e0.funs,e0.frf⟩,
  rfl,e0.bare,Un.kept hk,⟨_,x.toInCall.ns,fun i y v h1 h2 h3=>?_⟩,fun y c h=>⟨_,x.cell y c h⟩,e0.hok.fresh (Zq _),fun y c h=>?_,fun p hp=>absurd (show p∈([]:List (Addr×Obj)) from hp) (by simp),e0.hok.kept hk,?_⟩
 ·exact name_of_addr x.apart (PySem.mem_of_lookup h1) (PySem.mem_of_lookup h2)
 ·have hy:scope.names.lookup y=some .cell\/scope.names.lookup y=some .free:=hy
  rcases hy with hy|hy
  ·exact Jh hy
  ·exact absurd rfl (S.nofree _ (PySem.mem_of_lookup hy))
 ·exact Nat.le_of_lt (x.above y c (PySem.mem_of_lookup h))
 ·have hi:i<vs.length:=by
   unfold start at h2
   by_cases hi:i<vs.length
   ·exact hi
   ·rw[List.getElem?_append_right (by simpa using hi)] at h2
    rw[List.getElem?_replicate] at h2
    split at h2 <;> cases h2
  have ha:vs[i]?=some v:=by
   unfold start at h2
   rw[List.getElem?_append_left (by simpa using hi),Zc] at h2
   cases e:vs[i]? with
   |none=>rw[e] at h2;cases h2
   |some a=>rw[e] at h2;cases h2;rfl
  obtain⟨u,hu,rv⟩:=r.get ha
  have hp:ps[i]?=some y:=by
   rw[<-S.pre,List.getElem?_take_of_lt (by omega)];exact h1
  have ndP:ps.Nodup:=by rw[<-S.pre];exact S.nd.sublist (List.take_sublist _ _)
  refine⟨u,rv,?_⟩
  rcases S.par y (List.mem_of_getElem? hp) with k|k
  ·exact .inl ⟨k,JA ndP hp hu k⟩
  ·obtain⟨c,e⟩:=Jh (n:=s.heap.objs.size+1) k
   refine .inr ⟨.inl k,c,e,?_⟩
   have q:=x.cell y c e
   rw[JB ndP hp hu (by show scope.names.lookup y≠_;rw[k];decide)] at q
   exact q
 ·exact e0.hok.fresh (Nat.le_of_lt (x.above y c (PySem.mem_of_lookup h)))
 ·unfold start
  show _=N.length
  rw[Zd,Za,Ze]
  omega
theorem ZcN {CX:JT}{P:Program}{w:World}{K:PySem.W.Frag}{mg:Str->Option Value}{base:Heap}{k:Nat}{f:Addr}{name qual:Str}{params:Arguments}{body:List Stmt}{scope:Scope}{dV kV doc pm cdv ct oc:Value}{an od:Option Addr}
  {osl:Array (Option Value)}{N ps:List Str}{sp:Sp} (lk:K.lookup f=some ⟨oc,od,.func (PySem.W.fnOf name qual params body scope dV kV doc pm an cdv ct),osl⟩) (hcd:PySem.W.codeIn K cdv qual=true) (S:WN N ps scope)
  (len:∀vs H Q E,sp vs H Q E->vs.length=ps.length)
  (hbody:∀(A:Around) (outer:List Env) (s:Shared) (H:Hp) (vs:List V) (Q:VK) (E:XK),YM k (A.deeper (envOfC qual scope s.heap.objs.size f cdv))->sp vs H Q E->
   ∃t,Xz (Xu CX P w K mg base N qual scope f cdv A outer s H E) body t/\t {nx:=fun _ H'=>Q .non H',rt:=Q} (start N vs) H) :
  Z5 P w K mg base CX (k+1) f (PySem.W.fnOf name qual params body scope dV kV doc pm an cdv ct) ps sp:=by
 refine⟨len,fun A outer s H args us vs Q E hr e0 hb r hsp=>?_⟩
 have hl:=len _ _ _ _ hsp
 have KX:K.In s.heap:=e0.mod.kin.keeps fun b o e=>(e0.bs b o e).1
 have lim:s.heap.NoLimit:=e0.mod.nolimit.keeps fun b o e=>(e0.bs b o e).1
 have hkind:∀y∈ps.zip us,scope.names.lookup y.1=some .local\/(scope.names.lookup y.1=some .cell/\((cellsFrom (s.heap.objs.size+1) scope.names []).lookup y.1).isSome=true):=fun ⟨n,v⟩ hy=>by
  rcases S.par n (List.of_mem_zip hy).1 with q|q
  ·exact .inl q
  ·exact .inr ⟨q,PySem.W.cellsFrom_some _ _ _ (.inl q)⟩
 refine codeAny_call_function hr.depth (KX _ _ lk) rfl S.co S.gen rfl (PySem.W.codeRec_of KX hcd) (hb _ _ _ _ ?_)
 refine wpAny_newFunctionEnv_cells S.kind hkind fun env he s1 x=>?_
 subst he
 refine⟨lim.keeps x.toInCall.keep,codeAny_func ?_⟩
 obtain⟨t,ht,hq⟩:=hbody A outer s H vs Q E (hr.deeper _) hsp
 have I:Inv (Xu CX P w K mg base N qual scope f cdv A outer s H E) [] (start N vs) H s1:=XW S hr.hd e0 hl r x
 refine wpAny_mono (ht [] s1 (start N vs) H _ I hq) (fun fl s' hs=>?_) fun e s' hs=>hs
 have fin:∀{σ':St}{H':Hp}{v:V}{u:Value},Inv (Xu CX P w K mg base N qual scope f cdv A outer s H E) [] σ' H' s'->RelV v u->Q v H'->CE outer P w H s Q u s':=
  fun {σ' H' v u} J rv q=>⟨v,H',J.os,J.bare,J.base,J.hok,rv,q⟩
 cases fl with
 |ret u=>
  obtain⟨v,σ',H',J,rv,q⟩:=hs
  exact fin J rv q
 |next=>
  obtain⟨σ',H',J,q⟩:=hs
  exact fin (v:=V.non) (u:=Value.none) J rfl q
 |brk=>
  obtain⟨_,_,_,q⟩:=hs
  exact False.elim q
 |cont=>
  obtain⟨_,_,_,q⟩:=hs
  exact False.elim q
section
variable {X:Cx}{x:Str}{p pos:Pos}{e:Expr}{es:List Expr}{t:TA}{id T:String}{r:List V->Hp->VK->Prop}
def tCB (r:List V->Hp->VK->Prop)(t:TA):TE:=fun σ H Q=>t σ H fun vs H1=>r vs H1 Q
theorem Zcn (hc:ZN X (.builtin id) r)(hg:Gl X x)(hm:X.mg x=none)(hv:bootBuiltins x=some (.builtin id))(ha:PA X (e::es) t)(hn:x ≠ "__name__":=by decide)(hdb:(x == ("__debug__":Str))=false:=by decide)
  (he:starEach (e::es) X.env=(false,eval e X.env)::starEach es X.env:=by rfl) (hpl:(backTo pos (starEach es X.env)).any (·.1)=false:=by rfl):PE X (.Call (.Name x p) (e::es) [] pos) (tCB r t):=by
 intro pins s σ H Q I h
 refine wpAny_Call_Name_kw (Xh I hg hm hv ?_ hn hdb)
 exact PyProof.Rows.callWith_builtin1 (Z8 (ha pos pins s σ H _ I h) fun us s1 ⟨vs,H1,I1,r1,q1⟩=>hc pins s1 σ H1 vs us Q I1 r1 q1) he hpl
theorem Za6 (hc:ZN X (.type T) r)(hg:Gl X x)(hm:X.mg x=none)(hv:bootBuiltins x=some (.type T))(ha:PA X (e::es) t)(hn:x ≠ "__name__":=by decide)(hdb:(x == ("__debug__":Str))=false:=by decide)
  (he:starEach (e::es) X.env=(false,eval e X.env)::starEach es X.env:=by rfl) (hpl:(backTo pos (starEach es X.env)).any (·.1)=false:=by rfl):PE X (.Call (.Name x p) (e::es) [] pos) (tCB r t):=by
 intro pins s σ H Q I h
 refine wpAny_Call_Name_kw (Xh I hg hm hv ?_ hn hdb)
 exact PyProof.Rows.callWith_type1 (Z8 (ha pos pins s σ H _ I h) fun us s1 ⟨vs,H1,I1,r1,q1⟩=>hc pins s1 σ H1 vs us Q I1 r1 q1) he hpl
end
end L2
namespace HT
open PySem PyProof.Rows
section
open PySem.SeqAt
open PySem.AutoSeq1 (wpAny_loadPart')
open PySem.MeetsSeq PySem.MeetsSeq2 PySem.MeetsSeq3
end
section
variable {prog:Program}{w:World}{A:Around}{E:Value->Shared->Prop}{s:Shared}
theorem Zd9 {t b:Addr}{vs ws:List Value}{Q:Value->Shared->Prop}(ht:IsTup s.heap t vs.toArray)(hb:IsTup s.heap b ws.toArray)(hv:vs≠[])
  (h1:ws=[]->Q (.ref t) s) (h2:ws≠[]->Q (.ref s.heap.objs.size) {s with heap:=s.heap.push {cls:=.type "tuple",data:=.seq (vs++ws).toArray}})
  (hsz:vs.length+ws.length<=sizeLine):wpAny (model prog w) A (binaryOp .Add (.ref t) (.ref b)) Q E s:=by
 obtain⟨⟨cls,dd,data,sl⟩,ho,hc,n,hd⟩:=id ht
 obtain⟨⟨cls2,dd2,data2,sl2⟩,ho2,hc2,n2,hd2⟩:=id hb
 simp only at hc hd hc2 hd2
 subst hc hd hc2 hd2
 have e:vs.toArray++ws.toArray=(vs++ws).toArray:=by simp
 by_cases hw:ws=[]
 ·exact concat_meets ⟨_,ho,rfl⟩ ⟨_,ho2,rfl⟩ noFill_tuple_add seq_tuple_add PySem.F.slot_tuple_add PySem.F.entry_tuple_add (PySem.F.args_tuple_add_2 _ _)
   (tuple_addW1 t b vs.toArray ws.toArray n n2 dd dd2 sl sl2 (by simpa using hv) (by simp[hw])) ⟨ho,ho2,h1 hw⟩
 ·refine concat_meets ⟨_,ho,rfl⟩ ⟨_,ho2,rfl⟩ noFill_tuple_add seq_tuple_add PySem.F.slot_tuple_add PySem.F.entry_tuple_add (PySem.F.args_tuple_add_2 _ _)
   (tuple_addW2 t b vs.toArray ws.toArray n n2 dd dd2 sl sl2 (by simpa using hv) (by simpa using hw) (by rw[Zh,Zh];exact hsz)) ⟨ho,ho2,?_⟩
  rw[e]
  exact h2 hw
def Yg (n d:Nat):Option Int->Nat
 |none=>d
 |some v=>if v<0 then (v+(n:Int)).toNat else min v.toNat n
theorem VJ (n d:Nat):Yg n d none=d:=rfl
theorem Va (n d k:Nat):Yg n d (some (k:Int))=min k n:=by
 show (if (k:Int)<0 then ((k:Int)+(n:Int)).toNat else min (k:Int).toNat n)=min k n
 rw[if_neg (by omega),Zj]
theorem ZeR (n d:Nat)(hd:d<=n)(o:Option Int):Yg n d o<=n:=by
 cases o with
 |none=>exact hd
 |some v=>
  show (if v<0 then (v+(n:Int)).toNat else min v.toNat n)<=n
  by_cases hv:v<0
  ·rw[if_pos hv];omega
  ·rw[if_neg hv];exact Nat.min_le_right _ _
theorem ZaN (v:Int)(n d:Nat):(if v<0 then max (v+(n:Int)) 0 else min v (n:Int))=((Yg n d (some v):Nat):Int):=by
 show (if v<0 then max (v+(n:Int)) 0 else min v (n:Int))=(((if v<0 then (v+(n:Int)).toNat else min v.toNat n):Nat):Int)
 by_cases hv:v<0
 ·simp only[if_pos hv];omega
 ·simp only[if_neg hv];omega
theorem U9 (lo hi:Option Int)(n:Nat):Builtin.Slice.sliceAdjust lo hi 1 (n:Int)=(((Yg n 0 lo:Nat):Int),((Yg n n hi:Nat):Int)):=by
 have h1:¬((1:Int)<0):=by omega
 unfold Builtin.Slice.sliceAdjust
 simp only[h1,if_false]
 refine Prod.ext ?_ ?_
 ·cases lo with
  |none=>rfl
  |some v=>exact ZaN v n 0
 ·cases hi with
  |none=>rfl
  |some v=>exact ZaN v n n
theorem UK (i j:Nat):Builtin.Slice.slicePlaces (i:Int) (j:Int) 1=j-i:=by
 unfold Builtin.Slice.slicePlaces
 have h1:(1:Int) > 0:=by omega
 simp only[h1,if_true,Int.ediv_one]
 split <;> omega
theorem J4 {v:Value}{o:Option Int}{Q:Option Int->Shared->Prop}(p:IsPart v o)(h:Q o s):wpAny (model prog w) A (Builtin.Slice.slicePartIndex v) Q E s:=by
 cases p with
 |none=>exact slicePart_none h
 |int i t=>exact slicePart_int h
theorem We {sl:Addr}{vl vu:Value}{lo hi:Option Int}{n:Nat}{Q:Int×Int×Nat->Shared->Prop}(hs:s.heap.IsSliceOf sl vl vu .none)(pl:IsPart vl lo)(pu:IsPart vu hi)
  (h:Q (((Yg n 0 lo:Nat):Int),1,Yg n n hi-Yg n 0 lo) s):wpAny (model prog w) A (Builtin.Slice.sliceApplied (.ref sl) (pure (n:Int))) Q E s:=by
 obtain⟨os,hos,hcs,hds⟩:=id hs
 unfold Builtin.Slice.sliceApplied Builtin.Slice.sliceFields
 refine Zl (Zl (wpAny_field hos hds (x:=vl) rfl (Zl (wpAny_field hos hds (x:=vu) rfl (Zl (wpAny_field hos hds (x:=.none) rfl (Zm ?_)))))))
 refine Zl (slicePart_none ?_)
 show wpAny _ _ (if ((1:Int) == 0)=true then _ else _) _ _ s
 rw[if_neg (by decide)]
 refine Zl (J4 pl (Zl (J4 pu (Zl (Zm ?_)))))
 show wpAny _ _ (match Builtin.Slice.sliceAdjust lo hi 1 (n:Int) with|(lo,hi)=>pure (lo,(1:Int),Builtin.Slice.slicePlaces lo hi 1)) _ _ s
 rw[U9 lo hi n]
 show wpAny _ _ (pure (((Yg n 0 lo:Nat):Int),(1:Int),Builtin.Slice.slicePlaces ((Yg n 0 lo:Nat):Int) ((Yg n n hi:Nat):Int) 1)) _ _ s
 rw[UK]
 exact Zm h
theorem Zcj (xs:Array Value)(i k:Nat):((List.range k).filterMap fun (m:Nat)=>xs[((i:Int)+(m:Int)*1).toNat]?).toArray=((xs.toList.drop i).take k).toArray:=by
 have e:(fun (m:Nat)=>xs[((i:Int)+(m:Int)*1).toNat]?)=fun m=>xs[i+m]?:=by
  funext m
  have:((i:Int)+(m:Int)*1).toNat=i+m:=by omega
  rw[this]
 rw[e]
 have:=pick_run xs i k
 rw[List.filterMap_map] at this
 have e2:((fun x=>xs[x]?) ∘ fun x=>i+x)=fun m=>xs[i+m]?:=rfl
 rw[e2] at this
 rw[this]
theorem Ja {t sl:Addr}{items:Array Value}{vl vu:Value}{lo hi:Option Int}{Q:Value->Shared->Prop}(ht:IsTup s.heap t items)(hs:s.heap.IsSliceOf sl vl vu .none)(pl:IsPart vl lo)(pu:IsPart vu hi)
  (hw:¬(Yg items.size 0 lo=0/\Yg items.size items.size hi=items.size))
  (h:Q (.ref s.heap.objs.size) {s with heap:=s.heap.push {cls:=.type "tuple",data:=.seq ((items.toList.drop (Yg items.size 0 lo)).take (Yg items.size items.size hi-Yg items.size 0 lo)).toArray}})
  (hsz:items.size<=sizeLine):wpAny (model prog w) A (getItem (.ref t) (.ref sl)) Q E s:=by
 have htake:sizeOk (.seq ((items.toList.drop (Yg items.size 0 lo)).take (Yg items.size items.size hi-Yg items.size 0 lo)).toArray):=by
  show ((items.toList.drop (Yg items.size 0 lo)).take (Yg items.size items.size hi-Yg items.size 0 lo)).toArray.size<=sizeLine
  rw[Zh,List.length_take,List.length_drop,Zr]
  omega
 have hj:Yg items.size items.size hi<=items.size:=ZeR _ _ (Zq _) hi
 obtain⟨os,hos,hcs,hds⟩:=id hs
 have hTs:s.TypeIs (.ref sl) "slice":=⟨os,hos,hcs⟩
 unfold getItem
 try with_reducible refine wpAny_holding ?_
 first|refine Zl (Zm ?_)|skip
 refine Zl (wpAny_sequenceKey ht.typeIs (by decide) ?_)
 refine Zl (wpAny_callSpecial?_slot (name:=Str.ofString "__getitem__") ht.typeIs PyProof.Rows.slot_tuple_getitem
  (wpAny_call_entry PyProof.Rows.slot_tuple_getitem ht.typeIs entry_tuple_getitem ?_ (args_tuple_getitem _ _)))
 show wpAny _ _ (Builtin.Tuple.tupleItemsOf (.ref t) >>= _) _ _ s
 refine Zl (tupleItemsOf_ ht ?_)
 refine Zl (wpAny_typeOf hTs ?_)
 rw[if_pos (by decide)]
 refine Zl (We hs pl pu ?_)
 have hno:¬((((Yg items.size 0 lo:Nat):Int) == 0 && (1:Int) == 1 && (Yg items.size items.size hi-Yg items.size 0 lo) == items.size)=true):=by
  intro q
  rw[Bool.and_eq_true,Bool.and_eq_true] at q
  have q1:((Yg items.size 0 lo:Nat):Int)=0:=eq_of_beq q.1.1
  have q2:Yg items.size items.size hi-Yg items.size 0 lo=items.size:=eq_of_beq q.2
  exact hw ⟨by omega,by omega⟩
 show wpAny _ _ (if (((Yg items.size 0 lo:Nat):Int) == 0 && (1:Int) == 1 && (Yg items.size items.size hi-Yg items.size 0 lo) == items.size)=true then _ else _) _ _ s
 rw[if_neg hno,Zcj]
 first
  |exact Zl (m:=Builtin.Tuple.tupleExact _) (wpAny_newObj_type (Zm ⟨_,rfl,Zm h⟩) htake)
  |exact Zl (m:=Builtin.Tuple.tupleExact _) (wpAny_newObj_type (Zl (Zm (Zm ⟨_,rfl,Zm h⟩))) htake)
  |exact Zl (Zl (m:=Builtin.Tuple.tupleExact _) (wpAny_newObj_type (Zm (Zm ⟨_,rfl,Zm h⟩)) htake))
  |exact Zl (Zl (m:=Builtin.Tuple.tupleExact _) (wpAny_newObj_type (Zm ⟨_,rfl,Zm h⟩) htake))
end
end HT
namespace L2
open PySem PySem.Spec PyProof.Rows
abbrev TO:=St->Hp->(Option Int->Hp->Prop)->Prop
def PO (X:Cx)(e:Option Expr)(t:TO):Prop:=
 ∀(pins:List (Addr×Obj)) (s:Shared) (σ:St) (H:Hp) (Q:Option Int->Hp->Prop),Inv X pins σ H s->t σ H Q->
  wpAny (model X.prog X.w) X.A (evalPart e X.env) (fun u s'=>∃o H',Inv X pins σ H' s'/\IsPart u o/\Q o H') X.xe s
def Zdp:TO:=fun _ H Q=>Q none H
def Zf9 (t:TE):TO:=fun σ H Q=>t σ H fun x H1=>∃i,x=.int i/\Q (some i) H1
section
variable {X:Cx}{e:Expr}{te:TE}{lo hi:Option Expr}{tl th:TO}{pos p2:Pos}
theorem Yy:PO X none Zdp:=by
 intro pins s σ H Q I h
 rw[evalPart_none]
 exact Zm ⟨none,H,I,.none,h⟩
theorem Yx (h:PE X e te):PO X (some e) (Zf9 te):=by
 intro pins s σ H Q I hw
 rw[evalPart_some]
 refine Z8 (h pins s σ H _ I hw) fun u s1 ⟨x,H1,I1,r1,q1⟩=>?_
 obtain⟨i,rfl,q⟩:=q1
 obtain⟨t,rfl⟩:=r1
 exact⟨some i,H1,I1,.int i t,q⟩
def SlR (X:Cx)(r:V->Option Int->Option Int->Hp->VK->Prop):Prop:=
 ∀(pins:List (Addr×Obj)) (s:Shared) (σ:St) (H:Hp) (x:V) (v vl vu:Value) (lo hi:Option Int) (sl:Addr) (Q:VK),Inv X pins σ H s->RelV x v->s.heap.IsSliceOf sl vl vu .none->IsPart vl lo->IsPart vu hi->r x lo hi H Q->
  ∃T id,typeLookup (.type T) "__getitem__"=pure (some (.builtin id))/\s.TypeIs v T/\wpAny (model X.prog X.w) X.A (getItem v (.ref sl)) (EP X pins σ Q) X.xe s
def tSl (r:V->Option Int->Option Int->Hp->VK->Prop)(te:TE)(tl th:TO):TE:=fun σ H Q=>te σ H fun x H1=>tl σ H1 fun l H2=>th σ H2 fun u H3=>r x l u H3 Q
theorem Ye {r:V->Option Int->Option Int->Hp->VK->Prop}(hr:SlR X r)(he:PE X e te)(hl:PO X lo tl)(hu:PO X hi th):PE X (.Subscript e (.Slice lo hi none p2) pos) (tSl r te tl th):=by
 intro pins s σ H Q I h
 refine Subscript_ (Z8 (he pins s σ H _ I h) fun v s1 ⟨x,H1,I1,r1,q1⟩=>?_)
 refine wpAny_Slice (Z8 (hl pins s1 σ H1 _ I1 q1) fun vl s2 ⟨l,H2,I2,pl,q2⟩=>Z8 (hu pins s2 σ H2 _ I2 q2) fun vu s3 ⟨u,H3,I3,pu,q3⟩=>?_)
 rw[evalPart_none]
 refine Zm ?_
 have I4:Inv X pins σ H3 {s3 with heap:=s3.heap.push {cls:=.type "slice",data:=.fields #[vl,vu,.none]}}:=I3.kept (t':=s3.toks) fun b ob q=>Zn _ q
 obtain⟨T,id,hT,ht,hg⟩:=hr pins {s3 with heap:=s3.heap.push {cls:=.type "slice",data:=.fields #[vl,vu,.none]}} σ H3 x v vl vu l u s3.heap.objs.size Q I4 r1 (Heap.IsSliceOf.new ..) pl pu q3
 show wpAny (model X.prog X.w) X.A (subscriptTail e (.Slice lo hi none p2) v (.ref s3.heap.objs.size)) (EP X pins σ Q) X.xe {s3 with heap:=s3.heap.push {cls:=.type "slice",data:=.fields #[vl,vu,.none]}}
 exact tail_any (ops:=[.ref s3.heap.objs.size,v]) ht hT hg (by with_unfolding_all rfl)
def YS (xs:List V)(lo hi:Option Int):List V:=(xs.drop (HT.Yg xs.length 0 lo)).take (HT.Yg xs.length xs.length hi-HT.Yg xs.length 0 lo)
theorem JK (xs:List V)(lo hi:Option Int):(YS xs lo hi).length<=xs.length:=by
 unfold YS
 rw[List.length_take,List.length_drop]
 omega
def ZhI (K:PySem.W.Frag):V->Option Int->Option Int->Hp->VK->Prop:=fun x lo hi H Q=>∃a xs,x=.ref a/\Y9 K H a xs/\
 ¬(HT.Yg xs.length 0 lo=0/\HT.Yg xs.length xs.length hi=xs.length)/\∀p,H p=none->Q (.ref p) (upd H p (.tup (YS xs lo hi)))
theorem ZeQ:SlR X (ZhI X.K):=by
 intro pins s σ H x v vl vu lo hi sl Q I rx hs pl pu h
 obtain⟨a,xs,rfl,hx,hw,q⟩:=h
 cases rx
 obtain⟨its,r,ht,hz⟩:=I.tuple hx
 have hlen:its.toArray.size=xs.length:=by rw[Zh];exact r.length.symm
 refine⟨"tuple",_,PyProof.Rows.slot_tuple_getitem.lookup,ht.typeIs,?_⟩
 refine HT.Ja ht hs pl pu (by rw[hlen];exact hw) ?_ (by rw[hlen];exact hz)
 rw[hlen]
 refine⟨.ref s.heap.objs.size,_,I.laid (t':=s.toks) (o:=.tup (YS xs lo hi)) (fun b ob q=>Zn _ q) (Zq _) ?_,rfl,q _ (I.hok.fresh (Zq _))⟩
 exact⟨Nat.le_trans (JK xs lo hi) hz,_,(r.drop (HT.Yg xs.length 0 lo)).take (HT.Yg xs.length xs.length hi-HT.Yg xs.length 0 lo),IsTup.new _ _⟩
def Zgx (K:PySem.W.Frag):R2:=fun x y H Q=>∃a b xs ys,x=.ref a/\y=.ref b/\Y9 K H a xs/\Y9 K H b ys/\xs≠[]/\xs.length+ys.length<=sizeLine/\
 (ys=[]->Q (.ref a) H)/\(ys≠[]->∀p,H p=none->Q (.ref p) (upd H p (.tup (xs++ys))))
theorem ZE.nil_iff {xs:List V}{us:List Value}(r:ZE xs us):us=[]↔xs=[]:=by
 cases r with
 |nil=>simp
 |cons _ _=>simp
theorem ZdK:Jm X (binaryOp .Add) (Zgx X.K):=by
 intro pins s σ H x y v u Q I rx ry h
 obtain⟨a,b,xs,ys,rfl,rfl,ha,hb,hx,hz,q1,q2⟩:=h
 cases rx
 cases ry
 obtain⟨its,r1,p1,_⟩:=I.tuple ha
 obtain⟨its2,r2,p2,_⟩:=I.tuple hb
 refine HT.Zd9 p1 p2 (fun z=>hx (r1.nil_iff.mp z)) (fun z=>⟨.ref a,H,I,rfl,q1 (r2.nil_iff.mp z)⟩) (fun z=>?_) (by rw[<-r1.length,<-r2.length];exact hz)
 refine⟨.ref s.heap.objs.size,_,I.laid (t':=s.toks) (o:=.tup (xs++ys)) (fun b ob q=>Zn _ q) (Zq _) ?_,rfl,q2 (fun w=>z (r2.nil_iff.mpr w)) _ (I.hok.fresh (Zq _))⟩
 exact⟨by rw[Zd];exact hz,_,r1.append r2,IsTup.new _ _⟩
end
def ixN (n:Nat)(i:Int):Option Nat:=if 0<=i then (if i<n then some i.toNat else none) else if -(n:Int)<=i then some (i+n).toNat else none
def Xw {α:Type}(xs:List α)(i:Int):Option α:=(ixN xs.length i).bind fun j=>xs[j]?
theorem JY {n:Nat}{i:Int}{j:Nat}(h:ixN n i=some j):seqIndex? i n=some j/\j<n/\-(n:Int)<=i/\i<n:=by
 unfold ixN at h
 by_cases h0:0<=i
 ·rw[if_pos h0] at h
  by_cases h1:i<n
  ·rw[if_pos h1] at h
   have e:i.toNat=j:=Option.some.inj h
   exact⟨by rw[seqIndex_of h0 h1,e],by omega,by omega,h1⟩
  ·rw[if_neg h1] at h;cases h
 ·rw[if_neg h0] at h
  by_cases h1:-(n:Int)<=i
  ·rw[if_pos h1] at h
   have e:(i+n).toNat=j:=Option.some.inj h
   exact⟨by rw[seqIndex_neg (by omega) h1,e],by omega,h1,by omega⟩
  ·rw[if_neg h1] at h;cases h
theorem ZaQ {α:Type}{xs:List α}{i:Int}{v:α}(h:Xw xs i=some v):∃j,seqIndex? i xs.length=some j/\xs[j]?=some v/\j<xs.length/\-(xs.length:Int)<=i/\i<xs.length:=by
 unfold Xw at h
 cases e:ixN xs.length i with
 |none=>rw[e] at h;cases h
 |some j=>
  rw[e] at h
  obtain⟨h1,h2,h3,h4⟩:=JY e
  exact⟨j,h1,h,h2,h3,h4⟩
theorem ZV {α:Type}{xs:List α}{j:Nat}{v:α}(h:xs[j]?=some v):Xw xs (j:Int)=some v:=by
 have hj:j<xs.length:=(List.getElem?_eq_some_iff.mp h).1
 have e:ixN xs.length (j:Int)=some j:=by
  unfold ixN
  rw[if_pos (by omega),if_pos (by omega)];simp
 unfold Xw;rw[e];exact h
theorem Ug {α:Type}(xs:List α)(v:α):Xw (xs++[v]) (-1)=some v:=by
 have hl:(xs++[v]).length=xs.length+1:=by simp
 have e:ixN (xs++[v]).length (-1)=some xs.length:=by
  unfold ixN
  rw[hl,if_neg (by decide),if_pos (by omega)]
  congr 1
  omega
 unfold Xw
 rw[e]
 show (xs++[v])[xs.length]?=some v
 simp
def ZaR (b:Expr):Prop:=∀o i,subscripted b false o i=operate [o,i] (getItem o i)
def IxR (X:Cx)(r:R2):Prop:=
 ∀(value slice:Expr) (pins:List (Addr×Obj)) (s:Shared) (σ:St) (H:Hp) (x y:V) (v u:Value) (Q:VK),Inv X pins σ H s->RelV x v->RelV y u->r x y H Q->
  subscripted slice false v u=operate [v,u] (getItem v u)->wpAny (model X.prog X.w) X.A (subscriptTail value slice v u) (EP X pins σ Q) X.xe s
def MtR (X:Cx)(id:String)(r:V->List V->Hp->VK->Prop):Prop:=
 ∀(pins:List (Addr×Obj)) (s:Shared) (σ:St) (H:Hp) (x:V) (xs:List V) (v:Value) (us:List Value) (Q:VK),Inv X pins σ H s->RelV x v->ZE xs us->r x xs H Q->
  wpAny (model X.prog X.w) X.A (call (.builtin id) (v::us)) (EP X pins σ Q) X.xe s
section
variable {X:Cx}{a b:Expr}{ta tb:TE}{pos:Pos}
theorem ZB {r:R2}(hr:IxR X r)(ha:PE X a ta)(hb:PE X b tb)(hs:ZaR b):PE X (.Subscript a b pos) (XE r ta tb):=by
 intro pins s σ H Q I h
 exact Subscript_ (ZfM ha hb I h fun v u s2 x y H2 I2 rx ry q=>hr a b pins s2 σ H2 x y v u Q I2 rx ry q (hs _ _))
def ZeW (K:PySem.W.Frag):R2:=fun x y H Q=>∃p xs i v,x=.ref p/\y=.int i/\Wq K H p xs/\Xw xs i=some v/\Q v H
def Zgu (K:PySem.W.Frag):R2:=fun x y H Q=>∃p xs i v,x=.ref p/\y=.int i/\Y9 K H p xs/\Xw xs i=some v/\Q v H
theorem ZU:IxR X (ZeW X.K):=by
 intro value slice pins s σ H x y v u Q I rx ry h hs
 obtain⟨p,xs,i,z,rfl,rfl,hq,he,q⟩:=h
 cases rx
 obtain⟨t,rfl⟩:=ry
 obtain⟨its,r,pl,hz⟩:=I.list hq
 obtain⟨j,h1,h2,h3,h4,h5⟩:=ZaQ he
 obtain⟨w,ew,rw'⟩:=r.get h2
 have hl:=r.length
 have hn:=Xg
 have fin:EP X pins σ Q w s:=⟨z,H,I,rw',q⟩
 by_cases h0:0<=i
 ·have hj:i.toNat=j:=by
   rw[seqIndex_of h0 h5] at h1
   exact Option.some.inj h1
  exact item_listR pl.isList h0 (by omega) (by rw[hj];simpa using ew) fin hs
 ·have hj:(i+(its.toArray.size:Int)).toNat=j:=by
   rw[seqIndex_neg (by omega) h4] at h1
   rw[Zh,<-hl]
   exact Option.some.inj h1
  exact subscriptTail_builtinR (x:=w) pl.isList.typeIs slot_list_getitem.lookup
   (wpAny_getItem_list_neg (Q:=fun r s'=>r=w/\EP X pins σ Q r s') pl.isList (by omega) (by rw[Zh] <;> omega) (by omega) (by rw[hj];simpa using ew) ⟨rfl,fin⟩) hs
theorem Zfz:IxR X (Zgu X.K):=by
 intro value slice pins s σ H x y v u Q I rx ry h hs
 obtain⟨p,xs,i,z,rfl,rfl,hq,he,q⟩:=h
 cases rx
 obtain⟨t,rfl⟩:=ry
 obtain⟨its,r,pl,hz⟩:=I.tuple hq
 obtain⟨j,h1,h2,h3,h4,h5⟩:=ZaQ he
 obtain⟨w,ew,rw'⟩:=r.get h2
 have hl:=r.length
 have hn:=Xg
 have fin:EP X pins σ Q w s:=⟨z,H,I,rw',q⟩
 exact subscriptTail_builtinR (x:=w) pl.typeIs slot_tuple_getitem.lookup
  (getItem_tuple (j:=j) (Q:=fun r s'=>r=w/\EP X pins σ Q r s') pl (by omega) (by omega) (by rw[Zh,<-hl];exact h1) (by simpa using ew) ⟨rfl,fin⟩) hs
theorem UR (its:List Value)(n j:Nat)(u:Value):Obj.mapSeq (·.setIfInBounds j u) {cls:=.type "list",data:=.seq its.toArray n}={cls:=.type "list",data:=.seq (its.set j u).toArray n}:=by
 simp[Obj.mapSeq]
theorem Inv.lst {pins:List (Addr×Obj)}{σ:St}{H:Hp}{s:Shared}{p:Addr}{xs:List V}(I:Inv X pins σ H s)(h:H p=some (.lst xs)) :
  ∃(its:List Value) (n:Nat),ZE xs its/\s.heap.get? p=some {cls:=.type "list",data:=.seq its.toArray n}/\xs.length<=sizeLine:=by
 obtain⟨z,its,n,r,e⟩:=I.hok p _ h
 exact⟨its,n,r,e,z⟩
theorem Inv.lstUpd {pins:List (Addr×Obj)}{σ:St}{H:Hp}{s:Shared}{p:Addr}{xs ys:List V}{its its':List Value}{n n':Nat}{f:Obj->Obj}(I:Inv X pins σ H s)(h:H p=some (.lst xs))
  (ho:s.heap.get? p=some {cls:=.type "list",data:=.seq its.toArray n}) (hf:f {cls:=.type "list",data:=.seq its.toArray n}={cls:=.type "list",data:=.seq its'.toArray n'}) (r:ZE ys its') (hz:ys.length<=sizeLine) (t:Nat) :
  Inv X pins σ (upd H p (.lst ys)) {s with heap:=s.heap.update p f,toks:=t}:=by
 have e:(s.heap.update p f).get? p=some {cls:=.type "list",data:=.seq its'.toArray n'}:=by
  rw[Heap.get?_update_self f ho (by rw[hf] <;> rfl),hf]
 refine I.write (x:=p) (e:=p) (by rw[h];trivial) (.inl rfl) (fun b u hb q=>(Heap.get?_update_other _ _ (Ne.symm hb)).trans q) ⟨_,e⟩ ?_
 exact⟨hz,its',n',r,e⟩
def Zgt:V->V->V->Hp->(Hp->Prop)->Prop:=fun o i v H Q=>∃p xs k j,o=.ref p/\i=.int k/\H p=some (.lst xs)/\ixN xs.length k=some j/\Q (upd H p (.lst (xs.set j v)))
theorem W3:Zg0 X Zgt:=by
 intro pins s σ H o i v ov iv u Q I ro ri rv h
 obtain⟨p,xs,k,j,rfl,rfl,hp,hj,q⟩:=h
 cases ro
 obtain⟨t,rfl⟩:=ri
 obtain⟨its,n,r,ho,hz⟩:=I.lst hp
 obtain⟨h1,h2,h3,h4⟩:=JY hj
 have hl:=r.length
 have hn:=Xg
 have I':Inv X pins σ (upd H p (.lst (xs.set j v))) {s with heap:=s.heap.update p (Obj.mapSeq (·.setIfInBounds j u))}:=
  I.lstUpd hp ho (UR its n j u) (r.set rv j) (by rw[List.length_set];exact hz) s.toks
 by_cases h0:0<=k
 ·have hk:k.toNat=j:=by
   rw[seqIndex_of h0 h4] at h1
   exact Option.some.inj h1
  exact PySem.W.ki_setAt ho h0 (by omega) (by rw[Zh,<-hl];exact h4) (by rw[hk];exact⟨_,I',q⟩)
 ·have hk:(k+(its.toArray.size:Int)).toNat=j:=by
   rw[seqIndex_neg (by omega) h3] at h1
   rw[Zh,<-hl]
   exact Option.some.inj h1
  exact PySem.W.ki_setBack ho (by omega) (by rw[Zh,<-hl];exact h3) (by omega) (by rw[hk];exact⟨_,I',q⟩)
theorem X4 (lo hi:Option Int)(n:Nat):(sliceBounds lo hi none n).1=((HT.Yg n 0 lo:Nat):Int)/\(sliceBounds lo hi none n).2.1=((HT.Yg n n hi:Nat):Int)/\(sliceBounds lo hi none n).2.2=1:=by
 refine⟨?_,?_,rfl⟩
 ·cases lo with
  |none=>simp[sliceBounds,HT.Yg]
  |some i=>
   simp only[sliceBounds,HT.Yg,Option.getD_none,show (1:Int) > 0 by decide,if_true]
   by_cases h:i<0
   ·simp only[h,if_true] <;> omega
   ·simp only[h,if_false] <;> omega
 ·cases hi with
  |none=>simp[sliceBounds,HT.Yg]
  |some i=>
   simp only[sliceBounds,HT.Yg,Option.getD_none,show (1:Int) > 0 by decide,if_true]
   by_cases h:i<0
   ·simp only[h,if_true] <;> omega
   ·simp only[h,if_false] <;> omega
theorem Xq (its:List Value)(lo hi:Option Int):slicePick its.toArray lo hi none=((its.drop (HT.Yg its.length 0 lo)).take (HT.Yg its.length its.length hi-HT.Yg its.length 0 lo)).toArray:=by
 obtain⟨h1,h2,h3⟩:=X4 lo hi its.toArray.size
 unfold slicePick
 rw[h1,h2,h3]
 simp only[sliceRange_one,pick_run,Zh] <;> rfl
def ZhJ (K:PySem.W.Frag):V->Option Int->Option Int->Hp->VK->Prop:=fun x lo hi H Q=>∃a xs,x=.ref a/\Wq K H a xs/\∀p,H p=none->Q (.ref p) (upd H p (.lst (YS xs lo hi)))
theorem Zds:SlR X (ZhJ X.K):=by
 intro pins s σ H x v vl vu lo hi sl Q I rx hs pl pu h
 obtain⟨a,xs,rfl,hx,q⟩:=h
 cases rx
 obtain⟨its,r,ht,hz⟩:=I.list hx
 have hlen:=r.length
 refine⟨"list",_,slot_list_getitem.lookup,ht.isList.typeIs,?_⟩
 refine wpAny_getItem_list_slice ht.isList hs pl pu .none (by simp) ?_ (by rw[Zh] <;> omega)
 rw[Xq,<-hlen]
 refine⟨.ref s.heap.objs.size,_,I.laid (t':=s.toks) (o:=.lst (YS xs lo hi)) (fun b ob q=>Zn _ q) (Zq _) ?_,rfl,q _ (I.hok.fresh (Zq _))⟩
 exact⟨Nat.le_trans (JK xs lo hi) hz,_,0,(r.drop (HT.Yg xs.length 0 lo)).take (HT.Yg xs.length xs.length hi-HT.Yg xs.length 0 lo),Zo _ rfl⟩
def Jb:V->Bool
 | .non=>true
 | .bl _=>true
 | .int _=>true
 | .str _=>true
 |_=>false
def eqV:V->V->Bool
 | .non,.non=>true
 | .bl a,.bl b=>a == b
 | .bl a,.int b=>(if a then 1 else 0) == b
 | .int a,.bl b=>a == (if b then 1 else 0)
 | .int a,.int b=>a == b
 | .str a,.str b=>a == b
 |_,_=>false
theorem ZfH {A:Around}{s:Shared}{y x:V}{u v:Value}(ry:RelV y u)(rx:RelV x v)(fy:Jb y=true)(fx:Jb x=true):SeqAt.EqAt A s u v (eqV y x):=by
 cases y with
 |non=>
  cases ry
  cases x with
  |non=>cases rx;exact SeqAt.EqAt.same _
  |bl b=>cases rx;exact SeqAt.EqAt.none_bool b
  |int b=>obtain⟨t,rfl⟩:=rx;exact SeqAt.EqAt.none_int b t
  |str b=>obtain⟨t,rfl⟩:=rx;exact SeqAt.EqAt.none_str b t
  |_=>exact absurd (show false=true from fx) Bool.false_ne_true
 |bl a=>
  cases ry
  cases x with
  |non=>cases rx;exact SeqAt.EqAt.bool_none a
  |bl b=>cases rx;exact SeqAt.EqAt.bool_bool a b
  |int b=>obtain⟨t,rfl⟩:=rx;exact SeqAt.EqAt.bool_int a b t
  |str b=>obtain⟨t,rfl⟩:=rx;exact SeqAt.EqAt.bool_str a b t
  |_=>exact absurd (show false=true from fx) Bool.false_ne_true
 |int a=>
  obtain⟨t',rfl⟩:=ry
  cases x with
  |non=>cases rx;exact SeqAt.EqAt.int_none a t'
  |bl b=>cases rx;exact SeqAt.EqAt.int_bool a t' b
  |int b=>obtain⟨t,rfl⟩:=rx;exact SeqAt.EqAt.int_int a t' b t
  |str b=>obtain⟨t,rfl⟩:=rx;exact SeqAt.EqAt.int_str a t' b t
  |_=>exact absurd (show false=true from fx) Bool.false_ne_true
 |str a=>
  obtain⟨t',rfl⟩:=ry
  cases x with
  |non=>cases rx;exact SeqAt.EqAt.str_none a t'
  |bl b=>cases rx;exact SeqAt.EqAt.str_bool a t' b
  |int b=>obtain⟨t,rfl⟩:=rx;exact SeqAt.EqAt.str_int a t' b t
  |str b=>obtain⟨t,rfl⟩:=rx;exact SeqAt.EqAt.str_str a t' b t
  |_=>exact absurd (show false=true from fx) Bool.false_ne_true
 |_=>exact absurd (show false=true from fy) Bool.false_ne_true
def eqU (x:V)(u:Value):Bool:=match u with
 | .none=>eqV .non x
 | .bool b=>eqV (.bl b) x
 | .int i _=>eqV (.int i) x
 | .str z _=>eqV (.str z) x
 |_=>false
theorem ZcV {x y:V}{u:Value}(r:RelV y u)(f:Jb y=true):eqU x u=eqV y x:=by
 cases y with
 |non=>cases r;rfl
 |bl b=>cases r;rfl
 |int i=>obtain⟨t,rfl⟩:=r;rfl
 |str z=>obtain⟨t,rfl⟩:=r;rfl
 |_=>exact absurd (show false=true from f) Bool.false_ne_true
theorem VY {A:Around}{s:Shared}{x:V}{v:Value}(rx:RelV x v)(fx:Jb x=true):∀{xs:List V}{us:List Value},ZE xs us->xs.all Jb=true->∀u∈us,SeqAt.EqAt A s u v (eqU x u)
 |_,_,.nil,_=>fun u hu=>by cases hu
 |y::xs,u::us,.cons r t,f=>fun u' hu=>by
  rw[List.all_cons,Bool.and_eq_true] at f
  rcases List.mem_cons.mp hu with rfl|hu
  ·rw[ZcV r f.1];exact ZfH r rx f.1 fx
  ·exact VY rx fx t f.2 u' hu
theorem YT:ZN X (.builtin "len") (fun xs H Q=>∃p ys,xs=[.ref p]/\(Wq X.K H p ys\/Y9 X.K H p ys)/\Q (.int ys.length) H):=by
 intro pins s σ H xs us Q I r h
 obtain⟨p,ys,rfl,hq,q⟩:=h
 obtain⟨u,rfl,rx⟩:=vals1 r
 cases rx
 have hn:=Xg
 rcases hq with hq|hq
 ·obtain⟨its,r',pl,hz⟩:=I.list hq
  have hlen:=r'.length
  exact Calls.call_len_list pl.isList (by simp only[Zh] <;> omega) ⟨.int ys.length,H,I.tok _,⟨s.toks+1,by rw[Zh,hlen]⟩,q⟩
 ·obtain⟨its,r',pl,hz⟩:=I.tuple hq
  have hlen:=r'.length
  exact len_tuple pl (by simp only[Zh] <;> omega) ⟨.int ys.length,H,I.tok _,⟨s.toks+1,by rw[Zh,hlen]⟩,q⟩
theorem ZN.or {f:Value}{r r':List V->Hp->VK->Prop}(h:ZN X f r)(h':ZN X f r'):ZN X f (fun xs H Q=>r xs H Q\/r' xs H Q):=by
 intro pins s σ H xs us Q I rs q
 rcases q with q|q
 ·exact h pins s σ H xs us Q I rs q
 ·exact h' pins s σ H xs us Q I rs q
theorem Ji:ZN X (.type "list") (fun xs H Q=>∃p ys,xs=[.ref p]/\(Wq X.K H p ys\/Y9 X.K H p ys)/\∀l,H l=none->Q (.ref l) (upd H l (.lst ys))):=by
 intro pins s σ H xs us Q I r h
 obtain⟨p,ys,rfl,hq,q⟩:=h
 obtain⟨u,rfl,rx⟩:=vals1 r
 cases rx
 have fin:∀(its:List Value),ZE ys its->ys.length<=sizeLine->∀(h':Heap) (c':Nat),(∀b o',s.heap.get? b=some o'->h'.get? b=some o')->
   h'.get? s.heap.objs.size=some {cls:=.type "list",dict:=none,data:=.seq its.toArray c',slots:=#[]}->EP X pins σ Q (.ref s.heap.objs.size) {s with heap:=h'}:=fun its r' hz h' c' kp e=>
  ⟨.ref s.heap.objs.size,_,I.laid (t':=s.toks) kp (Zq _) (show ZT X.prog X.w _ h' _ (.lst ys) from ⟨hz,its,c',r',e⟩),rfl,q _ (I.hok.fresh (Zq _))⟩
 rcases hq with hq|hq
 ·obtain⟨its,r',pl,hz⟩:=I.list hq
  have hlen:=r'.length
  obtain⟨o,ho,hc,n,hd⟩:=pl.isList
  exact call_list_seq p (.inl rfl) ho hc hd (fun h' c' kp e=>fin its r' hz h' c' kp e) (by simp only[Zh] <;> omega)
 ·obtain⟨its,r',pl,hz⟩:=I.tuple hq
  have hlen:=r'.length
  obtain⟨o,ho,hc,n,hd⟩:=pl
  exact call_list_seq p (.inr rfl) ho hc hd (fun h' c' kp e=>fin its r' hz h' c' kp e) (by simp only[Zh] <;> omega)
theorem ZH:ZN X (.type "tuple") (fun xs H Q=>∃p ys,xs=[.ref p]/\((Wq X.K H p ys/\∀l,H l=none->Q (.ref l) (upd H l (.tup ys)))\/(Y9 X.K H p ys/\Q (.ref p) H))):=by
 intro pins s σ H xs us Q I r h
 obtain⟨p,ys,rfl,h⟩:=h
 obtain⟨u,rfl,rx⟩:=vals1 r
 cases rx
 rcases h with ⟨hq,q⟩|⟨hq,q⟩
 ·obtain⟨its,r',pl,hz⟩:=I.list hq
  have hlen:=r'.length
  refine call_tuple_list pl.isList (fun h' kp=>?_) (by simp only[Zh] <;> omega)
  have I1:Inv X pins σ H {s with heap:=h'}:=I.kept (t':=s.toks) kp
  have I2:Inv X pins σ (upd H h'.objs.size (.tup ys)) {s with heap:=h'.push {cls:=.type "tuple",data:=.seq its.toArray}}:=
   I1.laid (t':=s.toks) (fun b o e=>Zn _ e) (Zq _) (show ZT X.prog X.w _ _ _ (.tup ys) from ⟨hz,its,r',IsTup.new _ _⟩)
  exact⟨.ref h'.objs.size,_,I2,rfl,q _ (I1.hok.fresh (Zq _))⟩
 ·obtain⟨its,r',pl,hz⟩:=I.tuple hq
  exact call_tuple_same pl ⟨.ref p,H,I,rfl,q⟩
def tyV (K:PySem.W.Frag)(T:String)(x:V)(H:Hp):Prop:=match x with
 | .str _=>T = "str"
 | .int _=>T = "int"
 | .ref p=>(T = "list"/\∃xs,Wq K H p xs)\/(T = "tuple"/\∃o,K.lookup p=some o/\o.cls=.type "tuple"/\o.dict=none)\/
   (T = "dict"/\((∃kvs,H p=some (.dK kvs))\/∃kvs,H p=some (.dT kvs)))\/(T = "set"/\∃S n,H p=some (.set S n))
 |_=>False
theorem ZeG {pins:List (Addr×Obj)}{σ:St}{H:Hp}{s:Shared}{T:String}{x:V}{v:Value}(I:Inv X pins σ H s)(r:RelV x v)(ty:tyV X.K T x H) :
  s.TypeIs v T/\∀a,v=.ref a->∃ob,s.heap.get? a=some ob/\ob.dict=none:=by
 cases x with
 |str z=>
  obtain⟨t,rfl⟩:=r
  cases (show T = "str" from ty)
  exact⟨typeIs_str s z t,fun _ e=>nomatch e⟩
 |int i=>
  obtain⟨t,rfl⟩:=r
  cases (show T = "int" from ty)
  exact⟨typeIs_int s i t,fun _ e=>nomatch e⟩
 |ref p=>
  cases r
  rcases ty with ⟨rfl,xs,hq⟩|⟨rfl,o,hk,hc,hd⟩|⟨rfl,hk⟩|⟨rfl,S,n,hk⟩
  ·obtain⟨its,_,pl,_⟩:=I.list hq
   refine⟨pl.isList.typeIs,fun a e=>?_⟩
   cases e
   obtain⟨o,n,e,c,hd,_⟩:=pl
   exact⟨o,e,hd⟩
  ·refine⟨⟨o,I.kIn p o hk,hc⟩,fun a e=>?_⟩
   cases e
   exact⟨o,I.kIn _ o hk,hd⟩
  ·have z:∃o,s.heap.get? p=some o/\o.ExactDict:=by
    rcases hk with ⟨kvs,hk⟩|⟨kvs,hk⟩
    ·obtain⟨_,_,_,_,o,_,_,e,ex,_⟩:=I.hok p _ hk
     exact⟨o,e,ex⟩
    ·obtain⟨_,_,_,_,o,_,_,e,ex,_⟩:=I.hok p _ hk
     exact⟨o,e,ex⟩
   obtain⟨o,e,ex⟩:=z
   refine⟨⟨o,e,ex.1⟩,fun a e2=>?_⟩
   cases e2
   exact⟨o,e,ex.2.1⟩
  ·obtain⟨o,_,_,_,e,ex,_⟩:=I.hok p _ hk
   refine⟨⟨o,e,ex.1⟩,fun a e2=>?_⟩
   cases e2
   exact⟨o,e,ex.2.1⟩
 |_=>exact False.elim ty
def tBM (K:PySem.W.Frag)(T:String)(r:V->List V->Hp->VK->Prop)(to:TE)(t:TA):TE:=fun σ H Q=>to σ H fun x H1=>tyV K T x H1/\t σ H1 fun xs H2=>r x xs H2 Q
variable {o e:Expr}{es:List Expr}{to:TE}{t:TA}{name:Str}{apos cpos:Pos}{T id:String}{r:V->List V->Hp->VK->Prop}
theorem Ym (pa:PlainAttrs T)(slot:Slot T name id)(hty:typeOf (.builtin id)=pure (.type "method_descriptor"))(hm:MtR X id r)(ho:PE X o to)(ha:PA X (e::es) t)
  (hbase:attributeBase o name X.env (eval o X.env)=eval o X.env:=by rfl)
  (hfew:((backTo cpos (starEach (e::es) X.env)).all (fun x=>!x.1) && (backToKw cpos (keywordEach [] X.env)).all (fun x=>x.1.isSome)
   && decide ((e::es).length+([]:List Keyword).length+(if ([]:List Keyword).isEmpty then 0 else 1)<30))=true:=by rfl)
  (hline:(apos.endLine == cpos.line)=true:=by rfl) (hs:starEach (e::es) X.env=(false,eval e X.env)::starEach es X.env:=by rfl) (hplain:(backTo cpos (starEach es X.env)).any (·.1)=false:=by rfl) :
  PE X (.Call (.Attribute o name apos) (e::es) [] cpos) (tBM X.K T r to t):=by
 intro pins s σ H Q I h
 refine wpAny_Call_method_late hbase hfew hline rfl (Z8 (ho pins s σ H _ I h) fun v s1 ⟨x,H1,I1,r1,ty,q1⟩=>?_)
 obtain⟨h1,h2⟩:=ZeG I1 r1 ty
 refine⟨T,id,pa,slot,hty,h1,h2,?_⟩
 have hA:=ha cpos pins s1 σ H1 _ I1 q1
 rw[hs] at hA ⊢
 refine Calls.callWith_builtin (by show (false || (backTo cpos (starEach es X.env)).any (·.1))=false;rw[hplain] <;> rfl) (Calls.evalArgs_plain ?_)
 exact Z8 hA fun us s2 ⟨vs,H2,I2,r2,q2⟩=>hm pins s2 σ H2 x vs v us Q I2 r1 r2 q2
end
def MtM (X:Cx)(id:String)(r:V->List V->Hp->VK->Prop):Prop:=
 ∀(pins:List (Addr×Obj)) (s:Shared) (σ:St) (H:Hp) (x:V) (xs:List V) (v:Value) (us:List Value) (Q:VK),Inv X pins σ H s->RelV x v->ZE xs us->r x xs H Q->
  wpAny (model X.prog X.w) X.A (call (.builtin id) (v::us)) (EP X pins σ Q) X.xe s
theorem ZE.one:∀{x:V}{us:List Value},ZE [x] us->∃u,us=[u]/\RelV x u
 |_,_,.cons r .nil=>⟨_,rfl,r⟩
theorem ZE.eraseIdx:∀{xs:List V}{us:List Value} (i:Nat),ZE xs us->ZE (xs.eraseIdx i) (us.eraseIdx i)
 |_,_,_,.nil=>.nil
 |_,_,0,.cons _ t=>t
 |_,_,i+1,.cons r t=>.cons r (ZE.eraseIdx i t)
theorem ZE.reverse {xs:List V}{us:List Value}(h:ZE xs us):ZE xs.reverse us.reverse:=by
 induction h with
 |nil=>exact .nil
 |cons r t ih=>rw[List.reverse_cons,List.reverse_cons];exact ZE.append ih (.cons r .nil)
theorem XQ {α:Type}:∀(l:List α) (i:Nat),(l.eraseIdx i).length<=l.length
 | [],_=>Zq _
 |_::_,0=>Nat.le_succ _
 |_::r,i+1=>Nat.succ_le_succ (XQ r i)
section
variable {X:Cx}{pins:List (Addr×Obj)}{σ:St}{H:Hp}{s:Shared}{l b:Addr}{xs ys zs:List V}
theorem Inv.lset {its its':List Value}{n:Nat}{f:Array Value->Array Value}{t':Nat}(I:Inv X pins σ H s)(hH:H l=some (.lst xs))
  (e:s.heap.get? l=some {cls:=.type "list",data:=.seq its.toArray n}) (hf:f its.toArray=its'.toArray) (hv:ZE ys its') (hz:ys.length<=sizeLine) :
  Inv X pins σ (upd H l (.lst ys)) {s with heap:=s.heap.update l (Obj.mapSeq f),toks:=t'}:=by
 have q:=PySem.IsL.update e f
 rw[hf] at q
 refine I.write (x:=l) (e:=l) (by rw[hH];exact trivial) (.inl rfl) (fun b' u hb hu=>(Heap.get?_update_other s.heap (Obj.mapSeq f) (Ne.symm hb)).trans hu) ⟨_,q⟩ ?_
 exact⟨hz,its',_,hv,q⟩
theorem Inv.lnew {its:List Value}{t':Nat}(I:Inv X pins σ H s)(hv:ZE ys its)(hz:ys.length<=sizeLine) :
  Inv X pins σ (upd H s.heap.objs.size (.lst ys)) {s with heap:=s.heap.push {cls:=.type "list",data:=.seq its.toArray},toks:=t'}:=
 I.laid (fun _ _ q=>Zn _ q) (Zq _) ⟨hz,its,0,hv,Zo _ rfl⟩
theorem Inv.fresh (I:Inv X pins σ H s):H s.heap.objs.size=none:=I.hok.fresh (Zq _)
theorem Inv.lstM (I:Inv X pins σ H s)(hH:H l=some (.lst xs)):xs.length<=sizeLine/\∃(its:List Value) (n:Nat),ZE xs its/\xs.length=its.length/\s.heap.get? l=some {cls:=.type "list",data:=.seq its.toArray n}:=by
 obtain⟨z,its,n,r,e⟩:=I.hok l _ hH
 exact⟨z,its,n,r,r.length,e⟩
theorem Zcx {n:Nat}(h:n<=sizeLine):Builtin.List.listTooLong n=false:=by
 unfold Builtin.List.listTooLong
 exact decide_eq_false (by omega)
end
section
variable {X:Cx}
def Zdw:V->List V->Hp->VK->Prop:=fun x vs H Q=>∃l xs y,x=.ref l/\vs=[y]/\H l=some (.lst xs)/\xs.length<sizeLine/\Q .non (upd H l (.lst (xs++[y])))
theorem ZI:MtM X "list.append" Zdw:=by
 intro pins s σ H x vs v us Q I rx rv h
 obtain⟨l,xs,y,rfl,rfl,hH,hz,q⟩:=h
 cases rx
 obtain⟨u,rfl,ru⟩:=rv.one
 obtain⟨z,its,n,r,hl,e⟩:=I.lstM hH
 refine call_meets F.slot_list_append ⟨_,e,rfl⟩ F.entry_list_append (F.args_list_append_2 _ _) (PySem.list_append l its.toArray n u (by rw[Zh];omega)) ⟨e,?_⟩
 refine⟨.non,_,I.lset (its':=its++[u]) hH e (by simp) (r.append (.cons ru .nil)) ?_,rfl,q⟩
 rw[Zd,Zk]
 omega
def Zdv:V->List V->Hp->VK->Prop:=fun x vs H Q=>∃l b xs zs,x=.ref l/\vs=[.ref b]/\H l=some (.lst xs)/\H b=some (.lst zs)/\xs.length+zs.length<=sizeLine/\Q .non (upd H l (.lst (xs++zs)))
theorem Zbf:MtM X "list.extend" Zdv:=by
 intro pins s σ H x vs v us Q I rx rv h
 obtain⟨l,b,xs,zs,rfl,rfl,hH,hB,hz,q⟩:=h
 cases rx
 obtain⟨u,rfl,ru⟩:=rv.one
 cases ru
 obtain⟨z,its,n,r,hl,e⟩:=I.lstM hH
 obtain⟨z2,its2,n2,r2,hl2,e2⟩:=I.lstM hB
 have hsz:its.toArray.size+its2.toArray.size<=sizeLine:=by rw[Zh,Zh];omega
 have hlong:¬(!its.toArray.isEmpty && Builtin.List.listTooLong (its.toArray.size+its2.toArray.size))=true:=by
  rw[Zcx hsz,Bool.and_false]
  exact Bool.false_ne_true
 refine call_meets F.slot_list_extend ⟨_,e,rfl⟩ F.entry_list_extend (F.args_list_extend_2 _ _)
  (AutoSeq1.list_extend_list_list_0 l its.toArray n b its2.toArray n2 hlong (by rw[Zh];omega) (by omega)) ⟨e,e2,?_⟩
 refine⟨.non,_,I.lset (its':=its++its2) hH e (by simp) (r.append r2) ?_,rfl,q⟩
 rw[Zd]
 omega
def ZeV:V->List V->Hp->VK->Prop:=fun x vs H Q=>∃l xs i k y,x=.ref l/\vs=[.int i]/\H l=some (.lst xs)/\-(2 ^ 63)<=i/\i<2 ^ 63/\seqIndex? i xs.length=some k/\xs[k]?=some y/\Q y (upd H l (.lst (xs.eraseIdx k)))
theorem VV:MtM X "list.pop" ZeV:=by
 intro pins s σ H x vs v us Q I rx rv h
 obtain⟨l,xs,i,k,y,rfl,rfl,hH,h1,h2,hk,hy,q⟩:=h
 cases rx
 obtain⟨u,rfl,ru⟩:=rv.one
 obtain⟨t,rfl⟩:=ru
 obtain⟨z,its,n,r,hl,e⟩:=I.lstM hH
 obtain⟨w,hw,rw'⟩:=r.get hy
 refine call_meets F.slot_list_pop ⟨_,e,rfl⟩ F.entry_list_pop (F.args_list_pop_2 _ _)
  (MeetsSeq.list_pop_at l its.toArray n i t k w (fitsIndex_both h1 h2) (by rw[Zh,<-hl];exact hk) (by rw[<-Array.getElem?_toList];exact hw) (by rw[Zh];omega)) ⟨e,?_⟩
 refine⟨y,_,I.lset (its':=its.eraseIdx k) hH e ?_ (r.eraseIdx k) ?_,rw',q⟩
 ·show its.toArray.eraseIdxIfInBounds k=(its.eraseIdx k).toArray
  rw[List.eraseIdxIfInBounds_toArray]
 ·have:=XQ xs k
  omega
def ZhN:R2:=fun x y H Q=>∃l b xs zs,x=.ref l/\y=.ref b/\H l=some (.lst xs)/\H b=some (.lst zs)/\xs.length+zs.length<=sizeLine/\∀p,H p=none->Q (.ref p) (upd H p (.lst (xs++zs)))
theorem UM:Jm X (binaryOp .Add) ZhN:=by
 intro pins s σ H x y v u Q I rx ry h
 obtain⟨l,b,xs,zs,rfl,rfl,hH,hB,hz,q⟩:=h
 cases rx
 cases ry
 obtain⟨z,its,n,r,hl,e⟩:=I.lstM hH
 obtain⟨z2,its2,n2,r2,hl2,e2⟩:=I.lstM hB
 refine PySem.P.add_list e e2 ?_ (by rw[Zh,Zh];omega)
 have ea:its.toArray++its2.toArray=(its++its2).toArray:=by simp
 rw[ea]
 exact⟨.ref _,_,I.lnew (t':=s.toks) (r.append r2) (by rw[Zd];omega),rfl,q _ I.fresh⟩
end
section
variable {prog:Program}{w:World}{A:Around}{E:Value->Shared->Prop}{s:Shared}
end
section
variable {X:Cx}
end
end L2
namespace Att
open PySem PySem.W PySem.Calls PyProof.Rows
theorem JQ {P:Params}{h:Heap}:∀(ns:List Int) (vs:List Value),WellAll P h vs (ns.map WData.int)->IntsAre vs ns:=by
 intro ns
 induction ns with
 |nil=>
  intro vs w
  rw[List.map_nil] at w
  cases w
  exact .nil
 |cons n ns ih=>
  intro vs w
  rw[List.map_cons] at w
  cases w with
  |cons a b=>
   cases a
   exact .cons _ _ (ih _ b)
theorem ZaX {l:OpenLaw}{n:Nat}(hn:l.most=some n){P:Params}{h:Heap}{args:List WData}{vals:List Value}
  (hpre:l.row.toRowW.claim.pre args=true) (hwl:WellAll P h vals args) :
  ∃a vs ns,vals=[Value.ref a]/\args=[WData.list (ns.map WData.int)]/\h.get? a=some {cls:=.type "list",data:=.seq vs.toArray}/\IntsAre vs ns/\ns.length<=n:=by
 have hsh:WShape.hasAll [] args [.list .int]=true:=(pre_splitW hpre).1
 have hc:l.pre.holds [] {args:=args}=true:=(pre_splitW hpre).2
 obtain⟨d,r,rfl,h1,h2⟩:=hasAllW_cons hsh
 obtain rfl:=hasAllW_nil h2
 obtain⟨xs,rfl,h3⟩:=hasW_list h1
 obtain⟨ns,rfl⟩:=items_int h3
 have hlen:ns.length<=n:=by
  unfold OpenLaw.pre at hc
  have h4:(WTm.not (.lt (.lit (.int (n:Int))) (.len (.arg 0)))).holds [] {args:=[.list (ns.map .int)]}=true:=by
   have h4:=(holds_andW hc).1
   rw[hn] at h4
   exact h4
  have h5:=condW_of h4 (w_not (w_lt w_lit (w_len_list (w_arg rfl))))
  rw[Za] at h5
  refine Nat.le_of_not_lt fun q=>?_
  have q':(n:Int)<((ns.length:Nat):Int):=by omega
  first
   |(rw[decide_eq_true q'] at h5;exact absurd h5 (by decide))
   |(simp at h5;omega)
 cases hwl with
 |cons w1 w2=>
  cases w2
  cases w1 with
  |list ho hall=>exact⟨_,_,ns,rfl,rfl,ho,JQ ns _ hall,hlen⟩
theorem Za3 (l:OpenLaw)(args:List WData):l.row.toRowW.claim.post args (.bool true) args=true:=
 postW_of (r:=l.row.toRowW) (X:=(true == true))
  (show WShape.has [] (.bool true) .bool=true by first|rfl|decide|simp[WShape.has,WShape.arms,WShape.armsAll])
  (show (WTm.eq .res (.lit (.bool true))).value [] {args:=args,res:=some (.bool true),after:=args}=some (.bool (true == true)) from w_eq_bool (w_res rfl) w_lit) rfl
theorem Uf {l:OpenLaw}{n:Nat}{q:Program}{loose:List Str}{XP:(Str->Option Value)->Heap->Prop}{YP:World->Heap->Prop}{d:DefRec}
  (hn:l.most=some n) (hdf:d.params.defaults=[])
  (call:∀(w:World) (s₀ s₁:Shared) (mg mb:Str->Option Value) (fa:Addr) (o:Obj) (pm cd doc:Value) (a:Addr) (vs:List Value) (ns:List Int),
   Ground q loose [] XP w s₀ mg mb s₁.heap->YP w s₁.heap->
   s₁.heap.get? fa=some o->o.data=.func (docDef d.name d.params d.body d.scope pm cd doc)->s₁.heap.CodeRec cd d.name->mg d.name=some (.ref fa)->
   s₁.heap.get? a=some {cls:=.type "list",data:=.seq vs.toArray}->IntsAre vs ns->ns.length<=n->s₁.gens=#[]->
   codeAny (model l.prog w) callerA (.call (.ref fa) ⟨[.ref a],[]⟩) (fun r s'=>r=.ok (.ret (.bool true))/\OldK s₁.heap s'.heap/\s'.os=s₁.os/\AllBare s'.gens) s₁) :
  WalkO q loose XP YP l.row.toRowW d [] (fun f vs=>PySem.call f vs):=by
 intro w s₀ s₁ mg mb G Y fa o pm cd doc dV kV ho hd hcd hD hmg hg args vals as hpre hlay hrd hwl hlo
 obtain rfl:dV=.none:=Dflts.none hD hdf
 obtain rfl:kV=.none:=Dflts.noKw hD
 obtain⟨a,vs,ns,rfl,rfl,hobj,hints,hlen⟩:=ZaX hn hpre hwl
 refine enter_call (codeAny_mono (call w s₀ s₁ mg mb fa o pm cd doc a vs ns G Y ho (fd_plain hd) hcd hmg hobj hints hlen hg) fun r s' hq=>?_)
 obtain⟨rfl,h2,h3,h4⟩:=hq
 exact⟨.inl ⟨.bool true,.bool true,[],rfl,fun _=>rfl,.bool true,Za3 l _,fun _=>⟨List.Pairwise.nil,fun _ hm=>(nomatch hm)⟩⟩,h2,h3,h4⟩
section
variable {prog:Program}{w:World}{A:Around}{E:Value->Shared->Prop}{s:Shared}{K:Frag}
end
end Att
namespace L2
open PySem PySem.Spec PyProof.Rows
theorem XC:∀{vs:List Value}{ns:List Int},IntsAre vs ns->ZE (ns.map V.int) vs
 |_,_,.nil=>.nil
 |_,_,.cons n t h=>.cons ⟨t,rfl⟩ (XC h)
def Yq (s:Stmt):Arguments:=match s with
 | .FunctionDef _ a _ _ _ _ _ _ _ _=>a
 |_=>{posonlyargs:=[],args:=[],vararg:=none,kwonlyargs:=[],kw_defaults:=[],kwarg:=none,defaults:=[]}
def ZO (s:Stmt):List Stmt:=match s with
 | .FunctionDef _ _ b _ _ _ _ _ _ _=>b
 |_=>[]
def ZC (s:Stmt):Scope:=match s with
 | .FunctionDef _ _ _ _ _ _ sc _ _ _=>sc
 |_=>{kind:=.function,names:=[],isGenerator:=false,isCoroutine:=false}
abbrev Yp:JT:=fun _ _ _ _ _ _=>False
abbrev E0:XK:=fun _ _ _=>False
theorem ZG {X:Cx}:WG Yp X E0:=fun _ _ _ _ _ _ _ h=>h.elim
structure Wt (K:PySem.W.Frag)(x qual:Str)(st:Stmt)(f:Addr)(fd:FuncData):Prop where
 ex:∃(oc:Value) (od:Option Addr) (kV doc pm:Value) (an:Option Addr) (cdv ct:Value) (osl:Array (Option Value)),
  fd=PySem.W.fnOf x qual (Yq st) (ZO st) (ZC st) .none kV doc pm an cdv ct/\K.lookup f=some ⟨oc,od,.func fd,osl⟩/\PySem.W.codeIn K cdv qual=true
 kp:PySem.W.keepIn K (.ref f)=true
section
variable {P:Program}{w:World}{K:PySem.W.Frag}{mg:Str->Option Value}{base:Heap}
theorem Wt.ok {x qual:Str}{st:Stmt}{f:Addr}{fd:FuncData}{N ps:List Str}{k:Nat}{sp:Sp}(F:Wt K x qual st f fd)(S:WN N ps (ZC st))(len:∀vs H Q E,sp vs H Q E->vs.length=ps.length)
  (hbody:∀(cdv:Value) (A:Around) (outer:List Env) (s:Shared) (H:Hp) (vs:List V) (Q:VK) (E:XK),YM k (A.deeper (envOfC qual (ZC st) s.heap.objs.size f cdv))->sp vs H Q E->
   ∃t,Xz (Xu Yp P w K mg base N qual (ZC st) f cdv A outer s H E).nox (ZO st) t/\t {nx:=fun _ H'=>Q .non H',rt:=Q} (start N vs) H):Z5 P w K mg base Yp (k+1) f fd ps sp:=by
 obtain⟨oc,od,kV,doc,pm,an,cdv,ct,osl,rfl,lk,hcd⟩:=F.ex
 refine ZcN lk hcd S len fun A outer s H vs Q E hr hsp=>?_
 obtain⟨t,h,q⟩:=hbody cdv A outer s H vs Q E hr hsp
 exact⟨t,h.nox,q⟩
theorem Wt.binds {x qual:Str}{st:Stmt}{f:Addr}{fd:FuncData}{ps:List Str}(F:Wt K x qual st f fd)
  (h:∀(kV doc pm:Value) (an:Option Addr) (cdv ct:Value) (us:List Value),us.length=ps.length->bindArgs (PySem.W.fnOf x qual (Yq st) (ZO st) (ZC st) .none kV doc pm an cdv ct) ⟨us,[]⟩=pure (ps.zip us)):Binds K fd ps []:=by
 obtain⟨oc,od,kV,doc,pm,an,cdv,ct,osl,rfl,lk,hcd⟩:=F.ex
 exact .all (h kV doc pm an cdv ct)
theorem Vm {x qual:Str}{st:Stmt}{f:Addr}{oc:Value}{od an:Option Addr}{osl:Array (Option Value)}{kV doc pm cdv ct:Value}(l:K.lookup f=some ⟨oc,od,.func (PySem.W.fnOf x qual (Yq st) (ZO st) (ZC st) .none kV doc pm an cdv ct),osl⟩)
  (c:PySem.W.codeIn K cdv qual=true) (k:PySem.W.keepIn K (.ref f)=true):Wt K x qual st f (PySem.W.fnOf x qual (Yq st) (ZO st) (ZC st) .none kV doc pm an cdv ct):=⟨⟨oc,od,kV,doc,pm,an,cdv,ct,osl,rfl,l,c⟩,k⟩
end
section
variable {X:Cx}
end
theorem Y2 {c A B:Prop} [Decidable c](h1:c->A)(h2:¬c->B):if c then A else B:=by
 by_cases h:c
 ·rw[if_pos h]
  exact h1 h
 ·rw[if_neg h]
  exact h2 h
def Zw (H H':Hp):Prop:=∀b o,H b=some o->H' b=some o
theorem Zw.refl (H:Hp):Zw H H:=fun _ _ h=>h
theorem Zw.trans {H H1 H2:Hp}(a:Zw H H1)(b:Zw H1 H2):Zw H H2:=fun c o h=>b c o (a c o h)
theorem Zw.free {H H':Hp}(e:Zw H H'){l:Addr}(h:H' l=Option.none):H l=Option.none:=by
 cases q:H l with
 |none=>rfl
 |some o=>
  rw[e l o q] at h
  cases h
theorem Zw.seq {K:PySem.W.Frag}{H H':Hp}{a:Addr}{xs:List V}(e:Zw H H')(h:Wq K H a xs):Wq K H' a xs:=by
 rcases h with (h|⟨o,h⟩)|h
 ·exact .inl (.inl (e _ _ h))
 ·exact .inl (.inr ⟨o,e _ _ h⟩)
 ·exact .inr h
end L2
set_option maxHeartbeats 4000000
namespace L2
open PySem PySem.Spec PyProof.Rows
structure WO (N:List Str)(esc:Scope)(own:List Str)(caps:List Nat)(N':List Str)(sc:Scope):Prop where
 kind:sc.kind=.function
 ndn:(sc.names.map (·.1)).Nodup
 uniq:∀y∈sc.names,y.2=.local->sc.names.lookup y.1=some .local
 nd:N'.Nodup
 eqN:N'=own++caps.map fun j=>N.getD j ""
 cap:∀j∈caps,j<N.length/\sc.names.lookup (N.getD j "")=some .free
 fr:∀y∈sc.names,y.2=.free->esc.names.lookup y.1=some .cell\/esc.names.lookup y.1=some .free
def JR (own:List Str)(caps:List Nat)(σ:St):St:=List.replicate own.length none++caps.map fun j=>(σ[j]?).join
theorem WZ {env:Env}:∀(names:List (Str×NameKind)) (acc:List (Str×Addr)),(∀y∈names,y.2=.free->∃c,env.cells.lookup y.1=some c)->(∀y c,acc.lookup y=some c->env.cells.lookup y=some c)->
  ∃cl,(forIn names acc (fun x r=>if (x.2 == NameKind.free)=true then (do let c <-cellOf env x.1;pure (ForInStep.yield ((x.1,c)::r))) else pure (ForInStep.yield r)):Sem (List (Str×Addr)))=pure cl/\
   (∀y c,cl.lookup y=some c->env.cells.lookup y=some c)/\(∀y,(∃c,acc.lookup y=some c)->∃c,cl.lookup y=some c)/\∀y∈names,y.2=.free->∃c,cl.lookup y.1=some c
 | [],acc,_,ha=>⟨acc,rfl,ha,fun _ h=>h,fun _ h=>absurd h (by simp)⟩
 | (n,k)::r,acc,hn,ha=>by
  rw[List.forIn_cons]
  by_cases hk:k=.free
  ·subst hk
   obtain⟨c,hc⟩:=hn (n,.free) List.mem_cons_self rfl
   have ha':∀y d,((n,c)::acc).lookup y=some d->env.cells.lookup y=some d:=fun y d e=>by
    rw[List.lookup_cons] at e
    cases q:y == n with
    |true=>rw[q] at e;cases e;rw[beq_iff_eq.mp q];exact hc
    |false=>rw[q] at e;exact ha y d e
   obtain⟨cl,e,h1,h2,h3⟩:=WZ r ((n,c)::acc) (fun y hy=>hn y (List.mem_cons_of_mem _ hy)) ha'
   have hh:∀y,(∃d,acc.lookup y=some d)->∃d,((n,c)::acc).lookup y=some d:=fun y ⟨d,hd⟩=>by
    rw[List.lookup_cons]
    cases q:y == n with
    |true=>exact⟨c,rfl⟩
    |false=>exact⟨d,hd⟩
   have hs:∃d,((n,c)::acc).lookup n=some d:=⟨c,by rw[List.lookup_cons,beq_self_eq_true]⟩
   refine⟨cl,?_,h1,fun y hy=>h2 y (hh y hy),fun y hy hf=>?_⟩
   ·have hcell:cellOf env n=pure c:=by simp only[cellOf,hc]
    simp only[beq_self_eq_true,if_true,hcell]
    simp only[pure_bind]
    exact e
   ·rcases List.mem_cons.mp hy with rfl|hy
    ·exact h2 _ hs
    ·exact h3 y hy hf
  ·obtain⟨cl,e,h1,h2,h3⟩:=WZ r acc (fun y hy=>hn y (List.mem_cons_of_mem _ hy)) ha
   refine⟨cl,?_,h1,h2,fun y hy hf=>?_⟩
   ·have hb:(k == NameKind.free)=false:=by simpa using hk
    simp only[hb,Bool.false_eq_true,if_false,pure_bind]
    exact e
   ·rcases List.mem_cons.mp hy with rfl|hy
    ·exact absurd hf hk
    ·exact h3 y hy hf
theorem U3 {scope:Scope}{env:Env}(h:∀y∈scope.names,y.2=.free->∃c,env.cells.lookup y.1=some c) :
  ∃cl,closureFor scope env=pure cl/\(∀y c,cl.lookup y=some c->env.cells.lookup y=some c)/\∀y∈scope.names,y.2=.free->∃c,cl.lookup y.1=some c:=by
 obtain⟨cl,e,h1,_,h3⟩:=WZ (env:=env) scope.names [] h (fun y c e=>by simp at e)
 refine⟨cl,?_,h1,h3⟩
 have q:closureFor scope env=((forIn scope.names ([]:List (Str×Addr)) (fun x r=>if (x.2 == NameKind.free)=true then (do let c <-cellOf env x.1;pure (ForInStep.yield ((x.1,c)::r))) else pure (ForInStep.yield r)):Sem (List (Str×Addr))) >>= fun cs=>pure cs):=rfl
 rw[q,e]
 rfl
theorem YY {names:List (Str×NameKind)}{x:Str}{k:NameKind}(h:names.lookup x=some k):(x,k)∈names:=PySem.mem_of_lookup h
theorem Yz {env:Env}{x:Str}:∀{names:List (Str×NameKind)}{k:NameKind},
  (names.map fun (n,k)=>if (k == NameKind.free && env.scope.kind == .function && env.kindOf n == some .cell) then (n,NameKind.cell) else (n,k)).lookup x=some k->
  names.lookup x=some k\/(k=.cell/\names.lookup x=some .free)
 | [],_,h=>by simp at h
 | (n,k0)::r,k,h=>by
  have ih:=@Yz env x r k
  have h:List.lookup x ((if (k0 == NameKind.free && env.scope.kind == .function && env.kindOf n == some .cell)=true then (n,NameKind.cell) else (n,k0))::_)=some k:=h
  rw[List.lookup_cons]
  by_cases hc:(k0 == NameKind.free && env.scope.kind == .function && env.kindOf n == some .cell)=true
  ·rw[if_pos hc,List.lookup_cons] at h
   have hk0:k0=.free:=by
    simp only[Bool.and_eq_true,beq_iff_eq] at hc
    exact hc.1.1
   cases q:x == n with
   |true=>rw[q] at h;cases h;right;exact⟨rfl,by rw[hk0]⟩
   |false=>rw[q] at h;exact ih h
  ·rw[if_neg hc,List.lookup_cons] at h
   cases q:x == n with
   |true=>rw[q] at h;cases h;left;rfl
   |false=>rw[q] at h;exact ih h
section
variable {X:Cx}
def Zc9 (scope:Scope)(x:Str):Bool:=scope.names.any fun y=>y.1 == x && (match y.2 with | .cell=>true|_=>false)
theorem Zbw {scope:Scope}{x:Str}(h:Zc9 scope x=true):(x,NameKind.cell)∈scope.names:=by
 unfold Zc9 at h
 obtain⟨⟨n,k⟩,hm,hy⟩:=List.any_eq_true.mp h
 rw[Bool.and_eq_true] at hy
 obtain⟨h1,h2⟩:=hy
 have e:n=x:=by simpa using h1
 subst e
 cases k <;> first|exact hm|cases h2
theorem WK {x:Str}{k:NameKind}:∀{names:List (Str×NameKind)},(names.map (·.1)).Nodup->(x,k)∈names->names.lookup x=some k
 | [],_,h=>by cases h
 | (n,k0)::r,nd,h=>by
  rw[List.map_cons,List.nodup_cons] at nd
  rw[List.lookup_cons]
  rcases List.mem_cons.mp h with e|h
  ·cases e
   simp
  ·have:(x == n)=false:=by
    refine Bool.eq_false_iff.mpr fun z=>nd.1 ?_
    rw[<-beq_iff_eq.mp z]
    exact List.mem_map.mpr ⟨_,h,rfl⟩
   rw[this]
   exact WK nd.2 h
theorem Wg:∀(names:List (Str×NameKind)) (n:Nat) (acc:List (Str×Addr)),cellsFrom n names acc=cellsFrom n names []++acc
 | [],n,acc=>rfl
 |(x,k)::r,n,acc=>by
  unfold cellsFrom
  by_cases hk:(k == NameKind.cell)=true
  ·rw[if_pos hk,if_pos hk,Wg r (n+1) ((x,n)::acc),Wg r (n+1) [(x,n)],List.append_assoc]
   rfl
  ·rw[if_neg hk,if_neg hk,Wg r n acc]
theorem WM {x:Str}{c:Addr}:∀(names:List (Str×NameKind)) (n:Nat) (acc:List (Str×Addr)),(x,c)∈cellsFrom n names acc->(x,NameKind.cell)∈names\/(x,c)∈acc
 | [],n,acc,h=>.inr h
 | (y,k)::r,n,acc,h=>by
  unfold cellsFrom at h
  by_cases hk:(k == NameKind.cell)=true
  ·rw[if_pos hk] at h
   rcases WM r (n+1) _ h with z|z
   ·exact .inl (List.mem_cons_of_mem _ z)
   ·rcases List.mem_cons.mp z with e|z
    ·cases e
     have:k=.cell:=by cases k <;> first|rfl|cases hk
     rw[this]
     exact .inl List.mem_cons_self
    ·exact .inr z
  ·rw[if_neg hk] at h
   rcases WM r n _ h with z|z
   ·exact .inl (List.mem_cons_of_mem _ z)
   ·exact .inr z
theorem ZdU {M:Model}{A:Around}{E:Value->Shared->Prop}{s:Shared}{scope:Scope}{globals:Addr}{cl:List (Str×Addr)}{qual:Str}{around:Env}{Q:Env->Shared->Prop}
  (hQ:Q (newEnv scope s.heap.objs.size globals (cellsFrom (s.heap.objs.size+1) scope.names cl) qual none .none (some around) builtinsNs) {s with heap:=pushCells (s.heap.push {cls:=.type "dict",data:=.dict #[]}) scope.names}) :
  wpAny M A (newFunctionEnv scope globals cl [] qual none .none (some around)) Q E s:=by
 unfold newFunctionEnv
 refine Zl (wpAny_alloc ?_)
 refine Zl (wpAny_layCells _ (fun name kind cells=>by cases hkc:kind == NameKind.cell <;> simp[hkc]) _ _ _ _ ?_)
 rw[show ({s with heap:=s.heap.push {cls:=.type (if (some around).isSome=true then "dict" else "frame"),data:=.dict #[]}}:Shared).heap.objs.size=s.heap.objs.size+1 from Heap.size_push ..]
 exact Zl (by rw[List.forIn_nil];exact Zm (Zm hQ))
def Wa (X:Cx)(scope:Scope)(cl:List (Str×Addr))(N':List Str)(C:Addr)(s:Shared)(H:Hp)(ex:List Addr):Cx:=
 {X with N:=N',s₀:=s,H₀:=H,env:=compEnvC scope cl C X.env,outer:=X.stack,ex:=ex,fn:=Zc9 scope,pn:=[],xe:=fun _ _=>False}
def Jn (own:List Str)(caps:List Nat)(g:TG)(tc:TT)(te:TE)(σ:St)(Q:VK)(J:It)(H1:Hp):Prop:=∀D,H1 D=none->
 ∃W:Nat->Nat->St->Hp->Prop,(∃m,W 0 m (JR own caps σ) (upd H1 D (.lst [])))/\∀i m σ' H',W i m σ' H'->
  (J.stop i H'/\Q (.ref D) H')\/(J.go i H'/\∃N:St->Hp->Prop,(∀ σ2 H2,N σ2 H2->∃m',m'<m/\W (i+1) m' σ2 H2)/\∀x H2,J.yld i H' x H2->g x σ' H2 fun σ3 H3=>tc σ3 H3 fun b H4=>
   if b=true then te σ3 H4 fun v H5=>∃xs,H5 D=some (.lst xs)/\xs.length<sizeLine/\N σ3 (upd H5 D (.lst (xs++[v]))) else N σ3 H4)
def Zee (own:List Str)(caps:List Nat)(wi:TI)(g:TG)(tc:TT)(te:TE):TE:=fun σ H Q=>wi σ H fun J H1=>Jn own caps g tc te σ Q J H1
def WU:TT:=fun _ H Q=>Q true H
def PIf (X:Cx)(ifs:List Expr)(t:TT):Prop:=
 ∀(pins:List (Addr×Obj)) (s:Shared) (σ:St) (H:Hp) (Q:Bool->Hp->Prop),Inv X pins σ H s->t σ H Q->
  wpAny (model X.prog X.w) X.A (forIn ifs true fun c r=>if r=true then do let ok <-isTrue c X.env (eval c X.env);pure (ForInStep.yield ok) else pure (ForInStep.yield r)) (TP X pins σ Q) X.xe s
theorem YI:PIf X [] WU:=fun _ _ _ H _ I h=>wpAny_tests_nil ⟨H,I,h⟩
theorem Zdy {c:Expr}{t:TT}(h:PT X c t):PIf X [c] t:=fun pins s σ H Q I q=>wpAny_tests_one (h pins s σ H Q I q)
theorem WC {prog:Program}{w:World}{A:Around}{R:Result->Shared->Prop}{s:Shared}{elt target iter:Expr}{ifs:List Expr}{scope:Scope}{pos:Pos}{it acc:Value}{env:Env}(I:Nat->Shared->Prop)
  (turn:∀n s,I n s->wpAny (model prog w) A (pyNext it) (fun r s₁=>match r with
   |none=>R (.ok .next) s₁
   |some v=>wpAny (model prog w) A (letOwnedTupleGo target it v) (fun _ s₁'=>wpAny (model prog w) A (assign target env v) (fun _ s₂=>
     wpAny (model prog w) A (forIn ifs true fun c r=>if r=true then do let ok <-isTrue c env (eval c env);pure (ForInStep.yield ok) else pure (ForInStep.yield r)) (fun ok s₃=>
      if ok=true then wpAny (model prog w) A (eval elt env) (fun x s₄=>
       wpAny (model prog w) A (call (.builtin "list.append") [acc,x]) (fun _ s₅=>∃m,m<n/\I m s₅) (fun _ _=>False) s₄) (fun _ _=>False) s₃
      else ∃m,m<n/\I m s₃) (fun _ _=>False) s₂) (fun _ _=>False) s₁') (fun _ _=>False) s₁) (fun _ _=>False) s)
  (n:Nat) (h:I n s) :
  codeAny (model prog w) A (.compLoop (.ListComp elt [⟨target,iter,ifs,0⟩] scope pos) 0 it acc env) R s:=by
 refine codeAny_loop rfl I (fun n s hI=>?_) n h
 show wpAny _ A ((compTurn (.ListComp elt [⟨target,iter,ifs,0⟩] scope pos) 0 it acc env).onRaise (fun x=>do noteFrame x env;theTreesLotGoes x)) _ _ s
 refine wpAny_noted ?_
 rw[compTurn_list]
 refine Zl (wpAny_standAt (Zl (wpAny_mono (turn n s hI) (fun r s₁ h₁=>?_) fun _ _ h'=>h'.elim)))
 cases r with
 |none=>exact Zm h₁
 |some v=>
  refine Zl (wpAny_mono h₁ (fun _ s₁' h₁'=>?_) fun _ _ h'=>h'.elim)
  refine Zl (wpAny_mono h₁' (fun _ s₂ h₂=>Zl (wpAny_mono h₂ (fun ok s₃ h₃=>?_) fun _ _ h'=>h'.elim)) fun _ _ h'=>h'.elim)
  cases ok with
  |false=>exact Zm ⟨rfl,h₃⟩
  |true=>
   exact Zl (Zl (wpAny_mono h₃ (fun x s₄ h₄=>Zl (wpAny_mono h₄ (fun _ s₅ h₅=>Zm (Zm ⟨rfl,h₅⟩)) fun _ _ h'=>h'.elim)) fun _ _ h'=>h'.elim))
theorem U1 {own:List Str}{caps:List Nat}{N':List Str}{esc scope:Scope}{elt iter tg:Expr}{ifs:List Expr}{pos:Pos}{g:TG}{tc:TT}{te:TE}{cl:List (Str×Addr)}
  (hesc:X.env.scope=esc) (S:WO X.N esc own caps N' scope) (hc:X.calm=true)
  (hcl1:∀y c,cl.lookup y=some c->X.env.cells.lookup y=some c) (hcl2:∀y∈scope.names,y.2=.free->∃c,cl.lookup y.1=some c)
  (hg:∀cl C s H ex,PG (Wa X scope cl N' C s H ex) tg g) (ht:∀cl C s H ex,PIf (Wa X scope cl N' C s H ex) ifs tc) (he:∀cl C s H ex,PE (Wa X scope cl N' C s H ex) elt te)
  {pins:List (Addr×Obj)}{σ:St}{H2:Hp}{s2:Shared}{it:Addr}{fp:List Addr}{tn:Nat->Heap->Prop}{J:It}{Q:VK}{RR:Value->Addr->Result->Shared->Prop}{E:Value->Shared->Prop}
  (I2:Inv X pins σ H2 s2) (T:Zaa X.prog X.w X.K tg J fp it tn) (st2:tn 0 s2.heap) (f2:∀b∈fp,XA X pins H2 b)
  (h:Jn own caps g tc te σ Q J H2)
  (hRR:∀D C s' m H',s'.heap.Ns C m->C≠X.env.locals->(∀x c,X.env.cells.lookup x=some c->c≠C)->X.s₀.heap.objs.size<=C->(∀p∈X.pn++pins,p.1≠C)->H' C=none->Q (.ref D) H'->(∀h',Heap.SameBut C s'.heap h'->Inv X pins σ H' {s' with heap:=h'})->RR (.ref D) C (.ok .next) s') :
  wpAny (model X.prog X.w) X.A (newList []) (fun acc s₃=>wpAny (model X.prog X.w) X.A (newFunctionEnv scope X.env.globals cl [] X.env.qual none .none (some X.env)) (fun cenv s₄=>
   codeAny (model X.prog X.w) X.A (.compStart (.ListComp elt [⟨tg,iter,ifs,0⟩] scope pos) 0 (.ref it) acc {cenv with scope:=relabel scope X.env}) (RR acc cenv.locals) s₄) E s₃) E s2:=by
 refine wpAny_newObj_type (ZdU ?_)
 dsimp only
 have hD:H2 s2.heap.objs.size=none:=I2.hok.fresh (Zq _)
 obtain⟨W,⟨m0,w0⟩,turn⟩:=h _ hD
 generalize hH3:s2.heap.push {cls:=.type "list",dict:=none,data:=.seq ([]:List Value).toArray}=g3
 have hC:g3.objs.size=s2.heap.objs.size+1:=by rw[<-hH3,Heap.size_push]
 have old3:∀b o,s2.heap.get? b=some o->g3.get? b=some o:=fun b o e=>hH3▸Zn _ e
 have I3:Inv X pins σ (upd H2 s2.heap.objs.size (.lst [])) {s2 with heap:=g3,toks:=s2.toks}:=
  I2.laid (t':=s2.toks) old3 (Zq _) ⟨Nat.zero_le _,[],0,.nil,hH3▸Zo _ rfl⟩
 generalize hh1:pushCells (g3.push {cls:=.type "dict",data:=.dict #[]}) scope.names=h₁
 have k1:∀b o,g3.get? b=some o->h₁.get? b=some o:=fun b o e=>hh1▸pushCells_keeps _ _ b o (Zn _ e)
 have hns₁:h₁.Ns g3.objs.size (fun _=>none):=hh1▸(Heap.Ns.new g3 (.type "dict")).keeps (pushCells_keeps _ _)
 have okA:CellsOk h₁ (g3.objs.size+1) (cellsFrom (g3.objs.size+1) scope.names []):=by
  have q:=cellsFrom_ok scope.names (g3.push {cls:=.type "dict",data:=.dict #[]}) (g3.objs.size+1) [] ⟨fun _ _ hm=>(nomatch hm),List.Pairwise.nil⟩ (by rw[Heap.size_push];exact Zq _)
  rw[Heap.size_push,hh1] at q
  exact q
 have hcl':cellsFrom (g3.objs.size+1) scope.names cl=cellsFrom (g3.objs.size+1) scope.names []++cl:=Wg _ _ _
 have hsomeA:∀y,scope.names.lookup y=some .cell->∃c,(cellsFrom (g3.objs.size+1) scope.names []).lookup y=some c:=fun y hy=>Option.isSome_iff_exists.mp (PySem.W.cellsFrom_some scope.names (g3.objs.size+1) [] (.inl hy))
 generalize hcA:cellsFrom (g3.objs.size+1) scope.names []=cA at okA hcl' hsomeA
 have memA:∀y c,cA.lookup y=some c->(y,NameKind.cell)∈scope.names:=fun y c e=>by
  have:=PySem.mem_of_lookup e
  rw[<-hcA] at this
  rcases WM _ _ _ this with z|z
  ·exact z
  ·cases z
 generalize hcE:cellsFrom (g3.objs.size+1) scope.names cl=cE at hcl'
 have lkE:∀y c,cE.lookup y=some c->cA.lookup y=some c\/(cA.lookup y=none/\cl.lookup y=some c):=fun y c e=>by
  rw[hcl',List.lookup_append] at e
  cases q:cA.lookup y with
  |none=>rw[q] at e;exact .inr ⟨rfl,by simpa using e⟩
  |some c'=>rw[q] at e;exact .inl (by simpa using e)
 have lkF:∀y c,scope.names.lookup y=some .free->cl.lookup y=some c->cE.lookup y=some c:=fun y c hy e=>by
  rw[hcl',List.lookup_append]
  cases q:cA.lookup y with
  |none=>simpa using e
  |some c'=>
   have:=WK S.ndn (memA y c' q)
   rw[hy] at this
   cases this
 have fpn:∀b∈fp,upd H2 s2.heap.objs.size (.lst []) b=none:=fun b hb=>by
  obtain⟨o,ho,_⟩:=T.obj _ _ st2 b hb
  rw[Zy (Nat.ne_of_lt (Zp ho))]
  exact (f2 b hb).1
 have fplt:∀b∈fp,b<g3.objs.size:=fun b hb=>by
  obtain⟨o,ho,_⟩:=T.obj _ _ st2 b hb
  rw[hC];exact Nat.lt_succ_of_lt (Zp ho)
 generalize hX':Wa X scope cE N' g3.objs.size {s2 with heap:=g3,toks:=s2.toks} (upd H2 s2.heap.objs.size (.lst [])) fp=X'
 have hfs:X'.fs=Ul X.stack:=by rw[<-hX'];rfl
 have kindL:∀y,X'.env.kindOf y=some .cell\/X'.env.kindOf y=some .free->∃c,cE.lookup y=some c:=fun y hy=>by
  have hy':(relabel scope X.env).names.lookup y=some .cell\/(relabel scope X.env).names.lookup y=some .free:=by rw[<-hX'] at hy;exact hy
  have hf:scope.names.lookup y=some .free->∃c,cE.lookup y=some c:=fun hf=>by
   obtain⟨c,hc'⟩:=hcl2 _ (YY hf) rfl
   exact⟨c,lkF y c hf hc'⟩
  have hcc:scope.names.lookup y=some .cell->∃c,cE.lookup y=some c:=fun hf=>by
   obtain⟨c,hc'⟩:=hsomeA y hf
   exact⟨c,by rw[hcl',List.lookup_append,hc'];rfl⟩
  rcases hy' with q|q
  ·rcases Yz q with z|z
   ·exact hcc z
   ·exact hf z.2
  ·rcases Yz q with z|z
   ·exact hf z
   ·exact absurd z.1 (by decide)
 have cellsX:X'.env.cells=cE:=by rw[<-hX'];rfl
 have locX:X'.env.locals=g3.objs.size:=by rw[<-hX'];rfl
 have cne:∀x c,cl.lookup x=some c->c≠g3.objs.size/\c<g3.objs.size:=fun x c e=>by
  obtain⟨v,q⟩:=I3.cell x c (hcl1 x c e)
  exact⟨Nat.ne_of_lt q.lt,q.lt⟩
 have aboveA:∀x c,cA.lookup x=some c->g3.objs.size+1<=c:=fun x c e=>(okA.empty x c (PySem.mem_of_lookup e)).2
 have injE:∀x y c,cE.lookup x=some c->cE.lookup y=some c->x=y:=fun x y c a b=>by
  rcases lkE x c a with a|⟨_,a⟩ <;> rcases lkE y c b with b|⟨_,b⟩
  ·exact name_of_addr okA.apart (PySem.mem_of_lookup a) (PySem.mem_of_lookup b)
  ·have h1:g3.objs.size+1<=c:=aboveA x c a
   exact absurd (Nat.lt_of_lt_of_le (cne y c b).2 (Nat.le_of_succ_le h1)) (Nat.lt_irrefl _)
  ·have h1:g3.objs.size+1<=c:=aboveA y c b
   exact absurd (Nat.lt_of_lt_of_le (cne x c a).2 (Nat.le_of_succ_le h1)) (Nat.lt_irrefl _)
  ·exact I3.ok.inj x y c (hcl1 x c a) (hcl1 y c b)
 have ok':X'.Ok:=by
  refine hX'▸⟨I3.ok.mod,S.kind,I3.ok.glob,I3.ok.blt,Zq _,injE,?_,?cab,I3.ok.hd,I3.ok.frames,.inl rfl,?_,?_,?_,?_,?_,I3.stack,I3.stkFree⟩
  ·intro y hy
   exact kindL y (by rw[<-hX'];exact hy)
  ·intro x c z e
   have hm:=WK S.ndn (Zbw z)
   rcases lkE x c e with e|⟨n,_⟩
   ·exact Nat.le_of_succ_le (aboveA x c e)
   ·obtain⟨c',hc'⟩:=hsomeA x hm
    rw[n] at hc'
    cases hc'
  ·intro b hb
   refine⟨Nat.ne_of_lt (fplt b hb),fun x c e=>?_⟩
   rcases lkE x c e with e|⟨_,e⟩
   ·have h1:g3.objs.size+1<=c:=aboveA x c e
    exact fun z=>absurd (Nat.lt_of_lt_of_le (fplt b hb) (Nat.le_of_succ_le h1)) (by rw[z];exact Nat.lt_irrefl _)
   ·exact (f2 b hb).2.2.2.2.1 x c (hcl1 x c e)
  ·exact I3.bs
  ·exact Nat.le_trans I3.ok.bsz I3.sz
  ·intro b o e hb
   rcases (f2 b hb).2.2.2.1 with z|z
   ·exact I3.ok.noex b o e z
   ·exact absurd (Nat.lt_of_lt_of_le (Zp e) (Nat.le_trans I3.ok.bsz z)) (Nat.lt_irrefl _)
  ·intro b hb z
   rcases List.mem_cons.mp (I3.stkSub b z) with e|e
   ·exact (f2 b hb).2.1 e
   ·exact (f2 b hb).2.2.1 e
 have I4:Inv X' [] (JR own caps σ) (upd H2 s2.heap.objs.size (.lst [])) {s2 with heap:=h₁,toks:=s2.toks}:=by
  refine⟨ok',hX'▸rfl,I3.bare,?_,⟨_,by rw[locX];exact hns₁,?_⟩,?_,?_,?_,?_,?_,?_⟩
  ·rw[<-hX'];exact Un.kept k1
  ·intro i x v hN hσ hV
   have hN':N'[i]?=some x:=by rw[<-hX'] at hN;exact hN
   unfold JR at hσ
   by_cases hi:i<own.length
   ·rw[List.getElem?_append_left (by simpa using hi),List.getElem?_replicate] at hσ
    rw[if_pos hi] at hσ;cases hσ
   ·rw[List.getElem?_append_right (by simpa using hi),Ze,Zc] at hσ
    rw[S.eqN,List.getElem?_append_right (by omega),Zc] at hN'
    cases hj:caps[i-own.length]? with
    |none=>rw[hj] at hσ;cases hσ
    |some j=>
     rw[hj] at hσ hN'
     have hx:X.N.getD j ""=x:=Option.some.inj hN'
     obtain⟨hjl,hjf⟩:=S.cap j (List.mem_of_getElem? hj)
     rw[hx] at hjf
     have hjN:X.N[j]?=some x:=by
      rw[Zf hjl,<-hx,Zb,Zf hjl];rfl
     have hv:σ[j]?=some (some v):=by
      have q:(σ[j]?).join=some v:=Option.some.inj hσ
      cases q':σ[j]? with
      |none=>rw[q'] at q;cases q
      |some o=>rw[q'] at q;rw[show o=some v from q]
     have hkX:=S.fr (x,.free) (YY hjf) rfl
     rw[<-hesc] at hkX
     obtain⟨m,hn,hl⟩:=I3.loc
     have visX:Vis X.env.scope x:=hkX.elim (fun z=>.inr (.inl z)) fun z=>.inr (.inr z)
     obtain⟨u,ru,look⟩:=hl j x v hjN hv visX
     refine⟨u,ru,?_⟩
     obtain⟨c,hcc⟩:=hcl2 (x,.free) (YY hjf) rfl
     rcases look with ⟨a,_⟩|⟨_,c',hc',hcell⟩
     ·rcases hkX with z|z
      ·rw[show X.env.kindOf x=X.env.scope.names.lookup x from rfl,z] at a;cases a
      ·rw[show X.env.kindOf x=X.env.scope.names.lookup x from rfl,z] at a;cases a
     ·have:c'=c:=by rw[hcl1 _ _ hcc] at hc';cases hc';rfl
      subst this
      refine .inr ⟨?_,c',by rw[cellsX];exact lkF _ _ hjf hcc,hcell.keeps k1⟩
      rcases hV with q|q|q
      ·have q':(relabel scope X.env).names.lookup x=some .local:=by rw[<-hX'] at q;exact q
       rcases Yz q' with z|z
       ·rw[hjf] at z;cases z
       ·exact absurd z.1 (by decide)
      ·exact .inl q
      ·exact .inr q
  ·intro x c e
   rw[cellsX] at e
   rcases lkE x c e with e|⟨_,e⟩
   ·exact⟨_,(okA.empty x c (PySem.mem_of_lookup e)).1⟩
   ·obtain⟨v,q⟩:=I3.cell x c (hcl1 x c e)
    exact⟨v,q.keeps k1⟩
  ·rw[locX];exact I3.hok.fresh (Zq _)
  ·intro x c e
   rw[cellsX] at e
   rcases lkE x c e with e|⟨_,e⟩
   ·exact I3.hok.fresh (Nat.le_of_succ_le (aboveA x c e))
   ·exact I3.freeC x c (hcl1 x c e)
  ·intro p hp
   have:p∈([]:List (Addr×Obj)):=by rw[<-hX'] at hp;exact hp
   cases this
  ·rw[<-hX'];exact I3.hok.kept k1
  ·rw[<-hX']
   show (JR own caps σ).length=N'.length
   unfold JR
   rw[S.eqN,Zd,Zd,Ze,Za,Za]
 have pX:X'.prog=X.prog:=by rw[<-hX'];rfl
 have wX:X'.w=X.w:=by rw[<-hX'];rfl
 have KX:X'.K=X.K:=by rw[<-hX'];rfl
 have AX:X'.A=X.A:=by rw[<-hX'];rfl
 have cX:X'.calm=true:=by rw[<-hX'];exact hc
 have xX:X'.xe=fun _ _=>False:=by rw[<-hX'];rfl
 have envX:X'.env=compEnvC scope cE g3.objs.size X.env:=by rw[<-hX'];rfl
 have exX:X'.ex=fp:=by rw[<-hX'];rfl
 have hg':PG X' tg g:=hX'▸hg _ _ _ _ _
 have ht':PIf X' ifs tc:=hX'▸ht _ _ _ _ _
 have he':PE X' elt te:=hX'▸he _ _ _ _ _
 have fpk:∀{H':Hp},(∀b∈fp,H' b=none)->∀b∈fp,XA X' [] H' b:=fun {H'} hn b hb=>by
  refine⟨hn b hb,?_,?_,?_,?_,?_⟩
  ·rw[locX];exact Nat.ne_of_lt (fplt b hb)
  ·rw[hfs];intro z
   rcases List.mem_cons.mp (I3.stkSub b z) with e|e
   ·exact (f2 b hb).2.1 e
   ·exact (f2 b hb).2.2.1 e
  ·rw[exX];exact .inl hb
  ·intro x c e
   rw[cellsX] at e
   rcases lkE x c e with e|⟨_,e⟩
   ·have h1:g3.objs.size+1<=c:=aboveA x c e
    exact fun z=>absurd (Nat.lt_of_lt_of_le (fplt b hb) (Nat.le_of_succ_le h1)) (by rw[z];exact Nat.lt_irrefl _)
   ·exact (f2 b hb).2.2.2.2.1 x c (hcl1 x c e)
  ·intro p hp
   have:p∈([]:List (Addr×Obj)):=by rw[<-hX'] at hp;exact hp
   cases this
 have st1:tn 0 h₁:=T.keep _ _ _ st2 fun b hb o e=>k1 b o (old3 b o e)
 have back:∀{σ':St}{H':Hp}{s':Shared}{pp:List (Addr×Obj)}{h':Heap},Inv X' pp σ' H' s'->Heap.SameBut g3.objs.size s'.heap h'->Inv X pins σ H' {s' with heap:=h'}:=fun {σ' H' s' pp h'} I' sb=>by
  have u:=I'.base
  rw[hfs,exX] at u
  have hs0:X'.s₀.heap=g3:=by rw[<-hX'];rfl
  have hH0:X'.H₀=upd H2 s2.heap.objs.size (.lst []):=by rw[<-hX'];rfl
  rw[hs0,hH0] at u
  have ne:∀b o,g3.get? b=some o->b≠g3.objs.size:=fun b o e=>Nat.ne_of_lt (Zp e)
  have hCn:H' g3.objs.size=none:=by have:=I'.free;rw[locX] at this;exact this
  refine I3.call' (s':={s' with heap:=h'}) (ch:=fp) ?_ ⟨?_,?_,?_,?_,?_,?_,?_⟩ ?_ I'.bare ?_
  ·have:=I'.os;rw[<-hX'] at this;exact this
  ·intro b o e n hb hx;exact sb.extBut b o (ne b o e) (u.keep b o e n hb hx)
  ·intro b o e n hb hx
   obtain⟨sl,q⟩:=u.slot b o e n hb hx
   exact⟨sl,sb.extBut b _ (ne b o e) q⟩
  ·exact u.free
  ·intro b o e hx
   obtain⟨o',q⟩:=u.there b o e hx
   exact⟨o',sb.extBut b _ (ne b o e) q⟩
  ·exact u.tups
  ·exact u.frzs
  ·exact u.tbls
  ·have hok:=I'.hok
   rw[pX,wX] at hok
   intro a o e
   refine (hok a o e).stay (fun b v hb r=>sb.extBut b v ?_ r) (fun b r=>r) fun b xs r=>r
   rcases hb with rfl|hb
   ·intro z;rw[z,hCn] at e;cases e
   ·intro z;rw[z,hCn] at hb;cases hb
  ·intro b hb
   refine⟨(f2 b hb).2.2.2.1,(f2 b hb).2.1,(f2 b hb).2.2.2.2.1,(f2 b hb).2.2.2.2.2⟩
 have loop:∀s3:Shared,s3={s2 with heap:=h₁,toks:=s2.toks}->
   codeAny (model X.prog X.w) X.A (.compLoop (.ListComp elt [⟨tg,iter,ifs,0⟩] scope pos) 0 (.ref it) (.ref s2.heap.objs.size) (compEnvC scope cE g3.objs.size X.env)) (RR (.ref s2.heap.objs.size) g3.objs.size) s3:=by
  rintro s3 rfl
  refine WC (fun n s'=>∃i σ' H',Inv X' [] σ' H' s'/\tn i s'.heap/\(∀b∈fp,H' b=none)/\W i n σ' H') ?_ m0 ⟨0,_,_,I4,st1,fpn,w0⟩
  rintro n s5 ⟨i,σ5,H5,I5,st5,fr5,w5⟩
  rcases turn i n σ5 H5 w5 with ⟨stop,qn⟩|⟨go,N,hN,step⟩
  ·have q:=T.done X' pX wX KX cX i [] s5 σ5 H5 (fun _ _=>False) I5 (fpk fr5) st5 stop
   rw[AX] at q
   refine Z8 q fun r s6 ⟨hr,I6⟩=>?_
   subst hr
   obtain⟨m,hn,_⟩:=I6.loc
   rw[locX] at hn
   refine hRR _ _ s6 m H5 hn ?_ ?_ I3.sz ?_ ?_ qn fun h' sb=>back I6 sb
   ·exact Nat.ne_of_gt I3.lt
   ·intro x c e
    obtain⟨v,q⟩:=I3.cell x c e
    exact Nat.ne_of_lt q.lt
   ·intro pp hpp
    exact Nat.ne_of_lt (Zp (I3.pin pp hpp).1)
   ·have:=I6.free;rw[locX] at this;exact this
  ·have q:=T.item X' pX wX KX cX i [] s5 σ5 H5 (fun _ _=>False) I5 (fpk fr5) st5 go
   rw[AX] at q
   refine Z8 q fun r s6 ⟨u,hr,h6⟩=>?_
   subst hr
   refine Z8 h6 fun _ s7 ⟨x,H7,I7,r7,y7,st7,fr7⟩=>?_
   have I7':=I7.pinned (fpk fr7) (T.obj _ _ st7)
   have q8:=hg' _ s7 σ5 H7 x u _ I7' r7 (step x H7 y7)
   rw[pX,wX,AX,envX,xX] at q8
   refine Z8 q8 fun _ s8 ⟨σ8,H8,I8,q8⟩=>?_
   have q9:=ht' _ s8 σ8 H8 _ I8 q8
   rw[pX,wX,AX,envX,xX] at q9
   have again:∀{σ':St}{H':Hp}{s':Shared},Inv X' ([]++J8 fp s7.heap) σ' H' s'->N σ' H'->∃m,m<n/\∃i σ' H',Inv X' [] σ' H' s'/\tn i s'.heap/\(∀b∈fp,H' b=none)/\W i m σ' H':=fun {σ' H' s'} I' n'=>by
    obtain⟨m',hm,w'⟩:=hN σ' H' n'
    refine⟨m',hm,i+1,σ',H',I'.unpinned,T.keep _ _ _ st7 fun b hb o e=>(I'.pin (b,o) (List.mem_append_right _ (List.mem_append_right _ (Wj hb e)))).1,fun b hb=>?_,w'⟩
    obtain⟨o,e,d⟩:=T.obj _ _ st7 b hb
    exact (I'.pin (b,o) (List.mem_append_right _ (List.mem_append_right _ (Wj hb e)))).2.1
   refine Z8 q9 fun ok s9 ⟨H9,I9,q9⟩=>?_
   cases ok with
   |false=>
    simp only[Bool.false_eq_true,if_false] at q9 ⊢
    exact again I9 q9
   |true=>
    simp only[if_true] at q9 ⊢
    have q10:=he' _ s9 σ8 H9 _ I9 q9
    rw[pX,wX,AX,envX,xX] at q10
    refine Z8 q10 fun y s10 ⟨v,H10,I10,rv,xs,hxs,hz,q10⟩=>?_
    have q11:=ZI (X:=X') _ s10 σ8 H10 (.ref s2.heap.objs.size) [v] (.ref s2.heap.objs.size) [y] (fun _ H'=>N σ8 H') I10 rfl (.cons rv .nil) ⟨_,xs,v,rfl,rfl,hxs,hz,q10⟩
    rw[pX,wX,AX,xX] at q11
    exact Z8 q11 fun _ s11 ⟨_,H11,I11,_,q11⟩=>again I11 q11
 exact codeAny_compStart_list (loop _ rfl) (T.self _ 0 _ _ _ st1 (loop _ rfl))
theorem ZdC {own:List Str}{caps:List Nat}{N':List Str}{esc scope:Scope}{elt iter tg:Expr}{ifs:List Expr}{pos:Pos}{wi:TI}{g:TG}{tc:TT}{te:TE}
  (hesc:X.env.scope=esc) (S:WO X.N esc own caps N' scope) (hc:X.calm=true) (hi:PI X tg iter wi)
  (hg:∀cl C s H ex,PG (Wa X scope cl N' C s H ex) tg g) (ht:∀cl C s H ex,PIf (Wa X scope cl N' C s H ex) ifs tc) (he:∀cl C s H ex,PE (Wa X scope cl N' C s H ex) elt te)
  (hs:∀x,foldedSetIterable iter X.env x=pure x:=by intro _;rfl) :
  PE X (.ListComp elt [⟨tg,iter,ifs,0⟩] scope pos) (Zee own caps wi g tc te):=by
 intro pins s σ H Q I h
 obtain⟨cl,hcl,hcl1,hcl2⟩:=U3 (scope:=scope) (env:=X.env) fun y hy hf=>by
  have:=S.fr y hy hf
  rw[<-hesc] at this
  exact I.ok.has y.1 this
 rw[eval_ListComp]
 refine wpAny_comprehension_free (use:=none) rfl hs hcl S.kind S.uniq (Z8 (hi pins s σ H _ I h) fun v s1 h1=>Z8 h1 fun itv s2 h2=>?_)
 obtain⟨it,fp,tn,J,H2,e,I2,T,st2,f2,q⟩:=h2
 subst e
 refine U1 (RR:=fun acc C=>compPost (model X.prog X.w) X.A X.xe none (EP X pins σ Q) acc C) hesc S hc hcl1 hcl2 hg ht he I2 T st2 f2 q ?_
 intro D C s' m H' hn _ _ _ _ _ q' hb
 exact⟨m,hn,fun h' sb=>⟨.ref D,H',hb h' sb,rfl,q'⟩⟩
end
section
variable {κ:Type} [DecidableEq κ]
def YB (kvs:List (κ×V))(k:κ):Option V:=(kvs.find? fun kv=>decide (kv.1=k)).map (·.2)
def Wv (kvs:List (κ×V))(k:κ)(v:V):List (κ×V):=
 if (kvs.any fun kv=>decide (kv.1=k))=true then kvs.map (fun kv=>if kv.1=k then (kv.1,v) else kv) else kvs++[(k,v)]
theorem Yb {p:κ×V}{r:List (κ×V)}{k:κ}(e:p.1=k):YB (p::r) k=some p.2:=by simp[YB,List.find?_cons,e]
theorem Yc {p:κ×V}{r:List (κ×V)}{k:κ}(e:¬p.1=k):YB (p::r) k=YB r k:=by simp[YB,List.find?_cons,e]
theorem YU (k:κ):∀kvs:List (κ×V),(kvs.any fun kv=>decide (kv.1=k))=(YB kvs k).isSome
 | []=>rfl
 |p::r=>by
  rw[List.any_cons]
  by_cases e:p.1=k
  ·simp only[Yb e,decide_eq_true e,Bool.true_or,Option.isSome_some]
  ·rw[Yc e,decide_eq_false e,Bool.false_or];exact YU k r
theorem Vz (k j:κ)(y:V):∀kvs:List (κ×V),YB (kvs.map fun kv=>if kv.1=k then (kv.1,y) else kv) j=(YB kvs j).map fun x=>if j=k then y else x
 | []=>rfl
 |p::r=>by
  have ih:=Vz k j y r
  rw[List.map_cons]
  by_cases h:p.1=k
  ·rw[if_pos h]
   by_cases e:p.1=j
   ·rw[Yb (p:=(p.1,y)) e,Yb e,Option.map_some,if_pos (e.symm.trans h)]
   ·rw[Yc (p:=(p.1,y)) e,Yc e,ih]
  ·rw[if_neg h]
   by_cases e:p.1=j
   ·rw[Yb (p:=p) e,Yb e,Option.map_some,if_neg (fun z=>h (e.trans z))]
   ·rw[Yc (p:=p) e,Yc e,ih]
theorem XD (k j:κ)(y:V):∀kvs:List (κ×V),YB kvs k=none->YB (kvs++[(k,y)]) j=if j=k then some y else YB kvs j
 | [],_=>by
  by_cases e:k=j
  ·rw[if_pos e.symm];exact Yb (p:=(k,y)) e
  ·rw[if_neg (fun z=>e z.symm)];exact Yc (p:=(k,y)) e
 |p::r,hn=>by
  rw[List.cons_append]
  have hk:¬p.1=k:=fun z=>by rw[Yb z] at hn;cases hn
  rw[Yc hk] at hn
  have ih:=XD k j y r hn
  by_cases e:p.1=j
  ·rw[Yb e,Yb e,if_neg (fun z=>hk (e.trans z))]
  ·rw[Yc e,Yc e,ih]
theorem Vy (kvs:List (κ×V))(k j:κ)(y:V):YB (Wv kvs k y) j=if j=k then some y else YB kvs j:=by
 unfold Wv
 by_cases a:(kvs.any fun kv=>decide (kv.1=k))=true
 ·rw[if_pos a,Vz]
  rw[YU] at a
  by_cases e:j=k
  ·obtain⟨x,hx⟩:=Option.isSome_iff_exists.mp a
   rw[if_pos e,e,hx,Option.map_some,if_pos rfl]
  ·rw[if_neg e]
   cases YB kvs j with
   |none=>rfl
   |some x=>rw[Option.map_some,if_neg e]
 ·rw[if_neg a]
  refine XD k j y kvs ?_
  rw[YU] at a
  cases q:YB kvs k with
  |none=>rfl
  |some x=>rw[q] at a;exact (a rfl).elim
theorem JI (kvs:List (κ×V))(k:κ)(v:V):(Wv kvs k v).length<=kvs.length+1:=by
 unfold Wv
 split
 ·rw[Za];omega
 ·rw[Zd,Zi,List.length_nil];omega
theorem Zce {kvs:List (κ×V)}{k:κ}(v:V)(h:YB kvs k=none):Wv kvs k v=kvs++[(k,v)]:=by
 unfold Wv
 rw[YU,h]
 exact if_neg (by decide)
theorem Xm.isSome_eq {o:Option V}{u:Option Value}(r:Xm o u):o.isSome=u.isSome:=by
 cases o with
 |none=>cases u with
  |none=>rfl
  |some _=>exact (show False from r).elim
 |some _=>cases u with
  |none=>exact (show False from r).elim
  |some _=>rfl
theorem KV.val {kvs:List (κ×V)}{vs:List (κ×Value)}(r:KV kvs vs)(k:κ):Xm (YB kvs k) (valueAt vs k):=by
 unfold KV at r
 induction r with
 |nil=>exact True.intro
 | @cons p q ps qs h t ih=>
  obtain⟨h1,h2⟩:=h
  by_cases e:p.1=k
  ·have e':q.1=k:=h1.symm.trans e
   have b:valueAt (q::qs) k=some q.2:=by simp[valueAt,List.find?_cons,e']
   rw[Yb e,b];exact h2
  ·have e':¬q.1=k:=fun z=>e (h1.trans z)
   have b:valueAt (q::qs) k=valueAt qs k:=by simp[valueAt,List.find?_cons,e']
   rw[Yc e,b];exact ih
theorem KV.any {kvs:List (κ×V)}{vs:List (κ×Value)}(r:KV kvs vs)(k:κ):(kvs.any fun kv=>decide (kv.1=k))=vs.any fun kv=>decide (kv.1=k):=by
 unfold KV at r
 induction r with
 |nil=>rfl
 |cons h t ih=>rw[List.any_cons,List.any_cons,ih,h.1]
theorem KV.repl {kvs:List (κ×V)}{vs:List (κ×Value)}(r:KV kvs vs)(k:κ){y:V}{u:Value}(ry:RelV y u) :
  KV (kvs.map fun kv=>if kv.1=k then (kv.1,y) else kv) (vs.map fun kv=>if kv.1=k then (kv.1,u) else kv):=by
 unfold KV at r ⊢
 induction r with
 |nil=>exact .nil
 | @cons p q ps qs h t ih=>
  rw[List.map_cons,List.map_cons]
  refine .cons ?_ ih
  obtain⟨h1,h2⟩:=h
  by_cases e:p.1=k
  ·rw[if_pos e,if_pos (h1.symm.trans e)];exact⟨h1,ry⟩
  ·rw[if_neg e,if_neg (fun z=>e (h1.trans z))];exact⟨h1,h2⟩
theorem KV.put {kvs:List (κ×V)}{vs:List (κ×Value)}(r:KV kvs vs)(k:κ){y:V}{u:Value}(ry:RelV y u):KV (Wv kvs k y) (stored vs k u):=by
 unfold Wv stored
 rw[r.any k]
 by_cases e:(vs.any fun kv=>decide (kv.1=k))=true
 ·rw[if_pos e,if_pos e];exact r.repl k ry
 ·rw[if_neg e,if_neg e];exact Paired.snoc r ⟨rfl,ry⟩
theorem KV.length {kvs:List (κ×V)}{vs:List (κ×Value)}(r:KV kvs vs):kvs.length=vs.length:=Paired.length r
end
theorem ZcF {P:Program}{w:World}{k:YA}{u:Value}(r:RelV (kV k) u):(Yh P w).is k u=true:=by
 cases k with
 |inl i=>obtain⟨t,e⟩:=(show ∃t,u=Value.int i t from r);subst e;exact VX P w i t
 |inr x=>obtain⟨t,e⟩:=(show ∃t,u=Value.str x t from r);subst e;exact VW P w x t
theorem XT {P:Program}{w:World}:∀{ks:List YA}{us:List Value},ZE (ks.map kV) us->ItemsAre (Yh P w) ks us
 | [],_,r=>by rw[List.map_nil] at r;cases r;exact .nil
 |k::ks,_,r=>by
  rw[List.map_cons] at r
  cases r with
  |cons h t=>exact .cons (ZcF h) (XT t)
abbrev KT (H:Hp):List (List YA×V)->List (List YA×Addr×Value)->Prop:=Paired fun p q=>p.1=q.1/\H q.2.1=some (.tup (p.1.map kV))/\RelV p.2 q.2.2
theorem KT.val {H:Hp}{kvs:List (List YA×V)}{xs:List (List YA×Addr×Value)}(r:KT H kvs xs)(k:List YA):Xm (YB kvs k) ((atKey xs k).map (·.2)):=by
 induction r with
 |nil=>exact True.intro
 | @cons p q ps qs h t ih=>
  obtain⟨h1,_,h2⟩:=h
  by_cases e:p.1=k
  ·have e':q.1=k:=h1.symm.trans e
   have b:atKey (q::qs) k=some q.2:=by simp[atKey,List.find?_cons,e']
   rw[Yb e,b];exact h2
  ·have e':¬q.1=k:=fun z=>e (h1.trans z)
   have b:atKey (q::qs) k=atKey qs k:=by simp[atKey,List.find?_cons,e']
   rw[Yc e,b];exact ih
theorem KT.repl {H:Hp}{kvs:List (List YA×V)}{xs:List (List YA×Addr×Value)}(r:KT H kvs xs)(k:List YA){y:V}{u:Value}(ry:RelV y u) :
  KT H (kvs.map fun kv=>if kv.1=k then (kv.1,y) else kv) (xs.map (putAt k u)):=by
 induction r with
 |nil=>exact .nil
 | @cons p q ps qs h t ih=>
  rw[List.map_cons,List.map_cons]
  refine .cons ?_ ih
  obtain⟨h1,h2,h3⟩:=h
  unfold putAt
  by_cases e:p.1=k
  ·rw[if_pos e,if_pos (h1.symm.trans e)];exact⟨h1,h2,ry⟩
  ·rw[if_neg e,if_neg (fun z=>e (h1.trans z))];exact⟨h1,h2,h3⟩
theorem KT.put {H:Hp}{kvs:List (List YA×V)}{xs:List (List YA×Addr×Value)}(r:KT H kvs xs)(k:List YA){b:Addr}{y:V}{u:Value}(hb:H b=some (.tup (k.map kV)))(ry:RelV y u) :
  KT H (Wv kvs k y) (storedH xs k b u):=by
 have e:(kvs.any fun kv=>decide (kv.1=k))=(atKey xs k).isSome:=by
  rw[YU,(r.val k).isSome_eq,Option.isSome_map]
 unfold Wv storedH
 rw[e]
 by_cases q:(atKey xs k).isSome=true
 ·rw[if_pos q,if_pos q];exact r.repl k ry
 ·rw[if_neg q,if_neg q];exact Paired.snoc r ⟨rfl,hb,ry⟩
theorem KT.keeps {H H':Hp}{kvs:List (List YA×V)}{xs:List (List YA×Addr×Value)}(r:KT H kvs xs)(ht:∀b ys,H b=some (.tup ys)->H' b=some (.tup ys)):KT H' kvs xs:=
 Paired.mapP r fun _ _ z=>⟨z.1,ht _ _ z.2.1,z.2.2⟩
section
variable {P:Program}{w:World}{H:Hp}{h:Heap}{a:Addr}
theorem Zet {u:HO}(ok:Wr P w H h)(e:Rd H a u):ZT P w H h a u:=e.ok ok
theorem ZcX {kvs:List (YA×V)}(ok:Wr P w H h)(e:Rd H a (.dK kvs)):kvs.length<=sizeLine/\(a == sysModules)=false/\∃vs,KV kvs vs/\h.DictOf (Yh P w) a vs:=
 show ZT P w H h a (.dK kvs) from Zet ok e
theorem ZgY {kvs:List (YA×V)}(ok:Wr P w H h)(e:H a=some (.dK kvs)):kvs.length<=sizeLine/\(a == sysModules)=false/\∃vs,KV kvs vs/\h.DictOf (Yh P w) a vs:=ZcX ok (.inl e)
theorem UT {ks:List YA}(ok:Wr P w H h)(e:H a=some (.tup (ks.map kV))):(tupleKind (Yh P w)).is h ks a:=by
 obtain⟨_,its,r,o,h1,h2,n,h3⟩:=(show ZT P w H h a (.tup (ks.map kV)) from ok a _ e)
 exact⟨o,its.toArray,n,h1,h2,h3,by simpa using XT r⟩
theorem ZcW {kvs:List (List YA×V)}(ok:Wr P w H h)(e:Rd H a (.dT kvs)):kvs.length<=sizeLine/\(a == sysModules)=false/\
  ∃xs,KT H kvs xs/\h.DictOfH (tupleKind (Yh P w)) a xs:=by
 obtain⟨z,y,xs,r,o,es,ep,h1,h2,h3,h4,h5⟩:=(show ZT P w H h a (.dT kvs) from Zet ok e)
 refine⟨z,y,xs,r,o,es,ep,h1,h2,h3,h4,fun x hx=>?_,h5⟩
 have all:∀{l:List (List YA×V)}{m:List (List YA×Addr×Value)},KT H l m->∀x∈m,(tupleKind (Yh P w)).is h x.1 x.2.1:=by
  intro l m q
  induction q with
  |nil=>intro x hx;exact nomatch hx
  | @cons p q ps qs hq t ih=>
   intro x hx
   rcases List.mem_cons.mp hx with e|hx
   ·subst e
    exact UT ok (by rw[<-hq.1];exact hq.2.1)
   ·exact ih x hx
 exact all r x hx
theorem ZgX {kvs:List (List YA×V)}(ok:Wr P w H h)(e:H a=some (.dT kvs)):kvs.length<=sizeLine/\(a == sysModules)=false/\
  ∃xs,KT H kvs xs/\h.DictOfH (tupleKind (Yh P w)) a xs:=ZcW ok (.inl e)
end
def Zac (H:Hp)(a:Addr)(y:V)(r:Option V):Prop:=
 (∃kvs k,Rd H a (.dK kvs)/\y=kV k/\r=YB kvs k)\/∃kvs k b,Rd H a (.dT kvs)/\y=.ref b/\H b=some (.tup (k.map kV))/\r=YB kvs k
def ZbH (H:Hp)(a:Addr)(y v:V)(H':Hp):Prop:=
 (∃kvs k,H a=some (.dK kvs)/\y=kV k/\kvs.length<sizeLine/\H'=upd H a (.dK (Wv kvs k v)))\/
 ∃kvs k b,H a=some (.dT kvs)/\y=.ref b/\H b=some (.tup (k.map kV))/\kvs.length<sizeLine/\H'=upd H a (.dT (Wv kvs k v))
theorem Zac.k {H:Hp}{a:Addr}{kvs:List (YA×V)}{k:YA}(e:H a=some (.dK kvs)):Zac H a (kV k) (YB kvs k):=.inl ⟨kvs,k,.inl e,rfl,rfl⟩
theorem ZbH.k {H:Hp}{a:Addr}{kvs:List (YA×V)}{k:YA}{v:V}(e:H a=some (.dK kvs))(hl:kvs.length<sizeLine):ZbH H a (kV k) v (upd H a (.dK (Wv kvs k v))):=.inl ⟨kvs,k,e,rfl,hl,rfl⟩
section
variable {X:Cx}{pins:List (Addr×Obj)}{σ:St}{H:Hp}{s:Shared}{a:Addr}{y v:V}{u r:Value}{o:Option V}{A:Around}{E:Value->Shared->Prop}
theorem Inv.big (I:Inv X pins σ H s):sysModules<s.heap.objs.size:=by
 have h:mainGlobals<s.heap.objs.size:=(I.mod.glob.keeps I.bk).lt
 exact Nat.lt_trans (by decide) h
theorem Zbr {Q:Value->Shared->Prop}(hu:A.units+1<cLine)(I:Inv X pins σ H s)(g:Zac H a y (some v))(ry:RelV y u)(h:∀w' s',Inv X pins σ H s'->RelV v w'->Q w' s') :
  wpAny (model X.prog X.w) A (getItem (.ref a) u) Q E s:=by
 rcases g with ⟨kvs,k,e,ey,l⟩|⟨kvs,k,b,e,ey,eb,l⟩
 ·subst ey
  obtain⟨z,hd,vs,rel,dd⟩:=ZcX I.hok e
  obtain⟨w',hw,rw'⟩:=Xm.some_of (v:=v) (o:=valueAt vs k) (by rw[l];exact rel.val k)
  exact wpAny_getItem_of (ZcF ry) dd.mapOf hw (h w' _ (I.tok _) rw')
 ·subst ey
  cases (show u=Value.ref b from ry)
  obtain⟨z,hd,xs,rel,dd⟩:=ZcW I.hok e
  obtain⟨w',hw,rw'⟩:=Xm.some_of (v:=v) (o:=(atKey xs k).map (·.2)) (by rw[l];exact rel.val k)
  obtain⟨p,hp,hp2⟩:=Option.map_eq_some_iff.mp hw
  refine wpAny_getItem_heap (tupleKind_room_in1 hu) (UT I.hok eb) dd hp ?_
  rw[hp2]
  exact h w' _ (I.tok _) rw'
theorem ZaK {h':Heap}{t':Nat}{ob:HO}(I:Inv X pins σ H s)(mu:Mut (H a))(hs:Heap.SameBut a s.heap h')(he:∃q,h'.get? a=some q)(new:ZT X.prog X.w (upd H a ob) h' a ob) :
  Inv X pins σ (upd H a ob) {s with heap:=h',toks:=t'}:=
 I.write (x:=a) (e:=a) mu (.inl rfl) (fun b q hb z=>(hs.2 b hb).trans z) he new
theorem ZfL {P:Program}{w:World}{H':Hp}{h':Heap}{kvs:List (YA×V)}{vs:List (YA×Value)}(z:kvs.length<=sizeLine)(hd:(a == sysModules)=false)(rel:KV kvs vs)(dd:h'.DictOf (Yh P w) a vs) :
  ZT P w H' h' a (.dK kvs):=⟨z,hd,vs,rel,dd⟩
theorem Zbq {H':Hp}{Q:Unit->Shared->Prop}(hu:A.units+1<cLine)(I:Inv X pins σ H s)(g:ZbH H a y v H')(ry:RelV y u)(rv:RelV v r)(h:∀s',Inv X pins σ H' s'->Q () s') :
  wpAny (model X.prog X.w) A (setItem (.ref a) u r) Q E s:=by
 rcases g with ⟨kvs,k,e,ey,l,eH⟩|⟨kvs,k,b,e,ey,eb,l,eH⟩
 ·subst ey eH
  obtain⟨z,hd,vs,rel,dd⟩:=ZgY I.hok e
  have hz:vs.length<=sizeLine:=by rw[<-rel.length];exact z
  have hl:(Wv kvs k v).length<=sizeLine:=by have:=JI kvs k v;omega
  refine wpAny_setItem_pairs (hsz:=hz) (ZcF ry) dd fun h' dd' hs=>h _ ?_
  have he:∃q,h'.get? a=some q:=let ⟨q,_,_,hq,_⟩:=dd';⟨q,hq⟩
  exact ZaK I (by rw[e];exact True.intro) hs he (ZfL hl hd (rel.put k rv) dd')
 ·subst ey eH
  cases (show u=Value.ref b from ry)
  obtain⟨z,hd,xs,rel,dd⟩:=ZgX I.hok e
  have hz:xs.length<=sizeLine:=by rw[<-Paired.length rel];exact z
  have hl:(Wv kvs k v).length<=sizeLine:=by have:=JI kvs k v;omega
  refine wpAny_setItem_heap (hsz:=hz) (tupleKind_room_in1 hu) (UT I.hok eb) dd fun h' dd' hs=>h _ ?_
  obtain⟨q,es,ep,hq,h2,h3,h4,_,h5⟩:=dd'
  refine ZaK I (by rw[e];exact True.intro) hs ⟨q,hq⟩ ⟨hl,hd,_,(rel.put k eb rv).keeps fun c ys ec=>?_,q,es,ep,hq,h2,h3,h4,h5⟩
  rw[Zy (ZgN ec e (fun z=>nomatch z))]
  exact ec
end
section
variable {X:Cx}{pins:List (Addr×Obj)}{σ:St}{H:Hp}{s:Shared}{a:Addr}{kvs:List (YA×V)}{k:YA}{u:Value}{A:Around}{E:Value->Shared->Prop}
end
def Zg1 (i:Expr):Prop:=∀ov iv,subscripted i false ov iv=operate [ov,iv] (getItem ov iv)
theorem Zdq {prog:Program}{w:World}{A:Around}{E:Value->Shared->Prop}{s:Shared}{env:Env}{value slice:Expr}{pos:Pos}{T id:String}{Q:Value->Shared->Prop}
  (hl:typeLookup (.type T) "__getitem__"=pure (some (.builtin id))) (hs:Zg1 slice)
  (h:wpAny (model prog w) A (eval value env) (fun o s₁=>wpAny (model prog w) A (eval slice env) (fun i s₂=>s₂.TypeIs o T/\wpAny (model prog w) A (getItem o i) Q E s₂) E s₁) E s) :
  wpAny (model prog w) A (eval (.Subscript value slice pos) env) Q E s:=by
 refine Subscript_ (wpAny_mono h (fun o s₁ h₁=>wpAny_mono h₁ (fun i s₂ h₂=>?_) fun _ _ x=>x) fun _ _ x=>x)
 obtain⟨hT,h₂⟩:=h₂
 unfold subscriptTail
 refine Zl ?_
 rw[getitemInPython_of_ne hT.not_modules]
 refine Zl (wpAny_specialOf hT hl ?_)
 have fin:wpAny (model prog w) A (subscripted slice false o i) (fun r s₃=>wpAny (model prog w) A (letTemporaryGo value o r >>= fun _=>pure r) Q E s₃) E s₂:=by
  rw[hs o i]
  exact wpAny_operating (wpAny_mono h₂ (fun r s₃ h₃=>Zl (wpAny_letTemporaryGo (Zm h₃))) fun _ _ x=>x)
 first
  |exact Zm (Zl fin)
  |exact Zl (Zm (Zl fin))
  |exact Zl fin
theorem V8 {X:Cx}{pins:List (Addr×Obj)}{σ:St}{H:Hp}{s:Shared}{a:Addr}{y:V}{o:Option V}(I:Inv X pins σ H s)(g:Zac H a y o):s.TypeIs (.ref a) "dict":=by
 rcases g with ⟨kvs,k,e,_,_⟩|⟨kvs,k,b,e,_,_,_⟩
 ·obtain⟨_,_,vs,_,dd⟩:=ZcX I.hok e
  exact dd.typeIs
 ·obtain⟨_,_,xs,_,dd⟩:=ZcW I.hok e
  exact dd.typeIs
def Zgg (td ty:TE):TE:=fun σ H Q=>td σ H fun x H1=>ty σ H1 fun y H2=>∃a v,x=.ref a/\Zac H2 a y (some v)/\Q v H2
def Zgr (td ty tv:TE):TS:=fun D σ H=>tv σ H fun v H1=>td σ H1 fun x H2=>ty σ H2 fun y H3=>∃a H4,x=.ref a/\ZbH H3 a y v H4/\D.nx σ H4
section
variable {X:Cx}{o i e value:Expr}{pos pos' tpos:Pos}{td ty tv:TE}
theorem Zat (hu:X.A.units+1<cLine)(ho:PE X o td)(hi:PE X i ty)(hs:Zg1 i):PE X (.Subscript o i pos) (Zgg td ty):=by
 intro pins s σ H Q I h
 refine Zdq PySem.F.slot_dict_getitem.lookup hs (Z8 (ho pins s σ H _ I h) fun u s1 ⟨x,H1,I1,rx,q1⟩=>Z8 (hi pins s1 σ H1 _ I1 q1) fun iv s2 ⟨y,H2,I2,ry,a,v,ex,g,q2⟩=>?_)
 subst ex
 obtain rfl:u=Value.ref a:=rx
 exact⟨V8 I2 g,Zbr hu I2 g ry fun w' s3 I3 rw'=>⟨v,H2,I3,rw',q2⟩⟩
theorem Zao (hu:X.A.units+1<cLine)(ho:PE X o td)(hi:PE X i ty)(hv:PE X value tv)(hs:swapsWith value (some (.Subscript o i pos')) pos.line X.env=pure false) :
  PS X (.Assign [.Subscript o i pos'] value pos) (Zgr td ty tv):=by
 intro pins s σ H D I h
 refine wpAny_Assign_Subscript (Z8 (hv pins s σ H _ I h) fun r s1 ⟨v,H1,I1,rv,q1⟩=>Z8 (ho pins s1 σ H1 _ I1 q1) fun u s2 ⟨x,H2,I2,rx,q2⟩=>Z8 (hi pins s2 σ H2 _ I2 q2) fun iv s3 ⟨y,H3,I3,ry,a,H4,ex,g,q3⟩=>?_) hs
 subst ex
 obtain rfl:u=Value.ref a:=rx
 exact Zbq hu I3 g ry rv fun s4 I4=>⟨σ,H4,I4,q3⟩
end
theorem ZcY {P:Program}{w:World}{H:Hp}(h:Heap)(hb:sysModules<h.objs.size):ZT P w H (h.push {cls:=.type "dict",data:=.dict #[]}) h.objs.size (.dK []):=
 ⟨Nat.zero_le _,beq_eq_false_iff_ne.mpr (Ne.symm (Nat.ne_of_lt hb)),[],.nil,Heap.DictOf.new h⟩
def ZeM:TE:=fun _ H Q=>∀p,H p=none->Q (.ref p) (upd H p (.dK []))
section
variable {X:Cx}{pos:Pos}
theorem VQ:PE X (.Dict [] [] pos) ZeM:=fun pins s σ H Q I h=>
 wpAny_Dict_empty ⟨.ref s.heap.objs.size,_,I.laid (a:=s.heap.objs.size) (o:=.dK []) (t':=s.toks) (fun _ _ q=>Zn _ q) (Zq _) (ZcY s.heap I.big),rfl,h _ (I.hok.fresh (Zq _))⟩
end
section
variable {X:Cx}{pins:List (Addr×Obj)}{σ:St}{H:Hp}{s:Shared}{a:Addr}{y d:V}{u r:Value}{o:Option V}{A:Around}{E:Value->Shared->Prop}
end
section
variable {X:Cx}{o e f:Expr}{apos cpos:Pos}{td ty tx:TE}
end
section
variable {X:Cx}{pins:List (Addr×Obj)}{σ:St}{H:Hp}{s:Shared}{a:Addr}{kvs:List (YA×V)}{A:Around}{E:Value->Shared->Prop}
end
section
variable {X:Cx}{pins:List (Addr×Obj)}{σ:St}{H:Hp}{s:Shared}{a:Addr}{y:V}{u:Value}{A:Around}{E:Value->Shared->Prop}
end
mutual
inductive Xy (K:PySem.W.Frag) (H:Hp):V->PyData->Prop where
 |non:Xy K H .non .none
 |bl (b:Bool):Xy K H (.bl b) (.bool b)
 |int (i:Int):Xy K H (.int i) (.int i)
 |str (x:Str):Xy K H (.str x) (.str x)
 |lst {a:Addr}{xs:List V}{ds:List PyData} (h:Wq K H a xs) (r:YN K H xs ds):Xy K H (.ref a) (.list ds)
 |tup {a:Addr}{xs:List V}{ds:List PyData} (h:Y9 K H a xs) (r:YN K H xs ds):Xy K H (.ref a) (.tuple ds)
inductive YN (K:PySem.W.Frag) (H:Hp):List V->List PyData->Prop where
 |nil:YN K H [] []
 |cons {x:V}{xs:List V}{d:PyData}{ds:List PyData} (h:Xy K H x d) (r:YN K H xs ds):YN K H (x::xs) (d::ds)
end
section
variable {K:PySem.W.Frag}{H H':Hp}
theorem Zw.tup {a:Addr}{xs:List V}(e:Zw H H')(h:Y9 K H a xs):Y9 K H' a xs:=by
 rcases h with (h|⟨o,h⟩)|h
 ·exact .inl (.inl (e _ _ h))
 ·exact .inl (.inr ⟨o,e _ _ h⟩)
 ·exact .inr h
theorem Zw.upd {p:Addr}{o:HO}(h:H p=none):Zw H (upd H p o):=fun b u e=>by rw[Zy (ZA e h)];exact e
theorem Zw.updr {p:Addr}{o:HO}(s:Zw H H')(h:H p=none):Zw H (L2.upd H' p o):=fun b u e=>by rw[Zy (ZA e h)];exact s b u e
mutual
theorem Xy.mono (s:Zw H H'):∀{v:V}{d:PyData},Xy K H v d->Xy K H' v d
 |_,_,.non=>.non
 |_,_,.bl b=>.bl b
 |_,_,.int i=>.int i
 |_,_,.str x=>.str x
 |_,_,.lst h r=>.lst (s.seq h) (YN.mono s r)
 |_,_,.tup h r=>.tup (s.tup h) (YN.mono s r)
theorem YN.mono (s:Zw H H'):∀{v:List V}{d:List PyData},YN K H v d->YN K H' v d
 |_,_,.nil=>.nil
 |_,_,.cons h r=>.cons (Xy.mono s h) (YN.mono s r)
end
theorem YN.ints:∀ns:List Int,YN K H (ns.map V.int) (ns.map PyData.int)
 | []=>.nil
 |n::r=>.cons (.int n) (YN.ints r)
end
section
variable {X:Cx}{pins:List (Addr×Obj)}{σ:St}{H:Hp}{s:Shared}
mutual
theorem Inv.reads (I:Inv X pins σ H s):∀{v:V}{d:PyData}{u:Value},Xy X.K H v d->RelV v u->∃as,Reads s.heap u d as
 |_,_,_,.non,r=>by cases (show _=Value.none from r);exact⟨_,.none⟩
 |_,_,_,.bl b,r=>by cases (show _=Value.bool b from r);exact⟨_,.bool b⟩
 |_,_,_,.int i,r=>by obtain⟨t,rfl⟩:=r;exact⟨_,.int i t⟩
 |_,_,_,.str x,r=>by obtain⟨t,rfl⟩:=r;exact⟨_,.str x t⟩
 |_,_,_,.lst (a:=a) h q,r=>by
  cases (show _=Value.ref a from r)
  obtain⟨its,rv,⟨o,n,e,c,_,d⟩,_⟩:=I.list h
  obtain⟨as,ra⟩:=Inv.readsAll I q rv
  exact⟨_,.list e c d (by simpa using ra)⟩
 |_,_,_,.tup (a:=a) h q,r=>by
  cases (show _=Value.ref a from r)
  obtain⟨its,rv,⟨o,e,c,n,d⟩,_⟩:=I.tuple h
  obtain⟨as,ra⟩:=Inv.readsAll I q rv
  exact⟨_,.tuple e c d (by simpa using ra)⟩
theorem Inv.readsAll (I:Inv X pins σ H s):∀{v:List V}{d:List PyData}{u:List Value},YN X.K H v d->ZE v u->∃as,ReadsAll s.heap u d as
 |_,_,_,.nil,r=>by cases r;exact⟨_,.nil⟩
 |_,_,_,.cons h q,r=>by
  cases r with
  |cons r rr=>
   obtain⟨a1,h1⟩:=Inv.reads I h r
   obtain⟨a2,h2⟩:=Inv.readsAll I q rr
   exact⟨_,.cons h1 h2⟩
end
end
structure Uj (d:PyData):Prop where
 sh:d.showable=true
 nd:d.hasDict=false
 dp:d.depth<=60
 sz:d.shown.length<=sizeLine
section
variable {X:Cx}
theorem Zfg (hu:X.A.units+64<cLine):Jm X (compareOp .Eq) (fun x y H Q=>∃dx dy,Xy X.K H x dx/\Xy X.K H y dy/\SeqAt.shaped dx=true/\SeqAt.shaped dy=true/\Q (.bl (PyData.eqv dx dy)) H):=by
 intro pins s σ H x y v u Q I rx ry ⟨dx,dy,h1,h2,s1,s2,q⟩
 obtain⟨as,r1⟩:=I.reads h1 rx
 obtain⟨bs,r2⟩:=I.reads h2 ry
 exact SeqAt.compareEq_shaped r1 r2 s1 s2 hu ⟨.bl _,H,I,rfl,q⟩
theorem Zbz {k:Nat}(hr:YM k X.A):ZN X (.builtin "repr") (fun xs H Q=>∃x d,xs=[x]/\Xy X.K H x d/\Uj d/\Q (.str d.shown) H):=by
 intro pins s σ H xs us Q I r h
 obtain⟨x,d,rfl,hd,F,q⟩:=h
 obtain⟨u,rfl,ru⟩:=vals1 r
 obtain⟨as,rd⟩:=I.reads hd ru
 have hun:X.A.units+61<cLine:=by have:=hr.units;omega
 have fin:∀(h':Heap) (u:Tok) (tk:Nat),(∀b o,s.heap.get? b=some o->h'.get? b=some o)->EP X pins σ Q (.str d.shown u) {s with heap:=h',toks:=tk}:=fun h' u tk k=>⟨.str d.shown,H,I.kept k,⟨u,rfl⟩,q⟩
 cases rd with
 |none=>exact P.repr_of_none (fin s.heap _ _ fun _ _ e=>e)
 |bool b=>exact P.repr_of_bool (by have:=fin s.heap s.toks (s.toks+1) fun _ _ e=>e;simpa only[PyData.shown] using this)
 |int i t=>exact P.repr_of_int (by simpa only[PyData.showable,decide_eq_true_eq] using F.sh) (by have:=fin s.heap s.toks (s.toks+1) fun _ _ e=>e;simpa only[PyData.shown] using this)
 |str y t=>exact P.repr_of_str (by have:=fin s.heap s.toks (s.toks+1) fun _ _ e=>e;simpa only[PyData.shown] using this) (by simpa only[PyData.shown] using F.sz)
 |list h1 h2 h3 h4=>exact repr_of_reads' (.list h1 h2 h3 h4) F.sh (fun z=>by rw[F.nd] at z;cases z) hr.gd (by have:=F.dp;omega) (fun _ _ e=>e) (fun h' u tk k=>fin h' u tk k) F.sz
 |tuple h1 h2 h3 h4=>exact repr_of_reads' (.tuple h1 h2 h3 h4) F.sh (fun z=>by rw[F.nd] at z;cases z) hr.gd (by have:=F.dp;omega) (fun _ _ e=>e) (fun h' u tk k=>fin h' u tk k) F.sz
 |dict h1 h2 h3 h4 h5=>cases hd
theorem Zda:ZN X (.builtin "isinstance") (fun xs H Q=>∃x c t b,xs=[x,c]/\Jk X.K H x t/\(∀cv,RelV c cv->PySem.W.kitOne X.K t cv=some b)/\Q (.bl b) H):=by
 intro pins s σ H xs us Q I r h
 obtain⟨x,c,t,b,rfl,ty,e,q⟩:=h
 cases r with
 |cons r1 r=>
  cases r with
  |cons r2 r=>
   cases r
   exact XU I r1 ty (e _ r2) fun tk=>⟨.bl b,H,I.tok _,rfl,q⟩
theorem Zcr:Jm X (binaryOp .FloorDiv) (rI (fun _ j=>0<j/\j.natAbs.log2<9000) fun i j=>.int (i / j)):=opI fun i j _ _ _ _ _ hc q=>by
 have h1:(0:Int)<j:=hc.1
 exact floordiv_int (by omega) (by rw[Int.fdiv_eq_ediv_of_nonneg i (by omega)];exact q) (.inl (PyProof.noPylong_of_log2 hc.2))
theorem ZeH {prog:Program}{w:World}{A:Around}{its:List Value}{bs:List Bool}(r:ZE (bs.map V.bl) its):TruthOf prog w A (fun i v=>its.toArray[i]?=some v) (fun i=>bs.getD i false):=by
 intro i v s Q E hv hq
 rw[List.getElem?_toArray] at hv
 have hi:i<its.length:=(List.getElem?_eq_some_iff.mp hv).1
 have hl:=r.length
 rw[Za] at hl
 have hb:(bs.map V.bl)[i]?=some (.bl (bs.getD i false)):=by
  rw[Zc,Zb,Zf (by omega)];rfl
 obtain⟨u,hu,ru⟩:=r.get hb
 rw[hv] at hu
 cases hu
 cases (show v=Value.bool _ from ru)
 exact wpAny_truthy_bool hq
theorem ZaZ {bs:List Bool}:((List.range bs.length).all fun i=>bs.getD i false)=bs.all id:=by
 have:(List.range bs.length).map (fun i=>bs.getD i false)=bs:=by
  apply List.ext_getElem
  ·simp
  ·intro i h1 h2;simp at h1;simp[h1]
 conv=>rhs;rw[<-this,List.all_map]
 rfl
theorem Zdc (hc:X.calm=true):ZN X (.builtin "all") (fun xs H Q=>∃(a:Addr) (bs:List Bool),xs=[.ref a]/\Wq X.K H a (bs.map V.bl)/\Q (.bl (bs.all id)) H):=by
 intro pins s σ H xs us Q I r h
 obtain⟨a,bs,rfl,hq,q⟩:=h
 obtain⟨u,rfl,ru⟩:=vals1 r
 cases ru
 obtain⟨its,rv,p,hz⟩:=I.list hq
 have hl:=rv.length
 rw[Za] at hl
 refine call_all_walk (wpAny_pyIter_list p.isList ?_)
 have hne:a≠s.heap.objs.size:=by obtain⟨o,n,e,_⟩:=p;exact Nat.ne_of_lt (Zp e)
 refine⟨s.heap.objs.size,_,_,_,_,_,(fun i=>bs.getD i false),rfl,Walks.list (A:=X.A.in1) (I.ok.hd hc) _ a hne its.toArray,⟨⟨_,Zo _ rfl,rfl,rfl⟩,p.isList.push _⟩,ZeH rv,fun h' tk k=>?_⟩
 rw[Zh,<-hl,ZaZ]
 refine⟨.bl _,H,I.kept (t':=tk) fun b o e=>k b o ?_ (Zn _ e),rfl,q⟩
 simpa using Nat.ne_of_lt (Zp e)
end
theorem ZbL:isSubtype (.type "tuple") (.type "set")=pure false:=by rw[isSubtype_type];kernel_rfl
theorem ZaV:isSubtype (.type "tuple") (.type "frozenset")=pure false:=by rw[isSubtype_type];kernel_rfl
abbrev YO (ns:List Int)(n:Nat):List Int:=firstMet (fun i=>ns.getD i 0) n
section
variable {prog:Program}{w:World}{A:Around}{E:Value->Shared->Prop}{s:Shared}
abbrev Zdh (prog:Program)(w:World)(s:Shared)(ns:List Int)(n:Nat)(h':Heap):Prop:=
 h'.SetOf (intKind prog w) s.heap.objs.size (fun k'=>(YO ns n).any (· == k')) (YO ns n).length/\∀b o,b<s.heap.objs.size->s.heap.get? b=some o->h'.get? b=some o
theorem UD {l:Addr}{items:Array Value}{ns:List Int}{Q:Value->Shared->Prop}(hh:A.handled=none)(hl:s.heap.IsTuple l items)(hi:IntsAre items.toList ns)(hb:items.size+1<scanBound)
  (h:∀(h':Heap) (tk:Nat),Zdh prog w s ns items.size h'->Q (.ref s.heap.objs.size) {s with heap:=h',toks:=tk}):wpAny (model prog w) A (call (.type "set") [.ref l]) Q E s:=by
 obtain⟨c,tl,hmro⟩:=F.called_set.mro
 have hmade:=F.called_set.made;have hsub:=F.called_set.sub
 refine wpAny_call (codeAny_of_tree ?_);show wpAny _ _ (callAny (.type "set") _) _ _ _
 refine Zm ⟨Code.quiet_builtin _ (by decide +kernel),codeAny_builtin F.entry_type_call ?_⟩;rw[Around.under_plain (weight_type_call_type "set" [.ref l] []) rfl]
 have h1:=F.called_set.notType;have h2:=F.called_set.canCreate;have hct:=F.typeCall_set_1 (.ref l)
 repeat (any_goals (first|assumption|wp_step))
 let ob (led:Bool):Obj:={cls:=.type "set",dict:=none,data:=.set #[] 0 (.fresh 0 0 led)}
 refine codeAny_mono (code_set_new_1 (.ref l) (E:=E) (Q₁:=fun obj s₁=>∃led:Bool,obj=.ref s.heap.objs.size/\s₁={s with heap:=s.heap.push (ob led)}) fun led=>⟨led,rfl,rfl⟩) fun r s₁ hr=>?_
 cases r with
 |error e=>exact hr
 |ok fl=>
  cases fl with
  |ret obj=>
   obtain⟨led,rfl,rfl⟩:=hr
   have hS:(s.heap.push (ob led)).get? s.heap.objs.size=some (ob led):=Zo _ rfl
   have hT:Shared.TypeIs {s with heap:=s.heap.push (ob led)} (.ref s.heap.objs.size) "set":=⟨_,hS,rfl⟩
   have hli:=F.called_set.init.lookup;have hbi:=F.called_set.init.bind (.ref s.heap.objs.size)
   repeat (any_goals (first|assumption|wp_step))
   refine codeAny_mono (codeAny_call_builtin (R:=wants (fun r s₂=>r=.none/\∃h' tk,s₂={s with heap:=h',toks:=tk}/\Zdh prog w s ns items.size h') E) F.called_set.init.plain F.entry_set_init (check_set_init_1 hT ?_)) fun r₂ s₂ hr₂=>?_
   ·obtain⟨ol,hol,hcl,nl,hdl⟩:=hl
    obtain⟨ocls,odict,odata,oslots⟩:=ol
    simp only at hcl hdl
    subst hcl;subst hdl
    have hol':(s.heap.push (ob led)).get? l=some {cls:=.type "tuple",dict:=odict,data:=.seq items nl,slots:=oslots}:=Zn _ hol
    have hsls:=ZbL;have hslf:=ZaV
    have hne:(Value.type "tuple" == Value.type "dict")=false:=by decide
    have hl1:(s.heap.push (ob led)).IsTuple l items:=⟨_,hol',rfl,nl,rfl⟩
    unfold Builtin.«set.__init__» noKeywords Builtin.Frozenset.updateFrom;generalize hPI:pyIter=PI
    wp_walk
    subst hPI
    refine wpAny_pyIter_tuple hl1 ?_
    refine Zl (wpAny_runValue ?_)
    have hlS:l<s.heap.objs.size:=Zp hol
    have hneI:l≠(s.heap.push (ob led)).objs.size:=by rw[Heap.size_push];exact Nat.ne_of_lt (Nat.lt_succ_of_lt hlS)
    have hSf:s.heap.objs.size∉[(s.heap.push (ob led)).objs.size,l]:=by
     rw[Heap.size_push];intro z
     rcases List.mem_cons.mp z with z|z
     ·exact absurd z (Nat.ne_of_lt (Nat.lt_succ_self _))
     ·exact absurd (List.mem_singleton.mp z) (Nat.ne_of_gt hlS)
    refine codeAny_set_update_loopS ((Walks.tuple (A:=A.in1.in1.in1) (by simp[hh]) _ l hneI items).toS) s.heap.objs.size hSf (fun i=>ns.getD i 0) (fun i v hv=>IntsAre.int_at hi i v (by rw[Array.getElem?_toList];exact hv)) hb (items.size-0) 0 _ (by omega) (Nat.zero_le _)
     ⟨⟨_,Zo _ rfl,rfl,rfl⟩,⟨_,Zn _ hol',rfl,nl,rfl⟩⟩ ?hS0 ?hR
    case hS0=>exact SetOf_congr ((setObjOf_fresh (knd:=intKind prog w) led).setOf (Zn _ hS) (by unfold scanBound;omega)) (fun _=>rfl) rfl
    case hR=>
     intro s' hm hS'
     obtain⟨h',g',d',tk',os'⟩:=s'
     obtain rfl:g'=s.gens:=hm.gens
     obtain rfl:d'=s.drawn:=hm.drawn
     obtain rfl:os'=s.os:=hm.os
     show wpAny _ _ _ _ _ _
     refine Zm ?_;show wpAny _ _ (ret Value.none) _ _ _
     refine Zm ⟨rfl,h',tk',rfl,hS',fun b o hb e=>hm.heap b o (fun z=>?_) (Zn _ (Zn _ e))⟩
     rcases List.mem_cons.mp z with z|z
     ·exact absurd z (Nat.ne_of_lt hb)
     ·refine absurd (List.mem_singleton.mp z) (Nat.ne_of_lt ?_);rw[Heap.size_push];exact Nat.lt_succ_of_lt hb
   ·cases r₂ with
    |error e=>exact hr₂
    |ok fl₂=>
     cases fl₂ with
     |ret r=>
      obtain⟨rfl,h',tk,rfl,he⟩:=hr₂
      repeat (any_goals (first|assumption|wp_step))
      exact h _ _ he
     |_=>exact hr₂.elim
  |_=>exact hr.elim
end
theorem ZaA:∀{ns:List Int}{us:List Value},ZE (ns.map V.int) us->IntsAre us ns
 | [],_,.nil=>.nil
 |n::r,_,.cons h t=>by
  obtain⟨k,rfl⟩:=(show ∃t,_=Value.int n t from h)
  exact .cons n k (ZaA t)
section
variable {X:Cx}
theorem Zby (hc:X.calm=true):ZN X (.type "set") (fun xs H Q=>∃(a:Addr) (ns:List Int),xs=[.ref a]/\Y9 X.K H a (ns.map V.int)/\ns.length<1000/\∀p,H p=none->Q (.ref p) (upd H p (.set (fun k=>(YO ns ns.length).any (· == k)) (YO ns ns.length).length))):=by
 intro pins s σ H xs us Q I r h
 obtain⟨a,ns,rfl,hq,hn,q⟩:=h
 obtain⟨u,rfl,ru⟩:=vals1 r
 cases ru
 obtain⟨its,rv,p,hz⟩:=I.tuple hq
 have hl:its.toArray.size=ns.length:=by rw[Zh,<-rv.length,Za]
 refine UD (I.ok.hd hc) (show s.heap.IsTuple a its.toArray from p) (ns:=ns) (by simpa using ZaA rv) (by rw[hl];unfold scanBound;omega) fun h' tk ⟨e1,e2⟩=>?_
 rw[hl] at e1
 exact⟨.ref _,_,I.laid (a:=s.heap.objs.size) (o:=.set (fun k=>(YO ns ns.length).any (· == k)) (YO ns ns.length).length) (t':=tk) (fun b o e=>e2 b o (Zp e) e) (Zq _) e1,rfl,q _ (I.hok.fresh (Zq _))⟩
theorem ZbA:ZN X (.builtin "len") (fun xs H Q=>∃(a:Addr) (S:Int->Bool) (n:Nat),xs=[.ref a]/\H a=some (.set S n)/\Q (.int n) H):=by
 intro pins s σ H xs us Q I r h
 obtain⟨a,S,n,rfl,ha,q⟩:=h
 obtain⟨u,rfl,ru⟩:=vals1 r
 cases ru
 obtain⟨o,es,ep,t,e1,e2,e3,_,_,e4,e5,e6⟩:=(show s.heap.SetOf (intKind X.prog X.w) a S n from I.hok a _ ha)
 refine call_len_set e1 e2 e3 e5 (by unfold scanBound at e4;omega) ?_
 exact⟨.int n,H,I.tok _,⟨_,by rw[e6]⟩,q⟩
theorem JM:ZN X (.type "range") (fun xs H Q=>∃j:Int,xs=[.int j]/\∀p,H p=none->Q (.ref p) (upd H p (.rng 0 j))):=by
 intro pins s σ H xs us Q I r h
 obtain⟨j,rfl,q⟩:=h
 obtain⟨u,rfl,ru⟩:=vals1 r
 obtain⟨t,rfl⟩:=ru
 exact call_range_1 ⟨.ref s.heap.objs.size,_,I.laid (a:=s.heap.objs.size) (o:=.rng 0 j) (fun b o e=>Zn _ e) (Zq _) ⟨_,_,_,Zo _ rfl⟩,rfl,q _ (I.hok.fresh (Zq _))⟩
theorem JL:ZN X (.type "range") (fun xs H Q=>∃i j:Int,xs=[.int i,.int j]/\∀p,H p=none->Q (.ref p) (upd H p (.rng i j))):=by
 intro pins s σ H xs us Q I r h
 obtain⟨i,j,rfl,q⟩:=h
 cases r with
 |cons r1 r=>
  obtain⟨u,rfl,ru⟩:=vals1 r
  obtain⟨t,rfl⟩:=r1
  obtain⟨t',rfl⟩:=ru
  exact call_range_2 ⟨.ref s.heap.objs.size,_,I.laid (a:=s.heap.objs.size) (o:=.rng i j) (fun b o e=>Zn _ e) (Zq _) ⟨_,_,_,Zo _ rfl⟩,rfl,q _ (I.hok.fresh (Zq _))⟩
def Yk (lo:Int)(n:Nat):List Int:=(List.range n).map fun i:Nat=>lo+(i:Int)
theorem Zb6 {lo:Int}{n i:Nat}(h:i<n):(Yk lo n)[i]?=some (lo+i):=by unfold Yk;rw[Zc,List.getElem?_range h];rfl
theorem Yw {lo:Int}{n:Nat}:(Yk lo n).length=n:=by unfold Yk;rw[Za,Zg]
theorem XB {lo:Int}{n:Nat}{acc:Array Value}(h:ItemsOf (fun i v=>∃t,v=.int (lo+i*1) t) acc n):ZE ((Yk lo n).map V.int) acc.toList:=by
 have go:∀(l:List Value) (k:Nat),(∀(j:Nat) v,l[j]?=some v->∃t,v=.int (lo+((k+j:Nat):Int)) t)->ZE (((List.range' k l.length).map fun i:Nat=>lo+(i:Int)).map V.int) l:=by
  intro l
  induction l with
  |nil=>intro k _;exact .nil
  |cons x r ih=>
   intro k hk
   rw[Zi,List.range'_succ]
   refine .cons ?_ (ih (k+1) fun j v hv=>?_)
   ·obtain⟨t,e⟩:=hk 0 x rfl
    exact⟨t,e⟩
   ·obtain⟨t,e⟩:=hk (j+1) v hv
    exact⟨t,by rw[e];congr 2;omega⟩
 have e:=go acc.toList 0 fun j v hv=>by
  rw[Array.getElem?_toList] at hv
  obtain⟨t,e⟩:=h.2 j v hv
  exact⟨t,by rw[e];congr 1 <;> omega⟩
 rw[Zr,h.1] at e
 unfold Yk
 rw[List.range_eq_range']
 exact e
theorem Wb (hc:X.calm=true):ZN X (.type "list") (fun xs H Q=>∃(a:Addr) (lo hi:Int),xs=[.ref a]/\H a=some (.rng lo hi)/\(-(2 ^ 62)<=lo/\lo<2 ^ 62/\-(2 ^ 62)<=hi/\hi<2 ^ 62)/\(hi-lo).toNat<=sizeLine/\
  ∀l,H l=none->Q (.ref l) (upd H l (.lst ((Yk lo (hi-lo).toNat).map V.int)))):=by
 intro pins s σ H xs us Q I r h
 obtain⟨a,lo,hi,rfl,ha,⟨b1,b2,b3,b4⟩,hz,q⟩:=h
 obtain⟨u,rfl,ru⟩:=vals1 r
 cases ru
 obtain⟨t,u,v,e⟩:=(show ∃t u v,s.heap.get? a=some {cls:=.type "range",data:=.fields #[.int lo t,.int hi u,.int 1 v]} from I.hok a _ ha)
 refine call_list_range (n:=(hi-lo).toNat) (I.ok.hd hc) e (small_one b1 b2 b3 b4) (by rw[rangeSize_one];split <;> omega) hz fun h' tk acc c' hk hl hit=>?_
 exact⟨.ref _,_,I.laid (a:=s.heap.objs.size) (o:=.lst ((Yk lo (hi-lo).toNat).map V.int)) (t':=tk) hk (Zq _) ⟨by rw[Za,Yw];exact hz,acc.toList,c',XB hit,by simpa using hl⟩,rfl,q _ (I.hok.fresh (Zq _))⟩
end
def YX:List Str->Bool
 | []=>true
 |x::r=>!(r.contains x) && YX r
theorem Z6:∀{l:List Str},YX l=true->l.Nodup
 | [],_=>List.nodup_nil
 |x::r,h=>by
  unfold YX at h
  simp only[Bool.and_eq_true,Bool.not_eq_true'] at h
  refine List.nodup_cons.mpr ⟨fun z=>?_,Z6 h.2⟩
  have:=List.contains_iff_mem.mpr z
  rw[h.1] at this;cases this
def XV (sc:Scope)(x:Str):Bool:=match sc.names.lookup x with
 |some .local=>true
 |some .cell=>true
 |_=>false
theorem W8 {sc:Scope}{x:Str}(h:XV sc x=true):Loc sc x:=by
 unfold XV at h
 split at h
 ·rename_i e;exact .inl e
 ·rename_i e;exact .inr e
 ·cases h
def Wl (sc:Scope)(x:Str):Bool:=match sc.names.lookup x with
 |some .local=>true
 |_=>false
theorem Yn {sc:Scope}{x:Str}(h:Wl sc x=true):sc.names.lookup x=some .local:=by
 unfold Wl at h
 split at h
 ·rename_i e;exact e
 ·cases h
def ZcJ (sc:Scope)(x:Str):Bool:=match sc.names.lookup x with
 |some .local=>true
 |some .cell=>true
 |some .free=>true
 |_=>false
theorem ZcI {sc:Scope}{x:Str}(h:ZcJ sc x=true):Vis sc x:=by
 unfold ZcJ at h
 split at h
 ·rename_i e;exact .inl e
 ·rename_i e;exact .inr (.inl e)
 ·rename_i e;exact .inr (.inr e)
 ·cases h
def YG (sc:Scope)(x:Str):Bool:=match sc.names.lookup x with
 |some .globalImplicit=>true
 |_=>false
def YE:Expr->Bool
 | .Starred _ _=>false
 |_=>true
theorem YD {e:Expr}{es:List Expr}{env:Env}(h:YE e=true):starEach (e::es) env=(false,eval e env)::starEach es env:=by cases e <;> first|rfl|cases h
def Y4:List Expr->Bool
 | []=>true
 |e::r=>YE e && Y4 r
theorem Yu {env:Env}{pos:Pos}:∀{es:List Expr},Y4 es=true->(backTo pos (starEach es env)).any (·.1)=false
 | [],_=>rfl
 |e::r,h=>by
  unfold Y4 at h
  rw[Bool.and_eq_true] at h
  rw[YD h.1]
  exact Yu h.2
section
variable {X:Cx}
theorem pc {e:Expr}{es:List Expr}{te:TE}{t:TA}(ha:PE X e te)(hr:PA X es t)(hs:YE e=true:=by rfl):PA X (e::es) (ZbP te t):=ZdH ha hr (YD hs)
theorem Y5 {x:Str}(h:YG X.env.scope x=true):Gl X x:=by
 unfold YG at h
 split at h
 ·rename_i e;exact e
 ·cases h
theorem vn (i:Nat){x:Str}{pos:Pos}(hN:X.N[i]?=some x:=by rfl)(hv:ZcJ X.env.scope x=true:=by kernel_rfl)(hd:(x == ("__debug__":Str))=false:=by kernel_rfl)(hcd:(x == ("__classdict__":Str))=false:=by kernel_rfl) :
  PE X (.Name x pos) (Xp i):=Zfa hN (ZcI hv) hd hcd
theorem gn (i:Nat){x:Str}{pos:Pos}(hi:X.N[i]?=some x:=by rfl)(hN:YX X.N=true:=by kernel_rfl)(hx:Wl X.env.scope x=true:=by kernel_rfl):PG X (.Name x pos) (Z9 i):=
 Zaq (Z6 hN) hi (.inl (Yn hx)) (.inr (Yn hx))
theorem gnf (i:Nat){x:Str}{pos:Pos}(hf:X.fn x=true)(hi:X.N[i]?=some x:=by rfl)(hN:YX X.N=true:=by kernel_rfl)(hx:XV X.env.scope x=true:=by kernel_rfl):PG X (.Name x pos) (Z9 i):=
 Zaq (Z6 hN) hi (W8 hx) (.inl hf)
theorem ZP (i:Nat){x:Str}{e:Expr}{te:TE}{pos pos':Pos}(hf:X.fn x=true)(he:PE X e te)(hi:X.N[i]?=some x:=by rfl)(hN:YX X.N=true:=by kernel_rfl)(hx:XV X.env.scope x=true:=by kernel_rfl)
  (hs:swapsWith e (some (.Name x pos')) pos.line X.env=pure false:=by rfl):PS X (.Assign [.Name x pos'] e pos) (Uu te (Z9 i)):=
 Ze6 (Z6 hN) hi (W8 hx) he hs (.inl hf)
theorem cb {x:Str}{id:String}{r:List V->Hp->VK->Prop}{e:Expr}{es:List Expr}{t:TA}{p pos:Pos}(hc:ZN X (.builtin id) r)(hm:X.mg x=none)(ha:PA X (e::es) t)(hg:YG X.env.scope x=true:=by kernel_rfl)(hv:bootBuiltins x=some (.builtin id):=by kernel_rfl)
  (hn:x ≠ "__name__":=by decide) (hd:(x == ("__debug__":Str))=false:=by kernel_rfl) (he:YE e=true:=by rfl) (hpl:Y4 es=true:=by rfl) :
  PE X (.Call (.Name x p) (e::es) [] pos) (tCB r t):=Zcn hc (Y5 hg) hm hv ha hn hd (YD he) (Yu hpl)
theorem ct {x:Str}{T:String}{r:List V->Hp->VK->Prop}{e:Expr}{es:List Expr}{t:TA}{p pos:Pos}(hc:ZN X (.type T) r)(hm:X.mg x=none)(ha:PA X (e::es) t)(hg:YG X.env.scope x=true:=by kernel_rfl)(hv:bootBuiltins x=some (.type T):=by kernel_rfl)
  (hn:x ≠ "__name__":=by decide) (hd:(x == ("__debug__":Str))=false:=by kernel_rfl) (he:YE e=true:=by rfl) (hpl:Y4 es=true:=by rfl) :
  PE X (.Call (.Name x p) (e::es) [] pos) (tCB r t):=Za6 hc (Y5 hg) hm hv ha hn hd (YD he) (Yu hpl)
theorem tyv (T:String){x:Str}{pos:Pos}(hm:X.mg x=none)(hg:YG X.env.scope x=true:=by kernel_rfl)(hv:bootBuiltins x=some (.type T):=by kernel_rfl)(hn:x ≠ "__name__":=by decide)(hd:(x == ("__debug__":Str))=false:=by kernel_rfl) :
  PE X (.Name x pos) (tC (.ty T)):=ZdE (Y5 hg) hm hv rfl hn hd
theorem ZhZ {x:Str}{i:Int}{t:Tok}{pos:Pos}(hm:X.mg x=some (.int i t))(hg:YG X.env.scope x=true:=by kernel_rfl)(hd:(x == ("__debug__":Str))=false:=by kernel_rfl):PE X (.Name x pos) (tC (.int i)):=Zas (Y5 hg) hm ⟨t,rfl⟩ hd
theorem JP {tg a:Expr}{ta:TA}{p pos:Pos}(hm:X.mg "range"=none)(ha:PA X [a] ta)(hg:YG X.env.scope "range"=true:=by kernel_rfl)(hs:starEach [a] X.env=[(false,eval a X.env)]:=by rfl):PI X tg (.Call (.Name "range" p) [a] [] pos) (Zex ta):=Za5 (Y5 hg) hm ha hs
end
def Fn (P:Program)(w:World)(K:PySem.W.Frag)(mg:Str->Option Value)(base:Heap)(CX:JT)(k:Nat)(x:Str)(ps:List Str)(sp:Sp):Prop:=
 ∃f fd,Z5 P w K mg base CX k f fd ps sp/\mg x=some (.ref f)/\PySem.W.keepIn K (.ref f)=true/\Binds K fd ps []
section
variable {X:Cx}
theorem Y7 {CX:JT}{k j:Nat}{x:Str}{ps:List Str}{sp:Sp}{E:XK}{e:Expr}{es:List Expr}{t:TA}{p pos:Pos}(G:Fn X.prog X.w X.K X.mg X.base CX k x ps sp)(hr:YM j X.A)(hx:WG CX X E)(ha:PA X (e::es) t)(hk:k<=j:=by decide)
  (hg:YG X.env.scope x=true:=by kernel_rfl) (hd:(x == ("__debug__":Str))=false:=by kernel_rfl) (he:YE e=true:=by rfl) (hpl:Y4 es=true:=by rfl) :
  PE X (.Call (.Name x p) (e::es) [] pos) (ZbR sp [] E t):=by
 obtain⟨f,fd,F,hm,kp,b⟩:=G
 exact ZdD F (hr.mono hk) (Y5 hg) hm kp b .nil hx ha hd (YD he) (Yu hpl)
end
theorem Fn.mk {P:Program}{w:World}{K:PySem.W.Frag}{mg:Str->Option Value}{base h:Heap}{CX:JT}{k:Nat}{x:Str}{ps:List Str}{sp:Sp}{st:Stmt}{f:Addr}{oc:Value}{od an:Option Addr}{osl:Array (Option Value)}{kV doc pm cdv ct:Value}(X:K.In h)(G:h.Ns mainGlobals mg)
  (a:PySem.W.nsIn K mainGlobals x=some (some (.ref f))) (l:K.lookup f=some ⟨oc,od,.func (PySem.W.fnOf x x (Yq st) (ZO st) (ZC st) .none kV doc pm an cdv ct),osl⟩) (c:PySem.W.codeIn K cdv x=true) (kp:PySem.W.keepIn K (.ref f)=true)
  (hok:∀fd,Wt K x x st f fd->Z5 P w K mg base CX k f fd ps sp)
  (hb:∀(kV doc pm:Value) (an:Option Addr) (cdv ct:Value) (us:List Value),us.length=ps.length->bindArgs (PySem.W.fnOf x x (Yq st) (ZO st) (ZC st) .none kV doc pm an cdv ct) ⟨us,[]⟩=pure (ps.zip us)) :
  Fn P w K mg base CX k x ps sp:=
 ⟨f,_,hok _ (Vm l c kp),PySem.W.mg_of X G a,kp,(Vm l c kp).binds hb⟩
def UU (n T:String):Bool:=n == T || (n == "bool" && T == "int")
def US:List String:=["NoneType", "bool", "int", "str", "list", "tuple", "dict"]
theorem ZgR {K:PySem.W.Frag}{n T:String}(hn:n∈US)(hT:T∈["int", "bool", "tuple", "list", "str"]):PySem.W.kitOne K (.type n) (.type T)=some (UU n T):=by
 simp only[US,List.mem_cons,List.mem_singleton,List.not_mem_nil,or_false] at hn hT
 rcases hn with rfl|rfl|rfl|rfl|rfl|rfl|rfl <;> rcases hT with rfl|rfl|rfl|rfl|rfl <;> kernel_rfl
def Kd (K:PySem.W.Frag)(H:Hp)(x:V)(n:String):Prop:=Jk K H x (.type n)/\n∈US
def ZeX (K:PySem.W.Frag)(T:String):List V->Hp->VK->Prop:=fun xs H Q=>∃x n,xs=[x,.ty T]/\Kd K H x n/\Q (.bl (UU n T)) H
theorem Zdb {X:Cx}{T:String}(hT:T∈["int", "bool", "tuple", "list", "str"]):ZN X (.builtin "isinstance") (ZeX X.K T):=by
 intro pins s σ H xs us Q I r h
 obtain⟨x,n,rfl,⟨ty,hn⟩,q⟩:=h
 refine Zda pins s σ H _ us Q I r ⟨x,.ty T,.type n,UU n T,rfl,ty,fun cv rc=>?_,q⟩
 cases (show cv=Value.type T from rc)
 exact ZgR hn hT
section
variable {X:Cx}
theorem Jw (K:PySem.W.Frag)(hK:X.K=K:=by rfl):IxR X (Zgu K):=hK▸Zfz
theorem ixL (K:PySem.W.Frag)(hK:X.K=K:=by rfl):IxR X (ZeW K):=hK▸ZU
theorem ZfB (K:PySem.W.Frag)(T:String)(hT:T∈["int", "bool", "tuple", "list", "str"]:=by decide)(hK:X.K=K:=by rfl):ZN X (.builtin "isinstance") (ZeX K T):=hK▸Zdb hT
def ZhK (K:PySem.W.Frag):List V->Hp->VK->Prop:=fun xs H Q=>∃p ys,xs=[.ref p]/\(Wq K H p ys\/Y9 K H p ys)/\Q (.int ys.length) H
theorem Y1 (K:PySem.W.Frag)(hK:X.K=K:=by rfl):ZN X (.builtin "len") (ZhK K):=hK▸YT
theorem itT (K:PySem.W.Frag){tg l:Expr}{tl:TE}(hl:PE X l tl)(hK:X.K=K:=by rfl):PI X tg l (ZgS K tl):=hK▸Ze9 hl
theorem itL (K:PySem.W.Frag){tg l:Expr}{tl:TE}(hl:PE X l tl)(hK:X.K=K:=by rfl):PI X tg l (Zey K tl):=hK▸Zdz hl
end
def U2 (N:List Str)(esc:Scope)(own:List Str)(caps:List Nat)(N':List Str)(sc:Scope):Bool:=
 (sc.kind == .function) && YX (sc.names.map (·.1)) && sc.names.all (fun y=>y.2 != .local || Wl sc y.1) && YX N' && decide (N'=own++caps.map fun j=>N.getD j "") &&
  caps.all (fun j=>decide (j<N.length) && (match sc.names.lookup (N.getD j "") with|some .free=>true|_=>false)) &&
  sc.names.all (fun y=>y.2 != .free || (match esc.names.lookup y.1 with|some .cell=>true|some .free=>true|_=>false))
theorem WO.of {N:List Str}{esc:Scope}{own:List Str}{caps:List Nat}{N':List Str}{sc:Scope}(h:U2 N esc own caps N' sc=true):WO N esc own caps N' sc:=by
 unfold U2 at h
 simp only[Bool.and_eq_true,List.all_eq_true,decide_eq_true_eq,beq_iff_eq,bne_iff_ne,ne_eq,Bool.or_eq_true] at h
 obtain⟨⟨⟨⟨⟨⟨h1,h2⟩,h3⟩,h4⟩,h5⟩,h6⟩,h7⟩:=h
 refine⟨h1,Z6 h2,fun y hy e=>?_,Z6 h4,h5,fun j hj=>⟨(h6 j hj).1,?_⟩,fun y hy e=>?_⟩
 ·rcases h3 y hy with z|z
  ·exact absurd e z
  ·exact Yn z
 ·have:=(h6 j hj).2
  split at this
  ·rename_i z;exact z
  ·cases this
 ·rcases h7 y hy with z|z
  ·exact absurd e z
  ·split at z
   ·rename_i q;exact .inl q
   ·rename_i q;exact .inr q
   ·cases z
theorem cmp {X:Cx}(own:List Str)(caps:List Nat)(N':List Str){scope:Scope}{elt iter tg:Expr}{ifs:List Expr}{pos:Pos}{wi:TI}{g:TG}{tc:TT}{te:TE}(hc:X.calm=true)(hi:PI X tg iter wi)
  (hg:∀cl C s H ex,PG (Wa X scope cl N' C s H ex) tg g) (ht:∀cl C s H ex,PIf (Wa X scope cl N' C s H ex) ifs tc) (he:∀cl C s H ex,PE (Wa X scope cl N' C s H ex) elt te)
  (hS:U2 X.N X.env.scope own caps N' scope=true:=by kernel_rfl) (hs:∀x,foldedSetIterable iter X.env x=pure x:=by intro _;rfl) :
  PE X (.ListComp elt [⟨tg,iter,ifs,0⟩] scope pos) (Zee own caps wi g tc te):=ZdC rfl (.of hS) hc hi hg ht he hs
section
variable {X:Cx}
end
theorem VA {c:TT}{tb:TS}{D:Ws}{σ:St}{H:Hp}(Pv:Nat->St->Hp->Prop)(Ex:St->Hp->Prop)(hend:∀ σ H,Ex σ H->D.nx σ H)(h0:∃m,Pv m σ H)
  (turn:(∀ σ H,Ex σ H->D.nx σ H)->∀m σ H,Pv m σ H->c σ H fun b H1=>if b=true then ∃N:St->Hp->Prop,(∀ σ' H',N σ' H'->∃m',m'<m/\Pv m' σ' H')/\tb {D with nx:=N,ct:=N,bk:=D.nx} σ H1 else D.nx σ H1) :
  ZbN c tb D σ H:=⟨Pv,h0,turn hend⟩
structure Wh (J:It)(H:Hp)(xs:List V):Prop where
 go:∀(i:Nat) H',Zw H H'->i<xs.length->J.go i H'
 yld:∀(i:Nat) H' x H2,Zw H H'->i<xs.length->J.yld i H' x H2->H2=H'/\xs[i]?=some x
 stop:∀H',Zw H H'->J.stop xs.length H'
theorem Wh.mono {J:It}{H H':Hp}{xs:List V}(s:Zw H H')(S:Wh J H xs):Wh J H' xs:=
 ⟨fun i H2 e=>S.go i H2 (s.trans e),fun i H2 x H3 e=>S.yld i H2 x H3 (s.trans e),fun H2 e=>S.stop H2 (s.trans e)⟩
theorem Wi {K:PySem.W.Frag}{H:Hp}{a:Addr}{xs:List V}(h:Y9 K H a xs):Wh (Itt K a) H xs:=
 ⟨fun i H' s hi=>⟨xs,_,s.tup h,Zf hi⟩,fun i H' x H2 s _ y=>⟨y.1,y.2 xs (s.tup h)⟩,fun H' s=>⟨xs,s.tup h,Zq _⟩⟩
theorem Yv {K:PySem.W.Frag}{H:Hp}{a:Addr}{xs:List V}(h:Wq K H a xs):Wh (Itl K a) H xs:=
 ⟨fun i H' s hi=>⟨xs,_,s.seq h,Zf hi⟩,fun i H' x H2 s _ y=>⟨y.1,y.2 xs (s.seq h)⟩,fun H' s=>⟨xs,s.seq h,Zq _⟩⟩
theorem Zdt {H:Hp}(lo:Int)(n:Nat):Wh (Itr lo n) H ((Yk lo n).map V.int):=by
 have hl:((Yk lo n).map V.int).length=n:=by rw[Za,Yw]
 refine⟨fun i H' s hi=>by rw[hl] at hi;exact hi,fun i H' x H2 s hi y=>?_,fun H' s=>by show n<=_;rw[hl];exact Zq _⟩
 rw[hl] at hi
 exact⟨y.1,by rw[y.2,Zc,Zb6 hi];rfl⟩
theorem V9 {J:It}{own:List Str}{caps:List Nat}{g:TG}{tc:TT}{te:TE}{σ:St}{H:Hp}{Q:VK}{xs:List V}(S:Wh J H xs)(cs:St)(hcs:JR own caps σ=none::cs)(f:V->Option V)(hz:xs.length<=1000000)
  (hs:∀(i:Nat) x v0 H',xs[i]?=some x->Zw H H'->∀(R:St->V->Hp->Prop) (R':St->Hp->Prop),(∀v H5,f x=some v->Zw H' H5->R (some x::cs) v H5)->(∀H4,f x=none->Zw H' H4->R' (some x::cs) H4)->
   g x (v0::cs) H' fun σ3 H3=>tc σ3 H3 fun b H4=>if b=true then te σ3 H4 (R σ3) else R' σ3 H4)
  (hd:∀D H',H D=none->Zw H H'->H' D=some (.lst (xs.filterMap f))->Q (.ref D) H') :
  Jn own caps g tc te σ Q J H:=by
 intro D hD
 refine⟨fun i m σ' H'=>m=xs.length-i/\i<=xs.length/\(∃v0,σ'=v0::cs)/\Zw H H'/\H' D=some (.lst ((xs.take i).filterMap f)),⟨_,rfl,Nat.zero_le _,⟨none,hcs⟩,Zw.upd hD,by rw[Zt,List.take_zero];rfl⟩,?_⟩
 rintro i m σ' H' ⟨rfl,hi,⟨v0,rfl⟩,s,hl⟩
 by_cases hlt:i<xs.length
 ·refine .inr ⟨S.go i H' s hlt,_,fun σ2 H2 z=>z,fun x H2 y=>?_⟩
  obtain⟨rfl,hx⟩:=S.yld i H' x H2 s hlt y
  have ht:xs.take (i+1)=xs.take i++[x]:=by rw[List.take_add_one,hx];rfl
  have hlen:((xs.take i).filterMap f).length<=i:=Nat.le_trans (List.length_filterMap_le _ _) (by rw[List.length_take];omega)
  refine hs i x v0 H2 hx s _ _ (fun v H5 e s5=>?_) (fun H4 e s4=>?_)
  ·refine⟨_,s5 _ _ hl,?_,xs.length-(i+1),by omega,rfl,hlt,⟨_,rfl⟩,(s.trans s5).updr hD,?_⟩
   ·have:(16777216:Nat)=sizeLine:=by decide
    omega
   ·rw[Zt,ht,List.filterMap_append,List.filterMap_cons,e];rfl
  ·refine⟨xs.length-(i+1),by omega,rfl,hlt,⟨_,rfl⟩,s.trans s4,?_⟩
   rw[s4 _ _ hl,ht,List.filterMap_append,List.filterMap_cons,e]
   simp
 ·have e:i=xs.length:=by omega
  subst e
  refine .inl ⟨S.stop H' s,hd D H' hD s ?_⟩
  rw[hl,List.take_length]
theorem Y6 {J:It}{g:TG}{tb:TS}{D:Ws}{σ:St}{H0 H:Hp}{xs:List V}(S:Wh J H0 xs)(Pv:Nat->St->Hp->Prop)(h0:Pv 0 σ H)(hS:∀i σ H,Pv i σ H->Zw H0 H)
  (hs:∀(i:Nat) x σ H,xs[i]?=some x->Pv i σ H->g x σ H fun σ2 H2=>tb {D with nx:=Pv (i+1),ct:=Pv (i+1),bk:=D.nx} σ2 H2) (hd:∀ σ H,Pv xs.length σ H->D.nx σ H) :
  ∃W:Nat->Nat->St->Hp->Prop,(∃m,W 0 m σ H)/\∀i m σ H,W i m σ H->
   (J.stop i H/\D.nx σ H)\/(J.go i H/\∃N:St->Hp->Prop,(∀ σ' H',N σ' H'->∃m',m'<m/\W (i+1) m' σ' H')/\∀x H',J.yld i H x H'->g x σ H' fun σ2 H2=>tb {D with nx:=N,ct:=N,bk:=D.nx} σ2 H2):=by
 refine⟨fun i m σ H=>m=xs.length-i/\i<=xs.length/\Pv i σ H,⟨_,rfl,Nat.zero_le _,h0⟩,?_⟩
 rintro i m σ H ⟨rfl,hi,p⟩
 have s:=hS i σ H p
 by_cases hlt:i<xs.length
 ·refine .inr ⟨S.go i H s hlt,Pv (i+1),fun σ' H' p'=>⟨xs.length-(i+1),by omega,rfl,hlt,p'⟩,fun x H' y=>?_⟩
  obtain⟨rfl,hx⟩:=S.yld i H x H' s hlt y
  exact hs i x σ _ hx p
 ·have e:i=xs.length:=by omega
  subst e
  exact .inl ⟨S.stop H s,hd σ H p⟩
theorem tT {A B:Hp->Prop}{σ:St}{H:Hp}(h:A H):WU σ H fun b H4=>if b=true then A H4 else B H4:=by
 show if true=true then A H else B H
 rw[if_pos rfl];exact h
theorem ZaD {α β:Type}(g:α->β):∀xs:List α,xs.filterMap (fun y=>some (g y))=xs.map g
 | []=>rfl
 |x::r=>by rw[List.filterMap_cons,List.map_cons,ZaD g r]
theorem ZeB {α β:Type}(p:α->Bool)(g:α->β):∀xs:List α,xs.filterMap (fun y=>if p y=true then some (g y) else none)=(xs.filter p).map g
 | []=>rfl
 |x::r=>by
  rw[List.filterMap_cons,List.filter_cons,ZeB p g r]
  by_cases h:p x=true
  ·rw[if_pos h,if_pos h];rfl
  ·rw[if_neg h,if_neg h]
theorem Zd0 {c A B:Prop} [Decidable c](hc:c)(h:A):if c then A else B:=by rw[if_pos hc];exact h
theorem WQ {c A B:Prop} [Decidable c](hc:¬c)(h:B):if c then A else B:=by rw[if_neg hc];exact h
theorem Jg {J:It}{own:List Str}{caps:List Nat}{te:TE}{σ:St}{H:Hp}{Q:VK}{xs:List V}(S:Wh J H xs)(cs:St)(hcs:JR own caps σ=none::cs)(f:V->V)(hz:xs.length<=1000000)
  (hs:∀(i:Nat) x H',xs[i]?=some x->Zw H H'->∀R:VK,(∀H5,Zw H' H5->R (f x) H5)->te (some x::cs) H' R)
  (hd:∀D H',H D=none->Zw H H'->H' D=some (.lst (xs.map f))->Q (.ref D) H'):Jn own caps (Z9 0) WU te σ Q J H:=by
 refine V9 S cs hcs (fun x=>some (f x)) hz (fun i x v0 H' hx s R R' h1 h2=>?_) fun D H' hD s hl=>hd D H' hD s (by rw[hl,ZaD])
 show WU (some x::cs) H' fun b H4=>if b=true then te (some x::cs) H4 (R (some x::cs)) else R' (some x::cs) H4
 exact tT (A:=fun H4=>te (some x::cs) H4 (R (some x::cs))) (hs i x H' hx s _ fun H5 s5=>h1 _ H5 rfl s5)
theorem Zbt {J:It}{own:List Str}{caps:List Nat}{tc:TT}{te:TE}{σ:St}{H:Hp}{Q:VK}{xs:List V}(S:Wh J H xs)(cs:St)(hcs:JR own caps σ=none::cs)(p:V->Bool)(f:V->V)(hz:xs.length<=1000000)
  (hs:∀(i:Nat) x H',xs[i]?=some x->Zw H H'->∀(R:VK) (R':Hp->Prop),(p x=true->∀H5,Zw H' H5->R (f x) H5)->(p x=false->∀H4,Zw H' H4->R' H4)->tc (some x::cs) H' fun b H4=>if b=true then te (some x::cs) H4 R else R' H4)
  (hd:∀D H',H D=none->Zw H H'->H' D=some (.lst ((xs.filter p).map f))->Q (.ref D) H'):Jn own caps (Z9 0) tc te σ Q J H:=by
 refine V9 S cs hcs (fun x=>if p x=true then some (f x) else none) hz (fun i x v0 H' hx s R R' h1 h2=>?_) fun D H' hD s hl=>hd D H' hD s (by rw[hl,ZeB])
 exact hs i x H' hx s (R (some x::cs)) (R' (some x::cs)) (fun e H5 s5=>h1 _ H5 (by rw[if_pos e]) s5) fun e H4 s4=>h2 H4 (by rw[if_neg (by rw[e];decide)]) s4
theorem W2:∀{ns:List Int},(∀n∈ns,n.natAbs<2 ^ 200)->PyData.showableAll (ns.map PyData.int)=true/\PyData.hasDictAll (ns.map PyData.int)=false/\PyData.depthAll (ns.map PyData.int)=0/\PyData.leavesShortAll 300 (ns.map PyData.int)=true/\PyData.bulkAll (ns.map PyData.int)=ns.length/\PyData.canLayAll0 (ns.map PyData.int)=true
 | [],_=>⟨rfl,rfl,rfl,rfl,rfl,rfl⟩
 |n::r,h=>by
  obtain⟨h1,h2,h3,h4,h5,h6⟩:=W2 (ns:=r) fun m hm=>h m (List.mem_cons_of_mem _ hm)
  have hn:=h n List.mem_cons_self
  have hlog:n.natAbs.log2<1920:=by
   by_cases h0:n.natAbs=0
   ·rw[h0];decide +kernel
   ·have:=(Nat.log2_lt h0).mpr hn
    omega
  have hlen:(PyData.shown (.int n)).length<=300:=by
   have h2:n.natAbs.log2<200:=by
    by_cases h0:n.natAbs=0
    ·rw[h0];decide +kernel
    ·exact (Nat.log2_lt h0).mpr hn
   have:=int_text_length_le (k:=200) (by decide) h2
   simp only[PyData.shown]
   rw[PySem.ofString_length];omega
  refine⟨?_,?_,?_,?_,?_,?_⟩
  ·simp only[List.map_cons,PyData.showableAll,PyData.showable,h1,Bool.and_true,decide_eq_true_eq];exact hlog
  ·simp only[List.map_cons,PyData.hasDictAll,PyData.hasDict,h2,Bool.or_false]
  ·simp only[List.map_cons,PyData.depthAll,PyData.depth,h3];rfl
  ·simp only[List.map_cons,PyData.leavesShortAll,PyData.leavesShort,h4,Bool.and_true,decide_eq_true_eq];exact hlen
  ·simp only[List.map_cons,PyData.bulkAll,PyData.bulk,h5,Zi];omega
  ·simp only[List.map_cons,PyData.canLayAll0,PyData.canLay0,h6,Bool.and_true]
def ZD (K:PySem.W.Frag)(x:Str)(st:Stmt):Prop:=
 ∃(f:Addr) (oc:Value) (od an:Option Addr) (osl:Array (Option Value)) (kV doc pm cdv ct:Value),PySem.W.nsIn K mainGlobals x=some (some (.ref f))/\
  K.lookup f=some ⟨oc,od,.func (PySem.W.fnOf x x (Yq st) (ZO st) (ZC st) .none kV doc pm an cdv ct),osl⟩/\PySem.W.codeIn K cdv x=true/\PySem.W.keepIn K (.ref f)=true
theorem ZD.mk {K:PySem.W.Frag}{x:Str}{st:Stmt}{f:Addr}{oc:Value}{od an:Option Addr}{osl:Array (Option Value)}{kV doc pm cdv ct:Value}(a:PySem.W.nsIn K mainGlobals x=some (some (.ref f)))
  (l:K.lookup f=some ⟨oc,od,.func (PySem.W.fnOf x x (Yq st) (ZO st) (ZC st) .none kV doc pm an cdv ct),osl⟩) (c:PySem.W.codeIn K cdv x=true) (k:PySem.W.keepIn K (.ref f)=true):ZD K x st:=
 ⟨f,oc,od,an,osl,kV,doc,pm,cdv,ct,a,l,c,k⟩
theorem ZD.fn {P:Program}{w:World}{K:PySem.W.Frag}{mg:Str->Option Value}{base h:Heap}{CX:JT}{k:Nat}{x:Str}{ps:List Str}{sp:Sp}{st:Stmt}(D:ZD K x st)(X:K.In h)(G:h.Ns mainGlobals mg)
  (hok:∀f fd,Wt K x x st f fd->Z5 P w K mg base CX k f fd ps sp)
  (hb:∀(kV doc pm:Value) (an:Option Addr) (cdv ct:Value) (us:List Value),us.length=ps.length->bindArgs (PySem.W.fnOf x x (Yq st) (ZO st) (ZC st) .none kV doc pm an cdv ct) ⟨us,[]⟩=pure (ps.zip us)) :
  Fn P w K mg base CX k x ps sp:=by
 obtain⟨f,oc,od,an,osl,kV,doc,pm,cdv,ct,a,l,c,kp⟩:=D
 exact Fn.mk X G a l c kp (fun fd F=>hok f fd F) hb
theorem YJ {α:Type} [DecidableEq α]:∀(l l':List α),l.Nodup->(∀a∈l,a∈l')->l.length<=l'.length
 | [],_,_,_=>Nat.zero_le _
 |a::r,l',nd,h=>by
  obtain⟨na,nr⟩:=List.nodup_cons.mp nd
  have ha:a∈l':=h a List.mem_cons_self
  have:=YJ r (l'.erase a) nr fun b hb=>by
   have hne:b≠a:=fun e=>na (e▸hb)
   exact (List.mem_erase_of_ne hne).mpr (h b (List.mem_cons_of_mem _ hb))
  rw[List.length_erase_of_mem ha] at this
  have hp:0<l'.length:=List.length_pos_of_mem ha
  rw[Zi]
  omega
theorem XN (val:Nat->Int):∀i,(firstMet val i).Nodup
 |0=>List.nodup_nil
 |i+1=>by
  have ih:=XN val i
  rw[firstMet_succ]
  unfold step_dedup
  split
  ·exact ih
  ·rename_i h
   refine List.nodup_append.mpr ⟨ih,List.nodup_cons.mpr ⟨by simp,List.nodup_nil⟩,?_⟩
   intro a ha b hb e
   rw[List.mem_singleton.mp hb] at e
   apply h
   first
    |exact List.any_eq_true.mpr ⟨a,ha,by simp[e]⟩
    |simpa [e] using ha
theorem ZdV (val:Nat->Int)(i:Nat)(k:Int):k∈firstMet val i↔∃j,j<i/\val j=k:=by
 have h:=firstMet_any val i k
 constructor
 ·intro hk
  have:(firstMet val i).any (· == k)=true:=List.any_eq_true.mpr ⟨k,hk,by simp⟩
  rw[h] at this
  obtain⟨x,hx,e⟩:=List.any_eq_true.mp this
  obtain⟨j,hj,rfl⟩:=List.mem_map.mp hx
  exact⟨j,List.mem_range.mp hj,by simpa using e⟩
 ·rintro⟨j,hj,rfl⟩
  have:((List.range i).map val).any (· == val j)=true:=List.any_eq_true.mpr ⟨val j,List.mem_map.mpr ⟨j,List.mem_range.mpr hj,rfl⟩,by simp⟩
  rw[<-h] at this
  obtain⟨x,hx,e⟩:=List.any_eq_true.mp this
  have:x=val j:=by simpa using e
  exact this▸hx
theorem XO (ns:List Int)(k:Int):k∈YO ns ns.length↔k∈ns:=by
 rw[ZdV]
 constructor
 ·rintro⟨j,hj,rfl⟩
  rw[Zb,Zf hj];exact List.getElem_mem hj
 ·intro h
  obtain⟨j,hj,e⟩:=List.getElem_of_mem h
  exact⟨j,hj,by rw[Zb,Zf hj];exact e⟩
theorem J5 (n:Nat):(Yk 0 n).Nodup:=by
 unfold Yk
 rw[List.Nodup,List.pairwise_map]
 exact List.Pairwise.imp (fun h e=>h (by omega)) (List.nodup_range (n:=n))
theorem W5 {n:Nat}{k:Int}:k∈Yk 0 n↔0<=k/\k<n:=by
 unfold Yk
 rw[List.mem_map]
 constructor
 ·rintro⟨i,hi,rfl⟩
  have:=List.mem_range.mp hi;omega
 ·rintro⟨h0,h1⟩
  obtain⟨j,rfl⟩:=Int.eq_ofNat_of_zero_le h0
  exact⟨j,List.mem_range.mpr (by omega),by simp⟩
theorem VP (ns:List Int):((∀z∈ns,0<=z/\z<ns.length)/\(YO ns ns.length).length=ns.length)↔∀k:Nat,k<ns.length->(k:Int)∈ns:=by
 constructor
 ·rintro⟨hr,hl⟩ k hk
  apply Classical.byContradiction
  intro hn
  have h1:=YJ (YO ns ns.length) ((Yk 0 ns.length).erase (k:Int)) (XN _ _) fun a ha=>by
   have hm:=(XO ns a).mp ha
   have hne:a≠(k:Int):=fun e=>hn (e▸hm)
   exact (List.mem_erase_of_ne hne).mpr (W5.mpr (hr a hm))
  rw[List.length_erase_of_mem (W5.mpr ⟨by omega,by omega⟩),Yw,hl] at h1
  omega
 ·intro h
  have hsub:∀a∈Yk 0 ns.length,a∈ns:=fun a ha=>by
   obtain⟨h0,h1⟩:=W5.mp ha
   obtain⟨j,rfl⟩:=Int.eq_ofNat_of_zero_le h0
   exact h j (by omega)
  refine⟨fun z hz=>?_,?_⟩
  ·apply Classical.byContradiction
   intro hn
   have h1:=YJ (Yk 0 ns.length) (ns.erase z) (J5 _) fun a ha=>by
    have hne:a≠z:=fun e=>hn (e▸W5.mp ha)
    exact (List.mem_erase_of_ne hne).mpr (hsub a ha)
   have hp:0<ns.length:=List.length_pos_of_mem hz
   rw[List.length_erase_of_mem hz,Yw] at h1
   omega
  ·have h1:=YJ (Yk 0 ns.length) (YO ns ns.length) (J5 _) fun a ha=>(XO ns a).mpr (hsub a ha)
   have h2:=firstMet_length_le (fun i=>ns.getD i 0) ns.length
   rw[Yw] at h1
   have h3:(YO ns ns.length).length<=ns.length:=h2
   omega
section
variable {X:Cx}
end
theorem gT {te:TE}{N:St->Hp->Prop}{Kt:St->V->Hp->Prop}{x:V}{v0:Option V}{cs:St}{H:Hp}(h:te (some x::cs) H (Kt (some x::cs))):Z9 0 x (v0::cs) H fun σ3 H3=>WU σ3 H3 fun b H4=>if b=true then te σ3 H4 (Kt σ3) else N σ3 H4:=by
 show if true=true then te (some x::cs) H (Kt (some x::cs)) else N (some x::cs) H
 rw[if_pos rfl];exact h
theorem Ub {J:It}{own:List Str}{caps:List Nat}{te:TE}{σ:St}{H:Hp}{Q:VK}{xs:List V}(G:Addr->Nat->List V->Hp->Prop)(cs:St)(hcs:JR own caps σ=none::cs)(hz:xs.length<=1000000)
  (S:∀D i ys H',H D=none->H' D=some (.lst ys)->G D i ys H'->(i<xs.length->J.go i H'/\∀x H2,J.yld i H' x H2->H2=H'/\xs[i]?=some x)/\(i=xs.length->J.stop i H'))
  (h0:∀D,H D=none->G D 0 [] (upd H D (.lst [])))
  (hs:∀D (i:Nat) x ys H',H D=none->H' D=some (.lst ys)->xs[i]?=some x->G D i ys H'->∀R:VK,(∀v H5,H5 D=some (.lst ys)->G D (i+1) (ys++[v]) (upd H5 D (.lst (ys++[v])))->R v H5)->te (some x::cs) H' R)
  (hd:∀D ys H',H D=none->H' D=some (.lst ys)->ys.length=xs.length->G D xs.length ys H'->Q (.ref D) H'):Jn own caps (Z9 0) WU te σ Q J H:=by
 intro D hD
 refine⟨fun i m σ' H'=>m=xs.length-i/\i<=xs.length/\(∃v0,σ'=v0::cs)/\∃ys,H' D=some (.lst ys)/\ys.length=i/\G D i ys H',⟨_,rfl,Nat.zero_le _,⟨none,hcs⟩,[],Zt,rfl,h0 D hD⟩,?_⟩
 rintro i m σ' H' ⟨rfl,hi,⟨v0,rfl⟩,ys,hl,hy,g⟩
 obtain⟨S1,S2⟩:=S D i ys H' hD hl g
 by_cases hlt:i<xs.length
 ·refine .inr ⟨(S1 hlt).1,_,fun σ2 H2 z=>z,fun x H2 y=>?_⟩
  obtain⟨rfl,hx⟩:=(S1 hlt).2 x H2 y
  refine gT ?_
  refine hs D i x ys H2 hD hl hx g _ fun v H5 h5 g5=>⟨ys,h5,?_,xs.length-(i+1),by omega,rfl,hlt,⟨_,rfl⟩,ys++[v],Zt,by rw[Zd];simp[hy],g5⟩
  have:(16777216:Nat)=sizeLine:=by decide
  omega
 ·have e:i=xs.length:=by omega
  exact .inl ⟨S2 e,hd D ys H' hD hl (by omega) (e▸g)⟩
end L2
namespace PyX
open PySem
def Xn (h:Heap)(C N:Addr)(bm:List Value)(nid:String):Prop:=
 ∃nm q bs hd sn sb ab cl dd k0 k1 k2 k3 k5,
  h.get? C=some (excClassObj nm q C N bs bm hd sn sb ab cl dd k0 k1 k2 k3 k5 nid)
theorem Xn.keeps {h h':Heap}{C N:Addr}{bm:List Value}{nid:String}(x:Xn h C N bm nid)
  (k:∀b o,h.get? b=some o->h'.get? b=some o):Xn h' C N bm nid:=by
 obtain⟨nm,q,bs,hd,sn,sb,ab,cl,dd,k0,k1,k2,k3,k5,e⟩:=x
 exact⟨nm,q,bs,hd,sn,sb,ab,cl,dd,k0,k1,k2,k3,k5,k _ _ e⟩
abbrev ZcU (xs:List Value):Obj:={cls:=.type "tuple",data:=.seq xs.toArray}
abbrev ZcT (C a:Addr):Obj:=
 {cls:=.ref C,data:=.fields #[.ref a,.none,.none,.none,.bool false,.none]}
section
variable {prog:Program}{w:World}{A:Around}{E:Value->Shared->Prop}
variable {h:Heap}{gs:Array GenState}{dr:Drawn}{tk:Nat}{os:OsState}
variable {C N fI:Addr}{oI:Obj}{bm bB:List Value}{B nid iid:String}{mN:Str->Option Value}{xs:List Value}
theorem JO {Q:Fin->Shared->Prop}(F:ExcBaseFacts B nid iid bB)(T:OwnTail h bB bm)
    (x:Xn h C N bm nid) (ns:h.Ns N mN) (hi:mN "__init__"=none)
    (hq:∀h' e,Heap.MadeExcOf h h' e (.ref C) xs->h.objs.size<=e->Q (.done (.ret (.ref e))) ⟨h',gs,dr,tk,os⟩)
    (hl:xs.length<=sizeLine) :
    wpAny (model prog w) A (Builtin.«type.__call__» ⟨.ref C::xs,[]⟩) Q E ⟨h,gs,dr,tk,os⟩:=by
  obtain⟨nm,q,bs,hd,sn,sb,ab,cl,dd,k0,k1,k2,k3,k5,hC⟩:=x
  repeat (first
    |with_reducible refine wpAny_loadPart_at hC ?_
    |with_reducible refine wpAny_madeBy_exc hC ?_
    |wp_step)
  refine codeAny_call_builtin_code (Code.quiet_builtin _ F.quiet)
    (wpAny_check_new_subT F T hC (codeAny_exc_new_subT F T hC ?_ hl))
  show wpAny _ _ _ _ _ _
  have kp:∀b o,h.get? b=some o->((h.push (ZcU xs)).push (ZcT C h.objs.size)).get? b=some o:=
    fun b o e=>Zn _ (Zn _ e)
  have hC1:=kp _ _ hC
  have ns1:=ns.keeps kp
  have T1:=T.keeps kp
  have he:((h.push (ZcU xs)).push (ZcT C h.objs.size)).get? (h.objs.size+1)=some (ZcT C h.objs.size):=by
    heap_get
  have hself:(Value.ref C::bm).contains (.ref C)=true:=by
    simp
  unfold isInstance
  repeat (first
    |with_reducible refine wpAny_loadPart_at he ?_
    | (with_reducible refine wpAny_isSubtype_exc hC1 ?_
       rw[hself])
    |wp_step)
  show wpAny _ _ (typeLookup (.ref C) _) _ _ _
  refine wpAny_typeLookup_tail hC1 ns1 T1 F.mroIs F.init.lookup ?_
  rw[hi]
  refine wpAny_holding (Zl (wpAny_of_eq (F.init.bind _) ?_))
  refine Zl (wpAny_call (codeAny_call_builtin F.init.plain F.initEntry (wpAny_check_init_subT F T1 hC1 he rfl ?_)))
  wp_walk
  refine hq _ _ ⟨fun b o hb=>?_,Heap.get?_none_of_le (Nat.le_succ _),h.objs.size+2,?_,Heap.get?_none_of_le (by omega),?_⟩ (Nat.le_succ _)
  · rw[Heap.get?_update_other _ _ (Nat.ne_of_gt (Nat.lt_succ_of_lt (Zp hb)))]
    exact Zn _ (kp b o hb)
  · rw[Heap.get?_update_self _ (Zn _ he) rfl]
    simp only[Heap.size_push]
    rfl
  · rw[Heap.get?_update_other _ _ (show h.objs.size+1≠h.objs.size+2 by
      omega)]
    exact Heap.get?_push_at (by
      simp only[Heap.size_push]) rfl
theorem Uc {Q:Value->Shared->Prop}(F:ExcBaseFacts B nid iid bB)(T:OwnTail h bB bm)
  (x:Xn h C N bm nid) (ns:h.Ns N mN) (hi:mN "__init__"=none)
  (hq:∀h' e,Heap.MadeExcOf h h' e (.ref C) xs->h.objs.size<=e->Q (.ref e) ⟨h',gs,dr,tk,os⟩)
  (hl:xs.length<=sizeLine) :
  wpAny (model prog w) A (call (.ref C) xs) Q E ⟨h,gs,dr,tk,os⟩:=by
 obtain⟨nm,q,bs,hd,sn,sb,ab,cl,dd,k0,k1,k2,k3,k5,hC⟩:=x
 have f1:=tc_lookup
 have f2:=tc_bind (.ref C)
 have hT:(⟨h,gs,dr,tk,os⟩:Shared).TypeIs (.ref C) "type":=⟨_,hC,rfl⟩
 refine wpAny_call (codeAny_of_tree ?_)
 show wpAny _ _ (callAny (.ref C) _) _ _ _
 repeat (any_goals (first
  |assumption
  |with_reducible refine wpAny_loadPart_at hC ?_
  |wp_step))
 refine⟨rfl,?_⟩
 refine codeAny_call_builtin_at (Code.quiet_builtin _ (by decide +kernel)) entry_typeCall
  (wpAny_check_type_call_sub hC (JO F T ⟨nm,q,bs,hd,sn,sb,ab,cl,dd,k0,k1,k2,k3,k5,hC⟩
   ns hi (fun h' e hm hz=>?_) hl))
 exact hq h' e hm hz
theorem VZ {e D:Addr}{oe:Obj}{b:Bool}{Q:Bool->Shared->Prop}{ND:Addr}{bD:List Value}{M:Model}
    (x:Xn h C N bm nid) (y:Xn h D ND bD nid) (he:h.get? e=some oe) (hcl:oe.cls=.ref C)
    (hbD:bD.contains (.type "BaseException")=true) (hb:(Value.ref C::bm).contains (.ref D)=b)
    (hq:Q b ⟨h,gs,dr,tk,os⟩) :
    wpAny M A (excMatches (.ref e) (.ref D)) Q E ⟨h,gs,dr,tk,os⟩:=by
  obtain⟨nm,q,bs,hd,sn,sb,ab,cl,dd,k0,k1,k2,k3,k5,hC⟩:=x
  obtain⟨nm1,q1,bs1,hd1,sn1,sb1,ab1,cl1,dd1,j0,j1,j2,j3,j5,hD⟩:=y
  have hDB:(Value.ref D::bD).contains (.type "BaseException")=true:=by
    rw[List.contains_cons,hbD,Bool.or_true]
  have f:=tc_notTuple
  unfold excMatches
  repeat (first
    | (with_reducible refine wpAny_loadPart_at he ?_
       rw[hcl])
    |with_reducible refine wpAny_loadPart_at hD ?_
    | (with_reducible refine wpAny_isSubtype_exc hD ?_
       rw[hDB])
    | (with_reducible refine wpAny_isSubtype_exc hC ?_
       rw[hb])
    |wp_step)
  cases b <;> (first|exact hq|(wp_walk;exact hq))
end
end PyX
namespace PyX
open PySem
open PySem.Builtin PySem.Builtin.ObjectAttr
abbrev VE:List Value:=[.type "ValueError",.type "Exception",.type "BaseException",.type "object"]
abbrev Wu:String:="ValueError.__new__"
def Ui (h:Heap)(C N:Addr)(bm:List Value)(nid:String):Prop:=
 ∃nm q bs sn sb ab cl dd k0 k1 k2 k3 k5,
  h.get? C=some (excClassObj nm q C N bs bm true sn sb ab cl dd k0 k1 k2 k3 k5 nid)
theorem Ui.ex {h:Heap}{C N:Addr}{bm:List Value}{nid:String}(x:Ui h C N bm nid):Xn h C N bm nid:=by
 obtain⟨nm,q,bs,sn,sb,ab,cl,dd,k0,k1,k2,k3,k5,e⟩:=x
 exact⟨nm,q,bs,true,sn,sb,ab,cl,dd,k0,k1,k2,k3,k5,e⟩
theorem Ui.keeps {h h':Heap}{C N:Addr}{bm:List Value}{nid:String}(x:Ui h C N bm nid)
  (k:∀b o,h.get? b=some o->h'.get? b=some o):Ui h' C N bm nid:=by
 obtain⟨nm,q,bs,sn,sb,ab,cl,dd,k0,k1,k2,k3,k5,e⟩:=x
 exact⟨nm,q,bs,sn,sb,ab,cl,dd,k0,k1,k2,k3,k5,k _ _ e⟩
structure Xx (h:Heap)(C N T U:Addr)(nid:String)(mN mT:Str->Option Value):Prop where
 c:Ui h C N (.ref T::VE) nid
 t:Ui h T U VE nid
 nsC:h.Ns N mN
 nsT:h.Ns U mT
 ini:mT "__init__"=none
section
variable {h h':Heap}{C N T U:Addr}{nid:String}{mN mT:Str->Option Value}
theorem Xx.keeps (x:Xx h C N T U nid mN mT)(k:∀b o,h.get? b=some o->h'.get? b=some o):Xx h' C N T U nid mN mT:=
 ⟨x.c.keeps k,x.t.keeps k,x.nsC.keeps k,x.nsT.keeps k,x.ini⟩
theorem Xx.tail (x:Xx h C N T U nid mN mT):OwnTail h VE (.ref T::VE):=by
 obtain⟨nm,q,bs,sn,sb,ab,cl,dd,k0,k1,k2,k3,k5,e⟩:=x.t
 exact .own e x.nsT x.ini .base
variable {M:Model}{A:Around}{E:Value->Shared->Prop}{gs:Array GenState}{dr:Drawn}{tk:Nat}{os:OsState}
theorem Xx.look (x:Xx h C N T U nid mN mT){name:Str}{y:Option Value}{Q:Option Value->Shared->Prop}
  (hB:typeLookup (.type "ValueError") name=pure y)
  (hq:Q (match mN name with|some v=>some v|none=>(match mT name with|some v=>some v|none=>y)) ⟨h,gs,dr,tk,os⟩) :
  wpAny M A (typeLookup (.ref C) name) Q E ⟨h,gs,dr,tk,os⟩:=by
 obtain⟨nm,q,bs,sn,sb,ab,cl,dd,k0,k1,k2,k3,k5,eC⟩:=x.c
 obtain⟨nm',q',bs',sn',sb',ab',cl',dd',j0,j1,j2,j3,j5,eT⟩:=x.t
 have r:lookupAlong VE name=pure y:=by
  rw[typeLookup_eq,F.excBase_ValueError.mroIs] at hB
  exact hB
 rw[typeLookup_eq]
 refine Zl (wpAny_mroOf_exc eC ?_)
 rw[lookupAlong_cons]
 refine Zl (wpAny_classOwn_exc eC x.nsC ?_)
 cases hv:mN name with
 |some v=>
  rw[hv] at hq
  exact Zm hq
 |none=>
  rw[hv] at hq
  simp only[]
  rw[lookupAlong_cons]
  refine Zl (wpAny_classOwn_exc eT x.nsT ?_)
  cases hv':mT name with
  |some v=>
   rw[hv'] at hq
   exact Zm hq
  |none=>
   rw[hv'] at hq
   simp only[]
   rw[r]
   exact Zm hq
theorem Xx.lookB (x:Xx h C N T U nid mN mT){name:Str}{y:Option Value}{Q:Option Value->Shared->Prop}
  (hB:typeLookup (.type "ValueError") name=pure y) (h1:mN name=none) (h2:mT name=none)
  (hq:Q y ⟨h,gs,dr,tk,os⟩):wpAny M A (typeLookup (.ref C) name) Q E ⟨h,gs,dr,tk,os⟩:=
 x.look hB (by
  rw[h1]
  simp only[]
  rw[h2]
  exact hq)
end
section
variable {prog:Program}{w:World}{h:Heap}{C N T U x:Addr}{nid:String}{mN mT mA:Str->Option Value}
variable {A:Around}{E:Value->Shared->Prop}{gs:Array GenState}{dr:Drawn}{tk:Nat}{os:OsState}
variable {name:Str}{v:Value}
abbrev SF:=F.store_ValueError
theorem Zd8 {M:Model}{o:Obj}{nv:Value}{Q:Unit->Shared->Prop}(c:Xx h C N T U nid mN mT)
    (hx:h.get? x=some o) (hc:o.cls=.ref C) (hq:Q () ⟨h,gs,dr,tk,os⟩) :
    wpAny M A (checkBuiltinCall "BaseException.__getattribute__" ⟨[.ref x,nv],[]⟩) Q E ⟨h,gs,dr,tk,os⟩:=by
  obtain⟨nm,q,bs,sn,sb,ab,cl,dd,k0,k1,k2,k3,k5,hC⟩:=c.c
  have hk:builtinKind "BaseException.__getattribute__"=some .slot:=by
    decide +kernel
  have hs:splitId "BaseException.__getattribute__"=some ("BaseException", "__getattribute__"):=by
    decide +kernel
  have hO:(Value.ref C::Value.ref T::VE).contains (.type "BaseException")=true:=by
    rw[List.contains_cons,List.contains_cons,F.excBase_ValueError.hasBase,Bool.or_true,Bool.or_true]
  have ha:=F.args_bexc_ga (.ref x) nv
  simp only[checkBuiltinCall,hk,hs]
  refine Zl ?_
  unfold isInstance
  repeat (first
    | (with_reducible refine wpAny_loadPart_at hx ?_
       rw[hc])
    | (with_reducible refine wpAny_isSubtype_exc hC ?_
       rw[hO])
    |wp_step)
  exact hq
end
end PyX
namespace PyX
open PySem
abbrev Ul (l:List Env):List Addr:=l.filterMap (·.frame)
def Ex (h:Heap)(e C:Addr)(d:Option Addr)(T:Addr)(fl:Value):Prop:=
 ∃vs oT ts,h.get? e=some {cls:=.ref C,dict:=d,data:=.fields vs}/\vs[1]?=some (.ref T)/\
  T≠e/\h.get? T=some oT/\oT.data=.fields ts/\ts[3]?=some fl
def Ex0 (h:Heap)(e C:Addr)(d:Option Addr):Prop:=
 ∃vs,h.get? e=some {cls:=.ref C,dict:=d,data:=.fields vs}/\vs[1]?=some .none
def But (l:List Env)(xs:List Addr)(h h':Heap):Prop:=
 (∀b o,h.get? b=some o->b∉Ul l->b∉xs->h'.get? b=some o)/\
 (∀b o,h.get? b=some o->b∉xs->∃sl,h'.get? b=some {o with slots:=sl})
section
variable {M:Model}{A:Around}{E:Value->Shared->Prop}{s:Shared}
variable {base:Heap}{env:Env}{outer:List Env}{L e C T:Addr}{d:Option Addr}{fl:Value}{vs:Array Value}
theorem newEntry {head:Value}{nx:Bool}{Q:Unit->Shared->Prop}
  (fr:A.frames=some (env::outer)) (hl:s.heap.FunFrames base (env::outer)) (hf:env.frame=some L)
  (he:s.heap.get? e=some {cls:=.ref C,dict:=d,data:=.fields vs}) (sz:1<vs.size)
  (hq:∀h' T,s.heap.objs.size<=T->Ex h' e C d T (rawInt L)->But (env::outer) [e] s.heap h'->Q () {s with heap:=h'}) :
  wpAny M A (do let a <-frameOf env;let pl <-entryPlaceOf L nx;let b <-EntryCells.newEntry head a .none (rawInt L) .none pl;setField (.ref e) 1 b)
   Q E s:=by
 have hne:e∉(env::outer).filterMap (·.frame):=fun hm=>by
  obtain⟨_,o,ho,hnf⟩:=hl.mem hm
  rw[he] at ho
  injection ho with ho
  subst ho
  exact hnf vs rfl
 refine Zl (wpAny_frameOf_fun fr hl hf fun h1 k1=>?_)
 refine Zl (wpAny_entryPlaceOf fun pl hpl=>?_)
 unfold EntryCells.newEntry newFields
 refine Zl (wpAny_newObj_type ?_ (hpl.sizeOk5 _ _ _ _ _))
 have e1:h1.get? e=some {cls:=.ref C,dict:=d,data:=.fields vs}:=(k1.2.1 e hne).trans he
 generalize hO:({cls:=.type "traceback",dict:=none,data:=.fields ([head,.ref L,.none,rawInt L,.none]++(if pl.isEmpty then List.replicate 6 Value.none else pl)).toArray}:Obj)=oT
 have e2:=Zn (h:=h1) oT e1
 have hfr:oT.isFreed=false:=by
  rw[<-hO]
  rfl
 refine wpAny_setField e2 rfl sz (hq _ h1.objs.size ?_ ?_ ?_)
 ·rw[k1.1]
  exact Zq _
 ·have hTe:h1.objs.size≠e:=Nat.ne_of_gt (Zp e1)
  have e3:=Heap.get?_update_self (Obj.mapFields (·.setIfInBounds 1 (Value.ref h1.objs.size))) e2 rfl
  have t3:=(Heap.get?_update_other (h1.push oT) (Obj.mapFields (·.setIfInBounds 1 (Value.ref h1.objs.size))) (Ne.symm hTe)).trans (Zo h1 hfr)
  refine⟨vs.setIfInBounds 1 (.ref h1.objs.size),oT,_,e3,by simp[sz],hTe,t3,(by rw[<-hO]),?_⟩
  simp
 ·refine⟨fun b o q n m=>?_,fun b o q m=>?_⟩
  ·have hbe:b≠e:=fun z=>m (by simp[z])
   rw[Heap.get?_update_other _ _ (Ne.symm hbe)]
   exact Zn _ ((k1.2.1 b n).trans q)
  ·have hbe:b≠e:=fun z=>m (by simp[z])
   obtain⟨sl,q'⟩:=k1.2.2 b o q
   refine⟨sl,?_⟩
   rw[Heap.get?_update_other _ _ (Ne.symm hbe)]
   exact Zn _ q'
theorem UO {Q:Unit->Shared->Prop}
  (fr:A.frames=some (env::outer)) (hl:s.heap.FunFrames base (env::outer)) (hf:env.frame=some L) (x:Ex0 s.heap e C d)
  (hq:∀h' T,s.heap.objs.size<=T->Ex h' e C d T (rawInt L)->But (env::outer) [e] s.heap h'->Q () {s with heap:=h'}) :
  wpAny M A (noteFrame (.ref e) env) Q E s:=by
 obtain⟨vs,he,h1⟩:=x
 unfold noteFrame
 simp only[hf]
 refine Zl (wpAny_field he rfl h1 ?_)
 rw[if_neg (by decide)]
 exact newEntry fr hl hf he (Array.getElem?_eq_some_iff.mp h1).1 hq
theorem Zbb {Q:Unit->Shared->Prop}
  (fr:A.frames=some (env::outer)) (hl:s.heap.FunFrames base (env::outer)) (hf:env.frame=some L) (x:Ex s.heap e C d T .none)
  (hq:∀h' T',s.heap.objs.size<=T'->Ex h' e C d T' (rawInt L)->But (env::outer) [e,T] s.heap h'->Q () {s with heap:=h'}) :
  wpAny M A (noteFrame (.ref e) env) Q E s:=by
 obtain⟨vs,oT,ts,he,h1,hTe,hT,hdT,h3⟩:=x
 unfold noteFrame
 simp only[hf]
 refine Zl (wpAny_field he rfl h1 ?_)
 rw[if_pos (show (Value.ref T != Value.none)=true from by simp)]
 refine Zl (wpAny_field hT hdT h3 ?_)
 rw[if_neg (show ¬((Value.none == rawInt L)=true) from by simp[rawInt])]
 refine Zl (wpAny_setField hT hdT (Array.getElem?_eq_some_iff.mp h3).1 ?_)
 have other:∀b,b≠T->(s.heap.update T (Obj.mapFields (·.setIfInBounds 3 Value.none))).get? b=s.heap.get? b:=
  fun b hb=>Heap.get?_update_other _ _ (Ne.symm hb)
 have noR:∀b o,s.heap.get? b=some o->(∀ws,o.data≠.fields ws)->b≠T:=fun b o hb hnf z=>by
  rw[z,hT] at hb
  injection hb with hb
  subst hb
  exact hnf ts hdT
 refine newEntry fr (hl.of_keeps fun b o hb hnf=>⟨o,(other b (noR b o hb hnf)).trans hb,rfl⟩) hf
  ((other e (Ne.symm hTe)).trans he) (Array.getElem?_eq_some_iff.mp h1).1 fun h' T' n x k=>hq h' T' ?_ x ?_
 ·have n':(s.heap.update T (Obj.mapFields (·.setIfInBounds 3 Value.none))).objs.size<=T':=n
  rw[Heap.size_after_update] at n'
  exact n'
 ·refine⟨fun b o q nf m=>?_,fun b o q m=>?_⟩
  ·have b1:b≠T:=fun z=>m (by simp[z])
   exact k.1 b o ((other b b1).trans q) nf fun z=>m (by simp at z;simp[z])
  ·have b1:b≠T:=fun z=>m (by simp[z])
   exact k.2 b o ((other b b1).trans q) fun z=>m (by simp at z;simp[z])
theorem Wz {Q:Unit->Shared->Prop}(x:Ex s.heap e C d T fl)
  (hq:∀h',Ex h' e C d T .none->But [] [T] s.heap h'->Q () {s with heap:=h'}) :
  wpAny M A (setFlight (.ref e) none) Q E s:=by
 obtain⟨vs,oT,ts,he,h1,hTe,hT,hdT,h3⟩:=x
 have sz:3<ts.size:=(Array.getElem?_eq_some_iff.mp h3).1
 refine wpAny_setFlight_none he rfl h1 hT hdT sz (hq _ ?_ ?_)
 ·exact⟨vs,_,_,(Heap.get?_update_other _ _ hTe).trans he,h1,hTe,
   Heap.get?_update_self _ hT (Obj.isFreed_of_fields (Obj.data_mapFields hdT _)),Obj.data_mapFields hdT _,by simp[sz]⟩
 ·refine⟨fun b o q _ m=>?_,fun b o q m=>⟨o.slots,?_⟩⟩
  ·rw[Heap.get?_update_other _ _ (fun z=>m (by simp[z]))]
   exact q
  ·rw[Heap.get?_update_other _ _ (fun z=>m (by simp[z]))]
   exact q
theorem But.nil {l:List Env}{xs:List Addr}{h h':Heap}(a:But [] xs h h'):But l xs h h':=
 ⟨fun b o q _ m=>a.1 b o q (by simp) m,a.2⟩
theorem V1 {Q:Unit->Shared->Prop}
  (fr:A.frames=some (env::outer)) (hl:s.heap.FunFrames base (env::outer)) (hf:env.frame=some L) (x:Ex0 s.heap e C d)
  (hq:∀h' T,s.heap.objs.size<=T->Ex h' e C d T .none->But (env::outer) [e] s.heap h'->Q () {s with heap:=h'}) :
  wpAny M A (leaving env (.ref e)) Q E s:=by
 unfold leaving
 refine Zl (UO fr hl hf x fun h1 T n x1 k1=>?_)
 refine Wz x1 fun h2 x2 k2=>?_
 refine hq h2 T n x2 ⟨fun b o q nf m=>?_,fun b o q m=>?_⟩
 ·have hb:b≠T:=Nat.ne_of_lt (Nat.lt_of_lt_of_le (Zp q) n)
  exact k2.1 b o (k1.1 b o q nf m) (by simp) (by simp[hb])
 ·have hb:b≠T:=Nat.ne_of_lt (Nat.lt_of_lt_of_le (Zp q) n)
  obtain⟨sl,q1⟩:=k1.2 b o q m
  exact⟨sl,k2.1 b _ q1 (by simp) (by simp[hb])⟩
end
end PyX
namespace L2
open PySem PySem.Spec PyProof.Rows
def CXE (P:Program)(w:World):JT:=fun outer H s E e s'=>
 ∃a C d T H',e=.ref a/\s'.os=s.os/\AllBare s'.gens/\Un (Ul outer) [] H H' s.heap s'.heap/\Wr P w H' s'.heap/\
  PyX.Ex s'.heap a C d T .none/\s.heap.objs.size<=a/\s.heap.objs.size<=T/\H' a=none/\H' T=none/\E (.ref C) d H'
section
variable {X:Cx}{pins:List (Addr×Obj)}{σ:St}{H:Hp}{s:Shared}
def Wo (X:Cx)(pins:List (Addr×Obj))(H:Hp)(b:Addr):Prop:=
 X.s₀.heap.objs.size<=b/\H b=none/\b≠X.env.locals/\(∀x c,X.env.cells.lookup x=some c->c≠b)/\∀p∈X.pn++pins,p.1≠b
theorem Inv.loose (I:Inv X pins σ H s){b:Addr}(h:s.heap.objs.size<=b)(n:H b=none):Wo X pins H b:=by
 refine⟨Nat.le_trans I.sz h,n,?_,fun x c e z=>?_,fun p hp z=>?_⟩
 ·exact Nat.ne_of_gt (Nat.lt_of_lt_of_le I.lt h)
 ·obtain⟨v,o,ho,hd⟩:=I.cell x c e
  exact absurd (Nat.lt_of_lt_of_le (Zp ho) h) (by rw[z];exact Nat.lt_irrefl _)
 ·exact absurd (Nat.lt_of_lt_of_le (Zp (I.pin p hp).1) h) (by rw[z];exact Nat.lt_irrefl _)
theorem Inv.but {xs:List Addr}{h':Heap}{t':Nat}(I:Inv X pins σ H s)(k:PyX.But X.stack xs s.heap h')(hx:∀b∈xs,Wo X pins H b) :
  Inv X pins σ H {s with heap:=h',toks:=t'}:=by
 refine I.call (ch:=xs) (g':=s.gens) (d':=s.drawn) ⟨fun b o e _ nf nx=>k.1 b o e nf nx,fun b o e _ _ nx=>k.2 b o e nx,fun _ _ _ n _=>n,fun b o e nx=>?_,fun _ _ q=>q,fun _ _ _ q=>q,
  fun _ ps q=>⟨#[],by rw[q];simp⟩⟩ (fun a o e=>?_) I.bare fun b hb=>?_
 ·obtain⟨sl,q⟩:=k.2 b o e nx
  exact⟨_,q⟩
 ·have keep:∀b u,(∃o,H b=some o)->s.heap.get? b=some u->h'.get? b=some u:=fun b u ⟨o',n⟩ q=>by
   refine k.1 b u q (fun hf=>?_) fun hb=>?_
   ·rw[I.stkFree b hf] at n
    cases n
   ·rw[(hx b hb).2.1] at n
    cases n
  refine (I.hok a o e).stay (fun b u hb q=>keep b u ?_ q) (fun c r=>r) fun c ys r=>r
  rcases hb with rfl|hb
  ·exact⟨o,e⟩
  ·exact⟨_,hb⟩
 ·obtain⟨h1,h2,h3,h4,h5⟩:=hx b hb
  exact⟨.inr h1,h3,h4,h5⟩
theorem Inv.afterX {E:XK}{e:Value}{s':Shared}(I:Inv X pins σ H s)(h:CXE X.prog X.w X.stack H s E e s') :
  ∃a C d T H',e=.ref a/\Inv X pins σ H' s'/\PyX.Ex s'.heap a C d T .none/\Wo X pins H' a/\Wo X pins H' T/\E (.ref C) d H':=by
 obtain⟨a,C,d,T,H',rfl,ho,hg,u,hok,x,ha,hT,na,nT,q⟩:=h
 have J:Inv X pins σ H' s':=I.call' ho u hok hg fun b hb=>absurd hb (by simp)
 have lo:∀b,s.heap.objs.size<=b->H' b=none->Wo X pins H' b:=fun b hb n=>by
  obtain⟨h1,_,h3,h4,h5⟩:=I.loose hb (I.hok.fresh hb)
  exact⟨h1,n,h3,h4,h5⟩
 exact⟨a,C,d,T,H',rfl,J,x,lo a ha na,lo T hT nT,q⟩
end
def Zdg (X:Cx)(E:XK):Prop:=∀(pins:List (Addr×Obj)) (σ:St) (H:Hp) (s:Shared) (a C:Addr) (d:Option Addr),
 Inv X pins σ H s->PyX.Ex0 s.heap a C d->Wo X pins H a->E (.ref C) d H->X.xe (.ref a) s
section
variable {P:Program}{w:World}{K:PySem.W.Frag}{mg:Str->Option Value}{base:Heap}{N:List Str}{qual:Str}{scope:Scope}{f:Addr}{cd:Value}
variable {A:Around}{outer:List Env}{s:Shared}{H:Hp}{E:XK}
theorem Zf5 {X:Cx}{pins:List (Addr×Obj)}{σ:St}{H':Hp}{s':Shared}(I:Inv X pins σ H' s')(hx:X.ex=[]):Un X.fs [] X.H₀ H' X.s₀.heap s'.heap:=by
 have:=I.base
 rw[hx] at this
 exact this
theorem J1:Zdg (Xu (CXE P w) P w K mg base N qual scope f cd A outer s H E) E:=by
 intro pins σ H1 s1 a C d I x lo q
 show wpAny _ _ _ _ _ _
 refine PyX.V1 (base:=base) I.ok.frames I.stack rfl x fun h' T nT x' k=>?_
 have lT:Wo (Xu (CXE P w) P w K mg base N qual scope f cd A outer s H E) pins H1 T:=I.loose nT (I.hok.fresh nT)
 have J:=I.but (t':=s1.toks) k fun b hb=>by
  obtain rfl:b=a:=by simpa using hb
  exact lo
 exact⟨a,C,d,T,H1,rfl,J.os,J.bare,Zf5 J rfl,J.hok,x',lo.1,lT.1,lo.2.1,lT.2.1,q⟩
end
def exO (a C:Addr)(d:Option Addr):HO:=.ext fun h=>∃vs,h.get? a=some {cls:=.ref C,dict:=d,data:=.fields vs}
def Cx.suite (X:Cx)(a:Addr)(pins:List (Addr×Obj)):Cx:=
 {X with A:=X.A.mark (some (.ref a)),calm:=false,xe:=fun _ _=>False,pn:=X.pn++pins}
def Cx.tryc (X:Cx)(D:Ws)(pins:List (Addr×Obj))(hs:List ExceptHandler):Cx:=
 { X with
  pn:=X.pn++pins
  xe:=fun e s1=>wpAny (model X.prog X.w) X.A (noteFrame e X.env) (fun _ s2=>wpAny (model X.prog X.w) X.A (setFlight e none)
   (fun _ s3=>wpAny (model X.prog X.w) X.A (handleBy e X.env hs) (SP X pins D) X.xe s3) X.xe s2) X.xe s1}
section
variable {X:Cx}{pins:List (Addr×Obj)}{σ:St}{H:Hp}{s:Shared}{D:Ws}{hs:List ExceptHandler}{a:Addr}
theorem Inv.toTry (I:Inv X pins σ H s):Inv (X.tryc D pins hs) [] σ H s:=
 ⟨⟨I.ok.mod,I.ok.kind,I.ok.glob,I.ok.blt,I.ok.above,I.ok.inj,I.ok.has,I.ok.cab,I.ok.hd,I.ok.frames,I.ok.stk,I.ok.exf,I.ok.bs,I.ok.bsz,I.ok.noex,I.ok.exfs,I.ok.funs,I.ok.frf⟩,
  I.os,I.bare,I.base,I.loc,I.cell,I.free,I.freeC,fun p hp=>I.pin p (by
   rw[List.append_nil] at hp
   exact hp),I.hok,I.len⟩
theorem Inv.ofTry {ps:List (Addr×Obj)}(I:Inv (X.tryc D pins hs) ps σ H s):Inv X pins σ H s:=
 ⟨⟨I.ok.mod,I.ok.kind,I.ok.glob,I.ok.blt,I.ok.above,I.ok.inj,I.ok.has,I.ok.cab,I.ok.hd,I.ok.frames,I.ok.stk,I.ok.exf,I.ok.bs,I.ok.bsz,I.ok.noex,I.ok.exfs,I.ok.funs,I.ok.frf⟩,
  I.os,I.bare,I.base,I.loc,I.cell,I.free,I.freeC,fun p hp=>I.pin p (List.mem_append_left _ hp),I.hok,I.len⟩
theorem Inv.toSuite (I:Inv X pins σ H s):Inv (X.suite a pins) [] σ H s:=
 ⟨⟨I.ok.mod,I.ok.kind,I.ok.glob,I.ok.blt,I.ok.above,I.ok.inj,I.ok.has,I.ok.cab,fun z=>(by cases z),I.ok.frames,I.ok.stk,I.ok.exf,I.ok.bs,I.ok.bsz,I.ok.noex,I.ok.exfs,I.ok.funs,I.ok.frf⟩,
  I.os,I.bare,I.base,I.loc,I.cell,I.free,I.freeC,fun p hp=>I.pin p (by
   rw[List.append_nil] at hp
   exact hp),I.hok,I.len⟩
theorem Inv.ofSuite (hc:X.calm=true->X.A.handled=none){ps:List (Addr×Obj)}(I:Inv (X.suite a pins) ps σ H s):Inv X pins σ H s:=
 ⟨⟨I.ok.mod,I.ok.kind,I.ok.glob,I.ok.blt,I.ok.above,I.ok.inj,I.ok.has,I.ok.cab,hc,I.ok.frames,I.ok.stk,I.ok.exf,I.ok.bs,I.ok.bsz,I.ok.noex,I.ok.exfs,I.ok.funs,I.ok.frf⟩,
  I.os,I.bare,I.base,I.loc,I.cell,I.free,I.freeC,fun p hp=>I.pin p (List.mem_append_left _ hp),I.hok,I.len⟩
theorem Ze5 {body:List Stmt}{h0:ExceptHandler}{pos:Pos}{tb:Ws->TS}
  (hb:∀D pins,Xz (X.tryc D pins (h0::hs)) body (tb D)):PS X (.Try body (h0::hs) [] [] pos) (fun D σ H=>tb D D σ H):=by
 intro pins s σ H D I h
 refine wpAny_Try_except (Z8 (hb D pins [] s σ H D I.toTry h) fun f s1 h1=>?_)
 cases f with
 |next=>
  obtain⟨σ',H',J,q⟩:=h1
  exact wpAny_execs_nil ⟨σ',H',J.ofTry,q⟩
 |brk=>
  obtain⟨σ',H',J,q⟩:=h1
  exact⟨σ',H',J.ofTry,q⟩
 |cont=>
  obtain⟨σ',H',J,q⟩:=h1
  exact⟨σ',H',J.ofTry,q⟩
 |ret u=>
  obtain⟨v,σ',H',J,r,q⟩:=h1
  exact⟨v,σ',H',J.ofTry,r,q⟩
theorem Inv.track {C:Addr}{d:Option Addr}{vs:Array Value}(I:Inv X pins σ H s)(he:s.heap.get? a=some {cls:=.ref C,dict:=d,data:=.fields vs})(lo:Wo X pins H a) :
  Inv X pins σ (upd H a (exO a C d)) s:=by
 have ext:ZT X.prog X.w (upd H a (exO a C d)) s.heap a (exO a C d):=
  ⟨⟨vs,he⟩,⟨_,he⟩,fun h1 h2 ⟨vs',e⟩ k=>⟨vs',k _ e⟩⟩
 obtain⟨h,g,dr,t,os⟩:=s
 refine I.call (ch:=[a]) (h':=h) (g':=g) (d':=dr) (t':=t) ⟨fun b o e _ _ _=>e,fun b o e _ _ _=>⟨o.slots,e⟩,fun b o e n nx=>?_,fun b o e _=>⟨o,e⟩,fun b ys q=>?_,fun b o u q=>?_,fun b ps q=>⟨#[],?_⟩⟩
  (fun b o e=>?_) I.bare fun b hb=>?_
 ·rw[Zy (fun z=>nx (by simp[z]))]
  exact n
 ·rw[Zy (ZA q lo.2.1)]
  exact q
 ·rw[Zy (ZA q lo.2.1)]
  exact q
 ·rw[Zy (ZA q lo.2.1),q]
  simp
 ·by_cases hb:b=a
  ·subst hb
   rw[Zt] at e
   cases e
   exact ext
  ·rw[Zy hb] at e
   exact (I.hok b o e).stay (fun _ _ _ q=>q) (fun c r=>by rw[Zy (ZA r lo.2.1)];exact r) fun c ys r=>by rw[Zy (ZA r lo.2.1)];exact r
 ·obtain rfl:b=a:=by simpa using hb
  exact⟨.inr lo.1,lo.2.2.1,lo.2.2.2.1,lo.2.2.2.2⟩
end
section
variable {X:Cx}{pins:List (Addr×Obj)}{σ:St}{H:Hp}{s:Shared}{D:Ws}{a:Addr}
theorem JZ {M:Model}{A:Around}{E:Value->Shared->Prop}{i:Nat}{n:Str}{pos:Pos}{Q:Unit->Shared->Prop}(I:Inv X pins σ H s)(hN:X.N.Nodup)(hi:X.N[i]?=some n)
  (hk:X.env.kindOf n=some .local) (h:∀s',Inv X pins (σ.set i none) H s'->Q () s'):wpAny M A (do bindName X.env n .none;unbindBehindTheSuite X.env n pos) Q E s:=by
 obtain⟨m,hn,hl⟩:=id I.loc
 have hcls:(X.env.scope.kind == .class || (X.env.scope.kind == .module && X.env.locals != X.env.globals))=false:=by
  rw[I.ok.kind]
  rfl
 have hiσ:i < σ.length:=by
  rw[I.len]
  exact (List.getElem?_eq_some_iff.mp hi).1
 have cne:=I.cne
 refine wpAny_nameGoes_keeps hk hn hcls fun h' v hn' hs=>?_
 obtain⟨oL,_,_,hoL,_⟩:=id hn
 have up:∀{b:Addr}{o:Obj},X.s₀.heap.get? b=some o->b≠X.env.locals:=fun {b o} e=>Nat.ne_of_lt (Nat.lt_of_lt_of_le (Zp e) I.ok.above)
 refine h _ ⟨I.ok,I.os,I.bare,⟨fun b o e n hb hx=>?_,fun b o e n hb hx=>?_,I.base.free,fun b o e hx=>?_,I.base.tups,I.base.frzs,I.base.tbls⟩,⟨_,hn',fun j y v' e1 e2 e3=>?_⟩,fun y c e=>?_,I.free,I.freeC,fun p hp=>?_,fun b ob e=>?_,?_⟩
 ·exact (hs.2 b (up e)).trans (I.base.keep b o e n hb hx)
 ·obtain⟨sl,e1⟩:=I.base.slot b o e n hb hx
  exact⟨sl,(hs.2 b (up e)).trans e1⟩
 ·obtain⟨o',e1⟩:=I.base.there b o e hx
  exact⟨o',(hs.2 b (up e)).trans e1⟩
 ·by_cases hj:j=i
  ·subst hj
   rw[List.getElem?_set_self hiσ] at e2
   cases e2
  ·rw[List.getElem?_set_ne (Ne.symm hj)] at e2
   obtain⟨u',r',q⟩:=hl j y v' e1 e2 e3
   refine⟨u',r',?_⟩
   rcases q with ⟨k,e⟩|⟨k,c,e,z⟩
   ·refine .inl ⟨k,?_⟩
    have:y≠n:=fun e=>hj (Xd hN e1 (e▸hi))
    simp[this,e]
   ·exact .inr ⟨k,c,e,z.sameBut hs (cne y c e)⟩
 ·obtain⟨w',z⟩:=I.cell y c e
  exact⟨w',z.sameBut hs (cne y c e)⟩
 ·obtain⟨e,n,ne,nf,d⟩:=I.pin p hp
  exact⟨(hs.2 p.1 ne).trans e,n,ne,nf,d⟩
 ·refine (I.hok b ob e).stay (fun c w' hc q=>(hs.2 c ?_).trans q) (fun _ q=>q) fun _ _ q=>q
  rintro rfl
  rcases hc with rfl|hc
  ·rw[I.free] at e
   cases e
  ·rw[I.free] at hc
   cases hc
 ·simpa using I.len
def ZfI (D:Ws)(i:Nat):Ws:={nx:=fun σ H=>D.nx (σ.set i none) H,rt:=D.rt,bk:=fun σ H=>D.bk (σ.set i none) H,ct:=fun σ H=>D.ct (σ.set i none) H}
def noSt (X:Cx):St:=List.replicate X.N.length none
theorem Inv.noSt (I:Inv X pins σ H s):Inv X pins (noSt X) H s:=
 I.weak (by simp[L2.noSt,I.len]) fun i v e=>by
  unfold L2.noSt at e
  rw[List.getElem?_replicate] at e
  split at e <;> cases e
def Ut (X:Cx)(Dc:Addr)(i:Nat)(ts:TS)(D:Ws):XK:=fun cls d H=>∃C N bm nid ND bD,cls=.ref C/\PyX.Xn X.base C N bm nid/\PyX.Xn X.base Dc ND bD nid/\
 bD.contains (.type "BaseException")=true/\(Value.ref C::bm).contains (.ref Dc)=true/\
 ∀a,H a=none->ts (ZfI D i) ((noSt X).set i (some (.ref a))) (upd H a (exO a C d))
theorem Jy {C T L:Addr}{d:Option Addr}{Dc:Addr}{i:Nat}{n x:Str}{np hp:Pos}{b0:Stmt}{suite:List Stmt}{ts:TS}
  (I:Inv X pins σ H s) (e:PyX.Ex s.heap a C d T (rawInt L)) (la:Wo X pins H a) (lT:Wo X pins H T)
  (hN:X.N.Nodup) (hi:X.N[i]?=some n) (hk:X.env.kindOf n=some .local) (hg:Gl X x) (hm:X.mg x=some (.ref Dc)) (hdb:(x == ("__debug__":Str))=false)
  (hs:Xz (X.suite a pins) (b0::suite) ts) (q:Ut X Dc i ts D (.ref C) d H) :
  wpAny (model X.prog X.w) X.A (setFlight (.ref a) none)
   (fun _ s3=>wpAny (model X.prog X.w) X.A (handleBy (.ref a) X.env [.ExceptHandler (some (.Name x np)) (some n) (b0::suite) hp]) (SP X pins D) X.xe s3) X.xe s:=by
 obtain⟨C',N,bm,nid,ND,bD,hC,ic,id',hb,hit,q⟩:=q
 cases hC
 refine PyX.Wz e fun h1 e1 k1=>?_
 have I1:Inv X pins σ H {s with heap:=h1}:=I.but (t':=s.toks) k1.nil fun b hb=>by
  obtain rfl:b=T:=by simpa using hb
  exact lT
 refine wpAny_handleBy_cons (codeAny_handlers_test (WL (X:=X.suite a pins) I1.toSuite hg hm ?_ hdb)) (by intro z;cases z)
 obtain⟨vs,oT,tl,ea,_⟩:=id e1
 refine PyX.VZ (ic.keeps I1.bk) (id'.keeps I1.bk) ea rfl hb hit ?_
 simp only[if_true]
 refine codeAny_handlers_suite_as (PyX.Wz e1 fun h2 e2 k2=>?_)
 have I2:Inv X pins σ H {s with heap:=h2}:=I1.but (t':=s.toks) k2.nil fun b hb=>by
  obtain rfl:b=T:=by simpa using hb
  exact lT
 obtain⟨vs2,oT2,tl2,ea2,_⟩:=id e2
 have I3:=(I2.noSt.track ea2 la).toSuite (a:=a)
 refine YW (X:=X.suite a pins) (v:=.ref a) I3 hN hi (.inl hk) rfl (fun s4 I4=>?_) (.inr hk)
 refine wpAny_mono (hs [] s4 _ _ (ZfI D i) I4 (q a la.2.1)) (fun f s5 h5=>?_) fun _ _ z=>False.elim z
 have back:∀{σ':St}{H':Hp},Inv (X.suite a pins) [] σ' H' s5->Inv X pins σ' H' s5:=fun J=>J.ofSuite I.ok.hd
 cases f with
 |next=>
  obtain⟨σ',H',J,z⟩:=h5
  exact JZ (back J) hN hi hk fun s6 J6=>⟨_,H',J6,z⟩
 |brk=>
  obtain⟨σ',H',J,z⟩:=h5
  exact JZ (back J) hN hi hk fun s6 J6=>⟨_,H',J6,z⟩
 |cont=>
  obtain⟨σ',H',J,z⟩:=h5
  exact JZ (back J) hN hi hk fun s6 J6=>⟨_,H',J6,z⟩
 |ret u=>
  obtain⟨v,σ',H',J,r,z⟩:=h5
  exact JZ (back J) hN hi hk fun s6 J6=>⟨v,_,H',J6,r,z⟩
section
variable {Dc:Addr}{i:Nat}{n x:Str}{np hp:Pos}{b0:Stmt}{suite:List Stmt}{ts:TS}
theorem Xa (hN:X.N.Nodup)(hi:X.N[i]?=some n)(hk:X.env.kindOf n=some .local)(hg:Gl X x)(hm:X.mg x=some (.ref Dc))(hdb:(x == ("__debug__":Str))=false)
  (hst:X.stack=X.env::X.outer) (hf:X.env.frame=some X.env.locals) (hs:∀a,Xz (X.suite a pins) (b0::suite) ts) :
  WG (CXE X.prog X.w) (X.tryc D pins [.ExceptHandler (some (.Name x np)) (some n) (b0::suite) hp]) (Ut X Dc i ts D):=by
 intro ps σ H s e s' I h
 obtain⟨a,C,d,T,H',rfl,J,z,la,lT,q⟩:=I.afterX h
 show wpAny _ _ _ _ _ _
 have J':=J.ofTry
 have fr:=J'.ok.frames
 have st:=J'.stack
 have lo:∀b,Wo (X.tryc D pins [.ExceptHandler (some (.Name x np)) (some n) (b0::suite) hp]) ps H' b->Wo X pins H' b:=
  fun b ⟨h1,h2,h3,h4,h5⟩=>⟨h1,h2,h3,h4,fun p hp=>h5 p (List.mem_append_left _ hp)⟩
 rw[hst] at fr st
 refine PyX.Zbb (base:=X.base) fr st hf z fun h' T' nT z' k=>?_
 rw[<-hst] at k
 have J2:Inv X pins σ H' {s' with heap:=h'}:=J'.but (t':=s'.toks) k fun b hb=>by
  rcases List.mem_cons.mp hb with rfl|hb
  ·exact lo _ la
  ·obtain rfl:b=T:=by simpa using hb
   exact lo _ lT
 exact Jy J2 z' (lo _ la) (J'.loose nT (J'.hok.fresh nT)) hN hi hk hg hm hdb (hs a) q
end
end
end L2
namespace PyX
open PySem
section
variable {M:Model}{A:Around}{E:Value->Shared->Prop}{env:Env}{s:Shared}
theorem ZeT {v:Sem Value}{Q:Flow->Shared->Prop}(hh:A.handled=none)
    (h:wpAny M A v (fun u s1=>∃e C N bm nid d vs,u=.ref e/\Xn s1.heap C N bm nid/\bm.contains (.type "BaseException")=true/\
      s1.heap.get? e=some {cls:=.ref C,dict:=d,data:=.fields vs}/\vs[1]?=some .none/\E (.ref e) s1) E s) :
    wpAny M A (raiseStmt env (some v) none) Q E s:=by
  unfold raiseStmt
  refine Zl (wpAny_mono h (fun u s1 h1=>?_) fun _ _ z=>z)
  obtain⟨e,C,N,bm,nid,d,vs,rfl,x,hb,he,hv,hE⟩:=h1
  obtain⟨nm,q,bs,hd,sn,sb,ab,cl,dd,k0,k1,k2,k3,k5,hC⟩:=x
  have hcB:(Value.ref C::bm).contains (.type "BaseException")=true:=by
    rw[List.contains_cons,hb,Bool.or_true]
  obtain⟨hp,g,dr,tk,os⟩:=s1
  repeat (first
    |with_reducible refine wpAny_loadPart_at he ?_
    |with_reducible refine wpAny_loadPart_at hC ?_
    | (with_reducible refine wpAny_isSubtype_exc hC ?_
       rw[hcB])
    |wp_step)
  rw[hv]
  refine Zm ?_
  rw[if_neg (by decide)]
  exact Zm (wpAny_raiseNew_none hh hE)
end
end PyX
namespace L2
open PySem PySem.Spec PyProof.Rows
section
variable {X:Cx}{C N T U:Addr}{nid iid:String}{mN mT:Str->Option Value}{x:Str}{p pos cpos:Pos}{e:Expr}{es:List Expr}{t:TA}{E:XK}
theorem XI (hc:X.calm=true)(c:PyX.Xx X.base C N T U nid mN mT)(hi:mN "__init__"=none)(F:ExcBaseFacts "ValueError" nid iid PyX.VE)
  (hg:Gl X x) (hm:X.mg x=some (.ref C)) (kp:PySem.W.keepIn X.K (.ref C)=true) (ha:PA X (e::es) t) (hx:Zdg X E)
  (hdb:(x == ("__debug__":Str))=false:=by decide) (he:starEach (e::es) X.env=(false,eval e X.env)::starEach es X.env:=by rfl) (hpl:(backTo cpos (starEach es X.env)).any (·.1)=false:=by rfl) :
  PS X (.Raise (some (.Call (.Name x p) (e::es) [] cpos)) none pos) (fun D σ H=>t σ H fun vs H1=>vs.length<=sizeLine/\E (.ref C) none H1):=by
 intro pins s σ H D I h
 rw[arm_exec_Raise]
 refine Zl (wpAny_standAt (PyX.ZeT (I.ok.hd hc) ?_))
 refine Zl (wpAny_mono (wpAny_Call_Name_kw (WL I hg hm ?_ hdb)) (fun v s3 h3=>Zl (wpAny_standAt (Zm h3))) fun _ _ z=>z)
 refine PySem.W.callWith_K (h₀:=X.base) I.ok.mod.kin kp (Z8 (ha cpos pins s σ H _ I h) fun us s1 ⟨vs,H1,I1,r,hl,q⟩=>⟨I1.kIn,?_⟩) he hpl
 have c1:=c.keeps I1.bk
 have hl':us.length<=sizeLine:=by
  rw[<-r.length]
  exact hl
 obtain⟨h1,g1,d1,t1,o1⟩:=s1
 refine PyX.Uc F c1.tail c1.c.ex c1.nsC hi (fun h' a mk hz=>?_) hl'
 have J:Inv X pins σ H1 ⟨h',g1,d1,t1,o1⟩:=I1.kept (t':=t1) mk.keeps
 obtain⟨ta,ho,_,_⟩:=mk.there
 exact⟨a,C,N,_,nid,none,_,rfl,(c1.keeps mk.keeps).c.ex,rfl,ho,rfl,hx pins σ H1 _ a C none J ⟨_,ho,rfl⟩ (by
  obtain⟨l1,l2,l3,l4,l5⟩:=I1.loose hz (I1.hok.fresh hz)
  exact⟨l1,l2,l3,l4,l5⟩) q⟩
end
section
variable {X:Cx}{pins:List (Addr×Obj)}{σ:St}{H:Hp}{s:Shared}{a:Addr}
variable {C N T U:Addr}{nid:String}{mN mT:Str->Option Value}{f:Str}{y:V}{u:Value}{A:Around}{E:Value->Shared->Prop}{Q:Unit->Shared->Prop}
end
section
variable {X:Cx}{pins:List (Addr×Obj)}{σ:St}{H:Hp}{s:Shared}{a:Addr}
variable {C N T U dx:Addr}{nid:String}{mN mT:Str->Option Value}{f:Str}{y:V}{u:Value}{A:Around}{E:Value->Shared->Prop}{Q:Unit->Shared->Prop}{fs:List (Str×V)}
variable {o value:Expr}{ta tv:TE}{pos pos':Pos}
end
section
variable {X:Cx}{pins:List (Addr×Obj)}{σ:St}{H:Hp}{s:Shared}{a:Addr}{φ:Heap->Prop}
end
section
variable {X:Cx}{C N T U fI:Addr}{nid iid:String}{mN mT:Str->Option Value}{x:Str}{p pos cpos:Pos}{e:Expr}{es:List Expr}{t:TA}{E:XK}{k:Nat}{fd:FuncData}{ps:List Str}{sp:Sp}{oI:Obj}
end
section
variable {X:Cx}{f:Str}{e:Expr}{ta:TE}{pos:Pos}
end
end L2
namespace PyX
open PySem
theorem Zdl:typeLookup (.type "ValueError") "__class__"=pure (some (.builtin "object.__class__")):=by
 rw[typeLookup_type,builtinLookup_eq_fast]
 kernel_rfl
section
variable {prog:Program}{w:World}{h:Heap}{C N T U x:Addr}{nid:String}{mN mT:Str->Option Value}{o:Obj}
variable {A:Around}{E:Value->Shared->Prop}{gs:Array GenState}{dr:Drawn}{tk:Nat}{os:OsState}
theorem Zc8 {R:Result->Shared->Prop}(c:Xx h C N T U nid mN mT)(hx:h.get? x=some o)(hc:o.cls=.ref C)(hq:R (.ok (.ret (.ref C))) ⟨h,gs,dr,tk,os⟩) :
    codeAny (model prog w) A (.call (.builtin "getset_descriptor.__get__") ⟨[.builtin "object.__class__",.ref x,.ref C],[]⟩) R ⟨h,gs,dr,tk,os⟩:=by
  obtain⟨nm,q,bs,sn,sb,ab,cl,dd,k0,k1,k2,k3,k5,hC⟩:=c.c
  have h5:(⟨h,gs,dr,tk,os⟩:Shared).TypeIs (.builtin "object.__class__") "getset_descriptor":=F.typeOf_object_class
  have hO:(Value.ref C::Value.ref T::VE).contains (.type (".".intercalate ("object.__class__".cutAt '.').dropLast))=true:=by
    rw[F.owner_object_class,List.contains_cons,List.contains_cons,SF.hasOwner,Bool.or_true,Bool.or_true]
  refine codeAny_call_builtin F.slot_gs_get.plain F.entry_gs_get (F.slot_gs_get.check _ _ _ _ _ _ _ _ h5 (F.args_gs_get _ _ _) ?_)
  repeat (any_goals (first
    |assumption
    | (with_reducible refine wpAny_loadPart_at hx ?_
       rw[hc])
    | (with_reducible refine wpAny_isSubtype_exc hC ?_
       rw[hO])
    |wp_step))
  refine⟨Code.quiet_builtin _ (by decide +kernel),codeAny_builtin F.entry_object_class ?_⟩
  repeat (any_goals (first
    |assumption
    | (with_reducible refine wpAny_loadPart_at hx ?_
       rw[hc])
    |wp_step))
theorem U4 {kt:Tok}{Q:Fin->Shared->Prop}(c:Xx h C N T U nid mN mT)(h1:mN "__class__"=none)(h2:mT "__class__"=none)(hx:h.get? x=some o)(hc:o.cls=.ref C)
    (hq:Q (.done (.ret (.ref C))) ⟨h,gs,dr,tk,os⟩) :
    wpAny (model prog w) A (Builtin.«object.__getattribute__» ⟨[.ref x,.str "__class__" kt],[]⟩) Q E ⟨h,gs,dr,tk,os⟩:=by
  have h5:(⟨h,gs,dr,tk,os⟩:Shared).TypeIs (.builtin "object.__class__") "getset_descriptor":=F.typeOf_object_class
  have f5:=F.typeOf_object_class
  have f6:=F.slot_gs_get.lookup
  have f7:=F.slot_gs_set.lookup
  repeat (any_goals (first
    |assumption
    | (with_reducible refine wpAny_loadPart_at hx ?_
       rw[hc])
    |with_reducible refine c.lookB Zdl h1 h2 ?_
    |wp_step))
  refine Zc8 c hx hc ?_
  repeat (any_goals (first
    |assumption
    |wp_step))
theorem Zbv {Q:Option Value->Shared->Prop}(c:Xx h C N T U nid mN mT)(h1:mN "__class__"=none)(h2:mT "__class__"=none)
    (h3:mN "__getattribute__"=none) (h4:mT "__getattribute__"=none) (h5:mN "__getattr__"=none) (h6:mT "__getattr__"=none)
    (hx:h.get? x=some o) (hc:o.cls=.ref C) (hq:Q (some (.ref C)) ⟨h,gs,dr,tk+1,os⟩) :
    wpAny (model prog w) A (getAttr? (.ref x) "__class__") Q E ⟨h,gs,dr,tk,os⟩:=by
  have f3:=F.attr_ValueError.ga.bind (.ref x)
  have e2:(Value.builtin "BaseException.__getattribute__" == Value.builtin "object.__getattribute__")=false:=by
    decide +kernel
  have e1:(onTheHeap (Value.ref C) && Value.builtin "BaseException.__getattribute__" == Value.builtin "object.__getattribute__")=false:=by
    rw[e2]
    rfl
  unfold getAttr? getAttrBy? getAttrBy
  repeat (any_goals (first
    |assumption
    | (with_reducible refine wpAny_loadPart_at hx ?_
       rw[hc])
    |with_reducible refine c.lookB F.attr_ValueError.ga.lookup h3 h4 ?_
    |with_reducible refine c.lookB F.attrBase_ValueError.noGetattr h5 h6 ?_
    |wp_step))
  refine codeAny_call_builtin F.attr_ValueError.ga.plain F.entry_bexc_ga (Zd8 c hx hc (U4 c h1 h2 hx hc ?_))
  repeat (any_goals (first
    |assumption
    |wp_step))
end
end PyX
namespace L2
open PySem PySem.Spec PyProof.Rows
structure NoC (mN mT:Str->Option Value):Prop where
 a:mN "__class__"=none
 b:mT "__class__"=none
 d:mN "__getattribute__"=none
 e:mT "__getattribute__"=none
 g:mN "__getattr__"=none
 h:mT "__getattr__"=none
theorem Zax {K:PySem.W.Frag}{x C N T U:Addr}{nid:String}{mN mT:Str->Option Value}{cd:ClassData}(hk:PySem.W.clsIn K C=some cd)(n:NoC mN mT) :
  PySem.W.KitX K (.ref x) (.ref C) (fun h=>PyX.Xx h C N T U nid mN mT/\∃o,h.get? x=some o/\o.cls=.ref C) where
 ty:=fun M h _ ⟨_,o,e,c⟩=>by
  intro A Q E s k q
  unfold typeOf
  refine Zl (wpAny_loadPart (k _ _ e) (Zm ?_))
  rw[c]
  exact q
 it:=fun M h X _=>by
  unfold PySem.W.clsIn at hk
  split at hk
  ·rename_i c' d' cd' sl' ho
   intro A' Q' E' s' k q
   unfold isType loadHead
   exact Zl (wpAny_loadPart (k _ _ (X _ _ ho)) (Zm q))
  ·cases hk
 ne:=fun h tp dd its m sl X htp=>by
  refine Bool.eq_false_iff.mpr fun q=>?_
  have e:C=tp:=Value.ref.inj (beq_iff_eq.mp q)
  subst e
  unfold PySem.W.clsIn at hk
  split at hk
  ·rename_i c' d' cd' sl' ho
   have z:=(X _ _ ho).symm.trans htp
   cases z
  ·cases hk
 ca:=fun {prog w A E Q s} X ⟨c,o,e,cc⟩ k=>by
  obtain⟨h,g,d,t,os⟩:=s
  exact PyX.Zbv c n.a n.b n.d n.e n.g n.h e cc k
section
variable {X:Cx}{C N T U:Addr}{nid:String}{mN mT:Str->Option Value}{cd:ClassData}
theorem Ud:ZN X (.builtin "isinstance") (fun xs H Q=>∃a C d N T U nid mN mT cd c b,xs=[.ref a,c]/\H a=some (exO a C d)/\PySem.W.clsIn X.K C=some cd/\NoC mN mT/\PyX.Xx X.base C N T U nid mN mT/\
  (∀cv,RelV c cv->PySem.W.kitOne X.K (.ref C) cv=some b)/\Q (.bl b) H):=by
 intro pins s σ H xs us Q I r h
 obtain⟨a,C,d,N,T,U,nid,mN,mT,cd,c,b,rfl,ha,hk,n,two,e,q⟩:=h
 cases r with
 |cons r1 r=>
  cases r with
  |cons r2 r=>
   cases r
   cases (show _=Value.ref a from r1)
   obtain⟨⟨vs,ho⟩,_,_⟩:=I.hok a _ ha
   exact PySem.W.kia_one (Zax hk n) I.kIn ⟨two.keeps I.bk,_,ho,rfl⟩ (e _ r2) (fun z=>nomatch z) fun tk=>⟨.bl b,H,I.tok _,rfl,q⟩
theorem ZbB:ZN X (.builtin "isinstance") (fun xs H Q=>∃a C d N T U nid mN mT cd tp cs b,xs=[.ref a,.ref tp]/\H a=some (exO a C d)/\H tp=some (.tup cs)/\PySem.W.clsIn X.K C=some cd/\NoC mN mT/\PyX.Xx X.base C N T U nid mN mT/\
  (∀its,ZE cs its->PySem.W.kitAny X.K (.ref C) its=some b)/\Q (.bl b) H):=by
 intro pins s σ H xs us Q I r h
 obtain⟨a,C,d,N,T,U,nid,mN,mT,cd,tp,cs,b,rfl,ha,ht,hk,n,two,e,q⟩:=h
 cases r with
 |cons r1 r=>
  cases r with
  |cons r2 r=>
   cases r
   cases (show _=Value.ref a from r1)
   cases (show _=Value.ref tp from r2)
   obtain⟨⟨vs,ho⟩,_,_⟩:=I.hok a _ ha
   obtain⟨_,its,rv,o,h1,h2,m,h3⟩:=I.hok tp _ ht
   obtain⟨oc,od,odt,osl⟩:=o
   cases h2
   cases h3
   exact PySem.W.kia_tup (Zax hk n) I.kIn ⟨two.keeps I.bk,_,ho,rfl⟩ h1 (e _ rv) (fun z=>nomatch z) fun tk=>⟨.bl b,H,I.tok _,rfl,q⟩
end
def YV (es:Array DictEntry):Bool:=es.toList.all fun e=>match e.key with | .str _ _=>true|_=>false
theorem Uv {es:Array DictEntry}(h:YV es=true):StrKeys es:=by
 intro e he
 unfold YV at h
 have:=List.all_eq_true.mp h e (Array.mem_toList_iff.mpr he)
 split at this
 ·rename_i n t q;exact⟨n,t,q⟩
 ·cases this
def WX (es:Array DictEntry)(ns:List Str):Bool:=ns.all fun n=>(nsFind es n).isNone
theorem YL {es:Array DictEntry}{ns:List Str}(h:WX es ns=true){n:Str}(hn:n∈ns):nsFind es n=none:=by
 have:=List.all_eq_true.mp h n hn
 exact Option.isNone_iff_eq_none.mp this
structure Yj (K:PySem.W.Frag)(x:Str)(C N:Addr)(bm:List Value)(es:Array DictEntry):Prop where
 at_:PySem.W.nsIn K mainGlobals x=some (some (.ref C))
 ob:∃nm q bs sn sb ab cl dd k0 k1 k2 k3 k5,K.lookup C=some (excClassObj nm q C N bs bm true sn sb ab cl dd k0 k1 k2 k3 k5 PyX.Wu)
 ns:∃c d ep sl,K.lookup N=some ⟨c,d,.dict es ep,sl⟩
 kp:PySem.W.keepIn K (.ref C)=true
 sk:YV es=true
theorem Yj.mk' {K:PySem.W.Frag}{x:Str}{C N:Addr}{bm:List Value}{es:Array DictEntry}{nm q:Str}{bs:List Value}{sn:List Str}{sb:List Value}{ab:Bool}{cl:Option Bool}{dd:Option Addr}{k0 k1 k2 k3 k5:Option Value}{c:Value}{d:Option Addr}{ep:Nat}{sl:Array (Option Value)}
  (a:PySem.W.nsIn K mainGlobals x=some (some (.ref C))) (l:K.lookup C=some (excClassObj nm q C N bs bm true sn sb ab cl dd k0 k1 k2 k3 k5 PyX.Wu)) (n:K.lookup N=some ⟨c,d,.dict es ep,sl⟩) (kp:PySem.W.keepIn K (.ref C)=true) (sk:YV es=true):Yj K x C N bm es:=
 ⟨a,⟨nm,q,bs,sn,sb,ab,cl,dd,k0,k1,k2,k3,k5,l⟩,⟨c,d,ep,sl,n⟩,kp,sk⟩
section
variable {K:PySem.W.Frag}{x y:Str}{C N T U D M:Addr}{bm:List Value}{es et ez:Array DictEntry}{h:Heap}{mg:Str->Option Value}
theorem Yj.ed (e:Yj K x C N bm es)(X:K.In h):PyX.Ui h C N bm PyX.Wu:=by
 obtain⟨nm,q,bs,sn,sb,ab,cl,dd,k0,k1,k2,k3,k5,l⟩:=e.ob
 exact⟨nm,q,bs,sn,sb,ab,cl,dd,k0,k1,k2,k3,k5,X _ _ l⟩
theorem Yj.nsx (e:Yj K x C N bm es)(X:K.In h):h.Ns N (nsFind es):=by
 obtain⟨c,d,ep,sl,l⟩:=e.ns
 exact⟨_,es,ep,X _ _ l,rfl,Uv e.sk,fun _=>rfl⟩
theorem Yj.cls (e:Yj K x C N bm es):∃cd:ClassData,PySem.W.clsIn K C=some cd/\cd.mro=.ref C::bm:=by
 obtain⟨nm,q,bs,sn,sb,ab,cl,dd,k0,k1,k2,k3,k5,l⟩:=e.ob
 have q:PySem.W.clsIn K C=some {name:=nm,bases:=bs,mro:=.ref C::bm,ns:=N,qualname:=q,hasDict:=true,slotNames:=sn,subclasses:=sb,abstract:=ab,collection:=cl,hasDel:=false}:=by
  unfold PySem.W.clsIn
  rw[l]
 exact⟨_,q,rfl⟩
theorem Yj.ty (e:Yj K x C N bm es):PySem.W.typeIn K (.ref C)=some (.type "type"):=by
 obtain⟨nm,q,bs,sn,sb,ab,cl,dd,k0,k1,k2,k3,k5,l⟩:=e.ob
 show (K.lookup C).map (·.cls)=_
 rw[l]
 rfl
theorem Yj.sub (e:Yj K x C N bm es)(v:Value):PySem.W.subIn K (.ref C) v=some ((Value.ref C::bm).contains v):=by
 obtain⟨cd,h1,h2⟩:=e.cls
 show PySem.W.mroIn K C v=_
 unfold PySem.W.mroIn
 rw[h1]
 show (if cd.mro.isEmpty=true then none else some (cd.mro.contains v))=_
 rw[h2]
 rfl
theorem Yj.kitR (e:Yj K x C N bm es){bm':List Value}(f:Yj K y D M bm' ez):PySem.W.kitOne K (.ref C) (.ref D)=some ((Value.ref C::bm).contains (.ref D)):=by
 unfold PySem.W.kitOne
 by_cases q:(Value.ref C == Value.ref D)=true
 ·rw[if_pos q]
  have:C=D:=Value.ref.inj (beq_iff_eq.mp q)
  subst this
  simp[List.contains_cons]
 ·rw[if_neg q]
  obtain⟨cd,h1,_⟩:=f.cls
  show (if ((PySem.W.clsIn K D).isSome && PySem.W.typeIn K (.ref D) == some (.type "type"))=true then PySem.W.subIn K (.ref C) (.ref D) else none)=_
  rw[if_pos,e.sub]
  rw[h1,f.ty]
  rfl
theorem Zbi:PySem.W.kitMeta "ValueError"=true:=by kernel_rfl
theorem Yj.kitV (e:Yj K x C N (.ref T::PyX.VE) es):PySem.W.kitOne K (.ref C) (.type "ValueError")=some true:=by
 unfold PySem.W.kitOne
 rw[if_neg (by simp)]
 show (if PySem.W.kitMeta "ValueError"=true then PySem.W.subIn K (.ref C) (.type "ValueError") else none)=_
 rw[if_pos Zbi,e.sub]
 rfl
theorem Yj.two (e:Yj K x C N (.ref T::PyX.VE) es)(t:Yj K y T U PyX.VE et)(i:nsFind et "__init__"=none)(X:K.In h):PyX.Xx h C N T U PyX.Wu (nsFind es) (nsFind et):=
 ⟨e.ed X,t.ed X,e.nsx X,t.nsx X,i⟩
end
def Yd:List Str:=["__setattr__", "__class__", "__getattribute__", "__getattr__"]
def WA:List Str:=["word", "thing", "number", "row", "name"]
structure Ec where
 C:Addr
 N:Addr
 es:Array DictEntry
structure Y0 (K:PySem.W.Frag)(x:Str)(T U:Addr)(et:Array DictEntry)(e:Ec):Prop where
 c:Yj K x e.C e.N (.ref T::PyX.VE) e.es
 no:WX e.es (Yd++WA)=true
structure Zab (K:PySem.W.Frag)(T U:Addr)(et:Array DictEntry):Prop where
 t:Yj K "TableError" T U PyX.VE et
 no:WX et ("__init__" :: (Yd++WA))=true
section
variable {K:PySem.W.Frag}{x:Str}{T U:Addr}{et:Array DictEntry}{e:Ec}{f:Str}{h:Heap}
theorem Y0.two (E:Y0 K x T U et e)(B:Zab K T U et)(X:K.In h):PyX.Xx h e.C e.N T U PyX.Wu (nsFind e.es) (nsFind et):=E.c.two B.t (YL B.no (by simp)) X
theorem Y0.noC (E:Y0 K x T U et e)(B:Zab K T U et):NoC (nsFind e.es) (nsFind et):=
 ⟨YL E.no (by simp[Yd]),YL B.no (by simp[Yd]),YL E.no (by simp[Yd]),YL B.no (by simp[Yd]),YL E.no (by simp[Yd]),YL B.no (by simp[Yd])⟩
end
section
variable {P:Program}{w:World}{K:PySem.W.Frag}{mg:Str->Option Value}{base:Heap}{C N T U:Addr}{mN mT:Str->Option Value}{qual:Str}{st:Stmt}{fI:Addr}{fd:FuncData}{f g u v:Str}
end
end L2
namespace Tb
def ZW (t:List (List Nat))(a b:Nat):Nat:=(t.getD a []).getD b 0
def it (t:List (List Nat))(a:Nat):Nat->Nat
 |0=>0
 |k+1=>ZW t (it t a k) a
structure Rd (t:List (List Nat))(a r:Nat):Prop where
 r1:1<=r
 rn:r<=t.length
 dv:t.length % r=0
 z:it t a r=0
 nz:∀k,1<=k->k<r->it t a k≠0
 bk:ZW t a (it t a (r-1))=0
 un:∀b,b<t.length->ZW t a b=0->b=it t a (r-1)
structure PW (t:List (List Nat)):Prop where
 n1:1<=t.length
 n60:t.length<=60
 len:∀row∈t,row.length=t.length
 lt:∀a b,a<t.length->b<t.length->ZW t a b<t.length
 one:∀a,a<t.length->ZW t 0 a=a
 rd:∀a,a<t.length->∃r,Rd t a r
 oneR:∀a,a<t.length->ZW t a 0=a
 ass:∀a b c,a<t.length->b<t.length->c<t.length->ZW t (ZW t a b) c=ZW t a (ZW t b c)
section
variable {t:List (List Nat)}{a r:Nat}
end
def rdB (t:List (List Nat))(n a:Nat):Nat->Nat->Nat->Bool
 |0,_,_=>false
 |f+1,k,prev=>
  let x:=ZW t prev a
  match x with
  |0=>decide (n % (k+1)=0) && decide (k+1<=n) && decide (ZW t a prev=0) && ((List.range n).all fun b=>decide (b=prev) || !decide (ZW t a b=0))
  |y+1=>rdB t n a f (k+1) (y+1)
def fq1 {β:Type}(m:Nat)(k:Nat->β):β:=match m with
 |0=>k 0
 |m+1=>k (m+1)
theorem ZcM {β:Type}(m:Nat)(k:Nat->β):fq1 m k=k m:=by cases m <;> rfl
def fql {β:Type}:List Nat->(List Nat->β)->β
 | [],k=>k []
 |x::xs,k=>fq1 x fun y=>fql xs fun ys=>k (y::ys)
theorem Vo {β:Type}:∀(a:List Nat) (k:List Nat->β),fql a k=k a
 | [],k=>rfl
 |x::xs,k=>by rw[fql,ZcM,Vo xs]
def ZfO (acc:List Nat)(y:Nat):List Nat:=if acc.contains y then acc else acc++[y]
def ZbC (t:List (List Nat))(gens:List Nat):Nat->Nat->List Nat->List Nat
 |0,_,acc=>acc
 |f+1,i,acc=>match acc[i]? with
  |none=>acc
  |some x=>fql (gens.foldl (fun acc g=>fq1 (ZW t x g) fun y=>ZfO acc y) acc) fun acc=>ZbC t gens f (i+1) acc
def ZaC (t:List (List Nat)):Nat->Nat->List Nat->List Nat->List Nat
 |0,_,gens,_=>gens
 |f+1,a,gens,acc=>if acc.contains a then ZaC t f (a+1) gens acc else fql (ZbC t (gens++[a]) t.length 0 [0]) fun acc=>ZaC t f (a+1) (gens++[a]) acc
def liB (t:List (List Nat))(g:Nat):Bool:=decide (g<t.length) && t.all fun rx=>(t.getD (rx.getD g 0) [] == (t.getD g []).map fun c=>rx.getD c 0)
def asG (t:List (List Nat))(gens:List Nat):Bool:=gens.all (liB t) && fql (ZbC t gens t.length 0 [0]) fun acc=>(List.range t.length).all fun a=>acc.contains a
def asB (t:List (List Nat)):Bool:=fql (ZaC t t.length 0 [] [0]) (asG t)
def ZgB (t:List (List Nat)):Bool:=decide (1<=t.length) && decide (t.length<=60) && (t.all fun row=>decide (row.length=t.length) && row.all fun x=>decide (x<t.length)) && ((List.range t.length).all fun a=>decide (ZW t 0 a=a) && rdB t t.length a t.length 0 0)
def pwB (t:List (List Nat)):Bool:=ZgB t && ((List.range t.length).all fun a=>decide (ZW t a 0=a)) && asB t
def Pr (t:List (List Nat))(a:Nat):Prop:=a<t.length/\∀x y,x<t.length->y<t.length->ZW t (ZW t x a) y=ZW t x (ZW t a y)
theorem ZgO {t:List (List Nat)}(hl:∀row∈t,row.length=t.length){g:Nat}(h:liB t g=true):Pr t g:=by
 unfold liB at h
 simp only[List.all_eq_true,Bool.and_eq_true,beq_iff_eq,decide_eq_true_eq] at h
 obtain⟨hg,h⟩:=h
 refine⟨hg,fun x y hx hy=>?_⟩
 have hm:t.getD x []∈t:=by
  rw[Zb,Zf hx]
  exact List.getElem_mem hx
 have hmg:t.getD g []∈t:=by
  rw[Zb,Zf hg]
  exact List.getElem_mem hg
 have h1:=h _ hm
 unfold ZW
 rw[h1]
 have hlb:=hl _ hmg
 generalize t.getD g []=rb at *
 have hc':y<rb.length:=by omega
 rw[Zb,Zc,Zf hc',Zb (l:=rb),Zf hc']
 rfl
theorem Pr.times {t:List (List Nat)}(lt:∀a b,a<t.length->b<t.length->ZW t a b<t.length){a g:Nat}(ha:Pr t a)(hg:Pr t g):Pr t (ZW t a g):=by
 refine⟨lt _ _ ha.1 hg.1,fun x y hx hy=>?_⟩
 rw[<-ha.2 x g hx hg.1,hg.2 _ y (lt _ _ hx ha.1) hy,ha.2 x _ hx (lt _ _ hg.1 hy),hg.2 a y ha.1 hy]
theorem ZaP {t:List (List Nat)}(lt:∀a b,a<t.length->b<t.length->ZW t a b<t.length){gens:List Nat}(hg:∀g∈gens,Pr t g):∀(f i:Nat) (acc:List Nat),(∀a∈acc,Pr t a)->∀a∈ZbC t gens f i acc,Pr t a
 |0,i,acc,h=>by unfold ZbC;exact h
 |f+1,i,acc,h=>by
  unfold ZbC
  split
  ·exact h
  ·rename_i x hx
   rw[Vo]
   refine ZaP lt hg f (i+1) _ ?_
   have hxp:=h x (List.mem_of_getElem? hx)
   have key:∀(gs acc:List Nat),(∀g∈gs,Pr t g)->(∀a∈acc,Pr t a)->∀a∈gs.foldl (fun acc g=>fq1 (ZW t x g) fun y=>ZfO acc y) acc,Pr t a:=fun gs=>by
    induction gs with
    |nil=>intro acc _ h;exact h
    |cons g gs ih=>
     intro acc hgs hacc
     rw[List.foldl_cons]
     refine ih _ (fun g' hg'=>hgs g' (List.mem_cons_of_mem _ hg')) fun a ha=>?_
     rw[ZcM] at ha
     unfold ZfO at ha
     split at ha
     ·exact hacc a ha
     ·rcases List.mem_append.mp ha with ha|ha
      ·exact hacc a ha
      ·rw[List.mem_singleton.mp ha]
       exact hxp.times lt (hgs g List.mem_cons_self)
   exact key gens acc hg h
theorem ZfN {t:List (List Nat)}(n1:1<=t.length)(hl:∀row∈t,row.length=t.length)(lt:∀a b,a<t.length->b<t.length->ZW t a b<t.length)(one:∀a,a<t.length->ZW t 0 a=a)(oneR:∀a,a<t.length->ZW t a 0=a)(h:asB t=true):∀a b c,a<t.length->b<t.length->c<t.length->ZW t (ZW t a b) c=ZW t a (ZW t b c):=by
 intro a b c ha hb hc
 unfold asB at h
 rw[Vo] at h
 generalize ZaC t t.length 0 [] [0]=gens at h
 unfold asG at h
 rw[Vo,Bool.and_eq_true,List.all_eq_true,List.all_eq_true] at h
 have h0:Pr t 0:=⟨by omega,fun x y hx hy=>by rw[oneR x hx,one y hy]⟩
 have hb':=ZaP lt (fun g hg=>ZgO hl (h.1 g hg)) t.length 0 [0] (fun a ha=>by rw[List.mem_singleton.mp ha];exact h0) b (List.contains_iff_mem.mp (h.2 b (List.mem_range.mpr hb)))
 exact hb'.2 a c ha hc
theorem Zb8 {t:List (List Nat)}{a:Nat}:∀(f k prev:Nat),prev=it t a k->(∀j,1<=j->j<=k->it t a j≠0)->rdB t t.length a f k prev=true->∃r,Rd t a r
 |0,k,prev,_,_,h=>by cases h
 |f+1,k,prev,e,hz,h=>by
  unfold rdB at h
  have ex:it t a (k+1)=ZW t prev a:=by rw[it,e]
  cases hx:ZW t prev a with
  |zero=>
   simp only[hx,Bool.and_eq_true,decide_eq_true_eq,List.all_eq_true,Bool.or_eq_true,Bool.not_eq_true',decide_eq_false_iff_not] at h
   obtain⟨⟨⟨h1,h2⟩,h3⟩,h4⟩:=h
   refine⟨k+1,by omega,h2,h1,by rw[ex,hx],fun j j1 jk=>hz j j1 (by omega),by rw[Nat.add_sub_cancel,<-e];exact h3,fun b hb hm=>?_⟩
   rw[Nat.add_sub_cancel,<-e]
   exact (h4 b (List.mem_range.mpr hb)).resolve_right fun z=>z hm
  |succ y=>
   simp only[hx] at h
   refine Zb8 f (k+1) (y+1) (by rw[ex,hx]) (fun j j1 jk=>?_) h
   by_cases ej:j=k+1
   ·rw[ej,ex,hx]
    exact Nat.succ_ne_zero _
   ·exact hz j j1 (by omega)
theorem Ze2 {t:List (List Nat)}(h:pwB t=true):PW t:=by
 unfold pwB at h
 rw[Bool.and_eq_true,Bool.and_eq_true] at h
 obtain⟨⟨h,hr1⟩,hr2⟩:=h
 unfold ZgB at h
 simp only[Bool.and_eq_true,decide_eq_true_eq,List.all_eq_true] at h
 obtain⟨⟨⟨h1,h2⟩,h3⟩,h4⟩:=h
 have lt:∀a b,a<t.length->b<t.length->ZW t a b<t.length:=fun a b ha hb=>by
  unfold ZW
  have hm:t.getD a []∈t:=by
   rw[Zb,Zf ha]
   exact List.getElem_mem ha
  obtain⟨hl,hx⟩:=h3 _ hm
  generalize t.getD a []=row at *
  have hb':b<row.length:=by omega
  refine hx _ ?_
  rw[Zb,Zf hb']
  exact List.getElem_mem hb'
 have oneR:∀a,a<t.length->ZW t a 0=a:=fun a ha=>of_decide_eq_true (List.all_eq_true.mp hr1 a (List.mem_range.mpr ha))
 have one:∀a,a<t.length->ZW t 0 a=a:=fun a ha=>(h4 a (List.mem_range.mpr ha)).1
 refine⟨h1,h2,fun row hr=>(h3 row hr).1,lt,one,fun a ha=>?_,oneR,ZfN h1 (fun row hr=>(h3 row hr).1) lt one oneR hr2⟩
 ·exact Zb8 _ 0 0 rfl (fun j j1 j0=>by omega) (h4 a (List.mem_range.mpr ha)).2
def pos (o:List Nat)(v:Nat):Nat:=o.findIdx (· == v)
def WP (t:List (List Nat))(o:List Nat):List (List Nat):=o.map fun a=>o.map fun b=>pos o (ZW t a b)
structure Ord (n:Nat)(o:List Nat):Prop where
 len:o.length=n
 nd:o.Nodup
 all:∀v,v<n->v∈o
 lt:∀v∈o,v<n
 z:o.getD 0 0=0
section
variable {t:List (List Nat)}{o:List Nat}
theorem ZM {o:List Nat}{i:Nat}(h:i<o.length):o[i]?=some (o.getD i 0):=by
 rw[Zb,Zf h]
 rfl
theorem UJ {n v:Nat}(O:Ord n o)(hv:v<n):pos o v<n/\o.getD (pos o v) 0=v:=by
 have hm:=O.all v hv
 have h1:o.findIdx (· == v)<o.length:=List.findIdx_lt_length_of_exists ⟨v,hm,by simp⟩
 refine⟨by rw[<-O.len];exact h1,?_⟩
 have h2:=List.findIdx_getElem (w:=h1)
 have h3:o[o.findIdx (· == v)]=v:=by simpa using h2
 unfold pos
 rw[Zb,Zf h1]
 exact h3
theorem inj {n i j:Nat}(O:Ord n o)(hi:i<n)(hj:j<n)(e:o.getD i 0=o.getD j 0):i=j:=by
 have h1:=ZM (o:=o) (i:=i) (by rw[O.len];exact hi)
 have h2:=ZM (o:=o) (i:=j) (by rw[O.len];exact hj)
 rw[e] at h1
 exact (List.getElem?_inj (by rw[O.len];exact hi) O.nd).mp (h1.trans h2.symm)
theorem Xc {n i:Nat}(O:Ord n o)(hi:i<n):o.getD i 0<n:=O.lt _ (List.mem_of_getElem? (ZM (by rw[O.len];exact hi)))
theorem W6:(WP t o).length=o.length:=by unfold WP;rw[Za]
theorem Zav {n i j:Nat}(O:Ord n o)(hi:i<n)(hj:j<n):ZW (WP t o) i j=pos o (ZW t (o.getD i 0) (o.getD j 0)):=by
 unfold ZW WP
 have h1:=ZM (o:=o) (i:=i) (by rw[O.len];exact hi)
 have h2:=ZM (o:=o) (i:=j) (by rw[O.len];exact hj)
 rw[Zb (l:=o.map _),Zc,h1]
 show (o.map fun b=>pos o ((t.getD (o.getD i 0) []).getD b 0)).getD j 0=_
 rw[Zb,Zc,h2]
 rfl
theorem Zcc (P:PW t)(O:Ord t.length o):PW (WP t o):=by
 have L:(WP t o).length=t.length:=by rw[W6,O.len]
 have back:∀i j,i<t.length->j<t.length->o.getD (ZW (WP t o) i j) 0=ZW t (o.getD i 0) (o.getD j 0):=fun i j hi hj=>by
  rw[Zav O hi hj]
  exact (UJ O (P.lt _ _ (Xc O hi) (Xc O hj))).2
 have lt:∀i j,i<t.length->j<t.length->ZW (WP t o) i j<t.length:=fun i j hi hj=>by
  rw[Zav O hi hj]
  exact (UJ O (P.lt _ _ (Xc O hi) (Xc O hj))).1
 have n1:=P.n1
 have itb:∀a,a<t.length->∀k,it (WP t o) a k<t.length/\o.getD (it (WP t o) a k) 0=it t (o.getD a 0) k:=fun a ha k=>by
  induction k with
  |zero=>exact⟨n1,O.z⟩
  |succ k ih=>
   rw[it,it]
   exact⟨lt _ _ ih.1 ha,by rw[back _ _ ih.1 ha,ih.2]⟩
 have zz:∀i,i<t.length->(i=0↔o.getD i 0=0):=fun i hi=>by
  constructor
  ·intro e;rw[e,O.z]
  ·intro e;exact inj O hi n1 (by rw[e,O.z])
 refine⟨by omega,by have:=P.n60;omega,fun row hr=>?_,fun a b ha hb=>by rw[L];exact lt a b (by omega) (by omega),fun a ha=>?_,fun a ha=>?_,fun a ha=>?_,fun a b c ha hb hc=>?_⟩
 ·unfold WP at hr
  obtain⟨a,_,rfl⟩:=List.mem_map.mp hr
  rw[Za,W6]
 ·refine inj O (lt 0 a n1 (by omega)) (by omega) ?_
  rw[back 0 a n1 (by omega),O.z,P.one _ (Xc O (by omega))]
 ·have ha':a<t.length:=by omega
  obtain⟨r,R⟩:=P.rd _ (Xc O ha')
  have key:∀k,it (WP t o) a k=0↔it t (o.getD a 0) k=0:=fun k=>by
   rw[zz _ (itb a ha' k).1,(itb a ha' k).2]
  refine⟨r,R.r1,by rw[L];exact R.rn,by rw[L];exact R.dv,(key r).mpr R.z,fun k k1 kr z=>R.nz k k1 kr ((key k).mp z),?_,fun b hb hm=>?_⟩
  ·refine (zz _ (lt _ _ ha' (itb a ha' _).1)).mpr ?_
   rw[back _ _ ha' (itb a ha' _).1,(itb a ha' _).2]
   exact R.bk
  ·have hb':b<t.length:=by omega
   refine inj O hb' (itb a ha' _).1 ?_
   rw[(itb a ha' _).2]
   refine R.un _ (Xc O hb') ?_
   rw[<-back a b ha' hb',hm,O.z]
 ·refine inj O (lt a 0 (by omega) n1) (by omega) ?_
  rw[back a 0 (by omega) n1,O.z,P.oneR _ (Xc O (by omega))]
 ·have ha':a<t.length:=by omega
  have hb':b<t.length:=by omega
  have hc':c<t.length:=by omega
  refine inj O (lt _ _ (lt _ _ ha' hb') hc') (lt _ _ ha' (lt _ _ hb' hc')) ?_
  rw[back _ _ (lt _ _ ha' hb') hc',back _ _ ha' hb',back _ _ ha' (lt _ _ hb' hc'),back _ _ hb' hc']
  exact P.ass _ _ _ (Xc O ha') (Xc O hb') (Xc O hc')
end
end Tb
namespace HT
open PySem PyProof.Rows
section
variable {prog:Program}{w:World}{A:Around}{E:Value->Shared->Prop}{s:Shared}
theorem Zci (xs:Array Value):((List.range xs.size).filterMap fun (m:Nat)=>xs[((xs.size:Int)-1+(m:Int) * -1).toNat]?).toArray=xs.toList.reverse.toArray:=by
 congr 1
 have e:∀m∈List.range xs.size,xs[((xs.size:Int)-1+(m:Int) * -1).toNat]?=some (xs.toList.reverse.getD m default):=fun m hm=>by
  have hm:=List.mem_range.mp hm
  have e1:((xs.size:Int)-1+(m:Int) * -1).toNat=xs.size-1-m:=by omega
  rw[e1,Zb,List.getElem?_reverse (by rw[Zr];exact hm),Zr,Array.getElem?_toList,Array.getElem?_eq_getElem (by omega)]
  rfl
 have gen:∀(l:List Nat),(∀m∈l,m∈List.range xs.size)->(l.filterMap fun (m:Nat)=>xs[((xs.size:Int)-1+(m:Int) * -1).toNat]?)=l.map fun m=>xs.toList.reverse.getD m default:=fun l=>by
  induction l with
  |nil=>intro _;rfl
  |cons m l ih=>
   intro h
   rw[List.filterMap_cons,e m (h m List.mem_cons_self),List.map_cons,ih fun k hk=>h k (List.mem_cons_of_mem _ hk)]
 rw[gen _ fun m hm=>hm]
 refine List.ext_getElem? fun i=>?_
 by_cases hi:i<xs.size
 ·rw[Zc,List.getElem?_range hi,Option.map_some,Zb,Zf (by rw[List.length_reverse,Zr];exact hi)]
  rfl
 ·rw[List.getElem?_eq_none (by rw[Za,Zg];omega),List.getElem?_eq_none (by rw[List.length_reverse,Zr];omega)]
theorem W9 {t sl:Addr}{items:Array Value}{tk:Tok}{Q:Value->Shared->Prop}(ht:IsTup s.heap t items)(hs:s.heap.IsSliceOf sl .none .none (.int (-1) tk))
  (h:Q (.ref s.heap.objs.size) {s with heap:=s.heap.push {cls:=.type "tuple",data:=.seq items.toList.reverse.toArray}})
  (hsz:items.size<=sizeLine):wpAny (model prog w) A (getItem (.ref t) (.ref sl)) Q E s:=by
 have htake:sizeOk (.seq items.toList.reverse.toArray):=by
  show items.toList.reverse.toArray.size<=sizeLine
  rw[Zh,List.length_reverse,Zr]
  exact hsz
 obtain⟨os,hos,hcs,hds⟩:=id hs
 have hTs:s.TypeIs (.ref sl) "slice":=⟨os,hos,hcs⟩
 unfold getItem
 try with_reducible refine wpAny_holding ?_
 first|refine Zl (Zm ?_)|skip
 refine Zl (wpAny_sequenceKey ht.typeIs (by decide) ?_)
 refine Zl (wpAny_callSpecial?_slot (name:=Str.ofString "__getitem__") ht.typeIs PyProof.Rows.slot_tuple_getitem
  (wpAny_call_entry PyProof.Rows.slot_tuple_getitem ht.typeIs entry_tuple_getitem ?_ (args_tuple_getitem _ _)))
 show wpAny _ _ (Builtin.Tuple.tupleItemsOf (.ref t) >>= _) _ _ s
 refine Zl (tupleItemsOf_ ht ?_)
 refine Zl (wpAny_typeOf hTs ?_)
 rw[if_pos (by decide)]
 have ap:∀{A:Around}{R:Int×Int×Nat->Shared->Prop},R ((items.size:Int)-1,-1,items.size) s->wpAny (model prog w) A (Builtin.Slice.sliceApplied (.ref sl) (pure (items.size:Int))) R E s:=fun {A R} hR=>by
  unfold Builtin.Slice.sliceApplied Builtin.Slice.sliceFields
  refine Zl (Zl (wpAny_field hos hds (x:=.none) rfl (Zl (wpAny_field hos hds (x:=.none) rfl (Zl (wpAny_field hos hds (x:=.int (-1) tk) rfl (Zm ?_)))))))
  refine Zl (slicePart_int ?_)
  show wpAny _ _ (if ((-1:Int) == 0)=true then _ else _) _ _ s
  rw[if_neg (by decide)]
  refine Zl (slicePart_none (Zl (slicePart_none (Zl (Zm ?_)))))
  show wpAny _ _ (pure ((items.size:Int)-1,(-1:Int),Builtin.Slice.slicePlaces ((items.size:Int)-1) (-1) (-1))) _ _ s
  have e:Builtin.Slice.slicePlaces ((items.size:Int)-1) (-1) (-1)=items.size:=by
   unfold Builtin.Slice.slicePlaces
   rw[if_neg (by decide)]
   have:(- -1:Int)=1:=by decide
   rw[this,Int.ediv_one]
   split <;> omega
  rw[e]
  exact Zm hR
 refine Zl (ap ?_)
 show wpAny _ _ (if (((items.size:Int)-1) == 0 && (-1:Int) == 1 && items.size == items.size)=true then _ else _) _ _ s
 have hno:¬((((items.size:Int)-1) == 0 && (-1:Int) == 1 && items.size == items.size)=true):=by
  rw[show ((-1:Int) == 1)=false by decide,Bool.and_false,Bool.false_and]
  decide
 rw[if_neg hno,Zci]
 first
  |exact Zl (m:=Builtin.Tuple.tupleExact _) (wpAny_newObj_type (Zm ⟨_,rfl,Zm h⟩) htake)
  |exact Zl (m:=Builtin.Tuple.tupleExact _) (wpAny_newObj_type (Zl (Zm (Zm ⟨_,rfl,Zm h⟩))) htake)
  |exact Zl (Zl (m:=Builtin.Tuple.tupleExact _) (wpAny_newObj_type (Zm (Zm ⟨_,rfl,Zm h⟩)) htake))
  |exact Zl (Zl (m:=Builtin.Tuple.tupleExact _) (wpAny_newObj_type (Zm ⟨_,rfl,Zm h⟩) htake))
end
end HT
namespace L2
open PySem PySem.Spec PyProof.Rows
section
variable {X:Cx}{e:Expr}{te ts:TE}{st:Expr}{pos p2:Pos}
def Zhv (K:PySem.W.Frag)(te ts:TE):TE:=fun σ H Q=>te σ H fun x H1=>ts σ H1 fun i H2=>i=.int (-1)/\∃a xs,x=.ref a/\Y9 K H2 a xs/\∀p,H2 p=none->Q (.ref p) (upd H2 p (.tup xs.reverse))
theorem Zfb (K:PySem.W.Frag)(he:PE X e te)(hs:PE X st ts)(hK:X.K=K:=by rfl):PE X (.Subscript e (.Slice none none (some st) p2) pos) (Zhv K te ts):=by
 subst hK
 intro pins s σ H Q I h
 refine Subscript_ (Z8 (he pins s σ H _ I h) fun v s1 ⟨x,H1,I1,r1,q1⟩=>?_)
 refine wpAny_Slice ?_
 rw[evalPart_none]
 refine Zm ?_
 rw[evalPart_some]
 refine Zm ?_
 refine Z8 (hs pins s1 σ H1 _ I1 q1) fun u s3 ⟨i,H3,I3,r3,q3⟩=>?_
 obtain⟨rfl,a,xs,rfl,hx,q⟩:=q3
 obtain⟨tk,rfl⟩:=r3
 cases r1
 have I4:Inv X pins σ H3 {s3 with heap:=s3.heap.push {cls:=.type "slice",data:=.fields #[.none,.none,.int (-1) tk]}}:=I3.kept (t':=s3.toks) fun b ob q=>Zn _ q
 obtain⟨its,r,ht,hz⟩:=I4.tuple hx
 show wpAny (model X.prog X.w) X.A (subscriptTail e (.Slice none none (some st) p2) (.ref a) (.ref s3.heap.objs.size)) (EP X pins σ Q) X.xe {s3 with heap:=s3.heap.push {cls:=.type "slice",data:=.fields #[.none,.none,.int (-1) tk]}}
 refine tail_any (ops:=[.ref a,.ref s3.heap.objs.size]) ht.typeIs PyProof.Rows.slot_tuple_getitem.lookup ?_ (by with_unfolding_all rfl)
 have hlen:its.toArray.size=xs.length:=by rw[Zh];exact r.length.symm
 refine HT.W9 ht (Heap.IsSliceOf.new ..) ?_ (by rw[hlen];exact hz)
 refine⟨.ref _,_,I4.laid (t':=s3.toks) (o:=.tup xs.reverse) (fun b ob q=>Zn _ q) (Zq _) ?_,rfl,q _ (I4.hok.fresh (Zq _))⟩
 exact⟨by rw[List.length_reverse];exact hz,_,r.reverse,IsTup.new _ _⟩
end
end L2
namespace HT
open PySem PyProof.Rows
section
variable {prog:Program}{w:World}{A:Around}{E:Value->Shared->Prop}{s:Shared}
theorem WR {t sl:Addr}{items:Array Value}{vl vu:Value}{lo hi:Option Int}{Q:Value->Shared->Prop}(ht:IsTup s.heap t items)(hs:s.heap.IsSliceOf sl vl vu .none)(pl:IsPart vl lo)(pu:IsPart vu hi)
  (hw:Yg items.size 0 lo=0/\Yg items.size items.size hi=items.size)
  (h:Q (.ref t) s):wpAny (model prog w) A (getItem (.ref t) (.ref sl)) Q E s:=by
 obtain⟨os,hos,hcs,hds⟩:=id hs
 have hTs:s.TypeIs (.ref sl) "slice":=⟨os,hos,hcs⟩
 unfold getItem
 try with_reducible refine wpAny_holding ?_
 first|refine Zl (Zm ?_)|skip
 refine Zl (wpAny_sequenceKey ht.typeIs (by decide) ?_)
 refine Zl (wpAny_callSpecial?_slot (name:=Str.ofString "__getitem__") ht.typeIs PyProof.Rows.slot_tuple_getitem
  (wpAny_call_entry PyProof.Rows.slot_tuple_getitem ht.typeIs entry_tuple_getitem ?_ (args_tuple_getitem _ _)))
 show wpAny _ _ (Builtin.Tuple.tupleItemsOf (.ref t) >>= _) _ _ s
 refine Zl (tupleItemsOf_ ht ?_)
 refine Zl (wpAny_typeOf hTs ?_)
 rw[if_pos (by decide)]
 refine Zl (We hs pl pu ?_)
 have hyes:(((Yg items.size 0 lo:Nat):Int) == 0 && (1:Int) == 1 && (Yg items.size items.size hi-Yg items.size 0 lo) == items.size)=true:=by
  rw[hw.1,hw.2]
  simp
 show wpAny _ _ (if (((Yg items.size 0 lo:Nat):Int) == 0 && (1:Int) == 1 && (Yg items.size items.size hi-Yg items.size 0 lo) == items.size)=true then _ else _) _ _ s
 rw[if_pos hyes]
 refine Zl ?_
 unfold Builtin.Tuple.tupleIsExact
 refine Zl (wpAny_typeOf ht.typeIs (Zm ?_))
 rw[if_pos (by decide)]
 refine Zl (wpAny_rule ?_)
 first
  |exact Zm ⟨_,rfl,Zm h⟩
  |exact Zl (Zm ⟨_,rfl,Zm h⟩)
end
end HT
namespace L2
open PySem PySem.Spec PyProof.Rows
section
variable {X:Cx}
def ZhG (K:PySem.W.Frag):V->Option Int->Option Int->Hp->VK->Prop:=fun x lo hi H Q=>∃a xs,x=.ref a/\Y9 K H a xs/\(HT.Yg xs.length 0 lo=0/\HT.Yg xs.length xs.length hi=xs.length)/\Q (.ref a) H
theorem ZbW:SlR X (ZhG X.K):=by
 intro pins s σ H x v vl vu lo hi sl Q I rx hs pl pu h
 obtain⟨a,xs,rfl,hx,hw,q⟩:=h
 cases rx
 obtain⟨its,r,ht,hz⟩:=I.tuple hx
 have hlen:its.toArray.size=xs.length:=by rw[Zh];exact r.length.symm
 refine⟨"tuple",_,PyProof.Rows.slot_tuple_getitem.lookup,ht.typeIs,?_⟩
 exact HT.WR ht hs pl pu (by rw[hlen];exact hw) ⟨.ref a,H,I,rfl,q⟩
end
section
variable {X:Cx}
def Zgv (K:PySem.W.Frag)(neg:Bool):R2:=fun x y H Q=>∃p xs ds dx,y=.ref p/\(Wq K H p xs\/Y9 K H p xs)/\YN K H xs ds/\Xy K H x dx/\PyData.canLayAll0 ds=true/\dx.canLay0=true/\dx.depth<=60/\Q (.bl (if neg then !(ds.any fun y=>y.eqv dx) else ds.any fun y=>y.eqv dx)) H
theorem Za8 (hu:X.A.units+64<cLine):Jm X (compareOp .NotIn) (Zgv X.K true):=by
 intro pins s σ H x y v u Q I rx ry h
 obtain⟨p,xs,ds,dx,rfl,hq,hs,hd,c1,c2,dp,q⟩:=h
 cases ry
 obtain⟨bs,r1⟩:=I.reads hd rx
 rcases hq with hq|hq
 ·obtain⟨its,r,pl,hz⟩:=I.list hq
  obtain⟨as,ra⟩:=I.readsAll hs r
  refine SeqAt.notIn_listAt _ pl.isList (SeqAt.items_eqAt (by simpa using ra) r1 c1 c2 (by omega)) ⟨.bl _,H,I,rfl,?_⟩
  rw[SeqAt.any_by_data (by simpa using ra) c1]
  exact q
 ·obtain⟨its,r,pl,hz⟩:=I.tuple hq
  obtain⟨as,ra⟩:=I.readsAll hs r
  refine SeqAt.notIn_tupleAt _ pl (SeqAt.items_eqAt (by simpa using ra) r1 c1 c2 (by omega)) ⟨.bl _,H,I,rfl,?_⟩
  rw[SeqAt.any_by_data (by simpa using ra) c1]
  exact q
theorem ZgM (K:PySem.W.Frag)(hu:X.A.units+64<cLine)(hK:X.K=K:=by rfl):Jm X (compareOp .NotIn) (Zgv K true):=hK▸Za8 hu
end
theorem WE:∀ns:List Int,PyData.canLayAll0 (ns.map PyData.int)=true
 | []=>rfl
 |n::ns=>by
  show (PyData.canLay0 (.int n) && PyData.canLayAll0 (ns.map PyData.int))=true
  rw[WE ns]
  rfl
theorem Wm (ns:List Int):PyData.canLay0 (.tuple (ns.map PyData.int))=true:=WE ns
theorem Y8:∀yss:List (List Int),PyData.canLayAll0 (yss.map fun ns=>PyData.tuple (ns.map PyData.int))=true
 | []=>rfl
 |y::yss=>by
  show (PyData.canLay0 (.tuple (y.map PyData.int)) && PyData.canLayAll0 (yss.map fun ns=>PyData.tuple (ns.map PyData.int)))=true
  rw[Y8 yss,Wm]
  rfl
theorem Xj:∀ns:List Int,PyData.depthAll (ns.map PyData.int)<=1
 | []=>by decide
 |n::ns=>by
  have:=Xj ns
  show max (PyData.depth (.int n)) (PyData.depthAll (ns.map PyData.int))<=1
  have e:PyData.depth (.int n)<=1:=by simp[PyData.depth]
  omega
end L2
namespace L2
open PySem
theorem Jx (ns:List Int):PyData.depth (.tuple (ns.map PyData.int))<=60:=by
 have:=Xj ns
 show PyData.depthAll (ns.map PyData.int)+1<=60
 omega
end L2
namespace PyZ
open PySem
theorem Xo (l:Addr)(items:Array Value)(x:Value)(e:Value->Bool)(j:Nat)(hj:j<items.size)(hit:e items[j]=true)(hno:∀(m:Nat) (hm:m<items.size),m<j->e items[m]=false) :
  Meets (Builtin.«tuple.index» {pos:=[Value.ref l,x]}) fun A R s=>
   s.heap.IsTuple l items/\(∀(y:Value),y∈items->SeqAt.EqAt A.in1 s y x (e y))/\
    R (Except.ok (Flow.ret (Value.int (↑j) s.toks))) {heap:=s.heap,gens:=s.gens,drawn:=s.drawn,toks:=s.toks+1,os:=s.os}:=by
 intro prog w A R s h
 obtain⟨hl,he,h⟩:=h
 obtain⟨oa,ha,_,na,da⟩:=hl
 unfold Builtin.«tuple.index»
 refine Zl ?_
 show wpAny _ _ (pure (Value.ref l,[x])) _ _ s
 refine Zm ?_
 show wpAny _ _ (Builtin.Tuple.tupleItemsOf (Value.ref l) >>= _) _ _ s
 refine Zl ?_
 unfold Builtin.Tuple.tupleItemsOf
 refine Zl (wpAny_seqItems ha da ?_)
 refine Zm ?_
 show wpAny _ _ (pure 0 >>= _) _ _ s
 refine Zl (Zm ?_)
 show wpAny _ _ (pure items.size >>= _) _ _ s
 refine Zl (Zm ?_)
 refine Zl ?_
 rw[Nat.min_self,Std.Legacy.Range.forIn_eq_forIn_range']
 have hsz:(List.range' ([0:items.size]:Std.Legacy.Range).start ([0:items.size]:Std.Legacy.Range).size ([0:items.size]:Std.Legacy.Range).step)=List.range' 0 items.size:=by
  show List.range' 0 ((items.size-0+1-1) / 1) 1=_
  rw[Nat.div_one,Nat.sub_zero,Nat.add_sub_cancel]
 rw[hsz]
 refine wpAny_forIn_list _ (fun rest b s'=>s'=s/\b=(none,())/\∃k,rest=List.range' k (items.size-k)/\k<=j) _ ?_ ?_ _ _ ⟨rfl,rfl,0,rfl,Nat.zero_le _⟩
 ·rintro i rest b s' ⟨rfl,rfl,k,hr,hk⟩
  have hs:items.size-k=(items.size-(k+1))+1:=by omega
  rw[hs,List.range'_succ] at hr
  obtain⟨rfl,rfl⟩:=List.cons.inj hr
  have hi:i<items.size:=by omega
  rw[Array.getElem?_eq_getElem hi]
  show wpAny _ _ (eqBool items[i] x >>= _) _ _ _
  refine Zl (he items[i] (Array.getElem_mem hi) _ _ _ _ ?_)
  by_cases hij:i=j
  ·subst hij
   rw[hit,if_pos rfl]
   refine Zl ?_
   unfold retInt
   refine Zl (wpAny_mkInt ?_)
   refine Zm ?_
   refine Zm ?_
   show wpAny _ _ (pure _) _ _ _
   exact Zm h
  ·rw[hno i hi (by omega),if_neg Bool.false_ne_true]
   refine Zm ?_
   exact⟨rfl,rfl,i+1,rfl,by omega⟩
 ·rintro b s' ⟨rfl,rfl,k,hr,hk⟩
  have:items.size-k=0:=by
   have:=congrArg List.length hr
   rw[List.length_range'] at this
   exact this.symm
  omega
end PyZ
namespace L2
open PySem PySem.Spec PyProof.Rows
section
variable {X:Cx}
def Zeu (K:PySem.W.Frag):V->List V->Hp->VK->Prop:=fun x vs H Q=>∃p xs y,∃j:Nat,x=.ref p/\vs=[y]/\Y9 K H p xs/\Jb y=true/\xs.all Jb=true/\j<xs.length/\(∀z,xs[j]?=some z->eqV z y=true)/\(∀m z,m<j->xs[m]?=some z->eqV z y=false)/\Q (.int j) H
theorem Zbd:MtR X "tuple.index" (Zeu X.K):=by
 intro pins s σ H x vs v us Q I rx rv h
 obtain⟨p,xs,y,j,rfl,rfl,hq,fy,fs,hj,h1,h2,q⟩:=h
 cases rx
 obtain⟨u,rfl,ru⟩:=rv.one
 obtain⟨its,r,pl,hz⟩:=I.tuple hq
 have hl:=r.length
 have flat_at:∀(m:Nat) (z:V),xs[m]?=some z->Jb z=true:=fun m z hm=>List.all_eq_true.mp fs z (List.mem_of_getElem? hm)
 have eu:∀(m:Nat) (hm:m<its.toArray.size),∃z,xs[m]?=some z/\eqU y its.toArray[m]=eqV z y:=fun m hm=>by
  have hm':m<xs.length:=by rw[hl];simpa using hm
  obtain⟨w,hw,rw'⟩:=r.get (Zf hm')
  have hw2:its.toArray[m]=w:=by
   have:=(List.getElem?_eq_some_iff.mp hw).2
   simpa using this
  exact⟨_,Zf hm',by rw[hw2];exact ZcV rw' (flat_at m _ (Zf hm'))⟩
 have hjs:j<its.toArray.size:=by rw[Zh,<-hl];exact hj
 have tyI:s.TypeIs (.ref p) "tuple":=PySem.Heap.IsTuple.typeIs pl
 refine call_meets F.slot_tuple_index tyI F.entry_tuple_index (F.args_tuple_index_2 _ _) (PyZ.Xo p its.toArray u (eqU y) j hjs ?_ ?_) ⟨pl,fun w hw=>VY ru fy r fs w (by simpa using hw),?_⟩
 ·obtain⟨z,hz1,hz2⟩:=eu j hjs
  rw[hz2]
  exact h1 z hz1
 ·intro m hm hmj
  obtain⟨z,hz1,hz2⟩:=eu m hm
  rw[hz2]
  exact h2 m z hmj hz1
 ·exact⟨.int j,H,I.kept (t':=s.toks+1) fun b o e=>e,⟨_,rfl⟩,q⟩
def Zev (K:PySem.W.Frag):V->List V->Hp->VK->Prop:=fun x vs H Q=>∃p xs ds dy y,∃j:Nat,x=.ref p/\vs=[y]/\H p=some (.lst xs)/\YN K H xs ds/\Xy K H y dy/\PyData.canLayAll0 ds=true/\dy.canLay0=true/\dy.depth<=60/\j<ds.length/\(∀d,ds[j]?=some d->d.eqv dy=true)/\(∀m d,m<j->ds[m]?=some d->d.eqv dy=false)/\Q (.int j) H
theorem Zbe (hu:X.A.units+64<cLine):MtR X "list.index" (Zev X.K):=by
 intro pins s σ H x vs v us Q I rx rv h
 obtain⟨p,xs,ds,dy,y,j,rfl,rfl,hp,hs,hd,c1,c2,dp,hj,h1,h2,q⟩:=h
 cases rx
 obtain⟨u,rfl,ru⟩:=rv.one
 obtain⟨z,its,n,r,hl,e⟩:=I.lstM hp
 obtain⟨bs,r1⟩:=I.reads hd ru
 obtain⟨as,ra⟩:=I.readsAll hs r
 have hm:=SeqAt.readsAll_map ds its as c1 ra
 have hlen:its.length=ds.length:=by rw[<-hm,Za]
 have at':∀(m:Nat) (hh:m<its.toArray.size),ds[m]?=some (SeqAt.readOf s.heap its.toArray[m]):=fun m hh=>by
  have hh':m<its.length:=by simpa using hh
  rw[<-hm,Zc,Zf hh']
  simp
 have hjs:j<its.toArray.size:=by rw[Zh,hlen];exact hj
 have sz:=Xg
 refine call_meets F.slot_list_index ⟨_,e,rfl⟩ F.entry_list_index (F.args_list_index_2 _ _) (SeqAt.list_indexAt p its.toArray n none #[] u (fun y=>(SeqAt.readOf s.heap y).eqv dy) j hjs (by omega) (h1 _ (at' j hjs)) fun m hh hmj=>h2 m _ hmj (at' m hh)) ⟨e,SeqAt.items_eqAt (by simpa using ra) r1 c1 c2 (by omega),?_⟩
 exact⟨.int j,H,I.kept (t':=s.toks+1) fun b o e=>e,⟨_,rfl⟩,q⟩
theorem Zhp (K:PySem.W.Frag)(hK:X.K=K:=by rfl):MtR X "tuple.index" (Zeu K):=hK▸Zbd
theorem Zft (K:PySem.W.Frag)(hu:X.A.units+64<cLine)(hK:X.K=K:=by rfl):MtR X "list.index" (Zev K):=hK▸Zbe hu
end
end L2
namespace PyZ
open PySem PyProof PyProof.Rows
def Xr (n:Nat)(cmp:Nat->Nat->Bool){α:Type}:W.KasT α->Option α
 | .ret a=>some a
 | .ask i j k=>if i<n/\j<n then Xr n cmp (k (cmp i j)) else none
theorem XS {α:Type}{n:Nat}{cmp:Nat->Nat->Bool}{ask:Nat->Nat->(Bool->Shared->Prop)->Shared->Prop}{s:Shared}(h:∀i j C,i<n->j<n->C (cmp i j) s->ask i j C s):∀(t:W.KasT α) (a:α) (Q:α->Shared->Prop),Xr n cmp t=some a->Q a s->W.KasT.kasWp ask t Q s
 | .ret b,a,Q,e,q=>by
  cases (Option.some.inj e)
  exact q
 | .ask i j k,a,Q,e,q=>by
  rw[Xr] at e
  by_cases hh:i<n/\j<n
  ·rw[if_pos hh] at e
   exact h i j _ hh.1 hh.2 (XS h (k (cmp i j)) a Q e q)
  ·rw[if_neg hh] at e
   cases e
def ZdX (fin:Bool):List Int->List Int->Bool
 | [],_=>fin
 |_::_,[]=>fin
 |x::xs,y::ys=>if x=y then ZdX fin xs ys else decide (x<y)
def ltB (xs ys:List Int):Bool:=ZdX (decide (xs.length<ys.length)) xs ys
section
variable {prog:Program}{w:World}{A:Around}{E:Value->Shared->Prop}{s:Shared}
theorem ZcE {fin:Bool}{Q:Bool->Shared->Prop}:∀(us vs:List Value) (xs ys:List Int) (i:Nat),IntsAre us xs->IntsAre vs ys->Q (ZdX fin xs ys) s->W.KatLex prog w A true fin Q (us.zip vs) i s
 | [],vs,xs,ys,i,h1,h2,q=>by
  cases h1
  exact W.kat_nil q
 |_::_,[],xs,ys,i,h1,h2,q=>by
  cases h2
  cases xs with
  |nil=>exact W.kat_nil q
  |cons x xs=>exact W.kat_nil q
 |u::us,v::vs,xs,ys,i,h1,h2,q=>by
  cases h1 with
  |cons x t1 r1=>
   cases h2 with
   |cons y t2 r2=>
    rename_i xs ys
    rw[List.zip_cons_cons]
    refine W.kat_cons ?_
    refine SeqAt.EqAt.int_int _ _ _ _ prog w _ _ ?_
    rw[ZdX] at q
    by_cases e:x=y
    ·rw[if_pos e] at q
     rw[show (x == y)=true from beq_iff_eq.mpr e]
     exact W.kat_yes (ZcE us vs xs ys (i+1) r1 r2 q)
    ·rw[if_neg e] at q
     rw[show (x == y)=false from beq_eq_false_iff_ne.mpr e]
     refine W.kat_no ?_
     by_cases hi:i=0
     ·subst hi
      exact oneLt_int q
     ·have:(true && i == 0)=false:=by simp[hi]
      rw[this]
      exact W.kat_one _ _ (lt_int q)
def Zbs (h:Heap)(L:Addr):Heap:={h with objs:=h.objs.extract 0 L}
theorem Jf {h:Heap}{L b:Addr}(hb:b<L):(Zbs h L).get? b=h.get? b:=by
 unfold Zbs Heap.get?
 have:(h.objs.extract 0 L)[b]?=h.objs[b]?:=by
  rw[Array.getElem?_extract]
  by_cases h1:b<h.objs.size
  ·simp only[Nat.sub_zero,Nat.zero_add]
   rw[if_pos (show b<min L h.objs.size from Nat.lt_min.mpr ⟨hb,h1⟩)]
  ·rw[Array.getElem?_eq_none (Nat.le_of_not_lt h1)]
   split <;> simp_all
 simp only[this]
theorem XX {h:Heap}{L b:Addr}(hb:L<=b):(Zbs h L).get? b=none:=by
 unfold Zbs Heap.get?
 have:(h.objs.extract 0 L)[b]?=none:=by
  apply Array.getElem?_eq_none
  rw[Array.size_extract]
  exact Nat.le_trans (by rw[Nat.sub_zero];exact Nat.min_le_left ..) hb
 simp only[this]
def ZX (h:Heap)(L:Addr):List (Addr×Obj):=(List.range h.objs.size).filterMap fun a=>if L<a then (h.get? a).map fun o=>(a,o) else none
theorem Wk {h:Heap}{L:Addr}{p:Addr×Obj}:p∈ZX h L↔L<p.1/\h.get? p.1=some p.2:=by
 unfold ZX
 rw[List.mem_filterMap]
 constructor
 ·rintro⟨a,ha,e⟩
  by_cases hl:L<a
  ·rw[if_pos hl] at e
   cases q:h.get? a with
   |none=>rw[q] at e;cases e
   |some o=>
    rw[q] at e
    cases (Option.some.inj e)
    exact⟨hl,q⟩
  ·rw[if_neg hl] at e
   cases e
 ·rintro⟨hl,e⟩
  refine⟨p.1,List.mem_range.mpr (Zp e),?_⟩
  rw[if_pos hl,e]
  rfl
theorem Zay {h:Heap}:∀(as:List Addr) (yss:List (List Int)),as.length=yss.length->(∀(i:Nat) a,as[i]?=some a->∃(us:List Value) (ys:List Int),yss[i]?=some ys/\h.IsTuple a us.toArray/\IntsAre us ys/\ys≠[])->
  ∃fs:List Value,W.KatTups h (as.map Value.ref) fs/\fs.length=as.length/\∀v∈fs,∃n t,v=Value.int n t
 | [],[],_,_=>⟨[],W.KatTups.nil,rfl,fun v hv=>by cases hv⟩
 | [],_::_,h,_=>by cases h
 |_::_,[],h,_=>by cases h
 |a::as,ys::yss,hl,g=>by
  obtain⟨us,ys',e,⟨o,e1,c,n,d⟩,ia,ne⟩:=g 0 a rfl
  cases e
  obtain⟨fs,k,l,f⟩:=Zay as yss (Nat.succ.inj hl) fun i a' hi=>g (i+1) a' hi
  cases ia with
  |nil=>exact absurd rfl ne
  |cons z t r=>
   refine⟨Value.int z t::fs,W.KatTups.cons e1 c d (by simp) k,by rw[Zi,Zi,l],fun v hv=>?_⟩
   rcases List.mem_cons.mp hv with rfl|hv
   ·exact⟨_,_,rfl⟩
   ·exact f v hv
theorem VH {l L:Addr}{m:Str->Option Value}{as:List Addr}{yss:List (List Int)}{p:Array Nat}{Q:Value->Shared->Prop}(hNs:s.heap.Ns L m)(hl:s.heap.IsList l (as.map Value.ref).toArray)(n2:2<=as.length)(n64:as.length<64)(hy:as.length=yss.length)
  (ht:∀(i:Nat) a,as[i]?=some a->a≠L/\∃(us:List Value) (ys:List Int),yss[i]?=some ys/\s.heap.IsTuple a us.toArray/\IntsAre us ys/\ys≠[])
  (hp:Xr as.length (fun i j=>ltB (yss.getD i []) (yss.getD j [])) (W.kas_sort as.length)=some p)
  (q:∀D c h',s.heap.get? D=none->D≠L->(∀b o,b≠L->s.heap.get? b=some o->h'.get? b=some o)->h'.Ns L m->h'.get? D=some (W.listOf (p.toList.map fun i=>(as.map Value.ref).getD i Value.none).toArray c)->Q (.ref D) {s with heap:=h'}) :
  wpAny (model prog w) A (call (.builtin "sorted") [.ref l]) Q E s:=by
 have fr:Fr (Zbs s.heap L) L s.heap m:=by
  refine⟨hNs,fun b o e=>?_,?_⟩
  ·by_cases hb:b<L
   ·rw[Jf hb] at e;exact e
   ·rw[XX (Nat.le_of_not_lt hb)] at e
    cases e
  ·show (s.heap.objs.extract 0 L).size<=L
   rw[Array.size_extract,Nat.sub_zero]
   exact Nat.min_le_left ..
 have nw:News (Zbs s.heap L) L s.heap (ZX s.heap L):=fun x hx=>by
  obtain⟨h1,h2⟩:=Wk.mp hx
  exact⟨h2,Nat.ne_of_gt h1,XX (Nat.le_of_lt h1)⟩
 have lv:(as.map Value.ref).length=as.length:=List.length_map ..
 refine W.kat_sorted fr nw hl (by rw[lv];exact n2) (by rw[lv];exact n64) fun D e1 h' fr' nw' big=>?_
 have kept:∀b o,b≠L->s.heap.get? b=some o->h'.get? b=some o:=fun b o hb e=>by
  rcases Nat.lt_or_ge b L with h1|h1
  ·exact fr'.keep b o (by rw[Jf h1];exact e)
  ·exact (nw' (b,o) (List.mem_cons_of_mem _ (Wk.mpr ⟨Nat.lt_of_le_of_ne h1 (Ne.symm hb),e⟩))).1
 have dn:s.heap.get? D=none:=by
  cases e:s.heap.get? D with
  |none=>rfl
  |some o=>
   obtain⟨_,dL,dc⟩:=nw' _ (List.mem_cons_self ..)
   rcases Nat.lt_or_ge D L with h1|h1
   ·rw[Jf h1] at dc
    rw[dc] at e
    cases e
   ·exact absurd (big (D,o) (Wk.mpr ⟨Nat.lt_of_le_of_ne h1 (Ne.symm dL),e⟩)) (Nat.lt_irrefl _)
 have dL:D≠L:=(nw' _ (List.mem_cons_self ..)).2.1
 have ht':∀(i:Nat) a,as[i]?=some a->∃(us:List Value) (ys:List Int),yss[i]?=some ys/\h'.IsTuple a us.toArray/\IntsAre us ys/\ys≠[]:=fun i a hi=>by
  obtain⟨aL,us,ys,e,⟨o,g1,g2⟩,ia,ne⟩:=ht i a hi
  exact⟨us,ys,e,⟨o,kept a o aL g1,g2⟩,ia,ne⟩
 obtain⟨fs,kt,fl,fi⟩:=Zay as yss hy ht'
 refine W.kat_kind (T:=Value.type "int") kt (by omega) (fun v hv=>?_) (by decide +kernel) ?_
 ·obtain⟨n,t,rfl⟩:=fi v hv
  intro A Q E s' _ q
  exact Zm q
 ·rw[lv]
  have kb:(Value.type "int" != Value.type "tuple")=true:=by decide +kernel
  rw[kb]
  refine XS (cmp:=fun i j=>ltB (yss.getD i []) (yss.getD j [])) (fun i j C hi hj c=>?_) _ p _ hp ?_
  ·unfold W.kas_ask
   obtain⟨us,ys,e,⟨o,g1,g2,n1,g3⟩,ia,_⟩:=ht' i as[i] (Zf hi)
   obtain⟨us2,ys2,e2,⟨o2,k1,k2,n2',k3⟩,ia2,_⟩:=ht' j as[j] (Zf hj)
   have v1:(as.map Value.ref).getD i Value.none=.ref as[i]:=by
    rw[Zb,Zc,Zf hi]
    rfl
   have v2:(as.map Value.ref).getD j Value.none=.ref as[j]:=by
    rw[Zb,Zc,Zf hj]
    rfl
   have w1:yss.getD i []=ys:=by rw[Zb,e];rfl
   have w2:yss.getD j []=ys2:=by rw[Zb,e2];rfl
   rw[v1,v2]
   refine W.kat_lt g1 g3 k1 k3 ?_
   have il:∀{us:List Value}{ys:List Int},IntsAre us ys->us.length=ys.length:=fun {us ys} h=>by
    induction h with
    |nil=>rfl
    |cons _ _ _ ih=>rw[Zi,Zi,ih]
   refine ZcE us us2 ys ys2 0 ia ia2 ?_
   rw[w1,w2] at c
   unfold ltB at c
   rw[Zh,Zh,il ia,il ia2]
   exact c
  ·refine⟨_,_,fr',nw',W.UpdF.head (fun x hx=>Nat.ne_of_lt (big x hx)),fun h'' c fr'' nw''=>?_⟩
   refine q D c h'' dn dL (fun b o hb e=>?_) fr''.ns (nw'' _ (List.mem_cons_self ..)).1
   rcases Nat.lt_or_ge b L with h1|h1
   ·exact fr''.keep b o (by rw[Jf h1];exact e)
   ·exact (nw'' (b,o) (List.mem_cons_of_mem _ (Wk.mpr ⟨Nat.lt_of_le_of_ne h1 (Ne.symm hb),e⟩))).1
end
end PyZ
namespace L2
open PySem PySem.Spec PyProof.Rows
theorem ZT.there {P:Program}{w:World}{H:Hp}{h:Heap}{a:Addr}{o:HO}(x:ZT P w H h a o):∃ob,h.get? a=some ob:=by
 cases o with
 |lst xs=>obtain⟨_,_,_,_,e⟩:=x;exact⟨_,e⟩
 |tup xs=>obtain⟨_,_,_,ob,e,_⟩:=x;exact⟨_,e⟩
 |dK kvs=>obtain⟨_,_,_,_,o,_,_,e,_⟩:=x;exact⟨_,e⟩
 |dT kvs=>obtain⟨_,_,_,_,o,_,_,e,_⟩:=x;exact⟨_,e⟩
 |set S n=>obtain⟨o,_,_,_,e,_⟩:=x;exact⟨_,e⟩
 |ins C dx fs=>obtain⟨_,_,_,e,_⟩:=x;exact⟨_,e⟩
 |own y=>obtain⟨_,e⟩:=x;exact⟨_,e⟩
 |xd fs=>obtain⟨_,⟨_,_,_,e,_⟩,_⟩:=x;exact⟨_,e⟩
 |rng lo hi=>obtain⟨_,_,_,e⟩:=x;exact⟨_,e⟩
 |frz ob u=>obtain⟨e,_⟩:=x;exact⟨_,e⟩
 |tbl ps=>exact⟨_,(show h.get? a=some _ from x)⟩
 |met f y=>exact⟨_,(show h.get? a=some _ from x)⟩
 |ext φ=>obtain⟨_,⟨_,e⟩,_⟩:=x;exact⟨_,e⟩
section
variable {X:Cx}{pins:List (Addr×Obj)}{σ:St}{H:Hp}{s:Shared}
theorem Inv.newL {D:Addr}{c:Nat}{h':Heap}{m:Str->Option Value}{ys:List V}{its:List Value}(I:Inv X pins σ H s)(hm:s.heap.Ns X.env.locals m)
  (hl:∀(i:Nat) (x:Str) (v:V),X.N[i]?=some x->σ[i]?=some (some v)->Vis X.env.scope x->∃u,RelV v u/\Look X.env s.heap m x u)
  (dn:s.heap.get? D=none) (dL:D≠X.env.locals) (kept:∀b o,b≠X.env.locals->s.heap.get? b=some o->h'.get? b=some o) (hn':h'.Ns X.env.locals m) (hz:ys.length<=sizeLine) (hv:ZE ys its) (hD:h'.get? D=some {cls:=.type "list",data:=.seq its.toArray c}) :
  Inv X pins σ (upd H D (.lst ys)) {s with heap:=h'}/\H D=none:=by
 have hHD:H D=none:=by
  cases e:H D with
  |none=>rfl
  |some o=>
   obtain⟨ob,e2⟩:=(I.hok D o e).there
   rw[dn] at e2
   cases e2
 have neD:∀{b:Addr}{o:Obj},s.heap.get? b=some o->b≠D:=fun {b o} e z=>by rw[z,dn] at e;cases e
 have neH:∀{b:Addr}{o:HO},H b=some o->b≠D:=fun {b o} e z=>by rw[z,hHD] at e;cases e
 have neL:∀{b:Addr}{o:HO},H b=some o->b≠X.env.locals:=fun {b o} e z=>by rw[z,I.free] at e;cases e
 have bL:∀{b:Addr}{o:Obj},X.s₀.heap.get? b=some o->b≠X.env.locals:=fun {b o} e=>Nat.ne_of_lt (Nat.lt_of_lt_of_le (Zp e) I.ok.above)
 refine⟨⟨I.ok,I.os,I.bare,⟨fun b o e n hb hx=>?_,fun b o e n hb hx=>?_,fun b o e n hx=>?_,fun b o e hx=>?_,fun b xs e=>?_,fun b o u e=>?_,fun b ps e=>?_⟩,⟨m,hn',fun j y v e1 e2 e3=>?_⟩,fun y c' e=>?_,?_,fun y c' e=>?_,fun p hp=>?_,fun b ob e=>?_,I.len⟩,hHD⟩
 ·exact kept b o (bL e) (I.base.keep b o e n hb hx)
 ·obtain⟨sl,e1⟩:=I.base.slot b o e n hb hx
  exact⟨sl,kept b _ (bL e) e1⟩
 ·obtain⟨o',e1⟩:=I.base.there b o e hx
  rw[Zy (neD e1)]
  exact I.base.free b o e n hx
 ·obtain⟨o',e1⟩:=I.base.there b o e hx
  exact⟨o',kept b _ (bL e) e1⟩
 ·have:=I.base.tups b xs e
  rw[Zy (neH this)]
  exact this
 ·have:=I.base.frzs b o u e
  rw[Zy (neH this)]
  exact this
 ·obtain⟨more,this⟩:=I.base.tbls b ps e
  exact⟨more,by rw[Zy (neH this)];exact this⟩
 ·obtain⟨u,r,q⟩:=hl j y v e1 e2 e3
  refine⟨u,r,?_⟩
  rcases q with ⟨k,e⟩|⟨k,c',e,z⟩
  ·exact .inl ⟨k,e⟩
  ·obtain⟨o,g,rest⟩:=z
   exact .inr ⟨k,c',e,o,kept c' o (I.cne y c' e) g,rest⟩
 ·obtain⟨w',o,g,rest⟩:=I.cell y c' e
  exact⟨w',o,kept c' o (I.cne y c' e) g,rest⟩
 ·rw[Zy (Ne.symm dL)]
  exact I.free
 ·obtain⟨w',o,g,rest⟩:=I.cell y c' e
  rw[Zy (neD g)]
  exact I.freeC y c' e
 ·obtain⟨e,n,ne,nf,d⟩:=I.pin p hp
  exact⟨kept p.1 _ ne e,by rw[Zy (neD e)];exact n,ne,nf,d⟩
 ·by_cases hb:b=D
  ·subst hb
   rw[Zt] at e
   cases (Option.some.inj e)
   exact⟨hz,its,c,hv,hD⟩
  ·rw[Zy hb] at e
   refine (I.hok b ob e).stay (fun c' w' hc q=>kept c' w' ?_ q) (fun c' q=>?_) fun c' xs q=>?_
   ·rcases hc with rfl|hc
    ·exact neL e
    ·exact neL hc
   ·rw[Zy (neH q)]
    exact q
   ·rw[Zy (neH q)]
    exact q
theorem Jo:∀{as:List Addr}{us:List Value},ZE (as.map V.ref) us->us=as.map Value.ref
 | [],_,h=>by cases h;rfl
 |a::as,_,h=>by
  cases h with
  |cons r t=>rw[show _=Value.ref a from r,Jo t];rfl
theorem J0:∀{ns:List Int}{us:List Value},ZE (ns.map V.int) us->IntsAre us ns
 | [],_,h=>by cases h;exact .nil
 |n::ns,_,h=>by
  cases h with
  |cons r t=>
   obtain⟨k,rfl⟩:=r
   exact .cons n k (J0 t)
theorem XG:∀as:List Addr,ZE (as.map V.ref) (as.map Value.ref)
 | []=>.nil
 |a::as=>.cons rfl (XG as)
def ZeU:List V->Hp->VK->Prop:=fun xs H Q=>∃(l:Addr) (as:List Addr) (yss:List (List Int)) (p:Array Nat),xs=[.ref l]/\H l=some (.lst (as.map V.ref))/\as.length=yss.length/\2<=as.length/\as.length<64/\
 (∀(i:Nat) a,as[i]?=some a->∃ys,yss[i]?=some ys/\ys≠[]/\H a=some (.tup (ys.map V.int)))/\PyZ.Xr as.length (fun i j=>PyZ.ltB (yss.getD i []) (yss.getD j [])) (W.kas_sort as.length)=some p/\p.size<=64/\(∀i∈p.toList,i<as.length)/\
 ∀D,H D=none->Q (.ref D) (upd H D (.lst ((p.toList.map fun i=>as.getD i 0).map V.ref)))
theorem U5:ZN X (.builtin "sorted") ZeU:=by
 intro pins s σ H xs us Q I r h
 obtain⟨l,as,yss,p,rfl,hl,hy,n2,n64,ht,hp,hps,hpi,q⟩:=h
 obtain⟨u,rfl,ru⟩:=r.one
 cases ru
 obtain⟨m,hm,hlk⟩:=id I.loc
 obtain⟨z,its,n,rv,hlen,e⟩:=I.lstM hl
 have ei:=Jo rv
 subst ei
 have hil:s.heap.IsList l (as.map Value.ref).toArray:=(I.list (.of hl)).elim fun its' hh=>by
  obtain⟨rv',pl,_⟩:=hh
  have:=Jo rv'
  rw[this] at pl
  exact pl.isList
 refine PyZ.VH (yss:=yss) (p:=p) hm hil n2 n64 hy (fun i a hi=>?_) hp fun D c h' dn dL kept hn' hD=>?_
 ·obtain⟨ys,e1,ne,ha⟩:=ht i a hi
  obtain⟨us,rv',pt,_⟩:=I.tuple (.of ha)
  refine⟨fun z=>?_,us,ys,e1,pt,J0 rv',ne⟩
  rw[z,I.free] at ha
  cases ha
 ·have es:(p.toList.map fun i=>(as.map Value.ref).getD i Value.none)=(p.toList.map fun i=>as.getD i 0).map Value.ref:=by
   rw[List.map_map]
   refine List.map_congr_left fun i hi=>?_
   have:=hpi i hi
   show (as.map Value.ref).getD i Value.none=Value.ref (as.getD i 0)
   rw[Zb,Zc,Zf this,Zb,Zf this]
   rfl
  rw[es] at hD
  have szl:(16777216:Nat)=sizeLine:=by decide
  obtain⟨I',hH⟩:=I.newL (ys:=(p.toList.map fun i=>as.getD i 0).map V.ref) hm hlk dn dL kept hn' (by rw[Za,Za,Zr];omega) (XG _) hD
  exact⟨.ref D,_,I',rfl,q D hH⟩
end
section
variable {X:Cx}
def Tz (H:Hp)(a:Addr)(ys:List V):Prop:=∃o:Obj,H a=some (.frz o (.tup ys))/\o.cls=.type "tuple"/\o.dict=none
theorem Tz.sq {K:PySem.W.Frag}{H:Hp}{a:Addr}{ys:List V}(h:Tz H a ys):Y9 K H a ys:=by
 obtain⟨o,h,_⟩:=h
 exact .inl (.inr ⟨o,h⟩)
theorem Tz.mono {H H':Hp}{a:Addr}{ys:List V}(s:Zw H H')(h:Tz H a ys):Tz H' a ys:=by
 obtain⟨o,h,r⟩:=h
 exact⟨o,s _ _ h,r⟩
theorem Yf:ZN X (.type "tuple") (fun xs H Q=>∃p ys,xs=[.ref p]/\Wq X.K H p ys/\∀l H',H l=none->Zw H H'->Tz H' l ys->Q (.ref l) H'):=by
 intro pins s σ H xs us Q I r h
 obtain⟨p,ys,rfl,hq,q⟩:=h
 obtain⟨u,rfl,rx⟩:=vals1 r
 cases rx
 obtain⟨its,r',pl,hz⟩:=I.list hq
 have hlen:=r'.length
 refine call_tuple_list pl.isList (fun h' kp=>?_) (by simp only[Zh] <;> omega)
 have I1:Inv X pins σ H {s with heap:=h'}:=I.kept (t':=s.toks) kp
 have hf:=I1.hok.fresh (Zq _)
 have I2:Inv X pins σ (upd H h'.objs.size (.frz {cls:=.type "tuple",data:=.seq its.toArray} (.tup ys))) {s with heap:=h'.push {cls:=.type "tuple",data:=.seq its.toArray}}:=
  I1.laid (t':=s.toks) (fun b o e=>Zn _ e) (Zq _) ⟨Zo _ rfl,hz,its,r',IsTup.new _ _⟩
 exact⟨.ref h'.objs.size,_,I2,rfl,q _ _ hf (Zw.upd hf) ⟨_,Zt,rfl,rfl⟩⟩
variable {o e:Expr}{es:List Expr}{to:TE}{t:TA}{name:Str}{apos cpos:Pos}{id:String}{r:V->List V->Hp->VK->Prop}
def ZhA (r:V->List V->Hp->VK->Prop)(to:TE)(t:TA):TE:=fun σ H Q=>to σ H fun x H1=>(∃p ys,x=.ref p/\Tz H1 p ys)/\t σ H1 fun xs H2=>r x xs H2 Q
theorem Zfe (pa:PlainAttrs "tuple")(slot:Slot "tuple" name id)(hty:typeOf (.builtin id)=pure (.type "method_descriptor"))(hm:MtR X id r)(ho:PE X o to)(ha:PA X (e::es) t)
  (hbase:attributeBase o name X.env (eval o X.env)=eval o X.env:=by rfl)
  (hfew:((backTo cpos (starEach (e::es) X.env)).all (fun x=>!x.1) && (backToKw cpos (keywordEach [] X.env)).all (fun x=>x.1.isSome)
   && decide ((e::es).length+([]:List Keyword).length+(if ([]:List Keyword).isEmpty then 0 else 1)<30))=true:=by rfl)
  (hline:(apos.endLine == cpos.line)=true:=by rfl) (hs:starEach (e::es) X.env=(false,eval e X.env)::starEach es X.env:=by rfl) (hplain:(backTo cpos (starEach es X.env)).any (·.1)=false:=by rfl) :
  PE X (.Call (.Attribute o name apos) (e::es) [] cpos) (ZhA r to t):=by
 intro pins s σ H Q I h
 refine wpAny_Call_method_late hbase hfew hline rfl (Z8 (ho pins s σ H _ I h) fun v s1 ⟨x,H1,I1,r1,ty,q1⟩=>?_)
 obtain⟨p,ys,rfl,ob,hob,hc,hd⟩:=ty
 cases r1
 obtain⟨eo,_⟩:=I1.hok p _ hob
 refine⟨"tuple",id,pa,slot,hty,⟨ob,eo,hc⟩,fun a e=>?_,?_⟩
 ·cases e
  exact⟨ob,eo,hd⟩
 have hA:=ha cpos pins s1 σ H1 _ I1 q1
 rw[hs] at hA ⊢
 refine Calls.callWith_builtin (by show (false || (backTo cpos (starEach es X.env)).any (·.1))=false;rw[hplain] <;> rfl) (Calls.evalArgs_plain ?_)
 exact Z8 hA fun us s2 ⟨vs,H2,I2,r2,q2⟩=>hm pins s2 σ H2 (.ref p) vs (.ref p) us Q I2 rfl r2 q2
end
end L2
namespace PyZ
open PySem PySem.Spec PyProof.Rows
section
variable {prog:Program}{w:World}{A:Around}{E:Value->Shared->Prop}{s:Shared}
theorem Xv {R:List Value->Shared->Prop}{r:Addr}{a b c:Int}{t u v:Tok}{n:Nat}(hh:A.handled=none)(hr:IsRange s.heap r a b c t u v)(hsmall:Builtin.Range.small a b c=true)
  (hn:Builtin.Range.rangeSize a b c=n) (hlen:n<=2 ^ 24)
  (h:∀(h':Heap) (tk:Nat) (acc:Array Value),(∀b o,s.heap.get? b=some o->h'.get? b=some o)->ItemsOf (fun i v=>∃t,v=.int (a+i*c) t) acc n->R acc.toList {s with heap:=h',toks:=tk}) :
  wpAny (model prog w) A (collect (.ref r)) R E s:=by
 unfold collect
 refine Zl (wpAny_runValue (codeAny_builtin PySem.F.entry_proto_collect ?_))
 rw[Around.under_plainId PySem.F.plain_proto_collect _]
 show wpAny _ A.in1 (newList [] >>= fun l=>again (.builtin "list.__iadd__" ⟨[l,.ref r],[]⟩)) _ _ s
 refine Zl (wpAny_newObj_type ?_)
 refine Zm ⟨plainId_quiet PySem.F.plain_list_iadd _,codeAny_builtin PySem.F.entry_list_iadd ?_⟩
 rw[Around.under_plainId PySem.F.plain_list_iadd _]
 have hS₁:(s.heap.push {cls:=.type "list",data:=.seq ([]:List Value).toArray}).get? s.heap.objs.size=some {cls:=.type "list",data:=.seq #[]}:=Zo _ rfl
 show wpAny _ A.in1 (Builtin.List.listExtendWith (.ref s.heap.objs.size) (.ref r) (.ref s.heap.objs.size)) _ _ _
 have key:=wpAny_extend_range (prog:=prog) (w:=w) (A:=A) (s:={s with heap:=s.heap.push {cls:=.type "list",data:=.seq ([]:List Value).toArray}})
  (R:=fun (q:Result) (s':Shared)=>∃(h':Heap) (tk:Nat) (acc':Array Value) (c':Nat),q=.ok (.ret (.ref s.heap.objs.size))/\s'={s with heap:=h',toks:=tk}/\
   (∀b o,s.heap.get? b=some o->h'.get? b=some o)/\h'.get? s.heap.objs.size=some {cls:=.type "list",dict:=none,data:=.seq acc' c',slots:=#[]}/\ItemsOf (fun i v=>∃t,v=.int (a+i*c) t) acc' n)
  hh (Zn _ hr) hsmall hn hlen s.heap.objs.size (.ref s.heap.objs.size) 0 hS₁
  (fun h' tk acc' c' hk hS' hacc=>⟨h',tk,acc',c',rfl,rfl,fun b o e=>hk b o (Nat.ne_of_lt (Zp e)) (Zn _ e),hS',hacc⟩)
 refine wpAny_mono key (fun fin s' x=>?_) fun e s' x=>?_
 ·cases fin with
  |done f=>
   obtain⟨h',tk,acc',c',e,rfl,hk,hS',hacc⟩:=x
   cases e
   show wpAny _ A (load s.heap.objs.size >>= _) _ _ _
   refine Zl (wpAny_load hS' ?_)
   exact Zm (h h' tk acc' hk hacc)
  |again c₁=>
   refine⟨x.1,codeAny_mono x.2 fun q s₂ y=>?_⟩
   obtain⟨h',tk,acc',c',rfl,rfl,hk,hS',hacc⟩:=y
   show wpAny _ A (load s.heap.objs.size >>= _) _ _ _
   refine Zl (wpAny_load hS' ?_)
   exact Zm (h h' tk acc' hk hacc)
 ·obtain⟨_,_,_,_,e',_⟩:=x
  cases e'
theorem WB {Q₁:Value->Shared->Prop}{r:Addr}{a b c:Int}{t u v:Tok}{n:Nat}(hh:A.handled=none)(hr:IsRange s.heap r a b c t u v)(hsmall:Builtin.Range.small a b c=true)
  (hn:Builtin.Range.rangeSize a b c=n) (hlen:n<=2 ^ 24)
  (h:∀(h':Heap) (tk:Nat) (acc:Array Value),(∀b o,s.heap.get? b=some o->h'.get? b=some o)->ItemsOf (fun i v=>∃t,v=.int (a+i*c) t) acc n->
   Q₁ (.ref h'.objs.size) {s with heap:=h'.push {cls:=.type "tuple",data:=.seq acc},toks:=tk}) :
  codeAny (model prog w) A (.call (.builtin "tuple.__new__") ⟨[.type "tuple",.ref r],[]⟩) (wants Q₁ E) s:=by
 refine codeAny_of_tree ?_
 show wpAny _ A.in1 (do checkBuiltinCall "tuple.__new__" ⟨[.type "tuple",.ref r],[]⟩;again (.builtin "tuple.__new__" ⟨[.type "tuple",.ref r],[]⟩)) _ _ s
 refine Zl (wpAny_of_eq (PySem.F.newCall_tuple_1 _) (Zm ⟨plainId_quiet (show plainId "tuple.__new__"=true by decide +kernel) _,codeAny_builtin PySem.F.entry_tuple_new ?_⟩))
 rw[Around.under_plainId (show plainId "tuple.__new__"=true by decide +kernel) _]
 have hsub:=sub_tuple_self
 have hinit:=init_tuple_lookup
 have hmh:=madeHere_tuple
 have hTI:s.TypeIs (.ref r) "range":=⟨_,hr,rfl⟩
 have hsz:n<=sizeLine:=by
  have:(16777216:Nat)=sizeLine:=by decide
  omega
 wp_walk using wpAny_typeOf hTI,Xv (A:=A.in1) hh hr hsmall hn hlen
 intro h' tk acc hm hacc
 show wpAny _ _ (Builtin.Tuple.tupleExact acc.toList.toArray >>= fun v=>ret v) _ _ _
 unfold Builtin.Tuple.tupleExact
 refine Zl (wpAny_newObj_type ?_ (by show acc.toList.toArray.size<=sizeLine;simp only[Array.toArray_toList];rw[hacc.1];exact hsz))
 refine Zm ?_
 have e:acc.toList.toArray=acc:=by simp
 rw[e]
 exact h h' tk acc hm hacc
theorem Jz {Q:Value->Shared->Prop}{r:Addr}{a b c:Int}{t u v:Tok}{n:Nat}(hh:A.handled=none)(hr:IsRange s.heap r a b c t u v)(hsmall:Builtin.Range.small a b c=true)
  (hn:Builtin.Range.rangeSize a b c=n) (hlen:n<=2 ^ 24)
  (h:∀(h':Heap) (tk:Nat) (acc:Array Value),(∀b o,s.heap.get? b=some o->h'.get? b=some o)->ItemsOf (fun i v=>∃t,v=.int (a+i*c) t) acc n->
   Q (.ref h'.objs.size) {s with heap:=h'.push {cls:=.type "tuple",data:=.seq acc},toks:=tk}) :
  wpAny (model prog w) A (call (.type "tuple") [.ref r]) Q E s:=by
 refine callType_codes (Q₁:=fun obj s₁=>s₁.TypeIs obj "tuple"/\Q obj s₁) PySem.F.called_tuple (PySem.F.typeCall_tuple_1 _) PySem.F.entry_object_init
  (WB (A:=A.in1) hh hr hsmall hn hlen fun h' tk acc hk hacc=>⟨⟨_,Zo _ rfl,rfl⟩,h h' tk acc hk hacc⟩) fun obj s₁ h₁=>?_
 exact⟨h₁.1,PySem.F.args_object_init_2 obj _,object_init_meets PySem.F.called_tuple.init.lookup PySem.F.called_tuple.made (by decide) prog w A.in1 _ s₁ ⟨h₁.1,rfl,h₁.2⟩⟩
end
end PyZ
namespace L2
open PySem PySem.Spec PyProof.Rows
section
variable {X:Cx}
theorem Xl (hc:X.calm=true):ZN X (.type "tuple") (fun xs H Q=>∃(a:Addr) (lo hi:Int),xs=[.ref a]/\H a=some (.rng lo hi)/\(-(2 ^ 62)<=lo/\lo<2 ^ 62/\-(2 ^ 62)<=hi/\hi<2 ^ 62)/\(hi-lo).toNat<=sizeLine/\
  ∀l,H l=none->Q (.ref l) (upd H l (.tup ((Yk lo (hi-lo).toNat).map V.int)))):=by
 intro pins s σ H xs us Q I r h
 obtain⟨a,lo,hi,rfl,ha,⟨b1,b2,b3,b4⟩,hz,q⟩:=h
 obtain⟨u,rfl,ru⟩:=vals1 r
 cases ru
 obtain⟨t,u,v,e⟩:=(show ∃t u v,s.heap.get? a=some {cls:=.type "range",data:=.fields #[.int lo t,.int hi u,.int 1 v]} from I.hok a _ ha)
 refine PyZ.Jz (n:=(hi-lo).toNat) (I.ok.hd hc) e (small_one b1 b2 b3 b4) (by rw[rangeSize_one];split <;> omega) hz fun h' tk acc hk hit=>?_
 have I1:Inv X pins σ H {s with heap:=h',toks:=tk}:=I.kept (t':=tk) hk
 have I2:Inv X pins σ (upd H h'.objs.size (.tup ((Yk lo (hi-lo).toNat).map V.int))) {s with heap:=h'.push {cls:=.type "tuple",data:=.seq acc},toks:=tk}:=
  I1.laid (t':=tk) (fun b o e=>Zn _ e) (Zq _) (show ZT X.prog X.w _ _ _ (.tup ((Yk lo (hi-lo).toNat).map V.int)) from ⟨by rw[Za,Yw];exact hz,acc.toList,XB hit,by simpa using IsTup.new _ _⟩)
 exact⟨.ref h'.objs.size,_,I2,rfl,q _ (I1.hok.fresh (Zq _))⟩
end
end L2
namespace PyS
open PySem PySem.SetTable
end PyS
namespace PyS
open PySem
section
variable {prog:Program}{w:World}{A:Around}{E:Value->Shared->Prop}{s:Shared}{I a:Addr}{es:Array (Int×Value)}{ep:Nat}{t:SetTable}{first:Value}{i n:Nat}
end
section
variable {prog:Program}{w:World}{A:Around}{E:Value->Shared->Prop}{s:Shared}{I a:Addr}{es:Array (Int×Value)}{ep:Nat}{t:SetTable}{first:Value}{i n:Nat}
end
end PyS
namespace PyS
open PySem PySem.W PyProof.Rows PySem.Calls PyProof.V PySem.Spec
section
variable {prog:Program}{w:World}{A:Around}{E:Value->Shared->Prop}{s:Shared}{a:Addr}{es:Array (Int×Value)}{ep:Nat}{t:SetTable}
section
variable {T:String}{n:Nat}{Good:(Nat->Value->Prop)->Prop}{OK:Heap->Prop}
end
section
variable {K:Type} [DecidableEq K]{knd:PySem.KeyKind prog w K}{kvs:List (K×Value)}
end
end
section
variable {prog:Program}{w:World}{A:Around}{E:Value->Shared->Prop}{s:Shared}{a:Addr}
end
section
variable {prog:Program}{w:World}{A:Around}{R:Result->Shared->Prop}{I:Addr}{fp wr:List Addr}{G:Array GenState->Array GenState->Prop}{n:Nat}{P:Nat->Value->Prop}{St:Nat->Shared->Prop}
end
section
variable {prog:Program}{w:World}{A:Around}{E:Value->Shared->Prop}{s:Shared}
end
end PyS
namespace L2
open PySem PySem.Spec PyProof.Rows
section
variable {X:Cx}{pins:List (Addr×Obj)}{σ:L2.St}{H:Hp}{s:Shared}
end
section
variable {X:Cx}{pins:List (Addr×Obj)}{σ:L2.St}{H:Hp}{s:Shared}
end
end L2
namespace PyY
open PySem
open AutoSeq1 (wpAny_loadPart')
section
variable {prog:Program}{w:World}{A:Around}{E:Value->Shared->Prop}{s:Shared}
theorem UQ {j a:Addr}{k:Nat}{us:Array Value}{y:Value}{Q:Value->Shared->Prop}(c:s.heap.IsTupleIter j a k)(d:s.heap.IsTuple a us)(e:us[k]?=some y)
  (q:∀g,g.IsTupleIter j a (k+1)->Heap.SameBut j s.heap g->Q y {s with heap:=g}):wpAny (model prog w) A (Builtin.SmallTypes.nextOf (.ref j)) Q E s:=by
 obtain⟨oj,hj,cj,dj⟩:=id c
 obtain⟨oa,ha,_,na,da⟩:=d
 unfold Builtin.SmallTypes.nextOf
 refine Zl (wpAny_callSpecial?_slot (name:=Str.ofString "__next__") c.typeIs F.slot_tuple_iterator_next (wpAny_call_entry F.slot_tuple_iterator_next c.typeIs F.entry_tuple_iterator_next ?_ (F.args_tuple_iterator_next_1 _)))
 show wpAny _ _ (field (.ref j) 0 >>= _) _ _ s
 refine Zl (wpAny_field hj dj (x:=.ref a) rfl ?_)
 show wpAny _ _ (if (Value.ref a == Value.none)=true then _ else _) _ _ s
 rw[if_neg (show ¬((Value.ref a == Value.none)=true) from Bool.false_ne_true)]
 show wpAny _ _ (field (.ref j) 1 >>= _) _ _ s
 refine Zl (wpAny_field hj dj (x:=.int k 0) rfl ?_)
 show wpAny _ _ (seqItems? (.ref a) >>= _) _ _ s
 refine Zl (wpAny_seqItems ha da ?_)
 simp only[Zj,e]
 refine Zl (wpAny_setField hj dj (by simp) (Zm ⟨y,rfl,Zm (q _ ?_ (Heap.SameBut.update ..))⟩))
 refine⟨_,Heap.get?_update_self _ hj (Obj.isFreed_of_fields (Obj.data_mapFields dj _)),(Obj.cls_mapFields ..).trans cj,?_⟩
 rw[Obj.data_mapFields dj]
 simp[rawInt]
theorem Zbc {j a:Addr}{k:Nat}{us:Array Value}{Q:Value->Shared->Prop}(hn:A.handled=none)(c:s.heap.IsTupleIter j a k)(d:s.heap.IsTuple a us)(e:us[k]?=none)
  (q:∀g x,Heap.ExtBut j s.heap g->(∃o,g.get? x=some o/\o.cls=.type "StopIteration")->E (.ref x) {s with heap:=g}):wpAny (model prog w) A (Builtin.SmallTypes.nextOf (.ref j)) Q E s:=by
 obtain⟨oj,hj,cj,dj⟩:=id c
 obtain⟨oa,ha,_,na,da⟩:=d
 unfold Builtin.SmallTypes.nextOf
 refine Zl (wpAny_callSpecial?_slot (name:=Str.ofString "__next__") c.typeIs F.slot_tuple_iterator_next (wpAny_call_entry F.slot_tuple_iterator_next c.typeIs F.entry_tuple_iterator_next ?_ (F.args_tuple_iterator_next_1 _)))
 show wpAny _ _ (field (.ref j) 0 >>= _) _ _ s
 refine Zl (wpAny_field hj dj (x:=.ref a) rfl ?_)
 show wpAny _ _ (if (Value.ref a == Value.none)=true then _ else _) _ _ s
 rw[if_neg (show ¬((Value.ref a == Value.none)=true) from Bool.false_ne_true)]
 show wpAny _ _ (field (.ref j) 1 >>= _) _ _ s
 refine Zl (wpAny_field hj dj (x:=.int k 0) rfl ?_)
 show wpAny _ _ (seqItems? (.ref a) >>= _) _ _ s
 refine Zl (wpAny_seqItems ha da ?_)
 simp only[Zj,e]
 refine Zl (wpAny_rule (Zl (wpAny_setField hj dj (by simp) ?_)))
 show wpAny _ _ (newExc (.type "StopIteration") [] >>= _) _ _ {s with heap:=_}
 refine Zl ?_
 unfold newExc newTuple
 refine Zl (wpAny_newObj_type (Q:=_) ?_ (by size_fits))
 refine Zl (m:=firstArgMember _ _) (wpAny_of_eq (a:=Value.none) (by first|rfl|(unfold firstArgMember;rfl)) ?_)
 refine wpAny_newObj_type (Q:=_) ?_ (by size_fits)
 unfold raiseNew
 refine Zl (wpAny_handled ?_)
 have hn':A.in1.handled=none:=hn
 rw[hn']
 refine Zl (Zm (wpAny_throw (E:=E) ?_))
 exact q _ _ (((Heap.SameBut.update ..).extBut.push _).push _) ⟨_,Zo _ rfl,rfl⟩
theorem UX {n j a:Addr}{k:Nat}{us:Array Value}{y old:Value}{Q:Option Value->Shared->Prop}(b:IsEnum s.heap n j k old)(c:s.heap.IsTupleIter j a k)(d:s.heap.IsTuple a us)(e:us[k]?=some y)(nj:n≠j)
  (q:∀g,IsEnumOut g n j ((k:Int)+1) y s.heap.objs.size->g.IsTupleIter j a (k+1)->g.get? s.heap.objs.size=some {cls:=.type "tuple",data:=.seq #[.int k s.toks,y]}->g.objs.size=s.heap.objs.size+1->
   (∀x o,x≠n->x≠j->s.heap.get? x=some o->g.get? x=some o)->Q (some (.ref s.heap.objs.size)) {s with heap:=g,toks:=s.toks+1}):wpAny (model prog w) A (pyNext (.ref n)) Q E s:=by
 have tn:s.TypeIs (.ref n) "enumerate":=⟨_,b,rfl⟩
 unfold pyNext
 refine Zl (wpAny_attempt (wpAny_callSpecial?_slot (name:=Str.ofString "__next__") tn F.slot_enumerate_next (wpAny_call_entry F.slot_enumerate_next tn F.entry_enumerate_next ?_ (F.args_enumerate_next_1 _))))
 obtain⟨g0,gs,dr,tk,os⟩:=s
 show wpAny _ _ (field (.ref n) 2 >>= _) _ _ _
 refine Zl (wpAny_field b rfl (x:=.ref j) rfl ?_)
 refine Zl (UQ c d e fun g1 c1 s1=>?_)
 replace s1:Heap.SameBut j g0 g1:=s1
 have b1:IsEnum g1 n j k old:=(s1.2 n nj).trans b
 show wpAny _ _ (field (.ref n) 3 >>= _) _ _ ⟨g1,gs,dr,tk,os⟩
 refine Zl (wpAny_field b1 rfl (x:=rawInt k) rfl ?_)
 show wpAny _ _ (field (.ref n) 4 >>= _) _ _ ⟨g1,gs,dr,tk,os⟩
 refine Zl (wpAny_field b1 rfl (x:=.none) rfl ?_)
 show wpAny _ _ (mkInt k >>= _) _ _ ⟨g1,gs,dr,tk,os⟩
 refine Zl (wpAny_mkInt ?_)
 show wpAny _ _ (setField (.ref n) 3 (rawInt ((k:Int)+1)) >>= _) _ _ ⟨g1,gs,dr,tk+1,os⟩
 refine Zl (wpAny_setField_rec b1 (by simp) fun g2 b2 s2=>?_)
 replace s2:Heap.SameBut n g1 g2:=s2
 replace b2:IsEnum g2 n j ((k:Int)+1) old:=b2
 show wpAny _ _ (setField (.ref n) 4 .none >>= _) _ _ ⟨g2,gs,dr,tk+1,os⟩
 refine Zl (wpAny_setField_rec b2 (by simp) fun g3 b3 s3=>?_)
 replace s3:Heap.SameBut n g2 g3:=s3
 replace b3:IsEnum g3 n j ((k:Int)+1) old:=b3
 show wpAny _ _ (newTuple [.int k tk,y] >>= _) _ _ ⟨g3,gs,dr,tk+1,os⟩
 refine Zl (wpAny_newTuple ?_)
 have b4:IsEnum (g3.push {cls:=.type "tuple",data:=.seq #[.int k tk,y]}) n j ((k:Int)+1) old:=Zn _ b3
 generalize z4:g3.push {cls:=.type "tuple",data:=.seq #[.int k tk,y]}=g4 at b4
 have sz:g3.objs.size=g0.objs.size:=by rw[s3.1,s2.1,s1.1]
 have nl:n<g0.objs.size:=Zp b
 have t4:g4.get? g0.objs.size=some {cls:=.type "tuple",data:=.seq #[.int k tk,y]}:=by
  rw[<-z4,<-sz]
  exact Zo _ rfl
 have w4:g4.objs.size=g0.objs.size+1:=by
  rw[<-z4,Heap.size_push,sz]
 have k4:∀x o,x≠n->x≠j->g0.get? x=some o->g4.get? x=some o:=fun x o xn xj hx=>by
  rw[<-z4]
  exact Zn _ (s3.extBut x o xn (s2.extBut x o xn (s1.extBut x o xj hx)))
 have c4:g4.IsTupleIter j a (k+1):=by
  obtain⟨o,ho,r⟩:=(c1.extBut s2.extBut (Ne.symm nj)).extBut s3.extBut (Ne.symm nj)
  rw[<-z4]
  exact⟨o,Zn _ ho,r⟩
 show wpAny _ _ (Builtin.SmallTypes.ownedTupleIsFree (.ref n) >>= _) _ _ ⟨g4,gs,dr,tk+1,os⟩
 rw[sz]
 clear z4 b3 s3 b2 s2 b1 s1 c1 sz g3 g2 g1
 refine Zl ?_
 unfold Builtin.SmallTypes.ownedTupleIsFree
 refine Zl (wpAny_field b4 rfl (x:=.none) rfl (Zm ?_))
 rw[if_pos rfl]
 refine Zl (wpAny_rule (Zl (wpAny_field b4 rfl (x:=old) rfl ?_)))
 refine Zl (wpAny_setField_rec b4 (by simp) fun g5 b5 s5=>?_)
 replace s5:Heap.SameBut n g4 g5:=s5
 replace b5:IsEnum g5 n j ((k:Int)+1) y:=b5
 show wpAny _ _ (Builtin.SmallTypes.ownedTupleHandOut (.ref n) (.ref g0.objs.size) >>= _) _ _ ⟨g5,gs,dr,tk+1,os⟩
 refine Zl ?_
 unfold Builtin.SmallTypes.ownedTupleHandOut
 refine Zl (wpAny_setField_rec b5 (by simp) fun g6 b6 s6=>?_)
 replace s6:Heap.SameBut n g5 g6:=s6
 replace b6:IsEnumOut g6 n j ((k:Int)+1) y g0.objs.size:=b6
 refine wpAny_setField_rec b6 (by simp) fun g7 b7 s7=>?_
 replace s7:Heap.SameBut n g6 g7:=s7
 replace b7:IsEnumOut g7 n j ((k:Int)+1) y g0.objs.size:=b7
 refine Zl (wpAny_letGo (Zm ⟨_,rfl,Zm (q g7 b7 ?_ ?_ ?_ ?_)⟩))
 ·exact ((c4.extBut s5.extBut (Ne.symm nj)).extBut s6.extBut (Ne.symm nj)).extBut s7.extBut (Ne.symm nj)
 ·exact s7.extBut _ _ (Nat.ne_of_gt nl) (s6.extBut _ _ (Nat.ne_of_gt nl) (s5.extBut _ _ (Nat.ne_of_gt nl) t4))
 ·rw[s7.1,s6.1,s5.1,w4]
 ·exact fun x o xn xj hx=>s7.extBut x o xn (s6.extBut x o xn (s5.extBut x o xn (k4 x o xn xj hx)))
theorem Zbp {n j a:Addr}{k:Nat}{us:Array Value}{old:Value}{Q:Option Value->Shared->Prop}(hn:A.handled=none)(b:IsEnum s.heap n j k old)(c:s.heap.IsTupleIter j a k)(d:s.heap.IsTuple a us)(e:us[k]?=none)
  (q:∀g,Heap.ExtBut j s.heap g->Q none {s with heap:=g}):wpAny (model prog w) A (pyNext (.ref n)) Q E s:=by
 have tn:s.TypeIs (.ref n) "enumerate":=⟨_,b,rfl⟩
 unfold pyNext
 refine Zl (wpAny_attempt (wpAny_callSpecial?_slot (name:=Str.ofString "__next__") tn F.slot_enumerate_next (wpAny_call_entry F.slot_enumerate_next tn F.entry_enumerate_next ?_ (F.args_enumerate_next_1 _))))
 show wpAny _ _ (field (.ref n) 2 >>= _) _ _ _
 refine Zl (wpAny_field b rfl (x:=.ref j) rfl ?_)
 refine Zl (Zbc hn c d e fun g x xe xs=>?_)
 obtain⟨o,ho,hc⟩:=xs
 refine Zl (wpAny_isInstance (T:="StopIteration") (b:=true) ⟨o,ho,hc⟩ isSubtype_stop ?_)
 exact Zm (q _ xe)
theorem Zbo (a:Addr)(us:Array Value)(n:Nat)(dd:Option Addr)(sl:Array (Option Value)) :
  Meets (Builtin.«enumerate.__new__» ⟨[.type "enumerate",.ref a],[]⟩) (fun _ R s=>s.heap.get? a=some {cls:=.type "tuple",dict:=dd,data:=.seq us n,slots:=sl}/\
   R (.ok (.ret (.ref (s.heap.push {cls:=.type "tuple_iterator",data:=.fields #[.ref a,.int 0 0]}).objs.size)))
    {s with heap:=(s.heap.push {cls:=.type "tuple_iterator",data:=.fields #[.ref a,.int 0 0]}).push {cls:=.type "enumerate",data:=.fields #[.none,.bool false,.ref s.heap.objs.size,rawInt 0,.none,.none]}}):=
 .of_wp fun prog w A R s h=>by
  obtain⟨hh,gg,dr,tk,os⟩:=s
  obtain⟨ha,h⟩:=h
  have sub:=sub_enumerate
  have hT:Heap.IsTuple (Shared.heap ⟨hh,gg,dr,tk,os⟩) a us:=⟨_,ha,rfl,n,rfl⟩
  wp_walk using wpAny_loadPart' ha
  refine wpAny_stack_any fun st=>Zm ?_
  split
  ·rename_i c1 _ _ _ _ _
   cases (c1 == Value.type "enumerate") <;> (wp_walk using wpAny_loadPart' ha,wpAny_pyIter_tuple hT) <;> exact⟨_,rfl,h⟩
  ·wp_walk using wpAny_loadPart' ha,wpAny_pyIter_tuple hT
   exact⟨_,rfl,h⟩
theorem U6 {a:Addr}{us:Array Value}{Q:Value->Shared->Prop}(hT:s.heap.IsTuple a us)
  (h:∀g,IsEnum g (s.heap.objs.size+1) s.heap.objs.size 0 .none->g.IsTupleIter s.heap.objs.size a 0->g.objs.size=s.heap.objs.size+2->(∀b o,s.heap.get? b=some o->g.get? b=some o)->Q (.ref (s.heap.objs.size+1)) {s with heap:=g}) :
  wpAny (model prog w) A (call (.type "enumerate") [.ref a]) Q E s:=by
 obtain⟨⟨cc,dd,dt,sl⟩,ha,hc,n,hd⟩:=hT
 have hc':cc=.type "tuple":=hc
 have hd':dt=.seq us n:=hd
 subst hc' hd'
 refine callType_new F.called_enumerate (by decide) (F.typeCall_enumerate_1 _) (F.newCall_enumerate_1 _) (fun obj=>F.args_object_init_2 obj _) F.entry_enumerate_new (Zbo a us n dd sl) ⟨ha,?_⟩
 have hz:(s.heap.push {cls:=.type "tuple_iterator",data:=.fields #[.ref a,.int 0 0]}).objs.size=s.heap.objs.size+1:=Heap.size_push ..
 show _/\_
 rw[hz]
 have he:IsEnum ((s.heap.push {cls:=.type "tuple_iterator",data:=.fields #[.ref a,.int 0 0]}).push {cls:=.type "enumerate",data:=.fields #[.none,.bool false,.ref s.heap.objs.size,rawInt 0,.none,.none]}) (s.heap.objs.size+1) s.heap.objs.size 0 .none:=by
  have z:=Zo (s.heap.push {cls:=.type "tuple_iterator",data:=.fields #[.ref a,.int 0 0]}) (o:={cls:=.type "enumerate",data:=.fields #[.none,.bool false,.ref s.heap.objs.size,rawInt 0,.none,.none]}) rfl
  rw[hz] at z
  exact z
 exact⟨⟨_,he,rfl⟩,h _ he ⟨_,Zn _ (Zo _ rfl),rfl,rfl⟩ (by rw[Heap.size_push,hz]) fun b o y=>Zn _ (Zn _ y)⟩
end
end PyY
namespace L2
open PySem PySem.Spec PyProof.Rows
section
variable {X:Cx}{pins:List (Addr×Obj)}{σ:St}{H:Hp}{s:Shared}{h':Heap}
theorem Inv.turnLay {t':Nat}{ts:List Addr}{T:Addr}{o:HO}(I:Inv X pins σ H s)(k:∀b u,b∉ts->s.heap.get? b=some u->h'.get? b=some u)(ht:∀b∈ts,∃u,h'.get? b=some u)(hf:∀b∈ts,XA X pins H b)(hT:s.heap.objs.size<=T)
  (new:ZT X.prog X.w (upd H T o) h' T o):Inv X pins σ (upd H T o) {s with heap:=h',toks:=t'}:=by
 have fT:H T=none:=I.hok.fresh hT
 have nts:∀b u,H b=some u->b∉ts:=fun b u e z=>by
  have:=(hf b z).1
  rw[e] at this
  cases this
 refine I.call (ch:=ts) (g':=s.gens) (d':=s.drawn) ⟨fun b u e _ _ nx=>k b u nx e,fun b u e _ _ nx=>⟨u.slots,k b u nx e⟩,fun b u e n _=>?_,fun b u e nx=>⟨u,k b u nx e⟩,fun b ys q=>?_,fun b u v q=>?_,fun b ps q=>⟨#[],?_⟩⟩
  (fun b u e=>?_) I.bare fun b hb=>?_
 ·rw[Zy (Nat.ne_of_lt (Nat.lt_of_lt_of_le (Zp e) hT))]
  exact n
 ·rw[Zy (ZA q fT)]
  exact q
 ·rw[Zy (ZA q fT)]
  exact q
 ·rw[Zy (ZA q fT),q]
  simp
 ·by_cases hb:b=T
  ·subst hb
   rw[Zt] at e
   cases e
   exact new
  ·rw[Zy hb] at e
   refine (I.hok b u e).stay (fun c v hc q=>k c v ?_ q) (fun c r=>by rw[Zy (ZA r fT)];exact r) fun c ys r=>by rw[Zy (ZA r fT)];exact r
   rcases hc with z|z
   ·rw[z]
    exact nts b u e
   ·exact nts c _ z
 ·obtain⟨f0,f1,f2,f3,f4,f5⟩:=hf b hb
  exact⟨f3,f1,f4,f5⟩
theorem Inv.turnedL {t':Nat}{ts:List Addr}(I:Inv X pins σ H s)(k:∀b u,b∉ts->s.heap.get? b=some u->h'.get? b=some u)(hf:∀b∈ts,XA X pins H b):Inv X pins σ H {s with heap:=h',toks:=t'}:=by
 have nts:∀b u,H b=some u->b∉ts:=fun b u e z=>by
  have:=(hf b z).1
  rw[e] at this
  cases this
 refine I.call (ch:=ts) (g':=s.gens) (d':=s.drawn) ⟨fun b u e _ _ nx=>k b u nx e,fun b u e _ _ nx=>⟨u.slots,k b u nx e⟩,fun b u e n _=>n,fun b u e nx=>⟨u,k b u nx e⟩,fun b ys q=>q,fun b u v q=>q,fun b ps q=>⟨#[],by rw[q];simp⟩⟩
  (fun b u e=>?_) I.bare fun b hb=>?_
 ·refine (I.hok b u e).stay (fun c v hc q=>k c v ?_ q) (fun c r=>r) fun c ys r=>r
  rcases hc with z|z
  ·rw[z]
   exact nts b u e
  ·exact nts c _ z
 ·obtain⟨f0,f1,f2,f3,f4,f5⟩:=hf b hb
  exact⟨f3,f1,f4,f5⟩
end
def ZfV (K:PySem.W.Frag)(a:Addr):It:=
 ⟨fun i H=>∃xs x,Wq K H a xs/\xs[i]?=some x,fun i H x H'=>∃T y,x=.ref T/\H T=none/\H'=upd H T (.tup [.int i,y])/\∀xs,Wq K H a xs->xs[i]?=some y,fun i H=>∃xs,Wq K H a xs/\xs.length<=i⟩
def ZfT (K:PySem.W.Frag)(a:Addr):It:=
 ⟨fun i H=>∃xs x,Y9 K H a xs/\xs[i]?=some x,fun i H x H'=>∃T y,x=.ref T/\H T=none/\H'=upd H T (.tup [.int i,y])/\∀xs,Y9 K H a xs->xs[i]?=some y,fun i H=>∃xs,Y9 K H a xs/\xs.length<=i⟩
theorem Us {P:Program}{w:World}{K:PySem.W.Frag}{elts:List Expr}{x1}{pos:Pos}(a e it:Addr)(ne:e≠it) :
  Zaa P w K (.Tuple elts x1 pos) (ZfV K a) [e,it] e (fun i h=>(∃old,IsEnum h e it i old)/\h.IsListIter it a i) where
 mem:=by simp
 obj:=fun i h st b hb=>by
  obtain⟨⟨old,se⟩,⟨o,e1,c,d⟩⟩:=st
  rcases List.mem_cons.mp hb with rfl|hb
  ·exact⟨_,se,fun v z=>by
    have z':Data.fields _=Data.cell v:=z
    cases z'⟩
  ·have q:b=it:=by simpa using hb
   subst q
   exact⟨o,e1,fun v z=>by rw[d] at z;cases z⟩
 keep:=fun i h h' st k=>by
  obtain⟨⟨old,se⟩,si⟩:=st
  exact⟨⟨old,k e (by simp) _ se⟩,si.at fun o q=>k it (by simp) o q⟩
 item:=by
  intro X hP hw hK hc i pins s σ H E I hf st hg
  subst hP hw hK
  obtain⟨⟨old,se⟩,si⟩:=st
  obtain⟨xs,x,hq,hx⟩:=hg
  obtain⟨its,rv,p,hz⟩:=I.list hq
  obtain⟨u,hu,ru⟩:=rv.get hx
  refine wpAny_pyNext_enum_item se si p.isList (x:=u) (by simpa using hu) ne fun h1 ho hi1 hT hsz hk=>?_
  refine⟨_,rfl,wpAny_letOwnedTupleGo_enum ho fun h2 he2 hs2=>?_⟩
  have le:e<s.heap.objs.size:=Zp se
  have hs3:Heap.SameBut e h1 h2:=hs2
  have hT2:h2.get? s.heap.objs.size=some {cls:=.type "tuple",data:=.seq #[.int i s.toks,u]}:=(hs3.2 _ (Nat.ne_of_gt le)).trans hT
  have hi2:h2.IsListIter it a (i+1):=hi1.at fun o q=>(hs3.2 it (Ne.symm ne)).trans q
  have he3:IsEnum h2 e it ((i+1:Nat):Int) u:=by
   have:=he2
   simpa using this
  have nT:H s.heap.objs.size=none:=I.hok.fresh (Zq _)
  have I2:=I.turnLay (t':=s.toks+1) (h':=h2) (ts:=[e,it]) (T:=s.heap.objs.size) (o:=.tup [.int i,x]) (fun b v hb q=>?_) (fun b hb=>?_) hf (Zq _) ⟨by show 2<=sizeLine;decide,[.int i s.toks,u],.cons ⟨_,rfl⟩ (.cons ru .nil),_,hT2,rfl,0,rfl⟩
  ·refine⟨.ref s.heap.objs.size,_,I2,rfl,⟨_,x,rfl,nT,rfl,fun ys hy=>by rw[I.list_inj hy hq];exact hx⟩,⟨⟨u,he3⟩,hi2⟩,fun b hb=>?_⟩
   have fb:=(hf b hb).1
   have lb:b<s.heap.objs.size:=by
    rcases List.mem_cons.mp hb with rfl|hb
    ·exact le
    ·have q:b=it:=by simpa using hb
     subst q
     obtain⟨o,e1,_⟩:=si
     exact Zp e1
   rw[Zy (Nat.ne_of_lt lb)]
   exact fb
  ·have q1:b≠e:=fun z=>hb (by simp[z])
   have q2:b≠it:=fun z=>hb (by simp[z])
   exact (hs3.2 b q1).trans (hk b v q1 q2 q)
  ·rcases List.mem_cons.mp hb with rfl|hb
   ·exact⟨_,he3⟩
   ·have q:b=it:=by simpa using hb
    subst q
    obtain⟨o,e1,_⟩:=hi2
    exact⟨o,e1⟩
 done:=by
  intro X hP hw hK hc i pins s σ H E I hf st hg
  subst hP hw hK
  obtain⟨⟨old,se⟩,si⟩:=st
  obtain⟨xs,hq,hx⟩:=hg
  obtain⟨its,rv,p,hz⟩:=I.list hq
  have hl:=rv.length
  exact wpAny_pyNext_enum_end (I.ok.hd hc) se si p.isList (by simp;omega) fun h1 eb=>⟨rfl,I.turnedL (t':=s.toks) (ts:=[e,it]) (fun b o hb q=>eb b o (fun z=>hb (by simp[z])) q) hf⟩
 self:=fun _ _ _ _ _ st h=>by
  obtain⟨⟨old,se⟩,si⟩:=st
  exact wpAny_pyIter_enum se h
theorem Ur {P:Program}{w:World}{K:PySem.W.Frag}{elts:List Expr}{x1}{pos:Pos}(a e it:Addr)(ne:e≠it) :
  Zaa P w K (.Tuple elts x1 pos) (ZfT K a) [e,it] e (fun i h=>(∃old,IsEnum h e it i old)/\h.IsTupleIter it a i) where
 mem:=by simp
 obj:=fun i h st b hb=>by
  obtain⟨⟨old,se⟩,⟨o,e1,c,d⟩⟩:=st
  rcases List.mem_cons.mp hb with rfl|hb
  ·exact⟨_,se,fun v z=>by
    have z':Data.fields _=Data.cell v:=z
    cases z'⟩
  ·have q:b=it:=by simpa using hb
   subst q
   exact⟨o,e1,fun v z=>by rw[d] at z;cases z⟩
 keep:=fun i h h' st k=>by
  obtain⟨⟨old,se⟩,si⟩:=st
  exact⟨⟨old,k e (by simp) _ se⟩,si.at fun o q=>k it (by simp) o q⟩
 item:=by
  intro X hP hw hK hc i pins s σ H E I hf st hg
  subst hP hw hK
  obtain⟨⟨old,se⟩,si⟩:=st
  obtain⟨xs,x,hq,hx⟩:=hg
  obtain⟨its,rv,p,hz⟩:=I.tuple hq
  obtain⟨u,hu,ru⟩:=rv.get hx
  refine PyY.UX se si (show s.heap.IsTuple a its.toArray from p) (y:=u) (by simpa using hu) ne fun h1 ho hi1 hT hsz hk=>?_
  refine⟨_,rfl,wpAny_letOwnedTupleGo_enum ho fun h2 he2 hs2=>?_⟩
  have le:e<s.heap.objs.size:=Zp se
  have hs3:Heap.SameBut e h1 h2:=hs2
  have hT2:h2.get? s.heap.objs.size=some {cls:=.type "tuple",data:=.seq #[.int i s.toks,u]}:=(hs3.2 _ (Nat.ne_of_gt le)).trans hT
  have hi2:h2.IsTupleIter it a (i+1):=hi1.at fun o q=>(hs3.2 it (Ne.symm ne)).trans q
  have he3:IsEnum h2 e it ((i+1:Nat):Int) u:=by
   have:=he2
   simpa using this
  have nT:H s.heap.objs.size=none:=I.hok.fresh (Zq _)
  have I2:=I.turnLay (t':=s.toks+1) (h':=h2) (ts:=[e,it]) (T:=s.heap.objs.size) (o:=.tup [.int i,x]) (fun b v hb q=>?_) (fun b hb=>?_) hf (Zq _) ⟨by show 2<=sizeLine;decide,[.int i s.toks,u],.cons ⟨_,rfl⟩ (.cons ru .nil),_,hT2,rfl,0,rfl⟩
  ·refine⟨.ref s.heap.objs.size,_,I2,rfl,⟨_,x,rfl,nT,rfl,fun ys hy=>by rw[I.tuple_inj hy hq];exact hx⟩,⟨⟨u,he3⟩,hi2⟩,fun b hb=>?_⟩
   have fb:=(hf b hb).1
   have lb:b<s.heap.objs.size:=by
    rcases List.mem_cons.mp hb with rfl|hb
    ·exact le
    ·have q:b=it:=by simpa using hb
     subst q
     obtain⟨o,e1,_⟩:=si
     exact Zp e1
   rw[Zy (Nat.ne_of_lt lb)]
   exact fb
  ·have q1:b≠e:=fun z=>hb (by simp[z])
   have q2:b≠it:=fun z=>hb (by simp[z])
   exact (hs3.2 b q1).trans (hk b v q1 q2 q)
  ·rcases List.mem_cons.mp hb with rfl|hb
   ·exact⟨_,he3⟩
   ·have q:b=it:=by simpa using hb
    subst q
    obtain⟨o,e1,_⟩:=hi2
    exact⟨o,e1⟩
 done:=by
  intro X hP hw hK hc i pins s σ H E I hf st hg
  subst hP hw hK
  obtain⟨⟨old,se⟩,si⟩:=st
  obtain⟨xs,hq,hx⟩:=hg
  obtain⟨its,rv,p,hz⟩:=I.tuple hq
  have hl:=rv.length
  exact PyY.Zbp (I.ok.hd hc) se si (show s.heap.IsTuple a its.toArray from p) (by simp;omega) fun h1 eb=>⟨rfl,I.turnedL (t':=s.toks) (ts:=[e,it]) (fun b o hb q=>eb b o (fun z=>hb (by simp[z])) q) hf⟩
 self:=fun _ _ _ _ _ st h=>by
  obtain⟨⟨old,se⟩,si⟩:=st
  exact wpAny_pyIter_enum se h
section
variable {X:Cx}
def Zez (K:PySem.W.Frag)(ta:TA):TI:=fun σ H R=>ta σ H fun vs H1=>∃a,vs=[.ref a]/\(((∃xs,Wq K H1 a xs)/\R (ZfV K a) H1)\/((∃xs,Y9 K H1 a xs)/\R (ZfT K a) H1))
theorem ZgV {elts:List Expr}{x1}{pt:Pos}{l:Expr}{ta:TA}{p pos:Pos}(hm:X.mg "enumerate"=none)(ha:PA X [l] ta)(hg:YG X.env.scope "enumerate"=true:=by kernel_rfl)(hs:starEach [l] X.env=[(false,eval l X.env)]:=by rfl) :
  PI X (.Tuple elts x1 pt) (.Call (.Name "enumerate" p) [l] [] pos) (Zez X.K ta):=by
 intro pins s σ H R I h
 refine Call_ (Xh I (Y5 hg) hm (show bootBuiltins "enumerate"=some (.type "enumerate") by kernel_rfl) (PyProof.Rows.callWith_type1 (Z8 (ha pos pins s σ H _ I h) fun us s1 ⟨vs,H1,I1,r1,q1⟩=>?_) hs rfl))
 obtain⟨a,e,q⟩:=q1
 subst e
 cases r1 with
 |cons r rr=>
  cases rr
  cases (show _=Value.ref a from r)
  have sz:∀b,b∈[s1.heap.objs.size+1,s1.heap.objs.size]->s1.heap.objs.size<=b:=fun b hb=>by
   rcases List.mem_cons.mp hb with rfl|hb
   ·exact Nat.le_succ _
   ·have:b=s1.heap.objs.size:=by simpa using hb
    rw[this]
    exact Zq _
  rcases q with ⟨⟨xs,hq⟩,q⟩|⟨⟨xs,hq⟩,q⟩
  ·obtain⟨its,rv,p,hz⟩:=I1.list hq
   refine call_enumerate_list p.isList fun g ge gi gs gk=>?_
   refine wpAny_pyIter_enum ge ?_
   exact⟨_,[s1.heap.objs.size+1,s1.heap.objs.size],_,_,H1,rfl,I1.kept (t':=s1.toks) gk,Us a _ _ (Nat.ne_of_gt (Nat.lt_succ_self _)),⟨⟨_,ge⟩,gi⟩,fun b hb=>I1.fpOk (sz b hb) (I1.hok.fresh (sz b hb)),q⟩
  ·obtain⟨its,rv,p,hz⟩:=I1.tuple hq
   refine PyY.U6 (show s1.heap.IsTuple a its.toArray from p) fun g ge gi gs gk=>?_
   refine wpAny_pyIter_enum ge ?_
   exact⟨_,[s1.heap.objs.size+1,s1.heap.objs.size],_,_,H1,rfl,I1.kept (t':=s1.toks) gk,Ur a _ _ (Nat.ne_of_gt (Nat.lt_succ_self _)),⟨⟨_,ge⟩,gi⟩,fun b hb=>I1.fpOk (sz b hb) (I1.hok.fresh (sz b hb)),q⟩
theorem ZeC (K:PySem.W.Frag){elts:List Expr}{x1}{pt:Pos}{l:Expr}{ta:TA}{p pos:Pos}(hm:X.mg "enumerate"=none)(ha:PA X [l] ta)(hK:X.K=K:=by rfl)(hg:YG X.env.scope "enumerate"=true:=by kernel_rfl)(hs:starEach [l] X.env=[(false,eval l X.env)]:=by rfl) :
  PI X (.Tuple elts x1 pt) (.Call (.Name "enumerate" p) [l] [] pos) (Zez K ta):=hK▸ZgV hm ha hg hs
end
structure ZfW (J:It)(At:Hp->Prop)(xs:List V):Prop where
 go:∀i H,At H->i<xs.length->J.go i H
 yld:∀i H x H2,At H->J.yld i H x H2->∃T y,x=.ref T/\H T=none/\H2=upd H T (.tup [.int i,y])/\xs[i]?=some y
 stop:∀i H,At H->xs.length<=i->J.stop i H
theorem ZfK {K:PySem.W.Frag}{a:Addr}{xs:List V}:ZfW (ZfV K a) (fun H=>Wq K H a xs) xs:=
 ⟨fun i H h hi=>⟨xs,xs[i],h,by simp[hi]⟩,fun i H x H2 h hy=>by
  obtain⟨T,y,e,hT,e2,q⟩:=hy
  exact⟨T,y,e,hT,e2,q xs h⟩,fun i H h hi=>⟨xs,h,hi⟩⟩
theorem ZfJ {K:PySem.W.Frag}{a:Addr}{xs:List V}:ZfW (ZfT K a) (fun H=>Y9 K H a xs) xs:=
 ⟨fun i H h hi=>⟨xs,xs[i],h,by simp[hi]⟩,fun i H x H2 h hy=>by
  obtain⟨T,y,e,hT,e2,q⟩:=hy
  exact⟨T,y,e,hT,e2,q xs h⟩,fun i H h hi=>⟨xs,h,hi⟩⟩
theorem V5 {J:It}{g:TG}{tb:TS}{D:Ws}{σ:St}{H:Hp}{At:Hp->Prop}{xs:List V}(S:ZfW J At xs)(Pv:Nat->St->Hp->Prop)(h0:Pv 0 σ H)(hS:∀i σ H,Pv i σ H->At H)
  (hs:∀(i:Nat) y σ H T,xs[i]?=some y->Pv i σ H->H T=none->g (.ref T) σ (upd H T (.tup [.int i,y])) fun σ2 H2=>tb {D with nx:=Pv (i+1),ct:=Pv (i+1),bk:=D.nx} σ2 H2) (hd:∀ σ H,Pv xs.length σ H->D.nx σ H) :
  ∃W:Nat->Nat->St->Hp->Prop,(∃m,W 0 m σ H)/\∀i m σ H,W i m σ H->
   (J.stop i H/\D.nx σ H)\/(J.go i H/\∃N:St->Hp->Prop,(∀ σ' H',N σ' H'->∃m',m'<m/\W (i+1) m' σ' H')/\∀x H',J.yld i H x H'->g x σ H' fun σ2 H2=>tb {D with nx:=N,ct:=N,bk:=D.nx} σ2 H2):=by
 refine⟨fun i m σ H=>m=xs.length-i/\i<=xs.length/\Pv i σ H,⟨_,rfl,Nat.zero_le _,h0⟩,?_⟩
 rintro i m σ H ⟨rfl,hi,p⟩
 have s:=hS i σ H p
 by_cases hlt:i<xs.length
 ·refine .inr ⟨S.go i H s hlt,Pv (i+1),fun σ' H' p'=>⟨xs.length-(i+1),by omega,rfl,hlt,p'⟩,fun x H' hy=>?_⟩
  obtain⟨T,y,rfl,hT,rfl,hx⟩:=S.yld i H x H' s hy
  exact hs i y σ H T hx p hT
 ·have e:i=xs.length:=by omega
  subst e
  exact .inl ⟨S.stop _ H s (Zq _),hd σ H p⟩
theorem g2 (K:PySem.W.Frag)(i j:Nat){X:Cx}{x y:Str}{k}{px py pos:Pos}(hc:X.calm=true)(hx:PG X (.Name x px) (Z9 i))(hy:PG X (.Name y py) (Z9 j))(hK:X.K=K:=by rfl)
  (hn:(assignEach [.Name x px,.Name y py] X.env).length=2:=by rfl) (hst:(assignEach [.Name x px,.Name y py] X.env).findIdx? (·.1)=none:=by rfl) :
  PG X (.Tuple [.Name x px,.Name y py] k pos) (Zd2 K 2 (JJ (Z9 i) (JJ (Z9 j) Zd3))):=hK▸Zck hc (Ww hx (Ww hy Zap)) hn hst
theorem Zco {X:Cx}(K:PySem.W.Frag){o e:Expr}{es:List Expr}{to:TE}{t:TA}{name:Str}{apos cpos:Pos}{T id:String}{r:V->List V->Hp->VK->Prop}(pa:PlainAttrs T)(slot:Slot T name id)(hty:typeOf (.builtin id)=pure (.type "method_descriptor"))(hm:MtR X id r)(ho:PE X o to)(ha:PA X (e::es) t)
  (hK:X.K=K:=by rfl) (hbase:attributeBase o name X.env (eval o X.env)=eval o X.env:=by rfl)
  (hfew:((backTo cpos (starEach (e::es) X.env)).all (fun x=>!x.1) && (backToKw cpos (keywordEach [] X.env)).all (fun x=>x.1.isSome)
   && decide ((e::es).length+([]:List Keyword).length+(if ([]:List Keyword).isEmpty then 0 else 1)<30))=true:=by rfl)
  (hline:(apos.endLine == cpos.line)=true:=by rfl) (hs:starEach (e::es) X.env=(false,eval e X.env)::starEach es X.env:=by rfl) (hplain:(backTo cpos (starEach es X.env)).any (·.1)=false:=by rfl) :
  PE X (.Call (.Attribute o name apos) (e::es) [] cpos) (tBM K T r to t):=hK▸Ym pa slot hty hm ho ha hbase hfew hline hs hplain
theorem g3 (K:PySem.W.Frag)(i j l:Nat){X:Cx}{x y z:Str}{k}{px py pz pos:Pos}(hc:X.calm=true)(hx:PG X (.Name x px) (Z9 i))(hy:PG X (.Name y py) (Z9 j))(hz:PG X (.Name z pz) (Z9 l))(hK:X.K=K:=by rfl)
  (hn:(assignEach [.Name x px,.Name y py,.Name z pz] X.env).length=3:=by rfl) (hst:(assignEach [.Name x px,.Name y py,.Name z pz] X.env).findIdx? (·.1)=none:=by rfl) :
  PG X (.Tuple [.Name x px,.Name y py,.Name z pz] k pos) (Zd2 K 3 (JJ (Z9 i) (JJ (Z9 j) (JJ (Z9 l) Zd3)))):=hK▸Zck hc (Ww hx (Ww hy (Ww hz Zap))) hn hst
structure Uo (k b:Nat)(d:PyData):Prop where
 sh:d.showable=true
 nd:d.hasDict=false
 dp:d.depth<=k
 lv:d.leavesShort 300=true
 bl:d.bulk<=b
theorem Uo.all {k b:Nat}:∀{ds:List PyData},(∀d∈ds,Uo k b d)->PyData.showableAll ds=true/\PyData.hasDictAll ds=false/\PyData.depthAll ds<=k/\PyData.leavesShortAll 300 ds=true/\PyData.bulkAll ds<=ds.length*(b+1)
 | [],_=>⟨rfl,rfl,Nat.zero_le _,rfl,Nat.zero_le _⟩
 |d::ds,h=>by
  obtain⟨h1,h2,h3,h4,h5⟩:=Uo.all (ds:=ds) fun e he=>h e (List.mem_cons_of_mem _ he)
  have hd:=h d List.mem_cons_self
  refine⟨?_,?_,?_,?_,?_⟩
  ·simp only[PyData.showableAll,hd.sh,h1,Bool.and_self]
  ·simp only[PyData.hasDictAll,hd.nd,h2,Bool.or_self]
  ·simp only[PyData.depthAll]
   exact Nat.max_le.mpr ⟨hd.dp,h3⟩
  ·simp only[PyData.leavesShortAll,hd.lv,h4,Bool.and_self]
  ·simp only[PyData.bulkAll,Zi]
   have:=hd.bl
   rw[Nat.succ_mul]
   omega
theorem Uo.fit {k b:Nat}{d:PyData}(h:Uo k b d)(hk:k<=60)(hb:b<=50000):Uj d:=by
 refine⟨h.sh,h.nd,Nat.le_trans h.dp hk,?_⟩
 have:=PyData.shown_le_bulk 300 (by decide) d h.lv
 have h5:=h.bl
 have e:(16777216:Nat)=sizeLine:=by decide
 omega
theorem Uo.tup {k b n:Nat}{ds:List PyData}(hn:ds.length<=n)(h:∀d∈ds,Uo k b d):Uo (k+1) (n*(b+1)) (.tuple ds):=by
 obtain⟨h1,h2,h3,h4,h5⟩:=Uo.all h
 refine⟨by simp only[PyData.showable];exact h1,by simp only[PyData.hasDict];exact h2,by simp only[PyData.depth];omega,by simp only[PyData.leavesShort];exact h4,?_⟩
 simp only[PyData.bulk]
 exact Nat.le_trans h5 (Nat.mul_le_mul_right _ hn)
theorem Zdr {k:Nat}(h:k<=1000):Uo 0 0 (.int (k:Int)):=by
 obtain⟨h1,_,_,h4,_,_⟩:=W2 (ns:=[(k:Int)]) (fun n hn=>by
  rw[List.mem_singleton.mp hn,Int.natAbs_natCast]
  exact Nat.lt_of_le_of_lt h (by decide))
 simp only[List.map_cons,List.map_nil,PyData.showableAll,PyData.leavesShortAll,Bool.and_true] at h1 h4
 exact⟨h1,rfl,Nat.zero_le _,h4,Nat.zero_le _⟩
end L2
namespace Pm
open PySem L2 PySem.Spec PyProof.Rows
open Tb
def nV (k:Nat):V:=.int (k:Int)
def GT (H:Hp)(g:Addr)(t:List (List Nat)):Prop:=∃rs:List Addr,H g=some (.tup (rs.map V.ref))/\rs.length=t.length/\∀(i:Nat) r,rs[i]?=some r->Tz H r ((t.getD i []).map nV)
theorem GT.mono {H H':Hp}{g:Addr}{t:List (List Nat)}(s:Zw H H')(G:GT H g t):GT H' g t:=by
 obtain⟨rs,h1,h2,h3⟩:=G
 exact⟨rs,s _ _ h1,h2,fun i r hr=>(h3 i r hr).mono s⟩
theorem Zdu {t:List (List Nat)}(P:PW t){a:Nat}(ha:a<t.length):(t.getD a []).length=t.length:=by
 refine P.len _ ?_
 rw[Zb,Zf ha]
 exact List.getElem_mem ha
theorem ZeS {t:List (List Nat)}(P:PW t){a b:Nat}(ha:a<t.length)(hb:b<t.length):((t.getD a []).map nV)[b]?=some (.int (ZW t a b:Nat)):=by
 have hl:=Zdu P ha
 unfold ZW
 generalize t.getD a []=row at *
 rw[Zc,Zf (show b<row.length by omega),Zb,Zf (show b<row.length by omega)]
 rfl
theorem GT.at {H:Hp}{g:Addr}{t:List (List Nat)}(G:GT H g t)(P:PW t){a:Nat}(ha:a<t.length):∃(rs:List Addr) (r:Addr),H g=some (.tup (rs.map V.ref))/\rs.length=t.length/\Xw (rs.map V.ref) (a:Int)=some (.ref r)/\Tz H r ((t.getD a []).map nV)/\∀b,b<t.length->Xw ((t.getD a []).map nV) (b:Int)=some (.int (ZW t a b:Nat)):=by
 obtain⟨rs,h1,h2,h3⟩:=G
 have hr:rs[a]?=some (rs[a]'(by omega)):=Zf (by omega)
 exact⟨rs,_,h1,h2,ZV (by rw[Zc,hr];rfl),h3 a _ hr,fun b hb=>ZV (ZeS P ha hb)⟩
def Yt (H:Hp)(L:Addr)(rs:List Addr)(f:Nat->List Nat):Prop:=H L=some (.lst (rs.map V.ref))/\∀(i:Nat) r,rs[i]?=some r->Tz H r ((f i).map nV)
theorem Yt.mono {H H':Hp}{L:Addr}{rs:List Addr}{f:Nat->List Nat}(s:Zw H H')(R:Yt H L rs f):Yt H' L rs f:=⟨s _ _ R.1,fun i r hr=>(R.2 i r hr).mono s⟩
theorem Yt.push {H:Hp}{L:Addr}{rs:List Addr}{f:Nat->List Nat}{r:Addr}(R:Yt H L rs f)(h:Tz H r ((f rs.length).map nV)):Yt (upd H L (.lst (rs.map V.ref++[.ref r]))) L (rs++[r]) f:=by
 have ne:∀{b ys},Tz H b ys->Tz (upd H L (.lst (rs.map V.ref++[.ref r]))) b ys:=fun {b ys} hb=>by
  obtain⟨o,h1,h2⟩:=hb
  refine⟨o,?_,h2⟩
  rw[Zy (fun z=>by rw[z,R.1] at h1;cases h1)]
  exact h1
 refine⟨by rw[Zt,List.map_append];rfl,fun i b hb=>?_⟩
 by_cases hi:i<rs.length
 ·rw[List.getElem?_append_left hi] at hb
  exact ne (R.2 i b hb)
 ·rw[List.getElem?_append_right (by omega)] at hb
  have e0:i-rs.length=0:=by
   apply Classical.byContradiction
   intro z
   rw[List.getElem?_eq_none (by rw[Zk];omega)] at hb
   cases hb
  rw[e0] at hb
  cases hb
  have:i=rs.length:=by omega
  rw[this]
  exact ne h
theorem JN {H H':Hp}{L g:Addr}{rs:List Addr}{f:Nat->List Nat}{n:Nat}(R:Yt H L rs f)(hl:rs.length=n)(s:Zw H H')(hg:H' g=some (.tup (rs.map V.ref))):GT H' g ((List.range n).map f):=by
 refine⟨rs,hg,by rw[hl,Za,Zg],fun i r hr=>?_⟩
 have hi:i<n:=by rw[<-hl];exact (List.getElem?_eq_some_iff.mp hr).1
 rw[Zb,Zc,List.getElem?_range hi]
 exact (R.2 i r hr).mono s
theorem ZaE (i j:Int):PyData.eqv (.int i) (.int j)=decide (i=j):=by
 first|rfl|simp[PyData.eqv]
theorem V3 {n i:Nat}(h:i<n):ixN n (i:Int)=some i:=by
 unfold ixN
 rw[if_pos (Int.natCast_nonneg _),if_pos (by omega),Zj]
theorem Xi {α:Type}:∀(l:List α) (i:Nat) (h:i<l.length),(l[i]::l.eraseIdx i).Perm l
 |x::l,0,h=>List.Perm.refl _
 |x::l,i+1,h=>by
  show ((l[i]'(Nat.lt_of_succ_lt_succ h))::x::l.eraseIdx i).Perm (x::l)
  exact (List.Perm.swap x _ _).trans (List.Perm.cons x (Xi l i (Nat.lt_of_succ_lt_succ h)))
theorem WY:∀(xs:List Nat) (j:Nat),(xs.map nV).eraseIdx j=(xs.eraseIdx j).map nV
 | [],j=>rfl
 |x::xs,0=>rfl
 |x::xs,j+1=>by
  show nV x::(xs.map nV).eraseIdx j=nV x::(xs.eraseIdx j).map nV
  rw[WY xs j]
theorem Zcp {n:Nat}{os:List Nat}(n1:1<=n)(p:os.Perm (List.range n))(h0:os[0]?=some 0):Ord n os:=by
 refine⟨by rw[p.length_eq,Zg],p.nodup_iff.mpr List.nodup_range,fun v hv=>p.mem_iff.mpr (List.mem_range.mpr hv),fun v hv=>List.mem_range.mp (p.mem_iff.mp hv),?_⟩
 rw[Zb,h0]
 rfl
theorem YF {xs:List Nat}{i:Nat}{y:V}(h:(xs.map nV)[i]?=some y):∃k,xs[i]?=some k/\y=.int (k:Nat):=by
 rw[Zc] at h
 cases e:xs[i]? with
 |none=>rw[e] at h;cases h
 |some k=>rw[e] at h;exact⟨k,rfl,(Option.some.inj h).symm⟩
def Wp (f g:List Nat):List Nat:=g.map fun i=>f.getD i 0
def nI (xs:List Nat):List Int:=xs.map fun k:Nat=>((k:Nat):Int)
theorem ZcB (xs:List Nat):(nI xs).map V.int=xs.map nV:=by unfold nI;rw[List.map_map];rfl
def ZK (H:Hp)(L:Addr)(bs:List Addr)(yss:List (List Nat)):Prop:=H L=some (.lst (bs.map V.ref))/\bs.length=yss.length/\∀(i:Nat) b,bs[i]?=some b->H b=some (.tup ((yss.getD i []).map nV))
theorem ZK.mono {H H':Hp}{L:Addr}{bs:List Addr}{yss:List (List Nat)}(s:Zw H H')(R:ZK H L bs yss):ZK H' L bs yss:=⟨s _ _ R.1,R.2.1,fun i b hb=>s _ _ (R.2.2 i b hb)⟩
theorem ZK.push {H:Hp}{L:Addr}{bs:List Addr}{yss:List (List Nat)}{b:Addr}{ys:List Nat}(R:ZK H L bs yss)(h:H b=some (.tup (ys.map nV))):ZK (upd H L (.lst (bs.map V.ref++[.ref b]))) L (bs++[b]) (yss++[ys]):=by
 have ne:∀{b ys},H b=some (.tup ys)->upd H L (.lst (bs.map V.ref++[.ref b])) b=some (.tup ys):=fun {b ys} hb=>by
  rw[Zy (fun z=>by rw[z,R.1] at hb;cases hb)]
  exact hb
 refine⟨by rw[Zt,List.map_append];rfl,by rw[Zd,Zd,R.2.1];rfl,fun i c hc=>?_⟩
 have nb:c≠L->upd H L (.lst (bs.map V.ref++[.ref b])) c=H c:=fun z=>Zy z
 by_cases hi:i<bs.length
 ·rw[List.getElem?_append_left hi] at hc
  have:=R.2.2 i c hc
  rw[nb (fun z=>by rw[z,R.1] at this;cases this),Zb,List.getElem?_append_left (by rw[<-R.2.1];exact hi),<-Zb]
  exact this
 ·rw[List.getElem?_append_right (by omega)] at hc
  have e0:i-bs.length=0:=by
   apply Classical.byContradiction
   intro z
   rw[List.getElem?_eq_none (by rw[Zk];omega)] at hc
   cases hc
  rw[e0] at hc
  cases hc
  have:i=yss.length:=by rw[<-R.2.1];omega
  rw[nb (fun z=>by rw[z,R.1] at h;cases h),this,Zb,List.getElem?_append_right (Zq _),Nat.sub_self]
  exact h
theorem JU {K:PySem.W.Frag}{H:Hp}:∀(bs:List Addr) (yss:List (List Nat)),bs.length=yss.length->(∀(j:Nat) b,bs[j]?=some b->H b=some (.tup ((yss.getD j []).map nV)))->YN K H (bs.map V.ref) (yss.map fun ns=>PyData.tuple ((nI ns).map PyData.int))
 | [],[],_,_=>.nil
 | [],_::_,h,_=>by cases h
 |_::_,[],h,_=>by cases h
 |b::bs,y::yss,h,g=>by
  have hb:=g 0 b rfl
  have hb':H b=some (.tup ((nI y).map V.int)):=by rw[ZcB];exact hb
  exact .cons (.tup (.of hb') (YN.ints _)) (JU bs yss (Nat.succ.inj h) fun j b' hj=>g (j+1) b' hj)
theorem Zfs {a b:List Nat}:nI a=nI b↔a=b:=by
 constructor
 ·intro h
  unfold nI at h
  exact (List.map_inj_right (fun x y e=>by exact Int.ofNat.inj e)).mp h
 ·intro h;rw[h]
theorem V7 (a b:List Nat):PyData.eqv (.tuple ((nI a).map PyData.int)) (.tuple ((nI b).map PyData.int))=decide (a=b):=by
 have:PyData.eqv (.tuple ((nI a).map PyData.int)) (.tuple ((nI b).map PyData.int))=decide (nI a=nI b):=by
  show PyData.eqvAll _ _=_
  exact PySem.W.ked_eqvAll _ _
 rw[this,decide_eq_decide]
 exact Zfs
theorem Vv (yss:List (List Nat))(o:List Nat):((yss.map fun ns=>PyData.tuple ((nI ns).map PyData.int)).any fun y=>y.eqv (.tuple ((nI o).map PyData.int)))=yss.contains o:=by
 rw[List.any_map,List.contains_eq_any_beq]
 congr 1
 funext y
 show PyData.eqv _ _=(o == y)
 rw[V7]
 by_cases h:y=o
 ·rw[decide_eq_true h,h,beq_self_eq_true]
 ·rw[decide_eq_false h]
  exact (beq_eq_false_iff_ne.mpr (fun z=>h z.symm)).symm
def ZcS (cur:List Nat):V->V
 | .int z=>nV (cur.getD z.toNat 0)
 |y=>y
theorem V6 (cur g:List Nat):(g.map nV).map (ZcS cur)=(Wp cur g).map nV:=by
 unfold Wp
 rw[List.map_map,List.map_map]
 refine List.map_congr_left fun b _=>?_
 show nV (cur.getD (b:Int).toNat 0)=nV (cur.getD b 0)
 rw[Zj]
def WW (srt:List (List Nat)):List (List Nat):=srt.map fun a=>srt.map fun b=>srt.findIdx (· == Wp a b)
def Gk (k:Nat)(y:List Nat):Prop:=y.length=k/\∀x∈y,x<k
theorem Zdf {k:Nat}{a g:List Nat}(ha:Gk k a)(hg:Gk k g):Gk k (Wp a g):=by
 unfold Wp
 refine⟨by rw[Za];exact hg.1,fun x hx=>?_⟩
 obtain⟨i,hi,rfl⟩:=List.mem_map.mp hx
 have h1:=hg.2 i hi
 have h2:=ha.1
 rw[Zb,Zf (show i<a.length by omega)]
 exact ha.2 _ (List.getElem_mem _)
theorem ZK.get {H:Hp}{L:Addr}{bs:List Addr}{yss:List (List Nat)}(R:ZK H L bs yss){i:Nat}(hi:i<yss.length):∃b,bs[i]?=some b/\Xw (bs.map V.ref) (i:Int)=some (.ref b)/\H b=some (.tup ((yss.getD i []).map nV)):=by
 have hb:i<bs.length:=by rw[R.2.1];exact hi
 have e:bs[i]?=some bs[i]:=Zf hb
 exact⟨_,e,ZV (by rw[Zc,e];rfl),R.2.2 i _ e⟩
theorem ZK.ref {H:Hp}{L:Addr}{bs:List Addr}{yss:List (List Nat)}(R:ZK H L bs yss){i:Nat}{y:V}(h:(bs.map V.ref)[i]?=some y):∃b,y=.ref b/\i<yss.length/\H b=some (.tup ((yss.getD i []).map nV)):=by
 rw[Zc] at h
 cases e:bs[i]? with
 |none=>rw[e] at h;cases h
 |some b=>
  rw[e] at h
  refine⟨b,(Option.some.inj h).symm,?_,R.2.2 i b e⟩
  rw[<-R.2.1]
  exact (List.getElem?_eq_some_iff.mp e).1
theorem getL {yss:List (List Nat)}{i:Nat}(h:i<yss.length):yss[i]?=some (yss.getD i []):=by
 rw[Zb,Zf h]
 rfl
theorem Xf {yss:List (List Nat)}{i:Nat}(h:i<yss.length):yss.getD i []∈yss:=List.mem_of_getElem? (getL h)
theorem Zew {xs:List Nat}{i:Nat}(h:i<xs.length):Xw (xs.map nV) (i:Int)=some (nV (xs.getD i 0)):=ZV (by rw[Zc,Zf h,Zb,Zf h];rfl)
def VU:List (List Nat)->Hp->(List V->Hp->Prop)->Prop
 | [],H,Q=>Q [] H
 |x::r,H,Q=>(x.map nV).length<=sizeLine/\∀p,H p=none->VU r (upd H p (.tup (x.map nV))) fun vs H2=>Q (.ref p::vs) H2
theorem Wy:∀(xss:List (List Nat)) (H:Hp) (Q:List V->Hp->Prop),(∀x∈xss,x.length<=1000)->
  (∀(bs:List Addr) (H':Hp),Zw H H'->bs.length=xss.length->(∀(i:Nat) b,bs[i]?=some b->H' b=some (.tup ((xss.getD i []).map nV)))->Q (bs.map V.ref) H')->VU xss H Q
 | [],H,Q,_,q=>q [] H (Zw.refl _) rfl fun i b hb=>by cases hb
 |x::r,H,Q,hl,q=>by
  have sz:(16777216:Nat)=sizeLine:=by decide
  refine⟨?_,fun p hp=>Wy r _ _ (fun y hy=>hl y (List.mem_cons_of_mem _ hy)) fun bs H' s' hb hi=>?_⟩
  ·have:=hl x List.mem_cons_self
   rw[Za]
   omega
  ·refine q (p::bs) H' ((Zw.upd hp).trans s') (by rw[Zi,Zi,hb]) fun i b hib=>?_
   cases i with
   |zero=>
    cases hib
    exact s' _ _ Zt
   |succ i=>exact hi i b hib
def Zcz:List (List (List Nat))->Hp->(List V->Hp->Prop)->Prop
 | [],H,Q=>Q [] H
 |xss::r,H,Q=>VU xss H fun vs H1=>vs.length<=sizeLine/\∀p,H1 p=none->Zcz r (upd H1 p (.lst vs)) fun us H2=>Q (.ref p::us) H2
theorem JH:∀(xsss:List (List (List Nat))) (H:Hp) (Q:List V->Hp->Prop),(∀xss∈xsss,xss.length<=1000/\∀x∈xss,x.length<=1000)->
  (∀(ls:List Addr) (H':Hp),Zw H H'->ls.length=xsss.length->(∀(i:Nat) l,ls[i]?=some l->H l=none/\∃bs,ZK H' l bs (xsss.getD i []))->Q (ls.map V.ref) H')->Zcz xsss H Q
 | [],H,Q,_,q=>q [] H (Zw.refl _) rfl fun i b hb=>by cases hb
 |xss::r,H,Q,hl,q=>by
  have sz:(16777216:Nat)=sizeLine:=by decide
  obtain⟨h1,h2⟩:=hl xss List.mem_cons_self
  refine Wy xss H _ h2 fun bs H1 s1 hb hi=>⟨by rw[Za];omega,fun p hp=>JH r _ _ (fun y hy=>hl y (List.mem_cons_of_mem _ hy)) fun ls H' s' hls hi'=>?_⟩
  have s2:=s1.trans (Zw.upd (o:=.lst (bs.map V.ref)) hp)
  refine q (p::ls) H' (s2.trans s') (by rw[Zi,Zi,hls]) fun i l hil=>?_
  cases i with
  |zero=>
   cases hil
   refine⟨s1.free hp,bs,ZK.mono s' ⟨Zt,hb,fun i b hib=>?_⟩⟩
   exact Zw.upd (o:=.lst (bs.map V.ref)) hp _ _ (hi i b hib)
  |succ i=>
   obtain⟨h3,h4⟩:=hi' i l hil
   exact⟨s2.free h3,h4⟩
section
variable {X:Cx}
def teT (x:List Nat):TE:=fun _ H Q=>(x.map nV).length<=sizeLine/\∀p,H p=none->Q (.ref p) (upd H p (.tup (x.map nV)))
theorem ZdA (x:List Nat){es:List Expr}{t:TA}{x1}{pos:Pos}(h:PA X es t)(e:t=fun _ H Q=>Q (x.map nV) H):PE X (.Tuple es x1 pos) (teT x):=by
 subst e
 exact Ys h
def taN (xss:List (List Nat)):TA:=fun _ H Q=>VU xss H Q
theorem ZdF:PA X [] (taN []):=Zs
theorem pan {e:Expr}{es:List Expr}{x:List Nat}{xss:List (List Nat)}(h:PE X e (teT x))(r:PA X es (taN xss))(hs:YE e=true:=by rfl):PA X (e::es) (taN (x::xss)):=pc h r hs
def teL (xss:List (List Nat)):TE:=fun _ H Q=>VU xss H fun vs H1=>vs.length<=sizeLine/\∀p,H1 p=none->Q (.ref p) (upd H1 p (.lst vs))
theorem ZdB {es:List Expr}{xss:List (List Nat)}{pos:Pos}(h:PA X es (taN xss)):PE X (.List es pos) (teL xss):=ZQ h
def taL (xsss:List (List (List Nat))):TA:=fun _ H Q=>Zcz xsss H Q
theorem ZdG:PA X [] (taL []):=Zs
theorem pal {e:Expr}{es:List Expr}{xss:List (List Nat)}{xsss:List (List (List Nat))}(h:PE X e (teL xss))(r:PA X es (taL xsss))(hs:YE e=true:=by rfl):PA X (e::es) (taL (xss::xsss)):=pc h r hs
structure QE (X:Cx)(e:Expr)(t:TE):Prop where
 h:PE X e t
structure QA (X:Cx)(es:List Expr)(t:TA):Prop where
 h:PA X es t
structure QS (X:Cx)(st:Stmt)(t:TS):Prop where
 h:PS X st t
structure QSs (X:Cx)(sts:List Stmt)(t:TS):Prop where
 h:Xz X sts t
theorem qi {i:Int}{j}{pos:Pos}:QE X (.Constant (.int i) j pos) (tC (.int i)):=⟨Zv⟩
theorem Z2:QA X [] Zgc:=⟨Zs⟩
theorem qa {e:Expr}{es:List Expr}{te:TE}{t:TA}(h:QE X e te)(r:QA X es t)(hs:YE e=true:=by rfl):QA X (e::es) (ZbP te t):=⟨pc h.h r.h hs⟩
theorem Yl (x:List Nat){es:List Expr}{t:TA}{x1}{pos:Pos}(h:QA X es t)(e:t=fun _ H Q=>Q (x.map nV) H):QE X (.Tuple es x1 pos) (teT x):=⟨ZdA x h.h e⟩
theorem WJ:QA X [] (taN []):=⟨ZdF⟩
theorem Xs {e:Expr}{es:List Expr}{x:List Nat}{xss:List (List Nat)}(h:QE X e (teT x))(r:QA X es (taN xss))(hs:YE e=true:=by rfl):QA X (e::es) (taN (x::xss)):=⟨pan h.h r.h hs⟩
theorem XH {es:List Expr}{xss:List (List Nat)}{pos:Pos}(h:QA X es (taN xss)):QE X (.List es pos) (teL xss):=⟨ZdB h.h⟩
theorem Zam:QA X [] (taL []):=⟨ZdG⟩
theorem qal {e:Expr}{es:List Expr}{xss:List (List Nat)}{xsss:List (List (List Nat))}(h:QE X e (teL xss))(r:QA X es (taL xsss))(hs:YE e=true:=by rfl):QA X (e::es) (taL (xss::xsss)):=⟨pal h.h r.h hs⟩
theorem Zgy {es:List Expr}{t:TA}{pos:Pos}(h:QA X es t):QE X (.List es pos) (ZeL t):=⟨ZQ h.h⟩
theorem Zcb (i:Nat){x:Str}{e:Expr}{te:TE}{pos pos':Pos}(hf:X.fn x=true)(he:QE X e te)(hi:X.N[i]?=some x:=by rfl)(hN:YX X.N=true:=by kernel_rfl)(hx:XV X.env.scope x=true:=by kernel_rfl)
  (hs:swapsWith e (some (.Name x pos')) pos.line X.env=pure false:=by rfl):QS X (.Assign [.Name x pos'] e pos) (Uu te (Z9 i)):=⟨ZP i hf he.h hi hN hx hs⟩
theorem Vc {st:Stmt}{rest:List Stmt}{t u:TS}(h1:QS X st t)(h2:QSs X rest u):QSs X (st::rest) (ZbO t u):=⟨Zu h1.h h2.h⟩
theorem Zgz {c:Expr}{a b:List Stmt}{tc:TT}{t u:TS}{pos:Pos}(hc:PT X c tc)(ha:QSs X a t)(hb:Xz X b u):PS X (.If c a b pos) (Zge tc t u):=YK hc ha.h hb
theorem ZhP {r:R2}{a b:Expr}{ta tb:TE}{pos:Pos}(hr:IxR X r)(ha:QE X a ta)(hb:PE X b tb)(hs:ZaR b):QE X (.Subscript a b pos) (XE r ta tb):=⟨ZB hr ha.h hb hs⟩
theorem QSs.out {sts:List Stmt}{t:TS}(h:QSs X sts t):Xz X sts t:=h.h
theorem ZhO {op:Operator}{r:R2}{a b:Expr}{ta tb:TE}{pos:Pos}(ho:Jm X (binaryOp op) r)(ha:PE X a ta)(hb:QE X b tb):PE X (.BinOp a op b pos) (XE r ta tb):=Zz ho ha hb.h
theorem X9 {te:TE}{g:TG}{u:TS}{D:Ws}{σ:L2.St}{H:Hp}(h:te σ H fun x H1=>g x σ H1 (u D)):ZbO (Uu te g) u D σ H:=h
theorem Zcq {r:R2}{ta tb:TE}{σ:L2.St}{H:Hp}{Q:VK}(h:ta σ H fun x H1=>tb σ H1 fun y H2=>r x y H2 Q):XE r ta tb σ H Q:=h
theorem VD (xsss:List (List (List Nat))){σ:L2.St}{H:Hp}{Q:VK}(hl:∀xss∈xsss,xss.length<=1000/\∀x∈xss,x.length<=1000)(hk:xsss.length<=1000)
  (q:∀(ls:List Addr) (H':Hp),Zw H H'->ls.length=xsss.length->(∀(i:Nat) l,ls[i]?=some l->H l=none/\∃bs,ZK H' l bs (xsss.getD i []))->∀S,H' S=none->Q (.ref S) (upd H' S (.lst (ls.map V.ref)))):ZeL (taL xsss) σ H Q:=by
 have sz:(16777216:Nat)=sizeLine:=by decide
 exact JH xsss H _ hl fun ls H' s' h1 h2=>⟨by rw[Za];omega,q ls H' s' h1 h2⟩
theorem VC (xss:List (List Nat)){σ:L2.St}{H:Hp}{Q:VK}(hl:∀x∈xss,x.length<=1000)(hk:xss.length<=1000)
  (q:∀(bs:List Addr) (H':Hp),Zw H H'->bs.length=xss.length->(∀(i:Nat) b,bs[i]?=some b->H' b=some (.tup ((xss.getD i []).map nV)))->∀S,H' S=none->Q (.ref S) (upd H' S (.lst (bs.map V.ref)))):teL xss σ H Q:=by
 have sz:(16777216:Nat)=sizeLine:=by decide
 exact Wy xss H _ hl fun bs H' s' h1 h2=>⟨by rw[Za];omega,q bs H' s' h1 h2⟩
end
theorem Vb {bs:List Addr}{i:Nat}(h:i<bs.length):∃b,bs[i]?=some b/\Xw (bs.map V.ref) (i:Int)=some (.ref b):=⟨_,Zf h,ZV (by rw[Zc,Zf h];rfl)⟩
def Zc0 (row:List Nat):PyData:=.tuple (row.map fun k:Nat=>PyData.int (k:Int))
def UZ (css:List (List Nat)):PyData:=.tuple (css.map Zc0)
theorem Zak {row:List Nat}(hl:row.length<=60)(h:∀k∈row,k<=1000):Uo 1 60 (Zc0 row):=by
 have:=Uo.tup (k:=0) (b:=0) (n:=60) (ds:=row.map fun k:Nat=>PyData.int (k:Int)) (by rw[Za];exact hl) fun d hd=>by
  obtain⟨k,hk,rfl⟩:=List.mem_map.mp hd
  exact Zdr (h k hk)
 exact this
theorem ZcP {css:List (List Nat)}(hl:css.length<=60)(h:∀row∈css,row.length<=60/\∀k∈row,k<=1000):Uj (UZ css):=by
 have:=Uo.tup (k:=1) (b:=60) (n:=60) (ds:=css.map Zc0) (by rw[Za];exact hl) fun d hd=>by
  obtain⟨row,hr,rfl⟩:=List.mem_map.mp hd
  exact Zak (h row hr).1 (h row hr).2
 exact this.fit (by decide) (by decide)
theorem VL {K:PySem.W.Frag}{H:Hp}:∀row:List Nat,YN K H (row.map nV) (row.map fun k:Nat=>PyData.int (k:Int))
 | []=>.nil
 |k::r=>.cons (.int _) (VL r)
end Pm
namespace C10
open PySem L2 PySem.Spec PyProof.Rows
open Pm
def top (i:Nat):Stmt:=PySem.Challenge.pw_classtab_k10_put_together_and_renamed.main.body.getD i (.Pass ⟨0,0,0,0⟩)
abbrev Zeq:Stmt:=top 25
abbrev Zer:Stmt:=top 26
structure Ya (H:Hp)(p q:Addr)(ns:List Int)(i j k:Int):Prop where
 hp:H p=some (.lst [.ref q,.int i,.int j,.int k])
 hq:H q=some (.lst (ns.map V.int))
 hn:ns.length<=63
 hi:0<=i
 hj:0<=j
 hk:0<=k
def Wn (H:Hp)(p:Addr):Prop:=∃q ns i j k,Ya H p q ns i j k
theorem Ya.ne {H:Hp}{p q:Addr}{ns:List Int}{i j k:Int}(F:Ya H p q ns i j k):q≠p:=fun e=>by
 have h1:=F.hp
 have h2:=F.hq
 rw[e,h1] at h2
 cases ns with
 |nil=>simp at h2
 |cons n r=>simp at h2
theorem Ya.upd {H:Hp}{p q:Addr}{ns:List Int}{i j k i' j' k':Int}(F:Ya H p q ns i j k)(h1:0<=i')(h2:0<=j')(h3:0<=k'):Ya (upd H p (.lst [.ref q,.int i',.int j',.int k'])) p q ns i' j' k':=
 ⟨Zt,by rw[Zy F.ne];exact F.hq,F.hn,h1,h2,h3⟩
theorem Ya.mono {H H':Hp}{p q:Addr}{ns:List Int}{i j k:Int}(s:Zw H H')(F:Ya H p q ns i j k):Ya H' p q ns i j k:=⟨s _ _ F.hp,s _ _ F.hq,F.hn,F.hi,F.hj,F.hk⟩
theorem V4:∀{ns ms:List Int},ns.map V.int=ms.map V.int->ns=ms
 | [],[],_=>rfl
 | [],_::_,h=>by cases h
 |_::_,[],h=>by cases h
 |n::r,m::t,h=>by
  simp only[List.map_cons,List.cons.injEq,V.int.injEq] at h
  rw[h.1,V4 h.2]
theorem Ya.uniq {H:Hp}{p q q':Addr}{ns ns':List Int}{i j k i' j' k':Int}(F:Ya H p q ns i j k)(G:Ya H p q' ns' i' j' k'):q'=q/\ns'=ns:=by
 have h1:=F.hp.symm.trans G.hp
 simp only[Option.some.injEq,HO.lst.injEq,List.cons.injEq,V.ref.injEq] at h1
 have e:q'=q:=h1.1.symm
 subst e
 have h2:=F.hq.symm.trans G.hq
 simp only[Option.some.injEq,HO.lst.injEq] at h2
 exact⟨rfl,(V4 h2).symm⟩
structure Dr (p:Addr)(H H':Hp):Prop where
 keep:∀b o,H b=some o->b≠p->H' b=some o
 at_:∀q ns i j k,Ya H p q ns i j k->∃i' j' k',Ya H' p q ns i' j' k'
theorem Dr.feed {p:Addr}{H H':Hp}(d:Dr p H H')(F:Wn H p):Wn H' p:=by
 obtain⟨q,ns,i,j,k,F⟩:=F
 obtain⟨i',j',k',F'⟩:=d.at_ q ns i j k F
 exact⟨q,ns,i',j',k',F'⟩
structure Bl (mg:Str->Option Value):Prop where
 list:mg "list"=none
 len:mg "len"=none
 abs:mg "abs"=none
 range:mg "range"=none
 tuple:mg "tuple"=none
 isi:mg "isinstance"=none
 all:mg "all"=none
 set:mg "set"=none
 repr:mg "repr"=none
 any:mg "any"=none
 int:mg "int"=none
 bool:mg "bool"=none
def ZbU (K:PySem.W.Frag):Sp:=fun vs H Q _=>∃(a:Addr) (ns:List Int),vs=[.ref a]/\Wq K H a (ns.map V.int)/\∀p H',Zw H H'->H p=none->Wn H' p->Q (.ref p) H'
def Jq:Sp:=fun vs H Q _=>∃(p:Addr) (m:Int),vs=[.ref p,.int m]/\Wn H p/\0<m/\m.natAbs.log2<9000/\∀r H',0<=r->r<m->Dr p H H'->Q (.int r) H'
section
variable {P:Program}{w:World}{K:PySem.W.Frag}{mg:Str->Option Value}{base:Heap}
theorem Zc2 (ns:List Int)(lo hi:Option Int):∃ms:List Int,YS (ns.map V.int) lo hi=ms.map V.int/\(∀k:Nat,hi=some (k:Int)->ms.length<=k):=by
 refine⟨(ns.drop (HT.Yg ns.length 0 lo)).take (HT.Yg ns.length ns.length hi-HT.Yg ns.length 0 lo),?_,fun k e=>?_⟩
 ·unfold YS;rw[Za,List.map_take,List.map_drop]
 ·subst e
  rw[List.length_take,HT.Va];omega
theorem ZdR {f:Addr}{fd:FuncData}(F:Wt K "_law_feed" "_law_feed" Zeq f fd)(T:Bl mg):Z5 P w K mg base Yp 1 f fd ["_law_script"] (ZbU K):=by
 refine F.ok (FS (N:=["_law_script"])) (fun vs H Q E h=>?_) (fun cdv A outer s H vs Q E hr h=>?_)
 ·obtain⟨a,ns,rfl,_⟩:=h;rfl
 ·obtain⟨a,ns,rfl,hS,k⟩:=h
  refine⟨_,Zx (ZF (ZQ (pc (ct Ji T.list (pc (Ye Zds (vn 0) Yy (Yx Zv)) Zs)) (pc Zv (pc Zv (pc Zv Zs)))))),?_⟩
  refine⟨_,rfl,_,rfl,a,_,rfl,hS,fun p1 h1=>⟨p1,_,rfl,.inl (.of Zt),fun q hq=>⟨by show 4<=sizeLine;decide,fun p hp=>?_⟩⟩⟩
  obtain⟨ms,e,hl⟩:=Zc2 ns none (some 63)
  rw[e] at hp ⊢
  have s1:Zw H (upd H p1 (.lst (ms.map V.int))):=Zw.upd h1
  have s2:=s1.trans (Zw.upd (o:=.lst (ms.map V.int)) (e▸hq))
  have s3:=s2.trans (Zw.upd (o:=.lst [.ref q,.int 0,.int 0,.int 0]) hp)
  refine k p _ s3 (s2.free hp) ⟨q,ms,0,0,0,Zt,?_,hl 63 rfl,by decide,by decide,by decide⟩
  have nq:q≠p:=fun z=>by rw[<-z,Zt] at hp;cases hp
  rw[Zy nq,Zt]
theorem ZdS {f:Addr}{fd:FuncData}(F:Wt K "_law_draw" "_law_draw" Zer f fd)(T:Bl mg):Z5 P w K mg base Yp 1 f fd ["_law_feed_here", "_law_many"] Jq:=by
 refine F.ok (FS (N:=["_law_feed_here", "_law_many", "_law_found", "_law_cell", "_law_stirred"])) (fun vs H Q E h=>?_) (fun cdv A outer s H vs Q E hr h=>?_)
 ·obtain⟨p,m,rfl,_⟩:=h;rfl
 ·obtain⟨p,m,rfl,⟨q,ns,i,j,k0,F⟩,hm,hml,k⟩:=h
  refine⟨_,Zu (J7 (Zz ZZ (ZB ZU (vn 0) Zv (fun _ _=>rfl)) Zv) (Vf (vn 0) Zv W3))
   (Zu (VM PassesOwn.never (Ze1 (ZL JG (ZB ZU (vn 0) Zv (fun _ _=>rfl)) Zv (ZS _)) (Zdx (ZL XJ (ZB ZU (vn 0) Zv (fun _ _=>rfl)) (cb YT T.len (pc (ZB ZU (vn 0) Zv (fun _ _=>rfl)) Zs)) (ZS _)))).pt
    (Zu (YK (ZL ZgH (cb Ue T.abs (pc (ZB ZU (ZB ZU (vn 0) Zv (fun _ _=>rfl)) (ZB ZU (vn 0) Zv (fun _ _=>rfl)) (fun _ _=>rfl)) Zs)) (Zz Zff Zv Zv) (ZS _))
      (Zx (J7 (cb Ue T.abs (pc (ZB ZU (ZB ZU (vn 0) Zv (fun _ _=>rfl)) (ZB ZU (vn 0) Zv (fun _ _=>rfl)) (fun _ _=>rfl)) Zs)) (Vf (vn 0) Zv W3))) ZY)
     (Zx (J7 (Zz ZZ (ZB ZU (vn 0) Zv (fun _ _=>rfl)) Zv) (Vf (vn 0) Zv W3)))))
   (Zu (YK (ZL XL (ZB ZU (vn 0) Zv (fun _ _=>rfl)) Zv (ZS _))
     (Zu (ZP 2 rfl (Zz Z4 (ZB ZU (vn 0) Zv (fun _ _=>rfl)) (vn 1)))
      (Zu (J7 (Zz Zcr (ZB ZU (vn 0) Zv (fun _ _=>rfl)) (vn 1)) (Vf (vn 0) Zv W3)) (Zx (ZF (vn 2))))) ZY)
   (Zu (ZP 3 rfl Zv)
   (Zu (YK (ZL XL (cb YT T.len (pc (ZB ZU (vn 0) Zv (fun _ _=>rfl)) Zs)) Zv (ZS _))
     (Zx (ZP 3 rfl (ZB ZU (ZB ZU (vn 0) Zv (fun _ _=>rfl)) (Zz Z4 (ZB ZU (vn 0) Zv (fun _ _=>rfl)) (cb YT T.len (pc (ZB ZU (vn 0) Zv (fun _ _=>rfl)) Zs))) (fun _ _=>rfl)))) ZY)
   (Zu (ZP 4 rfl (Zz Z4 (Zz ZZ (Zz ZZ (Zz ZR (Zz Z4 (vn 3) Zv) Zv) (Zz ZR Zv (ZB ZU (vn 0) Zv (fun _ _=>rfl)))) Zv) Zv))
   (Zu (ZP 4 rfl (Zz Z4 (Zz ZR (vn 4) (Zz ZZ (vn 4) Zv)) Zv))
   (Zx (ZF (Zz Z4 (Zz Z4 (Zz ZR (vn 4) Zv) Zv) (vn 1)))))))))),?_⟩
  refine⟨_,rfl,p,_,_,_,rfl,rfl,.of F.hp,rfl,_,_,rfl,rfl,_,rfl,p,_,_,_,rfl,rfl,F.hp,rfl,?_⟩
  have F1:Ya (upd H p (.lst [.ref q,.int (i+1),.int j,.int k0])) p q ns (i+1) j k0:=F.upd (by have:=F.hi;omega) F.hj F.hk
  refine VA (fun n σ' H'=>∃i' j' k',σ'=[some (.ref p),some (.int m),none,none,none]/\Ya H' p q ns i' j' k'/\(∀b,b≠p->H' b=H b)/\n=(63-k').toNat)
   (fun σ' H'=>∃i' j' k',σ'=[some (.ref p),some (.int m),none,none,none]/\Ya H' p q ns i' j' k'/\(∀b,b≠p->H' b=H b)) ?hend ⟨_,_,_,_,rfl,F1,fun b hb=>Zy hb,rfl⟩ ?turn
  case turn=>
   rintro hend n σ' H' ⟨i',j',k',rfl,F',hb',rfl⟩
   refine⟨_,rfl,p,_,_,_,rfl,rfl,.of F'.hp,rfl,rfl,_,rfl,?_⟩
   refine Y2 (fun hj=>?_) (fun hj=>?_)
   ·obtain⟨kn,rfl⟩:=Int.eq_ofNat_of_zero_le F'.hk
    refine⟨_,rfl,p,_,_,_,rfl,rfl,.of F'.hp,rfl,_,rfl,p,_,_,_,rfl,rfl,.of F'.hp,rfl,q,_,rfl,.inl (.of F'.hq),_,_,rfl,rfl,_,rfl,?_⟩
    refine Y2 (fun hl=>?_) (fun hl=>hend _ _ ⟨i',j',_,rfl,F',hb'⟩)
    refine⟨_,fun _ _ z=>z,?_⟩
    have hl':kn<ns.length:=by
     have:=of_decide_eq_true hl
     rw[Za] at this;omega
    obtain⟨z,hz⟩:∃z,ns[kn]?=some z:=⟨_,Zf hl'⟩
    have hz':Xw (ns.map V.int) (kn:Int)=some (.int z):=ZV (by rw[Zc,hz];rfl)
    refine⟨_,rfl,p,_,_,_,rfl,rfl,.of F'.hp,rfl,_,rfl,p,_,_,_,rfl,rfl,.of F'.hp,rfl,q,_,_,_,rfl,rfl,.of F'.hq,hz',_,rfl,_,_,rfl,rfl,⟨by decide,by decide,by decide⟩,_,_,rfl,rfl,_,rfl,?_⟩
    have hn63:=F'.hn
    refine Y2 (fun hg=>?_) (fun hg=>?_)
    ·refine⟨_,rfl,p,_,_,_,rfl,rfl,.of F'.hp,rfl,_,rfl,p,_,_,_,rfl,rfl,.of F'.hp,rfl,q,_,_,_,rfl,rfl,.of F'.hq,hz',_,rfl,_,rfl,p,_,_,_,rfl,rfl,F'.hp,rfl,?_⟩
     have F2:Ya (upd H' p (.lst [.ref q,.int i',.int (if z<0 then -z else z),.int kn])) p q ns i' (if z<0 then -z else z) kn:=F'.upd F'.hi (by split <;> omega) F'.hk
     refine⟨_,rfl,p,_,_,_,rfl,rfl,.of F2.hp,rfl,_,_,rfl,rfl,_,rfl,p,_,_,_,rfl,rfl,F2.hp,rfl,?_⟩
     exact⟨(63-((kn:Int)+1)).toNat,by omega,i',_,(kn:Int)+1,rfl,F2.upd F'.hi (by split <;> omega) (by omega),fun b hb=>by rw[Zy hb,Zy hb];exact hb' b hb,rfl⟩
    ·refine⟨_,rfl,p,_,_,_,rfl,rfl,.of F'.hp,rfl,_,_,rfl,rfl,_,rfl,p,_,_,_,rfl,rfl,F'.hp,rfl,?_⟩
     exact⟨(63-((kn:Int)+1)).toNat,by omega,i',j',(kn:Int)+1,rfl,F'.upd F'.hi F'.hj (by omega),fun b hb=>by rw[Zy hb];exact hb' b hb,rfl⟩
   ·exact hend _ _ ⟨i',j',k',rfl,F',hb'⟩
  case hend=>
   rintro σ' H' ⟨i',j',k',rfl,F',hb'⟩
   have dr:∀{H2:Hp}{i2 j2 k2:Int},Ya H2 p q ns i2 j2 k2->(∀b,b≠p->H2 b=H b)->Dr p H H2:=fun {H2 i2 j2 k2} F2 hb2=>⟨fun b o e hb=>by rw[hb2 b hb];exact e,fun q' ns' _ _ _ G=>by obtain⟨rfl,rfl⟩:=F.uniq G;exact⟨i2,j2,k2,F2⟩⟩
   refine⟨_,rfl,p,_,_,_,rfl,rfl,.of F'.hp,rfl,_,_,rfl,rfl,_,rfl,?_⟩
   refine Y2 (fun hg=>?_) (fun hg=>?_)
   ·refine⟨_,rfl,p,_,_,_,rfl,rfl,.of F'.hp,rfl,_,rfl,_,_,rfl,rfl,hm,?_⟩
    refine⟨_,rfl,p,_,_,_,rfl,rfl,.of F'.hp,rfl,_,rfl,_,_,rfl,rfl,⟨hm,hml⟩,_,rfl,p,_,_,_,rfl,rfl,F'.hp,rfl,_,rfl,?_⟩
    have F2:=F'.upd (i':=i') (j':=j' / m) (k':=k') F'.hi (Int.ediv_nonneg F'.hj (by omega)) F'.hk
    exact k _ _ (Int.emod_nonneg _ (by omega)) (Int.emod_lt_of_pos _ hm) (dr F2 fun b hb=>by rw[Zy hb];exact hb' b hb)
   ·
    have tail:∀c:Int,ZbO (Uu (XE (rI (fun _ j=>0<j) fun i j=>.int (i % j)) (XE (rI0 fun i j=>.int (i+j)) (XE (rI0 fun i j=>.int (i+j)) (XE (rI Zad fun i j=>.int (i*j)) (XE (rI (fun _ j=>0<j) fun i j=>.int (i % j)) (Xp 3) (tC (.int 2147483647))) (tC (.int 48271))) (XE (rI Zad fun i j=>.int (i*j)) (tC (.int 7919)) (XE (ZeW K) (Xp 0) (tC (.int 1))))) (tC (.int 12345))) (tC (.int 2147483629))) (Z9 4))
      (ZbO (Uu (XE (rI (fun _ j=>0<j) fun i j=>.int (i % j)) (XE (rI Zad fun i j=>.int (i*j)) (Xp 4) (XE (rI0 fun i j=>.int (i+j)) (Xp 4) (tC (.int 40692)))) (tC (.int 2147483587))) (Z9 4))
       (Zf8 (XE (rI (fun _ j=>0<j) fun i j=>.int (i % j)) (XE (rI (fun _ j=>0<j) fun i j=>.int (i % j)) (XE (rI Zad fun i j=>.int (i*j)) (Xp 4) (tC (.int 16807))) (tC (.int 2147483563))) (Xp 1)))) {nx:=fun _ H'=>Q .non H',rt:=Q} [some (.ref p),some (.int m),none,some (.int c),none] H':=by
     intro c
     refine⟨_,rfl,_,_,rfl,rfl,(by show (0:Int)<_;decide),_,_,rfl,rfl,.inl ⟨by omega,by omega⟩,_,rfl,p,_,_,_,rfl,rfl,.of F'.hp,rfl,_,_,rfl,rfl,.inl ⟨by decide,by decide⟩,_,_,rfl,rfl,_,_,rfl,rfl,_,_,rfl,rfl,(by show (0:Int)<_;decide),?_⟩
     refine⟨_,rfl,_,rfl,_,_,rfl,rfl,_,_,rfl,rfl,.inl ⟨by omega,by omega⟩,_,_,rfl,rfl,(by show (0:Int)<_;decide),?_⟩
     refine⟨_,rfl,_,_,rfl,rfl,.inl ⟨by omega,by omega⟩,_,_,rfl,rfl,(by show (0:Int)<_;decide),_,rfl,_,_,rfl,rfl,hm,?_⟩
     exact k _ _ (Int.emod_nonneg _ (by omega)) (Int.emod_lt_of_pos _ hm) (dr F' hb')
    refine⟨_,rfl,p,_,_,_,rfl,rfl,.of F'.hp,rfl,q,_,rfl,.inl (.of F'.hq),_,_,rfl,rfl,_,rfl,?_⟩
    refine Y2 (fun hl=>?_) (fun hl=>?_)
    ·have hl':0<ns.length:=by
      have:=of_decide_eq_true hl
      rw[Za] at this;omega
     have hr0:0<=i' % (ns.length:Int)/\i' % (ns.length:Int)<ns.length:=⟨Int.emod_nonneg _ (by omega),Int.emod_lt_of_pos _ (by omega)⟩
     obtain⟨rn,hrn⟩:=Int.eq_ofNat_of_zero_le hr0.1
     obtain⟨z,hz⟩:∃z,ns[rn]?=some z:=⟨_,Zf (by omega)⟩
     have hz':Xw (ns.map V.int) (i' % ((ns.map V.int).length:Int))=some (.int z):=by rw[Za,hrn];exact ZV (by rw[Zc,hz];rfl)
     refine⟨_,rfl,p,_,_,_,rfl,rfl,.of F'.hp,rfl,_,rfl,p,_,_,_,rfl,rfl,.of F'.hp,rfl,_,rfl,p,_,_,_,rfl,rfl,.of F'.hp,rfl,q,_,rfl,.inl (.of F'.hq),_,_,rfl,rfl,(by show (0:Int)<((ns.map V.int).length:Int);rw[Za];omega),q,_,_,_,rfl,rfl,.of F'.hq,hz',?_⟩
     exact tail z
    ·exact tail 0
end
theorem Wn.mono {H H':Hp}{p:Addr}(s:Zw H H')(F:Wn H p):Wn H' p:=by
 obtain⟨q,ns,i,j,k,F⟩:=F
 exact⟨q,ns,i,j,k,F.mono s⟩
theorem Dr.trans {p:Addr}{H H1 H2:Hp}(a:Dr p H H1)(b:Dr p H1 H2):Dr p H H2:=
 ⟨fun c o e n=>b.keep c o (a.keep c o e n) n,fun q ns i j k F=>let ⟨_,_,_,G⟩:=a.at_ q ns i j k F;b.at_ _ _ _ _ _ G⟩
theorem Dr.of {p:Addr}{H H1:Hp}(a:Zw H H1):Dr p H H1:=⟨fun c o e _=>a c o e,fun _ _ i j k F=>⟨i,j,k,F.mono a⟩⟩
theorem Dr.same {p:Addr}{H H1 H2:Hp}(a:Dr p H H1)(b:Zw H1 H2):Dr p H H2:=a.trans (.of b)
theorem Dr.updN {p l:Addr}{H H1:Hp}{o:HO}(a:Dr p H H1)(h:H l=none):Dr p H (upd H1 l o):=
 ⟨fun c u e n=>by rw[Zy (ZA e h)];exact a.keep c u e n,fun q ns i j k F=>by
  obtain⟨i',j',k',G⟩:=a.at_ q ns i j k F
  exact⟨i',j',k',by rw[Zy (ZA F.hp h)];exact G.hp,by rw[Zy (ZA F.hq h)];exact G.hq,G.hn,G.hi,G.hj,G.hk⟩⟩
theorem Wn.neT {p a:Addr}{H:Hp}{xs:List V}(F:Wn H p)(h:H a=some (.tup xs)):a≠p:=fun e=>by
 obtain⟨q,ns,i,j,k,F⟩:=F
 rw[e,F.hp] at h;cases h
theorem Dr.tup {p a:Addr}{H H':Hp}{xs:List V}(d:Dr p H H')(F:Wn H p)(h:H a=some (.tup xs)):H' a=some (.tup xs):=d.keep a _ h (F.neT h)
section
variable {P:Program}{w:World}{K:PySem.W.Frag}{mg:Str->Option Value}{base:Heap}
theorem Jv {m:Int}(h:0<m)(h2:m<2 ^ 64):m.natAbs.log2<9000:=by
 have:=(Nat.log2_lt (n:=m.natAbs) (k:=64) (by omega)).mpr (by omega)
 omega
end
end C10
namespace L2
open PySem PySem.Spec PyProof.Rows
section
variable {X:Cx}{pos:Pos}
theorem Za7 (i j:Nat){x y:Str}{a b:Expr}{ta:TA}{px py pt:Pos}{kt k2 pt2}(hc:X.calm=true)(ha:PA X [a,b] ta)(hN:YX X.N=true:=by kernel_rfl)(hi:X.N[i]?=some x:=by rfl)(hj:X.N[j]?=some y:=by rfl)(hij:i≠j:=by decide)
  (hx:X.env.scope.names.lookup x=some .local:=by rfl) (hy:X.env.scope.names.lookup y=some .local:=by rfl)
  (hw:swappedStores [.Tuple [.Name x px,.Name y py] kt pt] (.Tuple [a,b] k2 pt2) X.env=pure (some [x,y]):=by rfl)
  (hs:swapsWithSole [.Tuple [.Name x px,.Name y py] kt pt] (.Tuple [a,b] k2 pt2) pos.line X.env=pure false:=by rfl) :
  PS X (.Assign [.Tuple [.Name x px,.Name y py] kt pt] (.Tuple [a,b] k2 pt2) pos) (Zga i j ta):=Ze7 hc (Z6 hN) hi hj hij hx hy ha hw hs
end
end L2
namespace C10
open PySem L2 PySem.Spec PyProof.Rows
open Tb
open Pm
theorem Tz.dr {H H':Hp}{r p:Addr}{ys:List V}(F:Wn H p)(d:Dr p H H')(h:Tz H r ys):Tz H' r ys:=by
 obtain⟨o,h,rest⟩:=h
 refine⟨o,d.keep r _ h (fun z=>?_),rest⟩
 obtain⟨q,ns,i,j,k,F⟩:=F
 rw[z,F.hp] at h
 cases h
end C10
namespace Pm
open PySem L2 PySem.Spec PyProof.Rows
open Tb C10
theorem GT.dr {H H':Hp}{g p:Addr}{t:List (List Nat)}(F:Wn H p)(d:Dr p H H')(G:GT H g t):GT H' g t:=by
 obtain⟨rs,h1,h2,h3⟩:=G
 exact⟨rs,d.tup F h1,h2,fun i r hr=>Tz.dr F d (h3 i r hr)⟩
end Pm
namespace C10
open PySem L2 PySem.Spec PyProof.Rows
open Tb
open Pm
section
variable {P:Program}{w:World}{K:PySem.W.Frag}{mg:Str->Option Value}{base:Heap}
end
abbrev sTw:Stmt:=top 27
abbrev Zb3:Stmt:=top 28
abbrev Zgm:Stmt:=top 30
def stM (m u:Nat):Nat->Nat
 |0=>1 % m
 |k+1=>stM m u k*u % m
def twE (m many u x y:Nat):Nat:=(x % m+stM m u (x / m)*(y % m)) % m+m*((x / m+y / m) % many)
def tw (m many u:Nat):List (List Nat):=(List.range (m*many)).map fun x=>(List.range (m*many)).map (twE m many u x)
def ZeP:Sp:=fun vs H Q _=>∃(m many u:Nat),vs=[.int m,.int many,.int u]/\1<=m/\1<=many/\m*many<=60/\u<=60/\m<=60/\many<=60/\∀g H',Zw H H'->GT H' g (tw m many u)->Q (.ref g) H'
section
variable {P:Program}{w:World}{K:PySem.W.Frag}{mg:Str->Option Value}{base:Heap}
theorem ZgL {f:Addr}{fd:FuncData}(F:Wt K "_law_twined" "_law_twined" sTw f fd)(T:Bl mg):Z5 P w K mg base Yp 1 f fd ["_law_m", "_law_many", "_law_u"] ZeP:=by
 refine F.ok (FS (N:=["_law_m", "_law_many", "_law_u", "_law_steps", "_law_s", "_law_rows", "_law_x", "_law_a", "_law_row", "_law_y", "_law_first"])) (fun vs H Q E h=>?_) (fun cdv A outer s H vs Q E hr h=>?_)
 ·obtain⟨m,many,u,rfl,_⟩:=h;rfl
 ·obtain⟨m,many,u,rfl,m1,k1,mk,u60,m60,k60,q⟩:=h
  refine⟨_,Zu (ZP 3 rfl (ZQ (pc (Zz Z4 Zv (vn 0)) Zs)))
   (Zu (Z3 PassesOwn.never rfl (JP T.range (pc (Zz Xb (vn 1) Zv) Zs)) (gn 4)
    (Zx (Z0 (Ym PySem.F.plainAttrs_list PySem.F.slot_list_append PySem.F.type_list_append ZI (vn 3) (pc (Zz Z4 (Zz ZR (ZB (ixL K) (vn 3) (Zar X0 Zv) (fun _ _=>rfl)) (vn 2)) (vn 0)) Zs)))))
   (Zu (ZP 5 rfl (ZQ Zs))
   (Zu (Z3 PassesOwn.never rfl (JP T.range (pc (Zz ZR (vn 0) (vn 1)) Zs)) (gn 6)
    (Zu (Za7 7 4 rfl (pc (Zz Z4 (vn 6) (vn 0)) (pc (Zz Y3 (vn 6) (vn 0)) Zs)))
    (Zu (ZP 8 rfl (ZQ Zs))
    (Zu (Z3 PassesOwn.never rfl (JP T.range (pc (Zz ZR (vn 0) (vn 1)) Zs)) (gn 9)
     (Zu (ZP 10 rfl (Zz Z4 (Zz ZZ (vn 7) (Zz ZR (ZB (ixL K) (vn 3) (vn 4) (fun _ _=>rfl)) (Zz Z4 (vn 9) (vn 0)))) (vn 0)))
     (Zx (Z0 (Ym PySem.F.plainAttrs_list PySem.F.slot_list_append PySem.F.type_list_append ZI (vn 8) (pc (Zz ZZ (vn 10) (Zz ZR (vn 0) (Zz Z4 (Zz ZZ (vn 4) (Zz Y3 (vn 9) (vn 0))) (vn 1)))) Zs))))))
    (Zx (Z0 (Ym PySem.F.plainAttrs_list PySem.F.slot_list_append PySem.F.type_list_append ZI (vn 5) (pc (ct Yf T.tuple (pc (vn 8) Zs)) Zs))))))))
   (Zx (ZF (ct ZH T.tuple (pc (vn 5) Zs))))))),?_⟩
  have sz:(16777216:Nat)=sizeLine:=by decide
  refine⟨_,rfl,_,_,rfl,rfl,(by show (0:Int)<m;omega),(by show 1<=sizeLine;decide),fun S nS=>?_⟩
  refine⟨_,rfl,_,_,rfl,rfl,(many:Int)-1,rfl,by omega,by omega,?_⟩
  have ek:((many:Int)-1).toNat=many-1:=by omega
  rw[ek]
  refine Z7 (fun i σ' H'=>∃v4:Option V,σ'=[some (.int m),some (.int many),some (.int u),some (.ref S),v4,none,none,none,none,none,none]/\Zw H H'/\H' S=some (.lst ((List.range (i+1)).map fun k=>nV (stM m u k)))) ⟨_,rfl,Zw.upd nS,by rw[Zt];rfl⟩ ?_ ?_
  ·rintro i σ' H' hi ⟨v4,rfl,sm,hS⟩
   have hlast:Xw ((List.range (i+1)).map fun k=>nV (stM m u k)) (-1)=some (nV (stM m u i)):=by
    rw[List.range_succ,List.map_append]
    exact Ug _ _
   refine⟨_,rfl,.inl ⟨rfl,_,.of hS⟩,_,rfl,_,rfl,S,_,_,_,rfl,rfl,.of hS,hlast,_,rfl,_,_,rfl,rfl,.inr ⟨by omega,by omega⟩,_,rfl,_,_,rfl,rfl,(by show (0:Int)<m;omega),S,_,_,rfl,rfl,hS,by rw[Za,Zg];omega,_,rfl,sm.updr nS,?_⟩
   rw[Zt,List.range_succ (n:=i+1),List.map_append]
   rfl
  rintro σ' H1 ⟨v4,rfl,s1,hS⟩
  rw[show many-1+1=many by omega] at hS
  refine⟨(by show 0<=sizeLine;decide),fun L nL=>?_⟩
  have s2:=s1.trans (Zw.upd (o:=.lst []) nL)
  have nLH:H L=none:=s1.free nL
  have eN:V.int ((m:Int)*(many:Int))=V.int ((m*many:Nat):Int):=congrArg V.int (by push_cast;rfl)
  have eNi:(m:Int)*(many:Int)=((m*many:Nat):Int):=by push_cast;rfl
  refine⟨_,rfl,_,rfl,_,_,rfl,rfl,.inl ⟨by omega,by omega⟩,(m:Int)*(many:Int),rfl,by rw[eNi];omega,by rw[eNi];omega,?_⟩
  rw[eNi,Zj]
  have hS2:=Zw.upd (H:=H1) (o:=.lst []) nL _ _ hS
  refine Z7 (fun x σ' H'=>∃(rs:List Addr) (v4 v6 v7 v8 v9 v10:Option V),σ'=[some (.int m),some (.int many),some (.int u),some (.ref S),v4,some (.ref L),v6,v7,v8,v9,v10]/\Zw H H'/\H' S=some (.lst ((List.range many).map fun k=>nV (stM m u k)))/\Yt H' L rs (fun x=>(List.range (m*many)).map (twE m many u x))/\rs.length=x)
   ⟨[],_,_,_,_,_,_,rfl,s2,hS2,⟨Zt,fun i r hr=>by cases hr⟩,rfl⟩ ?_ ?_
  ·rintro x σ' H2 hx ⟨rs,v4,v6,v7,v8,v9,v10,rfl,sm,hSx,R,rl⟩
   rw[show (0:Int)+(x:Int)=(x:Int) by omega]
   have eA:V.int ((x:Int) % (m:Int))=V.int ((x % m:Nat):Int):=congrArg V.int (by push_cast;rfl)
   have eS:V.int ((x:Int) / (m:Int))=V.int ((x / m:Nat):Int):=congrArg V.int (by push_cast;rfl)
   refine⟨_,rfl,_,rfl,_,_,rfl,rfl,(by show (0:Int)<m;omega),_,rfl,_,rfl,_,_,rfl,rfl,⟨(by show (0:Int)<m;omega),(by show (m:Int)<1073741824;omega)⟩,_,_,rfl,?_⟩
   dsimp only
   rw[eA,eS]
   have xs:x / m<many:=Nat.div_lt_of_lt_mul hx
   refine⟨(by show 0<=sizeLine;decide),fun l nl=>?_⟩
   have nlH:H l=none:=sm.free nl
   have s3:=Zw.upd (H:=H2) (o:=.lst []) nl
   refine⟨_,rfl,_,rfl,_,_,rfl,rfl,.inl ⟨by omega,by omega⟩,(m:Int)*(many:Int),rfl,by rw[eNi];omega,by rw[eNi];omega,?_⟩
   rw[eNi,Zj]
   refine Z7 (fun y σ'' H'=>∃(w9 w10:Option V),σ''=[some (.int m),some (.int many),some (.int u),some (.ref S),some (.int (x / m:Nat)),some (.ref L),some (.int x),some (.int (x % m:Nat)),some (.ref l),w9,w10]/\Zw H2 H'/\H' l=some (.lst (((List.range y).map (twE m many u x)).map nV)))
    ⟨_,_,rfl,s3,Zt⟩ ?_ ?_
   ·rintro y σ'' H' hy ⟨w9,w10,rfl,sm',hl⟩
    rw[show (0:Int)+(y:Int)=(y:Int) by omega]
    have hSy:=sm' _ _ hSx
    have hat:Xw ((List.range many).map fun k=>nV (stM m u k)) ((x / m:Nat):Int)=some (nV (stM m u (x / m))):=ZV (by rw[Zc,List.getElem?_range xs];rfl)
    refine⟨_,rfl,_,rfl,_,rfl,S,_,_,_,rfl,rfl,.of hSy,hat,_,rfl,_,rfl,_,_,rfl,rfl,(by show (0:Int)<m;omega),_,_,rfl,rfl,.inr ⟨?_,?_⟩,_,_,rfl,rfl,_,rfl,_,_,rfl,rfl,(by show (0:Int)<m;omega),?_⟩
    ·have:=Int.emod_nonneg (y:Int) (show (m:Int)≠0 by omega);omega
    ·have:=Int.emod_lt_of_pos (y:Int) (show (0:Int)<m by omega);omega
    refine⟨_,rfl,.inl ⟨rfl,_,.of hl⟩,_,rfl,_,rfl,_,rfl,_,rfl,_,rfl,_,_,rfl,rfl,⟨(by show (0:Int)<m;omega),(by show (m:Int)<1073741824;omega)⟩,_,_,rfl,rfl,_,rfl,_,_,rfl,rfl,(by show (0:Int)<many;omega),_,_,rfl,rfl,.inl ⟨by omega,by omega⟩,_,_,rfl,rfl,l,_,_,rfl,rfl,hl,by rw[Za,Za,Zg];omega,?_⟩
    refine⟨_,_,rfl,sm'.updr nl,?_⟩
    rw[Zt,List.range_succ,List.map_append,List.map_append]
    rfl
   ·rintro σ'' H3 ⟨w9,w10,rfl,sm',hl⟩
    have R3:=R.mono sm'
    refine⟨_,rfl,.inl ⟨rfl,_,.of R3.1⟩,_,rfl,l,_,rfl,.of hl,fun tr H4 nt s4 hz=>?_⟩
    have R4:=R3.mono s4
    refine⟨L,_,_,rfl,rfl,R4.1,by rw[Za];omega,?_⟩
    refine⟨rs++[tr],_,_,_,_,_,_,rfl,((sm.trans sm').trans s4).updr nLH,?_,R4.push (by rw[rl];exact hz),by rw[Zd,Zk,rl]⟩
    have hS4:=(sm'.trans s4) _ _ hSx
    rw[Zy (fun z=>?_)]
    ·exact hS4
    ·have hL1:=R4.1
     rw[<-z,hS4] at hL1
     have hh:=Option.some.inj hL1
     injection hh with hh
     cases hrs:rs with
     |nil=>
      rw[hrs] at hh
      have:=congrArg List.length hh
      rw[Za,Zg] at this
      simp at this
      omega
     |cons a b=>
      rw[hrs] at hh
      have:=congrArg List.head? hh
      obtain⟨kk,hkk⟩:∃kk,many=kk+1:=⟨many-1,by omega⟩
      rw[hkk,List.range_succ_eq_map,List.map_cons,List.head?_cons] at this
      cases this
  ·rintro σ' H2 ⟨rs,v4,v6,v7,v8,v9,v10,rfl,sm,hSx,R,rl⟩
   refine⟨_,rfl,L,_,rfl,.inl ⟨.of R.1,fun gg ngg=>?_⟩⟩
   exact q gg _ (sm.trans (Zw.upd ngg)) (JN R rl (Zw.upd ngg) Zt)
end
def egI (m x y:Nat):Int:=(((x % (2*m):Nat):Int)+(if x / (2*m)=0 then ((y % (2*m):Nat):Int) else -((y % (2*m):Nat):Int))+(m:Int)*((x / (2*m):Nat):Int)*((y / (2*m):Nat):Int)) % (2*(m:Int))
def egE (m x y:Nat):Nat:=(egI m x y).toNat+2*m*((x / (2*m)+y / (2*m)) % 2)
def eg (m:Nat):List (List Nat):=(List.range (4*m)).map fun x=>(List.range (4*m)).map (egE m x)
def Uk (t1 t2:List (List Nat))(x y:Nat):Nat:=ZW t1 (x / t2.length) (y / t2.length)*t2.length+ZW t2 (x % t2.length) (y % t2.length)
def pt (t1 t2:List (List Nat)):List (List Nat):=(List.range (t1.length*t2.length)).map fun x=>(List.range (t1.length*t2.length)).map (Uk t1 t2 x)
def Zaj:Sp:=fun vs H Q _=>∃(m:Nat),vs=[.int m]/\1<=m/\4*m<=60/\∀g H',Zw H H'->GT H' g (eg m)->Q (.ref g) H'
def Zeh:Sp:=fun vs H Q _=>∃(g1 g2:Addr) (t1 t2:List (List Nat)),vs=[.ref g1,.ref g2]/\GT H g1 t1/\GT H g2 t2/\PW t1/\PW t2/\t1.length*t2.length<=60/\∀g H',Zw H H'->GT H' g (pt t1 t2)->Q (.ref g) H'
section
variable {P:Program}{w:World}{K:PySem.W.Frag}{mg:Str->Option Value}{base:Heap}
theorem Zcw {f:Addr}{fd:FuncData}(F:Wt K "_law_eight" "_law_eight" Zb3 f fd)(T:Bl mg):Z5 P w K mg base Yp 1 f fd ["_law_m"] Zaj:=by
 refine F.ok (FS (N:=["_law_m", "_law_rows", "_law_x", "_law_a", "_law_s", "_law_row", "_law_y", "_law_b", "_law_t", "_law_first"])) (fun vs H Q E h=>?_) (fun cdv A outer s H vs Q E hr h=>?_)
 ·obtain⟨m,rfl,_⟩:=h;rfl
 ·obtain⟨m,rfl,m1,m60,q⟩:=h
  refine⟨_,Zu (ZP 1 rfl (ZQ Zs))
   (Zu (Z3 PassesOwn.never rfl (JP T.range (pc (Zz ZR Zv (vn 0)) Zs)) (gn 2)
    (Zu (Za7 3 4 rfl (pc (Zz Z4 (vn 2) (Zz ZR Zv (vn 0))) (pc (Zz Y3 (vn 2) (Zz ZR Zv (vn 0))) Zs)))
    (Zu (ZP 5 rfl (ZQ Zs))
    (Zu (Z3 PassesOwn.never rfl (JP T.range (pc (Zz ZR Zv (vn 0)) Zs)) (gn 6)
     (Zu (Za7 7 8 rfl (pc (Zz Z4 (vn 6) (Zz ZR Zv (vn 0))) (pc (Zz Y3 (vn 6) (Zz ZR Zv (vn 0))) Zs)))
     (Zu (ZP 9 rfl (Zz Z4 (Zz ZZ (Zz ZZ (vn 3) (ZB (ixL K) (ZQ (pc (vn 7) (pc (Zar X0 (vn 7)) Zs))) (vn 4) (fun _ _=>rfl))) (Zz ZR (Zz ZR (vn 0) (vn 4)) (vn 8))) (Zz ZR Zv (vn 0))))
     (Zx (Z0 (Ym PySem.F.plainAttrs_list PySem.F.slot_list_append PySem.F.type_list_append ZI (vn 5) (pc (Zz ZZ (vn 9) (Zz ZR (Zz ZR Zv (vn 0)) (Zz Z4 (Zz ZZ (vn 4) (vn 8)) Zv))) Zs)))))))
    (Zx (Z0 (Ym PySem.F.plainAttrs_list PySem.F.slot_list_append PySem.F.type_list_append ZI (vn 1) (pc (ct Yf T.tuple (pc (vn 5) Zs)) Zs))))))))
   (Zx (ZF (ct ZH T.tuple (pc (vn 1) Zs))))),?_⟩
  have sz:(16777216:Nat)=sizeLine:=by decide
  refine⟨(by show 0<=sizeLine;decide),fun L nL=>?_⟩
  have s2:=Zw.upd (H:=H) (o:=.lst []) nL
  have eNi:(4:Int)*(m:Int)=((4*m:Nat):Int):=by push_cast;rfl
  refine⟨_,rfl,_,_,rfl,rfl,.inl ⟨by omega,by omega⟩,(4:Int)*(m:Int),rfl,by omega,by omega,?_⟩
  rw[eNi,Zj]
  refine Z7 (fun x σ' H'=>∃(rs:List Addr) (v2 v3 v4 v5 v6 v7 v8 v9:Option V),σ'=[some (.int m),some (.ref L),v2,v3,v4,v5,v6,v7,v8,v9]/\Zw H H'/\Yt H' L rs (fun x=>(List.range (4*m)).map (egE m x))/\rs.length=x)
   ⟨[],_,_,_,_,_,_,_,_,rfl,s2,⟨Zt,fun i r hr=>by cases hr⟩,rfl⟩ ?_ ?_
  ·rintro x σ' H2 hx ⟨rs,v2,v3,v4,v5,v6,v7,v8,v9,rfl,sm,R,rl⟩
   rw[show (0:Int)+(x:Int)=(x:Int) by omega]
   have eA:V.int ((x:Int) % (2*(m:Int)))=V.int ((x % (2*m):Nat):Int):=congrArg V.int (by push_cast;rfl)
   have eS:V.int ((x:Int) / (2*(m:Int)))=V.int ((x / (2*m):Nat):Int):=congrArg V.int (by push_cast;rfl)
   refine⟨_,rfl,_,rfl,_,_,rfl,rfl,.inl ⟨by omega,by omega⟩,_,_,rfl,rfl,(by show (0:Int)<2*(m:Int);omega),_,rfl,_,rfl,_,_,rfl,rfl,.inl ⟨by omega,by omega⟩,_,_,rfl,rfl,⟨(by show (0:Int)<2*(m:Int);omega),(by show (2*(m:Int))<1073741824;omega)⟩,_,_,rfl,?_⟩
   dsimp only
   rw[eA,eS]
   have xs:x / (2*m)<2:=Nat.div_lt_of_lt_mul (by omega)
   refine⟨(by show 0<=sizeLine;decide),fun l nl=>?_⟩
   have s3:=Zw.upd (H:=H2) (o:=.lst []) nl
   refine⟨_,rfl,_,_,rfl,rfl,.inl ⟨by omega,by omega⟩,(4:Int)*(m:Int),rfl,by omega,by omega,?_⟩
   rw[eNi,Zj]
   refine Z7 (fun y σ'' H'=>∃(w6 w7 w8 w9:Option V),σ''=[some (.int m),some (.ref L),some (.int x),some (.int (x % (2*m):Nat)),some (.int (x / (2*m):Nat)),some (.ref l),w6,w7,w8,w9]/\Zw H2 H'/\H' l=some (.lst (((List.range y).map (egE m x)).map nV)))
    ⟨_,_,_,_,rfl,s3,Zt⟩ ?_ ?_
   ·rintro y σ'' H' hy ⟨w6,w7,w8,w9,rfl,sm',hl⟩
    rw[show (0:Int)+(y:Int)=(y:Int) by omega]
    have eB:V.int ((y:Int) % (2*(m:Int)))=V.int ((y % (2*m):Nat):Int):=congrArg V.int (by push_cast;rfl)
    have eT:V.int ((y:Int) / (2*(m:Int)))=V.int ((y / (2*m):Nat):Int):=congrArg V.int (by push_cast;rfl)
    have ys:y / (2*m)<2:=Nat.div_lt_of_lt_mul (by omega)
    refine⟨_,rfl,_,rfl,_,_,rfl,rfl,.inl ⟨by omega,by omega⟩,_,_,rfl,rfl,(by show (0:Int)<2*(m:Int);omega),_,rfl,_,rfl,_,_,rfl,rfl,.inl ⟨by omega,by omega⟩,_,_,rfl,rfl,⟨(by show (0:Int)<2*(m:Int);omega),(by show (2*(m:Int))<1073741824;omega)⟩,_,_,rfl,?_⟩
    dsimp only
    rw[eB,eT]
    refine⟨_,rfl,_,rfl,_,rfl,_,rfl,(by show 2<=sizeLine;decide),fun l2 nl2=>?_⟩
    have s4:=Zw.upd (H:=H') (o:=.lst [.int (y % (2*m):Nat),.int (-((y % (2*m):Nat):Int))]) nl2
    have hat:Xw [V.int ((y % (2*m):Nat):Int),V.int (-((y % (2*m):Nat):Int))] ((x / (2*m):Nat):Int)=some (.int (if x / (2*m)=0 then ((y % (2*m):Nat):Int) else -((y % (2*m):Nat):Int))):=by
     by_cases h0:x / (2*m)=0
     ·rw[h0,if_pos rfl];exact ZV (j:=0) rfl
     ·have:x / (2*m)=1:=by
       have h2:=xs
       generalize x / (2*m)=z at *
       omega
      rw[this,if_neg (by decide)];exact ZV (j:=1) rfl
    have hl2:=s4 _ _ hl
    have bx:((x / (2*m):Nat):Int)<2:=by
     have h2:=xs
     generalize x / (2*m)=z at *
     omega
    have bx0:(0:Int)<=((x / (2*m):Nat):Int):=Int.natCast_nonneg _
    have by':((y / (2*m):Nat):Int)<2:=by
     have h2:=ys
     generalize y / (2*m)=z at *
     omega
    have by0:(0:Int)<=((y / (2*m):Nat):Int):=Int.natCast_nonneg _
    refine⟨_,rfl,l2,_,_,_,rfl,rfl,.of Zt,hat,_,_,rfl,rfl,_,rfl,_,rfl,_,_,rfl,rfl,.inl ⟨by omega,by omega⟩,_,rfl,_,_,rfl,rfl,.inr ⟨by omega,by omega⟩,_,_,rfl,rfl,_,rfl,_,_,rfl,rfl,.inl ⟨by omega,by omega⟩,_,_,rfl,rfl,(by show (0:Int)<2*(m:Int);omega),?_⟩
    refine⟨_,rfl,.inl ⟨rfl,_,.of hl2⟩,_,rfl,_,rfl,_,_,rfl,rfl,.inl ⟨by omega,by omega⟩,_,rfl,_,rfl,_,_,rfl,rfl,_,_,rfl,rfl,(by show (0:Int)<2;decide),_,_,rfl,rfl,.inl ⟨by omega,by omega⟩,_,_,rfl,rfl,l,_,_,rfl,rfl,hl2,by rw[Za,Za,Zg];omega,?_⟩
    refine⟨_,_,_,_,rfl,(sm'.trans s4).updr nl,?_⟩
    have e0:(0:Int)<=egI m x y:=Int.emod_nonneg _ (by omega)
    have eE:(egI m x y+2*(m:Int)*((((x / (2*m):Nat):Int)+((y / (2*m):Nat):Int)) % 2))=((egE m x y:Nat):Int):=by
     unfold egE
     push_cast
     rw[Int.toNat_of_nonneg e0]
    rw[Zt,List.range_succ,List.map_append,List.map_append]
    show some (HO.lst (_++[V.int (egI m x y+2*(m:Int)*((((x / (2*m):Nat):Int)+((y / (2*m):Nat):Int)) % 2))]))=_
    rw[eE]
    rfl
   ·rintro σ'' H3 ⟨w6,w7,w8,w9,rfl,sm',hl⟩
    have R3:=R.mono sm'
    refine⟨_,rfl,.inl ⟨rfl,_,.of R3.1⟩,_,rfl,l,_,rfl,.of hl,fun tr H4 nt s4 hz=>?_⟩
    have R4:=R3.mono s4
    refine⟨L,_,_,rfl,rfl,R4.1,by rw[Za];omega,?_⟩
    exact⟨rs++[tr],_,_,_,_,_,_,_,_,rfl,((sm.trans sm').trans s4).updr nL,R4.push (by rw[rl];exact hz),by rw[Zd,Zk,rl]⟩
  ·rintro σ' H2 ⟨rs,v2,v3,v4,v5,v6,v7,v8,v9,rfl,sm,R,rl⟩
   refine⟨_,rfl,L,_,rfl,.inl ⟨.of R.1,fun gg ngg=>?_⟩⟩
   exact q gg _ (sm.trans (Zw.upd ngg)) (JN R rl (Zw.upd ngg) Zt)
theorem Zfj {f:Addr}{fd:FuncData}(F:Wt K "_law_put" "_law_put" Zgm f fd)(T:Bl mg):Z5 P w K mg base Yp 1 f fd ["_law_one", "_law_other"] Zeh:=by
 refine F.ok (FS (N:=["_law_one", "_law_other", "_law_many", "_law_rows", "_law_x", "_law_a", "_law_b", "_law_row", "_law_y", "_law_first"])) (fun vs H Q E h=>?_) (fun cdv A outer s H vs Q E hr h=>?_)
 ·obtain⟨g1,g2,t1,t2,rfl,_⟩:=h;rfl
 ·obtain⟨g1,g2,t1,t2,rfl,G1,G2,P1,P2,n60,q⟩:=h
  refine⟨_,Zu (ZP 2 rfl (cb (Y1 K) T.len (pc (vn 1) Zs)))
   (Zu (ZP 3 rfl (ZQ Zs))
   (Zu (Z3 PassesOwn.never rfl (JP T.range (pc (Zz ZR (cb (Y1 K) T.len (pc (vn 0) Zs)) (vn 2)) Zs)) (gn 4)
    (Zu (Za7 5 6 rfl (pc (Zz Y3 (vn 4) (vn 2)) (pc (Zz Z4 (vn 4) (vn 2)) Zs)))
    (Zu (ZP 7 rfl (ZQ Zs))
    (Zu (Z3 PassesOwn.never rfl (JP T.range (pc (Zz ZR (cb (Y1 K) T.len (pc (vn 0) Zs)) (vn 2)) Zs)) (gn 8)
     (Zu (ZP 9 rfl (Zz ZR (ZB (Jw K) (ZB (Jw K) (vn 0) (vn 5) (fun _ _=>rfl)) (Zz Y3 (vn 8) (vn 2)) (fun _ _=>rfl)) (vn 2)))
     (Zx (Z0 (Ym PySem.F.plainAttrs_list PySem.F.slot_list_append PySem.F.type_list_append ZI (vn 7) (pc (Zz ZZ (vn 9) (ZB (Jw K) (ZB (Jw K) (vn 1) (vn 6) (fun _ _=>rfl)) (Zz Z4 (vn 8) (vn 2)) (fun _ _=>rfl))) Zs))))))
    (Zx (Z0 (Ym PySem.F.plainAttrs_list PySem.F.slot_list_append PySem.F.type_list_append ZI (vn 3) (pc (ct Yf T.tuple (pc (vn 7) Zs)) Zs))))))))
   (Zx (ZF (ct ZH T.tuple (pc (vn 3) Zs)))))),?_⟩
  have sz:(16777216:Nat)=sizeLine:=by decide
  have a1:=P1.n1
  have a2:=P2.n1
  have b1:=P1.n60
  have b2:=P2.n60
  obtain⟨rs1,u1,u2,_⟩:=id G1
  obtain⟨rs2,u3,u4,_⟩:=id G2
  have e1:(rs1.map V.ref).length=t1.length:=by rw[Za,u2]
  have e2:(rs2.map V.ref).length=t2.length:=by rw[Za,u4]
  refine⟨_,rfl,g2,_,rfl,.inr (.of u3),(by show 0<=sizeLine;decide),fun L nL=>?_⟩
  rw[e2]
  have s2:=Zw.upd (H:=H) (o:=.lst []) nL
  have eNi:(t1.length:Int)*(t2.length:Int)=((t1.length*t2.length:Nat):Int):=by push_cast;rfl
  refine⟨_,rfl,g1,_,rfl,.inr (.of (s2 _ _ u1)),_,rfl,_,_,rfl,rfl,.inl ⟨by rw[e1];omega,by rw[e1];omega⟩,_,rfl,by rw[e1,eNi];omega,by rw[e1,eNi];omega,?_⟩
  rw[e1,eNi,Zj]
  refine Z7 (fun x σ' H'=>∃(rs:List Addr) (v4 v5 v6 v7 v8 v9:Option V),σ'=[some (.ref g1),some (.ref g2),some (.int (t2.length:Nat)),some (.ref L),v4,v5,v6,v7,v8,v9]/\Zw H H'/\Yt H' L rs (fun x=>(List.range (t1.length*t2.length)).map (Uk t1 t2 x))/\rs.length=x)
   ⟨[],_,_,_,_,_,_,rfl,s2,⟨Zt,fun i r hr=>by cases hr⟩,rfl⟩ ?_ ?_
  ·rintro x σ' H2 hx ⟨rs,v4,v5,v6,v7,v8,v9,rfl,sm,R,rl⟩
   rw[show (0:Int)+(x:Int)=(x:Int) by omega]
   have eA:V.int ((x:Int) / ((t2.length:Nat):Int))=V.int ((x / t2.length:Nat):Int):=congrArg V.int (by push_cast;rfl)
   have eS:V.int ((x:Int) % ((t2.length:Nat):Int))=V.int ((x % t2.length:Nat):Int):=congrArg V.int (by push_cast;rfl)
   refine⟨_,rfl,_,rfl,_,_,rfl,rfl,⟨(by show (0:Int)<(t2.length:Nat);omega),(by show ((t2.length:Nat):Int)<1073741824;omega)⟩,_,rfl,_,rfl,_,_,rfl,rfl,(by show (0:Int)<(t2.length:Nat);omega),_,_,rfl,?_⟩
   dsimp only
   rw[eA,eS]
   have xa:x / t2.length<t1.length:=Nat.div_lt_of_lt_mul (by rw[Nat.mul_comm];exact hx)
   have xb:x % t2.length<t2.length:=Nat.mod_lt _ (by omega)
   refine⟨(by show 0<=sizeLine;decide),fun l nl=>?_⟩
   have s3:=Zw.upd (H:=H2) (o:=.lst []) nl
   refine⟨_,rfl,g1,_,rfl,.inr (.of ((sm.trans s3) _ _ u1)),_,rfl,_,_,rfl,rfl,.inl ⟨by rw[e1];omega,by rw[e1];omega⟩,_,rfl,by rw[e1,eNi];omega,by rw[e1,eNi];omega,?_⟩
   rw[e1,eNi,Zj]
   refine Z7 (fun y σ'' H'=>∃(w8 w9:Option V),σ''=[some (.ref g1),some (.ref g2),some (.int (t2.length:Nat)),some (.ref L),some (.int x),some (.int (x / t2.length:Nat)),some (.int (x % t2.length:Nat)),some (.ref l),w8,w9]/\Zw H2 H'/\H' l=some (.lst (((List.range y).map (Uk t1 t2 x)).map nV)))
    ⟨_,_,rfl,s3,Zt⟩ ?_ ?_
   ·rintro y σ'' H' hy ⟨w8,w9,rfl,sm',hl⟩
    rw[show (0:Int)+(y:Int)=(y:Int) by omega]
    have ya:y / t2.length<t1.length:=Nat.div_lt_of_lt_mul (by rw[Nat.mul_comm];exact hy)
    have yb:y % t2.length<t2.length:=Nat.mod_lt _ (by omega)
    obtain⟨q1,q2,q3,_,q4,q5,q6⟩:=(G1.mono (sm.trans sm')).at P1 xa
    obtain⟨p1,p2,p3,_,p4,p5,p6⟩:=(G2.mono (sm.trans sm')).at P2 xb
    have l1:=P1.lt _ _ xa ya
    refine⟨_,rfl,_,rfl,g1,_,_,_,rfl,rfl,.of q3,q4,_,rfl,_,rfl,_,_,rfl,rfl,⟨(by show (0:Int)<(t2.length:Nat);omega),(by show ((t2.length:Nat):Int)<1073741824;omega)⟩,q2,_,_,_,rfl,rfl,q5.sq,q6 _ ya,_,rfl,_,_,rfl,rfl,.inl ⟨by omega,by omega⟩,?_⟩
    refine⟨_,rfl,.inl ⟨rfl,_,.of hl⟩,_,rfl,_,rfl,_,rfl,g2,_,_,_,rfl,rfl,.of p3,p4,_,rfl,_,rfl,_,_,rfl,rfl,(by show (0:Int)<(t2.length:Nat);omega),p2,_,_,_,rfl,rfl,p5.sq,p6 _ yb,_,_,rfl,rfl,l,_,_,rfl,rfl,hl,by rw[Za,Za,Zg];omega,?_⟩
    refine⟨_,_,rfl,sm'.updr nl,?_⟩
    rw[Zt,List.range_succ,List.map_append,List.map_append]
    rfl
   ·rintro σ'' H3 ⟨w8,w9,rfl,sm',hl⟩
    have R3:=R.mono sm'
    refine⟨_,rfl,.inl ⟨rfl,_,.of R3.1⟩,_,rfl,l,_,rfl,.of hl,fun tr H4 nt s4 hz=>?_⟩
    have R4:=R3.mono s4
    refine⟨L,_,_,rfl,rfl,R4.1,by rw[Za];omega,?_⟩
    exact⟨rs++[tr],_,_,_,_,_,_,rfl,((sm.trans sm').trans s4).updr nL,R4.push (by rw[rl];exact hz),by rw[Zd,Zk,rl]⟩
  ·rintro σ' H2 ⟨rs,v4,v5,v6,v7,v8,v9,rfl,sm,R,rl⟩
   refine⟨_,rfl,L,_,rfl,.inl ⟨.of R.1,fun gg ngg=>?_⟩⟩
   exact q gg _ (sm.trans (Zw.upd ngg)) (JN R rl (Zw.upd ngg) Zt)
end
end C10
namespace L2
open PySem PySem.Spec PyProof.Rows
end L2
namespace C10
open PySem L2 PySem.Spec PyProof.Rows
open Tb
open Pm
abbrev Zgl:Stmt:=top 31
def Zeg:Sp:=fun vs H Q _=>∃(p g:Addr) (t:List (List Nat)),vs=[.ref p,.ref g]/\Wn H p/\GT H g t/\PW t/\∀g' t' H',Dr p H H'->GT H' g' t'->PW t'->Q (.ref g') H'
def ZfG (t:List (List Nat))(os:List Nat)(a:Nat):V->V
 | .int z=>.int (pos os (ZW t a z.toNat):Nat)
 |y=>y
theorem ZcR (t:List (List Nat))(os:List Nat)(a:Nat):(os.map nV).map (ZfG t os a)=(os.map fun b=>pos os (ZW t a b)).map nV:=by
 rw[List.map_map,List.map_map]
 refine List.map_congr_left fun b _=>?_
 show V.int (pos os (ZW t a (b:Int).toNat):Nat)=nV (pos os (ZW t a b))
 rw[Zj]
 rfl
section
variable {P:Program}{w:World}{K:PySem.W.Frag}{mg:Str->Option Value}{base:Heap}
theorem Zfi {f:Addr}{fd:FuncData}(F:Wt K "_law_renamed" "_law_renamed" Zgl f fd)(T:Bl mg)(GD:Fn P w K mg base Yp 1 "_law_draw" ["_law_feed_here", "_law_many"] Jq):Z5 P w K mg base Yp 2 f fd ["_law_feed_here", "_law_group_here"] Zeg:=by
 refine F.ok (FS (N:=["_law_feed_here", "_law_group_here", "_law_left", "_law_order_here", "_law_k", "_law_rows", "_law_a"])) (fun vs H Q E h=>?_) (fun cdv A outer s H vs Q E hr h=>?_)
 ·obtain⟨p,g,t,rfl,_⟩:=h;rfl
 ·obtain⟨p,g,t,rfl,Fd,G,Pt,q⟩:=h
  refine⟨_,Zu (ZP 2 rfl (ct (Wb rfl) T.list (pc (ct JL T.range (pc Zv (pc (cb (Y1 K) T.len (pc (vn 1) Zs)) Zs))) Zs)))
   (Zu (ZP 3 rfl (ZQ (pc Zv Zs)))
   (Zu (Z3 PassesOwn.never rfl (JP T.range (pc (Zz Xb (cb (Y1 K) T.len (pc (vn 1) Zs)) Zv) Zs)) (gn 4)
    (Zx (Z0 (Ym PySem.F.plainAttrs_list PySem.F.slot_list_append PySem.F.type_list_append ZI (vn 3)
     (pc (Ym PySem.F.plainAttrs_list PySem.F.slot_list_pop PySem.F.type_list_pop VV (vn 2) (pc (Y7 GD hr ZG (pc (vn 0) (pc (cb (Y1 K) T.len (pc (vn 2) Zs)) Zs))) Zs)) Zs)))))
   (Zu (ZP 5 rfl (ZQ Zs))
   (Zu (Z3 PassesOwn.never rfl (itL K (vn 3)) (gnf 6 rfl)
    (Zx (Z0 (Ym PySem.F.plainAttrs_list PySem.F.slot_list_append PySem.F.type_list_append ZI (vn 5)
     (pc (ct Yf T.tuple (pc (cmp ["_law_b"] [1,3,6] ["_law_b", "_law_group_here", "_law_order_here", "_law_a"] rfl (itL K (vn 3)) (fun _ _ _ _ _=>gn 0) (fun _ _ _ _ _=>YI)
      (fun _ _ _ _ _=>Zco K PySem.F.plainAttrs_list PySem.F.slot_list_index PySem.F.type_list_index (Zft K hr.units) (vn 2) (pc (ZB (Jw K) (ZB (Jw K) (vn 1) (vn 3) (fun _ _=>rfl)) (vn 0) (fun _ _=>rfl)) Zs))) Zs)) Zs)))))
   (Zx (ZF (ct ZH T.tuple (pc (vn 5) Zs)))))))),?_⟩
  have sz:(16777216:Nat)=sizeLine:=by decide
  have n1:=Pt.n1
  have n60:=Pt.n60
  obtain⟨gs,u1,u2,_⟩:=id G
  have el:(gs.map V.ref).length=t.length:=by rw[Za,u2]
  refine⟨_,rfl,g,_,rfl,.inr (.of u1),1,_,rfl,fun r0 hr0=>⟨r0,1,_,rfl,Zt,⟨by omega,by omega,by omega,by rw[el];omega⟩,by rw[el];omega,fun l hl0=>?_⟩⟩
  rw[el]
  have e1:((t.length:Int)-1).toNat=t.length-1:=by omega
  rw[e1]
  refine⟨(by show 1<=sizeLine;decide),fun fo hfo=>?_⟩
  have s1:Zw H (upd H r0 (.rng 1 (t.length:Int))):=Zw.upd hr0
  rw[el] at hl0
  have hl1:H l=none:=s1.free hl0
  have s2:=s1.trans (Zw.upd (o:=.lst ((Yk 1 (t.length-1)).map V.int)) hl0)
  have hfo1:H fo=none:=s2.free hfo
  have s3:=s2.trans (Zw.upd (o:=.lst [.int 0]) hfo)
  have nlf:l≠fo:=fun z=>by rw[<-z,Zt] at hfo;cases hfo
  have np:∀{b:Addr},H b=none->b≠p:=fun {b} hb=>by
   obtain⟨q0,ns,i,j,k,Fa⟩:=Fd
   exact (ZA Fa.hp hb).symm
  refine⟨_,rfl,g,_,rfl,.inr (.of (s3 _ _ u1)),_,_,rfl,rfl,_,rfl,by rw[el];omega,by rw[el];omega,?_⟩
  rw[el,e1]
  refine Z7 (fun i σ' H'=>∃(v:Option V) (ls os:List Nat),σ'=[some (.ref p),some (.ref g),some (.ref l),some (.ref fo),v,none,none]/\Dr p H H'/\H' l=some (.lst (ls.map nV))/\H' fo=some (.lst (os.map nV))/\(os++ls).Perm (List.range t.length)/\os[0]?=some 0/\ls.length+i=t.length-1) ?_ ?_ ?_
  ·refine⟨none,(List.range (t.length-1)).map (· + 1),[0],rfl,Dr.of s3,?_,Zt,?_,rfl,by rw[Za,Zg,Nat.add_zero]⟩
   ·rw[Zy nlf,Zt]
    unfold Yk
    rw[List.map_map,List.map_map]
    congr 2
    refine List.map_congr_left fun k _=>?_
    show V.int (1+(k:Int))=V.int ((k+1:Nat):Int)
    rw[show (1:Int)+(k:Int)=((k+1:Nat):Int) by omega]
   ·have:List.range t.length=[0]++(List.range (t.length-1)).map (· + 1):=by
     obtain⟨k,hk⟩:∃k,t.length=k+1:=⟨t.length-1,by omega⟩
     rw[hk,List.range_succ_eq_map]
     rfl
    rw[this]
  ·rintro i σ' H' hi ⟨v,ls,os,rfl,dr,hl',hf',pm,h0,el2⟩
   have hpos:0<ls.length:=by omega
   refine⟨_,rfl,.inl ⟨rfl,_,.of hf'⟩,_,rfl,.inl ⟨rfl,_,.of hl'⟩,_,rfl,_,rfl,l,_,rfl,.inl (.of hl'),p,_,rfl,dr.feed Fd,?_,?_,fun r H2 r0' r1' dr2=>?_⟩
   ·rw[Za];omega
   ·rw[Za];exact Jv (by omega) (by omega)
   rw[Za] at r1'
   obtain⟨j,rfl⟩:=Int.eq_ofNat_of_zero_le r0'
   have hj:j<ls.length:=by omega
   have hl2:=dr2.keep l _ hl' (np hl1)
   have hf2:=dr2.keep fo _ hf' (np hfo1)
   have hat:(ls.map nV)[j]?=some (nV ls[j]):=by rw[Zc,Zf hj];rfl
   obtain⟨sx,_⟩:=JY (V3 (n:=(ls.map nV).length) (i:=j) (by rw[Za];exact hj))
   refine⟨l,_,j,j,_,rfl,rfl,hl2,by omega,by omega,sx,hat,fo,_,_,rfl,rfl,by rw[Zy nlf.symm];exact hf2,?_,?_⟩
   ·rw[Za]
    have:=pm.length_eq
    rw[Zd,Zg] at this
    omega
   ·refine⟨_,ls.eraseIdx j,os++[ls[j]],rfl,((dr.trans dr2).updN hl1).updN hfo1,?_,?_,?_,?_,?_⟩
    ·rw[Zy nlf,Zt,WY]
    ·rw[Zt,List.map_append];rfl
    ·rw[List.append_assoc]
     refine (List.Perm.append_left os ?_).trans pm
     exact Xi ls j hj
    ·rw[List.getElem?_append_left]
     ·exact h0
     ·exact (List.getElem?_eq_some_iff.mp h0).1
    ·rw[List.length_eraseIdx,if_pos hj];omega
  ·rintro σ' H1 ⟨v,ls,os,rfl,dr,hl',hf',pm,h0,el2⟩
   have hls:ls=[]:=List.eq_nil_of_length_eq_zero (by omega)
   rw[hls,List.append_nil] at pm
   have O:=Zcp n1 pm h0
   have G1:=G.dr Fd dr
   refine⟨(by show 0<=sizeLine;decide),fun L nL=>?_⟩
   have s4:=Zw.upd (H:=H1) (o:=.lst []) nL
   have hf4:=s4 _ _ hf'
   refine⟨_,rfl,fo,rfl,⟨_,.of hf4⟩,?_⟩
   refine Y6 (H0:=H1) ((Yv (K:=K) (.of hf'))) (fun i σ' H'=>∃(rs:List Addr) (v6:Option V),σ'=[some (.ref p),some (.ref g),some (.ref l),some (.ref fo),v,some (.ref L),v6]/\Zw H1 H'/\Yt H' L rs (fun i=>os.map fun b=>pos os (ZW t (os.getD i 0) b))/\rs.length=i)
    ⟨[],_,rfl,s4,⟨Zt,fun i r hr=>by cases hr⟩,rfl⟩ (fun i σ' H' h=>h.choose_spec.choose_spec.2.1) ?_ ?_
   ·rintro i y σ' H2 hy ⟨rs,v6,rfl,sm,R,rl⟩
    obtain⟨a,ha,rfl⟩:=YF hy
    have hil:i<os.length:=(List.getElem?_eq_some_iff.mp ha).1
    have alt:a<t.length:=O.lt a (List.mem_of_getElem? ha)
    have hd:os.getD i 0=a:=by rw[Zb,ha];rfl
    have hf2:=sm _ _ hf'
    refine⟨_,rfl,.inl ⟨rfl,_,.of R.1⟩,_,rfl,fo,rfl,⟨_,.of hf2⟩,?_⟩
    refine Jg (Yv (.of hf2)) [some (.ref g),some (.ref fo),some (.int a)] rfl (ZfG t os a) (by rw[Za,O.len];omega) (fun j x H' hx s' R' gg=>?_) (fun D H3 nD s3' hD=>?_)
    ·obtain⟨b,hb,rfl⟩:=YF hx
     have blt:b<t.length:=O.lt b (List.mem_of_getElem? hb)
     obtain⟨q1,q2,q3,_,q4,q5,q6⟩:=(G1.mono (sm.trans s')).at Pt alt
     have mlt:=Pt.lt a b alt blt
     obtain⟨pl,pv⟩:=UJ O mlt
     have hfo':=s' _ _ hf2
     have eo:os.map nV=(os.map fun k:Nat=>((k:Nat):Int)).map V.int:=by rw[List.map_map];rfl
     refine⟨_,rfl,.inl ⟨rfl,_,.of hfo'⟩,_,rfl,_,rfl,g,_,_,_,rfl,rfl,.of q3,q4,_,rfl,q2,_,_,_,rfl,rfl,q5.sq,q6 b blt,?_⟩
     refine⟨fo,(os.map fun k:Nat=>((k:Nat):Int)).map V.int,(os.map fun k:Nat=>((k:Nat):Int)).map PyData.int,.int (ZW t a b:Nat),.int (ZW t a b:Nat),pos os (ZW t a b),rfl,rfl,by rw[<-eo];exact hfo',YN.ints _,.int _,WE _,rfl,by simp[PyData.depth],by rw[Za,Za,O.len];exact pl,fun d hd'=>?_,fun m d hm hd'=>?_,?_⟩
     ·have ho:=ZM (o:=os) (i:=pos os (ZW t a b)) (by rw[O.len];exact pl)
      rw[Zc,Zc,ho,pv] at hd'
      cases hd'
      rw[ZaE]
      exact decide_eq_true rfl
     ·have hm':m<os.length:=by rw[O.len];omega
      have ho:=ZM (o:=os) hm'
      rw[Zc,Zc,ho] at hd'
      cases hd'
      rw[ZaE]
      refine decide_eq_false fun z=>?_
      have hne:=List.not_of_lt_findIdx (p:=(· == ZW t a b)) (xs:=os) hm
      have this':os[m]=os.getD m 0:=by
       rw[Zf hm'] at ho
       exact Option.some.inj ho
      rw[this',beq_eq_false_iff_ne] at hne
      have z:((os.getD m 0:Nat):Int)=((ZW t a b:Nat):Int):=z
      exact hne (by omega)
     ·have:=gg H' (Zw.refl _)
      show R' (.int (pos os (ZW t a b):Nat)) H'
      have e:ZfG t os a (.int (b:Nat))=V.int (pos os (ZW t a b):Nat):=by
       show V.int (pos os (ZW t a (b:Int).toNat):Nat)=_
       rw[Zj]
      rw[e] at this
      exact this
    ·rw[ZcR] at hD
     refine⟨D,_,rfl,.of hD,fun tr H4 nt s5 hz=>?_⟩
     have R4:=R.mono (s3'.trans s5)
     have ol:=O.len
     refine⟨L,_,_,rfl,rfl,R4.1,by rw[Za];omega,?_⟩
     exact⟨rs++[tr],_,rfl,((sm.trans s3').trans s5).updr nL,R4.push (by rw[rl,hd];exact hz),by rw[Zd,Zk,rl]⟩
   ·rintro σ' H2 ⟨rs,v6,rfl,sm,R,rl⟩
    rw[Za] at rl
    refine⟨_,rfl,L,_,rfl,.inl ⟨.of R.1,fun gg ngg=>?_⟩⟩
    have GG:=JN R rl (Zw.upd ngg) Zt
    have er:((List.range os.length).map fun i=>os.map fun b=>pos os (ZW t (os.getD i 0) b))=WP t os:=by
     unfold WP
     refine List.ext_getElem? fun i=>?_
     rw[Zc,Zc]
     by_cases hi:i<os.length
     ·rw[List.getElem?_range hi,ZM hi]
      rfl
     ·rw[List.getElem?_eq_none (by rw[Zg];omega),List.getElem?_eq_none (by omega)]
      rfl
    rw[er] at GG
    exact q gg _ _ (dr.same (sm.trans (Zw.upd ngg))) GG (Zcc Pt O)
end
abbrev Zgo:Stmt:=top 32
abbrev Zb2:Stmt:=top 33
def Zah:Sp:=fun vs H Q _=>∃(p:Addr),vs=[.ref p]/\Wn H p/\∀g t H',Dr p H H'->GT H' g t->PW t->Q (.ref g) H'
section
variable {P:Program}{w:World}{K:PySem.W.Frag}{mg:Str->Option Value}{base:Heap}
theorem Zcv {f:Addr}{fd:FuncData}(F:Wt K "_law_group" "_law_group" Zb2 f fd)(GO:Fn P w K mg base Yp 2 "_law_one_group" ["_law_feed_here"] Zah)(GD:Fn P w K mg base Yp 1 "_law_draw" ["_law_feed_here", "_law_many"] Jq)
  (GR:Fn P w K mg base Yp 2 "_law_renamed" ["_law_feed_here", "_law_group_here"] Zeg):Z5 P w K mg base Yp 3 f fd ["_law_feed_here"] Zah:=by
 refine F.ok (FS (N:=["_law_feed_here", "_law_group_here"])) (fun vs H Q E h=>?_) (fun cdv A outer s H vs Q E hr h=>?_)
 ·obtain⟨p,rfl,_⟩:=h;rfl
 ·obtain⟨p,rfl,F0,q⟩:=h
  refine⟨_,Zu (ZP 1 rfl (Y7 GO hr ZG (pc (vn 0) Zs))) (Zx (ZF (J9 (ZL XL (Y7 GD hr ZG (pc (vn 0) (pc Zv Zs))) Zv (ZS _)) (Y7 GR hr ZG (pc (vn 0) (pc (vn 1) Zs))) (vn 1)))),?_⟩
  refine⟨_,rfl,p,rfl,F0,fun g t H1 d1 G Pt=>?_⟩
  have F1:=d1.feed F0
  refine⟨_,rfl,p,3,rfl,F1,by decide,by decide +kernel,fun r H2 r0 r1 d2=>⟨_,_,rfl,rfl,_,rfl,?_⟩⟩
  have F2:=d2.feed F1
  have G2:=G.dr F1 d2
  refine Y2 (fun h1=>?_) (fun h1=>?_)
  ·exact⟨_,rfl,_,rfl,p,g,t,rfl,F2,G2,Pt,fun g' t' H3 d3 G3 P3=>q g' t' H3 ((d1.trans d2).trans d3) G3 P3⟩
  ·exact⟨_,rfl,q g t H2 (d1.trans d2) G2 Pt⟩
end
abbrev Zgs:Stmt:=top 29
def WS (fd:List (List Nat))(o:List Nat):List (List Nat):=if fd.contains o then fd else fd++[o]
def Yi (cur:List Nat)(ps:List (List Nat))(fd:List (List Nat)):List (List Nat):=ps.foldl (fun fd p=>WS fd (Wp cur p)) fd
def bfs (ps:List (List Nat)):Nat->Nat->List (List Nat)->List (List Nat)
 |0,_,fd=>fd
 |f+1,at',fd=>if at'<fd.length then bfs ps f (at'+1) (Yi (fd.getD at' []) ps fd) else fd
def Wc (p:Array Nat)(fd:List (List Nat)):List (List Nat):=p.toList.map fun i=>fd.getD i []
structure ByP (k:Nat)(ps:List (List Nat))(fd:List (List Nat))(p:Array Nat)(t:List (List Nat)):Prop where
 k1:1<=k
 k9:k<=9
 p1:1<=ps.length
 p9:ps.length<=9
 pl:∀g∈ps,g.length=k/\∀x∈g,x<k
 fin:bfs ps 61 0 [List.range k]=fd
 n2:2<=fd.length
 n60:fd.length<=60
 run:PyZ.Xr fd.length (fun i j=>PyZ.ltB ((fd.map nI).getD i []) ((fd.map nI).getD j [])) (W.kas_sort fd.length)=some p
 ps64:p.size<=64
 plt:∀i∈p.toList,i<fd.length
 tab:WW (Wc p fd)=t
 inS:∀a∈Wc p fd,∀b∈Wc p fd,Wp a b∈Wc p fd
theorem Uh (fd:List (List Nat))(o:List Nat):fd.length<=(WS fd o).length:=by
 unfold WS
 split
 ·exact Zq _
 ·rw[Zd];omega
theorem WI (cur:List Nat):∀(ps fd:List (List Nat)),fd.length<=(Yi cur ps fd).length
 | [],fd=>Zq _
 |p::ps,fd=>Nat.le_trans (Uh fd (Wp cur p)) (WI cur ps (WS fd (Wp cur p)))
theorem ZaO (ps:List (List Nat)):∀(f at':Nat) (fd:List (List Nat)),fd.length<=(bfs ps f at' fd).length
 |0,_,fd=>Zq _
 |f+1,at',fd=>by
  unfold bfs
  split
  ·exact Nat.le_trans (WI _ ps fd) (ZaO ps f (at'+1) _)
  ·exact Zq _
structure BlS (mg:Str->Option Value):Prop where
 sorted:mg "sorted"=none
def Zem:Sp:=fun vs H Q _=>∃(pl:Addr) (VO:List Addr) (ps:List (List Nat)) (k:Nat) (fd:List (List Nat)) (p:Array Nat) (t:List (List Nat)),vs=[.ref pl]/\ZK H pl VO ps/\ByP k ps fd p t/\∀g H',Zw H H'->GT H' g t->Q (.ref g) H'
theorem ZbG {k:Nat}{fd:List (List Nat)}{o:List Nat}(h:∀y∈fd,Gk k y)(ho:Gk k o):∀y∈WS fd o,Gk k y:=by
 unfold WS
 split
 ·exact h
 ·intro y hy
  rcases List.mem_append.mp hy with z|z
  ·exact h y z
  ·rw[List.mem_singleton.mp z];exact ho
theorem Zea {fd:List (List Nat)}{o:List Nat}{j:Nat}(h:j<fd.length):(WS fd o).getD j []=fd.getD j []:=by
 unfold WS
 split
 ·rfl
 ·rw[Zb,List.getElem?_append_left h,<-Zb]
theorem VF (cur:List Nat){j:Nat}:∀(ps fd:List (List Nat)),j<fd.length->(Yi cur ps fd).getD j []=fd.getD j []
 | [],fd,_=>rfl
 |p::ps,fd,h=>by
  show (Yi cur ps (WS fd (Wp cur p))).getD j []=_
  rw[VF cur ps _ (Nat.lt_of_lt_of_le h (Uh fd _)),Zea h]
theorem Ux (cur:List Nat){ps fd:List (List Nat)}{i:Nat}{g:List Nat}(h:ps[i]?=some g):Yi cur (ps.take (i+1)) fd=WS (Yi cur (ps.take i) fd) (Wp cur g):=by
 unfold Yi
 rw[List.take_add_one,h,List.foldl_append]
 rfl
theorem Uy (cur:List Nat)(ps fd:List (List Nat))(i:Nat):(Yi cur (ps.take i) fd).length<=(Yi cur ps fd).length:=by
 have:Yi cur ps fd=Yi cur (ps.drop i) (Yi cur (ps.take i) fd):=by
  unfold Yi
  rw[<-List.foldl_append,List.take_append_drop]
 rw[this]
 exact WI _ _ _
end C10
namespace Pm
open PySem L2 PySem.Spec PyProof.Rows
open Tb C10
theorem ZK.sort {H:Hp}{L D:Addr}{bs:List Addr}{fd:List (List Nat)}{p:Array Nat}(R:ZK H L bs fd)(hD:H D=none)(hp:∀i∈p.toList,i<fd.length):ZK (upd H D (.lst ((p.toList.map fun i=>bs.getD i 0).map V.ref))) D (p.toList.map fun i=>bs.getD i 0) (Wc p fd):=by
 refine⟨Zt,by unfold Wc;rw[Za,Za],fun i b hb=>?_⟩
 rw[Zc] at hb
 cases e:p.toList[i]? with
 |none=>rw[e] at hb;cases hb
 |some j=>
  rw[e] at hb
  have hj:=hp j (List.mem_of_getElem? e)
  have hjb:j<bs.length:=by rw[R.2.1];exact hj
  have hb':bs[j]?=some b:=by
   rw[<-Option.some.inj hb]
   show bs[j]?=some (bs.getD j 0)
   rw[Zb,Zf hjb]
   rfl
  have h1:=R.2.2 j b hb'
  have e2:(Wc p fd).getD i []=fd.getD j []:=by
   unfold Wc
   rw[Zb,Zc,e]
   rfl
  rw[Zy (fun z=>by rw[z,hD] at h1;cases h1),e2]
  exact h1
end Pm
namespace C10
open PySem L2 PySem.Spec PyProof.Rows
open Tb
open Pm
theorem Wn.ne_none {p l:Addr}{H:Hp}(F:Wn H p)(h:H l=none):l≠p:=by
 obtain⟨q0,ns,i,j,k,Fa⟩:=F
 exact (ZA Fa.hp h).symm
section
variable {P:Program}{w:World}{K:PySem.W.Frag}{mg:Str->Option Value}{base:Heap}
theorem Zfp {f:Addr}{fd:FuncData}(F:Wt K "_law_by_perms" "_law_by_perms" Zgs f fd)(T:Bl mg)(TS:BlS mg):Z5 P w K mg base Yp 1 f fd ["_law_perms"] Zem:=by
 refine F.ok (FS (N:=["_law_perms", "_law_found", "_law_at", "_law_perm", "_law_other", "_law_rows", "_law_one", "_law_row"])) (fun vs H Q E h=>?_) (fun cdv A outer s H vs Q E hr h=>?_)
 ·obtain⟨pl,VO,ps,k,fd0,p,t,rfl,_⟩:=h;rfl
 ·obtain⟨pl,VO,ps,k,fd0,p,t,rfl,R0,B,q⟩:=h
  refine⟨_,Zu (ZP 1 rfl (ZQ (pc (ct (Xl rfl) T.tuple (pc (ct JM T.range (pc (cb (Y1 K) T.len (pc (ZB (ixL K) (vn 0) Zv (fun _ _=>rfl)) Zs)) Zs)) Zs)) Zs)))
   (Zu (ZP 2 rfl Zv)
   (Zu (VM PassesOwn.never (ZL XJ (vn 2) (cb (Y1 K) T.len (pc (vn 1) Zs)) (ZS _))
    (Zu (Z3 PassesOwn.never rfl (itL K (vn 0)) (gn 3)
     (Zu (ZP 4 rfl (ct ZH T.tuple (pc (cmp ["_law_place"] [1,2] ["_law_place", "_law_found", "_law_at"] rfl (itT K (vn 3)) (fun _ _ _ _ _=>gn 0) (fun _ _ _ _ _=>YI)
      (fun _ _ _ _ _=>ZB (Jw K) (ZB (ixL K) (vn 1) (vn 2) (fun _ _=>rfl)) (vn 0) (fun _ _=>rfl))) Zs)))
     (Zx (YK (ZL (ZgM K hr.units) (vn 4) (vn 1) (by rfl)) (Zx (Z0 (Ym PySem.F.plainAttrs_list PySem.F.slot_list_append PySem.F.type_list_append ZI (vn 1) (pc (vn 4) Zs)))) ZY))))
    (Zx (ZP 2 rfl (Zz ZZ (vn 2) Zv)))))
   (Zu (ZP 1 rfl (cb U5 TS.sorted (pc (vn 1) Zs)))
   (Zu (ZP 5 rfl (ZQ Zs))
   (Zu (Z3 PassesOwn.never rfl (itL K (vn 1)) (gnf 6 rfl)
    (Zu (ZP 7 rfl (ZQ Zs))
    (Zu (Z3 PassesOwn.never rfl (itL K (vn 1)) (gn 4)
     (Zx (Z0 (Ym PySem.F.plainAttrs_list PySem.F.slot_list_append PySem.F.type_list_append ZI (vn 7)
      (pc (Ym PySem.F.plainAttrs_list PySem.F.slot_list_index PySem.F.type_list_index (Zft K hr.units) (vn 1)
       (pc (ct ZH T.tuple (pc (cmp ["_law_place"] [6] ["_law_place", "_law_one"] rfl (itT K (vn 4)) (fun _ _ _ _ _=>gn 0) (fun _ _ _ _ _=>YI)
        (fun _ _ _ _ _=>ZB (Jw K) (vn 1) (vn 0) (fun _ _=>rfl))) Zs)) Zs)) Zs)))))
    (Zx (Z0 (Ym PySem.F.plainAttrs_list PySem.F.slot_list_append PySem.F.type_list_append ZI (vn 5) (pc (ct Yf T.tuple (pc (vn 7) Zs)) Zs)))))))
   (Zx (ZF (ct ZH T.tuple (pc (vn 5) Zs))))))))),?_⟩
  have sz:(16777216:Nat)=sizeLine:=by decide
  have k1:=B.k1
  have k9:=B.k9
  have p1:=B.p1
  have p9:=B.p9
  have n60:=B.n60
  have gps:∀g∈ps,Gk k g:=B.pl
  obtain⟨b0,_,hat0,hb0⟩:=R0.get (i:=0) (by omega)
  have e0:((ps.getD 0 []).map nV).length=k:=by rw[Za];exact (gps _ (Xf (by omega))).1
  refine⟨_,rfl,pl,_,_,_,rfl,rfl,.of R0.1,hat0,b0,_,rfl,.inr (.of hb0),_,rfl,fun r0 hr0=>⟨r0,0,_,rfl,Zt,⟨by omega,by omega,by rw[e0];omega,by rw[e0];omega⟩,by rw[e0];omega,fun l hl=>?_⟩⟩
  rw[e0] at hl ⊢
  have ek:((k:Int)-0).toNat=k:=by omega
  rw[ek] at *
  refine⟨(by show 1<=sizeLine;decide),fun F0 hF0=>?_⟩
  have s1:Zw H (upd H r0 (.rng 0 (k:Int))):=Zw.upd hr0
  have s2:=s1.trans (Zw.upd (o:=.tup ((Yk 0 k).map V.int)) hl)
  have s3:=s2.trans (Zw.upd (o:=.lst [.ref l]) hF0)
  have nF:H F0=none:=s2.free hF0
  have el:(Yk 0 k).map V.int=(List.range k).map nV:=by
   unfold Yk
   rw[List.map_map]
   refine List.map_congr_left fun i _=>?_
   show V.int (0+(i:Int))=nV i
   rw[Int.zero_add]
   rfl
  have R1:ZK (upd (upd (upd H r0 (.rng 0 (k:Int))) l (.tup ((Yk 0 k).map V.int))) F0 (.lst [.ref l])) F0 [l] [List.range k]:=by
   refine⟨Zt,rfl,fun i b hb=>?_⟩
   cases i with
   |zero=>
    cases hb
    rw[Zy (fun z=>by rw[<-z,Zt] at hF0;cases hF0),Zt,el]
    rfl
   |succ i=>cases hb
  have g0:∀y∈[List.range k],Gk k y:=fun y hy=>by
   rw[List.mem_singleton.mp hy]
   exact⟨Zg,fun x hx=>List.mem_range.mp hx⟩
  refine VA (fun m σ' H'=>∃(at':Nat) (bs:List Addr) (yss:List (List Nat)) (v3 v4:Option V),σ'=[some (.ref pl),some (.ref F0),some (.int at'),v3,v4,none,none,none]/\Zw H H'/\ZK H' F0 bs yss/\(∀y∈yss,Gk k y)/\m+at'=61/\bfs ps m at' yss=fd0)
   (fun σ' H'=>∃(at':Nat) (bs:List Addr) (v3 v4:Option V),σ'=[some (.ref pl),some (.ref F0),some (.int at'),v3,v4,none,none,none]/\Zw H H'/\ZK H' F0 bs fd0/\(∀y∈fd0,Gk k y)) ?hend ⟨61,0,_,_,_,_,rfl,s3,R1,g0,rfl,B.fin⟩ ?turn
  case turn=>
   rintro hend m σ' H' ⟨at',bs,yss,v3,v4,rfl,sm,R,gd,hm,hb⟩
   have bl:(bs.map V.ref).length=yss.length:=by rw[Za,R.2.1]
   refine⟨_,rfl,_,rfl,F0,_,rfl,.inl (.of R.1),_,_,rfl,rfl,_,rfl,?_⟩
   rw[bl]
   refine Y2 (fun h1=>?_) (fun h1=>?_)
   ·have hat:at'<yss.length:=by
     have:=of_decide_eq_true h1
     omega
    cases m with
    |zero=>
     have hb:yss=fd0:=hb
     rw[hb] at hat
     omega
    |succ m=>
     rw[bfs,if_pos hat] at hb
     have hlen:(Yi (yss.getD at' []) ps yss).length<=60:=by
      have:=ZaO ps m (at'+1) (Yi (yss.getD at' []) ps yss)
      rw[hb] at this
      omega
     have gcur:Gk k (yss.getD at' []):=gd _ (Xf hat)
     generalize hcur:yss.getD at' []=cur at *
     have pll:(VO.map V.ref).length=ps.length:=by rw[Za,R0.2.1]
     refine⟨_,fun _ _ z=>z,_,rfl,pl,rfl,⟨_,.of (sm _ _ R0.1)⟩,?_⟩
     refine Y6 (H0:=H) (Yv (K:=K) (.of R0.1)) (fun i τ HH=>∃(bs':List Addr) (w3 w4:Option V),τ=[some (.ref pl),some (.ref F0),some (.int at'),w3,w4,none,none,none]/\Zw H HH/\ZK HH F0 bs' (Yi cur (ps.take i) yss)/\(∀y∈Yi cur (ps.take i) yss,Gk k y))
      ⟨bs,v3,v4,rfl,sm,R,gd⟩ (fun i τ HH h=>h.choose_spec.choose_spec.choose_spec.2.1) ?_ ?_
     ·rintro i y τ HH hy ⟨bs',w3,w4,rfl,sH,R',gd'⟩
      obtain⟨b,rfl,hi,hb0'⟩:=R0.ref hy
      have hbH:=sH _ _ hb0'
      have gg:Gk k (ps.getD i []):=gps _ (Xf hi)
      have pi:ps[i]?=some (ps.getD i []):=getL hi
      generalize ps.getD i []=gp at *
      have hcl:(Yi cur (ps.take i) yss).length<=60:=Nat.le_trans (Uy cur ps yss i) hlen
      have hat2:at'<(Yi cur (ps.take i) yss).length:=Nat.lt_of_lt_of_le hat (WI cur _ yss)
      have ecur:(Yi cur (ps.take i) yss).getD at' []=cur:=by rw[VF cur _ _ hat,hcur]
      have est:=Ux cur (fd:=yss) pi
      generalize Yi cur (ps.take i) yss=zs at *
      have gl:=gg.1
      have cl:=gcur.1
      refine⟨_,rfl,b,rfl,⟨_,.of hbH⟩,?_⟩
      refine Jg (Wi (.of hbH)) [some (.ref F0),some (.int at')] rfl (ZcS cur) (by rw[Za,gl];omega) (fun j x HC hx sC R'' g2=>?_) (fun D HD nD sD hD=>?_)
      ·obtain⟨c,hc,rfl⟩:=YF hx
       have hck:c<k:=gg.2 c (List.mem_of_getElem? hc)
       obtain⟨bC,_,hatC,hbC⟩:=(R'.mono sC).get hat2
       rw[ecur] at hbC
       refine⟨_,rfl,_,rfl,F0,_,_,_,rfl,rfl,.of (sC _ _ R'.1),hatC,_,rfl,bC,_,_,_,rfl,rfl,.of hbC,Zew (by omega),?_⟩
       have:=g2 HC (Zw.refl _)
       have e:ZcS cur (.int (c:Nat))=nV (cur.getD c 0):=by
        show nV (cur.getD (c:Int).toNat 0)=_
        rw[Zj]
       rw[e] at this
       exact this
      ·rw[V6] at hD
       refine⟨D,_,rfl,.inl ⟨.of hD,fun tp ntp=>?_⟩⟩
       have sE:=sD.trans (Zw.upd (o:=.tup ((Wp cur gp).map nV)) ntp)
       have hE:upd HD tp (.tup ((Wp cur gp).map nV)) tp=some (.tup ((Wp cur gp).map nV)):=Zt
       generalize upd HD tp (.tup ((Wp cur gp).map nV))=HE at sE hE ⊢
       have RE:=R'.mono sE
       have go:Gk k (Wp cur gp):=Zdf gcur gg
       have ey:(zs.map fun ns=>PyData.tuple ((nI ns).map PyData.int))=(zs.map nI).map fun ns=>PyData.tuple (ns.map PyData.int):=by rw[List.map_map];rfl
       refine⟨_,rfl,_,rfl,F0,_,(zs.map fun ns=>PyData.tuple ((nI ns).map PyData.int)),.tuple ((nI (Wp cur gp)).map PyData.int),rfl,.inl (.of RE.1),JU _ _ RE.2.1 RE.2.2,.tup (.of (by rw[ZcB];exact hE)) (YN.ints _),by rw[ey];exact Y8 _,Wm _,Jx _,_,rfl,?_⟩
       rw[if_pos rfl,Vv]
       have zl:=RE.2.1
       refine Y2 (fun h2=>?_) (fun h2=>?_)
       ·have h2:zs.contains (Wp cur gp)=false:=by simpa using h2
        have e3:WS zs (Wp cur gp)=zs++[Wp cur gp]:=by
         unfold WS
         rw[if_neg (by rw[h2];decide)]
        refine⟨_,rfl,.inl ⟨rfl,_,.of RE.1⟩,_,rfl,F0,_,_,rfl,rfl,RE.1,by rw[Za];omega,?_⟩
        refine⟨bs'++[tp],_,_,rfl,(sH.trans sE).updr nF,?_,?_⟩
        ·rw[est,e3];exact RE.push hE
        ·rw[est];exact ZbG gd' go
       ·have h2:zs.contains (Wp cur gp)=true:=by simpa using h2
        have e3:WS zs (Wp cur gp)=zs:=by
         unfold WS
         rw[if_pos h2]
        exact⟨bs',_,_,rfl,sH.trans sE,by rw[est,e3];exact RE,by rw[est,e3];exact gd'⟩
     ·rintro τ HH ⟨bs',w3,w4,rfl,sH,R',gd'⟩
      rw[pll,List.take_length] at R' gd'
      exact⟨_,rfl,_,_,rfl,rfl,m,by omega,at'+1,bs',_,w3,w4,rfl,sH,R',gd',by omega,hb⟩
   ·have hat:¬at'<yss.length:=fun z=>h1 (decide_eq_true (by omega))
    have e:yss=fd0:=by
     cases m with
     |zero=>exact hb
     |succ m=>rw[bfs,if_neg hat] at hb;exact hb
    subst e
    exact hend _ _ ⟨at',bs,v3,v4,rfl,sm,R,gd⟩
  case hend=>
   rintro σ' H1 ⟨at',bs,v3,v4,rfl,sm,R,gd⟩
   have bl:=R.2.1
   have n2:=B.n2
   refine⟨_,rfl,F0,bs,fd0.map nI,p,rfl,R.1,by rw[Za];exact bl,by omega,by omega,fun i a hi=>?_,by rw[bl];exact B.run,B.ps64,by rw[bl];exact B.plt,fun D nD=>?_⟩
   ·have hif:i<fd0.length:=by rw[<-bl];exact (List.getElem?_eq_some_iff.mp hi).1
    refine⟨nI (fd0.getD i []),by rw[Zc,getL hif];rfl,fun z=>?_,by rw[ZcB];exact R.2.2 i a hi⟩
    have h1:=(gd _ (Xf hif)).1
    have h2:=congrArg List.length z
    unfold nI at h2
    rw[Za,h1] at h2
    simp at h2
    omega
   have R2:=R.sort nD B.plt
   have s2:=sm.trans (Zw.upd (o:=.lst ((p.toList.map fun i=>bs.getD i 0).map V.ref)) nD)
   generalize upd H1 D (.lst ((p.toList.map fun i=>bs.getD i 0).map V.ref))=H2 at R2 s2 ⊢
   generalize (p.toList.map fun i=>bs.getD i 0)=cs at R2 ⊢
   have gsrt:∀y∈Wc p fd0,Gk k y:=fun y hy=>by
    obtain⟨i,hi,rfl⟩:=List.mem_map.mp hy
    exact gd _ (Xf (B.plt i hi))
   have inS:=B.inS
   have tab:=B.tab
   have sl:(Wc p fd0).length<=64:=by
    unfold Wc
    rw[Za,Zr]
    exact B.ps64
   generalize Wc p fd0=srt at *
   have cl:=R2.2.1
   refine⟨(by show 0<=sizeLine;decide),fun L nL=>?_⟩
   have s3:=Zw.upd (H:=H2) (o:=.lst []) nL
   refine⟨_,rfl,D,rfl,⟨_,.of (s3 _ _ R2.1)⟩,?_⟩
   refine Y6 (H0:=H2) (Yv (K:=K) (.of R2.1)) (fun i τ HH=>∃(rs:List Addr) (w4 w6 w7:Option V),τ=[some (.ref pl),some (.ref D),some (.int at'),v3,w4,some (.ref L),w6,w7]/\Zw H2 HH/\Yt HH L rs (fun i=>srt.map fun b=>srt.findIdx (· == Wp (srt.getD i []) b))/\rs.length=i)
    ⟨[],_,_,_,rfl,s3,⟨Zt,fun i r hr=>by cases hr⟩,rfl⟩ (fun i τ HH h=>h.choose_spec.choose_spec.choose_spec.choose_spec.2.1) ?_ ?_
   ·rintro i y τ HH hy ⟨rs,w4,w6,w7,rfl,sH,RR,rl⟩
    obtain⟨a,rfl,hi,ha⟩:=R2.ref hy
    have ga:=gsrt _ (Xf hi)
    have ma:=Xf hi
    refine⟨(by show 0<=sizeLine;decide),fun l nl=>?_⟩
    have s4:=Zw.upd (H:=HH) (o:=.lst []) nl
    refine⟨_,rfl,D,rfl,⟨_,.of (s4 _ _ (sH _ _ R2.1))⟩,?_⟩
    refine Y6 (H0:=HH) (Yv (K:=K) (.of (sH _ _ R2.1))) (fun j τ HI=>∃(w4:Option V),τ=[some (.ref pl),some (.ref D),some (.int at'),v3,w4,some (.ref L),some (.ref a),some (.ref l)]/\Zw HH HI/\HI l=some (.lst (((srt.take j).map fun b=>srt.findIdx (· == Wp (srt.getD i []) b)).map nV)))
     ⟨_,rfl,s4,Zt⟩ (fun j τ HI h=>h.choose_spec.2.1) ?_ ?_
    ·rintro j y τ HI hy ⟨w4',rfl,sI,hl⟩
     obtain⟨b,rfl,hj,hb⟩:=R2.ref hy
     have gb:=gsrt _ (Xf hj)
     have mb:=Xf hj
     have ej:srt[j]?=some (srt.getD j []):=getL hj
     have mo:=inS _ ma _ mb
     generalize srt.getD j []=Bb at *
     generalize hA:srt.getD i []=Aa at *
     have sHI:=sH.trans sI
     have hbI:=sHI _ _ hb
     have haI:=sHI _ _ ha
     have gbl:=gb.1
     have gal:=ga.1
     refine⟨_,rfl,.inl ⟨rfl,_,.of hl⟩,_,rfl,.inl ⟨rfl,_,.of (sHI _ _ R2.1)⟩,_,rfl,b,rfl,⟨_,.of hbI⟩,?_⟩
     refine Jg (Wi (.of hbI)) [some (.ref a)] rfl (ZcS Aa) (by rw[Za,gbl];omega) (fun j' x HC hx sC R'' g2=>?_) (fun D' HD nD' sD hD=>?_)
     ·obtain⟨c,hc,rfl⟩:=YF hx
      have hck:c<k:=gb.2 c (List.mem_of_getElem? hc)
      refine⟨_,rfl,_,rfl,a,_,_,_,rfl,rfl,.of (sC _ _ haI),Zew (by omega),?_⟩
      have:=g2 HC (Zw.refl _)
      have e:ZcS Aa (.int (c:Nat))=nV (Aa.getD c 0):=by
       show nV (Aa.getD (c:Int).toNat 0)=_
       rw[Zj]
      rw[e] at this
      exact this
     ·rw[V6] at hD
      refine⟨D',_,rfl,.inl ⟨.of hD,fun tp ntp=>?_⟩⟩
      have sE:=sD.trans (Zw.upd (o:=.tup ((Wp Aa Bb).map nV)) ntp)
      have hE:upd HD tp (.tup ((Wp Aa Bb).map nV)) tp=some (.tup ((Wp Aa Bb).map nV)):=Zt
      generalize upd HD tp (.tup ((Wp Aa Bb).map nV))=HE at sE hE ⊢
      have RE:=R2.mono (sHI.trans sE)
      have ey:(srt.map fun ns=>PyData.tuple ((nI ns).map PyData.int))=(srt.map nI).map fun ns=>PyData.tuple (ns.map PyData.int):=by rw[List.map_map];rfl
      have fl:srt.findIdx (· == Wp Aa Bb)<srt.length:=List.findIdx_lt_length.mpr ⟨_,mo,by simp⟩
      refine⟨D,_,(srt.map fun ns=>PyData.tuple ((nI ns).map PyData.int)),.tuple ((nI (Wp Aa Bb)).map PyData.int),_,srt.findIdx (· == Wp Aa Bb),rfl,rfl,RE.1,JU _ _ RE.2.1 RE.2.2,.tup (.of (by rw[ZcB];exact hE)) (YN.ints _),by rw[ey];exact Y8 _,Wm _,Jx _,by rw[Za];exact fl,fun d hd=>?_,fun m d hm hd=>?_,?_⟩
      ·rw[Zc,Zf fl] at hd
       cases hd
       rw[V7]
       exact decide_eq_true (eq_of_beq (List.findIdx_getElem (p:=(· == Wp Aa Bb)) (w:=fl)))
      ·have hm':m<srt.length:=by omega
       rw[Zc,Zf hm'] at hd
       cases hd
       rw[V7]
       have hne:=List.not_of_lt_findIdx (p:=(· == Wp Aa Bb)) (xs:=srt) hm
       exact decide_eq_false (beq_eq_false_iff_ne.mp (by simpa using hne))
      ·refine⟨l,_,_,rfl,rfl,sE _ _ hl,?_,?_⟩
       ·rw[Za,Za,List.length_take];omega
       ·refine⟨_,rfl,(sI.trans sE).updr nl,?_⟩
        rw[Zt,List.take_add_one,ej,List.map_append,List.map_append]
        rfl
    ·rintro τ HI ⟨w4',rfl,sI,hl⟩
     rw[Za,cl,List.take_length] at hl
     have R3:=RR.mono sI
     refine⟨_,rfl,.inl ⟨rfl,_,.of R3.1⟩,_,rfl,l,_,rfl,.of hl,fun tr H4 nt s5 hz=>?_⟩
     have R4:=R3.mono s5
     refine⟨L,_,_,rfl,rfl,R4.1,by rw[Za];omega,?_⟩
     exact⟨rs++[tr],_,_,_,rfl,((sH.trans sI).trans s5).updr nL,R4.push (by rw[rl];exact hz),by rw[Zd,Zk,rl]⟩
   ·rintro τ HH ⟨rs,w4,w6,w7,rfl,sH,RR,rl⟩
    rw[Za,cl] at rl
    refine⟨_,rfl,L,_,rfl,.inl ⟨.of RR.1,fun gg ngg=>?_⟩⟩
    have GG:=JN RR rl (Zw.upd ngg) Zt
    have er:((List.range srt.length).map fun i=>srt.map fun b=>srt.findIdx (· == Wp (srt.getD i []) b))=t:=by
     rw[<-tab]
     unfold WW
     refine List.ext_getElem? fun i=>?_
     rw[Zc,Zc]
     by_cases hi:i<srt.length
     ·rw[List.getElem?_range hi,getL hi]
      rfl
     ·rw[List.getElem?_eq_none (by rw[Zg];omega),List.getElem?_eq_none (by omega)]
      rfl
    rw[er] at GG
    exact q gg _ ((s2.trans sH).trans (Zw.upd ngg)) GG
end
end C10
namespace C10
open Tb
open Pm
def fN1 {β:Type}(m:Nat)(k:Nat->β):β:=match m with
 |0=>k 0
 |m+1=>k (m+1)
theorem ZcQ {β:Type}(m:Nat)(k:Nat->β):fN1 m k=k m:=by cases m <;> rfl
def fNL {β:Type}:List Nat->(List Nat->β)->β
 | [],k=>k []
 |x::xs,k=>fN1 x fun y=>fNL xs fun ys=>k (y::ys)
theorem Vt {β:Type}:∀(a:List Nat) (k:List Nat->β),fNL a k=k a
 | [],k=>rfl
 |x::xs,k=>by rw[fNL,ZcQ,Vt xs]
def fTT {β:Type}:List (List Nat)->(List (List Nat)->β)->β
 | [],k=>k []
 |x::xs,k=>fNL x fun y=>fTT xs fun ys=>k (y::ys)
theorem UW {β:Type}:∀(a:List (List Nat)) (k:List (List Nat)->β),fTT a k=k a
 | [],k=>rfl
 |x::xs,k=>by rw[fTT,Vt,UW xs]
def pwC (t:List (List Nat)):Bool:=fTT t pwB
theorem Yr {t:List (List Nat)}(h:pwC t=true):PW t:=by
 unfold pwC at h
 rw[UW] at h
 exact Ze2 h
theorem Jr:((List.range 12).all fun i=>pwC (tw (i+1) 1 1))=true:=by decide +kernel
theorem Ze0:((List.range 6).all fun i=>pwC (tw (i+3) 2 (i+2)))=true:=by decide +kernel
theorem ZgA:((List.range 4).all fun i=>pwC (eg (i+2)))=true:=by decide +kernel
end C10
namespace C10
open Tb PySem
open Pm
def ZfP {β:Type}(fd:List (List Nat))(o:List Nat)(k:List (List Nat)->β):β:=fNL o fun o'=>if fd.contains o' then k fd else fTT (fd++[o']) k
theorem Zeb {β:Type}(fd:List (List Nat))(o:List Nat)(k:List (List Nat)->β):ZfP fd o k=k (WS fd o):=by
 unfold ZfP WS
 rw[Vt]
 split
 ·rfl
 ·rw[UW]
def Zaf {β:Type}(cur:List Nat):List (List Nat)->List (List Nat)->(List (List Nat)->β)->β
 | [],fd,k=>k fd
 |p::ps,fd,k=>ZfP fd (Wp cur p) fun fd'=>Zaf cur ps fd' k
theorem VG {β:Type}(cur:List Nat):∀(ps fd:List (List Nat)) (k:List (List Nat)->β),Zaf cur ps fd k=k (Yi cur ps fd)
 | [],fd,k=>rfl
 |p::ps,fd,k=>by
  rw[Zaf,Zeb,VG cur ps]
  rfl
def U8 {β:Type}(ps:List (List Nat)):Nat->Nat->List (List Nat)->(List (List Nat)->β)->β
 |0,_,fd,k=>k fd
 |f+1,at',fd,k=>if at'<fd.length then fNL (fd.getD at' []) fun cur=>Zaf cur ps fd fun fd'=>fN1 (at'+1) fun a=>U8 ps f a fd' k else k fd
theorem Jj {β:Type}(ps:List (List Nat)):∀(f at':Nat) (fd:List (List Nat)) (k:List (List Nat)->β),U8 ps f at' fd k=k (bfs ps f at' fd)
 |0,_,fd,k=>rfl
 |f+1,at',fd,k=>by
  rw[U8,bfs]
  split
  ·rw[Vt,VG,ZcQ,Jj ps f]
  ·rfl
def Za2:List (List Nat):=[[1,0,2,3],[1,2,3,0]]
def Vs:List (List Nat):=[[0,1,2,3],[1,0,2,3],[1,2,3,0],[0,2,3,1],[2,1,3,0],[2,3,0,1],[2,0,3,1],[2,3,1,0],[1,3,0,2],[3,2,0,1],[3,0,1,2],[0,3,1,2],[3,2,1,0],[3,1,0,2],[3,0,2,1],[2,0,1,3],[3,1,2,0],[2,1,0,3],[0,3,2,1],[0,2,1,3],[0,1,3,2],[1,3,2,0],[1,2,0,3],[1,0,3,2]]
def pL0:List Nat:=[0,20,19,3,11,18,1,23,22,2,8,21,15,6,17,4,5,7,10,14,13,16,9,12]
theorem Zh4:bfs Za2 61 0 [List.range 4]=Vs:=by
 have h:U8 Za2 61 0 [List.range 4] (fun fd=>decide (fd=Vs))=true:=by decide +kernel
 rw[Jj] at h
 exact of_decide_eq_true h
theorem ZhF:PyZ.Xr Vs.length (fun i j=>PyZ.ltB ((Vs.map nI).getD i []) ((Vs.map nI).getD j [])) (W.kas_sort Vs.length)=some pL0.toArray:=by decide +kernel
theorem Zht:pwC (WW (Wc pL0.toArray Vs))=true:=by decide +kernel
def Za1:List (List Nat):=[[1,2,0,3],[1,0,3,2]]
def Vr:List (List Nat):=[[0,1,2,3],[1,2,0,3],[1,0,3,2],[2,0,1,3],[2,1,3,0],[0,3,1,2],[0,2,3,1],[1,3,2,0],[3,1,0,2],[3,0,2,1],[2,3,0,1],[3,2,1,0]]
def pL1:List Nat:=[0,6,5,2,1,7,3,4,10,9,8,11]
theorem Zh3:bfs Za1 61 0 [List.range 4]=Vr:=by
 have h:U8 Za1 61 0 [List.range 4] (fun fd=>decide (fd=Vr))=true:=by decide +kernel
 rw[Jj] at h
 exact of_decide_eq_true h
theorem ZhE:PyZ.Xr Vr.length (fun i j=>PyZ.ltB ((Vr.map nI).getD i []) ((Vr.map nI).getD j [])) (W.kas_sort Vr.length)=some pL1.toArray:=by decide +kernel
theorem Zhs:pwC (WW (Wc pL1.toArray Vr))=true:=by decide +kernel
def Za0:List (List Nat):=[[1,0,2],[1,2,0]]
def Vq:List (List Nat):=[[0,1,2],[1,0,2],[1,2,0],[0,2,1],[2,1,0],[2,0,1]]
def pL2:List Nat:=[0,3,1,2,5,4]
theorem Zh2:bfs Za0 61 0 [List.range 3]=Vq:=by
 have h:U8 Za0 61 0 [List.range 3] (fun fd=>decide (fd=Vq))=true:=by decide +kernel
 rw[Jj] at h
 exact of_decide_eq_true h
theorem ZhD:PyZ.Xr Vq.length (fun i j=>PyZ.ltB ((Vq.map nI).getD i []) ((Vq.map nI).getD j [])) (W.kas_sort Vq.length)=some pL2.toArray:=by decide +kernel
theorem Zhr:pwC (WW (Wc pL2.toArray Vq))=true:=by decide +kernel
def Zcg:List (List Nat):=[[1,2,3,4,0],[1,2,0,3,4]]
def Vp:List (List Nat):=[[0,1,2,3,4],[1,2,3,4,0],[1,2,0,3,4],[2,3,4,0,1],[2,3,1,4,0],[2,0,3,4,1],[2,0,1,3,4],[3,4,0,1,2],[3,4,2,0,1],[3,1,4,0,2],[3,1,2,4,0],[0,3,4,1,2],[0,3,2,4,1],[0,1,3,4,2],[4,0,1,2,3],[4,0,3,1,2],[4,2,0,1,3],[4,2,3,0,1],[1,4,0,2,3],[1,4,3,0,2],[1,2,4,0,3],[3,4,1,2,0],[3,2,4,1,0],[3,2,0,4,1],[1,3,4,2,0],[1,3,0,4,2],[0,1,4,2,3],[0,3,1,2,4],[2,0,4,1,3],[2,3,0,1,4],[4,0,2,3,1],[4,3,0,2,1],[4,3,1,0,2],[2,4,0,3,1],[2,4,1,0,3],[4,1,2,0,3],[4,1,3,2,0],[2,4,3,1,0],[3,0,4,2,1],[3,0,1,4,2],[1,4,2,3,0],[3,1,0,2,4],[0,4,1,3,2],[0,4,2,1,3],[3,0,2,1,4],[0,2,3,1,4],[0,2,4,3,1],[4,1,0,3,2],[1,3,2,0,4],[4,3,2,1,0],[0,4,3,2,1],[4,2,1,3,0],[1,0,2,4,3],[1,0,3,2,4],[0,2,1,4,3],[1,0,4,3,2],[3,2,1,0,4],[2,1,3,0,4],[2,1,4,3,0],[2,1,0,4,3]]
def pL3:List Nat:=[0,13,26,54,45,46,27,12,11,42,43,50,52,53,55,2,1,20,25,48,24,18,40,19,6,5,28,59,57,58,29,4,3,33,34,37,39,44,38,41,10,9,23,56,22,7,21,8,14,30,15,47,35,36,16,51,17,31,32,49]
theorem Zh1:bfs Zcg 61 0 [List.range 5]=Vp:=by
 have h:U8 Zcg 61 0 [List.range 5] (fun fd=>decide (fd=Vp))=true:=by decide +kernel
 rw[Jj] at h
 exact of_decide_eq_true h
theorem ZhC:PyZ.Xr Vp.length (fun i j=>PyZ.ltB ((Vp.map nI).getD i []) ((Vp.map nI).getD j [])) (W.kas_sort Vp.length)=some pL3.toArray:=by decide +kernel
theorem Zhq:pwC (WW (Wc pL3.toArray Vp))=true:=by decide +kernel
end C10
namespace L2
open PySem PySem.Spec PyProof.Rows
end L2
namespace C10
open PySem L2 PySem.Spec PyProof.Rows
open Tb
open Pm
section
variable {X:Cx}
end
theorem Vl {srt:List (List Nat)}(Pt:PW (WW srt)):∀a∈srt,∀b∈srt,Wp a b∈srt:=by
 intro a ha b hb
 obtain⟨i,hi⟩:=List.getElem?_of_mem ha
 obtain⟨j,hj⟩:=List.getElem?_of_mem hb
 have hl:(WW srt).length=srt.length:=by unfold WW;rw[Za]
 have il:=(List.getElem?_eq_some_iff.mp hi).1
 have jl:=(List.getElem?_eq_some_iff.mp hj).1
 have h:=Pt.lt i j (by rw[hl];exact il) (by rw[hl];exact jl)
 have e:ZW (WW srt) i j=srt.findIdx (· == Wp a b):=by
  unfold ZW WW
  rw[Zb,Zb,Zc,hi]
  show (Option.getD (srt.map _)[j]? 0)=_
  rw[Zc,hj]
  rfl
 rw[e,hl] at h
 obtain⟨x,hx,hx2⟩:=List.findIdx_lt_length.mp h
 rw[<-eq_of_beq hx2]
 exact hx
def tL0:List (List Nat):=WW (Wc pL0.toArray Vs)
def tL1:List (List Nat):=WW (Wc pL1.toArray Vr)
def tL2:List (List Nat):=WW (Wc pL2.toArray Vq)
def tL3:List (List Nat):=WW (Wc pL3.toArray Vp)
theorem ZgF:PW tL0:=Yr Zht
theorem ZgE:PW tL1:=Yr Zhs
theorem ZgD:PW tL2:=Yr Zhr
theorem ZgC:PW tL3:=Yr Zhq
theorem bp0:ByP 4 Za2 Vs pL0.toArray tL0:=⟨by decide,by decide,by decide,by decide,by decide +kernel,Zh4,by decide +kernel,by decide +kernel,ZhF,by decide +kernel,by decide +kernel,rfl,Vl ZgF⟩
theorem bp1:ByP 4 Za1 Vr pL1.toArray tL1:=⟨by decide,by decide,by decide,by decide,by decide +kernel,Zh3,by decide +kernel,by decide +kernel,ZhE,by decide +kernel,by decide +kernel,rfl,Vl ZgE⟩
theorem bp2:ByP 3 Za0 Vq pL2.toArray tL2:=⟨by decide,by decide,by decide,by decide,by decide +kernel,Zh2,by decide +kernel,by decide +kernel,ZhD,by decide +kernel,by decide +kernel,rfl,Vl ZgD⟩
theorem bp3:ByP 5 Zcg Vp pL3.toArray tL3:=⟨by decide,by decide,by decide,by decide,by decide +kernel,Zh1,by decide +kernel,by decide +kernel,ZhC,by decide +kernel,by decide +kernel,rfl,Vl ZgC⟩
end C10
namespace Pm
open PySem L2 PySem.Spec PyProof.Rows
open Tb C10
theorem ZK.dr {H H':Hp}{p L:Addr}{bs:List Addr}{yss:List (List Nat)}(F:Wn H p)(d:Dr p H H')(hL:L≠p)(R:ZK H L bs yss):ZK H' L bs yss:=⟨d.keep _ _ R.1 hL,R.2.1,fun i b hb=>d.tup F (R.2.2 i b hb)⟩
end Pm
namespace C10
open PySem L2 PySem.Spec PyProof.Rows
open Tb
open Pm
def ZeI:List (List Nat):=[[5,4,2],[7,3,2],[3,4,2],[8,2,3],[8,2,5],[4,4,3],[9,3,4]]
def ZeJ:List (List Nat):=[[2,1,1],[3,1,1],[4,1,1],[5,1,1],[3,2,2],[4,2,3]]
def Zdm (x:List Nat):Bool:=decide (x.length=3) && decide (1<=x.getD 0 0) && decide (1<=x.getD 1 0) && decide (x.getD 0 0*x.getD 1 0<=60) && decide (x.getD 2 0<=60) && decide (x.getD 0 0<=60) && decide (x.getD 1 0<=60)
theorem Zdn:(ZeI.all fun x=>Zdm x && pwC (tw (x.getD 0 0) (x.getD 1 0) (x.getD 2 0)))=true:=by decide +kernel
theorem Zdo:(ZeJ.all fun x=>Zdm x && pwC (tw (x.getD 0 0) (x.getD 1 0) (x.getD 2 0)) && ((List.range 3).all fun i=>pwC (pt (tw (i+1) 1 1) (tw (x.getD 0 0) (x.getD 1 0) (x.getD 2 0))) && decide ((tw (i+1) 1 1).length*(tw (x.getD 0 0) (x.getD 1 0) (x.getD 2 0)).length<=60)))=true:=by decide +kernel
theorem ZbM {x:List Nat}(h:Zdm x=true):∃a b c,x=[a,b,c]/\x.getD 0 0=a/\x.getD 1 0=b/\x.getD 2 0=c/\1<=a/\1<=b/\a*b<=60/\c<=60/\a<=60/\b<=60:=by
 unfold Zdm at h
 simp only[Bool.and_eq_true,decide_eq_true_eq] at h
 obtain⟨⟨⟨⟨⟨⟨h1,h2⟩,h3⟩,h4⟩,h5⟩,h6⟩,h7⟩:=h
 match x,h1 with
 | [a,b,c],_=>exact⟨a,b,c,rfl,rfl,rfl,rfl,h2,h3,h4,h5,h6,h7⟩
section
variable {P:Program}{w:World}{K:PySem.W.Frag}{mg:Str->Option Value}{base:Heap}
theorem Zfl {f:Addr}{fd:FuncData}(F:Wt K "_law_one_group" "_law_one_group" Zgo f fd)(GD:Fn P w K mg base Yp 1 "_law_draw" ["_law_feed_here", "_law_many"] Jq)
  (GT':Fn P w K mg base Yp 1 "_law_twined" ["_law_m", "_law_many", "_law_u"] ZeP) (GE:Fn P w K mg base Yp 1 "_law_eight" ["_law_m"] Zaj) (GB:Fn P w K mg base Yp 1 "_law_by_perms" ["_law_perms"] Zem) (GP:Fn P w K mg base Yp 1 "_law_put" ["_law_one", "_law_other"] Zeh) :
  Z5 P w K mg base Yp 2 f fd ["_law_feed_here"] Zah:=by
 refine F.ok (FS (N:=["_law_feed_here", "_law_way", "_law_some", "_law_m", "_law_many", "_law_u", "_law_one", "_law_other"])) (fun vs H Q E h=>?_) (fun cdv A outer s H vs Q E hr h=>?_)
 ·obtain⟨p,rfl,_⟩:=h;rfl
 ·obtain⟨p,rfl,F0,q⟩:=h
  refine⟨_,Zu (ZP 1 rfl (Y7 GD hr ZG (pc (vn 0) (pc Zv Zs))))
   (Zu (YK (ZL JG (vn 1) Zv (ZS _)) (Zx (ZF (Y7 GE hr ZG (pc (Zz ZZ Zv (Y7 GD hr ZG (pc (vn 0) (pc Zv Zs)))) Zs)))) ZY)
   (Zu (Zgz (ZL JG (vn 1) Zv (ZS _))
    (Vc (Zcb 2 rfl (Zgy (qal (XH (Xs (Yl [1,0,2,3] (qa qi (qa qi (qa qi (qa qi Z2)))) (by rfl)) (Xs (Yl [1,2,3,0] (qa qi (qa qi (qa qi (qa qi Z2)))) (by rfl)) WJ))) (qal (XH (Xs (Yl [1,2,0,3] (qa qi (qa qi (qa qi (qa qi Z2)))) (by rfl)) (Xs (Yl [1,0,3,2] (qa qi (qa qi (qa qi (qa qi Z2)))) (by rfl)) WJ))) (qal (XH (Xs (Yl [1,0,2] (qa qi (qa qi (qa qi Z2))) (by rfl)) (Xs (Yl [1,2,0] (qa qi (qa qi (qa qi Z2))) (by rfl)) WJ))) Zam)))))
    ⟨Zx (ZF (Y7 GB hr ZG (pc (ZB (ixL K) (ZhO UM (vn 2) (Zgy (qal (XH (Xs (Yl [1,2,3,4,0] (qa qi (qa qi (qa qi (qa qi (qa qi Z2))))) (by rfl)) (Xs (Yl [1,2,0,3,4] (qa qi (qa qi (qa qi (qa qi (qa qi Z2))))) (by rfl)) WJ))) Zam))) (Y7 GD hr ZG (pc (vn 0) (pc Zv Zs))) (fun _ _=>rfl)) Zs)))⟩) ZY)
   (Zu (YK (ZL XJ (vn 1) Zv (ZS _)) (Zx (ZF (Y7 GT' hr ZG (pc (Zz ZZ Zv (Y7 GD hr ZG (pc (vn 0) (pc Zv Zs)))) (pc Zv (pc Zv Zs)))))) ZY)
   (Zu (YK (ZL XJ (vn 1) Zv (ZS _))
    (Zu (ZP 3 rfl (Zz ZZ Zv (Y7 GD hr ZG (pc (vn 0) (pc Zv Zs)))))
    (Zx (ZF (Y7 GT' hr ZG (pc (vn 3) (pc Zv (pc (Zz Xb (vn 3) Zv) Zs))))))) ZY)
   (Zu (Zgz (ZL XJ (vn 1) Zv (ZS _))
    (Vc (Zcb 2 rfl (XH (Xs (Yl [5,4,2] (qa qi (qa qi (qa qi Z2))) (by rfl)) (Xs (Yl [7,3,2] (qa qi (qa qi (qa qi Z2))) (by rfl)) (Xs (Yl [3,4,2] (qa qi (qa qi (qa qi Z2))) (by rfl)) (Xs (Yl [8,2,3] (qa qi (qa qi (qa qi Z2))) (by rfl)) (Xs (Yl [8,2,5] (qa qi (qa qi (qa qi Z2))) (by rfl)) (Xs (Yl [4,4,3] (qa qi (qa qi (qa qi Z2))) (by rfl)) (Xs (Yl [9,3,4] (qa qi (qa qi (qa qi Z2))) (by rfl)) WJ)))))))))
    ⟨Zu (J7 (ZB (ixL K) (vn 2) (Y7 GD hr ZG (pc (vn 0) (pc Zv Zs))) (fun _ _=>rfl)) (g3 K 3 4 5 rfl (gn 3) (gn 4) (gn 5)))
    (Zx (ZF (Y7 GT' hr ZG (pc (vn 3) (pc (vn 4) (pc (vn 5) Zs))))))⟩) ZY)
   (QSs.out (Vc ⟨ZP 6 rfl (Y7 GT' hr ZG (pc (Zz ZZ Zv (Y7 GD hr ZG (pc (vn 0) (pc Zv Zs)))) (pc Zv (pc Zv Zs))))⟩
   (Vc (Zcb 7 rfl (ZhP (ixL K) (XH (Xs (Yl [2,1,1] (qa qi (qa qi (qa qi Z2))) (by rfl)) (Xs (Yl [3,1,1] (qa qi (qa qi (qa qi Z2))) (by rfl)) (Xs (Yl [4,1,1] (qa qi (qa qi (qa qi Z2))) (by rfl)) (Xs (Yl [5,1,1] (qa qi (qa qi (qa qi Z2))) (by rfl)) (Xs (Yl [3,2,2] (qa qi (qa qi (qa qi Z2))) (by rfl)) (Xs (Yl [4,2,3] (qa qi (qa qi (qa qi Z2))) (by rfl)) WJ))))))) (Y7 GD hr ZG (pc (vn 0) (pc Zv Zs))) (fun _ _=>rfl)))
   ⟨Zx (ZF (Y7 GP hr ZG (pc (vn 6) (pc (Y7 GT' hr ZG (pc (ZB (Jw K) (vn 7) Zv (fun _ _=>rfl)) (pc (ZB (Jw K) (vn 7) Zv (fun _ _=>rfl)) (pc (ZB (Jw K) (vn 7) Zv (fun _ _=>rfl)) Zs)))) Zs))))⟩)))))))),?_⟩
  have sz:(16777216:Nat)=sizeLine:=by decide
  refine⟨_,rfl,p,12,rfl,F0,by decide,by decide +kernel,fun r H1 _ _ d1=>?_⟩
  have F1:=d1.feed F0
  have np:∀{b:Addr},H1 b=none->b≠p:=fun {b} hb=>F1.ne_none hb
  refine⟨_,rfl,rfl,_,rfl,Y2 (fun _=>?_) (fun _=>?_)⟩
  ·refine⟨_,rfl,p,4,rfl,F1,by decide,by decide +kernel,fun r2 H2 a0 a1 d2=>?_⟩
   obtain⟨j,rfl⟩:=Int.eq_ofNat_of_zero_le a0
   have hj:j<4:=by omega
   refine⟨_,_,rfl,rfl,j+2,?_,by omega,by omega,fun g H3 s3 G3=>q g _ H3 ((d1.trans d2).same s3) G3 (Yr (List.all_eq_true.mp ZgA j (List.mem_range.mpr hj)))⟩
   show [V.int (2+(j:Int))]=[V.int ((j+2:Nat):Int)]
   rw[show (2:Int)+(j:Int)=((j+2:Nat):Int) by omega]
  refine⟨_,rfl,rfl,_,rfl,Y2 (fun _=>?_) (fun _=>?_)⟩
  ·refine X9 (VD [Za2,Za1,Za0] (by decide) (by decide) fun ls H2 s2 hl2 hi2 S hS=>⟨_,rfl,?_⟩)
   have s3:=Zw.upd (H:=H2) (o:=.lst (ls.map V.ref)) hS
   refine VD [Zcg] (by decide) (by decide) fun ls' H3 s4 hl3 hi3 S' hS'=>?_
   have s5:=Zw.upd (H:=H3) (o:=.lst (ls'.map V.ref)) hS'
   refine⟨S,S',_,_,rfl,rfl,s5 _ _ (s4 _ _ Zt),Zt,by rw[Za,Za,hl2,hl3];decide,fun S2 hS2=>?_⟩
   rw[<-List.map_append]
   have s6:=Zw.upd (o:=.lst ((ls++ls').map V.ref)) hS2
   have sA:=(((s2.trans s3).trans s4).trans s5).trans s6
   have nS2:H1 S2=none:=(((s2.trans s3).trans s4).trans s5).free hS2
   have F2:=F1.mono sA
   refine⟨_,rfl,p,4,rfl,F2,by decide,by decide +kernel,fun r2 H4 a0 a1 d2=>?_⟩
   obtain⟨j,rfl⟩:=Int.eq_ofNat_of_zero_le a0
   have hj:j<4:=by omega
   have e4:H4 S2=some (.lst ((ls++ls').map V.ref)):=d2.keep _ _ Zt (np nS2)
   have hll:(ls++ls').length=4:=by rw[Zd,hl2,hl3];decide
   obtain⟨l,hlj,hat⟩:=Vb (bs:=ls++ls') (i:=j) (by omega)
   refine⟨S2,_,_,_,rfl,rfl,.of e4,hat,?_⟩
   have get1:∀{i:Nat},i<3->(ls++ls')[i]?=some l->∃bs,ZK H4 l bs ([Za2,Za1,Za0].getD i []):=fun {i} h1 h2=>by
    rw[List.getElem?_append_left (by rw[hl2];exact h1)] at h2
    obtain⟨u1,bs,u2⟩:=hi2 i l h2
    exact⟨bs,(u2.mono (((s3.trans s4).trans s5).trans s6)).dr F2 d2 (np u1)⟩
   have hj4:j=0\/j=1\/j=2\/j=3:=by omega
   rcases hj4 with rfl|rfl|rfl|rfl
   ·obtain⟨bs,R⟩:=get1 (i:=0) (by decide) hlj
    exact⟨l,bs,Za2,4,_,_,_,rfl,R,bp0,fun g H5 s5' G=>q g _ H5 (((d1.same sA).trans d2).same s5') G ZgF⟩
   ·obtain⟨bs,R⟩:=get1 (i:=1) (by decide) hlj
    exact⟨l,bs,Za1,4,_,_,_,rfl,R,bp1,fun g H5 s5' G=>q g _ H5 (((d1.same sA).trans d2).same s5') G ZgE⟩
   ·obtain⟨bs,R⟩:=get1 (i:=2) (by decide) hlj
    exact⟨l,bs,Za0,3,_,_,_,rfl,R,bp2,fun g H5 s5' G=>q g _ H5 (((d1.same sA).trans d2).same s5') G ZgD⟩
   ·rw[List.getElem?_append_right (by rw[hl2];decide),hl2] at hlj
    obtain⟨u1,bs,u2⟩:=hi3 0 l hlj
    have R:=(u2.mono (s5.trans s6)).dr F2 d2 (np ((s2.trans s3).free u1))
    exact⟨l,bs,Zcg,5,_,_,_,rfl,R,bp3,fun g H5 s5' G=>q g _ H5 (((d1.same sA).trans d2).same s5') G ZgC⟩
  refine⟨_,rfl,_,_,rfl,rfl,_,rfl,Y2 (fun _=>?_) (fun _=>?_)⟩
  ·refine⟨_,rfl,p,12,rfl,F1,by decide,by decide +kernel,fun r2 H2 a0 a1 d2=>?_⟩
   obtain⟨j,rfl⟩:=Int.eq_ofNat_of_zero_le a0
   have hj:j<12:=by omega
   refine⟨_,_,rfl,rfl,j+1,1,1,?_,by omega,by decide,by omega,by decide,by omega,by decide,fun g H3 s3 G3=>q g _ H3 ((d1.trans d2).same s3) G3 (Yr (List.all_eq_true.mp Jr j (List.mem_range.mpr hj)))⟩
   show [V.int (1+(j:Int)),V.int 1,V.int 1]=[V.int ((j+1:Nat):Int),V.int 1,V.int 1]
   rw[show (1:Int)+(j:Int)=((j+1:Nat):Int) by omega]
  refine⟨_,rfl,_,_,rfl,rfl,_,rfl,Y2 (fun _=>?_) (fun _=>?_)⟩
  ·refine⟨_,rfl,p,6,rfl,F1,by decide,by decide +kernel,fun r2 H2 a0 a1 d2=>?_⟩
   obtain⟨j,rfl⟩:=Int.eq_ofNat_of_zero_le a0
   have hj:j<6:=by omega
   refine⟨_,_,rfl,rfl,_,rfl,_,rfl,_,_,rfl,rfl,j+3,2,j+2,?_,by omega,by decide,by omega,by omega,by omega,by decide,fun g H3 s3 G3=>q g _ H3 ((d1.trans d2).same s3) G3 (Yr (List.all_eq_true.mp Ze0 j (List.mem_range.mpr hj)))⟩
   show [V.int (3+(j:Int)),V.int 2,V.int (3+(j:Int)-1)]=[V.int ((j+3:Nat):Int),V.int 2,V.int ((j+2:Nat):Int)]
   rw[show (3:Int)+(j:Int)-1=((j+2:Nat):Int) by omega,show (3:Int)+(j:Int)=((j+3:Nat):Int) by omega]
  refine⟨_,rfl,_,_,rfl,rfl,_,rfl,Y2 (fun _=>?_) (fun _=>?_)⟩
  ·refine X9 (VC ZeI (by decide) (by decide) fun bs H2 s2 hb hi S hS=>?_)
   have s3:=s2.trans (Zw.upd (H:=H2) (o:=.lst (bs.map V.ref)) hS)
   have F2:=F1.mono s3
   refine⟨_,rfl,_,rfl,p,7,rfl,F2,by decide,by decide +kernel,fun r2 H4 a0 a1 d2=>?_⟩
   obtain⟨j,rfl⟩:=Int.eq_ofNat_of_zero_le a0
   have hj:j<7:=by omega
   obtain⟨b,hbj,hat⟩:=Vb (bs:=bs) (i:=j) (by rw[hb];exact hj)
   have e4:H4 S=some (.lst (bs.map V.ref)):=d2.keep _ _ Zt (np (s2.free hS))
   have hx:=List.all_eq_true.mp Zdn _ (Xf (yss:=ZeI) (i:=j) hj)
   rw[Bool.and_eq_true] at hx
   obtain⟨a',b',c',e1,e2,e3,e5,t1,t2,t3,t4,t5,t6⟩:=ZbM hx.1
   have hb4:H4 b=some (.tup [nV a',nV b',nV c']):=d2.tup F2 (by rw[Zw.upd (o:=.lst (bs.map V.ref)) hS _ _ (hi j b hbj),e1];rfl)
   have Pt:=hx.2
   rw[e2,e3,e5] at Pt
   exact⟨S,_,_,_,rfl,rfl,.of e4,hat,b,_,rfl,.of hb4,rfl,_,_,rfl,_,_,rfl,_,_,rfl,rfl,_,rfl,_,rfl,_,rfl,a',b',c',rfl,t1,t2,t3,t4,t5,t6,fun g H3 s3' G3=>q g _ H3 (((d1.same s3).trans d2).same s3') G3 (Yr Pt)⟩
  ·refine⟨_,rfl,p,3,rfl,F1,by decide,by decide +kernel,fun r2 H2 a0 a1 d2=>?_⟩
   obtain⟨i,rfl⟩:=Int.eq_ofNat_of_zero_le a0
   have hi3:i<3:=by omega
   refine⟨_,_,rfl,rfl,i+1,1,1,?_,by omega,by decide,by omega,by decide,by omega,by decide,fun g1 H3 s3 G1=>?_⟩
   ·show [V.int (1+(i:Int)),V.int 1,V.int 1]=[V.int ((i+1:Nat):Int),V.int 1,V.int 1]
    rw[show (1:Int)+(i:Int)=((i+1:Nat):Int) by omega]
   have d3:=(d1.trans d2).same s3
   have F3:=d3.feed F0
   refine X9 (Zcq (VC ZeJ (by decide) (by decide) fun bs H4 s4 hb hi S hS=>?_))
   have s5:=s4.trans (Zw.upd (H:=H4) (o:=.lst (bs.map V.ref)) hS)
   have F5:=F3.mono s5
   refine⟨_,rfl,p,6,rfl,F5,by decide,by decide +kernel,fun r2 H6 a0 a1 d6=>?_⟩
   obtain⟨j,rfl⟩:=Int.eq_ofNat_of_zero_le a0
   have hj:j<6:=by omega
   obtain⟨b,hbj,hat⟩:=Vb (bs:=bs) (i:=j) (by rw[hb];exact hj)
   have e4:H6 S=some (.lst (bs.map V.ref)):=d6.keep _ _ Zt (F3.ne_none (s4.free hS))
   have hx:=List.all_eq_true.mp Zdo _ (Xf (yss:=ZeJ) (i:=j) hj)
   rw[Bool.and_eq_true,Bool.and_eq_true] at hx
   obtain⟨a',b',c',e1,e2,e3,e5,t1,t2,t3,t4,t5,t6⟩:=ZbM hx.1.1
   have hb4:H6 b=some (.tup [nV a',nV b',nV c']):=d6.tup F5 (by rw[Zw.upd (o:=.lst (bs.map V.ref)) hS _ _ (hi j b hbj),e1];rfl)
   have Pt:=hx.1.2
   have Pp:=List.all_eq_true.mp hx.2 i (List.mem_range.mpr hi3)
   rw[e2,e3,e5] at Pt Pp
   rw[Bool.and_eq_true,decide_eq_true_eq] at Pp
   have G6:=(G1.mono s5).dr F5 d6
   refine⟨S,_,_,_,rfl,rfl,.of e4,hat,_,rfl,_,rfl,b,_,_,_,rfl,rfl,.of hb4,ZV (j:=0) rfl,_,rfl,b,_,_,_,rfl,rfl,.of hb4,ZV (j:=1) rfl,_,rfl,b,_,_,_,rfl,rfl,.of hb4,ZV (j:=2) rfl,a',b',c',rfl,t1,t2,t3,t4,t5,t6,fun g2 H7 s7 G2=>?_⟩
   exact⟨g1,g2,_,_,rfl,G6.mono s7,G2,Yr (List.all_eq_true.mp Jr i (List.mem_range.mpr (by omega))),Yr Pt,Pp.2,fun g H8 s8 G=>q g _ H8 ((((d3.same s5).trans d6).same s7).same s8) G (Yr Pp.1)⟩
end
end C10
namespace L2
open PySem PySem.Spec PyProof.Rows
theorem W7 {α:Type}{n:Str}:∀{a b:List (Str×α)},a.lookup n=none->(a++b).lookup n=b.lookup n
 | [],_,_=>rfl
 |(x,y)::r,b,h=>by
  rw[List.lookup_cons] at h
  show List.lookup n ((x,y)::(r++b))=_
  rw[List.lookup_cons]
  cases q:n == x with
  |true=>rw[q] at h;cases h
  |false=>rw[q] at h;exact W7 h
theorem Wf {α:Type}{n:Str}{c:α}:∀{a b:List (Str×α)},a.lookup n=some c->(a++b).lookup n=some c
 | [],_,h=>by cases h
 |(x,y)::r,b,h=>by
  rw[List.lookup_cons] at h
  show List.lookup n ((x,y)::(r++b))=_
  rw[List.lookup_cons]
  cases q:n == x with
  |true=>rw[q] at h;exact h
  |false=>rw[q] at h;exact Wf h
def Jd (env:Env)(cl:List (Str×Addr)):Env:={env with cells:=env.cells++cl}
theorem Uw {env:Env}{cl:List (Str×Addr)}{n:Str}{v:Value}(h:env.kindOf n=some .local\/(env.kindOf n=some .cell/\(env.cells.lookup n).isSome=true)):storeName (Jd env cl) n v=storeName env n v:=by
 have hk:(Jd env cl).kindOf n=env.kindOf n:=rfl
 have hb:(Jd env cl).blockKind=env.blockKind:=rfl
 unfold storeName
 rw[hk,hb]
 rcases h with h|⟨h,hc⟩
 ·rw[h];rfl
 ·rw[h]
  have e:cellOf (Jd env cl) n=cellOf env n:=by
   obtain⟨c,hc⟩:=Option.isSome_iff_exists.mp hc
   unfold cellOf
   rw[show (Jd env cl).cells=env.cells++cl from rfl,Wf hc,hc]
  rw[e]
  rfl
section
variable {M:Model}{A:Around}{E:Value->Shared->Prop}{s₀:Shared}{env:Env}{cl:List (Str×Addr)}
theorem WF (f:Str×Value->PUnit->Sem (ForInStep PUnit))(hf:∀n v u,f (n,v) u=(do storeName (Jd env cl) n v;pure (.yield ⟨⟩)))(hk:env.scope.kind=.function) :
  ∀(binds:List (Str×Value)) (m cm:Str->Option Value) (s:Shared) (Q:PUnit->Shared->Prop),InCallC s₀ env.locals m env.cells cm s->
   (∀x∈binds,env.kindOf x.1=some .local\/(env.kindOf x.1=some .cell/\(env.cells.lookup x.1).isSome=true))->
   (∀s',InCallC s₀ env.locals (bindL env.kindOf binds m) env.cells (bindC env.kindOf binds cm) s'->Q ⟨⟩ s')->wpAny M A (forIn binds ⟨⟩ f) Q E s
 | [],m,cm,s,Q,x,_,h=>by rw[List.forIn_nil];exact Zm (h s x)
 |(n,v)::r,m,cm,s,Q,x,hkind,h=>by
  rw[List.forIn_cons,hf,Uw (hkind (n,v) List.mem_cons_self)]
  have hr:∀y∈r,env.kindOf y.1=some .local\/(env.kindOf y.1=some .cell/\(env.cells.lookup y.1).isSome=true):=fun y hy=>hkind y (List.mem_cons_of_mem _ hy)
  rcases hkind (n,v) List.mem_cons_self with hl|⟨hl,hc⟩
  ·refine Zl (Zl (stLC x hk hl fun s' x'=>Zm (WF f hf hk r _ _ s' Q x' hr fun s'' x''=>h s'' ?_)))
   unfold bindL bindC;rw[if_pos hl,if_pos hl];exact x''
  ·obtain⟨c,hc⟩:=Option.isSome_iff_exists.mp hc
   have hnl:¬env.kindOf n=some .local:=by rw[hl];decide
   refine Zl (Zl (stCC x hk hl hc fun s' x'=>Zm (WF f hf hk r _ _ s' Q x' hr fun s'' x''=>h s'' ?_)))
   unfold bindL bindC;rw[if_neg hnl,if_neg hnl];exact x''
end
section
variable {M:Model}{A:Around}{E:Value->Shared->Prop}{s:Shared}
theorem Zau {scope:Scope}{globals:Addr}{cl:List (Str×Addr)}{binds:List (Str×Value)}{qual:Str}{func:Option Addr}{code:Value}{builtins:Addr}{Q:Env->Shared->Prop}
  (hk:scope.kind=.function)
  (hkind:∀x∈binds,scope.names.lookup x.1=some .local\/(scope.names.lookup x.1=some .cell/\((cellsFrom (s.heap.objs.size+1) scope.names []).lookup x.1).isSome=true))
  (hQ:∀env,env=newEnv scope s.heap.objs.size globals (cellsFrom (s.heap.objs.size+1) scope.names []) qual func code none builtins->
   ∀s',InCallC s env.locals (bindL env.kindOf binds fun _=>none) env.cells (bindC env.kindOf binds fun _=>none) s'->Q (Jd env cl) s') :
  wpAny M A (newFunctionEnv scope globals cl binds qual func code none builtins) Q E s:=by
 simp only[newFunctionEnv,Option.isSome_none,Bool.false_eq_true,if_false]
 refine Zl (wpAny_alloc ?_)
 refine Zl (wpAny_layCells _ (fun name kind cells=>by cases hkc:kind == NameKind.cell <;> simp[hkc]) _ _ _ _ ?_)
 have ok:=cellsFrom_ok scope.names (s.heap.push {cls:=.type "frame",data:=.dict #[]}) (s.heap.objs.size+1) [] ⟨fun _ _ hm=>(nomatch hm),List.Pairwise.nil⟩ (by rw[Heap.size_push];exact Zq _)
 rw[Heap.size_push] at ok
 rw[show ({s with heap:=s.heap.push {cls:=.type "frame",data:=.dict #[]}}:Shared).heap.objs.size=s.heap.objs.size+1 from Heap.size_push ..]
 rw[Wg]
 refine Zl (WF (cl:=cl) (s₀:=s) (env:=newEnv scope s.heap.objs.size globals (cellsFrom (s.heap.objs.size+1) scope.names []) qual func code none builtins)
  _ (fun _ _ _=>rfl) hk binds (fun _=>none) (fun _=>none) _ _
  ⟨⟨⟨_,_,rfl⟩,(Heap.Ns.new s.heap (.type "frame")).keeps (pushCells_keeps _ _),fun b o e=>pushCells_keeps _ _ b o (Zn _ e),Zq _⟩,
   fun n c hc=>(ok.empty n c (mem_of_lookup hc)).1,ok.apart,fun n c hm=>(ok.empty n c hm).2⟩
  hkind fun s' x=>Zm (hQ _ rfl s' x))
end
structure WH (N ps caps:List Str)(sc:Scope):Prop where
 kind:sc.kind=.function
 co:sc.isCoroutine=false
 gen:sc.isGenerator=false
 nd:N.Nodup
 ndn:(sc.names.map (·.1)).Nodup
 eqN:N=ps++caps
 par:∀x∈ps,sc.names.lookup x=some .local\/sc.names.lookup x=some .cell
 cap:∀x∈caps,sc.names.lookup x=some .free
 fr:∀y∈sc.names,y.2=.free->y.1∈caps
structure W1 (base:Heap)(cl:List (Str×Addr))(caps:List Str)(cvs:List V):Prop where
 len:caps.length=cvs.length
 at_:∀(i:Nat) x v,caps[i]?=some x->cvs[i]?=some v->∃c u,cl.lookup x=some c/\base.IsCell c (some u)/\RelV v u
 only:∀x c,cl.lookup x=some c->x∈caps
 inj:∀x y c,cl.lookup x=some c->cl.lookup y=some c->x=y
def Je (CX:JT)(P:Program)(w:World)(K:PySem.W.Frag)(mg:Str->Option Value)(base:Heap)(N caps:List Str)(cl:List (Str×Addr))(qual:Str)(scope:Scope)(f:Addr)(cd:Value)(A:Around)(outer:List Env)(s:Shared)(H:Hp)(E:XK):Cx where
 prog:=P
 w:=w
 K:=K
 mg:=mg
 base:=base
 A:=A.deeper (Jd (envOfC qual scope s.heap.objs.size f cd) cl)
 N:=N
 s₀:=s
 H₀:=H
 env:=Jd (envOfC qual scope s.heap.objs.size f cd) cl
 outer:=outer
 stack:=Jd (envOfC qual scope s.heap.objs.size f cd) cl::outer
 ex:=[]
 calm:=true
 fn:=fun x=>!caps.contains x
 pn:=[]
 xe:=fun e s'=>wpAny (model P w) (A.deeper (Jd (envOfC qual scope s.heap.objs.size f cd) cl)) (leaving (Jd (envOfC qual scope s.heap.objs.size f cd) cl) e) (fun _ s''=>CX outer H s E e s'') (fun e' s''=>CX outer H s E e' s'') s'
theorem W0 {scope:Scope}{n:Nat}{x:Str}(nd:(scope.names.map (·.1)).Nodup)(h:scope.names.lookup x=some .free):(cellsFrom n scope.names []).lookup x=none:=by
 cases e:(cellsFrom n scope.names []).lookup x with
 |none=>rfl
 |some c=>
  rcases WM scope.names n [] (PySem.mem_of_lookup e) with z|z
  ·have:=WK nd z
   rw[h] at this
   cases this
  ·cases z
theorem Zaz {CX:JT}{P:Program}{w:World}{K:PySem.W.Frag}{mg:Str->Option Value}{base:Heap}{N ps caps:List Str}{cl:List (Str×Addr)}{cvs:List V}{qual:Str}{scope:Scope}{f:Addr}{cd:Value}{A:Around}{outer:List Env}{s s1:Shared}{H:Hp}{E:XK}{us:List Value}{vs:List V}
  (S:WH N ps caps scope) (C:W1 base cl caps cvs) (hd:A.handled=none) (e0:Vw P w K mg base A outer s H) (hl:vs.length=ps.length) (r:ZE vs us)
  (x:InCallC s s.heap.objs.size (bindL (envOfC qual scope s.heap.objs.size f cd).kindOf (ps.zip us) fun _=>none) (cellsFrom (s.heap.objs.size+1) scope.names []) (bindC (envOfC qual scope s.heap.objs.size f cd).kindOf (ps.zip us) fun _=>none) s1) :
  Inv (Je CX P w K mg base N caps cl qual scope f cd A outer s H E) [] ((vs++cvs).map some) H s1:=by
 obtain⟨h1,tk,rfl,hk⟩:=x.done
 have noA:∀b:Addr,b∉(Je CX P w K mg base N caps cl qual scope f cd A outer s H E).ex:=fun b z=>absurd (show b∈([]:List Addr) from z) (by simp)
 have ndps:ps.Nodup:=by have:=S.nd;rw[S.eqN] at this;exact (List.nodup_append.mp this).1
 have split:∀y c,(cellsFrom (s.heap.objs.size+1) scope.names []++cl).lookup y=some c->((cellsFrom (s.heap.objs.size+1) scope.names []).lookup y=some c/\y∉caps)\/((cellsFrom (s.heap.objs.size+1) scope.names []).lookup y=none/\cl.lookup y=some c):=fun y c h=>by
  cases e:(cellsFrom (s.heap.objs.size+1) scope.names []).lookup y with
  |none=>rw[W7 e] at h;exact .inr ⟨rfl,h⟩
  |some d=>
   rw[Wf e] at h
   cases h
   refine .inl ⟨rfl,fun hy=>?_⟩
   rw[W0 S.ndn (S.cap y hy)] at e
   cases e
 have atB:∀y c,cl.lookup y=some c->∃u,base.IsCell c (some u):=fun y c h=>by
  have hy:=C.only y c h
  obtain⟨i,hi⟩:=List.getElem?_of_mem hy
  have hlt:i<cvs.length:=by rw[<-C.len];exact (List.getElem?_eq_some_iff.mp hi).1
  obtain⟨d,u,h1,h2,_⟩:=C.at_ i y cvs[i] hi (Zf hlt)
  rw[h] at h1
  cases h1
  exact⟨u,h2⟩
 have below:∀y c,cl.lookup y=some c->c<s.heap.objs.size:=fun y c h=>by
  obtain⟨u,o,ho,_⟩:=atB y c h
  exact Zp (e0.bs _ _ ho).1
 have up:∀c u,base.IsCell c (some u)->h1.IsCell c (some u):=fun c u h=>by
  obtain⟨o,ho,hd⟩:=h
  exact⟨o,hk _ _ (e0.bs _ _ ho).1,hd⟩
 refine⟨⟨e0.mod,S.kind,rfl,rfl,Zq _,fun y z c h1 h2=>?_,fun y hy=>?_,fun y c hf h=>?_,fun _=>hd,Around.frames_deeper e0.frames,.inr ⟨rfl,rfl⟩,fun b z=>absurd z (noA b),e0.bs,e0.bsz,fun b _ _=>noA b,fun b z=>absurd z (noA b),e0.funs,e0.frf⟩,
  rfl,e0.bare,Un.kept hk,⟨_,x.toInCall.ns,fun i y v h1 h2 h3=>?_⟩,fun y c h=>?_,e0.hok.fresh (Zq _),fun y c h=>?_,fun p hp=>absurd (show p∈([]:List (Addr×Obj)) from hp) (by simp),e0.hok.kept hk,?_⟩
 ·rcases split y c h1 with ⟨a1,_⟩|⟨_,a1⟩ <;> rcases split z c h2 with ⟨a2,_⟩|⟨_,a2⟩
  ·exact name_of_addr x.apart (PySem.mem_of_lookup a1) (PySem.mem_of_lookup a2)
  ·exact absurd (Nat.lt_trans (below z c a2) (x.above y c (PySem.mem_of_lookup a1))) (Nat.lt_irrefl _)
  ·exact absurd (Nat.lt_trans (below y c a1) (x.above z c (PySem.mem_of_lookup a2))) (Nat.lt_irrefl _)
  ·exact C.inj y z c a1 a2
 ·have hy:scope.names.lookup y=some .cell\/scope.names.lookup y=some .free:=hy
  rcases hy with hy|hy
  ·obtain⟨c,hc⟩:=Jh (n:=s.heap.objs.size+1) hy
   exact⟨c,Wf hc⟩
  ·have hm:=S.fr _ (PySem.mem_of_lookup hy) rfl
   obtain⟨i,hi⟩:=List.getElem?_of_mem hm
   have hlt:i<cvs.length:=by rw[<-C.len];exact (List.getElem?_eq_some_iff.mp hi).1
   obtain⟨d,u,h1,_⟩:=C.at_ i y cvs[i] hi (Zf hlt)
   exact⟨d,by rw[show (Je CX P w K mg base N caps cl qual scope f cd A outer s H E).env.cells=cellsFrom (s.heap.objs.size+1) scope.names []++cl from rfl,W7 (W0 S.ndn hy)];exact h1⟩
 ·rcases split y c h with ⟨a1,_⟩|⟨_,a1⟩
  ·exact Nat.le_of_lt (x.above y c (PySem.mem_of_lookup a1))
  ·have hf:(!caps.contains y)=true:=hf
   have:=List.contains_iff_mem.mpr (C.only y c a1)
   rw[this] at hf
   cases hf
 ·have h1:(ps++caps)[i]?=some y:=by rw[<-S.eqN];exact h1
  rw[Zc] at h2
  by_cases hi:i<vs.length
  ·rw[List.getElem?_append_left hi] at h2
   rw[List.getElem?_append_left (by omega)] at h1
   cases ha:vs[i]? with
   |none=>rw[ha] at h2;cases h2
   |some a=>
    rw[ha] at h2
    cases h2
    obtain⟨u,hu,rv⟩:=r.get ha
    refine⟨u,rv,?_⟩
    rcases S.par y (List.mem_of_getElem? h1) with k|k
    ·exact .inl ⟨k,JA ndps h1 hu k⟩
    ·obtain⟨c,e⟩:=Jh (n:=s.heap.objs.size+1) k
     refine .inr ⟨.inl k,c,Wf e,?_⟩
     have q:=x.cell y c e
     rw[JB ndps h1 hu (by show scope.names.lookup y≠_;rw[k];decide)] at q
     exact q
  ·rw[List.getElem?_append_right (by omega)] at h2
   rw[List.getElem?_append_right (by omega)] at h1
   rw[hl] at h2
   cases ha:cvs[i-ps.length]? with
   |none=>rw[ha] at h2;cases h2
   |some a=>
    rw[ha] at h2
    cases h2
    obtain⟨c,u,b1,b2,b3⟩:=C.at_ (i-ps.length) y _ h1 ha
    have hf:=S.cap y (List.mem_of_getElem? h1)
    exact⟨u,b3,.inr ⟨.inr hf,c,by rw[show (Je CX P w K mg base N caps cl qual scope f cd A outer s H E).env.cells=cellsFrom (s.heap.objs.size+1) scope.names []++cl from rfl,W7 (W0 S.ndn hf)];exact b1,up c u b2⟩⟩
 ·rcases split y c h with ⟨a1,_⟩|⟨_,a1⟩
  ·exact⟨_,x.cell y c a1⟩
  ·obtain⟨u,hu⟩:=atB y c a1
   exact⟨_,up c u hu⟩
 ·rcases split y c h with ⟨a1,_⟩|⟨_,a1⟩
  ·exact e0.hok.fresh (Nat.le_of_lt (x.above y c (PySem.mem_of_lookup a1)))
  ·obtain⟨u,o,ho,_⟩:=atB y c a1
   exact (e0.bs _ _ ho).2
 ·show _=N.length
  rw[Za,Zd,S.eqN,Zd,hl,C.len]
theorem ZfD {CX:JT}{P:Program}{w:World}{K:PySem.W.Frag}{mg:Str->Option Value}{base:Heap}{k:Nat}{f:Addr}{name qual:Str}{params:Arguments}{body:Expr}{scope:Scope}{cl:List (Str×Addr)}{cvs:List V}{pm cdv ct:Value}{N ps caps:List Str}{sp:Sp}
  (S:WH N ps caps scope) (C:W1 base cl caps cvs) (len:∀vs H Q E,sp vs H Q E->vs.length=ps.length)
  (hat:∀vs (s:Shared) H Q E,Wr P w H s.heap->sp vs H Q E->(∃oc od osl,s.heap.get? f=some ⟨oc,od,.func (PySem.W.kla_fn name qual params body scope cl pm cdv ct),osl⟩)/\s.heap.CodeRec cdv qual)
  (hbody:∀(A:Around) (outer:List Env) (s:Shared) (H:Hp) (vs:List V) (Q:VK) (E:XK),YM k (A.deeper (Jd (envOfC qual scope s.heap.objs.size f cdv) cl))->sp vs H Q E->
   ∃t,PE (Je CX P w K mg base N caps cl qual scope f cdv A outer s H E) body t/\t ((vs++cvs).map some) H Q) :
  Z5 P w K mg base CX (k+1) f (PySem.W.kla_fn name qual params body scope cl pm cdv ct) ps sp:=by
 refine⟨len,fun A outer s H args us vs Q E hr e0 hb r hsp=>?_⟩
 have hl:=len _ _ _ _ hsp
 have lim:s.heap.NoLimit:=e0.mod.nolimit.keeps fun b o e=>(e0.bs b o e).1
 obtain⟨⟨oc,od,osl,hf⟩,hcd⟩:=hat vs s H Q E e0.hok hsp
 have hkind:∀y∈ps.zip us,scope.names.lookup y.1=some .local\/(scope.names.lookup y.1=some .cell/\((cellsFrom (s.heap.objs.size+1) scope.names []).lookup y.1).isSome=true):=fun ⟨n,v⟩ hy=>by
  rcases S.par n (List.of_mem_zip hy).1 with q|q
  ·exact .inl q
  ·exact .inr ⟨q,PySem.W.cellsFrom_some _ _ _ (.inl q)⟩
 refine PySem.W.kla_callFunE hr.depth hf rfl S.co S.gen rfl hcd (hb _ _ _ _ ?_)
 refine Zau S.kind hkind fun env he s1 x=>?_
 subst he
 refine⟨lim.keeps x.toInCall.keep,PySem.W.kla_codeExpr ?_⟩
 obtain⟨t,ht,hq⟩:=hbody A outer s H vs Q E (hr.deeper _) hsp
 have I:Inv (Je CX P w K mg base N caps cl qual scope f cdv A outer s H E) [] ((vs++cvs).map some) H s1:=Zaz S C hr.hd e0 hl r x
 refine wpAny_mono (ht [] s1 _ H _ I hq) (fun u s' hs=>?_) fun e s' hs=>hs
 obtain⟨v,H',J,rv,q⟩:=hs
 exact⟨v,H',J.os,J.bare,J.base,J.hok,rv,q⟩
def YR (f:Addr)(o:Obj):HO:=.ext fun h=>h.get? f=some o
def Yo (c:Addr)(qual:Str):HO:=.ext fun h=>h.CodeRec (.ref c) qual
theorem Vn {P:Program}{w:World}{H:Hp}{h:Heap}{f:Addr}{o:Obj}(k:Wr P w H h)(e:H f=some (YR f o)):h.get? f=some o:=(k f _ e).1
theorem ZaL {P:Program}{w:World}{H:Hp}{h:Heap}{c:Addr}{qual:Str}(k:Wr P w H h)(e:H c=some (Yo c qual)):h.CodeRec (.ref c) qual:=(k c _ e).1
section
variable {X:Cx}
def ZbQ (P:Program)(w:World)(K:PySem.W.Frag)(mg:Str->Option Value)(base:Heap)(CX:JT)(k i:Nat)(E:XK)(t:TA):TE:=fun σ H Q=>∃f oc od fd sl,σ[i]?=some (some (.ref f))/\H f=some (YR f ⟨oc,od,.func fd,sl⟩)/\
 t σ H fun vs H1=>H1 f=some (YR f ⟨oc,od,.func fd,sl⟩)/\∃ps sp,Z5 P w K mg base CX k f fd ps sp/\Binds K fd ps []/\sp vs H1 Q E
theorem Zcm {CX:JT}{k j i:Nat}{x:Str}{E:XK}{e:Expr}{es:List Expr}{t:TA}{p pos:Pos}(hr:YM j X.A)(hx:WG CX X E)(hv:PE X (.Name x p) (Xp i))(ha:PA X (e::es) t)(hk:k<=j:=by decide)
  (he:starEach (e::es) X.env=(false,eval e X.env)::starEach es X.env:=by rfl) (hpl:(backTo pos (starEach es X.env)).any (·.1)=false:=by rfl) :
  PE X (.Call (.Name x p) (e::es) [] pos) (ZbQ X.prog X.w X.K X.mg X.base CX k i E t):=by
 intro pins s σ H Q I h
 obtain⟨f,oc,od,fd,sl,h1,h2,h3⟩:=h
 refine wpAny_Call_Name_kw (Z8 (hv pins s σ H (fun v H1=>v=.ref f/\H1=H) I ⟨_,h1,rfl,rfl⟩) fun u s1 ⟨v,H1,I1,rv,e1,e2⟩=>?_)
 subst e1
 subst e2
 cases rv
 refine PySem.W.callWith_F ⟨oc,od,fd,sl,Vn I1.hok h2⟩ (Z8 (ha pos pins s1 σ H1 _ I1 h3) fun us s2 ⟨vs,H2,I2,r,g1,ps,sp,F,B,q⟩=>⟨⟨oc,od,fd,sl,Vn I2.hok g1⟩,?_⟩) he hpl
 refine Zb4 (dvs:=[]) (ds:=[]) F (hr.mono hk) B .nil hx I2 r ?_
 rw[List.append_nil]
 exact q
structure ZeD (X:Cx)(σ:St)(base':Heap):Prop where
 base:∀b o,X.base.get? b=some o->base'.get? b=some o
 cells:∀(i:Nat) x v c,X.N[i]?=some x->σ[i]?=some (some v)->Vis X.env.scope x->X.env.cells.lookup x=some c->(X.env.kindOf x=some .cell\/X.env.kindOf x=some .free)->X.fn x=true->∃u,base'.IsCell c (some u)/\RelV v u
theorem Mod.wider {K:PySem.W.Frag}{mg:Str->Option Value}{base base':Heap}(M:Mod K mg base)(k:∀b o,base.get? b=some o->base'.get? b=some o):Mod K mg base':=by
 obtain⟨mb,h1,h2⟩:=M.blt
 exact⟨M.kin.keeps k,M.glob.keeps k,⟨mb,h1.keeps k,h2⟩,M.nolimit.keeps k⟩
open Classical in
theorem ZbJ {pins:List (Addr×Obj)}{σ:St}{H:Hp}{s:Shared}(I:Inv X pins σ H s):∃base',ZeD X σ base'/\Vw X.prog X.w X.K X.mg base' X.A X.stack s H:=by
 let keepB:Addr->Prop:=fun b=>(X.base.get? b).isSome=true\/∃x,X.fn x=true/\X.env.cells.lookup x=some b
 let as:List Addr:=(List.range s.heap.objs.size).filter fun b=>decide (¬keepB b)
 have inAs:∀b,b<s.heap.objs.size->¬keepB b->b∈as:=fun b hb hk=>List.mem_filter.mpr ⟨List.mem_range.mpr hb,decide_eq_true hk⟩
 have notAs:∀b,keepB b->b∉as:=fun b hk hb=>(of_decide_eq_true (List.mem_filter.mp hb).2) hk
 have kp:∀b o,X.base.get? b=some o->(PySem.W.hideAll s.heap as).get? b=some o:=fun b o e=>PySem.W.hideAll_get _ (I.bk b o e) (notAs b (.inl (by rw[e];rfl)))
 refine⟨PySem.W.hideAll s.heap as,⟨kp,fun i x v c h1 h2 h3 h4 h5 h6=>?_⟩,⟨I.ok.frames,I.ok.mod.wider kp,fun b o e=>⟨PySem.W.of_hideAll _ e,?_⟩,Nat.le_of_eq (PySem.W.hideAll_size _ _),PySem.W.funFrames_hide I.stack fun env he a ha=>?_,I.stkFree,I.hok,I.bare⟩⟩
 ·obtain⟨m,hn,hl⟩:=I.loc
  obtain⟨u,rv,lk⟩:=hl i x v h1 h2 h3
  rcases lk with ⟨k,_⟩|⟨_,c',hc,o,ho,hd⟩
  ·rcases h5 with z|z <;> rw[k] at z <;> cases z
  ·rw[h4] at hc
   cases hc
   exact⟨u,⟨o,PySem.W.hideAll_get _ ho (notAs _ (.inr ⟨x,h6,h4⟩)),hd⟩,rv⟩
 ·by_cases hk:keepB b
  ·rcases hk with hk|⟨x,_,hx⟩
   ·obtain⟨o',ho'⟩:=Option.isSome_iff_exists.mp hk
    exact (I.bs b o' ho').2
   ·exact I.freeC x b hx
  ·have:=PySem.W.hideAll_none as (h:=s.heap) (inAs b (Zp (PySem.W.of_hideAll _ e)) hk)
   rw[this] at e
   cases e
 ·have hb:a∈Ul X.stack:=List.mem_filterMap.mpr ⟨env,he,ha⟩
  obtain⟨hn,o,ho,_⟩:=I.stack.mem hb
  refine inAs a (Zp ho) fun hk=>?_
  rcases hk with hk|⟨x,hf,hx⟩
  ·rw[hn] at hk;cases hk
  ·rcases List.mem_cons.mp (I.stkSub a hb) with e|hfs
   ·exact I.cne x a hx e
   ·obtain⟨_,o',ho',_⟩:=I.ok.funs.mem hfs
    exact absurd (Nat.lt_of_lt_of_le (Zp ho') (I.ok.cab x a hf hx)) (Nat.lt_irrefl _)
def ZeO (X:Cx)(sp:Heap->Sp)(E:XK)(t:TA):TE:=fun σ H Q=>t σ H fun vs H1=>∀base',ZeD X σ base'->sp base' vs H1 Q E
theorem VR {CX:JT}{k j:Nat}{x:Str}{ps:List Str}{sp:Heap->Sp}{E:XK}{e:Expr}{es:List Expr}{t:TA}{p pos:Pos}(G:∀base',Fn X.prog X.w X.K X.mg base' CX k x ps (sp base'))(hr:YM j X.A)(hx:WG CX X E)(ha:PA X (e::es) t)(hk:k<=j:=by decide)
  (hg:YG X.env.scope x=true:=by kernel_rfl) (hd:(x == ("__debug__":Str))=false:=by kernel_rfl)
  (he:starEach (e::es) X.env=(false,eval e X.env)::starEach es X.env:=by rfl) (hpl:(backTo pos (starEach es X.env)).any (·.1)=false:=by rfl) :
  PE X (.Call (.Name x p) (e::es) [] pos) (ZeO X sp E t):=by
 intro pins s σ H Q I h
 obtain⟨f,fd,_,hm,kp,_⟩:=G X.base
 refine wpAny_Call_Name_kw (WL I (Y5 hg) hm ?_ hd)
 refine PySem.W.callWith_K (h₀:=X.base) I.ok.mod.kin kp (Z8 (ha pos pins s σ H _ I h) fun us s1 ⟨vs,H1,I1,r,q⟩=>⟨I1.kIn,?_⟩) he hpl
 obtain⟨base',W,e0⟩:=ZbJ I1
 obtain⟨f',fd',F',hm',kp',b'⟩:=G base'
 rw[hm] at hm'
 cases hm'
 have q':=q base' W
 have hl:us.length=ps.length:=by rw[<-r.length];exact F'.len _ _ _ _ q'
 refine wpAny_call (codeAny_mono (F'.run X.A X.stack s1 H1 ⟨us,[]⟩ us vs Q E (hr.mono hk) e0 (by have:=b' s1 us I1.kIn (by rw[List.append_nil];exact hl);rw[List.append_nil] at this;exact this) r q') fun r s' hq=>?_)
 cases r with
 |error e=>exact hx pins σ H1 s1 e s' I1 hq
 |ok fl=>
  cases fl with
  |ret u=>exact I1.after hq
  |next=>exact False.elim hq
  |brk=>exact False.elim hq
  |cont=>exact False.elim hq
end
def Jl (H:Hp)(P:Addr)(pos:Pos)(qual:Str):Prop:=∃ps,H P=some (.tbl ps)/\TriplesOk ps.toList/\(codeAmong pos ps.toList=none\/∃c,codeAmong pos ps.toList=some (.ref c)/\H c=some (Yo c qual))
def Bt (P:Addr)(H H':Hp):Prop:=∀b o,H b=some o->b≠P->H' b=some o
theorem Bt.of {P:Addr}{H H':Hp}(s:Zw H H'):Bt P H H':=fun b o e _=>s b o e
theorem Bt.trans {P:Addr}{H H1 H2:Hp}(a:Bt P H H1)(b:Bt P H1 H2):Bt P H H2:=fun c o e n=>b c o (a c o e n) n
theorem Jl.mono {H H':Hp}{P:Addr}{pos:Pos}{qual:Str}(s:Zw H H')(t:Jl H P pos qual):Jl H' P pos qual:=by
 obtain⟨ps,h1,h2,h3⟩:=t
 refine⟨ps,s _ _ h1,h2,?_⟩
 rcases h3 with h|⟨c,h,h'⟩
 ·exact .inl h
 ·exact .inr ⟨c,h,s _ _ h'⟩
def WT (h:Heap)(mg:Str->Option Value):Prop:=∃bm o,mg "__builtins__"=some (.ref bm)/\bm≠builtinsNs/\h.get? bm=some o/\o.cls=.type "module"/\o.dict=some builtinsNs/\o.data=.plain
theorem WT.at {h:Heap}{mg:Str->Option Value}{P:Addr}{ps:Array Value}(B:WT h mg)(G:h.Ns mainGlobals mg)(hP:h.get? P=some (PySem.W.tabObj ps)):h.BuiltinsAt mg P/\mainGlobals≠P:=by
 obtain⟨bm,o,b1,b2,b3,b4,b5,b6⟩:=B
 obtain⟨g,es,ep,g1,g2,_⟩:=G
 refine⟨⟨bm,o,b1,b2,fun z=>?_,fun z=>?_,b3,b4,b5,b6⟩,fun z=>?_⟩
 ·rw[z,g1] at b3;cases b3;rw[g2] at b6;cases b6
 ·rw[z,hP] at b3;cases b3;cases b6
 ·rw[z,hP] at g1;cases g1;cases g2
theorem WD {env:Env}:∀(names:List (Str×NameKind)) (acc:List (Str×Addr)),(∀y∈names,y.2=.free->∃c,env.cells.lookup y.1=some c)->(∀y c,acc.lookup y=some c->env.cells.lookup y=some c)->
  ∃cl,(forIn names acc (fun x r=>if (x.2 == NameKind.free)=true then (do let c <-cellOf env x.1;pure (ForInStep.yield ((x.1,c)::r))) else pure (ForInStep.yield r)):Sem (List (Str×Addr)))=pure cl/\
   (∀y c,cl.lookup y=some c->env.cells.lookup y=some c)/\(∀y,(∃c,acc.lookup y=some c)->∃c,cl.lookup y=some c)/\(∀y∈names,y.2=.free->∃c,cl.lookup y.1=some c)/\∀y c,cl.lookup y=some c->(∃d,acc.lookup y=some d)\/(y,NameKind.free)∈names
 | [],acc,_,ha=>⟨acc,rfl,ha,fun _ h=>h,fun _ h=>absurd h (by simp),fun y c h=>.inl ⟨c,h⟩⟩
 | (n,k)::r,acc,hn,ha=>by
  rw[List.forIn_cons]
  by_cases hk:k=.free
  ·subst hk
   obtain⟨c,hc⟩:=hn (n,.free) List.mem_cons_self rfl
   have ha':∀y d,((n,c)::acc).lookup y=some d->env.cells.lookup y=some d:=fun y d e=>by
    rw[List.lookup_cons] at e
    cases q:y == n with
    |true=>rw[q] at e;cases e;rw[beq_iff_eq.mp q];exact hc
    |false=>rw[q] at e;exact ha y d e
   obtain⟨cl,e,h1,h2,h3,h4⟩:=WD r ((n,c)::acc) (fun y hy=>hn y (List.mem_cons_of_mem _ hy)) ha'
   have hh:∀y,(∃d,acc.lookup y=some d)->∃d,((n,c)::acc).lookup y=some d:=fun y ⟨d,hd⟩=>by
    rw[List.lookup_cons]
    cases q:y == n with
    |true=>exact⟨c,rfl⟩
    |false=>exact⟨d,hd⟩
   have hs:∃d,((n,c)::acc).lookup n=some d:=⟨c,by rw[List.lookup_cons,beq_self_eq_true]⟩
   refine⟨cl,?_,h1,fun y hy=>h2 y (hh y hy),fun y hy hf=>?_,fun y d hd=>?_⟩
   ·have hcell:cellOf env n=pure c:=by simp only[cellOf,hc]
    simp only[beq_self_eq_true,if_true,hcell]
    simp only[pure_bind]
    exact e
   ·rcases List.mem_cons.mp hy with rfl|hy
    ·exact h2 _ hs
    ·exact h3 y hy hf
   ·rcases h4 y d hd with ⟨d',h⟩|h
    ·rw[List.lookup_cons] at h
     cases q:y == n with
     |true=>rw[beq_iff_eq.mp q];exact .inr List.mem_cons_self
     |false=>rw[q] at h;exact .inl ⟨d',h⟩
    ·exact .inr (List.mem_cons_of_mem _ h)
  ·obtain⟨cl,e,h1,h2,h3,h4⟩:=WD r acc (fun y hy=>hn y (List.mem_cons_of_mem _ hy)) ha
   refine⟨cl,?_,h1,h2,fun y hy hf=>?_,fun y d hd=>?_⟩
   ·have hb:(k == NameKind.free)=false:=by simpa using hk
    simp only[hb,Bool.false_eq_true,if_false,pure_bind]
    exact e
   ·rcases List.mem_cons.mp hy with rfl|hy
    ·exact absurd hf hk
    ·exact h3 y hy hf
   ·rcases h4 y d hd with h|h
    ·exact .inl h
    ·exact .inr (List.mem_cons_of_mem _ h)
structure ZfX (X:Cx)(scope:Scope)(cl:List (Str×Addr)):Prop where
 cells:∀y c,cl.lookup y=some c->X.env.cells.lookup y=some c
 all:∀y∈scope.names,y.2=.free->∃c,cl.lookup y.1=some c
 only:∀y c,cl.lookup y=some c->(y,NameKind.free)∈scope.names
theorem ZaM {X:Cx}{scope:Scope}(h:∀y∈scope.names,y.2=.free->∃c,X.env.cells.lookup y.1=some c):∃cl,closureFor scope X.env=pure cl/\ZfX X scope cl:=by
 obtain⟨cl,e,h1,_,h3,h4⟩:=WD (env:=X.env) scope.names [] h (fun y c e=>by simp at e)
 refine⟨cl,?_,h1,h3,fun y c hc=>?_⟩
 ·have q:closureFor scope X.env=((forIn scope.names ([]:List (Str×Addr)) (fun x r=>if (x.2 == NameKind.free)=true then (do let c <-cellOf X.env x.1;pure (ForInStep.yield ((x.1,c)::r))) else pure (ForInStep.yield r)):Sem (List (Str×Addr))) >>= fun cs=>pure cs):=rfl
  rw[q,e]
  rfl
 ·rcases h4 y c hc with ⟨d,h⟩|h
  ·cases h
  ·exact h
def V2 (qual:Str)(params:Arguments)(body:Expr)(scope:Scope)(cl:List (Str×Addr))(pm:Value)(c:Addr)(ct:Value):Obj:=⟨.type "function",none,.func (PySem.W.kla_fn "<lambda>" qual params body scope cl pm (.ref c) ct),#[]⟩
section
variable {X:Cx}
def Zhx (X:Cx)(P:Addr)(pos:Pos)(qual:Str)(params:Arguments)(body:Expr)(scope:Scope):TE:=fun σ H Q=>Jl H P pos qual/\
 ∀f c ct cl pm H',ZfX X scope cl->H f=none->Bt P H H'->Jl H' P pos qual->H' f=some (YR f (V2 qual params body scope cl pm c ct))->H' c=some (Yo c qual)->Q (.ref f) H'
theorem JX {P:Program}{w:World}{H:Hp}{h:Heap}{f:Addr}{o:Obj}(e:h.get? f=some o):ZT P w H h f (YR f o):=⟨e,⟨o,e⟩,fun _ _ h1 k=>k _ h1⟩
theorem VT {P:Program}{w:World}{H:Hp}{h:Heap}{c:Addr}{qual:Str}(e:h.CodeRec (.ref c) qual):ZT P w H h c (Yo c qual):=by
 refine⟨e,?_,fun h1 h2 r k=>?_⟩
 ·obtain⟨c',oc,vs,tq,hc,hoc,_⟩:=e
  cases hc
  exact⟨oc,hoc⟩
 ·obtain⟨c',oc,vs,tq,hc,hoc,r⟩:=r
  cases hc
  exact⟨c,oc,vs,tq,rfl,k _ hoc,r⟩
theorem Zfd {c P:Addr}{params:Arguments}{body:Expr}{scope:Scope}{pos:Pos}(hcode:X.env.code=.ref c)(hc:PySem.W.codeHdIn X.K c P=true)(B:WT X.base X.mg)(hdef:defaultsOf params X.env=([],[]))
  (hfr:∀y∈scope.names,y.2=.free->X.env.kindOf y.1=some .cell\/X.env.kindOf y.1=some .free) :
  PE X (.Lambda params body scope pos) (Zhx X P pos (X.env.qual ++ "<lambda>") params body scope):=by
 intro pins s σ H Q I h
 obtain⟨⟨ps,h1,h2,h3⟩,q⟩:=h
 obtain⟨cl,hcl,C⟩:=ZaM (X:=X) (scope:=scope) fun y hy hf=>I.ok.has y.1 (hfr y hy hf)
 have C0:=PySem.W.codeHd_of_K I.kIn hc
 have hP:s.heap.get? P=some (PySem.W.tabObj ps):=I.hok P _ h1
 have hg:s.heap.Ns mainGlobals X.mg:=I.mod.glob.keeps I.bk
 have B1:WT s.heap X.mg:=by
  obtain⟨bm,o,b1,b2,b3,b4⟩:=B
  exact⟨bm,o,b1,b2,I.bk _ _ b3,b4⟩
 obtain⟨hb,hne⟩:=B1.at hg hP
 refine PySem.W.kla_eval hdef ?_
 rcases h3 with h3|⟨c',h3,hc'⟩
 ·refine PySem.W.kla_makeFunction hcl I.ok.glob hg hcode C0 hP h2 h3 hne hb fun c' ctv h' tk hx hge hlt hrec htb=>?_
  have hPl:P<s.heap.objs.size:=Zp hP
  have cn:H c'=none:=I.hok.fresh hge
  have hsz:s.heap.objs.size<=h'.objs.size:=Nat.le_of_lt (Nat.lt_of_le_of_lt hge hlt)
  have fn:H h'.objs.size=none:=I.hok.fresh hsz
  have cP:c'≠P:=fun z=>by rw[z,h1] at cn;cases cn
  have fP:h'.objs.size≠P:=fun z=>by rw[z,h1] at fn;cases fn
  have fc:h'.objs.size≠c':=Nat.ne_of_gt hlt
  generalize hO:V2 (X.env.qual ++ "<lambda>") params body scope cl ((X.mg "__name__").getD .none) c' ctv=O
  generalize hps:ps ++ #[rawInt pos.line,rawInt pos.col,Value.ref c']=ps' at htb
  have lps:ps'.toList=ps.toList++[rawInt pos.line,rawInt pos.col,Value.ref c']:=by rw[<-hps];simp
  have kp:∀b o,b≠P->s.heap.get? b=some o->(h'.push O).get? b=some o:=fun b o hb e=>Zn _ (hx b o hb e)
  have hfO:(h'.push O).get? h'.objs.size=some O:=Zo _ (by rw[<-hO];rfl)
  have hPt:(h'.push O).get? P=some (PySem.W.tabObj ps'):=Zn _ htb
  have hcr:(h'.push O).CodeRec (.ref c') (X.env.qual ++ "<lambda>"):=by
   obtain⟨c2,oc,vs,tq,e1,e2,r⟩:=hrec
   exact⟨c2,oc,vs,tq,e1,Zn _ e2,r⟩
  have at1:∀b,b≠P->b≠c'->b≠h'.objs.size->upd (upd (upd H P (.tbl ps')) c' (Yo c' (X.env.qual ++ "<lambda>"))) h'.objs.size (YR h'.objs.size O) b=H b:=fun b b1 b2 b3=>by rw[Zy b3,Zy b2,Zy b1]
  have atP:upd (upd (upd H P (.tbl ps')) c' (Yo c' (X.env.qual ++ "<lambda>"))) h'.objs.size (YR h'.objs.size O) P=some (.tbl ps'):=by rw[Zy fP.symm,Zy cP.symm,Zt]
  have atC:upd (upd (upd H P (.tbl ps')) c' (Yo c' (X.env.qual ++ "<lambda>"))) h'.objs.size (YR h'.objs.size O) c'=some (Yo c' (X.env.qual ++ "<lambda>")):=by rw[Zy fc.symm,Zt]
  have atF:upd (upd (upd H P (.tbl ps')) c' (Yo c' (X.env.qual ++ "<lambda>"))) h'.objs.size (YR h'.objs.size O) h'.objs.size=some (YR h'.objs.size O):=Zt
  generalize upd (upd (upd H P (.tbl ps')) c' (Yo c' (X.env.qual ++ "<lambda>"))) h'.objs.size (YR h'.objs.size O)=H' at at1 atP atC atF
  have old:∀b u,H b=some u->b≠P->H' b=some u:=fun b u e hb=>by
   rw[at1 b hb (fun z=>by rw[z,cn] at e;cases e) (fun z=>by rw[z,fn] at e;cases e)]
   exact e
  have ltN:∀b o,s.heap.get? b=some o->b≠c'/\b≠h'.objs.size:=fun b o e=>⟨Nat.ne_of_lt (Nat.lt_of_lt_of_le (Zp e) hge),Nat.ne_of_lt (Nat.lt_of_lt_of_le (Zp e) hsz)⟩
  have nP:∀b,H b=none->b≠P:=fun b n z=>by rw[z,h1] at n;cases n
  have un:Un X.fs [] H H' s.heap (h'.push O):={
   keep:=fun b o e n _ _=>kp b o (nP b n) e
   slot:=fun b o e n _ _=>⟨o.slots,kp b o (nP b n) e⟩
   free:=fun b o e n _=>by rw[at1 b (nP b n) (ltN b o e).1 (ltN b o e).2];exact n
   there:=fun b o e _=>by
    by_cases hb:b=P
    ·rw[hb];exact⟨_,hPt⟩
    ·exact⟨o,kp b o hb e⟩
   tups:=fun b xs e=>old b _ e (fun z=>by rw[z,h1] at e;cases e)
   frzs:=fun b o u e=>old b _ e (fun z=>by rw[z,h1] at e;cases e)
   tbls:=fun b qs e=>by
    by_cases hb:b=P
    ·rw[hb,h1] at e
     cases e
     exact⟨#[rawInt pos.line,rawInt pos.col,Value.ref c'],by rw[hb,atP,hps]⟩
    ·exact⟨#[],by rw[old b _ e hb];simp⟩}
  have hok:Wr X.prog X.w H' (h'.push O):=fun b u e=>by
   by_cases b1:b=P
   ·subst b1
    rw[atP] at e
    cases e
    exact hPt
   by_cases b2:b=c'
   ·subst b2
    rw[atC] at e
    cases e
    exact VT hcr
   by_cases b3:b=h'.objs.size
   ·subst b3
    rw[atF] at e
    cases e
    exact JX hfO
   rw[at1 b b1 b2 b3] at e
   refine (I.hok b u e).stay (fun c' v hc r=>kp c' v ?_ r) (fun c' r=>old c' _ r fun z=>by rw[z,h1] at r;cases r) fun c' xs r=>old c' _ r fun z=>by rw[z,h1] at r;cases r
   rcases hc with z|z
   ·rw[z];exact b1
   ·intro y;rw[y,h1] at z;cases z
  have I2:Inv X pins σ H' {s with heap:=h'.push O,toks:=tk}:=I.un un hok
  refine⟨.ref h'.objs.size,H',?_,rfl,?_⟩
  ·rw[<-hO] at I2
   exact I2
  ·refine q _ c' ctv cl _ H' C fn (fun b o e n=>old b o e n) ⟨ps',atP,?_,.inr ⟨c',?_,atC⟩⟩ (by rw[atF,<-hO]) atC
   ·rw[lps];exact TriplesOk_snoc _ _ _ _ h2
   ·rw[lps];exact codeAmong_snoc _ h2 h3
 ·refine PySem.W.kla_makeFunctionHit hcl I.ok.glob hg hcode C0 hP h2 h3 hb fun ctv h' tk hk hsz=>?_
  have hn:H h'.objs.size=none:=I.hok.fresh hsz
  have kp:∀b o,s.heap.get? b=some o->(h'.push (V2 (X.env.qual ++ "<lambda>") params body scope cl ((X.mg "__name__").getD .none) c' ctv)).get? b=some o:=fun b o e=>Zn _ (hk b o e)
  have hf:(h'.push (V2 (X.env.qual ++ "<lambda>") params body scope cl ((X.mg "__name__").getD .none) c' ctv)).get? h'.objs.size=some (V2 (X.env.qual ++ "<lambda>") params body scope cl ((X.mg "__name__").getD .none) c' ctv):=Zo _ rfl
  refine⟨.ref h'.objs.size,upd H h'.objs.size (YR h'.objs.size (V2 (X.env.qual ++ "<lambda>") params body scope cl ((X.mg "__name__").getD .none) c' ctv)),?_,rfl,?_⟩
  ·exact I.un (Un.laid kp hsz hn) (I.hok.laid kp hsz (JX hf))
  ·have sm:=Zw.upd (H:=H) (o:=YR h'.objs.size (V2 (X.env.qual ++ "<lambda>") params body scope cl ((X.mg "__name__").getD .none) c' ctv)) hn
   exact q _ c' ctv cl _ _ C hn (.of sm) (Jl.mono sm ⟨ps,h1,h2,.inr ⟨c',h3,hc'⟩⟩) Zt (sm _ _ hc')
end
structure Zdi (ts:List Addr)(H:Hp):Prop where
 only:∀b,H b=none\/(∃o xs,H b=some (.frz o (.lst xs)))\/(b∈ts/\H b=some (.tbl #[]))
 tabs:∀b∈ts,H b=some (.tbl #[])
structure TabAt (K:PySem.W.Frag)(h:Heap)(P:Addr):Prop where
 isT:isCodeTable h P
 at_:h.get? P=some (PySem.W.tabObj #[])
 noK:K.lookup P=none
theorem Zbh {P:Program}{w:World}{K:PySem.W.Frag}{mg mb:Str->Option Value}{CX:JT}{k:Nat}{fa a:Addr}{fd:FuncData}{x:Str}{sp:Sp}{s₁:Shared}{vs:List Value}{ns:List Int}{ts:List Addr}(hts:∀b∈ts,TabAt K s₁.heap b)
  (KX:K.In s₁.heap) (hns:s₁.heap.Ns mainGlobals mg) (hb:s₁.heap.Ns builtinsNs mb) (hbb:∀x:Str,x ≠ "__name__"->mb x=bootBuiltins x) (hlim:s₁.heap.NoLimit) (hg:s₁.gens=#[])
  (ha:s₁.heap.get? a=some {cls:=.type "list",data:=.seq vs.toArray}) (hi:IntsAre vs ns) (hl:ns.length<=sizeLine) (hr:YM k callerA)
  (F:∀base:Heap,K.In base->base.Ns mainGlobals mg->WT base mg->Z5 P w K mg base CX k fa fd [x] sp) (hbm:WT s₁.heap mg) (hbind:∀(s:Shared) (u:Value),BindsTo s fd ⟨[u],[]⟩ [(x,u)])
  (hsp:∀H:Hp,Zdi ts H->Wq K H a (ns.map V.int)->sp [.ref a] H (fun v _=>v=.bl true) fun _ _ _=>False)
  (hCX:∀H e s',CX [] H s₁ (fun _ _ _=>False) e s'->False) :
  codeAny (model P w) callerA (.call (.ref fa) ⟨[.ref a],[]⟩) (fun r s'=>r=.ok (.ret (.bool true))/\OldK s₁.heap s'.heap/\s'.os=s₁.os/\AllBare s'.gens) s₁:=by
 have rv:=XC hi
 have lenV:=hi.length
 have ant:a∉ts:=fun z=>by
  have:=(hts a z).at_
  rw[ha] at this
  cases this
 have core:∀H:Hp,Zdi ts H->Wq K H a (ns.map V.int)->Wr P w H s₁.heap->(∀b,H b≠none->b=a\/b∈ts)->(H a≠none->K.lookup a=none)->
   codeAny (model P w) callerA (.call (.ref fa) ⟨[.ref a],[]⟩) (fun r s'=>r=.ok (.ret (.bool true))/\OldK s₁.heap s'.heap/\s'.os=s₁.os/\AllBare s'.gens) s₁:=by
  intro H hO hS hok hA hK
  have base_of:∀{b:Addr}{o:Obj},s₁.heap.get? b=some o->H b=none->(Xt s₁.heap H).get? b=some o:=fun e n=>ZcK e n
  have noA:∀{b:Addr}{o:Obj}{es:Array DictEntry}{ep:Nat},s₁.heap.get? b=some o->o.data=.dict es ep->H b=none:=fun {b o es ep} e d=>by
   cases q:H b with
   |none=>rfl
   |some u=>
    rcases hA b (by rw[q];simp) with e'|e'
    ·subst e'
     rw[ha] at e;cases e
     have d':Data.seq vs.toArray _=Data.dict es ep:=d
     cases d'
    ·rw[(hts b e').at_] at e;cases e
     cases d
  have nsK:∀{b:Addr}{m:Str->Option Value},s₁.heap.Ns b m->(Xt s₁.heap H).Ns b m:=fun {b m} ⟨o,es,ep,e,d,r⟩=>⟨o,es,ep,base_of e (noA e d),d,r⟩
  have hKb:K.In (Xt s₁.heap H):=fun b o e=>base_of (KX b o e) (by
   cases q:H b with
   |none=>rfl
   |some u=>
    rcases hA b (by rw[q];simp) with e'|e'
    ·subst e'
     rw[hK (by rw[q];simp)] at e;cases e
    ·rw[(hts b e').noK] at e;cases e)
  have hM:Mod K mg (Xt s₁.heap H):=⟨hKb,nsK hns,⟨mb,nsK hb,hbb⟩,let ⟨mc,h1,h2⟩:=hlim;⟨mc,nsK h1,h2⟩⟩
  have e0:Vw P w K mg (Xt s₁.heap H) callerA [] s₁ H:=⟨rfl,hM,fun b o e=>ZdT e,Nat.le_of_eq (Zbl _ _),trivial,fun b hb=>absurd (show b∈([]:List Addr) from hb) (by simp),hok,.of_eq hg⟩
  have bmK:WT (Xt s₁.heap H) mg:=by
   obtain⟨bm,o,b1,b2,b3,b4,b5,b6⟩:=hbm
   refine⟨bm,o,b1,b2,base_of b3 ?_,b4,b5,b6⟩
   cases q:H bm with
   |none=>rfl
   |some u=>
    rcases hA bm (by rw[q];simp) with e'|e'
    ·subst e'
     rw[ha] at b3;cases b3
     cases b6
    ·rw[(hts bm e').at_] at b3;cases b3
     cases b6
  refine codeAny_mono ((F _ hKb (nsK hns) bmK).run callerA [] s₁ H ⟨[.ref a],[]⟩ [.ref a] [.ref a] _ _ hr e0 (hbind s₁ (.ref a)) (.cons rfl .nil) (hsp H hO hS)) fun r s' h=>?_
  cases r with
  |error e=>exact (hCX H e s' h).elim
  |ok fl=>
   cases fl with
   |next=>exact False.elim h
   |brk=>exact False.elim h
   |cont=>exact False.elim h
   |ret u=>
    obtain⟨v,H',os,bare,un,hok',r',q⟩:=h
    have q':v=.bl true:=q
    subst q'
    obtain rfl:u=Value.bool true:=r'
    have key:∀b o,s₁.heap.get? b=some o->s'.heap.get? b=some o\/(isCodeTable s₁.heap b/\o=PySem.W.tabObj #[]/\∃ps,s'.heap.get? b=some (PySem.W.tabObj ps)):=fun b o e=>by
     cases q:H b with
     |none=>exact .inl (un.keep b o e q (by intro z;exact absurd (show b∈([]:List Addr) from z) (by simp)) (by simp))
     |some u=>
      rcases hO.only b with z|⟨ob,xs,z⟩|⟨hm,z⟩
      ·rw[q] at z;cases z
      ·have z2:=un.frzs b ob _ z
       obtain⟨e1,_⟩:=hok b _ z
       obtain⟨e2,_⟩:=hok' b _ z2
       rw[e] at e1;cases e1
       exact .inl e2
      ·obtain⟨more,z2⟩:=un.tbls b _ z
       have e1:=(hts b hm).at_
       rw[e] at e1;cases e1
       exact .inr ⟨(hts b hm).isT,rfl,_,hok' b _ z2⟩
    refine⟨rfl,⟨fun b o e=>?_,fun b o e=>?_⟩,os,bare⟩
    ·rcases key b o e with h|⟨t1,rfl,ps,hp⟩
     ·exact .inl h
     ·exact .inr (.inl ⟨t1,rfl,#[],ps,rfl,by rw[Array.empty_append];exact hp⟩)
    ·rcases key b o e with h|⟨t1,rfl,ps,hp⟩
     ·exact⟨o,h⟩
     ·exact⟨_,hp⟩
 have okT:∀{H:Hp}{b:Addr},b∈ts->ZT P w H s₁.heap b (.tbl #[]):=fun {H b} hm=>(hts b hm).at_
 cases hk:K.lookup a with
 |some o=>
  have e:=KX a o hk
  rw[ha] at e
  cases e
  refine core (fun b=>if b∈ts then some (.tbl #[]) else none) ⟨fun b=>?_,fun b hm=>if_pos hm⟩ (.inr ⟨_,vs.toArray,_,hk,rfl,rfl,rfl,by rw[Zh,lenV];exact hl,by simpa using rv⟩) (fun b u z=>?_) (fun b z=>?_) fun z=>absurd (if_neg ant) z
  ·by_cases hm:b∈ts
   ·exact .inr (.inr ⟨hm,if_pos hm⟩)
   ·exact .inl (if_neg hm)
  ·by_cases hm:b∈ts
   ·have z':=(if_pos hm).symm.trans z
    cases z'
    exact okT hm
   ·have z':=(if_neg hm).symm.trans z
    cases z'
  ·by_cases hm:b∈ts
   ·exact .inr hm
   ·exact absurd (if_neg hm) z
 |none=>
  refine core (fun b=>if b=a then some (.frz {cls:=.type "list",data:=.seq vs.toArray} (.lst (ns.map V.int))) else if b∈ts then some (.tbl #[]) else none) ⟨fun b=>?_,fun b hm=>?_⟩ (.inl (.inr ⟨{cls:=.type "list",data:=.seq vs.toArray},if_pos rfl⟩)) (fun b u z=>?_) (fun b z=>?_) fun _=>hk
  ·by_cases hb:b=a
   ·exact .inr (.inl ⟨_,_,if_pos hb⟩)
   ·by_cases hm:b∈ts
    ·exact .inr (.inr ⟨hm,by rw[if_neg hb,if_pos hm]⟩)
    ·exact .inl (by rw[if_neg hb,if_neg hm])
  ·show (if b=a then _ else if b∈ts then _ else _)=_
   rw[if_neg (fun z:b=a=>ant (z▸hm)),if_pos hm]
  ·by_cases hb:b=a
   ·have z':=(if_pos hb).symm.trans z
    cases z'
    subst hb
    exact⟨ha,by rw[Za];exact hl,vs,_,rv,ha⟩
   ·by_cases hm:b∈ts
    ·have z:(if b=a then _ else if b∈ts then some (HO.tbl #[]) else none)=some u:=z
     rw[if_neg hb,if_pos hm] at z
     cases z
     exact okT hm
    ·have z:(if b=a then _ else if b∈ts then some (HO.tbl #[]) else none)=some u:=z
     rw[if_neg hb,if_neg hm] at z
     cases z
  ·by_cases hb:b=a
   ·exact .inl hb
   ·by_cases hm:b∈ts
    ·exact .inr hm
    ·exact absurd (show (if b=a then _ else if b∈ts then _ else none)=none by rw[if_neg hb,if_neg hm]) z
def VB (K:PySem.W.Frag)(x:Str)(c P:Addr):Bool:=(PySem.W.tabIn K x == some (c,P)) && (K.lookup P).isNone
theorem ZbK {l:PySem.W.OpenLaw}{n k:Nat}{q:Program}{loose:List Str}{XP:(Str->Option Value)->Heap->Prop}{YP:World->Heap->Prop}{d:DefRec}{K:Params->PySem.W.Frag}{CX:World->JT}{sp:World->Sp}{x:Str}{xs:List (Str×Addr×Addr)}
  (hxs:∀w:World,∀y∈xs,VB (K w.params) y.1 y.2.1 y.2.2=true) (hq:∀y∈xs,((recsOf q).find? fun e=>e.name == y.1).isSome=true)
  (hn:l.most=some n) (hn2:n<=sizeLine) (hdf:d.params.defaults=[]) (hr:YM k callerA)
  (hY:∀(w:World) (h:Heap),YP w h->(K w.params).In h)
  (F:∀(w:World) (mg:Str->Option Value) (fa:Addr) (h:Heap),(K w.params).In h->h.Ns mainGlobals mg->mg d.name=some (.ref fa)->
   ∃fd:FuncData,(∀(s:Shared) (u:Value),BindsTo s fd ⟨[u],[]⟩ [(x,u)])/\
    ∀base:Heap,(K w.params).In base->base.Ns mainGlobals mg->WT base mg->Z5 l.prog w (K w.params) mg base (CX w) k fa fd [x] (sp w))
  (hsp:∀(w:World) (H:Hp) (a:Addr) (ns:List Int),ns.length<=n->Zdi (xs.map (·.2.2)) H->Wq (K w.params) H a (ns.map V.int)->sp w [.ref a] H (fun v _=>v=.bl true) fun _ _ _=>False)
  (hCX:∀(w:World) (H:Hp) (s:Shared) (e:Value) (s':Shared),CX w [] H s (fun _ _ _=>False) e s'->False) :
  PySem.W.WalkO q loose XP YP l.row.toRowW d [] (fun f vs=>PySem.call f vs):=by
 refine Att.Uf hn hdf fun w s₀ s₁ mg mb fa o pm cd doc a vs ns G Y ho hd hcd hmg hobj hints hlen hg=>?_
 have KX:=hY w _ Y
 obtain⟨fd,hb,hF⟩:=F w mg fa _ KX G.T.g hmg
 refine Zbh (ts:=xs.map (·.2.2)) (fun b hm=>?_) KX G.T.g G.T.b G.T.builtins G.T.nolimit hg hobj hints (Nat.le_trans hlen hn2) hr hF G.T.bmain hb (fun H hO hS=>hsp w H a ns hlen hO hS) fun H e s'=>hCX w H s₁ e s'
 obtain⟨y,hy,rfl⟩:=List.mem_map.mp hm
 have h1:=hxs w y hy
 unfold VB at h1
 rw[Bool.and_eq_true] at h1
 obtain⟨dd,hdd⟩:=Option.isSome_iff_exists.mp (hq y hy)
 obtain⟨C,hP⟩:=PySem.W.tab_of G.T KX hdd (by simpa using h1.1)
 exact⟨(C.tab hP).isCodeTable,hP,Option.isNone_iff_eq_none.mp h1.2⟩
theorem ZD.lawT {P:Program}{w:World}{K:PySem.W.Frag}{mg:Str->Option Value}{h:Heap}{CX:JT}{k:Nat}{x:Str}{p:Str}{sp:Sp}{st:Stmt}{fa:Addr}(D:ZD K x st)(X:K.In h)(G:h.Ns mainGlobals mg)(hfa:mg x=some (.ref fa))
  (hok:∀(base:Heap) f fd,base.Ns mainGlobals mg->K.In base->WT base mg->Wt K x x st f fd->Z5 P w K mg base CX k f fd [p] sp)
  (hb:∀(kV doc pm:Value) (an:Option Addr) (cdv ct:Value) (s:Shared) (u:Value),BindsTo s (PySem.W.fnOf x x (Yq st) (ZO st) (ZC st) .none kV doc pm an cdv ct) ⟨[u],[]⟩ [(p,u)]) :
  ∃fd:FuncData,(∀(s:Shared) (u:Value),BindsTo s fd ⟨[u],[]⟩ [(p,u)])/\∀base:Heap,K.In base->base.Ns mainGlobals mg->WT base mg->Z5 P w K mg base CX k fa fd [p] sp:=by
 obtain⟨f,oc,od,an,osl,kV,doc,pm,cdv,ct,a,l,c,kp⟩:=D
 have e:=hfa.symm.trans (PySem.W.mg_of X G a)
 cases e
 exact⟨_,fun s u=>hb kV doc pm an cdv ct s u,fun base kb nb bb=>hok base _ _ nb kb bb (Vm l c kp)⟩
theorem ZD.fnC {P:Program}{w:World}{K:PySem.W.Frag}{mg:Str->Option Value}{base h:Heap}{CX:JT}{k:Nat}{x:Str}{ps:List Str}{sp:Sp}{st:Stmt}{c Pt:Addr}(D:ZD K x st)(hT:VB K x c Pt=true)(X:K.In h)(G:h.Ns mainGlobals mg)
  (hok:∀f fd,Wt K x x st f fd->fd.code=.ref c->Z5 P w K mg base CX k f fd ps sp)
  (hb:∀(kV doc pm:Value) (an:Option Addr) (cdv ct:Value) (us:List Value),us.length=ps.length->bindArgs (PySem.W.fnOf x x (Yq st) (ZO st) (ZC st) .none kV doc pm an cdv ct) ⟨us,[]⟩=pure (ps.zip us)) :
  Fn P w K mg base CX k x ps sp:=by
 obtain⟨f,oc,od,an,osl,kV,doc,pm,cdv,ct,a,l,cc,kp⟩:=D
 have hc:cdv=.ref c:=by
  unfold VB at hT
  rw[Bool.and_eq_true] at hT
  have h1:=hT.1
  unfold PySem.W.tabIn at h1
  rw[a] at h1
  simp only[l] at h1
  have h1:=beq_iff_eq.mp h1
  split at h1
  ·split at h1
   ·split at h1
    ·cases h1;rfl
    ·cases h1
   ·cases h1
  ·cases h1
 exact Fn.mk X G a l cc kp (fun fd F=>hok f fd F (by
  obtain⟨oc',od',kV',doc',pm',an',cdv',ct',osl',e,l',_⟩:=F.ex
  rw[l] at l'
  injection l' with l'
  injection l' with _ _ l' _
  injection l' with l'
  rw[<-l']
  exact hc)) hb
theorem ZcC {sc esc:Scope}(h:(sc.names.all fun y=>y.2 != .free || (match esc.names.lookup y.1 with|some .cell=>true|some .free=>true|_=>false))=true):∀y∈sc.names,y.2=.free->esc.names.lookup y.1=some .cell\/esc.names.lookup y.1=some .free:=by
 intro y hy hf
 have h1:=List.all_eq_true.mp h y hy
 rw[hf] at h1
 have h1:(match esc.names.lookup y.1 with|some .cell=>true|some .free=>true|_=>false)=true:=h1
 split at h1
 ·rename_i q;exact .inl q
 ·rename_i q;exact .inr q
 ·cases h1
theorem Jl.ne {H:Hp}{P:Addr}{pos:Pos}{qual:Str}(t:Jl H P pos qual){b:Addr}{o:HO}(h:H b=Option.some o)(ho:∀ps,o≠.tbl ps):b≠P:=fun z=>by
 obtain⟨ps,h1,_⟩:=t
 rw[z,h1] at h
 cases h
 exact ho ps rfl
theorem cv {X:Cx}(P:Program)(w:World)(K:PySem.W.Frag)(mg:Str->Option Value)(base:Heap){j:Nat}{x:Str}{e:Expr}{es:List Expr}{t:TA}{p pos:Pos}(i:Nat)(hv:PE X (.Name x p) (Xp i))(ha:PA X (e::es) t)(hr:YM j X.A)
  (e1:X.prog=P:=by rfl) (e2:X.w=w:=by rfl) (e3:X.K=K:=by rfl) (e4:X.mg=mg:=by rfl) (e5:X.base=base:=by rfl) (hk:1<=j:=by decide) (he:YE e=true:=by rfl) (hpl:Y4 es=true:=by rfl) :
  PE X (.Call (.Name x p) (e::es) [] pos) (ZbQ P w K mg base Yp 1 i E0 t):=by
 subst e1 e2 e3 e4 e5
 exact Zcm hr ZG hv ha hk (YD he) (Yu hpl)
theorem ZbY {H:Hp}{a:Addr}{o:HO}(e:H a=some o):Zw (upd (fun _=>none) a o) H:=by
 intro b o' h
 by_cases hb:b=a
 ·subst hb
  rw[Zt] at h
  cases h
  exact e
 ·rw[Zy hb] at h
  cases h
def UY (name qual:Str)(params:Arguments)(body:List Stmt)(scope:Scope)(cl:List (Str×Addr))(doc pm:Value)(c:Addr)(ct:Value):Obj:=⟨.type "function",none,.func (PySem.W.fnX name qual params body scope cl .none .none doc pm none (.ref c) ct),#[]⟩
section
variable {X:Cx}
def Zhz (X:Cx)(P:Addr)(pos:Pos)(qual name:Str)(params:Arguments)(body:List Stmt)(scope:Scope)(i:Nat):TS:=fun D σ H=>Jl H P pos qual/\
 ∀f c ct doc cl pm H',ZfX X scope cl->H f=none->Bt P H H'->Jl H' P pos qual->H' f=some (YR f (UY name qual params body scope cl doc pm c ct))->H' c=some (Yo c qual)->D.nx (σ.set i (some (.ref f))) H'
theorem Ze8 {c P:Addr}{params:Arguments}{body:List Stmt}{scope:Scope}{pos:Pos}{name:Str}(i:Nat)(hcode:X.env.code=.ref c)(hc:PySem.W.codeHdIn X.K c P=true)(B:WT X.base X.mg)(hd0:params.defaults=[])(hk0:params.kw_defaults=[])(han:annTrees params none X.env=[])(hql:qualnameIn X.env name name=X.env.qual++name)
  (hN:YX X.N=true) (hi:X.N[i]?=some name) (hlx:XV X.env.scope name=true) (hfn:X.fn name=true)
  (hfr:∀y∈scope.names,y.2=.free->X.env.kindOf y.1=some .cell\/X.env.kindOf y.1=some .free) :
  PS X (.FunctionDef name params body [] none [] scope none name pos) (Zhz X P pos (X.env.qual++name) name params body scope i):=by
 intro pins s σ H D I h
 obtain⟨⟨ps,h1,h2,h3⟩,q⟩:=h
 obtain⟨cl,hcl,C⟩:=ZaM (X:=X) (scope:=scope) fun y hy hf=>I.ok.has y.1 (hfr y hy hf)
 have C0:=PySem.W.codeHd_of_K I.kIn hc
 have hP:s.heap.get? P=some (PySem.W.tabObj ps):=I.hok P _ h1
 have hg:s.heap.Ns mainGlobals X.mg:=I.mod.glob.keeps I.bk
 have B1:WT s.heap X.mg:=by
  obtain⟨bm,o,b1,b2,b3,b4⟩:=B
  exact⟨bm,o,b1,b2,I.bk _ _ b3,b4⟩
 obtain⟨hb,hne⟩:=B1.at hg hP
 refine PySem.W.nestDef_K hd0 hk0 han ?_
 rw[hql]
 rcases h3 with h3|⟨c',h3,hc'⟩
 ·refine PySem.W.makeFunction_K hcl I.ok.glob hg hcode C0 hP h2 h3 hne hb fun c' ctv doc h' tk hx hge hlt hrec htb=>?_
  have hPl:P<s.heap.objs.size:=Zp hP
  have cn:H c'=none:=I.hok.fresh hge
  have hsz:s.heap.objs.size<=h'.objs.size:=Nat.le_of_lt (Nat.lt_of_le_of_lt hge hlt)
  have fn:H h'.objs.size=none:=I.hok.fresh hsz
  have cP:c'≠P:=fun z=>by rw[z,h1] at cn;cases cn
  have fP:h'.objs.size≠P:=fun z=>by rw[z,h1] at fn;cases fn
  have fc:h'.objs.size≠c':=Nat.ne_of_gt hlt
  generalize hO:UY name (X.env.qual++name) params body scope cl doc ((X.mg "__name__").getD .none) c' ctv=O
  generalize hps:ps ++ #[rawInt pos.line,rawInt pos.col,Value.ref c']=ps' at htb
  have lps:ps'.toList=ps.toList++[rawInt pos.line,rawInt pos.col,Value.ref c']:=by rw[<-hps];simp
  have kp:∀b o,b≠P->s.heap.get? b=some o->(h'.push O).get? b=some o:=fun b o hb e=>Zn _ (hx b o hb e)
  have hfO:(h'.push O).get? h'.objs.size=some O:=Zo _ (by rw[<-hO];rfl)
  have hPt:(h'.push O).get? P=some (PySem.W.tabObj ps'):=Zn _ htb
  have hcr:(h'.push O).CodeRec (.ref c') (X.env.qual++name):=by
   obtain⟨c2,oc,vs,tq,e1,e2,r⟩:=hrec
   exact⟨c2,oc,vs,tq,e1,Zn _ e2,r⟩
  have at1:∀b,b≠P->b≠c'->b≠h'.objs.size->upd (upd (upd H P (.tbl ps')) c' (Yo c' (X.env.qual++name))) h'.objs.size (YR h'.objs.size O) b=H b:=fun b b1 b2 b3=>by rw[Zy b3,Zy b2,Zy b1]
  have atP:upd (upd (upd H P (.tbl ps')) c' (Yo c' (X.env.qual++name))) h'.objs.size (YR h'.objs.size O) P=some (.tbl ps'):=by rw[Zy fP.symm,Zy cP.symm,Zt]
  have atC:upd (upd (upd H P (.tbl ps')) c' (Yo c' (X.env.qual++name))) h'.objs.size (YR h'.objs.size O) c'=some (Yo c' (X.env.qual++name)):=by rw[Zy fc.symm,Zt]
  have atF:upd (upd (upd H P (.tbl ps')) c' (Yo c' (X.env.qual++name))) h'.objs.size (YR h'.objs.size O) h'.objs.size=some (YR h'.objs.size O):=Zt
  generalize upd (upd (upd H P (.tbl ps')) c' (Yo c' (X.env.qual++name))) h'.objs.size (YR h'.objs.size O)=H' at at1 atP atC atF
  have old:∀b u,H b=some u->b≠P->H' b=some u:=fun b u e hb=>by
   rw[at1 b hb (fun z=>by rw[z,cn] at e;cases e) (fun z=>by rw[z,fn] at e;cases e)]
   exact e
  have ltN:∀b o,s.heap.get? b=some o->b≠c'/\b≠h'.objs.size:=fun b o e=>⟨Nat.ne_of_lt (Nat.lt_of_lt_of_le (Zp e) hge),Nat.ne_of_lt (Nat.lt_of_lt_of_le (Zp e) hsz)⟩
  have nP:∀b,H b=none->b≠P:=fun b n z=>by rw[z,h1] at n;cases n
  have un:Un X.fs [] H H' s.heap (h'.push O):={
   keep:=fun b o e n _ _=>kp b o (nP b n) e
   slot:=fun b o e n _ _=>⟨o.slots,kp b o (nP b n) e⟩
   free:=fun b o e n _=>by rw[at1 b (nP b n) (ltN b o e).1 (ltN b o e).2];exact n
   there:=fun b o e _=>by
    by_cases hb:b=P
    ·rw[hb];exact⟨_,hPt⟩
    ·exact⟨o,kp b o hb e⟩
   tups:=fun b xs e=>old b _ e (fun z=>by rw[z,h1] at e;cases e)
   frzs:=fun b o u e=>old b _ e (fun z=>by rw[z,h1] at e;cases e)
   tbls:=fun b qs e=>by
    by_cases hb:b=P
    ·rw[hb,h1] at e
     cases e
     exact⟨#[rawInt pos.line,rawInt pos.col,Value.ref c'],by rw[hb,atP,hps]⟩
    ·exact⟨#[],by rw[old b _ e hb];simp⟩}
  have hok:Wr X.prog X.w H' (h'.push O):=fun b u e=>by
   by_cases b1:b=P
   ·subst b1
    rw[atP] at e
    cases e
    exact hPt
   by_cases b2:b=c'
   ·subst b2
    rw[atC] at e
    cases e
    exact VT hcr
   by_cases b3:b=h'.objs.size
   ·subst b3
    rw[atF] at e
    cases e
    exact JX hfO
   rw[at1 b b1 b2 b3] at e
   refine (I.hok b u e).stay (fun c' v hc r=>kp c' v ?_ r) (fun c' r=>old c' _ r fun z=>by rw[z,h1] at r;cases r) fun c' xs r=>old c' _ r fun z=>by rw[z,h1] at r;cases r
   rcases hc with z|z
   ·rw[z];exact b1
   ·intro y;rw[y,h1] at z;cases z
  have I2:Inv X pins σ H' {s with heap:=h'.push O,toks:=tk}:=I.un un hok
  rw[<-hO] at I2
  refine YW I2 (Z6 hN) hi (W8 hlx) (v:=.ref h'.objs.size) rfl (fun s3 I3=>⟨_,H',I3,?_⟩) (.inl hfn)
  ·refine q _ c' ctv doc cl _ H' C fn (fun b o e n=>old b o e n) ⟨ps',atP,?_,.inr ⟨c',?_,atC⟩⟩ (by rw[atF,<-hO]) atC
   ·rw[lps];exact TriplesOk_snoc _ _ _ _ h2
   ·rw[lps];exact codeAmong_snoc _ h2 h3
 ·refine PySem.W.makeFunction_hit hcl I.ok.glob hg hcode C0 hP h2 h3 hb fun ctv doc h' tk hk hsz=>?_
  have hn:H h'.objs.size=none:=I.hok.fresh hsz
  have kp:∀b o,s.heap.get? b=some o->(h'.push (UY name (X.env.qual++name) params body scope cl doc ((X.mg "__name__").getD .none) c' ctv)).get? b=some o:=fun b o e=>Zn _ (hk b o e)
  have hf:(h'.push (UY name (X.env.qual++name) params body scope cl doc ((X.mg "__name__").getD .none) c' ctv)).get? h'.objs.size=some (UY name (X.env.qual++name) params body scope cl doc ((X.mg "__name__").getD .none) c' ctv):=Zo _ rfl
  have sm:=Zw.upd (H:=H) (o:=YR h'.objs.size (UY name (X.env.qual++name) params body scope cl doc ((X.mg "__name__").getD .none) c' ctv)) hn
  have I2:=I.un (t':=tk) (Un.laid kp hsz hn) (I.hok.laid kp hsz (JX hf))
  refine YW I2 (Z6 hN) hi (W8 hlx) (v:=.ref h'.objs.size) rfl (fun s3 I3=>⟨_,_,I3,?_⟩) (.inl hfn)
  exact q _ c' ctv doc cl _ _ C hn (.of sm) (Jl.mono sm ⟨ps,h1,h2,.inr ⟨c',h3,hc'⟩⟩) Zt (sm _ _ hc')
end
theorem ZfE {CX:JT}{P:Program}{w:World}{K:PySem.W.Frag}{mg:Str->Option Value}{base:Heap}{k:Nat}{f:Addr}{name qual:Str}{params:Arguments}{body:List Stmt}{scope:Scope}{cl:List (Str×Addr)}{cvs:List V}{doc pm cdv ct:Value}{N ps caps:List Str}{sp:Sp}
  (S:WH N ps caps scope) (C:W1 base cl caps cvs) (len:∀vs H Q E,sp vs H Q E->vs.length=ps.length)
  (hat:∀vs (s:Shared) H Q E,Wr P w H s.heap->sp vs H Q E->(∃oc od osl,s.heap.get? f=some ⟨oc,od,.func (PySem.W.fnX name qual params body scope cl .none .none doc pm none cdv ct),osl⟩)/\s.heap.CodeRec cdv qual)
  (hbody:∀(A:Around) (outer:List Env) (s:Shared) (H:Hp) (vs:List V) (Q:VK) (E:XK),YM k (A.deeper (Jd (envOfC qual scope s.heap.objs.size f cdv) cl))->sp vs H Q E->
   ∃t,Xz (Je CX P w K mg base N caps cl qual scope f cdv A outer s H E) body t/\t {nx:=fun _ H'=>Q .non H',rt:=Q} ((vs++cvs).map some) H) :
  Z5 P w K mg base CX (k+1) f (PySem.W.fnX name qual params body scope cl .none .none doc pm none cdv ct) ps sp:=by
 refine⟨len,fun A outer s H args us vs Q E hr e0 hb r hsp=>?_⟩
 have hl:=len _ _ _ _ hsp
 have lim:s.heap.NoLimit:=e0.mod.nolimit.keeps fun b o e=>(e0.bs b o e).1
 obtain⟨⟨oc,od,osl,hf⟩,hcd⟩:=hat vs s H Q E e0.hok hsp
 have hkind:∀y∈ps.zip us,scope.names.lookup y.1=some .local\/(scope.names.lookup y.1=some .cell/\((cellsFrom (s.heap.objs.size+1) scope.names []).lookup y.1).isSome=true):=fun ⟨n,v⟩ hy=>by
  rcases S.par n (List.of_mem_zip hy).1 with q|q
  ·exact .inl q
  ·exact .inr ⟨q,PySem.W.cellsFrom_some _ _ _ (.inl q)⟩
 refine codeAny_call_function hr.depth hf rfl S.co S.gen rfl hcd (hb _ _ _ _ ?_)
 refine Zau S.kind hkind fun env he s1 x=>?_
 subst he
 refine⟨lim.keeps x.toInCall.keep,codeAny_func ?_⟩
 obtain⟨t,ht,hq⟩:=hbody A outer s H vs Q E (hr.deeper _) hsp
 have I:Inv (Je CX P w K mg base N caps cl qual scope f cdv A outer s H E) [] ((vs++cvs).map some) H s1:=Zaz S C hr.hd e0 hl r x
 refine wpAny_mono (ht [] s1 _ H _ I hq) (fun fl s' hs=>?_) fun e s' hs=>hs
 have fin:∀{σ':St}{H':Hp}{v:V}{u:Value},Inv (Je CX P w K mg base N caps cl qual scope f cdv A outer s H E) [] σ' H' s'->RelV v u->Q v H'->CE outer P w H s Q u s':=
  fun {σ' H' v u} J rv q=>⟨v,H',J.os,J.bare,J.base,J.hok,rv,q⟩
 cases fl with
 |ret u=>
  obtain⟨v,σ',H',J,rv,q⟩:=hs
  exact fin J rv q
 |next=>
  obtain⟨σ',H',J,q⟩:=hs
  exact fin (v:=V.non) (u:=Value.none) J rfl q
 |brk=>
  obtain⟨_,_,_,q⟩:=hs
  exact False.elim q
 |cont=>
  obtain⟨_,_,_,q⟩:=hs
  exact False.elim q
section
variable {X:Cx}
end
def Um (H:Hp)(a:Addr)(ys:List V):Prop:=H a=some (.tup ys)\/Tz H a ys
theorem Um.sq {K:PySem.W.Frag}{H:Hp}{a:Addr}{ys:List V}(h:Um H a ys):Y9 K H a ys:=h.elim (fun h=>.of h) fun h=>h.sq
theorem Um.mono {H H':Hp}{a:Addr}{ys:List V}(s:Zw H H')(h:Um H a ys):Um H' a ys:=h.elim (fun h=>.inl (s _ _ h)) fun h=>.inr (h.mono s)
theorem ZhV {X:Cx}(K:PySem.W.Frag)(hK:X.K=K:=by rfl):ZN X (.builtin "isinstance") (fun xs H Q=>∃a ys,xs=[.ref a,.ty "tuple"]/\Um H a ys/\Q (.bl true) H):=by
 intro pins s σ H xs us Q I r h
 obtain⟨a,ys,rfl,h,q⟩:=h
 cases r with
 |cons r1 r=>
  cases r with
  |cons r2 r=>
   cases r
   rename_i v1 v2
   cases (show v2=Value.type "tuple" from r2)
   cases (show v1=Value.ref a from r1)
   have e:PySem.W.kitOne X.K (.type "tuple") (.type "tuple")=some true:=ZgR (by decide) (by decide)
   rcases h with h|⟨o,h,hc,_⟩
   ·exact XU (x:=.ref a) I rfl (.tup h) e fun tk=>⟨.bl true,H,I.tok _,rfl,q⟩
   ·obtain⟨h1,_⟩:=(show ZT X.prog X.w H s.heap a (.frz o (.tup ys)) from I.hok a _ h)
    exact PySem.W.kia_one PySem.W.kitx_tuple I.kIn ⟨o,h1,hc⟩ e (fun z=>nomatch z) fun tk=>⟨.bl true,H,I.tok _,rfl,q⟩
section
variable {X:Cx}
def Zgw:R2:=fun x y H Q=>∃(a b:Addr) (xs ys:List V),x=.ref a/\y=.ref b/\Um H a xs/\Um H b ys/\xs.length+ys.length<=sizeLine/\∀p H',Zw H H'->Um H' p (xs++ys)->Q (.ref p) H'
theorem YQ:Jm X (binaryOp .Add) Zgw:=by
 intro pins s σ H x y v u Q I rx ry h
 obtain⟨a,b,xs,ys,rfl,rfl,ha,hb,hz,q⟩:=h
 by_cases hx:xs=[]
 ·subst hx
  cases rx;cases ry
  obtain⟨its,r1,p1,_⟩:=I.tuple ha.sq
  obtain⟨its2,r2,p2,_⟩:=I.tuple hb.sq
  cases r1
  obtain⟨⟨cls,dd,data,sl⟩,ho,hc,n,hd⟩:=id p1
  obtain⟨⟨cls2,dd2,data2,sl2⟩,ho2,hc2,n2,hd2⟩:=id p2
  simp only at hc hd hc2 hd2
  subst hc hd hc2 hd2
  exact concat_meets ⟨_,ho,rfl⟩ ⟨_,ho2,rfl⟩ noFill_tuple_add seq_tuple_add PySem.F.slot_tuple_add PySem.F.entry_tuple_add (PySem.F.args_tuple_add_2 _ _) (tuple_addW0 a b _ _ n n2 dd dd2 sl sl2 rfl) ⟨ho,ho2,⟨.ref b,H,I,rfl,q b H (Zw.refl H) hb⟩⟩
 ·refine ZdK pins s σ H _ _ v u Q I rx ry ⟨a,b,xs,ys,rfl,rfl,ha.sq,hb.sq,hx,hz,fun e=>?_,fun e p hp=>q p _ (Zw.upd hp) (.inl Zt)⟩
  subst e
  exact q a H (Zw.refl H) (by rw[List.append_nil];exact ha)
def ZhH:V->Option Int->Option Int->Hp->VK->Prop:=fun x lo hi H Q=>∃a xs,x=.ref a/\Um H a xs/\∀p H',Zw H H'->Um H' p (YS xs lo hi)->Q (.ref p) H'
theorem YH:SlR X ZhH:=by
 intro pins s σ H x v vl vu lo hi sl Q I rx hs pl pu h
 obtain⟨a,xs,rfl,hx,q⟩:=h
 by_cases hw:HT.Yg xs.length 0 lo=0/\HT.Yg xs.length xs.length hi=xs.length
 ·refine ZbW (X:=X) pins s σ H _ v vl vu lo hi sl Q I rx hs pl pu ⟨a,xs,rfl,hx.sq,hw,q a H (Zw.refl _) ?_⟩
  have:YS xs lo hi=xs:=by
   unfold YS
   rw[hw.1,hw.2,List.drop_zero,Nat.sub_zero,List.take_length]
  rw[this]
  exact hx
 ·exact ZeQ (X:=X) pins s σ H _ v vl vu lo hi sl Q I rx hs pl pu ⟨a,xs,rfl,hx.sq,hw,fun p hp=>q p _ (Zw.upd hp) (.inl Zt)⟩
theorem Zc6 (xs:List V)(lo hi:Option Int):(YS xs lo hi).length<=xs.length:=by
 unfold YS
 rw[List.length_take,List.length_drop]
 omega
theorem Zc5 {xs:List V}{lo hi:Option Int}{y:V}(h:y∈YS xs lo hi):y∈xs:=List.mem_of_mem_drop (List.mem_of_mem_take h)
def ZeY (K:PySem.W.Frag):List V->Hp->VK->Prop:=fun xs H Q=>(∃a ys,xs=[.ref a,.ty "tuple"]/\Um H a ys/\Q (.bl true) H)\/ZeX K "tuple" xs H Q
theorem ZhW (K:PySem.W.Frag)(hK:X.K=K:=by rfl):ZN X (.builtin "isinstance") (ZeY K):=ZN.or (ZhV K hK) (ZfB K "tuple" (by decide) hK)
theorem lstK (K:PySem.W.Frag)(hK:X.K=K:=by rfl):ZN X (.type "list") (fun xs H Q=>∃p ys,xs=[.ref p]/\(Wq K H p ys\/Y9 K H p ys)/\∀l,H l=none->Q (.ref l) (upd H l (.lst ys))):=hK▸Ji
end
end L2
namespace Tb
section
variable {t:List (List Nat)}
end
section
variable {t:List (List Nat)}{On:Nat->List Nat}{n:Nat}
end
structure Sub (t:List (List Nat))(o:List Nat):Prop where
 n1:1<=o.length
 nd:o.Nodup
 lt:∀v∈o,v<t.length
 z:o.getD 0 0=0
 cl:∀a∈o,∀b∈o,ZW t a b∈o
section
variable {t:List (List Nat)}{o:List Nat}
theorem Zal {v:Nat}(hm:v∈o):pos o v<o.length/\o.getD (pos o v) 0=v:=by
 have h1:o.findIdx (· == v)<o.length:=List.findIdx_lt_length_of_exists ⟨v,hm,by simp⟩
 refine⟨h1,?_⟩
 have h2:=List.findIdx_getElem (w:=h1)
 have h3:o[o.findIdx (· == v)]=v:=by simpa using h2
 unfold pos
 rw[Zb,Zf h1]
 exact h3
theorem UE (nd:o.Nodup){i j:Nat}(hi:i<o.length)(hj:j<o.length)(e:o.getD i 0=o.getD j 0):i=j:=by
 have h1:=ZM (o:=o) hi
 have h2:=ZM (o:=o) hj
 rw[e] at h1
 exact (List.getElem?_inj hi nd).mp (h1.trans h2.symm)
end
section
variable {t:List (List Nat)}{o o2:List Nat}
theorem range_getD {n i:Nat}(h:i<n):(List.range n).getD i 0=i:=by
 rw[Zb,List.getElem?_range h];rfl
theorem Za4 {n v:Nat}(h:v<n):pos (List.range n) v=v:=by
 obtain⟨h1,h2⟩:=Zal (List.mem_range.mpr h)
 rw[Zg] at h1
 rw[range_getD h1] at h2
 exact h2
theorem Zbm {α:Type}{l:List (List α)}{i:Nat}(h:i<l.length):l[i]?=some (l.getD i []):=by
 rw[Zb,Zf h];rfl
end
variable {t:List (List Nat)}
end Tb
namespace C10
open PySem L2 PySem.Spec PyProof.Rows
open Tb Pm
abbrev ZbZ:Stmt:=top 16
abbrev Zes:Stmt:=top 17
abbrev Zb1:Stmt:=top 18
def ItV (H:Hp)(y:V):Prop:=(∃z:Int,y=.int z/\z.natAbs<2 ^ 200)\/(∃b,y=.bl b)\/y=.non\/y=.str "0"\/∃r,y=.ref r/\H r=some (.tup [.int 0])
theorem ItV.mono {H H':Hp}{y:V}(s:Zw H H')(h:ItV H y):ItV H' y:=by
 rcases h with h|h|h|h|⟨r,e,h⟩
 ·exact .inl h
 ·exact .inr (.inl h)
 ·exact .inr (.inr (.inl h))
 ·exact .inr (.inr (.inr (.inl h)))
 ·exact .inr (.inr (.inr (.inr ⟨r,e,s _ _ h⟩)))
def isN:V->Bool
 | .int _=>true
 |_=>false
def elZ (c:Nat):V->Bool
 | .int z=>decide (0<=z) && decide (z<(c:Int))
 |_=>false
theorem ItV.kd {K:PySem.W.Frag}{H:Hp}{y:V}(h:ItV H y):∃n,Kd K H y n/\(UU n "int" && !UU n "bool")=isN y:=by
 rcases h with ⟨z,rfl,_⟩|⟨b,rfl⟩|rfl|rfl|⟨r,rfl,h⟩
 ·exact⟨"int",⟨.int z,by decide⟩,rfl⟩
 ·exact⟨"bool",⟨.bl b,by decide⟩,rfl⟩
 ·exact⟨"NoneType",⟨.non,by decide⟩,rfl⟩
 ·exact⟨"str",⟨.str _,by decide⟩,rfl⟩
 ·exact⟨"tuple",⟨.tup h,by decide⟩,rfl⟩
def Tg (H:Hp)(x:V):Option (List V)->Prop
 |some xs=>∃a,x=.ref a/\Um H a xs/\xs.length<=300/\∀y∈xs,ItV H y
 |none=>x=.non\/(∃(a:Addr) (ns:List Nat),x=.ref a/\H a=some (.lst (ns.map nV))/\ns.length<=60/\∀k∈ns,k<=1000)\/x=.int 0
theorem Tg.mono {H H':Hp}{x:V}{o:Option (List V)}(s:Zw H H')(h:Tg H x o):Tg H' x o:=by
 cases o with
 |some xs=>
  obtain⟨a,e,h,l,he⟩:=h
  exact⟨a,e,h.mono s,l,fun y hy=>(he y hy).mono s⟩
 |none=>
  rcases h with h|⟨a,ns,e,h,hb⟩|h
  ·exact .inl h
  ·exact .inr (.inl ⟨a,ns,e,s _ _ h,hb⟩)
  ·exact .inr (.inr h)
theorem Tg.kd {K:PySem.W.Frag}{H:Hp}{x:V}(h:Tg H x none):∃n,Kd K H x n/\UU n "tuple"=false:=by
 rcases h with rfl|⟨a,ns,rfl,h,_⟩|rfl
 ·exact⟨"NoneType",⟨.non,by decide⟩,by decide⟩
 ·exact⟨"list",⟨.lst h,by decide⟩,by decide⟩
 ·exact⟨"int",⟨.int 0,by decide⟩,by decide⟩
def arB (c:Nat):Option (List V)->Bool
 |none=>false
 |some xs=>xs.all (elZ c)
theorem Zde {c:Nat}:∀{xs:List V},xs.all (elZ c)=true->∃gs:List Nat,xs=gs.map nV/\∀g∈gs,g<c
 | [],_=>⟨[],rfl,fun g h=>by cases h⟩
 |x::r,h=>by
  rw[List.all_cons,Bool.and_eq_true] at h
  obtain⟨gs,e,hg⟩:=Zde h.2
  cases x with
  |int z=>
   have hz:(decide (0<=z) && decide (z<(c:Int)))=true:=h.1
   rw[Bool.and_eq_true] at hz
   have z0:=of_decide_eq_true hz.1
   have z1:=of_decide_eq_true hz.2
   obtain⟨k,rfl⟩:=Int.eq_ofNat_of_zero_le z0
   refine⟨k::gs,by rw[e];rfl,fun g h=>?_⟩
   rcases List.mem_cons.mp h with rfl|h
   ·omega
   ·exact hg g h
  |_=>cases h.1
def Zgi:Sp:=fun vs H Q _=>∃y:V,vs=[y]/\ItV H y/\Q (.bl (isN y)) H
def Zen:Sp:=fun vs H Q _=>∃(x:V) (o:Option (List V)) (c:Nat),vs=[x,.int (c:Nat)]/\Tg H x o/\∀H',Zw H H'->Q (.bl (arB c o)) H'
def Ju (c:Nat)(o:Option (List V)):Prop:=∃gs:List Nat,o=some (gs.map nV)/\gs.length=c/\(∀g∈gs,g<c)/\(∀k,k<c->k∈gs)/\gs.getD 0 1=0
def Zei:Sp:=fun vs H Q _=>∃(x:V) (o:Option (List V)) (c:Nat),vs=[x,.int (c:Nat)]/\1<=c/\c<=60/\Tg H x o/\∀b H',Zw H H'->(b=true↔Ju c o)->Q (.bl b) H'
def YC (gs:List Nat):List Int:=gs.map fun k:Nat=>(k:Int)
theorem Zbx (gs:List Nat):(YC gs).map V.int=gs.map nV:=by
 unfold YC
 rw[List.map_map]
 rfl
theorem Xe {a b:List Nat}(h:a.map nV=b.map nV):a=b:=by
 have:(a.map nV).map (fun v:V=>match v with | .int z=>z.toNat|_=>0)=(b.map nV).map (fun v:V=>match v with | .int z=>z.toNat|_=>0):=by rw[h]
 rw[List.map_map,List.map_map] at this
 have e:∀l:List Nat,l.map ((fun v:V=>match v with | .int z=>z.toNat|_=>0) ∘ nV)=l:=fun l=>by
  conv=>rhs;rw[<-List.map_id l]
  refine List.map_congr_left fun k _=>?_
  show ((k:Int)).toNat=k
  exact Zj k
 rwa [e,e] at this
section
variable {P:Program}{w:World}{K:PySem.W.Frag}{mg:Str->Option Value}{base:Heap}
theorem ZgK {f:Addr}{fd:FuncData}(F:Wt K "is_whole" "is_whole" ZbZ f fd)(T:Bl mg):Z5 P w K mg base Yp 1 f fd ["thing"] Zgi:=by
 refine F.ok (FS (N:=["thing"])) (fun vs H Q E h=>?_) (fun cdv A outer s H vs Q E hr h=>?_)
 ·obtain⟨y,rfl,_⟩:=h;rfl
 ·obtain⟨y,rfl,hy,q⟩:=h
  refine⟨_,Zx (ZF (Jt (cb (ZfB K "int") T.isi (pc (vn 0) (pc (tyv "int" T.int) Zs))) (Vg (Zfc (cb (ZfB K "bool") T.isi (pc (vn 0) (pc (tyv "bool" T.bool) Zs))))))),?_⟩
  obtain⟨n,hk,e⟩:=hy.kd (K:=K)
  refine⟨_,rfl,_,n,rfl,hk,_,rfl,Y2 (fun h1=>?_) (fun h1=>?_)⟩
  ·refine⟨_,rfl,_,n,rfl,hk,_,rfl,?_⟩
   rw[h1,Bool.true_and] at e
   rw[e]
   exact q
  ·have h1:UU n "int"=false:=by simpa using h1
   rw[h1,Bool.false_and] at e
   have q:=q
   rw[<-e] at q
   exact q
theorem Zfq {f:Addr}{fd:FuncData}(F:Wt K "are_things" "are_things" Zes f fd)(T:Bl mg)(GW:Fn P w K mg base Yp 1 "is_whole" ["thing"] Zgi):Z5 P w K mg base Yp 2 f fd ["thing", "count"] Zen:=by
 refine F.ok (FS (N:=["thing", "count"])) (fun vs H Q E h=>?_) (fun cdv A outer s H vs Q E hr h=>?_)
 ·obtain⟨x,o,c,rfl,_⟩:=h;rfl
 ·obtain⟨x,o,c,rfl,hx,q⟩:=h
  refine⟨_,Zx (ZF (Jt (cb (ZhW K) T.isi (pc (vn 0) (pc (tyv "tuple" T.tuple) Zs)))
   (Vg (cb (Zdc rfl) T.all (pc (cmp ["x"] [1] ["x", "count"] rfl (itT K (vn 0)) (fun _ _ _ _ _=>gn 0) (fun _ _ _ _ _=>YI)
    (fun _ _ _ _ _=>Jt (Y7 GW hr ZG (pc (vn 0) Zs)) (Vg (Zcl ZgG XJ Zv (vn 0) (vn 1))))) Zs))))),?_⟩
  cases o with
  |none=>
   obtain⟨n,hk,e⟩:=Tg.kd (K:=K) hx
   refine⟨_,rfl,.inr ⟨_,n,rfl,hk,_,rfl,?_⟩⟩
   rw[e]
   exact WQ (by decide) (q H (Zw.refl H))
  |some xs=>
   obtain⟨a,rfl,ha,hl,he⟩:=hx
   refine⟨_,rfl,.inl ⟨a,_,rfl,ha,_,rfl,Zd0 rfl ?_⟩⟩
   refine⟨_,rfl,a,rfl,⟨_,ha.sq⟩,?_⟩
   refine Jg (Wi (K:=K) ha.sq) [some (.int c)] rfl (fun y=>.bl (elZ c y)) (by omega) (fun i y H' hy s R h1=>?_) (fun D H' hD s hl'=>?_)
   ·have hk:=(he y (List.mem_of_getElem? hy)).mono s
    refine⟨_,rfl,y,rfl,hk,_,rfl,?_⟩
    cases y with
    |int z=>
     refine Zd0 rfl ?_
     refine⟨_,rfl,_,_,rfl,rfl,_,rfl,?_⟩
     have h2:=h1 H' (Zw.refl _)
     refine Y2 (fun h0=>?_) (fun h0=>?_)
     ·refine⟨_,rfl,_,_,rfl,rfl,?_⟩
      have e:elZ c (.int z)=decide (z<(c:Int)):=by show (decide (0<=z) && decide (z<(c:Int)))=_;rw[h0];rfl
      rw[e] at h2;exact h2
     ·have h0:decide (0<=z)=false:=by simpa using h0
      have e:elZ c (.int z)=false:=by show (decide (0<=z) && decide (z<(c:Int)))=_;rw[h0];rfl
      rw[e] at h2;exact h2
    |_=>exact WQ (fun z=>by cases z) (h1 H' (Zw.refl _))
   ·refine⟨D,xs.map (elZ c),rfl,.of ?_,?_⟩
    ·rw[hl',List.map_map];rfl
    ·have:(xs.map (elZ c)).all id=xs.all (elZ c):=by rw[List.all_map];rfl
     rw[this]
     exact q H' s
theorem Zcu {f:Addr}{fd:FuncData}(F:Wt K "is_order" "is_order" Zb1 f fd)(T:Bl mg)(GA:Fn P w K mg base Yp 2 "are_things" ["thing", "count"] Zen):Z5 P w K mg base Yp 3 f fd ["thing", "count"] Zei:=by
 refine F.ok (FS (N:=["thing", "count"])) (fun vs H Q E h=>?_) (fun cdv A outer s H vs Q E hr h=>?_)
 ·obtain⟨x,o,c,rfl,_⟩:=h;rfl
 ·obtain⟨x,o,c,rfl,c1,c60,hx,q⟩:=h
  refine⟨_,Zx (ZF (Jt (Y7 GA hr ZG (pc (vn 0) (pc (vn 1) Zs))) (Jt (JW JG (cb (Y1 K) T.len (pc (vn 0) Zs)) (vn 1) (ZS _)) (Jt (JW JG (cb ZbA T.len (pc (ct (Zby rfl) T.set (pc (vn 0) Zs)) Zs)) (vn 1) (ZS _)) (Vg (JW JG (ZB (Jw K) (vn 0) Zv (fun _ _=>rfl)) Zv (ZS _))))))),?_⟩
  refine⟨_,rfl,_,rfl,x,o,c,rfl,hx,fun H1 s1=>⟨_,rfl,Y2 (fun ha=>?_) (fun ha=>?_)⟩⟩
  ·cases o with
   |none=>cases ha
   |some xs=>
    obtain⟨a,rfl,hx,hl,he⟩:=hx
    obtain⟨gs,rfl,hg⟩:=Zde ha
    rw[Za] at hl
    have hx1:=hx.mono s1
    have iff:∀hs:List Nat,gs.map nV=hs.map nV->hs=gs:=fun hs e=>(Xe e).symm
    have ns0:∀z∈YC gs,0<=z/\z<(c:Int):=fun z hz=>by
     obtain⟨k,hk,rfl⟩:=List.mem_map.mp hz
     have:=hg k hk
     exact⟨by omega,by omega⟩
    have lenI:(YC gs).length=gs.length:=List.length_map ..
    refine⟨_,rfl,a,_,rfl,.inr hx1.sq,_,rfl,rfl,_,rfl,Y2 (fun h2=>?_) (fun h2=>?_)⟩
    ·have h2:V.int ((gs.map nV).length:Int)=V.int (c:Int):=of_decide_eq_true h2
     injection h2 with h2
     rw[Za] at h2
     have h2:gs.length=c:=by omega
     refine⟨_,rfl,a,YC gs,rfl,by rw[Zbx];exact hx1.sq,by omega,fun p np=>⟨p,_,_,rfl,Zt,_,rfl,rfl,_,rfl,Y2 (fun h3=>?_) (fun h3=>?_)⟩⟩
     ·have h3:V.int ((YO (YC gs) (YC gs).length).length:Int)=V.int (c:Int):=of_decide_eq_true h3
      injection h3 with h3
      have h3:(YO (YC gs) (YC gs).length).length=(YC gs).length:=by omega
      have hall:=(VP (YC gs)).mp ⟨fun z hz=>by rw[lenI,h2];exact ns0 z hz,h3⟩
      have s2:=s1.trans (Zw.upd (H:=H1) (o:=.set (fun k=>(YO (YC gs) (YC gs).length).any (· == k)) (YO (YC gs) (YC gs).length).length) np)
      obtain⟨g0,gr,rfl⟩:∃g0 gr,gs=g0::gr:=by
       cases gs with
       |nil=>simp at h2;omega
       |cons g0 gr=>exact⟨g0,gr,rfl⟩
      refine⟨_,rfl,a,_,0,.int (g0:Nat),rfl,rfl,(hx1.mono (Zw.upd np)).sq,ZV (j:=0) rfl,rfl,q _ _ s2 ?_⟩
      rw[decide_eq_true_iff]
      constructor
      ·intro e
       injection e with e
       refine⟨g0::gr,rfl,h2,hg,fun k hk=>?_,?_⟩
       ·have:=hall k (by rw[lenI,h2];exact hk)
        obtain⟨k',hk',e'⟩:=List.mem_map.mp this
        have:k'=k:=by omega
        exact this▸hk'
       ·show g0=0
        omega
      ·rintro⟨hs,e,_,_,_,e0⟩
       injection e with e
       have e:=Xe e
       subst e
       have e0:g0=0:=e0
       rw[e0]
       rfl
     ·have h3:¬V.int ((YO (YC gs) (YC gs).length).length:Int)=V.int (c:Int):=fun z=>h3 (decide_eq_true z)
      refine q _ _ (s1.trans (Zw.upd np)) ⟨fun z=>(by cases z),?_⟩
      rintro⟨hs,e,_,_,hall,_⟩
      injection e with e
      have e:=Xe e
      subst e
      refine absurd ?_ h3
      have:=((VP (YC gs)).mpr fun k hk=>List.mem_map.mpr ⟨k,hall k (by omega),rfl⟩).2
      rw[this,lenI,h2]
    ·have h2:¬V.int ((gs.map nV).length:Int)=V.int (c:Int):=fun z=>h2 (decide_eq_true z)
     refine q _ _ s1 ⟨fun z=>(by cases z),?_⟩
     rintro⟨hs,e,e2,_⟩
     injection e with e
     have e:=Xe e
     subst e
     refine absurd ?_ h2
     rw[Za,e2]
  ·refine q _ _ s1 ⟨fun z=>(by cases z),?_⟩
   rintro⟨gs,rfl,_,hg,_⟩
   refine absurd ?_ ha
   show (gs.map nV).all (elZ c)=true
   rw[List.all_map,List.all_eq_true]
   intro k hk
   have:=hg k hk
   show (decide (0<=((k:Nat):Int)) && decide (((k:Nat):Int)<(c:Int)))=true
   rw[decide_eq_true (by omega),decide_eq_true (by omega)]
   rfl
end
end C10
namespace Pm
open PySem L2 PySem.Spec PyProof.Rows
open Tb
theorem Ua {W:Type}(adr:W->Addr)(Pr:Nat->W->Hp->Prop)(Nw:W->Hp->Prop){J:It}{own:List Str}{caps:List Nat}{te:TE}{σ:L2.St}{H:Hp}{Q:VK}{xs:List V}(S:Wh J H xs)(cs:L2.St)(hcs:JR own caps σ=none::cs)(hn:xs.length<=1000)
  (mono:∀i w H H',Zw H H'->Pr i w H->Pr i w H') (anti:∀w H H',Zw H H'->Nw w H'->Nw w H) (hu:∀i w H0 H1 D o ys ys',Pr i w H1->Nw w H0->H0 D=some (.lst o)->H1 D=some (.lst ys)->Pr i w (upd H1 D (.lst ys')))
  (hs:∀(i:Nat) y,xs[i]?=some y->∀H',Zw H H'->∀R:VK,(∀w H5,Zw H' H5->Pr i w H5->Nw w H'->R (.ref (adr w)) H5)->te (some y::cs) H' R)
  (hd:∀D (ws:List W) H',H D=none->Zw H H'->H' D=some (.lst (ws.map fun w=>V.ref (adr w)))->ws.length=xs.length->(∀(i:Nat) w,ws[i]?=some w->Pr i w H'/\Nw w H)->(∀(i j:Nat) w w',i<j->ws[i]?=some w->ws[j]?=some w'->∃Hm,Pr i w Hm/\Nw w' Hm)->Q (.ref D) H'):Jn own caps (Z9 0) WU te σ Q J H:=by
 refine Ub (xs:=xs) (fun D i ys H'=>Zw H H'/\∃ws:List W,ys=ws.map (fun w=>V.ref (adr w))/\ws.length=i/\(∀(i:Nat) w,ws[i]?=some w->Pr i w H'/\Nw w H/\∃H0 o,H0 D=some (.lst o)/\Nw w H0)/\(∀(i j:Nat) w w',i<j->ws[i]?=some w->ws[j]?=some w'->∃Hm,Pr i w Hm/\Nw w' Hm)) cs hcs (by omega) ?_ ?_ ?_ ?_
 ·intro D i ys H' hD hD' p
  have S':=S.mono p.1
  exact⟨fun hi=>⟨S'.go i H' (Zw.refl _) hi,fun x H3 y=>S'.yld i H' x H3 (Zw.refl _) hi y⟩,fun e=>e▸S'.stop H' (Zw.refl _)⟩
 ·intro D hD
  exact⟨Zw.upd hD,[],rfl,rfl,(fun i w hw=>by cases hw),(fun i j w w' _ h=>by cases h)⟩
 ·rintro D i y ys H' hD hD' hy ⟨sm,ws,rfl,wl,hw,hp⟩ R k
  refine hs i y hy H' sm R fun w H5 s5 p5 n5=>?_
  have hD5:=s5 _ _ hD'
  have lst:∀(b:Nat) v,(ws++[w])[b]?=some v->(b<ws.length/\ws[b]?=some v)\/(b=ws.length/\v=w):=fun b v hb=>by
   by_cases hbl:b<ws.length
   ·rw[List.getElem?_append_left hbl] at hb
    exact .inl ⟨hbl,hb⟩
   ·rw[List.getElem?_append_right (by omega)] at hb
    have hb0:b-ws.length=0:=by
     apply Classical.byContradiction
     intro z
     rw[List.getElem?_eq_none (by rw[Zk];omega)] at hb
     cases hb
    rw[hb0] at hb
    cases hb
    exact .inr ⟨by omega,rfl⟩
  refine k _ H5 hD5 ⟨(sm.trans s5).updr hD,ws++[w],by rw[List.map_append];rfl,by rw[Zd,wl];rfl,fun b v hv=>?_,fun a b v v' hab ha hb=>?_⟩
  ·rcases lst b v hv with ⟨_,hv⟩|⟨hb,hv⟩
   ·obtain⟨h1,h2,H0,o,h3,h4⟩:=hw b v hv
    exact⟨hu b v H0 H5 D o _ _ (mono b v _ _ s5 h1) h4 h3 hD5,h2,H0,o,h3,h4⟩
   ·subst hv
    subst hb
    rw[<-wl] at p5
    exact⟨hu _ v H' H5 D _ _ _ p5 n5 hD' hD5,anti v _ _ sm n5,H',_,hD',n5⟩
  ·rcases lst b v' hb with ⟨hbl,hb⟩|⟨hbl,hb⟩
   ·rw[List.getElem?_append_left (by omega)] at ha
    exact hp a b v v' hab ha hb
   ·subst hb
    rw[List.getElem?_append_left (by omega)] at ha
    exact⟨H',(hw a v ha).1,n5⟩
 ·rintro D ys H5 hD hD' hyl ⟨sm,ws,rfl,wl,hw,hp⟩
  exact hd D ws H5 hD sm hD' wl (fun i w h=>⟨(hw i w h).1,(hw i w h).2.1⟩) hp
theorem Xk {J:It}{own:List Str}{caps:List Nat}{te:TE}{σ:L2.St}{H:Hp}{Q:VK}{xs:List V}(S:Wh J H xs)(cs:L2.St)(hcs:JR own caps σ=none::cs)(F:Nat->V)(hz:xs.length<=1000)
  (hs:∀(i:Nat) y,xs[i]?=some y->∀H',Zw H H'->∀R:VK,(∀H5,Zw H' H5->R (F i) H5)->te (some y::cs) H' R)
  (hd:∀D H',H D=none->Zw H H'->H' D=some (.lst ((List.range xs.length).map F))->Q (.ref D) H'):Jn own caps (Z9 0) WU te σ Q J H:=by
 refine Ub (xs:=xs) (fun D i ys H'=>Zw H H'/\ys=(List.range i).map F) cs hcs (by omega) ?_ ?_ ?_ ?_
 ·intro D i ys H' hD hD' p
  have S':=S.mono p.1
  exact⟨fun hi=>⟨S'.go i H' (Zw.refl _) hi,fun x H3 y=>S'.yld i H' x H3 (Zw.refl _) hi y⟩,fun e=>e▸S'.stop H' (Zw.refl _)⟩
 ·intro D hD
  exact⟨Zw.upd hD,rfl⟩
 ·rintro D i y ys H' hD hD' hy ⟨sm,rfl⟩ R k
  refine hs i y hy H' sm R fun H5 s5=>k _ H5 (s5 _ _ hD') ⟨(sm.trans s5).updr hD,?_⟩
  rw[List.range_succ,List.map_append]
  rfl
 ·rintro D ys H5 hD hD' hyl ⟨sm,rfl⟩
  exact hd D H5 hD sm hD'
theorem Zae {X:Cx}(K:PySem.W.Frag)(hK:X.K=K:=by rfl):ZN X (.type "tuple") (fun xs H Q=>∃p ys,xs=[.ref p]/\Wq K H p ys/\∀l H',H l=none->Zw H H'->Tz H' l ys->Q (.ref l) H'):=hK▸Yf
theorem Tz.updL {H:Hp}{a D:Addr}{ys zs:List V}{o:HO}(h:Tz H a ys)(hD:H D=some (.lst zs)):Tz (upd H D o) a ys:=by
 obtain⟨u,h1,h2⟩:=h
 exact⟨u,by rw[Zy (fun z=>by rw[z,hD] at h1;cases h1)];exact h1,h2⟩
section
variable {fd:List (List Nat)}{os:List Nat}
end
end Pm
namespace PyS
open PySem PySem.W PyProof.Rows PySem.Calls PyProof.V PySem.Spec
section
variable {prog:Program}{w:World}{A:Around}{R:Result->Shared->Prop}{I:Addr}{fp wr:List Addr}{G:Array GenState->Array GenState->Prop}{n:Nat}{P:Nat->Value->Prop}{St:Nat->Shared->Prop}
variable {prog:Program}{w:World}{A:Around}{E:Value->Shared->Prop}{s:Shared}
end
end PyS
namespace L2
open PySem PySem.Spec PyProof.Rows
section
variable {X:Cx}
end
end L2
namespace C10
open PySem L2 PySem.Spec PyProof.Rows
open Tb Pm
structure ZfY (mg:Str->Option Value):Prop where
 sorted:mg "sorted"=none
 enumerate:mg "enumerate"=none
structure KS (kvs:List (YA×V))(ks:List Nat):Prop where
 keys:kvs.map (·.1)=ks.map fun a:Nat=>(Sum.inl (a:Int):YA)
 nd:ks.Nodup
theorem KS.nil:KS [] []:=⟨rfl,List.nodup_nil⟩
theorem KS.len {kvs:List (YA×V)}{ks:List Nat}(h:KS kvs ks):kvs.length=ks.length:=by
 have:=congrArg List.length h.keys
 rwa [Za,Za] at this
theorem KS.some {kvs:List (YA×V)}{ks:List Nat}(h:KS kvs ks)(a:Nat):(YB kvs (.inl (a:Int))).isSome=ks.contains a:=by
 rw[<-YU]
 have e:(kvs.any fun kv=>decide (kv.1=(.inl (a:Int):YA)))=(kvs.map (·.1)).any fun k=>decide (k=(.inl (a:Int):YA)):=by rw[List.any_map];rfl
 rw[e,h.keys,List.any_map]
 by_cases hm:a∈ks
 ·rw[List.contains_iff_mem.mpr hm,List.any_eq_true]
  exact⟨a,hm,by simp⟩
 ·have hc:ks.contains a=false:=by
   cases hc:ks.contains a with
   |false=>rfl
   |true=>exact absurd (List.contains_iff_mem.mp hc) hm
  rw[hc,List.any_eq_false]
  intro b hb z
  have z:=of_decide_eq_true z
  injection z with z
  have:b=a:=by omega
  exact hm (this▸hb)
theorem KS.put {kvs:List (YA×V)}{ks:List Nat}(h:KS kvs ks)(a:Nat)(v:V):KS (Wv kvs (.inl (a:Int)) v) (if ks.contains a then ks else ks++[a]):=by
 have hs:=h.some a
 by_cases hm:ks.contains a=true
 ·rw[if_pos hm]
  rw[hm] at hs
  refine⟨?_,h.nd⟩
  unfold Wv
  rw[if_pos (by rw[YU];exact hs),List.map_map,<-h.keys]
  refine List.map_congr_left fun kv _=>?_
  show (if kv.1=_ then (kv.1,v) else kv).1=kv.1
  split <;> rfl
 ·rw[if_neg hm]
  have hn:YB kvs (.inl (a:Int))=none:=by
   cases hv:YB kvs (.inl (a:Int)) with
   |none=>rfl
   |some x=>rw[hv] at hs;exact absurd hs.symm hm
  rw[Zce v hn]
  refine⟨by rw[List.map_append,List.map_append,h.keys];rfl,?_⟩
  rw[List.nodup_append]
  refine⟨h.nd,by simp,fun b hb c hc z=>hm ?_⟩
  rw[List.mem_singleton.mp hc] at z
  exact List.contains_iff_mem.mpr (z▸hb)
abbrev VI:Stmt:=top 19
abbrev W4:Stmt:=top 20
def UC (K:PySem.W.Frag):Sp:=fun vs H Q _=>∃(a:Addr) (o:List Nat),vs=[.ref a]/\Y9 K H a (o.map nV)/\o.Nodup/\o.length<=60/\∀D kvs H',Zw H H'->H D=none->H' D=some (.dK kvs)->(∀i,i<o.length->YB kvs (.inl ((o.getD i 0:Nat):Int))=some (.int (i:Nat)))->Q (.ref D) H'
structure POk (P:Program)(w:World)(K:PySem.W.Frag)(mg:Str->Option Value)(base:Heap)(t:List (List Nat))(o:List Nat)(Ev:Hp->Prop)(f:Addr):Prop where
 mono:∀H H',Zw H H'->Ev H->Ev H'
 fn:∃ps oc od fd sl sp,(∀H,Ev H->H f=some (YR f ⟨oc,od,.func fd,sl⟩))/\Z5 P w K mg base Yp 1 f fd ps sp/\Binds K fd ps []/\∀H (x y:Nat) Q,Ev H->x∈o->y∈o->(∀H',Zw H H'->Q (.int (ZW t x y:Nat)) H')->sp [.int (x:Nat),.int (y:Nat)] H Q E0
def J3 (P:Program)(w:World)(K:PySem.W.Frag)(mg:Str->Option Value)(base:Heap):Sp:=fun vs H Q _=>∃(a f:Addr) (t:List (List Nat)) (o:List Nat) (Ev:Hp->Prop),vs=[.ref a,.ref f]/\Y9 K H a (o.map nV)/\Sub t o/\o.length<=60/\Ev H/\POk P w K mg base t o Ev f/\∀r H',Zw H H'->GT H' r (WP t o)->Q (.ref r) H'
theorem UF {t:List (List Nat)}{o:List Nat}{i:Nat}(h:i<o.length):(WP t o).getD i []=o.map fun b=>pos o (ZW t (o.getD i 0) b):=by
 unfold WP
 rw[Zb,Zc,ZM h]
 rfl
theorem JD {α:Type}(l:List (List α)):((List.range l.length).map fun i=>l.getD i [])=l:=by
 refine List.ext_getElem? fun i=>?_
 rw[Zc]
 by_cases hi:i<l.length
 ·rw[List.getElem?_range hi,Zbm hi];rfl
 ·rw[List.getElem?_eq_none (by rw[Zg];omega),List.getElem?_eq_none (by omega)];rfl
theorem Vk {α:Type}(o:List Nat)(f:Nat->α):((List.range o.length).map fun j=>f (o.getD j 0))=o.map f:=by
 refine List.ext_getElem? fun i=>?_
 rw[Zc,Zc]
 by_cases hi:i<o.length
 ·rw[List.getElem?_range hi,ZM hi];rfl
 ·rw[List.getElem?_eq_none (by rw[Zg];omega),List.getElem?_eq_none (by omega)];rfl
section
variable {P:Program}{w:World}{K:PySem.W.Frag}{mg:Str->Option Value}{base:Heap}
theorem ZdQ {f:Addr}{fd:FuncData}(F:Wt K "numbered" "numbered" VI f fd)(T2:ZfY mg):Z5 P w K mg base Yp 1 f fd ["things"] (UC K):=by
 refine F.ok (FS (N:=["things", "numbers", "k", "thing"])) (fun vs H Q E h=>?_) (fun cdv A outer s H vs Q E hr h=>?_)
 ·obtain⟨a,o,rfl,_⟩:=h;rfl
 ·obtain⟨a,o,rfl,ha,nd,o60,q⟩:=h
  have hu:(A.deeper (envOfC "numbered" (ZC VI) s.heap.objs.size f cdv)).units+1<cLine:=by have:=hr.un;omega
  refine⟨_,Zu (ZP 1 rfl VQ) (Zu (Z3 PassesOwn.never rfl (ZeC K T2.enumerate (pc (vn 0) Zs)) (g2 K 2 3 rfl (gn 2) (gn 3)) (Zx (Zao hu (vn 1) (vn 3) (vn 2) (by rfl)))) (Zx (ZF (vn 1)))),?_⟩
  have sz:(16777216:Nat)=sizeLine:=by decide
  intro D nD
  have s1:=Zw.upd (H:=H) (o:=.dK []) nD
  have hD1:=Zt (H:=H) (a:=D) (o:=.dK [])
  generalize upd H D (.dK [])=H1 at s1 hD1 ⊢
  refine⟨_,rfl,a,rfl,.inr ⟨⟨_,s1.tup ha⟩,?_⟩⟩
  refine V5 (ZfJ (K:=K) (xs:=o.map nV)) (fun i σ' H'=>∃(kvs:List (YA×V)) (v2 v3:Option V),σ'=[some (.ref a),some (.ref D),v2,v3]/\Zw H H'/\H' D=some (.dK kvs)/\KS kvs (o.take i)/\∀j,j<i->j<o.length->YB kvs (.inl ((o.getD j 0:Nat):Int))=some (.int (j:Nat)))
   ⟨_,_,_,rfl,s1,hD1,.nil,fun j hj=>by omega⟩ (fun i σ' H' h=>by
    obtain⟨_,_,_,_,sm,_⟩:=h
    exact sm.tup ha) ?_ ?_
  ·rintro i y σ' H3 T' hy ⟨kvs,v2,v3,rfl,s3,hD3,hK,hv⟩ nT
   obtain⟨x,hx,rfl⟩:=YF hy
   have hil:i<o.length:=(List.getElem?_eq_some_iff.mp hx).1
   have s4:=Zw.upd (H:=H3) (o:=.tup [.int (i:Nat),.int (x:Nat)]) nT
   refine⟨T',_,rfl,.of Zt,rfl,_,_,rfl,_,_,rfl,rfl,?_⟩
   generalize upd H3 T' (.tup [.int (i:Nat),.int (x:Nat)])=H4 at s4 ⊢
   have kl:kvs.length=i:=by rw[hK.len,List.length_take];omega
   refine⟨_,rfl,_,rfl,_,rfl,D,_,rfl,ZbH.k (k:=.inl ((x:Nat):Int)) (s4 _ _ hD3) (by rw[kl];omega),?_⟩
   have ox:o.getD i 0=x:=by rw[Zb,hx];rfl
   have hn:(o.take i).contains x=false:=by
    cases q:(o.take i).contains x with
    |false=>rfl
    |true=>
     exfalso
     obtain⟨j,hj⟩:=List.getElem?_of_mem (List.contains_iff_mem.mp q)
     have hji:j<i:=by
      have:=(List.getElem?_eq_some_iff.mp hj).1
      rw[List.length_take] at this
      omega
     rw[List.getElem?_take_of_lt hji] at hj
     have:=(List.getElem?_inj hil nd).mp (hx.trans hj.symm)
     omega
   have hK2:=hK.put x (.int (i:Nat))
   rw[hn,if_neg (by decide)] at hK2
   refine⟨_,_,_,rfl,(s3.trans s4).updr nD,Zt,by rw[List.take_add_one,hx];exact hK2,fun j hj hjl=>?_⟩
   rw[Vy]
   by_cases hji:j=i
   ·subst hji
    rw[ox,if_pos rfl]
   ·have hjx:¬o.getD j 0=x:=fun z=>by
     rw[<-ox] at z
     exact hji (UE nd hjl hil z)
    rw[if_neg (fun z=>hjx (by injection z with z;omega))]
    exact hv j (by omega) hjl
  ·rintro σ' H3 ⟨kvs,v2,v3,rfl,s3,hD3,hK,hv⟩
   rw[Za] at hv
   exact⟨_,rfl,q D kvs H3 s3 nD hD3 fun i hi=>hv i hi hi⟩
theorem Za9 {f:Addr}{fd:FuncData}(F:Wt K "tabled" "tabled" W4 f fd)(T:Bl mg)(GN:Fn P w K mg base Yp 1 "numbered" ["things"] (UC K)):Z5 P w K mg base Yp 2 f fd ["things", "product"] (J3 P w K mg base):=by
 refine F.ok (FS (N:=["things", "product", "numbers", "rows", "a"])) (fun vs H Q E h=>?_) (fun cdv A outer s H vs Q E hr h=>?_)
 ·obtain⟨a,g,t,o,Ev,rfl,_⟩:=h;rfl
 ·obtain⟨a,g,t,o,Ev,rfl,ha,S,o60,hEv,O,q⟩:=h
  have hu:(A.deeper (envOfC "tabled" (ZC W4) s.heap.objs.size f cdv)).units+1<cLine:=by have:=hr.un;omega
  refine⟨_,Zu (ZP 2 rfl (Y7 GN hr ZG (pc (vn 0) Zs)))
   (Zu (ZP 3 rfl (ZQ Zs))
   (Zu (Z3 PassesOwn.never rfl (itT K (vn 0)) (gnf 4 rfl)
    (Zx (Z0 (Ym PySem.F.plainAttrs_list PySem.F.slot_list_append PySem.F.type_list_append ZI (vn 3) (pc (ct (Zae K) T.tuple (pc (cmp ["b"] [2,1,4] ["b", "numbers", "product", "a"] rfl (itT K (vn 0)) (fun _ _ _ _ _=>gn 0) (fun _ _ _ _ _=>YI)
     (fun _ _ _ _ _=>Zat hu (vn 1) (cv P w K mg base 2 (vn 2) (pc (vn 3) (pc (vn 0) Zs)) hr) (fun _ _=>rfl))) Zs)) Zs)))))
   (Zx (ZF (ct ZH T.tuple (pc (vn 3) Zs)))))),?_⟩
  have sz:(16777216:Nat)=sizeLine:=by decide
  obtain⟨ps,oc,od,fdO,sl,sp,hF,OkF,Bd,hsp⟩:=O.fn
  have ol:(o.map nV).length=o.length:=List.length_map ..
  refine⟨_,rfl,a,o,rfl,ha,S.nd,o60,fun D kvs H1 s1 nD hD1 hkv=>?_⟩
  refine⟨(by show 0<=sizeLine;decide),fun R nR=>?_⟩
  have nRH:H R=none:=s1.free nR
  have DR:D≠R:=fun z=>by rw[z,nR] at hD1;cases hD1
  have s2:=Zw.upd (H:=H1) (o:=.lst []) nR
  have hR2:=Zt (H:=H1) (a:=R) (o:=.lst [])
  generalize upd H1 R (.lst [])=H2 at s2 hR2 ⊢
  refine⟨_,rfl,a,rfl,⟨_,(s1.trans s2).tup ha⟩,?_⟩
  refine Y6 (H0:=H) (Wi (K:=K) ha) (fun i σ' H'=>∃(rs:List Addr) (v4:Option V),σ'=[some (.ref a),some (.ref g),some (.ref D),some (.ref R),v4]/\Zw H H'/\H' D=some (.dK kvs)/\Yt H' R rs (fun i=>(WP t o).getD i [])/\rs.length=i)
   ⟨[],_,rfl,s1.trans s2,s2 _ _ hD1,⟨hR2,fun i r hr=>by cases hr⟩,rfl⟩ (fun i σ' H' h=>by obtain⟨_,_,_,sm,_⟩:=h;exact sm) ?_ ?_
  ·rintro i y σ' H3 hy ⟨rs,v4,rfl,s3,hD3,R3,rl⟩
   obtain⟨x,hx,rfl⟩:=YF hy
   have hil:i<o.length:=(List.getElem?_eq_some_iff.mp hx).1
   have ox:o.getD i 0=x:=by rw[Zb,hx];rfl
   have hxo:=List.mem_of_getElem? hx
   refine⟨_,rfl,.inl ⟨rfl,_,.of R3.1⟩,_,rfl,a,rfl,⟨_,s3.tup ha⟩,?_⟩
   refine Xk (Wi (K:=K) (s3.tup ha)) [some (.ref D),some (.ref g),some (.int (x:Nat))] rfl (fun j=>nV (pos o (ZW t x (o.getD j 0)))) (by rw[ol];omega) (fun j y' hy' H4 s4 R' k4=>?_) (fun D4 H4 nD4 s4 hD4=>?_)
   ·obtain⟨z,hz,rfl⟩:=YF hy'
    have hzo:=List.mem_of_getElem? hz
    have oz:o.getD j 0=z:=by rw[Zb,hz];rfl
    have hE4:=O.mono _ _ (s3.trans s4) hEv
    refine⟨_,rfl,g,oc,od,fdO,sl,rfl,hF _ hE4,_,rfl,_,rfl,hF _ hE4,ps,sp,OkF,Bd,hsp _ x z _ hE4 hxo hzo fun H5 s5=>?_⟩
    obtain⟨p1,p2⟩:=Zal (S.cl x hxo z hzo)
    have dg:=Zac.k (k:=.inl ((ZW t x z:Nat):Int)) ((s4.trans s5) _ _ hD3)
    have hv:=hkv _ p1
    rw[p2] at hv
    rw[hv] at dg
    refine⟨D,_,rfl,dg,?_⟩
    have:=k4 H5 s5
    rw[oz] at this
    exact this
   ·rw[ol] at hD4
    have e:(List.range o.length).map (fun j=>nV (pos o (ZW t x (o.getD j 0))))=((WP t o).getD i []).map nV:=by
     rw[UF hil,ox,<-Vk o,List.map_map]
     rfl
    rw[e] at hD4
    refine⟨D4,_,rfl,.of hD4,fun z Hz nz sz' hz=>?_⟩
    have R5:=R3.mono (s4.trans sz')
    refine⟨R,_,_,rfl,rfl,R5.1,by rw[Za];omega,?_⟩
    have R6:=R5.push (r:=z) (by rw[rl];exact hz)
    refine⟨rs++[z],_,rfl,(s3.trans (s4.trans sz')).updr nRH,by rw[Zy DR];exact (s4.trans sz') _ _ hD3,R6,by rw[Zd,rl];rfl⟩
  ·rintro σ' H3 ⟨rs,v4,rfl,s3,hD3,R3,rl⟩
   rw[ol] at rl
   refine⟨_,rfl,R,_,rfl,.inl ⟨.of R3.1,fun r nr=>?_⟩⟩
   have s4:=Zw.upd (H:=H3) (o:=.tup (rs.map V.ref)) nr
   refine q r _ (s3.trans s4) ?_
   have:=JN R3 rl s4 Zt
   have e:o.length=(WP t o).length:=W6.symm
   rw[e,JD] at this
   exact this
end
def X3 (K:PySem.W.Frag):Sp:=fun vs H Q _=>∃(a:Addr) (o:List Nat),vs=[.ref a]/\Wq K H a (o.map nV)/\o.Nodup/\o.length<=60/\∀D kvs H',Zw H H'->H D=none->H' D=some (.dK kvs)->(∀i,i<o.length->YB kvs (.inl ((o.getD i 0:Nat):Int))=some (.int (i:Nat)))->Q (.ref D) H'
def Jp (P:Program)(w:World)(K:PySem.W.Frag)(mg:Str->Option Value)(base:Heap):Sp:=fun vs H Q _=>∃(a f:Addr) (t:List (List Nat)) (o:List Nat) (Ev:Hp->Prop),vs=[.ref a,.ref f]/\Wq K H a (o.map nV)/\Sub t o/\o.length<=60/\Ev H/\POk P w K mg base t o Ev f/\∀r H',Zw H H'->GT H' r (WP t o)->Q (.ref r) H'
section
variable {P:Program}{w:World}{K:PySem.W.Frag}{mg:Str->Option Value}{base:Heap}
theorem Zct {f:Addr}{fd:FuncData}(F:Wt K "numbered" "numbered" VI f fd)(T2:ZfY mg):Z5 P w K mg base Yp 1 f fd ["things"] (X3 K):=by
 refine F.ok (FS (N:=["things", "numbers", "k", "thing"])) (fun vs H Q E h=>?_) (fun cdv A outer s H vs Q E hr h=>?_)
 ·obtain⟨a,o,rfl,_⟩:=h;rfl
 ·obtain⟨a,o,rfl,ha,nd,o60,q⟩:=h
  have hu:(A.deeper (envOfC "numbered" (ZC VI) s.heap.objs.size f cdv)).units+1<cLine:=by have:=hr.un;omega
  refine⟨_,Zu (ZP 1 rfl VQ) (Zu (Z3 PassesOwn.never rfl (ZeC K T2.enumerate (pc (vn 0) Zs)) (g2 K 2 3 rfl (gn 2) (gn 3)) (Zx (Zao hu (vn 1) (vn 3) (vn 2) (by rfl)))) (Zx (ZF (vn 1)))),?_⟩
  have sz:(16777216:Nat)=sizeLine:=by decide
  intro D nD
  have s1:=Zw.upd (H:=H) (o:=.dK []) nD
  have hD1:=Zt (H:=H) (a:=D) (o:=.dK [])
  generalize upd H D (.dK [])=H1 at s1 hD1 ⊢
  refine⟨_,rfl,a,rfl,.inl ⟨⟨_,s1.seq ha⟩,?_⟩⟩
  refine V5 (ZfK (K:=K) (xs:=o.map nV)) (fun i σ' H'=>∃(kvs:List (YA×V)) (v2 v3:Option V),σ'=[some (.ref a),some (.ref D),v2,v3]/\Zw H H'/\H' D=some (.dK kvs)/\KS kvs (o.take i)/\∀j,j<i->j<o.length->YB kvs (.inl ((o.getD j 0:Nat):Int))=some (.int (j:Nat)))
   ⟨_,_,_,rfl,s1,hD1,.nil,fun j hj=>by omega⟩ (fun i σ' H' h=>by
    obtain⟨_,_,_,_,sm,_⟩:=h
    exact sm.seq ha) ?_ ?_
  ·rintro i y σ' H3 T' hy ⟨kvs,v2,v3,rfl,s3,hD3,hK,hv⟩ nT
   obtain⟨x,hx,rfl⟩:=YF hy
   have hil:i<o.length:=(List.getElem?_eq_some_iff.mp hx).1
   have s4:=Zw.upd (H:=H3) (o:=.tup [.int (i:Nat),.int (x:Nat)]) nT
   refine⟨T',_,rfl,.of Zt,rfl,_,_,rfl,_,_,rfl,rfl,?_⟩
   generalize upd H3 T' (.tup [.int (i:Nat),.int (x:Nat)])=H4 at s4 ⊢
   have kl:kvs.length=i:=by rw[hK.len,List.length_take];omega
   refine⟨_,rfl,_,rfl,_,rfl,D,_,rfl,ZbH.k (k:=.inl ((x:Nat):Int)) (s4 _ _ hD3) (by rw[kl];omega),?_⟩
   have ox:o.getD i 0=x:=by rw[Zb,hx];rfl
   have hn:(o.take i).contains x=false:=by
    cases q:(o.take i).contains x with
    |false=>rfl
    |true=>
     exfalso
     obtain⟨j,hj⟩:=List.getElem?_of_mem (List.contains_iff_mem.mp q)
     have hji:j<i:=by
      have:=(List.getElem?_eq_some_iff.mp hj).1
      rw[List.length_take] at this
      omega
     rw[List.getElem?_take_of_lt hji] at hj
     have:=(List.getElem?_inj hil nd).mp (hx.trans hj.symm)
     omega
   have hK2:=hK.put x (.int (i:Nat))
   rw[hn,if_neg (by decide)] at hK2
   refine⟨_,_,_,rfl,(s3.trans s4).updr nD,Zt,by rw[List.take_add_one,hx];exact hK2,fun j hj hjl=>?_⟩
   rw[Vy]
   by_cases hji:j=i
   ·subst hji
    rw[ox,if_pos rfl]
   ·have hjx:¬o.getD j 0=x:=fun z=>by
     rw[<-ox] at z
     exact hji (UE nd hjl hil z)
    rw[if_neg (fun z=>hjx (by injection z with z;omega))]
    exact hv j (by omega) hjl
  ·rintro σ' H3 ⟨kvs,v2,v3,rfl,s3,hD3,hK,hv⟩
   rw[Za] at hv
   exact⟨_,rfl,q D kvs H3 s3 nD hD3 fun i hi=>hv i hi hi⟩
theorem UN {f:Addr}{fd:FuncData}(F:Wt K "tabled" "tabled" W4 f fd)(T:Bl mg)(GN:Fn P w K mg base Yp 1 "numbered" ["things"] (X3 K)):Z5 P w K mg base Yp 2 f fd ["things", "product"] (Jp P w K mg base):=by
 refine F.ok (FS (N:=["things", "product", "numbers", "rows", "a"])) (fun vs H Q E h=>?_) (fun cdv A outer s H vs Q E hr h=>?_)
 ·obtain⟨a,g,t,o,Ev,rfl,_⟩:=h;rfl
 ·obtain⟨a,g,t,o,Ev,rfl,ha,S,o60,hEv,O,q⟩:=h
  have hu:(A.deeper (envOfC "tabled" (ZC W4) s.heap.objs.size f cdv)).units+1<cLine:=by have:=hr.un;omega
  refine⟨_,Zu (ZP 2 rfl (Y7 GN hr ZG (pc (vn 0) Zs)))
   (Zu (ZP 3 rfl (ZQ Zs))
   (Zu (Z3 PassesOwn.never rfl (itL K (vn 0)) (gnf 4 rfl)
    (Zx (Z0 (Ym PySem.F.plainAttrs_list PySem.F.slot_list_append PySem.F.type_list_append ZI (vn 3) (pc (ct (Zae K) T.tuple (pc (cmp ["b"] [2,1,4] ["b", "numbers", "product", "a"] rfl (itL K (vn 0)) (fun _ _ _ _ _=>gn 0) (fun _ _ _ _ _=>YI)
     (fun _ _ _ _ _=>Zat hu (vn 1) (cv P w K mg base 2 (vn 2) (pc (vn 3) (pc (vn 0) Zs)) hr) (fun _ _=>rfl))) Zs)) Zs)))))
   (Zx (ZF (ct ZH T.tuple (pc (vn 3) Zs)))))),?_⟩
  have sz:(16777216:Nat)=sizeLine:=by decide
  obtain⟨ps,oc,od,fdO,sl,sp,hF,OkF,Bd,hsp⟩:=O.fn
  have ol:(o.map nV).length=o.length:=List.length_map ..
  refine⟨_,rfl,a,o,rfl,ha,S.nd,o60,fun D kvs H1 s1 nD hD1 hkv=>?_⟩
  refine⟨(by show 0<=sizeLine;decide),fun R nR=>?_⟩
  have nRH:H R=none:=s1.free nR
  have DR:D≠R:=fun z=>by rw[z,nR] at hD1;cases hD1
  have s2:=Zw.upd (H:=H1) (o:=.lst []) nR
  have hR2:=Zt (H:=H1) (a:=R) (o:=.lst [])
  generalize upd H1 R (.lst [])=H2 at s2 hR2 ⊢
  refine⟨_,rfl,a,rfl,⟨_,(s1.trans s2).seq ha⟩,?_⟩
  refine Y6 (H0:=H) (Yv (K:=K) ha) (fun i σ' H'=>∃(rs:List Addr) (v4:Option V),σ'=[some (.ref a),some (.ref g),some (.ref D),some (.ref R),v4]/\Zw H H'/\H' D=some (.dK kvs)/\Yt H' R rs (fun i=>(WP t o).getD i [])/\rs.length=i)
   ⟨[],_,rfl,s1.trans s2,s2 _ _ hD1,⟨hR2,fun i r hr=>by cases hr⟩,rfl⟩ (fun i σ' H' h=>by obtain⟨_,_,_,sm,_⟩:=h;exact sm) ?_ ?_
  ·rintro i y σ' H3 hy ⟨rs,v4,rfl,s3,hD3,R3,rl⟩
   obtain⟨x,hx,rfl⟩:=YF hy
   have hil:i<o.length:=(List.getElem?_eq_some_iff.mp hx).1
   have ox:o.getD i 0=x:=by rw[Zb,hx];rfl
   have hxo:=List.mem_of_getElem? hx
   refine⟨_,rfl,.inl ⟨rfl,_,.of R3.1⟩,_,rfl,a,rfl,⟨_,s3.seq ha⟩,?_⟩
   refine Xk (Yv (K:=K) (s3.seq ha)) [some (.ref D),some (.ref g),some (.int (x:Nat))] rfl (fun j=>nV (pos o (ZW t x (o.getD j 0)))) (by rw[ol];omega) (fun j y' hy' H4 s4 R' k4=>?_) (fun D4 H4 nD4 s4 hD4=>?_)
   ·obtain⟨z,hz,rfl⟩:=YF hy'
    have hzo:=List.mem_of_getElem? hz
    have oz:o.getD j 0=z:=by rw[Zb,hz];rfl
    have hE4:=O.mono _ _ (s3.trans s4) hEv
    refine⟨_,rfl,g,oc,od,fdO,sl,rfl,hF _ hE4,_,rfl,_,rfl,hF _ hE4,ps,sp,OkF,Bd,hsp _ x z _ hE4 hxo hzo fun H5 s5=>?_⟩
    obtain⟨p1,p2⟩:=Zal (S.cl x hxo z hzo)
    have dg:=Zac.k (k:=.inl ((ZW t x z:Nat):Int)) ((s4.trans s5) _ _ hD3)
    have hv:=hkv _ p1
    rw[p2] at hv
    rw[hv] at dg
    refine⟨D,_,rfl,dg,?_⟩
    have:=k4 H5 s5
    rw[oz] at this
    exact this
   ·rw[ol] at hD4
    have e:(List.range o.length).map (fun j=>nV (pos o (ZW t x (o.getD j 0))))=((WP t o).getD i []).map nV:=by
     rw[UF hil,ox,<-Vk o,List.map_map]
     rfl
    rw[e] at hD4
    refine⟨D4,_,rfl,.of hD4,fun z Hz nz sz' hz=>?_⟩
    have R5:=R3.mono (s4.trans sz')
    refine⟨R,_,_,rfl,rfl,R5.1,by rw[Za];omega,?_⟩
    have R6:=R5.push (r:=z) (by rw[rl];exact hz)
    refine⟨rs++[z],_,rfl,(s3.trans (s4.trans sz')).updr nRH,by rw[Zy DR];exact (s4.trans sz') _ _ hD3,R6,by rw[Zd,rl];rfl⟩
  ·rintro σ' H3 ⟨rs,v4,rfl,s3,hD3,R3,rl⟩
   rw[ol] at rl
   refine⟨_,rfl,R,_,rfl,.inl ⟨.of R3.1,fun r nr=>?_⟩⟩
   have s4:=Zw.upd (H:=H3) (o:=.tup (rs.map V.ref)) nr
   refine q r _ (s3.trans s4) ?_
   have:=JN R3 rl s4 Zt
   have e:o.length=(WP t o).length:=W6.symm
   rw[e,JD] at this
   exact this
end
end C10
namespace L2
open PySem PySem.Spec PyProof.Rows
section
variable {K:PySem.W.Frag}{x:Str}{C N T U:Addr}{es et:Array DictEntry}{nm q:Str}{bs:List Value}{sn:List Str}{sb:List Value}{ab:Bool}{cl:Option Bool}{dd:Option Addr}{k0 k1 k2 k3 k5:Option Value}{c:Value}{d:Option Addr}{ep:Nat}{sl:Array (Option Value)}
theorem Zab.mk' (a:PySem.W.nsIn K mainGlobals "TableError"=some (some (.ref T)))(l:K.lookup T=some (excClassObj nm q T U bs PyX.VE true sn sb ab cl dd k0 k1 k2 k3 k5 PyX.Wu))(n:K.lookup U=some ⟨c,d,.dict et ep,sl⟩)(kp:PySem.W.keepIn K (.ref T)=true)
  (o:(YV et && WX et ("__init__" :: (Yd++WA)))=true):Zab K T U et:=by
 rw[Bool.and_eq_true] at o
 exact⟨.mk' a l n kp o.1,o.2⟩
theorem Y0.mk' (a:PySem.W.nsIn K mainGlobals x=some (some (.ref C)))(l:K.lookup C=some (excClassObj nm q C N bs (.ref T::PyX.VE) true sn sb ab cl dd k0 k1 k2 k3 k5 PyX.Wu))(n:K.lookup N=some ⟨c,d,.dict es ep,sl⟩)(kp:PySem.W.keepIn K (.ref C)=true)
  (o:(YV es && WX es (Yd++WA))=true):Y0 K x T U et ⟨C,N,es⟩:=by
 rw[Bool.and_eq_true] at o
 exact⟨.mk' a l n kp o.1,o.2⟩
def JS (K:PySem.W.Frag)(x:Str)(T U:Addr)(et:Array DictEntry)(e:Ec):Prop:=Y0 K x T U et e/\nsFind e.es "__init__"=none
theorem JS.mk (a:PySem.W.nsIn K mainGlobals x=some (some (.ref C)))(l:K.lookup C=some (excClassObj nm q C N bs (.ref T::PyX.VE) true sn sb ab cl dd k0 k1 k2 k3 k5 PyX.Wu))(n:K.lookup N=some ⟨c,d,.dict es ep,sl⟩)(kp:PySem.W.keepIn K (.ref C)=true)
  (o:(YV es && WX es (Yd++WA) && WX es ["__init__"])=true):JS K x T U et ⟨C,N,es⟩:=by
 rw[Bool.and_eq_true] at o
 exact⟨.mk' a l n kp o.1,YL o.2 (by simp)⟩
end
end L2
namespace C10
open PySem L2 PySem.Spec PyProof.Rows
open Tb
def Zc7:Nat->Str
 |0 => "NoGroup" |1 => "NoTable" |2 => "NoShares" |3 => "NoPerm" |4 => "NoLines" |5 => "NoAlike" |6 => "NoName" |7 => "TooMany" |8 => "NoOrder" |9 => "NoPart" |10 => "NoText" |_ => "NoRow"
structure Cs (K:PySem.W.Frag)(mg:Str->Option Value)(T U:Addr)(et:Array DictEntry)(c:Nat->Ec):Prop where
 tb:Zab K T U et
 ok:∀k,k<12->Y0 K (Zc7 k) T U et (c k)
 mgT:mg "TableError"=some (.ref T)
 mgC:∀k,k<12->mg (Zc7 k)=some (.ref (c k).C)
 inj:∀j k,j<12->k<12->(c j).C=(c k).C->j=k
 neT:∀k,k<12->(c k).C≠T
 pl:∀k,7<=k->k<12->nsFind (c k).es "__init__"=none
abbrev fVE:ExcBaseFacts "ValueError" PyX.Wu "ValueError.__init__" PyX.VE:=F.excBase_ValueError
def ZaG (T:Addr)(l:List Addr):Bool:=match l with
 | []=>true
 |a::r=>!(a == T) && !(r.contains a) && ZaG T r
theorem ZaF {T:Addr}:∀{l:List Addr},ZaG T l=true->(∀j k:Nat,∀a:Addr,l[j]?=some a->l[k]?=some a->j=k)/\∀a∈l,a≠T
 | [],_=>⟨fun j k a h=>by simp at h,fun a h=>by cases h⟩
 |b::r,h=>by
  unfold ZaG at h
  simp only[Bool.and_eq_true,Bool.not_eq_true'] at h
  obtain⟨⟨h1,h2⟩,h3⟩:=h
  obtain⟨i1,i2⟩:=ZaF h3
  have nb:b∉r:=fun z=>by
   have:=List.contains_iff_mem.mpr z
   rw[h2] at this;cases this
  refine⟨fun j k a hj hk=>?_,fun a ha=>?_⟩
  ·cases j with
   |zero=>
    cases k with
    |zero=>rfl
    |succ k=>
     have e:b=a:=by simpa using hj
     subst e
     have hk':r[k]?=some b:=by simpa using hk
     exact absurd (List.mem_of_getElem? hk') nb
   |succ j=>
    cases k with
    |zero=>
     have e:b=a:=by simpa using hk
     subst e
     have hj':r[j]?=some b:=by simpa using hj
     exact absurd (List.mem_of_getElem? hj') nb
    |succ k=>rw[i1 j k a (by simpa using hj) (by simpa using hk)]
  ·rcases List.mem_cons.mp ha with rfl|ha
   ·intro z;subst z;simp at h1
   ·exact i2 a ha
def U7 (l:List Ec)(k:Nat):Ec:=l.getD k ⟨0,0,#[]⟩
theorem Vu {l:List Ec}{k:Nat}(h:k<l.length):(l.map Ec.C)[k]?=some (U7 l k).C:=by
 unfold U7
 rw[Zc,Zb,Zf h]
 rfl
theorem k12 {k:Nat}(h:k<12):k=0\/k=1\/k=2\/k=3\/k=4\/k=5\/k=6\/k=7\/k=8\/k=9\/k=10\/k=11:=by omega
structure BlV (mg:Str->Option Value):Prop where
 ve:mg "ValueError"=none
section
variable {P:Program}{w:World}{K:PySem.W.Frag}{mg:Str->Option Value}{base:Heap}{T U:Addr}{et:Array DictEntry}{c:Nat->Ec}
theorem Cs.kit (S:Cs K mg T U et c){j k:Nat}(hj:j<12)(hk:k<12):PySem.W.kitOne K (.ref (c k).C) (.ref (c j).C)=some (decide (j=k)):=by
 rw[(S.ok k hk).c.kitR (S.ok j hj).c]
 have e1:(Value.ref (c j).C == Value.ref T)=false:=by
  refine Bool.eq_false_iff.mpr fun q=>S.neT j hj (Value.ref.inj (beq_iff_eq.mp q))
 congr 1
 rw[List.contains_cons,List.contains_cons,e1]
 by_cases q:j=k
 ·subst q;simp
 ·have e2:(Value.ref (c j).C == Value.ref (c k).C)=false:=Bool.eq_false_iff.mpr fun z=>q (S.inj j k hj hk (Value.ref.inj (beq_iff_eq.mp z)))
  rw[e2,decide_eq_false q]
  rfl
def ZhM (c:Nat->Ec):List V->Hp->VK->Prop:=fun xs H Q=>∃a k j d,xs=[.ref a,.ref (c j).C]/\k<12/\j<12/\H a=some (exO a (c k).C d)/\Q (.bl (decide (j=k))) H
theorem isE {X:Cx}(S:Cs K mg T U et c)(hI:K.In base)(hK:X.K=K:=by rfl)(hB:X.base=base:=by rfl):ZN X (.builtin "isinstance") (ZhM c):=by
 subst hK hB
 intro pins s σ H xs us Q I r h
 obtain⟨a,k,j,d,rfl,hk,hj,ha,q⟩:=h
 obtain⟨cd,h1,_⟩:=(S.ok k hk).c.cls
 refine Ud pins s σ H _ us Q I r ⟨a,_,d,_,T,U,_,_,_,cd,_,_,rfl,ha,h1,(S.ok k hk).noC S.tb,(S.ok k hk).two S.tb hI,fun cv rc=>?_,q⟩
 cases (show cv=Value.ref _ from rc)
 exact S.kit hj hk
def ZhL (c:Nat->Ec):List V->Hp->VK->Prop:=fun xs H Q=>∃a k d,xs=[.ref a,.ty "ValueError"]/\k<12/\H a=some (exO a (c k).C d)/\Q (.bl true) H
theorem isV {X:Cx}(S:Cs K mg T U et c)(hI:K.In base)(hK:X.K=K:=by rfl)(hB:X.base=base:=by rfl):ZN X (.builtin "isinstance") (ZhL c):=by
 subst hK hB
 intro pins s σ H xs us Q I r h
 obtain⟨a,k,d,rfl,hk,ha,q⟩:=h
 obtain⟨cd,h1,_⟩:=(S.ok k hk).c.cls
 refine Ud pins s σ H _ us Q I r ⟨a,_,d,_,T,U,_,_,_,cd,_,_,rfl,ha,h1,(S.ok k hk).noC S.tb,(S.ok k hk).two S.tb hI,fun cv rc=>?_,q⟩
 cases (show cv=Value.type "ValueError" from rc)
 exact (S.ok k hk).c.kitV
theorem Cs.any (S:Cs K mg T U et c){k:Nat}(hk:k<12):∀(js:List Nat) (its:List Value),(∀j∈js,j<12)->ZE (js.map fun j=>V.ref (c j).C) its->PySem.W.kitAny K (.ref (c k).C) its=some (js.any fun j=>decide (j=k))
 | [],its,_,h=>by cases h;rfl
 |j::js,its,hl,h=>by
  cases h with
  |cons r rs=>
   cases (show _=Value.ref (c j).C from r)
   have ih:=S.any hk js _ (fun i hi=>hl i (List.mem_cons_of_mem _ hi)) rs
   have h1:=S.kit (hl j List.mem_cons_self) hk
   unfold PySem.W.kitAny
   rw[h1,List.any_cons]
   by_cases e:j=k
   ·rw[decide_eq_true e];rfl
   ·rw[decide_eq_false e];exact ih
def ZeY (c:Nat->Ec):List V->Hp->VK->Prop:=fun xs H Q=>∃(a:Addr) (k:Nat) (d:Option Addr) (tp:Addr) (js:List Nat),xs=[.ref a,.ref tp]/\k<12/\(∀j∈js,j<12)/\H a=some (exO a (c k).C d)/\H tp=some (.tup (js.map fun j=>V.ref (c j).C))/\Q (.bl (js.any fun j=>decide (j=k))) H
theorem isT {X:Cx}(S:Cs K mg T U et c)(hI:K.In base)(hK:X.K=K:=by rfl)(hB:X.base=base:=by rfl):ZN X (.builtin "isinstance") (ZeY c):=by
 subst hK hB
 intro pins s σ H xs us Q I r h
 obtain⟨a,k,d,tp,js,rfl,hk,hj,ha,ht,q⟩:=h
 obtain⟨cd,h1,_⟩:=(S.ok k hk).c.cls
 exact ZbB pins s σ H _ us Q I r ⟨a,_,d,_,T,U,_,_,_,cd,tp,_,_,rfl,ha,ht,h1,(S.ok k hk).noC S.tb,(S.ok k hk).two S.tb hI,fun its rv=>S.any hk js its hj rv,q⟩
theorem clv {X:Cx}{x:Str}{C:Addr}{pos:Pos}(hm:X.mg x=some (.ref C))(hg:YG X.env.scope x=true:=by kernel_rfl)(hd:(x == ("__debug__":Str))=false:=by kernel_rfl):PE X (.Name x pos) (tC (.ref C)):=Zas (Y5 hg) hm rfl hd
theorem Cs.catchR {X:Cx}(S:Cs K mg T U et c)(hI:K.In base){k:Nat}(hk:k<12){i:Nat}{ts:TS}{D:Ws}{d:Option Addr}{H:Hp}(hB:X.base=base)
  (h:∀a,H a=none->ts (ZfI D i) ((noSt X).set i (some (.ref a))) (upd H a (exO a (c k).C d))):Ut X T i ts D (.ref (c k).C) d H:=by
 subst hB
 have two:=(S.ok k hk).two S.tb hI
 refine⟨_,_,_,_,_,_,rfl,two.c.ex,two.t.ex,rfl,?_,h⟩
 rw[List.contains_cons,List.contains_cons]
 simp
end
end C10
namespace C10
open PySem L2 PySem.Spec PyProof.Rows
open Tb Pm
abbrev ZaY:Stmt:=top 22
abbrev XF:Stmt:=top 23
def defOf:List Stmt->Arguments×List Stmt×Scope×Pos
 | [_,_,.FunctionDef _ a b _ _ _ sc _ _ p,_]=>(a,b,sc,p)
 |_=>(default,[],default,⟨0,0,0,0⟩)
abbrev pA:Arguments:=(defOf (ZO ZaY)).1
abbrev pB:List Stmt:=(defOf (ZO ZaY)).2.1
abbrev pSc:Scope:=(defOf (ZO ZaY)).2.2.1
abbrev ZdI:Pos:=(defOf (ZO ZaY)).2.2.2
abbrev qPr:Str:="together.<locals>.product"
def Zaw:List Stmt->Arguments×Expr×Scope×Pos
 | [_,.Return (some (.Call _ [_,.Lambda a b sc p] _ _)) _]=>(a,b,sc,p)
 |_=>(default,.Constant .none 0 ⟨0,0,0,0⟩,default,⟨0,0,0,0⟩)
abbrev ZgQ:Arguments:=(Zaw (ZO XF)).1
abbrev ZgP:Expr:=(Zaw (ZO XF)).2.1
abbrev ZcD:Scope:=(Zaw (ZO XF)).2.2.1
abbrev ZdY:Pos:=(Zaw (ZO XF)).2.2.2
abbrev UG:Str:="renamed.<locals>.<lambda>"
theorem Ve {t1 t2:List (List Nat)}(P1:PW t1)(P2:PW t2){x y:Nat}(hx:x<t1.length*t2.length)(hy:y<t1.length*t2.length):Uk t1 t2 x y<t1.length*t2.length:=by
 have a2:=P2.n1
 have xa:x / t2.length<t1.length:=Nat.div_lt_of_lt_mul (by rw[Nat.mul_comm];exact hx)
 have ya:y / t2.length<t1.length:=Nat.div_lt_of_lt_mul (by rw[Nat.mul_comm];exact hy)
 have l1:=P1.lt _ _ xa ya
 have l2:=P2.lt _ _ (Nat.mod_lt x a2) (Nat.mod_lt y a2)
 unfold Uk
 calc _<ZW t1 (x / t2.length) (y / t2.length)*t2.length+t2.length:=by omega
  _=(ZW t1 (x / t2.length) (y / t2.length)+1)*t2.length:=by rw[Nat.add_mul,Nat.one_mul]
  _<=_:=Nat.mul_le_mul_right _ l1
theorem UH {t1 t2:List (List Nat)}{x y:Nat}(hx:x<t1.length*t2.length)(hy:y<t1.length*t2.length):ZW (pt t1 t2) x y=Uk t1 t2 x y:=by
 unfold ZW pt
 rw[Zb,Zb,Zc,List.getElem?_range hx]
 show (((List.range _).map (Uk t1 t2 x))[y]?).getD 0=_
 rw[Zc,List.getElem?_range hy]
 rfl
theorem Zcf {t1 t2:List (List Nat)}:(pt t1 t2).length=t1.length*t2.length:=by unfold pt;rw[Za,Zg]
theorem Ze3 {t1 t2:List (List Nat)}(P1:PW t1)(P2:PW t2):Sub (pt t1 t2) (List.range (t1.length*t2.length)):=by
 have n1:1<=t1.length*t2.length:=Nat.mul_pos P1.n1 P2.n1
 refine⟨by rw[Zg];exact n1,List.nodup_range,fun v hv=>by rw[Zcf];exact List.mem_range.mp hv,range_getD n1,fun a ha b hb=>?_⟩
 have ha:=List.mem_range.mp ha
 have hb:=List.mem_range.mp hb
 rw[UH ha hb]
 exact List.mem_range.mpr (Ve P1 P2 ha hb)
theorem Ze4 {t1 t2:List (List Nat)}(P1:PW t1)(P2:PW t2):WP (pt t1 t2) (List.range (t1.length*t2.length))=pt t1 t2:=by
 unfold WP
 conv=>rhs;unfold pt
 refine List.map_congr_left fun a ha=>List.map_congr_left fun b hb=>?_
 have ha:=List.mem_range.mp ha
 have hb:=List.mem_range.mp hb
 rw[UH ha hb,Za4 (Ve P1 P2 ha hb)]
theorem JE:∀(l gs:List Nat),l.Nodup->(∀a∈l,a∈gs)->gs.length<=l.length->List.Perm gs l
 | [],gs,_,_,h=>by
  have:gs=[]:=List.length_eq_zero_iff.mp (Nat.le_zero.mp h)
  rw[this]
 |a::l,gs,nd,hm,h=>by
  have ha:=hm a List.mem_cons_self
  have nd':=List.nodup_cons.mp nd
  have ih:=JE l (gs.erase a) nd'.2 (fun b hb=>(List.mem_erase_of_ne (fun z:b=a=>nd'.1 (z▸hb))).mpr (hm b (List.mem_cons_of_mem _ hb))) (by rw[List.length_erase_of_mem ha];simp only[Zi] at h;omega)
  exact (List.perm_cons_erase ha).trans (ih.cons a)
theorem Vh {gs:List Nat}{n:Nat}(hl:gs.length=n)(hall:∀k,k<n->k∈gs):gs.Nodup:=
 (JE (List.range n) gs List.nodup_range (fun a ha=>hall a (List.mem_range.mp ha)) (by rw[Zg];omega)).symm.nodup List.nodup_range
theorem ZdJ {t:List (List Nat)}{gs:List Nat}(P1:PW t)(hl:gs.length=t.length)(hlt:∀g∈gs,g<t.length)(hall:∀k,k<t.length->k∈gs)(h0:gs.getD 0 1=0):Sub t gs:=by
 have n1:=P1.n1
 refine⟨by omega,?_,hlt,?_,fun a ha b hb=>hall _ (P1.lt _ _ (hlt a ha) (hlt b hb))⟩
 ·exact Vh hl hall
 ·cases gs with
  |nil=>rfl
  |cons g r=>exact h0
def EvP (f1 c1:Addr)(cl:List (Str×Addr))(doc pm ct:Value)(g1 g2:Addr)(t1 t2:List (List Nat)):Hp->Prop:=fun H=>H f1=some (YR f1 (UY "product" qPr pA pB pSc cl doc pm c1 ct))/\H c1=some (Yo c1 qPr)/\GT H g1 t1/\GT H g2 t2
def ZbT (Ev:Hp->Prop)(t1 t2:List (List Nat)):Sp:=fun vs H Q _=>∃x y:Nat,vs=[.int (x:Nat),.int (y:Nat)]/\Ev H/\x<t1.length*t2.length/\y<t1.length*t2.length/\∀H',Zw H H'->Q (.int (Uk t1 t2 x y:Nat)) H'
section
variable {P:Program}{w:World}{K:PySem.W.Frag}{mg:Str->Option Value}{base:Heap}{T U:Addr}{et:Array DictEntry}{c:Nat->Ec}
theorem ZbX:WH ["pair", "second", "one", "count", "other"] ["pair", "second"] ["one", "count", "other"] pSc:=⟨rfl,rfl,rfl,by decide +kernel,by decide +kernel,rfl,by decide +kernel,by decide +kernel,by decide +kernel⟩
theorem ZdP {f1 c1 g1 g2:Addr}{cl:List (Str×Addr)}{doc pm ct:Value}{t1 t2:List (List Nat)}(C:W1 base cl ["one", "count", "other"] [.ref g1,.int (t2.length:Nat),.ref g2])(P1:PW t1)(P2:PW t2)(n60:t1.length*t2.length<=60) :
  Z5 P w K mg base Yp 1 f1 (PySem.W.fnX "product" qPr pA pB pSc cl .none .none doc pm none (.ref c1) ct) ["pair", "second"] (ZbT (EvP f1 c1 cl doc pm ct g1 g2 t1 t2) t1 t2):=by
 refine ZfE ZbX C (fun vs H Q E h=>?_) (fun vs s H Q E hok h=>?_) (fun A outer s H vs Q E hr h=>?_)
 ·obtain⟨x,y,rfl,_⟩:=h;rfl
 ·obtain⟨x,y,rfl,e,_⟩:=h
  exact⟨⟨_,_,_,Vn hok e.1⟩,ZaL hok e.2.1⟩
 ·obtain⟨x,y,rfl,e,hx,hy,q⟩:=h
  obtain⟨_,_,G1,G2⟩:=e
  refine⟨_,Zx (ZF (Zz ZZ (Zz ZR (ZB (Jw K) (ZB (Jw K) (vn 2) (Zz Y3 (vn 0) (vn 3)) (fun _ _=>rfl)) (Zz Y3 (vn 1) (vn 3)) (fun _ _=>rfl)) (vn 3)) (ZB (Jw K) (ZB (Jw K) (vn 4) (Zz Z4 (vn 0) (vn 3)) (fun _ _=>rfl)) (Zz Z4 (vn 1) (vn 3)) (fun _ _=>rfl)))),?_⟩
  have a1:=P1.n1
  have a2:=P2.n1
  have b1:=P1.n60
  have b2:=P2.n60
  have xa:x / t2.length<t1.length:=Nat.div_lt_of_lt_mul (by rw[Nat.mul_comm];exact hx)
  have xb:x % t2.length<t2.length:=Nat.mod_lt _ (by omega)
  have ya:y / t2.length<t1.length:=Nat.div_lt_of_lt_mul (by rw[Nat.mul_comm];exact hy)
  have yb:y % t2.length<t2.length:=Nat.mod_lt _ (by omega)
  obtain⟨q1,q2,q3,_,q4,q5,q6⟩:=G1.at P1 xa
  obtain⟨p1,p2,p3,_,p4,p5,p6⟩:=G2.at P2 xb
  have l1:=P1.lt _ _ xa ya
  have dv:((0:Int)<(t2.length:Nat)/\((t2.length:Nat):Int)<1073741824):=⟨by omega,by omega⟩
  refine⟨_,rfl,_,rfl,_,rfl,_,_,rfl,rfl,dv,g1,_,_,_,rfl,rfl,.of q3,q4,_,rfl,_,rfl,_,_,rfl,rfl,dv,q2,_,_,_,rfl,rfl,q5.sq,q6 _ ya,_,rfl,_,_,rfl,rfl,.inl ⟨by omega,by omega⟩,?_⟩
  refine⟨_,rfl,_,rfl,_,rfl,_,_,rfl,rfl,dv.1,g2,_,_,_,rfl,rfl,.of p3,p4,_,rfl,_,rfl,_,_,rfl,rfl,dv.1,p2,_,_,_,rfl,rfl,p5.sq,p6 _ yb,_,_,rfl,rfl,?_⟩
  have:=q H (Zw.refl H)
  unfold Uk at this
  push_cast at this ⊢
  exact this
def EvL (f1 c1:Addr)(cl:List (Str×Addr))(pm ct:Value)(g:Addr)(t:List (List Nat)):Hp->Prop:=fun H=>H f1=some (YR f1 (V2 UG ZgQ ZgP ZcD cl pm c1 ct))/\H c1=some (Yo c1 UG)/\GT H g t
def Zek (Ev:Hp->Prop)(t:List (List Nat))(o:List Nat):Sp:=fun vs H Q _=>∃x y:Nat,vs=[.int (x:Nat),.int (y:Nat)]/\Ev H/\x∈o/\y∈o/\∀H',Zw H H'->Q (.int (ZW t x y:Nat)) H'
theorem GT.bt {H H':Hp}{g Pt:Addr}{t:List (List Nat)}{pos:Pos}{qual:Str}(TB:Jl H Pt pos qual)(b:Bt Pt H H')(G:GT H g t):GT H' g t:=by
 obtain⟨rs,h1,h2,h3⟩:=G
 refine⟨rs,b _ _ h1 (TB.ne h1 fun _ z=>by cases z),h2,fun i r hr=>?_⟩
 obtain⟨ob,e1,e2⟩:=h3 i r hr
 exact⟨ob,b _ _ e1 (TB.ne e1 fun _ z=>by cases z),e2⟩
theorem Y9.bt {K:PySem.W.Frag}{H H':Hp}{a Pt:Addr}{xs:List V}{pos:Pos}{qual:Str}(T:Jl H Pt pos qual)(d:Bt Pt H H')(h:Y9 K H a xs):Y9 K H' a xs:=by
 rcases h with (h|⟨o,h⟩)|h
 ·exact .inl (.inl (d _ _ h (T.ne h fun _ z=>by cases z)))
 ·exact .inl (.inr ⟨o,d _ _ h (T.ne h fun _ z=>by cases z)⟩)
 ·exact .inr h
theorem Zgk:WH ["a", "b", "group"] ["a", "b"] ["group"] ZcD:=⟨rfl,rfl,rfl,by decide +kernel,by decide +kernel,rfl,by decide +kernel,by decide +kernel,by decide +kernel⟩
theorem Zfn {f1 c1 g:Addr}{cl:List (Str×Addr)}{pm ct:Value}{t:List (List Nat)}{o:List Nat}(C:W1 base cl ["group"] [.ref g])(Pt:PW t)(S:Sub t o) :
  Z5 P w K mg base Yp 1 f1 (PySem.W.kla_fn "<lambda>" UG ZgQ ZgP ZcD cl pm (.ref c1) ct) ["a", "b"] (Zek (EvL f1 c1 cl pm ct g t) t o):=by
 refine ZfD Zgk C (fun vs H Q E h=>?_) (fun vs s H Q E hok h=>?_) (fun A outer s H vs Q E hr h=>?_)
 ·obtain⟨x,y,rfl,_⟩:=h;rfl
 ·obtain⟨x,y,rfl,e,_⟩:=h
  exact⟨⟨_,_,_,Vn hok e.1⟩,ZaL hok e.2.1⟩
 ·obtain⟨x,y,rfl,e,hx,hy,q⟩:=h
  obtain⟨_,_,G⟩:=e
  refine⟨_,ZB (Jw K) (ZB (Jw K) (vn 2) (vn 0) (fun _ _=>rfl)) (vn 1) (fun _ _=>rfl),?_⟩
  obtain⟨rs,r2,g1,_,g2,g3,g4⟩:=G.at Pt (S.lt x hx)
  exact⟨_,rfl,_,rfl,g,_,_,_,rfl,rfl,.of g1,g2,_,rfl,r2,_,_,_,rfl,rfl,g3.sq,g4 y (S.lt y hy),q H (Zw.refl _)⟩
def UB (K:PySem.W.Frag)(Pr:Addr)(c:Nat->Ec):Sp:=fun vs H Q E=>∃(g:Addr) (x:V) (t:List (List Nat)) (o:Option (List V)),vs=[.ref g,x]/\GT H g t/\PW t/\Tg H x o/\Jl H Pr ZdY UG/\
 (∀gs r H',Ju t.length o->o=some (gs.map nV)->Sub t gs->Bt Pr H H'->Jl H' Pr ZdY UG->GT H' r (WP t gs)->Q (.ref r) H')/\(¬Ju t.length o->∀H',Zw H H'->E (.ref (c 8).C) none H')
theorem GT.len {K:PySem.W.Frag}{H:Hp}{g:Addr}{t:List (List Nat)}(G:GT H g t):∃xs,Y9 K H g xs/\xs.length=t.length:=by
 obtain⟨rs,h1,h2,_⟩:=G
 exact⟨_,.of h1,by rw[Za,h2]⟩
theorem ZdO {f cc Pr:Addr}{fd:FuncData}(F:Wt K "renamed" "renamed" XF f fd)(hcv:fd.code=.ref cc)(hc:PySem.W.codeHdIn K cc Pr=true)(Bm:WT base mg)(B:Bl mg)(S:Cs K mg T U et c)(hI:K.In base)(GO:Fn P w K mg base Yp 3 "is_order" ["thing", "count"] Zei)
  (GT':∀base',Fn P w K mg base' Yp 2 "tabled" ["things", "product"] (J3 P w K mg base')):Z5 P w K mg base (CXE P w) 4 f fd ["group", "order"] (UB K Pr c):=by
 obtain⟨oc,od,kV,doc,pm,an,cdv,ct0,osl,rfl,lk,hcd⟩:=F.ex
 have e:cdv=.ref cc:=hcv
 subst e
 refine ZcN lk hcd (FS (N:=["group", "order"])) (fun vs H Q E h=>?_) fun A outer s H vs Q E hr h=>?_
 ·obtain⟨g,x,t,o,rfl,_⟩:=h;rfl
 ·obtain⟨g,x,t,o,rfl,G,Pt1,hx,TB,q,qE⟩:=h
  have two:PyX.Xx base (c 8).C (c 8).N T U PyX.Wu (nsFind (c 8).es) (nsFind et):=(S.ok 8 (by decide)).two S.tb hI
  refine⟨_,Zu (YK (Vd (Js (Y7 GO hr ZG (pc (vn 1) (pc (cb (Y1 K) B.len (pc (vn 0) Zs)) Zs))))) (Zx (XI rfl two (S.pl 8 (by decide) (by decide)) fVE (Y5 (by kernel_rfl)) (S.mgC 8 (by decide)) (S.ok 8 (by decide)).c.kp (pc Wx Zs) J1 (by kernel_rfl))) ZY)
   (Zx (ZF (VR GT' hr ZG (pc (vn 1) (pc (Zfd rfl hc Bm rfl (ZcC (by kernel_rfl))) Zs))))),?_⟩
  have n1:=Pt1.n1
  have n60:=Pt1.n60
  obtain⟨gxs,u1,u2⟩:=GT.len (K:=K) G
  refine⟨_,rfl,_,rfl,g,gxs,rfl,.inr u1,x,o,t.length,by rw[u2];rfl,n1,n60,hx,fun b H1 s1 hb=>⟨_,rfl,?_⟩⟩
  refine Y2 (fun hk=>?_) (fun hk=>?_)
  ·refine⟨(by show 1<=sizeLine;decide),qE (fun z=>?_) H1 s1⟩
   rw[hb.mpr z] at hk
   cases hk
  ·have hk:b=true:=by simpa using hk
   obtain⟨gs,rfl,hl,hlt,hall,h0⟩:=hb.mp hk
   have Sb:=ZdJ Pt1 hl hlt hall h0
   obtain⟨a,rfl,ha,_,_⟩:=hx
   have TB1:=TB.mono s1
   refine⟨_,rfl,TB1,fun f1 c1 ct cl pm H3 C nf bt tb hf hc1=>fun base' Wd=>?_⟩
   have G3:=GT.bt TB1 bt (G.mono s1)
   have ha3:Y9 K H3 a (gs.map nV):=Y9.bt TB1 bt (ha.mono s1).sq
   have ca:W1 base' cl ["group"] [.ref g]:=by
    have on:∀x c,cl.lookup x=some c->x = "group":=fun x c h=>by
     have h:=C.only x c h
     rcases List.mem_cons.mp h with h|h
     ·cases h
     rcases List.mem_cons.mp h with h|h
     ·cases h
     rcases List.mem_cons.mp h with h|h
     ·cases h;rfl
     ·cases h
    refine⟨rfl,fun i x v hx hv=>?_,fun x c h=>?_,fun x y c h1 h2=>?_⟩
    ·match i,hx,hv with
     |0,hx,hv=>
      cases hx
      cases hv
      obtain⟨c2,h⟩:=C.all ("group",.free) (by decide) rfl
      obtain⟨u,a1,a2⟩:=Wd.cells 0 "group" (.ref g) c2 rfl rfl (.inr (.inl rfl)) (C.cells _ _ h) (.inl rfl) rfl
      exact⟨c2,u,h,a1,a2⟩
     |i+1,hx,hv=>cases hx
    ·rw[on x c h];simp
    ·rw[on x c h1,on y c h2]
   have hEv:EvL f1 c1 cl pm ct g t H3:=⟨hf,hc1,G3⟩
   refine⟨a,f1,t,gs,EvL f1 c1 cl pm ct g t,rfl,ha3,Sb,by omega,hEv,⟨fun H H' s h=>⟨s _ _ h.1,s _ _ h.2.1,h.2.2.mono s⟩,_,_,_,_,_,Zek (EvL f1 c1 cl pm ct g t) t gs,fun H h=>h.1,Zfn ca Pt1 Sb,.all fun us hl=>?_,fun H x y Q h hx hy k=>⟨x,y,rfl,h,hx,hy,k⟩⟩,fun r H5 s5 hr5=>?_⟩
   ·match us,hl with | [_,_],_=>rfl
   ·exact q gs r H5 ⟨gs,rfl,hl,hlt,hall,h0⟩ rfl Sb (((Bt.of s1).trans bt).trans (.of s5)) (tb.mono s5) hr5
def ZbS (K:PySem.W.Frag)(Pg:Addr)(c:Nat->Ec):Sp:=fun vs H Q E=>∃(g1 g2:Addr) (t1 t2:List (List Nat)),vs=[.ref g1,.ref g2]/\GT H g1 t1/\GT H g2 t2/\PW t1/\PW t2/\Jl H Pg ZdI qPr/\
 (t1.length*t2.length<=60->∀r H',Bt Pg H H'->Jl H' Pg ZdI qPr->GT H' r (pt t1 t2)->Q (.ref r) H')/\(60<t1.length*t2.length->∀H',Zw H H'->E (.ref (c 7).C) none H')
theorem Zfh {f cc Pg:Addr}{fd:FuncData}{tk:Tok}(F:Wt K "together" "together" ZaY f fd)(hcv:fd.code=.ref cc)(hc:PySem.W.codeHdIn K cc Pg=true)(Bm:WT base mg)(B:Bl mg)(hM:mg "MOST_THINGS"=some (.int 60 tk))(S:Cs K mg T U et c)(hI:K.In base)
  (GT':∀base',Fn P w K mg base' Yp 2 "tabled" ["things", "product"] (Jp P w K mg base')):Z5 P w K mg base (CXE P w) 3 f fd ["one", "other"] (ZbS K Pg c):=by
 obtain⟨oc,od,kV,doc,pm,an,cdv,ct0,osl,rfl,lk,hcd⟩:=F.ex
 have e:cdv=.ref cc:=hcv
 subst e
 refine ZcN lk hcd (FS (N:=["one", "other", "count", "product"])) (fun vs H Q E h=>?_) fun A outer s H vs Q E hr h=>?_
 ·obtain⟨g1,g2,t1,t2,rfl,_⟩:=h;rfl
 ·obtain⟨g1,g2,t1,t2,rfl,G1,G2,P1,P2,TB,q,qE⟩:=h
  have two:PyX.Xx base (c 7).C (c 7).N T U PyX.Wu (nsFind (c 7).es) (nsFind et):=(S.ok 7 (by decide)).two S.tb hI
  refine⟨_,Zu (ZP 2 rfl (cb (Y1 K) B.len (pc (vn 1) Zs)))
   (Zu (YK (ZL XL (Zz ZR (cb (Y1 K) B.len (pc (vn 0) Zs)) (vn 2)) (ZhZ hM) (ZS _)) (Zx (XI rfl two (S.pl 7 (by decide) (by decide)) fVE (Y5 (by kernel_rfl)) (S.mgC 7 (by decide)) (S.ok 7 (by decide)).c.kp (pc Wx Zs) J1 (by kernel_rfl))) ZY)
   (Zu (Ze8 3 rfl hc Bm rfl rfl rfl rfl (by kernel_rfl) rfl (by kernel_rfl) rfl (ZcC (by kernel_rfl)))
   (Zx (ZF (VR GT' hr ZG (pc (ct (Wb rfl) B.list (pc (ct JM B.range (pc (Zz ZR (cb (Y1 K) B.len (pc (vn 0) Zs)) (vn 2)) Zs)) Zs)) (pc (vn 3) Zs))))))),?_⟩
  have a1:=P1.n1
  have a2:=P2.n1
  have b1:=P1.n60
  have b2:=P2.n60
  obtain⟨xs1,u1,v1⟩:=GT.len (K:=K) G1
  obtain⟨xs2,u2,v2⟩:=GT.len (K:=K) G2
  have eNi:(t1.length:Int)*(t2.length:Int)=((t1.length*t2.length:Nat):Int):=by push_cast;rfl
  refine⟨_,rfl,g2,xs2,rfl,.inr u2,?_⟩
  rw[v2]
  refine⟨_,rfl,g1,xs1,rfl,.inr u1,_,rfl,_,_,rfl,rfl,.inl ⟨by rw[v1];omega,by rw[v1];omega⟩,_,_,rfl,rfl,_,rfl,?_⟩
  rw[v1,eNi]
  refine Y2 (fun hk=>?_) (fun hk=>?_)
  ·have hk:=of_decide_eq_true hk
   exact⟨(by show 1<=sizeLine;decide),qE (by omega) H (Zw.refl H)⟩
  ·have hk:t1.length*t2.length<=60:=by
    have:¬((60:Int)<((t1.length*t2.length:Nat):Int)):=fun z=>hk (decide_eq_true z)
    omega
   refine⟨TB,fun f1 c1 ct doc' cl pm' H3 C nf bt tb hf hc1=>?_⟩
   have G13:=GT.bt TB bt G1
   have G23:=GT.bt TB bt G2
   have u13:=Y9.bt TB bt u1
   refine⟨_,rfl,g1,xs1,rfl,.inr u13,_,rfl,_,_,rfl,rfl,.inl ⟨by rw[v1];omega,by rw[v1];omega⟩,_,rfl,fun R nR=>?_⟩
   rw[v1,eNi]
   have s4:=Zw.upd (H:=H3) (o:=.rng 0 ((t1.length*t2.length:Nat):Int)) nR
   have hR:=Zt (H:=H3) (a:=R) (o:=.rng 0 ((t1.length*t2.length:Nat):Int))
   generalize upd H3 R (.rng 0 ((t1.length*t2.length:Nat):Int))=H4 at s4 hR ⊢
   have sz:(16777216:Nat)=sizeLine:=by decide
   refine⟨R,0,_,rfl,hR,⟨by omega,by omega,by omega,by omega⟩,by omega,fun l nl=>?_⟩
   have er:(Yk 0 (((t1.length*t2.length:Nat):Int)-0).toNat).map V.int=(List.range (t1.length*t2.length)).map nV:=by
    rw[show (((t1.length*t2.length:Nat):Int)-0).toNat=t1.length*t2.length by omega]
    unfold Yk
    rw[List.map_map]
    refine List.map_congr_left fun k _=>?_
    show V.int (0+(k:Int))=V.int (k:Int)
    rw[Int.zero_add]
   rw[er]
   have s5:=s4.trans (Zw.upd (H:=H4) (o:=.lst ((List.range (t1.length*t2.length)).map nV)) nl)
   have hl:=Zt (H:=H4) (a:=l) (o:=.lst ((List.range (t1.length*t2.length)).map nV))
   generalize upd H4 l (.lst ((List.range (t1.length*t2.length)).map nV))=H5 at s5 hl ⊢
   refine⟨_,rfl,fun base' Wd=>?_⟩
   have ca:W1 base' cl ["one", "count", "other"] [.ref g1,.int (t2.length:Nat),.ref g2]:=by
    have on:∀x c,cl.lookup x=some c->x∈(["one", "count", "other"]:List Str):=fun x c h=>by
     have h:=C.only x c h
     exact ZbX.fr _ h rfl
    refine⟨rfl,fun i x v hx hv=>?_,fun x c h=>on x c h,fun x y c h1 h2=>?_⟩
    ·match i,hx,hv with
     |0,hx,hv=>
      cases hx
      cases hv
      obtain⟨c2,h⟩:=C.all ("one",.free) (by decide) rfl
      obtain⟨u,a1,a2⟩:=Wd.cells 0 "one" (.ref g1) c2 rfl rfl (.inr (.inl rfl)) (C.cells _ _ h) (.inl rfl) rfl
      exact⟨c2,u,h,a1,a2⟩
     |1,hx,hv=>
      cases hx
      cases hv
      obtain⟨c2,h⟩:=C.all ("count",.free) (by decide) rfl
      obtain⟨u,a1,a2⟩:=Wd.cells 2 "count" (.int (t2.length:Nat)) c2 rfl rfl (.inr (.inl rfl)) (C.cells _ _ h) (.inl rfl) rfl
      exact⟨c2,u,h,a1,a2⟩
     |2,hx,hv=>
      cases hx
      cases hv
      obtain⟨c2,h⟩:=C.all ("other",.free) (by decide) rfl
      obtain⟨u,a1,a2⟩:=Wd.cells 1 "other" (.ref g2) c2 rfl rfl (.inr (.inl rfl)) (C.cells _ _ h) (.inl rfl) rfl
      exact⟨c2,u,h,a1,a2⟩
     |i+3,hx,hv=>cases hx
    ·have cA:∀x,cl.lookup ("one":Str)=some x->x=s.heap.objs.size+1:=fun x h=>(Option.some.inj (show some (s.heap.objs.size+1)=some x from C.cells ("one":Str) x h)).symm
     have cB:∀x,cl.lookup ("other":Str)=some x->x=s.heap.objs.size+1+1:=fun x h=>(Option.some.inj (show some (s.heap.objs.size+1+1)=some x from C.cells ("other":Str) x h)).symm
     have cC:∀x,cl.lookup ("count":Str)=some x->x=s.heap.objs.size+1+1+1:=fun x h=>(Option.some.inj (show some (s.heap.objs.size+1+1+1)=some x from C.cells ("count":Str) x h)).symm
     have on3:∀x c,cl.lookup x=some c->x = "one"\/x = "count"\/x = "other":=fun x c h=>by
      rcases List.mem_cons.mp (on x c h) with h|h
      ·exact .inl h
      rcases List.mem_cons.mp h with h|h
      ·exact .inr (.inl h)
      rcases List.mem_cons.mp h with h|h
      ·exact .inr (.inr h)
      ·cases h
     rcases on3 x c h1 with rfl|rfl|rfl <;> rcases on3 y c h2 with rfl|rfl|rfl
     ·rfl
     ·exact absurd ((cA _ h1).symm.trans (cC _ h2)) (by simp)
     ·exact absurd ((cA _ h1).symm.trans (cB _ h2)) (by simp)
     ·exact absurd ((cA _ h2).symm.trans (cC _ h1)) (by simp)
     ·rfl
     ·exact absurd ((cB _ h2).symm.trans (cC _ h1)) (by simp)
     ·exact absurd ((cA _ h2).symm.trans (cB _ h1)) (by simp)
     ·exact absurd ((cB _ h1).symm.trans (cC _ h2)) (by simp)
     ·rfl
   have hEv:EvP f1 c1 cl doc' pm' ct g1 g2 t1 t2 H5:=⟨s5 _ _ hf,s5 _ _ hc1,G13.mono s5,G23.mono s5⟩
   have Sb:=Ze3 P1 P2
   refine⟨l,f1,pt t1 t2,List.range (t1.length*t2.length),EvP f1 c1 cl doc' pm' ct g1 g2 t1 t2,rfl,.of hl,Sb,by rw[Zg];exact hk,hEv,⟨fun H H' s h=>⟨s _ _ h.1,s _ _ h.2.1,h.2.2.1.mono s,h.2.2.2.mono s⟩,_,_,_,_,_,ZbT (EvP f1 c1 cl doc' pm' ct g1 g2 t1 t2) t1 t2,fun H h=>h.1,ZdP ca P1 P2 hk,.all fun us hl=>?_,fun H x y Q h hx hy k=>?_⟩,fun r H6 s6 hr6=>?_⟩
   ·match us,hl with | [_,_],_=>rfl
   ·have hx:=List.mem_range.mp hx
    have hy:=List.mem_range.mp hy
    rw[UH hx hy] at k
    exact⟨x,y,rfl,h,hx,hy,k⟩
   ·rw[Ze4 P1 P2] at hr6
    exact q hk r H6 (bt.trans (.of (s5.trans s6))) (tb.mono (s5.trans s6)) hr6
end
end C10
namespace L2
open PySem PySem.Spec PyProof.Rows
structure YZ (k:Nat)(A:Around):Prop where
 dp:A.depth+3*k+5<recursionLimit
 un:A.units+16*k+200<cLine
 gd:A.guards=some []
theorem YZ.mark {k:Nat}{A:Around}(r:YM k A)(v:Option Value):YZ k (A.mark v):=⟨r.dp,r.un,r.gd⟩
theorem YZ.mono {j k:Nat}{A:Around}(r:YZ k A)(h:j<=k):YZ j A:=⟨by have:=r.dp;omega,by have:=r.un;omega,r.gd⟩
theorem YZ.deeper {k:Nat}{A:Around}(r:YZ (k+1) A)(env:Env):YZ k (A.deeper env):=
 ⟨by have:=r.dp;show A.depth+1+3*k+5<_;omega,by have:=r.un;show A.units+3+16*k+200<_;omega,r.gd⟩
theorem YZ.depth {k:Nat}{A:Around}(r:YZ k A):A.depth<recursionLimit:=by have:=r.dp;omega
structure ZaT (P:Program)(w:World)(K:PySem.W.Frag)(mg:Str->Option Value)(base:Heap)(k:Nat)(f:Addr)(fd:FuncData)(ps:List Str)(sp:Sp):Prop where
 len:∀vs H Q E,sp vs H Q E->vs.length=ps.length
 run:∀(A:Around) (outer:List Env) (s:Shared) (H:Hp) (args:Args) (us:List Value) (vs:List V) (Q:VK) (E:XK),YZ k A->Vw P w K mg base A outer s H->BindsTo s fd args (ps.zip us)->ZE vs us->sp vs H Q E->
  codeAny (model P w) A (.call (.ref f) args) (CR Yp outer P w H s Q E) s
def cxH (P:Program)(w:World)(K:PySem.W.Frag)(mg:Str->Option Value)(base:Heap)(N:List Str)(qual:Str)(scope:Scope)(f:Addr)(cd:Value)(A:Around)(outer:List Env)(s:Shared)(H:Hp)(E:XK):Cx:=
 {Xu Yp P w K mg base N qual scope f cd A outer s H E with calm:=false}
theorem UV {P:Program}{w:World}{K:PySem.W.Frag}{mg:Str->Option Value}{base:Heap}{N ps:List Str}{qual:Str}{scope:Scope}{f:Addr}{cd:Value}{A:Around}{outer:List Env}{s s1:Shared}{H:Hp}{E:XK}{us:List Value}{vs:List V}
  (S:WN N ps scope) (e0:Vw P w K mg base A outer s H) (hl:vs.length=ps.length) (r:ZE vs us)
  (x:InCallC s s.heap.objs.size (bindL (envOfC qual scope s.heap.objs.size f cd).kindOf (ps.zip us) fun _=>none) (cellsFrom (s.heap.objs.size+1) scope.names []) (bindC (envOfC qual scope s.heap.objs.size f cd).kindOf (ps.zip us) fun _=>none) s1) :
  Inv (cxH P w K mg base N qual scope f cd A outer s H E) [] (start N vs) H s1:=by
 have e1:Vw P w K mg base {A with handled:=none} outer s H:=⟨e0.frames,e0.mod,e0.bs,e0.bsz,e0.funs,e0.frf,e0.hok,e0.bare⟩
 have I:Inv (Xu Yp P w K mg base N qual scope f cd {A with handled:=none} outer s H E) [] (start N vs) H s1:=XW S rfl e1 hl r x
 exact⟨⟨I.ok.mod,I.ok.kind,I.ok.glob,I.ok.blt,I.ok.above,I.ok.inj,I.ok.has,I.ok.cab,fun z=>(by cases z),Around.frames_deeper e0.frames,I.ok.stk,I.ok.exf,I.ok.bs,I.ok.bsz,I.ok.noex,I.ok.exfs,I.ok.funs,I.ok.frf⟩,
  I.os,I.bare,I.base,I.loc,I.cell,I.free,I.freeC,I.pin,I.hok,I.len⟩
theorem Wt.okH {P:Program}{w:World}{K:PySem.W.Frag}{mg:Str->Option Value}{base:Heap}{x qual:Str}{st:Stmt}{f:Addr}{fd:FuncData}{N ps:List Str}{k:Nat}{sp:Sp}(F:Wt K x qual st f fd)(S:WN N ps (ZC st))(len:∀vs H Q E,sp vs H Q E->vs.length=ps.length)
  (hbody:∀(cdv:Value) (A:Around) (outer:List Env) (s:Shared) (H:Hp) (vs:List V) (Q:VK) (E:XK),YZ k (A.deeper (envOfC qual (ZC st) s.heap.objs.size f cdv))->sp vs H Q E->
   ∃t,Xz (cxH P w K mg base N qual (ZC st) f cdv A outer s H E).nox (ZO st) t/\t {nx:=fun _ H'=>Q .non H',rt:=Q} (start N vs) H):ZaT P w K mg base (k+1) f fd ps sp:=by
 obtain⟨oc,od,kV,doc,pm,an,cdv,ct,osl,rfl,lk,hcd⟩:=F.ex
 refine⟨len,fun A outer s H args us vs Q E hr e0 hb r hsp=>?_⟩
 have hl:=len _ _ _ _ hsp
 have KX:K.In s.heap:=e0.mod.kin.keeps fun b o e=>(e0.bs b o e).1
 have lim:s.heap.NoLimit:=e0.mod.nolimit.keeps fun b o e=>(e0.bs b o e).1
 have hkind:∀y∈ps.zip us,(ZC st).names.lookup y.1=some .local\/((ZC st).names.lookup y.1=some .cell/\((cellsFrom (s.heap.objs.size+1) (ZC st).names []).lookup y.1).isSome=true):=fun ⟨n,v⟩ hy=>by
  rcases S.par n (List.of_mem_zip hy).1 with q|q
  ·exact .inl q
  ·exact .inr ⟨q,PySem.W.cellsFrom_some _ _ _ (.inl q)⟩
 refine codeAny_call_function hr.depth (KX _ _ lk) rfl S.co S.gen rfl (PySem.W.codeRec_of KX hcd) (hb _ _ _ _ ?_)
 refine wpAny_newFunctionEnv_cells S.kind hkind fun env he s1 x=>?_
 subst he
 refine⟨lim.keeps x.toInCall.keep,codeAny_func ?_⟩
 obtain⟨t,ht,hq⟩:=hbody cdv A outer s H vs Q E (hr.deeper _) hsp
 have I:Inv (cxH P w K mg base N qual (ZC st) f cdv A outer s H E) [] (start N vs) H s1:=UV S e0 hl r x
 refine wpAny_mono (ht.nox [] s1 (start N vs) H _ I hq) (fun fl s' hs=>?_) fun e s' hs=>hs
 have fin:∀{σ':St}{H':Hp}{v:V}{u:Value},Inv (cxH P w K mg base N qual (ZC st) f cdv A outer s H E) [] σ' H' s'->RelV v u->Q v H'->CE outer P w H s Q u s':=
  fun {σ' H' v u} J rv q=>⟨v,H',J.os,J.bare,J.base,J.hok,rv,q⟩
 cases fl with
 |ret u=>
  obtain⟨v,σ',H',J,rv,q⟩:=hs
  exact fin J rv q
 |next=>
  obtain⟨σ',H',J,q⟩:=hs
  exact fin (v:=V.non) (u:=Value.none) J rfl q
 |brk=>
  obtain⟨_,_,_,q⟩:=hs
  exact False.elim q
 |cont=>
  obtain⟨_,_,_,q⟩:=hs
  exact False.elim q
def FnH (P:Program)(w:World)(K:PySem.W.Frag)(mg:Str->Option Value)(base:Heap)(k:Nat)(x:Str)(ps:List Str)(sp:Sp):Prop:=
 ∃f fd,ZaT P w K mg base k f fd ps sp/\mg x=some (.ref f)/\PySem.W.keepIn K (.ref f)=true/\Binds K fd ps []
theorem ZgT {X:Cx}{k j:Nat}{x:Str}{ps:List Str}{sp:Sp}{E:XK}{e:Expr}{es:List Expr}{t:TA}{p pos:Pos}(G:FnH X.prog X.w X.K X.mg X.base k x ps sp)(hr:YZ j X.A)(hx:WG Yp X E)(ha:PA X (e::es) t)(hk:k<=j:=by decide)
  (hg:YG X.env.scope x=true:=by kernel_rfl) (hd:(x == ("__debug__":Str))=false:=by kernel_rfl) (he:YE e=true:=by rfl) (hpl:Y4 es=true:=by rfl) :
  PE X (.Call (.Name x p) (e::es) [] pos) (ZbR sp [] E t):=by
 obtain⟨f,fd,F,hm,kp,b⟩:=G
 intro pins s σ H Q I h
 refine wpAny_Call_Name_kw (WL I (Y5 hg) hm ?_ hd)
 refine PySem.W.callWith_K (h₀:=X.base) I.ok.mod.kin kp (Z8 (ha pos pins s σ H _ I h) fun us s1 ⟨vs,H1,I1,r,q⟩=>⟨I1.kIn,?_⟩) (YD he) (Yu hpl)
 have r2:ZE (vs++[]) (us++[]):=r.append .nil
 have hl:(us++[]).length=ps.length:=by rw[<-r2.length];exact F.len _ _ _ _ q
 refine wpAny_call (codeAny_mono (F.run X.A X.stack s1 H1 ⟨us,[]⟩ (us++[]) (vs++[]) Q E (hr.mono hk) I1.env0 (b s1 us I1.kIn hl) r2 q) fun r s' hq=>?_)
 cases r with
 |error e=>exact hx pins σ H1 s1 e s' I1 hq
 |ok fl=>
  cases fl with
  |ret u=>exact I1.after hq
  |next=>exact False.elim hq
  |brk=>exact False.elim hq
  |cont=>exact False.elim hq
theorem ZD.fnH {P:Program}{w:World}{K:PySem.W.Frag}{mg:Str->Option Value}{base h:Heap}{k:Nat}{x:Str}{ps:List Str}{sp:Sp}{st:Stmt}(D:ZD K x st)(X:K.In h)(G:h.Ns mainGlobals mg)
  (hok:∀f fd,Wt K x x st f fd->ZaT P w K mg base k f fd ps sp)
  (hb:∀(kV doc pm:Value) (an:Option Addr) (cdv ct:Value) (us:List Value),us.length=ps.length->bindArgs (PySem.W.fnOf x x (Yq st) (ZO st) (ZC st) .none kV doc pm an cdv ct) ⟨us,[]⟩=pure (ps.zip us)) :
  FnH P w K mg base k x ps sp:=by
 obtain⟨f,oc,od,an,osl,kV,doc,pm,cdv,ct,a,l,cc,kp⟩:=D
 have F:=Vm (qual:=x) l cc kp
 exact⟨f,_,hok f _ F,PySem.W.mg_of X G a,kp,F.binds hb⟩
end L2
namespace C10
open PySem L2 PySem.Spec PyProof.Rows
open Tb Pm
abbrev Zeo:Stmt:=top 34
abbrev Zep:Stmt:=top 35
def Uz (c:Nat->Ec):Sp:=fun vs H Q _=>∃(a:Addr) (k:Nat) (d:Option Addr),vs=[.ref a]/\(k=7\/k=8)/\H a=some (exO a (c k).C d)/\∀H',Zw H H'->Q (.str (if k=8 then "order" else "many")) H'
structure LT (H:Hp)(Pg Pr:Addr):Prop where
 ne:Pg≠Pr
 g:Jl H Pg ZdI qPr
 r:Jl H Pr ZdY UG
def Bt2 (Pg Pr:Addr)(H H':Hp):Prop:=∀b o,H b=some o->b≠Pg->b≠Pr->H' b=some o
theorem LT.mono {H H':Hp}{Pg Pr:Addr}(s:Zw H H')(L:LT H Pg Pr):LT H' Pg Pr:=⟨L.ne,L.g.mono s,L.r.mono s⟩
theorem Jl.bt {H H':Hp}{P Q:Addr}{pos pos':Pos}{q q':Str}(hne:P≠Q)(T:Jl H P pos q)(b:Bt P H H')(S:Jl H Q pos' q'):Jl H' Q pos' q':=by
 obtain⟨ps,h1,h2,h3⟩:=S
 refine⟨ps,b _ _ h1 hne.symm,h2,?_⟩
 rcases h3 with h|⟨c,h,h'⟩
 ·exact .inl h
 ·exact .inr ⟨c,h,b _ _ h' (T.ne h' fun _ z=>by unfold Yo at z;cases z)⟩
theorem LT.btg {H H':Hp}{Pg Pr:Addr}(L:LT H Pg Pr)(b:Bt Pg H H')(T:Jl H' Pg ZdI qPr):LT H' Pg Pr:=⟨L.ne,T,Jl.bt L.ne L.g b L.r⟩
theorem LT.btr {H H':Hp}{Pg Pr:Addr}(L:LT H Pg Pr)(b:Bt Pr H H')(T:Jl H' Pr ZdY UG):LT H' Pg Pr:=⟨L.ne,Jl.bt L.ne.symm L.r b L.g,T⟩
def UA (Pg Pr:Addr):Sp:=fun vs H Q _=>
 (∃(g1 g2:Addr) (t1 t2:List (List Nat)),vs=[.int 0,.ref g1,.ref g2]/\GT H g1 t1/\GT H g2 t2/\PW t1/\PW t2/\LT H Pg Pr/\
  (t1.length*t2.length<=60->∀r H',Bt2 Pg Pr H H'->LT H' Pg Pr->GT H' r (pt t1 t2)->Q (.ref r) H')/\(60<t1.length*t2.length->∀H',Zw H H'->Q (.str "many") H'))\/
 (∃(g:Addr) (x:V) (t:List (List Nat)) (o:Option (List V)),vs=[.int 1,.ref g,x]/\GT H g t/\PW t/\Tg H x o/\LT H Pg Pr/\
  (∀gs r H',Ju t.length o->o=some (gs.map nV)->Sub t gs->Bt2 Pg Pr H H'->LT H' Pg Pr->GT H' r (WP t gs)->Q (.ref r) H')/\(¬Ju t.length o->∀H',Zw H H'->Q (.str "order") H'))
section
variable {P:Program}{w:World}{K:PySem.W.Frag}{mg:Str->Option Value}{base:Heap}{T U:Addr}{et:Array DictEntry}{c:Nat->Ec}
theorem ZdM {f:Addr}{fd:FuncData}(F:Wt K "_law_word" "_law_word" Zeo f fd)(B:Bl mg)(V0:BlV mg)(S:Cs K mg T U et c)(hI:K.In base):ZaT P w K mg base 1 f fd ["_law_e"] (Uz c):=by
 refine F.okH (FS (N:=["_law_e", "_law_others"])) (fun vs H Q E h=>?_) (fun cdv A outer s H vs Q E hr h=>?_)
 ·obtain⟨a,k,d,rfl,_⟩:=h;rfl
 ·obtain⟨a,k,d,rfl,hk,ha,q⟩:=h
  refine⟨_,Zu (ZP 1 rfl (cb (isT S hI) B.isi (pc (vn 0) (pc (Ys (pc (clv (S.mgC 5 (by decide))) (pc (clv (S.mgC 0 (by decide))) (pc (clv (S.mgC 4 (by decide))) (pc (clv (S.mgC 6 (by decide))) (pc (clv (S.mgC 9 (by decide))) (pc (clv (S.mgC 3 (by decide))) (pc (clv (S.mgC 11 (by decide))) (pc (clv (S.mgC 2 (by decide))) (pc (clv (S.mgC 1 (by decide))) (pc (clv (S.mgC 10 (by decide))) Zs))))))))))) Zs))))
   (Zu (YK (Zan (Js (vn 1)) (Zan (Vd (Js (cb (isV S hI) B.isi (pc (vn 0) (pc (tyv "ValueError" V0.ve) Zs))))) (Zcd (ZL JG (cb (isE S hI) B.isi (pc (vn 0) (pc (clv (S.mgC 8 (by decide))) Zs))) (cb (isE S hI) B.isi (pc (vn 0) (pc (clv (S.mgC 7 (by decide))) Zs))) (ZS _))))).pt (Zx (ZF Wx)) ZY)
   (Zx (ZF (J9 (Js (cb (isE S hI) B.isi (pc (vn 0) (pc (clv (S.mgC 8 (by decide))) Zs)))) Wx Wx)))),?_⟩
  have k12:k<12:=by omega
  refine⟨_,rfl,(by show 10<=sizeLine;decide),fun tp ntp=>?_⟩
  have s1:=Zw.upd (H:=H) (o:=.tup [V.ref (c 5).C,V.ref (c 0).C,V.ref (c 4).C,V.ref (c 6).C,V.ref (c 9).C,V.ref (c 3).C,V.ref (c 11).C,V.ref (c 2).C,V.ref (c 1).C,V.ref (c 10).C]) ntp
  have ha1:=s1 _ _ ha
  have ht1:=Zt (H:=H) (a:=tp) (o:=.tup [V.ref (c 5).C,V.ref (c 0).C,V.ref (c 4).C,V.ref (c 6).C,V.ref (c 9).C,V.ref (c 3).C,V.ref (c 11).C,V.ref (c 2).C,V.ref (c 1).C,V.ref (c 10).C])
  generalize upd H tp (.tup [V.ref (c 5).C,V.ref (c 0).C,V.ref (c 4).C,V.ref (c 6).C,V.ref (c 9).C,V.ref (c 3).C,V.ref (c 11).C,V.ref (c 2).C,V.ref (c 1).C,V.ref (c 10).C])=H1 at s1 ha1 ht1 ⊢
  refine⟨a,k,d,tp,[5,0,4,6,9,3,11,2,1,10],rfl,k12,by decide,ha1,ht1,?_⟩
  have q1:=q H1 s1
  refine⟨_,rfl,_,rfl,?_⟩
  refine WQ (by rcases hk with rfl|rfl <;> decide) ?_
  refine⟨_,rfl,a,k,d,rfl,k12,ha1,_,rfl,WQ (by decide) ?_⟩
  refine⟨_,rfl,a,k,8,d,rfl,k12,by decide,ha1,_,rfl,a,k,7,d,rfl,k12,by decide,ha1,rfl,_,rfl,WQ (by rcases hk with rfl|rfl <;> decide) ?_⟩
  refine⟨_,rfl,a,k,8,d,rfl,k12,by decide,ha1,_,rfl,?_⟩
  rcases hk with rfl|rfl
  ·exact WQ (by decide) q1
  ·exact Zd0 (by decide) q1
theorem ZdN {f Pg Pr:Addr}{fd:FuncData}(F:Wt K "_law_told" "_law_told" Zep f fd)(B:Bl mg)(S:Cs K mg T U et c)(hI:K.In base)(GW:FnH P w K mg base 1 "_law_word" ["_law_e"] (Uz c))(GTg:Fn P w K mg base (CXE P w) 3 "together" ["one", "other"] (ZbS K Pg c))(GRn:Fn P w K mg base (CXE P w) 4 "renamed" ["group", "order"] (UB K Pr c)) :
  Z5 P w K mg base Yp 5 f fd ["_law_way", "_law_one", "_law_other"] (UA Pg Pr):=by
 refine F.ok (FS (N:=["_law_way", "_law_one", "_law_other", "_law_told_here", "_law_e"])) (fun vs H Q E h=>?_) (fun cdv A outer s H vs Q E hr h=>?_)
 ·rcases h with ⟨g1,g2,t1,t2,rfl,_⟩|⟨g,x,t,o,rfl,_⟩ <;> rfl
 ·refine⟨_,Zu (ZP 3 rfl UL)
   (Zu (Ze5 (fun D pins=>Zx (ZP 3 rfl (J9 (ZL JG (vn 0) Zv (ZS _))
    (Y7 GTg hr (Xa (i:=4) (Z6 (by kernel_rfl)) rfl (Yn (by kernel_rfl)) (Y5 (by kernel_rfl)) S.mgT (by kernel_rfl) rfl rfl (fun a=>Zx (ZP 3 rfl (ZgT GW (YZ.mark hr _) ZG (pc (vn 4) Zs))))) (pc (vn 1) (pc (vn 2) Zs)))
    (Y7 GRn hr (Xa (i:=4) (Z6 (by kernel_rfl)) rfl (Yn (by kernel_rfl)) (Y5 (by kernel_rfl)) S.mgT (by kernel_rfl) rfl rfl (fun a=>Zx (ZP 3 rfl (ZgT GW (YZ.mark hr _) ZG (pc (vn 4) Zs))))) (pc (vn 1) (pc (vn 2) Zs)))))))
   (Zx (ZF (vn 3)))),?_⟩
  rcases h with ⟨g1,g2,t1,t2,rfl,G1,G2,P1,P2,L,q,qE⟩|⟨g,x,t,o,rfl,G,P1,hx,L,q,qE⟩
  ·refine⟨_,rfl,rfl,_,rfl,Zd0 rfl ?_⟩
   refine⟨_,rfl,_,rfl,g1,g2,t1,t2,rfl,G1,G2,P1,P2,L.g,fun hk r H1 b1 tb1 g1=>?_,fun hk H1 s1=>S.catchR hI (by decide) rfl fun b hb=>?_⟩
   ·exact⟨_,rfl,q hk r H1 (fun b o e n _=>b1 b o e n) (L.btg b1 tb1) g1⟩
   ·have s2:=Zw.upd (o:=exO b (c 7).C none) hb
    refine⟨_,rfl,b,7,none,rfl,.inl rfl,Zt,fun H2 s3=>?_⟩
    exact⟨_,rfl,qE hk H2 ((s1.trans s2).trans s3)⟩
  ·refine⟨_,rfl,rfl,_,rfl,WQ (by decide) ?_⟩
   refine⟨_,rfl,_,rfl,g,x,t,o,rfl,G,P1,hx,L.r,fun gs r H1 od e Sb b1 tb1 g1=>?_,fun hk H1 s1=>S.catchR hI (by decide) rfl fun b hb=>?_⟩
   ·exact⟨_,rfl,q gs r H1 od e Sb (fun b o e _ n=>b1 b o e n) (L.btr b1 tb1) g1⟩
   ·have s2:=Zw.upd (o:=exO b (c 8).C none) hb
    refine⟨_,rfl,b,8,none,rfl,.inr rfl,Zt,fun H2 s3=>?_⟩
    exact⟨_,rfl,qE hk H2 ((s1.trans s2).trans s3)⟩
end
end C10
namespace PyY
open PySem
open AutoSeq1 (wpAny_loadPart')
section
variable {prog:Program}{w:World}{A:Around}{E:Value->Shared->Prop}{s:Shared}
end
end PyY
namespace L2
open PySem PySem.Spec PyProof.Rows
section
variable {X:Cx}{pins:List (Addr×Obj)}{σ:St}{H:Hp}{s:Shared}
end
theorem Zd7 {K:PySem.W.Frag}{J:It}{own:List Str}{caps:List Nat}{te:TE}{σ:St}{H:Hp}{Q:VK}{bs:List Addr}{ps:List (V×V)}(S:Wh J H (bs.map V.ref))(hbl:bs.length=ps.length)(hb:∀(i:Nat) b p,bs[i]?=some b->ps[i]?=some p->H b=some (.tup [p.1,p.2]))
  (cs:St) (hcs:JR own caps σ=none::none::cs) (F:Nat->V) (hz:ps.length<=1000000)
  (hs:∀(i:Nat) x y H',ps[i]?=some (x,y)->Zw H H'->∀R:VK,(∀H5,Zw H' H5->R (F i) H5)->te (some x::some y::cs) H' R)
  (hd:∀D H',H D=none->Zw H H'->H' D=some (.lst ((List.range ps.length).map F))->Q (.ref D) H'):Jn own caps (Zd2 K 2 (JJ (Z9 0) (JJ (Z9 1) Zd3))) WU te σ Q J H:=by
 intro D hD
 have ml:(bs.map V.ref).length=ps.length:=by rw[Za,hbl]
 refine⟨fun i m σ' H'=>m=ps.length-i/\i<=ps.length/\(∃v0 v1,σ'=v0::v1::cs)/\Zw H H'/\H' D=some (.lst ((List.range i).map F)),⟨_,rfl,Nat.zero_le _,⟨none,none,hcs⟩,Zw.upd hD,by rw[Zt];rfl⟩,?_⟩
 rintro i m σ' H' ⟨rfl,hi,⟨v0,v1,rfl⟩,s,hl⟩
 by_cases hlt:i<ps.length
 ·refine .inr ⟨S.go i H' s (by omega),fun σ2 H2=>(∃v0 v1,σ2=v0::v1::cs)/\Zw H H2/\H2 D=some (.lst ((List.range (i+1)).map F)),fun σ2 H2 z=>⟨ps.length-(i+1),by omega,rfl,hlt,z.1,z.2.1,z.2.2⟩,fun x H2 hy=>?_⟩
  obtain⟨rfl,hx⟩:=S.yld i H' x H2 s (by omega) hy
  obtain⟨⟨y,z⟩,hp⟩:∃p,ps[i]?=some p:=⟨_,Zf hlt⟩
  rw[Zc] at hx
  cases hbi:bs[i]? with
  |none=>rw[hbi] at hx;cases hx
  |some b=>
   rw[hbi] at hx
   cases hx
   have hT:=s _ _ (hb i b _ hbi hp)
   refine⟨b,_,rfl,.of hT,rfl,_,_,rfl,_,_,rfl,rfl,?_⟩
   refine tT (A:=fun H4=>te (some y::some z::cs) H4 fun v H5=>∃xs,H5 D=some (.lst xs)/\xs.length<sizeLine/\(∃v0 v1,(some y::some z::cs:St)=v0::v1::cs)/\Zw H (upd H5 D (.lst (xs++[v])))/\(upd H5 D (.lst (xs++[v]))) D=some (.lst ((List.range (i+1)).map F))) ?_
   refine hs i y z _ hp s _ fun H5 s5=>⟨_,s5 _ _ hl,?_,⟨_,_,rfl⟩,(s.trans s5).updr hD,?_⟩
   ·rw[Za,Zg]
    have:(16777216:Nat)=sizeLine:=by decide
    omega
   ·rw[Zt,List.range_succ,List.map_append]
    rfl
 ·have e:i=ps.length:=by omega
  subst e
  refine .inl ⟨?_,hd D H' hD s hl⟩
  have:=S.stop H' s
  rw[ml] at this
  exact this
end L2
namespace C10
open PySem L2 PySem.Spec PyProof.Rows
open Tb Pm
abbrev Zgq:Stmt:=top 36
def Zel:Sp:=fun vs H Q _=>∃(ga gb:Addr) (t1 t2:List (List Nat)),vs=[.ref ga,.ref gb]/\GT H ga t1/\GT H gb t2/\PW t1/\PW t2/\
 (t1.length*t2.length<=60->∀r H',Zw H H'->GT H' r (pt t1 t2)->Q (.ref r) H')/\(60<t1.length*t2.length->Q (.str "many") H)
def VO (m k:Nat):List (List Nat):=(List.range k).map fun x=>[x / m,x % m]
theorem JV {m k:Nat}:(VO m k).length=k:=by unfold VO;rw[Za,Zg]
theorem UI {m k x:Nat}(h:x<k):(VO m k)[x]?=some [x / m,x % m]:=by
 unfold VO
 rw[Zc,List.getElem?_range h]
 rfl
theorem VN {m k x:Nat}(h:x<k):(VO m k).getD x []=[x / m,x % m]:=by rw[Zb,UI h];rfl
theorem Zch {m i:Nat}(hm:1<=m):VO m ((i+1)*m)=VO m (i*m)++(List.range m).map fun j=>[i,j]:=by
 unfold VO
 rw[Nat.add_mul,Nat.one_mul,List.range_add,List.map_append,List.map_map]
 congr 1
 refine List.map_congr_left fun j hj=>?_
 have hj:=List.mem_range.mp hj
 show [(i*m+j) / m,(i*m+j) % m]=[i,j]
 rw[Nat.mul_comm,Nat.mul_add_div (by omega),Nat.mul_add_mod,Nat.div_eq_of_lt hj,Nat.mod_eq_of_lt hj,Nat.add_zero]
theorem ZeF {m u v:Nat}(hv:v<m):(u*m+v) / m=u/\(u*m+v) % m=v:=by
 rw[Nat.mul_comm,Nat.mul_add_div (by omega),Nat.mul_add_mod,Nat.div_eq_of_lt hv,Nat.mod_eq_of_lt hv,Nat.add_zero]
 exact⟨rfl,rfl⟩
theorem Zf4 {m x u v:Nat}(h1:x / m=u)(h2:x % m=v):x=u*m+v:=by
 have:=Nat.div_add_mod x m
 rw[h1,h2,Nat.mul_comm] at this
 exact this.symm
theorem Zb5 {m j:Nat}{y:V}(h:((Yk 0 m).map V.int)[j]?=some y):j<m/\y=.int (j:Nat):=by
 have hj:j<m:=by have:=(List.getElem?_eq_some_iff.mp h).1;rw[Za,Yw] at this;exact this
 unfold Yk at h
 rw[List.map_map,Zc,List.getElem?_range hj] at h
 cases h
 refine⟨hj,?_⟩
 show V.int (0+(j:Int))=V.int (j:Int)
 rw[Int.zero_add]
theorem ZK.ext {H:Hp}{L D:Addr}{bs ws:List Addr}{yss zss:List (List Nat)}(R:ZK H L bs yss)(hl:ws.length=zss.length)(hw:∀(j:Nat) b,ws[j]?=some b->H b=some (.tup ((zss.getD j []).map nV))):ZK (upd H L (.lst (bs.map V.ref++ws.map V.ref))) L (bs++ws) (yss++zss):=by
 have ne:∀{b ys},H b=some (.tup ys)->upd H L (.lst (bs.map V.ref++ws.map V.ref)) b=some (.tup ys):=fun {b ys} hb=>by
  rw[Zy (fun z=>by rw[z,R.1] at hb;cases hb)]
  exact hb
 refine⟨by rw[Zt,List.map_append],by rw[Zd,Zd,R.2.1,hl],fun i b hb=>ne ?_⟩
 have rl:=R.2.1
 by_cases hi:i<bs.length
 ·rw[List.getElem?_append_left hi] at hb
  have:=R.2.2 i b hb
  rw[Zb,List.getElem?_append_left (by omega),<-Zb]
  exact this
 ·rw[List.getElem?_append_right (by omega)] at hb
  have:=hw _ b hb
  rw[Zb,List.getElem?_append_right (by omega),<-Zb,<-rl]
  exact this
section
variable {P:Program}{w:World}{K:PySem.W.Frag}{mg:Str->Option Value}{base:Heap}
theorem Zfo {f:Addr}{fd:FuncData}(F:Wt K "_law_due" "_law_due" Zgq f fd)(T:Bl mg):Z5 P w K mg base Yp 1 f fd ["_law_one", "_law_other"] Zel:=by
 refine F.ok (FS (N:=["_law_one", "_law_other", "_law_pairs", "_law_a", "_law_rows", "_law_b"])) (fun vs H Q E h=>?_) (fun cdv A outer s H vs Q E hr h=>?_)
 ·obtain⟨ga,gb,t1,t2,rfl,_⟩:=h;rfl
 ·obtain⟨ga,gb,t1,t2,rfl,G1,G2,P1,P2,q,qM⟩:=h
  refine⟨_,Zu (YK (ZL XL (Zz ZR (cb (Y1 K) T.len (pc (vn 0) Zs)) (cb (Y1 K) T.len (pc (vn 1) Zs))) Zv (ZS _)) (Zx (ZF Wx)) ZY)
   (Zu (ZP 2 rfl (ZQ Zs))
   (Zu (Z3 PassesOwn.never rfl (JP T.range (pc (cb (Y1 K) T.len (pc (vn 0) Zs)) Zs)) (gnf 3 rfl)
   (Zx (Z0 (Ym PySem.F.plainAttrs_list PySem.F.slot_list_extend PySem.F.type_list_extend Zbf (vn 2) (pc (cmp ["_law_b"] [3] ["_law_b", "_law_a"] rfl (JP T.range (pc (cb (Y1 K) T.len (pc (vn 1) Zs)) Zs)) (fun _ _ _ _ _=>gn 0) (fun _ _ _ _ _=>YI) (fun _ _ _ _ _=>Ys (pc (vn 1) (pc (vn 0) Zs)))) Zs)))))
   (Zu (ZP 4 rfl (ZQ Zs))
   (Zu (Z3 PassesOwn.never rfl (itL K (vn 2)) (g2 K 3 5 rfl (gnf 3 rfl) (gnf 5 rfl))
   (Zx (Z0 (Ym PySem.F.plainAttrs_list PySem.F.slot_list_append PySem.F.type_list_append ZI (vn 4) (pc (ct (Zae K) T.tuple (pc (cmp ["_law_c", "_law_d"] [2,0,3,1,5] ["_law_c", "_law_d", "_law_pairs", "_law_one", "_law_a", "_law_other", "_law_b"] rfl (itL K (vn 2)) (fun _ _ _ _ _=>g2 K 0 1 rfl (gn 0) (gn 1)) (fun _ _ _ _ _=>YI) (fun _ _ _ _ _=>Zco K PySem.F.plainAttrs_list PySem.F.slot_list_index PySem.F.type_list_index (Zft K hr.units) (vn 2) (pc (Ys (pc (ZB (Jw K) (ZB (Jw K) (vn 3) (vn 4) (fun _ _=>rfl)) (vn 0) (fun _ _=>rfl)) (pc (ZB (Jw K) (ZB (Jw K) (vn 5) (vn 6) (fun _ _=>rfl)) (vn 1) (fun _ _=>rfl)) Zs))) Zs))) Zs)) Zs)))))
   (Zx (ZF (ct ZH T.tuple (pc (vn 4) Zs)))))))),?_⟩
  have sz:(16777216:Nat)=sizeLine:=by decide
  have a1:=P1.n1
  have a2:=P2.n1
  have b1:=P1.n60
  have b2:=P2.n60
  obtain⟨xs1,u1,v1⟩:=GT.len (K:=K) G1
  obtain⟨xs2,u2,v2⟩:=GT.len (K:=K) G2
  have eNi:(t1.length:Int)*(t2.length:Int)=((t1.length*t2.length:Nat):Int):=by push_cast;rfl
  refine⟨_,rfl,ga,xs1,rfl,.inr u1,_,rfl,gb,xs2,rfl,.inr u2,_,_,rfl,rfl,.inl ⟨by rw[v1];omega,by rw[v1];omega⟩,_,_,rfl,rfl,_,rfl,?_⟩
  rw[v1,v2,eNi]
  refine Y2 (fun hk=>?_) (fun hk=>?_)
  ·have hk:=of_decide_eq_true hk
   exact qM (by omega)
  have hk:t1.length*t2.length<=60:=by
   have:¬((60:Int)<((t1.length*t2.length:Nat):Int)):=fun z=>hk (decide_eq_true z)
   omega
  refine⟨(by show 0<=sizeLine;decide),fun L nL=>?_⟩
  have s1:=Zw.upd (H:=H) (o:=.lst []) nL
  have hL1:=Zt (H:=H) (a:=L) (o:=.lst [])
  generalize upd H L (.lst [])=H1 at s1 hL1 ⊢
  refine⟨_,rfl,ga,xs1,rfl,.inr (s1.tup u1),_,rfl,by rw[v1];omega,by rw[v1];omega,?_⟩
  rw[v1,Zj]
  refine Z7 (fun i σ' H'=>∃(bs:List Addr) (v3 v4 v5:Option V),σ'=[some (.ref ga),some (.ref gb),some (.ref L),v3,v4,v5]/\Zw H H'/\ZK H' L bs (VO t2.length (i*t2.length))) ⟨[],_,_,_,rfl,s1,⟨hL1,by rw[JV];simp,fun i b hb=>by cases hb⟩⟩ ?_ ?_
  ·rintro i σ' H2 hi ⟨bs,v3,v4,v5,rfl,s2,R2⟩
   rw[show (0:Int)+(i:Int)=(i:Int) by omega]
   refine⟨_,rfl,.inl ⟨rfl,_,.of R2.1⟩,?_⟩
   refine⟨_,rfl,gb,xs2,rfl,.inr (s2.tup u2),_,rfl,by rw[v2];omega,by rw[v2];omega,?_⟩
   rw[v2,Zj]
   refine Ua (W:=Addr) id (fun j b H=>H b=some (.tup ([i,j].map nV))) (fun _ _=>True) (Zdt 0 t2.length) [some (.int (i:Nat))] rfl (by rw[Za,Yw];omega) (fun j b H H' s h=>s _ _ h) (fun _ _ _ _ h=>h) (fun j b H0 H1 D o ys ys' h h0 h1 h2=>?_) (fun j y hy H3 s3 R k3=>?_) (fun D ws H3 nD s3 hD wl hw hww=>?_)
   ·show upd H1 D _ b=_
    rw[Zy (fun z=>by rw[z,h2] at h;cases h)]
    exact h
   ·obtain⟨hj,rfl⟩:=Zb5 hy
    refine⟨_,rfl,_,rfl,(by show 2<=sizeLine;decide),fun b nb=>?_⟩
    exact k3 b _ (Zw.upd nb) Zt trivial
   ·rw[Za,Yw] at wl
    have R3:=R2.mono s3
    refine⟨L,D,_,_,rfl,rfl,R3.1,hD,?_,?_⟩
    ·rw[Za,Za,R3.2.1,JV,wl]
     have:i*t2.length<=t1.length*t2.length:=Nat.mul_le_mul_right _ (by omega)
     omega
    ·have R4:=ZK.ext (D:=D) (ws:=ws) (zss:=(List.range t2.length).map fun j=>[i,j]) R3 (by rw[Za,Zg,wl]) fun j b hb=>by
      have hj:j<t2.length:=by have:=(List.getElem?_eq_some_iff.mp hb).1;omega
      have:=(hw j b hb).1
      rw[Zb,Zc,List.getElem?_range hj]
      exact this
     rw[<-Zch a2] at R4
     exact⟨bs++ws,_,_,_,rfl,(s2.trans s3).updr nL,R4⟩
  ·rintro σ' H2 ⟨bs,v3,v4,v5,rfl,s2,R2⟩
   refine⟨(by show 0<=sizeLine;decide),fun Rw nRw=>?_⟩
   have s3:=Zw.upd (H:=H2) (o:=.lst []) nRw
   have hR3:=Zt (H:=H2) (a:=Rw) (o:=.lst [])
   have R3:=R2.mono s3
   have nRH:=s2.free nRw
   generalize upd H2 Rw (.lst [])=H3 at s3 hR3 R3 ⊢
   have s23:=s2.trans s3
   have bl:bs.length=t1.length*t2.length:=by rw[R3.2.1,JV]
   have bl':(bs.map V.ref).length=t1.length*t2.length:=by rw[Za,bl]
   refine⟨_,rfl,L,rfl,⟨_,.of R3.1⟩,?_⟩
   refine Y6 (H0:=H2) (Yv (K:=K) (.of R2.1)) (fun i σ' H'=>∃(rs:List Addr) (v3 v5:Option V),σ'=[some (.ref ga),some (.ref gb),some (.ref L),v3,some (.ref Rw),v5]/\Zw H2 H'/\Yt H' Rw rs (fun x=>(List.range (t1.length*t2.length)).map (Uk t1 t2 x))/\rs.length=i)
    ⟨[],_,_,rfl,s3,⟨hR3,fun i r hr=>by cases hr⟩,rfl⟩ (fun i σ' H' h=>by obtain⟨_,_,_,_,sm,_⟩:=h;exact sm) ?_ ?_
   ·rintro x y σ' H4 hy ⟨rs,v3,v5,rfl,s4,RR,rl⟩
    have hx:x<t1.length*t2.length:=by rw[<-bl'];exact (List.getElem?_eq_some_iff.mp hy).1
    obtain⟨b,rfl,_,hb⟩:=(R2.mono s4).ref hy
    rw[VN hx] at hb
    have xa:x / t2.length<t1.length:=Nat.div_lt_of_lt_mul (by rw[Nat.mul_comm];exact hx)
    have xb:x % t2.length<t2.length:=Nat.mod_lt _ (by omega)
    refine⟨b,_,rfl,.of hb,rfl,_,_,rfl,_,_,rfl,rfl,?_⟩
    refine⟨_,rfl,.inl ⟨rfl,_,.of RR.1⟩,?_⟩
    have R4:=R2.mono s4
    refine⟨_,rfl,L,rfl,⟨_,.of R4.1⟩,?_⟩
    refine Zd7 (K:=K) (bs:=bs) (ps:=(List.range (t1.length*t2.length)).map fun z=>(nV (z / t2.length),nV (z % t2.length))) (Yv (K:=K) (.of R4.1)) (by rw[bl,Za,Zg]) (fun z bz p hz hp=>?_)
     [some (.ref L),some (.ref ga),some (nV (x / t2.length)),some (.ref gb),some (nV (x % t2.length))] rfl (fun z=>nV (Uk t1 t2 x z)) (by rw[Za,Zg];omega) (fun z c d H5 hp s5 R k5=>?_) (fun D H5 nD s5 hD=>?_)
    ·have hzl:z<t1.length*t2.length:=by have:=(List.getElem?_eq_some_iff.mp hz).1;omega
     rw[Zc,List.getElem?_range hzl] at hp
     cases hp
     have:=R4.2.2 z bz hz
     rw[VN hzl] at this
     exact this
    ·have hzl:z<t1.length*t2.length:=by have:=(List.getElem?_eq_some_iff.mp hp).1;rw[Za,Zg] at this;exact this
     rw[Zc,List.getElem?_range hzl] at hp
     cases hp
     have ya:z / t2.length<t1.length:=Nat.div_lt_of_lt_mul (by rw[Nat.mul_comm];exact hzl)
     have yb:z % t2.length<t2.length:=Nat.mod_lt _ (by omega)
     have sA:=s2.trans (s4.trans s5)
     obtain⟨q1,q2,q3,_,q4,q5,q6⟩:=(G1.mono sA).at P1 xa
     obtain⟨p1,p2,p3,_,p4,p5,p6⟩:=(G2.mono sA).at P2 xb
     have l1:=P1.lt _ _ xa ya
     have l2:=P2.lt _ _ xb yb
     have R5:=R4.mono s5
     refine⟨_,rfl,.inl ⟨rfl,_,.of R5.1⟩,_,rfl,_,rfl,ga,_,_,_,rfl,rfl,.of q3,q4,_,rfl,q2,_,_,_,rfl,rfl,q5.sq,q6 _ ya,_,rfl,_,rfl,gb,_,_,_,rfl,rfl,.of p3,p4,_,rfl,p2,_,_,_,rfl,rfl,p5.sq,p6 _ yb,(by show 2<=sizeLine;decide),fun tp ntp=>?_⟩
     have sE:=Zw.upd (H:=H5) (o:=.tup ([ZW t1 (x / t2.length) (z / t2.length),ZW t2 (x % t2.length) (z % t2.length)].map nV)) ntp
     have hE:=Zt (H:=H5) (a:=tp) (o:=.tup ([ZW t1 (x / t2.length) (z / t2.length),ZW t2 (x % t2.length) (z % t2.length)].map nV))
     have R6:=R5.mono sE
     obtain⟨d1,d2⟩:=ZeF (u:=ZW t1 (x / t2.length) (z / t2.length)) l2
     have lp:=Ve P1 P2 hx hzl
     have ey:((VO t2.length (t1.length*t2.length)).map fun ns=>PyData.tuple ((nI ns).map PyData.int))=((VO t2.length (t1.length*t2.length)).map nI).map fun ns=>PyData.tuple (ns.map PyData.int):=by rw[List.map_map];rfl
     refine⟨L,_,((VO t2.length (t1.length*t2.length)).map fun ns=>PyData.tuple ((nI ns).map PyData.int)),.tuple ((nI [ZW t1 (x / t2.length) (z / t2.length),ZW t2 (x % t2.length) (z % t2.length)]).map PyData.int),_,Uk t1 t2 x z,rfl,rfl,R6.1,JU _ _ R6.2.1 R6.2.2,.tup (.of (by rw[ZcB];exact hE)) (YN.ints _),by rw[ey];exact Y8 _,Wm _,Jx _,by rw[Za,JV];exact lp,fun d hd=>?_,fun m d hm hd=>?_,?_⟩
     ·rw[Zc,UI lp] at hd
      cases hd
      rw[V7]
      refine decide_eq_true ?_
      unfold Uk
      rw[d1,d2]
     ·rw[Zc,UI (by omega)] at hd
      cases hd
      rw[V7]
      refine decide_eq_false fun z'=>?_
      injection z' with e1 e2
      injection e2 with e2 _
      have:=Zf4 e1 e2
      unfold Uk at hm
      omega
     ·exact k5 _ sE
    ·rw[Za,Zg] at hD
     have e:(List.range (t1.length*t2.length)).map (fun z=>nV (Uk t1 t2 x z))=((List.range (t1.length*t2.length)).map (Uk t1 t2 x)).map nV:=by rw[List.map_map];rfl
     rw[e] at hD
     refine⟨D,_,rfl,.of hD,fun z Hz nz sz' hz=>?_⟩
     have R5:=RR.mono (s5.trans sz')
     refine⟨Rw,_,_,rfl,rfl,R5.1,by rw[Za];omega,?_⟩
     exact⟨rs++[z],_,_,rfl,(s4.trans (s5.trans sz')).updr nRw,R5.push (by rw[rl];exact hz),by rw[Zd,rl];rfl⟩
   ·rintro σ' H4 ⟨rs,v3,v5,rfl,s4,RR,rl⟩
    rw[bl'] at rl
    refine⟨_,rfl,Rw,_,rfl,.inl ⟨.of RR.1,fun gg ngg=>?_⟩⟩
    exact q hk gg _ (s2.trans (s4.trans (Zw.upd ngg))) (JN RR rl (Zw.upd ngg) Zt)
end
abbrev Zb0:Stmt:=top 37
def Zag:Sp:=fun vs H Q _=>∃(p:Addr) (n:Nat),vs=[.ref p,.int (n:Nat)]/\Wn H p/\1<=n/\n<=60/\∀r os H',Dr p H H'->Ord n os->Tz H' r (os.map nV)->Q (.ref r) H'
section
variable {P:Program}{w:World}{K:PySem.W.Frag}{mg:Str->Option Value}{base:Heap}
theorem Zcs {f:Addr}{fd:FuncData}(F:Wt K "_law_order" "_law_order" Zb0 f fd)(T:Bl mg)(GD:Fn P w K mg base Yp 1 "_law_draw" ["_law_feed_here", "_law_many"] Jq):Z5 P w K mg base Yp 2 f fd ["_law_feed_here", "_law_many"] Zag:=by
 refine F.ok (FS (N:=["_law_feed_here", "_law_many", "_law_left", "_law_found", "_law_k"])) (fun vs H Q E h=>?_) (fun cdv A outer s H vs Q E hr h=>?_)
 ·obtain⟨p,n,rfl,_⟩:=h;rfl
 ·obtain⟨p,n,rfl,Fd,n1,n60,q⟩:=h
  refine⟨_,Zu (ZP 2 rfl (ct (Wb rfl) T.list (pc (ct JL T.range (pc Zv (pc (vn 1) Zs))) Zs)))
   (Zu (ZP 3 rfl (ZQ (pc Zv Zs)))
   (Zu (Z3 PassesOwn.never rfl (JP T.range (pc (Zz Xb (vn 1) Zv) Zs)) (gn 4)
    (Zx (Z0 (Ym PySem.F.plainAttrs_list PySem.F.slot_list_append PySem.F.type_list_append ZI (vn 3)
     (pc (Ym PySem.F.plainAttrs_list PySem.F.slot_list_pop PySem.F.type_list_pop VV (vn 2) (pc (Y7 GD hr ZG (pc (vn 0) (pc (cb (Y1 K) T.len (pc (vn 2) Zs)) Zs))) Zs)) Zs)))))
   (Zx (ZF (ct Yf T.tuple (pc (vn 3) Zs)))))),?_⟩
  have sz:(16777216:Nat)=sizeLine:=by decide
  refine⟨_,rfl,1,_,rfl,fun r0 hr0=>⟨r0,1,_,rfl,Zt,⟨by omega,by omega,by omega,by omega⟩,by omega,fun l hl0=>?_⟩⟩
  have e1:((n:Int)-1).toNat=n-1:=by omega
  rw[e1]
  refine⟨(by show 1<=sizeLine;decide),fun fo hfo=>?_⟩
  have s1:Zw H (upd H r0 (.rng 1 (n:Int))):=Zw.upd hr0
  have hl1:H l=none:=s1.free hl0
  have s2:=s1.trans (Zw.upd (o:=.lst ((Yk 1 (n-1)).map V.int)) hl0)
  have hfo1:H fo=none:=s2.free hfo
  have s3:=s2.trans (Zw.upd (o:=.lst [.int 0]) hfo)
  have nlf:l≠fo:=fun z=>by rw[<-z,Zt] at hfo;cases hfo
  have np:∀{b:Addr},H b=none->b≠p:=fun {b} hb=>by
   obtain⟨q0,ns,i,j,k,Fa⟩:=Fd
   exact (ZA Fa.hp hb).symm
  refine⟨_,rfl,_,_,rfl,rfl,_,rfl,by omega,by omega,?_⟩
  rw[e1]
  refine Z7 (fun i σ' H'=>∃(v:Option V) (ls os:List Nat),σ'=[some (.ref p),some (.int (n:Nat)),some (.ref l),some (.ref fo),v]/\Dr p H H'/\H' l=some (.lst (ls.map nV))/\H' fo=some (.lst (os.map nV))/\(os++ls).Perm (List.range n)/\os[0]?=some 0/\ls.length+i=n-1) ?_ ?_ ?_
  ·refine⟨none,(List.range (n-1)).map (· + 1),[0],rfl,Dr.of s3,?_,Zt,?_,rfl,by rw[Za,Zg,Nat.add_zero]⟩
   ·rw[Zy nlf,Zt]
    unfold Yk
    rw[List.map_map,List.map_map]
    congr 2
    refine List.map_congr_left fun k _=>?_
    show V.int (1+(k:Int))=V.int ((k+1:Nat):Int)
    rw[show (1:Int)+(k:Int)=((k+1:Nat):Int) by omega]
   ·have:List.range n=[0]++(List.range (n-1)).map (· + 1):=by
     obtain⟨k,hk⟩:∃k,n=k+1:=⟨n-1,by omega⟩
     rw[hk,List.range_succ_eq_map]
     rfl
    rw[this]
  ·rintro i σ' H' hi ⟨v,ls,os,rfl,dr,hl',hf',pm,h0,el2⟩
   have hpos:0<ls.length:=by omega
   refine⟨_,rfl,.inl ⟨rfl,_,.of hf'⟩,_,rfl,.inl ⟨rfl,_,.of hl'⟩,_,rfl,_,rfl,l,_,rfl,.inl (.of hl'),p,_,rfl,dr.feed Fd,?_,?_,fun r H2 r0' r1' dr2=>?_⟩
   ·rw[Za];omega
   ·rw[Za];exact Jv (by omega) (by omega)
   rw[Za] at r1'
   obtain⟨j,rfl⟩:=Int.eq_ofNat_of_zero_le r0'
   have hj:j<ls.length:=by omega
   have hl2:=dr2.keep l _ hl' (np hl1)
   have hf2:=dr2.keep fo _ hf' (np hfo1)
   have hat:(ls.map nV)[j]?=some (nV ls[j]):=by rw[Zc,Zf hj];rfl
   obtain⟨sx,_⟩:=JY (V3 (n:=(ls.map nV).length) (i:=j) (by rw[Za];exact hj))
   refine⟨l,_,j,j,_,rfl,rfl,hl2,by omega,by omega,sx,hat,fo,_,_,rfl,rfl,by rw[Zy nlf.symm];exact hf2,?_,?_⟩
   ·rw[Za]
    have:=pm.length_eq
    rw[Zd,Zg] at this
    omega
   ·refine⟨_,ls.eraseIdx j,os++[ls[j]],rfl,((dr.trans dr2).updN hl1).updN hfo1,?_,?_,?_,?_,?_⟩
    ·rw[Zy nlf,Zt,WY]
    ·rw[Zt,List.map_append];rfl
    ·rw[List.append_assoc]
     refine (List.Perm.append_left os ?_).trans pm
     exact Xi ls j hj
    ·rw[List.getElem?_append_left]
     ·exact h0
     ·exact (List.getElem?_eq_some_iff.mp h0).1
    ·rw[List.length_eraseIdx,if_pos hj];omega
  ·rintro σ' H1 ⟨v,ls,os,rfl,dr,hl',hf',pm,h0,el2⟩
   have hls:ls=[]:=List.eq_nil_of_length_eq_zero (by omega)
   rw[hls,List.append_nil] at pm
   have O:=Zcp n1 pm h0
   refine⟨_,rfl,fo,_,rfl,.of hf',fun tr H4 nt s5 hz=>?_⟩
   exact q tr os H4 (dr.trans (Dr.of s5)) O hz
end
theorem Zc3 {xs:List V}(h:1<=xs.length):(YS xs none (some (-1))).length=xs.length-1:=by
 unfold YS HT.Yg
 simp only[List.length_take,List.length_drop]
 split <;> omega
theorem Zc1 {xs:List V}{b:Nat}(h:b<=xs.length):YS xs none (some (b:Int))=xs.take b:=by
 unfold YS
 rw[HT.Va,HT.VJ,List.drop_zero,Nat.sub_zero,Nat.min_eq_left h]
theorem Zc4 {xs:List V}{b:Nat}(h:b<=xs.length):YS xs (some (b:Int)) none=xs.drop b:=by
 unfold YS
 rw[HT.Va,HT.VJ,Nat.min_eq_left h,List.take_of_length_le (by rw[List.length_drop];omega)]
def Vx (n:Nat)(H:Hp)(x:V):Prop:=∃o,Tg H x o/\¬Ju n o
theorem Vx.mono {n:Nat}{H H':Hp}{x:V}(s:Zw H H')(b:Vx n H x):Vx n H' x:=by
 obtain⟨o,h,k⟩:=b
 exact⟨o,h.mono s,k⟩
theorem Vi {n:Nat}:¬Ju n none:=by
 rintro⟨gs,e,_⟩
 cases e
theorem Vj {n:Nat}{xs:List V}(h:xs.length≠n):¬Ju n (some xs):=by
 rintro⟨gs,e,hl,_⟩
 cases e
 rw[Za] at h
 exact h hl
theorem UP {n:Nat}{xs:List V}{y:V}(hy:y∈xs)(h:∀k,k<n->y≠nV k):¬Ju n (some xs):=by
 rintro⟨gs,e,_,hlt,_⟩
 cases e
 obtain⟨k,hk,rfl⟩:=List.mem_map.mp hy
 exact h k (hlt k hk) rfl
theorem Zfr {n k:Nat}{xs:List V}(hk:k<n)(h:nV k∉xs):¬Ju n (some xs):=by
 rintro⟨gs,e,_,_,hall,_⟩
 cases e
 exact h (List.mem_map.mpr ⟨k,hall k hk,rfl⟩)
theorem Zcy {n k:Nat}{xs:List V}(h:xs[0]?=some (nV k))(hk:k≠0):¬Ju n (some xs):=by
 rintro⟨gs,e,_,_,_,h0⟩
 cases e
 obtain⟨j,hj,e⟩:=YF h
 have e:(k:Int)=(j:Int):=by injection e
 rw[Zb,hj] at h0
 have h0:j=0:=h0
 omega
theorem ZcA {a b:Nat}(h:nV a=nV b):a=b:=by
 have h:V.int (a:Int)=V.int (b:Int):=h
 injection h with h
 omega
theorem Zdd {os:List Nat}{i:Nat}(nd:os.Nodup)(hi:i<os.length):os.getD i 0∉os.take i/\os.getD i 0∉os.drop (i+1):=by
 have hg:=ZM hi
 constructor
 ·intro h
  obtain⟨j,hj⟩:=List.getElem?_of_mem h
  have hji:j<i:=by have:=(List.getElem?_eq_some_iff.mp hj).1;rw[List.length_take] at this;omega
  rw[List.getElem?_take_of_lt hji] at hj
  have:=(List.getElem?_inj hi nd).mp (hg.trans hj.symm)
  omega
 ·intro h
  obtain⟨j,hj⟩:=List.getElem?_of_mem h
  rw[List.getElem?_drop] at hj
  have:=(List.getElem?_inj hi nd).mp (hg.trans hj.symm)
  omega
theorem ZaB {os:List Nat}{i j:Nat}(nd:os.Nodup)(hi:i<os.length)(hj:j<os.length)(h:i≠j):os.getD i 0≠os.getD j 0:=fun e=>by
 have h1:=ZM hi
 have h2:=ZM hj
 rw[e] at h1
 exact h ((List.getElem?_inj hi nd).mp (h1.trans h2.symm))
theorem XM {os:List Nat}{k:Nat}(h:k∉os):nV k∉os.map nV:=fun z=>by
 obtain⟨j,hj,e⟩:=List.mem_map.mp z
 exact h (ZcA e▸hj)
theorem ZbF {os:List Nat}{i:Nat}(hi:i<os.length)(h1:1<os.length):∃j,j<os.length/\j≠i/\Xw (os.map nV) ((i:Int)-1)=some (nV (os.getD j 0)):=by
 by_cases h0:i=0
 ·subst h0
  refine⟨os.length-1,by omega,by omega,?_⟩
  have e:os=os.take (os.length-1)++[os.getD (os.length-1) 0]:=by
   have hl:os.length-1<os.length:=by omega
   have:=List.take_append_drop (os.length-1) os
   rw[List.drop_eq_getElem_cons hl,show os.length-1+1=os.length by omega,List.drop_length] at this
   have e2:os[os.length-1]=os.getD (os.length-1) 0:=by
    have h3:=ZM hl
    rw[Zf hl] at h3
    exact Option.some.inj h3
   rw[e2] at this
   exact this.symm
  have:Xw ((os.take (os.length-1)).map nV++[nV (os.getD (os.length-1) 0)]) (-1)=some (nV (os.getD (os.length-1) 0)):=Ug _ _
  rw[show ((0:Nat):Int)-1=-1 by omega]
  conv=>lhs;rw[e]
  rw[List.map_append]
  exact this
 ·refine⟨i-1,by omega,by omega,?_⟩
  rw[show (i:Int)-1=((i-1:Nat):Int) by omega]
  refine ZV ?_
  rw[Zc,ZM (by omega)]
  rfl
abbrev Zgn:Stmt:=top 38
structure LS (H:Hp)(p Pg Pr:Addr):Prop where
 fd:Wn H p
 lt:LT H Pg Pr
def Mv (p Pg Pr:Addr)(H H':Hp):Prop:=∀b o,H b=some o->b≠p->b≠Pg->b≠Pr->H' b=some o
theorem Mv.of {p Pg Pr:Addr}{H H':Hp}(s:Zw H H'):Mv p Pg Pr H H':=fun b o e _ _ _=>s b o e
theorem Mv.dr {p Pg Pr:Addr}{H H':Hp}(s:Dr p H H'):Mv p Pg Pr H H':=fun b o e n _ _=>s.keep b o e n
theorem Mv.bt {p Pg Pr:Addr}{H H':Hp}(s:Bt2 Pg Pr H H'):Mv p Pg Pr H H':=fun b o e _ m k=>s b o e m k
theorem Mv.trans {p Pg Pr:Addr}{H H1 H2:Hp}(a:Mv p Pg Pr H H1)(b:Mv p Pg Pr H1 H2):Mv p Pg Pr H H2:=fun c o e n m k=>b c o (a c o e n m k) n m k
section
variable {H H':Hp}{p Pg Pr:Addr}
theorem LS.same (L:LS H p Pg Pr)(s:Zw H H'):LS H' p Pg Pr:=⟨L.fd.mono s,L.lt.mono s⟩
theorem LS.nep (L:LS H p Pg Pr){b:Addr}{o:HO}(h:H b=some o)(ho:∀xs,o≠.lst xs):b≠p:=fun z=>by
 obtain⟨q,ns,i,j,k,F⟩:=L.fd
 rw[z,F.hp] at h
 cases h
 exact ho _ rfl
theorem LS.dr (L:LS H p Pg Pr)(d:Dr p H H'):LS H' p Pg Pr:=by
 have tab:∀{P:Addr}{pos:Pos}{q:Str},Jl H P pos q->Jl H' P pos q:=fun {P pos q} T=>by
  obtain⟨ps,h1,h2,h3⟩:=T
  refine⟨ps,d.keep _ _ h1 (L.nep h1 fun _ z=>by cases z),h2,?_⟩
  rcases h3 with h|⟨c,h,h'⟩
  ·exact .inl h
  ·exact .inr ⟨c,h,d.keep _ _ h' (L.nep h' fun _ z=>by unfold Yo at z;cases z)⟩
 exact⟨d.feed L.fd,L.lt.ne,tab L.lt.g,tab L.lt.r⟩
theorem LS.bt (L:LS H p Pg Pr)(b:Bt2 Pg Pr H H')(T:LT H' Pg Pr):LS H' p Pg Pr:=by
 refine⟨?_,T⟩
 obtain⟨q,ns,i,j,k,F⟩:=L.fd
 have kp:∀{a:Addr}{xs:List V},H a=some (.lst xs)->H' a=some (.lst xs):=fun {a xs} e=>b _ _ e (L.lt.g.ne e fun _ z=>by cases z) (L.lt.r.ne e fun _ z=>by cases z)
 exact⟨q,ns,i,j,k,kp F.hp,kp F.hq,F.hn,F.hi,F.hj,F.hk⟩
theorem LS.tup (L:LS H p Pg Pr)(m:Mv p Pg Pr H H'){a:Addr}{xs:List V}(e:H a=some (.tup xs)):H' a=some (.tup xs):=m _ _ e (L.nep e fun _ z=>by cases z) (L.lt.g.ne e fun _ z=>by cases z) (L.lt.r.ne e fun _ z=>by cases z)
theorem LS.tz (L:LS H p Pg Pr)(m:Mv p Pg Pr H H'){a:Addr}{xs:List V}(e:Tz H a xs):Tz H' a xs:=by
 obtain⟨ob,h,r⟩:=e
 exact⟨ob,m _ _ h (L.nep h fun _ z=>by cases z) (L.lt.g.ne h fun _ z=>by cases z) (L.lt.r.ne h fun _ z=>by cases z),r⟩
theorem LS.gt (L:LS H p Pg Pr)(m:Mv p Pg Pr H H'){g:Addr}{t:List (List Nat)}(G:GT H g t):GT H' g t:=by
 obtain⟨rs,h1,h2,h3⟩:=G
 exact⟨rs,L.tup m h1,h2,fun i r hr=>L.tz m (h3 i r hr)⟩
end
theorem JC {X:Cx}(K:PySem.W.Frag){k:Nat}(hr:YM k X.A)(hK:X.K=K:=by rfl):ZN X (.builtin "repr") (fun xs H Q=>∃x d,xs=[x]/\Xy K H x d/\Uj d/\Q (.str d.shown) H):=hK▸Zbz hr
theorem eqK {X:Cx}(K:PySem.W.Frag)(hu:X.A.units+64<cLine)(hK:X.K=K:=by rfl):Jm X (compareOp .Eq) (fun x y H Q=>∃dx dy,Xy K H x dx/\Xy K H y dy/\SeqAt.shaped dx=true/\SeqAt.shaped dy=true/\Q (.bl (PyData.eqv dx dy)) H):=hK▸Zfg hu
theorem Zb7 {K:PySem.W.Frag}{H:Hp}:∀{rs:List Addr}{css:List (List Nat)},rs.length=css.length->(∀(i:Nat) r,rs[i]?=some r->Tz H r ((css.getD i []).map nV))->YN K H (rs.map V.ref) (css.map Zc0)
 | [],[],_,_=>.nil
 | [],_::_,h,_=>by cases h
 |_::_,[],h,_=>by cases h
 |r::rs,c::css,h,g=>.cons (.tup (g 0 r rfl).sq (VL c)) (Zb7 (Nat.succ.inj h) fun i b hb=>g (i+1) b hb)
theorem WV {K:PySem.W.Frag}{H:Hp}{g:Addr}{t:List (List Nat)}(G:GT H g t):Xy K H (.ref g) (UZ t):=by
 obtain⟨rs,h1,h2,h3⟩:=G
 exact .tup (.of h1) (Zb7 h2 h3)
theorem ZfF {t:List (List Nat)}(P:PW t):Uj (UZ t):=by
 refine ZcP P.n60 fun row hr=>⟨by rw[P.len row hr];exact P.n60,fun k hk=>?_⟩
 obtain⟨i,hi⟩:=List.getElem?_of_mem hr
 obtain⟨j,hj⟩:=List.getElem?_of_mem hk
 have hil:=(List.getElem?_eq_some_iff.mp hi).1
 have hjl:=(List.getElem?_eq_some_iff.mp hj).1
 rw[P.len row hr] at hjl
 have:=P.lt i j hil hjl
 unfold ZW at this
 rw[Zb,Zb,hi] at this
 have this:(row[j]?).getD 0<t.length:=this
 rw[hj] at this
 have this:k<t.length:=this
 have:=P.n60
 omega
def Zej (Pg Pr:Addr):Sp:=fun vs H Q _=>∃(p g:Addr) (t:List (List Nat)),vs=[.ref p,.ref g]/\LS H p Pg Pr/\GT H g t/\PW t/\∀H',Mv p Pg Pr H H'->LS H' p Pg Pr->Q (.bl true) H'
section
variable {P:Program}{w:World}{K:PySem.W.Frag}{mg:Str->Option Value}{base:Heap}
theorem Zfk {f Pg Pr:Addr}{fd:FuncData}(F:Wt K "_law_orders_right" "_law_orders_right" Zgn f fd)(T:Bl mg)(GD:Fn P w K mg base Yp 1 "_law_draw" ["_law_feed_here", "_law_many"] Jq)(GOr:Fn P w K mg base Yp 2 "_law_order" ["_law_feed_here", "_law_many"] Zag)(GTo:Fn P w K mg base Yp 5 "_law_told" ["_law_way", "_law_one", "_law_other"] (UA Pg Pr)) :
  Z5 P w K mg base Yp 6 f fd ["_law_feed_here", "_law_group_here"] (Zej Pg Pr):=by
 refine F.ok (FS (N:=["_law_feed_here", "_law_group_here", "_law_order_here", "_law_due_here", "_law_at", "_law_odd", "_law_some"])) (fun vs H Q E h=>?_) (fun cdv A outer s H vs Q E hr h=>?_)
 ·obtain⟨p,g,t,rfl,_⟩:=h;rfl
 ·obtain⟨p,g,t,rfl,L0,G0,P1,q⟩:=h
  refine⟨_,Zu (ZP 2 rfl (Y7 GOr hr ZG (pc (vn 0) (pc (cb (Y1 K) T.len (pc (vn 1) Zs)) Zs))))
   (Zu (ZP 3 rfl (ct ZH T.tuple (pc (cmp ["_law_a"] [2,1] ["_law_a", "_law_order_here", "_law_group_here"] rfl (itT K (vn 2)) (fun _ _ _ _ _=>gnf 0 rfl) (fun _ _ _ _ _=>YI) (fun _ _ _ _ _=>ct (Zae K) (by exact T.tuple) (pc (cmp ["_law_b"] [1,2,0] ["_law_b", "_law_order_here", "_law_group_here", "_law_a"] rfl (itT K (vn 1)) (fun _ _ _ _ _=>gn 0) (fun _ _ _ _ _=>YI) (fun _ _ _ _ _=>Zfe PySem.F.plainAttrs_tuple PySem.F.slot_tuple_index PySem.F.type_tuple_index (Zhp K) (vn 1) (pc (ZB (Jw K) (ZB (Jw K) (vn 2) (vn 3) (fun _ _=>rfl)) (vn 0) (fun _ _=>rfl)) Zs))) Zs))) Zs)))
   (Zu (YK (ZL VS (cb (JC K hr) T.repr (pc (Y7 GTo hr ZG (pc Zv (pc (vn 1) (pc (vn 2) Zs)))) Zs)) (cb (JC K hr) T.repr (pc (vn 3) Zs)) (ZS _)) (Zx (ZF JF)) ZY)
   (Zu (ZP 4 rfl (Y7 GD hr ZG (pc (vn 0) (pc (cb (Y1 K) T.len (pc (vn 2) Zs)) Zs))))
   (Zu (ZP 5 rfl (ZB (ixL K) (ZQ (pc JF (pc JF (pc Wx (pc UL Zs))))) (Y7 GD hr ZG (pc (vn 0) (pc Zv Zs))) (fun _ _=>rfl)))
   (Zu (ZP 6 rfl (ZQ (pc (Zz YQ (Zfb K (vn 2) (Zar X0 Zv)) (Ys (pc Zv Zs))) (pc (Ye YH (vn 2) Yy (Yx (Zar X0 Zv))) (pc (ct (lstK K) T.list (pc (vn 2) Zs)) (pc UL (pc Zv (pc (Ys Zs) (pc (Ys (pc JF Zs)) (pc (Zz YQ (Ye YH (vn 2) (Yx Zv) Yy) (Ys (pc Zv (pc Zv Zs)))) Zs))))))))))
   (Zu (ZP 6 rfl (Zz UM (vn 6) (ZQ (pc (Zz YQ (Zz YQ (Ye YH (vn 2) Yy (Yx (vn 4))) (Ys (pc (cb (Y1 K) T.len (pc (vn 2) Zs)) Zs))) (Ye YH (vn 2) (Yx (Zz ZZ (vn 4) Zv)) Yy)) (pc (Zz YQ (Zz YQ (Ye YH (vn 2) Yy (Yx (vn 4))) (Ys (pc (vn 5) Zs))) (Ye YH (vn 2) (Yx (Zz ZZ (vn 4) Zv)) Yy)) Zs)))))
   (Zu (YK (ZL XL (cb (Y1 K) T.len (pc (vn 2) Zs)) Zv (ZS _)) (Zx (ZP 6 rfl (Zz UM (vn 6) (ZQ (pc (Zz YQ (Ye YH (vn 2) (Yx Zv) Yy) (Ye YH (vn 2) Yy (Yx Zv))) (pc (Zz YQ (Zz YQ (Ye YH (vn 2) Yy (Yx (vn 4))) (Ys (pc (ZB (Jw K) (vn 2) (Zz Xb (vn 4) Zv) (fun _ _=>rfl)) Zs))) (Ye YH (vn 2) (Yx (Zz ZZ (vn 4) Zv)) Yy)) Zs)))))) ZY)
   (Zx (ZF (JW (eqK K hr.units) (cmp ["_law_thing"] [1] ["_law_thing", "_law_group_here"] rfl (itL K (vn 6)) (fun _ _ _ _ _=>gn 0) (fun _ _ _ _ _=>Zdy (ZL VS (Y7 GTo hr ZG (pc Zv (pc (vn 1) (pc (vn 0) Zs)))) Wx (ZS _))) (fun _ _ _ _ _=>vn 0)) (ZQ Zs) (ZS _))))))))))),?_⟩
  have sz:(16777216:Nat)=sizeLine:=by decide
  have n1:=P1.n1
  have n60:=P1.n60
  obtain⟨gxs,u1,u2⟩:=GT.len (K:=K) G0
  refine⟨_,rfl,_,rfl,g,gxs,rfl,.inr u1,p,t.length,by rw[u2];rfl,L0.fd,n1,n60,fun ro os H1 d1 O ho=>?_⟩
  have L1:=L0.dr d1
  have G1:=L0.gt (.dr d1) G0
  have S:Sub t os:=⟨by rw[O.len];exact n1,O.nd,O.lt,O.z,fun a ha b hb=>O.all _ (P1.lt _ _ (O.lt a ha) (O.lt b hb))⟩
  have ol:(os.map nV).length=os.length:=List.length_map ..
  have ln:=O.len
  have flat:(os.map nV).all Jb=true:=by
   rw[List.all_eq_true]
   intro z hz
   obtain⟨k,_,rfl⟩:=List.mem_map.mp hz
   rfl
  refine⟨_,rfl,ro,rfl,⟨_,ho.sq⟩,?_⟩
  refine Ua (W:=Addr) id (fun i w H=>Tz H w (((WP t os).getD i []).map nV)) (fun _ _=>True) (Wi (K:=K) ho.sq) [some (.ref ro),some (.ref g)] rfl (by rw[ol];omega) (fun i w H H' s h=>h.mono s) (fun w H H' s h=>trivial) (fun i w H0 H1 D o ys ys' h h0 h1 h2=>Tz.updL h h2) (fun i y hy H2 s2 R k2=>?_) (fun D2 ws H2 nD2 s2 hD2 wl hw hp=>?_)
  ·obtain⟨x,hx,rfl⟩:=YF hy
   have hil:i<os.length:=(List.getElem?_eq_some_iff.mp hx).1
   have ox:os.getD i 0=x:=by rw[Zb,hx];rfl
   have hxo:=List.mem_of_getElem? hx
   have ha2:=ho.mono s2
   refine⟨_,rfl,ro,rfl,⟨_,ha2.sq⟩,?_⟩
   refine Xk (Wi (K:=K) ha2.sq) [some (.ref ro),some (.ref g),some (.int (x:Nat))] rfl (fun j=>nV (pos os (ZW t x (os.getD j 0)))) (by rw[ol];omega) (fun j y' hy' H3 s3 R' k3=>?_) (fun D3 H3 nD3 s3 hD3=>?_)
   ·obtain⟨z,hz,rfl⟩:=YF hy'
    have hzo:=List.mem_of_getElem? hz
    have oz:os.getD j 0=z:=by rw[Zb,hz];rfl
    obtain⟨rs,r2,g1,_,g2,g3,g4⟩:=(G1.mono (s2.trans s3)).at P1 (S.lt x hxo)
    obtain⟨p1,p2⟩:=Zal (S.cl x hxo z hzo)
    have ha3:=ha2.mono s3
    have fin:=k3 H3 (Zw.refl _)
    rw[oz] at fin
    refine⟨_,rfl,⟨_,_,rfl,ha3⟩,_,rfl,_,rfl,g,_,_,_,rfl,rfl,.of g1,g2,_,rfl,r2,_,_,_,rfl,rfl,g3.sq,g4 z (S.lt z hzo),ro,_,_,pos os (ZW t x z),rfl,rfl,ha3.sq,rfl,flat,by rw[ol];exact p1,fun u hu=>?_,fun m u hm hu=>?_,fin⟩
    ·rw[Zc,ZM p1,p2] at hu
     cases hu
     show (((ZW t x z:Nat):Int) == ((ZW t x z:Nat):Int))=true
     exact beq_self_eq_true _
    ·have hml:m<os.length:=by omega
     rw[Zc,ZM hml] at hu
     cases hu
     show (((os.getD m 0:Nat):Int) == ((ZW t x z:Nat):Int))=false
     refine beq_eq_false_iff_ne.mpr fun e=>?_
     have e:os.getD m 0=ZW t x z:=by omega
     have:=UE S.nd hml p1 (by rw[e,p2])
     omega
   ·rw[ol] at hD3
    have e:(List.range os.length).map (fun j=>nV (pos os (ZW t x (os.getD j 0))))=((WP t os).getD i []).map nV:=by
     rw[UF hil,ox,<-Vk os,List.map_map]
     rfl
    rw[e] at hD3
    exact⟨D3,_,rfl,.of hD3,fun z Hz nz sz' hz=>k2 z Hz (s3.trans sz') hz trivial⟩
  refine⟨D2,_,rfl,.inl ⟨.of hD2,fun sm nsm=>?_⟩⟩
  have s3:=Zw.upd (H:=H2) (o:=.tup (ws.map fun w=>V.ref (id w))) nsm
  have Gs:GT (upd H2 sm (.tup (ws.map fun w=>V.ref (id w)))) sm (WP t os):=⟨ws,Zt,by rw[wl,ol,W6],fun i r hr=>((hw i r hr).1).mono s3⟩
  have s17:=s2.trans s3
  generalize upd H2 sm (.tup (ws.map fun w=>V.ref (id w)))=H17 at s3 Gs s17 ⊢
  have L17:=L1.same s17
  have G17:=G1.mono s17
  have ho17:=ho.mono s17
  have fit:=ZfF (Zcc P1 O)
  have itO:∀(H:Hp),∀y∈os.map nV,ItV H y:=fun H y hy=>by
   obtain⟨k,hk,rfl⟩:=List.mem_map.mp hy
   have:=O.lt k hk
   exact .inl ⟨(k:Int),rfl,Nat.lt_of_lt_of_le (show (Int.natAbs (k:Int))<64 by omega) (by decide)⟩
  refine⟨_,rfl,_,rfl,.inr ⟨g,.ref ro,t,some (os.map nV),rfl,G17,P1,⟨ro,rfl,.inr ho17,by omega,itO H17⟩,L17.lt,fun gs r H18 _ e Sb b18 t18 X18=>?_,fun hn=>absurd ⟨os,rfl,ln,O.lt,O.all,?_⟩ hn⟩⟩
  case refine_2=>
   have:os.getD 0 1=os.getD 0 0:=by
    rw[Zb,Zb,ZM (by omega)]
    rfl
   rw[this]
   exact O.z
  injection e with e
  have e:=Xe e
  subst e
  have L18:=L17.bt b18 t18
  have G18:=L17.gt (.bt b18) G17
  have ho18:=L17.tz (.bt b18) ho17
  have Gs18:=L17.gt (.bt b18) Gs
  refine⟨_,UZ (WP t os),rfl,WV X18,fit,_,rfl,_,UZ (WP t os),rfl,WV Gs18,fit,rfl,_,rfl,WQ (by simp) ?_⟩
  refine⟨_,rfl,_,rfl,ro,_,rfl,.inr ho18.sq,p,_,rfl,L18.fd,by rw[ol];omega,by rw[ol];exact Jv (by omega) (by omega),fun ra H19 r0 r1 d19=>?_⟩
  rw[ol] at r1
  obtain⟨at',rfl⟩:=Int.eq_ofNat_of_zero_le r0
  have hat:at'<os.length:=by omega
  have L19:=L18.dr d19
  have G19:=L18.gt (.dr d19) G18
  have ho19:=L18.tz (.dr d19) ho18
  refine⟨(by show 4<=sizeLine;decide),fun Lo nLo=>?_⟩
  have s20:=Zw.upd (H:=H19) (o:=.lst [.bl false,.bl true,.str "0",.non]) nLo
  have hLo:=Zt (H:=H19) (a:=Lo) (o:=.lst [.bl false,.bl true,.str "0",.non])
  generalize upd H19 Lo (.lst [.bl false,.bl true,.str "0",.non])=H20 at s20 hLo ⊢
  have L20:=L19.same s20
  have nep:Lo≠p:=fun z=>by
   obtain⟨q0,ns,i,j,k,Fa⟩:=L19.fd
   rw[z,Fa.hp] at nLo
   cases nLo
  refine⟨_,rfl,p,4,rfl,L20.fd,by decide,by decide,fun rk H21 k0 k1 d21=>?_⟩
  have L21:=L20.dr d21
  have G21:=L20.gt (.dr d21) (G19.mono s20)
  have ho21:=L20.tz (.dr d21) (ho19.mono s20)
  have hLo21:=d21.keep _ _ hLo nep
  obtain⟨v,hv,iv,nv⟩:∃v,Xw [V.bl false,V.bl true,V.str "0",V.non] rk=some v/\(∀H,ItV H v)/\isN v=false:=by
   have:rk=0\/rk=1\/rk=2\/rk=3:=by omega
   rcases this with rfl|rfl|rfl|rfl
   ·exact⟨.bl false,ZV (j:=0) rfl,fun H=>.inr (.inl ⟨_,rfl⟩),rfl⟩
   ·exact⟨.bl true,ZV (j:=1) rfl,fun H=>.inr (.inl ⟨_,rfl⟩),rfl⟩
   ·exact⟨.str "0",ZV (j:=2) rfl,fun H=>.inr (.inr (.inr (.inl rfl))),rfl⟩
   ·exact⟨.non,ZV (j:=3) rfl,fun H=>.inr (.inr (.inl rfl)),rfl⟩
  refine⟨Lo,_,_,v,rfl,rfl,.of hLo21,hv,?_⟩
  have tO:∀{H:Hp},Zw H21 H->Um H ro (os.map nV):=fun s=>.inr (ho21.mono s)
  have i0:∀H,ItV H (.int 0):=fun H=>.inl ⟨0,rfl,by decide⟩
  have bad:∀{H:Hp}{x:Addr}{xs:List V},Um H x xs->xs.length<=300->(∀y∈xs,ItV H y)->¬Ju t.length (some xs)->Vx t.length H (.ref x):=fun {H x xs} h1 h2 h3 h4=>⟨some xs,⟨x,rfl,h1,h2,h3⟩,h4⟩
  refine⟨_,rfl,_,rfl,rfl,ro,_,rfl,ho21.sq,fun a1 na1=>?_⟩
  have sA:=Zw.upd (H:=H21) (o:=.tup (os.map nV).reverse) na1
  have hA:=Zt (H:=H21) (a:=a1) (o:=.tup (os.map nV).reverse)
  generalize upd H21 a1 (.tup (os.map nV).reverse)=HA at sA hA ⊢
  refine⟨(by show 1<=sizeLine;decide),fun b1 nb1=>?_⟩
  have sB':=Zw.upd (H:=HA) (o:=.tup [.int 0]) nb1
  have sB:=sA.trans sB'
  have hB:=Zt (H:=HA) (a:=b1) (o:=.tup [.int 0])
  have hA':=sB' _ _ hA
  generalize upd HA b1 (.tup [.int 0])=HB at sB hB hA' sB' ⊢
  refine⟨a1,b1,_,_,rfl,rfl,.inl hA',.inl hB,(by rw[List.length_reverse,ol];show os.length+1<=sizeLine;omega),fun x1 H22 s22 t1=>?_⟩
  have S22:=sB.trans s22
  have B1:Vx t.length H22 (.ref x1):=bad t1 (by rw[Zd,List.length_reverse,ol];show os.length+1<=300;omega) (fun y hy=>(List.mem_append.mp hy).elim (fun h=>itO _ y (List.mem_reverse.mp h)) fun h=>by cases List.mem_singleton.mp h;exact i0 _) (Vj (by rw[Zd,List.length_reverse,ol];show os.length+1≠_;omega))
  refine⟨_,rfl,_,rfl,_,rfl,ro,_,rfl,tO S22,fun x2 H23 s23 t2=>?_⟩
  have S23:=S22.trans s23
  have B2:Vx t.length H23 (.ref x2):=bad t2 (Nat.le_trans (Zc6 _ _ _) (by omega)) (fun y hy=>itO _ y (Zc5 hy)) (Vj (by rw[show (-(1:Int))=-1 from rfl,Zc3 (by omega),ol];omega))
  refine⟨_,rfl,ro,_,rfl,.inr (tO S23).sq,fun x3 nx3=>?_⟩
  have s24:=Zw.upd (H:=H23) (o:=.lst (os.map nV)) nx3
  have h3:=Zt (H:=H23) (a:=x3) (o:=.lst (os.map nV))
  generalize upd H23 x3 (.lst (os.map nV))=H24 at s24 h3 ⊢
  have S24:=S23.trans s24
  have B3:Vx t.length H24 (.ref x3):=⟨none,.inr (.inl ⟨x3,os,rfl,h3,by omega,fun k hk=>by have:=O.lt k hk;omega⟩),Vi⟩
  refine⟨(by show 0<=sizeLine;decide),fun x6 nx6=>?_⟩
  have s25:=Zw.upd (H:=H24) (o:=.tup []) nx6
  have h6:=Zt (H:=H24) (a:=x6) (o:=.tup [])
  generalize upd H24 x6 (.tup [])=H25 at s25 h6 ⊢
  have S25:=S24.trans s25
  have B6:Vx t.length H25 (.ref x6):=bad (.inl h6) (by decide) (fun y hy=>by cases hy) (Vj (by show 0≠_;omega))
  refine⟨(by show 1<=sizeLine;decide),fun x7 nx7=>?_⟩
  have s26:=Zw.upd (H:=H25) (o:=.tup [.bl true]) nx7
  have h7:=Zt (H:=H25) (a:=x7) (o:=.tup [.bl true])
  generalize upd H25 x7 (.tup [.bl true])=H26 at s26 h7 ⊢
  have S26:=S25.trans s26
  have B7:Vx t.length H26 (.ref x7):=bad (.inl h7) (by decide) (fun y hy=>by cases List.mem_singleton.mp hy;exact .inr (.inl ⟨_,rfl⟩)) (UP (List.mem_singleton.mpr rfl) fun k _ z=>by cases z)
  refine⟨_,rfl,_,rfl,ro,_,rfl,tO S26,fun a8 H27 s27 t8=>?_⟩
  refine⟨(by show 2<=sizeLine;decide),fun b8 nb8=>?_⟩
  have s28:=Zw.upd (H:=H27) (o:=.tup [.int 0,.int 0]) nb8
  have h8:=Zt (H:=H27) (a:=b8) (o:=.tup [.int 0,.int 0])
  generalize upd H27 b8 (.tup [.int 0,.int 0])=H28 at s28 h8 ⊢
  have ec1:YS (os.map nV) (some 1) none=(os.map nV).drop 1:=Zc4 (b:=1) (by omega)
  rw[ec1] at t8
  refine⟨a8,b8,_,_,rfl,rfl,t8.mono s28,.inl h8,(by rw[List.length_drop,ol];show os.length-1+2<=sizeLine;omega),fun x8 H29 s29 t8'=>?_⟩
  have S29:=S26.trans (s27.trans (s28.trans s29))
  have B8:Vx t.length H29 (.ref x8):=bad t8' (by rw[Zd,List.length_drop,ol];show os.length-1+2<=300;omega) (fun y hy=>(List.mem_append.mp hy).elim (fun h=>itO _ y (List.mem_of_mem_drop h)) fun h=>by
   rcases List.mem_cons.mp h with h|h
   ·cases h;exact i0 _
   ·cases List.mem_singleton.mp h;exact i0 _) (Vj (by rw[Zd,List.length_drop,ol];show os.length-1+2≠_;omega))
  refine⟨(by show 8<=sizeLine;decide),fun La nLa=>?_⟩
  have A8:∀x∈[V.ref x1,.ref x2,.ref x3,.non,.int 0,.ref x6,.ref x7,.ref x8],Vx t.length H29 x:=by
   have s89:=s27.trans (s28.trans s29)
   simp only[List.forall_mem_cons]
   refine⟨B1.mono (s23.trans (s24.trans (s25.trans (s26.trans s89)))),B2.mono (s24.trans (s25.trans (s26.trans s89))),B3.mono (s25.trans (s26.trans s89)),⟨none,.inl rfl,Vi⟩,⟨none,.inr (.inr rfl),Vi⟩,B6.mono (s26.trans s89),B7.mono s89,B8,fun x hx=>by cases hx⟩
  generalize hl8:[V.ref x1,.ref x2,.ref x3,.non,.int 0,.ref x6,.ref x7,.ref x8]=l8 at A8 nLa ⊢
  have ll8:l8.length=8:=by rw[<-hl8];rfl
  have s30:=Zw.upd (H:=H29) (o:=.lst l8) nLa
  have hLa:=Zt (H:=H29) (a:=La) (o:=.lst l8)
  generalize upd H29 La (.lst l8)=H30 at s30 hLa ⊢
  have S30:=S29.trans s30
  have ecT:YS (os.map nV) none (some (at':Int))=(os.take at').map nV:=by rw[Zc1 (by omega),List.map_take]
  have ecD:YS (os.map nV) (some ((at':Int)+1)) none=(os.drop (at'+1)).map nV:=by
   rw[show (at':Int)+1=((at'+1:Nat):Int) by omega,Zc4 (by omega),List.map_drop]
  have itT':∀(H:Hp) y,y∈(os.take at').map nV->ItV H y:=fun H y hy=>itO H y (by rw[List.map_take] at hy;exact List.mem_of_mem_take hy)
  have itD':∀(H:Hp) y,y∈(os.drop (at'+1)).map nV->ItV H y:=fun H y hy=>itO H y (by rw[List.map_drop] at hy;exact List.mem_of_mem_drop hy)
  have lT:((os.take at').map nV).length=at':=by rw[Za,List.length_take];omega
  have lD:((os.drop (at'+1)).map nV).length=os.length-(at'+1):=by rw[Za,List.length_drop]
  have mid:∀{H:Hp}{x:Addr}{u:V},Um H x ((os.take at').map nV++[u]++(os.drop (at'+1)).map nV)->ItV H u->¬Ju t.length (some ((os.take at').map nV++[u]++(os.drop (at'+1)).map nV))->Vx t.length H (.ref x):=fun {H x u} h1 h2 h3=>bad h1 (by rw[Zd,Zd,lT,lD];show at'+1+_<=300;omega) (fun y hy=>by
   rcases List.mem_append.mp hy with h|h
   ·rcases List.mem_append.mp h with h|h
    ·exact itT' _ y h
    ·cases List.mem_singleton.mp h;exact h2
   ·exact itD' _ y h) h3
  refine⟨_,rfl,?_⟩
  refine⟨_,rfl,_,rfl,_,rfl,ro,_,rfl,tO S30,fun a9 H31 s31 t9=>?_⟩
  rw[ecT] at t9
  refine⟨_,rfl,ro,_,rfl,.inr (tO (S30.trans s31)).sq,?_⟩
  refine⟨(by show 1<=sizeLine;decide),fun b9 nb9=>?_⟩
  rw[ol]
  have s32:=Zw.upd (H:=H31) (o:=.tup [.int (os.length:Nat)]) nb9
  have h9:=Zt (H:=H31) (a:=b9) (o:=.tup [.int (os.length:Nat)])
  generalize upd H31 b9 (.tup [.int (os.length:Nat)])=H32 at s32 h9 ⊢
  refine⟨a9,b9,_,_,rfl,rfl,t9.mono s32,.inl h9,(by rw[lT];show at'+1<=sizeLine;omega),fun c9 H33 s33 t9b=>?_⟩
  have S33:=S30.trans (s31.trans (s32.trans s33))
  refine⟨_,rfl,_,rfl,_,_,rfl,rfl,_,rfl,ro,_,rfl,tO S33,fun d9 H34 s34 t9c=>?_⟩
  rw[ecD] at t9c
  refine⟨c9,d9,_,_,rfl,rfl,t9b.mono s34,t9c,(by rw[Zd,lT,lD];show at'+1+_<=sizeLine;omega),fun x9 H35 s35 t9d=>?_⟩
  have S35:=S33.trans (s34.trans s35)
  have B9:Vx t.length H35 (.ref x9):=mid t9d (.inl ⟨_,rfl,Nat.lt_of_lt_of_le (show (Int.natAbs ((os.length:Nat):Int))<64 by omega) (by decide)⟩) (UP (List.mem_append_left _ (List.mem_append_right _ (List.mem_singleton.mpr rfl))) fun k hk z=>by
   have:=ZcA (a:=os.length) z
   omega)
  refine⟨_,rfl,_,rfl,_,rfl,ro,_,rfl,tO S35,fun a10 H36 s36 t10=>?_⟩
  rw[ecT] at t10
  refine⟨_,rfl,(by show 1<=sizeLine;decide),fun b10 nb10=>?_⟩
  have s37:=Zw.upd (H:=H36) (o:=.tup [v]) nb10
  have h10:=Zt (H:=H36) (a:=b10) (o:=.tup [v])
  generalize upd H36 b10 (.tup [v])=H37 at s37 h10 ⊢
  refine⟨a10,b10,_,_,rfl,rfl,t10.mono s37,.inl h10,(by rw[lT];show at'+1<=sizeLine;omega),fun c10 H38 s38 t10b=>?_⟩
  have S38:=S35.trans (s36.trans (s37.trans s38))
  refine⟨_,rfl,_,rfl,_,_,rfl,rfl,_,rfl,ro,_,rfl,tO S38,fun d10 H39 s39 t10c=>?_⟩
  rw[ecD] at t10c
  refine⟨c10,d10,_,_,rfl,rfl,t10b.mono s39,t10c,(by rw[Zd,lT,lD];show at'+1+_<=sizeLine;omega),fun x10 H40 s40 t10d=>?_⟩
  have S3540:=s36.trans (s37.trans (s38.trans (s39.trans s40)))
  have S40:=S35.trans S3540
  have B10:Vx t.length H40 (.ref x10):=mid t10d (iv _) (UP (List.mem_append_left _ (List.mem_append_right _ (List.mem_singleton.mpr rfl))) fun k hk z=>by
   rw[z] at nv
   cases nv)
  refine⟨(by show 2<=sizeLine;decide),fun Lb nLb=>?_⟩
  have s41:=Zw.upd (H:=H40) (o:=.lst [.ref x9,.ref x10]) nLb
  have hLb:=Zt (H:=H40) (a:=Lb) (o:=.lst [.ref x9,.ref x10])
  generalize upd H40 Lb (.lst [.ref x9,.ref x10])=H41 at s41 hLb ⊢
  have S3041:=s31.trans (s32.trans (s33.trans (s34.trans (s35.trans (S3540.trans s41)))))
  refine⟨La,Lb,l8,_,rfl,rfl,S3041 _ _ hLa,hLb,(by rw[ll8];show 8+2<=sizeLine;omega),fun Lc nLc=>?_⟩
  have A10:∀x∈l8++[V.ref x9,.ref x10],Vx t.length H41 x:=fun x hx=>by
   rcases List.mem_append.mp hx with h|h
   ·exact (A8 x h).mono (s30.trans S3041)
   rcases List.mem_cons.mp h with h|h
   ·subst h;exact B9.mono (S3540.trans s41)
   ·cases List.mem_singleton.mp h;exact B10.mono s41
  have S41:=S40.trans s41
  have s42:=Zw.upd (H:=H41) (o:=.lst (l8++[.ref x9,.ref x10])) nLc
  have hLc:=Zt (H:=H41) (a:=Lc) (o:=.lst (l8++[.ref x9,.ref x10]))
  generalize upd H41 Lc (.lst (l8++[.ref x9,.ref x10]))=H42 at s42 hLc ⊢
  have ll10:(l8++[V.ref x9,.ref x10]).length=10:=by rw[Zd,ll8];rfl
  have S42:=S41.trans s42
  generalize l8++[V.ref x9,.ref x10]=l10 at A10 hLc ll10
  refine⟨_,rfl,ro,_,rfl,.inr (tO S42).sq,_,_,rfl,rfl,_,rfl,?_⟩
  rw[ol]
  refine Y2 (fun hk1=>?_) (fun hk1=>?_)
  case' refine_1=>
   have h1:1<os.length:=by have:=of_decide_eq_true hk1;omega
   refine⟨_,rfl,?_⟩
   refine⟨_,rfl,_,rfl,ro,_,rfl,tO S42,fun a11 H43 s43 t11=>?_⟩
   rw[ec1] at t11
   have ec2:YS (os.map nV) none (some 1)=(os.map nV).take 1:=Zc1 (b:=1) (by omega)
   refine⟨_,rfl,_,rfl,ro,_,rfl,tO (S42.trans s43),fun b11 H44 s44 t11b=>?_⟩
   rw[ec2] at t11b
   refine⟨a11,b11,_,_,rfl,rfl,t11.mono s44,t11b,(by rw[List.length_drop,List.length_take,ol];omega),fun x11 H45 s45 t11c=>?_⟩
   have S45:=S42.trans (s43.trans (s44.trans s45))
   have B11:Vx t.length H45 (.ref x11):=bad t11c (by rw[Zd,List.length_drop,List.length_take,ol];omega) (fun y hy=>(List.mem_append.mp hy).elim (fun h=>itO _ y (List.mem_of_mem_drop h)) fun h=>itO _ y (List.mem_of_mem_take h)) (Zcy (k:=os.getD 1 0) (by
    rw[List.getElem?_append_left (by rw[List.length_drop,ol];omega),List.getElem?_drop,Zc,ZM (by omega)]
    rfl) (by
    have:=ZaB O.nd (i:=1) (j:=0) h1 (by omega) (by decide)
    rw[O.z] at this
    exact this))
   obtain⟨j,hj,hji,hu⟩:=ZbF hat h1
   refine⟨_,rfl,_,rfl,_,rfl,ro,_,rfl,tO S45,fun a12 H46 s46 t12=>?_⟩
   rw[ecT] at t12
   refine⟨_,rfl,_,rfl,_,_,rfl,rfl,ro,_,_,nV (os.getD j 0),rfl,rfl,(tO (S45.trans s46)).sq,hu,?_⟩
   refine⟨(by show 1<=sizeLine;decide),fun b12 nb12=>?_⟩
   have s47:=Zw.upd (H:=H46) (o:=.tup [nV (os.getD j 0)]) nb12
   have h12:=Zt (H:=H46) (a:=b12) (o:=.tup [nV (os.getD j 0)])
   generalize upd H46 b12 (.tup [nV (os.getD j 0)])=H47 at s47 h12 ⊢
   refine⟨a12,b12,_,_,rfl,rfl,t12.mono s47,.inl h12,(by rw[lT];show at'+1<=sizeLine;omega),fun c12 H48 s48 t12b=>?_⟩
   have S48:=S45.trans (s46.trans (s47.trans s48))
   refine⟨_,rfl,_,rfl,_,_,rfl,rfl,_,rfl,ro,_,rfl,tO S48,fun d12 H49 s49 t12c=>?_⟩
   rw[ecD] at t12c
   refine⟨c12,d12,_,_,rfl,rfl,t12b.mono s49,t12c,(by rw[Zd,lT,lD];show at'+1+_<=sizeLine;omega),fun x12 H50 s50 t12d=>?_⟩
   have S4550:=s46.trans (s47.trans (s48.trans (s49.trans s50)))
   have S50:=S45.trans S4550
   have B12:Vx t.length H50 (.ref x12):=mid t12d (itO _ _ (List.mem_map.mpr ⟨_,List.mem_of_getElem? (ZM hj),rfl⟩)) (Zfr (k:=os.getD at' 0) (O.lt _ (List.mem_of_getElem? (ZM hat))) (fun z=>by
    obtain⟨n2,n3⟩:=Zdd O.nd hat
    rcases List.mem_append.mp z with h|h
    ·rcases List.mem_append.mp h with h|h
     ·exact XM n2 h
     ·have:=ZcA (List.mem_singleton.mp h)
      exact ZaB O.nd hat hj hji.symm this
    ·exact XM n3 h))
   refine⟨(by show 2<=sizeLine;decide),fun Ld nLd=>?_⟩
   have s51:=Zw.upd (H:=H50) (o:=.lst [.ref x11,.ref x12]) nLd
   have hLd:=Zt (H:=H50) (a:=Ld) (o:=.lst [.ref x11,.ref x12])
   generalize upd H50 Ld (.lst [.ref x11,.ref x12])=H51 at s51 hLd ⊢
   have S4251:=s43.trans (s44.trans (s45.trans (S4550.trans s51)))
   refine⟨Lc,Ld,l10,_,rfl,rfl,S4251 _ _ hLc,hLd,(by rw[ll10];show 10+2<=sizeLine;omega),fun Le nLe=>?_⟩
   have s52:=Zw.upd (H:=H51) (o:=.lst (l10++[.ref x11,.ref x12])) nLe
   have hLx:=Zt (H:=H51) (a:=Le) (o:=.lst (l10++[.ref x11,.ref x12]))
   generalize upd H51 Le (.lst (l10++[.ref x11,.ref x12]))=Hx at s52 hLx ⊢
   have Ax:∀x∈l10++[V.ref x11,.ref x12],Vx t.length Hx x:=fun x hx=>by
    rcases List.mem_append.mp hx with h|h
    ·exact (A10 x h).mono (s42.trans (S4251.trans s52))
    rcases List.mem_cons.mp h with h|h
    ·subst h;exact B11.mono (S4550.trans (s51.trans s52))
    ·cases List.mem_singleton.mp h;exact B12.mono (s51.trans s52)
   have lx12:(l10++[V.ref x11,.ref x12]).length<=12:=by rw[Zd,ll10];show 10+2<=12;omega
   have Sx:=S50.trans (s51.trans s52)
   obtain⟨Lx,eLx⟩:∃x,x=Le:=⟨_,rfl⟩
   subst eLx
   generalize l10++[V.ref x11,.ref x12]=lx at Ax hLx lx12
  case' refine_2=>
   obtain⟨Lx,eLx⟩:∃x,x=Lc:=⟨_,rfl⟩
   subst eLx
   obtain⟨Hx,eHx⟩:∃x,x=H42:=⟨_,rfl⟩
   subst eHx
   have hLx:=hLc
   have Ax:∀x∈l10,Vx t.length Hx x:=fun x hx=>(A10 x hx).mono s42
   have lx12:l10.length<=12:=by omega
   have Sx:=S42
   obtain⟨lx,elx⟩:∃x,x=l10:=⟨_,rfl⟩
   subst elx
  all_goals
   have Lx9:=L21.same Sx
   have Gx9:=G21.mono Sx
   refine⟨_,rfl,Lx,rfl,⟨_,.of hLx⟩,?_⟩
   refine Zbt (Yv (K:=K) (.of hLx)) [some (.ref g)] rfl (fun _=>false) (fun y=>y) (by omega) (fun e y H5 hy s5 R R' k1 k2=>?_) (fun Dd H5 nD s5 hD=>?_)
   ·obtain⟨o,hT,hn⟩:=(Ax y (List.mem_of_getElem? hy)).mono s5
    exact⟨_,rfl,_,rfl,.inr ⟨g,y,t,o,rfl,Gx9.mono s5,P1,hT,(Lx9.same s5).lt,fun gs r H6 od=>absurd od hn,fun _ H6 s6=>⟨rfl,_,rfl,WQ (by decide) (k2 rfl H6 s6)⟩⟩⟩
   ·have e0:lx.filter (fun _=>false)=[]:=List.filter_eq_nil_iff.mpr fun _ _ z=>by cases z
    rw[e0] at hD
    refine⟨(by show 0<=sizeLine;decide),fun em nem=>?_⟩
    have s6:=Zw.upd (H:=H5) (o:=.lst []) nem
    refine⟨.list [],.list [],.lst (.of (s6 _ _ hD)) .nil,.lst (.of Zt) .nil,rfl,rfl,?_⟩
    have sE:=Sx.trans (s5.trans s6)
    refine q _ (Mv.trans (.dr d1) (Mv.trans (.of s17) (Mv.trans (.bt b18) (Mv.trans (.dr d19) (Mv.trans (.of s20) (Mv.trans (.dr d21) (.of sE))))))) (L21.same sE)
end
abbrev Zgp:Stmt:=top 39
def Zai (K:PySem.W.Frag)(Pg Pr:Addr):Sp:=fun vs H Q _=>∃(a:Addr) (ns:List Int),vs=[.ref a]/\Wq K H a (ns.map V.int)/\ns.length<=63/\LT H Pg Pr/\∀H',Q (.bl true) H'
theorem ZbV {t:List (List Nat)}(P:PW t):Uo 2 3660 (UZ t):=by
 have:=Uo.tup (k:=1) (b:=60) (n:=60) (ds:=t.map Zc0) (by rw[Za];exact P.n60) fun d hd=>by
  obtain⟨row,hr,rfl⟩:=List.mem_map.mp hd
  refine Zak (by rw[P.len row hr];exact P.n60) fun k hk=>?_
  obtain⟨i,hi⟩:=List.getElem?_of_mem hr
  obtain⟨j,hj⟩:=List.getElem?_of_mem hk
  have hil:=(List.getElem?_eq_some_iff.mp hi).1
  have hjl:=(List.getElem?_eq_some_iff.mp hj).1
  rw[P.len row hr] at hjl
  have:=P.lt i j hil hjl
  unfold ZW at this
  rw[Zb,Zb,hi] at this
  have this:(row[j]?).getD 0<t.length:=this
  rw[hj] at this
  have this:k<t.length:=this
  have:=P.n60
  omega
 exact this
theorem Zd4 {t1 t2:List (List Nat)}(P1:PW t1)(P2:PW t2):Uj (.tuple [UZ t1,UZ t2]):=
 (Uo.tup (k:=2) (b:=3660) (n:=2) (ds:=[UZ t1,UZ t2]) (Zq _) fun d hd=>by
  rcases List.mem_cons.mp hd with rfl|hd
  ·exact ZbV P1
  ·cases List.mem_singleton.mp hd;exact ZbV P2).fit (by decide) (by decide)
theorem ZcO {t1 t2:List (List Nat)}(P1:PW t1)(P2:PW t2)(h:t1.length*t2.length<=60):Uj (UZ (pt t1 t2)):=by
 refine ZcP (by rw[Zcf];exact h) fun row hr=>?_
 unfold pt at hr
 obtain⟨x,hx,rfl⟩:=List.mem_map.mp hr
 refine⟨by rw[Za,Zg];exact h,fun k hk=>?_⟩
 obtain⟨y,hy,rfl⟩:=List.mem_map.mp hk
 have:=Ve P1 P2 (List.mem_range.mp hx) (List.mem_range.mp hy)
 omega
theorem Jc:Uj (.str "many"):=⟨by decide +kernel,by decide +kernel,by decide +kernel,by decide +kernel⟩
theorem pw5:PW (tw 5 1 1):=Yr (by have:=Jr;rw[List.all_eq_true] at this;exact this 4 (by decide))
theorem ZhR:PW (tw 12 1 1):=Yr (by have:=Jr;rw[List.all_eq_true] at this;exact this 11 (by decide))
theorem pw7:PW (tw 7 1 1):=Yr (by have:=Jr;rw[List.all_eq_true] at this;exact this 6 (by decide))
theorem pw9:PW (tw 9 1 1):=Yr (by have:=Jr;rw[List.all_eq_true] at this;exact this 8 (by decide))
section
variable {P:Program}{w:World}{K:PySem.W.Frag}{mg:Str->Option Value}{base:Heap}
theorem Zfm {f Pg Pr:Addr}{fd:FuncData}(F:Wt K "law" "law" Zgp f fd)(T:Bl mg)(GF:Fn P w K mg base Yp 1 "_law_feed" ["_law_script"] (ZbU K))(GTw:Fn P w K mg base Yp 1 "_law_twined" ["_law_m", "_law_many", "_law_u"] ZeP)(GTo:Fn P w K mg base Yp 5 "_law_told" ["_law_way", "_law_one", "_law_other"] (UA Pg Pr))
  (GDu:Fn P w K mg base Yp 1 "_law_due" ["_law_one", "_law_other"] Zel) (GG:Fn P w K mg base Yp 3 "_law_group" ["_law_feed_here"] Zah) (GOR:Fn P w K mg base Yp 6 "_law_orders_right" ["_law_feed_here", "_law_group_here"] (Zej Pg Pr)) :
  Z5 P w K mg base Yp 7 f fd ["_law_script"] (Zai K Pg Pr):=by
 refine F.ok (FS (N:=["_law_script", "_law_feed_here", "_law_sizes", "_law_one", "_law_other", "_law_turn", "_law_kept"])) (fun vs H Q E h=>?_) (fun cdv A outer s H vs Q E hr h=>?_)
 ·obtain⟨a,ns,rfl,_⟩:=h;rfl
 ·obtain⟨a,ns,rfl,hS,hlen,hT,q⟩:=h
  refine⟨_,Zu (ZP 1 rfl (Y7 GF hr ZG (pc (vn 0) Zs)))
   (Zu (Z3 PassesOwn.never rfl (itL K (ZQ (pc (Ys (pc Zv (pc Zv Zs))) (pc (Ys (pc Zv (pc Zv Zs))) Zs)))) (gn 2)
   (Zu (Za7 3 4 rfl (pc (Y7 GTw hr ZG (pc (ZB (Jw K) (vn 2) Zv (fun _ _=>rfl)) (pc Zv (pc Zv Zs)))) (pc (Y7 GTw hr ZG (pc (ZB (Jw K) (vn 2) Zv (fun _ _=>rfl)) (pc Zv (pc Zv Zs)))) Zs)))
   (Zx (YK (ZL VS (cb (JC K hr) T.repr (pc (Y7 GTo hr ZG (pc Zv (pc (vn 3) (pc (vn 4) Zs)))) Zs)) (cb (JC K hr) T.repr (pc (Y7 GDu hr ZG (pc (vn 3) (pc (vn 4) Zs))) Zs)) (ZS _)) (Zx (ZF JF)) ZY))))
   (Zu (Z3 PassesOwn.never rfl (JP T.range (pc Zv Zs)) (gn 5)
   (Zu (Za7 3 4 rfl (pc (Y7 GG hr ZG (pc (vn 1) Zs)) (pc (Y7 GG hr ZG (pc (vn 1) Zs)) Zs)))
   (Zu (ZP 6 rfl (cb (JC K hr) T.repr (pc (Ys (pc (vn 3) (pc (vn 4) Zs))) Zs)))
   (Zu (YK (ZL VS (cb (JC K hr) T.repr (pc (Y7 GTo hr ZG (pc Zv (pc (vn 3) (pc (vn 4) Zs)))) Zs)) (cb (JC K hr) T.repr (pc (Y7 GDu hr ZG (pc (vn 3) (pc (vn 4) Zs))) Zs)) (ZS _)) (Zx (ZF JF)) ZY)
   (Zx (YK (Zan (Vd (Js (Y7 GOR hr ZG (pc (vn 1) (pc (vn 3) Zs))))) (Zan (Vd (Js (Y7 GOR hr ZG (pc (vn 1) (pc (vn 4) Zs))))) (Zcd (ZL VS (cb (JC K hr) T.repr (pc (Ys (pc (vn 3) (pc (vn 4) Zs))) Zs)) (vn 6) (ZS _))))).pt (Zx (ZF JF)) ZY))))))
   (Zx (ZF JF)))),?_⟩
  refine⟨_,rfl,a,ns,rfl,hS,fun p H1 s1 np Fd=>?_⟩
  have L1:LS H1 p Pg Pr:=⟨Fd,hT.mono s1⟩
  refine⟨(by show 2<=sizeLine;decide),fun z1 nz1=>⟨(by show 2<=sizeLine;decide),fun z2 nz2=>⟨(by show 2<=sizeLine;decide),fun Ls nLs=>?_⟩⟩⟩
  have sa:=Zw.upd (H:=H1) (o:=.tup [.int 5,.int 12]) nz1
  have ha:=Zt (H:=H1) (a:=z1) (o:=.tup [.int 5,.int 12])
  generalize upd H1 z1 (.tup [.int 5,.int 12])=Ha at sa ha nz2 nLs ⊢
  have sb:=Zw.upd (H:=Ha) (o:=.tup [.int 7,.int 9]) nz2
  have hb:=Zt (H:=Ha) (a:=z2) (o:=.tup [.int 7,.int 9])
  generalize upd Ha z2 (.tup [.int 7,.int 9])=Hb at sb hb nLs ⊢
  have sc:=Zw.upd (H:=Hb) (o:=.lst [.ref z1,.ref z2]) nLs
  have hc:=Zt (H:=Hb) (a:=Ls) (o:=.lst [.ref z1,.ref z2])
  generalize upd Hb Ls (.lst [.ref z1,.ref z2])=Hc at sc hc ⊢
  have Lc:=L1.same (sa.trans (sb.trans sc))
  refine⟨Ls,rfl,⟨_,.of hc⟩,?_⟩
  refine Y6 (H0:=upd (fun _=>none) Ls (.lst [.ref z1,.ref z2])) (Yv (K:=K) (.of Zt)) (fun i σ' H'=>∃v2 v3 v4 v5 v6:Option V,σ'=[some (.ref a),some (.ref p),v2,v3,v4,v5,v6]/\LS H' p Pg Pr/\H' Ls=some (.lst [.ref z1,.ref z2])/\H' z1=some (.tup [.int 5,.int 12])/\H' z2=some (.tup [.int 7,.int 9]))
   ⟨_,_,_,_,_,rfl,Lc,hc,(sb.trans sc) _ _ ha,sc _ _ hb⟩ (fun i σ' H' h=>by
    obtain⟨_,_,_,_,_,_,_,e,_⟩:=h
    exact ZbY e) ?_ ?_
  ·rintro i y σ' H2 hy ⟨v2,v3,v4,v5,v6,rfl,L2,hL2,h12,h22⟩
   obtain⟨z,m,k,rfl,hz,Pm',Pk',m1,k1,m60,k60⟩:∃(z:Addr) (m k:Nat),y=.ref z/\H2 z=some (.tup [.int (m:Nat),.int (k:Nat)])/\PW (tw m 1 1)/\PW (tw k 1 1)/\1<=m/\1<=k/\m<=60/\k<=60:=by
    match i,hy with
    |0,hy=>cases hy;exact⟨z1,5,12,rfl,h12,pw5,ZhR,by decide,by decide,by decide,by decide⟩
    |1,hy=>cases hy;exact⟨z2,7,9,rfl,h22,pw7,pw9,by decide,by decide,by decide,by decide⟩
    |i+2,hy=>cases hy
   refine⟨_,rfl,z,_,0,.int (m:Nat),rfl,rfl,.of hz,ZV (j:=0) rfl,m,1,1,rfl,m1,by decide,by omega,by decide,m60,by decide,fun ga H3 s3 X1=>?_⟩
   refine⟨_,rfl,z,_,1,.int (k:Nat),rfl,rfl,.of (s3 _ _ hz),ZV (j:=1) rfl,k,1,1,rfl,k1,by decide,by omega,by decide,k60,by decide,fun gb H4 s4 X2=>⟨_,_,rfl,?_⟩⟩
   have s34:=s3.trans s4
   have L4:=L2.same s34
   have X1':=X1.mono s4
   have inv:∀H5,Mv p Pg Pr H4 H5->LS H5 p Pg Pr->H5 Ls=some (.lst [.ref z1,.ref z2])->∃v2 v3 v4 v5' v6':Option V,[some (V.ref a),some (.ref p),some (.ref z),some (.ref ga),some (.ref gb),v5,v6]=[some (.ref a),some (.ref p),v2,v3,v4,v5',v6']/\LS H5 p Pg Pr/\H5 Ls=some (.lst [.ref z1,.ref z2])/\H5 z1=some (.tup [.int 5,.int 12])/\H5 z2=some (.tup [.int 7,.int 9]):=fun H5 m5 L5 e5=>⟨_,_,_,_,_,rfl,L5,e5,L4.tup m5 (s34 _ _ h12),L4.tup m5 (s34 _ _ h22)⟩
   refine⟨_,rfl,_,rfl,.inl ⟨ga,gb,_,_,rfl,X1',X2,Pm',Pk',L4.lt,fun hk r H5 b5 t5 X5=>?_,fun hk H5 s5=>?_⟩⟩
   ·have L5:=L4.bt b5 t5
    have e5:=b5 _ _ (s34 _ _ hL2) (L4.lt.g.ne (s34 _ _ hL2) fun _ z=>by cases z) (L4.lt.r.ne (s34 _ _ hL2) fun _ z=>by cases z)
    have fit:=ZcO Pm' Pk' hk
    refine⟨_,_,rfl,WV X5,fit,_,rfl,_,rfl,ga,gb,_,_,rfl,L4.gt (.bt b5) X1',L4.gt (.bt b5) X2,Pm',Pk',fun _ r2 H6 s6 X6=>⟨_,_,rfl,WV X6,fit,rfl,_,rfl,WQ (by simp) ?_⟩,fun hn=>absurd hk (by omega)⟩
    exact inv H6 (Mv.trans (.bt b5) (.of s6)) (L5.same s6) (s6 _ _ e5)
   ·refine⟨_,_,rfl,.str "many",Jc,_,rfl,_,rfl,ga,gb,_,_,rfl,X1'.mono s5,X2.mono s5,Pm',Pk',fun hn=>absurd hk (by omega),fun _=>⟨_,_,rfl,.str "many",Jc,rfl,_,rfl,WQ (by simp) ?_⟩⟩
    exact inv H5 (.of s5) (L4.same s5) (s5 _ _ (s34 _ _ hL2))
  ·rintro σ' H2 ⟨v2,v3,v4,v5,v6,rfl,L2,_,_,_⟩
   refine⟨_,rfl,by decide,by decide,?_⟩
   refine Z7 (fun i σ' H'=>∃v2 v3 v4 v5 v6:Option V,σ'=[some (.ref a),some (.ref p),v2,v3,v4,v5,v6]/\LS H' p Pg Pr) ⟨_,_,_,_,_,rfl,L2⟩ ?_ (fun σ' H3 _=>q H3)
   rintro i σ' H3 hi ⟨w2,w3,w4,w5,w6,rfl,L3⟩
   refine⟨_,rfl,p,rfl,L3.fd,fun ga t1 H4 d4 X1 P1=>?_⟩
   have L4:=L3.dr d4
   refine⟨_,rfl,p,rfl,L4.fd,fun gb t2 H5 d5 X2 P2=>⟨_,_,rfl,?_⟩⟩
   have L5:=L4.dr d5
   have X15:=L4.gt (.dr d5) X1
   refine⟨_,rfl,_,rfl,(by show 2<=sizeLine;decide),fun tp ntp=>?_⟩
   have s6:=Zw.upd (H:=H5) (o:=.tup [.ref ga,.ref gb]) ntp
   have h6:=Zt (H:=H5) (a:=tp) (o:=.tup [.ref ga,.ref gb])
   generalize upd H5 tp (.tup [.ref ga,.ref gb])=H6 at s6 h6 ⊢
   have L6:=L5.same s6
   have G1:=X15.mono s6
   have G2:=X2.mono s6
   have f2:=Zd4 P1 P2
   refine⟨_,.tuple [UZ t1,UZ t2],rfl,.tup (.of h6) (.cons (WV G1) (.cons (WV G2) .nil)),f2,?_⟩
   refine⟨_,rfl,_,rfl,.inl ⟨ga,gb,t1,t2,rfl,G1,G2,P1,P2,L6.lt,fun hk r H7 b7 t7 X7=>?_,fun hk H7 s7=>?_⟩⟩
   case' refine_1=>
    have L7:=L6.bt b7 t7
    have fit:=ZcO P1 P2 hk
    refine⟨_,_,rfl,WV X7,fit,_,rfl,_,rfl,ga,gb,t1,t2,rfl,L6.gt (.bt b7) G1,L6.gt (.bt b7) G2,P1,P2,fun _ r2 Hx s8 X8=>⟨_,_,rfl,WV X8,fit,rfl,_,rfl,WQ (by simp) ?_⟩,fun hn=>absurd hk (by omega)⟩
    have Lx:=L7.same s8
    have Gx1:=(L6.gt (.bt b7) G1).mono s8
    have Gx2:=(L6.gt (.bt b7) G2).mono s8
   case' refine_2=>
    refine⟨_,_,rfl,.str "many",Jc,_,rfl,_,rfl,ga,gb,t1,t2,rfl,G1.mono s7,G2.mono s7,P1,P2,fun hn=>absurd hk (by omega),fun _=>⟨_,_,rfl,.str "many",Jc,rfl,_,rfl,WQ (by simp) ?_⟩⟩
    obtain⟨Hx,eHx⟩:∃x,x=H7:=⟨_,rfl⟩
    subst eHx
    have Lx:=L6.same s7
    have Gx1:=G1.mono s7
    have Gx2:=G2.mono s7
   all_goals
    refine⟨_,rfl,_,rfl,p,ga,t1,rfl,Lx,Gx1,P1,fun Hy my Ly=>⟨_,rfl,WQ (by decide) ?_⟩⟩
    have Gy1:=Lx.gt my Gx1
    have Gy2:=Lx.gt my Gx2
    refine⟨_,rfl,_,rfl,p,gb,t2,rfl,Ly,Gy2,P2,fun Hz mz Lz=>⟨_,rfl,WQ (by decide) ?_⟩⟩
    have Gz1:=Ly.gt mz Gy1
    have Gz2:=Ly.gt mz Gy2
    refine⟨_,rfl,_,rfl,(by show 2<=sizeLine;decide),fun tq ntq=>?_⟩
    have s9:=Zw.upd (H:=Hz) (o:=.tup [.ref ga,.ref gb]) ntq
    have h9:=Zt (H:=Hz) (a:=tq) (o:=.tup [.ref ga,.ref gb])
    generalize upd Hz tq (.tup [.ref ga,.ref gb])=H9 at s9 h9 ⊢
    refine⟨_,.tuple [UZ t1,UZ t2],rfl,.tup (.of h9) (.cons (WV (Gz1.mono s9)) (.cons (WV (Gz2.mono s9)) .nil)),f2,_,rfl,rfl,_,rfl,WQ (by simp) ?_⟩
    exact⟨_,_,_,_,_,rfl,Lz.same s9⟩
end
theorem all_mk {l:PySem.W.OpenLaw}{w:World}{K:PySem.W.Frag}{h:Heap}{mg:Str->Option Value}{fa T0 U0:Addr}{et:Array DictEntry}{tk:Tok}{c0 c1 c2 c3 c4 c5 c6 c7 c8 c9 c10 c11:Ec}(X:K.In h)(G:h.Ns mainGlobals mg)(hfa:mg "law"=some (.ref fa))
  (tb:Zab K T0 U0 et) (e0:Y0 K "NoGroup" T0 U0 et c0) (e1:Y0 K "NoTable" T0 U0 et c1) (e2:Y0 K "NoShares" T0 U0 et c2) (e3:Y0 K "NoPerm" T0 U0 et c3) (e4:Y0 K "NoLines" T0 U0 et c4) (e5:Y0 K "NoAlike" T0 U0 et c5) (e6:Y0 K "NoName" T0 U0 et c6) (e7:JS K "TooMany" T0 U0 et c7) (e8:JS K "NoOrder" T0 U0 et c8) (e9:JS K "NoPart" T0 U0 et c9) (e10:JS K "NoText" T0 U0 et c10) (e11:JS K "NoRow" T0 U0 et c11)
  (dst:ZaG T0 [c0.C,c1.C,c2.C,c3.C,c4.C,c5.C,c6.C,c7.C,c8.C,c9.C,c10.C,c11.C]=true) (m:PySem.W.nsIn K mainGlobals "MOST_THINGS"=some (some (.int 60 tk)))
  (d1:ZD K "is_whole" ZbZ) (d2:ZD K "are_things" Zes) (d3:ZD K "is_order" Zb1) (d4:ZD K "numbered" VI) (d5:ZD K "tabled" W4) (d6:ZD K "together" ZaY) (d7:ZD K "renamed" XF) (d8:ZD K "_law_feed" Zeq) (d9:ZD K "_law_draw" Zer) (d10:ZD K "_law_twined" sTw) (d11:ZD K "_law_eight" Zb3) (d12:ZD K "_law_by_perms" Zgs) (d13:ZD K "_law_put" Zgm) (d14:ZD K "_law_renamed" Zgl) (d15:ZD K "_law_one_group" Zgo) (d16:ZD K "_law_group" Zb2) (d17:ZD K "_law_word" Zeo) (d18:ZD K "_law_told" Zep) (d19:ZD K "_law_due" Zgq) (d20:ZD K "_law_order" Zb0) (d21:ZD K "_law_orders_right" Zgn) (d22:ZD K "law" Zgp) (htg:VB K "together" 257 253=true) (hcg:PySem.W.codeHdIn K 257 253=true) (htr:VB K "renamed" 264 260=true) (hcr:PySem.W.codeHdIn K 264 260=true)
  (z1:PySem.W.nsIn K mainGlobals "list"=some none) (z2:PySem.W.nsIn K mainGlobals "len"=some none) (z3:PySem.W.nsIn K mainGlobals "abs"=some none) (z4:PySem.W.nsIn K mainGlobals "range"=some none) (z5:PySem.W.nsIn K mainGlobals "tuple"=some none) (z6:PySem.W.nsIn K mainGlobals "isinstance"=some none) (z7:PySem.W.nsIn K mainGlobals "all"=some none) (z8:PySem.W.nsIn K mainGlobals "set"=some none) (z9:PySem.W.nsIn K mainGlobals "repr"=some none) (z10:PySem.W.nsIn K mainGlobals "any"=some none) (z11:PySem.W.nsIn K mainGlobals "int"=some none) (z12:PySem.W.nsIn K mainGlobals "bool"=some none) (z13:PySem.W.nsIn K mainGlobals "sorted"=some none) (z14:PySem.W.nsIn K mainGlobals "enumerate"=some none) (z15:PySem.W.nsIn K mainGlobals "max"=some none) (z16:PySem.W.nsIn K mainGlobals "ValueError"=some none) :
  ∃fd:FuncData,(∀(s:Shared) (v:Value),BindsTo s fd ⟨[v],[]⟩ [("_law_script",v)])/\∀base:Heap,K.In base->base.Ns mainGlobals mg->WT base mg->Z5 l.prog w K mg base Yp 7 fa fd ["_law_script"] (Zai K 253 260):=by
 have T:Bl mg:=⟨PySem.W.mg_none_of X G z1,PySem.W.mg_none_of X G z2,PySem.W.mg_none_of X G z3,PySem.W.mg_none_of X G z4,PySem.W.mg_none_of X G z5,PySem.W.mg_none_of X G z6,PySem.W.mg_none_of X G z7,PySem.W.mg_none_of X G z8,PySem.W.mg_none_of X G z9,PySem.W.mg_none_of X G z10,PySem.W.mg_none_of X G z11,PySem.W.mg_none_of X G z12⟩
 have T2:ZfY mg:=⟨PySem.W.mg_none_of X G z13,PySem.W.mg_none_of X G z14⟩
 have TS:BlS mg:=⟨PySem.W.mg_none_of X G z13⟩
 have TV:BlV mg:=⟨PySem.W.mg_none_of X G z16⟩
 have hM:=PySem.W.mg_of X G m
 obtain⟨D1,D2⟩:=ZaF dst
 have S:Cs K mg T0 U0 et (U7 [c0,c1,c2,c3,c4,c5,c6,c7,c8,c9,c10,c11]):=by
  have ok:∀k,k<12->Y0 K (Zc7 k) T0 U0 et (U7 [c0,c1,c2,c3,c4,c5,c6,c7,c8,c9,c10,c11] k):=fun k hk=>by
   rcases k12 hk with rfl|rfl|rfl|rfl|rfl|rfl|rfl|rfl|rfl|rfl|rfl|rfl
   ·exact e0
   ·exact e1
   ·exact e2
   ·exact e3
   ·exact e4
   ·exact e5
   ·exact e6
   ·exact e7.1
   ·exact e8.1
   ·exact e9.1
   ·exact e10.1
   ·exact e11.1
  refine⟨tb,ok,PySem.W.mg_of X G tb.t.at_,fun k hk=>PySem.W.mg_of X G (ok k hk).c.at_,fun j k hj hk e=>?_,fun k hk=>?_,fun k h7 hk=>?_⟩
  ·refine D1 j k _ (Vu (l:=[c0,c1,c2,c3,c4,c5,c6,c7,c8,c9,c10,c11]) hj) ?_
   rw[e]
   exact Vu (l:=[c0,c1,c2,c3,c4,c5,c6,c7,c8,c9,c10,c11]) hk
  ·exact D2 _ (List.mem_of_getElem? (Vu (l:=[c0,c1,c2,c3,c4,c5,c6,c7,c8,c9,c10,c11]) hk))
  ·have h5:k=7\/k=8\/k=9\/k=10\/k=11:=by omega
   rcases h5 with rfl|rfl|rfl|rfl|rfl
   ·exact e7.2
   ·exact e8.2
   ·exact e9.2
   ·exact e10.2
   ·exact e11.2
 refine d22.lawT X G hfa (fun base f fd nb kb hB F=>?_) (fun _ _ _ _ _ _ _ _=>.of_eq rfl)
 have fn:=@ZD.fn l.prog w K mg base h
 have GW:=fn d1 X G (fun f fd F=>ZgK F T) (fun _ _ _ _ _ _=>bd1 fun _=>rfl)
 have GAr:=fn d2 X G (fun f fd F=>Zfq F T GW) (fun _ _ _ _ _ _=>bd2 fun _ _=>rfl)
 have GIo:=fn d3 X G (fun f fd F=>Zcu F T GAr) (fun _ _ _ _ _ _=>bd2 fun _ _=>rfl)
 have GNd:∀base':Heap,Fn l.prog w K mg base' Yp 1 "numbered" ["things"] (UC K):=fun base'=>d4.fn X G (fun f fd F=>ZdQ F T2) (fun _ _ _ _ _ _=>bd1 fun _=>rfl)
 have GNdL:∀base':Heap,Fn l.prog w K mg base' Yp 1 "numbered" ["things"] (X3 K):=fun base'=>d4.fn X G (fun f fd F=>Zct F T2) (fun _ _ _ _ _ _=>bd1 fun _=>rfl)
 have GTd:∀base':Heap,Fn l.prog w K mg base' Yp 2 "tabled" ["things", "product"] (J3 l.prog w K mg base'):=fun base'=>d5.fn X G (fun f fd F=>Za9 F T (GNd base')) (fun _ _ _ _ _ _=>bd2 fun _ _=>rfl)
 have GTdL:∀base':Heap,Fn l.prog w K mg base' Yp 2 "tabled" ["things", "product"] (Jp l.prog w K mg base'):=fun base'=>d5.fn X G (fun f fd F=>UN F T (GNdL base')) (fun _ _ _ _ _ _=>bd2 fun _ _=>rfl)
 have GTg:Fn l.prog w K mg base (CXE l.prog w) 3 "together" ["one", "other"] (ZbS K 253 (U7 [c0,c1,c2,c3,c4,c5,c6,c7,c8,c9,c10,c11])):=d6.fnC htg X G (fun f fd F e=>Zfh F e hcg hB T hM S kb GTdL) (fun _ _ _ _ _ _=>bd2 fun _ _=>rfl)
 have GRn:Fn l.prog w K mg base (CXE l.prog w) 4 "renamed" ["group", "order"] (UB K 260 (U7 [c0,c1,c2,c3,c4,c5,c6,c7,c8,c9,c10,c11])):=d7.fnC htr X G (fun f fd F e=>ZdO F e hcr hB T S kb GIo GTd) (fun _ _ _ _ _ _=>bd2 fun _ _=>rfl)
 have GF:=fn d8 X G (fun f fd F=>ZdR F T) (fun _ _ _ _ _ _=>bd1 fun _=>rfl)
 have GD:=fn d9 X G (fun f fd F=>ZdS F T) (fun _ _ _ _ _ _=>bd2 fun _ _=>rfl)
 have GTw:=fn d10 X G (fun f fd F=>ZgL F T) (fun _ _ _ _ _ _=>bd3 fun _ _ _=>rfl)
 have GE:=fn d11 X G (fun f fd F=>Zcw F T) (fun _ _ _ _ _ _=>bd1 fun _=>rfl)
 have GBy:=fn d12 X G (fun f fd F=>Zfp F T TS) (fun _ _ _ _ _ _=>bd1 fun _=>rfl)
 have GPt:=fn d13 X G (fun f fd F=>Zfj F T) (fun _ _ _ _ _ _=>bd2 fun _ _=>rfl)
 have GRe:=fn d14 X G (fun f fd F=>Zfi F T GD) (fun _ _ _ _ _ _=>bd2 fun _ _=>rfl)
 have GO:=fn d15 X G (fun f fd F=>Zfl F GD GTw GE GBy GPt) (fun _ _ _ _ _ _=>bd1 fun _=>rfl)
 have GG:=fn d16 X G (fun f fd F=>Zcv F GO GD GRe) (fun _ _ _ _ _ _=>bd1 fun _=>rfl)
 have GWd:FnH l.prog w K mg base 1 "_law_word" ["_law_e"] (Uz (U7 [c0,c1,c2,c3,c4,c5,c6,c7,c8,c9,c10,c11])):=d17.fnH X G (fun f fd F=>ZdM F T TV S kb) (fun _ _ _ _ _ _=>bd1 fun _=>rfl)
 have GTo:=fn d18 X G (fun f fd F=>ZdN F T S kb GWd GTg GRn) (fun _ _ _ _ _ _=>bd3 fun _ _ _=>rfl)
 have GDu:=fn d19 X G (fun f fd F=>Zfo F T) (fun _ _ _ _ _ _=>bd2 fun _ _=>rfl)
 have GOr:=fn d20 X G (fun f fd F=>Zcs F T GD) (fun _ _ _ _ _ _=>bd2 fun _ _=>rfl)
 have GOR:=fn d21 X G (fun f fd F=>Zfk F T GD GOr GTo) (fun _ _ _ _ _ _=>bd2 fun _ _=>rfl)
 exact Zfm F T GF GTw GTo GDu GG GOR
theorem walk {l:PySem.W.OpenLaw}{q:Program}{loose:List Str}{XP:(Str->Option Value)->Heap->Prop}{YP:World->Heap->Prop}{d:DefRec}{K:Params->PySem.W.Frag}(hxg:∀w:World,VB (K w.params) "together" 257 253=true)(hxr:∀w:World,VB (K w.params) "renamed" 264 260=true)(hqg:((recsOf q).find? fun e=>e.name == ("together":Str)).isSome=true)(hqr:((recsOf q).find? fun e=>e.name == ("renamed":Str)).isSome=true)(hn:l.most=some 63)(hdf:d.params.defaults=[])
  (hY:∀(w:World) (h:Heap),YP w h->(K w.params).In h)
  (F:∀(w:World) (mg:Str->Option Value) (fa:Addr) (h:Heap),(K w.params).In h->h.Ns mainGlobals mg->mg d.name=some (.ref fa)->
   ∃fd:FuncData,(∀(s:Shared) (u:Value),BindsTo s fd ⟨[u],[]⟩ [("_law_script",u)])/\∀base:Heap,(K w.params).In base->base.Ns mainGlobals mg->WT base mg->Z5 l.prog w (K w.params) mg base Yp 7 fa fd ["_law_script"] (Zai (K w.params) 253 260)) :
  PySem.W.WalkO q loose XP YP l.row.toRowW d [] (fun f vs=>PySem.call f vs):=
 L2.ZbK (n:=63) (k:=7) (x:="_law_script") (CX:=fun _=>Yp) (sp:=fun w=>Zai (K w.params) 253 260) (xs:=[("together",257,253),("renamed",264,260)])
  (fun w y hy=>by
   rcases List.mem_cons.mp hy with rfl|hy
   ·exact hxg w
   ·cases List.mem_singleton.mp hy;exact hxr w)
  (fun y hy=>by
   rcases List.mem_cons.mp hy with rfl|hy
   ·exact hqg
   ·cases List.mem_singleton.mp hy;exact hqr) hn (by decide) hdf ⟨rfl,by decide,by decide,rfl⟩ hY F
  (fun _ H a ns hl hO hS=>⟨a,ns,rfl,hS,hl,⟨by decide,⟨#[],hO.tabs 253 (by simp),trivial,.inl rfl⟩,⟨#[],hO.tabs 260 (by simp),trivial,.inl rfl⟩⟩,fun _=>rfl⟩) fun _ _ _ _ _ z=>z
end C10
namespace PySem.W.Fast
def tw214804837025039259:=0
def tw1518093382612818560:=0
def tw11649983807669586041:=0
def tw10116822872968446975:=0
def tw5585609402932388894:=0
def tw17976403723534209224:=0
def tw7672061774645391110:=0
def tw9766777274270019072:=0
def tw172850282784594036:=0
def tw17999593965637682263:=0
def tw10268133374375138611:=0
def tw10026629045397279990:=0
def tw7902536319650947733:=0
def tw6327081220399873850:=0
def tw6289054558520406596:=0
def tw9157725460961031361:=0
def tw6151374632277761505:=0
def tw995198250806078255:=0
def tw16370570167051831100:=0
def tw6678528914855230564:=0
def tw17098081248092461308:=0
def tw5190120488892380958:=0
def tw16227683051868767203:=0
def tw4432818092631920391:=0
def tw13673818701907107049:=0
def tw12147085537767908893:=0
def tw9302546022129143707:=0
def tw15491078672581625212:=0
def tw4290948116734741688:=0
def tw11404128248903314613:=0
def tw13246015049728535248:=0
def tw8143190164345348011:=0
def tw16197016269646421896:=0
def tw7210856845726716238:=0
def tw7474047338920269545:=0
def tw6554156477956977447:=0
def tw5521496905609526891:=0
def tw10492910324750826900:=0
def tw4536290264501527564:=0
def tw2493606427258654135:=0
def tw9546718586755349322:=0
def tw12659930236059338840:=0
def tw10907674945990799389:=0
def tw6676997909427657591:=0
def tw2509391136180036545:=0
def tw15433201684560492147:=0
def tw807116211901192569:=0
def tw1456104200356322544:=0
def tw4524857919380498629:=0
def tw7978079474002800075:=0
def tw12000817986770563784:=0
def tw10993222311561854568:=0
def tw17469128249791975078:=0
def tw14794904175855303289:=0
def tw5487945259723811689:=0
def tw16908554754343763265:=0
def tw5350539992123039644:=0
def tw8830475875643730839:=0
def tw9017583428020898223:=0
def tw17930605856958160471:=0
def tw13254221518685303094:=0
def tw17046668648754432780:=0
def tw12152679996445131122:=0
def tw9891948617032315849:=0
def tw8379552745160719142:=0
def tw1222312510795222959:=0
def tw15030163021070832105:=0
def tw9002235795773920302:=0
def tw11177946831470870781:=0
def tw5318452572896586635:=0
def tw17289002341248446226:=0
def tw16411156898053629434:=0
def tw5609364212571770720:=0
def tw15452031368047443889:=0
def tw17814131606604269125:=0
def tw16588598166840156161:=0
def tw18292532501393752872:=0
def tw14246112292614320446:=0
def tw17426658302785592635:=0
def tw12071665213715622383:=0
def tw11284197453840260378:=0
def tw3865507183298030924:=0
def tw6717053063758060245:=0
def tw3780669482793782317:=0
def tw5737839486629486425:=0
def tw12481061540991908911:=0
def tw16791222836350810054:=0
def tw13383157452019832028:=0
def tw7556296223427952806:=0
def tw11555103889759742268:=0
def tw18220494082966452333:=0
def tw7860520325227295025:=0
def tw4074897445092342516:=0
def tw16674676076103020125:=0
def tw9329080297100534013:=0
def tw5866436833570096778:=0
def tw13945687500119552594:=0
def tw2806243408492223128:=0
def tw9381081210814519328:=0
def tw9524723408692903855:=0
def tw6285361802848981359:=0
def tw14719018569989488297:=0
def tw4505869406012238766:=0
def tw17575006207666432294:=0
def tw443431580032274678:=0
def tw16497446165146887832:=0
def tw13630371987898035390:=0
def tw15619825178992468149:=0
def tw4820114348112490890:=0
def tw721321396680756872:=0
def tw7095571521975613835:=0
def tw11186551792540010182:=0
def tw11779097663627435824:=0
def tw5175515551805755432:=0
def tw16140706024516206512:=0
def tw15151122291712533193:=0
def tw3703567903260690997:=0
def tw611421483072100423:=0
def tw8357284483974466992:=0
def tw3422132142968899079:=0
def tw14551640423897083408:=0
def tw2865270442940864742:=0
def tw4642734838715235371:=0
def tw7250437119676000669:=0
def tw6193163232245458729:=0
def tw15056482834036192422:=0
def tw11718029459378327802:=0
def tw2540237003869324162:=0
def tw11332383052133693804:=0
def tw2508453633812796202:=0
def tw4244899443831860245:=0
def tw7322762300710630196:=0
def tw12071332901902898965:=0
def tw17155732670275715793:=0
def tw9626868837809990091:=0
def tw11138772047999897742:=0
def tw9130993864640383952:=0
def tw17520945967782656806:=0
def tw11975082210583582753:=0
def tw10234038075500729689:=0
def tw1060818054113150500:=0
def tw8879442652685205376:=0
def tw13524445617091719083:=0
def tw10319679959345774894:=0
def tw174312331545129320:=0
def tw8820139733806368103:=0
def tw16621061691035705762:=0
def tw16639647670760275785:=0
def tw14428496537881265430:=0
def tw13864765609316615618:=0
def tw13868949936459928010:=0
def tw2654616998546353905:=0
def tw14882919029205104564:=0
def tw8873493415963769140:=0
def tw14959816863860807043:=0
def tw11111630600522045468:=0
def tw1646134462314487950:=0
def tw14820169293189816473:=0
def tw5606454178003999639:=0
def tw15856337216226104264:=0
def tw14855756427995621776:=0
def tw68257524571534063:=0
def tw136599799531285432:=0
def tw10965630579953984899:=0
def tw1697508017472464020:=0
def tw14602824476689060628:=0
def tw1516914398080002039:=0
def tw14826667646811760045:=0
def tw15099987851325731043:=0
def tw16827057183783529727:=0
def tw10224335437481985208:=0
def tw3314811889279906095:=0
def tw16915694238984444940:=0
def tw7974679046587412789:=0
def tw14986562853032412617:=0
def tw16586471801456701850:=0
def tw15735185235972133705:=0
def tw8319570751025428280:=0
def tw2342855392124001010:=0
def tw2398919593780334696:=0
def tw6404783504807954448:=0
def tw16230160150974513970:=0
def tw14313186770868296068:=0
def tw971818792894571733:=0
def tw4379750790416437879:=0
def tw10490260100923335438:=0
def tw3987929434753479908:=0
def tw5489347577391801014:=0
def tw7954372774452976777:=0
def tw3754535613210846064:=0
def tw10332310018359996105:=0
def tw10872655293094554288:=0
def tw15104427679319306012:=0
def tw7506998298403476159:=0
def tw698952617677220247:=0
def tw2879895801239183893:=0
def tw2639738199890168021:=0
def tw8977910404959625089:=0
def tw8070898281584865553:=0
def tw6745779781491203559:=0
def tw3657386932687641537:=0
def tw12150107858799859930:=0
def tw4101527835936213101:=0
def tw17703569889040579471:=0
def tw17751645307981670935:=0
def tw14565490038215884147:=0
def tw8980139249840780273:=0
def tw15382973731623785848:=0
def tw14466499970374002492:=0
def tw8343811368059889572:=0
def tw6334282009343077700:=0
def tw14576931600528876988:=0
def tw1669461717530707481:=0
def tw10728527079325291419:=0
def tw5061233731468084252:=0
def tw1245112511664794816:=0
def tw374769559096410804:=0
def tw877594215608499039:=0
def tw14970730126252875440:=0
def tw10630886411482330515:=0
def tw3433437539280612584:=0
def tw11347262231049632937:=0
def tw14372878213350824428:=0
def tw3849518796833821842:=0
def tw15483743057776202907:=0
def tw3453833980040879947:=0
def tw2875168294074837283:=0
def tw1503153561158198053:=0
def tw14389336847121700213:=0
def tw17468922245350908202:=0
def tw7739772672899532232:=0
def tw16816941186960151067:=0
def tw14987173778592399289:=0
def tw3836122625726917672:=0
def tw11843540618214748341:=0
def tw12503263761554084536:=0
def tw6707388863928703875:=0
def tw8001183960318588399:=0
def tw11801867897360862642:=0
def tw1873549310278174306:=0
def tw15074809290485066805:=0
def tw16986371006101119122:=0
def tw13873571381389563299:=0
def tw17912917976630678136:=0
def tw3847503097248508963:=0
def tw17514906239241197295:=0
def tw403224564472315595:=0
def tw17919138145787229637:=0
def tw11717080919023363298:=0
def tw18111040984192472124:=0
def tw15185900728927925170:=0
def tw8035736302016976074:=0
def tw718057179813914147:=0
def tw323788443709386521:=0
def tw12214457527753683412:=0
def tw288656430676900330:=0
def tw9826498129889025569:=0
def tw9912891121262670389:=0
def tw9466848482899298187:=0
def tw17468686779423994601:=0
def tw9776767659825673174:=0
def tw530644498459088992:=0
def tw6615678062834771828:=0
def tw3145765267088573396:=0
def tw17115213613222658568:=0
def tw5301418201659055618:=0
def tw4500312717805081641:=0
def tw15832856380160511406:=0
def tw1938753485914864894:=0
def tw14396379556329284813:=0
def tw18108382699102564576:=0
def tw2120325273353660544:=0
def tw7362488478764541951:=0
def tw8233275740622373656:=0
def tw13172153605037982979:=0
def tw6760615928499484260:=0
def tw1987228075436800856:=0
def tw11037844971542560197:=0
def tw4070577863689686818:=0
def tw11402296734823931030:=0
def tw16434885391364373720:=0
def tw12285121184308125483:=0
def tw12662542444393266506:=0
def tw10839726102418256490:=0
def tw10856145171082070788:=0
def tw18143114513662594169:=0
def tw6228431141946318347:=0
def tw9001288053184204341:=0
def tw17048111387791577370:=0
def tw10583355363052626669:=0
def tw1310513328142110401:=0
def tw8887885484618504905:=0
def tw15420277275798310152:=0
def tw16711011112955450094:=0
def tw17215060094792926634:=0
def tw17484227223374208373:=0
def tw17303355565431540468:=0
def tw6130540570583722747:=0
def tw18145933441103200191:=0
def tw2055420508807439575:=0
def tw16516909700906560692:=0
def tw10293641122405360000:=0
def tw881319750811730772:=0
def tw2166747869829382329:=0
def tw7043451690659336130:=0
def tw17667592033054575999:=0
def tw18191729003613700666:=0
def tw17123638115162469567:=0
def tw16732460758714121611:=0
def tw3661060689007421540:=0
def tw1412310251197218571:=0
def tw4419417407984015094:=0
def tw11162338198881872512:=0
def tw14434820762451941511:=0
def tw13929943710222077771:=0
def tw5551488786426863814:=0
def tw9870901243212486328:=0
def tw439087951858447178:=0
def tw12544213454193747503:=0
def tw17866532289464442121:=0
def tw386115236873881514:=0
def tw2714125244898878197:=0
def tw3976232532916457994:=0
def tw18010423860184619761:=0
def tw13017079666003523076:=0
def tw7297338074605268127:=0
def tw17728802444091087474:=0
def tw11783702224641984389:=0
def tw5667632889226936246:=0
def tw4308530227707064144:=0
def tw8596555295314669883:=0
def tw5411042599641090395:=0
def tw15756677279924628278:=0
def tw9271571068285917734:=0
def tw7371852505798531649:=0
def tw18234915468365965993:=0
def tw4182857740770073880:=0
def tw13305185040871825229:=0
def tw9520008477078364947:=0
def tw8161657473168076177:=0
def tw3160752831843988189:=0
def tw17400493588620909361:=0
def tw11712158470433005509:=0
def tw8834491883809573538:=0
def tw3863386894697079739:=0
def tw3115142803077214944:=0
def tw5118602094802246453:=0
def tw2565070122184925195:=0
def tw483045894022988341:=0
def tw18034904895067010270:=0
def tw16474037328692120951:=0
def tw11204284081064593395:=0
def tw9006464676132129608:=0
def tw16990757624533244067:=0
def tw5160957878019876847:=0
def tw12270073841470870124:=0
def tw14331103530459248624:=0
def tw6294310021748706852:=0
def tw16908535564335413103:=0
def tw14631864639845803884:=0
def tw1390778298693492780:=0
def tw4301972510903882142:=0
def tw2766471246459555167:=0
def tw16407758292086640671:=0
def tw8166952412333763978:=0
def tw9243443104222679476:=0
def tw13429025625555291759:=0
def tw17412732311239211341:=0
def tw16148811998804759128:=0
def tw11929522737088294417:=0
def tw11417829731750866335:=0
def tw8628734032530552478:=0
def tw2700116772365121681:=0
def tw7218863834083773537:=0
end PySem.W.Fast
open PySem PySem.W PyProof.Rows
set_option maxRecDepth 100000 in
set_option maxHeartbeats 0 in
theorem PySem.Challenge.cw_classtab_k10_put_together_and_renamed_holds : PySem.Challenge.rw_classtab_k10_put_together_and_renamed.Holds := by
 w_on;o_law;k_head;(case hw=>w_witness2)
 k_fill
 refine C10.walk (l:=PySem.Challenge.rw_classtab_k10_put_together_and_renamed) (fun w=>by kernel_rfl) (fun w=>by kernel_rfl) (by kernel_rfl) (by kernel_rfl) rfl rfl (fun w h Y=>PySem.W.km_in_of Y) ?F
 case F=>
  intro w mg fa h KX G hmg
  refine' C10.all_mk KX G hmg (L2.Zab.mk' ?_ ?_ ?_ ?_ ?_) (L2.Y0.mk' ?_ ?_ ?_ ?_ ?_) (L2.Y0.mk' ?_ ?_ ?_ ?_ ?_) (L2.Y0.mk' ?_ ?_ ?_ ?_ ?_) (L2.Y0.mk' ?_ ?_ ?_ ?_ ?_) (L2.Y0.mk' ?_ ?_ ?_ ?_ ?_) (L2.Y0.mk' ?_ ?_ ?_ ?_ ?_) (L2.Y0.mk' ?_ ?_ ?_ ?_ ?_) (L2.JS.mk ?_ ?_ ?_ ?_ ?_) (L2.JS.mk ?_ ?_ ?_ ?_ ?_) (L2.JS.mk ?_ ?_ ?_ ?_ ?_) (L2.JS.mk ?_ ?_ ?_ ?_ ?_) (L2.JS.mk ?_ ?_ ?_ ?_ ?_) ?_ ?_ (L2.ZD.mk ?_ ?_ ?_ ?_) (L2.ZD.mk ?_ ?_ ?_ ?_) (L2.ZD.mk ?_ ?_ ?_ ?_) (L2.ZD.mk ?_ ?_ ?_ ?_) (L2.ZD.mk ?_ ?_ ?_ ?_) (L2.ZD.mk ?_ ?_ ?_ ?_) (L2.ZD.mk ?_ ?_ ?_ ?_) (L2.ZD.mk ?_ ?_ ?_ ?_) (L2.ZD.mk ?_ ?_ ?_ ?_) (L2.ZD.mk ?_ ?_ ?_ ?_) (L2.ZD.mk ?_ ?_ ?_ ?_) (L2.ZD.mk ?_ ?_ ?_ ?_) (L2.ZD.mk ?_ ?_ ?_ ?_) (L2.ZD.mk ?_ ?_ ?_ ?_) (L2.ZD.mk ?_ ?_ ?_ ?_) (L2.ZD.mk ?_ ?_ ?_ ?_) (L2.ZD.mk ?_ ?_ ?_ ?_) (L2.ZD.mk ?_ ?_ ?_ ?_) (L2.ZD.mk ?_ ?_ ?_ ?_) (L2.ZD.mk ?_ ?_ ?_ ?_) (L2.ZD.mk ?_ ?_ ?_ ?_) (L2.ZD.mk ?_ ?_ ?_ ?_) ?_ ?_ ?_ ?_ ?_ ?_ ?_ ?_ ?_ ?_ ?_ ?_ ?_ ?_ ?_ ?_ ?_ ?_ ?_ ?_
  any_goals k_is
  all_goals kernel_rfl
