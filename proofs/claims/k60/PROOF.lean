import PyProof.Rows.All
import Wide.All
import OpenK.AllK
import Wide.FinOn
import Lean
import PyProof.EqAt
import PyProof.EqKinds
import PyProof.TupleCall
import PyProof.Rows.StrNews2
import KE.KIntText
import PyProof.StrWalks
import PyProof.StrCalls6
import PyProof.StrLawsReplace
import PyProof.ToksMono
import KE.IntTextText
import PyProof.Rows.StrIntSpec
import PyProof.DictWalks
import KE.KDictSum
import KE.KSortTup
import PyProof.EnumMake
import PyProof.EnumFor
import PyProof.TupleIter
import PyProof.Rows.Range3
import PySem.Challenge.RW_classtab_k60_numbers_written
open PySem.W renaming Frag->aa,mg_none_of->ak,nsIn->aA,fnOf->aL,keepIn->bi,codeIn->bv,OpenLaw->bZ,cellsFrom_some->b8,methodObj->cO,WalkO->eG,mg_of->fc
open List renaming replicate->ae,mem_cons_of_mem->ag,mem_cons_self->ah,length_nil->ai,mem_cons->aj,mem_append_right->ao,mem_singleton->aq,replicate_succ->av,append_assoc->ay,getElem?_eq_some_iff->aD,map_cons->aE,append_nil->aG,mem_append->aK,flatten_cons->aO,filterMap_cons->aP,getElem?_append_right->aT,mem_of_getElem?->aZ,lookup_cons->a7,nodup_cons->bt,find?_cons->bu,all_eq_true->bG,map_append->bM,getElem?_append_left->bV,length_take->cg,range->cu,mem_append_left->cF,mem_replicate->cT,lookup_append->cU,map_map->cY,take_length->de,length_drop->df,of_mem_zip->dq,nil_append->du,mem_filter->dv,drop_eq_getElem_cons->dM,any_cons->dR,getElem?_replicate->dW,take_of_length_le->d0,mem_map->ea,map_nil->ed,getElem?_set_self->ee,drop_eq_nil_of_le->ef,filterMap_append->eu,getElem?_set_ne->eC,mem_filterMap->eR,foldl->eS,take_add_one->e8,drop_length->fi,cons_append->fj
open Nat renaming lt_of_lt_of_le->am,ne_of_lt->aw,le_trans->aF,zero_le->aQ,lt_irrefl->aR,ne_of_gt->bc,le_of_succ_le->bj,lt_trans->bN,sub_self->eo,mul_comm->er,le_of_lt->et,log2_lt->eM
open Bool renaming false_ne_true->ar,and_eq_true->aS,eq_iff_iff->aY,and_true->bH,false_eq_true->eT
open PySem renaming Spec->au,mem_of_lookup->aB,wpAny_passesOwn->aH,wpAny_mono->aW,Scope->a6,Builtin->bb,wpAny_field->be,typeIs_str->bf,call_meets->bh,NameKind->bq,wpAny_setField_rec->bB,wpAny_getItem_str_slice->bD,wpAny_callSpecial?_slot->bE,wpAny_execs_nil->bR,PyData->b9,IsEnum->ce,wpAny_truthy_bool->cp,wpAny_pyIter_enum->cq,wpAny_newObj_type->cr,wpAny_execs_cons->cx,wpAny_call_entry->cy,wpAny_Call_method_late->cG,post_val_or_str->cK,BindsTo->cW,wpAny_Call_Name_kw->dg,typeIs_int->dh,wpAny_pyIter_list->dw,Operator->dA,noFill_tuple_add->dJ,sizeLine_eq->dN,wpAny_letOwnedTupleGo_enum->eh,Paired->el,wpAny_binaryOp_repeat_ref->ev,seq_tuple_add->eD,call->eE,Model->eN,seqSlot_of->eU,concat_meets->eV,codeAny_mono->eW
open PySem.Str renaming ofString->ax,empty->ci,join->c7
open Option.some renaming inj->az
open PySem.PyData renaming int->aC,depth->bA,depthAll->bI,shown->bK,canLayAll0->bS,canLay0->cv,leavesShort->cL,eqv->cM,showable->db,leavesShortAll->dS,shown_le_bulk->dX,bulk->dY,showableAll->ez,hasDictAll->eK,hasDict->fe,bulkAll->ff
open PySem.Txt renaming partition->aI,split->bz,startswith->cH,slice_le->c6,slice->di
open PySem.Heap renaming SameBut->aJ,size_push->bn,get?_update_other->dZ,get?_update_self->em
open Int renaming emod_lt_of_pos->aM,emod_nonneg->a5,natAbs_natCast->bx,natCast_nonneg->e9
open PySem.PassesOwn renaming never->aN
open ForInStep renaming yield->aU
open PySem.Value renaming ref->aV,none->bF,bool->dz,str->eX,int->eY
open PySem.SeqAt renaming shaped->aX
open PySem.Builtin.SmallTypes renaming nextOf->a8,ownedTupleHandOut->bP,ownedTupleIsFree->bU
open PyProof.Rows renaming callWith_type1->a9,AllBare->cJ,assignInOrder_cons->dn,subscriptTail_builtinR->e5,IntsAre->e7
open PySem.NameKind renaming cell->ba,free->bC
open Ne renaming symm->bd
open False renaming elim->bm
open PySem.F renaming slot_tuple_iterator_next->bo,slot_tuple_mul->br,plainAttrs_str->bw,slot_enumerate_next->bJ,args_tuple_add_2->bT,slot_str_split->bW,slot_str_getitem->bX,entry_tuple_add->bY,slot_tuple_add->cf,slot_list_append->ck,slot_int_rmul->cC,args_tuple_mul_2->c8,args_str_split_2->c9,entry_tuple_mul->dk,entry_str_split->dm,type_list_append->dC,slot_tuple_rmul->dF,plainAttrs_list->dG,args_tuple_iterator_next_1->dL,slot_str_startswith->dP,entry_tuple_iterator_next->dQ,slot_str_partition->dU,args_enumerate_next_1->eA,entry_enumerate_next->eL
open Array renaming toList_append->bp,getElem?_toList->eg
open PySem.Builtin.List renaming listTooLong->bL
open PySem.StrLaws renaming subAt_one->bO,strSub_toList->dO,split_free->ei,join_split->ek,occ_head->eI
open PySem.AutoSeq1 renaming sub_tuple_tuple->bQ,idx_int->cS
open PySem.Calls renaming callWith_builtin->cm,evalArgs_plain->cB,spliced_cons->cP,Constant_str->cQ,Name_function_global->dD,spliced_nil->eO
open True renaming intro->cn
open List.cons renaming inj->cw
open PySem.NumText renaming AllDigits->cz
open PyProof.Rows.IsTup renaming new->cD
open PySem.Sem renaming wp_mono->cI,wp_toks->eJ
open Nat.succ renaming inj->cN
open PySem.Builtin.Tuple renaming tupleTooMany->cR
open PySem.Obj renaming mapSeq->cV,data_mapFields->eZ
open Sum renaming inr->cZ,inl->c5
open PySem.Builtin.Str renaming occurrences->dc
open PySem.Heap.SameBut renaming update->dB
open PySem.Paired renaming length->dE
open Option renaming isSome_iff_exists->dH,getD_none->eQ
open List.Pairwise renaming nil->dI
open PySem.Data renaming fields->eB,cell->fh
set_option Elab.async false
set_option linter.all false
set_option maxRecDepth 100000
theorem Za {α j:Type _}{l:List α}{f:α->j}:(l.map f).length=l.length:=List.length_map ..
theorem Zb {α:Type _}{l:List α}{i:Nat}{a:α}:l.getD i a=l[i]?.getD a:=List.getD_eq_getElem?_getD ..
theorem Zc {α j:Type _}{f:α->j}{l:List α}{i:Nat}:(l.map f)[i]?=l[i]?.map f:=List.getElem?_map ..
theorem Zd {α:Type _}{a b:List α}:(a++b).length=a.length+b.length:=List.length_append ..
theorem Ze {α:Type _}{n:Nat}{a:α}:(ae n a).length=n:=List.length_replicate ..
theorem Zf {α:Type _}{l:List α}{i:Nat}(h:i<l.length):l[i]?=some l[i]:=List.getElem?_eq_getElem h
theorem Zg {n:Nat}:(cu n).length=n:=List.length_range ..
theorem Zh {α:Type _}{l:List α}:l.toArray.size=l.length:=List.size_toArray ..
theorem Zi {α:Type _}{a:α}{l:List α}:(a::l).length=l.length+1:=List.length_cons ..
theorem Zj (n:Nat):(n:Int).toNat=n:=Int.toNat_natCast n
theorem Zk {α:Type _}{a:α}:[a].length=1:=List.length_singleton ..
noncomputable abbrev Zl:=@PySem.wpAny_bind
noncomputable abbrev Zm:=@PySem.wpAny_pure
noncomputable abbrev Zn:=@PySem.Heap.get?_push_of_some
noncomputable abbrev Zo:=@PySem.Heap.get?_push_size
noncomputable abbrev Zp:=@PySem.Heap.lt_size
noncomputable abbrev Zq:=@Nat.le_refl
noncomputable abbrev Zr.{u}:=@Array.length_toList.{u}
namespace L2
open PySem PySem.Spec PyProof.Rows
noncomputable abbrev Z7:=Sum Int Str
noncomputable def W4:Z7->Value->Bool
 | .inl k,v=>Value.isInt k v
 | .inr x,v=>Value.isStrOf x v
noncomputable def Zdg (w:World):Z7->Int
 | .inl k=>hashInt k
 | .inr x=>hashStr w x
theorem ZJ:∀{k:Z7}{v:Value},W4 k v=true->(∃i t,k=c5 i/\v=eY i t)\/(∃x t,k=cZ x/\v=eX x t)
 | .inl i,v,h=>by
  obtain⟨t,e⟩:=Value.isInt_shape (k:=i) (v:=v) h;exact .inl ⟨i,t,rfl,e⟩
 | .inr x,v,h=>by
  obtain⟨t,e⟩:=Value.isStrOf_shape (x:=x) (v:=v) h;exact .inr ⟨x,t,rfl,e⟩
theorem Vu (i:Int)(t:Tok):W4 (.inl i) (.int i t)=true:=by simp[W4,Value.isInt]
theorem Vt (x:Str)(t:Tok):W4 (.inr x) (.str x t)=true:=by simp[W4,Value.isStrOf]
theorem ZbN (a b:Int):decide ((c5 a:Z7)=c5 b)=(a == b):=by
 by_cases e:a=b
 ·subst e;simp
 ·have h:¬(c5 a:Z7)=c5 b:=fun q=>e (Sum.inl.inj q)
  rw[decide_eq_false h];exact (beq_eq_false_iff_ne.mpr e).symm
theorem ZbK (a b:Str):decide ((cZ a:Z7)=cZ b)=decide (a=b):=by
 by_cases e:a=b
 ·subst e;simp
 ·have h:¬(cZ a:Z7)=cZ b:=fun q=>e (Sum.inr.inj q)
  rw[decide_eq_false h,decide_eq_false e]
theorem ZbM (a:Int)(b:Str):decide ((c5 a:Z7)=cZ b)=false:=decide_eq_false (fun q=>nomatch q)
theorem ZbL (a:Str)(b:Int):decide ((cZ a:Z7)=c5 b)=false:=decide_eq_false (fun q=>nomatch q)
noncomputable def ZP (prog:Program)(w:World):PySem.KeyKind prog w Z7 where
 is:=W4
 hash:=Zdg w
 inj:=fun v a b B hb=>by
  rcases ZJ B with ⟨i,t,rfl,rfl⟩|⟨x,t,rfl,rfl⟩
  ·rcases ZJ hb with ⟨j,u,rfl,e⟩|⟨y,u,rfl,e⟩
   ·injection e with q _;rw[q]
   ·exact nomatch e
  ·rcases ZJ hb with ⟨j,u,rfl,e⟩|⟨y,u,rfl,e⟩
   ·exact nomatch e
   ·injection e with q _;rw[q]
 byValue:=fun k v h=>by
  rcases ZJ h with ⟨i,t,rfl,rfl⟩|⟨x,t,rfl,rfl⟩ <;> rfl
 pyHash:=fun z h=>by
  rcases ZJ z with ⟨i,t,rfl,rfl⟩|⟨x,t,rfl,rfl⟩
  ·exact wpAny_pyHash_int h
  ·exact wpAny_pyHash_str h
 eqBool:=fun D z h=>by
  rcases ZJ D with ⟨i,t,rfl,rfl⟩|⟨x,t,rfl,rfl⟩
  ·rcases ZJ z with ⟨j,u,rfl,rfl⟩|⟨y,u,rfl,rfl⟩
   ·rw[ZbN] at h;exact wpAny_eqBool_int h
   ·rw[ZbM] at h;exact SeqAt.EqAt.int_str i t y u _ _ _ _ h
  ·rcases ZJ z with ⟨j,u,rfl,rfl⟩|⟨y,u,rfl,rfl⟩
   ·rw[ZbL] at h;exact SeqAt.EqAt.str_int x t j u _ _ _ _ h
   ·rw[ZbK] at h;exact wpAny_eqBool_str h
 «strs»:=fun k x t v h=>by
  rcases ZJ h with ⟨i,u,rfl,e⟩|⟨y,u,rfl,e⟩
  ·exact nomatch e
  ·injection e with q _
   subst q;cases v <;> rfl
theorem JW (prog:Program)(w:World)(i:Int)(t:Tok):(ZP prog w).is (.inl i) (.int i t)=true:=Vu i t
theorem JV (prog:Program)(w:World)(x:Str)(t:Tok):(ZP prog w).is (.inr x) (.str x t)=true:=Vt x t
inductive V where
 |non|bl (b:Bool)|int (i:Int)|str (x:Str)|byt (b:Array UInt8)|flt (b:UInt64)|ref (a:Addr)|ty (n:String)
 deriving DecidableEq
noncomputable def RelV:V->Value->Prop
 | .non,u=>u=bF
 | .bl b,u=>u=dz b
 | .int i,u=>∃t,u=eY i t
 | .str x,u=>∃t,u=eX x t
 | .byt b,u=>∃t,u=Value.bytes b t
 | .flt b,u=>∃t,u=Value.float b t
 | .ref a,u=>u=aV a
 | .ty n,u=>u=Value.type n
noncomputable abbrev ZE:List V->List Value->Prop:=el RelV
theorem ZE.length {xs:List V}{us:List Value}(r:ZE xs us):xs.length=us.length:=dE r
theorem ZE.get:∀{xs:List V}{us:List Value}{i:Nat}{x:V},ZE xs us->xs[i]?=some x->∃u,us[i]?=some u/\RelV x u
 |_,_,_,_,.nil,e=>by simp at e
 |_,_,0,_,.cons r _,e=>by simp at e;subst e;exact⟨_,rfl,r⟩
 |_,_,i+1,x,.cons _ t,e=>by
  obtain⟨u,j,q⟩:=ZE.get (i:=i) (x:=x) t (by simpa using e);exact⟨u,by simpa using j,q⟩
theorem ZE.set {x:V}{u:Value}(r:RelV x u):∀{xs:List V}{us:List Value} (i:Nat),ZE xs us->ZE (xs.set i x) (us.set i u)
 |_,_,_,.nil=>.nil
 |_,_,0,.cons _ t=>.cons r t
 |_,_,i+1,.cons q t=>.cons q (ZE.set r i t)
theorem ZE.append:∀{xs j:List V}{us q:List Value},ZE xs us->ZE j q->ZE (xs++j) (us++q)
 |_,_,_,_,.nil,s=>s
 |_,_,_,_,.cons r t,s=>.cons r (ZE.append t s)
theorem ZE.take:∀{xs:List V}{us:List Value} (n:Nat),ZE xs us->ZE (xs.take n) (us.take n)
 |_,_,0,_=>.nil
 |_,_,_+1,.nil=>.nil
 |_,_,n+1,.cons r t=>.cons r (ZE.take n t)
theorem ZE.drop:∀{xs:List V}{us:List Value} (n:Nat),ZE xs us->ZE (xs.drop n) (us.drop n)
 |_,_,0,r=>r
 |_,_,_+1,.nil=>.nil
 |_,_,n+1,.cons _ t=>ZE.drop n t
noncomputable def WV:Option V->Option Value->Prop
 |some v,some u=>RelV v u
 |none,none=>True
 |_,_=>False
noncomputable def KV {j:Type}:List (j×V)->List (j×Value)->Prop:=el fun (p:j×V) (q:j×Value)=>p.1=q.1/\RelV p.2 q.2
noncomputable def kV:Z7->V
 | .inl i=>.int i
 | .inr x=>.str x
inductive HO where
 |lst (xs:List V)
 |tup (xs:List V)
 |dK (kvs:List (Z7×V))|dT (kvs:List (List Z7×V))
 |set (S:Int->Bool) (n:Nat)
 |ins (C dx:Addr) (fs:List (Str×V))
 |own (x:Addr)
 |xd (fs:List (Str×V))
 |met (f x:Addr)
 |rng (lo hi:Int)
 |frz (o:Obj) (u:HO)
 |tbl (ps:Array Value)
 |ext (φ:Heap->Prop)
noncomputable abbrev Hp:=Addr->Option HO
noncomputable def upd (H:Hp)(a:Addr)(o:HO):Hp:=fun b=>if b=a then some o else H b
theorem Zv {H:Hp}{a:Addr}{o:HO}:upd H a o a=some o:=by unfold upd;rw[if_pos rfl]
theorem ZD {H:Hp}{a b:Addr}{o:HO}(h:b≠a):upd H a o b=H b:=by unfold upd;rw[if_neg h]
theorem UV {H:Hp}{a:Addr}{o u:HO}:upd (upd H a o) a u=upd H a u:=by
 funext b;unfold upd;split <;> rfl
theorem ZcD {H:Hp}{a b:Addr}{o u:HO}(h:H a=some o)(h':H b=some u)(d:o≠u):a≠b:=by
 intro e;subst e;rw[h] at h';exact d (az h')
theorem ZG {H:Hp}{a b:Addr}{o:HO}(h:H a=some o)(h':H b=none):a≠b:=by
 intro e;subst e;rw[h] at h';cases h'
section
variable (P:Program)(w:World)
noncomputable def ZU (H:Hp)(h:Heap)(a:Addr):HO->Prop
 | .lst B=>B.length<=sizeLine/\∃(j:List Value) (n:Nat),ZE B j/\h.get? a=some {cls:=.type "list",data:=.seq j.toArray n}
 | .tup B=>B.length<=sizeLine/\∃j:List Value,ZE B j/\IsTup h a j.toArray
 | .dK z=>z.length<=sizeLine/\(a == sysModules)=false/\∃M,KV z M/\h.DictOf (ZP P w) a M
 | .dT z=>z.length<=sizeLine/\(a == sysModules)=false/\∃B:List (List Z7×Addr×Value),
   el (fun (p:List Z7×V) (q:List Z7×Addr×Value)=>p.1=q.1/\H q.2.1=some (.tup (p.1.map kV))/\RelV p.2 q.2.2) z B/\
   ∃o O ep,h.get? a=some o/\o.ExactDict/\o.data=.dict O ep/\O.toList=B.map (entryOfKey (tupleKind (ZP P w)))/\(B.map (·.1)).Nodup
 | .set S n=>h.SetOf (intKind P w) a S n
 | .ins C J fs=>H J=some (.own a)/\fs.length<=1000/\J≠a/\h.get? a=some (PySem.W.instObj C J)/\
   ∃D,h.Ns1 J D/\(∀f,WV (fs.lookup f) (D f))/\PySem.Within D (fs.map (·.1))
 | .own _=>∃o,h.get? a=some o
 | .xd fs=>∃D,h.Ns1 a D/\∀f,WV (fs.lookup f) (D f)
 | .rng lo hi=>∃t u v,h.get? a=some {cls:=.type "range",data:=.fields #[.int lo t,.int hi u,.int 1 v]}
 | .frz o u=>h.get? a=some o/\ZU H h a u
 | .tbl ps=>h.get? a=some {cls:=.none,data:=.fields ps}
 | .met f x=>h.get? a=some (cO (.ref f) (.ref x))
 | .ext L=>L h/\(∃o,h.get? a=some o)/\∀U Y:Heap,L U->(∀o,U.get? a=some o->Y.get? a=some o)->L Y
noncomputable def Y7 (H:Hp)(h:Heap):Prop:=∀a o,H a=some o->ZU P w H h a o
end
section
variable {P:Program}{w:World}{H H':Hp}{h h':Heap}{a:Addr}{o:HO}
theorem ZU.lt (x:ZU P w H h a o):a<h.objs.size:=by
 cases o with
 |lst q=>obtain⟨_,_,_,_,e⟩:=x;exact Zp e
 |tup q=>obtain⟨_,_,_,p⟩:=x;exact p.lt
 |dK j=>obtain⟨_,_,_,_,o,_,_,e,_⟩:=x;exact Zp e
 |dT j=>obtain⟨_,_,_,_,o,_,_,e,_⟩:=x;exact Zp e
 |set S n=>obtain⟨o,_,_,_,e,_⟩:=x;exact Zp e
 |ins C z fs=>obtain⟨_,_,_,e,_⟩:=x;exact Zp e
 |own y=>obtain⟨_,e⟩:=x;exact Zp e
 |xd fs=>obtain⟨_,⟨_,_,_,e,_⟩,_⟩:=x;exact Zp e
 |rng lo B=>obtain⟨_,_,_,e⟩:=x;exact Zp e
 |frz D u=>obtain⟨e,_⟩:=x;exact Zp e
 |tbl J=>exact Zp (show h.get? a=some _ from x)
 |met f y=>exact Zp (show h.get? a=some _ from x)
 |ext L=>obtain⟨_,⟨_,e⟩,_⟩:=x;exact Zp e
theorem el.mapP {α z:Type}{F G:α->z->Prop}:∀{j:List α}{q:List z},el F j q->(∀a b,F a b->G a b)->el G j q
 |_,_,.nil,_=>.nil
 |_,_,.cons r t,f=>.cons (f _ _ r) (el.mapP t f)
theorem ZU.stay (x:ZU P w H h a o)(k:∀b u,(b=a\/H b=some (.own a))->h.get? b=some u->h'.get? b=some u)
  (Y:∀b,H b=some (.own a)->H' b=some (.own a)) (ht:∀b xs,H b=some (.tup xs)->H' b=some (.tup xs)):ZU P w H' h' a o:=by
 induction o with
 |lst xs=>obtain⟨z,J,n,r,e⟩:=x;exact⟨z,J,n,r,k _ _ (.inl rfl) e⟩
 |tup xs=>obtain⟨z,J,r,j,e,c⟩:=x;exact⟨z,J,r,j,k _ _ (.inl rfl) e,c⟩
 |dK L=>obtain⟨z,y,vs,r,j,B,D,e,c⟩:=x;exact⟨z,y,vs,r,j,B,D,k _ _ (.inl rfl) e,c⟩
 |dT L=>
  obtain⟨z,y,xs,r,j,B,D,e,c⟩:=x;exact⟨z,y,xs,el.mapP r fun p q z=>⟨z.1,ht _ _ z.2.1,z.2.2⟩,j,B,D,k _ _ (.inl rfl) e,c⟩
 |set S n=>obtain⟨j,B,D,t,e,c⟩:=x;exact⟨j,B,D,t,k _ _ (.inl rfl) e,c⟩
 |ins C dx fs=>
  obtain⟨d,z,ne,e,M,⟨O,B,D,e2,c⟩,r⟩:=x;exact⟨Y _ d,z,ne,k _ _ (.inl rfl) e,M,⟨O,B,D,k _ _ (.inr d) e2,c⟩,r⟩
 |own y=>obtain⟨j,e⟩:=x;exact⟨j,k _ _ (.inl rfl) e⟩
 |xd fs=>obtain⟨M,⟨O,B,D,e,c⟩,r⟩:=x;exact⟨M,⟨O,B,D,k _ _ (.inl rfl) e,c⟩,r⟩
 |rng lo hi=>obtain⟨t,u,v,e⟩:=x;exact⟨t,u,v,k _ _ (.inl rfl) e⟩
 |frz j u ih=>obtain⟨e,q⟩:=x;exact⟨k _ _ (.inl rfl) e,ih q⟩
 |tbl U=>
  have e:h.get? a=some {cls:=.none,data:=.fields U}:=x;show h'.get? a=some {cls:=.none,data:=.fields U};exact k a _ (.inl rfl) e
 |met f y=>
  have e:h.get? a=some (cO (.ref f) (.ref y)):=x;show h'.get? a=some (cO (.ref f) (.ref y));exact k a _ (.inl rfl) e
 |ext φ=>obtain⟨p,⟨o,e⟩,st⟩:=x;exact⟨st _ _ p fun o q=>k _ _ (.inl rfl) q,⟨o,k _ _ (.inl rfl) e⟩,st⟩
theorem Y7.lt (x:Y7 P w H h)(e:H a=some o):a<h.objs.size:=(x a o e).lt
theorem Y7.fresh (x:Y7 P w H h)(e:h.objs.size<=a):H a=none:=by
 cases q:H a with
 |none=>rfl
 |some u=>exact absurd (am (x.lt q) e) (aR _)
theorem Y7.kept (x:Y7 P w H h)(k:∀b u,h.get? b=some u->h'.get? b=some u):Y7 P w H h':=fun a o e=>
 (x a o e).stay (fun b u _ q=>k b u q) (fun _ q=>q) fun _ _ q=>q
theorem Y7.laid (x:Y7 P w H h)(k:∀b u,h.get? b=some u->h'.get? b=some u)(B:h.objs.size<=a)(j:ZU P w (upd H a o) h' a o):Y7 P w (upd H a o) h':=fun b u e=>by
 have z:=x.fresh B;by_cases hb:b=a
 ·subst hb;rw[Zv] at e;cases e;exact j
 ·rw[ZD hb] at e
  exact (x b u e).stay (fun c v _ q=>k c v q) (fun c q=>by rw[ZD (ZG q z)];exact q) fun c D q=>by rw[ZD (ZG q z)];exact q
end
noncomputable def Rd (H:Hp)(a:Addr)(u:HO):Prop:=H a=some u\/∃o,H a=some (.frz o u)
theorem Rd.ok {P:Program}{w:World}{H:Hp}{h:Heap}{a:Addr}{u:HO}(r:Rd H a u)(x:Y7 P w H h):ZU P w H h a u:=by
 rcases r with r|⟨o,r⟩
 ·exact x a u r
 ·obtain⟨_,q⟩:=x a _ r
  exact q
noncomputable def Mut:Option HO->Prop
 |some (.lst _)=>True
 |some (.dK _)=>True
 |some (.dT _)=>True
 |some (.set _ _)=>True
 |some (.ins _ _ _)=>True
 |some (.ext _)=>True
 |_=>False
section
variable {P:Program}{w:World}{H:Hp}{h h':Heap}{x e:Addr}{o':HO}
theorem Y7.write (ok:Y7 P w H h)(J:Mut (H x))(Y:e=x\/H e=some (.own x))(k:∀b u,b≠e->h.get? b=some u->h'.get? b=some u)(O:∃u,h'.get? e=some u)
  (U:ZU P w (upd H x o') h' x o'):Y7 P w (upd H x o') h':=fun b u q=>by
 have B:∀c y,H c=some (.own y)->c≠x:=fun c y r z=>by subst z;rw[r] at J;exact J
 have D:∀c L,H c=some (.tup L)->c≠x:=fun c L r z=>by subst z;rw[r] at J;exact J
 by_cases hb:b=x
 ·subst hb;rw[Zv] at q;cases q;exact U
 ·rw[ZD hb] at q
  by_cases j:b=e
  ·have q':H b=some (.own x):=by
    rcases Y with z|z
    ·exact absurd (j.trans z) hb
    ·rw[j];exact z
   rw[q] at q';cases q';obtain⟨v,hv⟩:=O;exact⟨v,by rw[j];exact hv⟩
  ·refine (ok b u q).stay (fun c v M r=>k c v ?_ r) (fun c r=>by rw[ZD (B c b r)];exact r) fun c L r=>by rw[ZD (D c L r)];exact r
   rcases M with rfl|M
   ·exact j
   ·rintro rfl
    rcases Y with z|z
    ·exact B c b M z
    ·rw[M] at z;cases z;exact hb rfl
end
structure Un (fs ex:List Addr)(H H':Hp)(h h':Heap):Prop where
 keep:∀b o,h.get? b=some o->H b=none->b∉fs->b∉ex->h'.get? b=some o
 slot:∀b o,h.get? b=some o->H b=none->b∈fs->b∉ex->∃sl,h'.get? b=some {o with slots:=sl}
 free:∀b o,h.get? b=some o->H b=none->b∉ex->H' b=none
 there:∀b o,h.get? b=some o->b∉ex->∃o',h'.get? b=some o'
 tups:∀b xs,H b=some (.tup xs)->H' b=some (.tup xs)
 frzs:∀b o u,H b=some (.frz o u)->H' b=some (.frz o u)
 tbls:∀b ps,H b=some (.tbl ps)->∃more,H' b=some (.tbl (ps++more))
section
variable {fs fs' ex ex':List Addr}{H H1 H2:Hp}{h h1 h2 h':Heap}{a x e:Addr}{o:HO}
theorem Un.any (u:Un fs ex H H1 h h1){b:Addr}{j:Obj}(q:h.get? b=some j)(n:H b=none)(z:b∉ex):∃B,h1.get? b=some {j with slots:=B}:=by
 by_cases hb:b∈fs
 ·exact u.slot b j q n hb z
 ·exact⟨j.slots,u.keep b j q n hb z⟩
theorem Un.kept (k:∀b u,h.get? b=some u->h'.get? b=some u):Un fs ex H H h h':=
 ⟨fun b j q _ _ _=>k b j q,fun b j q _ _ _=>⟨j.slots,k b j q⟩,fun _ _ _ n _=>n,fun b j q _=>⟨j,k b j q⟩,fun _ _ q=>q,fun _ _ _ q=>q,fun _ z q=>⟨#[],by rw[q];simp⟩⟩
theorem Un.refl:Un fs ex H H h h:=Un.kept fun _ _ q=>q
theorem Un.laid (k:∀b u,h.get? b=some u->h'.get? b=some u)(z:h.objs.size<=a)(j:H a=none):Un fs ex H (upd H a o) h h' where
 keep:=fun b u q _ _ _=>k b u q
 slot:=fun b u q _ _ _=>⟨u.slots,k b u q⟩
 free:=fun b u q n _=>by rw[ZD (aw (am (Zp q) z))];exact n
 there:=fun b u q _=>⟨u,k b u q⟩
 tups:=fun b B q=>by rw[ZD (ZG q j)];exact q
 frzs:=fun b u B q=>by rw[ZD (ZG q j)];exact q
 tbls:=fun b D q=>⟨#[],by rw[ZD (ZG q j),q];simp⟩
theorem Un.write (B:Mut (H x))(M:e=x\/H e=some (.own x))(k:∀b u,b≠e->h.get? b=some u->h'.get? b=some u)(D:∃u,h'.get? e=some u):Un fs ex H (upd H x o) h h':=by
 have L:∀b,H b=none->b≠x:=fun b n z=>by subst z;rw[n] at B;exact B
 have hb:∀b,H b=none->b≠e:=fun b n z=>by
  subst z;rcases M with r|r
  ·exact L b n r
  ·rw[n] at r;cases r
 have J:∀b u,H b=some u->¬Mut (some u)->b≠x:=fun b u q O z=>by subst z;rw[q] at B;exact O B
 refine⟨fun b u q n _ _=>k b u (hb b n) q,fun b u q n _ _=>⟨u.slots,k b u (hb b n) q⟩,fun b u q n _=>by rw[ZD (L b n)];exact n,fun b u q _=>?_,
  fun b U q=>by rw[ZD (J b _ q fun z=>z)];exact q,fun b u U q=>by rw[ZD (J b _ q fun z=>z)];exact q,fun b Y q=>⟨#[],by rw[ZD (J b _ q fun z=>z),q];simp⟩⟩
 by_cases j:b=e
 ·subst j;exact D
 ·exact⟨u,k b u j q⟩
end
noncomputable def trk (h:Heap)(H:Hp):List Addr:=(cu h.objs.size).filter fun a=>(H a).isSome
noncomputable def Jw (h:Heap)(H:Hp):Heap:=PySem.W.hideAll h (trk h H)
theorem Vw (h:Heap)(H:Hp):(Jw h H).objs.size=h.objs.size:=PySem.W.hideAll_size _ _
theorem Uz {h:Heap}{H:Hp}{b:Addr}{o:Obj}(e:h.get? b=some o)(n:H b=none):(Jw h H).get? b=some o:=
 PySem.W.hideAll_get _ e fun j=>by
  have q:(H b).isSome=true:=(dv.mp j).2;rw[n] at q;simp at q
theorem Zaq {h:Heap}{H:Hp}{b:Addr}{o:Obj}(e:(Jw h H).get? b=some o):h.get? b=some o/\H b=none:=by
 have j:h.get? b=some o:=PySem.W.of_hideAll (trk h H) e;refine⟨j,?_⟩;cases q:H b with
 |none=>rfl
 |some x=>
  have B:b∈trk h H:=dv.mpr ⟨List.mem_range.mpr (Zp j),by simp[q]⟩;have z:(Jw h H).get? b=none:=PySem.W.hideAll_none (trk h H) B;rw[z] at e;cases e
structure Mod (K:aa)(mg:Str->Option Value)(base:Heap):Prop where
 kin:K.In base
 glob:base.Ns mainGlobals mg
 blt:∃mb,base.Ns builtinsNs mb/\∀x:Str,x ≠ "__name__"->mb x=bootBuiltins x
 nolimit:base.NoLimit
structure Cx where
 prog:Program
 w:World
 K:aa
 mg:Str->Option Value
 base:Heap
 A:Around
 N:List Str
 s₀:Shared
 H₀:Hp
 env:Env
 outer:List Env
 stack:List Env
 ex:List Addr
 fn:Str->Bool
 calm:Bool
 pn:List (Addr×Obj)
 xe:Value->Shared->Prop
noncomputable def VL (l:List Env):List Addr:=l.filterMap (·.frame)
noncomputable abbrev Cx.fs (X:Cx):List Addr:=VL X.outer
noncomputable def Vis (j:a6)(x:Str):Prop:=j.names.lookup x=some .local\/j.names.lookup x=some .cell\/j.names.lookup x=some .free
noncomputable def Loc (j:a6)(x:Str):Prop:=j.names.lookup x=some .local\/j.names.lookup x=some .cell
noncomputable def Look (env:Env)(h:Heap)(m:Str->Option Value)(x:Str)(u:Value):Prop:=
 (env.kindOf x=some .local/\m x=some u)\/((env.kindOf x=some .cell\/env.kindOf x=some .free)/\∃c,env.cells.lookup x=some c/\h.IsCell c (some u))
structure Cx.Ok (X:Cx):Prop where
 mod:Mod X.K X.mg X.base
 kind:X.env.scope.kind=.function
 glob:X.env.globals=mainGlobals
 blt:X.env.builtins=builtinsNs
 above:X.s₀.heap.objs.size<=X.env.locals
 inj:∀x y c,X.env.cells.lookup x=some c->X.env.cells.lookup y=some c->x=y
 has:∀x,(X.env.kindOf x=some .cell\/X.env.kindOf x=some .free)->∃c,X.env.cells.lookup x=some c
 cab:∀x c,X.fn x=true->X.env.cells.lookup x=some c->X.s₀.heap.objs.size<=c
 hd:X.calm=true->X.A.handled=none
 frames:X.A.frames=some X.stack
 stk:X.stack=X.outer\/(X.stack=X.env::X.outer/\X.env.frame=some X.env.locals)
 exf:∀b∈X.ex,b≠X.env.locals/\∀x c,X.env.cells.lookup x=some c->c≠b
 bs:∀b o,X.base.get? b=some o->X.s₀.heap.get? b=some o/\X.H₀ b=none
 bsz:X.base.objs.size<=X.s₀.heap.objs.size
 noex:∀b o,X.base.get? b=some o->b∉X.ex
 exfs:∀b∈X.ex,b∉X.fs
 funs:X.s₀.heap.FunFrames X.base X.outer
 frf:∀b∈X.fs,X.H₀ b=none
structure Inv (X:Cx)(pins:List (Addr×Obj))(σ:List (Option V))(H:Hp)(s:Shared):Prop where
 ok:X.Ok
 os:s.os=X.s₀.os
 bare:cJ s.gens
 base:Un X.fs X.ex X.H₀ H X.s₀.heap s.heap
 loc:∃m,s.heap.Ns X.env.locals m/\∀(i:Nat) (x:Str) (v:V),X.N[i]?=some x->σ[i]?=some (some v)->Vis X.env.scope x->∃u,RelV v u/\Look X.env s.heap m x u
 cell:∀x c,X.env.cells.lookup x=some c->∃v,s.heap.IsCell c v
 free:H X.env.locals=none
 freeC:∀x c,X.env.cells.lookup x=some c->H c=none
 pin:∀p∈X.pn++pins,s.heap.get? p.1=some p.2/\H p.1=none/\p.1≠X.env.locals/\p.1∉X.fs/\∀v,p.2.data≠.cell v
 hok:Y7 X.prog X.w H s.heap
 len:σ.length=X.N.length
section
variable {X:Cx}{pins:List (Addr×Obj)}{σ:List (Option V)}{H H':Hp}{s:Shared}{h':Heap}
theorem Cx.Ok.nofr (ok:X.Ok){b:Addr}{o:Obj}(e:X.base.get? b=some o):b∉X.fs:=fun hb=>by
 have:=(ok.funs.mem hb).1;rw[e] at this;cases this
theorem Inv.bs (I:Inv X pins σ H s):∀b o,X.base.get? b=some o->s.heap.get? b=some o/\H b=none:=fun b o e=>
 ⟨I.base.keep b o (I.ok.bs b o e).1 (I.ok.bs b o e).2 (I.ok.nofr e) (I.ok.noex b o e),I.base.free b o (I.ok.bs b o e).1 (I.ok.bs b o e).2 (I.ok.noex b o e)⟩
theorem Inv.bk (I:Inv X pins σ H s):∀b o,X.base.get? b=some o->s.heap.get? b=some o:=fun b o e=>(I.bs b o e).1
theorem Inv.mod (I:Inv X pins σ H s):Mod X.K X.mg X.base:=I.ok.mod
theorem Inv.kIn (I:Inv X pins σ H s):X.K.In s.heap:=I.ok.mod.kin.keeps I.bk
theorem Inv.lt (I:Inv X pins σ H s):X.env.locals<s.heap.objs.size:=let ⟨_,j,_⟩:=I.loc;j.lt
theorem Inv.sz (I:Inv X pins σ H s):X.s₀.heap.objs.size<=s.heap.objs.size:=aF I.ok.above (et I.lt)
theorem Inv.nofs (I:Inv X pins σ H s){a:Addr}(h:s.heap.objs.size<=a):a∉X.fs:=fun hb=>by
 obtain⟨_,o,j,_⟩:=I.ok.funs.mem hb;exact absurd (am (Zp j) (aF I.sz h)) (aR _)
theorem Inv.cne (I:Inv X pins σ H s):∀x c,X.env.cells.lookup x=some c->c≠X.env.locals:=fun x c e z=>by
 obtain⟨v,o,B,hd⟩:=I.cell x c e;obtain⟨m,⟨D,J,L,j,q,_⟩,_⟩:=I.loc;rw[z,j] at B;cases B;rw[q] at hd;cases hd
theorem Inv.funs (I:Inv X pins σ H s):s.heap.FunFrames X.base X.outer:=by
 have all:∀(l:List Env),(∀b∈VL l,b∈X.fs)->X.s₀.heap.FunFrames X.base l->s.heap.FunFrames X.base l:=by
  intro l;induction l with
  |nil=>intro _ _;trivial
  |cons env r B=>
   intro q D;obtain⟨J,⟨L,o,hf,M,O,hd⟩,U⟩:=D;have j:L∈X.fs:=q L (by unfold VL;rw[aP,hf];exact ah);obtain⟨Y,e⟩:=I.base.slot L o O (I.ok.frf L j) j fun z=>I.ok.exfs L z j;exact⟨J,⟨L,_,hf,M,e,hd⟩,B (fun b hb=>q b (by unfold VL;rw[aP,hf];exact ag _ hb)) U⟩
 exact all X.outer (fun _ hb=>hb) I.ok.funs
theorem Inv.stack (I:Inv X pins σ H s):s.heap.FunFrames X.base X.stack:=by
 rcases I.ok.stk with e|⟨e,hf⟩
 ·rw[e];exact I.funs
 ·rw[e]
  obtain⟨m,j,_⟩:=I.loc;refine .cons (by rw[I.ok.kind];decide) hf j ?_ I.funs;exact Heap.get?_none_of_le (aF I.ok.bsz I.ok.above)
theorem Inv.stkSub (I:Inv X pins σ H s):∀b∈VL X.stack,b∈X.env.locals::X.fs:=fun b hb=>by
 rcases I.ok.stk with e|⟨e,hf⟩
 ·rw[e] at hb;exact ag _ hb
 ·rw[e] at hb
  unfold VL at hb;rw[aP,hf] at hb;exact hb
theorem Inv.stkFree (I:Inv X pins σ H s):∀b∈VL X.stack,H b=none:=fun b hb=>by
 rcases aj.mp (I.stkSub b hb) with e|hb
 ·rw[e];exact I.free
 ·obtain⟨_,o,j,_⟩:=I.ok.funs.mem hb
  exact I.base.free b o j (I.ok.frf b hb) fun z=>I.ok.exfs b z hb
theorem Inv.step {g':Array GenState}{t':Nat}{d':Drawn}{ch:List Addr}(I:Inv X pins σ H s)
  (B:∀b∈ch,(b∈X.ex\/X.s₀.heap.objs.size<=b)/\b≠X.env.locals/\(∀x c,X.env.cells.lookup x=some c->c≠b)/\∀p∈X.pn++pins,p.1≠b)
  (keep:∀b o,b≠X.env.locals->b∉X.fs->b∉ch->s.heap.get? b=some o->H b=none->h'.get? b=some o)
  (slot:∀b o,b≠X.env.locals->b∈X.fs->b∉ch->s.heap.get? b=some o->H b=none->∃sl,h'.get? b=some {o with slots:=sl}) (free:∀b o,b∉ch->s.heap.get? b=some o->H b=none->H' b=none)
  (M:∀b o,b∉ch->s.heap.get? b=some o->∃U,h'.get? b=some U)
  (Y:∀b xs,H b=some (.tup xs)->H' b=some (.tup xs)) (f6:∀b o u,H b=some (.frz o u)->H' b=some (.frz o u)) (f7:∀b ps,H b=some (.tbl ps)->∃f8,H' b=some (.tbl (ps++f8)))
  (ns:∀m,s.heap.Ns X.env.locals m->h'.Ns X.env.locals m) (hok:Y7 X.prog X.w H' h') (hg:cJ g') :
  Inv X pins σ H' {s with heap:=h',gens:=g',drawn:=d',toks:=t'}:=by
 have f9:∀b o,X.s₀.heap.get? b=some o->b≠X.env.locals:=fun b o e=>aw (am (Zp e) I.ok.above);have neC:∀b o,X.s₀.heap.get? b=some o->b∉X.ex->b∉ch:=fun b o e j hb=>by
  rcases (B b hb).1 with z|z
  ·exact j z
  ·exact absurd (am (Zp e) z) (aR _)
 have D:∀x c,X.env.cells.lookup x=some c->∀v,s.heap.IsCell c v->h'.IsCell c v:=fun x c e v ⟨o,O,hd⟩=>by
  have J:c∉ch:=fun z=>(B c z).2.2.1 x c e rfl;by_cases hc:c∈X.fs
  ·obtain⟨sl,q⟩:=slot c o (I.cne x c e) hc J O (I.freeC x c e)
   exact⟨_,q,hd⟩
  ·exact⟨o,keep c o (I.cne x c e) hc J O (I.freeC x c e),hd⟩
 refine⟨I.ok,I.os,hg,⟨fun b o e n hb j=>?_,fun b o e n hb j=>?_,fun b o e n j=>?_,fun b o e j=>?_,fun b xs e=>Y b xs (I.base.tups b xs e),fun b o xs e=>f6 b o xs (I.base.frzs b o xs e),fun b ps e=>?_⟩,?_,fun x c e=>?_,?_,fun x c e=>?_,fun p hp=>?_,hok,I.len⟩
 ·exact keep b o (f9 b o e) hb (neC b o e j) (I.base.keep b o e n hb j) (I.base.free b o e n j)
 ·obtain⟨sl,L⟩:=I.base.slot b o e n hb j
  obtain⟨g8,e2⟩:=slot b _ (f9 b o e) hb (neC b o e j) L (I.base.free b o e n j);exact⟨g8,e2⟩
 ·obtain⟨U,L⟩:=I.base.there b o e j
  exact free b U (neC b o e j) L (I.base.free b o e n j)
 ·obtain⟨U,L⟩:=I.base.there b o e j
  exact M b U (neC b o e j) L
 ·obtain⟨m1,L⟩:=I.base.tbls b ps e
  obtain⟨m2,e2⟩:=f7 b _ L;exact⟨m1++m2,by rw[e2,Array.append_assoc]⟩
 ·obtain⟨m,hn,hl⟩:=I.loc
  refine⟨m,ns m hn,fun i x v L e2 e3=>?_⟩;obtain⟨u,r,l⟩:=hl i x v L e2 e3;refine⟨u,r,?_⟩;rcases l with l|⟨k,c,e,z⟩
  ·exact .inl l
  ·exact .inr ⟨k,c,e,D x c e _ z⟩
 ·obtain⟨v,z⟩:=I.cell x c e
  exact⟨v,D x c e v z⟩
 ·obtain⟨m,⟨o,_,_,O,_⟩,_⟩:=I.loc
  exact free _ o (fun z=>(B _ z).2.1 rfl) O I.free
 ·obtain⟨v,o,O,hd⟩:=I.cell x c e
  exact free c o (fun z=>(B c z).2.2.1 x c e rfl) O (I.freeC x c e)
 ·obtain⟨e,n,ne,nf,d⟩:=I.pin p hp
  have J:p.1∉ch:=fun z=>(B p.1 z).2.2.2 p hp rfl;exact⟨keep p.1 p.2 ne nf J e n,free p.1 p.2 J e n,ne,nf,d⟩
theorem Inv.un {t':Nat}(I:Inv X pins σ H s)(u:Un X.fs [] H H' s.heap h')(q:Y7 X.prog X.w H' h'):Inv X pins σ H' {s with heap:=h',toks:=t'}:=by
 obtain⟨m,⟨o,U,Y,J,r⟩,_⟩:=id I.loc;obtain⟨sl,L⟩:=u.any J I.free (by simp);exact I.step (g':=s.gens) (d':=s.drawn) (ch:=[]) (fun _ z=>nomatch z) (fun b o _ hb _ e n=>u.keep b o e n hb (by simp)) (fun b o _ hb _ e n=>u.slot b o e n hb (by simp)) (fun b o _ e n=>u.free b o e n (by simp)) (fun b o _ e=>u.there b o e (by simp)) u.tups u.frzs u.tbls (fun m' M=>by
  obtain⟨o',B,D,j,O⟩:=M;rw[J] at j;cases j;exact⟨_,B,D,L,O⟩) q I.bare
theorem Inv.call {g':Array GenState}{t':Nat}{d':Drawn}{ch:List Addr}(I:Inv X pins σ H s)(u:Un (VL X.stack) ch H H' s.heap h')(D:Y7 X.prog X.w H' h')(U:cJ g')
  (q:∀b∈ch,(b∈X.ex\/X.s₀.heap.objs.size<=b)/\b≠X.env.locals/\(∀x c,X.env.cells.lookup x=some c->c≠b)/\∀p∈X.pn++pins,p.1≠b) :
  Inv X pins σ H' {s with heap:=h',gens:=g',drawn:=d',toks:=t'}:=by
 obtain⟨m,⟨o,es,ep,O,r⟩,_⟩:=id I.loc;obtain⟨sl,J⟩:=u.any O I.free fun z=>(q _ z).2.1 rfl;exact I.step (ch:=ch) q (fun b o J hb j e n=>u.keep b o e n (fun z=>(aj.mp (I.stkSub b z)).elim J hb) j) (fun b o _ _ j e n=>u.any e n j) (fun b o j e n=>u.free b o e n j) (fun b o j e=>u.there b o e j) u.tups u.frzs u.tbls (fun m' Y=>by
  obtain⟨o',L,M,B,r'⟩:=Y;rw[O] at B;cases B;exact⟨_,L,M,J,r'⟩) D U
theorem Inv.turned {t':Nat}{it:Addr}(I:Inv X pins σ H s)(k:∀b o,b≠it->s.heap.get? b=some o->h'.get? b=some o)(J:H it=none)(D:it≠X.env.locals)
  (L:it∈X.ex\/X.s₀.heap.objs.size<=it) (M:∀x c,X.env.cells.lookup x=some c->c≠it) (O:∀p∈X.pn++pins,p.1≠it):Inv X pins σ H {s with heap:=h',toks:=t'}:=by
 have B:∀b u,H b=some u->b≠it:=fun b u e z=>by rw[z,J] at e;cases e
 refine I.step (g':=s.gens) (d':=s.drawn) (ch:=[it]) (fun b hb=>?_) (fun b o _ _ j e _=>k b o (fun z=>j (by simp[z])) e) (fun b o _ _ j e _=>⟨o.slots,k b o (fun z=>j (by simp[z])) e⟩) (fun _ _ _ _ n=>n)
  (fun b o j e=>⟨o,k b o (fun z=>j (by simp[z])) e⟩) (fun _ _ e=>e) (fun _ _ _ e=>e) (fun b ps e=>⟨#[],by rw[e];simp⟩) (fun m U=>?_) (fun b u e=>?_) I.bare
 ·have e:b=it:=by simpa using hb
  subst e;exact⟨L,D,M,O⟩
 ·obtain⟨o,Y,ep,ho,r⟩:=U
  exact⟨o,Y,ep,k _ o (bd D) ho,r⟩
 ·refine (I.hok b u e).stay (fun c v j q=>k c v ?_ q) (fun _ q=>q) fun _ _ q=>q
  rcases j with z|z
  ·rw[z];exact B b u e
  ·exact B c _ z
theorem Inv.tok (I:Inv X pins σ H s)(t:Nat):Inv X pins σ H {s with toks:=t}:=I.un (h':=s.heap) (t':=t) Un.refl I.hok
theorem Inv.kept {t':Nat}(I:Inv X pins σ H s)(k:∀b u,s.heap.get? b=some u->h'.get? b=some u):Inv X pins σ H {s with heap:=h',toks:=t'}:=I.un (Un.kept k) (I.hok.kept k)
theorem Inv.laid {a:Addr}{o:HO}{t':Nat}(I:Inv X pins σ H s)(k:∀b u,s.heap.get? b=some u->h'.get? b=some u)(j:s.heap.objs.size<=a)(q:ZU X.prog X.w (upd H a o) h' a o) :
  Inv X pins σ (upd H a o) {s with heap:=h',toks:=t'}:=I.un (Un.laid k j (I.hok.fresh j)) (I.hok.laid k j q)
theorem Inv.write {x e:Addr}{o:HO}{t':Nat}(I:Inv X pins σ H s)(z:Mut (H x))(B:e=x\/H e=some (.own x))(k:∀b u,b≠e->s.heap.get? b=some u->h'.get? b=some u)(j:∃u,h'.get? e=some u)
  (q:ZU X.prog X.w (upd H x o) h' x o):Inv X pins σ (upd H x o) {s with heap:=h',toks:=t'}:=I.un (Un.write z B k j) (I.hok.write z B k j q)
theorem Inv.pins_of {j:List (Addr×Obj)}(I:Inv X pins σ H s)(h:∀p∈j,s.heap.get? p.1=some p.2/\H p.1=none/\p.1≠X.env.locals/\p.1∉X.fs/\∀v,p.2.data≠.cell v):Inv X j σ H s:=
 ⟨I.ok,I.os,I.bare,I.base,I.loc,I.cell,I.free,I.freeC,fun p q=>(aK.mp q).elim (fun z=>I.pin p (cF _ z)) (h p),I.hok,I.len⟩
theorem JU {N:List Str}(q:N.Nodup){i j:Nat}{x:Str}(a:N[i]?=some x)(b:N[j]?=some x):i=j:=by
 obtain⟨D,z⟩:=aD.mp a;obtain⟨J,B⟩:=aD.mp b;exact (List.getElem_inj q).mp (z.trans B.symm)
theorem X9 {M:eN}{A:Around}{E:Value->Shared->Prop}{i:Nat}{x:Str}{v:V}{u:Value}{Q:Unit->Shared->Prop}(I:Inv X pins σ H s)(hN:X.N.Nodup)(hi:X.N[i]?=some x)(O:Loc X.env.scope x)(r:RelV v u)
  (h:∀s',Inv X pins (σ.set i (some v)) H s'->(∃a,aJ a s.heap s'.heap/\(a=X.env.locals\/X.env.cells.lookup x=some a))->Q () s') (hf:X.fn x=true\/X.env.scope.names.lookup x=some .local:=by first|exact .inl rfl|exact .inr rfl|assumption):wpAny M A (storeName X.env x u) Q E s:=by
 obtain⟨m,hn,hl⟩:=id I.loc;have f8:(X.env.scope.kind == .class || (X.env.scope.kind == .module && X.env.locals != X.env.globals))=false:=by rw[I.ok.kind];rfl
 have f6:i < σ.length:=by rw[I.len];exact (aD.mp hi).1
 have cne:=I.cne;have D:∀{a:Addr}{h':Heap},(∃o,s.heap.get? a=some o/\H a=none)->aJ a s.heap h'->Y7 X.prog X.w H h':=fun {a h'} ha B b ob e=>by
  obtain⟨_,_,U⟩:=ha;refine (I.hok b ob e).stay (fun c w' L q=>(B.2 c ?_).trans q) (fun _ q=>q) fun _ _ q=>q;rintro rfl;rcases L with rfl|L
  ·rw[U] at e;cases e
  ·rw[U] at L;cases L
 rcases O with hk|hk
 ·refine wpAny_storeName_local hk hn (fun h' i0 B=>?_) f8
  obtain⟨oL,_,_,i1,_⟩:=id hn;refine h _ ⟨I.ok,I.os,I.bare,⟨fun b o e n hb O=>?_,fun b o e n hb O=>?_,I.base.free,fun b o e O=>?_,I.base.tups,I.base.frzs,I.base.tbls⟩,⟨_,i0,fun j y v' J Y e3=>?_⟩,fun y c e=>?_,I.free,I.freeC,fun p hp=>?_,D ⟨oL,i1,I.free⟩ B,by simpa using I.len⟩ ⟨_,B,.inl rfl⟩
  ·exact (B.2 b (aw (am (Zp e) I.ok.above))).trans (I.base.keep b o e n hb O)
  ·obtain⟨sl,J⟩:=I.base.slot b o e n hb O
   exact⟨sl,(B.2 b (aw (am (Zp e) I.ok.above))).trans J⟩
  ·obtain⟨o',J⟩:=I.base.there b o e O
   exact⟨o',(B.2 b (aw (am (Zp e) I.ok.above))).trans J⟩
  ·by_cases hj:j=i
   ·subst hj
    rw[hi] at J;cases J;rw[ee f6] at Y;cases Y;exact⟨u,r,.inl ⟨hk,by simp⟩⟩
   ·rw[eC (bd hj)] at Y
    obtain⟨u',r',q⟩:=hl j y v' J Y e3;refine⟨u',r',?_⟩;rcases q with ⟨k,e⟩|⟨k,c,e,z⟩
    ·refine .inl ⟨k,?_⟩
     have:y≠x:=fun e=>hj (JU hN J (e▸hi));simp[this,e]
    ·exact .inr ⟨k,c,e,z.sameBut B (cne y c e)⟩
  ·obtain⟨w',z⟩:=I.cell y c e
   exact⟨w',z.sameBut B (cne y c e)⟩
  ·obtain⟨e,n,ne,nf,d⟩:=I.pin p hp
   exact⟨(B.2 p.1 ne).trans e,n,ne,nf,d⟩
 ·have f7:X.fn x=true:=by
   rcases hf with z|z
   ·exact z
   ·rw[z] at hk;cases hk
  obtain⟨c,L⟩:=I.ok.has x (.inl hk);obtain⟨w',z⟩:=I.cell x c L;refine wpAny_storeName_cell I.ok.kind hk L z (fun h' f9 B=>?_);obtain⟨oc,g8,g9⟩:=id z;refine h {s with heap:=h'} ⟨I.ok,I.os,I.bare,⟨fun b o e n hb O=>?_,fun b o e n hb O=>?_,I.base.free,fun b o e O=>?_,I.base.tups,I.base.frzs,I.base.tbls⟩,⟨m,hn.sameBut B (bd (cne x c L)),fun j y v' J Y e3=>?_⟩,fun y c' e=>?_,I.free,I.freeC,fun p hp=>?_,D ⟨oc,g8,I.freeC x c L⟩ B,by simpa using I.len⟩ ⟨c,B,.inr L⟩
  ·exact (B.2 b (aw (am (Zp e) (I.ok.cab x c f7 L)))).trans (I.base.keep b o e n hb O)
  ·obtain⟨sl,J⟩:=I.base.slot b o e n hb O
   exact⟨sl,(B.2 b (aw (am (Zp e) (I.ok.cab x c f7 L)))).trans J⟩
  ·obtain⟨o',J⟩:=I.base.there b o e O
   exact⟨o',(B.2 b (aw (am (Zp e) (I.ok.cab x c f7 L)))).trans J⟩
  ·by_cases hj:j=i
   ·subst hj
    rw[hi] at J;cases J;rw[ee f6] at Y;cases Y;exact⟨u,r,.inr ⟨.inl hk,c,L,f9⟩⟩
   ·rw[eC (bd hj)] at Y
    obtain⟨u',r',q⟩:=hl j y v' J Y e3;refine⟨u',r',?_⟩;rcases q with q|⟨k,c',e,z'⟩
    ·exact .inl q
    ·refine .inr ⟨k,c',e,z'.sameBut B ?_⟩
     rintro rfl;exact hj (JU hN J (I.ok.inj _ _ _ e L▸hi))
  ·by_cases h8:c'=c
   ·subst h8;exact⟨_,f9⟩
   ·obtain⟨w2,z2⟩:=I.cell y c' e
    exact⟨w2,z2.sameBut B h8⟩
  ·obtain⟨e,n,ne,nf,d⟩:=I.pin p hp
   refine⟨(B.2 p.1 ?_).trans e,n,ne,nf,d⟩;intro q;rw[q,g8] at e;have q':oc=p.2:=az e;exact d w' (by rw[<-q'];exact g9)
theorem Yv {M:eN}{A:Around}{E:Value->Shared->Prop}{i:Nat}{x:Str}{v:V}{u:Value}{Q:Unit->Shared->Prop}(I:Inv X pins σ H s)(j:X.N.Nodup)(q:X.N[i]?=some x)(z:Loc X.env.scope x)(r:RelV v u)
  (h:∀s',Inv X pins (σ.set i (some v)) H s'->Q () s') (B:X.fn x=true\/X.env.scope.names.lookup x=some .local:=by first|exact .inl rfl|exact .inr rfl|assumption):wpAny M A (storeName X.env x u) Q E s:=
 X9 I j q z r (fun s' D _=>h s' D) B
theorem Inv.call' {s':Shared}{ch:List Addr}(I:Inv X pins σ H s)(J:s'.os=s.os)(u:Un (VL X.stack) ch H H' s.heap s'.heap)(j:Y7 X.prog X.w H' s'.heap)(L:cJ s'.gens)
  (q:∀b∈ch,(b∈X.ex\/X.s₀.heap.objs.size<=b)/\b≠X.env.locals/\(∀x c,X.env.cells.lookup x=some c->c≠b)/\∀p∈X.pn++pins,p.1≠b):Inv X pins σ H' s':=by
 obtain⟨h',z,B,D,M⟩:=s';have e:M=s.os:=J;subst e;exact I.call (g':=z) (t':=D) (d':=B) u j L q
end
noncomputable abbrev XK:=Value->Option Addr->Hp->Prop
noncomputable abbrev St:=List (Option V)
noncomputable abbrev VK:=V->Hp->Prop
noncomputable abbrev TE:=St->Hp->VK->Prop
noncomputable abbrev TT:=St->Hp->(Bool->Hp->Prop)->Prop
noncomputable abbrev TA:=St->Hp->(List V->Hp->Prop)->Prop
structure Y8 where
 nx:St->Hp->Prop
 rt:VK
 bk:St->Hp->Prop:=fun _ _=>False
 ct:St->Hp->Prop:=fun _ _=>False
noncomputable abbrev TS:=Y8->St->Hp->Prop
noncomputable def EP (X:Cx)(j:List (Addr×Obj))(z:St)(Q:VK)(u:Value)(s':Shared):Prop:=∃v q,Inv X j z q s'/\RelV v u/\Q v q
noncomputable def TP (X:Cx)(j:List (Addr×Obj))(z:St)(Q:Bool->Hp->Prop)(b:Bool)(s':Shared):Prop:=∃q,Inv X j z q s'/\Q b q
noncomputable def AP (X:Cx)(j:List (Addr×Obj))(B:St)(Q:List V->Hp->Prop)(D:List Value)(s':Shared):Prop:=∃q z,Inv X j B z s'/\ZE q D/\Q q z
noncomputable def SP (X:Cx)(q:List (Addr×Obj))(D:Y8)(f:Flow)(s':Shared):Prop:=
 match f with
 | .next=>∃ j z,Inv X q j z s'/\D.nx j z
 | .brk=>∃ j z,Inv X q j z s'/\D.bk j z
 | .cont=>∃ j z,Inv X q j z s'/\D.ct j z
 | .ret u=>∃v j z,Inv X q j z s'/\RelV v u/\D.rt v z
noncomputable def PE (X:Cx)(e:Expr)(t:TE):Prop:=
 ∀(j:List (Addr×Obj)) (s:Shared) (q:St) (H:Hp) (Q:VK),Inv X j q H s->t q H Q->wpAny (model X.prog X.w) X.A (eval e X.env) (EP X j q Q) X.xe s
noncomputable def PT (X:Cx)(e:Expr)(t:TT):Prop:=
 ∀(j:List (Addr×Obj)) (s:Shared) (q:St) (H:Hp) (Q:Bool->Hp->Prop),Inv X j q H s->t q H Q->wpAny (model X.prog X.w) X.A (isTrue e X.env (eval e X.env)) (TP X j q Q) X.xe s
noncomputable def PW (X:Cx)(e:Expr)(t:TT):Prop:=
 ∀(q:Sem Value) (j:List (Addr×Obj)) (s:Shared) (z:St) (H:Hp) (Q:Bool->Hp->Prop),Inv X j z H s->t z H Q->wpAny (model X.prog X.w) X.A (isTrue e X.env q) (TP X j z Q) X.xe s
theorem PW.pt {X:Cx}{e:Expr}{t:TT}(h:PW X e t):PT X e t:=h _
noncomputable def PA (X:Cx)(z:List Expr)(t:TA):Prop:=
 ∀(pos:Pos) (j:List (Addr×Obj)) (s:Shared) (q:St) (H:Hp) (Q:List V->Hp->Prop),Inv X j q H s->t q H Q->wpAny (model X.prog X.w) X.A (spliced (backTo pos (starEach z X.env))) (AP X j q Q) X.xe s
noncomputable def PS (X:Cx)(st:Stmt)(t:TS):Prop:=
 ∀(j:List (Addr×Obj)) (s:Shared) (q:St) (H:Hp) (D:Y8),Inv X j q H s->t D q H->wpAny (model X.prog X.w) X.A (exec st X.env) (SP X j D) X.xe s
noncomputable def Xa (X:Cx)(st:List Stmt)(t:TS):Prop:=
 ∀(j:List (Addr×Obj)) (s:Shared) (q:St) (H:Hp) (D:Y8),Inv X j q H s->t D q H->wpAny (model X.prog X.w) X.A (execs st X.env) (SP X j D) X.xe s
theorem ZN {α:Type}{t:Sem α}{Q j:α->Shared->Prop}{M:eN}{A:Around}{E:Value->Shared->Prop}{s:Shared}(h:wpAny M A t Q E s)(q:∀a s,Q a s->j a s):wpAny M A t j E s:=aW h q fun _ _ x=>x
section
variable {X:Cx}
noncomputable def YK (i:Nat):TE:=fun σ H Q=>∃v,σ[i]?=some (some v)/\Q v H
noncomputable def tC (v:V):TE:=fun _ H Q=>Q v H
theorem Zbu {i:Nat}{x:Str}{pos:Pos}(M:X.N[i]?=some x)(O:Vis X.env.scope x)(D:(x == ("__debug__":Str))=false:=by decide)(J:(x == ("__classdict__":Str))=false:=by decide):PE X (.Name x pos) (YK i):=by
 intro B s U H Q I h;obtain⟨v,e,h⟩:=h;obtain⟨m,Y,hl⟩:=I.loc;obtain⟨u,r,l⟩:=hl i x v M e O;have q:EP X B U Q u s:=⟨v,H,I,r,h⟩;rcases l with ⟨z,hm⟩|⟨z,c,L,j⟩
 ·exact wpAny_Name (wpAny_loadName_local I.ok.kind z Y hm q) D
 ·rcases z with z|z
  ·exact wpAny_Name (wpAny_loadName_cell I.ok.kind z L j q) D
  ·exact wpAny_Name (wpAny_loadName_free I.ok.kind z L j q J) D
theorem Zt {i j pos}:PE X (.Constant (.int i) j pos) (tC (.int i)):=fun _ _ _ H _ I h=>wpAny_Constant_int ⟨.int i,H,I.tok _,⟨_,rfl⟩,h⟩
theorem ZcB {b j pos}:PE X (.Constant (.bool b) j pos) (tC (.bl b)):=fun _ _ _ H _ I h=>Constant_bool ⟨.bl b,H,I,rfl,h⟩
theorem Ue {j pos}:PE X (.Constant .none j pos) (tC .non):=fun _ _ _ H _ I h=>Constant_none ⟨.non,H,I,rfl,h⟩
theorem Zx {x j pos}:PE X (.Constant (.str x) j pos) (tC (.str x)):=fun _ _ _ H _ I h=>cQ ⟨.str x,H,I.tok _,⟨_,rfl⟩,h⟩
noncomputable def Gl (X:Cx)(x:Str):Prop:=X.env.kindOf x=some .globalImplicit
theorem Zav {E:Value->Shared->Prop}{j:List (Addr×Obj)}{s:Shared}{σ:St}{H:Hp}{x:Str}{u:Value}{pos:Pos}{Q:Value->Shared->Prop}(I:Inv X j σ H s)(q:Gl X x)(z:X.mg x=some u)(h:Q u s)
  (B:(x == ("__debug__":Str))=false:=by decide):wpAny (model X.prog X.w) X.A (eval (.Name x pos) X.env) Q E s:=
 dD I.ok.kind q (Calls.loadGlobal_global (by rw[I.ok.glob];exact I.mod.glob.keeps I.bk) z h) B
theorem WK {E:Value->Shared->Prop}{j:List (Addr×Obj)}{s:Shared}{σ:St}{H:Hp}{x:Str}{u:Value}{pos:Pos}{Q:Value->Shared->Prop}(I:Inv X j σ H s)(q:Gl X x)(z:X.mg x=none)(B:bootBuiltins x=some u)(h:Q u s)
  (D:x ≠ "__name__":=by decide) (J:(x == ("__debug__":Str))=false:=by decide):wpAny (model X.prog X.w) X.A (eval (.Name x pos) X.env) Q E s:=by
 obtain⟨O,L,M⟩:=I.mod.blt;exact dD I.ok.kind q (Calls.loadGlobal_builtin (by rw[I.ok.glob];exact I.mod.glob.keeps I.bk) z (by rw[I.ok.blt];exact L.keeps I.bk) ((M x D).trans B) h) J
variable {a b:Expr}{ta tb:TE}{pos:Pos}
noncomputable def tB (t:TE):TT:=fun j H Q=>t j H fun x q=>∃c,x=.bl c/\Q c q
theorem Jq {e:Expr}{t:TE}(h:PE X e t)(B:∀j,isTrue e X.env j=(do let v <-j;standAt e.pos;holding [v] (truthy v)):=by intro _;rfl):PT X e (tB t):=by
 intro z s D H Q I J;refine isTrue_plain (ZN (h z s D H _ I J) fun v Y ⟨x,L,M,O,U⟩=>?_) (B _);obtain⟨d,rfl,q⟩:=U;cases O;exact cp ⟨L,M,q⟩
variable {tA tB':TT}{rest:List Expr}
noncomputable def Zch (t u:TT):TT:=fun j H Q=>t j H fun c q=>if c=true then u j q Q else Q false q
noncomputable def tOr (t u:TT):TT:=fun j H Q=>t j H fun c q=>if c=true then Q true q else u j q Q
noncomputable def VU (t:TT):TT:=fun j H Q=>t j H fun c q=>Q (!c) q
theorem Y0 (q:PT X a tA):PW X (.BoolOp .And [a] pos) tA:=by
 intro B j s z H Q I h;refine isTrue_and (ZN (q j s z H Q I h) fun c D e=>?_);cases c with
 |true=>exact isTrue_and_nil e
 |false=>exact e
theorem Xp (q:PT X a tA):PW X (.BoolOp .Or [a] pos) tA:=by
 intro B j s z H Q I h;refine isTrue_or (ZN (q j s z H Q I h) fun c D e=>?_);cases c with
 |false=>exact isTrue_or_nil e
 |true=>exact e
theorem WE (J:PT X a tA)(hb:PW X (.BoolOp .And (b::rest) pos) tB'):PW X (.BoolOp .And (a::b::rest) pos) (Zch tA tB'):=by
 intro L j s q H Q I h;refine isTrue_and (ZN (J j s q H _ I h) fun c M ⟨z,B,D⟩=>?_);cases c with
 |true=>exact hb L j M q z Q B D
 |false=>exact⟨z,B,D⟩
theorem V9 (J:PT X a tA)(hb:PW X (.BoolOp .Or (b::rest) pos) tB'):PW X (.BoolOp .Or (a::b::rest) pos) (tOr tA tB'):=by
 intro L j s q H Q I h;refine isTrue_or (ZN (J j s q H _ I h) fun c M ⟨z,B,D⟩=>?_);cases c with
 |true=>exact⟨z,B,D⟩
 |false=>exact hb L j M q z Q B D
theorem Ub (q:PT X a tA):PT X (.UnaryOp .Not a pos) (VU tA):=by
 intro j s z H Q I h;exact isTrue_not (q j s z H (fun c B=>Q (!c) B) I h)
noncomputable def Zcg (ta tb:TE):TE:=fun j H Q=>ta j H fun x q=>∃c,x=.bl c/\if c=true then tb j q Q else Q (.bl false) q
theorem Ud {op}{t:TE}(h:PE X a t):PE X (.BoolOp op [a] pos) t:=fun j s q H Q I z=>BoolOp_one (h j s q H Q I z)
theorem Ug (J:PE X a ta)(hb:PE X (.BoolOp .And (b::rest) pos) tb):PE X (.BoolOp .And (a::b::rest) pos) (Zcg ta tb):=by
 intro j s z H Q I h;refine BoolOp_and (ZN (J j s z H _ I h) fun v L ⟨x,B,D,M,q⟩=>?_);obtain⟨c,rfl,q⟩:=q;cases M;refine cp ?_;cases c with
 |true=>exact hb j L z B Q D q
 |false=>exact⟨.bl false,B,D,rfl,q⟩
noncomputable def tIf (t:TT)(ta tb:TE):TE:=fun j H Q=>t j H fun c q=>if c=true then ta j q Q else tb j q Q
theorem Z4 {c:Expr}(L:PT X c tA)(M:PE X a ta)(hb:PE X b tb):PE X (.IfExp c a b pos) (tIf tA ta tb):=by
 intro j s q H Q I h;refine wpAny_IfExp (ZN (L j s q H _ I h) fun d z ⟨B,D,J⟩=>?_);cases d with
 |true=>exact M j z q B Q D J
 |false=>exact hb j z q B Q D J
end
noncomputable def YF (K:aa)(H:Hp)(a:Addr)(xs:List V):Prop:=
 Rd H a (.lst xs)\/
  ∃(o:Obj) (j:Array Value) (n:Nat),K.lookup a=some o/\o.cls=.type "list"/\o.dict=none/\o.data=.seq j n/\j.size<=sizeLine/\ZE xs j.toList
noncomputable def Y9 (K:aa)(H:Hp)(a:Addr)(xs:List V):Prop:=
 Rd H a (.tup xs)\/
  ∃(o:Obj) (j:Array Value) (n:Nat),K.lookup a=some o/\o.cls=.type "tuple"/\o.data=.seq j n/\j.size<=sizeLine/\ZE xs j.toList
noncomputable def Zdk:Value->Option V
 | .none=>some .non
 | .bool b=>some (.bl b)
 | .int i _=>some (.int i)
 | .str x _=>some (.str x)
 | .bytes b _=>some (.byt b)
 | .float b _=>some (.flt b)
 | .ref a=>some (.ref a)
 | .type n=>some (.ty n)
 |_=>none
theorem RelV.abs {x:V}{u:Value}(r:RelV x u):Zdk u=some x:=by
 cases x with
 |non=>cases r;rfl
 |bl _=>cases r;rfl
 |int _=>obtain⟨t,rfl⟩:=r;rfl
 |str _=>obtain⟨t,rfl⟩:=r;rfl
 |byt _=>obtain⟨t,rfl⟩:=r;rfl
 |flt _=>obtain⟨t,rfl⟩:=r;rfl
 |ref _=>cases r;rfl
 |ty _=>cases r;rfl
theorem RelV.inj {x y:V}{u:Value}(r:RelV x u)(q:RelV y u):x=y:=az (r.abs.symm.trans q.abs)
theorem ZE.inj:∀{xs j:List V}{us:List Value},ZE xs us->ZE j us->xs=j
 |_,_,_,.nil,.nil=>rfl
 |_,_,_,.cons r t,.cons q z=>by rw[r.inj q,ZE.inj t z]
section
variable {X:Cx}{pins:List (Addr×Obj)}{σ:St}{H:Hp}{s:Shared}{a:Addr}{xs ys:List V}
theorem YF.of {K:aa}(h:H a=some (.lst xs)):YF K H a xs:=.inl (.inl h)
theorem Y9.of {K:aa}(h:H a=some (.tup xs)):Y9 K H a xs:=.inl (.inl h)
theorem Inv.list (I:Inv X pins σ H s)(h:YF X.K H a xs):∃j:List Value,ZE xs j/\PlainL s.heap a j.toArray/\xs.length<=sizeLine:=by
 rcases h with h|⟨o,j,n,q,B,hd,D,J,r⟩
 ·obtain⟨z,j,n,r,e⟩:=h.ok I.hok
  exact⟨j,r,⟨_,n,e,rfl,rfl,rfl⟩,z⟩
 ·refine⟨j.toList,r,⟨o,n,I.kIn a o q,B,hd,by simpa using D⟩,?_⟩
  have e:=r.length;simp only[Zr] at e;omega
theorem Inv.tuple (I:Inv X pins σ H s)(h:Y9 X.K H a xs):∃j:List Value,ZE xs j/\IsTup s.heap a j.toArray/\xs.length<=sizeLine:=by
 rcases h with h|⟨o,j,n,q,B,D,J,r⟩
 ·obtain⟨z,j,r,p⟩:=h.ok I.hok
  exact⟨j,r,p,z⟩
 ·refine⟨j.toList,r,⟨o,I.kIn a o q,B,n,by simpa using D⟩,?_⟩
  have e:=r.length;simp only[Zr] at e;omega
theorem Inv.list_inj (I:Inv X pins σ H s)(h:YF X.K H a xs)(h':YF X.K H a ys):xs=ys:=by
 obtain⟨q,r,⟨o,n,e,_,_,d⟩,_⟩:=I.list h;obtain⟨j,D,⟨L,M,z,_,_,B⟩,_⟩:=I.list h';rw[e] at z;cases z;rw[d] at B;injection B with J _;have:q=j:=by simpa using congrArg Array.toList J
 subst this;exact r.inj D
theorem Inv.tuple_inj (I:Inv X pins σ H s)(h:Y9 X.K H a xs)(h':Y9 X.K H a ys):xs=ys:=by
 obtain⟨q,r,⟨o,e,_,n,d⟩,_⟩:=I.tuple h;obtain⟨j,D,⟨L,z,_,M,B⟩,_⟩:=I.tuple h';rw[e] at z;cases z;rw[d] at B;injection B with J _;have:q=j:=by simpa using congrArg Array.toList J
 subst this;exact r.inj D
end
noncomputable abbrev Cx.wish (X:Cx)(E:Value->Shared->Prop):Cx:={X with xe:=E}
noncomputable abbrev Cx.nox (X:Cx):Cx:=X.wish fun _ _=>False
theorem Cx.Ok.wish {X:Cx}(ok:X.Ok)(E:Value->Shared->Prop):(X.wish E).Ok:=
 ⟨ok.mod,ok.kind,ok.glob,ok.blt,ok.above,ok.inj,ok.has,ok.cab,ok.hd,ok.frames,ok.stk,ok.exf,ok.bs,ok.bsz,ok.noex,ok.exfs,ok.funs,ok.frf⟩
theorem Cx.Ok.unwish {X:Cx}{E:Value->Shared->Prop}(ok:(X.wish E).Ok):X.Ok:=
 ⟨ok.mod,ok.kind,ok.glob,ok.blt,ok.above,ok.inj,ok.has,ok.cab,ok.hd,ok.frames,ok.stk,ok.exf,ok.bs,ok.bsz,ok.noex,ok.exfs,ok.funs,ok.frf⟩
section
variable {X:Cx}{pins:List (Addr×Obj)}{σ:St}{H:Hp}{s:Shared}{E:Value->Shared->Prop}
theorem Inv.wish (I:Inv X pins σ H s)(E:Value->Shared->Prop):Inv (X.wish E) pins σ H s:=⟨I.ok.wish E,I.os,I.bare,I.base,I.loc,I.cell,I.free,I.freeC,I.pin,I.hok,I.len⟩
theorem Inv.unwish (I:Inv (X.wish E) pins σ H s):Inv X pins σ H s:=⟨I.ok.unwish,I.os,I.bare,I.base,I.loc,I.cell,I.free,I.freeC,I.pin,I.hok,I.len⟩
theorem SP.unwish {D:Y8}{f:Flow}{s':Shared}(h:SP (X.wish E) pins D f s'):SP X pins D f s':=by
 cases f with
 |next=>obtain⟨j,z,I,q⟩:=h;exact⟨j,z,I.unwish,q⟩
 |brk=>obtain⟨j,z,I,q⟩:=h;exact⟨j,z,I.unwish,q⟩
 |cont=>obtain⟨j,z,I,q⟩:=h;exact⟨j,z,I.unwish,q⟩
 |ret u=>obtain⟨v,j,z,I,r,q⟩:=h;exact⟨v,j,z,I.unwish,r,q⟩
theorem Xa.nox {st:List Stmt}{t:TS}(h:Xa X.nox st t):Xa X st t:=fun pins s σ H D I j=>
 aW (h pins s σ H D (I.wish _) j) (fun _ _ q=>q.unwish) fun _ _ z=>bm z
end
section
variable {X:Cx}{st:Stmt}{rest:List Stmt}{t u:TS}{e:Expr}{te:TE}{pos:Pos}
noncomputable def JL:TS:=fun D j H=>D.nx j H
noncomputable def Xk (t u:TS):TS:=fun D j H=>t {D with nx:=u D} j H
theorem ZI:Xa X [] JL:=fun _ _ j H _ I h=>bR ⟨j,H,I,h⟩
theorem Zs (B:PS X st t)(J:Xa X rest u):Xa X (st::rest) (Xk t u):=by
 intro j s L H D I h;refine cx (ZN (B j s L H {D with nx:=u D} I h) fun f M q=>?_);cases f with
 |next=>
  obtain⟨z,O,U,q⟩:=q;exact J j M z O D U q
 |ret v=>exact q
 |brk=>exact q
 |cont=>exact q
theorem Zw (z:PS X st t):Xa X [st] t:=by
 intro j s B H D I h;refine cx (ZN (z j s B H D I h) fun f J q=>?_);cases f with
 |next=>exact bR q
 |ret v=>exact q
 |brk=>exact q
 |cont=>exact q
theorem Inv.quiet {j:List (Addr×Obj)}{σ:St}{H:Hp}{s:Shared}(I:Inv X j σ H s):interactive X.env=false:=by simp[interactive,I.ok.kind]
noncomputable def Zcc (te:TE):TS:=fun D j H=>te j H fun _ q=>D.nx j q
theorem XR (z:PE X e te)(B:swapsWith e none pos.line X.env=pure false:=by rfl):PS X (.Expr e pos) (Zcc te):=by
 intro j s q H D I h;exact wpAny_Expr_any (ZN (z j s q H _ I h) fun v O ⟨x,J,L,U,M⟩=>⟨q,J,L,M⟩) I.quiet B
noncomputable def VT (te:TE):TS:=fun D j H=>te j H D.rt
theorem ZT (q:PE X e te):PS X (.Return (some e) pos) (VT te):=by
 intro j s σ H D I h;exact wpAny_Return_some (ZN (q j s σ H _ I h) fun v M ⟨x,z,B,J,L⟩=>⟨x,σ,z,B,J,L⟩)
noncomputable def X8 (c:TT)(t u:TS):TS:=fun D j H=>c j H fun b q=>if b=true then t D j q else u D j q
theorem Z8 {c:Expr}{a b:List Stmt}{z:TT}(O:PT X c z)(U:Xa X a t)(hb:Xa X b u):PS X (.If c a b pos) (X8 z t u):=by
 intro j s q H D I h;refine wpAny_If (ZN (O j s q H _ I h) fun d B ⟨J,L,M⟩=>?_);cases d with
 |true=>exact U j B q J D L M
 |false=>exact hb j B q J D L M
noncomputable def Zbh:TS:=fun _ _ _=>False
theorem W3 {j:List Stmt}:Xa X j Zbh:=fun _ _ _ _ _ _ h=>h.elim
end
noncomputable abbrev TG:=V->St->Hp->(St->Hp->Prop)->Prop
noncomputable abbrev TGs:=List V->St->Hp->(St->Hp->Prop)->Prop
noncomputable def PG (X:Cx)(j:Expr)(t:TG):Prop:=
 ∀(q:List (Addr×Obj)) (s:Shared) (B:St) (H:Hp) (v:V) (u:Value) (Q:St->Hp->Prop),Inv X q B H s->RelV v u->t v B H Q->
  wpAny (model X.prog X.w) X.A (assign j X.env u) (fun _ J=>∃ z D,Inv X q z D J/\Q z D) X.xe s
noncomputable def PGs (X:Cx)(ts:List Expr)(t:TGs):Prop:=
 ∀(j:List (Addr×Obj)) (s:Shared) (z:St) (H:Hp) (B:List V) (D:List Value) (Q:St->Hp->Prop),Inv X j z H s->ZE B D->t B z H Q->
  wpAny (model X.prog X.w) X.A (assignInOrder ((assignEach ts X.env).map (·.2)) D) (fun _ L=>∃ q J,Inv X j q J L/\Q q J) X.xe s
noncomputable abbrev ZbX:=V->V->V->Hp->(Hp->Prop)->Prop
noncomputable def ZcP (X:Cx)(t:ZbX):Prop:=
 ∀(j:List (Addr×Obj)) (s:Shared) (q:St) (H:Hp) (o i v:V) (z B u:Value) (Q:Hp->Prop),Inv X j q H s->RelV o z->RelV i B->RelV v u->t o i v H Q->
  wpAny (model X.prog X.w) X.A (setItem z B u) (fun _ J=>∃D,Inv X j q D J/\Q D) X.xe s
noncomputable abbrev TIp:=V->V->Hp->VK->Prop
noncomputable def PIp (X:Cx)(z:dA)(t:TIp):Prop:=
 ∀(j:List (Addr×Obj)) (s:Shared) (q:St) (H:Hp) (x y:V) (v u:Value) (Q:VK),Inv X j q H s->RelV x v->RelV y u->t x y H Q->
  wpAny (model X.prog X.w) X.A (inplaceOp z v u) (EP X j q Q) X.xe s
section
variable {X:Cx}{pos:Pos}
noncomputable def Yi (i:Nat):TG:=fun v j H Q=>Q (j.set i (some v)) H
theorem Zaf {i:Nat}{x:Str}(q:X.N.Nodup)(z:X.N[i]?=some x)(B:Loc X.env.scope x)(D:X.fn x=true\/X.env.scope.names.lookup x=some .local:=by first|exact .inl rfl|exact .inr rfl|assumption):PG X (.Name x pos) (Yi i):=by
 intro j s L H v u Q I r h;exact wpAny_assign_Name (Yv I q z B r (fun M J=>⟨_,H,J,h⟩) D)
noncomputable def ZcJ:TGs:=fun j q H Q=>j=[]/\Q q H
noncomputable def UC (t:TG)(u:TGs):TGs:=fun q z H Q=>∃v r,q=v::r/\t v z H fun j B=>u r j B Q
theorem Zae:PGs X [] ZcJ:=by
 intro j s q H z B Q I r h;obtain⟨e,h⟩:=h;subst e;cases r;exact assignInOrder_nil ⟨q,H,I,h⟩
theorem JS {e:Expr}{q:List Expr}{t:TG}{u:TGs}(B:PG X e t)(D:PGs X q u)
  (J:(assignEach (e::q) X.env).map (·.2)=assign e X.env::(assignEach q X.env).map (·.2):=by rfl):PGs X (e::q) (UC t u):=by
 intro j s L H vs us Q I r h;obtain⟨v,vr,M,h⟩:=h;subst M;cases r with
 |cons r O=>
  rw[J];refine dn (ZN (B j s L H _ _ _ I r h) fun _ U ⟨z,Y,I1,q1⟩=>?_);exact D j U z Y _ _ Q I1 O q1
noncomputable def ZcI (K:aa)(n:Nat)(t:TGs):TG:=fun v q H Q=>∃a j,v=.ref a/\Y9 K H a j/\j.length=n/\t j q H Q
theorem Zbt {q:List Expr}{k:Nat}{t:TGs}{n:Nat}(L:X.calm=true)(h:PGs X q t)
  (M:(assignEach q X.env).length=n:=by rfl) (z:(assignEach q X.env).findIdx? (·.1)=none:=by rfl):PG X (.Tuple q k pos) (ZcI X.K n t):=by
 intro j s D H v u Q I r B;obtain⟨a,xs,O,U,Y,B⟩:=B;subst O;cases r;obtain⟨f6,J,ht,hz⟩:=I.tuple U;refine assign_Tuple_tuple (I.ok.hd L) ht (by simp[M,<-Y,J.length]) z fun h' hx=>?_;have I1:Inv X j D H {s with heap:=h'}:=I.kept (t':=s.toks) fun b o e=>hx b o (aw (Zp e)) e;exact h j _ D H xs _ Q I1 (by simpa using J) B
noncomputable def VW (q:TE)(g:TG):TS:=fun D j H=>q j H fun x z=>g x j z D.nx
theorem Zbp {i:Nat}{x:Str}{e:Expr}{z:TE}{j:Pos}(B:X.N.Nodup)(J:X.N[i]?=some x)(L:Loc X.env.scope x)(M:PE X e z)(O:swapsWith e (some (.Name x j)) pos.line X.env=pure false:=by rfl)(U:X.fn x=true\/X.env.scope.names.lookup x=some .local:=by first|exact .inl rfl|exact .inr rfl|assumption) :
  PS X (.Assign [.Name x j] e pos) (VW z (Yi i)):=by
 intro q s Y H D I h;refine wpAny_Assign_Name (ZN (M q s Y H _ I h) fun v s1 ⟨y,H1,I1,r1,q1⟩=>?_) O;exact Yv I1 B J L r1 (fun s2 I2=>⟨_,H1,I2,q1⟩) U
noncomputable def Zc5 (i j:Nat)(z:TA):TS:=fun D q H=>z q H fun B J=>∃v w,B=[v,w]/\D.nx ((q.set i (some v)).set j (some w)) J
theorem Zbq {i j:Nat}{x y:Str}{a b:Expr}{ta:TA}{M O pt:Pos}{kt U B}(hc:X.calm=true)(hN:X.N.Nodup)(hi:X.N[i]?=some x)(hj:X.N[j]?=some y)(Y:i≠j)
  (hx:X.env.scope.names.lookup x=some .local) (hy:X.env.scope.names.lookup y=some .local) (ha:PA X [a,b] ta)
  (hw:swappedStores [.Tuple [.Name x M,.Name y O] kt pt] (.Tuple [a,b] U B) X.env=pure (some [x,y]))
  (hs:swapsWithSole [.Tuple [.Name x M,.Name y O] kt pt] (.Tuple [a,b] U B) pos.line X.env=pure false:=by rfl) :
  PS X (.Assign [.Tuple [.Name x M,.Name y O] kt pt] (.Tuple [a,b] U B) pos) (Zc5 i j ta):=by
 intro z s σ H D I h;rw[exec_Assign_arm];refine Zl (wpAny_standAt ?_);rw[hs];refine Zl (Zm ?_);rw[if_neg (by decide)];refine Zl (Tuple_ (ZN (ha _ z s σ H _ I h) fun us s1 ⟨vs,H1,I1,r1,q1⟩=>?_));obtain⟨v,w,e1,q1⟩:=q1;subst e1;obtain⟨J,L,rfl,rv,f6⟩:∃J L,us=[J,L]/\RelV v J/\RelV w L:=by
  cases r1 with
  |cons p q=>
   cases q with
   |cons p' q'=>
    cases q';exact⟨_,_,rfl,p,p'⟩
 refine cr ?_ (by show 2<=sizeLine;decide);have I2:Inv X z σ H1 {s1 with heap:=s1.heap.push {cls:=.type "tuple",data:=.seq [J,L].toArray}}:=I1.kept (t':=s1.toks) fun b o e=>Zn _ e;rw[hw];refine Zl (Zm ?_);show wpAny (model X.prog X.w) X.A (do rule "assign.swapped-stores";let items <-unpackItems (.ref s1.heap.objs.size) 2 none;assignInOrder [fun v=>bindName X.env y v,fun v=>bindName X.env x v] items.reverse;pure Flow.next) _ _ _
 refine Zl (wpAny_rule (Zl (unpackItems_tuple (items:=#[J,L]) (I.ok.hd hc) (cD s1.heap _) fun h' f7=>?_)));have I3:=I2.kept (h':=h') (t':=s1.toks) fun b o e=>f7 b o (aw (Zp e)) e;show wpAny _ _ (assignInOrder [fun v=>bindName X.env y v,fun v=>bindName X.env x v] [L,J] >>= fun _=>pure Flow.next) _ _ _;refine Zl (dn (wpAny_bindName (Yv I3 hN hj (.inl hy) f6 (fun s2 I4=>?_) (.inr hy))));refine dn (wpAny_bindName (Yv I4 hN hi (.inl hx) rv (fun s3 I5=>assignInOrder_nil (Zm ?_)) (.inr hx)));rw[List.set_comm _ _ (bd Y)] at I5;exact⟨_,H1,I5,q1⟩
noncomputable def Zc8 (i:Nat)(j:TE)(q:TIp):TS:=fun D σ H=>∃x,σ[i]?=some (some x)/\j σ H fun y B=>q x y B fun z J=>D.nx (σ.set i (some z)) J
theorem Zbr {i:Nat}{x:Str}{e:Expr}{Y:TE}{op:dA}{ti:TIp}{J:Pos}(hN:X.N.Nodup)(hi:X.N[i]?=some x)(O:Loc X.env.scope x)(he:PE X e Y)(ho:PIp X op ti)(hf:X.fn x=true\/X.env.scope.names.lookup x=some .local:=by first|exact .inl rfl|exact .inr rfl|assumption) :
  PS X (.AugAssign (.Name x J) op e pos) (Zc8 i Y ti):=by
 intro j s σ H D I h;obtain⟨v,e1,h⟩:=h;obtain⟨m,hn,hl⟩:=I.loc;have U:Vis X.env.scope x:=by rcases O with k|k;exact .inl k;exact .inr (.inl k)
 obtain⟨u,r,l⟩:=hl i x v hi e1 U;refine wpAny_AugAssign_Name ?_;have go:wpAny (model X.prog X.w) X.A (eval e X.env) (fun w L=>wpAny (model X.prog X.w) X.A (inplaceOp op u w) (fun r M=>wpAny (model X.prog X.w) X.A (storeName X.env x r) (fun _=>SP X j D .next) X.xe M) X.xe L) X.xe s:=by
  refine ZN (he j s σ H _ I h) fun w s1 ⟨y,H1,I1,r1,q1⟩=>?_;refine ZN (ho j s1 σ H1 v y u w _ I1 r r1 q1) fun z s2 ⟨zv,H2,I2,r2,q2⟩=>?_;exact Yv I2 hN hi O r2 (fun s3 I3=>⟨_,H2,I3,q2⟩) hf
 rcases l with ⟨q,hm⟩|⟨q,c,hc,B⟩
 ·exact wpAny_loadName_local I.ok.kind q hn hm go
 ·rcases q with q|q
  ·exact wpAny_loadName_cell I.ok.kind q hc B go
  ·rcases O with k|k
   ·have:X.env.scope.names.lookup x=some .free:=q
    rw[k] at this;cases this
   ·have:X.env.scope.names.lookup x=some .free:=q
    rw[k] at this;cases this
noncomputable def Zcf (L M O:TE)(j:V->V->Hp->VK->Prop)(J:TIp)(q:ZbX):TS:=fun D B H=>L B H fun o U=>M B U fun i Y=>j o i Y fun x H3=>O B H3 fun y H4=>J x y H4 fun z H5=>q o i z H5 fun H6=>D.nx B H6
noncomputable def ZcQ (X:Cx)(t:V->V->Hp->VK->Prop):Prop:=
 ∀(j:List (Addr×Obj)) (s:Shared) (q:St) (H:Hp) (o i:V) (z B:Value) (Q:VK),Inv X j q H s->RelV o z->RelV i B->t o i H Q->
  wpAny (model X.prog X.w) X.A (getItem z B) (EP X j q Q) X.xe s
theorem U9 {o i e:Expr}{to ti te:TE}{z:V->V->Hp->VK->Prop}{O:TIp}{B:ZbX}{op:dA}{U:Pos}(ho:PE X o to)(hi:PE X i ti)(hg:ZcQ X z)(he:PE X e te)(hp:PIp X op O)(hs:ZcP X B)
  (ha:∀J L q,augStore i J L q=(do holding [q,J,L] (setItem J L q);release [q,J,L] [];pure .next):=by intros;rfl):PS X (.AugAssign (.Subscript o i U) op e pos) (Zcf to ti te z O B):=by
 intro j s M H D I h;refine wpAny_AugAssign_SubscriptAny (ZN (ho j s M H _ I h) fun J s1 ⟨x1,H1,I1,r1,q1⟩=>?_) ha;refine ZN (hi j s1 M H1 _ I1 q1) fun L s2 ⟨x2,H2,I2,r2,q2⟩=>?_;refine ZN (hg j s2 M H2 x1 x2 J L _ I2 r1 r2 q2) fun Y s3 ⟨x3,H3,I3,r3,q3⟩=>?_;refine ZN (he j s3 M H3 _ I3 q3) fun v s4 ⟨x4,H4,I4,r4,q4⟩=>?_;refine ZN (hp j s4 M H4 x3 x4 Y v _ I4 r3 r4 q4) fun q s5 ⟨x5,H5,I5,r5,q5⟩=>?_;exact ZN (hs j s5 M H5 x1 x2 x5 J L q _ I5 r1 r2 r5 q5) fun _ s6 ⟨H6,I6,q6⟩=>⟨M,H6,I6,q6⟩
noncomputable def ipI (f:Int->Int->Int):TIp:=fun x y H Q=>∃i j,x=.int i/\y=.int j/\Q (.int (f i j)) H
theorem Uw:PIp X .Add (ipI fun i j=>i+j):=by
 intro z s M H x y v u Q I B D h;obtain⟨i,j,J,L,q⟩:=h;subst J;subst L;obtain⟨t,rfl⟩:=B;obtain⟨O,rfl⟩:=D;exact iadd_int ⟨.int _,H,I.tok _,⟨_,rfl⟩,q⟩
end
section
variable {X:Cx}{pos:Pos}
noncomputable def VS (c:TT)(L:TS):TS:=fun D j H=>∃W:Nat->St->Hp->Prop,(∃m,W m j H)/\∀m j H,W m j H->
 c j H fun b z=>if b=true then ∃N:St->Hp->Prop,(∀ q B,N q B->∃J,J<m/\W J q B)/\L {D with nx:=N,ct:=N,bk:=D.nx} j z else D.nx j z
theorem WF {c:Expr}{body:List Stmt}{tc:TT}{tb:TS}(hp:PassesOwn (model X.prog X.w) X.A X.env X.xe)(hc:PT X c tc)(hb:Xa X body tb):PS X (.While c body [] pos) (VS tc tb):=by
 intro j s σ H D I h;obtain⟨W,⟨m0,w0⟩,B⟩:=h;refine wpAny_While (codeAny_whileLoop (fun n s'=>∃ J H',Inv X j J H' s'/\W n J H') ?_ m0 ⟨σ,H,I,w0⟩);rintro n s1 ⟨z,H1,I1,w1⟩;refine aH hp (ZN (hc j s1 z H1 _ I1 (B n z H1 w1)) fun b s2 ⟨H2,I2,M⟩=>?_);cases b with
 |true=>
  obtain⟨N,hN,M⟩:=M;rw[if_pos rfl];refine aH hp (ZN (hb j s2 z H2 _ I2 M) fun f s3 O=>?_);cases f with
  |next=>
   obtain⟨q,L,U,Y⟩:=O;obtain⟨m',hm,w3⟩:=hN q L Y;exact⟨m',hm,q,L,U,w3⟩
  |cont=>
   obtain⟨q,L,U,Y⟩:=O;obtain⟨m',hm,w3⟩:=hN q L Y;exact⟨m',hm,q,L,U,w3⟩
  |brk=>exact O
  |ret v=>exact O
 |false=>
  rw[if_neg ar];exact bR ⟨z,H2,I2,M⟩
end
structure It where
 go:Nat->Hp->Prop
 yld:Nat->Hp->V->Hp->Prop
 stop:Nat->Hp->Prop
noncomputable def WQ (X:Cx)(j:List (Addr×Obj))(H:Hp)(b:Addr):Prop:=
 H b=none/\b≠X.env.locals/\b∉X.fs/\(b∈X.ex\/X.s₀.heap.objs.size<=b)/\(∀x c,X.env.cells.lookup x=some c->c≠b)/\∀p∈X.pn++j,p.1≠b
theorem Inv.fpOk {X:Cx}{j:List (Addr×Obj)}{σ:St}{H B:Hp}{s:Shared}{b:Addr}(I:Inv X j σ H s)(hb:s.heap.objs.size<=b)(D:B b=none):WQ X j B b:=by
 refine⟨D,bc (am I.lt hb),I.nofs hb,.inr (aF I.sz hb),fun x c e z=>?_,fun p J z=>?_⟩
 ·obtain⟨v,q⟩:=I.cell x c e
  exact absurd (am q.lt (by rw[z];exact hb)) (aR _)
 ·exact absurd (am (Zp (I.pin p J).1) (by rw[z];exact hb)) (aR _)
structure XF (P:Program)(w:World)(K:aa)(tg:Expr)(J:It)(fp:List Addr)(it:Addr)(tn:Nat->Heap->Prop):Prop where
 mem:it∈fp
 obj:∀i h,tn i h->∀b∈fp,∃o,h.get? b=some o/\∀v,o.data≠.cell v
 keep:∀i h h',tn i h->(∀b∈fp,∀o,h.get? b=some o->h'.get? b=some o)->tn i h'
 item:∀(X:Cx),X.prog=P->X.w=w->X.K=K->X.calm=true->∀(i:Nat) (pins:List (Addr×Obj)) (s:Shared) (σ:St) (H:Hp) (E:Value->Shared->Prop),Inv X pins σ H s->(∀b∈fp,WQ X pins H b)->tn i s.heap->J.go i H->
  wpAny (model P w) X.A (pyNext (.ref it)) (fun r s1=>∃u,r=some u/\
   wpAny (model P w) X.A (letOwnedTupleGo tg (.ref it) u) (fun _ s2=>∃x H',Inv X pins σ H' s2/\RelV x u/\J.yld i H x H'/\tn (i+1) s2.heap/\∀b∈fp,H' b=none) E s1) E s
 done:∀(X:Cx),X.prog=P->X.w=w->X.K=K->X.calm=true->∀(i:Nat) (pins:List (Addr×Obj)) (s:Shared) (σ:St) (H:Hp) (E:Value->Shared->Prop),Inv X pins σ H s->(∀b∈fp,WQ X pins H b)->tn i s.heap->J.stop i H->
  wpAny (model P w) X.A (pyNext (.ref it)) (fun r s1=>r=none/\Inv X pins σ H s1) E s
 self:∀(A:Around) (i:Nat) (s:Shared) (Q:Value->Shared->Prop) (E:Value->Shared->Prop),tn i s.heap->Q (.ref it) s->wpAny (model P w) A (pyIter (.ref it)) Q E s
noncomputable abbrev TI:=St->Hp->(It->Hp->Prop)->Prop
noncomputable def PIE (X:Cx)(j:List (Addr×Obj))(O:St)(U:Expr)(R:It->Hp->Prop)(q:Value)(B:Shared):Prop:=
 ∃(D:Addr) (L:List Addr) (M:Nat->Heap->Prop) (J:It) (z:Hp),q=.ref D/\Inv X j O z B/\XF X.prog X.w X.K U J L D M/\M 0 B.heap/\(∀b∈L,WQ X j z b)/\R J z
noncomputable def PI (X:Cx)(z iter:Expr)(B:TI):Prop:=
 ∀(j:List (Addr×Obj)) (s:Shared) (q:St) (H:Hp) (R:It->Hp->Prop),Inv X j q H s->B q H R->
  wpAny (model X.prog X.w) X.A (eval iter X.env) (fun v D=>wpAny (model X.prog X.w) X.A (pyIter v) (PIE X j q z R) X.xe D) X.xe s
theorem UA {M:eN}{A:Around}{E:Value->Shared->Prop}{s:Shared}{q:Expr}{it:Addr}{u:Value}{o:Obj}{n:String}{z:Array Value}{Q:Unit->Shared->Prop}(B:s.heap.get? it=some o)(D:o.cls=.type n)(hd:o.data=.fields z)
    (J:["enumerate", "zip", "dict_itemiterator", "dict_reverseitemiterator", "odict_iterator", "itertools.zip_longest", "itertools.pairwise"].contains n=false) (j:Q () s):wpAny M A (letOwnedTupleGo q (.ref it) u) Q E s:=by
  unfold letOwnedTupleGo;cases q <;> first
    |exact Zm j
    |(cases u <;> first
        |exact Zm j
        | (refine Zl (wpAny_load B ?_)
           rw[D,hd];show wpAny M A (if (["enumerate", "zip", "dict_itemiterator", "dict_reverseitemiterator", "odict_iterator", "itertools.zip_longest", "itertools.pairwise"].contains n && z[0]? == some (rawInt _))=true then _ else _) Q E s
           rw[if_neg (by intro h;rw[J,Bool.false_and] at h;cases h)];exact Zm j))
noncomputable def Itl (K:aa)(a:Addr):It:=
 ⟨fun i H=>∃j x,YF K H a j/\j[i]?=some x,fun i H x q=>q=H/\∀j,YF K H a j->j[i]?=some x,fun i H=>∃j,YF K H a j/\j.length<=i⟩
noncomputable def Itr (lo:Int)(n:Nat):It:=⟨fun i _=>i<n,fun i H x j=>j=H/\x=.int (lo+i),fun i _=>n<=i⟩
theorem WZ {P:Program}{w:World}{K:aa}{tg:Expr}(a q:Addr):XF P w K tg (Itl K a) [q] q (fun i h=>h.IsListIter q a i) where
 mem:=by simp
 obj:=fun i h st b hb=>by
  have e:b=q:=by simpa using hb
  subst e;obtain⟨o,e,c,d⟩:=st;exact⟨o,e,fun v z=>by rw[d] at z;cases z⟩
 keep:=fun i h D st k=>st.at fun o e=>k q (by simp) o e
 item:=by
  intro X M O U hc i j s σ H E I J st Y;subst M O U;obtain⟨xs,x,L,hx⟩:=Y;obtain⟨f6,rv,p,hz⟩:=I.list L;obtain⟨u,hu,ru⟩:=rv.get hx;obtain⟨f0,f1,f2,f3,f4,f5⟩:=J q (by simp);refine wpAny_pyNext_list_item st p.isList (x:=u) (by simpa using hu) fun D B sb=>?_;have I1:Inv X j σ H {s with heap:=D}:=I.turned (t':=s.toks) (fun b o hb e=>(sb.2 b hb).trans e) f0 f1 f3 f4 f5;obtain⟨o,e,c,d⟩:=id B;exact⟨u,rfl,UA (s:={s with heap:=D}) e c d (by decide) ⟨x,H,I1,ru,⟨rfl,fun ys hy=>by rw[I.list_inj hy L];exact hx⟩,B,fun b hb=>(J b hb).1⟩⟩
 done:=by
  intro X M O U hc i j s σ H E I J st Y;subst M O U;obtain⟨xs,L,hx⟩:=Y;obtain⟨f6,rv,p,hz⟩:=I.list L;obtain⟨f0,f1,f2,f3,f4,f5⟩:=J q (by simp);have hl:=rv.length;exact wpAny_pyNext_list_end (I.ok.hd hc) st p.isList (by simp;omega) fun D eb=>⟨rfl,I.turned (t':=s.toks) (fun b o hb e=>eb b o hb e) f0 f1 f3 f4 f5⟩
 self:=fun _ _ _ _ _ st h=>wpAny_pyIter_listiter st h
theorem Xh {P:Program}{w:World}{K:aa}{tg:Expr}(j:Addr)(lo:Int)(n:Nat):XF P w K tg (Itr lo n) [j] j (fun i h=>IsRangeIter h j (lo+(i:Nat)*1) ((n:Int)-(i:Nat)) 1) where
 mem:=by simp
 obj:=fun i h st b hb=>by
  have e:b=j:=by simpa using hb
  subst e;exact⟨_,st,fun v z=>by
   have z':eB _=fh v:=z;cases z'⟩
 keep:=fun i h D st k=>k j (by simp) _ st
 item:=by
  intro X L M O U i q s σ H E I J st Y;subst L M O;obtain⟨f0,f1,f2,f3,f4,f5⟩:=J j (by simp);have W:=Walks.range (prog:=X.prog) (w:=X.w) (I.ok.hd U) j lo 1 n;refine W.item i s _ _ Y st fun v D tk hv B kk=>?_;obtain⟨t,rfl⟩:=hv;have I1:Inv X q σ H {s with heap:=D,toks:=tk}:=I.turned (fun b o hb e=>kk b o (by simpa using hb) e) f0 f1 f3 f4 f5;refine⟨_,rfl,UA (s:={s with heap:=D,toks:=tk}) (n:="range_iterator") B rfl rfl (by decide) ⟨.int (lo+i),H,I1,⟨t,?_⟩,⟨rfl,rfl⟩,B,fun b hb=>(J b hb).1⟩⟩;rw[Int.mul_one]
 done:=by
  intro X L M O U i q s σ H E I J st Y;subst L M O;obtain⟨f0,f1,f2,f3,f4,f5⟩:=J j (by simp);exact wpAny_pyNext_range_end (I.ok.hd U) st (by have:n<=i:=Y;omega) fun D eb=>⟨rfl,I.turned (t':=s.toks) (fun b o hb e=>eb b o hb e) f0 f1 f3 f4 f5⟩
 self:=fun _ _ _ _ _ st h=>wpAny_pyIter_rangeiter st h
section
variable {X:Cx}{tg:Expr}
noncomputable def Ux (K:aa)(q:TE):TI:=fun z H R=>q z H fun x j=>∃a,x=.ref a/\(∃B,YF K j a B)/\R (Itl K a) j
theorem Zad {l:Expr}{D:TE}(J:PE X l D):PI X tg l (Ux X.K D):=by
 intro j s L H R I h;refine ZN (J j s L H _ I h) fun v z ⟨x,M,B,O,U⟩=>?_;obtain⟨a,e,⟨xs,Y⟩,q⟩:=U;subst e;cases O;obtain⟨f6,rv,p,hz⟩:=B.list Y;refine dw p.isList ?_;refine⟨z.heap.objs.size,[z.heap.objs.size],_,_,M,rfl,B.kept (t':=z.toks) fun b o e=>Zn _ e,WZ a _,⟨_,Zo _ rfl,rfl,rfl⟩,fun b hb=>?_,q⟩;have e:b=z.heap.objs.size:=by simpa using hb
 subst e;exact B.fpOk (Zq _) (B.hok.fresh (Zq _))
theorem JR {z:List (Addr×Obj)}{σ:St}{H:Hp}{s:Shared}{R:It->Hp->Prop}{E:Value->Shared->Prop}{lo j:Int}{t u v:Tok}{B:Nat}(I:Inv X z σ H s)(J:-(2 ^ 62)<=lo)(L:lo<2 ^ 62)(M:-(2 ^ 62)<=j)(O:j<2 ^ 62)
  (q:R (Itr lo (j-lo).toNat) H):wpAny (model X.prog X.w) X.A (pyIter (.ref s.heap.objs.size)) (PIE X z σ tg R) E {s with heap:=s.heap.push {cls:=.type "range",data:=.fields #[.int lo t,.int j u,.int 1 v]},toks:=B}:=by
 refine wpAny_pyIter_range (IsRange.new ..) (small_one J L M O) ?_;have D:Inv X z σ H {s with heap:=s.heap.push {cls:=.type "range",data:=.fields #[.int lo t,.int j u,.int 1 v]},toks:=B}:=I.kept fun b o e=>Zn _ e;refine⟨(s.heap.push {cls:=.type "range",data:=.fields #[.int lo t,.int j u,.int 1 v]}).objs.size,[(s.heap.push {cls:=.type "range",data:=.fields #[.int lo t,.int j u,.int 1 v]}).objs.size],_,_,H,rfl,
  D.kept (t':=B) fun b o e=>Zn _ e,Xh _ lo (j-lo).toNat,?_,fun b hb=>?_,q⟩
 ·have U:lo+((0:Nat):Int)*1=lo:=by simp
  have Y:(((j-lo).toNat:Nat):Int)-((0:Nat):Int)=Builtin.Range.rangeSize lo j 1:=by rw[rangeSize_one];split <;> omega
  show IsRangeIter _ _ (lo+((0:Nat):Int)*1) ((((j-lo).toNat:Nat):Int)-((0:Nat):Int)) 1;rw[U,Y];exact Zo _ rfl
 ·have e:b=(s.heap.push {cls:=.type "range",data:=.fields #[.int lo t,.int j u,.int 1 v]}).objs.size:=by simpa using hb
  subst e;exact D.fpOk (Zq _) (D.hok.fresh (Zq _))
noncomputable def Za8 (q:TA):TI:=fun z H R=>q z H fun B D=>∃j:Int,B=[.int j]/\-(2 ^ 62)<=j/\j<2 ^ 62/\R (Itr 0 j.toNat) D
noncomputable def Za7 (q:TA):TI:=fun z H R=>q z H fun B D=>∃i j:Int,B=[.int i,.int j]/\(-(2 ^ 62)<=i/\i<2 ^ 62/\-(2 ^ 62)<=j/\j<2 ^ 62)/\R (Itr i (j-i).toNat) D
theorem Vi {a:Expr}{D:TA}{p pos:Pos}(J:Gl X "range")(L:X.mg "range"=none)(M:PA X [a] D)(O:starEach [a] X.env=[(false,eval a X.env)]:=by rfl):PI X tg (.Call (.Name "range" p) [a] [] pos) (Za8 D):=by
 intro z s U H R I h;refine Call_ (WK I J L boot_range (a9 (ZN (M pos z s U H _ I h) fun us s1 ⟨vs,H1,Y,r1,B⟩=>?_) O rfl));obtain⟨j,e,B,q2,q⟩:=B;subst e;cases r1 with
 |cons r rr=>
  cases rr;obtain⟨t,rfl⟩:=r;exact call_range_1 (JR Y (by omega) (by omega) B q2 (by simpa using q))
theorem Vh {a b:Expr}{L:TA}{p pos:Pos}(M:Gl X "range")(O:X.mg "range"=none)(U:PA X [a,b] L)(Y:starEach [a,b] X.env=[(false,eval a X.env),(false,eval b X.env)]:=by rfl)(z:starEach [b] X.env=[(false,eval b X.env)]:=by rfl) :
  PI X tg (.Call (.Name "range" p) [a,b] [] pos) (Za7 L):=by
 intro B s σ H R I h;refine Call_ (WK I M O boot_range (a9 (ZN (U pos B s σ H _ I h) fun us s1 ⟨vs,H1,I1,r1,D⟩=>?_) (by rw[Y,z]) (by rw[z];rfl)));obtain⟨i,j,e,⟨D,q2,q3,q4⟩,q⟩:=D;subst e;cases r1 with
 |cons r J=>
  cases J with
  |cons r' J=>
   cases J;obtain⟨t,rfl⟩:=r;obtain⟨t',rfl⟩:=r';exact call_range_2 (JR I1 D q2 q3 q4 q)
noncomputable def Zcb (M:TI)(g:TG)(O:TS):TS:=fun D j H=>M j H fun J U=>∃W:Nat->Nat->St->Hp->Prop,(∃m,W 0 m j U)/\∀i m j H,W i m j H->
 (J.stop i H/\D.nx j H)\/(J.go i H/\∃N:St->Hp->Prop,(∀ q z,N q z->∃L,L<m/\W (i+1) L q z)/\∀x z,J.yld i H x z->g x j z fun B Y=>O {D with nx:=N,ct:=N,bk:=D.nx} B Y)
noncomputable def Wc (j:List Addr)(h:Heap):List (Addr×Obj):=j.filterMap fun b=>(h.get? b).map fun o=>(b,o)
theorem Yb {j:List Addr}{h:Heap}{b:Addr}{o:Obj}(hb:b∈j)(e:h.get? b=some o):(b,o)∈Wc j h:=eR.mpr ⟨b,hb,by rw[e];rfl⟩
theorem Vp {j:List Addr}{h:Heap}{p:Addr×Obj}(z:p∈Wc j h):p.1∈j/\h.get? p.1=some p.2:=by
 obtain⟨b,hb,e⟩:=eR.mp z;cases q:h.get? b with
 |none=>rw[q] at e;cases e
 |some o=>
  rw[q] at e;have B:(b,o)=p:=az e;subst B;exact⟨hb,q⟩
theorem Inv.pinned {j:List (Addr×Obj)}{σ:St}{H:Hp}{s:Shared}{q:List Addr}(I:Inv X j σ H s)(D:∀b∈q,WQ X j H b)(J:∀b∈q,∃o,s.heap.get? b=some o/\∀v,o.data≠.cell v):Inv X (j++Wc q s.heap) σ H s:=
 I.pins_of fun p L=>(aK.mp L).elim (fun z=>I.pin p (ao _ z)) fun z=>by
  obtain⟨hb,e⟩:=Vp z;obtain⟨M,O,U,_⟩:=D p.1 hb;obtain⟨o,B,d⟩:=J p.1 hb;rw[e] at B;cases B;exact⟨e,M,O,U,d⟩
theorem Inv.unpinned {j q:List (Addr×Obj)}{σ:St}{H:Hp}{s:Shared}(I:Inv X (j++q) σ H s):Inv X j σ H s:=I.pins_of fun p z=>I.pin p (ao _ (cF _ z))
theorem WG {iter:Expr}{body:List Stmt}{wi:TI}{g:TG}{tb:TS}{pos:Pos}(hp:PassesOwn (model X.prog X.w) X.A X.env X.xe)(hc:X.calm=true)(hi:PI X tg iter wi)(hg:PG X tg g)(hb:Xa X body tb)
  (hs:∀x,foldedSetIterable iter X.env x=pure x:=by intro _;rfl):PS X (.For tg iter body [] pos) (Zcb wi g tb):=by
 intro j s σ H D I h;refine wpAny_For (ZN (hi j s σ H _ I h) fun v s1 h1=>ZN h1 fun i1 s2 h2=>?_) hs;obtain⟨it,fp,tn,J,H2,e,I2,T,g8,f2,W,⟨m0,w0⟩,f7⟩:=h2;subst e;have z:∀{U:Hp},(∀b∈fp,U b=none)->∀b∈fp,WQ X j U b:=fun hn b hb=>⟨hn b hb,(f2 b hb).2⟩;refine codeAny_forLoop_any (fun n s'=>∃i B U,Inv X j B U s'/\tn i s'.heap/\(∀b∈fp,U b=none)/\W i n B U) ?_ m0 ⟨0,σ,H2,I2,g8,fun b hb=>(f2 b hb).1,w0⟩;rintro n s3 ⟨i,L,H3,I3,f8,f9,w3⟩;rcases f7 i n L H3 w3 with ⟨stop,qn⟩|⟨go,N,hN,step⟩
 ·refine aH hp (ZN (T.done X rfl rfl rfl hc i j s3 L H3 X.xe I3 (z f9) f8 stop) fun r s4 ⟨hr,I4⟩=>?_)
  subst hr;exact bR ⟨L,H3,I4,qn⟩
 ·refine aH hp (ZN (T.item X rfl rfl rfl hc i j s3 L H3 X.xe I3 (z f9) f8 go) fun r s4 ⟨u,hr,h4⟩=>?_)
  subst hr;refine aH hp (ZN h4 fun _ s5 ⟨x,H5,I5,r5,y5,f6,g9⟩=>?_);have h8:=I5.pinned (z g9) (T.obj _ _ f6);refine aH hp (ZN (hg _ s5 L H5 x u _ h8 r5 (step x H5 y5)) fun _ s6 ⟨i0,H6,I6,q6⟩=>?_);refine aH hp (ZN (hb _ s6 i0 H6 _ I6 q6) fun f s7 Y=>?_);have again:∀{q:St}{M:Hp},Inv X (j++Wc fp s5.heap) q M s7->N q M->∃m,m<n/\∃i B U,Inv X j B U s7/\tn i s7.heap/\(∀b∈fp,U b=none)/\W i m B U:=fun {q M} O n7=>by
   obtain⟨m',hm,w7⟩:=hN q M n7;refine⟨m',hm,i+1,q,M,O.unpinned,T.keep _ _ _ f6 fun b hb o e=>(O.pin (b,o) (ao _ (ao _ (Yb hb e)))).1,fun b hb=>?_,w7⟩;obtain⟨o,e,d⟩:=T.obj _ _ f6 b hb;exact (O.pin (b,o) (ao _ (ao _ (Yb hb e)))).2.1
  cases f with
  |next=>obtain⟨q,M,O,n7⟩:=Y;exact again O n7
  |cont=>obtain⟨q,M,O,n7⟩:=Y;exact again O n7
  |brk=>obtain⟨q,M,O,Y⟩:=Y;exact⟨q,M,O.unpinned,Y⟩
  |ret v=>obtain⟨x7,q,M,O,r7,Y⟩:=Y;exact⟨x7,q,M,O.unpinned,r7,Y⟩
end
theorem UD {K:aa}{a:Addr}{xs:List V}{g:TG}{M:TS}{D:Y8}{σ:St}{H:Hp}(Pv:Nat->St->Hp->Prop)(h0:Pv 0 σ H)(U:∀i σ H,i<=xs.length->Pv i σ H->YF K H a xs)
  (Y:∀i x σ H,xs[i]?=some x->Pv i σ H->g x σ H fun j L=>M {D with nx:=Pv (i+1),ct:=Pv (i+1),bk:=D.nx} j L) (hd:∀ σ H,Pv xs.length σ H->D.nx σ H) :
  ∃W:Nat->Nat->St->Hp->Prop,(∃m,W 0 m σ H)/\∀i m σ H,W i m σ H->
   ((Itl K a).stop i H/\D.nx σ H)\/((Itl K a).go i H/\∃N:St->Hp->Prop,(∀ z B,N z B->∃O,O<m/\W (i+1) O z B)/\∀x B,(Itl K a).yld i H x B->g x σ B fun j L=>M {D with nx:=N,ct:=N,bk:=D.nx} j L):=by
 refine⟨fun i m σ H=>m=xs.length-i/\i<=xs.length/\Pv i σ H,⟨xs.length,by simp,aQ _,h0⟩,?_⟩;rintro i m σ H ⟨rfl,hi,p⟩;have q:=U i σ H hi p;by_cases J:i<xs.length
 ·refine .inr ⟨⟨xs,xs[i],q,by simp[J]⟩,Pv (i+1),fun z B p'=>⟨xs.length-(i+1),by omega,rfl,J,p'⟩,fun x B y=>?_⟩
  obtain⟨e,y⟩:=y;subst e;exact Y i x σ _ (y xs q) p
 ·have e:i=xs.length:=by omega
  subst e;exact .inl ⟨⟨xs,q,Zq _⟩,hd σ H p⟩
theorem Wl {lo:Int}{n:Nat}{g:TG}{L:TS}{D:Y8}{σ:St}{H:Hp}(Pv:Nat->St->Hp->Prop)(h0:Pv 0 σ H)
  (O:∀i σ H,i<n->Pv i σ H->g (.int (lo+i)) σ H fun j J=>L {D with nx:=Pv (i+1),ct:=Pv (i+1),bk:=D.nx} j J) (hd:∀ σ H,Pv n σ H->D.nx σ H) :
  ∃W:Nat->Nat->St->Hp->Prop,(∃m,W 0 m σ H)/\∀i m σ H,W i m σ H->
   ((Itr lo n).stop i H/\D.nx σ H)\/((Itr lo n).go i H/\∃N:St->Hp->Prop,(∀ q z,N q z->∃M,M<m/\W (i+1) M q z)/\∀x z,(Itr lo n).yld i H x z->g x σ z fun j J=>L {D with nx:=N,ct:=N,bk:=D.nx} j J):=by
 refine⟨fun i m σ H=>m=n-i/\i<=n/\Pv i σ H,⟨n,by simp,aQ _,h0⟩,?_⟩;rintro i m σ H ⟨rfl,Y,p⟩;by_cases B:i<n
 ·refine .inr ⟨B,Pv (i+1),fun q z U=>⟨n-(i+1),by omega,rfl,B,U⟩,fun x z y=>?_⟩
  obtain⟨e,y⟩:=y;subst e y;exact O i σ _ B p
 ·have e:i=n:=by omega
  subst e;exact .inl ⟨Zq _,hd σ H p⟩
noncomputable abbrev R2:=V->V->Hp->VK->Prop
noncomputable def Wa (X:Cx)(f:Value->Value->Sem Value)(r:R2):Prop:=
 ∀(j:List (Addr×Obj)) (s:Shared) (q:St) (H:Hp) (x y:V) (v u:Value) (Q:VK),Inv X j q H s->RelV x v->RelV y u->r x y H Q->
  wpAny (model X.prog X.w) X.A (f v u) (EP X j q Q) X.xe s
noncomputable def UnR (X:Cx)(f:Value->Sem Value)(r:V->Hp->VK->Prop):Prop:=
 ∀(j:List (Addr×Obj)) (s:Shared) (q:St) (H:Hp) (x:V) (v:Value) (Q:VK),Inv X j q H s->RelV x v->r x H Q->
  wpAny (model X.prog X.w) X.A (f v) (EP X j q Q) X.xe s
noncomputable def Z9 (X:Cx)(f:Value)(r:List V->Hp->VK->Prop):Prop:=
 ∀(j:List (Addr×Obj)) (s:Shared) (q:St) (H:Hp) (z:List V) (B:List Value) (Q:VK),Inv X j q H s->ZE z B->r z H Q->
  wpAny (model X.prog X.w) X.A (call f B) (EP X j q Q) X.xe s
noncomputable def VJ (r:R2)(q z:TE):TE:=fun j H Q=>q j H fun x B=>z j B fun y D=>r x y D Q
noncomputable def tUn (r:V->Hp->VK->Prop)(j:TE):TE:=fun q H Q=>j q H fun x z=>r x z Q
noncomputable def rI (C:Int->Int->Prop)(g:Int->Int->V):R2:=fun x y H Q=>∃i j,x=.int i/\y=.int j/\C i j/\Q (g i j) H
noncomputable def rI0 (g:Int->Int->V):R2:=fun x y H Q=>∃i j,x=.int i/\y=.int j/\Q (g i j) H
noncomputable def rU (g:Int->V):V->Hp->VK->Prop:=fun x H Q=>∃i,x=.int i/\Q (g i) H
section
variable {X:Cx}{a b c:Expr}{ta tb tc:TE}{pos:Pos}
theorem ZbV (J:PE X a ta)(hb:PE X b tb){j:List (Addr×Obj)}{s:Shared}{σ:St}{H:Hp}{R:V->V->Hp->Prop}(I:Inv X j σ H s)
  (h:ta σ H fun x H1=>tb σ H1 fun y q=>R x y q) {Q:Value->Shared->Prop}{f:Value->Value->Sem Value}
  (L:∀v u D x y q,Inv X j σ q D->RelV x v->RelV y u->R x y q->wpAny (model X.prog X.w) X.A (f v u) Q X.xe D) :
  wpAny (model X.prog X.w) X.A (eval a X.env) (fun v z=>wpAny (model X.prog X.w) X.A (eval b X.env) (fun u B=>wpAny (model X.prog X.w) X.A (f v u) Q X.xe B) X.xe z) X.xe s:=by
 refine ZN (J j s σ H _ I h) fun v M ⟨x,H1,O,U,Y⟩=>?_;refine ZN (hb j M σ H1 _ O Y) fun u D ⟨y,q,I2,r2,q2⟩=>?_;exact L v u D x y q I2 U r2 q2
theorem ZB {op:dA}{r:R2}(z:Wa X (binaryOp op) r)(B:PE X a ta)(hb:PE X b tb):PE X (.BinOp a op b pos) (VJ r ta tb):=by
 intro j s D H Q I h;exact wpAny_BinOp (ZbV B hb I h fun v u J x y L M O U q=>z j J D L x y v u Q M O U q)
theorem Uc {op:UnaryOp}{r:V->Hp->VK->Prop}(z:UnR X (unaryOp op) r)(B:PE X a ta):PE X (.UnaryOp op a pos) (tUn r ta):=by
 intro j s q H Q I h;exact UnaryOp_ (ZN (B j s q H _ I h) fun v D ⟨x,J,L,M,O⟩=>z j D q J x v Q L M O)
theorem opI {f:Value->Value->Sem Value}{C:Int->Int->Prop}{g:Int->Int->Int}
  (rule:∀(i j:Int) (t u:Tok) (s:Shared) (Q:Value->Shared->Prop) (E:Value->Shared->Prop),C i j->Q (.int (g i j) s.toks) {s with toks:=s.toks+1}->wpAny (model X.prog X.w) X.A (f (.int i t) (.int j u)) Q E s) :
  Wa X f (rI C fun i j=>.int (g i j)):=by
 intro z s M H x y v u Q I B D h;obtain⟨i,j,rfl,rfl,J,q⟩:=h;obtain⟨t,rfl⟩:=B;obtain⟨L,rfl⟩:=D;exact rule i j t L s _ _ J ⟨.int (g i j),H,I.tok _,⟨_,rfl⟩,q⟩
theorem ZcC {f:Value->Value->Sem Value}{g:Int->Int->Int}
  (rule:∀(i j:Int) (t u:Tok) (s:Shared) (Q:Value->Shared->Prop) (E:Value->Shared->Prop),Q (.int (g i j) s.toks) {s with toks:=s.toks+1}->wpAny (model X.prog X.w) X.A (f (.int i t) (.int j u)) Q E s) :
  Wa X f (rI0 fun i j=>.int (g i j)):=by
 intro z s L H x y v u Q I B D h;obtain⟨i,j,rfl,rfl,q⟩:=h;obtain⟨t,rfl⟩:=B;obtain⟨J,rfl⟩:=D;exact rule i j t J s _ _ ⟨.int (g i j),H,I.tok _,⟨_,rfl⟩,q⟩
theorem ZbA {f:Value->Value->Sem Value}{g:Int->Int->Bool}
  (rule:∀(i j:Int) (t u:Tok) (s:Shared) (Q:Value->Shared->Prop) (E:Value->Shared->Prop),Q (.bool (g i j)) s->wpAny (model X.prog X.w) X.A (f (.int i t) (.int j u)) Q E s) :
  Wa X f (rI0 fun i j=>.bl (g i j)):=by
 intro z s L H x y v u Q I B D h;obtain⟨i,j,rfl,rfl,q⟩:=h;obtain⟨t,rfl⟩:=B;obtain⟨J,rfl⟩:=D;exact rule i j t J s _ _ ⟨.bl (g i j),H,I,rfl,q⟩
noncomputable def Zds (i j:Int):Prop:=0<j/\j<1073741824
noncomputable def Zdr (i j:Int):Prop:=0<=j/\j<=1000000/\i.natAbs<2 ^ 64
noncomputable def UQ (i j:Int):Prop:=(-(2 ^ 64)<i/\i<2 ^ 64)\/(-(2 ^ 64)<j/\j<2 ^ 64)
theorem UQ.ok {i j:Int}(h:UQ i j):IntMulOk i j:=by
 rcases h with ⟨q,z⟩|⟨q,z⟩
 ·exact .of_left (intBits_le_64 q z)
 ·exact .of_right (intBits_le_64 q z)
theorem Wf:Wa X (binaryOp .Add) (rI0 fun i j=>.int (i+j)):=ZcC fun _ _ _ _ _ _ _ q=>add_int q
theorem We:Wa X (binaryOp .Sub) (rI0 fun i j=>.int (i-j)):=ZcC fun _ _ _ _ _ _ _ q=>sub_int q
theorem YA:Wa X (binaryOp .Mult) (rI UQ fun i j=>.int (i*j)):=opI fun _ _ _ _ _ _ _ z q=>mul_int q z.ok
theorem Y3:Wa X (binaryOp .FloorDiv) (rI Zds fun i j=>.int (i / j)):=opI fun i j _ _ _ _ _ z q=>by
 have B:(0:Int)<j:=z.1;have D:j<1073741824:=z.2;exact floordiv_int (by omega) (by rw[Int.fdiv_eq_ediv_of_nonneg i (by omega)];exact q) (.inl (PyProof.noPylong_small (by omega)))
theorem Ym:Wa X (binaryOp .Mod) (rI (fun _ j=>0<j) fun i j=>.int (i % j)):=opI fun i j _ _ _ _ _ z q=>by
 have B:(0:Int)<j:=z;exact mod_int' (by omega) (by rw[Int.fmod_eq_emod_of_nonneg i (by omega)];exact q)
theorem Xr:Wa X (binaryOp .Pow) (rI Zdr fun i j=>.int (i ^ j.toNat)):=opI fun _ _ _ _ _ _ _ z q=>pow_int_small z.1 z.2.1 z.2.2 q
theorem unI {f:Value->Sem Value}{g:Int->Int}
  (rule:∀(i:Int) (t:Tok) (s:Shared) (Q:Value->Shared->Prop) (E:Value->Shared->Prop),Q (.int (g i) s.toks) {s with toks:=s.toks+1}->wpAny (model X.prog X.w) X.A (f (.int i t)) Q E s) :
  UnR X f (rU fun i=>.int (g i)):=by
 intro j s B H x v Q I z h;obtain⟨i,rfl,q⟩:=h;obtain⟨t,rfl⟩:=z;exact rule i t s _ _ ⟨.int (g i),H,I.tok _,⟨_,rfl⟩,q⟩
theorem Xg:UnR X (unaryOp .USub) (rU fun i=>.int (-i)):=unI fun _ _ _ _ _ q=>neg_int q
end
noncomputable def Zci:V->V->Bool
 | .non,.non=>true | .non,.int _=>true | .int _,.non=>true | .non,.bl _=>true | .bl _,.non=>true | .non,.str _=>true | .str _,.non=>true
 | .int _,.int _=>true | .bl _,.bl _=>true | .str _,.str _=>true | .byt _,.byt _=>true
 | .int _,.str _=>true | .str _,.int _=>true | .bl _,.str _=>true | .str _,.bl _=>true
 |_,_=>false
noncomputable def rEq:R2:=fun x y H Q=>Zci x y=true/\Q (.bl (decide (x=y))) H
noncomputable def rNe:R2:=fun x y H Q=>Zci x y=true/\Q (.bl (!decide (x=y))) H
theorem X3 {i j:Int}:decide (V.int i=V.int j)=(i == j):=by
 rw[aY];simp
theorem UJ {i j:Bool}:decide (V.bl i=V.bl j)=(i == j):=by
 rw[aY];simp
theorem X2 {i j:Str}:decide (V.str i=V.str j)=(i == j):=by
 rw[aY];simp
theorem X4 {i j:Array UInt8}:decide (V.byt i=V.byt j)=(i.toList == j.toList):=by
 rw[aY];cases i;cases j;simp
section
variable {X:Cx}{a b c:Expr}{ta tb tc:TE}{pos:Pos}
theorem ZF {j:List (Addr×Obj)}{σ:St}{H:Hp}{s:Shared}{Q:VK}{k z:Bool}(I:Inv X j σ H s)(q:Q (.bl k) H)(e:k=z):EP X j σ Q (.bool z) s:=by
 subst e;exact⟨.bl k,H,I,rfl,q⟩
theorem Yg:Wa X (compareOp .Eq) rEq:=by
 intro L s M H x y v u Q I J z h;obtain⟨D,q⟩:=h;cases x with
 |non=>
  cases J;cases y with
  |non=>cases z;exact PySem.EqNone.eq_none_none (ZF I q (by simp))
  |bl j=>cases z;exact PySem.EqNone.eq_none_bool (ZF I q (by simp))
  |int j=>obtain⟨B,rfl⟩:=z;exact PySem.EqNone.eq_none_int (ZF I q (by simp))
  |str j=>obtain⟨B,rfl⟩:=z;exact PySem.EqNone.eq_none_str (ZF I q (by simp))
  |_=>exact absurd (show false=true from D) ar
 |bl i=>
  cases J;cases y with
  |non=>cases z;exact PySem.EqNone.eq_bool_none (ZF I q (by simp))
  |bl j=>cases z;exact eq_bool (ZF I q UJ)
  |str j=>obtain⟨B,rfl⟩:=z;exact PySem.EqMixed.eq_bool_str (ZF I q (by simp))
  |_=>exact absurd (show false=true from D) ar
 |int i=>
  obtain⟨t,rfl⟩:=J;cases y with
  |non=>cases z;exact PySem.EqNone.eq_int_none (ZF I q (by simp))
  |int j=>obtain⟨B,rfl⟩:=z;exact eq_int (ZF I q X3)
  |str j=>obtain⟨B,rfl⟩:=z;exact PySem.EqMixed.eq_int_str (ZF I q (by simp))
  |_=>exact absurd (show false=true from D) ar
 |str i=>
  obtain⟨t,rfl⟩:=J;cases y with
  |non=>cases z;exact PySem.EqNone.eq_str_none (ZF I q (by simp))
  |bl j=>cases z;exact PySem.EqMixed.eq_str_bool (ZF I q (by simp))
  |int j=>obtain⟨B,rfl⟩:=z;exact PySem.EqMixed.eq_str_int (ZF I q (by simp))
  |str j=>obtain⟨B,rfl⟩:=z;exact eq_str (ZF I q X2)
  |_=>exact absurd (show false=true from D) ar
 |byt i=>
  obtain⟨t,rfl⟩:=J;cases y with
  |byt j=>obtain⟨B,rfl⟩:=z;exact PySem.W.eq_bytes (ZF I q X4)
  |_=>exact absurd (show false=true from D) ar
 |_=>cases y <;> exact absurd (show false=true from D) ar
theorem YN:Wa X (compareOp .NotEq) rNe:=by
 intro L s M H x y v u Q I J z h;obtain⟨D,q⟩:=h;cases x with
 |non=>
  cases J;cases y with
  |non=>cases z;exact PySem.EqNone.ne_none_none (ZF I q (by simp))
  |bl j=>cases z;exact PySem.EqNone.ne_none_bool (ZF I q (by simp))
  |int j=>obtain⟨B,rfl⟩:=z;exact PySem.EqNone.ne_none_int (ZF I q (by simp))
  |str j=>obtain⟨B,rfl⟩:=z;exact PySem.EqNone.ne_none_str (ZF I q (by simp))
  |_=>exact absurd (show false=true from D) ar
 |bl i=>
  cases J;cases y with
  |non=>cases z;exact PySem.EqNone.ne_bool_none (ZF I q (by simp))
  |bl j=>cases z;exact ne_bool (ZF I q (congrArg not UJ))
  |str j=>obtain⟨B,rfl⟩:=z;exact PySem.EqMixed.ne_bool_str (ZF I q (by simp))
  |_=>exact absurd (show false=true from D) ar
 |int i=>
  obtain⟨t,rfl⟩:=J;cases y with
  |non=>cases z;exact PySem.EqNone.ne_int_none (ZF I q (by simp))
  |int j=>obtain⟨B,rfl⟩:=z;exact ne_int (ZF I q (congrArg not X3))
  |str j=>obtain⟨B,rfl⟩:=z;exact PySem.EqMixed.ne_int_str (ZF I q (by simp))
  |_=>exact absurd (show false=true from D) ar
 |str i=>
  obtain⟨t,rfl⟩:=J;cases y with
  |non=>cases z;exact PySem.EqNone.ne_str_none (ZF I q (by simp))
  |bl j=>cases z;exact PySem.EqMixed.ne_str_bool (ZF I q (by simp))
  |int j=>obtain⟨B,rfl⟩:=z;exact PySem.EqMixed.ne_str_int (ZF I q (by simp))
  |str j=>obtain⟨B,rfl⟩:=z;exact ne_str (ZF I q (congrArg not X2))
  |_=>exact absurd (show false=true from D) ar
 |byt i=>
  obtain⟨t,rfl⟩:=J;cases y with
  |byt j=>obtain⟨B,rfl⟩:=z;exact PySem.W.ne_bytes (ZF I q (congrArg not X4))
  |_=>exact absurd (show false=true from D) ar
 |_=>cases y <;> exact absurd (show false=true from D) ar
theorem Za5:Wa X (compareOp .Lt) (rI0 fun i j=>.bl (decide (i<j))):=ZbA fun _ _ _ _ _ _ _ q=>lt_int q
theorem Wr:Wa X (compareOp .Gt) (rI0 fun i j=>.bl (decide (j<i))):=ZbA fun _ _ _ _ _ _ _ q=>gt_int q
theorem Za6:Wa X (compareOp .GtE) (rI0 fun i j=>.bl (decide (j<=i))):=ZbA fun _ _ _ _ _ _ _ q=>ge_int q
theorem Vm:Wa X (compareOp .In) (fun x y H Q=>∃i j,x=.str i/\y=.str j/\Q (.bl (!(dc j i 0 j.length 1).isEmpty)) H):=by
 intro z s J H x y v u Q I B D h;obtain⟨i,j,rfl,rfl,q⟩:=h;obtain⟨t,rfl⟩:=B;obtain⟨L,rfl⟩:=D;exact in_str (ZF I q rfl)
theorem Zby:Wa X (compareOp .Is) (fun x y H Q=>y=.non/\Q (.bl (decide (x=.non))) H):=by
 intro j s D H x y v u Q I z B h;obtain⟨rfl,q⟩:=h;cases B;refine is_none_gen (ZF I q ?_);cases x <;> first
  |(cases z;rfl)
  |(obtain⟨t,rfl⟩:=z;rfl)
theorem ZA (b:Expr){op:CmpOp}(h:op≠.In:=by decide)(j:op≠.NotIn:=by decide):behindInMarks op b=false:=by
 have q:(op == CmpOp.In)=false:=by cases op <;> first|rfl|exact absurd rfl h
 have z:(op == CmpOp.NotIn)=false:=by cases op <;> first|rfl|exact absurd rfl j
 cases b <;> simp[behindInMarks,q,z]
theorem YG {op:CmpOp}{r:R2}(z:Wa X (compareOp op) r)(B:PE X a ta)(hb:PE X b tb)(D:behindInMarks op b=false):PE X (.Compare a [op] [b] pos) (VJ r ta tb):=by
 intro j s J H Q I h;exact wpAny_Compare1 (ZbV B hb I h fun v u L x y M O U Y q=>z j L J M x y v u Q O U Y q) D
noncomputable def JK (t:TE):TT:=fun j H Q=>t j H fun x q=>∃k,x=.bl k/\Q k q
theorem Zz {op:CmpOp}{r:R2}(B:Wa X (compareOp op) r)(D:PE X a ta)(hb:PE X b tb)(J:behindInMarks op b=false):PT X (.Compare a [op] [b] pos) (JK (VJ r ta tb)):=by
 intro j s q H Q I h;refine wpAny_isTrue_Compare1 (ZN (D j s q H _ I h) fun v L ⟨x,M,O,U,Y⟩=>ZN (hb j L q M _ O Y) fun u s2 ⟨y,H2,I2,r2,q2⟩=>
  ZN (B j s2 q H2 x y v u _ I2 U r2 q2) fun c s3 ⟨z,H3,I3,r3,k,e,q3⟩=>?_) J
 subst e;cases r3;exact cp ⟨H3,I3,q3⟩
theorem WJ:(sizeLine:Nat)<2 ^ 63:=by rw[dN];decide
theorem ZM:Wa X (binaryOp .Add) (fun x y H Q=>∃i j,x=.str i/\y=.str j/\i.length+j.length<=sizeLine/\Q (.str (i++j)) H):=by
 intro z s M H x y v u Q I B D h;obtain⟨i,j,rfl,rfl,J,q⟩:=h;obtain⟨t,rfl⟩:=B;obtain⟨L,rfl⟩:=D;exact add_str (fun L O=>⟨.str (i++j),H,I.tok _,⟨_,rfl⟩,q⟩) J
theorem vals1 {x:V}{us:List Value}(r:ZE [x] us):∃u,us=[u]/\RelV x u:=by
 cases r with
 |cons j q=>cases q;exact⟨_,rfl,j⟩
theorem vals2 {x y:V}{us:List Value}(r:ZE [x,y] us):∃u j,us=[u,j]/\RelV x u/\RelV y j:=by
 cases r with
 |cons q z=>
  cases z with
  |cons B D=>cases D;exact⟨_,_,rfl,q,B⟩
theorem J7:Z9 X (.builtin "abs") (fun xs H Q=>∃i,xs=[.int i]/\Q (.int (if i<0 then -i else i)) H):=by
 intro j s z H xs B Q I r h;obtain⟨i,rfl,q⟩:=h;obtain⟨u,rfl,t,rfl⟩:=vals1 r;exact call_abs_int fun u D=>⟨.int (if i<0 then -i else i),H,I.tok _,⟨_,rfl⟩,q⟩
theorem Jb (D:X.calm=true):Z9 X (.builtin "min") (fun xs H Q=>∃i j,xs=[.int i,.int j]/\Q (.int (if j<i then j else i)) H):=by
 intro B s J H xs L Q I r h;obtain⟨i,j,rfl,q⟩:=h;obtain⟨u,M,rfl,⟨t,rfl⟩,⟨O,rfl⟩⟩:=vals2 r;refine min_two_ints (I.ok.hd D) fun U Y k=>⟨_,H,I.kept k,?_,q⟩;by_cases z:j<i
 ·rw[if_pos z,if_pos z];exact⟨_,rfl⟩
 ·rw[if_neg z,if_neg z];exact⟨_,rfl⟩
theorem VI:Z9 X (.type "int") (fun xs H Q=>(∃i,xs=[.int i]/\Q (.int i) H)\/∃k,xs=[.bl k]/\Q (.int (if k then 1 else 0)) H):=by
 intro j s B H xs D Q I r h;rcases h with ⟨i,rfl,q⟩|⟨k,rfl,q⟩
 ·obtain⟨u,rfl,t,rfl⟩:=vals1 r
  exact call_int_int ⟨.int i,H,I,⟨_,rfl⟩,q⟩
 ·obtain⟨u,rfl,z⟩:=vals1 r
  cases z;exact call_int_bool ⟨.int (if k then 1 else 0),H,I.tok _,⟨_,rfl⟩,q⟩
theorem ZW:Z9 X (.type "str") (fun xs H Q=>∃i,xs=[.int i]/\i.natAbs.log2<1920/\Q (.str (toString i)) H):=by
 intro j s B H xs D Q I r h;obtain⟨i,rfl,z,q⟩:=h;obtain⟨u,rfl,t,rfl⟩:=vals1 r;exact PySem.P.str_of_int z ⟨.str _,H,I.tok _,⟨_,rfl⟩,q⟩
end
section
variable {prog:Program}{w:World}{A:Around}{E:Value->Shared->Prop}{s:Shared}{K:aa}{x dx C f:Addr}{mA:Str->Option Value}{name:Str}{v:Value}
end
theorem WV.some_of {v:V}{o:Option Value}(r:WV (some v) o):∃u,o=some u/\RelV v u:=by
 cases o with
 |none=>exact (show False from r).elim
 |some u=>exact⟨u,rfl,r⟩
section
variable {P:Program}{w:World}{H H':Hp}{h h':Heap}{a C dx:Addr}{fs fs':List (Str×V)}
end
section
variable {X:Cx}{pins:List (Addr×Obj)}{σ:St}{H:Hp}{s:Shared}{a C dx:Addr}{fs:List (Str×V)}{f:Str}{v:V}{A:Around}{E:Value->Shared->Prop}
end
section
variable {X:Cx}{o e value:Expr}{f:Str}{pos pos' tpos:Pos}{ta tv:TE}
end
section
variable {X:Cx}{pins:List (Addr×Obj)}{σ:St}{H:Hp}{s:Shared}{A:Around}{E:Value->Shared->Prop}{Q:Value->Shared->Prop}{c:Value}{b:Bool}
end
structure Yp (k:Nat)(A:Around):Prop where
 hd:A.handled=none
 dp:A.depth+3*k+5<recursionLimit
 un:A.units+16*k+200<cLine
 gd:A.guards=some []
theorem Yp.mono {j k:Nat}{A:Around}(r:Yp k A)(h:j<=k):Yp j A:=⟨r.hd,by have:=r.dp;omega,by have:=r.un;omega,r.gd⟩
theorem Yp.deeper {k:Nat}{A:Around}(r:Yp (k+1) A)(env:Env):Yp k (A.deeper env):=
 ⟨r.hd,by have:=r.dp;show A.depth+1+3*k+5<_;omega,by have:=r.un;show A.units+3+16*k+200<_;omega,r.gd⟩
theorem Yp.depth {k:Nat}{A:Around}(r:Yp k A):A.depth<recursionLimit:=by have:=r.dp;omega
theorem Yp.units {k:Nat}{A:Around}(r:Yp k A):A.units+64<cLine:=by have:=r.un;omega
noncomputable def WB:TA:=fun _ H Q=>Q [] H
noncomputable def Yk (q:TE)(z:TA):TA:=fun j H Q=>q j H fun x B=>z j B fun D J=>Q (x::D) J
section
variable {X:Cx}{e:Expr}{es:List Expr}{te:TE}{t:TA}{pos:Pos}
theorem Zu:PA X [] WB:=fun _ _ _ _ H Q I h=>eO ⟨[],H,I,.nil,h⟩
theorem Zal (z:PE X e te)(B:PA X es t)(D:starEach (e::es) X.env=(false,eval e X.env)::starEach es X.env:=by rfl):PA X (e::es) (Yk te t):=by
 intro pos j s q H Q I h;rw[D];show wpAny _ _ (spliced ((false,eval e X.env)::backTo pos (starEach es X.env))) _ _ s;refine cP (ZN (z j s q H _ I h) fun u J ⟨x,L,M,O,U⟩=>?_);exact ZN (B pos j J q L _ M U) fun us s2 ⟨Y,H2,I2,r2,q2⟩=>⟨x::Y,H2,I2,.cons O r2,q2⟩
noncomputable def Zbg (t:TA):TE:=fun z H Q=>t z H fun j q=>j.length<=sizeLine/\∀p,q p=none->Q (.ref p) (upd q p (.tup j))
noncomputable def Zc7 (t:TA):TE:=fun z H Q=>t z H fun j q=>j.length<=sizeLine/\∀p,q p=none->Q (.ref p) (upd q p (.lst j))
theorem Wd {L}(h:PA X es t):PE X (.Tuple es L pos) (Zbg t):=by
 intro j s M H Q I O;refine wpAny_Tuple_spliced (ZN (h pos j s M H _ I O) fun us B ⟨U,D,J,r,z,q⟩=>⟨by rw[<-r.length];exact z,?_⟩);have Y:D B.heap.objs.size=none:=J.hok.fresh (Zq _);refine⟨.ref B.heap.objs.size,upd D B.heap.objs.size (.tup U),J.laid (t':=B.toks) (fun b u e=>Zn _ e) (Zq _) ?_,rfl,q _ Y⟩;exact⟨z,us,r,⟨_,Zo _ rfl,rfl,_,rfl⟩⟩
theorem Yz (h:PA X es t):PE X (.List es pos) (Zc7 t):=by
 intro j s L H Q I M;refine wpAny_List_spliced (ZN (h pos j s L H _ I M) fun us B ⟨O,D,J,r,z,q⟩=>⟨by rw[<-r.length];exact z,?_⟩);have U:D B.heap.objs.size=none:=J.hok.fresh (Zq _);refine⟨.ref B.heap.objs.size,upd D B.heap.objs.size (.lst O),J.laid (t':=B.toks) (fun b u e=>Zn _ e) (Zq _) ?_,rfl,q _ U⟩;exact⟨z,us,0,r,Zo _ rfl⟩
end
noncomputable abbrev Sp:=List V->Hp->VK->XK->Prop
noncomputable abbrev Xe:=List Env->Hp->Shared->XK->Value->Shared->Prop
structure ZaS (P:Program)(w:World)(K:aa)(mg:Str->Option Value)(base:Heap)(A:Around)(outer:List Env)(s:Shared)(H:Hp):Prop where
 frames:A.frames=some outer
 mod:Mod K mg base
 bs:∀b o,base.get? b=some o->s.heap.get? b=some o/\H b=none
 bsz:base.objs.size<=s.heap.objs.size
 funs:s.heap.FunFrames base outer
 frf:∀b∈VL outer,H b=none
 hok:Y7 P w H s.heap
 bare:cJ s.gens
noncomputable def CE (outer:List Env)(P:Program)(w:World)(H:Hp)(s:Shared)(Q:VK)(u:Value)(s':Shared):Prop:=
 ∃v j,s'.os=s.os/\cJ s'.gens/\Un (VL outer) [] H j s.heap s'.heap/\Y7 P w j s'.heap/\RelV v u/\Q v j
noncomputable def CR (CX:Xe)(outer:List Env)(P:Program)(w:World)(H:Hp)(s:Shared)(Q:VK)(E:XK)(r:Result)(s':Shared):Prop:=
 match r with
 | .ok (.ret u)=>CE outer P w H s Q u s'
 | .ok _=>False
 | .error e=>CX outer H s E e s'
structure Yd (P:Program)(w:World)(K:aa)(mg:Str->Option Value)(base:Heap)(CX:Xe)(k:Nat)(f:Addr)(fd:FuncData)(ps:List Str)(sp:Sp):Prop where
 len:∀vs H Q E,sp vs H Q E->vs.length=ps.length
 run:∀(A:Around) (outer:List Env) (s:Shared) (H:Hp) (args:Args) (us:List Value) (vs:List V) (Q:VK) (E:XK),Yp k A->ZaS P w K mg base A outer s H->cW s fd args (ps.zip us)->ZE vs us->sp vs H Q E->
  codeAny (model P w) A (.call (.ref f) args) (CR CX outer P w H s Q E) s
section
variable {X:Cx}{pins:List (Addr×Obj)}{σ:St}{H:Hp}{s s':Shared}
theorem Inv.env0 (I:Inv X pins σ H s):ZaS X.prog X.w X.K X.mg X.base X.A X.stack s H:=
 ⟨I.ok.frames,I.ok.mod,I.bs,aF I.ok.bsz I.sz,I.stack,I.stkFree,I.hok,I.bare⟩
theorem Inv.after {Q:VK}{u:Value}(I:Inv X pins σ H s)(h:CE X.stack X.prog X.w H s Q u s'):EP X pins σ Q u s':=by
 obtain⟨v,B,os,bare,un,hok,r,q⟩:=h;obtain⟨D,g,d,t,j⟩:=s';obtain rfl:j=s.os:=os;exact⟨v,B,I.call (h':=D) (g':=g) (d':=d) (t':=t) (ch:=[]) un hok bare (fun b z=>absurd z (by simp)),r,q⟩
end
noncomputable def W0 (sp:Sp)(j:List V)(E:XK)(t:TA):TE:=fun q H Q=>t q H fun z B=>sp (z++j) B Q E
noncomputable def Binds (K:aa)(B:FuncData)(q:List Str)(z:List Value):Prop:=
 ∀(s:Shared) (j:List Value),K.In s.heap->(j++z).length=q.length->cW s B ⟨j,[]⟩ (q.zip (j++z))
theorem Binds.all {K:aa}{fd:FuncData}{j:List Str}(h:∀us:List Value,us.length=j.length->bindArgs fd ⟨us,[]⟩=pure (j.zip us)):Binds K fd j []:=fun s us _ q=>by
 rw[aG] at q ⊢;exact .of_eq (h us q)
noncomputable def JH (CX:Xe)(X:Cx)(E:XK):Prop:=∀(j:List (Addr×Obj)) (z:St) (H:Hp) (s:Shared) (e:Value) (q:Shared),Inv X j z H s->CX X.stack H s E e q->X.xe e q
section
variable {X:Cx}{CX:Xe}{k:Nat}{f C:Addr}{fd:FuncData}{ps:List Str}{sp:Sp}{dvs:List V}{ds:List Value}{E:XK}{x m:Str}{p pos apos:Pos}{e o:Expr}{es:List Expr}{ta:TE}{t:TA}
theorem Zbj {j:List (Addr×Obj)}{σ:St}{H:Hp}{s:Shared}{Q:VK}{us:List Value}{z:List V}(F:Yd X.prog X.w X.K X.mg X.base CX k f fd ps sp)(D:Yp k X.A)(hb:Binds X.K fd ps ds)(J:ZE dvs ds)(L:JH CX X E)
  (I:Inv X j σ H s) (r:ZE z us) (h:sp (z++dvs) H Q E):wpAny (model X.prog X.w) X.A (call (.ref f) us) (EP X j σ Q) X.xe s:=by
 have B:ZE (z++dvs) (us++ds):=r.append J;have M:(us++ds).length=ps.length:=by rw[<-B.length];exact F.len _ _ _ _ h
 refine wpAny_call (eW (F.run X.A X.stack s H ⟨us,[]⟩ (us++ds) (z++dvs) Q E D I.env0 (hb s us I.kIn M) B h) fun r O q=>?_);cases r with
 |error e=>exact L j σ H s e O I q
 |ok U=>
  cases U with
  |ret u=>exact I.after q
  |next=>exact bm q
  |brk=>exact bm q
  |cont=>exact bm q
theorem Zaj (F:Yd X.prog X.w X.K X.mg X.base CX k f fd ps sp)(L:Yp k X.A)(M:Gl X x)(O:X.mg x=some (.ref f))(U:bi X.K (.ref f)=true)(hb:Binds X.K fd ps ds)(Y:ZE dvs ds)(hx:JH CX X E)
  (ha:PA X (e::es) t) (z:(x == ("__debug__":Str))=false:=by decide) (he:starEach (e::es) X.env=(false,eval e X.env)::starEach es X.env:=by rfl) (B:(backTo pos (starEach es X.env)).any (·.1)=false:=by rfl) :
  PE X (.Call (.Name x p) (e::es) [] pos) (W0 sp dvs E t):=by
 intro j s σ H Q I h;refine dg (Zav I M O ?_ z);refine PySem.W.callWith_K (h₀:=X.base) I.ok.mod.kin U (ZN (ha pos j s σ H _ I h) fun us s1 ⟨vs,H1,J,r,q⟩=>⟨J.kIn,?_⟩) he B;exact Zbj F L hb Y hx J r q
end
section
variable {X:Cx}{CX:Xe}{k:Nat}{f C:Addr}{fd:FuncData}{ps ks:List Str}{sp:Sp}{E:XK}{x m:Str}{p pos apos kpos:Pos}{e o:Expr}{es:List Expr}{kws:List Keyword}{te ta:TE}{t tk:TA}{nm:Option Str}
variable {g:List Value->List Value->List Value}{gV:List V->List V->List V}
end
structure Wx (N P:List Str)(sc:a6):Prop where
 kind:sc.kind=.function
 co:sc.isCoroutine=false
 gen:sc.isGenerator=false
 nd:N.Nodup
 pre:N.take P.length=P
 par:∀x∈P,sc.names.lookup x=some .local\/sc.names.lookup x=some .cell
 nofree:∀y∈sc.names,y.2≠.free
theorem FS {N P:List Str}{j:a6}(a:j.kind=.function:=by rfl)(b:j.isCoroutine=false:=by rfl)(c:j.isGenerator=false:=by rfl)(d:N.Nodup:=by decide +kernel)(e:N.take P.length=P:=by rfl)(f:∀x∈P,j.names.lookup x=some .local\/j.names.lookup x=some .cell:=by decide +kernel)(g:∀y∈j.names,y.2≠.free:=by decide +kernel):Wx N P j:=⟨a,b,c,d,e,f,g⟩
theorem bd1 {α:Type}{f g:List Value->α}(h:∀a,f [a]=g [a])(j:List Value)(l:j.length=1):f j=g j:=by
  cases j with
  |nil=>cases l
  |cons a r=>cases r with
    |nil=>exact h a
    |cons b r=>simp at l
theorem bd2 {α:Type}{f g:List Value->α}(h:∀a b,f [a,b]=g [a,b])(j:List Value)(l:j.length=2):f j=g j:=by
  cases j with
  |nil=>cases l
  |cons a r=>exact bd1 (f:=fun r=>f (a::r)) (g:=fun r=>g (a::r)) (h a) r (cN l)
theorem bd3 {α:Type}{f g:List Value->α}(h:∀a b c,f [a,b,c]=g [a,b,c])(j:List Value)(l:j.length=3):f j=g j:=by
  cases j with
  |nil=>cases l
  |cons a r=>exact bd2 (f:=fun r=>f (a::r)) (g:=fun r=>g (a::r)) (h a) r (cN l)
theorem bd4 {α:Type}{f g:List Value->α}(h:∀a b c d,f [a,b,c,d]=g [a,b,c,d])(j:List Value)(l:j.length=4):f j=g j:=by
  cases j with
  |nil=>cases l
  |cons a r=>exact bd3 (f:=fun r=>f (a::r)) (g:=fun r=>g (a::r)) (h a) r (cN l)
theorem bd5 {α:Type}{f g:List Value->α}(h:∀a b c d e,f [a,b,c,d,e]=g [a,b,c,d,e])(j:List Value)(l:j.length=5):f j=g j:=by
  cases j with
  |nil=>cases l
  |cons a r=>exact bd4 (f:=fun r=>f (a::r)) (g:=fun r=>g (a::r)) (h a) r (cN l)
theorem Jd {kindOf:Str->Option bq}{x:Str}:∀{binds:List (Str×Value)}{m:Str->Option Value},(∀v,(x,v)∉binds)->bindL kindOf binds m x=m x
 | [],_,_=>rfl
 |(n,v)::r,m,h=>by
  unfold bindL;rw[Jd fun w j=>h w (ag _ j)];split
  ·have:x≠n:=by rintro rfl;exact h v ah
   simp[this]
  ·rfl
theorem Jf {kindOf:Str->Option bq}{x:Str}:∀{binds:List (Str×Value)}{m:Str->Option Value},(∀v,(x,v)∉binds)->bindC kindOf binds m x=m x
 | [],_,_=>rfl
 |(n,v)::r,m,h=>by
  unfold bindC;rw[Jf fun w j=>h w (ag _ j)];split
  ·rfl
  ·have:x≠n:=by rintro rfl;exact h v ah
   simp[this]
theorem Je {kindOf:Str->Option bq}{x:Str}{v:Value}:∀{P:List Str}{j:List Value}{i:Nat}{m:Str->Option Value},P.Nodup->P[i]?=some x->j[i]?=some v->kindOf x=some .local->
  bindL kindOf (P.zip j) m x=some v
 | [],_,_,_,_,h,_,_=>by simp at h
 |_::_,[],_,_,_,_,h,_=>by simp at h
 |p::P,w::j,0,m,nd,q,z,B=>by
  simp at q z;subst q;subst z;show bindL kindOf ((p,w)::P.zip j) m p=_;unfold bindL;rw[Jd fun v D=>(bt.mp nd).1 (dq D).1,if_pos B];simp
 |p::P,w::j,i+1,m,nd,q,z,B=>by
  show bindL kindOf ((p,w)::P.zip j) m x=_;unfold bindL;exact Je (i:=i) (bt.mp nd).2 (by simpa using q) (by simpa using z) B
theorem Jg {kindOf:Str->Option bq}{x:Str}{v:Value}:∀{P:List Str}{j:List Value}{i:Nat}{m:Str->Option Value},P.Nodup->P[i]?=some x->j[i]?=some v->kindOf x≠some .local->
  bindC kindOf (P.zip j) m x=some v
 | [],_,_,_,_,h,_,_=>by simp at h
 |_::_,[],_,_,_,_,h,_=>by simp at h
 |p::P,w::j,0,m,nd,q,z,B=>by
  simp at q z;subst q;subst z;show bindC kindOf ((p,w)::P.zip j) m p=_;unfold bindC;rw[Jf fun v D=>(bt.mp nd).1 (dq D).1,if_neg B];simp
 |p::P,w::j,i+1,m,nd,q,z,B=>by
  show bindC kindOf ((p,w)::P.zip j) m x=_;unfold bindC;exact Jg (i:=i) (bt.mp nd).2 (by simpa using q) (by simpa using z) B
noncomputable def start (N:List Str)(j:List V):St:=j.map some++ae (N.length-j.length) none
noncomputable def VD (CX:Xe)(P:Program)(w:World)(K:aa)(mg:Str->Option Value)(base:Heap)(N:List Str)(j:Str)(scope:a6)(f:Addr)(z:Value)(A:Around)(outer:List Env)(s:Shared)(H:Hp)(E:XK):Cx where
 prog:=P
 w:=w
 K:=K
 mg:=mg
 base:=base
 A:=A.deeper (envOfC j scope s.heap.objs.size f z)
 N:=N
 s₀:=s
 H₀:=H
 env:=envOfC j scope s.heap.objs.size f z
 outer:=outer
 stack:=envOfC j scope s.heap.objs.size f z::outer
 ex:=[]
 calm:=true
 fn:=fun _=>true
 pn:=[]
 xe:=fun e B=>wpAny (model P w) (A.deeper (envOfC j scope s.heap.objs.size f z)) (leaving (envOfC j scope s.heap.objs.size f z) e) (fun _ q=>CX outer H s E e q) (fun D q=>CX outer H s E D q) B
theorem J5 {j:a6}{n:Nat}{x:Str}(h:j.names.lookup x=some .cell):∃c,(cellsFrom n j.names []).lookup x=some c:=by
 have q:=b8 j.names n [] (.inl h);exact dH.mp q
theorem Vv {CX:Xe}{P:Program}{w:World}{K:aa}{mg:Str->Option Value}{base:Heap}{N D:List Str}{qual:Str}{scope:a6}{f:Addr}{cd:Value}{A:Around}{outer:List Env}{s s1:Shared}{H:Hp}{E:XK}{us:List Value}{J:List V}
  (S:Wx N D scope) (hd:A.handled=none) (B:ZaS P w K mg base A outer s H) (hl:J.length=D.length) (r:ZE J us)
  (x:InCallC s s.heap.objs.size (bindL (envOfC qual scope s.heap.objs.size f cd).kindOf (D.zip us) fun _=>none) (cellsFrom (s.heap.objs.size+1) scope.names []) (bindC (envOfC qual scope s.heap.objs.size f cd).kindOf (D.zip us) fun _=>none) s1) :
  Inv (VD CX P w K mg base N qual scope f cd A outer s H E) [] (start N J) H s1:=by
 have f6:D.length<=N.length:=by have:=congrArg List.length S.pre;rw[cg] at this;omega
 obtain⟨Y,tk,rfl,hk⟩:=x.done;have L:∀b:Addr,b∉(VD CX P w K mg base N qual scope f cd A outer s H E).ex:=fun b z=>absurd (show b∈([]:List Addr) from z) (by simp);refine⟨⟨B.mod,S.kind,rfl,rfl,Zq _,fun y z c Y j=>?_,fun y M=>?_,fun y c _ h=>?_,fun _=>hd,Around.frames_deeper B.frames,.inr ⟨rfl,rfl⟩,fun b z=>absurd z (L b),B.bs,B.bsz,fun b _ _=>L b,fun b z=>absurd z (L b),B.funs,B.frf⟩,
  rfl,B.bare,Un.kept hk,⟨_,x.toInCall.ns,fun i y v Y j h3=>?_⟩,fun y c h=>⟨_,x.cell y c h⟩,B.hok.fresh (Zq _),fun y c h=>?_,fun p O=>absurd (show p∈([]:List (Addr×Obj)) from O) (by simp),B.hok.kept hk,?_⟩
 ·exact name_of_addr x.apart (aB Y) (aB j)
 ·have M:scope.names.lookup y=some .cell\/scope.names.lookup y=some .free:=M
  rcases M with M|M
  ·exact J5 M
  ·exact absurd rfl (S.nofree _ (aB M))
 ·exact et (x.above y c (aB h))
 ·have hi:i<J.length:=by
   unfold start at j;by_cases hi:i<J.length
   ·exact hi
   ·rw[aT (by simpa using hi)] at j
    rw[dW] at j;split at j <;> cases j
  have ha:J[i]?=some v:=by
   unfold start at j;rw[bV (by simpa using hi),Zc] at j;cases e:J[i]? with
   |none=>rw[e] at j;cases j
   |some a=>rw[e] at j;cases j;rfl
  obtain⟨u,hu,rv⟩:=r.get ha;have O:D[i]?=some y:=by
   rw[<-S.pre,List.getElem?_take_of_lt (by omega)];exact Y
  have U:D.Nodup:=by rw[<-S.pre];exact S.nd.sublist (List.take_sublist _ _)
  refine⟨u,rv,?_⟩;rcases S.par y (aZ O) with k|k
  ·exact .inl ⟨k,Je U O hu k⟩
  ·obtain⟨c,e⟩:=J5 (n:=s.heap.objs.size+1) k
   refine .inr ⟨.inl k,c,e,?_⟩;have q:=x.cell y c e;rw[Jg U O hu (by show scope.names.lookup y≠_;rw[k];decide)] at q;exact q
 ·exact B.hok.fresh (et (x.above y c (aB h)))
 ·unfold start
  show _=N.length;rw[Zd,Za,Ze];omega
theorem ZcK {CX:Xe}{P:Program}{w:World}{K:aa}{mg:Str->Option Value}{base:Heap}{k:Nat}{f:Addr}{name j:Str}{params:Arguments}{body:List Stmt}{scope:a6}{dV kV Y pm z ct oc:Value}{an od:Option Addr}
  {f8:Array (Option Value)}{N ps:List Str}{sp:Sp} (lk:K.lookup f=some ⟨oc,od,.func (aL name j params body scope dV kV Y pm an z ct),f8⟩) (f9:bv K z j=true) (S:Wx N ps scope)
  (len:∀B H Q E,sp B H Q E->B.length=ps.length)
  (M:∀(A:Around) (outer:List Env) (s:Shared) (H:Hp) (B:List V) (Q:VK) (E:XK),Yp k (A.deeper (envOfC j scope s.heap.objs.size f z))->sp B H Q E->
   ∃t,Xa (VD CX P w K mg base N j scope f z A outer s H E) body t/\t {nx:=fun _ L=>Q .non L,rt:=Q} (start N B) H) :
  Yd P w K mg base CX (k+1) f (aL name j params body scope dV kV Y pm an z ct) ps sp:=by
 refine⟨len,fun A outer s H args us B Q E hr e0 hb r f6=>?_⟩;have hl:=len _ _ _ _ f6;have KX:K.In s.heap:=e0.mod.kin.keeps fun b o e=>(e0.bs b o e).1;have g8:s.heap.NoLimit:=e0.mod.nolimit.keeps fun b o e=>(e0.bs b o e).1;have O:∀y∈ps.zip us,scope.names.lookup y.1=some .local\/(scope.names.lookup y.1=some .cell/\((cellsFrom (s.heap.objs.size+1) scope.names []).lookup y.1).isSome=true):=fun ⟨n,v⟩ hy=>by
  rcases S.par n (dq hy).1 with q|q
  ·exact .inl q
  ·exact .inr ⟨q,b8 _ _ _ (.inl q)⟩
 refine codeAny_call_function hr.depth (KX _ _ lk) rfl S.co S.gen rfl (PySem.W.codeRec_of KX f9) (hb _ _ _ _ ?_);refine wpAny_newFunctionEnv_cells S.kind O fun env he s1 x=>?_;subst he;refine⟨g8.keeps x.toInCall.keep,codeAny_func ?_⟩;obtain⟨t,ht,hq⟩:=M A outer s H B Q E (hr.deeper _) f6;have I:Inv (VD CX P w K mg base N j scope f z A outer s H E) [] (start N B) H s1:=Vv S hr.hd e0 hl r x;refine aW (ht [] s1 (start N B) H _ I hq) (fun fl s' U=>?_) fun e s' U=>U;have f7:∀{D:St}{L:Hp}{v:V}{u:Value},Inv (VD CX P w K mg base N j scope f z A outer s H E) [] D L s'->RelV v u->Q v L->CE outer P w H s Q u s':=
  fun {D L v u} J rv q=>⟨v,L,J.os,J.bare,J.base,J.hok,rv,q⟩
 cases fl with
 |ret u=>
  obtain⟨v,D,L,J,rv,q⟩:=U;exact f7 J rv q
 |next=>
  obtain⟨D,L,J,q⟩:=U;exact f7 (v:=V.non) (u:=bF) J rfl q
 |brk=>
  obtain⟨_,_,_,q⟩:=U;exact bm q
 |cont=>
  obtain⟨_,_,_,q⟩:=U;exact bm q
section
variable {X:Cx}{x:Str}{p pos:Pos}{e:Expr}{es:List Expr}{t:TA}{id T:String}{r:List V->Hp->VK->Prop}
noncomputable def US (r:List V->Hp->VK->Prop)(t:TA):TE:=fun j H Q=>t j H fun q z=>r q z Q
theorem Uf (D:Z9 X (.builtin id) r)(J:Gl X x)(L:X.mg x=none)(M:bootBuiltins x=some (.builtin id))(O:PA X (e::es) t)(U:x ≠ "__name__":=by decide)(q:(x == ("__debug__":Str))=false:=by decide)
  (Y:starEach (e::es) X.env=(false,eval e X.env)::starEach es X.env:=by rfl) (z:(backTo pos (starEach es X.env)).any (·.1)=false:=by rfl):PE X (.Call (.Name x p) (e::es) [] pos) (US r t):=by
 intro j s B H Q I h;refine dg (WK I J L M ?_ U q);exact PyProof.Rows.callWith_builtin1 (ZN (O pos j s B H _ I h) fun us s1 ⟨vs,H1,I1,r1,q1⟩=>D j s1 B H1 vs us Q I1 r1 q1) Y z
theorem Vj (D:Z9 X (.type T) r)(J:Gl X x)(L:X.mg x=none)(M:bootBuiltins x=some (.type T))(O:PA X (e::es) t)(U:x ≠ "__name__":=by decide)(q:(x == ("__debug__":Str))=false:=by decide)
  (Y:starEach (e::es) X.env=(false,eval e X.env)::starEach es X.env:=by rfl) (z:(backTo pos (starEach es X.env)).any (·.1)=false:=by rfl):PE X (.Call (.Name x p) (e::es) [] pos) (US r t):=by
 intro j s B H Q I h;refine dg (WK I J L M ?_ U q);exact a9 (ZN (O pos j s B H _ I h) fun us s1 ⟨vs,H1,I1,r1,q1⟩=>D j s1 B H1 vs us Q I1 r1 q1) Y z
end
end L2
namespace HT
open PySem PyProof.Rows
section
open PySem.SeqAt
open PySem.AutoSeq1 (wpAny_loadPart')
open PySem.MeetsSeq PySem.MeetsSeq2 PySem.MeetsSeq3
end
section
variable {prog:Program}{w:World}{A:Around}{E:Value->Shared->Prop}{s:Shared}
theorem ZaK {t b:Addr}{z j:List Value}{Q:Value->Shared->Prop}(ht:IsTup s.heap t z.toArray)(hb:IsTup s.heap b j.toArray)(U:z≠[])
  (h1:j=[]->Q (.ref t) s) (h2:j≠[]->Q (.ref s.heap.objs.size) {s with heap:=s.heap.push {cls:=.type "tuple",data:=.seq (z++j).toArray}})
  (hsz:z.length+j.length<=sizeLine):wpAny (model prog w) A (binaryOp .Add (.ref t) (.ref b)) Q E s:=by
 obtain⟨⟨cls,Y,data,sl⟩,M,hc,n,hd⟩:=id ht;obtain⟨⟨f6,B,data2,D⟩,q,J,n2,L⟩:=id hb;simp only at hc hd J L;subst hc hd J L;have e:z.toArray++j.toArray=(z++j).toArray:=by simp
 by_cases O:j=[]
 ·exact eV ⟨_,M,rfl⟩ ⟨_,q,rfl⟩ dJ eD cf bY (bT _ _)
   (tuple_addW1 t b z.toArray j.toArray n n2 Y B sl D (by simpa using U) (by simp[O])) ⟨M,q,h1 O⟩
 ·refine eV ⟨_,M,rfl⟩ ⟨_,q,rfl⟩ dJ eD cf bY (bT _ _)
   (tuple_addW2 t b z.toArray j.toArray n n2 Y B sl D (by simpa using U) (by simpa using O) (by rw[Zh,Zh];exact hsz)) ⟨M,q,?_⟩
  rw[e];exact h2 O
noncomputable def Jo (n d:Nat):Option Int->Nat
 |none=>d
 |some v=>if v<0 then (v+(n:Int)).toNat else min v.toNat n
theorem U3 (n d k:Nat):Jo n d (some (k:Int))=min k n:=by
 show (if (k:Int)<0 then ((k:Int)+(n:Int)).toNat else min (k:Int).toNat n)=min k n
 rw[if_neg (by omega),Zj]
end
end HT
namespace L2
open PySem PySem.Spec PyProof.Rows
noncomputable abbrev TO:=St->Hp->(Option Int->Hp->Prop)->Prop
noncomputable def PO (X:Cx)(e:Option Expr)(t:TO):Prop:=
 ∀(j:List (Addr×Obj)) (s:Shared) (q:St) (H:Hp) (Q:Option Int->Hp->Prop),Inv X j q H s->t q H Q->
  wpAny (model X.prog X.w) X.A (evalPart e X.env) (fun u B=>∃o z,Inv X j q z B/\IsPart u o/\Q o z) X.xe s
noncomputable def UW:TO:=fun _ H Q=>Q none H
noncomputable def Zca (t:TE):TO:=fun j H Q=>t j H fun x q=>∃i,x=.int i/\Q (some i) q
section
variable {X:Cx}{e:Expr}{te:TE}{lo hi:Option Expr}{tl th:TO}{pos p2:Pos}
theorem XT:PO X none UW:=by
 intro j s q H Q I h;rw[evalPart_none];exact Zm ⟨none,H,I,.none,h⟩
theorem XS (h:PE X e te):PO X (some e) (Zca te):=by
 intro j s z H Q I B;rw[evalPart_some];refine ZN (h j s z H _ I B) fun u O ⟨x,D,J,L,M⟩=>?_;obtain⟨i,rfl,q⟩:=M;obtain⟨t,rfl⟩:=L;exact⟨some i,D,J,.int i t,q⟩
noncomputable def SlR (X:Cx)(r:V->Option Int->Option Int->Hp->VK->Prop):Prop:=
 ∀(j:List (Addr×Obj)) (s:Shared) (q:St) (H:Hp) (x:V) (v z B:Value) (lo hi:Option Int) (D:Addr) (Q:VK),Inv X j q H s->RelV x v->s.heap.IsSliceOf D z B .none->IsPart z lo->IsPart B hi->r x lo hi H Q->
  ∃T id,typeLookup (.type T) "__getitem__"=pure (some (.builtin id))/\s.TypeIs v T/\wpAny (model X.prog X.w) X.A (getItem v (.ref D)) (EP X j q Q) X.xe s
noncomputable def tSl (r:V->Option Int->Option Int->Hp->VK->Prop)(te:TE)(tl th:TO):TE:=fun j H Q=>te j H fun x q=>tl j q fun l z=>th j z fun u B=>r x l u B Q
theorem JT {r:V->Option Int->Option Int->Hp->VK->Prop}(M:SlR X r)(O:PE X e te)(U:PO X lo tl)(Y:PO X hi th):PE X (.Subscript e (.Slice lo hi none p2) pos) (tSl r te tl th):=by
 intro j s B H Q I h;refine Subscript_ (ZN (O j s B H _ I h) fun v s1 ⟨x,H1,I1,r1,q1⟩=>?_);refine wpAny_Slice (ZN (U j s1 B H1 _ I1 q1) fun D s2 ⟨l,H2,I2,pl,q2⟩=>ZN (Y j s2 B H2 _ I2 q2) fun J z ⟨u,L,I3,pu,q3⟩=>?_);rw[evalPart_none];refine Zm ?_;have I4:Inv X j B L {z with heap:=z.heap.push {cls:=.type "slice",data:=.fields #[D,J,.none]}}:=I3.kept (t':=z.toks) fun b ob q=>Zn _ q;obtain⟨T,id,hT,ht,hg⟩:=M j {z with heap:=z.heap.push {cls:=.type "slice",data:=.fields #[D,J,.none]}} B L x v D J l u z.heap.objs.size Q I4 r1 (Heap.IsSliceOf.new ..) pl pu q3;show wpAny (model X.prog X.w) X.A (subscriptTail e (.Slice lo hi none p2) v (.ref z.heap.objs.size)) (EP X j B Q) X.xe {z with heap:=z.heap.push {cls:=.type "slice",data:=.fields #[D,J,.none]}};exact tail_any (ops:=[.ref z.heap.objs.size,v]) ht hT hg (by with_unfolding_all rfl)
noncomputable def VE (xs:List V)(lo hi:Option Int):List V:=(xs.drop (HT.Jo xs.length 0 lo)).take (HT.Jo xs.length xs.length hi-HT.Jo xs.length 0 lo)
theorem J3 (xs:List V)(lo hi:Option Int):(VE xs lo hi).length<=xs.length:=by
 unfold VE;rw[cg,df];omega
noncomputable def ZcA (K:aa):R2:=fun x y H Q=>∃a b q j,x=.ref a/\y=.ref b/\Y9 K H a q/\Y9 K H b j/\q≠[]/\q.length+j.length<=sizeLine/\
 (j=[]->Q (.ref a) H)/\(j≠[]->∀p,H p=none->Q (.ref p) (upd H p (.tup (q++j))))
theorem ZE.nil_iff {xs:List V}{us:List Value}(r:ZE xs us):us=[]↔xs=[]:=by
 cases r with
 |nil=>simp
 |cons _ _=>simp
theorem Zam:Wa X (binaryOp .Add) (ZcA X.K):=by
 intro D s σ H x y v u Q I M O h;obtain⟨a,b,xs,U,rfl,rfl,Y,hb,hx,J,q1,q2⟩:=h;cases M;cases O;obtain⟨f6,B,p1,_⟩:=I.tuple Y;obtain⟨L,j,p2,_⟩:=I.tuple hb;refine HT.ZaK p1 p2 (fun z=>hx (B.nil_iff.mp z)) (fun z=>⟨.ref a,H,I,rfl,q1 (j.nil_iff.mp z)⟩) (fun z=>?_) (by rw[<-B.length,<-j.length];exact J);refine⟨.ref s.heap.objs.size,_,I.laid (t':=s.toks) (o:=.tup (xs++U)) (fun b ob q=>Zn _ q) (Zq _) ?_,rfl,q2 (fun w=>z (j.nil_iff.mpr w)) _ (I.hok.fresh (Zq _))⟩;exact⟨by rw[Zd];exact J,_,B.append j,cD _ _⟩
end
noncomputable def ixN (n:Nat)(i:Int):Option Nat:=if 0<=i then (if i<n then some i.toNat else none) else if -(n:Int)<=i then some (i+n).toNat else none
noncomputable def atI {α:Type}(xs:List α)(i:Int):Option α:=(ixN xs.length i).bind fun j=>xs[j]?
theorem X0 {n:Nat}{i:Int}{j:Nat}(h:ixN n i=some j):seqIndex? i n=some j/\j<n/\-(n:Int)<=i/\i<n:=by
 unfold ixN at h;by_cases z:0<=i
 ·rw[if_pos z] at h
  by_cases q:i<n
  ·rw[if_pos q] at h
   have e:i.toNat=j:=az h;exact⟨by rw[seqIndex_of z q,e],by omega,by omega,q⟩
  ·rw[if_neg q] at h;cases h
 ·rw[if_neg z] at h
  by_cases q:-(n:Int)<=i
  ·rw[if_pos q] at h
   have e:(i+n).toNat=j:=az h;exact⟨by rw[seqIndex_neg (by omega) q,e],by omega,q,by omega⟩
  ·rw[if_neg q] at h;cases h
theorem X7 {α:Type}{xs:List α}{i:Int}{v:α}(h:atI xs i=some v):∃j,seqIndex? i xs.length=some j/\xs[j]?=some v/\j<xs.length/\-(xs.length:Int)<=i/\i<xs.length:=by
 unfold atI at h;cases e:ixN xs.length i with
 |none=>rw[e] at h;cases h
 |some j=>
  rw[e] at h;obtain⟨q,z,B,D⟩:=X0 e;exact⟨j,q,h,z,B,D⟩
theorem JD {α:Type}{xs:List α}{j:Nat}{v:α}(h:xs[j]?=some v):atI xs (j:Int)=some v:=by
 have q:j<xs.length:=(aD.mp h).1;have e:ixN xs.length (j:Int)=some j:=by
  unfold ixN;rw[if_pos (by omega),if_pos (by omega)];simp
 unfold atI;rw[e];exact h
noncomputable def ZaR (b:Expr):Prop:=∀o i,subscripted b false o i=operate [o,i] (getItem o i)
noncomputable def IxR (X:Cx)(r:R2):Prop:=
 ∀(q slice:Expr) (j:List (Addr×Obj)) (s:Shared) (z:St) (H:Hp) (x y:V) (v u:Value) (Q:VK),Inv X j z H s->RelV x v->RelV y u->r x y H Q->
  subscripted slice false v u=operate [v,u] (getItem v u)->wpAny (model X.prog X.w) X.A (subscriptTail q slice v u) (EP X j z Q) X.xe s
noncomputable def MtR (X:Cx)(id:String)(r:V->List V->Hp->VK->Prop):Prop:=
 ∀(j:List (Addr×Obj)) (s:Shared) (q:St) (H:Hp) (x:V) (z:List V) (v:Value) (B:List Value) (Q:VK),Inv X j q H s->RelV x v->ZE z B->r x z H Q->
  wpAny (model X.prog X.w) X.A (call (.builtin id) (v::B)) (EP X j q Q) X.xe s
section
variable {X:Cx}{a b:Expr}{ta tb:TE}{pos:Pos}
theorem Z3 {r:R2}(z:IxR X r)(B:PE X a ta)(hb:PE X b tb)(D:ZaR b):PE X (.Subscript a b pos) (VJ r ta tb):=by
 intro j s J H Q I h;exact Subscript_ (ZbV B hb I h fun v u L x y M O U Y q=>z a b j L J M x y v u Q O U Y q (D _ _))
noncomputable def Zcx (K:aa):R2:=fun x y H Q=>∃p j i v,x=.ref p/\y=.int i/\YF K H p j/\atI j i=some v/\Q v H
noncomputable def U5 (K:aa):R2:=fun x y H Q=>∃p j i v,x=.ref p/\y=.int i/\Y9 K H p j/\atI j i=some v/\Q v H
theorem Zaw:IxR X (Zcx X.K):=by
 intro J slice B s Y H x y v u Q I rx ry h hs;obtain⟨p,xs,i,z,rfl,rfl,hq,he,q⟩:=h;cases rx;obtain⟨t,rfl⟩:=ry;obtain⟨L,r,M,hz⟩:=I.list hq;obtain⟨j,D,h2,h3,h4,h5⟩:=X7 he;obtain⟨w,ew,O⟩:=r.get h2;have hl:=r.length;have hn:=WJ;have fin:EP X B Y Q w s:=⟨z,H,I,O,q⟩;by_cases h0:0<=i
 ·have U:i.toNat=j:=by
   rw[seqIndex_of h0 h5] at D;exact az D
  exact item_listR M.isList h0 (by omega) (by rw[U];simpa using ew) fin hs
 ·have U:(i+(L.toArray.size:Int)).toNat=j:=by
   rw[seqIndex_neg (by omega) h4] at D;rw[Zh,<-hl];exact az D
  exact e5 (x:=w) M.isList.typeIs slot_list_getitem.lookup
   (wpAny_getItem_list_neg (Q:=fun r s'=>r=w/\EP X B Y Q r s') M.isList (by omega) (by rw[Zh] <;> omega) (by omega) (by rw[U];simpa using ew) ⟨rfl,fin⟩) hs
theorem ZbO:IxR X (U5 X.K):=by
 intro D slice B s L H x y v u Q I O U h Y;obtain⟨p,xs,i,z,rfl,rfl,hq,he,q⟩:=h;cases O;obtain⟨t,rfl⟩:=U;obtain⟨f6,r,M,hz⟩:=I.tuple hq;obtain⟨j,h1,h2,h3,h4,h5⟩:=X7 he;obtain⟨w,ew,J⟩:=r.get h2;have hl:=r.length;have hn:=WJ;have fin:EP X B L Q w s:=⟨z,H,I,J,q⟩;exact e5 (x:=w) M.typeIs slot_tuple_getitem.lookup
  (getItem_tuple (j:=j) (Q:=fun r s'=>r=w/\EP X B L Q r s') M (by omega) (by omega) (by rw[Zh,<-hl];exact h1) (by simpa using ew) ⟨rfl,fin⟩) Y
theorem Xt (q:List Value)(n j:Nat)(u:Value):cV (·.setIfInBounds j u) {cls:=.type "list",data:=.seq q.toArray n}={cls:=.type "list",data:=.seq (q.set j u).toArray n}:=by
 simp[cV]
theorem Inv.lst {q:List (Addr×Obj)}{σ:St}{H:Hp}{s:Shared}{p:Addr}{xs:List V}(I:Inv X q σ H s)(h:H p=some (.lst xs)) :
  ∃(j:List Value) (n:Nat),ZE xs j/\s.heap.get? p=some {cls:=.type "list",data:=.seq j.toArray n}/\xs.length<=sizeLine:=by
 obtain⟨z,j,n,r,e⟩:=I.hok p _ h;exact⟨j,n,r,e,z⟩
theorem Inv.lstUpd {j:List (Addr×Obj)}{σ:St}{H:Hp}{s:Shared}{p:Addr}{xs B:List V}{z its':List Value}{n D:Nat}{f:Obj->Obj}(I:Inv X j σ H s)(h:H p=some (.lst xs))
  (J:s.heap.get? p=some {cls:=.type "list",data:=.seq z.toArray n}) (hf:f {cls:=.type "list",data:=.seq z.toArray n}={cls:=.type "list",data:=.seq its'.toArray D}) (r:ZE B its') (L:B.length<=sizeLine) (t:Nat) :
  Inv X j σ (upd H p (.lst B)) {s with heap:=s.heap.update p f,toks:=t}:=by
 have e:(s.heap.update p f).get? p=some {cls:=.type "list",data:=.seq its'.toArray D}:=by
  rw[em f J (by rw[hf] <;> rfl),hf]
 refine I.write (x:=p) (e:=p) (by rw[h];trivial) (.inl rfl) (fun b u hb q=>(dZ _ _ (bd hb)).trans q) ⟨_,e⟩ ?_;exact⟨L,its',D,r,e⟩
noncomputable def Zcv:V->V->V->Hp->(Hp->Prop)->Prop:=fun o i v H Q=>∃p q k j,o=.ref p/\i=.int k/\H p=some (.lst q)/\ixN q.length k=some j/\Q (upd H p (.lst (q.set j v)))
theorem V3:ZcP X Zcv:=by
 intro z s σ H o i v ov iv u Q I ro ri rv h;obtain⟨p,xs,k,j,rfl,rfl,O,hj,q⟩:=h;cases ro;obtain⟨t,rfl⟩:=ri;obtain⟨B,n,r,J,hz⟩:=I.lst O;obtain⟨D,h2,U,Y⟩:=X0 hj;have L:=r.length;have hn:=WJ;have I':Inv X z σ (upd H p (.lst (xs.set j v))) {s with heap:=s.heap.update p (cV (·.setIfInBounds j u))}:=
  I.lstUpd O J (Xt B n j u) (r.set rv j) (by rw[List.length_set];exact hz) s.toks
 by_cases h0:0<=k
 ·have M:k.toNat=j:=by
   rw[seqIndex_of h0 Y] at D;exact az D
  exact PySem.W.ki_setAt J h0 (by omega) (by rw[Zh,<-L];exact Y) (by rw[M];exact⟨_,I',q⟩)
 ·have M:(k+(B.toArray.size:Int)).toNat=j:=by
   rw[seqIndex_neg (by omega) U] at D;rw[Zh,<-L];exact az D
  exact PySem.W.ki_setBack J (by omega) (by rw[Zh,<-L];exact U) (by omega) (by rw[M];exact⟨_,I',q⟩)
theorem Jl (lo j:Option Int)(n:Nat):(sliceBounds lo j none n).1=((HT.Jo n 0 lo:Nat):Int)/\(sliceBounds lo j none n).2.1=((HT.Jo n n j:Nat):Int)/\(sliceBounds lo j none n).2.2=1:=by
 refine⟨?_,?_,rfl⟩
 ·cases lo with
  |none=>simp[sliceBounds,HT.Jo]
  |some i=>
   simp only[sliceBounds,HT.Jo,eQ,show (1:Int) > 0 by decide,if_true];by_cases h:i<0
   ·simp only[h,if_true] <;> omega
   ·simp only[h,if_false] <;> omega
 ·cases j with
  |none=>simp[sliceBounds,HT.Jo]
  |some i=>
   simp only[sliceBounds,HT.Jo,eQ,show (1:Int) > 0 by decide,if_true];by_cases h:i<0
   ·simp only[h,if_true] <;> omega
   ·simp only[h,if_false] <;> omega
theorem WT (j:List Value)(lo q:Option Int):slicePick j.toArray lo q none=((j.drop (HT.Jo j.length 0 lo)).take (HT.Jo j.length j.length q-HT.Jo j.length 0 lo)).toArray:=by
 obtain⟨z,B,D⟩:=Jl lo q j.toArray.size;unfold slicePick;rw[z,B,D];simp only[sliceRange_one,pick_run,Zh] <;> rfl
noncomputable def Zdc (K:aa):V->Option Int->Option Int->Hp->VK->Prop:=fun x lo q H Q=>∃a j,x=.ref a/\YF K H a j/\∀p,H p=none->Q (.ref p) (upd H p (.lst (VE j lo q)))
theorem UY:SlR X (Zdc X.K):=by
 intro B s σ H x v vl vu lo z sl Q I J L M O h;obtain⟨a,xs,rfl,U,q⟩:=h;cases J;obtain⟨Y,r,D,hz⟩:=I.list U;have j:=r.length;refine⟨"list",_,slot_list_getitem.lookup,D.isList.typeIs,?_⟩;refine wpAny_getItem_list_slice D.isList L M O .none (by simp) ?_ (by rw[Zh] <;> omega)
 rw[WT,<-j];refine⟨.ref s.heap.objs.size,_,I.laid (t':=s.toks) (o:=.lst (VE xs lo z)) (fun b ob q=>Zn _ q) (Zq _) ?_,rfl,q _ (I.hok.fresh (Zq _))⟩;exact⟨aF (J3 xs lo z) hz,_,0,(r.drop (HT.Jo xs.length 0 lo)).take (HT.Jo xs.length xs.length z-HT.Jo xs.length 0 lo),Zo _ rfl⟩
theorem JB:Z9 X (.builtin "len") (fun xs H Q=>∃p j,xs=[.ref p]/\(YF X.K H p j\/Y9 X.K H p j)/\Q (.int j.length) H):=by
 intro L s U H xs Y Q I r h;obtain⟨p,j,rfl,z,q⟩:=h;obtain⟨u,rfl,M⟩:=vals1 r;cases M;have hn:=WJ;rcases z with z|z
 ·obtain⟨B,D,J,O⟩:=I.list z
  have hlen:=D.length;exact Calls.call_len_list J.isList (by simp only[Zh] <;> omega) ⟨.int j.length,H,I.tok _,⟨s.toks+1,by rw[Zh,hlen]⟩,q⟩
 ·obtain⟨B,D,J,O⟩:=I.tuple z
  have hlen:=D.length;exact len_tuple J (by simp only[Zh] <;> omega) ⟨.int j.length,H,I.tok _,⟨s.toks+1,by rw[Zh,hlen]⟩,q⟩
theorem JA:Z9 X (.type "list") (fun xs H Q=>∃p B,xs=[.ref p]/\(YF X.K H p B\/Y9 X.K H p B)/\∀l,H l=none->Q (.ref l) (upd H l (.lst B))):=by
 intro L s σ H xs us Q I r h;obtain⟨p,B,rfl,M,q⟩:=h;obtain⟨u,rfl,rx⟩:=vals1 r;cases rx;have O:∀(j:List Value),ZE B j->B.length<=sizeLine->∀(z:Heap) (D:Nat),(∀b o',s.heap.get? b=some o'->z.get? b=some o')->
   z.get? s.heap.objs.size=some {cls:=.type "list",dict:=none,data:=.seq j.toArray D,slots:=#[]}->EP X L σ Q (.ref s.heap.objs.size) {s with heap:=z}:=fun j J U z D Y e=>
  ⟨.ref s.heap.objs.size,_,I.laid (t':=s.toks) Y (Zq _) (show ZU X.prog X.w _ z _ (.lst B) from ⟨U,j,D,J,e⟩),rfl,q _ (I.hok.fresh (Zq _))⟩
 rcases M with M|M
 ·obtain⟨j,J,pl,U⟩:=I.list M
  have f6:=J.length;obtain⟨o,ho,hc,n,hd⟩:=pl.isList;exact call_list_seq p (.inl rfl) ho hc hd (fun z D Y e=>O j J U z D Y e) (by simp only[Zh] <;> omega)
 ·obtain⟨j,J,pl,U⟩:=I.tuple M
  have f6:=J.length;obtain⟨o,ho,hc,n,hd⟩:=pl;exact call_list_seq p (.inr rfl) ho hc hd (fun z D Y e=>O j J U z D Y e) (by simp only[Zh] <;> omega)
theorem WU:Z9 X (.type "tuple") (fun xs H Q=>∃p B,xs=[.ref p]/\((YF X.K H p B/\∀l,H l=none->Q (.ref l) (upd H l (.tup B)))\/(Y9 X.K H p B/\Q (.ref p) H))):=by
 intro j s O H xs us Q I r h;obtain⟨p,B,rfl,h⟩:=h;obtain⟨u,rfl,rx⟩:=vals1 r;cases rx;rcases h with ⟨J,q⟩|⟨J,q⟩
 ·obtain⟨z,L,M,U⟩:=I.list J
  have Y:=L.length;refine call_tuple_list M.isList (fun D kp=>?_) (by simp only[Zh] <;> omega)
  have I1:Inv X j O H {s with heap:=D}:=I.kept (t':=s.toks) kp;have I2:Inv X j O (upd H D.objs.size (.tup B)) {s with heap:=D.push {cls:=.type "tuple",data:=.seq z.toArray}}:=
   I1.laid (t':=s.toks) (fun b o e=>Zn _ e) (Zq _) (show ZU X.prog X.w _ _ _ (.tup B) from ⟨U,z,L,cD _ _⟩)
  exact⟨.ref D.objs.size,_,I2,rfl,q _ (I1.hok.fresh (Zq _))⟩
 ·obtain⟨z,L,M,U⟩:=I.tuple J
  exact call_tuple_same M ⟨.ref p,H,I,rfl,q⟩
noncomputable def tyV (K:aa)(T:String)(x:V)(H:Hp):Prop:=match x with
 | .str _=>T = "str"
 | .int _=>T = "int"
 | .ref p=>(T = "list"/\∃q,YF K H p q)\/(T = "tuple"/\∃o,K.lookup p=some o/\o.cls=.type "tuple"/\o.dict=none)\/
   (T = "dict"/\((∃j,H p=some (.dK j))\/∃j,H p=some (.dT j)))\/(T = "set"/\∃S n,H p=some (.set S n))
 |_=>False
theorem VP {q:List (Addr×Obj)}{σ:St}{H:Hp}{s:Shared}{T:String}{x:V}{v:Value}(I:Inv X q σ H s)(r:RelV x v)(B:tyV X.K T x H) :
  s.TypeIs v T/\∀a,v=.ref a->∃L,s.heap.get? a=some L/\L.dict=none:=by
 cases x with
 |str z=>
  obtain⟨t,rfl⟩:=r;cases (show T = "str" from B);exact⟨bf s z t,fun _ e=>nomatch e⟩
 |int i=>
  obtain⟨t,rfl⟩:=r;cases (show T = "int" from B);exact⟨dh s i t,fun _ e=>nomatch e⟩
 |ref p=>
  cases r;rcases B with ⟨rfl,xs,O⟩|⟨rfl,o,j,U,hd⟩|⟨rfl,j⟩|⟨rfl,S,n,j⟩
  ·obtain⟨Y,_,M,_⟩:=I.list O
   refine⟨M.isList.typeIs,fun a e=>?_⟩;cases e;obtain⟨o,n,e,c,hd,_⟩:=M;exact⟨o,e,hd⟩
  ·refine⟨⟨o,I.kIn p o j,U⟩,fun a e=>?_⟩
   cases e;exact⟨o,I.kIn _ o j,hd⟩
  ·have z:∃o,s.heap.get? p=some o/\o.ExactDict:=by
    rcases j with ⟨D,j⟩|⟨D,j⟩
    ·obtain⟨_,_,_,_,o,_,_,e,ex,_⟩:=I.hok p _ j
     exact⟨o,e,ex⟩
    ·obtain⟨_,_,_,_,o,_,_,e,ex,_⟩:=I.hok p _ j
     exact⟨o,e,ex⟩
   obtain⟨o,e,ex⟩:=z;refine⟨⟨o,e,ex.1⟩,fun a J=>?_⟩;cases J;exact⟨o,e,ex.2.1⟩
  ·obtain⟨o,_,_,_,e,ex,_⟩:=I.hok p _ j
   refine⟨⟨o,e,ex.1⟩,fun a J=>?_⟩;cases J;exact⟨o,e,ex.2.1⟩
 |_=>exact bm B
noncomputable def tBM (K:aa)(T:String)(r:V->List V->Hp->VK->Prop)(z:TE)(t:TA):TE:=fun j H Q=>z j H fun x q=>tyV K T x q/\t j q fun B D=>r x B D Q
variable {o e:Expr}{es:List Expr}{to:TE}{t:TA}{name:Str}{apos cpos:Pos}{T id:String}{r:V->List V->Hp->VK->Prop}
theorem XU (Y:PlainAttrs T)(slot:Slot T name id)(J:typeOf (.builtin id)=pure (.type "method_descriptor"))(hm:MtR X id r)(ho:PE X o to)(ha:PA X (e::es) t)
  (z:attributeBase o name X.env (eval o X.env)=eval o X.env:=by rfl)
  (D:((backTo cpos (starEach (e::es) X.env)).all (fun x=>!x.1) && (backToKw cpos (keywordEach [] X.env)).all (fun x=>x.1.isSome)
   && decide ((e::es).length+([]:List Keyword).length+(if ([]:List Keyword).isEmpty then 0 else 1)<30))=true:=by rfl)
  (B:(apos.endLine == cpos.line)=true:=by rfl) (hs:starEach (e::es) X.env=(false,eval e X.env)::starEach es X.env:=by rfl) (q:(backTo cpos (starEach es X.env)).any (·.1)=false:=by rfl) :
  PE X (.Call (.Attribute o name apos) (e::es) [] cpos) (tBM X.K T r to t):=by
 intro j s L H Q I h;refine cG z D B rfl (ZN (ho j s L H _ I h) fun v s1 ⟨x,H1,M,O,ty,q1⟩=>?_);obtain⟨h1,h2⟩:=VP M O ty;refine⟨T,id,Y,slot,J,h1,h2,?_⟩;have U:=ha cpos j s1 L H1 _ M q1;rw[hs] at U ⊢;refine cm (by show (false || (backTo cpos (starEach es X.env)).any (·.1))=false;rw[q] <;> rfl) (cB ?_)
 exact ZN U fun us s2 ⟨vs,H2,I2,r2,q2⟩=>hm j s2 L H2 x vs v us Q I2 O r2 q2
end
noncomputable def MtM (X:Cx)(id:String)(r:V->List V->Hp->VK->Prop):Prop:=
 ∀(j:List (Addr×Obj)) (s:Shared) (q:St) (H:Hp) (x:V) (z:List V) (v:Value) (B:List Value) (Q:VK),Inv X j q H s->RelV x v->ZE z B->r x z H Q->
  wpAny (model X.prog X.w) X.A (call (.builtin id) (v::B)) (EP X j q Q) X.xe s
theorem ZE.one {x:V}{us:List Value}(h:ZE [x] us):∃u,us=[u]/\RelV x u:=by
 cases h with
 |cons r t=>cases t;exact⟨_,rfl,r⟩
theorem ZE.rep {xs:List V}{us:List Value}(h:ZE xs us):∀k:Nat,ZE (ae k xs).flatten (ae k us).flatten
 |0=>.nil
 |k+1=>by
  rw[av,av,aO,aO];exact ZE.append h (ZE.rep h k)
theorem foldl_rep (j:List Value):∀(k:Nat) (acc:List Value),
  eS (fun q z=>q++z) acc.toArray (ae k j.toArray)=(acc++(ae k j).flatten).toArray
 |0,acc=>by simp
 |k+1,acc=>by
  have e:acc.toArray++j.toArray=(acc++j).toArray:=by simp
  have B:(acc++j)++(ae k j).flatten=acc++(ae (k+1) j).flatten:=by
   rw[av,aO,ay]
  rw[<-B,<-foldl_rep j k (acc++j),<-e,av,List.foldl_cons]
section
variable {X:Cx}{pins:List (Addr×Obj)}{σ:St}{H:Hp}{s:Shared}{l b:Addr}{xs ys zs:List V}
theorem Inv.lset {j its':List Value}{n:Nat}{f:Array Value->Array Value}{t':Nat}(I:Inv X pins σ H s)(z:H l=some (.lst xs))
  (e:s.heap.get? l=some {cls:=.type "list",data:=.seq j.toArray n}) (B:f j.toArray=its'.toArray) (D:ZE ys its') (J:ys.length<=sizeLine) :
  Inv X pins σ (upd H l (.lst ys)) {s with heap:=s.heap.update l (cV f),toks:=t'}:=by
 have q:=PySem.IsL.update e f;rw[B] at q;refine I.write (x:=l) (e:=l) (by rw[z];exact trivial) (.inl rfl) (fun M u hb L=>(dZ s.heap (cV f) (bd hb)).trans L) ⟨_,q⟩ ?_;exact⟨J,its',_,D,q⟩
theorem Inv.lnew {j:List Value}{t':Nat}(I:Inv X pins σ H s)(z:ZE ys j)(B:ys.length<=sizeLine) :
  Inv X pins σ (upd H s.heap.objs.size (.lst ys)) {s with heap:=s.heap.push {cls:=.type "list",data:=.seq j.toArray},toks:=t'}:=
 I.laid (fun _ _ q=>Zn _ q) (Zq _) ⟨B,j,0,z,Zo _ rfl⟩
theorem Inv.fresh (I:Inv X pins σ H s):H s.heap.objs.size=none:=I.hok.fresh (Zq _)
theorem Inv.lstM (I:Inv X pins σ H s)(q:H l=some (.lst xs)):xs.length<=sizeLine/\∃(j:List Value) (n:Nat),ZE xs j/\xs.length=j.length/\s.heap.get? l=some {cls:=.type "list",data:=.seq j.toArray n}:=by
 obtain⟨z,j,n,r,e⟩:=I.hok l _ q;exact⟨z,j,n,r,r.length,e⟩
theorem Uk {n:Nat}(h:n<=sizeLine):bL n=false:=by
 unfold bL;exact decide_eq_false (by omega)
end
section
variable {X:Cx}
noncomputable def U6:V->List V->Hp->VK->Prop:=fun x q H Q=>∃l j y,x=.ref l/\q=[y]/\H l=some (.lst j)/\j.length<sizeLine/\Q .non (upd H l (.lst (j++[y])))
theorem Wi:MtM X "list.append" U6:=by
 intro B s U H x Y v us Q I L M h;obtain⟨l,xs,y,rfl,rfl,D,hz,q⟩:=h;cases L;obtain⟨u,rfl,O⟩:=M.one;obtain⟨z,j,n,r,hl,e⟩:=I.lstM D;refine bh ck ⟨_,e,rfl⟩ F.entry_list_append (F.args_list_append_2 _ _) (PySem.list_append l j.toArray n u (by rw[Zh];omega)) ⟨e,?_⟩;refine⟨.non,_,I.lset (its':=j++[u]) D e (by simp) (r.append (.cons O .nil)) ?_,rfl,q⟩;rw[Zd,Zk];omega
noncomputable def Zdd:R2:=fun x y H Q=>∃l k j,x=.ref l/\y=.int k/\H l=some (.lst j)/\-(2 ^ 63)<=k/\k<2 ^ 63/\j.length*k.toNat<=sizeLine/\
 ∀p,H p=none->Q (.ref p) (upd H p (.lst (ae k.toNat j).flatten))
theorem Jv {α:Type}(xs:List α)(k:Nat):(ae k xs).flatten.length=k*xs.length:=by
 induction k with
 |zero=>simp
 |succ k j=>rw[av,aO,Zd,j,Nat.succ_mul,Nat.add_comm]
theorem Zbw:Wa X (binaryOp .Mult) Zdd:=by
 intro f6 s σ H x y v u Q I rx ry h;obtain⟨l,k,xs,rfl,rfl,hH,h1,h2,hz,q⟩:=h;cases rx;obtain⟨t,rfl⟩:=ry;obtain⟨z,j,n,r,hl,e⟩:=I.lstM hH;have D:j.toArray.size*k.toNat<=sizeLine:=by rw[Zh,<-hl];exact hz
 have J:¬j.toArray.size*k.toNat > (2 ^ 63-1) / 8:=by
  have:(sizeLine:Nat)<=(2 ^ 63-1) / 8:=by decide
  omega
 have L:¬(!Builtin.List.listFitsIndex k)=true:=by
  rw[fitsIndex_both h1 h2];exact ar
 have B:¬bL (j.toArray.size*k.toNat)=true:=by
  rw[Uk D];exact ar
 have M:eS (fun O Y=>O++Y) #[] (ae (if j.toArray.isEmpty=true then 0 else k.toNat) j.toArray)=(ae k.toNat j).flatten.toArray:=by
  have f0:∀m:Nat,eS (fun O Y=>O++Y) #[] (ae m j.toArray)=(ae m j).flatten.toArray:=fun m=>by
   have:=foldl_rep j m [];rw[du] at this;exact this
  rw[f0];cases j with
  |nil=>simp
  |cons a r'=>rw[if_neg (by simp)]
 refine ev (T:="list") (U:="int") (by decide) ⟨_,e,rfl⟩ (fun s'=>dh s' k t) noFill_list_mul F.fills_int_mul cC repeat_list F.slot_int_index.lookup
  (bh cC (dh s k t) F.entry_int_rmul (F.args_int_rmul_2 _ _) (int___rmul___int_list k t l j.toArray n)
   ⟨e,rfl,⟨_,e,rfl⟩,bh F.slot_list_mul ⟨_,e,rfl⟩ F.entry_list_mul (F.args_list_mul_2 _ _) (AutoListH.list___mul___list_int_3 l j.toArray n k t L J B) ⟨e,?_⟩⟩)
 rw[M];exact⟨.ref _,_,I.lnew (t':=s.toks) (r.rep k.toNat) (by rw[Jv,er];exact hz),rfl,q _ I.fresh⟩
end
section
variable {prog:Program}{w:World}{A:Around}{E:Value->Shared->Prop}{s:Shared}
end
section
variable {X:Cx}
end
end L2
namespace Att
open PySem PySem.W PySem.Calls PyProof.Rows
theorem Wu {P:Params}{h:Heap}:∀(ns:List Int) (j:List Value),WellAll P h j (ns.map WData.int)->e7 j ns:=by
 intro ns;induction ns with
 |nil=>
  intro j w;rw[ed] at w;cases w;exact .nil
 |cons n ns q=>
  intro j w;rw[aE] at w;cases w with
  |cons a b=>
   cases a;exact .cons _ _ (q _ b)
theorem Vb {l:bZ}{n:Nat}(U:l.most=some n){P:Params}{h:Heap}{args:List WData}{vals:List Value}
  (j:l.row.toRowW.claim.pre args=true) (J:WellAll P h vals args) :
  ∃a M ns,vals=[aV a]/\args=[WData.list (ns.map WData.int)]/\h.get? a=some {cls:=.type "list",data:=.seq M.toArray}/\e7 M ns/\ns.length<=n:=by
 have L:WShape.hasAll [] args [.list .int]=true:=(pre_splitW j).1;have O:l.pre.holds [] {args:=args}=true:=(pre_splitW j).2;obtain⟨d,r,rfl,Y,h2⟩:=hasAllW_cons L;obtain rfl:=hasAllW_nil h2;obtain⟨xs,rfl,h3⟩:=hasW_list Y;obtain⟨ns,rfl⟩:=items_int h3;have hlen:ns.length<=n:=by
  unfold OpenLaw.pre at O;have B:(WTm.not (.lt (.lit (.int (n:Int))) (.len (.arg 0)))).holds [] {args:=[.list (ns.map .int)]}=true:=by
   have B:=(holds_andW O).1;rw[U] at B;exact B
  have D:=condW_of B (w_not (w_lt w_lit (w_len_list (w_arg rfl))));rw[Za] at D;refine Nat.le_of_not_lt fun q=>?_;have q':(n:Int)<((ns.length:Nat):Int):=by omega
  first
   |(rw[decide_eq_true q'] at D;exact absurd D (by decide))
   |(simp at D;omega)
 cases J with
 |cons w1 w2=>
  cases w2;cases w1 with
  |list ho z=>exact⟨_,_,ns,rfl,rfl,ho,Wu ns _ z,hlen⟩
theorem Vg (l:bZ)(args:List WData):l.row.toRowW.claim.post args (.bool true) args=true:=
 postW_of (r:=l.row.toRowW) (X:=(true == true))
  (show WShape.has [] (.bool true) .bool=true by first|rfl|decide|simp[WShape.has,WShape.arms,WShape.armsAll])
  (show (WTm.eq .res (.lit (.bool true))).value [] {args:=args,res:=some (.bool true),after:=args}=some (.bool (true == true)) from w_eq_bool (w_res rfl) w_lit) rfl
theorem J9 {l:bZ}{n:Nat}{q:Program}{loose:List Str}{XP:(Str->Option Value)->Heap->Prop}{YP:World->Heap->Prop}{d:DefRec}
  (hn:l.most=some n) (U:d.params.defaults=[])
  (call:∀(w:World) (s₀ j:Shared) (M mb:Str->Option Value) (D:Addr) (o:Obj) (pm O z:Value) (a:Addr) (B:List Value) (ns:List Int),
   Ground q loose [] XP w s₀ M mb j.heap->YP w j.heap->
   j.heap.get? D=some o->o.data=.func (docDef d.name d.params d.body d.scope pm O z)->j.heap.CodeRec O d.name->M d.name=some (.ref D)->
   j.heap.get? a=some {cls:=.type "list",data:=.seq B.toArray}->e7 B ns->ns.length<=n->j.gens=#[]->
   codeAny (model l.prog w) callerA (.call (.ref D) ⟨[.ref a],[]⟩) (fun r s'=>r=.ok (.ret (.bool true))/\OldK j.heap s'.heap/\s'.os=j.os/\cJ s'.gens) j) :
  eG q loose XP YP l.row.toRowW d [] (fun f B=>eE f B):=by
 intro w s₀ j M mb G Y D o pm O z dV kV ho hd f6 hD f7 hg args f9 as J g8 g9 f8 h8;obtain rfl:dV=.none:=Dflts.none hD U;obtain rfl:kV=.none:=Dflts.noKw hD;obtain⟨a,B,ns,rfl,rfl,L,hints,hlen⟩:=Vb hn J f8;refine enter_call (eW (call w s₀ j M mb D o pm O z a B ns G Y ho (fd_plain hd) f6 f7 L hints hlen hg) fun r s' hq=>?_);obtain⟨rfl,h2,h3,h4⟩:=hq;exact⟨.inl ⟨.bool true,.bool true,[],rfl,fun _=>rfl,.bool true,Vg l _,fun _=>⟨dI,fun _ hm=>(nomatch hm)⟩⟩,h2,h3,h4⟩
section
variable {prog:Program}{w:World}{A:Around}{E:Value->Shared->Prop}{s:Shared}{K:Frag}
end
end Att
namespace L2
open PySem PySem.Spec PyProof.Rows
theorem WY:∀{j:List Value}{ns:List Int},e7 j ns->ZE (ns.map V.int) j
 |_,_,.nil=>.nil
 |_,_,.cons n t h=>.cons ⟨t,rfl⟩ (WY h)
noncomputable def ZbZ (H:Hp):Prop:=∀b,H b=none\/∃o j,H b=some (.frz o (.lst j))
theorem Uq {P:Program}{w:World}{K:aa}{mg mb:Str->Option Value}{CX:Xe}{k:Nat}{fa a:Addr}{fd:FuncData}{x:Str}{sp:Sp}{j:Shared}{J:List Value}{ns:List Int}
  (KX:K.In j.heap) (M:j.heap.Ns mainGlobals mg) (hb:j.heap.Ns builtinsNs mb) (f8:∀x:Str,x ≠ "__name__"->mb x=bootBuiltins x) (O:j.heap.NoLimit) (hg:j.gens=#[])
  (ha:j.heap.get? a=some {cls:=.type "list",data:=.seq J.toArray}) (hi:e7 J ns) (hl:ns.length<=sizeLine) (hr:Yp k callerA)
  (F:∀base:Heap,K.In base->base.Ns mainGlobals mg->Yd P w K mg base CX k fa fd [x] sp) (L:∀(s:Shared) (u:Value),cW s fd ⟨[u],[]⟩ [(x,u)])
  (f9:∀H:Hp,ZbZ H->YF K H a (ns.map V.int)->sp [.ref a] H (fun v _=>v=.bl true) fun _ _ _=>False)
  (g8:∀H e s',CX [] H j (fun _ _ _=>False) e s'->False) :
  codeAny (model P w) callerA (.call (.ref fa) ⟨[.ref a],[]⟩) (fun r s'=>r=.ok (.ret (.bool true))/\OldK j.heap s'.heap/\s'.os=j.os/\cJ s'.gens) j:=by
 have rv:=WY hi;have U:=hi.length;have core:∀H:Hp,ZbZ H->YF K H a (ns.map V.int)->Y7 P w H j.heap->(∀b,H b≠none->b=a)->(H a≠none->K.lookup a=none)->
   codeAny (model P w) callerA (.call (.ref fa) ⟨[.ref a],[]⟩) (fun r s'=>r=.ok (.ret (.bool true))/\OldK j.heap s'.heap/\s'.os=j.os/\cJ s'.gens) j:=by
  intro H hO hS hok hA hK;have B:∀{b:Addr}{o:Obj},j.heap.get? b=some o->H b=none->(Jw j.heap H).get? b=some o:=fun e n=>Uz e n;have g9:∀{b:Addr}{o:Obj}{Y:Array DictEntry}{ep:Nat},j.heap.get? b=some o->o.data=.dict Y ep->H b=none:=fun {b o Y ep} e d=>by
   cases q:H b with
   |none=>rfl
   |some u=>
    have e':b=a:=hA b (by rw[q];simp);subst e';rw[ha] at e;cases e;have d':Data.seq J.toArray _=Data.dict Y ep:=d;cases d'
  have D:∀{b:Addr}{m:Str->Option Value},j.heap.Ns b m->(Jw j.heap H).Ns b m:=fun {b m} ⟨o,Y,ep,e,d,r⟩=>⟨o,Y,ep,B e (g9 e d),d,r⟩;have f6:K.In (Jw j.heap H):=fun b o e=>B (KX b o e) (by
   cases q:H b with
   |none=>rfl
   |some u=>
    have e':b=a:=hA b (by rw[q];simp);subst e';rw[hK (by rw[q];simp)] at e;cases e)
  have hM:Mod K mg (Jw j.heap H):=⟨f6,D M,⟨mb,D hb,f8⟩,let ⟨mc,h1,h2⟩:=O;⟨mc,D h1,h2⟩⟩;have e0:ZaS P w K mg (Jw j.heap H) callerA [] j H:=⟨rfl,hM,fun b o e=>Zaq e,Nat.le_of_eq (Vw _ _),trivial,fun b hb=>absurd (show b∈([]:List Addr) from hb) (by simp),hok,.of_eq hg⟩;refine eW ((F _ f6 (D M)).run callerA [] j H ⟨[.ref a],[]⟩ [.ref a] [.ref a] _ _ hr e0 (L j (.ref a)) (.cons rfl .nil) (f9 H hO hS)) fun r s' h=>?_;cases r with
  |error e=>exact (g8 H e s' h).elim
  |ok fl=>
   cases fl with
   |next=>exact bm h
   |brk=>exact bm h
   |cont=>exact bm h
   |ret u=>
    obtain⟨v,H',os,bare,un,f7,r',q⟩:=h;have q':v=.bl true:=q;subst q';obtain rfl:u=dz true:=r';refine⟨rfl,OldK.of_keep fun b o e=>?_,os,bare⟩;cases q:H b with
    |none=>exact un.keep b o e q (by intro z;exact absurd (show b∈([]:List Addr) from z) (by simp)) (by simp)
    |some u=>
     rcases hO b with z|⟨ob,xs,z⟩
     ·rw[q] at z;cases z
     ·have z2:=un.frzs b ob _ z
      obtain⟨e1,_⟩:=hok b _ z;obtain⟨e2,_⟩:=f7 b _ z2;rw[e] at e1;cases e1;exact e2
 cases hk:K.lookup a with
 |some o=>
  have e:=KX a o hk;rw[ha] at e;cases e;refine core (fun _=>none) (fun _=>.inl rfl) (.inr ⟨_,J.toArray,_,hk,rfl,rfl,rfl,by rw[Zh,U];exact hl,by simpa using rv⟩) (fun b u z=>by have z':(none:Option HO)=some u:=z;cases z') (fun b z=>absurd rfl z) fun z=>absurd rfl z
 |none=>
  refine core (fun b=>if b=a then some (.frz {cls:=.type "list",data:=.seq J.toArray} (.lst (ns.map V.int))) else none) (fun b=>?_) (.inl (.inr ⟨{cls:=.type "list",data:=.seq J.toArray},if_pos rfl⟩)) (fun b u z=>?_) (fun b z=>?_) fun _=>hk
  ·by_cases hb:b=a
   ·exact .inr ⟨_,_,if_pos hb⟩
   ·exact .inl (if_neg hb)
  ·by_cases hb:b=a
   ·have z':=(if_pos hb).symm.trans z
    cases z';subst hb;exact⟨ha,by rw[Za];exact hl,J,_,rv,ha⟩
   ·have z':=(if_neg hb).symm.trans z
    cases z'
  ·by_cases hb:b=a
   ·exact hb
   ·exact absurd (if_neg hb) z
theorem Jj {l:bZ}{n k:Nat}{q:Program}{loose:List Str}{XP:(Str->Option Value)->Heap->Prop}{YP:World->Heap->Prop}{d:DefRec}{K:Params->aa}{CX:World->Xe}{sp:World->Sp}{x:Str}
  (hn:l.most=some n) (M:n<=sizeLine) (O:d.params.defaults=[]) (hr:Yp k callerA)
  (hY:∀(w:World) (h:Heap),YP w h->(K w.params).In h)
  (F:∀(w:World) (B:Str->Option Value) (L:Addr) (h:Heap),(K w.params).In h->h.Ns mainGlobals B->B d.name=some (.ref L)->
   ∃U:FuncData,(∀(s:Shared) (u:Value),cW s U ⟨[u],[]⟩ [(x,u)])/\
    ∀base:Heap,(K w.params).In base->base.Ns mainGlobals B->Yd l.prog w (K w.params) B base (CX w) k L U [x] (sp w))
  (f6:∀(w:World) (H:Hp) (a:Addr) (ns:List Int),ns.length<=n->ZbZ H->YF (K w.params) H a (ns.map V.int)->sp w [.ref a] H (fun v _=>v=.bl true) fun _ _ _=>False)
  (f7:∀(w:World) (H:Hp) (s:Shared) (e:Value) (s':Shared),CX w [] H s (fun _ _ _=>False) e s'->False) :
  eG q loose XP YP l.row.toRowW d [] (fun f vs=>eE f vs):=by
 refine Att.J9 hn O fun w f9 D B mb L o pm cd g8 a vs ns G Y ho hd g9 f8 J z j hg=>?_;have KX:=hY w _ Y;obtain⟨U,hb,hF⟩:=F w B L _ KX G.T.g f8;exact Uq KX G.T.g G.T.b G.T.builtins G.T.nolimit hg J z (aF j M) hr hF hb (fun H hO hS=>f6 w H a ns j hO hS) fun H e s'=>f7 w H D e s'
noncomputable def Yc (s:Stmt):Arguments:=match s with
 | .FunctionDef _ a _ _ _ _ _ _ _ _=>a
 |_=>{posonlyargs:=[],args:=[],vararg:=none,kwonlyargs:=[],kw_defaults:=[],kwarg:=none,defaults:=[]}
noncomputable def Z6 (s:Stmt):List Stmt:=match s with
 | .FunctionDef _ _ b _ _ _ _ _ _ _=>b
 |_=>[]
noncomputable def ZK (s:Stmt):a6:=match s with
 | .FunctionDef _ _ _ _ _ _ j _ _ _=>j
 |_=>{kind:=.function,names:=[],isGenerator:=false,isCoroutine:=false}
noncomputable abbrev YL:Xe:=fun _ _ _ _ _ _=>False
noncomputable abbrev E0:XK:=fun _ _ _=>False
theorem Z0 {X:Cx}:JH YL X E0:=fun _ _ _ _ _ _ _ h=>h.elim
structure WW (K:aa)(x qual:Str)(st:Stmt)(f:Addr)(fd:FuncData):Prop where
 ex:∃(oc:Value) (od:Option Addr) (kV doc pm:Value) (an:Option Addr) (cdv ct:Value) (osl:Array (Option Value)),
  fd=aL x qual (Yc st) (Z6 st) (ZK st) .none kV doc pm an cdv ct/\K.lookup f=some ⟨oc,od,.func fd,osl⟩/\bv K cdv qual=true
 kp:bi K (.ref f)=true
section
variable {P:Program}{w:World}{K:aa}{mg:Str->Option Value}{base:Heap}
theorem WW.ok {x j:Str}{st:Stmt}{f:Addr}{fd:FuncData}{N J:List Str}{k:Nat}{sp:Sp}(F:WW K x j st f fd)(S:Wx N J (ZK st))(len:∀B H Q E,sp B H Q E->B.length=J.length)
  (D:∀(z:Value) (A:Around) (outer:List Env) (s:Shared) (H:Hp) (B:List V) (Q:VK) (E:XK),Yp k (A.deeper (envOfC j (ZK st) s.heap.objs.size f z))->sp B H Q E->
   ∃t,Xa (VD YL P w K mg base N j (ZK st) f z A outer s H E).nox (Z6 st) t/\t {nx:=fun _ O=>Q .non O,rt:=Q} (start N B) H):Yd P w K mg base YL (k+1) f fd J sp:=by
 obtain⟨oc,od,kV,doc,pm,an,z,ct,U,rfl,lk,L⟩:=F.ex;refine ZcK lk L S len fun A outer s H B Q E Y M=>?_;obtain⟨t,h,q⟩:=D z A outer s H B Q E Y M;exact⟨t,h.nox,q⟩
theorem WW.binds {x j:Str}{st:Stmt}{f:Addr}{fd:FuncData}{z:List Str}(F:WW K x j st f fd)
  (h:∀(kV doc pm:Value) (an:Option Addr) (q ct:Value) (us:List Value),us.length=z.length->bindArgs (aL x j (Yc st) (Z6 st) (ZK st) .none kV doc pm an q ct) ⟨us,[]⟩=pure (z.zip us)):Binds K fd z []:=by
 obtain⟨J,L,kV,doc,pm,an,q,ct,B,rfl,lk,D⟩:=F.ex;exact .all (h kV doc pm an q ct)
theorem Xw {x j:Str}{st:Stmt}{f:Addr}{B:Value}{D an:Option Addr}{z:Array (Option Value)}{kV doc pm q ct:Value}(l:K.lookup f=some ⟨B,D,.func (aL x j (Yc st) (Z6 st) (ZK st) .none kV doc pm an q ct),z⟩)
  (c:bv K q j=true) (k:bi K (.ref f)=true):WW K x j st f (aL x j (Yc st) (Z6 st) (ZK st) .none kV doc pm an q ct):=⟨⟨B,D,kV,doc,pm,an,q,ct,z,rfl,l,c⟩,k⟩
end
section
variable {X:Cx}
end
theorem Zay {A B:Prop}(h:A):if true=true then A else B:=by
 rw[if_pos rfl];exact h
theorem ZZ {c A B:Prop} [Decidable c](j:c->A)(q:¬c->B):if c then A else B:=by
 by_cases h:c
 ·rw[if_pos h]
  exact j h
 ·rw[if_neg h]
  exact q h
noncomputable def Zy (H j:Hp):Prop:=∀b o,H b=some o->j b=some o
theorem Zy.refl (H:Hp):Zy H H:=fun _ _ h=>h
theorem Zy.trans {H H1 j:Hp}(a:Zy H H1)(b:Zy H1 j):Zy H j:=fun c o h=>b c o (a c o h)
theorem Zy.free {H j:Hp}(e:Zy H j){l:Addr}(h:j l=Option.none):H l=Option.none:=by
 cases q:H l with
 |none=>rfl
 |some o=>
  rw[e l o q] at h;cases h
theorem Zy.seq {K:aa}{H j:Hp}{a:Addr}{xs:List V}(e:Zy H j)(h:YF K H a xs):YF K j a xs:=by
 rcases h with (h|⟨o,h⟩)|h
 ·exact .inl (.inl (e _ _ h))
 ·exact .inl (.inr ⟨o,e _ _ h⟩)
 ·exact .inr h
end L2
set_option maxHeartbeats 4000000
namespace L2
open PySem PySem.Spec PyProof.Rows
structure YJ (N:List Str)(esc:a6)(own:List Str)(caps:List Nat)(N':List Str)(sc:a6):Prop where
 kind:sc.kind=.function
 ndn:(sc.names.map (·.1)).Nodup
 uniq:∀y∈sc.names,y.2=.local->sc.names.lookup y.1=some .local
 nd:N'.Nodup
 eqN:N'=own++caps.map fun j=>N.getD j ""
 cap:∀j∈caps,j<N.length/\sc.names.lookup (N.getD j "")=some .free
 fr:∀y∈sc.names,y.2=.free->esc.names.lookup y.1=some .cell\/esc.names.lookup y.1=some .free
noncomputable def J6 (z:List Str)(q:List Nat)(B:St):St:=ae z.length none++q.map fun j=>(B[j]?).join
theorem YV {env:Env}:∀(names:List (Str×bq)) (acc:List (Str×Addr)),(∀y∈names,y.2=.free->∃c,env.cells.lookup y.1=some c)->(∀y c,acc.lookup y=some c->env.cells.lookup y=some c)->
  ∃z,(forIn names acc (fun x r=>if (x.2 == bC)=true then (do let c <-cellOf env x.1;pure (aU ((x.1,c)::r))) else pure (aU r)):Sem (List (Str×Addr)))=pure z/\
   (∀y c,z.lookup y=some c->env.cells.lookup y=some c)/\(∀y,(∃c,acc.lookup y=some c)->∃c,z.lookup y=some c)/\∀y∈names,y.2=.free->∃c,z.lookup y.1=some c
 | [],acc,_,D=>⟨acc,rfl,D,fun _ h=>h,fun _ h=>absurd h (by simp)⟩
 | (n,k)::r,acc,M,D=>by
  rw[List.forIn_cons];by_cases O:k=.free
  ·subst O
   obtain⟨c,hc⟩:=M (n,.free) ah rfl;have U:∀y d,((n,c)::acc).lookup y=some d->env.cells.lookup y=some d:=fun y d e=>by
    rw[a7] at e;cases q:y == n with
    |true=>rw[q] at e;cases e;rw[beq_iff_eq.mp q];exact hc
    |false=>rw[q] at e;exact D y d e
   obtain⟨z,e,Y,J,h3⟩:=YV r ((n,c)::acc) (fun y j=>M y (ag _ j)) U;have hh:∀y,(∃d,acc.lookup y=some d)->∃d,((n,c)::acc).lookup y=some d:=fun y ⟨d,hd⟩=>by
    rw[a7];cases q:y == n with
    |true=>exact⟨c,rfl⟩
    |false=>exact⟨d,hd⟩
   have hs:∃d,((n,c)::acc).lookup n=some d:=⟨c,by rw[a7,beq_self_eq_true]⟩;refine⟨z,?_,Y,fun y j=>J y (hh y j),fun y j L=>?_⟩
   ·have B:cellOf env n=pure c:=by simp only[cellOf,hc]
    simp only[beq_self_eq_true,if_true,B];simp only[pure_bind];exact e
   ·rcases aj.mp j with rfl|j
    ·exact J _ hs
    ·exact h3 y j L
  ·obtain⟨z,e,Y,J,h3⟩:=YV r acc (fun y j=>M y (ag _ j)) D
   refine⟨z,?_,Y,J,fun y j L=>?_⟩
   ·have hb:(k == bC)=false:=by simpa using O
    simp only[hb,eT,if_false,pure_bind];exact e
   ·rcases aj.mp j with rfl|j
    ·exact absurd L O
    ·exact h3 y j L
theorem XC {scope:a6}{env:Env}(h:∀y∈scope.names,y.2=.free->∃c,env.cells.lookup y.1=some c) :
  ∃j,closureFor scope env=pure j/\(∀y c,j.lookup y=some c->env.cells.lookup y=some c)/\∀y∈scope.names,y.2=.free->∃c,j.lookup y.1=some c:=by
 obtain⟨j,e,z,_,B⟩:=YV (env:=env) scope.names [] h (fun y c e=>by simp at e);refine⟨j,?_,z,B⟩;have q:closureFor scope env=((forIn scope.names ([]:List (Str×Addr)) (fun x r=>if (x.2 == bC)=true then (do let c <-cellOf env x.1;pure (aU ((x.1,c)::r))) else pure (aU r)):Sem (List (Str×Addr))) >>= fun D=>pure D):=rfl
 rw[q,e];rfl
theorem Yh {names:List (Str×bq)}{x:Str}{k:bq}(h:names.lookup x=some k):(x,k)∈names:=aB h
theorem Z5 {env:Env}{x:Str}:∀{names:List (Str×bq)}{k:bq},
  (names.map fun (n,k)=>if (k == bC && env.scope.kind == .function && env.kindOf n == some .cell) then (n,ba) else (n,k)).lookup x=some k->
  names.lookup x=some k\/(k=.cell/\names.lookup x=some .free)
 | [],_,h=>by simp at h
 | (n,j)::r,k,h=>by
  have D:=@Z5 env x r k;have h:List.lookup x ((if (j == bC && env.scope.kind == .function && env.kindOf n == some .cell)=true then (n,ba) else (n,j))::_)=some k:=h
  rw[a7];by_cases z:(j == bC && env.scope.kind == .function && env.kindOf n == some .cell)=true
  ·rw[if_pos z,a7] at h
   have B:j=.free:=by
    simp only[aS,beq_iff_eq] at z;exact z.1.1
   cases q:x == n with
   |true=>rw[q] at h;cases h;right;exact⟨rfl,by rw[B]⟩
   |false=>rw[q] at h;exact D h
  ·rw[if_neg z,a7] at h
   cases q:x == n with
   |true=>rw[q] at h;cases h;left;rfl
   |false=>rw[q] at h;exact D h
section
variable {X:Cx}
noncomputable def UM (scope:a6)(x:Str):Bool:=scope.names.any fun y=>y.1 == x && (match y.2 with | .cell=>true|_=>false)
theorem VG {scope:a6}{x:Str}(h:UM scope x=true):(x,ba)∈scope.names:=by
 unfold UM at h;obtain⟨⟨n,k⟩,hm,j⟩:=List.any_eq_true.mp h;rw[aS] at j;obtain⟨q,z⟩:=j;have e:n=x:=by simpa using q
 subst e;cases k <;> first|exact hm|cases z
theorem Wh {x:Str}{k:bq}:∀{names:List (Str×bq)},(names.map (·.1)).Nodup->(x,k)∈names->names.lookup x=some k
 | [],_,h=>by cases h
 | (n,j)::r,nd,h=>by
  rw[aE,bt] at nd;rw[a7];rcases aj.mp h with e|h
  ·cases e
   simp
  ·have:(x == n)=false:=by
    refine Bool.eq_false_iff.mpr fun z=>nd.1 ?_;rw[<-beq_iff_eq.mp z];exact ea.mpr ⟨_,h,rfl⟩
   rw[this];exact Wh nd.2 h
theorem YI:∀(names:List (Str×bq)) (n:Nat) (acc:List (Str×Addr)),cellsFrom n names acc=cellsFrom n names []++acc
 | [],n,acc=>rfl
 |(x,k)::r,n,acc=>by
  unfold cellsFrom;by_cases j:(k == ba)=true
  ·rw[if_pos j,if_pos j,YI r (n+1) ((x,n)::acc),YI r (n+1) [(x,n)],ay]
   rfl
  ·rw[if_neg j,if_neg j,YI r n acc]
theorem Wp {x:Str}{c:Addr}:∀(names:List (Str×bq)) (n:Nat) (acc:List (Str×Addr)),(x,c)∈cellsFrom n names acc->(x,ba)∈names\/(x,c)∈acc
 | [],n,acc,h=>.inr h
 | (y,k)::r,n,acc,h=>by
  unfold cellsFrom at h;by_cases j:(k == ba)=true
  ·rw[if_pos j] at h
   rcases Wp r (n+1) _ h with z|z
   ·exact .inl (ag _ z)
   ·rcases aj.mp z with e|z
    ·cases e
     have:k=.cell:=by cases k <;> first|rfl|cases j
     rw[this];exact .inl ah
    ·exact .inr z
  ·rw[if_neg j] at h
   rcases Wp r n _ h with z|z
   ·exact .inl (ag _ z)
   ·exact .inr z
theorem Zar {M:eN}{A:Around}{E:Value->Shared->Prop}{s:Shared}{scope:a6}{globals:Addr}{B:List (Str×Addr)}{qual:Str}{j:Env}{Q:Env->Shared->Prop}
  (J:Q (newEnv scope s.heap.objs.size globals (cellsFrom (s.heap.objs.size+1) scope.names B) qual none .none (some j) builtinsNs) {s with heap:=pushCells (s.heap.push {cls:=.type "dict",data:=.dict #[]}) scope.names}) :
  wpAny M A (newFunctionEnv scope globals B [] qual none .none (some j)) Q E s:=by
 unfold newFunctionEnv;refine Zl (wpAny_alloc ?_);refine Zl (wpAny_layCells _ (fun D kind q=>by cases z:kind == ba <;> simp[z]) _ _ _ _ ?_)
 rw[show ({s with heap:=s.heap.push {cls:=.type (if (some j).isSome=true then "dict" else "frame"),data:=.dict #[]}}:Shared).heap.objs.size=s.heap.objs.size+1 from bn ..]
 exact Zl (by rw[List.forIn_nil];exact Zm (Zm J))
noncomputable def Yn (X:Cx)(scope:a6)(j:List (Str×Addr))(q:List Str)(C:Addr)(s:Shared)(H:Hp)(ex:List Addr):Cx:=
 {X with N:=q,s₀:=s,H₀:=H,env:=compEnvC scope j C X.env,outer:=X.stack,ex:=ex,fn:=UM scope,pn:=[],xe:=fun _ _=>False}
noncomputable def Xc (O:List Str)(q:List Nat)(g:TG)(tc:TT)(te:TE)(σ:St)(Q:VK)(J:It)(H1:Hp):Prop:=∀D,H1 D=none->
 ∃W:Nat->Nat->St->Hp->Prop,(∃m,W 0 m (J6 O q σ) (upd H1 D (.lst [])))/\∀i m z B,W i m z B->
  (J.stop i B/\Q (.ref D) B)\/(J.go i B/\∃N:St->Hp->Prop,(∀ L M,N L M->∃Y,Y<m/\W (i+1) Y L M)/\∀x M,J.yld i B x M->g x z M fun j H3=>tc j H3 fun b H4=>
   if b=true then te j H4 fun v H5=>∃U,H5 D=some (.lst U)/\U.length<sizeLine/\N j (upd H5 D (.lst (U++[v]))) else N j H4)
noncomputable def ZaW (q:List Str)(j:List Nat)(B:TI)(g:TG)(D:TT)(L:TE):TE:=fun z H Q=>B z H fun J M=>Xc q j g D L z Q J M
noncomputable def JJ:TT:=fun _ H Q=>Q true H
noncomputable def PIf (X:Cx)(q:List Expr)(t:TT):Prop:=
 ∀(j:List (Addr×Obj)) (s:Shared) (z:St) (H:Hp) (Q:Bool->Hp->Prop),Inv X j z H s->t z H Q->
  wpAny (model X.prog X.w) X.A (forIn q true fun c r=>if r=true then do let ok <-isTrue c X.env (eval c X.env);pure (aU ok) else pure (aU r)) (TP X j z Q) X.xe s
theorem Zac:PIf X [] JJ:=fun _ _ _ H _ I h=>wpAny_tests_nil ⟨H,I,h⟩
theorem Zab {c:Expr}{t:TT}(h:PT X c t):PIf X [c] t:=fun j s z H Q I q=>wpAny_tests_one (h j s z H Q I q)
theorem YE {prog:Program}{w:World}{A:Around}{R:Result->Shared->Prop}{s:Shared}{elt j iter:Expr}{ifs:List Expr}{scope:a6}{pos:Pos}{it Y:Value}{env:Env}(I:Nat->Shared->Prop)
  (turn:∀n s,I n s->wpAny (model prog w) A (pyNext it) (fun r q=>match r with
   |none=>R (.ok .next) q
   |some v=>wpAny (model prog w) A (letOwnedTupleGo j it v) (fun _ z=>wpAny (model prog w) A (assign j env v) (fun _ J=>
     wpAny (model prog w) A (forIn ifs true fun c r=>if r=true then do let ok <-isTrue c env (eval c env);pure (aU ok) else pure (aU r)) (fun ok B=>
      if ok=true then wpAny (model prog w) A (eval elt env) (fun x L=>
       wpAny (model prog w) A (call (.builtin "list.append") [Y,x]) (fun _ M=>∃m,m<n/\I m M) (fun _ _=>False) L) (fun _ _=>False) B
      else ∃m,m<n/\I m B) (fun _ _=>False) J) (fun _ _=>False) z) (fun _ _=>False) q) (fun _ _=>False) s)
  (n:Nat) (h:I n s) :
  codeAny (model prog w) A (.compLoop (.ListComp elt [⟨j,iter,ifs,0⟩] scope pos) 0 it Y env) R s:=by
 refine codeAny_loop rfl I (fun n s hI=>?_) n h;show wpAny _ A ((compTurn (.ListComp elt [⟨j,iter,ifs,0⟩] scope pos) 0 it Y env).onRaise (fun x=>do noteFrame x env;theTreesLotGoes x)) _ _ s
 refine wpAny_noted ?_;rw[compTurn_list];refine Zl (wpAny_standAt (Zl (aW (turn n s hI) (fun r q O=>?_) fun _ _ D=>D.elim)));cases r with
 |none=>exact Zm O
 |some v=>
  refine Zl (aW O (fun _ z f6=>?_) fun _ _ D=>D.elim);refine Zl (aW f6 (fun _ J f7=>Zl (aW f7 (fun ok B U=>?_) fun _ _ D=>D.elim)) fun _ _ D=>D.elim);cases ok with
  |false=>exact Zm ⟨rfl,U⟩
  |true=>
   exact Zl (Zl (aW U (fun x L f8=>Zl (aW f8 (fun _ M f9=>Zm (Zm ⟨rfl,f9⟩)) fun _ _ D=>D.elim)) fun _ _ D=>D.elim))
theorem XA {own:List Str}{i1:List Nat}{N':List Str}{m4 scope:a6}{elt iter tg:Expr}{ifs:List Expr}{pos:Pos}{g:TG}{tc:TT}{te:TE}{cl:List (Str×Addr)}
  (m5:X.env.scope=m4) (S:YJ X.N m4 own i1 N' scope) (hc:X.calm=true)
  (f6:∀y c,cl.lookup y=some c->X.env.cells.lookup y=some c) (j5:∀y∈scope.names,y.2=.free->∃c,cl.lookup y.1=some c)
  (hg:∀cl C s H ex,PG (Yn X scope cl N' C s H ex) tg g) (ht:∀cl C s H ex,PIf (Yn X scope cl N' C s H ex) ifs tc) (he:∀cl C s H ex,PE (Yn X scope cl N' C s H ex) elt te)
  {f8:List (Addr×Obj)}{σ:St}{H2:Hp}{s2:Shared}{it:Addr}{fp:List Addr}{tn:Nat->Heap->Prop}{J:It}{Q:VK}{RR:Value->Addr->Result->Shared->Prop}{E:Value->Shared->Prop}
  (I2:Inv X f8 σ H2 s2) (T:XF X.prog X.w X.K tg J fp it tn) (j9:tn 0 s2.heap) (f2:∀b∈fp,WQ X f8 H2 b)
  (h:Xc own i1 g tc te σ Q J H2)
  (o9:∀D C s' m U,s'.heap.Ns C m->C≠X.env.locals->(∀x c,X.env.cells.lookup x=some c->c≠C)->X.s₀.heap.objs.size<=C->(∀p∈X.pn++f8,p.1≠C)->U C=none->Q (.ref D) U->(∀h',aJ C s'.heap h'->Inv X f8 σ U {s' with heap:=h'})->RR (.ref D) C (.ok .next) s') :
  wpAny (model X.prog X.w) X.A (newList []) (fun m6 m7=>wpAny (model X.prog X.w) X.A (newFunctionEnv scope X.env.globals cl [] X.env.qual none .none (some X.env)) (fun j6 m8=>
   codeAny (model X.prog X.w) X.A (.compStart (.ListComp elt [⟨tg,iter,ifs,0⟩] scope pos) 0 (.ref it) m6 {j6 with scope:=relabel scope X.env}) (RR m6 j6.locals) m8) E m7) E s2:=by
 refine cr (Zar ?_);dsimp only;have hD:H2 s2.heap.objs.size=none:=I2.hok.fresh (Zq _);obtain⟨W,⟨m0,w0⟩,m9⟩:=h _ hD;generalize k7:s2.heap.push {cls:=.type "list",dict:=none,data:=.seq ([]:List Value).toArray}=L;have hC:L.objs.size=s2.heap.objs.size+1:=by rw[<-k7,bn]
 have j7:∀b o,s2.heap.get? b=some o->L.get? b=some o:=fun b o e=>k7▸Zn _ e;have Y:Inv X f8 σ (upd H2 s2.heap.objs.size (.lst [])) {s2 with heap:=L,toks:=s2.toks}:=
  I2.laid (t':=s2.toks) j7 (Zq _) ⟨aQ _,[],0,.nil,k7▸Zo _ rfl⟩
 generalize k8:pushCells (L.push {cls:=.type "dict",data:=.dict #[]}) scope.names=f9;have k1:∀b o,L.get? b=some o->f9.get? b=some o:=fun b o e=>k8▸pushCells_keeps _ _ b o (Zn _ e);have i6:f9.Ns L.objs.size (fun _=>none):=k8▸(Heap.Ns.new L (.type "dict")).keeps (pushCells_keeps _ _);have i7:CellsOk f9 (L.objs.size+1) (cellsFrom (L.objs.size+1) scope.names []):=by
  have q:=cellsFrom_ok scope.names (L.push {cls:=.type "dict",data:=.dict #[]}) (L.objs.size+1) [] ⟨fun _ _ hm=>(nomatch hm),dI⟩ (by rw[bn];exact Zq _);rw[bn,k8] at q;exact q
 have i2:cellsFrom (L.objs.size+1) scope.names cl=cellsFrom (L.objs.size+1) scope.names []++cl:=YI _ _ _;have g9:∀y,scope.names.lookup y=some .cell->∃c,(cellsFrom (L.objs.size+1) scope.names []).lookup y=some c:=fun y hy=>dH.mp (b8 scope.names (L.objs.size+1) [] (.inl hy));generalize p0:cellsFrom (L.objs.size+1) scope.names []=cA at i7 i2 g9;have n4:∀y c,cA.lookup y=some c->(y,ba)∈scope.names:=fun y c e=>by
  have:=aB e;rw[<-p0] at this;rcases Wp _ _ _ this with z|z
  ·exact z
  ·cases z
 generalize u0:cellsFrom (L.objs.size+1) scope.names cl=cE at i2;have i3:∀y c,cE.lookup y=some c->cA.lookup y=some c\/(cA.lookup y=none/\cl.lookup y=some c):=fun y c e=>by
  rw[i2,cU] at e;cases q:cA.lookup y with
  |none=>rw[q] at e;exact .inr ⟨rfl,by simpa using e⟩
  |some c'=>rw[q] at e;exact .inl (by simpa using e)
 have n5:∀y c,scope.names.lookup y=some .free->cl.lookup y=some c->cE.lookup y=some c:=fun y c hy e=>by
  rw[i2,cU];cases q:cA.lookup y with
  |none=>simpa using e
  |some c'=>
   have:=Wh S.ndn (n4 y c' q);rw[hy] at this;cases this
 have p4:∀b∈fp,upd H2 s2.heap.objs.size (.lst []) b=none:=fun b hb=>by
  obtain⟨o,ho,_⟩:=T.obj _ _ j9 b hb;rw[ZD (aw (Zp ho))];exact (f2 b hb).1
 have i4:∀b∈fp,b<L.objs.size:=fun b hb=>by
  obtain⟨o,ho,_⟩:=T.obj _ _ j9 b hb;rw[hC];exact Nat.lt_succ_of_lt (Zp ho)
 generalize B:Yn X scope cE N' L.objs.size {s2 with heap:=L,toks:=s2.toks} (upd H2 s2.heap.objs.size (.lst [])) fp=X';have n8:X'.fs=VL X.stack:=by rw[<-B];rfl
 have k9:∀y,X'.env.kindOf y=some .cell\/X'.env.kindOf y=some .free->∃c,cE.lookup y=some c:=fun y hy=>by
  have p5:(relabel scope X.env).names.lookup y=some .cell\/(relabel scope X.env).names.lookup y=some .free:=by rw[<-B] at hy;exact hy
  have hf:scope.names.lookup y=some .free->∃c,cE.lookup y=some c:=fun hf=>by
   obtain⟨c,h8⟩:=j5 _ (Yh hf) rfl;exact⟨c,n5 y c hf h8⟩
  have i8:scope.names.lookup y=some .cell->∃c,cE.lookup y=some c:=fun hf=>by
   obtain⟨c,h8⟩:=g9 y hf;exact⟨c,by rw[i2,cU,h8];rfl⟩
  rcases p5 with q|q
  ·rcases Z5 q with z|z
   ·exact i8 z
   ·exact hf z.2
  ·rcases Z5 q with z|z
   ·exact hf z
   ·exact absurd z.1 (by decide)
 have f7:X'.env.cells=cE:=by rw[<-B];rfl
 have g8:X'.env.locals=L.objs.size:=by rw[<-B];rfl
 have cne:∀x c,cl.lookup x=some c->c≠L.objs.size/\c<L.objs.size:=fun x c e=>by
  obtain⟨v,q⟩:=Y.cell x c (f6 x c e);exact⟨aw q.lt,q.lt⟩
 have M:∀x c,cA.lookup x=some c->L.objs.size+1<=c:=fun x c e=>(i7.empty x c (aB e)).2;have n9:∀x y c,cE.lookup x=some c->cE.lookup y=some c->x=y:=fun x y c a b=>by
  rcases i3 x c a with a|⟨_,a⟩ <;> rcases i3 y c b with b|⟨_,b⟩
  ·exact name_of_addr i7.apart (aB a) (aB b)
  ·have h1:L.objs.size+1<=c:=M x c a
   exact absurd (am (cne y c b).2 (bj h1)) (aR _)
  ·have h1:L.objs.size+1<=c:=M y c b
   exact absurd (am (cne x c a).2 (bj h1)) (aR _)
  ·exact Y.ok.inj x y c (f6 x c a) (f6 y c b)
 have p6:X'.Ok:=by
  refine B▸⟨Y.ok.mod,S.kind,Y.ok.glob,Y.ok.blt,Zq _,n9,?_,?cab,Y.ok.hd,Y.ok.frames,.inl rfl,?_,?_,?_,?_,?_,Y.stack,Y.stkFree⟩
  ·intro y hy
   exact k9 y (by rw[<-B];exact hy)
  ·intro x c z e
   have hm:=Wh S.ndn (VG z);rcases i3 x c e with e|⟨n,_⟩
   ·exact bj (M x c e)
   ·obtain⟨c',h8⟩:=g9 x hm
    rw[n] at h8;cases h8
  ·intro b hb
   refine⟨aw (i4 b hb),fun x c e=>?_⟩;rcases i3 x c e with e|⟨_,e⟩
   ·have h1:L.objs.size+1<=c:=M x c e
    exact fun z=>absurd (am (i4 b hb) (bj h1)) (by rw[z];exact aR _)
   ·exact (f2 b hb).2.2.2.2.1 x c (f6 x c e)
  ·exact Y.bs
  ·exact aF Y.ok.bsz Y.sz
  ·intro b o e hb
   rcases (f2 b hb).2.2.2.1 with z|z
   ·exact Y.ok.noex b o e z
   ·exact absurd (am (Zp e) (aF Y.ok.bsz z)) (aR _)
  ·intro b hb z
   rcases aj.mp (Y.stkSub b z) with e|e
   ·exact (f2 b hb).2.1 e
   ·exact (f2 b hb).2.2.1 e
 have I4:Inv X' [] (J6 own i1 σ) (upd H2 s2.heap.objs.size (.lst [])) {s2 with heap:=f9,toks:=s2.toks}:=by
  refine⟨p6,B▸rfl,Y.bare,?_,⟨_,by rw[g8];exact i6,?_⟩,?_,?_,?_,?_,?_,?_⟩
  ·rw[<-B];exact Un.kept k1
  ·intro i x v hN i0 hV
   have l4:N'[i]?=some x:=by rw[<-B] at hN;exact hN
   unfold J6 at i0;by_cases hi:i<own.length
   ·rw[bV (by simpa using hi),dW] at i0
    rw[if_pos hi] at i0;cases i0
   ·rw[aT (by simpa using hi),Ze,Zc] at i0
    rw[S.eqN,aT (by omega),Zc] at l4;cases hj:i1[i-own.length]? with
    |none=>rw[hj] at i0;cases i0
    |some j=>
     rw[hj] at i0 l4;have hx:X.N.getD j ""=x:=az l4;obtain⟨o0,i5⟩:=S.cap j (aZ hj);rw[hx] at i5;have p7:X.N[j]?=some x:=by
      rw[Zf o0,<-hx,Zb,Zf o0];rfl
     have hv:σ[j]?=some (some v):=by
      have q:(σ[j]?).join=some v:=az i0;cases q':σ[j]? with
      |none=>rw[q'] at q;cases q
      |some o=>rw[q'] at q;rw[show o=some v from q]
     have l5:=S.fr (x,.free) (Yh i5) rfl;rw[<-m5] at l5;obtain⟨m,hn,hl⟩:=Y.loc;have o1:Vis X.env.scope x:=l5.elim (fun z=>.inr (.inl z)) fun z=>.inr (.inr z);obtain⟨u,ru,o2⟩:=hl j x v p7 hv o1;refine⟨u,ru,?_⟩;obtain⟨c,i8⟩:=j5 (x,.free) (Yh i5) rfl;rcases o2 with ⟨a,_⟩|⟨_,c',h8,l7⟩
     ·rcases l5 with z|z
      ·rw[show X.env.kindOf x=X.env.scope.names.lookup x from rfl,z] at a;cases a
      ·rw[show X.env.kindOf x=X.env.scope.names.lookup x from rfl,z] at a;cases a
     ·have:c'=c:=by rw[f6 _ _ i8] at h8;cases h8;rfl
      subst this;refine .inr ⟨?_,c',by rw[f7];exact n5 _ _ i5 i8,l7.keeps k1⟩;rcases hV with q|q|q
      ·have q':(relabel scope X.env).names.lookup x=some .local:=by rw[<-B] at q;exact q
       rcases Z5 q' with z|z
       ·rw[i5] at z;cases z
       ·exact absurd z.1 (by decide)
      ·exact .inl q
      ·exact .inr q
  ·intro x c e
   rw[f7] at e;rcases i3 x c e with e|⟨_,e⟩
   ·exact⟨_,(i7.empty x c (aB e)).1⟩
   ·obtain⟨v,q⟩:=Y.cell x c (f6 x c e)
    exact⟨v,q.keeps k1⟩
  ·rw[g8];exact Y.hok.fresh (Zq _)
  ·intro x c e
   rw[f7] at e;rcases i3 x c e with e|⟨_,e⟩
   ·exact Y.hok.fresh (bj (M x c e))
   ·exact Y.freeC x c (f6 x c e)
  ·intro p hp
   have:p∈([]:List (Addr×Obj)):=by rw[<-B] at hp;exact hp
   cases this
  ·rw[<-B];exact Y.hok.kept k1
  ·rw[<-B]
   show (J6 own i1 σ).length=N'.length;unfold J6;rw[S.eqN,Zd,Zd,Ze,Za,Za]
 have pX:X'.prog=X.prog:=by rw[<-B];rfl
 have wX:X'.w=X.w:=by rw[<-B];rfl
 have KX:X'.K=X.K:=by rw[<-B];rfl
 have AX:X'.A=X.A:=by rw[<-B];rfl
 have cX:X'.calm=true:=by rw[<-B];exact hc
 have xX:X'.xe=fun _ _=>False:=by rw[<-B];rfl
 have envX:X'.env=compEnvC scope cE L.objs.size X.env:=by rw[<-B];rfl
 have o3:X'.ex=fp:=by rw[<-B];rfl
 have p8:PG X' tg g:=B▸hg _ _ _ _ _;have p9:PIf X' ifs tc:=B▸ht _ _ _ _ _;have q0:PE X' elt te:=B▸he _ _ _ _ _;have l8:∀{U:Hp},(∀b∈fp,U b=none)->∀b∈fp,WQ X' [] U b:=fun {U} hn b hb=>by
  refine⟨hn b hb,?_,?_,?_,?_,?_⟩
  ·rw[g8];exact aw (i4 b hb)
  ·rw[n8];intro z
   rcases aj.mp (Y.stkSub b z) with e|e
   ·exact (f2 b hb).2.1 e
   ·exact (f2 b hb).2.2.1 e
  ·rw[o3];exact .inl hb
  ·intro x c e
   rw[f7] at e;rcases i3 x c e with e|⟨_,e⟩
   ·have h1:L.objs.size+1<=c:=M x c e
    exact fun z=>absurd (am (i4 b hb) (bj h1)) (by rw[z];exact aR _)
   ·exact (f2 b hb).2.2.2.2.1 x c (f6 x c e)
  ·intro p hp
   have:p∈([]:List (Addr×Obj)):=by rw[<-B] at hp;exact hp
   cases this
 have o4:tn 0 f9:=T.keep _ _ _ j9 fun b hb o e=>k1 b o (j7 b o e);have back:∀{O:St}{U:Hp}{s':Shared}{pp:List (Addr×Obj)}{h':Heap},Inv X' pp O U s'->aJ L.objs.size s'.heap h'->Inv X f8 σ U {s' with heap:=h'}:=fun {O U s' pp h'} I' sb=>by
  have u:=I'.base;rw[n8,o3] at u;have r8:X'.s₀.heap=L:=by rw[<-B];rfl
  have r9:X'.H₀=upd H2 s2.heap.objs.size (.lst []):=by rw[<-B];rfl
  rw[r8,r9] at u;have ne:∀b o,L.get? b=some o->b≠L.objs.size:=fun b o e=>aw (Zp e);have o5:U L.objs.size=none:=by have:=I'.free;rw[g8] at this;exact this
  refine Y.call' (s':={s' with heap:=h'}) (ch:=fp) ?_ ⟨?_,?_,?_,?_,?_,?_,?_⟩ ?_ I'.bare ?_
  ·have:=I'.os;rw[<-B] at this;exact this
  ·intro b o e n hb hx;exact sb.extBut b o (ne b o e) (u.keep b o e n hb hx)
  ·intro b o e n hb hx
   obtain⟨sl,q⟩:=u.slot b o e n hb hx;exact⟨sl,sb.extBut b _ (ne b o e) q⟩
  ·exact u.free
  ·intro b o e hx
   obtain⟨o',q⟩:=u.there b o e hx;exact⟨o',sb.extBut b _ (ne b o e) q⟩
  ·exact u.tups
  ·exact u.frzs
  ·exact u.tbls
  ·have o6:=I'.hok
   rw[pX,wX] at o6;intro a o e;refine (o6 a o e).stay (fun b v hb r=>sb.extBut b v ?_ r) (fun b r=>r) fun b xs r=>r;rcases hb with rfl|hb
   ·intro z;rw[z,o5] at e;cases e
   ·intro z;rw[z,o5] at hb;cases hb
  ·intro b hb
   refine⟨(f2 b hb).2.2.2.1,(f2 b hb).2.1,(f2 b hb).2.2.2.2.1,(f2 b hb).2.2.2.2.2⟩
 have j8:∀s3:Shared,s3={s2 with heap:=f9,toks:=s2.toks}->
   codeAny (model X.prog X.w) X.A (.compLoop (.ListComp elt [⟨tg,iter,ifs,0⟩] scope pos) 0 (.ref it) (.ref s2.heap.objs.size) (compEnvC scope cE L.objs.size X.env)) (RR (.ref s2.heap.objs.size) L.objs.size) s3:=by
  rintro s3 rfl;refine YE (fun n s'=>∃i O U,Inv X' [] O U s'/\tn i s'.heap/\(∀b∈fp,U b=none)/\W i n O U) ?_ m0 ⟨0,_,_,I4,o4,p4,w0⟩;rintro n s5 ⟨i,i9,H5,I5,o7,o8,w5⟩;rcases m9 i n i9 H5 w5 with ⟨stop,qn⟩|⟨go,N,hN,step⟩
  ·have q:=T.done X' pX wX KX cX i [] s5 i9 H5 (fun _ _=>False) I5 (l8 o8) o7 stop
   rw[AX] at q;refine ZN q fun r s6 ⟨hr,I6⟩=>?_;subst hr;obtain⟨m,hn,_⟩:=I6.loc;rw[g8] at hn;refine o9 _ _ s6 m H5 hn ?_ ?_ Y.sz ?_ ?_ qn fun h' sb=>back I6 sb
   ·exact bc Y.lt
   ·intro x c e
    obtain⟨v,q⟩:=Y.cell x c e;exact aw q.lt
   ·intro pp t0
    exact aw (Zp (Y.pin pp t0).1)
   ·have:=I6.free;rw[g8] at this;exact this
  ·have q:=T.item X' pX wX KX cX i [] s5 i9 H5 (fun _ _=>False) I5 (l8 o8) o7 go
   rw[AX] at q;refine ZN q fun r s6 ⟨u,hr,h6⟩=>?_;subst hr;refine ZN h6 fun _ s7 ⟨x,H7,I7,r7,y7,l9,t1⟩=>?_;have t3:=I7.pinned (l8 t1) (T.obj _ _ l9);have q8:=p8 _ s7 i9 H7 x u _ t3 r7 (step x H7 y7);rw[pX,wX,AX,envX,xX] at q8;refine ZN q8 fun _ s8 ⟨j0,H8,I8,q8⟩=>?_;have q9:=p9 _ s8 j0 H8 _ I8 q8;rw[pX,wX,AX,envX,xX] at q9;have again:∀{O:St}{U:Hp}{s':Shared},Inv X' ([]++Wc fp s7.heap) O U s'->N O U->∃m,m<n/\∃i O U,Inv X' [] O U s'/\tn i s'.heap/\(∀b∈fp,U b=none)/\W i m O U:=fun {O U s'} I' n'=>by
    obtain⟨m',hm,w'⟩:=hN O U n';refine⟨m',hm,i+1,O,U,I'.unpinned,T.keep _ _ _ l9 fun b hb o e=>(I'.pin (b,o) (ao _ (ao _ (Yb hb e)))).1,fun b hb=>?_,w'⟩;obtain⟨o,e,d⟩:=T.obj _ _ l9 b hb;exact (I'.pin (b,o) (ao _ (ao _ (Yb hb e)))).2.1
   refine ZN q9 fun ok s9 ⟨H9,I9,q9⟩=>?_;cases ok with
   |false=>
    simp only[eT,if_false] at q9 ⊢;exact again I9 q9
   |true=>
    simp only[if_true] at q9 ⊢;have j3:=q0 _ s9 j0 H9 _ I9 q9;rw[pX,wX,AX,envX,xX] at j3;refine ZN j3 fun y t5 ⟨v,t6,t7,rv,xs,t8,hz,j3⟩=>?_;have j4:=Wi (X:=X') _ t5 j0 t6 (.ref s2.heap.objs.size) [v] (.ref s2.heap.objs.size) [y] (fun _ U=>N j0 U) t7 rfl (.cons rv .nil) ⟨_,xs,v,rfl,rfl,t8,hz,j3⟩;rw[pX,wX,AX,xX] at j4;exact ZN j4 fun _ u3 ⟨_,u4,t9,_,j4⟩=>again t9 j4
 exact codeAny_compStart_list (j8 _ rfl) (T.self _ 0 _ _ _ o4 (j8 _ rfl))
theorem Zai {own:List Str}{j:List Nat}{Y:List Str}{M scope:a6}{elt iter tg:Expr}{ifs:List Expr}{pos:Pos}{wi:TI}{g:TG}{tc:TT}{te:TE}
  (z:X.env.scope=M) (S:YJ X.N M own j Y scope) (hc:X.calm=true) (hi:PI X tg iter wi)
  (hg:∀L C s H ex,PG (Yn X scope L Y C s H ex) tg g) (ht:∀L C s H ex,PIf (Yn X scope L Y C s H ex) ifs tc) (he:∀L C s H ex,PE (Yn X scope L Y C s H ex) elt te)
  (hs:∀x,foldedSetIterable iter X.env x=pure x:=by intro _;rfl) :
  PE X (.ListComp elt [⟨tg,iter,ifs,0⟩] scope pos) (ZaW own j wi g tc te):=by
 intro B s σ H Q I h;obtain⟨L,f6,O,U⟩:=XC (scope:=scope) (env:=X.env) fun y hy hf=>by
  have:=S.fr y hy hf;rw[<-z] at this;exact I.ok.has y.1 this
 rw[eval_ListComp];refine wpAny_comprehension_free (use:=none) rfl hs f6 S.kind S.uniq (ZN (hi B s σ H _ I h) fun v s1 h1=>ZN h1 fun f9 s2 h2=>?_);obtain⟨it,fp,tn,J,H2,e,I2,T,f7,f2,q⟩:=h2;subst e;refine XA (RR:=fun f8 C=>compPost (model X.prog X.w) X.A X.xe none (EP X B σ Q) f8 C) z S hc O U hg ht he I2 T f7 f2 q ?_;intro D C s' m H' hn _ _ _ _ _ q' hb;exact⟨m,hn,fun h' sb=>⟨.ref D,H',hb h' sb,rfl,q'⟩⟩
end
section
variable {κ:Type} [DecidableEq κ]
noncomputable def WA (j:List (κ×V))(k:κ):Option V:=(j.find? fun q=>decide (q.1=k)).map (·.2)
noncomputable def YQ (j:List (κ×V))(k:κ)(v:V):List (κ×V):=
 if (j.any fun q=>decide (q.1=k))=true then j.map (fun q=>if q.1=k then (q.1,v) else q) else j++[(k,v)]
theorem Wy {p:κ×V}{r:List (κ×V)}{k:κ}(e:p.1=k):WA (p::r) k=some p.2:=by simp[WA,bu,e]
theorem Wz {p:κ×V}{r:List (κ×V)}{k:κ}(e:¬p.1=k):WA (p::r) k=WA r k:=by simp[WA,bu,e]
theorem JI (k:κ):∀j:List (κ×V),(j.any fun q=>decide (q.1=k))=(WA j k).isSome
 | []=>rfl
 |p::r=>by
  rw[dR];by_cases e:p.1=k
  ·simp only[Wy e,decide_eq_true e,Bool.true_or,Option.isSome_some]
  ·rw[Wz e,decide_eq_false e,Bool.false_or];exact JI k r
theorem YB (j:List (κ×V))(k:κ)(v:V):(YQ j k v).length<=j.length+1:=by
 unfold YQ;split
 ·rw[Za];omega
 ·rw[Zd,Zi,ai];omega
theorem WV.isSome_eq {o:Option V}{u:Option Value}(r:WV o u):o.isSome=u.isSome:=by
 cases o with
 |none=>cases u with
  |none=>rfl
  |some _=>exact (show False from r).elim
 |some _=>cases u with
  |none=>exact (show False from r).elim
  |some _=>rfl
theorem KV.val {j:List (κ×V)}{J:List (κ×Value)}(r:KV j J)(k:κ):WV (WA j k) (valueAt J k):=by
 unfold KV at r;induction r with
 |nil=>exact cn
 | @cons p q U B h t M=>
  obtain⟨L,O⟩:=h;by_cases e:p.1=k
  ·have D:q.1=k:=L.symm.trans e
   have b:valueAt (q::B) k=some q.2:=by simp[valueAt,bu,D]
   rw[Wy e,b];exact O
  ·have D:¬q.1=k:=fun z=>e (L.trans z)
   have b:valueAt (q::B) k=valueAt B k:=by simp[valueAt,bu,D]
   rw[Wz e,b];exact M
theorem KV.any {j:List (κ×V)}{z:List (κ×Value)}(r:KV j z)(k:κ):(j.any fun q=>decide (q.1=k))=z.any fun q=>decide (q.1=k):=by
 unfold KV at r;induction r with
 |nil=>rfl
 |cons h t B=>rw[dR,dR,B,h.1]
theorem KV.repl {B:List (κ×V)}{J:List (κ×Value)}(r:KV B J)(k:κ){y:V}{u:Value}(L:RelV y u) :
  KV (B.map fun j=>if j.1=k then (j.1,y) else j) (J.map fun j=>if j.1=k then (j.1,u) else j):=by
 unfold KV at r ⊢;induction r with
 |nil=>exact .nil
 | @cons p q U Y h t M=>
  rw[aE,aE];refine .cons ?_ M;obtain⟨D,O⟩:=h;by_cases e:p.1=k
  ·rw[if_pos e,if_pos (D.symm.trans e)];exact⟨D,L⟩
  ·rw[if_neg e,if_neg (fun z=>e (D.trans z))];exact⟨D,O⟩
theorem KV.put {j:List (κ×V)}{q:List (κ×Value)}(r:KV j q)(k:κ){y:V}{u:Value}(z:RelV y u):KV (YQ j k y) (stored q k u):=by
 unfold YQ stored;rw[r.any k];by_cases e:(q.any fun B=>decide (B.1=k))=true
 ·rw[if_pos e,if_pos e];exact r.repl k z
 ·rw[if_neg e,if_neg e];exact Paired.snoc r ⟨rfl,z⟩
theorem KV.length {j:List (κ×V)}{q:List (κ×Value)}(r:KV j q):j.length=q.length:=dE r
end
theorem XX {P:Program}{w:World}{k:Z7}{u:Value}(r:RelV (kV k) u):(ZP P w).is k u=true:=by
 cases k with
 |inl i=>obtain⟨t,e⟩:=(show ∃t,u=eY i t from r);subst e;exact JW P w i t
 |inr x=>obtain⟨t,e⟩:=(show ∃t,u=eX x t from r);subst e;exact JV P w x t
theorem W5 {P:Program}{w:World}:∀{j:List Z7}{us:List Value},ZE (j.map kV) us->ItemsAre (ZP P w) j us
 | [],_,r=>by rw[ed] at r;cases r;exact .nil
 |k::j,_,r=>by
  rw[aE] at r;cases r with
  |cons h t=>exact .cons (XX h) (W5 t)
noncomputable abbrev KT (H:Hp):List (List Z7×V)->List (List Z7×Addr×Value)->Prop:=el fun p q=>p.1=q.1/\H q.2.1=some (.tup (p.1.map kV))/\RelV p.2 q.2.2
theorem KT.val {H:Hp}{j:List (List Z7×V)}{xs:List (List Z7×Addr×Value)}(r:KT H j xs)(k:List Z7):WV (WA j k) ((atKey xs k).map (·.2)):=by
 induction r with
 |nil=>exact cn
 | @cons p q O B h t L=>
  obtain⟨J,_,M⟩:=h;by_cases e:p.1=k
  ·have D:q.1=k:=J.symm.trans e
   have b:atKey (q::B) k=some q.2:=by simp[atKey,bu,D]
   rw[Wy e,b];exact M
  ·have D:¬q.1=k:=fun z=>e (J.trans z)
   have b:atKey (q::B) k=atKey B k:=by simp[atKey,bu,D]
   rw[Wz e,b];exact L
theorem KT.repl {H:Hp}{j:List (List Z7×V)}{xs:List (List Z7×Addr×Value)}(r:KT H j xs)(k:List Z7){y:V}{u:Value}(L:RelV y u) :
  KT H (j.map fun D=>if D.1=k then (D.1,y) else D) (xs.map (putAt k u)):=by
 induction r with
 |nil=>exact .nil
 | @cons p q U Y h t M=>
  rw[aE,aE];refine .cons ?_ M;obtain⟨B,J,O⟩:=h;unfold putAt;by_cases e:p.1=k
  ·rw[if_pos e,if_pos (B.symm.trans e)];exact⟨B,J,L⟩
  ·rw[if_neg e,if_neg (fun z=>e (B.trans z))];exact⟨B,J,O⟩
theorem KT.put {H:Hp}{j:List (List Z7×V)}{xs:List (List Z7×Addr×Value)}(r:KT H j xs)(k:List Z7){b:Addr}{y:V}{u:Value}(hb:H b=some (.tup (k.map kV)))(z:RelV y u) :
  KT H (YQ j k y) (storedH xs k b u):=by
 have e:(j.any fun B=>decide (B.1=k))=(atKey xs k).isSome:=by
  rw[JI,(r.val k).isSome_eq,Option.isSome_map]
 unfold YQ storedH;rw[e];by_cases q:(atKey xs k).isSome=true
 ·rw[if_pos q,if_pos q];exact r.repl k z
 ·rw[if_neg q,if_neg q];exact Paired.snoc r ⟨rfl,hb,z⟩
theorem KT.keeps {H q:Hp}{j:List (List Z7×V)}{xs:List (List Z7×Addr×Value)}(r:KT H j xs)(D:∀b B,H b=some (.tup B)->q b=some (.tup B)):KT q j xs:=
 el.mapP r fun _ _ z=>⟨z.1,D _ _ z.2.1,z.2.2⟩
section
variable {P:Program}{w:World}{H:Hp}{h:Heap}{a:Addr}
theorem Za4 {u:HO}(ok:Y7 P w H h)(e:Rd H a u):ZU P w H h a u:=e.ok ok
theorem UG {j:List (Z7×V)}(ok:Y7 P w H h)(e:Rd H a (.dK j)):j.length<=sizeLine/\(a == sysModules)=false/\∃q,KV j q/\h.DictOf (ZP P w) a q:=
 show ZU P w H h a (.dK j) from Za4 ok e
theorem Zba {j:List (Z7×V)}(ok:Y7 P w H h)(e:H a=some (.dK j)):j.length<=sizeLine/\(a == sysModules)=false/\∃q,KV j q/\h.DictOf (ZP P w) a q:=UG ok (.inl e)
theorem Xu {j:List Z7}(ok:Y7 P w H h)(e:H a=some (.tup (j.map kV))):(tupleKind (ZP P w)).is h j a:=by
 obtain⟨_,q,r,o,z,B,n,D⟩:=(show ZU P w H h a (.tup (j.map kV)) from ok a _ e);exact⟨o,q.toArray,n,z,B,D,by simpa using W5 r⟩
theorem UF {j:List (List Z7×V)}(ok:Y7 P w H h)(e:Rd H a (.dT j)):j.length<=sizeLine/\(a == sysModules)=false/\
  ∃xs,KT H j xs/\h.DictOfH (tupleKind (ZP P w)) a xs:=by
 obtain⟨z,y,xs,r,o,J,L,M,O,U,Y,h5⟩:=(show ZU P w H h a (.dT j) from Za4 ok e);refine⟨z,y,xs,r,o,J,L,M,O,U,Y,fun x B=>?_,h5⟩;have all:∀{l:List (List Z7×V)}{m:List (List Z7×Addr×Value)},KT H l m->∀x∈m,(tupleKind (ZP P w)).is h x.1 x.2.1:=by
  intro l m q;induction q with
  |nil=>intro x B;exact nomatch B
  | @cons p q ps qs D t ih=>
   intro x B;rcases aj.mp B with e|B
   ·subst e
    exact Xu ok (by rw[<-D.1];exact D.2.1)
   ·exact ih x B
 exact all r x B
theorem ZcL {j:List (List Z7×V)}(ok:Y7 P w H h)(e:H a=some (.dT j)):j.length<=sizeLine/\(a == sysModules)=false/\
  ∃xs,KT H j xs/\h.DictOfH (tupleKind (ZP P w)) a xs:=UF ok (.inl e)
end
noncomputable def WR (H:Hp)(a:Addr)(y:V)(r:Option V):Prop:=
 (∃j k,Rd H a (.dK j)/\y=kV k/\r=WA j k)\/∃j k b,Rd H a (.dT j)/\y=.ref b/\H b=some (.tup (k.map kV))/\r=WA j k
noncomputable def Xb (H:Hp)(a:Addr)(y v:V)(q:Hp):Prop:=
 (∃j k,H a=some (.dK j)/\y=kV k/\j.length<sizeLine/\q=upd H a (.dK (YQ j k v)))\/
 ∃j k b,H a=some (.dT j)/\y=.ref b/\H b=some (.tup (k.map kV))/\j.length<sizeLine/\q=upd H a (.dT (YQ j k v))
theorem WR.k {H:Hp}{a:Addr}{j:List (Z7×V)}{k:Z7}(e:H a=some (.dK j)):WR H a (kV k) (WA j k):=.inl ⟨j,k,.inl e,rfl,rfl⟩
theorem Xb.k {H:Hp}{a:Addr}{j:List (Z7×V)}{k:Z7}{v:V}(e:H a=some (.dK j))(q:j.length<sizeLine):Xb H a (kV k) v (upd H a (.dK (YQ j k v))):=.inl ⟨j,k,e,rfl,q,rfl⟩
section
variable {X:Cx}{pins:List (Addr×Obj)}{σ:St}{H:Hp}{s:Shared}{a:Addr}{y v:V}{u r:Value}{o:Option V}{A:Around}{E:Value->Shared->Prop}
theorem Inv.big (I:Inv X pins σ H s):sysModules<s.heap.objs.size:=by
 have h:mainGlobals<s.heap.objs.size:=(I.mod.glob.keeps I.bk).lt;exact bN (by decide) h
theorem VC {Q:Value->Shared->Prop}(U:A.units+1<cLine)(I:Inv X pins σ H s)(g:WR H a y (some v))(O:RelV y u)(h:∀q s',Inv X pins σ H s'->RelV v q->Q q s') :
  wpAny (model X.prog X.w) A (getItem (.ref a) u) Q E s:=by
 rcases g with ⟨B,k,e,D,l⟩|⟨B,k,b,e,D,Y,l⟩
 ·subst D
  obtain⟨z,hd,vs,rel,J⟩:=UG I.hok e;obtain⟨q,L,j⟩:=WV.some_of (v:=v) (o:=valueAt vs k) (by rw[l];exact rel.val k);exact wpAny_getItem_of (XX O) J.mapOf L (h q _ (I.tok _) j)
 ·subst D
  cases (show u=aV b from O);obtain⟨z,hd,xs,rel,J⟩:=UF I.hok e;obtain⟨q,L,j⟩:=WV.some_of (v:=v) (o:=(atKey xs k).map (·.2)) (by rw[l];exact rel.val k);obtain⟨p,hp,M⟩:=Option.map_eq_some_iff.mp L;refine wpAny_getItem_heap (tupleKind_room_in1 U) (Xu I.hok Y) J hp ?_;rw[M];exact h q _ (I.tok _) j
theorem Jy {h':Heap}{t':Nat}{j:HO}(I:Inv X pins σ H s)(D:Mut (H a))(J:aJ a s.heap h')(L:∃q,h'.get? a=some q)(B:ZU X.prog X.w (upd H a j) h' a j) :
  Inv X pins σ (upd H a j) {s with heap:=h',toks:=t'}:=
 I.write (x:=a) (e:=a) D (.inl rfl) (fun b q hb z=>(J.2 b hb).trans z) L B
theorem UH {P:Program}{w:World}{B:Hp}{h':Heap}{j:List (Z7×V)}{q:List (Z7×Value)}(z:j.length<=sizeLine)(hd:(a == sysModules)=false)(rel:KV j q)(D:h'.DictOf (ZP P w) a q) :
  ZU P w B h' a (.dK j):=⟨z,hd,q,rel,D⟩
theorem VB {H':Hp}{Q:Unit->Shared->Prop}(hu:A.units+1<cLine)(I:Inv X pins σ H s)(g:Xb H a y v H')(ry:RelV y u)(rv:RelV v r)(h:∀s',Inv X pins σ H' s'->Q () s') :
  wpAny (model X.prog X.w) A (setItem (.ref a) u r) Q E s:=by
 rcases g with ⟨j,k,e,J,l,L⟩|⟨j,k,b,e,J,eb,l,L⟩
 ·subst J L
  obtain⟨z,hd,vs,rel,M⟩:=Zba I.hok e;have O:vs.length<=sizeLine:=by rw[<-rel.length];exact z
  have U:(YQ j k v).length<=sizeLine:=by have:=YB j k v;omega
  refine wpAny_setItem_pairs (hsz:=O) (XX ry) M fun h' B hs=>h _ ?_;have he:∃q,h'.get? a=some q:=by obtain⟨q,_,_,D,_⟩:=B;exact⟨q,D⟩
  exact Jy I (by rw[e];exact cn) hs he (UH U hd (rel.put k rv) B)
 ·subst J L
  cases (show u=aV b from ry);obtain⟨z,hd,xs,rel,M⟩:=ZcL I.hok e;have O:xs.length<=sizeLine:=by rw[<-dE rel];exact z
  have U:(YQ j k v).length<=sizeLine:=by have:=YB j k v;omega
  refine wpAny_setItem_heap (hsz:=O) (tupleKind_room_in1 hu) (Xu I.hok eb) M fun h' B hs=>h _ ?_;obtain⟨q,es,ep,D,h2,h3,h4,_,h5⟩:=B;refine Jy I (by rw[e];exact cn) hs ⟨q,D⟩ ⟨U,hd,_,(rel.put k eb rv).keeps fun c ys ec=>?_,q,es,ep,D,h2,h3,h4,h5⟩;rw[ZD (ZcD ec e (fun z=>nomatch z))];exact ec
end
section
variable {X:Cx}{pins:List (Addr×Obj)}{σ:St}{H:Hp}{s:Shared}{a:Addr}{kvs:List (Z7×V)}{k:Z7}{u:Value}{A:Around}{E:Value->Shared->Prop}
end
noncomputable def ZcR (i:Expr):Prop:=∀j q,subscripted i false j q=operate [j,q] (getItem j q)
theorem UX {prog:Program}{w:World}{A:Around}{E:Value->Shared->Prop}{s:Shared}{env:Env}{value slice:Expr}{pos:Pos}{T id:String}{Q:Value->Shared->Prop}
  (O:typeLookup (.type T) "__getitem__"=pure (some (.builtin id))) (U:ZcR slice)
  (h:wpAny (model prog w) A (eval value env) (fun o z=>wpAny (model prog w) A (eval slice env) (fun i j=>j.TypeIs o T/\wpAny (model prog w) A (getItem o i) Q E j) E z) E s) :
  wpAny (model prog w) A (eval (.Subscript value slice pos) env) Q E s:=by
 refine Subscript_ (aW h (fun o z J=>aW J (fun i j q=>?_) fun _ _ x=>x) fun _ _ x=>x);obtain⟨M,q⟩:=q;unfold subscriptTail;refine Zl ?_;rw[getitemInPython_of_ne M.not_modules];refine Zl (wpAny_specialOf M O ?_);have D:wpAny (model prog w) A (subscripted slice false o i) (fun r B=>wpAny (model prog w) A (letTemporaryGo value o r >>= fun _=>pure r) Q E B) E j:=by
  rw[U o i];exact wpAny_operating (aW q (fun r B L=>Zl (wpAny_letTemporaryGo (Zm L))) fun _ _ x=>x)
 first
  |exact Zm (Zl D)
  |exact Zl (Zm (Zl D))
  |exact Zl D
theorem J1 {X:Cx}{j:List (Addr×Obj)}{σ:St}{H:Hp}{s:Shared}{a:Addr}{y:V}{o:Option V}(I:Inv X j σ H s)(g:WR H a y o):s.TypeIs (.ref a) "dict":=by
 rcases g with ⟨q,k,e,_,_⟩|⟨q,k,b,e,_,_,_⟩
 ·obtain⟨_,_,B,_,z⟩:=UG I.hok e
  exact z.typeIs
 ·obtain⟨_,_,xs,_,z⟩:=UF I.hok e
  exact z.typeIs
noncomputable def Zce (z B:TE):TE:=fun j H Q=>z j H fun x D=>B j D fun y q=>∃a v,x=.ref a/\WR q a y (some v)/\Q v q
noncomputable def Zcr (z B J:TE):TS:=fun D j H=>J j H fun v L=>z j L fun x M=>B j M fun y O=>∃a q,x=.ref a/\Xb O a y v q/\D.nx j q
section
variable {X:Cx}{o i e value:Expr}{pos pos' tpos:Pos}{td ty tv:TE}
theorem Y2 (D:X.A.units+1<cLine)(J:PE X o td)(L:PE X i ty)(M:ZcR i):PE X (.Subscript o i pos) (Zce td ty):=by
 intro j s z H Q I h;refine UX PySem.F.slot_dict_getitem.lookup M (ZN (J j s z H _ I h) fun u O ⟨x,U,Y,rx,q1⟩=>ZN (L j O z U _ Y q1) fun iv s2 ⟨y,H2,B,ry,a,v,ex,g,q2⟩=>?_);subst ex;obtain rfl:u=aV a:=rx;exact⟨J1 B g,VC D B g ry fun w' s3 I3 q=>⟨v,H2,I3,q,q2⟩⟩
theorem Jr (z:X.A.units+1<cLine)(B:PE X o td)(J:PE X i ty)(L:PE X value tv)(M:swapsWith value (some (.Subscript o i pos')) pos.line X.env=pure false) :
  PS X (.Assign [.Subscript o i pos'] value pos) (Zcr td ty tv):=by
 intro j s q H D I h;refine wpAny_Assign_Subscript (ZN (L j s q H _ I h) fun r O ⟨v,U,Y,rv,q1⟩=>ZN (B j O q U _ Y q1) fun u s2 ⟨x,H2,I2,rx,q2⟩=>ZN (J j s2 q H2 _ I2 q2) fun iv s3 ⟨y,H3,I3,ry,a,H4,ex,g,q3⟩=>?_) M;subst ex;obtain rfl:u=aV a:=rx;exact VB z I3 g ry rv fun s4 I4=>⟨q,H4,I4,q3⟩
end
theorem UI {P:Program}{w:World}{H:Hp}(h:Heap)(hb:sysModules<h.objs.size):ZU P w H (h.push {cls:=.type "dict",data:=.dict #[]}) h.objs.size (.dK []):=
 ⟨aQ _,beq_eq_false_iff_ne.mpr (bd (aw hb)),[],.nil,Heap.DictOf.new h⟩
section
variable {X:Cx}{pos:Pos}
end
noncomputable def Xl:List (TE×TE)->St->Hp->(List (V×V)->Hp->Prop)->Prop
 | [],_,H,Q=>Q [] H
 |(j,q)::r,σ,H,Q=>j σ H fun x z=>q σ z fun y B=>Xl r σ B fun D J=>Q ((x,y)::D) J
noncomputable abbrev VV:List (V×V)->List (Value×Value)->Prop:=el fun p q=>RelV p.1 q.1/\RelV p.2 q.2
noncomputable def PPs (X:Cx)(pos:Pos)(z:List (Option Expr))(j:List Expr)(B:List (TE×TE)):Prop:=
 ∀(q:List (Addr×Obj)) (s:Shared) (D:St) (H:Hp) (Q:List (V×V)->Hp->Prop),Inv X q D H s->Xl B D H Q->
  wpAny (model X.prog X.w) X.A (evalPairs (pairTrees z j X.env pos)) (fun M O=>∃J L,Inv X q D L O/\VV J M/\Q J L) X.xe s
theorem Zaa {X:Cx}{pos:Pos}:PPs X pos [] [] []:=fun j s q H Q I h=>pairTrees_nil_walk ⟨[],H,I,.nil,h⟩
theorem WH {X:Cx}{pos:Pos}{k v:Expr}{B:List (Option Expr)}{D:List Expr}{J L:TE}{q:List (TE×TE)}(M:PE X k J)(O:PE X v L)(U:PPs X pos B D q) :
  PPs X pos (some k::B) (v::D) ((J,L)::q):=fun j s z H Q I h=>
 pairTrees_cons_walk (ZN (M j s z H _ I h) fun u Y ⟨x,H1,I1,rx,q1⟩=>ZN (O j Y z H1 _ I1 q1) fun w2 s2 ⟨y,H2,I2,ry,q2⟩=>
  ZN (U j s2 z H2 _ I2 q2) fun ws s3 ⟨ps,H3,I3,rel,q3⟩=>⟨(x,y)::ps,H3,I3,.cons ⟨rx,ry⟩ rel,q3⟩)
noncomputable def WI (q j:List (Z7×V)):List (Z7×V):=j.foldl (fun z B=>YQ z B.1 B.2) q
theorem KV.merge:∀{more:List (Z7×V)}{rs:List (Z7×Value)}{j:List (Z7×V)}{z:List (Z7×Value)},KV more rs->KV j z->KV (WI j more) (merged z rs):=by
 intro more rs j z r;unfold KV at r;induction r generalizing j z with
 |nil=>intro q;exact q
 | @cons p q J L h t B=>
  intro D;have e:KV (YQ j p.1 p.2) (stored z q.1 q.2):=by
   have:=D.put p.1 h.2;rw[<-h.1];exact this
  exact B e
theorem YO:∀(q j:List (Z7×V)),(WI j q).length<=j.length+q.length
 | [],j=>by show j.length<=j.length+0;omega
 |p::r,j=>by
  have z:=YO r (YQ j p.1 p.2);have B:=YB j p.1 p.2;show (WI (YQ j p.1 p.2) r).length<=_;rw[Zi];omega
theorem WO {P:Program}{w:World}:∀{j:List (Z7×V)}{B:List (Value×Value)},VV (j.map fun D=>(kV D.1,D.2)) B->∃z,Carries (ZP P w) B z/\KV j z
 | [],_,r=>by rw[ed] at r;cases r;exact⟨[],cn,.nil⟩
 |p::j,_,r=>by
  rw[aE] at r;cases r with
  | @cons a b L bs h t=>
   obtain⟨z,c,q⟩:=WO (P:=P) (w:=w) t;obtain⟨M,J⟩:=b;exact⟨(p.1,J)::z,⟨XX h.1,rfl,c⟩,.cons ⟨rfl,h.2⟩ q⟩
noncomputable def Zcd (q:List (TE×TE)):TE:=fun D H Q=>∀p,H p=none->Xl q D (upd H p (.dK [])) fun J z=>z p=some (.dK [])/\∃j:List (Z7×V),J=j.map (fun B=>(kV B.1,B.2))/\j.length<=15/\Q (.ref p) (upd z p (.dK (WI [] j)))
theorem Zah {X:Cx}{pos:Pos}{keys:List (Option Expr)}{values:List Expr}{j:List (TE×TE)}(h:PPs X pos keys values j)(B:keys.all (·.isSome)=true)(Y:keys.length=values.length)(h0:keys≠[])
  (M:keys.length<=15):PE X (.Dict keys values pos) (Zcd j):=by
 intro D s σ H Q I q;have hn:=I.hok.fresh (Zq s.heap.objs.size);have I1:=I.laid (a:=s.heap.objs.size) (o:=.dK []) (h':=s.heap.push {cls:=.type "dict",data:=.dict #[]}) (t':=s.toks) (fun _ _ q=>Zn _ q) (Zq _) (UI s.heap I.big);refine wpAny_Dict_walk (knd:=ZP X.prog X.w) B Y h0 M (ZN (h D _ σ _ _ I1 (q _ hn)) fun ws s2 ⟨ps,H2,U,rel,e,J,ep,lk,q2⟩=>?_);subst ep;obtain⟨rs,c,rk⟩:=WO (P:=X.prog) (w:=X.w) rel;obtain⟨z,hd,f7,r0,dd⟩:=Zba U.hok e;cases r0;refine⟨rs,c,dd,fun O L hs=>⟨.ref s.heap.objs.size,_,?_,rfl,q2⟩⟩;have hz:(WI [] J).length<=sizeLine:=by
  have h1:=YO J [];rw[ai] at h1;rw[dN];omega
 have he:∃q,O.get? s.heap.objs.size=some q:=by obtain⟨q,_,_,hq,_⟩:=L;exact⟨q,hq⟩
 exact Jy U (by rw[e];exact cn) hs he (UH hz hd (rk.merge .nil) L)
section
variable {X:Cx}{pins:List (Addr×Obj)}{σ:St}{H:Hp}{s:Shared}{a:Addr}{y d:V}{u r:Value}{o:Option V}{A:Around}{E:Value->Shared->Prop}
end
section
variable {X:Cx}{o e f:Expr}{apos cpos:Pos}{td ty tx:TE}
end
section
variable {X:Cx}{pins:List (Addr×Obj)}{σ:St}{H:Hp}{s:Shared}{a:Addr}{kvs:List (Z7×V)}{A:Around}{E:Value->Shared->Prop}
end
section
variable {X:Cx}{pins:List (Addr×Obj)}{σ:St}{H:Hp}{s:Shared}{a:Addr}{y:V}{u:Value}{A:Around}{E:Value->Shared->Prop}
end
mutual
inductive WS (K:aa) (H:Hp):V->b9->Prop where
 |non:WS K H .non .none
 |bl (b:Bool):WS K H (.bl b) (.bool b)
 |int (i:Int):WS K H (.int i) (.int i)
 |str (x:Str):WS K H (.str x) (.str x)
 |lst {a:Addr}{xs:List V}{ds:List b9} (h:YF K H a xs) (r:Yq K H xs ds):WS K H (.ref a) (.list ds)
 |tup {a:Addr}{xs:List V}{ds:List b9} (h:Y9 K H a xs) (r:Yq K H xs ds):WS K H (.ref a) (.tuple ds)
inductive Yq (K:aa) (H:Hp):List V->List b9->Prop where
 |nil:Yq K H [] []
 |cons {x:V}{xs:List V}{d:b9}{ds:List b9} (h:WS K H x d) (r:Yq K H xs ds):Yq K H (x::xs) (d::ds)
end
section
variable {K:aa}{H H':Hp}
theorem Zy.tup {a:Addr}{xs:List V}(e:Zy H H')(h:Y9 K H a xs):Y9 K H' a xs:=by
 rcases h with (h|⟨o,h⟩)|h
 ·exact .inl (.inl (e _ _ h))
 ·exact .inl (.inr ⟨o,e _ _ h⟩)
 ·exact .inr h
theorem Zy.upd {p:Addr}{o:HO}(h:H p=none):Zy H (upd H p o):=fun b u e=>by rw[ZD (ZG e h)];exact e
theorem Zy.updr {p:Addr}{o:HO}(s:Zy H H')(h:H p=none):Zy H (L2.upd H' p o):=fun b u e=>by rw[ZD (ZG e h)];exact s b u e
mutual
theorem WS.mono (s:Zy H H'):∀{v:V}{d:b9},WS K H v d->WS K H' v d
 |_,_,.non=>.non
 |_,_,.bl b=>.bl b
 |_,_,.int i=>.int i
 |_,_,.str x=>.str x
 |_,_,.lst h r=>.lst (s.seq h) (Yq.mono s r)
 |_,_,.tup h r=>.tup (s.tup h) (Yq.mono s r)
theorem Yq.mono (s:Zy H H'):∀{v:List V}{d:List b9},Yq K H v d->Yq K H' v d
 |_,_,.nil=>.nil
 |_,_,.cons h r=>.cons (WS.mono s h) (Yq.mono s r)
end
theorem Yq.ints:∀ns:List Int,Yq K H (ns.map V.int) (ns.map aC)
 | []=>.nil
 |n::r=>.cons (.int n) (Yq.ints r)
end
section
variable {X:Cx}{pins:List (Addr×Obj)}{σ:St}{H:Hp}{s:Shared}
mutual
theorem Inv.reads (I:Inv X pins σ H s):∀{v:V}{d:b9}{u:Value},WS X.K H v d->RelV v u->∃j,Reads s.heap u d j
 |_,_,_,.non,r=>by cases (show _=bF from r);exact⟨_,.none⟩
 |_,_,_,.bl b,r=>by cases (show _=dz b from r);exact⟨_,.bool b⟩
 |_,_,_,.int i,r=>by obtain⟨t,rfl⟩:=r;exact⟨_,.int i t⟩
 |_,_,_,.str x,r=>by obtain⟨t,rfl⟩:=r;exact⟨_,.str x t⟩
 |_,_,_,.lst (a:=a) h q,r=>by
  cases (show _=aV a from r);obtain⟨z,B,⟨o,n,e,c,_,d⟩,_⟩:=I.list h;obtain⟨j,D⟩:=Inv.readsAll I q B;exact⟨_,.list e c d (by simpa using D)⟩
 |_,_,_,.tup (a:=a) h q,r=>by
  cases (show _=aV a from r);obtain⟨z,B,⟨o,e,c,n,d⟩,_⟩:=I.tuple h;obtain⟨j,D⟩:=Inv.readsAll I q B;exact⟨_,.tuple e c d (by simpa using D)⟩
theorem Inv.readsAll (I:Inv X pins σ H s):∀{v:List V}{d:List b9}{u:List Value},Yq X.K H v d->ZE v u->∃j,ReadsAll s.heap u d j
 |_,_,_,.nil,r=>by cases r;exact⟨_,.nil⟩
 |_,_,_,.cons h q,r=>by
  cases r with
  |cons r z=>
   obtain⟨J,B⟩:=Inv.reads I h r;obtain⟨L,D⟩:=Inv.readsAll I q z;exact⟨_,.cons B D⟩
end
end
structure UP (d:b9):Prop where
 sh:d.showable=true
 nd:d.hasDict=false
 dp:d.depth<=60
 sz:d.shown.length<=sizeLine
section
variable {X:Cx}
theorem Zbz (D:X.A.units+64<cLine):Wa X (compareOp .Eq) (fun x y H Q=>∃j z,WS X.K H x j/\WS X.K H y z/\aX j=true/\aX z=true/\Q (.bl (cM j z)) H):=by
 intro B s σ H x y v u Q I J L ⟨j,z,M,O,s1,s2,q⟩;obtain⟨as,U⟩:=I.reads M J;obtain⟨bs,Y⟩:=I.reads O L;exact SeqAt.compareEq_shaped U Y s1 s2 D ⟨.bl _,H,I,rfl,q⟩
theorem Zbx (D:X.A.units+64<cLine):Wa X (compareOp .NotEq) (fun x y H Q=>∃j z,WS X.K H x j/\WS X.K H y z/\aX j=true/\aX z=true/\Q (.bl (!cM j z)) H):=by
 intro B s σ H x y v u Q I J L ⟨j,z,M,O,s1,s2,q⟩;obtain⟨as,U⟩:=I.reads M J;obtain⟨bs,Y⟩:=I.reads O L;exact SeqAt.compareNe_shaped U Y s1 s2 D ⟨.bl _,H,I,rfl,q⟩
theorem VH {k:Nat}(Y:Yp k X.A):Z9 X (.builtin "repr") (fun xs H Q=>∃x d,xs=[x]/\WS X.K H x d/\UP d/\Q (.str d.shown) H):=by
 intro J s σ H xs us Q I r h;obtain⟨x,d,rfl,hd,F,q⟩:=h;obtain⟨u,rfl,ru⟩:=vals1 r;obtain⟨as,rd⟩:=I.reads hd ru;have f6:X.A.units+61<cLine:=by have:=Y.units;omega
 have j:∀(B:Heap) (u:Tok) (D:Nat),(∀b o,s.heap.get? b=some o->B.get? b=some o)->EP X J σ Q (.str d.shown u) {s with heap:=B,toks:=D}:=fun B u D k=>⟨.str d.shown,H,I.kept k,⟨u,rfl⟩,q⟩;cases rd with
 |none=>exact P.repr_of_none (j s.heap _ _ fun _ _ e=>e)
 |bool b=>exact P.repr_of_bool (by have:=j s.heap s.toks (s.toks+1) fun _ _ e=>e;simpa only[bK] using this)
 |int i t=>exact P.repr_of_int (by simpa only[db,decide_eq_true_eq] using F.sh) (by have:=j s.heap s.toks (s.toks+1) fun _ _ e=>e;simpa only[bK] using this)
 |str y t=>exact P.repr_of_str (by have:=j s.heap s.toks (s.toks+1) fun _ _ e=>e;simpa only[bK] using this) (by simpa only[bK] using F.sz)
 |list L M O U=>exact repr_of_reads' (.list L M O U) F.sh (fun z=>by rw[F.nd] at z;cases z) Y.gd (by have:=F.dp;omega) (fun _ _ e=>e) (fun B u D k=>j B u D k) F.sz
 |tuple L M O U=>exact repr_of_reads' (.tuple L M O U) F.sh (fun z=>by rw[F.nd] at z;cases z) Y.gd (by have:=F.dp;omega) (fun _ _ e=>e) (fun B u D k=>j B u D k) F.sz
 |dict L M O U h5=>cases hd
theorem Zbe {prog:Program}{w:World}{A:Around}{j:List Value}{bs:List Bool}(r:ZE (bs.map V.bl) j):TruthOf prog w A (fun i v=>j.toArray[i]?=some v) (fun i=>bs.getD i false):=by
 intro i v s Q E q B;rw[List.getElem?_toArray] at q;have L:i<j.length:=(aD.mp q).1;have D:=r.length;rw[Za] at D;have hb:(bs.map V.bl)[i]?=some (.bl (bs.getD i false)):=by
  rw[Zc,Zb,Zf (by omega)];rfl
 obtain⟨u,z,J⟩:=r.get hb;rw[q] at z;cases z;cases (show v=dz _ from J);exact cp B
theorem Vd {bs:List Bool}:((cu bs.length).all fun i=>bs.getD i false)=bs.all id:=by
 have:(cu bs.length).map (fun i=>bs.getD i false)=bs:=by
  apply List.ext_getElem
  ·simp
  ·intro i j q;simp at j;simp[j]
 conv=>rhs;rw[<-this,List.all_map]
 rfl
theorem UN (L:X.calm=true):Z9 X (.builtin "all") (fun xs H Q=>∃(a:Addr) (bs:List Bool),xs=[.ref a]/\YF X.K H a (bs.map V.bl)/\Q (.bl (bs.all id)) H):=by
 intro B s Y H xs us Q I r h;obtain⟨a,bs,rfl,M,q⟩:=h;obtain⟨u,rfl,O⟩:=vals1 r;cases O;obtain⟨j,D,p,hz⟩:=I.list M;have J:=D.length;rw[Za] at J;refine call_all_walk (dw p.isList ?_);have z:a≠s.heap.objs.size:=by obtain⟨o,n,e,_⟩:=p;exact aw (Zp e)
 refine⟨s.heap.objs.size,_,_,_,_,_,(fun i=>bs.getD i false),rfl,Walks.list (A:=X.A.in1) (I.ok.hd L) _ a z j.toArray,⟨⟨_,Zo _ rfl,rfl,rfl⟩,p.isList.push _⟩,Zbe D,fun h' U k=>?_⟩;rw[Zh,<-J,Vd];refine⟨.bl _,H,I.kept (t':=U) fun b o e=>k b o ?_ (Zn _ e),rfl,q⟩;simpa using aw (Zp e)
end
section
variable {prog:Program}{w:World}{A:Around}{E:Value->Shared->Prop}{s:Shared}
end
section
variable {X:Cx}
noncomputable def Jp (lo:Int)(n:Nat):List Int:=(cu n).map fun i:Nat=>lo+(i:Int)
theorem V5 {lo:Int}{n i:Nat}(h:i<n):(Jp lo n)[i]?=some (lo+i):=by unfold Jp;rw[Zc,List.getElem?_range h];rfl
theorem JQ {lo:Int}{n:Nat}:(Jp lo n).length=n:=by unfold Jp;rw[Za,Zg]
end
noncomputable def YS:List Str->Bool
 | []=>true
 |x::r=>!(r.contains x) && YS r
theorem Ya:∀{l:List Str},YS l=true->l.Nodup
 | [],_=>List.nodup_nil
 |x::r,h=>by
  unfold YS at h;simp only[aS,Bool.not_eq_true'] at h;refine bt.mpr ⟨fun z=>?_,Ya h.2⟩;have:=List.contains_iff_mem.mpr z;rw[h.1] at this;cases this
noncomputable def Uv (j:a6)(x:Str):Bool:=match j.names.lookup x with
 |some .local=>true
 |some .cell=>true
 |_=>false
theorem JX {j:a6}{x:Str}(h:Uv j x=true):Loc j x:=by
 unfold Uv at h;split at h
 ·rename_i e;exact .inl e
 ·rename_i e;exact .inr e
 ·cases h
noncomputable def Ys (j:a6)(x:Str):Bool:=match j.names.lookup x with
 |some .local=>true
 |_=>false
theorem ZX {j:a6}{x:Str}(h:Ys j x=true):j.names.lookup x=some .local:=by
 unfold Ys at h;split at h
 ·rename_i e;exact e
 ·cases h
noncomputable def Uu (j:a6)(x:Str):Bool:=match j.names.lookup x with
 |some .local=>true
 |some .cell=>true
 |some .free=>true
 |_=>false
theorem Ut {j:a6}{x:Str}(h:Uu j x=true):Vis j x:=by
 unfold Uu at h;split at h
 ·rename_i e;exact .inl e
 ·rename_i e;exact .inr (.inl e)
 ·rename_i e;exact .inr (.inr e)
 ·cases h
noncomputable def Yt (j:a6)(x:Str):Bool:=match j.names.lookup x with
 |some .globalImplicit=>true
 |_=>false
noncomputable def Wg:Expr->Bool
 | .Starred _ _=>false
 |_=>true
theorem Yo {e:Expr}{j:List Expr}{env:Env}(h:Wg e=true):starEach (e::j) env=(false,eval e env)::starEach j env:=by cases e <;> first|rfl|cases h
noncomputable def YH:List Expr->Bool
 | []=>true
 |e::r=>Wg e && YH r
theorem Yl {env:Env}{pos:Pos}:∀{j:List Expr},YH j=true->(backTo pos (starEach j env)).any (·.1)=false
 | [],_=>rfl
 |e::r,h=>by
  unfold YH at h;rw[aS] at h;rw[Yo h.1];exact Yl h.2
section
variable {X:Cx}
theorem pc {e:Expr}{j:List Expr}{q:TE}{t:TA}(z:PE X e q)(B:PA X j t)(D:Wg e=true:=by rfl):PA X (e::j) (Yk q t):=Zal z B (Yo D)
theorem W6 {x:Str}(h:Yt X.env.scope x=true):Gl X x:=by
 unfold Yt at h;split at h
 ·rename_i e;exact e
 ·cases h
theorem vn (i:Nat){x:Str}{pos:Pos}(q:X.N[i]?=some x:=by rfl)(z:Uu X.env.scope x=true:=by kernel_rfl)(B:(x == ("__debug__":Str))=false:=by kernel_rfl)(j:(x == ("__classdict__":Str))=false:=by kernel_rfl) :
  PE X (.Name x pos) (YK i):=Zbu q (Ut z) B j
theorem gn (i:Nat){x:Str}{pos:Pos}(q:X.N[i]?=some x:=by rfl)(z:YS X.N=true:=by kernel_rfl)(j:Ys X.env.scope x=true:=by kernel_rfl):PG X (.Name x pos) (Yi i):=
 Zaf (Ya z) q (.inl (ZX j)) (.inr (ZX j))
theorem ZO (i:Nat){x:Str}{e:Expr}{q:TE}{pos j:Pos}(z:X.fn x=true)(B:PE X e q)(D:X.N[i]?=some x:=by rfl)(J:YS X.N=true:=by kernel_rfl)(L:Uv X.env.scope x=true:=by kernel_rfl)
  (M:swapsWith e (some (.Name x j)) pos.line X.env=pure false:=by rfl):PS X (.Assign [.Name x j] e pos) (VW q (Yi i)):=
 Zbp (Ya J) D (JX L) B M (.inl z)
theorem cb {x:Str}{id:String}{r:List V->Hp->VK->Prop}{e:Expr}{j:List Expr}{t:TA}{p pos:Pos}(z:Z9 X (.builtin id) r)(B:X.mg x=none)(D:PA X (e::j) t)(J:Yt X.env.scope x=true:=by kernel_rfl)(L:bootBuiltins x=some (.builtin id):=by kernel_rfl)
  (M:x ≠ "__name__":=by decide) (O:(x == ("__debug__":Str))=false:=by kernel_rfl) (U:Wg e=true:=by rfl) (q:YH j=true:=by rfl) :
  PE X (.Call (.Name x p) (e::j) [] pos) (US r t):=Uf z (W6 J) B L D M O (Yo U) (Yl q)
theorem ct {x:Str}{T:String}{r:List V->Hp->VK->Prop}{e:Expr}{j:List Expr}{t:TA}{p pos:Pos}(z:Z9 X (.type T) r)(B:X.mg x=none)(D:PA X (e::j) t)(J:Yt X.env.scope x=true:=by kernel_rfl)(L:bootBuiltins x=some (.type T):=by kernel_rfl)
  (M:x ≠ "__name__":=by decide) (O:(x == ("__debug__":Str))=false:=by kernel_rfl) (U:Wg e=true:=by rfl) (q:YH j=true:=by rfl) :
  PE X (.Call (.Name x p) (e::j) [] pos) (US r t):=Vj z (W6 J) B L D M O (Yo U) (Yl q)
theorem Zbk {q a:Expr}{j:TA}{p pos:Pos}(z:X.mg "range"=none)(B:PA X [a] j)(D:Yt X.env.scope "range"=true:=by kernel_rfl)(J:starEach [a] X.env=[(false,eval a X.env)]:=by rfl):PI X q (.Call (.Name "range" p) [a] [] pos) (Za8 j):=Vi (W6 D) z B J
theorem Zc9 {z a b:Expr}{q:TA}{p pos:Pos}(B:X.mg "range"=none)(D:PA X [a,b] q)(J:Yt X.env.scope "range"=true:=by kernel_rfl)(L:starEach [a,b] X.env=[(false,eval a X.env),(false,eval b X.env)]:=by rfl)(j:starEach [b] X.env=[(false,eval b X.env)]:=by rfl) :
  PI X z (.Call (.Name "range" p) [a,b] [] pos) (Za7 q):=Vh (W6 J) B D L j
end
noncomputable def Fn (P:Program)(w:World)(K:aa)(j:Str->Option Value)(base:Heap)(CX:Xe)(k:Nat)(x:Str)(q:List Str)(sp:Sp):Prop:=
 ∃f z,Yd P w K j base CX k f z q sp/\j x=some (.ref f)/\bi K (.ref f)=true/\Binds K z q []
section
variable {X:Cx}
theorem W8 {CX:Xe}{k j:Nat}{x:Str}{B:List Str}{sp:Sp}{E:XK}{e:Expr}{q:List Expr}{t:TA}{p pos:Pos}(G:Fn X.prog X.w X.K X.mg X.base CX k x B sp)(D:Yp j X.A)(J:JH CX X E)(L:PA X (e::q) t)(M:k<=j:=by decide)
  (O:Yt X.env.scope x=true:=by kernel_rfl) (U:(x == ("__debug__":Str))=false:=by kernel_rfl) (Y:Wg e=true:=by rfl) (z:YH q=true:=by rfl) :
  PE X (.Call (.Name x p) (e::q) [] pos) (W0 sp [] E t):=by
 obtain⟨f,fd,F,hm,kp,b⟩:=G;exact Zaj F (D.mono M) (W6 O) hm kp b .nil J L U (Yo Y) (Yl z)
end
theorem Fn.mk {P:Program}{w:World}{K:aa}{mg:Str->Option Value}{base h:Heap}{CX:Xe}{k:Nat}{x:Str}{z:List Str}{sp:Sp}{st:Stmt}{f:Addr}{M:Value}{O B:Option Addr}{D:Array (Option Value)}{kV q J j ct:Value}(X:K.In h)(G:h.Ns mainGlobals mg)
  (a:aA K mainGlobals x=some (some (.ref f))) (l:K.lookup f=some ⟨M,O,.func (aL x x (Yc st) (Z6 st) (ZK st) .none kV q J B j ct),D⟩) (c:bv K j x=true) (kp:bi K (.ref f)=true)
  (hok:∀L,WW K x x st f L->Yd P w K mg base CX k f L z sp)
  (hb:∀(kV q J:Value) (B:Option Addr) (j ct:Value) (us:List Value),us.length=z.length->bindArgs (aL x x (Yc st) (Z6 st) (ZK st) .none kV q J B j ct) ⟨us,[]⟩=pure (z.zip us)) :
  Fn P w K mg base CX k x z sp:=
 ⟨f,_,hok _ (Xw l c kp),fc X G a,kp,(Xw l c kp).binds hb⟩
section
variable {X:Cx}
theorem XZ (K:aa)(j:X.K=K:=by rfl):IxR X (U5 K):=j▸ZbO
theorem ixL (K:aa)(j:X.K=K:=by rfl):IxR X (Zcx K):=j▸Zaw
noncomputable def Zde (K:aa):List V->Hp->VK->Prop:=fun xs H Q=>∃p j,xs=[.ref p]/\(YF K H p j\/Y9 K H p j)/\Q (.int j.length) H
theorem Up (K:aa)(j:X.K=K:=by rfl):Z9 X (.builtin "len") (Zde K):=j▸JB
theorem itL (K:aa){q l:Expr}{j:TE}(z:PE X l j)(B:X.K=K:=by rfl):PI X q l (Ux K j):=B▸Zad z
end
noncomputable def XB (N:List Str)(B:a6)(D:List Str)(q:List Nat)(J:List Str)(z:a6):Bool:=
 (z.kind == .function) && YS (z.names.map (·.1)) && z.names.all (fun y=>y.2 != .local || Ys z y.1) && YS J && decide (J=D++q.map fun j=>N.getD j "") &&
  q.all (fun j=>decide (j<N.length) && (match z.names.lookup (N.getD j "") with|some .free=>true|_=>false)) &&
  z.names.all (fun y=>y.2 != .free || (match B.names.lookup y.1 with|some .cell=>true|some .free=>true|_=>false))
theorem YJ.of {N:List Str}{D:a6}{own:List Str}{B:List Nat}{L:List Str}{M:a6}(h:XB N D own B L M=true):YJ N D own B L M:=by
 unfold XB at h;simp only[aS,bG,decide_eq_true_eq,beq_iff_eq,bne_iff_ne,ne_eq,Bool.or_eq_true] at h;obtain⟨⟨⟨⟨⟨⟨Y,h2⟩,h3⟩,h4⟩,h5⟩,O⟩,h7⟩:=h;refine⟨Y,Ya h2,fun y J e=>?_,Ya h4,h5,fun j U=>⟨(O j U).1,?_⟩,fun y J e=>?_⟩
 ·rcases h3 y J with z|z
  ·exact absurd e z
  ·exact ZX z
 ·have:=(O j U).2
  split at this
  ·rename_i z;exact z
  ·cases this
 ·rcases h7 y J with z|z
  ·exact absurd e z
  ·split at z
   ·rename_i q;exact .inl q
   ·rename_i q;exact .inr q
   ·cases z
theorem cmp {X:Cx}(q:List Str)(j:List Nat)(B:List Str){scope:a6}{elt iter D:Expr}{ifs:List Expr}{pos:Pos}{J:TI}{g:TG}{L:TT}{M:TE}(O:X.calm=true)(U:PI X D iter J)
  (Y:∀z C s H ex,PG (Yn X scope z B C s H ex) D g) (ht:∀z C s H ex,PIf (Yn X scope z B C s H ex) ifs L) (he:∀z C s H ex,PE (Yn X scope z B C s H ex) elt M)
  (hS:XB X.N X.env.scope q j B scope=true:=by kernel_rfl) (hs:∀x,foldedSetIterable iter X.env x=pure x:=by intro _;rfl) :
  PE X (.ListComp elt [⟨D,iter,ifs,0⟩] scope pos) (ZaW q j J g L M):=Zai rfl (.of hS) O U Y ht he hs
section
variable {X:Cx}
noncomputable def Zcz:R2:=fun x y H Q=>∃(a b:Addr) (j q:List V),x=.ref a/\y=.ref b/\H a=some (.tup j)/\H b=some (.tup q)/\j.length+q.length<=sizeLine/\∀p z,Zy H z->z p=some (.tup (j++q))->Q (.ref p) z
theorem XV:Wa X (binaryOp .Add) Zcz:=by
 intro j s σ H x y v u Q I O U h;obtain⟨a,b,xs,ys,rfl,rfl,J,hb,hz,q⟩:=h;by_cases Y:xs=[]
 ·subst Y
  cases O;cases U;obtain⟨f8,r1,p1,_⟩:=I.tuple (Y9.of J);obtain⟨f6,r2,p2,_⟩:=I.tuple (Y9.of hb);cases r1;obtain⟨⟨f9,dd,data,sl⟩,ho,hc,n,hd⟩:=id p1;obtain⟨⟨f7,L,data2,M⟩,z,B,n2,D⟩:=id p2;simp only at hc hd B D;subst hc hd B D;exact eV ⟨_,ho,rfl⟩ ⟨_,z,rfl⟩ dJ eD cf bY (bT _ _) (tuple_addW0 a b _ _ n n2 dd L sl M rfl) ⟨ho,z,⟨.ref b,H,I,rfl,q b H (Zy.refl H) hb⟩⟩
 ·refine Zam j s σ H _ _ v u Q I O U ⟨a,b,xs,ys,rfl,rfl,.of J,.of hb,Y,hz,fun e=>?_,fun e p hp=>q p _ (Zy.upd hp) Zv⟩
  subst e;exact q a H (Zy.refl H) (by rw[aG];exact J)
end
theorem YW {c:TT}{q:TS}{D:Y8}{σ:St}{H:Hp}(Pv:Nat->St->Hp->Prop)(z:St->Hp->Prop)(hend:∀ σ H,z σ H->D.nx σ H)(h0:∃m,Pv m σ H)
  (turn:(∀ σ H,z σ H->D.nx σ H)->∀m σ H,Pv m σ H->c σ H fun b H1=>if b=true then ∃N:St->Hp->Prop,(∀ j B,N j B->∃J,J<m/\Pv J j B)/\q {D with nx:=N,ct:=N,bk:=D.nx} σ H1 else D.nx σ H1) :
  VS c q D σ H:=⟨Pv,h0,turn hend⟩
structure WP (J:It)(H:Hp)(xs:List V):Prop where
 go:∀(i:Nat) H',Zy H H'->i<xs.length->J.go i H'
 yld:∀(i:Nat) H' x H2,Zy H H'->i<xs.length->J.yld i H' x H2->H2=H'/\xs[i]?=some x
 stop:∀H',Zy H H'->J.stop xs.length H'
theorem U2 {K:aa}{H:Hp}{a:Addr}{xs:List V}(h:YF K H a xs):WP (Itl K a) H xs:=
 ⟨fun i j s q=>⟨xs,_,s.seq h,Zf q⟩,fun i j x z s _ y=>⟨y.1,y.2 xs (s.seq h)⟩,fun j s=>⟨xs,s.seq h,Zq _⟩⟩
theorem U1 {H:Hp}(lo:Int)(n:Nat):WP (Itr lo n) H ((Jp lo n).map V.int):=by
 have q:((Jp lo n).map V.int).length=n:=by rw[Za,JQ]
 refine⟨fun i z s j=>by rw[q] at j;exact j,fun i z x B s j y=>?_,fun z s=>by show n<=_;rw[q];exact Zq _⟩;rw[q] at j;exact⟨y.1,by rw[y.2,Zc,V5 j];rfl⟩
theorem J4 {J:It}{own:List Str}{L:List Nat}{g:TG}{tc:TT}{te:TE}{σ:St}{H:Hp}{Q:VK}{xs:List V}(S:WP J H xs)(O:St)(f6:J6 own L σ=none::O)(f:V->Option V)(hz:xs.length<=1000000)
  (hs:∀(i:Nat) x U j,xs[i]?=some x->Zy H j->∀(R:St->V->Hp->Prop) (R':St->Hp->Prop),(∀v H5,f x=some v->Zy j H5->R (some x::O) v H5)->(∀M,f x=none->Zy j M->R' (some x::O) M)->
   g x (U::O) j fun q H3=>tc q H3 fun b M=>if b=true then te q M (R q) else R' q M)
  (hd:∀D j,H D=none->Zy H j->j D=some (.lst (xs.filterMap f))->Q (.ref D) j) :
  Xc own L g tc te σ Q J H:=by
 intro D hD;refine⟨fun i m Y j=>m=xs.length-i/\i<=xs.length/\(∃U,Y=U::O)/\Zy H j/\j D=some (.lst ((xs.take i).filterMap f)),⟨_,rfl,aQ _,⟨none,f6⟩,Zy.upd hD,by rw[Zv,List.take_zero];rfl⟩,?_⟩;rintro i m Y j ⟨rfl,hi,⟨U,rfl⟩,s,hl⟩;by_cases B:i<xs.length
 ·refine .inr ⟨S.go i j s B,_,fun f8 H2 z=>z,fun x H2 y=>?_⟩
  obtain⟨rfl,hx⟩:=S.yld i j x H2 s B y;have ht:xs.take (i+1)=xs.take i++[x]:=by rw[e8,hx];rfl
  have f7:((xs.take i).filterMap f).length<=i:=aF (List.length_filterMap_le _ _) (by rw[cg];omega);refine hs i x U H2 hx s _ _ (fun v H5 e s5=>?_) (fun M e s4=>?_)
  ·refine⟨_,s5 _ _ hl,?_,xs.length-(i+1),by omega,rfl,B,⟨_,rfl⟩,(s.trans s5).updr hD,?_⟩
   ·have:(16777216:Nat)=sizeLine:=by decide
    omega
   ·rw[Zv,ht,eu,aP,e];rfl
  ·refine⟨xs.length-(i+1),by omega,rfl,B,⟨_,rfl⟩,s.trans s4,?_⟩
   rw[s4 _ _ hl,ht,eu,aP,e];simp
 ·have e:i=xs.length:=by omega
  subst e;refine .inl ⟨S.stop j s,hd D j hD s ?_⟩;rw[hl,de]
theorem ZaH {J:It}{g:TG}{M:TS}{D:Y8}{σ:St}{O H:Hp}{xs:List V}(S:WP J O xs)(Pv:Nat->St->Hp->Prop)(h0:Pv 0 σ H)(Y:∀i σ H,Pv i σ H->Zy O H)
  (hs:∀(i:Nat) x σ H,xs[i]?=some x->Pv i σ H->g x σ H fun q L=>M {D with nx:=Pv (i+1),ct:=Pv (i+1),bk:=D.nx} q L) (hd:∀ σ H,Pv xs.length σ H->D.nx σ H) :
  ∃W:Nat->Nat->St->Hp->Prop,(∃m,W 0 m σ H)/\∀i m σ H,W i m σ H->
   (J.stop i H/\D.nx σ H)\/(J.go i H/\∃N:St->Hp->Prop,(∀ z j,N z j->∃U,U<m/\W (i+1) U z j)/\∀x j,J.yld i H x j->g x σ j fun q L=>M {D with nx:=N,ct:=N,bk:=D.nx} q L):=by
 refine⟨fun i m σ H=>m=xs.length-i/\i<=xs.length/\Pv i σ H,⟨_,rfl,aQ _,h0⟩,?_⟩;rintro i m σ H ⟨rfl,hi,p⟩;have s:=Y i σ H p;by_cases B:i<xs.length
 ·refine .inr ⟨S.go i H s B,Pv (i+1),fun z j p'=>⟨xs.length-(i+1),by omega,rfl,B,p'⟩,fun x j y=>?_⟩
  obtain⟨rfl,hx⟩:=S.yld i H x j s B y;exact hs i x σ _ hx p
 ·have e:i=xs.length:=by omega
  subst e;exact .inl ⟨S.stop H s,hd σ H p⟩
theorem tT {A B:Hp->Prop}{σ:St}{H:Hp}(h:A H):JJ σ H fun b j=>if b=true then A j else B j:=by
 show if true=true then A H else B H
 rw[if_pos rfl];exact h
theorem X1 {α j:Type}(g:α->j):∀xs:List α,xs.filterMap (fun y=>some (g y))=xs.map g
 | []=>rfl
 |x::r=>by rw[aP,aE,X1 g r]
theorem Za9 {α j:Type}(p:α->Bool)(g:α->j):∀xs:List α,xs.filterMap (fun y=>if p y=true then some (g y) else none)=(xs.filter p).map g
 | []=>rfl
 |x::r=>by
  rw[aP,List.filter_cons,Za9 p g r];by_cases h:p x=true
  ·rw[if_pos h,if_pos h];rfl
  ·rw[if_neg h,if_neg h]
theorem YU {c A B:Prop} [Decidable c](j:¬c)(h:B):if c then A else B:=by rw[if_neg j];exact h
theorem UL {J:It}{own:List Str}{z:List Nat}{B:TE}{σ:St}{H:Hp}{Q:VK}{xs:List V}(S:WP J H xs)(q:St)(O:J6 own z σ=none::q)(f:V->V)(U:xs.length<=1000000)
  (Y:∀(i:Nat) x j,xs[i]?=some x->Zy H j->∀R:VK,(∀L,Zy j L->R (f x) L)->B (some x::q) j R)
  (hd:∀D j,H D=none->Zy H j->j D=some (.lst (xs.map f))->Q (.ref D) j):Xc own z (Yi 0) JJ B σ Q J H:=by
 refine J4 S q O (fun x=>some (f x)) U (fun i x v0 j hx s R R' h1 h2=>?_) fun D j hD s hl=>hd D j hD s (by rw[hl,X1]);show JJ (some x::q) j fun b M=>if b=true then B (some x::q) M (R (some x::q)) else R' (some x::q) M
 exact tT (A:=fun M=>B (some x::q) M (R (some x::q))) (Y i x j hx s _ fun L s5=>h1 _ L rfl s5)
theorem VF {J:It}{own:List Str}{q:List Nat}{U:TT}{Y:TE}{σ:St}{H:Hp}{Q:VK}{xs:List V}(S:WP J H xs)(B:St)(O:J6 own q σ=none::B)(p:V->Bool)(f:V->V)(hz:xs.length<=1000000)
  (hs:∀(i:Nat) x j,xs[i]?=some x->Zy H j->∀(R:VK) (L:Hp->Prop),(p x=true->∀M,Zy j M->R (f x) M)->(p x=false->∀z,Zy j z->L z)->U (some x::B) j fun b z=>if b=true then Y (some x::B) z R else L z)
  (hd:∀D j,H D=none->Zy H j->j D=some (.lst ((xs.filter p).map f))->Q (.ref D) j):Xc own q (Yi 0) U Y σ Q J H:=by
 refine J4 S B O (fun x=>if p x=true then some (f x) else none) hz (fun i x v0 j hx s R L h1 h2=>?_) fun D j hD s hl=>hd D j hD s (by rw[hl,Za9])
 exact hs i x j hx s (R (some x::B)) (L (some x::B)) (fun e M s5=>h1 _ M (by rw[if_pos e]) s5) fun e z s4=>h2 z (by rw[if_neg (by rw[e];decide)]) s4
theorem YZ:∀{ns:List Int},(∀n∈ns,n.natAbs<2 ^ 200)->ez (ns.map aC)=true/\eK (ns.map aC)=false/\bI (ns.map aC)=0/\dS 300 (ns.map aC)=true/\ff (ns.map aC)=ns.length/\bS (ns.map aC)=true
 | [],_=>⟨rfl,rfl,rfl,rfl,rfl,rfl⟩
 |n::r,h=>by
  obtain⟨J,B,L,M,O,U⟩:=YZ (ns:=r) fun m Y=>h m (ag _ Y);have D:=h n ah;have j:n.natAbs.log2<1920:=by
   by_cases q:n.natAbs=0
   ·rw[q];decide +kernel
   ·have:=(eM q).mpr D
    omega
  have z:(bK (.int n)).length<=300:=by
   have B:n.natAbs.log2<200:=by
    by_cases q:n.natAbs=0
    ·rw[q];decide +kernel
    ·exact (eM q).mpr D
   have:=int_text_length_le (k:=200) (by decide) B;simp only[bK];rw[PySem.ofString_length];omega
  refine⟨?_,?_,?_,?_,?_,?_⟩
  ·simp only[aE,ez,db,J,bH,decide_eq_true_eq];exact j
  ·simp only[aE,eK,fe,B,Bool.or_false]
  ·simp only[aE,bI,bA,L];rfl
  ·simp only[aE,dS,cL,M,bH,decide_eq_true_eq];exact z
  ·simp only[aE,ff,dY,O,Zi];omega
  ·simp only[aE,bS,cv,U,bH]
theorem JZ {ns:List Int}(J:ns.length<=50000)(h:∀n∈ns,n.natAbs<2 ^ 200):UP (.tuple (ns.map aC)):=by
 obtain⟨j,q,z,B,D,L⟩:=YZ h;refine⟨by simp only[db];exact j,by simp only[fe];exact q,by simp only[bA,z];omega,?_⟩;have:=dX 300 (by decide) (.tuple (ns.map aC)) (by simp only[cL];exact B);simp only[dY,D] at this;have e:(16777216:Nat)=sizeLine:=by decide
 omega
noncomputable def ZH (K:aa)(x:Str)(st:Stmt):Prop:=
 ∃(f:Addr) (B:Value) (D J:Option Addr) (q:Array (Option Value)) (kV z L j ct:Value),aA K mainGlobals x=some (some (.ref f))/\
  K.lookup f=some ⟨B,D,.func (aL x x (Yc st) (Z6 st) (ZK st) .none kV z L J j ct),q⟩/\bv K j x=true/\bi K (.ref f)=true
theorem ZH.mk {K:aa}{x:Str}{st:Stmt}{f:Addr}{z:Value}{B an:Option Addr}{q:Array (Option Value)}{kV doc pm j ct:Value}(a:aA K mainGlobals x=some (some (.ref f)))
  (l:K.lookup f=some ⟨z,B,.func (aL x x (Yc st) (Z6 st) (ZK st) .none kV doc pm an j ct),q⟩) (c:bv K j x=true) (k:bi K (.ref f)=true):ZH K x st:=
 ⟨f,z,B,an,q,kV,doc,pm,j,ct,a,l,c,k⟩
theorem ZH.fn {P:Program}{w:World}{K:aa}{mg:Str->Option Value}{base h:Heap}{CX:Xe}{k:Nat}{x:Str}{q:List Str}{sp:Sp}{st:Stmt}(D:ZH K x st)(X:K.In h)(G:h.Ns mainGlobals mg)
  (B:∀f z,WW K x x st f z->Yd P w K mg base CX k f z q sp)
  (hb:∀(kV doc pm:Value) (an:Option Addr) (j ct:Value) (us:List Value),us.length=q.length->bindArgs (aL x x (Yc st) (Z6 st) (ZK st) .none kV doc pm an j ct) ⟨us,[]⟩=pure (q.zip us)) :
  Fn P w K mg base CX k x q sp:=by
 obtain⟨f,L,M,an,J,kV,doc,pm,j,ct,a,l,c,kp⟩:=D;exact Fn.mk X G a l c kp (fun z F=>B f z F) hb
theorem ZH.law {P:Program}{w:World}{K:aa}{mg:Str->Option Value}{h:Heap}{CX:Xe}{k:Nat}{x:Str}{p:Str}{sp:Sp}{st:Stmt}{J:Addr}(D:ZH K x st)(X:K.In h)(G:h.Ns mainGlobals mg)(z:mg x=some (.ref J))
  (B:∀(base:Heap) f q,base.Ns mainGlobals mg->K.In base->WW K x x st f q->Yd P w K mg base CX k f q [p] sp)
  (hb:∀(kV doc pm:Value) (an:Option Addr) (j ct:Value) (s:Shared) (u:Value),cW s (aL x x (Yc st) (Z6 st) (ZK st) .none kV doc pm an j ct) ⟨[u],[]⟩ [(p,u)]) :
  ∃q:FuncData,(∀(s:Shared) (u:Value),cW s q ⟨[u],[]⟩ [(p,u)])/\∀base:Heap,K.In base->base.Ns mainGlobals mg->Yd P w K mg base CX k J q [p] sp:=by
 obtain⟨f,U,Y,an,L,kV,doc,pm,j,ct,a,l,c,kp⟩:=D;have e:=z.symm.trans (fc X G a);cases e;exact⟨_,fun s u=>hb kV doc pm an j ct s u,fun base M O=>B base _ _ O M (Xw l c kp)⟩
theorem Ul:fillsNumberSlot (.type "tuple") "mul"=pure false:=
 PySem.fillsNumberSlot_seq (id:="tuple.__mul__") (r:=some (.builtin "tuple.__rmul__")) br.lookup (by decide +kernel) dF.lookup (by decide +kernel)
theorem Zda:seqRepeat? (.type "tuple")=pure (some (.builtin "tuple.__mul__")):=by
 unfold seqRepeat?;rw[eU (T:="tuple") (name:="__mul__") (id:="tuple.__mul__") br.lookup (by decide +kernel),eU (T:="tuple") (name:="__rmul__") (id:="tuple.__rmul__") dF.lookup (by decide +kernel)];rfl
noncomputable abbrev tob (j:Option Addr)(items:Array Value)(n:Nat)(q:Array (Option Value)):Obj:={cls:=.type "tuple",dict:=j,data:=.seq items n,slots:=q}
theorem Zct (a:Int)(t:Tok)(l:Addr)(items:Array Value)(n:Nat)(q:Option Addr)(z:Array (Option Value)) :
  Meets (bb.«int.__rmul__» ⟨[.int a t,.ref l],[]⟩) (fun _ R s=>s.heap.get? l=some (tob q items n z)/\R (.ok (.ret Value.notImplemented)) s):=.of_wp fun j w A R s h=>by
 obtain⟨B,g,d,D,os⟩:=s;obtain⟨J,h⟩:=h
 wp_walk;exact⟨_,rfl,h⟩
theorem ZcF (l:Addr)(items:Array Value)(n:Nat)(q:Option Addr)(z:Array (Option Value))(t:Tok) :
  Meets (bb.«tuple.__mul__» ⟨[.ref l,.int 1 t],[]⟩) (fun _ R s=>s.heap.get? l=some (tob q items n z)/\R (.ok (.ret (.ref l))) s):=.of_wp fun j w A R s h=>by
 obtain⟨D,g,d,J,os⟩:=s;obtain⟨B,h⟩:=h;have L:=cS;have M:=bQ
 wp_walk using wpAny_loadPart' B
 exact⟨_,rfl,h⟩
theorem ZcG (l:Addr)(items:Array Value)(n:Nat)(q:Option Addr)(z:Array (Option Value))(t:Tok)(D:items.isEmpty=false) :
  Meets (bb.«tuple.__mul__» ⟨[.ref l,.int 0 t],[]⟩) (fun _ R s=>s.heap.get? l=some (tob q items n z)/\R (.ok (.ret (.ref s.heap.objs.size))) {s with heap:=s.heap.push {cls:=.type "tuple",data:=.seq #[]}}):=.of_wp fun j w A R s h=>by
 obtain⟨J,g,d,L,os⟩:=s;obtain⟨B,h⟩:=h;have M:=cS;have O:=bQ
 wp_walk using wpAny_loadPart' B
 exact⟨_,rfl,h⟩
theorem ZcE (l:Addr)(items:Array Value)(n:Nat)(z:Option Addr)(B:Array (Option Value))(k:Int)(t:Tok)(D:¬(decide (k < -(2 ^ 63)) || decide (k ≥ 2 ^ 63))=true)(J:¬(items.isEmpty || k == 1)=true)(L:¬(decide (k<=0) || items.isEmpty)=true)
  (M:¬((items.size:Int)*k > (2 ^ 63-1) / 8)) (O:¬cR ((items.size:Int)*k)=true) (U:((ae k.toNat items).foldl (· ++ ·) #[]).size<=sizeLine) :
  Meets (bb.«tuple.__mul__» ⟨[.ref l,.int k t],[]⟩) (fun _ R s=>s.heap.get? l=some (tob z items n B)/\R (.ok (.ret (.ref s.heap.objs.size))) {s with heap:=s.heap.push {cls:=.type "tuple",data:=.seq ((ae k.toNat items).foldl (· ++ ·) #[])}}):=.of_wp fun q w A R s h=>by
 obtain⟨Y,g,d,tk,os⟩:=s;obtain⟨j,h⟩:=h;have f1:=cS;have f2:=bQ
 wp_walk using wpAny_loadPart' j
 rw[if_neg D]
 wp_walk using wpAny_loadPart' j
 all_goals (try rw[if_neg J])
 all_goals (try wp_walk using wpAny_loadPart' j)
 all_goals (try rw[if_neg L])
 all_goals (try wp_walk using wpAny_loadPart' j)
 all_goals (try rw[if_neg M])
 all_goals (try wp_walk using wpAny_loadPart' j)
 all_goals (try rw[if_neg O])
 all_goals (try wp_walk using wpAny_loadPart' j)
 all_goals first|exact⟨_,rfl,h⟩|exact U
theorem W7 (j:List Value):∀(m:Nat) (acc:List Value),(ae m j.toArray).foldl (· ++ ·) acc.toArray=(acc++(ae m j).flatten).toArray
 |0,acc=>by simp
 |m+1,acc=>by
  rw[av,List.foldl_cons,av,aO,<-ay];have:acc.toArray++j.toArray=(acc++j).toArray:=by simp
  rw[this];exact W7 j m (acc++j)
section
variable {X:Cx}
theorem ZE.repl {xs:List V}{us:List Value}(r:ZE xs us):∀m:Nat,ZE (ae m xs).flatten (ae m us).flatten
 |0=>.nil
 |m+1=>by rw[av,av,aO,aO];exact r.append (ZE.repl r m)
noncomputable def Zcw:R2:=fun x y H Q=>∃(a:Addr) (j:List V) (k:Nat),x=.ref a/\y=.int k/\H a=some (.tup j)/\j≠[]/\j.length*k<=1000000/\k<=1000000/\∀p q,Zy H q->q p=some (.tup (ae k j).flatten)->Q (.ref p) q
theorem Js:Wa X (binaryOp .Mult) Zcw:=by
 intro f6 s σ H x y v u Q I rx ry h;obtain⟨a,xs,k,rfl,rfl,ha,hx,hz,hk,q⟩:=h;cases rx;obtain⟨t,rfl⟩:=ry;obtain⟨j,J,p1,_⟩:=I.tuple (Y9.of ha);have O:=J.length;have Y:j≠[]:=fun e=>by rw[e] at J;cases J;exact hx rfl
 have B:j.toArray.isEmpty=false:=by cases j with|nil=>exact absurd rfl Y|cons _ _=>rfl
 obtain⟨⟨f7,L,data,M⟩,z,hc,n,hd⟩:=id p1;simp only at hc hd;subst hc hd;have sz:(16777216:Nat)=sizeLine:=by decide
 have fl:(ae ((k:Nat):Int).toNat j.toArray).foldl (· ++ ·) #[]=((ae k j).flatten).toArray:=by
  have:=W7 j k [];rw[Zj];simpa using this
 have D:((ae k j).flatten).length=k*j.length:=Jv j k;refine ev (T:="tuple") (U:="int") (by decide) ⟨_,z,rfl⟩ (fun s'=>dh s' k t) Ul F.fills_int_mul cC Zda F.slot_int_index.lookup
  (bh cC (dh s k t) F.entry_int_rmul (F.args_int_rmul_2 _ _) (Zct k t a j.toArray n L M) ⟨z,rfl,⟨_,z,rfl⟩,?_⟩)
 by_cases k0:k=0
 ·subst k0
  refine bh br ⟨_,z,rfl⟩ dk (c8 _ _) (ZcG a j.toArray n L M t B) ⟨z,?_⟩;exact⟨.ref s.heap.objs.size,_,I.laid (t':=s.toks) (o:=.tup []) (fun b ob q=>Zn _ q) (Zq _) ⟨aQ _,[],.nil,cD _ _⟩,rfl,q _ _ (Zy.upd (I.hok.fresh (Zq _))) (by rw[Zv];rfl)⟩
 by_cases k1:k=1
 ·subst k1
  refine bh br ⟨_,z,rfl⟩ dk (c8 _ _) (ZcF a j.toArray n L M t) ⟨z,?_⟩;exact⟨.ref a,H,I,rfl,q _ _ (Zy.refl H) (by rw[ha];simp)⟩
 ·refine bh br ⟨_,z,rfl⟩ dk (c8 _ _) (ZcE a j.toArray n L M k t ?_ ?_ ?_ ?_ ?_ ?_) ⟨z,?_⟩
  ·simp only[Bool.or_eq_true,decide_eq_true_eq,not_or];omega
  ·rw[B];simp;omega
  ·rw[B];simp;omega
  ·rw[Zh,<-O]
   have:((xs.length*k:Nat):Int)<=1000000:=by omega
   rw[Int.natCast_mul] at this;omega
  ·unfold cR
   rw[Zh,<-O];have:((xs.length*k:Nat):Int)<=1000000:=by omega
   rw[Int.natCast_mul] at this;simp only[decide_eq_true_eq];omega
  ·rw[fl,Zh,D,<-O,er];omega
  ·rw[fl]
   exact⟨.ref s.heap.objs.size,_,I.laid (t':=s.toks) (o:=.tup (ae k xs).flatten) (fun b ob q=>Zn _ q) (Zq _) ⟨by rw[Jv,er];omega,_,ZE.repl J k,cD _ _⟩,rfl,q _ _ (Zy.upd (I.hok.fresh (Zq _))) Zv⟩
end
end L2
namespace L2
open PySem PySem.Spec PyProof.Rows
open PySem.Builtin PySem.Builtin.Str
section
variable {X:Cx}
theorem WX:∀(l:List (Str×Tok)),ZE ((l.map (·.1)).map V.str) (strValues l)
 | []=>.nil
 |(x,t)::r=>.cons ⟨t,rfl⟩ (WX r)
theorem Vs:MtR X "str.startswith" (fun x xs H Q=>∃a b,x=.str a/\xs=[.str b]/\Q (.bl (cH a b)) H):=by
 intro j s J H x xs v L Q I z B h;obtain⟨a,b,rfl,rfl,q⟩:=h;obtain⟨t,rfl⟩:=z;obtain⟨u,rfl,D,rfl⟩:=vals1 B;exact call_gives dP (bf _ _ _) F.entry_str_startswith (F.args_str_startswith_2 _ _) (gives_str_startswith a b t D) ⟨.bl (cH a b),H,I,rfl,q⟩
theorem Um:MtR X "str.split" (fun x xs H Q=>∃a b,x=.str a/\xs=[.str b]/\(b.length == 0)=false/\a.length+2<=sizeLine/\∀p,H p=none->Q (.ref p) (upd H p (.lst ((bz a b).map V.str)))):=by
 intro B s M H x xs v us Q I O U h;obtain⟨a,b,rfl,rfl,hb,hz,q⟩:=h;obtain⟨t,rfl⟩:=O;obtain⟨u,rfl,J,rfl⟩:=vals1 U;have L:(partsBetween a (occurrences a b 0 a.length (a.length+1)) b.length).length<=sizeLine:=by
  have e1:=StrLaws.occ_length_le a b 0 a.length (a.length+1);rw[length_partsBetween];omega
 have j:∀(l:List (Str×Tok)) (k:Nat),l.map (·.1)=bz a b->EP X B M Q (.ref s.heap.objs.size) {s with heap:=s.heap.push {cls:=.type "list",data:=.seq (strValues l).toArray},toks:=k}:=fun l k e=>by
  have r:=WX l;rw[e] at r;have Y:((bz a b).map V.str).length<=sizeLine:=by
   rw[Za];unfold bz;split
   ·show 1<=sizeLine;decide
   ·split
    ·show 1<=sizeLine;decide
    ·exact L
  exact⟨.ref s.heap.objs.size,_,I.laid (t':=k) (fun b' o' e'=>Zn _ e') (Zq _) (show ZU X.prog X.w _ _ _ (.lst ((bz a b).map V.str)) from ⟨Y,strValues l,_,r,Zo _ rfl⟩),rfl,q _ (I.hok.fresh (Zq _))⟩
 cases z:(decide (a.length<b.length) || decide (strKind a<strKind b))
 ·cases D:(occurrences a b 0 a.length (a.length+1)).isEmpty
  ·refine bh bW (bf _ _ _) dm (c9 _ _) (meets_str_split_sep a b t J z hb D (by omega) L) ?_
   show wants _ _ _ {s with toks:=_,heap:=s.heap.push {cls:=.type "list",data:=.seq (strsFrom s.toks (partsBetween a (occurrences a b 0 a.length (a.length+1)) b.length)).toArray}};rw[strsFrom_eq];exact j (numbered s.toks _) _ ((numbered_texts _ _).trans ((if_neg (ne_true_of_eq_false z)).trans (if_neg (ne_true_of_eq_false D))).symm)
  ·exact bh bW (bf _ _ _) dm (c9 _ _) (meets_str_split_not_found a b t J z hb D) (j [(a,t)] s.toks ((if_neg (ne_true_of_eq_false z)).trans (if_pos D)).symm)
 ·exact bh bW (bf _ _ _) dm (c9 _ _) (meets_str_split_cannot_occur a b t J z) (j [(a,t)] s.toks (if_pos z).symm)
theorem Zau:MtR X "str.partition" (fun x xs H Q=>∃a b,x=.str a/\xs=[.str b]/\(b.length == 0)=false/\a.length<=sizeLine/\∀p,H p=none->Q (.ref p) (upd H p (.tup [.str (aI a b).1,.str (aI a b).2.1,.str (aI a b).2.2]))):=by
 intro j s Y H x xs v us Q I rx rv h;obtain⟨a,b,rfl,rfl,hb,hz,q⟩:=h;obtain⟨t,rfl⟩:=rx;obtain⟨u,rfl,t2,rfl⟩:=vals1 rv;refine bh dU (bf _ _ _) F.entry_str_partition (F.args_str_partition_2 _ _) (meets_str_partition a b t t2 hb hz) ?_;have z:∀(B D J:Str) (L M O:Tok) (k:Nat),aI a b=(B,D,J)->EP X j Y Q (.ref s.heap.objs.size) {s with heap:=s.heap.push {cls:=.type "tuple",data:=.seq [.str B L,.str D M,.str J O].toArray},toks:=k}:=fun B D J L M O k e=>by
  rw[e] at q;exact⟨.ref s.heap.objs.size,_,I.laid (t':=k) (fun b' o' e'=>Zn _ e') (Zq _) (show ZU X.prog X.w _ _ _ (.tup [.str B,.str D,.str J]) from ⟨by show 3<=sizeLine;decide,[.str B L,.str D M,.str J O],.cons ⟨L,rfl⟩ (.cons ⟨M,rfl⟩ (.cons ⟨O,rfl⟩ .nil)),cD _ _⟩),rfl,q _ (I.hok.fresh (Zq _))⟩
 cases U:occurrences a b 0 a.length 1 with
 |nil=>exact z _ _ _ _ _ _ _ (by unfold aI;rw[U])
 |cons i r=>exact z _ _ _ _ _ _ _ (by unfold aI;rw[U])
theorem Jc:Z9 X (.type "int") (fun xs H Q=>∃x n,xs=[.str x]/\x.length<=640/\PySem.intText? x=some n/\Q (.int n) H):=by
 intro j s D H xs J Q I r h;obtain⟨x,n,rfl,z,B,q⟩:=h;obtain⟨u,rfl,t,rfl⟩:=vals1 r;exact PySem.W.KIN.call_text B z ⟨.int n,H,I.tok _,⟨_,rfl⟩,q⟩
noncomputable def Zdb:V->Option Int->Option Int->Hp->VK->Prop:=fun x lo j H Q=>∃a,x=.str a/\a.length<=sizeLine/\Q (.str (di a lo j)) H
theorem Zbi:SlR X Zdb:=by
 intro B s M H x v vl vu lo O sl Q I U D Y L h;obtain⟨a,rfl,J,q⟩:=h;obtain⟨t,rfl⟩:=U;have z:∀(j k:Nat),EP X B M Q (.str (di a lo O) j) {s with toks:=k}:=fun j k=>⟨.str _,H,I.tok _,⟨_,rfl⟩,q⟩;cases Y with
 |none=>cases L with
  |none=>exact⟨"str",_,bX.lookup,bf _ _ _,bD (l:=none) (u:=none) (st:=none) D rfl (cK ⟨aF (c6 a _ _) J,fun j k=>z j k⟩)⟩
  |int=>exact⟨"str",_,bX.lookup,bf _ _ _,bD (l:=none) (u:=some (_,_)) (st:=none) D rfl (cK ⟨aF (c6 a _ _) J,fun j k=>z j k⟩)⟩
 |int=>cases L with
  |none=>exact⟨"str",_,bX.lookup,bf _ _ _,bD (l:=some (_,_)) (u:=none) (st:=none) D rfl (cK ⟨aF (c6 a _ _) J,fun j k=>z j k⟩)⟩
  |int=>exact⟨"str",_,bX.lookup,bf _ _ _,bD (l:=some (_,_)) (u:=some (_,_)) (st:=none) D rfl (cK ⟨aF (c6 a _ _) J,fun j k=>z j k⟩)⟩
end
noncomputable def Its (x:Str):It:=⟨fun i _=>i<x.cps.toList.length,fun i H v j=>j=H/\∃c,x.cps.toList[i]?=some c/\v=.str ⟨#[c]⟩,fun i _=>x.cps.toList.length<=i⟩
theorem VR {P:Program}{w:World}{K:aa}{tg:Expr}(x:Str)(t:Tok)(B:Addr):XF P w K tg (Its x) [B] B (fun i h=>h.IsStrIter B "str_ascii_iterator" x t i) where
 mem:=by simp
 obj:=fun i h st b hb=>by
  have e:b=B:=by simpa using hb
  subst e;obtain⟨o,e,c,d⟩:=st;exact⟨o,e,fun v z=>by rw[d] at z;cases z⟩
 keep:=fun i h J st k=>by
  obtain⟨o,e,c,d⟩:=st;exact⟨o,k B (by simp) o e,c,d⟩
 item:=by
  intro X M O U hc i j s σ H E I L st q;subst M O U;have q:i<x.cps.toList.length:=q;obtain⟨Y,f1,f2,f3,f4,f5⟩:=L B (by simp);refine wpAny_pyNext_ascii_item st (c:=x.cps.toList[i]) (by rw[<-eg];exact Zf q) fun J D sb=>?_;have I1:Inv X j σ H {s with heap:=J,toks:=s.toks+1}:=I.turned (fun b o hb e=>(sb.2 b hb).trans e) Y f1 f3 f4 f5;obtain⟨o,e,c,d⟩:=id D;exact⟨_,rfl,UA (s:={s with heap:=J,toks:=s.toks+1}) e c d (by decide) ⟨.str ⟨#[x.cps.toList[i]]⟩,H,I1,⟨_,rfl⟩,⟨rfl,_,Zf q,rfl⟩,D,fun b hb=>(L b hb).1⟩⟩
 done:=by
  intro X M O U hc i j s σ H E I L st q;subst M O U;have q:x.cps.toList.length<=i:=q;obtain⟨Y,f1,f2,f3,f4,f5⟩:=L B (by simp);exact wpAny_pyNext_ascii_end (I.ok.hd hc) st (by rw[<-eg];exact List.getElem?_eq_none q) fun J eb=>⟨rfl,I.turned (t':=s.toks) (fun b o hb e=>eb b o hb e) Y f1 f3 f4 f5⟩
 self:=fun _ _ _ _ _ st h=>wpAny_pyIter_striter_ascii st h
section
variable {X:Cx}{tg:Expr}
noncomputable def Zdi (j:TE):TI:=fun q H R=>j q H fun x B=>∃z,x=.str z/\z.cps.all (· < 128)=true/\R (Its z) B
theorem Zbs {l:Expr}{J:TE}(L:PE X l J):PI X tg l (Zdi J):=by
 intro j s M H R I h;refine ZN (L j s M H _ I h) fun v B ⟨x,O,D,U,Y⟩=>?_;obtain⟨z,rfl,ha,q⟩:=Y;obtain⟨t,rfl⟩:=U;refine wpAny_pyIter_ascii ha ?_;refine⟨B.heap.objs.size,[B.heap.objs.size],_,_,O,rfl,D.kept (t':=B.toks) fun b o e=>Zn _ e,VR z t _,⟨_,Zo _ rfl,rfl,rfl⟩,fun b hb=>?_,q⟩;have e:b=B.heap.objs.size:=by simpa using hb
 subst e;exact D.fpOk (Zq _) (D.hok.fresh (Zq _))
end
theorem U0 {H:Hp}(z:Str):WP (Its z) H (z.cps.toList.map fun c=>V.str ⟨#[c]⟩):=by
 refine⟨fun i q s j=>by rw[Za] at j;exact j,fun i q x D s j y=>?_,fun q s=>by show _<=_;rw[Za];exact Zq _⟩;obtain⟨e,c,B,rfl⟩:=y;exact⟨e,by rw[Zc,B];rfl⟩
inductive ZY {α:Type}:Sem α->Prop
 |fresh (k):ZY (.fresh k)
 |rule (tag k):ZY (k ())->ZY (.rule tag k)
 |at (p k):ZY (k ())->ZY (.at p k)
 |point (l k):ZY (k ())->ZY (.point l k)
theorem ZY.wp {α:Type}{t:Sem α}(h:ZY t){M:eN}{q:PySem.Ctx}{Q:α->Pos->Shared->Prop}{E:Value->Pos->Shared->Prop}:∀{p:Pos}{s:Shared},Sem.wp M q t Q E p s->Sem.wp M q t (fun a z s'=>s.toks+1<=s'.toks/\Q a z s') E p s:=by
 induction h with
 |fresh k=>exact fun {p s} h=>cI M q (k s.toks) (fun _ _ _ x=>x) (fun _ _ _ x=>x.2) p _ (eJ M q (s.toks+1) (k s.toks) _ _ p {s with toks:=s.toks+1} (Zq _) h)
 |rule B k _ j=>exact fun h=>j h
 | «at» p k _ j=>exact fun h=>j h
 |point l k _ j=>exact fun h=>j h
noncomputable def PEp (X:Cx)(e:Expr)(t:TE):Prop:=
 ∀(j:List (Addr×Obj)) (s:Shared) (q:St) (H:Hp) (Q:VK),1<=s.toks->Inv X j q H s->t q H Q->wpAny (model X.prog X.w) X.A (eval e X.env) (EP X j q Q) X.xe s
noncomputable def PIt (X:Cx)(z iter:Expr)(B:TI):Prop:=
 ∀(j:List (Addr×Obj)) (s:Shared) (q:St) (H:Hp) (R:It->Hp->Prop),1<=s.toks->Inv X j q H s->B q H R->
  wpAny (model X.prog X.w) X.A (eval iter X.env) (fun v D=>wpAny (model X.prog X.w) X.A (pyIter v) (PIE X j q z R) X.xe D) X.xe s
noncomputable def PSp (X:Cx)(st:Stmt)(t:TS):Prop:=
 ∀(j:List (Addr×Obj)) (s:Shared) (q:St) (H:Hp) (D:Y8),1<=s.toks->Inv X j q H s->t D q H->wpAny (model X.prog X.w) X.A (exec st X.env) (SP X j D) X.xe s
noncomputable def ZcO (X:Cx)(st:List Stmt)(t:TS):Prop:=
 ∀(j:List (Addr×Obj)) (s:Shared) (q:St) (H:Hp) (D:Y8),1<=s.toks->Inv X j q H s->t D q H->wpAny (model X.prog X.w) X.A (execs st X.env) (SP X j D) X.xe s
section
variable {X:Cx}{tg:Expr}
noncomputable def Zb9 (j:TE)(y z:Str):TE:=fun q H Q=>j q H fun x B=>∃a,x=.str a/\(y == z)=false/\a.length+(a.length+1)*z.length<=16777216/\Q (.str (Txt.replace a y z)) B
theorem Zag {o:Expr}{to:TE}{y z:Str}{U Y:Nat}{p1 p2 B j:Pos}(ho:PE X o to)
  (D:attributeBase o "replace" X.env (eval o X.env)=eval o X.env:=by rfl)
  (M:((backTo j (starEach [.Constant (.str y) U p1,.Constant (.str z) Y p2] X.env)).all (fun x=>!x.1) && (backToKw j (keywordEach [] X.env)).all (fun x=>x.1.isSome)
   && decide (([.Constant (.str y) U p1,.Constant (.str z) Y p2]:List Expr).length+([]:List Keyword).length+(if ([]:List Keyword).isEmpty then 0 else 1)<30))=true:=by rfl)
  (J:(B.endLine == j.line)=true:=by rfl) :
  PEp X (.Call (.Attribute o "replace" B) [.Constant (.str y) U p1,.Constant (.str z) Y p2] [] j) (Zb9 to y z):=by
 intro O s σ H Q h1 I h;refine cG D M J rfl (aW (wpAny_toks_of h1 (ho O s σ H _ I h)) (fun v L ⟨ht,x,H1,I1,r1,q1⟩=>?_) fun _ _ e=>e.2);obtain⟨a,rfl,f6,hb,q⟩:=q1;obtain⟨t,rfl⟩:=r1;refine⟨"str", "str.replace",bw,PySem.F.slot_str_replace,PySem.F.type_str_replace,bf L a t,(fun _ e=>nomatch e),?_⟩;refine cm rfl (cB ?_);show wpAny _ _ (spliced [(false,eval (.Constant (.str y) U p1) X.env),(false,eval (.Constant (.str z) Y p2) X.env)]) _ _ L;refine cP (cQ (cP (cQ (eO ?_))));refine SC.replace (by show L.toks≠0;omega) (by show L.toks+1≠0;omega) (by show L.toks≠L.toks+1;omega) f6 hb fun t' k=>?_;exact⟨.str _,H1,(I1.tok k),⟨t',rfl⟩,q⟩
theorem Zbv {o e:Expr}{B:List Expr}{to:TE}{t:TA}{name:Str}{D j:Pos}{T id:String}{r:V->List V->Hp->VK->Prop}
  (pa:PlainAttrs T) (slot:Slot T name id) (O:typeOf (.builtin id)=pure (.type "method_descriptor")) (hm:MtR X id r) (ho:PEp X o to) (ha:PA X (e::B) t)
  (J:attributeBase o name X.env (eval o X.env)=eval o X.env:=by rfl)
  (M:((backTo j (starEach (e::B) X.env)).all (fun x=>!x.1) && (backToKw j (keywordEach [] X.env)).all (fun x=>x.1.isSome)
   && decide ((e::B).length+([]:List Keyword).length+(if ([]:List Keyword).isEmpty then 0 else 1)<30))=true:=by rfl)
  (L:(D.endLine == j.line)=true:=by rfl) (hs:starEach (e::B) X.env=(false,eval e X.env)::starEach B X.env:=by rfl) (z:(backTo j (starEach B X.env)).any (·.1)=false:=by rfl) :
  PEp X (.Call (.Attribute o name D) (e::B) [] j) (tBM X.K T r to t):=by
 intro q s U H Q h0 I h;refine cG J M L rfl (ZN (ho q s U H _ h0 I h) fun v s1 ⟨x,H1,Y,r1,ty,q1⟩=>?_);obtain⟨h1,h2⟩:=VP Y r1 ty;refine⟨T,id,pa,slot,O,h1,h2,?_⟩;have hA:=ha j q s1 U H1 _ Y q1;rw[hs] at hA ⊢;refine cm (by show (false || (backTo j (starEach B X.env)).any (·.1))=false;rw[z] <;> rfl) (cB ?_)
 exact ZN hA fun us s2 ⟨vs,H2,I2,r2,q2⟩=>hm q s2 U H2 x vs v us Q I2 r1 r2 q2
theorem Zdh (K:aa){l:Expr}{D:TE}(J:PEp X l D)(L:X.K=K:=by rfl):PIt X tg l (Ux K D):=by
 subst L;intro j s M H R O I h;refine ZN (J j s M H _ O I h) fun v z ⟨x,U,B,Y,q1⟩=>?_;obtain⟨a,e,⟨xs,hq⟩,q⟩:=q1;subst e;cases Y;obtain⟨f6,rv,p,hz⟩:=B.list hq;refine dw p.isList ?_;refine⟨z.heap.objs.size,[z.heap.objs.size],_,_,U,rfl,B.kept (t':=z.toks) fun b o e=>Zn _ e,WZ a _,⟨_,Zo _ rfl,rfl,rfl⟩,fun b hb=>?_,q⟩;have e:b=z.heap.objs.size:=by simpa using hb
 subst e;exact B.fpOk (Zq _) (B.hok.fresh (Zq _))
theorem U8 {iter:Expr}{body:List Stmt}{wi:TI}{g:TG}{tb:TS}{pos:Pos}(hp:PassesOwn (model X.prog X.w) X.A X.env X.xe)(hc:X.calm=true)(hi:PIt X tg iter wi)(hg:PG X tg g)(hb:Xa X body tb)
  (hs:∀x,foldedSetIterable iter X.env x=pure x:=by intro _;rfl):PSp X (.For tg iter body [] pos) (Zcb wi g tb):=by
 intro j s σ H D h0 I h;refine wpAny_For (ZN (hi j s σ H _ h0 I h) fun v s1 h1=>ZN h1 fun i1 s2 h2=>?_) hs;obtain⟨it,fp,tn,J,H2,e,I2,T,g8,f2,W,⟨m0,w0⟩,f7⟩:=h2;subst e;have z:∀{U:Hp},(∀b∈fp,U b=none)->∀b∈fp,WQ X j U b:=fun hn b hb=>⟨hn b hb,(f2 b hb).2⟩;refine codeAny_forLoop_any (fun n s'=>∃i B U,Inv X j B U s'/\tn i s'.heap/\(∀b∈fp,U b=none)/\W i n B U) ?_ m0 ⟨0,σ,H2,I2,g8,fun b hb=>(f2 b hb).1,w0⟩;rintro n s3 ⟨i,L,H3,I3,f8,f9,w3⟩;rcases f7 i n L H3 w3 with ⟨stop,qn⟩|⟨go,N,hN,step⟩
 ·refine aH hp (ZN (T.done X rfl rfl rfl hc i j s3 L H3 X.xe I3 (z f9) f8 stop) fun r s4 ⟨hr,I4⟩=>?_)
  subst hr;exact bR ⟨L,H3,I4,qn⟩
 ·refine aH hp (ZN (T.item X rfl rfl rfl hc i j s3 L H3 X.xe I3 (z f9) f8 go) fun r s4 ⟨u,hr,h4⟩=>?_)
  subst hr;refine aH hp (ZN h4 fun _ s5 ⟨x,H5,I5,r5,y5,f6,g9⟩=>?_);have h8:=I5.pinned (z g9) (T.obj _ _ f6);refine aH hp (ZN (hg _ s5 L H5 x u _ h8 r5 (step x H5 y5)) fun _ s6 ⟨i0,H6,I6,q6⟩=>?_);refine aH hp (ZN (hb _ s6 i0 H6 _ I6 q6) fun f s7 Y=>?_);have again:∀{q:St}{M:Hp},Inv X (j++Wc fp s5.heap) q M s7->N q M->∃m,m<n/\∃i B U,Inv X j B U s7/\tn i s7.heap/\(∀b∈fp,U b=none)/\W i m B U:=fun {q M} O n7=>by
   obtain⟨m',hm,w7⟩:=hN q M n7;refine⟨m',hm,i+1,q,M,O.unpinned,T.keep _ _ _ f6 fun b hb o e=>(O.pin (b,o) (ao _ (ao _ (Yb hb e)))).1,fun b hb=>?_,w7⟩;obtain⟨o,e,d⟩:=T.obj _ _ f6 b hb;exact (O.pin (b,o) (ao _ (ao _ (Yb hb e)))).2.1
  cases f with
  |next=>obtain⟨q,M,O,n7⟩:=Y;exact again O n7
  |cont=>obtain⟨q,M,O,n7⟩:=Y;exact again O n7
  |brk=>obtain⟨q,M,O,Y⟩:=Y;exact⟨q,M,O.unpinned,Y⟩
  |ret v=>obtain⟨x7,q,M,O,r7,Y⟩:=Y;exact⟨x7,q,M,O.unpinned,r7,Y⟩
theorem Ve {st:Stmt}{rest:List Stmt}{t u:TS}(B:PSp X st t)(J:Xa X rest u):ZcO X (st::rest) (Xk t u):=by
 intro j s L H D M I h;refine cx (ZN (B j s L H {D with nx:=u D} M I h) fun f O q=>?_);cases f with
 |next=>
  obtain⟨z,U,Y,q⟩:=q;exact J j O z U D Y q
 |ret v=>exact q
 |brk=>exact q
 |cont=>exact q
end
end L2
namespace Tx
open PySem PySem.Builtin PySem.Builtin.Str
noncomputable def tx (l:List Nat):Str:=⟨l.toArray⟩
theorem Z1 (l:List Nat):(tx l).cps.toList=l:=rfl
theorem ZaU (x:Str):tx x.cps.toList=x:=rfl
theorem VQ {a b:List Nat}(h:tx a=tx b):a=b:=by
 have:=congrArg (fun x:Str=>x.cps.toList) h;exact this
theorem YY {x y:Str}(h:x.cps.toList=y.cps.toList):x=y:=by rw[<-ZaU x,<-ZaU y,h]
theorem ZS (a b:List Nat):tx a++tx b=tx (a++b):=YY (by
 show (a.toArray++b.toArray).toList=_;rw[bp];rfl)
theorem ZC (l:List Nat):(tx l).length=l.length:=rfl
theorem Zbd (l:List Nat)(p:Nat->Bool):(tx l).cps.all p=l.all p:=by
 show l.toArray.all p=_;simp
noncomputable def ZR (c:Nat):List (List Nat)->List Nat
 | []=>[]
 | [p]=>p
 |p::q::r=>p++c::ZR c (q::r)
theorem XY (c:Nat):∀j:List (List Nat),c7 ⟨#[c]⟩ (j.map tx)=tx (ZR c j)
 | []=>rfl
 | [p]=>rfl
 |p::q::r=>by
  show tx p ++ ⟨#[c]⟩ ++ c7 ⟨#[c]⟩ ((q::r).map tx)=_;rw[XY c (q::r)];show tx p++tx [c]++_=_;rw[ZS,ZS];show tx (p++[c]++ZR c (q::r))=tx (p++c::ZR c (q::r));rw[ay];rfl
theorem X6 {c:Nat}:∀{p j a b:List Nat},c∉p->c∉j->p++c::a=j++c::b->p=j/\a=b
 | [],[],a,b,_,_,h=>⟨rfl,(cw h).2⟩
 | [],y::q,a,b,_,B,h=>absurd (by rw[(cw h).1];exact ah) B
 |x::p,[],a,b,D,_,h=>absurd (by rw[<-(cw h).1];exact ah) D
 |x::p,y::q,a,b,D,B,h=>by
  obtain⟨J,L⟩:=cw h;obtain⟨M,O⟩:=X6 (fun z=>D (ag _ z)) (fun z=>B (ag _ z)) L;exact⟨by rw[J,M],O⟩
theorem Wj {c:Nat}:∀{B D:List (List Nat)},B≠[]->D≠[]->(∀p∈B,c∉p)->(∀p∈D,c∉p)->ZR c B=ZR c D->B=D
 | [],_,h,_,_,_,_=>absurd rfl h
 |_::_,[],_,h,_,_,_=>absurd rfl h
 | [p],[q],_,_,_,_,h=>by rw[show p=q from h]
 | [p],q::L::r,_,_,j,z,h=>absurd (by
   have h:p=q++c::ZR c (L::r):=h;rw[h];simp) (j p ah)
 |p::M::r,[q],_,_,j,z,h=>absurd (by
   have h:p++c::ZR c (M::r)=q:=h;rw[<-h];simp) (z q ah)
 |p::M::r,q::L::Y,_,_,j,z,h=>by
  obtain⟨O,U⟩:=X6 (j p ah) (z q ah) h;rw[O,Wj (by simp) (by simp) (fun x J=>j x (ag _ J)) (fun x J=>z x (ag _ J)) U]
theorem VZ (x y:Str):bz x y≠[]:=by
 unfold bz;split
 ·simp
 split
 ·simp
 ·rw[StrLaws.partsBetween_eq]
  obtain⟨p,r,e⟩:=StrLaws.partsFrom_ne x y.length 0 (occurrences x y 0 x.length (x.length+1));rw[e];simp
theorem VY {c:Nat}{j:List (List Nat)}(h:j≠[])(J:∀p∈j,c∉p):bz (tx (ZR c j)) ⟨#[c]⟩=j.map tx:=by
 have q:=ek (tx (ZR c j)) ⟨#[c]⟩;have z:=ei (tx (ZR c j)) c;have B:=VZ (tx (ZR c j)) ⟨#[c]⟩;generalize bz (tx (ZR c j)) ⟨#[c]⟩=D at q z B;have eq:D=(D.map fun x=>x.cps.toList).map tx:=by
  rw[cY];exact (List.map_id' _).symm
 rw[eq,XY] at q;rw[eq,Wj (c:=c) (by simpa using B) h (fun p L=>by
  obtain⟨x,M,rfl⟩:=ea.mp L;exact z x M) J (VQ q)]
noncomputable def rep (l:List Nat):List Nat:=l.flatMap fun c=>if c=45 then [43,45] else [c]
theorem Yr (a b:List Nat):rep (a++b)=rep a++rep b:=by unfold rep;rw[List.flatMap_append]
theorem Yx:∀{l:List Nat},45∉l->rep l=l
 | [],_=>rfl
 |c::l,h=>by
  have j:c≠45:=fun z=>h (by rw[z];exact ah);show (if c=45 then [43,45] else [c])++rep l=_
  rw[if_neg j,Yx fun z=>h (ag _ z)];rfl
theorem W2:∀(j:List Str),(∀p∈j,45∉p.cps.toList)->(c7 ⟨#[43,45]⟩ j).cps.toList=rep (c7 ⟨#[45]⟩ j).cps.toList
 | [],_=>rfl
 | [p],h=>(Yx (h p ah)).symm
 |p::q::r,h=>by
  have z:=W2 (q::r) fun x B=>h x (ag _ B);show (p.cps ++ #[43,45]++(c7 ⟨#[43,45]⟩ (q::r)).cps).toList=rep (p.cps ++ #[45]++(c7 ⟨#[45]⟩ (q::r)).cps).toList;rw[bp,bp,bp,bp,z,Yr,Yr,Yx (h p ah)];rfl
theorem XO (l:List Nat):Txt.replace (tx l) ⟨#[45]⟩ ⟨#[43,45]⟩=tx (rep l):=by
 rw[StrLaws.replace_one];refine YY ?_;rw[W2 _ (ei (tx l) 45),ek];rfl
theorem Zak {c:Nat}{a b:List Nat}(h:c∉a):aI (tx (a++c::b)) ⟨#[c]⟩=(tx a,⟨#[c]⟩,tx b):=by
 unfold aI;have j:StrLaws.At (tx (a++c::b)) ⟨#[c]⟩ (tx (a++c::b)).length a.length:=(bO _ _ _).mpr (by
  rw[Z1,aT (Zq _),eo];rfl)
 rcases eI (tx (a++c::b)) ⟨#[c]⟩ 1 (Zq _) with ⟨_,z⟩|⟨i,r,e,B,hm⟩
 ·exact absurd j (z _)
 ·have D:i=a.length:=by
   rcases Nat.lt_trichotomy i a.length with q|q|q
   ·have:=(bO _ _ _).mp B
    rw[Z1,bV q] at this;exact absurd (aZ this) h
   ·exact q
   ·exact absurd j (hm _ q)
  rw[e,D];show (strSub _ 0 a.length,_,strSub _ (a.length+1) (tx (a++c::b)).length)=_;have J:strSub (tx (a++c::b)) 0 a.length=tx a:=YY (by
   rw[dO,Z1,Z1];show (a++c::b).take a.length=a;rw[List.take_append_of_le_length (Zq _),de])
  have L:strSub (tx (a++c::b)) (a.length+1) (tx (a++c::b)).length=tx b:=YY (by
   rw[dO,Z1,Z1,List.drop_append,ZC,ef (Nat.le_succ _)];rw[show a.length+1-a.length=1 by omega,Zd,Zi];show List.take _ b=b;rw[d0 (by omega)])
  rw[J,L]
theorem Vk {c:Nat}{a:List Nat}(h:c∉a):aI (tx a) ⟨#[c]⟩=(tx a,ci,ci):=by
 unfold aI;rcases eI (tx a) ⟨#[c]⟩ 1 (Zq _) with ⟨e,q⟩|⟨i,r,e,j,hm⟩
 ·rw[e]
 ·exact absurd (aZ ((bO _ _ _).mp j)) h
end Tx
namespace Tx
open PySem PySem.Builtin PySem.Builtin.Str PySem.NumText PyProof.Rows PySem.W PySem.W.KIN
noncomputable def ZV (n:Nat):List Nat:=(Nat.toDigits 10 n).map Char.toNat
theorem Yj (n:Nat):cz (ZV n):=by
 intro c q;obtain⟨z,j,e⟩:=ea.mp q;have r:=digit_range (Nat.isDigit_of_mem_toDigits (by decide) (by decide) j);rw[<-e];exact r
theorem Wv (n:Nat):ZV n≠[]:=by
 intro e;have h:=toDigits_len_ge 10 n;rw[List.map_eq_nil_iff.mp e] at h;exact absurd h (by decide)
theorem J2 (n:Nat):digitsVal (ZV n)=n:=val_back n
theorem Y5 {n k:Nat}(j:1<=k)(h:n<10 ^ k):(ZV n).length<=k:=by
 unfold ZV;rw[Za];exact digits10_le j h
noncomputable def Yu (k:Int):List Nat:=if k<0 then 45::ZV k.natAbs else ZV k.natAbs
theorem str_int (k:Int):(ax (toString k))=tx (Yu k):=by
 refine YY ?_;rw[Z1];unfold Yu;cases k with
 |ofNat m=>
  rw[if_neg (show ¬(Int.ofNat m<0) from fun h=>absurd h (by simp))];exact signs_num m
 |negSucc m=>
  rw[if_pos (Int.negSucc_lt_zero m),signs_ofString];show (("-" ++ Nat.repr (m+1)).toList).map Char.toNat=_;rw[String.toList_append,Nat.toList_repr,bM];rfl
noncomputable def wd (k:Int)(p:Nat):List Nat:=if p=0 then Yu k else (if k.natAbs=1 then (if k > 0 then [] else [45]) else Yu k)++122::(if p=1 then [] else ZV p)
noncomputable def Wq (j:List Nat):List Int->Nat->List Nat
 | [],_=>j
 |k::r,p=>if k=0 then Wq j r (p+1) else Wq (j++(if j≠[]/\k > 0 then [43] else [])++wd k p) r (p+1)
noncomputable def Jm (xs:List Int):List Nat:=if Wq [] xs 0=[] then [48] else Wq [] xs 0
noncomputable def ZL (c:Nat):List Nat->List (List Nat)
 | []=>[[]]
 |x::r=>if x=c then []::ZL c r else match ZL c r with
  | []=>[[x]]
  |p::j=>(x::p)::j
theorem Yf (c:Nat)(l:List Nat):ZL c l≠[]:=by
 cases l with
 |nil=>simp[ZL]
 |cons x r=>
  unfold ZL;split
  ·simp
  ·split <;> simp
theorem Yw (c:Nat):∀l:List Nat,∀p∈ZL c l,c∉p
 | [],p,j=>by rw[aq.mp j];simp
 |x::r,p,j=>by
  have z:=Yw c r;unfold ZL at j;by_cases B:x=c
  ·rw[if_pos B] at j
   rcases aj.mp j with rfl|j
   ·simp
   ·exact z p j
  ·rw[if_neg B] at j
   cases e:ZL c r with
   |nil=>exact absurd e (Yf c r)
   |cons q D=>
    rw[e] at j z;rcases aj.mp j with rfl|j
    ·intro h
     rcases aj.mp h with h|h
     ·exact B h.symm
     ·exact z q ah h
    ·exact z p (ag _ j)
theorem YC (c:Nat):∀l:List Nat,ZR c (ZL c l)=l
 | []=>rfl
 |x::r=>by
  have j:=YC c r;unfold ZL;by_cases B:x=c
  ·rw[if_pos B]
   cases e:ZL c r with
   |nil=>exact absurd e (Yf c r)
   |cons q z=>
    rw[e] at j;show []++c::ZR c (q::z)=_;rw[j,B];rfl
  ·rw[if_neg B]
   cases e:ZL c r with
   |nil=>exact absurd e (Yf c r)
   |cons q z=>
    rw[e] at j;cases z with
    |nil=>
     have j:q=r:=j;rw[<-j];rfl
    |cons D z=>
     have j:q++c::ZR c (D::z)=r:=j;rw[<-j];rfl
theorem Va (c:Nat)(l:List Nat):bz (tx l) ⟨#[c]⟩=(ZL c l).map tx:=by
 have:=VY (Yf c l) (Yw c l);rw[YC] at this;exact this
theorem JM {c:Nat}{j:List (List Nat)}(h:j≠[])(q:∀p∈j,c∉p):ZL c (ZR c j)=j:=
 Wj (Yf _ _) h (Yw _ _) q (YC _ _)
noncomputable def Wm (l:List Nat):Bool:=!l.isEmpty && l.all fun c=>decide (48<=c) && decide (c<=57)
theorem WL {l:List Nat}:Wm l=true↔l≠[]/\cz l:=by
 unfold Wm cz;cases l with
 |nil=>simp
 |cons c r=>simp
theorem W9 (n:Nat):Wm (ZV n)=true:=WL.mpr ⟨Wv n,Yj n⟩
noncomputable def ZQ:List Nat->List Nat×Bool×List Nat
 | []=>([],false,[])
 |x::r=>if x=122 then ([],true,r) else (x::(ZQ r).1,(ZQ r).2)
theorem Wn:∀{l:List Nat},122∉l->ZQ l=(l,false,[])
 | [],_=>rfl
 |x::r,h=>by
  unfold ZQ;rw[if_neg (fun z=>h (by rw[z];exact ah)),Wn fun z=>h (ag _ z)]
theorem Ja:∀{a b:List Nat},122∉a->ZQ (a++122::b)=(a,true,b)
 | [],b,_=>by
  show ZQ (122::b)=_;unfold ZQ;rw[if_pos rfl]
 |x::a,b,h=>by
  show ZQ (x::(a++122::b))=_;unfold ZQ;rw[if_neg (fun z=>h (by rw[z];exact ah)),Ja fun z=>h (ag _ z)]
theorem Wo:∀l:List Nat,122∉(ZQ l).1/\l=if (ZQ l).2.1=true then (ZQ l).1++122::(ZQ l).2.2 else (ZQ l).1
 | []=>⟨by simp[ZQ],rfl⟩
 |x::r=>by
  obtain⟨B,j⟩:=Wo r;unfold ZQ;by_cases q:x=122
  ·rw[if_pos q]
   exact⟨by simp,by rw[q];rfl⟩
  ·rw[if_neg q]
   refine⟨fun z=>?_,?_⟩
   ·rcases aj.mp z with z|z
    ·exact q z.symm
    ·exact B z
   ·show x::r=if (ZQ r).2.1=true then x::(ZQ r).1++122::(ZQ r).2.2 else x::(ZQ r).1
    by_cases hb:(ZQ r).2.1=true
    ·rw[if_pos hb] at j ⊢
     rw[fj,<-j]
    ·rw[if_neg hb] at j ⊢
     rw[<-j]
theorem Vl (l:List Nat):aI (tx l) ⟨#[122]⟩=(tx (ZQ l).1,(if (ZQ l).2.1=true then ⟨#[122]⟩ else ci),tx (if (ZQ l).2.1=true then (ZQ l).2.2 else [])):=by
 obtain⟨q,j⟩:=Wo l;by_cases hb:(ZQ l).2.1=true
 ·rw[if_pos hb] at j
  rw[if_pos hb,if_pos hb];have:=Zak (b:=(ZQ l).2.2) q;rw[<-j] at this;exact this
 ·rw[if_neg hb] at j
  rw[if_neg hb,if_neg hb];have:=Vk q;rw[<-j] at this;rw[<-j];exact this
noncomputable def Vr (l:List Nat):Bool:=l.head? == some 45
noncomputable def YD (l:List Nat):List Nat:=if Vr l=true then (ZQ l).1.drop 1 else (ZQ l).1
noncomputable def Xq (l:List Nat):List Nat:=if (ZQ l).2.1=true then (if (ZQ l).2.2=[] then [49] else (ZQ l).2.2) else [48]
noncomputable def Xx (l:List Nat):List Nat:=if (ZQ l).2.1=true/\YD l=[] then [49] else YD l
noncomputable def V7 (l:List Nat):Option (Int×Nat):=if Wm (Xx l)=true/\Wm (Xq l)=true then some ((if Vr l=true then -1 else 1)*(digitsVal (Xx l):Nat),digitsVal (Xq l)) else none
theorem Uj {l:List Nat}(h:cz l):122∉l/\45∉l/\43∉l:=⟨fun z=>by have:=h _ z;omega,fun z=>by have:=h _ z;omega,fun z=>by have:=h _ z;omega⟩
theorem Zas {l:List Nat}(h:cz l)(r:List Nat)(j:l≠[]):Vr (l++r)=false:=by
 cases l with
 |nil=>exact absurd rfl j
 |cons c l=>
  have:=h c ah;unfold Vr;show (some c == some 45)=false;simp;omega
noncomputable def Xd (k:Int)(p:Nat):List Nat:=if p=0 then ZV k.natAbs else if k.natAbs=1 then [] else ZV k.natAbs
noncomputable def JC (p:Nat):List Nat:=if p=0 then [] else 122::(if p=1 then [] else ZV p)
theorem XG (k:Int)(p:Nat)(B:k≠0):wd k p=(if k<0 then [45] else [])++Xd k p++JC p:=by
 unfold wd Xd JC Yu;by_cases j:p=0
 ·rw[if_pos j,if_pos j,if_pos j,aG]
  split <;> rfl
 ·rw[if_neg j,if_neg j,if_neg j]
  by_cases q:k.natAbs=1
  ·rw[if_pos q,if_pos q]
   by_cases z:k<0
   ·rw[if_neg (by omega),if_pos z];rfl
   ·rw[if_pos (by omega),if_neg z];rfl
  ·rw[if_neg q,if_neg q]
   split <;> rfl
theorem JG (k:Int)(p:Nat):cz (Xd k p):=by
 unfold Xd;split
 ·exact Yj _
 ·split
  ·intro c j;cases j
  ·exact Yj _
theorem XJ (k:Int){c:Nat}(j:c≠45):c∉(if k<0 then [45] else []:List Nat):=by
 split
 ·intro z;exact j (aq.mp z)
 ·simp
theorem Zbl {k:Int}(Y:k≠0)(p:Nat):V7 (wd k p)=some (k,p):=by
 rw[XG k p Y];have M:=JG k p;obtain⟨z1,z2,z3⟩:=Uj M;have O:122∉(if k<0 then [45] else [])++Xd k p:=fun z=>(aK.mp z).elim (XJ k (by decide)) z1
 have D:Vr ((if k<0 then [45] else [])++Xd k p++JC p)=decide (k<0):=by
  by_cases q:k<0
  ·rw[if_pos q,decide_eq_true q];rfl
  ·rw[if_neg q,decide_eq_false q,du]
   by_cases U:Xd k p=[]
   ·rw[U]
    unfold JC;split
    ·rfl
    ·rfl
   ·exact Zas M _ U
 have B:ZQ ((if k<0 then [45] else [])++Xd k p++JC p)=((if k<0 then [45] else [])++Xd k p,decide (p≠0),if p=0 then [] else if p=1 then [] else ZV p):=by
  by_cases j:p=0
  ·have:JC p=[]:=by unfold JC;rw[if_pos j]
   rw[this,aG,Wn O,if_pos j];simp[j]
  ·have:JC p=122::(if p=1 then [] else ZV p):=by unfold JC;rw[if_neg j]
   rw[this,Ja O,if_neg j];simp[j]
 have L:YD ((if k<0 then [45] else [])++Xd k p++JC p)=Xd k p:=by
  unfold YD;rw[D,B];by_cases q:k<0
  ·rw[if_pos (decide_eq_true q),if_pos q];rfl
  ·rw[if_neg (by simp[q]),if_neg q];rfl
 have hP:Xq ((if k<0 then [45] else [])++Xd k p++JC p)=ZV p:=by
  unfold Xq;rw[B];by_cases j:p=0
  ·rw[if_neg (by simp[j]),j];rfl
  ·rw[if_pos (by simp[j])]
   show (if (if p=0 then [] else if p=1 then [] else ZV p)=[] then [49] else (if p=0 then [] else if p=1 then [] else ZV p))=ZV p
   rw[if_neg j];by_cases J:p=1
   ·rw[if_pos J,if_pos rfl,J];rfl
   ·rw[if_neg J,if_neg (Wv p)]
 have hF:Xx ((if k<0 then [45] else [])++Xd k p++JC p)=ZV k.natAbs:=by
  unfold Xx;rw[L,B];by_cases j:p=0
  ·rw[if_neg (by simp[j])]
   unfold Xd;rw[if_pos j]
  ·unfold Xd
   rw[if_neg j];by_cases J:k.natAbs=1
   ·rw[if_pos J,if_pos ⟨by simp[j],rfl⟩,J];rfl
   ·rw[if_neg J,if_neg (fun z=>Wv _ z.2)]
 unfold V7;rw[hF,hP,if_pos ⟨W9 _,W9 _⟩,J2,J2,D];by_cases q:k<0
 ·rw[if_pos (decide_eq_true q)]
  congr 2;omega
 ·rw[if_neg (by simp[q])]
  congr 2;omega
theorem V6:V7 [48]=some (0,0):=by decide
theorem YT {c:Nat}(w:List Nat):∀{j:List (List Nat)},j≠[]->ZR c (j++[w])=ZR c j++c::w
 | [],h=>absurd rfl h
 | [p],_=>rfl
 |p::q::r,_=>by
  show p++c::ZR c (q::r++[w])=p++c::ZR c (q::r)++c::w;rw[YT w (by simp),ay,fj]
theorem VO (k:Int)(p:Nat):wd k p≠[]:=by
 unfold wd;split
 ·unfold Yu
  split
  ·simp
  ·exact Wv _
 ·simp
theorem J8 (p:Nat){c:Nat}(j:c≠122)(q:¬(48<=c/\c<=57)):c∉JC p:=by
 unfold JC;split
 ·simp
 ·intro z
  rcases aj.mp z with z|z
  ·exact j z
  ·split at z
   ·cases z
   ·exact q (Yj _ _ z)
theorem UU {k:Int}(j:k≠0)(p:Nat):43∉wd k p:=by
 rw[XG k p j];intro z;rcases aK.mp z with z|z
 ·rcases aK.mp z with z|z
  ·exact XJ k (by decide) z
  ·exact (Uj (JG k p)).2.2 z
 ·exact J8 p (by decide) (by decide) z
theorem Xo {k:Int}(j:k≠0)(p:Nat):rep (wd k p)=(if k<0 then [43] else [])++wd k p:=by
 rw[XG k p j,Yr,Yr,Yx (Uj (JG k p)).2.1,Yx (J8 p (by decide) (by decide))];split <;> rfl
noncomputable def Ui:List Int->Nat->List (List Nat)
 | [],_=>[]
 |k::r,p=>if k=0 then Ui r (p+1) else wd k p::Ui r (p+1)
noncomputable def Y4 (j:List (List Nat)):List (List Nat):=j.filter fun w=>!w.isEmpty
theorem Wk (j:List (List Nat)){w:List Nat}(h:w≠[]):Y4 (j++[w])=Y4 j++[w]:=by
 unfold Y4;rw[List.filter_append];congr 1;cases w with
 |nil=>exact absurd rfl h
 |cons c r=>rfl
theorem WD:∀(xs:List Int) (p:Nat) (acc:List Nat) (j:List (List Nat)),j≠[]->(∀w∈j,43∉w)->rep acc=ZR 43 j->(acc=[]->j=[[]])->
  ∃B,B≠[]/\(∀w∈B,43∉w)/\rep (Wq acc xs p)=ZR 43 B/\Y4 B=Y4 j++Ui xs p
 | [],p,acc,j,M,U,O,_=>⟨j,M,U,O,by show _=_++[];rw[aG]⟩
 |k::r,p,acc,j,M,U,O,h4=>by
  unfold Wq Ui;by_cases J:k=0
  ·rw[if_pos J,if_pos J]
   exact WD r (p+1) acc j M U O h4
  ·rw[if_neg J,if_neg J]
   have Y:=VO k p;have hf:=UU J p;have fr:∀w∈j++[wd k p],43∉w:=fun w L=>by
    rcases aK.mp L with z|z
    ·exact U w z
    ·rw[aq.mp z];exact hf
   have D:∀q,q≠[]->(∀w∈q,43∉w)->Y4 q=Y4 j++[wd k p]->rep (acc++(if acc≠[]/\k > 0 then [43] else [])++wd k p)=ZR 43 q->
     ∃B,B≠[]/\(∀w∈B,43∉w)/\rep (Wq (acc++(if acc≠[]/\k > 0 then [43] else [])++wd k p) r (p+1))=ZR 43 B/\Y4 B=Y4 j++wd k p::Ui r (p+1):=fun q a1 a2 a3 a4=>by
    obtain⟨B,b1,b2,b3,b4⟩:=WD r (p+1) (acc++(if acc≠[]/\k > 0 then [43] else [])++wd k p) q a1 a2 a4 (fun z=>absurd (List.append_eq_nil_iff.mp z).2 Y)
    exact⟨B,b1,b2,b3,by rw[b4,a3,ay];rfl⟩
   by_cases hn:k<0
   ·refine D (j++[wd k p]) (by simp) fr (Wk j Y) ?_
    rw[if_neg (fun z=>by omega),aG,Yr,Xo J,if_pos hn,YT _ M,O];rfl
   ·by_cases ha:acc=[]
    ·refine D [wd k p] (by simp) (fun w L=>by rw[aq.mp L];exact hf) ?_ ?_
     ·rw[h4 ha]
      have:=Wk [] Y;exact this
     ·rw[if_neg (fun z=>z.1 ha),aG,ha,du,Xo J,if_neg hn]
      rfl
    ·refine D (j++[wd k p]) (by simp) fr (Wk j Y) ?_
     rw[if_pos ⟨ha,by omega⟩,Yr,Yr,Xo J,if_neg hn,YT _ M,O,ay];rfl
theorem Xn:∀(xs:List Int) (p:Nat) {acc:List Nat},acc≠[]->Wq acc xs p≠[]
 | [],_,_,h=>h
 |k::r,p,acc,h=>by
  unfold Wq;split
  ·exact Xn r (p+1) h
  ·exact Xn r (p+1) (by simp[h])
theorem XI:∀(xs:List Int) (p:Nat),Wq [] xs p=[]->xs=ae xs.length 0
 | [],_,_=>rfl
 |k::r,p,h=>by
  unfold Wq at h;by_cases j:k=0
  ·rw[if_pos j] at h
   rw[Zi,av,<-XI r (p+1) h,j]
  ·rw[if_neg j] at h
   exact absurd h (Xn r (p+1) (by simp[VO]))
noncomputable def Ww (f:List Int)(p:Nat):Int:=f.getD p 0
noncomputable def Y1 (f:List Int)(w:List Nat):Option (List Int):=
 if w=[] then some f else match V7 w with
  |none=>none
  |some (k,p)=>if p<f.length then some (f.set p (Ww f p+k)) else none
noncomputable def putAll:List Int->List (List Nat)->Option (List Int)
 |f,[]=>some f
 |f,w::j=>match Y1 f w with
  |none=>none
  |some g=>putAll g j
theorem Yy:∀(j:List (List Nat)) (f:List Int),putAll f j=putAll f (Y4 j)
 | [],f=>rfl
 |w::j,f=>by
  cases w with
  |nil=>
   show putAll f j=putAll f (Y4 j);exact Yy j f
  |cons c r=>
   show (match Y1 f (c::r) with|none=>none|some g=>putAll g j)=(match Y1 f (c::r) with|none=>none|some g=>putAll g (Y4 j))
   cases Y1 f (c::r) with
   |none=>rfl
   |some g=>exact Yy j g
theorem Wb:∀(xs a:List Int),putAll (a++ae xs.length 0) (Ui xs a.length)=some (a++xs)
 | [],a=>rfl
 |k::r,a=>by
  have q:(a++ae (k::r).length 0)=(a++[0])++ae r.length (0:Int):=by
   rw[Zi,av,ay];rfl
  unfold Ui;by_cases j:k=0
  ·rw[if_pos j,q,j]
   have:=Wb r (a++[0]);rw[Zd,Zk] at this;rw[this,ay];rfl
  ·rw[if_neg j]
   have z:Y1 (a++ae (k::r).length 0) (wd k a.length)=some ((a++[k])++ae r.length 0):=by
    unfold Y1;rw[if_neg (VO _ _),Zbl j];show (if a.length<_ then _ else none)=_
    rw[if_pos (by rw[Zd,Ze,Zi];omega)];have B:Ww (a++ae (k::r).length 0) a.length=0:=by
     unfold Ww;rw[Zb,aT (Zq _),eo];rfl
    rw[B,List.set_append_right _ _ (Zq _),eo,Zi,av,List.set_cons_zero,ay,Int.zero_add];rfl
   unfold putAll;rw[z];have:=Wb r (a++[k]);rw[Zd,Zk] at this;show putAll (a++[k]++ae r.length 0) (Ui r (a.length+1))=_;rw[this,ay];rfl
noncomputable def Xf (l:List Nat):List (List Nat):=ZL 43 (rep l)
theorem VM (xs:List Int):Y4 (Xf (Jm xs))=if Wq [] xs 0=[] then [[48]] else Ui xs 0:=by
 unfold Xf Jm;split
 ·rfl
 ·obtain⟨D,j,q,z,B⟩:=WD xs 0 [] [[]] (by simp) (by simp) rfl (fun _=>rfl)
  rw[z,JM j q,B];rfl
noncomputable def rdN (wide:Nat)(l:List Nat):Option (List Int):=match putAll (ae wide 0) (Xf l) with
 |none=>none
 |some f=>if Jm f=l then some f else none
theorem Zbo {xs:List Int}(h:1<=xs.length):putAll (ae xs.length 0) (Xf (Jm xs))=some xs:=by
 rw[Yy,VM];split
 ·rename_i e
  have j:=XI xs 0 e;show (match Y1 (ae xs.length 0) [48] with|none=>none|some g=>some g)=_
  have:Y1 (ae xs.length (0:Int)) [48]=some (ae xs.length 0):=by
   unfold Y1;rw[if_neg (by simp),V6];show (if 0<_ then _ else none)=_
   rw[if_pos (by rw[Ze];omega)];congr 1;cases q:xs.length with
   |zero=>omega
   |succ m=>rfl
  rw[this];exact congrArg some j.symm
 ·exact Wb xs []
theorem Zbm {xs:List Int}(h:1<=xs.length):rdN xs.length (Jm xs)=some xs:=by
 unfold rdN;rw[Zbo h];show (if Jm xs=Jm xs then some xs else none)=some xs
 rw[if_pos rfl]
theorem Y6 {k:Int}{e:Nat}(j:1<=e)(h:k.natAbs<10 ^ e):(Yu k).length<=e+1:=by
 have:=Y5 j h;unfold Yu;split
 ·rw[Zi];omega
 ·omega
theorem Ji {k:Int}{p e:Nat}(j:1<=e)(h:k.natAbs<10 ^ e)(q:p<100):(wd k p).length<=e+4:=by
 have z:=Y6 j h;have B:(ZV p).length<=2:=Y5 (by decide) q;unfold wd;split
 ·omega
 ·rw[Zd,Zi]
  split
  ·split
   ·split
    ·simp only[ai];omega
    ·simp only[ai];omega
   ·split
    ·simp only[Zi,ai];omega
    ·simp only[Zi,ai];omega
  ·split
   ·simp only[ai];omega
   ·omega
theorem Jn {e:Nat}(j:1<=e):∀(xs:List Int) (p:Nat) (acc:List Nat),(∀x∈xs,x.natAbs<10 ^ e)->p+xs.length<=100->(Wq acc xs p).length<=acc.length+xs.length*(e+5)
 | [],p,acc,_,_=>by unfold Wq;omega
 |k::r,p,acc,h,z=>by
  rw[Zi] at z;have B:=Ji (p:=p) j (h k ah) (by omega);have D:(if acc≠[]/\k > 0 then [43] else []:List Nat).length<=1:=by split <;> simp
  unfold Wq;rw[Zi,Nat.succ_mul];split
  ·have:=Jn j r (p+1) acc (fun x q=>h x (ag _ q)) (by omega)
   omega
  ·have:=Jn j r (p+1) (acc++(if acc≠[]/\k > 0 then [43] else [])++wd k p) (fun x q=>h x (ag _ q)) (by omega)
   rw[Zd,Zd] at this;omega
theorem XW {e:Nat}(q:1<=e):∀(xs:List Int) (p:Nat),(∀x∈xs,x.natAbs<10 ^ e)->p+xs.length<=100->∀w∈Ui xs p,w.length<=e+4
 | [],_,_,_,w,j=>by cases j
 |k::r,p,h,B,w,j=>by
  rw[Zi] at B;unfold Ui at j;have z:=XW q r (p+1) (fun x D=>h x (ag _ D)) (by omega);split at j
  ·exact z w j
  ·rcases aj.mp j with rfl|j
   ·exact Ji q (h k ah) (by omega)
   ·exact z w j
theorem UT {e:Nat}(q:1<=e){xs:List Int}(h:∀x∈xs,x.natAbs<10 ^ e)(B:xs.length<=100):∀w∈Xf (Jm xs),w.length<=e+4:=by
 intro w z;by_cases j:w=[]
 ·rw[j];exact aQ _
 ·have:w∈Y4 (Xf (Jm xs)):=dv.mpr ⟨z,by cases w with|nil=>exact absurd rfl j|cons _ _=>rfl⟩
  rw[VM] at this;split at this
  ·rw[aq.mp this];simp
  ·exact XW q xs 0 h (by omega) w this
noncomputable def YM (l:List Nat):Prop:=∀c∈l,c<128
theorem YM.app {a b:List Nat}(j:YM a)(hb:YM b):YM (a++b):=fun c q=>(aK.mp q).elim (j c) (hb c)
theorem JF {l:List Nat}(h:cz l):YM l:=fun c j=>by have:=h c j;omega
theorem ZbW (k:Int)(p:Nat):YM (wd k p):=by
 have d:YM (Yu k):=by
  unfold Yu;split
  ·intro c j
   rcases aj.mp j with rfl|j
   ·decide
   ·exact JF (Yj _) c j
  ·exact JF (Yj _)
 unfold wd;split
 ·exact d
 ·refine YM.app ?_ fun c j=>?_
  ·split
   ·split
    ·intro c j;cases j
    ·intro c j;rw[aq.mp j];decide
   ·exact d
  ·rcases aj.mp j with rfl|j
   ·decide
   ·split at j
    ·cases j
    ·exact JF (Yj _) c j
theorem JE:∀(xs:List Int) (p:Nat) {acc:List Nat},YM acc->YM (Wq acc xs p)
 | [],_,_,h=>h
 |k::r,p,acc,h=>by
  unfold Wq;split
  ·exact JE r (p+1) h
  ·refine JE r (p+1) (YM.app (YM.app h ?_) (ZbW k p))
   split
   ·intro c j;rw[aq.mp j];decide
   ·intro c j;cases j
theorem ZaO (xs:List Int):YM (Jm xs):=by
 unfold Jm;split
 ·intro c j;rw[aq.mp j];decide
 ·exact JE xs 0 fun c j=>by cases j
theorem ZaP {l:List Nat}(h:YM l):YM (rep l):=fun c j=>by
 unfold rep at j;obtain⟨d,hd,j⟩:=List.mem_flatMap.mp j;split at j
 ·rcases aj.mp j with rfl|j
  ·decide
  ·rw[aq.mp j];decide
 ·rw[aq.mp j];exact h d hd
theorem Jh {c:Nat}:∀{l:List Nat},YM l->∀w∈ZL c l,YM w
 | [],_,w,j=>by rw[aq.mp j];intro c B;cases B
 |x::r,h,w,j=>by
  have z:=Jh (c:=c) (l:=r) fun d hd=>h d (ag _ hd);unfold ZL at j;split at j
  ·rcases aj.mp j with rfl|j
   ·intro c B;cases B
   ·exact z w j
  ·cases e:ZL c r with
   |nil=>exact absurd e (Yf c r)
   |cons q D=>
    rw[e] at j z;rcases aj.mp j with rfl|j
    ·intro d hd
     rcases aj.mp hd with rfl|hd
     ·exact h _ ah
     ·exact z q ah d hd
    ·exact z w (ag _ j)
theorem ZaN {l:List Nat}(h:YM l):∀w∈Xf l,YM w:=Jh (ZaP h)
theorem ZaQ {l:List Nat}(h:YM l):(tx l).cps.all (· < 128)=true:=by
 rw[Zbd];exact bG.mpr fun c j=>decide_eq_true (h c j)
end Tx
namespace N60
open PySem L2 PySem.Spec PyProof.Rows
noncomputable def top (i:Nat):Stmt:=PySem.Challenge.pw_classtab_k60_numbers_written.main.body.getD i (.Pass ⟨0,0,0,0⟩)
structure Bl (mg:Str->Option Value):Prop where
 list:mg "list"=none
 len:mg "len"=none
 abs:mg "abs"=none
 range:mg "range"=none
 tuple:mg "tuple"=none
 isi:mg "isinstance"=none
 all:mg "all"=none
 set:mg "set"=none
 repr:mg "repr"=none
 any:mg "any"=none
 int:mg "int"=none
 bool:mg "bool"=none
section
variable {P:Program}{w:World}{K:aa}{mg:Str->Option Value}{base:Heap}
end
section
variable {P:Program}{w:World}{K:aa}{mg:Str->Option Value}{base:Heap}
end
noncomputable abbrev XL:Stmt:=top 6
noncomputable abbrev XM:Stmt:=top 7
noncomputable def strip:Nat->Int->Int->Int
 |0,r,_=>r
 |g+1,r,p=>if r % p=0 then strip g (r / p) p else r
noncomputable def pr:Nat->Int->Int->List Int->List Int
 |0,_,_,acc=>acc
 |f+1,r,p,acc=>if 1<r then pr f (strip 6 r p) (p+1) (if r % p=0 then acc++[p] else acc) else acc
noncomputable def Vz:Nat->Int->Int->Bool
 |0,r,_=>decide (r<=1)
 |f+1,r,p=>if 1<r then Vz f (strip 6 r p) (p+1) else true
noncomputable def Z2 (n:Int):List Int:=pr 100 n 2 []
noncomputable def YR (n:Int):Int:=(Z2 n).foldl (fun f p=>f / p*(p-1)) n
noncomputable def Zaz:Nat->Int->Int->Int
 |0,a,_=>a
 |f+1,a,b=>if 0<b then Zaz f b (a % b) else a
noncomputable def JY (a b:Int):Int:=Zaz 100 a b
noncomputable def Ur (n:Int):Int:=(((Jp 1 n.toNat).filter fun k=>decide (JY k n=1)).length:Nat)
noncomputable def okN (n:Nat):Bool:=Vz 100 n 2 && (Z2 n).all (fun p=>decide (2<=p) && decide (p<=60)) && decide (YR n=Ur n) && decide (1<=YR n) && decide (YR n<=60)
theorem Zap:((cu 61).all fun n=>n == 0 || okN n)=true:=by decide +kernel
theorem Jt {n:Nat}(q:1<=n)(z:n<=60):Vz 100 n 2=true/\(∀p∈Z2 n,2<=p/\p<=60)/\YR n=Ur n/\1<=YR n/\YR n<=60:=by
 have h:=bG.mp Zap n (List.mem_range.mpr (by omega));have j:(n == 0)=false:=by simp;omega
 rw[j,Bool.false_or] at h;unfold okN at h;simp only[aS,decide_eq_true_eq,bG] at h;exact⟨h.1.1.1.1,h.1.1.1.2,h.1.1.2,h.1.2,h.2⟩
theorem WM {r p:Int}(z:1<=r)(j:2<=p)(h:r % p=0):1<=r / p/\2*(r / p)<=r:=by
 have e:p*(r / p)=r:=Int.mul_ediv_cancel' (Int.dvd_of_emod_eq_zero h);generalize r / p=q at e;have B:1<=q:=by
  apply Classical.byContradiction;intro D;have:p*q<=p*0:=Int.mul_le_mul_of_nonneg_left (by omega) (by omega);omega
 have:2*q<=p*q:=Int.mul_le_mul_of_nonneg_right j (by omega);omega
theorem YX:∀(g:Nat) {r p:Int},1<=r->2<=p->1<=strip g r p/\strip g r p<=r
 |0,r,p,j,_=>⟨j,Int.le_refl _⟩
 |g+1,r,p,j,q=>by
  unfold strip;by_cases h:r % p=0
  ·rw[if_pos h]
   obtain⟨a,b⟩:=WM j q h;have:=YX g (r:=r / p) (p:=p) a q;omega
  ·rw[if_neg h];omega
theorem WC {g:Nat}{r p:Int}(h:¬r % p=0):strip g r p=r:=by
 cases g with
 |zero=>rfl
 |succ g=>unfold strip;rw[if_neg h]
noncomputable def JN:Sp:=fun q H Q _=>∃n:Nat,q=[.int n]/\1<=n/\n<=60/\∀l j,Zy H j->j l=some (.lst ((Z2 n).map V.int))->Q (.ref l) j
noncomputable def JO:Sp:=fun q H Q _=>∃n:Nat,q=[.int n]/\1<=n/\n<=60/\∀j,Zy H j->Q (.int (YR n)) j
section
variable {P:Program}{w:World}{K:aa}{mg:Str->Option Value}{base:Heap}
theorem Vn {f:Addr}{fd:FuncData}(F:WW K "primes_of" "primes_of" XL f fd)(T:Bl mg):Yd P w K mg base YL 1 f fd ["n"] JN:=by
 refine F.ok (FS (N:=["n", "primes", "rest", "p"])) (fun vs H Q E h=>?_) (fun i3 A f9 s H vs Q E hr h=>?_)
 ·obtain⟨n,rfl,_⟩:=h;rfl
 ·obtain⟨n,rfl,n1,g8,q⟩:=h
  obtain⟨f7,i4,_⟩:=Jt n1 g8;refine⟨_,Zs (ZO 1 rfl (Yz Zu)) (Zs (ZO 2 rfl (vn 0)) (Zs (ZO 3 rfl Zt)
   (Zs (WF aN (Zz Wr (vn 2) Zt (ZA _))
    (Zs (Z8 (Zz Yg (ZB Ym (vn 2) (vn 3)) Zt (ZA _)) (Zw (XR (XU dG ck dC Wi (vn 1) (pc (vn 3) Zu)))) ZI)
    (Zs (WF aN (Zz Yg (ZB Ym (vn 2) (vn 3)) Zt (ZA _)) (Zw (ZO 2 rfl (ZB Y3 (vn 2) (vn 3)))))
    (Zw (Zbr (i:=3) (Ya (by kernel_rfl)) rfl (JX (by kernel_rfl)) Zt Uw (.inl rfl))))))
   (Zw (ZT (vn 1)))))),?_⟩
  refine⟨by decide,fun l hl=>⟨_,rfl,?_⟩⟩;have s1:Zy H (upd H l (.lst [])):=Zy.upd hl;refine YW (fun f J H'=>∃(r p:Int) (acc:List Int),J=[some (.int n),some (.ref l),some (.int r),some (.int p)]/\H'=upd H l (.lst (acc.map V.int))/\1<=r/\r<=60/\2<=p/\p+f=102/\acc.length+f<=100/\Vz f r p=true/\pr f r p acc=Z2 n)
   (fun J H'=>∃r p:Option V,J=[some (.int n),some (.ref l),r,p]/\H'=upd H l (.lst ((Z2 n).map V.int))) ?hend ⟨100,n,2,[],rfl,rfl,by omega,by omega,by omega,by omega,by decide,f7,rfl⟩ ?turn
  case hend=>
   rintro J H' ⟨r,p,rfl,rfl⟩;exact⟨_,rfl,q l _ (Zy.upd hl) Zv⟩
  case turn=>
   rintro Y f J H' ⟨r,p,acc,rfl,rfl,r1,g9,p2,pf,al,he,hp⟩;refine⟨_,rfl,_,_,rfl,rfl,_,rfl,?_⟩;refine ZZ (fun h1=>?_) (fun h1=>?_)
   rotate_left
   ·have h1:¬ 1<r:=fun z=>h1 (decide_eq_true z)
    refine Y _ _ ⟨_,_,rfl,?_⟩;have:pr f r p acc=acc:=by cases f with|zero=>rfl|succ f=>unfold pr;rw[if_neg h1]
    rw[<-hp,this]
   have h1:1<r:=of_decide_eq_true h1;obtain⟨g,rfl⟩:∃g,f=g+1:=by
    cases f with
    |zero=>unfold Vz at he;have:=of_decide_eq_true he;omega
    |succ g=>exact⟨g,rfl⟩
   refine⟨_,fun _ _ z=>z,?_⟩;unfold Vz at he;unfold pr at hp;rw[if_pos h1] at he hp;have sz:(16777216:Nat)=sizeLine:=by decide
   refine⟨_,rfl,_,rfl,_,_,rfl,rfl,(by show (0:Int)<p;omega),rfl,_,rfl,?_⟩;obtain⟨j,f6,f8,hA⟩:∃j:List Int,j=(if r % p=0 then acc++[p] else acc)/\pr g (strip 6 r p) (p+1) j=Z2 n/\j.length<=acc.length+1:=⟨_,rfl,hp,by split <;> simp⟩
   obtain⟨h8,i5⟩:=YX 6 (r:=r) (p:=p) r1 p2;refine ZZ (fun U=>?_) (fun U=>?_)
   ·have U:r % p=0:=V.int.inj (of_decide_eq_true U)
    refine⟨_,rfl,.inl ⟨rfl,_,.of Zv⟩,_,rfl,l,_,_,rfl,rfl,Zv,by rw[Za];omega,?_⟩;have e1:upd (upd H l (.lst (acc.map V.int))) l (.lst (acc.map V.int++[.int p]))=upd H l (.lst (j.map V.int)):=by
     rw[UV,f6,if_pos U,bM];rfl
    rw[e1];refine YW (fun m B D=>∃(L:Int) (g':Nat),B=[some (.int n),some (.ref l),some (.int L),some (.int p)]/\D=upd H l (.lst (j.map V.int))/\1<=L/\L<=60/\L<2 ^ g'/\strip g' L p=strip 6 r p/\m=L.toNat)
     (fun B D=>B=[some (.int n),some (.ref l),some (.int (strip 6 r p)),some (.int p)]/\D=upd H l (.lst (j.map V.int))) ?hend2 ⟨_,r,6,rfl,rfl,r1,g9,by omega,rfl,rfl⟩ ?turn2
    case hend2=>
     rintro B D ⟨rfl,rfl⟩;exact⟨_,rfl,_,_,rfl,rfl,g,by omega,strip 6 r p,p+1,j,rfl,rfl,h8,by omega,by omega,by omega,by omega,he,f8⟩
    case turn2=>
     rintro M m B D ⟨L,g',rfl,rfl,a1,a2,a3,a4,rfl⟩;refine⟨_,rfl,_,rfl,_,_,rfl,rfl,(by show (0:Int)<p;omega),rfl,_,rfl,?_⟩;refine ZZ (fun h3=>?_) (fun h3=>?_)
     ·have h3:L % p=0:=V.int.inj (of_decide_eq_true h3)
      obtain⟨b1,b2⟩:=WM a1 p2 h3;obtain⟨g2,rfl⟩:∃g2,g'=g2+1:=by
       cases g' with
       |zero=>simp at a3;omega
       |succ g2=>exact⟨g2,rfl⟩
      unfold strip at a4;rw[if_pos h3] at a4;refine⟨_,fun _ _ z=>z,_,rfl,_,rfl,_,_,rfl,rfl,⟨by omega,by omega⟩,(L / p).toNat,by omega,L / p,g2,rfl,rfl,b1,by omega,?_,a4,rfl⟩;rw[Int.pow_succ] at a3;omega
     ·have h3:¬L % p=0:=fun z=>h3 (decide_eq_true (congrArg V.int z))
      rw[WC h3] at a4;exact M _ _ ⟨by rw[a4],rfl⟩
   ·have U:¬r % p=0:=fun z=>U (decide_eq_true (congrArg V.int z))
    have e1:upd H l (.lst (acc.map V.int))=upd H l (.lst (j.map V.int)):=by rw[f6,if_neg U]
    rw[e1];have e2:strip 6 r p=r:=WC U;refine YW (fun m B D=>B=[some (.int n),some (.ref l),some (.int r),some (.int p)]/\D=upd H l (.lst (j.map V.int)))
     (fun B D=>B=[some (.int n),some (.ref l),some (.int r),some (.int p)]/\D=upd H l (.lst (j.map V.int))) ?hend3 ⟨0,rfl,rfl⟩ ?turn3
    case hend3=>
     rintro B D ⟨rfl,rfl⟩;exact⟨_,rfl,_,_,rfl,rfl,g,by omega,r,p+1,j,rfl,rfl,r1,by omega,by omega,by omega,by omega,e2▸he,e2▸f8⟩
    case turn3=>
     rintro O m B D ⟨rfl,rfl⟩;refine⟨_,rfl,_,rfl,_,_,rfl,rfl,(by show (0:Int)<p;omega),rfl,_,rfl,?_⟩;exact YU (fun z=>U (V.int.inj (of_decide_eq_true z))) (O _ _ ⟨rfl,rfl⟩)
theorem Vo {f:Addr}{fd:FuncData}(F:WW K "places" "places" XM f fd)(T:Bl mg)(U:Fn P w K mg base YL 1 "primes_of" ["n"] JN):Yd P w K mg base YL 2 f fd ["n"] JO:=by
 refine F.ok (FS (N:=["n", "found", "p"])) (fun Y H Q E h=>?_) (fun f6 A J s H Y Q E hr h=>?_)
 ·obtain⟨n,rfl,_⟩:=h;rfl
 ·obtain⟨n,rfl,M,z,q⟩:=h
  obtain⟨_,L,_⟩:=Jt M z;refine⟨_,Zs (ZO 1 rfl (vn 0)) (Zs (WG aN rfl (itL K (W8 U hr Z0 (pc (vn 0) Zu))) (gn 2)
   (Zw (ZO 1 rfl (ZB YA (ZB Y3 (vn 1) (vn 2)) (ZB We (vn 2) Zt)))))
   (Zw (ZT (vn 1)))),?_⟩
  refine⟨_,rfl,_,rfl,n,rfl,M,z,fun l H1 s1 O=>⟨l,rfl,⟨_,.of O⟩,?_⟩⟩;refine ZaH (U2 (YF.of O)) (fun i j D=>∃v2:Option V,j=[some (.int n),some (.int (((Z2 n).take i).foldl (fun f p=>f / p*(p-1)) n)),v2]/\D=H1) ⟨none,rfl,rfl⟩ (fun _ _ _ ⟨_,_,e⟩=>e▸Zy.refl _) ?_ ?_
  ·rintro i x j D B ⟨v2,rfl,rfl⟩
   rw[Zc] at B;cases e:(Z2 n)[i]? with
   |none=>rw[e] at B;cases B
   |some p=>
    rw[e] at B;cases B;obtain⟨a1,a2⟩:=L p (aZ e);refine⟨_,rfl,_,rfl,_,_,rfl,rfl,⟨by omega,by omega⟩,_,rfl,_,_,rfl,rfl,_,_,rfl,rfl,.inr ⟨by omega,by omega⟩,?_⟩;refine⟨some (.int p),?_,rfl⟩;have ht:(Z2 n).take (i+1)=(Z2 n).take i++[p]:=by rw[e8,e];rfl
    rw[ht,List.foldl_append];rfl
  ·rintro j D ⟨v2,rfl,rfl⟩
   refine⟨_,rfl,?_⟩;rw[Za,de];exact q D s1
end
end N60
namespace HT
open PySem PyProof.Rows
section
variable {prog:Program}{w:World}{A:Around}{E:Value->Shared->Prop}{s:Shared}
end
end HT
namespace L2
open PySem PySem.Spec PyProof.Rows
section
variable {X:Cx}{e:Expr}{te ts:TE}{st:Expr}{pos p2:Pos}
end
end L2
namespace HT
open PySem PyProof.Rows
section
variable {prog:Program}{w:World}{A:Around}{E:Value->Shared->Prop}{s:Shared}
end
end HT
namespace L2
open PySem PySem.Spec PyProof.Rows
section
variable {X:Cx}
end
end L2
namespace PyS
open PySem PySem.SetTable
end PyS
namespace PyS
open PySem
section
variable {prog:Program}{w:World}{A:Around}{E:Value->Shared->Prop}{s:Shared}{I a:Addr}{es:Array (Int×Value)}{ep:Nat}{t:SetTable}{first:Value}{i n:Nat}
end
section
variable {prog:Program}{w:World}{A:Around}{E:Value->Shared->Prop}{s:Shared}{I a:Addr}{es:Array (Int×Value)}{ep:Nat}{t:SetTable}{first:Value}{i n:Nat}
end
end PyS
namespace PyS
open PySem PySem.W PyProof.Rows PySem.Calls PyProof.V PySem.Spec
section
variable {prog:Program}{w:World}{A:Around}{E:Value->Shared->Prop}{s:Shared}{a:Addr}{es:Array (Int×Value)}{ep:Nat}{t:SetTable}
section
variable {T:String}{d:Addr}{n:Nat}{Good:(Nat->Value->Prop)->Prop}{OK:Heap->Prop}
end
section
variable {K:Type} [DecidableEq K]{knd:PySem.KeyKind prog w K}{kvs:List (K×Value)}
end
end
section
variable {prog:Program}{w:World}{A:Around}{E:Value->Shared->Prop}{s:Shared}{a:Addr}
end
section
variable {prog:Program}{w:World}{A:Around}{R:Result->Shared->Prop}{I:Addr}{fp wr:List Addr}{G:Array GenState->Array GenState->Prop}{n:Nat}{P:Nat->Value->Prop}{St:Nat->Shared->Prop}
end
section
variable {prog:Program}{w:World}{A:Around}{E:Value->Shared->Prop}{s:Shared}
end
end PyS
namespace L2
open PySem PySem.Spec PyProof.Rows
section
variable {X:Cx}{pins:List (Addr×Obj)}{σ:L2.St}{H:Hp}{s:Shared}
end
section
variable {X:Cx}{pins:List (Addr×Obj)}{σ:L2.St}{H:Hp}{s:Shared}
end
end L2
namespace Tb
section
variable {t:List (List Nat)}{a r:Nat}
end
section
variable {t:List (List Nat)}{o:List Nat}
end
end Tb
namespace L2
open PySem PySem.Spec PyProof.Rows
section
variable {X:Cx}
end
theorem Ws:∀ns:List Int,bS (ns.map aC)=true
 | []=>rfl
 |n::ns=>by
  show (cv (.int n) && bS (ns.map aC))=true;rw[Ws ns];rfl
theorem XD (ns:List Int):cv (.tuple (ns.map aC))=true:=Ws ns
theorem WN:∀ns:List Int,bI (ns.map aC)<=1
 | []=>by decide
 |n::ns=>by
  have:=WN ns;show max (bA (.int n)) (bI (ns.map aC))<=1;have e:bA (.int n)<=1:=by simp[bA]
  omega
end L2
namespace L2
open PySem
theorem VA (ns:List Int):bA (.tuple (ns.map aC))<=60:=by
 have:=WN ns;show bI (ns.map aC)+1<=60;omega
end L2
namespace PyZ
open PySem
end PyZ
namespace L2
open PySem PySem.Spec PyProof.Rows
section
variable {X:Cx}
end
end L2
namespace PyZ
open PySem PyProof PyProof.Rows
section
variable {prog:Program}{w:World}{A:Around}{E:Value->Shared->Prop}{s:Shared}
end
end PyZ
namespace L2
open PySem PySem.Spec PyProof.Rows
section
variable {X:Cx}{pins:List (Addr×Obj)}{σ:St}{H:Hp}{s:Shared}
end
section
variable {X:Cx}
variable {o e:Expr}{es:List Expr}{to:TE}{t:TA}{name:Str}{apos cpos:Pos}{id:String}{r:V->List V->Hp->VK->Prop}
end
end L2
namespace PyZ
open PySem PySem.Spec PyProof.Rows
section
variable {prog:Program}{w:World}{A:Around}{E:Value->Shared->Prop}{s:Shared}
end
end PyZ
namespace L2
open PySem PySem.Spec PyProof.Rows
section
variable {X:Cx}
end
end L2
namespace PyY
open PySem
open AutoSeq1 (wpAny_loadPart')
section
variable {prog:Program}{w:World}{A:Around}{E:Value->Shared->Prop}{s:Shared}
theorem Xs {j a:Addr}{k:Nat}{us:Array Value}{y:Value}{Q:Value->Shared->Prop}(c:s.heap.IsTupleIter j a k)(d:s.heap.IsTuple a us)(e:us[k]?=some y)
  (q:∀g,g.IsTupleIter j a (k+1)->aJ j s.heap g->Q y {s with heap:=g}):wpAny (model prog w) A (a8 (.ref j)) Q E s:=by
 obtain⟨O,B,J,z⟩:=id c;obtain⟨U,L,_,Y,M⟩:=d;unfold a8;refine Zl (bE (name:=ax "__next__") c.typeIs bo (cy bo c.typeIs dQ ?_ (dL _)));show wpAny _ _ (field (.ref j) 0 >>= _) _ _ s;refine Zl (be B z (x:=.ref a) rfl ?_);show wpAny _ _ (if (aV a == bF)=true then _ else _) _ _ s
 rw[if_neg (show ¬((aV a == bF)=true) from ar)];show wpAny _ _ (field (.ref j) 1 >>= _) _ _ s;refine Zl (be B z (x:=.int k 0) rfl ?_);show wpAny _ _ (seqItems? (.ref a) >>= _) _ _ s;refine Zl (wpAny_seqItems L M ?_);simp only[Zj,e];refine Zl (wpAny_setField B z (by simp) (Zm ⟨y,rfl,Zm (q _ ?_ (dB ..))⟩));refine⟨_,em _ B (Obj.isFreed_of_fields (eZ z _)),(Obj.cls_mapFields ..).trans J,?_⟩;rw[eZ z];simp[rawInt]
theorem Vq {j a:Addr}{k:Nat}{us:Array Value}{Q:Value->Shared->Prop}(L:A.handled=none)(c:s.heap.IsTupleIter j a k)(d:s.heap.IsTuple a us)(e:us[k]?=none)
  (q:∀g x,Heap.ExtBut j s.heap g->(∃o,g.get? x=some o/\o.cls=.type "StopIteration")->E (.ref x) {s with heap:=g}):wpAny (model prog w) A (a8 (.ref j)) Q E s:=by
 obtain⟨U,z,Y,B⟩:=id c;obtain⟨oa,M,_,na,O⟩:=d;unfold a8;refine Zl (bE (name:=ax "__next__") c.typeIs bo (cy bo c.typeIs dQ ?_ (dL _)));show wpAny _ _ (field (.ref j) 0 >>= _) _ _ s;refine Zl (be z B (x:=.ref a) rfl ?_);show wpAny _ _ (if (aV a == bF)=true then _ else _) _ _ s
 rw[if_neg (show ¬((aV a == bF)=true) from ar)];show wpAny _ _ (field (.ref j) 1 >>= _) _ _ s;refine Zl (be z B (x:=.int k 0) rfl ?_);show wpAny _ _ (seqItems? (.ref a) >>= _) _ _ s;refine Zl (wpAny_seqItems M O ?_);simp only[Zj,e];refine Zl (wpAny_rule (Zl (wpAny_setField z B (by simp) ?_)));show wpAny _ _ (newExc (.type "StopIteration") [] >>= _) _ _ {s with heap:=_};refine Zl ?_;unfold newExc newTuple;refine Zl (cr (Q:=_) ?_ (by size_fits));refine Zl (m:=firstArgMember _ _) (wpAny_of_eq (a:=bF) (by first|rfl|(unfold firstArgMember;rfl)) ?_)
 refine cr (Q:=_) ?_ (by size_fits);unfold raiseNew;refine Zl (wpAny_handled ?_);have D:A.in1.handled=none:=L;rw[D];refine Zl (Zm (wpAny_throw (E:=E) ?_));exact q _ _ (((dB ..).extBut.push _).push _) ⟨_,Zo _ rfl,rfl⟩
theorem Xz {n j a:Addr}{k:Nat}{us:Array Value}{y z:Value}{Q:Option Value->Shared->Prop}(b:ce s.heap n j k z)(c:s.heap.IsTupleIter j a k)(d:s.heap.IsTuple a us)(e:us[k]?=some y)(Y:n≠j)
  (q:∀g,IsEnumOut g n j ((k:Int)+1) y s.heap.objs.size->g.IsTupleIter j a (k+1)->g.get? s.heap.objs.size=some {cls:=.type "tuple",data:=.seq #[.int k s.toks,y]}->g.objs.size=s.heap.objs.size+1->
   (∀x o,x≠n->x≠j->s.heap.get? x=some o->g.get? x=some o)->Q (some (.ref s.heap.objs.size)) {s with heap:=g,toks:=s.toks+1}):wpAny (model prog w) A (pyNext (.ref n)) Q E s:=by
 have tn:s.TypeIs (.ref n) "enumerate":=⟨_,b,rfl⟩;unfold pyNext;refine Zl (wpAny_attempt (bE (name:=ax "__next__") tn bJ (cy bJ tn eL ?_ (eA _))));obtain⟨D,J,L,B,os⟩:=s;show wpAny _ _ (field (.ref n) 2 >>= _) _ _ _;refine Zl (be b rfl (x:=.ref j) rfl ?_);refine Zl (Xs c d e fun M c1 s1=>?_);replace s1:aJ j D M:=s1;have b1:ce M n j k z:=(s1.2 n Y).trans b;show wpAny _ _ (field (.ref n) 3 >>= _) _ _ ⟨M,J,L,B,os⟩;refine Zl (be b1 rfl (x:=rawInt k) rfl ?_);show wpAny _ _ (field (.ref n) 4 >>= _) _ _ ⟨M,J,L,B,os⟩;refine Zl (be b1 rfl (x:=.none) rfl ?_);show wpAny _ _ (mkInt k >>= _) _ _ ⟨M,J,L,B,os⟩;refine Zl (wpAny_mkInt ?_);show wpAny _ _ (setField (.ref n) 3 (rawInt ((k:Int)+1)) >>= _) _ _ ⟨M,J,L,B+1,os⟩;refine Zl (bB b1 (by simp) fun g2 b2 s2=>?_);replace s2:aJ n M g2:=s2;replace b2:ce g2 n j ((k:Int)+1) z:=b2;show wpAny _ _ (setField (.ref n) 4 .none >>= _) _ _ ⟨g2,J,L,B+1,os⟩;refine Zl (bB b2 (by simp) fun O b3 s3=>?_);replace s3:aJ n g2 O:=s3;replace b3:ce O n j ((k:Int)+1) z:=b3;show wpAny _ _ (newTuple [.int k B,y] >>= _) _ _ ⟨O,J,L,B+1,os⟩;refine Zl (wpAny_newTuple ?_);have b4:ce (O.push {cls:=.type "tuple",data:=.seq #[.int k B,y]}) n j ((k:Int)+1) z:=Zn _ b3;generalize z4:O.push {cls:=.type "tuple",data:=.seq #[.int k B,y]}=g4 at b4;have sz:O.objs.size=D.objs.size:=by rw[s3.1,s2.1,s1.1]
 have nl:n<D.objs.size:=Zp b;have t4:g4.get? D.objs.size=some {cls:=.type "tuple",data:=.seq #[.int k B,y]}:=by
  rw[<-z4,<-sz];exact Zo _ rfl
 have w4:g4.objs.size=D.objs.size+1:=by
  rw[<-z4,bn,sz]
 have k4:∀x o,x≠n->x≠j->D.get? x=some o->g4.get? x=some o:=fun x o U xj hx=>by
  rw[<-z4];exact Zn _ (s3.extBut x o U (s2.extBut x o U (s1.extBut x o xj hx)))
 have c4:g4.IsTupleIter j a (k+1):=by
  obtain⟨o,ho,r⟩:=(c1.extBut s2.extBut (bd Y)).extBut s3.extBut (bd Y);rw[<-z4];exact⟨o,Zn _ ho,r⟩
 show wpAny _ _ (bU (.ref n) >>= _) _ _ ⟨g4,J,L,B+1,os⟩;rw[sz];clear z4 b3 s3 b2 s2 b1 s1 c1 sz O g2 M;refine Zl ?_;unfold bU;refine Zl (be b4 rfl (x:=.none) rfl (Zm ?_));rw[if_pos rfl];refine Zl (wpAny_rule (Zl (be b4 rfl (x:=z) rfl ?_)));refine Zl (bB b4 (by simp) fun g5 b5 s5=>?_);replace s5:aJ n g4 g5:=s5;replace b5:ce g5 n j ((k:Int)+1) y:=b5;show wpAny _ _ (bP (.ref n) (.ref D.objs.size) >>= _) _ _ ⟨g5,J,L,B+1,os⟩;refine Zl ?_;unfold bP;refine Zl (bB b5 (by simp) fun g6 b6 s6=>?_);replace s6:aJ n g5 g6:=s6;replace b6:IsEnumOut g6 n j ((k:Int)+1) y D.objs.size:=b6;refine bB b6 (by simp) fun g7 b7 s7=>?_;replace s7:aJ n g6 g7:=s7;replace b7:IsEnumOut g7 n j ((k:Int)+1) y D.objs.size:=b7;refine Zl (wpAny_letGo (Zm ⟨_,rfl,Zm (q g7 b7 ?_ ?_ ?_ ?_)⟩))
 ·exact ((c4.extBut s5.extBut (bd Y)).extBut s6.extBut (bd Y)).extBut s7.extBut (bd Y)
 ·exact s7.extBut _ _ (bc nl) (s6.extBut _ _ (bc nl) (s5.extBut _ _ (bc nl) t4))
 ·rw[s7.1,s6.1,s5.1,w4]
 ·exact fun x o U xj hx=>s7.extBut x o U (s6.extBut x o U (s5.extBut x o U (k4 x o U xj hx)))
theorem Vy {n j a:Addr}{k:Nat}{us:Array Value}{old:Value}{Q:Option Value->Shared->Prop}(D:A.handled=none)(b:ce s.heap n j k old)(c:s.heap.IsTupleIter j a k)(d:s.heap.IsTuple a us)(e:us[k]?=none)
  (q:∀g,Heap.ExtBut j s.heap g->Q none {s with heap:=g}):wpAny (model prog w) A (pyNext (.ref n)) Q E s:=by
 have z:s.TypeIs (.ref n) "enumerate":=⟨_,b,rfl⟩;unfold pyNext;refine Zl (wpAny_attempt (bE (name:=ax "__next__") z bJ (cy bJ z eL ?_ (eA _))));show wpAny _ _ (field (.ref n) 2 >>= _) _ _ _;refine Zl (be b rfl (x:=.ref j) rfl ?_);refine Zl (Vq D c d e fun g x J L=>?_);obtain⟨o,M,O⟩:=L;refine Zl (wpAny_isInstance (T:="StopIteration") (b:=true) ⟨o,M,O⟩ isSubtype_stop ?_);exact Zm (q _ J)
theorem Vx (a:Addr)(q:Array Value)(n:Nat)(B:Option Addr)(D:Array (Option Value)) :
  Meets (bb.«enumerate.__new__» ⟨[.type "enumerate",.ref a],[]⟩) (fun _ R s=>s.heap.get? a=some {cls:=.type "tuple",dict:=B,data:=.seq q n,slots:=D}/\
   R (.ok (.ret (.ref (s.heap.push {cls:=.type "tuple_iterator",data:=.fields #[.ref a,.int 0 0]}).objs.size)))
    {s with heap:=(s.heap.push {cls:=.type "tuple_iterator",data:=.fields #[.ref a,.int 0 0]}).push {cls:=.type "enumerate",data:=.fields #[.none,.bool false,.ref s.heap.objs.size,rawInt 0,.none,.none]}}):=
 .of_wp fun prog w A R s h=>by
  obtain⟨J,L,M,O,os⟩:=s;obtain⟨j,h⟩:=h;have sub:=sub_enumerate;have z:Heap.IsTuple (Shared.heap ⟨J,L,M,O,os⟩) a q:=⟨_,j,rfl,n,rfl⟩
  wp_walk using wpAny_loadPart' j
  refine wpAny_stack_any fun st=>Zm ?_;split
  ·rename_i U _ _ _ _ _
   cases (U == Value.type "enumerate") <;> (wp_walk using wpAny_loadPart' j,wpAny_pyIter_tuple z) <;> exact⟨_,rfl,h⟩
  ·wp_walk using wpAny_loadPart' j,wpAny_pyIter_tuple z
   exact⟨_,rfl,h⟩
theorem XE {a:Addr}{us:Array Value}{Q:Value->Shared->Prop}(J:s.heap.IsTuple a us)
  (h:∀g,ce g (s.heap.objs.size+1) s.heap.objs.size 0 .none->g.IsTupleIter s.heap.objs.size a 0->g.objs.size=s.heap.objs.size+2->(∀b o,s.heap.get? b=some o->g.get? b=some o)->Q (.ref (s.heap.objs.size+1)) {s with heap:=g}) :
  wpAny (model prog w) A (call (.type "enumerate") [.ref a]) Q E s:=by
 obtain⟨⟨L,M,O,U⟩,Y,hc,n,hd⟩:=J;have j:L=.type "tuple":=hc;have q:O=.seq us n:=hd;subst j q;refine callType_new F.called_enumerate (by decide) (F.typeCall_enumerate_1 _) (F.newCall_enumerate_1 _) (fun B=>F.args_object_init_2 B _) F.entry_enumerate_new (Vx a us n M U) ⟨Y,?_⟩;have D:(s.heap.push {cls:=.type "tuple_iterator",data:=.fields #[.ref a,.int 0 0]}).objs.size=s.heap.objs.size+1:=bn ..;show _/\_;rw[D];have he:ce ((s.heap.push {cls:=.type "tuple_iterator",data:=.fields #[.ref a,.int 0 0]}).push {cls:=.type "enumerate",data:=.fields #[.none,.bool false,.ref s.heap.objs.size,rawInt 0,.none,.none]}) (s.heap.objs.size+1) s.heap.objs.size 0 .none:=by
  have z:=Zo (s.heap.push {cls:=.type "tuple_iterator",data:=.fields #[.ref a,.int 0 0]}) (o:={cls:=.type "enumerate",data:=.fields #[.none,.bool false,.ref s.heap.objs.size,rawInt 0,.none,.none]}) rfl;rw[D] at z;exact z
 exact⟨⟨_,he,rfl⟩,h _ he ⟨_,Zn _ (Zo _ rfl),rfl,rfl⟩ (by rw[bn,D]) fun b o y=>Zn _ (Zn _ y)⟩
end
end PyY
namespace L2
open PySem PySem.Spec PyProof.Rows
section
variable {X:Cx}{pins:List (Addr×Obj)}{σ:St}{H:Hp}{s:Shared}{h':Heap}
theorem Inv.turnLay {t':Nat}{ts:List Addr}{T:Addr}{o:HO}(I:Inv X pins σ H s)(k:∀b u,b∉ts->s.heap.get? b=some u->h'.get? b=some u)(ht:∀b∈ts,∃u,h'.get? b=some u)(L:∀b∈ts,WQ X pins H b)(M:s.heap.objs.size<=T)
  (J:ZU X.prog X.w (upd H T o) h' T o):Inv X pins σ (upd H T o) {s with heap:=h',toks:=t'}:=by
 have j:H T=none:=I.hok.fresh M;have B:∀b u,H b=some u->b∉ts:=fun b u e z=>by
  have:=(L b z).1;rw[e] at this;cases this
 refine I.call (ch:=ts) (g':=s.gens) (d':=s.drawn) ⟨fun b u e _ _ D=>k b u D e,fun b u e _ _ D=>⟨u.slots,k b u D e⟩,fun b u e n _=>?_,fun b u e D=>⟨u,k b u D e⟩,fun b O q=>?_,fun b u v q=>?_,fun b ps q=>⟨#[],?_⟩⟩
  (fun b u e=>?_) I.bare fun b hb=>?_
 ·rw[ZD (aw (am (Zp e) M))]
  exact n
 ·rw[ZD (ZG q j)]
  exact q
 ·rw[ZD (ZG q j)]
  exact q
 ·rw[ZD (ZG q j),q]
  simp
 ·by_cases hb:b=T
  ·subst hb
   rw[Zv] at e;cases e;exact J
  ·rw[ZD hb] at e
   refine (I.hok b u e).stay (fun c v U q=>k c v ?_ q) (fun c r=>by rw[ZD (ZG r j)];exact r) fun c O r=>by rw[ZD (ZG r j)];exact r
   rcases U with z|z
   ·rw[z]
    exact B b u e
   ·exact B c _ z
 ·obtain⟨f0,Y,f2,f3,f4,f5⟩:=L b hb
  exact⟨f3,Y,f4,f5⟩
theorem Inv.turnedL {t':Nat}{ts:List Addr}(I:Inv X pins σ H s)(k:∀b u,b∉ts->s.heap.get? b=some u->h'.get? b=some u)(D:∀b∈ts,WQ X pins H b):Inv X pins σ H {s with heap:=h',toks:=t'}:=by
 have j:∀b u,H b=some u->b∉ts:=fun b u e z=>by
  have:=(D b z).1;rw[e] at this;cases this
 refine I.call (ch:=ts) (g':=s.gens) (d':=s.drawn) ⟨fun b u e _ _ B=>k b u B e,fun b u e _ _ B=>⟨u.slots,k b u B e⟩,fun b u e n _=>n,fun b u e B=>⟨u,k b u B e⟩,fun b J q=>q,fun b u v q=>q,fun b ps q=>⟨#[],by rw[q];simp⟩⟩
  (fun b u e=>?_) I.bare fun b hb=>?_
 ·refine (I.hok b u e).stay (fun c v L q=>k c v ?_ q) (fun c r=>r) fun c J r=>r
  rcases L with z|z
  ·rw[z]
   exact j b u e
  ·exact j c _ z
 ·obtain⟨f0,M,f2,O,U,Y⟩:=D b hb
  exact⟨O,M,U,Y⟩
end
noncomputable def ZcV (K:aa)(a:Addr):It:=
 ⟨fun i H=>∃j x,YF K H a j/\j[i]?=some x,fun i H x q=>∃T y,x=.ref T/\H T=none/\q=upd H T (.tup [.int i,y])/\∀j,YF K H a j->j[i]?=some y,fun i H=>∃j,YF K H a j/\j.length<=i⟩
noncomputable def ZcU (K:aa)(a:Addr):It:=
 ⟨fun i H=>∃j x,Y9 K H a j/\j[i]?=some x,fun i H x q=>∃T y,x=.ref T/\H T=none/\q=upd H T (.tup [.int i,y])/\∀j,Y9 K H a j->j[i]?=some y,fun i H=>∃j,Y9 K H a j/\j.length<=i⟩
theorem Xj {P:Program}{w:World}{K:aa}{elts:List Expr}{x1}{pos:Pos}(a e it:Addr)(ne:e≠it) :
  XF P w K (.Tuple elts x1 pos) (ZcV K a) [e,it] e (fun i h=>(∃j,ce h e it i j)/\h.IsListIter it a i) where
 mem:=by simp
 obj:=fun i h st b hb=>by
  obtain⟨⟨j,B⟩,⟨o,L,c,d⟩⟩:=st;rcases aj.mp hb with rfl|hb
  ·exact⟨_,B,fun v z=>by
    have z':eB _=fh v:=z;cases z'⟩
  ·have q:b=it:=by simpa using hb
   subst q;exact⟨o,L,fun v z=>by rw[d] at z;cases z⟩
 keep:=fun i h h' st k=>by
  obtain⟨⟨j,B⟩,D⟩:=st;exact⟨⟨j,k e (by simp) _ B⟩,D.at fun o q=>k it (by simp) o q⟩
 item:=by
  intro X hP hw hK hc i M s σ H E I hf st hg;subst hP hw hK;obtain⟨⟨j,B⟩,D⟩:=st;obtain⟨xs,x,hq,hx⟩:=hg;obtain⟨f6,rv,p,hz⟩:=I.list hq;obtain⟨u,hu,ru⟩:=rv.get hx;refine wpAny_pyNext_enum_item B D p.isList (x:=u) (by simpa using hu) ne fun h1 ho f7 hT g9 hk=>?_;refine⟨_,rfl,eh ho fun O f8 f9=>?_⟩;have le:e<s.heap.objs.size:=Zp B;have J:aJ e h1 O:=f9;have g8:O.get? s.heap.objs.size=some {cls:=.type "tuple",data:=.seq #[.int i s.toks,u]}:=(J.2 _ (bc le)).trans hT;have U:O.IsListIter it a (i+1):=f7.at fun o q=>(J.2 it (bd ne)).trans q;have Y:ce O e it ((i+1:Nat):Int) u:=by
   have:=f8;simpa using this
  have nT:H s.heap.objs.size=none:=I.hok.fresh (Zq _);have I2:=I.turnLay (t':=s.toks+1) (h':=O) (ts:=[e,it]) (T:=s.heap.objs.size) (o:=.tup [.int i,x]) (fun b v hb q=>?_) (fun b hb=>?_) hf (Zq _) ⟨by show 2<=sizeLine;decide,[.int i s.toks,u],.cons ⟨_,rfl⟩ (.cons ru .nil),_,g8,rfl,0,rfl⟩
  ·refine⟨.ref s.heap.objs.size,_,I2,rfl,⟨_,x,rfl,nT,rfl,fun ys hy=>by rw[I.list_inj hy hq];exact hx⟩,⟨⟨u,Y⟩,U⟩,fun b hb=>?_⟩
   have fb:=(hf b hb).1;have lb:b<s.heap.objs.size:=by
    rcases aj.mp hb with rfl|hb
    ·exact le
    ·have q:b=it:=by simpa using hb
     subst q;obtain⟨o,L,_⟩:=D;exact Zp L
   rw[ZD (aw lb)];exact fb
  ·have q1:b≠e:=fun z=>hb (by simp[z])
   have q2:b≠it:=fun z=>hb (by simp[z]);exact (J.2 b q1).trans (hk b v q1 q2 q)
  ·rcases aj.mp hb with rfl|hb
   ·exact⟨_,Y⟩
   ·have q:b=it:=by simpa using hb
    subst q;obtain⟨o,L,_⟩:=U;exact⟨o,L⟩
 done:=by
  intro X hP hw hK hc i M s σ H E I hf st hg;subst hP hw hK;obtain⟨⟨j,B⟩,D⟩:=st;obtain⟨xs,hq,hx⟩:=hg;obtain⟨f6,rv,p,hz⟩:=I.list hq;have hl:=rv.length;exact wpAny_pyNext_enum_end (I.ok.hd hc) B D p.isList (by simp;omega) fun h1 eb=>⟨rfl,I.turnedL (t':=s.toks) (ts:=[e,it]) (fun b o hb q=>eb b o (fun z=>hb (by simp[z])) q) hf⟩
 self:=fun _ _ _ _ _ st h=>by
  obtain⟨⟨j,B⟩,D⟩:=st;exact cq B h
theorem Xi {P:Program}{w:World}{K:aa}{elts:List Expr}{x1}{pos:Pos}(a e it:Addr)(ne:e≠it) :
  XF P w K (.Tuple elts x1 pos) (ZcU K a) [e,it] e (fun i h=>(∃j,ce h e it i j)/\h.IsTupleIter it a i) where
 mem:=by simp
 obj:=fun i h st b hb=>by
  obtain⟨⟨j,B⟩,⟨o,M,c,d⟩⟩:=st;rcases aj.mp hb with rfl|hb
  ·exact⟨_,B,fun v z=>by
    have z':eB _=fh v:=z;cases z'⟩
  ·have q:b=it:=by simpa using hb
   subst q;exact⟨o,M,fun v z=>by rw[d] at z;cases z⟩
 keep:=fun i h h' st k=>by
  obtain⟨⟨j,B⟩,D⟩:=st;exact⟨⟨j,k e (by simp) _ B⟩,D.at fun o q=>k it (by simp) o q⟩
 item:=by
  intro X hP hw hK hc i O s σ H E I hf st hg;subst hP hw hK;obtain⟨⟨j,B⟩,D⟩:=st;obtain⟨xs,x,hq,hx⟩:=hg;obtain⟨J,rv,p,hz⟩:=I.tuple hq;obtain⟨u,hu,ru⟩:=rv.get hx;refine PyY.Xz B D (show s.heap.IsTuple a J.toArray from p) (y:=u) (by simpa using hu) ne fun h1 ho f7 hT g9 hk=>?_;refine⟨_,rfl,eh ho fun U f8 f9=>?_⟩;have le:e<s.heap.objs.size:=Zp B;have L:aJ e h1 U:=f9;have g8:U.get? s.heap.objs.size=some {cls:=.type "tuple",data:=.seq #[.int i s.toks,u]}:=(L.2 _ (bc le)).trans hT;have Y:U.IsTupleIter it a (i+1):=f7.at fun o q=>(L.2 it (bd ne)).trans q;have f6:ce U e it ((i+1:Nat):Int) u:=by
   have:=f8;simpa using this
  have nT:H s.heap.objs.size=none:=I.hok.fresh (Zq _);have I2:=I.turnLay (t':=s.toks+1) (h':=U) (ts:=[e,it]) (T:=s.heap.objs.size) (o:=.tup [.int i,x]) (fun b v hb q=>?_) (fun b hb=>?_) hf (Zq _) ⟨by show 2<=sizeLine;decide,[.int i s.toks,u],.cons ⟨_,rfl⟩ (.cons ru .nil),_,g8,rfl,0,rfl⟩
  ·refine⟨.ref s.heap.objs.size,_,I2,rfl,⟨_,x,rfl,nT,rfl,fun ys hy=>by rw[I.tuple_inj hy hq];exact hx⟩,⟨⟨u,f6⟩,Y⟩,fun b hb=>?_⟩
   have fb:=(hf b hb).1;have lb:b<s.heap.objs.size:=by
    rcases aj.mp hb with rfl|hb
    ·exact le
    ·have q:b=it:=by simpa using hb
     subst q;obtain⟨o,M,_⟩:=D;exact Zp M
   rw[ZD (aw lb)];exact fb
  ·have q1:b≠e:=fun z=>hb (by simp[z])
   have q2:b≠it:=fun z=>hb (by simp[z]);exact (L.2 b q1).trans (hk b v q1 q2 q)
  ·rcases aj.mp hb with rfl|hb
   ·exact⟨_,f6⟩
   ·have q:b=it:=by simpa using hb
    subst q;obtain⟨o,M,_⟩:=Y;exact⟨o,M⟩
 done:=by
  intro X hP hw hK hc i O s σ H E I hf st hg;subst hP hw hK;obtain⟨⟨j,B⟩,D⟩:=st;obtain⟨xs,hq,hx⟩:=hg;obtain⟨J,rv,p,hz⟩:=I.tuple hq;have hl:=rv.length;exact PyY.Vy (I.ok.hd hc) B D (show s.heap.IsTuple a J.toArray from p) (by simp;omega) fun h1 eb=>⟨rfl,I.turnedL (t':=s.toks) (ts:=[e,it]) (fun b o hb q=>eb b o (fun z=>hb (by simp[z])) q) hf⟩
 self:=fun _ _ _ _ _ st h=>by
  obtain⟨⟨j,B⟩,D⟩:=st;exact cq B h
section
variable {X:Cx}
end
structure ZaT (J:It)(At:Hp->Prop)(xs:List V):Prop where
 go:∀i H,At H->i<xs.length->J.go i H
 yld:∀i H x H2,At H->J.yld i H x H2->∃T y,x=.ref T/\H T=none/\H2=upd H T (.tup [.int i,y])/\xs[i]?=some y
 stop:∀i H,At H->xs.length<=i->J.stop i H
theorem ZbU {K:aa}{a:Addr}{xs:List V}:ZaT (ZcV K a) (fun H=>YF K H a xs) xs:=
 ⟨fun i H h j=>⟨xs,xs[i],h,by simp[j]⟩,fun i H x J h z=>by
  obtain⟨T,y,e,B,D,q⟩:=z;exact⟨T,y,e,B,D,q xs h⟩,fun i H h j=>⟨xs,h,j⟩⟩
theorem ZbT {K:aa}{a:Addr}{xs:List V}:ZaT (ZcU K a) (fun H=>Y9 K H a xs) xs:=
 ⟨fun i H h j=>⟨xs,xs[i],h,by simp[j]⟩,fun i H x J h z=>by
  obtain⟨T,y,e,B,D,q⟩:=z;exact⟨T,y,e,B,D,q xs h⟩,fun i H h j=>⟨xs,h,j⟩⟩
theorem UE {J:It}{g:TG}{M:TS}{D:Y8}{σ:St}{H:Hp}{O:Hp->Prop}{xs:List V}(S:ZaT J O xs)(Pv:Nat->St->Hp->Prop)(h0:Pv 0 σ H)(Y:∀i σ H,Pv i σ H->O H)
  (hs:∀(i:Nat) y σ H T,xs[i]?=some y->Pv i σ H->H T=none->g (.ref T) σ (upd H T (.tup [.int i,y])) fun q L=>M {D with nx:=Pv (i+1),ct:=Pv (i+1),bk:=D.nx} q L) (hd:∀ σ H,Pv xs.length σ H->D.nx σ H) :
  ∃W:Nat->Nat->St->Hp->Prop,(∃m,W 0 m σ H)/\∀i m σ H,W i m σ H->
   (J.stop i H/\D.nx σ H)\/(J.go i H/\∃N:St->Hp->Prop,(∀ z j,N z j->∃U,U<m/\W (i+1) U z j)/\∀x j,J.yld i H x j->g x σ j fun q L=>M {D with nx:=N,ct:=N,bk:=D.nx} q L):=by
 refine⟨fun i m σ H=>m=xs.length-i/\i<=xs.length/\Pv i σ H,⟨_,rfl,aQ _,h0⟩,?_⟩;rintro i m σ H ⟨rfl,hi,p⟩;have s:=Y i σ H p;by_cases B:i<xs.length
 ·refine .inr ⟨S.go i H s B,Pv (i+1),fun z j p'=>⟨xs.length-(i+1),by omega,rfl,B,p'⟩,fun x j hy=>?_⟩
  obtain⟨T,y,rfl,hT,rfl,hx⟩:=S.yld i H x j s hy;exact hs i y σ H T hx p hT
 ·have e:i=xs.length:=by omega
  subst e;exact .inl ⟨S.stop _ H s (Zq _),hd σ H p⟩
theorem g2 (K:aa)(i j:Nat){X:Cx}{x y:Str}{k}{q z pos:Pos}(D:X.calm=true)(J:PG X (.Name x q) (Yi i))(L:PG X (.Name y z) (Yi j))(M:X.K=K:=by rfl)
  (O:(assignEach [.Name x q,.Name y z] X.env).length=2:=by rfl) (B:(assignEach [.Name x q,.Name y z] X.env).findIdx? (·.1)=none:=by rfl) :
  PG X (.Tuple [.Name x q,.Name y z] k pos) (ZcI K 2 (UC (Yi i) (UC (Yi j) ZcJ))):=M▸Zbt D (JS J (JS L Zae)) O B
structure Sml (k b:Nat)(d:b9):Prop where
 sh:d.showable=true
 nd:d.hasDict=false
 dp:d.depth<=k
 lv:d.leavesShort 300=true
 bl:d.bulk<=b
theorem Sml.fit {k b:Nat}{d:b9}(h:Sml k b d)(j:k<=60)(hb:b<=50000):UP d:=by
 refine⟨h.sh,h.nd,aF h.dp j,?_⟩;have:=dX 300 (by decide) d h.lv;have q:=h.bl;have e:(16777216:Nat)=sizeLine:=by decide
 omega
end L2
namespace Pm
open PySem L2 PySem.Spec PyProof.Rows
open Tb
theorem Us {n i:Nat}(h:i<n):ixN n (i:Int)=some i:=by
 unfold ixN;rw[if_pos (e9 _),if_pos (by omega),Zj]
section
variable {X:Cx}
end
theorem tupK {X:Cx}(K:aa)(q:X.K=K:=by rfl):Z9 X (.type "tuple") (fun xs H Q=>∃p j,xs=[.ref p]/\((YF K H p j/\∀l,H l=none->Q (.ref l) (upd H l (.tup j)))\/(Y9 K H p j/\Q (.ref p) H))):=q▸WU
end Pm
namespace C60
open PySem L2 PySem.Spec PyProof.Rows
open Tb Pm
noncomputable def top (i:Nat):Stmt:=PySem.Challenge.pw_classtab_k60_numbers_written.main.body.getD i (.Pass ⟨0,0,0,0⟩)
noncomputable abbrev Za3:Stmt:=top 14
noncomputable abbrev V4:Stmt:=top 15
structure BlB (mg:Str->Option Value):Prop where
 list:mg "list"=none
 len:mg "len"=none
 range:mg "range"=none
 tuple:mg "tuple"=none
 sorted:mg "sorted"=none
theorem neC {X:Cx}(K:aa)(z:X.A.units+64<cLine)(B:X.K=K:=by rfl):Wa X (compareOp .NotEq) (fun x y H Q=>∃j q,WS K H x j/\WS K H y q/\aX j=true/\aX q=true/\Q (.bl (!cM j q)) H):=B▸Zbx z
noncomputable def Xy (q:Addr)(a l:Int):List (Z7×V):=[(.inr "cells",.ref q),(.inr "at",.int a),(.inr "left",.int l)]
noncomputable def Ye (H:Hp)(p q:Addr)(b:Nat):Prop:=∃(j:List Int) (a l:Int),H p=some (.dK (Xy q a l))/\H q=some (.lst (j.map V.int))/\j.length<=63/\0<=l/\0<=a/\a<=b
theorem Ye.mono {H j:Hp}{p q:Addr}{b:Nat}(s:Zy H j)(h:Ye H p q b):Ye j p q b:=by
 obtain⟨z,a,l,B,D,J⟩:=h;exact⟨z,a,l,s _ _ B,s _ _ D,J⟩
theorem Ye.le {H:Hp}{p q:Addr}{b j:Nat}(h:Ye H p q b)(hb:b<=j):Ye H p q j:=by
 obtain⟨z,a,l,B,D,J,L,M,O⟩:=h;exact⟨z,a,l,B,D,J,L,M,by omega⟩
theorem ZaA {H:Hp}{p q:Addr}{a l:Int}(h:H p=some (.dK (Xy q a l))):WR H p (.str "cells") (some (.ref q)):=WR.k (k:=.inr "cells") h
theorem Zdj {H:Hp}{p q:Addr}{a l:Int}(h:H p=some (.dK (Xy q a l))):WR H p (.str "at") (some (.int a)):=WR.k (k:=.inr "at") h
theorem Xv {H:Hp}{p q:Addr}{a l:Int}(h:H p=some (.dK (Xy q a l))):WR H p (.str "left") (some (.int l)):=WR.k (k:=.inr "left") h
theorem Zdf {H:Hp}{p q:Addr}{a l j:Int}(h:H p=some (.dK (Xy q a l))):Xb H p (.str "at") (.int j) (upd H p (.dK (Xy q j l))):=Xb.k (k:=.inr "at") h (by rw[dN];show 3<_;omega)
theorem Uh {H:Hp}{p q:Addr}{a l j:Int}(h:H p=some (.dK (Xy q a l))):Xb H p (.str "left") (.int j) (upd H p (.dK (Xy q a j))):=Xb.k (k:=.inr "left") h (by rw[dN];show 3<_;omega)
noncomputable def Tk (p:Addr)(H j:Hp):Prop:=∀b o,H b=some o->b≠p->j b=some o
theorem Tk.of {p:Addr}{H j:Hp}(s:Zy H j):Tk p H j:=fun b o e _=>s b o e
theorem Tk.trans {p:Addr}{H H1 j:Hp}(a:Tk p H H1)(b:Tk p H1 j):Tk p H j:=fun c o e n=>b c o (a c o e n) n
theorem Ye.ne {H:Hp}{p q a:Addr}{b:Nat}{o:HO}(h:Ye H p q b)(e:H a=some o)(B:∀j,o≠.dK j):a≠p:=fun z=>by
 obtain⟨J,c,l,D,_⟩:=h;rw[z,D] at e;exact B _ (az e).symm
theorem Ye.neN {H:Hp}{p q a:Addr}{b:Nat}(h:Ye H p q b)(e:H a=none):a≠p/\a≠q:=by
 obtain⟨D,c,l,j,B,_⟩:=h;exact⟨fun z=>(by rw[z,j] at e;cases e),fun z=>(by rw[z,B] at e;cases e)⟩
theorem Ye.put {H:Hp}{p q L:Addr}{b:Nat}{o:HO}(h:Ye H p q b)(j:L≠p)(z:L≠q):Ye (upd H L o) p q b:=by
 obtain⟨B,c,l,D,J,M⟩:=h;exact⟨B,c,l,by rw[ZD (bd j)];exact D,by rw[ZD (bd z)];exact J,M⟩
theorem Tk.tup {p q a:Addr}{H j:Hp}{b:Nat}{xs:List V}(d:Tk p H j)(T:Ye H p q b)(h:H a=some (.tup xs)):j a=some (.tup xs):=d a _ h (T.ne h fun _ z=>by cases z)
theorem Tk.lst {p q a:Addr}{H j:Hp}{b:Nat}{xs:List V}(d:Tk p H j)(T:Ye H p q b)(h:H a=some (.lst xs)):j a=some (.lst xs):=d a _ h (T.ne h fun _ z=>by cases z)
theorem V2 (ns:List Int):aX (.list (ns.map aC))=true:=by
 unfold aX;have j:cv (.list (ns.map aC))=true:=XD ns;have q:bA (.list (ns.map aC))<=60:=VA ns;simp only[j,Bool.true_and,bH,decide_eq_true_eq];omega
noncomputable def V1 (K:aa):Sp:=fun z H Q _=>∃(a:Addr) (B:List Int),z=[.ref a]/\YF K H a (B.map V.int)/\∀p q j,Zy H j->H p=none->Ye j p q 0->Q (.ref p) j
noncomputable def Xm:Sp:=fun z H Q _=>∃(p q:Addr) (m:Int) (b:Nat),z=[.ref p,.int m]/\Ye H p q b/\b<2 ^ 60/\0<m/\m<1073741824/\∀r j,0<=r->r<m->Tk p H j->Ye j p q (b+1)->Q (.int r) j
theorem UK (ns:List Int)(lo j:Option Int):∃q:List Int,VE (ns.map V.int) lo j=q.map V.int/\(∀k:Nat,j=some (k:Int)->q.length<=k):=by
 refine⟨(ns.drop (HT.Jo ns.length 0 lo)).take (HT.Jo ns.length ns.length j-HT.Jo ns.length 0 lo),?_,fun k e=>?_⟩
 ·unfold VE;rw[Za,List.map_take,List.map_drop]
 ·subst e
  rw[cg,HT.U3];omega
section
variable {P:Program}{w:World}{K:aa}{mg:Str->Option Value}{base:Heap}
theorem Zan {f:Addr}{fd:FuncData}(F:WW K "_law_feed" "_law_feed" Za3 f fd)(T:BlB mg):Yd P w K mg base YL 1 f fd ["_law_script"] (V1 K):=by
 refine F.ok (FS (N:=["_law_script"])) (fun vs H Q E h=>?_) (fun f8 A M s H vs Q E hr h=>?_)
 ·obtain⟨a,ns,rfl,_⟩:=h;rfl
 ·obtain⟨a,ns,rfl,hS,k⟩:=h
  refine⟨_,Zw (ZT (Zah (WH Zx (ct JA T.list (pc (JT UY (vn 0) XT (XS Zt)) Zu)) (WH Zx Zt (WH Zx Zt Zaa))) rfl rfl (by simp) (by decide))),?_⟩;intro p O;obtain⟨B,e,hl⟩:=UK ns none (some 63);have s0:=Zy.upd (H:=H) (o:=.dK []) O;refine⟨_,rfl,_,rfl,a,_,rfl,s0.seq hS,fun p1 h1=>⟨p1,_,rfl,.inl (.of Zv),fun q L=>?_⟩⟩;rw[e] at L ⊢;have J:upd H p (.dK []) p=some (.dK []):=Zv;generalize upd H p (.dK [])=H1 at s0 h1 L J ⊢;have U:=Zy.upd (H:=H1) (o:=.lst (B.map V.int)) h1;generalize upd H1 p1 (.lst (B.map V.int))=Y at U L ⊢;have s2:=Zy.upd (H:=Y) (o:=.lst (B.map V.int)) L;have j:upd Y q (.lst (B.map V.int)) q=some (.lst (B.map V.int)):=Zv;have D:=s2 _ _ (U _ _ J);generalize upd Y q (.lst (B.map V.int))=H3 at s2 j D ⊢;have f6:q≠p:=fun z=>by rw[z,D] at j;cases j
  refine⟨D,Xy q 0 0,rfl,(by show 3<=15;decide),?_⟩;refine k p q _ (fun b o hb=>?_) O ⟨B,0,0,Zv,by rw[ZD f6];exact j,hl 63 rfl,by decide,by decide,by decide⟩;have f7:b≠p:=fun z=>by rw[z,O] at hb;cases hb
  rw[ZD f7];exact s2 _ _ (U _ _ (s0 _ _ hb))
theorem Zao {f:Addr}{fd:FuncData}(F:WW K "_law_draw" "_law_draw" V4 f fd)(T:BlB mg):Yd P w K mg base YL 1 f fd ["_law_feed_here", "_law_many"] Xm:=by
 refine F.ok (FS (N:=["_law_feed_here", "_law_many", "_law_found", "_law_at", "_law_cells", "_law_cell", "_law_number_here"])) (fun vs H Q E h=>?_) (fun f7 A f8 s H vs Q E hr h=>?_)
 ·obtain⟨p,q,m,b,rfl,_⟩:=h;rfl
 ·obtain⟨p,q,m,b,rfl,⟨D,a,l,M,h2,J,l0,a0,ab⟩,hb,m0,m1,k⟩:=h
  have L:(A.deeper (envOfC "_law_draw" (ZK V4) s.heap.objs.size f f7)).units+1<cLine:=by have:=hr.un;omega
  refine⟨_,Zs (Z8 (Zz Wr (Y2 L (vn 0) Zx (fun _ _=>rfl)) Zt (ZA _)) (Zs (ZO 2 rfl (ZB Ym (Y2 L (vn 0) Zx (fun _ _=>rfl)) (vn 1)))
   (Zs (Jr L (vn 0) Zx (ZB Y3 (Y2 L (vn 0) Zx (fun _ _=>rfl)) (vn 1)) (by rfl))
   (Zw (ZT (vn 2))))) ZI)
   (Zs (ZO 3 rfl (Y2 L (vn 0) Zx (fun _ _=>rfl)))
   (Zs (Jr L (vn 0) Zx (ZB Wf (vn 3) Zt) (by rfl))
   (Zs (ZO 4 rfl (Y2 L (vn 0) Zx (fun _ _=>rfl)))
   (Zs (ZO 5 rfl (Z4 (Zz (neC K hr.units) (vn 4) (Yz Zu) (ZA _)) (Z3 (ixL K) (vn 4) (ZB Ym (vn 3) (cb (Up K) T.len (pc (vn 4) Zu))) (fun _ _=>rfl)) (ZB YA (vn 3) (vn 3))))
   (Zs (Z8 (WE (Zz Za6 (vn 5) (ZB Xr Zt Zt) (ZA _)) (Y0 (Zz Za5 (vn 3) (cb (Up K) T.len (pc (vn 4) Zu)) (ZA _)))).pt (Zs (Jr L (vn 0) Zx (ZB Y3 (vn 5) (vn 1)) (by rfl))
   (Zw (ZT (ZB Ym (vn 5) (vn 1))))) ZI)
   (Zs (ZO 6 rfl (ZB Ym (ZB YA (ZB Wf (ZB Ym (vn 5) Zt) Zt) (ZB Wf Zt (ZB YA Zt (vn 3)))) Zt))
   (Zw (ZT (ZB Ym (ZB Y3 (ZB Ym (ZB Wf (ZB YA (vn 6) Zt) (ZB YA (ZB YA (vn 3) (vn 3)) Zt)) Zt) Zt) (vn 1)))))))))),?_⟩
  have O:q≠p:=fun z=>by rw[z,M] at h2;cases h2
  refine⟨_,rfl,p,_,rfl,Xv M,_,_,rfl,rfl,_,rfl,?_⟩;refine ZZ (fun h=>?_) (fun h=>?_)
  ·refine⟨_,rfl,p,_,rfl,Xv M,_,rfl,_,_,rfl,rfl,m0,?_⟩
   refine⟨_,rfl,p,_,rfl,Xv M,_,rfl,_,_,rfl,rfl,⟨m0,m1⟩,_,rfl,p,_,rfl,Uh M,?_⟩;exact⟨_,rfl,k _ _ (a5 _ (by omega)) (aM _ m0) (fun b o e hb=>by rw[ZD hb];exact e) ⟨D,a,l / m,Zv,by rw[ZD O];exact h2,J,Int.ediv_nonneg l0 (by omega),a0,by omega⟩⟩
  ·refine⟨_,rfl,p,_,rfl,Zdj M,?_⟩
   refine⟨_,rfl,_,_,rfl,rfl,_,rfl,p,_,rfl,Zdf M,?_⟩;have h3:upd H p (.dK (Xy q (a+1) l)) p=some (.dK (Xy q (a+1) l)):=Zv;have U:upd H p (.dK (Xy q (a+1) l)) q=some (.lst (D.map V.int)):=by rw[ZD O];exact h2
   have k3:Tk p H (upd H p (.dK (Xy q (a+1) l))):=fun b o e hb=>by rw[ZD hb];exact e
   generalize upd H p (.dK (Xy q (a+1) l))=H3 at h3 U k3 ⊢;refine⟨_,rfl,p,_,rfl,ZaA h3,?_⟩;refine⟨_,rfl,(by show 0<=sizeLine;decide),fun e0 f9=>?_⟩;have s4:=Zy.upd (H:=H3) (o:=.lst []) f9;have k4:=k3.trans (Tk.of s4);have h4:=s4 _ _ h3;have B:=s4 _ _ U;have Y:upd H3 e0 (.lst []) e0=some (.lst []):=Zv;generalize upd H3 e0 (.lst [])=H4 at s4 k4 h4 B Y ⊢;refine⟨_,_,.lst (.of B) (Yq.ints D),.lst (.of Y) .nil,V2 D,rfl,_,rfl,?_⟩;have len:(D.map V.int).length=D.length:=List.length_map ..;have T4:∀l',0<=l'->Ye (upd H4 p (.dK (Xy q (a+1) l'))) p q (b+1):=fun l' g8=>⟨D,a+1,l',Zv,by rw[ZD O];exact B,J,g8,by omega,by omega⟩;refine ZZ (fun f6=>?ca) (fun f6=>?cb)
   case' ca=>
    have hn:(0:Int)<D.length:=by
     cases D with
     |nil=>exact absurd f6 (by decide)
     |cons x r=>simp only[Zi];omega
    have r0:=a5 a (show (D.length:Int)≠0 by omega);have r1:=aM a hn;obtain⟨j,ej⟩:=Int.eq_ofNat_of_zero_le r0;have hj:j<D.length:=by omega
    refine⟨_,rfl,_,rfl,_,rfl,q,_,rfl,.inl (.of B),?_⟩;rw[len];refine⟨_,_,rfl,rfl,hn,?_⟩;dsimp only;rw[ej];refine⟨q,_,_,_,rfl,rfl,.of B,JD (j:=j) (by rw[Zc,Zf hj];rfl),?_⟩;generalize D[j]=c
   case' cb=>
    refine⟨_,rfl,_,rfl,_,_,rfl,rfl,.inr ⟨by omega,by omega⟩,?_⟩;dsimp only;generalize a*a=c
   all_goals
    refine⟨_,rfl,_,_,rfl,rfl,⟨by decide,by decide,by decide⟩,_,_,rfl,rfl,_,rfl,?_⟩;refine ZZ (fun hA=>?_) (fun hA=>?_)
    ·refine⟨_,rfl,_,rfl,q,_,rfl,.inl (.of B),?_⟩
     rw[len];refine⟨_,_,rfl,rfl,_,rfl,?_⟩;refine ZZ (fun hB=>?_) (fun hB=>?_)
     ·have hc:0<=c:=by
       have:=of_decide_eq_true hA;have g9:(10:Int) ^ (18:Int).toNat=1000000000000000000:=by decide
       omega
      refine⟨_,rfl,_,rfl,_,_,rfl,rfl,⟨m0,m1⟩,_,rfl,p,_,rfl,Uh h4,?_⟩;refine⟨_,rfl,_,rfl,_,_,rfl,rfl,m0,?_⟩;exact k _ _ (a5 _ (by omega)) (aM _ m0) (k4.trans fun b o e hb=>by rw[ZD hb];exact e) (T4 _ (Int.ediv_nonneg hc (by omega)))
     ·refine⟨_,rfl,_,_,rfl,rfl,(by show (0:Int)<_;decide),_,_,rfl,rfl,_,rfl,_,_,rfl,rfl,.inl ⟨by decide,by decide⟩,_,_,rfl,rfl,_,_,rfl,rfl,.inl ⟨by have:=a5 c (show (2147483629:Int)≠0 by decide);omega,by have:=aM c (show (0:Int)<2147483629 by decide);omega⟩,_,_,rfl,rfl,(by show (0:Int)<_;decide),?_⟩
      refine⟨_,rfl,_,_,rfl,rfl,.inr ⟨by decide,by decide⟩,_,rfl,_,rfl,_,_,rfl,rfl,.inr ⟨by omega,by omega⟩,_,_,rfl,rfl,.inr ⟨by decide,by decide⟩,_,_,rfl,rfl,_,_,rfl,rfl,(by show (0:Int)<_;decide),_,_,rfl,rfl,⟨by decide,by decide⟩,_,rfl,_,_,rfl,rfl,m0,?_⟩;exact k _ _ (a5 _ (by omega)) (aM _ m0) k4 ⟨D,a+1,l,h4,B,J,l0,by omega,by omega⟩
    ·refine⟨_,rfl,_,_,rfl,rfl,(by show (0:Int)<_;decide),_,_,rfl,rfl,_,rfl,_,_,rfl,rfl,.inl ⟨by decide,by decide⟩,_,_,rfl,rfl,_,_,rfl,rfl,.inl ⟨by have:=a5 c (show (2147483629:Int)≠0 by decide);omega,by have:=aM c (show (0:Int)<2147483629 by decide);omega⟩,_,_,rfl,rfl,(by show (0:Int)<_;decide),?_⟩
     refine⟨_,rfl,_,_,rfl,rfl,.inr ⟨by decide,by decide⟩,_,rfl,_,rfl,_,_,rfl,rfl,.inr ⟨by omega,by omega⟩,_,_,rfl,rfl,.inr ⟨by decide,by decide⟩,_,_,rfl,rfl,_,_,rfl,rfl,(by show (0:Int)<_;decide),_,_,rfl,rfl,⟨by decide,by decide⟩,_,rfl,_,_,rfl,rfl,m0,?_⟩;exact k _ _ (a5 _ (by omega)) (aM _ m0) k4 ⟨D,a+1,l,h4,B,J,l0,by omega,by omega⟩
end
end C60
namespace L2
open PySem PySem.Spec PyProof.Rows
section
variable {X:Cx}
noncomputable def Uy (K:aa)(L:TA):TI:=fun M H R=>L M H fun O z=>∃a q j,O=[.ref a]/\(YF K j a q\/Y9 K j a q)/\Zy j z/\∀J B,ZaT J B q->(∀D,Zy j D->B D)->R J z
theorem ZbQ {elts:List Expr}{x1}{pt:Pos}{l:Expr}{U:TA}{p pos:Pos}(hm:X.mg "enumerate"=none)(ha:PA X [l] U)(hg:Yt X.env.scope "enumerate"=true:=by kernel_rfl)(hs:starEach [l] X.env=[(false,eval l X.env)]:=by rfl) :
  PI X (.Tuple elts x1 pt) (.Call (.Name "enumerate" p) [l] [] pos) (Uy X.K U):=by
 intro B s σ H R I h;refine Call_ (WK I (W6 hg) hm (show bootBuiltins "enumerate"=some (.type "enumerate") by kernel_rfl) (a9 (ZN (ha pos B s σ H _ I h) fun us s1 ⟨vs,Y,j,r1,q1⟩=>?_) hs rfl));obtain⟨a,xs,Hx,e,z,sm,q⟩:=q1;subst e;cases r1 with
 |cons r rr=>
  cases rr;cases (show _=aV a from r);have sz:∀b,b∈[s1.heap.objs.size+1,s1.heap.objs.size]->s1.heap.objs.size<=b:=fun b hb=>by
   rcases aj.mp hb with rfl|hb
   ·exact Nat.le_succ _
   ·have:b=s1.heap.objs.size:=by simpa using hb
    rw[this];exact Zq _
  rcases z with z|z
  ·obtain⟨D,rv,p,hz⟩:=j.list (sm.seq z)
   refine call_enumerate_list p.isList fun g J L gs M=>cq J ?_;exact⟨_,[s1.heap.objs.size+1,s1.heap.objs.size],_,_,Y,rfl,j.kept (t':=s1.toks) M,Xj a _ _ (bc (Nat.lt_succ_self _)),⟨⟨_,J⟩,L⟩,fun b hb=>j.fpOk (sz b hb) (j.hok.fresh (sz b hb)),q _ _ ZbU fun H' O=>O.seq z⟩
  ·obtain⟨D,rv,p,hz⟩:=j.tuple (sm.tup z)
   refine PyY.XE (show s1.heap.IsTuple a D.toArray from p) fun g J L gs M=>cq J ?_;exact⟨_,[s1.heap.objs.size+1,s1.heap.objs.size],_,_,Y,rfl,j.kept (t':=s1.toks) M,Xi a _ _ (bc (Nat.lt_succ_self _)),⟨⟨_,J⟩,L⟩,fun b hb=>j.fpOk (sz b hb) (j.hok.fresh (sz b hb)),q _ _ ZbT fun H' O=>O.tup z⟩
theorem ZbR (K:aa){elts:List Expr}{q}{pt:Pos}{l:Expr}{j:TA}{p pos:Pos}(z:X.mg "enumerate"=none)(B:PA X [l] j)(D:X.K=K:=by rfl)(J:Yt X.env.scope "enumerate"=true:=by kernel_rfl)(L:starEach [l] X.env=[(false,eval l X.env)]:=by rfl) :
  PI X (.Tuple elts q pt) (.Call (.Name "enumerate" p) [l] [] pos) (Uy K j):=D▸ZbQ z B J L
end
end L2
namespace Tx
open PySem L2 PySem.Spec PyProof.Rows PySem.NumText
theorem UR:ax ""=tx []:=by decide +kernel
theorem t_p:ax "+"=tx [43]:=by decide +kernel
theorem t_m:ax "-"=tx [45]:=by decide +kernel
theorem Zbf:ax "+-"=tx [43,45]:=by decide +kernel
theorem t_z:ax "z"=tx [122]:=by decide +kernel
theorem t_0:ax "0"=tx [48]:=by decide +kernel
theorem t_1:ax "1"=tx [49]:=by decide +kernel
theorem t_d:ax "0123456789"=tx [48,49,50,51,52,53,54,55,56,57]:=by decide +kernel
theorem Jk {a b:List Nat}:decide (V.str (tx a)=V.str (tx b))=decide (a=b):=by
 rw[aY,decide_eq_true_eq,decide_eq_true_eq];exact⟨fun h=>VQ (V.str.inj h),fun h=>by rw[h]⟩
theorem ZbP (c:Nat):(!(dc (tx [48,49,50,51,52,53,54,55,56,57]) ⟨#[c]⟩ 0 (tx [48,49,50,51,52,53,54,55,56,57]).length 1).isEmpty)=(decide (48<=c) && decide (c<=57)):=by
 rw[StrLaws.found_one,Z1,aY];simp only[aj,List.not_mem_nil,or_false,decide_eq_true_eq,aS];omega
noncomputable def dgV:V->V
 | .str s=>.bl (s.cps.toList.all fun c=>decide (48<=c) && decide (c<=57))
 |v=>v
theorem ZaJ (l:List Nat):(l.map fun c=>V.str ⟨#[c]⟩).map dgV=(l.map fun c=>decide (48<=c) && decide (c<=57)).map V.bl:=by
 rw[cY,cY];refine List.map_congr_left fun c _=>?_;show V.bl ([c].all _)=V.bl _;rw[List.all_cons,List.all_nil,bH]
theorem Uo {a:List Int}{i:Nat}{y:V}(h:(a.map V.int)[i]?=some y):i<a.length/\y=.int (Ww a i):=by
 rw[Zc] at h;cases e:a[i]? with
 |none=>rw[e] at h;cases h
 |some z=>
  rw[e] at h;unfold Ww;rw[Zb,e];exact⟨(aD.mp e).1,(az h).symm⟩
theorem J0 {a:List Int}{i:Nat}(h:i<a.length):a.drop i=Ww a i::a.drop (i+1):=by
 unfold Ww;rw[dM h,Zb,Zf h];rfl
theorem Jz {a:List Int}{i:Nat}(h:i<a.length):Ww a i∈a:=by
 unfold Ww;rw[Zb,Zf h];exact List.getElem_mem h
theorem Jx {a:List Int}{i:Nat}(h:i<a.length):(a.map V.int)[i]?=some (.int (Ww a i)):=by
 unfold Ww;rw[Zc,Zb,Zf h];rfl
theorem JP (j:List Nat)(k:Int)(r:List Int)(p:Nat):Wq j (k::r) p=if k=0 then Wq j r (p+1) else Wq (j++(if j≠[]/\k > 0 then [43] else [])++wd k p) r (p+1):=rfl
end Tx
namespace C60
open PySem L2 PySem.Spec PyProof.Rows
open Tx Pm
noncomputable abbrev Zcq:Stmt:=top 4
noncomputable abbrev Zcj:Stmt:=top 10
noncomputable abbrev Zck:Stmt:=top 9
noncomputable abbrev Zcl:Stmt:=top 12
noncomputable abbrev Zcm:Stmt:=top 11
structure BlX (mg:Str->Option Value):Prop where
 str:mg "str"=none
 enumerate:mg "enumerate"=none
noncomputable def W1:Sp:=fun q H Q _=>∃l,q=[.str (tx l)]/\YM l/\l.length<=2000/\∀j,Zy H j->Q (.bl (Wm l)) j
noncomputable def ZaX:Sp:=fun j H Q _=>∃(k:Int) (p:Nat),j=[.int k,.int p]/\k.natAbs<10 ^ 500/\p<100/\Q (.str (tx (wd k p))) H
noncomputable def V0 (K:aa):Sp:=fun z H Q _=>∃(a:Addr) (j:List Int),z=[.ref a]/\(YF K H a (j.map V.int)\/Y9 K H a (j.map V.int))/\(∀x∈j,x.natAbs<10 ^ 500)/\j.length<=60/\∀q,Zy H q->Q (.str (tx (Jm j))) q
theorem Ju {k:Int}(h:k.natAbs<10 ^ 500):k.natAbs.log2<1920:=by
 by_cases j:k.natAbs=0
 ·rw[j];decide
 ·refine (eM j).mpr (bN h ?_)
  decide +kernel
section
variable {P:Program}{w:World}{K:aa}{mg:Str->Option Value}{base:Heap}
theorem ZbI {f:Addr}{fd:FuncData}(F:WW K "are_figures" "are_figures" Zcq f fd)(T:N60.Bl mg):Yd P w K mg base YL 1 f fd ["text"] W1:=by
 refine F.ok (FS (N:=["text"])) (fun Y H Q E h=>?_) (fun f6 A B s H Y Q E hr h=>?_)
 ·obtain⟨l,rfl,_⟩:=h;rfl
 ·obtain⟨l,rfl,ha,hl,q⟩:=h
  refine⟨_,Zw (ZT (Ug (YG YN (vn 0) Zx (ZA _)) (Ud (cb (UN rfl) T.all (pc (cmp ["sign"] [] ["sign"] rfl (Zbs (vn 0)) (fun _ _ _ _ _=>gn 0) (fun _ _ _ _ _=>Zac) (fun _ _ _ _ _=>YG Vm (vn 0) Zx (by rfl))) Zu))))),?_⟩;refine⟨_,rfl,rfl,_,rfl,?_⟩;rw[UR,Jk];refine ZZ (fun J=>?_) (fun J=>?_)
  ·refine⟨_,rfl,_,rfl,ZaQ ha,?_⟩
   refine UL (U0 (tx l)) [] rfl dgV (by rw[Za];show l.length<=_;omega) (fun i x z j M R h1=>?_) (fun D z nD M O=>?_)
   ·rw[Zc] at j
    cases e:(tx l).cps.toList[i]? with
    |none=>rw[e] at j;cases j
    |some c=>
     rw[e] at j;cases j;refine⟨_,rfl,_,_,rfl,rfl,?_⟩;rw[t_d,ZbP];have:R (V.bl ([c].all fun c=>decide (48<=c) && decide (c<=57))) z:=h1 z (Zy.refl _);rw[List.all_cons,List.all_nil,bH] at this;exact this
   ·rw[ZaJ] at O
    refine⟨D,_,rfl,.of O,?_⟩;have:=q z M;unfold Wm at this;have L:l.isEmpty=false:=by cases l with|nil=>exact absurd J (by decide)|cons _ _=>rfl
    rw[L] at this;rw[List.all_map];exact this
  ·have:l=[]:=by simpa using J
   have U:=q H (Zy.refl _);rw[this] at U;exact U
theorem ZbB {f:Addr}{fd:FuncData}(F:WW K "shown_place" "shown_place" Zcj f fd)(T:N60.Bl mg)(U:BlX mg):Yd P w K mg base YL 1 f fd ["k", "power"] ZaX:=by
 refine F.ok (FS (N:=["k", "power", "ahead"])) (fun vs H Q E h=>?_) (fun f6 A Y s H vs Q E hr h=>?_)
 ·obtain⟨k,p,rfl,_⟩:=h;rfl
 ·obtain⟨k,p,rfl,hk,hp,q⟩:=h
  refine⟨_,Zs (Z8 (Zz Yg (vn 1) Zt (ZA _)) (Zw (ZT (ct ZW U.str (pc (vn 0) Zu)))) ZI)
   (Zs (ZO 2 rfl (ct ZW U.str (pc (vn 0) Zu)))
   (Zs (Z8 (Zz Yg (cb (J7) T.abs (pc (vn 0) Zu)) Zt (ZA _)) (Zw (ZO 2 rfl (Z4 (Zz Wr (vn 0) Zt (ZA _)) Zx Zx))) ZI)
   (Zw (ZT (ZB ZM (ZB ZM (vn 2) Zx) (Z4 (Zz Yg (vn 1) Zt (ZA _)) Zx (ct ZW U.str (pc (vn 1) Zu)))))))),?_⟩
  have lg:=Ju hk;have lp:((p:Nat):Int).natAbs.log2<1920:=Ju (by rw[bx];exact bN hp (by decide +kernel));have hz:(16777216:Nat)=sizeLine:=by decide
  have l1:=Y6 (by decide) hk;have l2:(Yu ((p:Nat):Int)).length<=3:=Y6 (by decide) (by rw[bx];exact hp);have O:Yu ((p:Nat):Int)=ZV p:=by unfold Yu;rw[if_neg (by omega),bx]
  refine⟨_,rfl,rfl,_,rfl,?_⟩;refine ZZ (fun D=>?_) (fun D=>?_)
  ·have D:p=0:=by simpa using D
   refine⟨_,rfl,_,rfl,lg,?_⟩;rw[str_int];unfold wd at q;rw[if_pos D] at q;exact q
  ·have D:p≠0:=by simpa using D
   refine⟨_,rfl,_,rfl,lg,?_⟩;rw[str_int];refine⟨_,rfl,_,rfl,rfl,_,rfl,?_⟩;have B:wd k p=(if k.natAbs=1 then (if k > 0 then [] else [45]) else Yu k)++122::(if p=1 then [] else ZV p):=by unfold wd;rw[if_neg D]
   refine ZZ (fun J=>?_) (fun J=>?_)
   ·have J:k.natAbs=1:=by
     have:=of_decide_eq_true J;have:=V.int.inj this;split at this <;> omega
    rw[if_pos J] at B;refine⟨_,rfl,_,_,rfl,rfl,_,rfl,?_⟩;refine ZZ (fun h2=>?_) (fun h2=>?_)
    case' refine_1=>
     rw[if_pos (by simpa using h2)] at B;rw[UR];have lq:([]:List Nat).length<=501:=by decide
    case' refine_2=>
     rw[if_neg (by simpa using h2)] at B;rw[t_m];have lq:[45].length<=501:=by decide
    all_goals
     refine⟨_,rfl,_,_,rfl,rfl,?_,?_⟩
     ·rw[t_z,ZC,ZC];simp only[Zi,ai];omega
     rw[t_z,ZS];refine⟨_,rfl,rfl,_,rfl,?_⟩;refine ZZ (fun j=>?_) (fun j=>?_)
     ·have j:p=1:=by have:=V.int.inj (of_decide_eq_true j);omega
      rw[if_pos j] at B;refine⟨_,_,rfl,rfl,?_,?_⟩
      ·(try rw[UR]);rw[ZC,ZC];simp only[Zd,Zi,ai];omega
      try rw[UR]
      rw[ZS,aG];rw[B] at q;exact q
     ·have j:¬p=1:=fun z=>by rw[z] at j;exact absurd j (by decide)
      rw[if_neg j] at B;refine⟨_,rfl,_,rfl,lp,?_⟩;rw[str_int,O];refine⟨_,_,rfl,rfl,?_,?_⟩
      ·rw[ZC,ZC,Zd];rw[O] at l2;simp only[Zi,ai];omega
      rw[ZS,ay];rw[B] at q;exact q
   ·have J:¬k.natAbs=1:=fun z=>by
     refine J (decide_eq_true ?_);congr 1;split <;> omega
    rw[if_neg J] at B;have lq:=l1;refine⟨_,rfl,_,_,rfl,rfl,?_,?_⟩
    ·rw[t_z,ZC,ZC];simp only[Zi,ai];omega
    rw[t_z,ZS];refine⟨_,rfl,rfl,_,rfl,?_⟩;refine ZZ (fun j=>?_) (fun j=>?_)
    ·have j:p=1:=by have:=V.int.inj (of_decide_eq_true j);omega
     rw[if_pos j] at B;refine⟨_,_,rfl,rfl,?_,?_⟩
     ·rw[UR,ZC,ZC];simp only[Zd,Zi,ai];omega
     rw[UR,ZS,aG];rw[B] at q;exact q
    ·have j:¬p=1:=fun z=>by rw[z] at j;exact absurd j (by decide)
     rw[if_neg j] at B;refine⟨_,rfl,_,rfl,lp,?_⟩;rw[str_int,O];refine⟨_,_,rfl,rfl,?_,?_⟩
     ·rw[ZC,ZC,Zd];rw[O] at l2;simp only[Zi,ai];omega
     rw[ZS,ay];rw[B] at q;exact q
theorem ZbC {f:Addr}{fd:FuncData}(F:WW K "shown_number" "shown_number" Zck f fd)(TX:BlX mg)(GP:Fn P w K mg base YL 1 "shown_place" ["k", "power"] ZaX):Yd P w K mg base YL 2 f fd ["one"] (V0 K):=by
 refine F.ok (FS (N:=["one", "shown", "power", "k", "sign"])) (fun vs H Q E h=>?_) (fun g8 A f7 s H vs Q E hr h=>?_)
 ·obtain⟨a,xs,rfl,_⟩:=h;rfl
 ·obtain⟨a,xs,rfl,hS,hx,hl,q⟩:=h
  refine⟨_,Zs (ZO 1 rfl Zx)
   (Zs (WG aN rfl (ZbR K TX.enumerate (pc (vn 0) Zu)) (g2 K 2 3 rfl (gn 2) (gn 3))
   (Zw (Z8 (Zz YN (vn 3) Zt (ZA _)) (Zs (ZO 4 rfl (Z4 (WE (Zz YN (vn 1) Zx (ZA _)) (Y0 (Zz Wr (vn 3) Zt (ZA _)))).pt Zx Zx))
   (Zw (ZO 1 rfl (ZB ZM (ZB ZM (vn 1) (vn 4)) (W8 GP hr Z0 (pc (vn 3) (pc (vn 2) Zu))))))) ZI)))
   (Zw (ZT (Z4 (Zz Yg (vn 1) Zx (ZA _)) Zx (vn 1))))),?_⟩
  have hz:(16777216:Nat)=sizeLine:=by decide
  refine⟨_,rfl,a,_,H,rfl,hS,Zy.refl _,fun J At S f8=>?_⟩;rw[UR];refine UE S (fun i L Y=>∃(D:List Nat) (v2 v3 v4:Option V),L=[some (.ref a),some (.str (tx D)),v2,v3,v4]/\Zy H Y/\Wq D (xs.drop i) i=Wq [] xs 0/\D.length<=i*505)
   ⟨[],_,_,_,rfl,Zy.refl _,rfl,by simp⟩ (fun i L Y h=>f8 _ h.choose_spec.choose_spec.choose_spec.choose_spec.2.1) ?_ ?_
  ·rintro i y L Y T' hy ⟨D,v2,v3,v4,rfl,sm,j,f9⟩ nT
   obtain⟨hi,rfl⟩:=Uo hy;have sT:=Zy.upd (o:=.tup [.int i,.int (Ww xs i)]) nT;have hd:=J0 hi;have f6:=hx _ (Jz hi);have lw:=Ji (p:=i) (e:=500) (by decide) f6 (by omega);refine⟨T',_,rfl,.of Zv,rfl,_,_,rfl,_,_,rfl,rfl,_,rfl,rfl,_,rfl,?_⟩;rw[hd,JP] at j;refine ZZ (fun O=>?_) (fun O=>?_)
   ·have O:Ww xs i≠0:=fun z=>by rw[z] at O;exact absurd O (by decide)
    rw[if_neg O] at j;refine⟨_,rfl,rfl,_,rfl,?_⟩;rw[Jk];refine ZZ (fun M=>?A) (fun M=>?B)
    case' A=>
     have M:D≠[]:=by simpa using M
     refine⟨_,rfl,_,_,rfl,rfl,_,rfl,?_⟩;refine ZZ (fun hp=>?A1) (fun hp=>?A2)
    case' A1=>
     rw[if_pos ⟨M,by simpa using hp⟩] at j;rw[t_p]
    case' A2=>rw[if_neg (fun z=>hp (by simpa using z.2))] at j
    case' B=>rw[if_neg (fun z=>M (by simpa using z.1))] at j
    all_goals
     refine⟨_,rfl,_,rfl,_,_,rfl,rfl,?_,?_⟩
     ·rw[ZC,ZC];simp only[Zi,ai];omega
     rw[ZS];refine⟨_,rfl,_,rfl,_,i,rfl,f6,by omega,_,_,rfl,rfl,?_,?_⟩
     ·rw[ZC,ZC];simp only[Zd,Zi,ai];omega
     rw[ZS];exact⟨_,_,_,_,rfl,sm.trans sT,j,by simp only[Zd,Zi,ai];omega⟩
   ·have O:Ww xs i=0:=by simpa using O
    rw[if_pos O] at j;exact⟨D,_,_,_,rfl,sm.trans sT,j,by omega⟩
  ·rintro L Y ⟨D,v2,v3,v4,rfl,sm,j,f9⟩
   rw[Za,fi] at j;have j:D=Wq [] xs 0:=j;have U:=q Y sm;unfold Jm at U;rw[<-j] at U;refine⟨_,rfl,rfl,_,rfl,?_⟩;rw[Jk];refine ZZ (fun M=>?_) (fun M=>?_)
   ·rw[if_pos (by simpa using M)] at U
    rw[t_0];exact U
   ·rw[if_neg (by simpa using M)] at U
    exact⟨_,rfl,U⟩
end
end C60
namespace Tx
open PySem L2 PySem.Spec PyProof.Rows PySem.NumText
theorem VX (l:List Nat):cH (tx l) (tx [45])=Vr l:=by
 unfold cH Vr;rw[aY,aS,decide_eq_true_eq];have:=bO (tx l) 45 0;rw[Z1] at this;refine this.trans ?_;cases l with
 |nil=>simp
 |cons c r=>simp
theorem UZ (l:List Nat){i:Nat}(h:i<=l.length):di (tx l) (some (i:Int)) none=tx (l.drop i):=by
 have:=StrLaws.sliceText_from (x:=tx l) (i:=(i:Int)) ⟨by omega,by rw[Z1];omega⟩;refine (show di (tx l) (some (i:Int)) none=StrLaws.sliceText (tx l) (some (i:Int)) none from rfl).trans (this.trans ?_);rw[Z1,Zj,d0 (by rw[df];omega)];rfl
theorem Zat {l a b:List Nat}{z:Bool}(h:Vr l=true)(j:ZQ l=(a,z,b)):1<=a.length:=by
 unfold Vr at h;cases l with
 |nil=>cases h
 |cons c r=>
  have q:c=45:=by simpa using h
  unfold ZQ at j;rw[q,if_neg (by decide)] at j;have:=congrArg (fun x=>x.1.length) j;simp only[Zi] at this;omega
theorem X5 {l a b:List Nat}{z:Bool}(q:ZQ l=(a,z,b)):a.length<=l.length/\b.length<=l.length/\(∀c∈a,c∈l)/\(∀c∈b,c∈l)/\(z=false->b=[]):=by
 obtain⟨B,j⟩:=Wo l;rw[q] at j;cases z with
 |false=>
  have j:l=a:=j;have:b=[]:=by
   have e:=Wn (l:=l) (by rw[q] at B;rw[j];exact B);rw[q] at e;exact (Prod.mk.inj (Prod.mk.inj e).2).2
  rw[j,this];exact⟨Zq _,aQ _,(fun c h=>h),(fun c h=>by cases h),fun _=>rfl⟩
 |true=>
  have j:l=a++122::b:=j;rw[j];refine⟨?_,?_,fun c h=>cF _ h,fun c h=>ao _ (ag _ h),fun h=>by cases h⟩
  ·rw[Zd];omega
  ·rw[Zd,Zi];omega
end Tx
namespace C60
open PySem L2 PySem.Spec PyProof.Rows PySem.NumText
open Tx Pm
noncomputable def ZaY:Sp:=fun q H Q _=>∃l,q=[.str (tx l)]/\YM l/\l.length<=640/\(V7 l=none->∀j,Zy H j->Q .non j)/\∀k p,V7 l=some (k,p)->∀r j,Zy H j->j r=some (.tup [.int k,.int (p:Nat)])->Q (.ref r) j
section
variable {P:Program}{w:World}{K:aa}{mg:Str->Option Value}{base:Heap}
end
noncomputable def Zb8 (K:aa):TS:=
 Xk (X8 (JK (VJ rEq (VJ (U5 K) (YK 1) (tC (V.int 1))) (tC (V.str (ax ""))))) (VW (tC (V.str (ax "0"))) (Yi 4))
   (X8 (JK (VJ rEq (YK 4) (tC (V.str (ax ""))))) (VW (tC (V.str (ax "1"))) (Yi 4)) JL))
  (Xk (X8 (Zch (JK (VJ rEq (VJ (U5 K) (YK 1) (tC (V.int 1))) (tC (V.str (ax "z"))))) (JK (VJ rEq (YK 3) (tC (V.str (ax "")))))) (VW (tC (V.str (ax "1"))) (Yi 3)) JL)
   (Xk (X8 (tOr (VU (tB (W0 W1 [] E0 (Yk (YK 3) WB)))) (VU (tB (W0 W1 [] E0 (Yk (YK 4) WB))))) (VT (tC V.non)) JL)
    (VT (Zbg (Yk (VJ (rI UQ fun i j=>V.int (i*j)) (YK 2) (US (fun xs H Q=>∃x n,xs=[V.str x]/\x.length<=640/\intText? x=some n/\Q (V.int n) H) (Yk (YK 3) WB)))
     (Yk (US (fun xs H Q=>∃x n,xs=[V.str x]/\x.length<=640/\intText? x=some n/\Q (V.int n) H) (Yk (YK 4) WB)) WB))))))
theorem ZbS {H1:Hp}{w0 w1:Option V}{L:Int}{q B:List Nat}{D:Y8}(hs:L=1\/L=-1)(af:YM q)(ap:YM B)(lf:q.length<=640)(lp:B.length<=640)
  (Y:¬(Wm q=true/\Wm B=true)->∀J,Zy H1 J->D.rt .non J) (qs:Wm q=true/\Wm B=true->∀r J,Zy H1 J->J r=some (.tup [.int (L*(digitsVal q:Nat)),.int (digitsVal B:Nat)])->D.rt (.ref r) J) :
  (Xk (X8 (tOr (VU (tB (W0 W1 [] E0 (Yk (YK 3) WB)))) (VU (tB (W0 W1 [] E0 (Yk (YK 4) WB))))) (VT (tC V.non)) JL)
    (VT (Zbg (Yk (VJ (rI UQ fun i j=>V.int (i*j)) (YK 2) (US (fun xs H Q=>∃x n,xs=[V.str x]/\x.length<=640/\intText? x=some n/\Q (V.int n) H) (Yk (YK 3) WB)))
     (Yk (US (fun xs H Q=>∃x n,xs=[V.str x]/\x.length<=640/\intText? x=some n/\Q (V.int n) H) (Yk (YK 4) WB)) WB))))) D [w0,w1,some (.int L),some (.str (tx q)),some (.str (tx B))] H1:=by
 refine⟨_,rfl,q,rfl,af,by omega,fun H2 M=>⟨_,rfl,?_⟩⟩;cases O:Wm q
 ·exact Y (fun z=>by rw[O] at z;cases z.1) H2 M
 ·refine YU (by decide) ?_
  refine⟨_,rfl,B,rfl,ap,by omega,fun H3 s3=>⟨_,rfl,?_⟩⟩;cases U:Wm B
  ·exact Y (fun z=>by rw[U] at z;cases z.2) H3 (M.trans s3)
  ·refine YU (by decide) ?_
   have f1:=WL.mp O;have f2:=WL.mp U;refine⟨_,rfl,_,rfl,_,_,rfl,lf,intText_digits (x:=tx q) f1.2 f1.1 (by rw[ZC];omega),_,_,rfl,rfl,.inl ⟨by omega,by omega⟩,?_⟩;refine⟨_,rfl,_,_,rfl,lp,intText_digits (x:=tx B) f2.2 f2.1 (by rw[ZC];omega),?_⟩;refine⟨(by show 2<=sizeLine;decide),fun r nr=>?_⟩;exact qs ⟨O,U⟩ r _ ((M.trans s3).trans (Zy.upd nr)) Zv
theorem U4 {K:aa}{H1:Hp}{l a b:List Nat}{z:Bool}{p:Addr}{D:Y8}(O:ZQ l=(a,z,b))(ha:YM l)(hl:l.length<=640)
  (h1:H1 p=some (.tup [.str (tx a),.str (if z=true then ⟨#[122]⟩ else ci),.str (tx (if z=true then b else []))]))
  (qn:V7 l=none->∀L,Zy H1 L->D.rt .non L) (qs:∀k p,V7 l=some (k,p)->∀r L,Zy H1 L->L r=some (.tup [.int k,.int (p:Nat)])->D.rt (.ref r) L) :
  Zb8 K D [some (.str (tx l)),some (.ref p),some (.int (if Vr l=true then -1 else 1)),some (.str (tx (YD l))),some (.str (tx (if z=true then b else [])))] H1:=by
 obtain⟨la,lb,ma,mb,zb⟩:=X5 O;have af:YM (YD l):=by
  unfold YD;rw[O];split
  ·exact fun c h=>ha c (ma c (List.mem_of_mem_drop h))
  ·exact fun c h=>ha c (ma c h)
 have lf:(YD l).length<=640:=by
  unfold YD;rw[O];split
  ·rw[df];show a.length-1<=_;omega
  ·show a.length<=_;omega
 have U:YM [49]:=fun c h=>by rw[aq.mp h];decide
 have f6:YM [48]:=fun c h=>by rw[aq.mp h];decide
 have hs:(if Vr l=true then (-1:Int) else 1)=1\/(if Vr l=true then (-1:Int) else 1)=-1:=by split <;> simp
 have j:∀{w0 w1:Option V}{fg pw:List Nat},fg=Xx l->pw=Xq l->YM fg->YM pw->fg.length<=640->pw.length<=640->_:=fun {w0 w1 fg pw} e1 e2 af ap lf lp=>
  ZbS (H1:=H1) (w0:=w0) (w1:=w1) (D:=D) hs af ap lf lp (fun hn=>qn (by unfold V7;rw[if_neg (by rw[<-e1,<-e2];exact hn)])) (fun hy=>qs _ _ (by unfold V7;rw[if_pos (by rw[<-e1,<-e2];exact hy),e1,e2]))
 have M:Xq l=if z=true then (if b=[] then [49] else b) else [48]:=by unfold Xq;rw[O]
 have Y:Xx l=if z=true/\YD l=[] then [49] else YD l:=by unfold Xx;rw[O]
 cases z
 ·refine⟨_,rfl,p,_,_,_,rfl,rfl,.of h1,rfl,rfl,_,rfl,?_⟩
  refine Zay ?_;rw[t_0];refine⟨_,rfl,p,_,_,_,rfl,rfl,.of h1,rfl,rfl,_,rfl,?_⟩;refine YU (by decide) ?_;refine YU (by decide) ?_;exact j (by rw[Y,if_neg (fun h=>by cases h.1)]) (by rw[M,if_neg (by decide)]) af f6 lf (by decide)
 ·refine⟨_,rfl,p,_,_,_,rfl,rfl,.of h1,rfl,rfl,_,rfl,?_⟩
  refine YU (by decide) ?_;refine⟨_,rfl,rfl,_,rfl,?_⟩;rw[UR,Jk];rw[if_pos rfl] at M;refine ZZ (fun hb=>?A) (fun hb=>?B)
  case' A=>
   have hb:b=[]:=by simpa using hb
   rw[if_pos hb] at M;rw[t_1];have q:=U;have J:[49].length<=640:=by decide
  case' B=>
   have hb:¬b=[]:=by simpa using hb
   rw[if_neg hb] at M;have q:YM b:=fun c h=>ha c (mb c h);have J:b.length<=640:=by omega
  all_goals
   refine⟨_,rfl,p,_,_,_,rfl,rfl,.of h1,rfl,rfl,_,rfl,?_⟩;refine Zay ?_;refine⟨_,rfl,rfl,_,rfl,?_⟩;rw[Jk];refine ZZ (fun hf=>?_) (fun hf=>?_)
   ·have hf:YD l=[]:=by simpa using hf
    rw[if_pos ⟨rfl,hf⟩] at Y
    try rw[t_1]
    exact j Y.symm M.symm U q (by decide) J
   ·have hf:¬YD l=[]:=by simpa using hf
    rw[if_neg (fun h=>hf h.2)] at Y;exact j Y.symm M.symm af q lf J
section
variable {P:Program}{w:World}{K:aa}{mg:Str->Option Value}{base:Heap}
theorem ZbD {f:Addr}{fd:FuncData}(F:WW K "read_place" "read_place" Zcl f fd)(T:N60.Bl mg)(GA:Fn P w K mg base YL 1 "are_figures" ["text"] W1):Yd P w K mg base YL 2 f fd ["word"] ZaY:=by
 refine F.ok (FS (N:=["word", "halves", "sign", "figures", "power"])) (fun vs H Q E h=>?_) (fun f6 A O s H vs Q E hr h=>?_)
 ·obtain⟨l,rfl,_⟩:=h;rfl
 ·obtain⟨l,rfl,ha,hl,qn,qs⟩:=h
  refine⟨_,Zs (ZO 1 rfl (XU bw dU PySem.F.type_str_partition Zau (vn 0) (pc Zx Zu)))
   (Zs (ZO 2 rfl (Z4 (Jq (XU bw dP PySem.F.type_str_startswith Vs (vn 0) (pc Zx Zu))) (Uc Xg Zt) Zt))
   (Zs (ZO 3 rfl (Z4 (Zz Yg (vn 2) (Uc Xg Zt) (ZA _)) (JT Zbi (Z3 (XZ K) (vn 1) Zt (fun _ _=>rfl)) (XS Zt) XT) (Z3 (XZ K) (vn 1) Zt (fun _ _=>rfl))))
   (Zs (ZO 4 rfl (Z3 (XZ K) (vn 1) Zt (fun _ _=>rfl)))
   (Zs (Z8 (Zz Yg (Z3 (XZ K) (vn 1) Zt (fun _ _=>rfl)) Zx (ZA _)) (Zw (ZO 4 rfl Zx)) (Zw (Z8 (Zz Yg (vn 4) Zx (ZA _)) (Zw (ZO 4 rfl Zx)) ZI)))
   (Zs (Z8 (WE (Zz Yg (Z3 (XZ K) (vn 1) Zt (fun _ _=>rfl)) Zx (ZA _)) (Y0 (Zz Yg (vn 3) Zx (ZA _)))).pt (Zw (ZO 3 rfl Zx)) ZI)
   (Zs (Z8 (V9 (Ub (Jq (W8 GA hr Z0 (pc (vn 3) Zu)))) (Xp (Ub (Jq (W8 GA hr Z0 (pc (vn 4) Zu)))))).pt (Zw (ZT Ue)) ZI)
   (Zw (ZT (Wd (pc (ZB YA (vn 2) (ct Jc T.int (pc (vn 3) Zu))) (pc (ct Jc T.int (pc (vn 4) Zu)) Zu))))))))))),?_⟩
  have hz:(16777216:Nat)=sizeLine:=by decide
  rcases q:ZQ l with ⟨a,z,b⟩;have J:=Vl l;rw[q] at J;obtain⟨la,lb,ma,mb,zb⟩:=X5 q;refine⟨_,rfl,rfl,_,_,rfl,rfl,by rw[t_z];rfl,by rw[ZC];omega,fun p np=>?_⟩;rw[show aI (tx l) (ax "z")=aI (tx l) (⟨#[122]⟩:Str) from congrArg _ t_z,J];have U:=Zy.upd (H:=H) (o:=.tup [.str (tx a),.str (if z=true then ⟨#[122]⟩ else ci),.str (tx (if z=true then b else []))]) np
  have B:=Zv (H:=H) (a:=p) (o:=.tup [.str (tx a),.str (if z=true then ⟨#[122]⟩ else ci),.str (tx (if z=true then b else []))])
  generalize upd H p (.tup [.str (tx a),.str (if z=true then ⟨#[122]⟩ else ci),.str (tx (if z=true then b else []))])=H1 at U B ⊢
  refine⟨_,rfl,rfl,_,_,rfl,rfl,_,rfl,?_⟩;rw[t_m,VX];have j:=U4 (K:=K) (D:={nx:=fun x L=>Q V.non L,rt:=Q}) q ha hl B (fun e L s=>qn e L (U.trans s)) (fun k p e r L s=>qs k p e r L (U.trans s));cases M:Vr l
  ·rw[M] at j
   have Y:YD l=a:=by unfold YD;rw[M,q];rfl
   rw[Y] at j;refine YU (by decide) ?_;refine⟨_,rfl,_,rfl,rfl,_,rfl,?_⟩;refine YU (by decide) ?_;refine⟨_,rfl,p,_,_,_,rfl,rfl,.of B,rfl,?_⟩;refine⟨_,rfl,p,_,_,_,rfl,rfl,.of B,rfl,?_⟩;exact j
  ·rw[M] at j
   have Y:YD l=a.drop 1:=by unfold YD;rw[M,q];rfl
   rw[Y] at j;refine Zay ?_;refine⟨_,rfl,_,rfl,_,rfl,rfl,_,rfl,?_⟩;refine Zay ?_;refine⟨_,rfl,p,_,_,_,rfl,rfl,.of B,rfl,_,rfl,tx a,rfl,by rw[ZC];omega,?_⟩;rw[show di (tx a) (some 1) none=tx (a.drop 1) from UZ a (i:=1) (Zat M q)];refine⟨_,rfl,p,_,_,_,rfl,rfl,.of B,rfl,?_⟩;exact j
end
end C60
namespace L2
open PySem PySem.Spec PyProof.Rows
noncomputable def Wt {α:Type}(t:Sem α):Prop:=∀(M:eN) (j:PySem.Ctx) (Q:α->Pos->Shared->Prop) (E:Value->Pos->Shared->Prop) (p:Pos) (s:Shared),Sem.wp M j t Q E p s->Sem.wp M j t (fun a z q=>s.toks+1<=q.toks/\Q a z q) E p s
theorem ZY.frS {α:Type}{t:Sem α}(h:ZY t):Wt t:=fun _ _ _ _ _ _ w=>h.wp w
theorem Wt.bind {α B:Type}{t:Sem α}{f:α->Sem B}(h:Wt t):Wt (t >>= f):=by
 intro M j Q E p s w;rw[Sem.wp_bind'] at w ⊢;refine cI M j t (fun a q z x=>?_) (fun _ _ _ x=>x) p s (h M j _ E p s w);exact cI M j (f a) (fun _ _ _ y=>y) (fun _ _ _ y=>y.2) q z (eJ M j (s.toks+1) (f a) _ _ q z x.1 x.2)
theorem Wt.after {α B:Type}{t:Sem α}{f:α->Sem B}(h:∀a,Wt (f a)):Wt (t >>= f):=by
 intro M j Q E p s w;rw[Sem.wp_bind'] at w ⊢;refine cI M j t (fun a q z x=>?_) (fun _ _ _ x=>x.2) p s (eJ M j s.toks t _ _ p s (Zq _) w);exact cI M j (f a) (fun _ _ _ y=>⟨by omega,y.2⟩) (fun _ _ _ y=>y) q z (h a M j _ _ q z x.2)
theorem Wt.any {α:Type}{t:Sem α}(h:Wt t){M:eN}{A:Around}{Q:α->Shared->Prop}{E:Value->Shared->Prop}{s:Shared}(w:wpAny M A t Q E s):wpAny M A t (fun a s'=>s.toks+1<=s'.toks/\Q a s') E s:=
 fun q p j=>h M q _ _ p s (w q p j)
theorem ZaE {env:Env}{i:Int}{k:Nat}{pos:Pos}:Wt (eval (.Constant (.int i) k pos) env):=ZY.frS (.fresh _)
theorem ZaB {x:Sem Value}{r:List (Bool×Sem Value)}(h:Wt x):Wt (spliced ((false,x)::r)):=by
 rw[spliced];exact h.bind
theorem ZaD {env:Env}{c:Expr}{pos:Pos}(h:Wt (eval c env))(j:starEach [c] env=[(false,eval c env)]):Wt (eval (.List [c] pos) env):=by
 show Wt (standAt pos >>= fun _=>spliced (backTo pos (starEach [c] env)) >>= fun q=>newList q);rw[j];exact Wt.after fun _=>Wt.bind (ZaB h)
theorem ZaF {env:Env}{l r:Expr}{op:dA}{pos:Pos}(h:Wt (eval l env)):Wt (eval (.BinOp l op r pos) env):=by
 show Wt (eval l env >>= _);exact h.bind
theorem ZaG {env:Env}{ts:List Expr}{v:Expr}{pos:Pos}(h:Wt (eval v env))(j:swapsWithSole ts v pos.line env=pure false):Wt (exec (.Assign ts v pos) env):=by
 rw[exec_Assign_arm,j];refine Wt.after fun _=>?_;show Wt (eval v env >>= _);exact h.bind
theorem ZaC {env:Env}{ts:List Expr}{i:Int}{k:Nat}{j q z pos:Pos}{op:dA}{r:Expr}(B:swapsWithSole ts (.BinOp (.List [.Constant (.int i) k j] q) op r z) pos.line env=pure false:=by rfl) :
  Wt (exec (.Assign ts (.BinOp (.List [.Constant (.int i) k j] q) op r z) pos) env):=ZaG (ZaF (ZaD ZaE rfl)) B
theorem Vf {X:Cx}{st:Stmt}{rest:List Stmt}{t u:TS}(hb:Wt (exec st X.env))(B:PS X st t)(J:ZcO X rest u):Xa X (st::rest) (Xk t u):=by
 intro j s L H D I h;refine cx (ZN (hb.any (B j s L H {D with nx:=u D} I h)) fun f M ⟨Y,q⟩=>?_);cases f with
 |next=>
  obtain⟨z,O,U,q⟩:=q;exact J j M z O D (by omega) U q
 |ret v=>exact q
 |brk=>exact q
 |cont=>exact q
theorem UB {X:Cx}:ZcQ X (fun x y H Q=>∃(p:Addr) (xs:List V) (i:Nat) (v:V),x=.ref p/\y=.int i/\H p=some (.lst xs)/\xs[i]?=some v/\Q v H):=by
 intro z s σ H x y D iv Q I J L h;obtain⟨p,xs,i,v,rfl,rfl,M,B,q⟩:=h;cases (show D=aV p from J);obtain⟨t,rfl⟩:=L;obtain⟨O,r,U,hz⟩:=I.list (.of M);obtain⟨w,Y,j⟩:=r.get B;have hl:=r.length;have hn:=WJ;have hi:i<xs.length:=(aD.mp B).1;exact wpAny_getItem_list U.isList (e9 _) (by omega) (by simpa using Y) ⟨v,H,I,j,q⟩
end L2
namespace Tx
open PySem L2 PySem.Spec PyProof.Rows PySem.NumText
theorem Zcu (m:Nat):(ae m [V.int 0]).flatten=(ae m (0:Int)).map V.int:=by
 induction m with
 |zero=>rfl
 |succ m j=>rw[av,aO,j,av];rfl
theorem XQ:∀l:List Nat,(rep l).length<=2*l.length
 | []=>aQ _
 |c::r=>by
  have j:=XQ r;show ((if c=45 then [43,45] else [c])++rep r).length<=_
  rw[Zd,Zi];split <;> simp only[Zi,ai] <;> omega
theorem V8 {wide:Nat}{l:List Nat}{xs:List Int}(h:rdN wide l=some xs):putAll (ae wide 0) (Xf l)=some xs/\Jm xs=l:=by
 unfold rdN at h;cases e:putAll (ae wide 0) (Xf l) with
 |none=>rw[e] at h;cases h
 |some f=>
  rw[e] at h;have h:(if Jm f=l then some f else none)=some xs:=h
  split at h
  ·cases h
   exact⟨rfl,by assumption⟩
  ·cases h
theorem Ua {f g:List Int}{w:List Nat}{q:List (List Nat)}(h:putAll f (w::q)=some g):∃j,Y1 f w=some j/\putAll j q=some g:=by
 unfold putAll at h;cases e:Y1 f w with
 |none=>rw[e] at h;cases h
 |some j=>rw[e] at h;exact⟨j,rfl,h⟩
theorem U7 {f g:List Int}{w:List Nat}(h:Y1 f w=some g)(hw:w≠[]):∃k p,V7 w=some (k,p)/\p<f.length/\g=f.set p (Ww f p+k):=by
 unfold Y1 at h;rw[if_neg hw] at h;split at h
 ·cases h
 ·rename_i k p e
  split at h
  ·cases h
   exact⟨k,p,e,by assumption,rfl⟩
  ·cases h
end Tx
namespace C60
open PySem L2 PySem.Spec PyProof.Rows PySem.NumText
open Tx Pm
noncomputable def ZaZ:Sp:=fun z H Q _=>∃(n:Nat) (l:List Nat) (j:List Int),z=[.int n,.str (tx l)]/\1<=n/\n<=60/\YM l/\l.length<=100000/\(∀w∈Xf l,w.length<=640)/\rdN (N60.YR n).toNat l=some j/\(∀x∈j,x.natAbs<10 ^ 500)/\∀r q,Zy H q->q r=some (.tup (j.map V.int))->Q (.ref r) q
section
variable {P:Program}{w:World}{K:aa}{mg:Str->Option Value}{base:Heap}
theorem ZbE {f:Addr}{fd:FuncData}(F:WW K "read_number" "read_number" Zcm f fd)(T:N60.Bl mg)(i2:Fn P w K mg base YL 2 "places" ["n"] N60.JO)(GR:Fn P w K mg base YL 2 "read_place" ["word"] ZaY)(GS:Fn P w K mg base YL 2 "shown_number" ["one"] (V0 K)):Yd P w K mg base YL 3 f fd ["n", "text"] ZaZ:=by
 refine F.ok (FS (N:=["n", "text", "found", "word", "place"])) (fun vs H Q E h=>?_) (fun j3 A i3 s H vs Q E hr h=>?_)
 ·obtain⟨n,l,xs,rfl,_⟩:=h;rfl
 ·obtain⟨n,l,xs,rfl,n1,g8,ha,hl,hw,i4,i5,q⟩:=h
  refine⟨_,Vf ZaC (ZO 2 rfl (ZB Zbw (Yz (pc Zt Zu)) (W8 i2 hr Z0 (pc (vn 0) Zu))))
   (Ve (U8 aN rfl (Zdh K (Zbv bw bW PySem.F.type_str_split Um (Zag (vn 1)) (pc Zx Zu))) (gn 3)
   (Zw (Z8 (Zz YN (vn 3) Zx (ZA _)) (Zs (ZO 4 rfl (W8 GR hr Z0 (pc (vn 3) Zu)))
   (Zs (Z8 (V9 (Zz Zby (vn 4) Ue (ZA _)) (Xp (Zz Za6 (Z3 (XZ K) (vn 4) Zt (fun _ _=>rfl)) (cb (Up K) T.len (pc (vn 2) Zu)) (ZA _)))).pt W3 ZI)
   (Zw (U9 (vn 2) (Z3 (XZ K) (vn 4) Zt (fun _ _=>rfl)) UB (Z3 (XZ K) (vn 4) Zt (fun _ _=>rfl)) Uw V3)))) ZI)))
   (Zs (Z8 (Zz YN (W8 GS hr Z0 (pc (vn 2) Zu)) (vn 1) (ZA _)) W3 ZI)
   (Zw (ZT (ct (tupK K) T.tuple (pc (vn 2) Zu)))))),?_⟩
  obtain⟨_,_,_,p1,j4⟩:=N60.Jt n1 g8;have hz:(16777216:Nat)=sizeLine:=by decide
  obtain⟨g9,i6⟩:=V8 i4;refine⟨(by show 1<=sizeLine;decide),fun l0 n0=>?_⟩;have s0:Zy H _:=Zy.upd (o:=.lst [.int 0]) n0;refine⟨_,rfl,n,rfl,n1,g8,fun H1 s1=>?_⟩;refine⟨l0,_,_,rfl,rfl,s1 _ _ Zv,by omega,by omega,?_,fun L nL=>?_⟩
  ·show 1*_<=sizeLine
   omega
  rw[Zcu];have i7:H L=none:=(s0.trans s1).free nL;have s2:=(s0.trans s1).trans (Zy.upd (o:=.lst ((ae (N60.YR n).toNat (0:Int)).map V.int)) nL);have M:=Zv (H:=H1) (a:=L) (o:=.lst ((ae (N60.YR n).toNat (0:Int)).map V.int));generalize upd H1 L (.lst ((ae (N60.YR n).toNat (0:Int)).map V.int))=H2 at s2 M ⊢;refine⟨_,rfl,tx l,rfl,by decide +kernel,by rw[ZC,Zbf,ZC];show l.length+(l.length+1)*2<=_;omega,rfl,_,_,rfl,rfl,by decide +kernel,?_,fun W nW=>⟨W,rfl,⟨_,.of Zv⟩,?_⟩⟩
  ·rw[t_m,Zbf,show tx [45]=(⟨#[45]⟩:Str) from rfl,show tx [43,45]=(⟨#[43,45]⟩:Str) from rfl,XO,ZC]
   have:=XQ l;omega
  rw[t_m,Zbf,t_p,show tx [45]=(⟨#[45]⟩:Str) from rfl,show tx [43,45]=(⟨#[43,45]⟩:Str) from rfl,XO,show tx [43]=(⟨#[43]⟩:Str) from rfl,Va];have f6:=Zv (H:=H2) (a:=W) (o:=.lst (((ZL 43 (rep l)).map tx).map V.str));have s3:=Zy.upd (H:=H2) (o:=.lst (((ZL 43 (rep l)).map tx).map V.str)) nW;have h8:=s3 _ _ M;have i8:L≠W:=fun z=>by rw[z,nW] at M;cases M
  generalize upd H2 W (.lst (((ZL 43 (rep l)).map tx).map V.str))=H3 at f6 s3 h8 ⊢;rw[cY] at f6;refine UD (K:=K) (xs:=(Xf l).map (V.str ∘ tx)) (fun i O H'=>∃(j:List Int) (v3 v4:Option V),O=[some (.int n),some (.str (tx l)),some (.ref L),v3,v4]/\Zy H H'/\H' W=some (.lst ((Xf l).map (V.str ∘ tx)))/\H' L=some (.lst (j.map V.int))/\j.length=(N60.YR n).toNat/\putAll j ((Xf l).drop i)=some xs)
   ⟨_,_,_,rfl,s2.trans s3,f6,h8,by rw[Ze],g9⟩ (fun i O H' _ h=>by obtain⟨_,_,_,_,_,h,_⟩:=h;exact .of h) ?_ ?_
  ·rintro i y O H' hy ⟨j,v3,v4,rfl,sm,hW,hL,f7,B⟩
   obtain⟨J,i0,rfl⟩:∃J,(Xf l)[i]?=some J/\y=V.str (tx J):=by
    rw[Zc] at hy;cases e:(Xf l)[i]? with
    |none=>rw[e] at hy;cases hy
    |some r=>rw[e] at hy;exact⟨r,rfl,(az hy).symm⟩
   have Y:=aZ i0;obtain⟨i9,j0⟩:=aD.mp i0;rw[dM i9,j0] at B;obtain⟨i1,U,f8⟩:=Ua B;refine⟨_,rfl,rfl,_,rfl,?_⟩;rw[UR,Jk];refine ZZ (fun D=>?_) (fun D=>?_)
   ·have D:J≠[]:=by simpa using D
    obtain⟨k,p,hk,hp,rfl⟩:=U7 U D;refine⟨_,rfl,J,rfl,ZaN ha _ Y,hw _ Y,(fun e=>by rw[hk] at e;cases e),fun k' p' e r H4 s4 hr=>?_⟩;rw[hk] at e;cases e;have f9:=s4 _ _ hL;refine⟨_,rfl,rfl,_,rfl,?_⟩;refine YU (fun z=>by cases of_decide_eq_true z) ?_;refine⟨_,rfl,r,_,_,_,rfl,rfl,.of hr,rfl,_,rfl,L,_,rfl,.inl (.of f9),_,_,rfl,rfl,_,rfl,?_⟩;refine YU (fun z=>?_) ?_
    ·have:=of_decide_eq_true z
     rw[Za] at this;omega
    refine⟨_,rfl,_,rfl,r,_,_,_,rfl,rfl,.of hr,rfl,L,_,p,.int (Ww j p),rfl,rfl,f9,Jx hp,_,rfl,r,_,_,_,rfl,rfl,.of hr,rfl,_,_,rfl,rfl,L,_,_,p,rfl,rfl,f9,?_,?_⟩
    ·rw[Za];exact Us hp
    ·refine⟨j.set p (Ww j p+k),_,_,rfl,(sm.trans s4).updr i7,?_,?_,?_,f8⟩
     ·rw[ZD i8.symm];exact s4 _ _ hW
     ·rw[Zv,List.map_set]
     ·rw[List.length_set];exact f7
   ·have D:J=[]:=by simpa using D
    have:i1=j:=by
     unfold Y1 at U;rw[if_pos D] at U;cases U;rfl
    rw[this] at f8;exact⟨j,_,_,rfl,sm,hW,hL,f7,f8⟩
  ·rintro O H' ⟨j,v3,v4,rfl,sm,hW,hL,f7,B⟩
   rw[Za,fi] at B;have B:some j=some xs:=B;cases B;refine⟨_,rfl,L,_,rfl,.inl (.of hL),i5,by omega,fun H4 s4=>?_⟩;refine⟨_,rfl,rfl,_,rfl,?_⟩;rw[i6];refine YU (by simp) ?_;exact⟨_,rfl,L,_,rfl,.inl ⟨.of (s4 _ _ hL),fun r nr=>q r _ ((sm.trans s4).trans (Zy.upd nr)) Zv⟩⟩
end
end C60
namespace Tx
open PySem L2 PySem.Spec PyProof.Rows PySem.NumText
theorem VN {k:Int}(z:k≠0)(p:Nat):wd k p=(if p≠0/\k.natAbs=1 then (if k<0 then [45] else []) else Yu k)++JC p:=by
 rw[XG k p z];congr 1;unfold Xd Yu;by_cases j:p=0
 ·rw[if_pos j,if_neg (show ¬(p≠0/\k.natAbs=1) from fun h=>h.1 j)]
  split <;> rfl
 ·rw[if_neg j]
  by_cases q:k.natAbs=1
  ·rw[if_pos q,if_pos (show p≠0/\k.natAbs=1 from ⟨j,q⟩),aG]
  ·rw[if_neg q,if_neg (show ¬(p≠0/\k.natAbs=1) from fun h=>q h.2)]
   split <;> rfl
theorem UO (p:Nat):atI [V.str (tx []),V.str (tx [122]),V.str (tx (122::ZV p))] (if (2:Int)<(p:Nat) then 2 else (p:Nat))=some (V.str (tx (JC p))):=by
 unfold JC
 match p with
 |0=>rfl
 |1=>rfl
 |p+2=>
  by_cases h:(2:Int)<((p+2:Nat):Int)
  ·rw[if_pos h];rfl
  ·have:p=0:=by omega
   subst this;rfl
theorem ZcM (k:Int):atI [V.str (tx []),V.str (tx [45])] (if decide (k<0)=true then 1 else 0)=some (V.str (tx (if k<0 then [45] else []))):=by
 by_cases j:k<0
 ·rw[if_pos j,if_pos (decide_eq_true j)];rfl
 ·rw[if_neg j,if_neg (fun h=>j (of_decide_eq_true h))];rfl
theorem ZaL {p:Nat}(j:p<100):(JC p).length<=3:=by
 have q:(ZV p).length<=2:=Y5 (by decide) j;unfold JC;split
 ·simp
 ·rw[Zi]
  split
  ·simp
  ·omega
end Tx
namespace C60
open PySem L2 PySem.Spec PyProof.Rows PySem.NumText
open Tx Pm
noncomputable abbrev Zcs:Stmt:=top 16
noncomputable abbrev Zcn:Stmt:=top 17
noncomputable def Za2:Sp:=fun j H Q _=>∃a b:Int,j=[.int a,.int b]/\0<=b/\b<100/\Q (.bl (decide (N60.JY a b=1))) H
noncomputable def Za0 (K:aa):Sp:=fun z H Q _=>∃(a:Addr) (j:List Int),z=[.ref a]/\Y9 K H a (j.map V.int)/\(∀x∈j,x.natAbs<10 ^ 500)/\j.length<=60/\∀q,Zy H q->Q (.str (tx (Jm j))) q
section
variable {P:Program}{w:World}{K:aa}{mg:Str->Option Value}{base:Heap}
theorem ZbJ {f:Addr}{fd:FuncData}(F:WW K "_law_alone" "_law_alone" Zcs f fd):Yd P w K mg base YL 1 f fd ["_law_k", "_law_n"] Za2:=by
 refine F.ok (FS (N:=["_law_k", "_law_n"])) (fun vs H Q E h=>?_) (fun f7 A Y s H vs Q E hr h=>?_)
 ·obtain⟨a,b,rfl,_⟩:=h;rfl
 ·obtain⟨a,b,rfl,b0,b1,q⟩:=h
  refine⟨_,Zs (WF aN (Zz Wr (vn 1) Zt (ZA _)) (Zw (Zbq (i:=0) (j:=1) rfl (Ya (by kernel_rfl)) rfl rfl (by decide) (ZX (by kernel_rfl)) (ZX (by kernel_rfl)) (pc (vn 1) (pc (ZB Ym (vn 0) (vn 1)) Zu)) rfl)))
   (Zw (ZT (YG Yg (vn 0) Zt (ZA _)))),?_⟩
  refine YW (fun m D M=>∃(O B:Int),D=[some (.int O),some (.int B)]/\M=H/\0<=B/\B<m/\N60.Zaz m O B=N60.JY a b) (fun D M=>∃B:Option V,D=[some (.int (N60.JY a b)),B]/\M=H) ?hend ⟨100,a,b,rfl,rfl,b0,b1,rfl⟩ ?turn
  case hend=>
   rintro D M ⟨B,rfl,rfl⟩;refine⟨_,rfl,rfl,?_⟩;rw[show decide (V.int (N60.JY a b)=V.int 1)=decide (N60.JY a b=1) from by rw[aY,decide_eq_true_eq,decide_eq_true_eq];exact⟨fun h=>V.int.inj h,fun h=>by rw[h]⟩];exact q
  case turn=>
   rintro L m D M ⟨O,B,rfl,rfl,c0,c1,U⟩;refine⟨_,rfl,_,_,rfl,rfl,_,rfl,?_⟩;obtain⟨m2,rfl⟩:∃m2,m=m2+1:=⟨m-1,by omega⟩;unfold N60.Zaz at U;refine ZZ (fun J=>?_) (fun J=>?_)
   ·have J:0<B:=of_decide_eq_true J
    rw[if_pos J] at U;refine⟨_,fun _ _ z=>z,_,rfl,_,rfl,_,rfl,_,_,rfl,rfl,J,_,_,rfl,m2,by omega,B,O % B,rfl,rfl,a5 _ (by omega),?_,U⟩;have:=aM O J;omega
   ·have J:¬ 0<B:=fun z=>J (decide_eq_true z)
    rw[if_neg J] at U;exact L _ _ ⟨_,by rw[U],rfl⟩
theorem ZbF {f:Addr}{fd:FuncData}(F:WW K "_law_shown" "_law_shown" Zcn f fd)(T:N60.Bl mg)(TX:BlX mg)(f8:mg "min"=none):Yd P w K mg base YL 1 f fd ["_law_number_here"] (Za0 K):=by
 refine F.ok (FS (N:=["_law_number_here", "_law_found", "_law_k", "_law_piece"])) (fun vs H Q E h=>?_) (fun h8 A g8 s H vs Q E hr h=>?_)
 ·obtain⟨a,xs,rfl,_⟩:=h;rfl
 ·obtain⟨a,xs,rfl,hS,hx,hl,q⟩:=h
  refine⟨_,Zs (ZO 1 rfl Zx)
   (Zs (WG aN rfl (Zbk T.range (pc (cb (Up K) T.len (pc (vn 0) Zu)) Zu)) (gn 2)
   (Zw (Z8 (Zz YN (Z3 (XZ K) (vn 0) (vn 2) (fun _ _=>rfl)) Zt (ZA _)) (Zs (ZO 3 rfl (ZB ZM (ct ZW TX.str (pc (Z3 (XZ K) (vn 0) (vn 2) (fun _ _=>rfl)) Zu)) (Z3 (ixL K) (Yz (pc Zx (pc Zx (pc (ZB ZM Zx (ct ZW TX.str (pc (vn 2) Zu))) Zu)))) (cb (Jb rfl) f8 (pc (vn 2) (pc Zt Zu))) (fun _ _=>rfl))))
   (Zs (Z8 (WE (Zz Wr (vn 2) Zt (ZA _)) (Y0 (Zz Yg (cb (J7) T.abs (pc (Z3 (XZ K) (vn 0) (vn 2) (fun _ _=>rfl)) Zu)) Zt (ZA _)))).pt (Zw (ZO 3 rfl (ZB ZM (Z3 (ixL K) (Yz (pc Zx (pc Zx Zu))) (ct VI T.int (pc (YG Za5 (Z3 (XZ K) (vn 0) (vn 2) (fun _ _=>rfl)) Zt (ZA _)) Zu)) (fun _ _=>rfl)) (Z3 (ixL K) (Yz (pc Zx (pc Zx (pc (ZB ZM Zx (ct ZW TX.str (pc (vn 2) Zu))) Zu)))) (cb (Jb rfl) f8 (pc (vn 2) (pc Zt Zu))) (fun _ _=>rfl))))) ZI)
   (Zs (Z8 (WE (Zz YN (vn 1) Zx (ZA _)) (Y0 (Zz Wr (Z3 (XZ K) (vn 0) (vn 2) (fun _ _=>rfl)) Zt (ZA _)))).pt (Zw (ZO 3 rfl (ZB ZM Zx (vn 3)))) ZI)
   (Zw (ZO 1 rfl (ZB ZM (vn 1) (vn 3))))))) ZI)))
   (Zw (ZT (Z4 (Zz YN (vn 1) Zx (ZA _)) (vn 1) Zx)))),?_⟩
  have hz:(16777216:Nat)=sizeLine:=by decide
  rw[UR];refine⟨_,rfl,a,_,rfl,.inr hS,_,rfl,by omega,by rw[Za];omega,?_⟩;rw[Za];refine Wl (fun i U O=>∃(D:List Nat) (v2 v3:Option V),U=[some (.ref a),some (.str (tx D)),v2,v3]/\Zy H O/\Wq D (xs.drop i) i=Wq [] xs 0/\D.length<=i*505)
   ⟨[],_,_,rfl,Zy.refl _,rfl,by simp⟩ ?_ ?_
  ·rintro i U O hi ⟨D,v2,v3,rfl,sm,j,g9⟩
   rw[show (0:Int)+(i:Int)=(i:Int) by omega];have hi:i<xs.length:=by omega
   have sS:Y9 K O a (xs.map V.int):=sm.tup hS;have J:=JD (Jx hi);have hd:=J0 hi;have Y:=hx _ (Jz hi);have lg:=Ju Y;have lp:((i:Nat):Int).natAbs.log2<1920:=Ju (by rw[bx];exact bN (show i<100 by omega) (by decide +kernel));have lw:=Ji (p:=i) (e:=500) (by decide) Y (by omega);have lb:=ZaL (p:=i) (by omega);have ld:=Y6 (by decide) Y;have ln:(ZV i).length<=2:=Y5 (by decide) (show i<10 ^ 2 by omega);have ep:Yu ((i:Nat):Int)=ZV i:=by unfold Yu;rw[if_neg (by omega),bx]
   rw[hd,JP] at j;refine⟨_,rfl,_,rfl,a,_,_,_,rfl,rfl,sS,J,rfl,_,rfl,?_⟩;refine ZZ (fun L=>?_) (fun L=>?_)
   ·have L:Ww xs i≠0:=fun z=>by rw[z] at L;exact absurd L (by decide)
    rw[if_neg L] at j;refine⟨_,rfl,_,rfl,a,_,_,_,rfl,rfl,sS,J,_,rfl,lg,_,rfl,_,rfl,lp,_,_,rfl,rfl,?_,(by show 3<=sizeLine;decide),fun l1 n1=>?_⟩
    ·rw[str_int,ep,t_z,ZC,ZC];simp only[Zi,ai];omega
    rw[str_int,str_int,ep,t_z,ZS];have s1:=sm.trans (Zy.upd (o:=.lst [V.str (tx []),V.str (tx [122]),V.str (tx (122::ZV i))]) n1);have f6:=Zv (H:=O) (a:=l1) (o:=.lst [V.str (tx []),V.str (tx [122]),V.str (tx (122::ZV i))]);show US _ _ _ (upd O l1 (.lst [V.str (tx []),V.str (tx [122]),V.str (tx (122::ZV i))])) _;generalize upd O l1 (.lst [V.str (tx []),V.str (tx [122]),V.str (tx (122::ZV i))])=H1 at s1 f6 ⊢;refine⟨_,rfl,_,_,rfl,l1,_,_,_,rfl,rfl,.of f6,UO i,_,_,rfl,rfl,?_,?_⟩
    ·rw[ZC,ZC];omega
    rw[ZS];have ew:=VN L i;refine⟨_,rfl,_,_,rfl,rfl,_,rfl,?_⟩;refine ZZ (fun hp=>?A) (fun hp=>?B)
    case' B=>
     rw[if_neg (fun h=>hp (decide_eq_true (by have:=h.1;show (0:Int)<(i:Int);omega)))] at ew;rw[<-ew]
    case' A=>
     have hp:i≠0:=by have:=of_decide_eq_true hp;omega
     refine⟨_,rfl,_,rfl,a,_,_,_,rfl,rfl,s1.tup hS,J,_,rfl,rfl,_,rfl,?_⟩;refine ZZ (fun h1=>?A1) (fun h1=>?A2)
    case' A2=>
     rw[if_neg (fun h=>h1 (decide_eq_true (by congr 1;have:=h.2;split <;> omega)))] at ew
     rw[<-ew]
    case' A1=>
     have h1:(Ww xs i).natAbs=1:=by
      have:=V.int.inj (of_decide_eq_true h1);split at this <;> omega
     rw[if_pos ⟨hp,h1⟩] at ew;refine⟨(by show 2<=sizeLine;decide),fun l2 n2=>?_⟩;rw[t_m];have s2:=s1.trans (Zy.upd (o:=.lst [V.str (tx []),V.str (tx [45])]) n2);have f7:=Zv (H:=H1) (a:=l2) (o:=.lst [V.str (tx []),V.str (tx [45])]);clear s1 f6;generalize upd H1 l2 (.lst [V.str (tx []),V.str (tx [45])])=H2 at s2 f7 ⊢;clear n2 n1;refine⟨_,rfl,_,rfl,a,_,_,_,rfl,rfl,s2.tup hS,J,_,_,rfl,rfl,.inr ⟨_,rfl,l2,_,_,V.str (tx (if Ww xs i<0 then [45] else [])),rfl,rfl,.of f7,ZcM _,?_⟩⟩
     refine⟨_,rfl,_,rfl,lp,_,_,rfl,rfl,?_,(by show 3<=sizeLine;decide),fun l3 n3=>?_⟩
     ·rw[str_int,ep,ZC,ZC];simp only[Zi,ai];omega
     rw[str_int,ep,ZS];have s1:=s2.trans (Zy.upd (o:=.lst [V.str (tx []),V.str (tx [122]),V.str (tx (122::ZV i))]) n3);have f9:=Zv (H:=H2) (a:=l3) (o:=.lst [V.str (tx []),V.str (tx [122]),V.str (tx (122::ZV i))]);clear s2 f7;show US _ _ _ (upd H2 l3 (.lst [V.str (tx []),V.str (tx [122]),V.str (tx (122::ZV i))])) _;generalize upd H2 l3 (.lst [V.str (tx []),V.str (tx [122]),V.str (tx (122::ZV i))])=H3 at s1 f9 ⊢;refine⟨_,rfl,_,_,rfl,l3,_,_,_,rfl,rfl,.of f9,UO i,_,_,rfl,rfl,?_,?_⟩
     ·rw[ZC,ZC]
      have:(if Ww xs i<0 then [45] else []:List Nat).length<=1:=by split <;> simp
      omega
     rw[ZS,<-ew]
    case' B=>refine YU (by decide) ?_
    all_goals
     refine⟨_,rfl,rfl,_,rfl,?_⟩;rw[Jk];refine ZZ (fun M=>?_) (fun M=>?_)
     ·have M:D≠[]:=by simpa using M
      refine⟨_,rfl,_,rfl,a,_,_,_,rfl,rfl,s1.tup hS,J,_,_,rfl,rfl,_,rfl,?_⟩;refine ZZ (fun hk=>?_) (fun hk=>?_)
      ·rw[if_pos ⟨M,of_decide_eq_true hk⟩] at j
       refine⟨_,rfl,_,_,rfl,rfl,?_,?_⟩
       ·rw[t_p,ZC,ZC];simp only[Zi,ai];omega
       rw[t_p,ZS];refine⟨_,rfl,_,rfl,_,_,rfl,rfl,?_,?_⟩
       ·rw[ZC,ZC,Zd];simp only[Zi,ai];omega
       rw[ZS,<-ay];exact⟨_,_,_,rfl,s1,j,by simp only[Zd,Zi,ai];omega⟩
      ·rw[if_neg (fun h=>hk (decide_eq_true h.2)),aG] at j
       refine⟨_,rfl,_,rfl,_,_,rfl,rfl,?_,?_⟩
       ·rw[ZC,ZC];omega
       rw[ZS];exact⟨_,_,_,rfl,s1,j,by rw[Zd];omega⟩
     ·rw[if_neg (fun h=>M (by simpa using h.1)),aG] at j
      refine YU (by decide) ?_;refine⟨_,rfl,_,rfl,_,_,rfl,rfl,?_,?_⟩
      ·rw[ZC,ZC];omega
      rw[ZS];exact⟨_,_,_,rfl,s1,j,by rw[Zd];omega⟩
   ·have L:Ww xs i=0:=by simpa using L
    rw[if_pos L] at j;exact⟨D,_,_,rfl,sm,j,by omega⟩
  ·rintro U O ⟨D,v2,v3,rfl,sm,j,g9⟩
   have:xs.drop (xs.length:Int).toNat=[]:=ef (by omega);rw[this] at j;have j:D=Wq [] xs 0:=j;have hq:=q O sm;unfold Jm at hq;rw[<-j] at hq;refine⟨_,rfl,rfl,_,rfl,?_⟩;rw[Jk];refine ZZ (fun M=>?_) (fun M=>?_)
   ·rw[if_neg (by simpa using M)] at hq
    exact⟨_,rfl,hq⟩
   ·rw[if_pos (by simpa using M)] at hq
    rw[t_0];exact hq
end
noncomputable abbrev Zco:Stmt:=top 18
noncomputable def Za1:Sp:=fun B H Q _=>∃(p q:Addr) (wide b:Nat),B=[.ref p,.int (wide:Nat)]/\Ye H p q b/\b<2 ^ 59/\wide<=60/\∀(z:List Int) r j,Tk p H j->Ye j p q (b+2*wide)->z.length=wide->(∀x∈z,x.natAbs<10 ^ 20)->j r=some (.tup (z.map V.int))->Q (.ref r) j
section
variable {P:Program}{w:World}{K:aa}{mg:Str->Option Value}{base:Heap}
theorem ZbG {f:Addr}{fd:FuncData}(F:WW K "_law_number" "_law_number" Zco f fd)(T:N60.Bl mg)(GD:Fn P w K mg base YL 1 "_law_draw" ["_law_feed_here", "_law_many"] Xm):Yd P w K mg base YL 2 f fd ["_law_feed_here", "_law_wide"] Za1:=by
 refine F.ok (FS (N:=["_law_feed_here", "_law_wide", "_law_found", "_law_k", "_law_way", "_law_big"])) (fun vs H Q E h=>?_) (fun i2 A f6 s H vs Q E hr h=>?_)
 ·obtain⟨p,q,wide,b,rfl,_⟩:=h;rfl
 ·obtain⟨p,q,wide,b,rfl,T0,hb,hw,qq⟩:=h
  refine⟨_,Zs (ZO 2 rfl (Yz Zu))
   (Zs (WG aN rfl (Zbk T.range (pc (vn 1) Zu)) (gn 3)
   (Zs (ZO 4 rfl (W8 GD hr Z0 (pc (vn 0) (pc Zt Zu))))
   (Zs (ZO 5 rfl (Z4 (Zz Yg (vn 4) Zt (ZA _)) (ZB We (ZB We (ZB Xr Zt Zt) Zt) (W8 GD hr Z0 (pc (vn 0) (pc (ZB Xr Zt Zt) Zu)))) (W8 GD hr Z0 (pc (vn 0) (pc Zt Zu)))))
   (Zw (XR (XU dG ck dC Wi (vn 2) (pc (Z3 (ixL K) (Yz (pc Zt (pc Zt (pc (Uc Xg Zt) (pc (vn 5) (pc (ZB We Zt (vn 5)) (pc (vn 5) Zu))))))) (vn 4) (fun _ _=>rfl)) Zu)))))))
   (Zw (ZT (ct (tupK K) T.tuple (pc (vn 2) Zu))))),?_⟩
  have hz:(16777216:Nat)=sizeLine:=by decide
  have f7:(10:Int) ^ (20:Int).toNat=100000000000000000000:=by decide
  have e6:(10:Int) ^ (6:Int).toNat=1000000:=by decide
  refine⟨(by show 0<=sizeLine;omega),fun L nL=>?_⟩;refine⟨_,rfl,_,rfl,by omega,by omega,?_⟩;obtain⟨M,Y⟩:=T0.neN nL;refine Wl (fun i O H'=>∃(J:List Int) (v3 v4 v5:Option V),O=[some (.ref p),some (.int (wide:Nat)),some (.ref L),v3,v4,v5]/\Tk p H H'/\Ye H' p q (b+2*i)/\H' L=some (.lst (J.map V.int))/\J.length=i/\∀x∈J,x.natAbs<10 ^ 20)
   ⟨[],_,_,_,rfl,Tk.of (Zy.upd nL),T0.put M Y,Zv,rfl,fun x hx=>by cases hx⟩ ?_ ?_
  ·rintro i O H1 hi ⟨J,v3,v4,v5,rfl,k1,T1,U,hn,hx⟩
   refine⟨_,rfl,p,q,_,_,rfl,T1,by omega,by decide,by decide,fun r H2 r0 r6 k2 T2=>?_⟩;have f8:=k2.lst T1 U;refine⟨_,rfl,rfl,_,rfl,?_⟩;refine ZZ (fun h5=>?A) (fun h5=>?B)
   case' A=>
    refine⟨_,_,rfl,rfl,⟨by decide,by decide,by decide⟩,_,_,rfl,rfl,_,rfl,_,_,rfl,rfl,⟨by decide,by decide,by decide⟩,p,q,_,_,rfl,T2,by omega,(by decide),(by decide),fun z H3 z0 z1 k3 T3=>?_⟩;refine⟨_,_,rfl,rfl,?_⟩;rw[e6] at z1;rw[f7];obtain⟨j,f9⟩:∃j,j=(100000000000000000000:Int)-1-z:=⟨_,rfl⟩;show Yi 5 (V.int (100000000000000000000-1-z)) _ _ _;rw[<-f9];have g8:0<=j/\j<100000000000000000000:=by omega
   case' B=>
    refine⟨_,rfl,p,q,_,_,rfl,T2,by omega,by decide,by decide,fun j H3 z0 z1 k3 T3=>?_⟩;have g8:0<=j/\j<100000000000000000000:=by omega
   all_goals
    have D:=k3.lst T2 f8;refine⟨_,rfl,.inl ⟨rfl,_,.of D⟩,_,rfl,_,rfl,_,rfl,_,_,rfl,rfl,_,rfl,(by show 6<=sizeLine;decide),fun l6 n6=>?_⟩;have s6:=Zy.upd (H:=H3) (o:=.lst [V.int 0,V.int 1,V.int (-1),V.int j,V.int (0-j),V.int j]) n6;have h6:=Zv (H:=H3) (a:=l6) (o:=.lst [V.int 0,V.int 1,V.int (-1),V.int j,V.int (0-j),V.int j]);obtain⟨v,hv,g9⟩:∃v:Int,atI [V.int 0,V.int 1,V.int (-1),V.int j,V.int (0-j),V.int j] r=some (.int v)/\v.natAbs<100000000000000000000:=by
     have:r=0\/r=1\/r=2\/r=3\/r=4\/r=5:=by omega
     rcases this with rfl|rfl|rfl|rfl|rfl|rfl
     ·exact⟨0,rfl,by decide⟩
     ·exact⟨1,rfl,by decide⟩
     ·exact⟨-1,rfl,by decide⟩
     ·exact⟨j,rfl,by omega⟩
     ·exact⟨0-j,rfl,by omega⟩
     ·exact⟨j,rfl,by omega⟩
    refine⟨_,rfl,l6,_,_,_,rfl,rfl,.of h6,hv,L,_,_,rfl,rfl,s6 _ _ D,by rw[Za];omega,?_⟩;have i1:L≠p:=M;have i3:L≠l6:=fun z=>by rw[z,n6] at D;cases D
    refine⟨J++[v],_,_,_,rfl,fun c o ho hc=>?_,?_,?_,?_,fun x h8=>?_⟩
    ·have i0:c≠L:=fun z=>by rw[z,nL] at ho;cases ho
     rw[ZD i0];exact s6 _ _ (k3 _ _ (k2 _ _ (k1 _ _ ho hc) hc) hc)
    ·exact ((T3.mono s6).put M Y).le (by omega)
    ·rw[Zv,bM];rfl
    ·rw[Zd,Zk,hn]
    ·rcases aK.mp h8 with h|h
     ·exact hx x h
     ·rw[aq.mp h];exact g9
  ·rintro O H1 ⟨J,v3,v4,v5,rfl,k1,T1,U,hn,hx⟩
   refine⟨_,rfl,L,_,rfl,.inl ⟨.of U,fun r nr=>?_⟩⟩;have sr:=Zy.upd (H:=H1) (o:=.tup (J.map V.int)) nr;exact qq J r _ (k1.trans (Tk.of sr)) ((T1.mono sr).le (by omega)) (by omega) hx Zv
end
end C60
namespace Tx
open PySem L2 PySem.Spec PyProof.Rows PySem.NumText
theorem ZaI {l:List Nat}(h:YM l)(j:l.length<=50000):UP (.str (tx l)):=by
 refine (Sml.fit (k:=0) (b:=50000) ⟨rfl,rfl,aQ _,?_,?_⟩ (by decide) (by decide))
 ·simp only[cL]
  refine bG.mpr fun c q=>decide_eq_true ?_;have:=h c q;omega
 ·simp only[dY]
  exact j
theorem Vc (m:Nat):(ae m [V.int 0]).flatten=(ae m (0:Int)).map V.int:=Zcu m
end Tx
namespace C60
open PySem L2 PySem.Spec PyProof.Rows PySem.NumText
open Tx Pm
noncomputable abbrev Zcp:Stmt:=top 19
theorem XN {X:Cx}(K:aa){k:Nat}(j:Yp k X.A)(q:X.K=K:=by rfl):Z9 X (.builtin "repr") (fun xs H Q=>∃x d,xs=[x]/\WS K H x d/\UP d/\Q (.str d.shown) H):=q▸VH j
theorem eqK {X:Cx}(K:aa)(z:X.A.units+64<cLine)(B:X.K=K:=by rfl):Wa X (compareOp .Eq) (fun x y H Q=>∃j q,WS K H x j/\WS K H y q/\aX j=true/\aX q=true/\Q (.bl (cM j q)) H):=B▸Zbz z
noncomputable def XH (K:aa):Sp:=fun q H Q _=>∃(a:Addr) (j:List Int),q=[.ref a]/\YF K H a (j.map V.int)/\j.length<=63/\∀z,Q (.bl true) z
section
variable {P:Program}{w:World}{K:aa}{mg:Str->Option Value}{base:Heap}
theorem ZbH {f:Addr}{fd:FuncData}(F:WW K "law" "law" Zcp f fd)(T:N60.Bl mg)(i6:Fn P w K mg base YL 1 "_law_feed" ["_law_script"] (V1 K))(GD:Fn P w K mg base YL 1 "_law_draw" ["_law_feed_here", "_law_many"] Xm)(i7:Fn P w K mg base YL 1 "_law_alone" ["_law_k", "_law_n"] Za2)
  (i8:Fn P w K mg base YL 1 "_law_shown" ["_law_number_here"] (Za0 K)) (i9:Fn P w K mg base YL 2 "_law_number" ["_law_feed_here", "_law_wide"] Za1) (GS:Fn P w K mg base YL 2 "shown_number" ["one"] (V0 K)) (h8:Fn P w K mg base YL 3 "read_number" ["n", "text"] ZaZ) :
  Yd P w K mg base YL 4 f fd ["_law_script"] (XH K):=by
 refine F.ok (FS (N:=["_law_script", "_law_feed_here", "_law_turn", "_law_n", "_law_wide", "_law_number_here", "_law_at", "_law_text"])) (fun vs H Q E h=>?_) (fun l4 A j0 s H vs Q E M h=>?_)
 ·obtain⟨a,ns,rfl,_⟩:=h;rfl
 ·obtain⟨a,ns,rfl,hS,hl,q⟩:=h
  refine⟨_,Zs (ZO 1 rfl (W8 i6 M Z0 (pc (vn 0) Zu)))
   (Zs (WG aN rfl (Zbk T.range (pc Zt Zu)) (gn 2)
   (Zs (ZO 3 rfl (ZB Wf Zt (W8 GD M Z0 (pc (vn 1) (pc Zt Zu)))))
   (Zs (ZO 4 rfl (cb (Up K) T.len (pc (cmp ["_law_k"] [3] ["_law_k", "_law_n"] rfl (Zc9 T.range (pc Zt (pc (ZB Wf (vn 3) Zt) Zu))) (fun _ _ _ _ _=>gn 0) (fun _ _ _ _ _=>Zab (Jq (W8 i7 M Z0 (pc (vn 0) (pc (vn 1) Zu))))) (fun _ _ _ _ _=>vn 0)) Zu)))
   (Zs (ZO 5 rfl (W8 i9 M Z0 (pc (vn 1) (pc (vn 4) Zu))))
   (Zs (Z8 (Zz Wr (vn 2) Zt (ZA _)) (Zs (ZO 6 rfl (W8 GD M Z0 (pc (vn 1) (pc (vn 4) Zu))))
   (Zw (ZO 5 rfl (ZB XV (ZB XV (ZB Js (Wd (pc Zt Zu)) (vn 6)) (Wd (pc (Z3 (XZ K) (vn 5) (vn 6) (fun _ _=>rfl)) Zu))) (ZB Js (Wd (pc Zt Zu)) (ZB We (ZB We (vn 4) (vn 6)) Zt)))))) ZI)
   (Zs (ZO 7 rfl (W8 GS M Z0 (pc (vn 5) Zu)))
   (Zw (Z8 (V9 (Zz YN (cb (XN K M) T.repr (pc (vn 7) Zu)) (cb (XN K M) T.repr (pc (W8 i8 M Z0 (pc (vn 5) Zu)) Zu)) (ZA _)) (Xp (Zz YN (cb (XN K M) T.repr (pc (W8 h8 M Z0 (pc (vn 3) (pc (vn 7) Zu))) Zu)) (cb (XN K M) T.repr (pc (vn 5) Zu)) (ZA _)))).pt (Zw (ZT ZcB)) ZI))))))))
   (Zw (ZT (Ug (YG Yg (W8 GS M Z0 (pc (Wd (pc Zt Zu)) Zu)) Zx (ZA _)) (Ud (YG (eqK K M.units) (W8 h8 M Z0 (pc Zt (pc Zx Zu))) (ZB Js (Wd (pc Zt Zu)) Zt) (ZA _))))))),?_⟩
  have hz:(16777216:Nat)=sizeLine:=by decide
  refine⟨_,rfl,a,ns,rfl,hS,fun p q' H1 s1 np T1=>?_⟩;refine⟨_,rfl,by decide,by decide,?_⟩;refine Wl (fun i f9 H'=>∃v2 v3 v4 v5 v6 v7:Option V,f9=[some (.ref a),some (.ref p),v2,v3,v4,v5,v6,v7]/\Ye H' p q' (200*i)) ⟨_,_,_,_,_,_,rfl,T1⟩ ?_ ?_
  ·rintro i f9 H2 hi ⟨v2,v3,v4,v5,v6,v7,rfl,T2⟩
   have hi:i<10:=hi;refine⟨_,rfl,p,q',_,_,rfl,T2,by omega,by decide,by decide,fun r H3 r0 r1 k3 T3=>⟨_,_,rfl,rfl,?_⟩⟩;obtain⟨n,en⟩:∃n:Nat,(1:Int)+r=(n:Nat):=⟨(1+r).toNat,by omega⟩;have n1:1<=n:=by omega
   have i0:n<=60:=by omega
   show Yi 3 (V.int (1+r)) _ _ _;rw[en];obtain⟨_,_,j3,p1,l5⟩:=N60.Jt n1 i0;refine⟨_,rfl,_,_,rfl,rfl,1,(n:Int)+1,rfl,⟨by omega,by omega,by omega,by omega⟩,?_⟩;have en:((n:Int)+1-1).toNat=n:=by omega
   rw[en];refine VF (U1 1 n) [some (.int n)] rfl (fun y=>match y with | .int k=>decide (N60.JY k n=1)|_=>false) (fun y=>y) (by rw[Za,JQ];omega) ?_ ?_
   ·intro j y H' hy s' R R' g1 g2
    rw[Zc] at hy;cases e:(Jp 1 n)[j]? with
    |none=>rw[e] at hy;cases hy
    |some k=>
     rw[e] at hy;cases hy;refine⟨_,rfl,_,rfl,k,n,rfl,by omega,by omega,_,rfl,?_⟩;refine ZZ (fun b1=>?_) (fun b1=>?_)
     ·exact⟨_,rfl,g1 b1 H' (Zy.refl _)⟩
     ·exact g2 (by simpa using b1) H' (Zy.refl _)
   ·intro D H4 nD s4 j4
    refine⟨D,_,rfl,.inl (.of j4),?_⟩;have e:((((Jp 1 n).map V.int).filter fun y=>match y with | .int k=>decide (N60.JY k n=1)|_=>false).map fun y=>y).length=(N60.YR n).toNat:=by
     rw[List.map_id',List.filter_map,Za,j3];unfold N60.Ur;rw[Zj,Zj];rfl
    rw[e];generalize j5:(N60.YR n).toNat=wide;have w1:1<=wide:=by omega
    have j6:wide<=60:=by omega
    have T4:=T3.mono s4;refine⟨_,rfl,_,rfl,p,q',wide,_,rfl,T4,by omega,j6,fun Y nb H5 k5 T5 xl xb O=>?_⟩;refine⟨_,rfl,_,_,rfl,rfl,_,rfl,?_⟩;refine ZZ (fun h7=>?A) (fun h7=>?B)
    case' B=>
     have s6:Zy H5 H5:=Zy.refl _;have T6:Ye H5 p q' (200*i+150):=T5.le (by omega)
    case' A=>
     refine⟨_,rfl,_,rfl,p,q',_,_,rfl,T5,by omega,by omega,by omega,fun z H6 z0 z1 k6 T6=>?_⟩;have i1:=k6.tup T5 O;obtain⟨J,j7⟩:∃J:Nat,z=(J:Nat):=⟨z.toNat,by omega⟩;subst j7;have g8:J<Y.length:=by omega
     refine⟨(by show 1<=sizeLine;decide),fun c1 m1=>?_⟩;refine⟨_,rfl,c1,_,J,rfl,rfl,Zv,by simp,by simp only[Zi,ai];omega,by omega,fun d1 H7 s7 j8=>?_⟩;have i2:=(Zy.upd (H:=H6) (o:=.tup [V.int 0]) m1).trans s7;have U:=i2 _ _ i1;refine⟨_,rfl,_,rfl,nb,_,_,_,rfl,rfl,.of U,JD (Jx g8),(by show 1<=sizeLine;decide),fun c2 m2=>?_⟩;have i3:=Zy.upd (H:=H7) (o:=.tup [V.int (Ww Y J)]) m2;refine⟨d1,c2,_,_,rfl,rfl,i3 _ _ j8,Zv,?_,fun d2 H8 s8 f6=>?_⟩
     ·rw[Vc,Za,Ze];simp only[Zi,ai];omega
     refine⟨(by show 1<=sizeLine;decide),fun c3 m3=>?_⟩;have j9:=Zy.upd (H:=H8) (o:=.tup [V.int 0]) m3;refine⟨_,rfl,_,rfl,_,_,rfl,rfl,_,_,rfl,rfl,c3,_,wide-J-1,rfl,?_,Zv,by simp,by simp only[Zi,ai];omega,by omega,fun d3 H9 s9 k7=>?_⟩
     ·show V.int ((wide:Int)-(J:Int)-1)=V.int ((wide-J-1:Nat):Int)
      congr 1;omega
     have i4:=j9.trans s9;refine⟨d2,d3,_,_,rfl,rfl,i4 _ _ f6,k7,?_,fun k8 HA sA f7=>?_⟩
     ·rw[Vc,Vc,Zd,Za,Za,Ze,Ze];simp only[Zi,ai];omega
     have s6:=(i2.trans (i3.trans s8)).trans (i4.trans sA);have T6:=(T6.mono s6).le (show 200*i+1+2*wide+1<=200*i+150 by omega);rw[Vc,Vc] at f7;obtain⟨ys,f8⟩:∃ys,ys=ae J 0++[Ww Y J]++ae (wide-J-1) 0:=⟨_,rfl⟩;have f7:HA k8=some (.tup (ys.map V.int)):=by rw[f7,f8,bM,bM];rfl
     have yl:ys.length=wide:=by rw[f8,Zd,Zd,Ze,Ze,Zk];omega
     have yb:∀x∈ys,x.natAbs<10 ^ 20:=fun x L=>by
      rw[f8] at L;rcases aK.mp L with L|L
      ·rcases aK.mp L with L|L
       ·rw[(cT.mp L).2];decide
       ·rw[aq.mp L];exact xb _ (Jz g8)
      ·rw[(cT.mp L).2];decide
     clear O xb;clear f8;clear g8;clear i1 U;clear xl
     rename List Int=>Y
     have O:=f7;have xb:=yb;have xl:=yl
    all_goals
     have g9:=fun x L=>bN (xb x L) (show 10 ^ 20<10 ^ 500 by decide +kernel);refine⟨_,rfl,_,_,rfl,.inr (.of O),g9,by omega,fun H7 s7=>?_⟩;have U:=s7 _ _ O;have ln:=Jn (e:=20) (by decide) Y 0 [] xb (by omega);have ls:(Jm Y).length<=1600:=by
      unfold Jm;split
      ·simp
      ·rw[xl] at ln
       simp only[ai] at ln;omega
     have ac:=ZaO Y;have ft:=ZaI ac (by omega);refine⟨_,rfl,_,_,rfl,.str _,ft,_,rfl,_,_,rfl,.of U,g9,by omega,fun H8 s8=>?_⟩;have k9:=s8 _ _ U;refine⟨_,_,rfl,.str _,ft,rfl,_,rfl,?_⟩;refine YU (by simp) ?_;have rd:=Zbm (xs:=Y) (by omega);rw[xl] at rd;refine⟨_,rfl,_,rfl,n,_,_,rfl,n1,i0,ac,by omega,fun w hw=>aF (UT (e:=20) (by decide) xb (by omega) w hw) (by decide),by rw[j5];exact rd,g9,fun rr H9 s9 h9=>?_⟩;have i5:=fun x L=>bN (xb x L) (show 10 ^ 20<2 ^ 200 by decide +kernel);refine⟨_,_,rfl,.tup (.of h9) (Yq.ints _),JZ (by omega) i5,_,rfl,_,_,rfl,.tup (.of (s9 _ _ k9)) (Yq.ints _),JZ (by omega) i5,rfl,_,rfl,?_⟩;refine YU (by simp) ?_;exact⟨_,_,_,_,_,_,rfl,(T6.mono ((s7.trans s8).trans s9)).le (by omega)⟩
  ·rintro f9 H2 ⟨v2,v3,v4,v5,v6,v7,rfl,T2⟩
   refine⟨(by show 1<=sizeLine;decide),fun c1 m1=>?_⟩;refine⟨c1,[0],rfl,.inr (.of Zv),(fun x L=>by rw[aq.mp L];decide +kernel),by decide,fun H3 s3=>?_⟩;refine⟨rfl,_,rfl,?_⟩;rw[t_0,Jk];refine ZZ (fun _=>?_) (fun h=>absurd h (by decide));have rd:rdN 6 [48]=some (ae 6 0):=by decide +kernel
   refine⟨7,[48],ae 6 0,rfl,by decide,by decide,(fun c hc=>by rw[aq.mp hc];decide),by decide,by decide +kernel,by rw[show (N60.YR (7:Nat)).toNat=6 from by decide +kernel];exact rd,(fun x L=>by rw[(cT.mp L).2];decide +kernel),fun rr H4 s4 h4=>?_⟩;refine⟨(by show 1<=sizeLine;decide),fun c2 m2=>?_⟩;refine⟨c2,_,6,rfl,rfl,Zv,by simp,by decide,by decide,fun d2 H5 s5 f6=>?_⟩;rw[Vc] at f6;refine⟨_,_,.tup (.of (((Zy.upd m2).trans s5) _ _ h4)) (Yq.ints _),.tup (.of f6) (Yq.ints _),by decide +kernel,by decide +kernel,?_⟩;rw[show cM (.tuple ((ae 6 (0:Int)).map aC)) (.tuple ((ae 6 (0:Int)).map aC))=true from by decide +kernel];exact q _
end
end C60
namespace C60
open PySem L2 PySem.Spec PyProof.Rows
open Tb Pm
theorem all_mk {l:bZ}{w:World}{K:aa}{h:Heap}{mg:Str->Option Value}{fa:Addr}(X:K.In h)(G:h.Ns mainGlobals mg)(g8:mg "law"=some (.ref fa))
  (d1:ZH K "_law_feed" Za3) (d2:ZH K "_law_draw" V4) (d3:ZH K "_law_alone" Zcs) (d4:ZH K "_law_shown" Zcn) (d5:ZH K "_law_number" Zco) (d6:ZH K "shown_place" Zcj) (d7:ZH K "shown_number" Zck) (d8:ZH K "primes_of" N60.XL) (d9:ZH K "places" N60.XM) (g9:ZH K "are_figures" Zcq) (h8:ZH K "read_place" Zcl) (i0:ZH K "read_number" Zcm) (i1:ZH K "law" Zcp)
  (z1:aA K mainGlobals "list"=some none) (z2:aA K mainGlobals "len"=some none) (z3:aA K mainGlobals "range"=some none) (z4:aA K mainGlobals "tuple"=some none) (z5:aA K mainGlobals "sorted"=some none) (z6:aA K mainGlobals "abs"=some none) (z7:aA K mainGlobals "isinstance"=some none) (z8:aA K mainGlobals "all"=some none) (z9:aA K mainGlobals "set"=some none) (i2:aA K mainGlobals "repr"=some none) (i3:aA K mainGlobals "any"=some none) (i4:aA K mainGlobals "int"=some none) (i5:aA K mainGlobals "bool"=some none) (i6:aA K mainGlobals "str"=some none) (i7:aA K mainGlobals "enumerate"=some none) (i8:aA K mainGlobals "min"=some none) :
  ∃fd:FuncData,(∀(s:Shared) (v:Value),cW s fd ⟨[v],[]⟩ [("_law_script",v)])/\∀base:Heap,K.In base->base.Ns mainGlobals mg->Yd l.prog w K mg base YL 4 fa fd ["_law_script"] (XH K):=by
 have D:BlB mg:=⟨ak X G z1,ak X G z2,ak X G z3,ak X G z4,ak X G z5⟩;have j:N60.Bl mg:=⟨ak X G z1,ak X G z2,ak X G z6,ak X G z3,ak X G z4,ak X G z7,ak X G z8,ak X G z9,ak X G i2,ak X G i3,ak X G i4,ak X G i5⟩;have z:BlX mg:=⟨ak X G i6,ak X G i7⟩;refine i1.law X G g8 (fun base f fd nb kb F=>?_) (fun _ _ _ _ _ _ _ _=>.of_eq rfl);have fn:=@ZH.fn l.prog w K mg base h;have f7:=fn d1 X G (fun f fd F=>Zan F D) (fun _ _ _ _ _ _=>bd1 fun _=>rfl);have B:=fn d2 X G (fun f fd F=>Zao F D) (fun _ _ _ _ _ _=>bd2 fun _ _=>rfl);have U:=fn d3 X G (fun f fd F=>ZbJ F) (fun _ _ _ _ _ _=>bd2 fun _ _=>rfl);have Y:=fn d4 X G (fun f fd F=>ZbF F j z (ak X G i8)) (fun _ _ _ _ _ _=>bd1 fun _=>rfl);have J:=fn d5 X G (fun f fd F=>ZbG F j B) (fun _ _ _ _ _ _=>bd2 fun _ _=>rfl);have L:=fn d6 X G (fun f fd F=>ZbB F j z) (fun _ _ _ _ _ _=>bd2 fun _ _=>rfl);have q:=fn d7 X G (fun f fd F=>ZbC F z L) (fun _ _ _ _ _ _=>bd1 fun _=>rfl);have f8:=fn d8 X G (fun f fd F=>N60.Vn F j) (fun _ _ _ _ _ _=>bd1 fun _=>rfl);have f9:=fn d9 X G (fun f fd F=>N60.Vo F j f8) (fun _ _ _ _ _ _=>bd1 fun _=>rfl);have M:=fn g9 X G (fun f fd F=>ZbI F j) (fun _ _ _ _ _ _=>bd1 fun _=>rfl);have f6:=fn h8 X G (fun f fd F=>ZbD F j M) (fun _ _ _ _ _ _=>bd1 fun _=>rfl);have O:=fn i0 X G (fun f fd F=>ZbE F j f9 f6 q) (fun _ _ _ _ _ _=>bd2 fun _ _=>rfl);exact ZbH F j f7 B U Y J q O
theorem walk {l:bZ}{q:Program}{loose:List Str}{M:(Str->Option Value)->Heap->Prop}{D:World->Heap->Prop}{d:DefRec}{K:Params->aa}(O:l.most=some 63)(B:d.params.defaults=[])
  (U:∀(w:World) (h:Heap),D w h->(K w.params).In h)
  (F:∀(w:World) (j:Str->Option Value) (J:Addr) (h:Heap),(K w.params).In h->h.Ns mainGlobals j->j d.name=some (.ref J)->
   ∃L:FuncData,(∀(s:Shared) (u:Value),cW s L ⟨[u],[]⟩ [("_law_script",u)])/\∀base:Heap,(K w.params).In base->base.Ns mainGlobals j->Yd l.prog w (K w.params) j base YL 4 J L ["_law_script"] (XH (K w.params))) :
  eG q loose M D l.row.toRowW d [] (fun f Y=>eE f Y):=
 L2.Jj (n:=63) (k:=4) (x:="_law_script") (CX:=fun _=>YL) (sp:=fun w=>XH (K w.params)) O (by decide) B ⟨rfl,by decide,by decide,rfl⟩ U F (fun _ _ a ns hl _ hS=>⟨a,ns,rfl,hS,hl,fun _=>rfl⟩) fun _ _ _ _ _ z=>z
end C60
namespace PySem.W.Fast
theorem tw8551476493833911454:0=0:=rfl
theorem tw3834957550895749943:0=0:=rfl
theorem tw16705045699305396685:0=0:=rfl
theorem tw4282930750977448469:0=0:=rfl
theorem tw7260156511961501484:0=0:=rfl
theorem tw6444931917581993202:0=0:=rfl
theorem tw18123764725475917846:0=0:=rfl
theorem tw703972132447228363:0=0:=rfl
theorem tw7116462562852060726:0=0:=rfl
theorem tw1646118052535934677:0=0:=rfl
theorem tw17367089452551457237:0=0:=rfl
theorem tw17232934874354766356:0=0:=rfl
theorem tw8561930585644595851:0=0:=rfl
theorem tw8627498908643822406:0=0:=rfl
theorem tw15506100991396360883:0=0:=rfl
theorem tw16751180875131641062:0=0:=rfl
theorem tw9426525375233852112:0=0:=rfl
theorem tw2939294461627913907:0=0:=rfl
theorem tw15301085158766958464:0=0:=rfl
theorem tw10322034431302903729:0=0:=rfl
theorem tw14914432638815275387:0=0:=rfl
theorem tw11720136664740094411:0=0:=rfl
theorem tw2201057093397370946:0=0:=rfl
theorem tw6604243570268237715:0=0:=rfl
theorem tw16992999311943639692:0=0:=rfl
theorem tw9059165674744609302:0=0:=rfl
theorem tw2191700168277153777:0=0:=rfl
theorem tw4217275822620992796:0=0:=rfl
theorem tw13083774536636968054:0=0:=rfl
theorem tw15132216153140924296:0=0:=rfl
theorem tw1403347768202090683:0=0:=rfl
theorem tw4933017232107471553:0=0:=rfl
theorem tw995026728560372980:0=0:=rfl
theorem tw6276033540556848219:0=0:=rfl
theorem tw17427756859126119345:0=0:=rfl
theorem tw15026574114387981086:0=0:=rfl
theorem tw5083713395331089964:0=0:=rfl
theorem tw9480021794882246106:0=0:=rfl
theorem tw9274644220893224925:0=0:=rfl
theorem tw4209329512828067067:0=0:=rfl
theorem tw17287766303204000709:0=0:=rfl
theorem tw13707148863659424661:0=0:=rfl
theorem tw8701946462115939736:0=0:=rfl
theorem tw15055148683997091162:0=0:=rfl
theorem tw3573559071964519825:0=0:=rfl
theorem tw1090270574405302226:0=0:=rfl
theorem tw9581419505836181871:0=0:=rfl
theorem tw3592809257706051669:0=0:=rfl
theorem tw16617620954799085262:0=0:=rfl
theorem tw1112097738284811341:0=0:=rfl
theorem tw14253032101904498746:0=0:=rfl
theorem tw11905524810858248774:0=0:=rfl
theorem tw17080038195520191061:0=0:=rfl
theorem tw438539829800326886:0=0:=rfl
theorem tw3925503006573309375:0=0:=rfl
theorem tw16239707653299042530:0=0:=rfl
theorem tw17898102668766694595:0=0:=rfl
theorem tw4373628324506097814:0=0:=rfl
theorem tw6828019541938458483:0=0:=rfl
theorem tw13893456704872488611:0=0:=rfl
theorem tw8694547892394020478:0=0:=rfl
theorem tw16502852612985641130:0=0:=rfl
theorem tw4960115474121668251:0=0:=rfl
theorem tw4353714918302305493:0=0:=rfl
theorem tw16219059465987085504:0=0:=rfl
theorem tw2065899334193804494:0=0:=rfl
theorem tw1512318105260499084:0=0:=rfl
theorem tw8239792143141021443:0=0:=rfl
theorem tw12369272345901614363:0=0:=rfl
theorem tw17694293777024007851:0=0:=rfl
theorem tw13915598771888841142:0=0:=rfl
theorem tw13466782735037930640:0=0:=rfl
theorem tw13337680698940773466:0=0:=rfl
theorem tw11028359809132777318:0=0:=rfl
theorem tw9875893815069717569:0=0:=rfl
theorem tw16949500707352169056:0=0:=rfl
theorem tw6867315897349521869:0=0:=rfl
theorem tw1181889652318125794:0=0:=rfl
theorem tw4242442634830748949:0=0:=rfl
theorem tw13523181897150019662:0=0:=rfl
theorem tw16748247535944671563:0=0:=rfl
theorem tw10167692408899599758:0=0:=rfl
theorem tw12959511268643250016:0=0:=rfl
theorem tw3418953114747103236:0=0:=rfl
theorem tw11167159900888286542:0=0:=rfl
theorem tw10699681381297213176:0=0:=rfl
theorem tw6220588390980078824:0=0:=rfl
theorem tw6861854278558642163:0=0:=rfl
theorem tw14047379139011590415:0=0:=rfl
theorem tw15948360793949694946:0=0:=rfl
theorem tw12620613546711506493:0=0:=rfl
theorem tw5447320384322951000:0=0:=rfl
theorem tw3469655052408817196:0=0:=rfl
theorem tw8452872529924370053:0=0:=rfl
theorem tw7054558796628726601:0=0:=rfl
theorem tw11157591125286077420:0=0:=rfl
theorem tw15146972071792152963:0=0:=rfl
theorem tw17020016380799070683:0=0:=rfl
theorem tw14150153441166584453:0=0:=rfl
theorem tw5875929447052165114:0=0:=rfl
theorem tw12781307221525955493:0=0:=rfl
theorem tw3552099280005869474:0=0:=rfl
theorem tw14804249825673571960:0=0:=rfl
theorem tw10873872348917315090:0=0:=rfl
theorem tw6951503570428130928:0=0:=rfl
theorem tw142104874813062055:0=0:=rfl
theorem tw3052683928715441265:0=0:=rfl
theorem tw7648953681227003531:0=0:=rfl
theorem tw12694143265188495698:0=0:=rfl
theorem tw16651930195602775774:0=0:=rfl
theorem tw8159390500279092892:0=0:=rfl
theorem tw5850781322650811129:0=0:=rfl
theorem tw4966514893508000619:0=0:=rfl
theorem tw2875636756391364901:0=0:=rfl
theorem tw10932739828945220408:0=0:=rfl
theorem tw3636604166438232297:0=0:=rfl
theorem tw16270650502835598611:0=0:=rfl
theorem tw1207433296097991114:0=0:=rfl
end PySem.W.Fast
open PySem PySem.W PyProof.Rows
set_option maxRecDepth 100000 in
set_option maxHeartbeats 0 in
theorem PySem.Challenge.cw_classtab_k60_numbers_written_holds : PySem.Challenge.rw_classtab_k60_numbers_written.Holds := by
 w_on;o_law;k_head;(case hw=>w_witness2)
 k_fill
 refine C60.walk (l:=PySem.Challenge.rw_classtab_k60_numbers_written) rfl rfl (fun w h Y=>PySem.W.kIn_of Y) ?F
 case F=>
  intro w mg fa h KX G hmg
  refine' C60.all_mk KX G hmg (L2.ZH.mk ?_ ?_ ?_ ?_) (L2.ZH.mk ?_ ?_ ?_ ?_) (L2.ZH.mk ?_ ?_ ?_ ?_) (L2.ZH.mk ?_ ?_ ?_ ?_) (L2.ZH.mk ?_ ?_ ?_ ?_) (L2.ZH.mk ?_ ?_ ?_ ?_) (L2.ZH.mk ?_ ?_ ?_ ?_) (L2.ZH.mk ?_ ?_ ?_ ?_) (L2.ZH.mk ?_ ?_ ?_ ?_) (L2.ZH.mk ?_ ?_ ?_ ?_) (L2.ZH.mk ?_ ?_ ?_ ?_) (L2.ZH.mk ?_ ?_ ?_ ?_) (L2.ZH.mk ?_ ?_ ?_ ?_) ?_ ?_ ?_ ?_ ?_ ?_ ?_ ?_ ?_ ?_ ?_ ?_ ?_ ?_ ?_ ?_
  any_goals k_is
  all_goals kernel_rfl
