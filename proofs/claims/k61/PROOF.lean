import PyProof.Rows.All
import Wide.All
import OpenK.AllK
import Wide.FinOn
import Lean
import PyProof.EqAt
import PyProof.EqKinds
import PyProof.TupleCall
import PyProof.Rows.StrNews2
import KE.KIntText
import PyProof.StrWalks
import PyProof.StrCalls6
import PyProof.StrLawsReplace
import PyProof.ToksMono
import KE.IntTextText
import PyProof.Rows.StrIntSpec
import KE.KSortTup
import PyProof.DictWalks
import KE.KDictSum
import PyProof.EnumMake
import PyProof.EnumFor
import PyProof.TupleIter
import PyProof.Rows.Range3
import PyProof.ExcInit
import PyProof.ExcClass2
import PyProof.ExcClsAt2
import PyProof.ExcBaseAll.ValueError
import PyProof.InstStoreFacts
import PyProof.InstLoad
import PyProof.ExcAttrAll.ValueError
import PyProof.StationsW
import PyProof.RulesAs
import PyProof.NsDelKeeps
import PyProof.IsiBase
import KE.KIsAll
import PyProof.StrOps2
import PySem.Challenge.RW_classtab_k61_texts_of_no_number
open PySem.W renaming Frag->ae,mg_none_of->aq,nsIn->az,keepIn->aP,fnOf->a7,clsIn->bq,kitOne->bZ,codeIn->b8,OpenLaw->cU,cellsFrom_some->cZ,mg_of->dE,methodObj->dS,kitAny->ff,subIn->fw,callWith_K->f9,WalkO->gA,kitMeta->gI,typeIn->gS,mroIn->g9
open List renaming replicate->ag,mem_cons_of_mem->ah,mem_cons_self->ai,mem_cons->ak,append_assoc->am,length_nil->ao,mem_append_right->av,append_nil->aA,mem_singleton->aD,replicate_succ->aE,length_drop->aI,getElem?_eq_some_iff->aK,mem_of_getElem?->aM,contains_cons->aO,nil_append->aU,getElem?_append_right->aX,drop_eq_nil_of_le->aY,mem_append_left->bb,flatten_cons->bc,mem_append->bd,filterMap_cons->bh,all_eq_true->bi,map_cons->bv,lookup_cons->bw,length_replicate->bK,length_take->bP,getElem?_append_left->bR,drop_eq_getElem_cons->bS,nodup_cons->bW,length_set->bX,find?_cons->bY,getElem?_replicate->ce,getElem?_eq_none->cw,take_length->cx,take_append_of_le_length->cB,map_append->cD,drop_zero->cL,drop_length->dc,range->dm,mem_map->dn,map_map->dq,getElem?_set_self->du,append_eq_nil_iff->dv,getElem?_set_ne->dH,takeWhile_cons->dR,any_cons->ee,all_cons->eg,lookup_append->er,all_nil->eL,drop_append->fc,length->fo,of_mem_zip->fq,mem_filter->fu,length_eq_zero_iff->fS,take_of_length_le->fU,map_nil->fV,map_id'->fW,filter_eq_nil_iff->fX,filterMap_append->gm,contains_iff_mem->gp,mem_of_mem_drop->gy,map_congr_left->gG,length_pos_iff->gH,mem_replicate->gL,mem_filterMap->gM,getElem?_drop->gN,foldl->gO,take_add_one->gY,getElem_mem->hZ,cons_append->h8
open Nat renaming lt_of_lt_of_le->aj,ne_of_lt->ay,zero_le->aC,le_trans->aG,lt_irrefl->aW,ne_of_gt->ba,mul_le_mul_right->bu,le_of_succ_le->bM,lt_trans->cq,le_succ->cV,sub_self->dz,pow_le_pow_right->dN,succ_mul->eW,mul_comm->eX,le_add_right->fm,le_of_lt->gl,lt_trichotomy->hU,lt_succ_of_lt->hX
open PySem.Str renaming ofString->ar,empty->de,join->eQ
open PySem renaming Spec->au,Builtin->aF,mem_of_lookup->aL,wpAny_loadPart_at->aN,wpAny_passesOwn->aQ,wpAny_mono->a6,wpAny_field->bf,typeIs_str->bp,wpAny_isSubtype_exc->bF,call_meets->bL,NameKind->bU,wpAny_execs_nil->ck,wpAny_setField_rec->cm,PyData->cn,wpAny_getItem_str_slice->cr,wpAny_callSpecial?_slot->cu,wpAny_newObj_type->cy,wpAny_Call_Name_kw->cY,IsEnum->db,wpAny_truthy_bool->dh,wpAny_pyIter_enum->di,wpAny_standAt->dw,wpAny_execs_cons->dB,wpAny_call_entry->dC,wpAny_Call_method_late->dI,post_val_or_str->dO,wpAny_setField->eD,codeAny_call_builtin->eE,Operator->eI,BindsTo->eK,wpAny_holding->eY,typeIs_int->fe,wpAny_pyIter_list->fv,ExcBaseFacts->fz,sizeLine_eq->fK,wpAny_letOwnedTupleGo_enum->fZ,intText_digits->f8,Paired->gh,wpAny_binaryOp_repeat_ref->gq,call->gz,seqSlot_of->gQ,codeAny_mono->gR
open PySem.Value renaming ref->aw,none->bj,builtin->dP,bool->fx,type->gB,str->gT,int->gU
open Bool renaming false_ne_true->ax,and_eq_true->aJ,eq_iff_iff->be,or_true->cG,eq_false_iff->cT,and_true->cW,false_eq_true->ev,and_self->fO,not_eq_true'->g8
open Option.some renaming inj->aB
open PySem.Heap renaming get?_update_other->aH,SameBut->aS,size_push->bn,get?_update_self->bJ,get?_none_of_le->dF
open PySem.Txt renaming partition->aR,slice->aZ,split->cg,startswith->dJ,slice_le->eO
open PySem.PassesOwn renaming never->aV
open Ne renaming symm->a8
open Int renaming emod_lt_of_pos->a9,emod_nonneg->bt,natAbs_natCast->cf,natCast_mul->fB,natCast_add->fC,natCast_nonneg->gZ
open ForInStep renaming yield->bo
open PySem.PyData renaming int->br,depthAll->bG,depth->ci,canLay0->cF,canLayAll0->cM,shown->eh,showable->eZ,leavesShortAll->fP,showableAll->gr,leavesShort->gt,eqv->gu,hasDictAll->gD,bulkAll->hG
open PySem.F renaming plainAttrs_str->bx,slot_tuple_iterator_next->bQ,slot_tuple_mul->bV,slot_list_append->b9,slot_enumerate_next->cz,type_list_append->cO,slot_str_split->cQ,slot_str_getitem->cR,plainAttrs_list->cS,slot_int_rmul->dG,typeOf_object_class->dM,excBase_ValueError->dX,args_tuple_mul_2->eS,args_str_split_2->eU,entry_tuple_mul->fh,entry_str_split->fi,attr_ValueError->fj,slot_tuple_rmul->fE,args_tuple_iterator_next_1->fH,slot_str_startswith->fM,entry_tuple_iterator_next->fN,slot_str_partition->fQ,slot_gs_get->gj,args_enumerate_next_1->gw,slot_str_index->gE,entry_enumerate_next->gF
open PySem.Builtin.SmallTypes renaming nextOf->bz,ownedTupleHandOut->cJ,ownedTupleIsFree->cP
open PyProof.Rows renaming callWith_type1->bA,AllBare->dk,assignInOrder_cons->fk,subscriptTail_builtinR->gW,IntsAre->gX
open PySem.NameKind renaming cell->bC,free->cp
open False renaming elim->bE
open PySem.NumText renaming AllDigits->bH
open PySem.StrLaws renaming subAt_one->bI,sliceText->dU,found_one->dW,occ_head->eG,strSub_toList->fL,split_free->gb,join_split->gf
open Array renaming getElem?_eq_some_iff->bN,toList_append->bT,getElem?_toList->fY
open PySem.SeqAt renaming shaped->bO
open PySem.Builtin.List renaming listTooLong->cC
open PySem.Builtin.Str renaming occurrences->cH
open List.cons renaming inj->cI
open PySem.AutoSeq1 renaming sub_tuple_tuple->cK,idx_int->em
open PySem.Obj renaming data_mapFields->cN,mapFields->ei,mapSeq->eJ,isFreed_of_fields->gv
open PySem.Calls renaming callWith_builtin->df,evalArgs_plain->dD,spliced_cons->dY,Constant_str->dZ,Name_function_global->fA,spliced_nil->gJ
open True renaming intro->dg
open PySem.Value.ref renaming inj->dA
open PySem.Sem renaming wp_mono->dL,wp_toks->gC
open Nat.succ renaming inj->dQ
open PySem.Builtin.Tuple renaming tupleTooMany->d0
open PySem.Code renaming quiet_builtin->ek
open Char renaming toNat->eu,ofNat->gP
open Sum renaming inr->eM,inl->eN
open PyProof.Rows.IsTup renaming new->eV
open PySem.Heap.SameBut renaming update->fy
open PySem.Paired renaming length->fD
open Option renaming isSome_iff_exists->fF,getD_none->gK
open List.Pairwise renaming nil->fG
open PySem.EntryCells renaming newEntry->fJ
open Prod.mk renaming inj->fR
open PySem.Data renaming fields->gx,cell->hJ
set_option Elab.async false
set_option linter.all false
set_option maxRecDepth 100000
theorem Za {α j:Type _}{l:List α}{f:α->j}:(l.map f).length=l.length:=List.length_map ..
theorem Zb {α:Type _}{l:List α}{i:Nat}{a:α}:l.getD i a=l[i]?.getD a:=List.getD_eq_getElem?_getD ..
theorem Zc {α j:Type _}{f:α->j}{l:List α}{i:Nat}:(l.map f)[i]?=l[i]?.map f:=List.getElem?_map ..
theorem Zd {α:Type _}{a b:List α}:(a++b).length=a.length+b.length:=List.length_append ..
theorem Ze {α:Type _}{n:Nat}{a:α}:(ag n a).length=n:=bK ..
theorem Zf {α:Type _}{l:List α}{i:Nat}(h:i<l.length):l[i]?=some l[i]:=List.getElem?_eq_getElem h
theorem Zg {n:Nat}:(dm n).length=n:=List.length_range ..
theorem Zh {α:Type _}{l:List α}:l.toArray.size=l.length:=List.size_toArray ..
theorem Zi {α:Type _}{a:α}{l:List α}:(a::l).length=l.length+1:=List.length_cons ..
theorem Zj (n:Nat):(n:Int).toNat=n:=Int.toNat_natCast n
theorem Zk {α:Type _}{a:α}:[a].length=1:=List.length_singleton ..
noncomputable abbrev Zl:=@PySem.wpAny_bind
noncomputable abbrev Zm:=@PySem.wpAny_pure
noncomputable abbrev Zn:=@PySem.Heap.get?_push_of_some
noncomputable abbrev Zo:=@PySem.Heap.get?_push_size
noncomputable abbrev Zp:=@PySem.Heap.lt_size
noncomputable abbrev Zq:=@Nat.le_refl
noncomputable abbrev Zr.{u}:=@Array.length_toList.{u}
namespace L2
open PySem PySem.Spec PyProof.Rows
noncomputable abbrev Yr:=Sum Int Str
noncomputable def Xe:Yr->Value->Bool
 | .inl k,v=>Value.isInt k v
 | .inr x,v=>Value.isStrOf x v
noncomputable def Zgb (w:World):Yr->Int
 | .inl k=>hashInt k
 | .inr x=>hashStr w x
theorem ZX:∀{k:Yr}{v:Value},Xe k v=true->(∃i t,k=eN i/\v=gU i t)\/(∃x t,k=eM x/\v=gT x t)
 | .inl i,v,h=>by
  obtain⟨t,e⟩:=Value.isInt_shape (k:=i) (v:=v) h;exact .inl ⟨i,t,rfl,e⟩
 | .inr x,v,h=>by
  obtain⟨t,e⟩:=Value.isStrOf_shape (x:=x) (v:=v) h;exact .inr ⟨x,t,rfl,e⟩
theorem Zal (i:Int)(t:Tok):Xe (.inl i) (.int i t)=true:=by simp[Xe,Value.isInt]
theorem Zak (x:Str)(t:Tok):Xe (.inr x) (.str x t)=true:=by simp[Xe,Value.isStrOf]
theorem Zep (a b:Int):decide ((eN a:Yr)=eN b)=(a == b):=by
 by_cases e:a=b
 ·subst e;simp
 ·have h:¬(eN a:Yr)=eN b:=fun q=>e (Sum.inl.inj q)
  rw[decide_eq_false h];exact (beq_eq_false_iff_ne.mpr e).symm
theorem Zem (a b:Str):decide ((eM a:Yr)=eM b)=decide (a=b):=by
 by_cases e:a=b
 ·subst e;simp
 ·have h:¬(eM a:Yr)=eM b:=fun q=>e (Sum.inr.inj q)
  rw[decide_eq_false h,decide_eq_false e]
theorem Zeo (a:Int)(b:Str):decide ((eN a:Yr)=eM b)=false:=decide_eq_false (fun q=>nomatch q)
theorem Zen (a:Str)(b:Int):decide ((eM a:Yr)=eN b)=false:=decide_eq_false (fun q=>nomatch q)
noncomputable def Z3 (prog:Program)(w:World):PySem.KeyKind prog w Yr where
 is:=Xe
 hash:=Zgb w
 inj:=fun v a b O hb=>by
  rcases ZX O with ⟨i,t,rfl,rfl⟩|⟨x,t,rfl,rfl⟩
  ·rcases ZX hb with ⟨j,u,rfl,e⟩|⟨y,u,rfl,e⟩
   ·injection e with z _;rw[z]
   ·exact nomatch e
  ·rcases ZX hb with ⟨j,u,rfl,e⟩|⟨y,u,rfl,e⟩
   ·exact nomatch e
   ·injection e with z _;rw[z]
 byValue:=fun k v h=>by
  rcases ZX h with ⟨i,t,rfl,rfl⟩|⟨x,t,rfl,rfl⟩ <;> rfl
 pyHash:=fun J h=>by
  rcases ZX J with ⟨i,t,rfl,rfl⟩|⟨x,t,rfl,rfl⟩
  ·exact wpAny_pyHash_int h
  ·exact wpAny_pyHash_str h
 eqBool:=fun Y J h=>by
  rcases ZX Y with ⟨i,t,rfl,rfl⟩|⟨x,t,rfl,rfl⟩
  ·rcases ZX J with ⟨j,u,rfl,rfl⟩|⟨y,u,rfl,rfl⟩
   ·rw[Zep] at h;exact wpAny_eqBool_int h
   ·rw[Zeo] at h;exact SeqAt.EqAt.int_str i t y u _ _ _ _ h
  ·rcases ZX J with ⟨j,u,rfl,rfl⟩|⟨y,u,rfl,rfl⟩
   ·rw[Zen] at h;exact SeqAt.EqAt.str_int x t j u _ _ _ _ h
   ·rw[Zem] at h;exact wpAny_eqBool_str h
 «strs»:=fun k x t v h=>by
  rcases ZX h with ⟨i,u,rfl,e⟩|⟨y,u,rfl,e⟩
  ·exact nomatch e
  ·injection e with z _
   subst z;cases v <;> rfl
theorem Vd (prog:Program)(w:World)(i:Int)(t:Tok):(Z3 prog w).is (.inl i) (.int i t)=true:=Zal i t
theorem Vc (prog:Program)(w:World)(x:Str)(t:Tok):(Z3 prog w).is (.inr x) (.str x t)=true:=Zak x t
inductive V where
 |non|bl (b:Bool)|int (i:Int)|str (x:Str)|byt (b:Array UInt8)|flt (b:UInt64)|ref (a:Addr)|ty (n:String)
 deriving DecidableEq
noncomputable def RelV:V->Value->Prop
 | .non,u=>u=bj
 | .bl b,u=>u=fx b
 | .int i,u=>∃t,u=gU i t
 | .str x,u=>∃t,u=gT x t
 | .byt b,u=>∃t,u=Value.bytes b t
 | .flt b,u=>∃t,u=Value.float b t
 | .ref a,u=>u=aw a
 | .ty n,u=>u=gB n
noncomputable abbrev ZI:List V->List Value->Prop:=gh RelV
theorem ZI.length {xs:List V}{us:List Value}(r:ZI xs us):xs.length=us.length:=fD r
theorem ZI.get:∀{xs:List V}{us:List Value}{i:Nat}{x:V},ZI xs us->xs[i]?=some x->∃u,us[i]?=some u/\RelV x u
 |_,_,_,_,.nil,e=>by simp at e
 |_,_,0,_,.cons r _,e=>by simp at e;subst e;exact⟨_,rfl,r⟩
 |_,_,i+1,x,.cons _ t,e=>by
  obtain⟨u,j,z⟩:=ZI.get (i:=i) (x:=x) t (by simpa using e);exact⟨u,by simpa using j,z⟩
theorem ZI.set {x:V}{u:Value}(r:RelV x u):∀{xs:List V}{us:List Value} (i:Nat),ZI xs us->ZI (xs.set i x) (us.set i u)
 |_,_,_,.nil=>.nil
 |_,_,0,.cons _ t=>.cons r t
 |_,_,i+1,.cons q t=>.cons q (ZI.set r i t)
theorem ZI.append:∀{xs j:List V}{us z:List Value},ZI xs us->ZI j z->ZI (xs++j) (us++z)
 |_,_,_,_,.nil,s=>s
 |_,_,_,_,.cons r t,s=>.cons r (ZI.append t s)
theorem ZI.take:∀{xs:List V}{us:List Value} (n:Nat),ZI xs us->ZI (xs.take n) (us.take n)
 |_,_,0,_=>.nil
 |_,_,_+1,.nil=>.nil
 |_,_,n+1,.cons r t=>.cons r (ZI.take n t)
theorem ZI.drop:∀{xs:List V}{us:List Value} (n:Nat),ZI xs us->ZI (xs.drop n) (us.drop n)
 |_,_,0,r=>r
 |_,_,_+1,.nil=>.nil
 |_,_,n+1,.cons _ t=>ZI.drop n t
noncomputable def J4:Option V->Option Value->Prop
 |some v,some u=>RelV v u
 |none,none=>True
 |_,_=>False
noncomputable def KV {j:Type}:List (j×V)->List (j×Value)->Prop:=gh fun (p:j×V) (q:j×Value)=>p.1=q.1/\RelV p.2 q.2
noncomputable def kV:Yr->V
 | .inl i=>.int i
 | .inr x=>.str x
inductive HO where
 |lst (xs:List V)
 |tup (xs:List V)
 |dK (kvs:List (Yr×V))|dT (kvs:List (List Yr×V))
 |set (S:Int->Bool) (n:Nat)
 |ins (C dx:Addr) (fs:List (Str×V))
 |own (x:Addr)
 |xd (fs:List (Str×V))
 |met (f x:Addr)
 |rng (lo hi:Int)
 |frz (o:Obj) (u:HO)
 |tbl (ps:Array Value)
 |ext (φ:Heap->Prop)
noncomputable abbrev Hp:=Addr->Option HO
noncomputable def upd (H:Hp)(a:Addr)(o:HO):Hp:=fun b=>if b=a then some o else H b
theorem Zy {H:Hp}{a:Addr}{o:HO}:upd H a o a=some o:=by unfold upd;rw[if_pos rfl]
theorem ZE {H:Hp}{a b:Addr}{o:HO}(h:b≠a):upd H a o b=H b:=by unfold upd;rw[if_neg h]
theorem ZbV {H:Hp}{a:Addr}{o u:HO}:upd (upd H a o) a u=upd H a u:=by
 funext b;unfold upd;split <;> rfl
theorem Zfs {H:Hp}{a b:Addr}{o u:HO}(h:H a=some o)(h':H b=some u)(d:o≠u):a≠b:=by
 intro e;subst e;rw[h] at h';exact d (aB h')
theorem ZH {H:Hp}{a b:Addr}{o:HO}(h:H a=some o)(h':H b=none):a≠b:=by
 intro e;subst e;rw[h] at h';cases h'
section
variable (P:Program)(w:World)
noncomputable def Z6 (H:Hp)(h:Heap)(a:Addr):HO->Prop
 | .lst J=>J.length<=sizeLine/\∃(j:List Value) (n:Nat),ZI J j/\h.get? a=some {cls:=.type "list",data:=.seq j.toArray n}
 | .tup J=>J.length<=sizeLine/\∃j:List Value,ZI J j/\IsTup h a j.toArray
 | .dK z=>z.length<=sizeLine/\(a == sysModules)=false/\∃vs,KV z vs/\h.DictOf (Z3 P w) a vs
 | .dT z=>z.length<=sizeLine/\(a == sysModules)=false/\∃J:List (List Yr×Addr×Value),
   gh (fun (p:List Yr×V) (q:List Yr×Addr×Value)=>p.1=q.1/\H q.2.1=some (.tup (p.1.map kV))/\RelV p.2 q.2.2) z J/\
   ∃o es ep,h.get? a=some o/\o.ExactDict/\o.data=.dict es ep/\es.toList=J.map (entryOfKey (tupleKind (Z3 P w)))/\(J.map (·.1)).Nodup
 | .set S n=>h.SetOf (intKind P w) a S n
 | .ins C Y fs=>H Y=some (.own a)/\fs.length<=1000/\Y≠a/\h.get? a=some (PySem.W.instObj C Y)/\
   ∃O,h.Ns1 Y O/\(∀f,J4 (fs.lookup f) (O f))/\PySem.Within O (fs.map (·.1))
 | .own _=>∃o,h.get? a=some o
 | .xd fs=>∃O,h.Ns1 a O/\∀f,J4 (fs.lookup f) (O f)
 | .rng lo hi=>∃t u v,h.get? a=some {cls:=.type "range",data:=.fields #[.int lo t,.int hi u,.int 1 v]}
 | .frz o u=>h.get? a=some o/\Z6 H h a u
 | .tbl ps=>h.get? a=some {cls:=.none,data:=.fields ps}
 | .met f x=>h.get? a=some (dS (.ref f) (.ref x))
 | .ext φ=>φ h/\(∃o,h.get? a=some o)/\∀h1 h2:Heap,φ h1->(∀o,h1.get? a=some o->h2.get? a=some o)->φ h2
noncomputable def WI (H:Hp)(h:Heap):Prop:=∀a o,H a=some o->Z6 P w H h a o
end
section
variable {P:Program}{w:World}{H H':Hp}{h h':Heap}{a:Addr}{o:HO}
theorem Z6.lt (x:Z6 P w H h a o):a<h.objs.size:=by
 cases o with
 |lst z=>obtain⟨_,_,_,_,e⟩:=x;exact Zp e
 |tup z=>obtain⟨_,_,_,p⟩:=x;exact p.lt
 |dK j=>obtain⟨_,_,_,_,o,_,_,e,_⟩:=x;exact Zp e
 |dT j=>obtain⟨_,_,_,_,o,_,_,e,_⟩:=x;exact Zp e
 |set S n=>obtain⟨o,_,_,_,e,_⟩:=x;exact Zp e
 |ins C J fs=>obtain⟨_,_,_,e,_⟩:=x;exact Zp e
 |own y=>obtain⟨_,e⟩:=x;exact Zp e
 |xd fs=>obtain⟨_,⟨_,_,_,e,_⟩,_⟩:=x;exact Zp e
 |rng lo O=>obtain⟨_,_,_,e⟩:=x;exact Zp e
 |frz Y u=>obtain⟨e,_⟩:=x;exact Zp e
 |tbl ps=>exact Zp (show h.get? a=some _ from x)
 |met f y=>exact Zp (show h.get? a=some _ from x)
 |ext φ=>obtain⟨_,⟨_,e⟩,_⟩:=x;exact Zp e
theorem gh.mapP {α z:Type}{F G:α->z->Prop}:∀{l₁:List α}{j:List z},gh F l₁ j->(∀a b,F a b->G a b)->gh G l₁ j
 |_,_,.nil,_=>.nil
 |_,_,.cons r t,f=>.cons (f _ _ r) (gh.mapP t f)
theorem Z6.stay (x:Z6 P w H h a o)(k:∀b u,(b=a\/H b=some (.own a))->h.get? b=some u->h'.get? b=some u)
  (ho:∀b,H b=some (.own a)->H' b=some (.own a)) (ht:∀b xs,H b=some (.tup xs)->H' b=some (.tup xs)):Z6 P w H' h' a o:=by
 induction o with
 |lst xs=>obtain⟨z,J,n,r,e⟩:=x;exact⟨z,J,n,r,k _ _ (.inl rfl) e⟩
 |tup xs=>obtain⟨z,J,r,ob,e,c⟩:=x;exact⟨z,J,r,ob,k _ _ (.inl rfl) e,c⟩
 |dK O=>obtain⟨z,y,vs,r,ob,es,j,e,c⟩:=x;exact⟨z,y,vs,r,ob,es,j,k _ _ (.inl rfl) e,c⟩
 |dT O=>
  obtain⟨z,y,xs,r,ob,es,j,e,c⟩:=x;exact⟨z,y,xs,gh.mapP r fun p q z=>⟨z.1,ht _ _ z.2.1,z.2.2⟩,ob,es,j,k _ _ (.inl rfl) e,c⟩
 |set S n=>obtain⟨ob,es,j,t,e,c⟩:=x;exact⟨ob,es,j,t,k _ _ (.inl rfl) e,c⟩
 |ins C dx fs=>
  obtain⟨d,z,ne,e,Y,⟨od,es,j,e2,c⟩,r⟩:=x;exact⟨ho _ d,z,ne,k _ _ (.inl rfl) e,Y,⟨od,es,j,k _ _ (.inr d) e2,c⟩,r⟩
 |own y=>obtain⟨ob,e⟩:=x;exact⟨ob,k _ _ (.inl rfl) e⟩
 |xd fs=>obtain⟨Y,⟨od,es,j,e,c⟩,r⟩:=x;exact⟨Y,⟨od,es,j,k _ _ (.inl rfl) e,c⟩,r⟩
 |rng lo hi=>obtain⟨t,u,v,e⟩:=x;exact⟨t,u,v,k _ _ (.inl rfl) e⟩
 |frz ob u ih=>obtain⟨e,q⟩:=x;exact⟨k _ _ (.inl rfl) e,ih q⟩
 |tbl ps=>
  have e:h.get? a=some {cls:=.none,data:=.fields ps}:=x;show h'.get? a=some {cls:=.none,data:=.fields ps};exact k a _ (.inl rfl) e
 |met f y=>
  have e:h.get? a=some (dS (.ref f) (.ref y)):=x;show h'.get? a=some (dS (.ref f) (.ref y));exact k a _ (.inl rfl) e
 |ext φ=>obtain⟨p,⟨o,e⟩,st⟩:=x;exact⟨st _ _ p fun o q=>k _ _ (.inl rfl) q,⟨o,k _ _ (.inl rfl) e⟩,st⟩
theorem WI.lt (x:WI P w H h)(e:H a=some o):a<h.objs.size:=(x a o e).lt
theorem WI.fresh (x:WI P w H h)(e:h.objs.size<=a):H a=none:=by
 cases q:H a with
 |none=>rfl
 |some u=>exact absurd (aj (x.lt q) e) (aW _)
theorem WI.kept (x:WI P w H h)(k:∀b u,h.get? b=some u->h'.get? b=some u):WI P w H h':=fun a o e=>
 (x a o e).stay (fun b u _ q=>k b u q) (fun _ q=>q) fun _ _ q=>q
theorem WI.laid (x:WI P w H h)(k:∀b u,h.get? b=some u->h'.get? b=some u)(J:h.objs.size<=a)(j:Z6 P w (upd H a o) h' a o):WI P w (upd H a o) h':=fun b u e=>by
 have z:=x.fresh J;by_cases hb:b=a
 ·subst hb;rw[Zy] at e;cases e;exact j
 ·rw[ZE hb] at e
  exact (x b u e).stay (fun c v _ q=>k c v q) (fun c q=>by rw[ZE (ZH q z)];exact q) fun c O q=>by rw[ZE (ZH q z)];exact q
end
noncomputable def Rd (H:Hp)(a:Addr)(u:HO):Prop:=H a=some u\/∃o,H a=some (.frz o u)
theorem Rd.ok {P:Program}{w:World}{H:Hp}{h:Heap}{a:Addr}{u:HO}(r:Rd H a u)(x:WI P w H h):Z6 P w H h a u:=by
 rcases r with r|⟨o,r⟩
 ·exact x a u r
 ·obtain⟨_,q⟩:=x a _ r
  exact q
noncomputable def Mut:Option HO->Prop
 |some (.lst _)=>True
 |some (.dK _)=>True
 |some (.dT _)=>True
 |some (.set _ _)=>True
 |some (.ins _ _ _)=>True
 |some (.ext _)=>True
 |_=>False
section
variable {P:Program}{w:World}{H:Hp}{h h':Heap}{x e:Addr}{o':HO}
theorem WI.write (ok:WI P w H h)(Y:Mut (H x))(he:e=x\/H e=some (.own x))(k:∀b u,b≠e->h.get? b=some u->h'.get? b=some u)(h9:∃u,h'.get? e=some u)
  (i0:Z6 P w (upd H x o') h' x o'):WI P w (upd H x o') h':=fun b u q=>by
 have J:∀c y,H c=some (.own y)->c≠x:=fun c y r z=>by subst z;rw[r] at Y;exact Y
 have O:∀c xs,H c=some (.tup xs)->c≠x:=fun c xs r z=>by subst z;rw[r] at Y;exact Y
 by_cases hb:b=x
 ·subst hb;rw[Zy] at q;cases q;exact i0
 ·rw[ZE hb] at q
  by_cases j:b=e
  ·have q':H b=some (.own x):=by
    rcases he with z|z
    ·exact absurd (j.trans z) hb
    ·rw[j];exact z
   rw[q] at q';cases q';obtain⟨v,hv⟩:=h9;exact⟨v,by rw[j];exact hv⟩
  ·refine (ok b u q).stay (fun c v hc r=>k c v ?_ r) (fun c r=>by rw[ZE (J c b r)];exact r) fun c xs r=>by rw[ZE (O c xs r)];exact r
   rcases hc with rfl|hc
   ·exact j
   ·rintro rfl
    rcases he with z|z
    ·exact J c b hc z
    ·rw[hc] at z;cases z;exact hb rfl
end
structure Un (fs ex:List Addr)(H H':Hp)(h h':Heap):Prop where
 keep:∀b o,h.get? b=some o->H b=none->b∉fs->b∉ex->h'.get? b=some o
 slot:∀b o,h.get? b=some o->H b=none->b∈fs->b∉ex->∃sl,h'.get? b=some {o with slots:=sl}
 free:∀b o,h.get? b=some o->H b=none->b∉ex->H' b=none
 there:∀b o,h.get? b=some o->b∉ex->∃o',h'.get? b=some o'
 tups:∀b xs,H b=some (.tup xs)->H' b=some (.tup xs)
 frzs:∀b o u,H b=some (.frz o u)->H' b=some (.frz o u)
 tbls:∀b ps,H b=some (.tbl ps)->∃more,H' b=some (.tbl (ps++more))
section
variable {fs fs' ex ex':List Addr}{H H1 H2:Hp}{h h1 h2 h':Heap}{a x e:Addr}{o:HO}
theorem Un.any (u:Un fs ex H H1 h h1){b:Addr}{ob:Obj}(q:h.get? b=some ob)(n:H b=none)(j:b∉ex):∃z,h1.get? b=some {ob with slots:=z}:=by
 by_cases hb:b∈fs
 ·exact u.slot b ob q n hb j
 ·exact⟨ob.slots,u.keep b ob q n hb j⟩
theorem Un.kept (k:∀b u,h.get? b=some u->h'.get? b=some u):Un fs ex H H h h':=
 ⟨fun b j q _ _ _=>k b j q,fun b j q _ _ _=>⟨j.slots,k b j q⟩,fun _ _ _ n _=>n,fun b j q _=>⟨j,k b j q⟩,fun _ _ q=>q,fun _ _ _ q=>q,fun _ z q=>⟨#[],by rw[q];simp⟩⟩
theorem Un.refl:Un fs ex H H h h:=Un.kept fun _ _ q=>q
theorem Un.laid (k:∀b u,h.get? b=some u->h'.get? b=some u)(z:h.objs.size<=a)(j:H a=none):Un fs ex H (upd H a o) h h' where
 keep:=fun b u q _ _ _=>k b u q
 slot:=fun b u q _ _ _=>⟨u.slots,k b u q⟩
 free:=fun b u q n _=>by rw[ZE (ay (aj (Zp q) z))];exact n
 there:=fun b u q _=>⟨u,k b u q⟩
 tups:=fun b J q=>by rw[ZE (ZH q j)];exact q
 frzs:=fun b u J q=>by rw[ZE (ZH q j)];exact q
 tbls:=fun b O q=>⟨#[],by rw[ZE (ZH q j),q];simp⟩
theorem Un.write (J:Mut (H x))(he:e=x\/H e=some (.own x))(k:∀b u,b≠e->h.get? b=some u->h'.get? b=some u)(O:∃u,h'.get? e=some u):Un fs ex H (upd H x o) h h':=by
 have hx:∀b,H b=none->b≠x:=fun b n z=>by subst z;rw[n] at J;exact J
 have hb:∀b,H b=none->b≠e:=fun b n z=>by
  subst z;rcases he with r|r
  ·exact hx b n r
  ·rw[n] at r;cases r
 have Y:∀b u,H b=some u->¬Mut (some u)->b≠x:=fun b u q nm z=>by subst z;rw[q] at J;exact nm J
 refine⟨fun b u q n _ _=>k b u (hb b n) q,fun b u q n _ _=>⟨u.slots,k b u (hb b n) q⟩,fun b u q n _=>by rw[ZE (hx b n)];exact n,fun b u q _=>?_,
  fun b xs q=>by rw[ZE (Y b _ q fun z=>z)];exact q,fun b u xs q=>by rw[ZE (Y b _ q fun z=>z)];exact q,fun b ps q=>⟨#[],by rw[ZE (Y b _ q fun z=>z),q];simp⟩⟩
 by_cases j:b=e
 ·subst j;exact O
 ·exact⟨u,k b u j q⟩
end
noncomputable def trk (h:Heap)(H:Hp):List Addr:=(dm h.objs.size).filter fun a=>(H a).isSome
noncomputable def XD (h:Heap)(H:Hp):Heap:=PySem.W.hideAll h (trk h H)
theorem Zan (h:Heap)(H:Hp):(XD h H).objs.size=h.objs.size:=PySem.W.hideAll_size _ _
theorem Zbn {h:Heap}{H:Hp}{b:Addr}{o:Obj}(e:h.get? b=some o)(n:H b=none):(XD h H).get? b=some o:=
 PySem.W.hideAll_get _ e fun j=>by
  have q:(H b).isSome=true:=(fu.mp j).2;rw[n] at q;simp at q
theorem Zcw {h:Heap}{H:Hp}{b:Addr}{o:Obj}(e:(XD h H).get? b=some o):h.get? b=some o/\H b=none:=by
 have j:h.get? b=some o:=PySem.W.of_hideAll (trk h H) e;refine⟨j,?_⟩;cases q:H b with
 |none=>rfl
 |some x=>
  have J:b∈trk h H:=fu.mpr ⟨List.mem_range.mpr (Zp j),by simp[q]⟩;have z:(XD h H).get? b=none:=PySem.W.hideAll_none (trk h H) J;rw[z] at e;cases e
structure Mod (K:ae)(mg:Str->Option Value)(base:Heap):Prop where
 kin:K.In base
 glob:base.Ns mainGlobals mg
 blt:∃mb,base.Ns builtinsNs mb/\∀x:Str,x ≠ "__name__"->mb x=bootBuiltins x
 nolimit:base.NoLimit
structure Cx where
 prog:Program
 w:World
 K:ae
 mg:Str->Option Value
 base:Heap
 A:Around
 N:List Str
 s₀:Shared
 H₀:Hp
 env:Env
 outer:List Env
 stack:List Env
 ex:List Addr
 fn:Str->Bool
 calm:Bool
 pn:List (Addr×Obj)
 xe:Value->Shared->Prop
noncomputable def V7 (l:List Env):List Addr:=l.filterMap (·.frame)
noncomputable abbrev Cx.fs (X:Cx):List Addr:=V7 X.outer
noncomputable def Vis (j:Scope)(x:Str):Prop:=j.names.lookup x=some .local\/j.names.lookup x=some .cell\/j.names.lookup x=some .free
noncomputable def Loc (j:Scope)(x:Str):Prop:=j.names.lookup x=some .local\/j.names.lookup x=some .cell
noncomputable def Look (env:Env)(h:Heap)(m:Str->Option Value)(x:Str)(u:Value):Prop:=
 (env.kindOf x=some .local/\m x=some u)\/((env.kindOf x=some .cell\/env.kindOf x=some .free)/\∃c,env.cells.lookup x=some c/\h.IsCell c (some u))
structure Cx.Ok (X:Cx):Prop where
 mod:Mod X.K X.mg X.base
 kind:X.env.scope.kind=.function
 glob:X.env.globals=mainGlobals
 blt:X.env.builtins=builtinsNs
 above:X.s₀.heap.objs.size<=X.env.locals
 inj:∀x y c,X.env.cells.lookup x=some c->X.env.cells.lookup y=some c->x=y
 has:∀x,(X.env.kindOf x=some .cell\/X.env.kindOf x=some .free)->∃c,X.env.cells.lookup x=some c
 cab:∀x c,X.fn x=true->X.env.cells.lookup x=some c->X.s₀.heap.objs.size<=c
 hd:X.calm=true->X.A.handled=none
 frames:X.A.frames=some X.stack
 stk:X.stack=X.outer\/(X.stack=X.env::X.outer/\X.env.frame=some X.env.locals)
 exf:∀b∈X.ex,b≠X.env.locals/\∀x c,X.env.cells.lookup x=some c->c≠b
 bs:∀b o,X.base.get? b=some o->X.s₀.heap.get? b=some o/\X.H₀ b=none
 bsz:X.base.objs.size<=X.s₀.heap.objs.size
 noex:∀b o,X.base.get? b=some o->b∉X.ex
 exfs:∀b∈X.ex,b∉X.fs
 funs:X.s₀.heap.FunFrames X.base X.outer
 frf:∀b∈X.fs,X.H₀ b=none
structure Inv (X:Cx)(pins:List (Addr×Obj))(σ:List (Option V))(H:Hp)(s:Shared):Prop where
 ok:X.Ok
 os:s.os=X.s₀.os
 bare:dk s.gens
 base:Un X.fs X.ex X.H₀ H X.s₀.heap s.heap
 loc:∃m,s.heap.Ns X.env.locals m/\∀(i:Nat) (x:Str) (v:V),X.N[i]?=some x->σ[i]?=some (some v)->Vis X.env.scope x->∃u,RelV v u/\Look X.env s.heap m x u
 cell:∀x c,X.env.cells.lookup x=some c->∃v,s.heap.IsCell c v
 free:H X.env.locals=none
 freeC:∀x c,X.env.cells.lookup x=some c->H c=none
 pin:∀p∈X.pn++pins,s.heap.get? p.1=some p.2/\H p.1=none/\p.1≠X.env.locals/\p.1∉X.fs/\∀v,p.2.data≠.cell v
 hok:WI X.prog X.w H s.heap
 len:σ.length=X.N.length
section
variable {X:Cx}{pins:List (Addr×Obj)}{σ:List (Option V)}{H H':Hp}{s:Shared}{h':Heap}
theorem Cx.Ok.nofr (ok:X.Ok){b:Addr}{o:Obj}(e:X.base.get? b=some o):b∉X.fs:=fun hb=>by
 have:=(ok.funs.mem hb).1;rw[e] at this;cases this
theorem Inv.bs (I:Inv X pins σ H s):∀b o,X.base.get? b=some o->s.heap.get? b=some o/\H b=none:=fun b o e=>
 ⟨I.base.keep b o (I.ok.bs b o e).1 (I.ok.bs b o e).2 (I.ok.nofr e) (I.ok.noex b o e),I.base.free b o (I.ok.bs b o e).1 (I.ok.bs b o e).2 (I.ok.noex b o e)⟩
theorem Inv.bk (I:Inv X pins σ H s):∀b o,X.base.get? b=some o->s.heap.get? b=some o:=fun b o e=>(I.bs b o e).1
theorem Inv.mod (I:Inv X pins σ H s):Mod X.K X.mg X.base:=I.ok.mod
theorem Inv.kIn (I:Inv X pins σ H s):X.K.In s.heap:=I.ok.mod.kin.keeps I.bk
theorem Inv.lt (I:Inv X pins σ H s):X.env.locals<s.heap.objs.size:=let ⟨_,j,_⟩:=I.loc;j.lt
theorem Inv.sz (I:Inv X pins σ H s):X.s₀.heap.objs.size<=s.heap.objs.size:=aG I.ok.above (gl I.lt)
theorem Inv.nofs (I:Inv X pins σ H s){a:Addr}(h:s.heap.objs.size<=a):a∉X.fs:=fun hb=>by
 obtain⟨_,o,j,_⟩:=I.ok.funs.mem hb;exact absurd (aj (Zp j) (aG I.sz h)) (aW _)
theorem Inv.cne (I:Inv X pins σ H s):∀x c,X.env.cells.lookup x=some c->c≠X.env.locals:=fun x c e z=>by
 obtain⟨v,o,O,hd⟩:=I.cell x c e;obtain⟨m,⟨Y,es,ep,j,J,_⟩,_⟩:=I.loc;rw[z,j] at O;cases O;rw[J] at hd;cases hd
theorem Inv.funs (I:Inv X pins σ H s):s.heap.FunFrames X.base X.outer:=by
 have all:∀(l:List Env),(∀b∈V7 l,b∈X.fs)->X.s₀.heap.FunFrames X.base l->s.heap.FunFrames X.base l:=by
  intro l;induction l with
  |nil=>intro _ _;trivial
  |cons env r O=>
   intro J hl;obtain⟨Y,⟨L,o,hf,hn,ho,hd⟩,hr⟩:=hl;have j:L∈X.fs:=J L (by unfold V7;rw[bh,hf];exact ai);obtain⟨sl,e⟩:=I.base.slot L o ho (I.ok.frf L j) j fun z=>I.ok.exfs L z j;exact⟨Y,⟨L,_,hf,hn,e,hd⟩,O (fun b hb=>J b (by unfold V7;rw[bh,hf];exact ah _ hb)) hr⟩
 exact all X.outer (fun _ hb=>hb) I.ok.funs
theorem Inv.stack (I:Inv X pins σ H s):s.heap.FunFrames X.base X.stack:=by
 rcases I.ok.stk with e|⟨e,hf⟩
 ·rw[e];exact I.funs
 ·rw[e]
  obtain⟨m,j,_⟩:=I.loc;refine .cons (by rw[I.ok.kind];decide) hf j ?_ I.funs;exact dF (aG I.ok.bsz I.ok.above)
theorem Inv.stkSub (I:Inv X pins σ H s):∀b∈V7 X.stack,b∈X.env.locals::X.fs:=fun b hb=>by
 rcases I.ok.stk with e|⟨e,hf⟩
 ·rw[e] at hb;exact ah _ hb
 ·rw[e] at hb
  unfold V7 at hb;rw[bh,hf] at hb;exact hb
theorem Inv.stkFree (I:Inv X pins σ H s):∀b∈V7 X.stack,H b=none:=fun b hb=>by
 rcases ak.mp (I.stkSub b hb) with e|hb
 ·rw[e];exact I.free
 ·obtain⟨_,o,j,_⟩:=I.ok.funs.mem hb
  exact I.base.free b o j (I.ok.frf b hb) fun z=>I.ok.exfs b z hb
theorem Inv.step {g':Array GenState}{t':Nat}{d':Drawn}{ch:List Addr}(I:Inv X pins σ H s)
  (J:∀b∈ch,(b∈X.ex\/X.s₀.heap.objs.size<=b)/\b≠X.env.locals/\(∀x c,X.env.cells.lookup x=some c->c≠b)/\∀p∈X.pn++pins,p.1≠b)
  (keep:∀b o,b≠X.env.locals->b∉X.fs->b∉ch->s.heap.get? b=some o->H b=none->h'.get? b=some o)
  (slot:∀b o,b≠X.env.locals->b∈X.fs->b∉ch->s.heap.get? b=some o->H b=none->∃sl,h'.get? b=some {o with slots:=sl}) (free:∀b o,b∉ch->s.heap.get? b=some o->H b=none->H' b=none)
  (h9:∀b o,b∉ch->s.heap.get? b=some o->∃o',h'.get? b=some o')
  (i0:∀b xs,H b=some (.tup xs)->H' b=some (.tup xs)) (i4:∀b o u,H b=some (.frz o u)->H' b=some (.frz o u)) (i5:∀b ps,H b=some (.tbl ps)->∃i6,H' b=some (.tbl (ps++i6)))
  (ns:∀m,s.heap.Ns X.env.locals m->h'.Ns X.env.locals m) (hok:WI X.prog X.w H' h') (hg:dk g') :
  Inv X pins σ H' {s with heap:=h',gens:=g',drawn:=d',toks:=t'}:=by
 have i7:∀b o,X.s₀.heap.get? b=some o->b≠X.env.locals:=fun b o e=>ay (aj (Zp e) I.ok.above);have neC:∀b o,X.s₀.heap.get? b=some o->b∉X.ex->b∉ch:=fun b o e j hb=>by
  rcases (J b hb).1 with z|z
  ·exact j z
  ·exact absurd (aj (Zp e) z) (aW _)
 have O:∀x c,X.env.cells.lookup x=some c->∀v,s.heap.IsCell c v->h'.IsCell c v:=fun x c e v ⟨o,ho,hd⟩=>by
  have Y:c∉ch:=fun z=>(J c z).2.2.1 x c e rfl;by_cases hc:c∈X.fs
  ·obtain⟨sl,q⟩:=slot c o (I.cne x c e) hc Y ho (I.freeC x c e)
   exact⟨_,q,hd⟩
  ·exact⟨o,keep c o (I.cne x c e) hc Y ho (I.freeC x c e),hd⟩
 refine⟨I.ok,I.os,hg,⟨fun b o e n hb j=>?_,fun b o e n hb j=>?_,fun b o e n j=>?_,fun b o e j=>?_,fun b xs e=>i0 b xs (I.base.tups b xs e),fun b o xs e=>i4 b o xs (I.base.frzs b o xs e),fun b ps e=>?_⟩,?_,fun x c e=>?_,?_,fun x c e=>?_,fun p hp=>?_,hok,I.len⟩
 ·exact keep b o (i7 b o e) hb (neC b o e j) (I.base.keep b o e n hb j) (I.base.free b o e n j)
 ·obtain⟨sl,e1⟩:=I.base.slot b o e n hb j
  obtain⟨i8,e2⟩:=slot b _ (i7 b o e) hb (neC b o e j) e1 (I.base.free b o e n j);exact⟨i8,e2⟩
 ·obtain⟨o',e1⟩:=I.base.there b o e j
  exact free b o' (neC b o e j) e1 (I.base.free b o e n j)
 ·obtain⟨o',e1⟩:=I.base.there b o e j
  exact h9 b o' (neC b o e j) e1
 ·obtain⟨m1,e1⟩:=I.base.tbls b ps e
  obtain⟨m2,e2⟩:=i5 b _ e1;exact⟨m1++m2,by rw[e2,Array.append_assoc]⟩
 ·obtain⟨m,hn,hl⟩:=I.loc
  refine⟨m,ns m hn,fun i x v e1 e2 e3=>?_⟩;obtain⟨u,r,l⟩:=hl i x v e1 e2 e3;refine⟨u,r,?_⟩;rcases l with l|⟨k,c,e,z⟩
  ·exact .inl l
  ·exact .inr ⟨k,c,e,O x c e _ z⟩
 ·obtain⟨v,z⟩:=I.cell x c e
  exact⟨v,O x c e v z⟩
 ·obtain⟨m,⟨o,_,_,ho,_⟩,_⟩:=I.loc
  exact free _ o (fun z=>(J _ z).2.1 rfl) ho I.free
 ·obtain⟨v,o,ho,hd⟩:=I.cell x c e
  exact free c o (fun z=>(J c z).2.2.1 x c e rfl) ho (I.freeC x c e)
 ·obtain⟨e,n,ne,nf,d⟩:=I.pin p hp
  have Y:p.1∉ch:=fun z=>(J p.1 z).2.2.2 p hp rfl;exact⟨keep p.1 p.2 ne nf Y e n,free p.1 p.2 Y e n,ne,nf,d⟩
theorem Inv.un {t':Nat}(I:Inv X pins σ H s)(u:Un X.fs [] H H' s.heap h')(J:WI X.prog X.w H' h'):Inv X pins σ H' {s with heap:=h',toks:=t'}:=by
 obtain⟨m,⟨o,es,ep,ho,r⟩,_⟩:=id I.loc;obtain⟨sl,hL⟩:=u.any ho I.free (by simp);exact I.step (g':=s.gens) (d':=s.drawn) (ch:=[]) (fun _ z=>nomatch z) (fun b o _ hb _ e n=>u.keep b o e n hb (by simp)) (fun b o _ hb _ e n=>u.slot b o e n hb (by simp)) (fun b o _ e n=>u.free b o e n (by simp)) (fun b o _ e=>u.there b o e (by simp)) u.tups u.frzs u.tbls (fun m' hm=>by
  obtain⟨o',O,Y,j,r'⟩:=hm;rw[ho] at j;cases j;exact⟨_,O,Y,hL,r'⟩) J I.bare
theorem Inv.call {g':Array GenState}{t':Nat}{d':Drawn}{ch:List Addr}(I:Inv X pins σ H s)(u:Un (V7 X.stack) ch H H' s.heap h')(Y:WI X.prog X.w H' h')(hg:dk g')
  (J:∀b∈ch,(b∈X.ex\/X.s₀.heap.objs.size<=b)/\b≠X.env.locals/\(∀x c,X.env.cells.lookup x=some c->c≠b)/\∀p∈X.pn++pins,p.1≠b) :
  Inv X pins σ H' {s with heap:=h',gens:=g',drawn:=d',toks:=t'}:=by
 obtain⟨m,⟨o,es,ep,ho,r⟩,_⟩:=id I.loc;obtain⟨sl,hL⟩:=u.any ho I.free fun z=>(J _ z).2.1 rfl;exact I.step (ch:=ch) J (fun b o hL hb j e n=>u.keep b o e n (fun z=>(ak.mp (I.stkSub b z)).elim hL hb) j) (fun b o _ _ j e n=>u.any e n j) (fun b o j e n=>u.free b o e n j) (fun b o j e=>u.there b o e j) u.tups u.frzs u.tbls (fun m' hm=>by
  obtain⟨o',h9,i0,O,r'⟩:=hm;rw[ho] at O;cases O;exact⟨_,h9,i0,hL,r'⟩) Y hg
theorem Inv.turned {t':Nat}{it:Addr}(I:Inv X pins σ H s)(k:∀b o,b≠it->s.heap.get? b=some o->h'.get? b=some o)(Y:H it=none)(O:it≠X.env.locals)
  (h1:it∈X.ex\/X.s₀.heap.objs.size<=it) (h2:∀x c,X.env.cells.lookup x=some c->c≠it) (h3:∀p∈X.pn++pins,p.1≠it):Inv X pins σ H {s with heap:=h',toks:=t'}:=by
 have J:∀b u,H b=some u->b≠it:=fun b u e z=>by rw[z,Y] at e;cases e
 refine I.step (g':=s.gens) (d':=s.drawn) (ch:=[it]) (fun b hb=>?_) (fun b o _ _ j e _=>k b o (fun z=>j (by simp[z])) e) (fun b o _ _ j e _=>⟨o.slots,k b o (fun z=>j (by simp[z])) e⟩) (fun _ _ _ _ n=>n)
  (fun b o j e=>⟨o,k b o (fun z=>j (by simp[z])) e⟩) (fun _ _ e=>e) (fun _ _ _ e=>e) (fun b ps e=>⟨#[],by rw[e];simp⟩) (fun m hm=>?_) (fun b u e=>?_) I.bare
 ·have e:b=it:=by simpa using hb
  subst e;exact⟨h1,O,h2,h3⟩
 ·obtain⟨o,es,ep,ho,r⟩:=hm
  exact⟨o,es,ep,k _ o (a8 O) ho,r⟩
 ·refine (I.hok b u e).stay (fun c v j q=>k c v ?_ q) (fun _ q=>q) fun _ _ q=>q
  rcases j with z|z
  ·rw[z];exact J b u e
  ·exact J c _ z
theorem Inv.tok (I:Inv X pins σ H s)(t:Nat):Inv X pins σ H {s with toks:=t}:=I.un (h':=s.heap) (t':=t) Un.refl I.hok
theorem Inv.kept {t':Nat}(I:Inv X pins σ H s)(k:∀b u,s.heap.get? b=some u->h'.get? b=some u):Inv X pins σ H {s with heap:=h',toks:=t'}:=I.un (Un.kept k) (I.hok.kept k)
theorem Inv.laid {a:Addr}{o:HO}{t':Nat}(I:Inv X pins σ H s)(k:∀b u,s.heap.get? b=some u->h'.get? b=some u)(j:s.heap.objs.size<=a)(z:Z6 X.prog X.w (upd H a o) h' a o) :
  Inv X pins σ (upd H a o) {s with heap:=h',toks:=t'}:=I.un (Un.laid k j (I.hok.fresh j)) (I.hok.laid k j z)
theorem Inv.write {x e:Addr}{o:HO}{t':Nat}(I:Inv X pins σ H s)(J:Mut (H x))(O:e=x\/H e=some (.own x))(k:∀b u,b≠e->s.heap.get? b=some u->h'.get? b=some u)(j:∃u,h'.get? e=some u)
  (z:Z6 X.prog X.w (upd H x o) h' x o):Inv X pins σ (upd H x o) {s with heap:=h',toks:=t'}:=I.un (Un.write J O k j) (I.hok.write J O k j z)
theorem Inv.weak {j:List (Option V)}(I:Inv X pins σ H s)(hl:j.length=σ.length)(w:∀(i:Nat) v,j[i]?=some (some v)->σ[i]?=some (some v)):Inv X pins j H s:=
 ⟨I.ok,I.os,I.bare,I.base,let ⟨m,J,z⟩:=I.loc;⟨m,J,fun i x v O Y e3=>z i x v O (w i v Y) e3⟩,I.cell,I.free,I.freeC,I.pin,I.hok,hl.trans I.len⟩
theorem Inv.pins_of {j:List (Addr×Obj)}(I:Inv X pins σ H s)(h:∀p∈j,s.heap.get? p.1=some p.2/\H p.1=none/\p.1≠X.env.locals/\p.1∉X.fs/\∀v,p.2.data≠.cell v):Inv X j σ H s:=
 ⟨I.ok,I.os,I.bare,I.base,I.loc,I.cell,I.free,I.freeC,fun p J=>(bd.mp J).elim (fun z=>I.pin p (bb _ z)) (h p),I.hok,I.len⟩
theorem JI {N:List Str}(z:N.Nodup){i j:Nat}{x:Str}(a:N[i]?=some x)(b:N[j]?=some x):i=j:=by
 obtain⟨Y,J⟩:=aK.mp a;obtain⟨h2,O⟩:=aK.mp b;exact (List.getElem_inj z).mp (J.trans O.symm)
theorem US {M:Model}{A:Around}{E:Value->Shared->Prop}{i:Nat}{x:Str}{v:V}{u:Value}{Q:Unit->Shared->Prop}(I:Inv X pins σ H s)(hN:X.N.Nodup)(hi:X.N[i]?=some x)(hx:Loc X.env.scope x)(r:RelV v u)
  (h:∀s',Inv X pins (σ.set i (some v)) H s'->(∃a,aS a s.heap s'.heap/\(a=X.env.locals\/X.env.cells.lookup x=some a))->Q () s') (hf:X.fn x=true\/X.env.scope.names.lookup x=some .local:=by first|exact .inl rfl|exact .inr rfl|assumption):wpAny M A (storeName X.env x u) Q E s:=by
 obtain⟨m,hn,hl⟩:=id I.loc;have i5:(X.env.scope.kind == .class || (X.env.scope.kind == .module && X.env.locals != X.env.globals))=false:=by rw[I.ok.kind];rfl
 have i0:i < σ.length:=by rw[I.len];exact (aK.mp hi).1
 have cne:=I.cne;have O:∀{a:Addr}{h':Heap},(∃o,s.heap.get? a=some o/\H a=none)->aS a s.heap h'->WI X.prog X.w H h':=fun {a h'} ha J b ob e=>by
  obtain⟨_,_,h9⟩:=ha;refine (I.hok b ob e).stay (fun c w' hc q=>(J.2 c ?_).trans q) (fun _ q=>q) fun _ _ q=>q;rintro rfl;rcases hc with rfl|hc
  ·rw[h9] at e;cases e
  ·rw[h9] at hc;cases hc
 rcases hx with hk|hk
 ·refine wpAny_storeName_local hk hn (fun h' j4 J=>?_) i5
  obtain⟨oL,_,_,j6,_⟩:=id hn;refine h _ ⟨I.ok,I.os,I.bare,⟨fun b o e n hb hx=>?_,fun b o e n hb hx=>?_,I.base.free,fun b o e hx=>?_,I.base.tups,I.base.frzs,I.base.tbls⟩,⟨_,j4,fun j y v' Y e2 e3=>?_⟩,fun y c e=>?_,I.free,I.freeC,fun p hp=>?_,O ⟨oL,j6,I.free⟩ J,by simpa using I.len⟩ ⟨_,J,.inl rfl⟩
  ·exact (J.2 b (ay (aj (Zp e) I.ok.above))).trans (I.base.keep b o e n hb hx)
  ·obtain⟨sl,Y⟩:=I.base.slot b o e n hb hx
   exact⟨sl,(J.2 b (ay (aj (Zp e) I.ok.above))).trans Y⟩
  ·obtain⟨o',Y⟩:=I.base.there b o e hx
   exact⟨o',(J.2 b (ay (aj (Zp e) I.ok.above))).trans Y⟩
  ·by_cases hj:j=i
   ·subst hj
    rw[hi] at Y;cases Y;rw[du i0] at e2;cases e2;exact⟨u,r,.inl ⟨hk,by simp⟩⟩
   ·rw[dH (a8 hj)] at e2
    obtain⟨u',r',q⟩:=hl j y v' Y e2 e3;refine⟨u',r',?_⟩;rcases q with ⟨k,e⟩|⟨k,c,e,z⟩
    ·refine .inl ⟨k,?_⟩
     have:y≠x:=fun e=>hj (JI hN Y (e▸hi));simp[this,e]
    ·exact .inr ⟨k,c,e,z.sameBut J (cne y c e)⟩
  ·obtain⟨w',z⟩:=I.cell y c e
   exact⟨w',z.sameBut J (cne y c e)⟩
  ·obtain⟨e,n,ne,nf,d⟩:=I.pin p hp
   exact⟨(J.2 p.1 ne).trans e,n,ne,nf,d⟩
 ·have i4:X.fn x=true:=by
   rcases hf with z|z
   ·exact z
   ·rw[z] at hk;cases hk
  obtain⟨c,hc⟩:=I.ok.has x (.inl hk);obtain⟨w',z⟩:=I.cell x c hc;refine wpAny_storeName_cell I.ok.kind hk hc z (fun h' i6 J=>?_);obtain⟨oc,i7,i8⟩:=id z;refine h {s with heap:=h'} ⟨I.ok,I.os,I.bare,⟨fun b o e n hb hx=>?_,fun b o e n hb hx=>?_,I.base.free,fun b o e hx=>?_,I.base.tups,I.base.frzs,I.base.tbls⟩,⟨m,hn.sameBut J (a8 (cne x c hc)),fun j y v' Y e2 e3=>?_⟩,fun y c' e=>?_,I.free,I.freeC,fun p hp=>?_,O ⟨oc,i7,I.freeC x c hc⟩ J,by simpa using I.len⟩ ⟨c,J,.inr hc⟩
  ·exact (J.2 b (ay (aj (Zp e) (I.ok.cab x c i4 hc)))).trans (I.base.keep b o e n hb hx)
  ·obtain⟨sl,Y⟩:=I.base.slot b o e n hb hx
   exact⟨sl,(J.2 b (ay (aj (Zp e) (I.ok.cab x c i4 hc)))).trans Y⟩
  ·obtain⟨o',Y⟩:=I.base.there b o e hx
   exact⟨o',(J.2 b (ay (aj (Zp e) (I.ok.cab x c i4 hc)))).trans Y⟩
  ·by_cases hj:j=i
   ·subst hj
    rw[hi] at Y;cases Y;rw[du i0] at e2;cases e2;exact⟨u,r,.inr ⟨.inl hk,c,hc,i6⟩⟩
   ·rw[dH (a8 hj)] at e2
    obtain⟨u',r',q⟩:=hl j y v' Y e2 e3;refine⟨u',r',?_⟩;rcases q with q|⟨k,c',e,z'⟩
    ·exact .inl q
    ·refine .inr ⟨k,c',e,z'.sameBut J ?_⟩
     rintro rfl;exact hj (JI hN Y (I.ok.inj _ _ _ e hc▸hi))
  ·by_cases i9:c'=c
   ·subst i9;exact⟨_,i6⟩
   ·obtain⟨w2,z2⟩:=I.cell y c' e
    exact⟨w2,z2.sameBut J i9⟩
  ·obtain⟨e,n,ne,nf,d⟩:=I.pin p hp
   refine⟨(J.2 p.1 ?_).trans e,n,ne,nf,d⟩;intro q;rw[q,i7] at e;have q':oc=p.2:=aB e;exact d w' (by rw[<-q'];exact i8)
theorem YR {M:Model}{A:Around}{E:Value->Shared->Prop}{i:Nat}{x:Str}{v:V}{u:Value}{Q:Unit->Shared->Prop}(I:Inv X pins σ H s)(j:X.N.Nodup)(z:X.N[i]?=some x)(J:Loc X.env.scope x)(r:RelV v u)
  (h:∀s',Inv X pins (σ.set i (some v)) H s'->Q () s') (O:X.fn x=true\/X.env.scope.names.lookup x=some .local:=by first|exact .inl rfl|exact .inr rfl|assumption):wpAny M A (storeName X.env x u) Q E s:=
 US I j z J r (fun s' Y _=>h s' Y) O
theorem Inv.call' {s':Shared}{ch:List Addr}(I:Inv X pins σ H s)(ho:s'.os=s.os)(u:Un (V7 X.stack) ch H H' s.heap s'.heap)(j:WI X.prog X.w H' s'.heap)(hg:dk s'.gens)
  (z:∀b∈ch,(b∈X.ex\/X.s₀.heap.objs.size<=b)/\b≠X.env.locals/\(∀x c,X.env.cells.lookup x=some c->c≠b)/\∀p∈X.pn++pins,p.1≠b):Inv X pins σ H' s':=by
 obtain⟨h',J,O,Y,o'⟩:=s';have e:o'=s.os:=ho;subst e;exact I.call (g':=J) (t':=Y) (d':=O) u j hg z
end
noncomputable abbrev XK:=Value->Option Addr->Hp->Prop
noncomputable abbrev St:=List (Option V)
noncomputable abbrev VK:=V->Hp->Prop
noncomputable abbrev TE:=St->Hp->VK->Prop
noncomputable abbrev TT:=St->Hp->(Bool->Hp->Prop)->Prop
noncomputable abbrev TA:=St->Hp->(List V->Hp->Prop)->Prop
structure YC where
 nx:St->Hp->Prop
 rt:VK
 bk:St->Hp->Prop:=fun _ _=>False
 ct:St->Hp->Prop:=fun _ _=>False
noncomputable abbrev TS:=YC->St->Hp->Prop
noncomputable def EP (X:Cx)(j:List (Addr×Obj))(J:St)(Q:VK)(u:Value)(s':Shared):Prop:=∃v z,Inv X j J z s'/\RelV v u/\Q v z
noncomputable def TP (X:Cx)(j:List (Addr×Obj))(J:St)(Q:Bool->Hp->Prop)(b:Bool)(s':Shared):Prop:=∃z,Inv X j J z s'/\Q b z
noncomputable def AP (X:Cx)(j:List (Addr×Obj))(O:St)(Q:List V->Hp->Prop)(Y:List Value)(s':Shared):Prop:=∃z J,Inv X j O J s'/\ZI z Y/\Q z J
noncomputable def SP (X:Cx)(z:List (Addr×Obj))(D:YC)(f:Flow)(s':Shared):Prop:=
 match f with
 | .next=>∃ j J,Inv X z j J s'/\D.nx j J
 | .brk=>∃ j J,Inv X z j J s'/\D.bk j J
 | .cont=>∃ j J,Inv X z j J s'/\D.ct j J
 | .ret u=>∃v j J,Inv X z j J s'/\RelV v u/\D.rt v J
noncomputable def PE (X:Cx)(e:Expr)(t:TE):Prop:=
 ∀(j:List (Addr×Obj)) (s:Shared) (z:St) (H:Hp) (Q:VK),Inv X j z H s->t z H Q->wpAny (model X.prog X.w) X.A (eval e X.env) (EP X j z Q) X.xe s
noncomputable def PT (X:Cx)(e:Expr)(t:TT):Prop:=
 ∀(j:List (Addr×Obj)) (s:Shared) (z:St) (H:Hp) (Q:Bool->Hp->Prop),Inv X j z H s->t z H Q->wpAny (model X.prog X.w) X.A (isTrue e X.env (eval e X.env)) (TP X j z Q) X.xe s
noncomputable def PW (X:Cx)(e:Expr)(t:TT):Prop:=
 ∀(z:Sem Value) (j:List (Addr×Obj)) (s:Shared) (J:St) (H:Hp) (Q:Bool->Hp->Prop),Inv X j J H s->t J H Q->wpAny (model X.prog X.w) X.A (isTrue e X.env z) (TP X j J Q) X.xe s
theorem PW.pt {X:Cx}{e:Expr}{t:TT}(h:PW X e t):PT X e t:=h _
noncomputable def PA (X:Cx)(J:List Expr)(t:TA):Prop:=
 ∀(pos:Pos) (j:List (Addr×Obj)) (s:Shared) (z:St) (H:Hp) (Q:List V->Hp->Prop),Inv X j z H s->t z H Q->wpAny (model X.prog X.w) X.A (spliced (backTo pos (starEach J X.env))) (AP X j z Q) X.xe s
noncomputable def PS (X:Cx)(st:Stmt)(t:TS):Prop:=
 ∀(j:List (Addr×Obj)) (s:Shared) (z:St) (H:Hp) (D:YC),Inv X j z H s->t D z H->wpAny (model X.prog X.w) X.A (exec st X.env) (SP X j D) X.xe s
noncomputable def J5 (X:Cx)(st:List Stmt)(t:TS):Prop:=
 ∀(j:List (Addr×Obj)) (s:Shared) (z:St) (H:Hp) (D:YC),Inv X j z H s->t D z H->wpAny (model X.prog X.w) X.A (execs st X.env) (SP X j D) X.xe s
theorem ZW {α:Type}{t:Sem α}{Q j:α->Shared->Prop}{M:Model}{A:Around}{E:Value->Shared->Prop}{s:Shared}(h:wpAny M A t Q E s)(z:∀a s,Q a s->j a s):wpAny M A t j E s:=a6 h z fun _ _ x=>x
section
variable {X:Cx}
noncomputable def Yc (i:Nat):TE:=fun σ H Q=>∃v,σ[i]?=some (some v)/\Q v H
noncomputable def tC (v:V):TE:=fun _ H Q=>Q v H
theorem ZdY {i:Nat}{x:Str}{pos:Pos}(hN:X.N[i]?=some x)(hv:Vis X.env.scope x)(Y:(x == ("__debug__":Str))=false:=by decide)(h9:(x == ("__classdict__":Str))=false:=by decide):PE X (.Name x pos) (Yc i):=by
 intro O s σ H Q I h;obtain⟨v,e,h⟩:=h;obtain⟨m,hn,hl⟩:=I.loc;obtain⟨u,r,l⟩:=hl i x v hN e hv;have z:EP X O σ Q u s:=⟨v,H,I,r,h⟩;rcases l with ⟨J,hm⟩|⟨J,c,hc,j⟩
 ·exact wpAny_Name (wpAny_loadName_local I.ok.kind J hn hm z) Y
 ·rcases J with J|J
  ·exact wpAny_Name (wpAny_loadName_cell I.ok.kind J hc j z) Y
  ·exact wpAny_Name (wpAny_loadName_free I.ok.kind J hc j z h9) Y
theorem Zt {i j pos}:PE X (.Constant (.int i) j pos) (tC (.int i)):=fun _ _ _ H _ I h=>wpAny_Constant_int ⟨.int i,H,I.tok _,⟨_,rfl⟩,h⟩
theorem Zdp {b j pos}:PE X (.Constant (.bool b) j pos) (tC (.bl b)):=fun _ _ _ H _ I h=>Constant_bool ⟨.bl b,H,I,rfl,h⟩
theorem Ym {j pos}:PE X (.Constant .none j pos) (tC .non):=fun _ _ _ H _ I h=>Constant_none ⟨.non,H,I,rfl,h⟩
theorem ZA {x j pos}:PE X (.Constant (.str x) j pos) (tC (.str x)):=fun _ _ _ H _ I h=>dZ ⟨.str x,H,I.tok _,⟨_,rfl⟩,h⟩
noncomputable def Gl (X:Cx)(x:Str):Prop:=X.env.kindOf x=some .globalImplicit
theorem Jo {E:Value->Shared->Prop}{j:List (Addr×Obj)}{s:Shared}{σ:St}{H:Hp}{x:Str}{u:Value}{pos:Pos}{Q:Value->Shared->Prop}(I:Inv X j σ H s)(z:Gl X x)(J:X.mg x=some u)(h:Q u s)
  (O:(x == ("__debug__":Str))=false:=by decide):wpAny (model X.prog X.w) X.A (eval (.Name x pos) X.env) Q E s:=
 fA I.ok.kind z (Calls.loadGlobal_global (by rw[I.ok.glob];exact I.mod.glob.keeps I.bk) J h) O
theorem W4 {E:Value->Shared->Prop}{j:List (Addr×Obj)}{s:Shared}{σ:St}{H:Hp}{x:Str}{u:Value}{pos:Pos}{Q:Value->Shared->Prop}(I:Inv X j σ H s)(z:Gl X x)(J:X.mg x=none)(O:bootBuiltins x=some u)(h:Q u s)
  (Y:x ≠ "__name__":=by decide) (hd:(x == ("__debug__":Str))=false:=by decide):wpAny (model X.prog X.w) X.A (eval (.Name x pos) X.env) Q E s:=by
 obtain⟨mb,h1,h2⟩:=I.mod.blt;exact fA I.ok.kind z (Calls.loadGlobal_builtin (by rw[I.ok.glob];exact I.mod.glob.keeps I.bk) J (by rw[I.ok.blt];exact h1.keeps I.bk) ((h2 x Y).trans O) h) hd
theorem Zck {x:Str}{v:V}{u:Value}{pos:Pos}(j:Gl X x)(z:X.mg x=some u)(r:RelV v u)(J:(x == ("__debug__":Str))=false:=by decide):PE X (.Name x pos) (tC v):=
 fun _ _ _ H _ I h=>Jo I j z ⟨v,H,I,r,h⟩ J
theorem Zco {x:Str}{v:V}{u:Value}{pos:Pos}(j:Gl X x)(z:X.mg x=none)(J:bootBuiltins x=some u)(r:RelV v u)(O:x ≠ "__name__":=by decide)(Y:(x == ("__debug__":Str))=false:=by decide):PE X (.Name x pos) (tC v):=
 fun _ _ _ H _ I h=>W4 I j z J ⟨v,H,I,r,h⟩ O Y
variable {a b:Expr}{ta tb:TE}{pos:Pos}
noncomputable def tB (t:TE):TT:=fun j H Q=>t j H fun x z=>∃c,x=.bl c/\Q c z
theorem Wf {e:Expr}{t:TE}(h:PE X e t)(J:∀j,isTrue e X.env j=(do let v <-j;standAt e.pos;holding [v] (truthy v)):=by intro _;rfl):PT X e (tB t):=by
 intro z s O H Q I Y;refine isTrue_plain (ZW (h z s O H _ I Y) fun v s1 ⟨x,H1,I1,r1,q1⟩=>?_) (J _);obtain⟨d,rfl,q⟩:=q1;cases r1;exact dh ⟨H1,I1,q⟩
variable {tA tB':TT}{rest:List Expr}
noncomputable def ZdF (t u:TT):TT:=fun j H Q=>t j H fun c z=>if c=true then u j z Q else Q false z
noncomputable def tOr (t u:TT):TT:=fun j H Q=>t j H fun c z=>if c=true then Q true z else u j z Q
noncomputable def ZaM (t:TT):TT:=fun j H Q=>t j H fun c z=>Q (!c) z
theorem YA (z:PT X a tA):PW X (.BoolOp .And [a] pos) tA:=by
 intro O j s J H Q I h;refine isTrue_and (ZW (z j s J H Q I h) fun c Y e=>?_);cases c with
 |true=>exact isTrue_and_nil e
 |false=>exact e
theorem JE (z:PT X a tA):PW X (.BoolOp .Or [a] pos) tA:=by
 intro O j s J H Q I h;refine isTrue_or (ZW (z j s J H Q I h) fun c Y e=>?_);cases c with
 |false=>exact isTrue_or_nil e
 |true=>exact e
theorem YY (ha:PT X a tA)(hb:PW X (.BoolOp .And (b::rest) pos) tB'):PW X (.BoolOp .And (a::b::rest) pos) (ZdF tA tB'):=by
 intro wh j s z H Q I h;refine isTrue_and (ZW (ha j s z H _ I h) fun c s1 ⟨J,O,Y⟩=>?_);cases c with
 |true=>exact hb wh j s1 z J Q O Y
 |false=>exact⟨J,O,Y⟩
theorem WM (ha:PT X a tA)(hb:PW X (.BoolOp .Or (b::rest) pos) tB'):PW X (.BoolOp .Or (a::b::rest) pos) (tOr tA tB'):=by
 intro wh j s z H Q I h;refine isTrue_or (ZW (ha j s z H _ I h) fun c s1 ⟨J,O,Y⟩=>?_);cases c with
 |true=>exact⟨J,O,Y⟩
 |false=>exact hb wh j s1 z J Q O Y
theorem Za3 (z:PT X a tA):PT X (.UnaryOp .Not a pos) (ZaM tA):=by
 intro j s J H Q I h;exact isTrue_not (z j s J H (fun c O=>Q (!c) O) I h)
noncomputable def Ze3 (ta tb:TE):TE:=fun j H Q=>ta j H fun x z=>∃c,x=.bl c/\if c=true then tb j z Q else Q (.bl false) z
theorem ZdZ {op}{t:TE}(h:PE X a t):PE X (.BoolOp op [a] pos) t:=fun j s z H Q I J=>BoolOp_one (h j s z H Q I J)
theorem Zd1 (ha:PE X a ta)(hb:PE X (.BoolOp .And (b::rest) pos) tb):PE X (.BoolOp .And (a::b::rest) pos) (Ze3 ta tb):=by
 intro j s J H Q I h;refine BoolOp_and (ZW (ha j s J H _ I h) fun v s1 ⟨x,O,Y,r1,z⟩=>?_);obtain⟨c,rfl,z⟩:=z;cases r1;refine dh ?_;cases c with
 |true=>exact hb j s1 J O Q Y z
 |false=>exact⟨.bl false,O,Y,rfl,z⟩
noncomputable def tIf (t:TT)(ta tb:TE):TE:=fun j H Q=>t j H fun c z=>if c=true then ta j z Q else tb j z Q
theorem Z1 {c:Expr}(hc:PT X c tA)(ha:PE X a ta)(hb:PE X b tb):PE X (.IfExp c a b pos) (tIf tA ta tb):=by
 intro j s z H Q I h;refine wpAny_IfExp (ZW (hc j s z H _ I h) fun d J ⟨O,Y,q1⟩=>?_);cases d with
 |true=>exact ha j J z O Q Y q1
 |false=>exact hb j J z O Q Y q1
end
noncomputable def Wr (K:ae)(H:Hp)(a:Addr)(xs:List V):Prop:=
 Rd H a (.lst xs)\/
  ∃(o:Obj) (j:Array Value) (n:Nat),K.lookup a=some o/\o.cls=.type "list"/\o.dict=none/\o.data=.seq j n/\j.size<=sizeLine/\ZI xs j.toList
noncomputable def Jq (K:ae)(H:Hp)(a:Addr)(xs:List V):Prop:=
 Rd H a (.tup xs)\/
  ∃(o:Obj) (j:Array Value) (n:Nat),K.lookup a=some o/\o.cls=.type "tuple"/\o.data=.seq j n/\j.size<=sizeLine/\ZI xs j.toList
noncomputable def Zgh:Value->Option V
 | .none=>some .non
 | .bool b=>some (.bl b)
 | .int i _=>some (.int i)
 | .str x _=>some (.str x)
 | .bytes b _=>some (.byt b)
 | .float b _=>some (.flt b)
 | .ref a=>some (.ref a)
 | .type n=>some (.ty n)
 |_=>none
theorem RelV.abs {x:V}{u:Value}(r:RelV x u):Zgh u=some x:=by
 cases x with
 |non=>cases r;rfl
 |bl _=>cases r;rfl
 |int _=>obtain⟨t,rfl⟩:=r;rfl
 |str _=>obtain⟨t,rfl⟩:=r;rfl
 |byt _=>obtain⟨t,rfl⟩:=r;rfl
 |flt _=>obtain⟨t,rfl⟩:=r;rfl
 |ref _=>cases r;rfl
 |ty _=>cases r;rfl
theorem RelV.inj {x y:V}{u:Value}(r:RelV x u)(q:RelV y u):x=y:=aB (r.abs.symm.trans q.abs)
theorem ZI.inj:∀{xs j:List V}{us:List Value},ZI xs us->ZI j us->xs=j
 |_,_,_,.nil,.nil=>rfl
 |_,_,_,.cons r t,.cons z J=>by rw[r.inj z,ZI.inj t J]
section
variable {X:Cx}{pins:List (Addr×Obj)}{σ:St}{H:Hp}{s:Shared}{a:Addr}{xs ys:List V}
theorem Wr.of {K:ae}(h:H a=some (.lst xs)):Wr K H a xs:=.inl (.inl h)
theorem Jq.of {K:ae}(h:H a=some (.tup xs)):Jq K H a xs:=.inl (.inl h)
theorem Inv.list (I:Inv X pins σ H s)(h:Wr X.K H a xs):∃j:List Value,ZI xs j/\PlainL s.heap a j.toArray/\xs.length<=sizeLine:=by
 rcases h with h|⟨o,j,n,J,O,hd,Y,hz,r⟩
 ·obtain⟨z,j,n,r,e⟩:=h.ok I.hok
  exact⟨j,r,⟨_,n,e,rfl,rfl,rfl⟩,z⟩
 ·refine⟨j.toList,r,⟨o,n,I.kIn a o J,O,hd,by simpa using Y⟩,?_⟩
  have e:=r.length;simp only[Zr] at e;omega
theorem Inv.tuple (I:Inv X pins σ H s)(h:Jq X.K H a xs):∃j:List Value,ZI xs j/\IsTup s.heap a j.toArray/\xs.length<=sizeLine:=by
 rcases h with h|⟨o,j,n,J,O,Y,hz,r⟩
 ·obtain⟨z,j,r,p⟩:=h.ok I.hok
  exact⟨j,r,p,z⟩
 ·refine⟨j.toList,r,⟨o,I.kIn a o J,O,n,by simpa using Y⟩,?_⟩
  have e:=r.length;simp only[Zr] at e;omega
theorem Inv.list_inj (I:Inv X pins σ H s)(h:Wr X.K H a xs)(h':Wr X.K H a ys):xs=ys:=by
 obtain⟨z,r,⟨o,n,e,_,_,d⟩,_⟩:=I.list h;obtain⟨j,Y,⟨o',n',J,_,_,O⟩,_⟩:=I.list h';rw[e] at J;cases J;rw[d] at O;injection O with d1 _;have:z=j:=by simpa using congrArg Array.toList d1
 subst this;exact r.inj Y
theorem Inv.tuple_inj (I:Inv X pins σ H s)(h:Jq X.K H a xs)(h':Jq X.K H a ys):xs=ys:=by
 obtain⟨z,r,⟨o,e,_,n,d⟩,_⟩:=I.tuple h;obtain⟨j,Y,⟨o',J,_,n',O⟩,_⟩:=I.tuple h';rw[e] at J;cases J;rw[d] at O;injection O with d1 _;have:z=j:=by simpa using congrArg Array.toList d1
 subst this;exact r.inj Y
end
noncomputable abbrev Cx.wish (X:Cx)(E:Value->Shared->Prop):Cx:={X with xe:=E}
noncomputable abbrev Cx.nox (X:Cx):Cx:=X.wish fun _ _=>False
theorem Cx.Ok.wish {X:Cx}(ok:X.Ok)(E:Value->Shared->Prop):(X.wish E).Ok:=
 ⟨ok.mod,ok.kind,ok.glob,ok.blt,ok.above,ok.inj,ok.has,ok.cab,ok.hd,ok.frames,ok.stk,ok.exf,ok.bs,ok.bsz,ok.noex,ok.exfs,ok.funs,ok.frf⟩
theorem Cx.Ok.unwish {X:Cx}{E:Value->Shared->Prop}(ok:(X.wish E).Ok):X.Ok:=
 ⟨ok.mod,ok.kind,ok.glob,ok.blt,ok.above,ok.inj,ok.has,ok.cab,ok.hd,ok.frames,ok.stk,ok.exf,ok.bs,ok.bsz,ok.noex,ok.exfs,ok.funs,ok.frf⟩
section
variable {X:Cx}{pins:List (Addr×Obj)}{σ:St}{H:Hp}{s:Shared}{E:Value->Shared->Prop}
theorem Inv.wish (I:Inv X pins σ H s)(E:Value->Shared->Prop):Inv (X.wish E) pins σ H s:=⟨I.ok.wish E,I.os,I.bare,I.base,I.loc,I.cell,I.free,I.freeC,I.pin,I.hok,I.len⟩
theorem Inv.unwish (I:Inv (X.wish E) pins σ H s):Inv X pins σ H s:=⟨I.ok.unwish,I.os,I.bare,I.base,I.loc,I.cell,I.free,I.freeC,I.pin,I.hok,I.len⟩
theorem SP.unwish {D:YC}{f:Flow}{s':Shared}(h:SP (X.wish E) pins D f s'):SP X pins D f s':=by
 cases f with
 |next=>obtain⟨j,z,I,q⟩:=h;exact⟨j,z,I.unwish,q⟩
 |brk=>obtain⟨j,z,I,q⟩:=h;exact⟨j,z,I.unwish,q⟩
 |cont=>obtain⟨j,z,I,q⟩:=h;exact⟨j,z,I.unwish,q⟩
 |ret u=>obtain⟨v,j,z,I,r,q⟩:=h;exact⟨v,j,z,I.unwish,r,q⟩
theorem J5.nox {st:List Stmt}{t:TS}(h:J5 X.nox st t):J5 X st t:=fun pins s σ H D I j=>
 a6 (h pins s σ H D (I.wish _) j) (fun _ _ q=>q.unwish) fun _ _ z=>bE z
end
section
variable {X:Cx}{st:Stmt}{rest:List Stmt}{t u:TS}{e:Expr}{te:TE}{pos:Pos}
noncomputable def Jy:TS:=fun D j H=>D.nx j H
noncomputable def JY (t u:TS):TS:=fun D j H=>t {D with nx:=u D} j H
theorem ZF:J5 X [] Jy:=fun _ _ j H _ I h=>ck ⟨j,H,I,h⟩
theorem Zs (J:PS X st t)(O:J5 X rest u):J5 X (st::rest) (JY t u):=by
 intro j s Y H D I h;refine dB (ZW (J j s Y H {D with nx:=u D} I h) fun f s1 q=>?_);cases f with
 |next=>
  obtain⟨z,H',I',q⟩:=q;exact O j s1 z H' D I' q
 |ret v=>exact q
 |brk=>exact q
 |cont=>exact q
theorem Zv (z:PS X st t):J5 X [st] t:=by
 intro j s J H D I h;refine dB (ZW (z j s J H D I h) fun f O q=>?_);cases f with
 |next=>exact ck q
 |ret v=>exact q
 |brk=>exact q
 |cont=>exact q
theorem Inv.quiet {j:List (Addr×Obj)}{σ:St}{H:Hp}{s:Shared}(I:Inv X j σ H s):interactive X.env=false:=by simp[interactive,I.ok.kind]
noncomputable def ZeZ (te:TE):TS:=fun D j H=>te j H fun _ z=>D.nx j z
theorem Xx (J:PE X e te)(O:swapsWith e none pos.line X.env=pure false:=by rfl):PS X (.Expr e pos) (ZeZ te):=by
 intro j s z H D I h;exact wpAny_Expr_any (ZW (J j s z H _ I h) fun v s1 ⟨x,Y,I1,r1,q1⟩=>⟨z,Y,I1,q1⟩) I.quiet O
noncomputable def JZ (te:TE):TS:=fun D j H=>te j H D.rt
theorem ZM (z:PE X e te):PS X (.Return (some e) pos) (JZ te):=by
 intro j s σ H D I h;exact wpAny_Return_some (ZW (z j s σ H _ I h) fun v s1 ⟨x,J,O,Y,q1⟩=>⟨x,σ,J,O,Y,q1⟩)
noncomputable def VJ (c:TT)(t u:TS):TS:=fun D j H=>c j H fun b z=>if b=true then t D j z else u D j z
theorem ZT {c:Expr}{a b:List Stmt}{J:TT}(hc:PT X c J)(ha:J5 X a t)(hb:J5 X b u):PS X (.If c a b pos) (VJ J t u):=by
 intro j s z H D I h;refine wpAny_If (ZW (hc j s z H _ I h) fun d O ⟨Y,I1,q1⟩=>?_);cases d with
 |true=>exact ha j O z Y D I1 q1
 |false=>exact hb j O z Y D I1 q1
end
noncomputable abbrev TG:=V->St->Hp->(St->Hp->Prop)->Prop
noncomputable abbrev TGs:=List V->St->Hp->(St->Hp->Prop)->Prop
noncomputable def PG (X:Cx)(j:Expr)(t:TG):Prop:=
 ∀(z:List (Addr×Obj)) (s:Shared) (O:St) (H:Hp) (v:V) (u:Value) (Q:St->Hp->Prop),Inv X z O H s->RelV v u->t v O H Q->
  wpAny (model X.prog X.w) X.A (assign j X.env u) (fun _ s'=>∃ J Y,Inv X z J Y s'/\Q J Y) X.xe s
noncomputable def PGs (X:Cx)(ts:List Expr)(t:TGs):Prop:=
 ∀(j:List (Addr×Obj)) (s:Shared) (J:St) (H:Hp) (O:List V) (Y:List Value) (Q:St->Hp->Prop),Inv X j J H s->ZI O Y->t O J H Q->
  wpAny (model X.prog X.w) X.A (assignInOrder ((assignEach ts X.env).map (·.2)) Y) (fun _ s'=>∃ z H',Inv X j z H' s'/\Q z H') X.xe s
noncomputable abbrev ZbN:=V->V->V->Hp->(Hp->Prop)->Prop
noncomputable def ZeF (X:Cx)(t:ZbN):Prop:=
 ∀(j:List (Addr×Obj)) (s:Shared) (z:St) (H:Hp) (o i v:V) (J O u:Value) (Q:Hp->Prop),Inv X j z H s->RelV o J->RelV i O->RelV v u->t o i v H Q->
  wpAny (model X.prog X.w) X.A (setItem J O u) (fun _ s'=>∃Y,Inv X j z Y s'/\Q Y) X.xe s
noncomputable abbrev TIp:=V->V->Hp->VK->Prop
noncomputable def PIp (X:Cx)(J:eI)(t:TIp):Prop:=
 ∀(j:List (Addr×Obj)) (s:Shared) (z:St) (H:Hp) (x y:V) (v u:Value) (Q:VK),Inv X j z H s->RelV x v->RelV y u->t x y H Q->
  wpAny (model X.prog X.w) X.A (inplaceOp J v u) (EP X j z Q) X.xe s
section
variable {X:Cx}{pos:Pos}
noncomputable def Yo (i:Nat):TG:=fun v j H Q=>Q (j.set i (some v)) H
theorem Zci {i:Nat}{x:Str}(z:X.N.Nodup)(J:X.N[i]?=some x)(O:Loc X.env.scope x)(Y:X.fn x=true\/X.env.scope.names.lookup x=some .local:=by first|exact .inl rfl|exact .inr rfl|assumption):PG X (.Name x pos) (Yo i):=by
 intro j s σ H v u Q I r h;exact wpAny_assign_Name (YR I z J O r (fun s' I'=>⟨_,H,I',h⟩) Y)
noncomputable def ZfA:TGs:=fun j z H Q=>j=[]/\Q z H
noncomputable def Zbs (t:TG)(u:TGs):TGs:=fun z J H Q=>∃v r,z=v::r/\t v J H fun j O=>u r j O Q
theorem Zch:PGs X [] ZfA:=by
 intro j s z H J O Q I r h;obtain⟨e,h⟩:=h;subst e;cases r;exact assignInOrder_nil ⟨z,H,I,h⟩
theorem X9 {e:Expr}{es:List Expr}{t:TG}{u:TGs}(J:PG X e t)(O:PGs X es u)
  (Y:(assignEach (e::es) X.env).map (·.2)=assign e X.env::(assignEach es X.env).map (·.2):=by rfl):PGs X (e::es) (Zbs t u):=by
 intro j s σ H vs us Q I r h;obtain⟨v,vr,e1,h⟩:=h;subst e1;cases r with
 |cons r rr=>
  rw[Y];refine fk (ZW (J j s σ H _ _ _ I r h) fun _ s1 ⟨z,H1,I1,q1⟩=>?_);exact O j s1 z H1 _ _ Q I1 rr q1
noncomputable def Zfz (K:ae)(n:Nat)(t:TGs):TG:=fun v z H Q=>∃a j,v=.ref a/\Jq K H a j/\j.length=n/\t j z H Q
theorem ZdW {es:List Expr}{k:Nat}{t:TGs}{n:Nat}(hc:X.calm=true)(h:PGs X es t)
  (hn:(assignEach es X.env).length=n:=by rfl) (z:(assignEach es X.env).findIdx? (·.1)=none:=by rfl):PG X (.Tuple es k pos) (Zfz X.K n t):=by
 intro j s O H v u Q I r J;obtain⟨a,xs,e1,hq,hl,J⟩:=J;subst e1;cases r;obtain⟨h9,Y,ht,hz⟩:=I.tuple hq;refine assign_Tuple_tuple (I.ok.hd hc) ht (by simp[hn,<-hl,Y.length]) z fun h' hx=>?_;have I1:Inv X j O H {s with heap:=h'}:=I.kept (t':=s.toks) fun b o e=>hx b o (ay (Zp e)) e;exact h j _ O H xs _ Q I1 (by simpa using Y) J
noncomputable def Zgf (z J:TE)(t:ZbN):TG:=fun v j H Q=>z j H fun o O=>J j O fun i Y=>t o i v Y fun H3=>Q j H3
theorem ZdX {o i:Expr}{to Y:TE}{t:ZbN}(ho:PE X o to)(hi:PE X i Y)(hs:ZeF X t)
  (ha:∀v,assign (.Subscript o i pos) X.env v=(do
   let z <-holding [v] (eval o X.env)
   let J <-holding [v,z] (eval i X.env)
   standAt pos
   holding [v,z,J] (setItem z J v)
   release [v,z,J] []):=by intro _;rfl):PG X (.Subscript o i pos) (Zgf to Y t):=by
 intro j s O H v u Q I r h;rw[ha];refine Zl (eY (ZW (ho j s O H _ I h) fun z s1 ⟨x,H1,I1,r1,q1⟩=>?_));refine Zl (eY (ZW (hi j s1 O H1 _ I1 q1) fun J s2 ⟨y,H2,I2,r2,q2⟩=>?_));refine Zl (dw (Zl (eY (ZW (hs j s2 O H2 x y v z J u _ I2 r1 r2 r q2) fun _ s3 ⟨H3,I3,q3⟩=>?_))));exact wpAny_release ⟨O,H3,I3,q3⟩
noncomputable def XY (z:TE)(g:TG):TS:=fun D j H=>z j H fun x J=>g x j J D.nx
theorem ZdV {z e:Expr}{J:TE}{g:TG}(Y:PE X e J)(hg:PG X z g)(hs:swapsWithSole [z] e pos.line X.env=pure false:=by rfl)(hw:swappedStores [z] e X.env=pure none:=by rfl)
  (h1:(assignEach [z] X.env).map (·.2)=[assign z X.env]:=by rfl):PS X (.Assign [z] e pos) (XY J g):=by
 intro j s O H D I h;refine wpAny_Assign_stores (ZW (Y j s O H _ I h) fun v s1 ⟨x,H1,I1,r1,q1⟩=>?_) hs hw;rw[h1];exact ZW (hg j s1 O H1 x v _ I1 r1 q1) fun _ s2 q=>q
theorem ZdS {i:Nat}{x:Str}{e:Expr}{J:TE}{j:Pos}(O:X.N.Nodup)(Y:X.N[i]?=some x)(hx:Loc X.env.scope x)(he:PE X e J)(hs:swapsWith e (some (.Name x j)) pos.line X.env=pure false:=by rfl)(hf:X.fn x=true\/X.env.scope.names.lookup x=some .local:=by first|exact .inl rfl|exact .inr rfl|assumption) :
  PS X (.Assign [.Name x j] e pos) (XY J (Yo i)):=by
 intro z s σ H D I h;refine wpAny_Assign_Name (ZW (he z s σ H _ I h) fun v s1 ⟨y,H1,I1,r1,q1⟩=>?_) hs;exact YR I1 O Y hx r1 (fun s2 I2=>⟨_,H1,I2,q1⟩) hf
noncomputable def ZfW (i j:Nat)(J:TA):TS:=fun D z H=>J z H fun O Y=>∃v w,O=[v,w]/\D.nx ((z.set i (some v)).set j (some w)) Y
theorem ZdT {i j:Nat}{x y:Str}{a b:Expr}{ta:TA}{px py pt:Pos}{kt k2 J}(hc:X.calm=true)(hN:X.N.Nodup)(hi:X.N[i]?=some x)(hj:X.N[j]?=some y)(h9:i≠j)
  (hx:X.env.scope.names.lookup x=some .local) (hy:X.env.scope.names.lookup y=some .local) (ha:PA X [a,b] ta)
  (hw:swappedStores [.Tuple [.Name x px,.Name y py] kt pt] (.Tuple [a,b] k2 J) X.env=pure (some [x,y]))
  (hs:swapsWithSole [.Tuple [.Name x px,.Name y py] kt pt] (.Tuple [a,b] k2 J) pos.line X.env=pure false:=by rfl) :
  PS X (.Assign [.Tuple [.Name x px,.Name y py] kt pt] (.Tuple [a,b] k2 J) pos) (ZfW i j ta):=by
 intro z s σ H D I h;rw[exec_Assign_arm];refine Zl (dw ?_);rw[hs];refine Zl (Zm ?_);rw[if_neg (by decide)];refine Zl (Tuple_ (ZW (ha _ z s σ H _ I h) fun us s1 ⟨vs,H1,I1,r1,q1⟩=>?_));obtain⟨v,w,e1,q1⟩:=q1;subst e1;obtain⟨O,Y,rfl,rv,i0⟩:∃O Y,us=[O,Y]/\RelV v O/\RelV w Y:=by
  cases r1 with
  |cons p q=>
   cases q with
   |cons p' q'=>
    cases q';exact⟨_,_,rfl,p,p'⟩
 refine cy ?_ (by show 2<=sizeLine;decide);have I2:Inv X z σ H1 {s1 with heap:=s1.heap.push {cls:=.type "tuple",data:=.seq [O,Y].toArray}}:=I1.kept (t':=s1.toks) fun b o e=>Zn _ e;rw[hw];refine Zl (Zm ?_);show wpAny (model X.prog X.w) X.A (do rule "assign.swapped-stores";let items <-unpackItems (.ref s1.heap.objs.size) 2 none;assignInOrder [fun v=>bindName X.env y v,fun v=>bindName X.env x v] items.reverse;pure Flow.next) _ _ _
 refine Zl (wpAny_rule (Zl (unpackItems_tuple (items:=#[O,Y]) (I.ok.hd hc) (eV s1.heap _) fun h' i4=>?_)));have I3:=I2.kept (h':=h') (t':=s1.toks) fun b o e=>i4 b o (ay (Zp e)) e;show wpAny _ _ (assignInOrder [fun v=>bindName X.env y v,fun v=>bindName X.env x v] [Y,O] >>= fun _=>pure Flow.next) _ _ _;refine Zl (fk (wpAny_bindName (YR I3 hN hj (.inl hy) i0 (fun s2 I4=>?_) (.inr hy))));refine fk (wpAny_bindName (YR I4 hN hi (.inl hx) rv (fun s3 I5=>assignInOrder_nil (Zm ?_)) (.inr hx)));rw[List.set_comm _ _ (a8 h9)] at I5;exact⟨_,H1,I5,q1⟩
noncomputable def ZfY (i:Nat)(j:TE)(J:TIp):TS:=fun D σ H=>∃x,σ[i]?=some (some x)/\j σ H fun y O=>J x y O fun z Y=>D.nx (σ.set i (some z)) Y
theorem ZdU {i:Nat}{x:Str}{e:Expr}{te:TE}{op:eI}{ti:TIp}{Y:Pos}(hN:X.N.Nodup)(hi:X.N[i]?=some x)(hx:Loc X.env.scope x)(he:PE X e te)(ho:PIp X op ti)(hf:X.fn x=true\/X.env.scope.names.lookup x=some .local:=by first|exact .inl rfl|exact .inr rfl|assumption) :
  PS X (.AugAssign (.Name x Y) op e pos) (ZfY i te ti):=by
 intro j s σ H D I h;obtain⟨v,e1,h⟩:=h;obtain⟨m,hn,hl⟩:=I.loc;have i4:Vis X.env.scope x:=by rcases hx with k|k;exact .inl k;exact .inr (.inl k)
 obtain⟨u,r,l⟩:=hl i x v hi e1 i4;refine wpAny_AugAssign_Name ?_;have go:wpAny (model X.prog X.w) X.A (eval e X.env) (fun w h9=>wpAny (model X.prog X.w) X.A (inplaceOp op u w) (fun r i0=>wpAny (model X.prog X.w) X.A (storeName X.env x r) (fun _=>SP X j D .next) X.xe i0) X.xe h9) X.xe s:=by
  refine ZW (he j s σ H _ I h) fun w s1 ⟨y,H1,I1,r1,q1⟩=>?_;refine ZW (ho j s1 σ H1 v y u w _ I1 r r1 q1) fun z s2 ⟨zv,H2,I2,r2,q2⟩=>?_;exact YR I2 hN hi hx r2 (fun s3 I3=>⟨_,H2,I3,q2⟩) hf
 rcases l with ⟨J,hm⟩|⟨J,c,hc,O⟩
 ·exact wpAny_loadName_local I.ok.kind J hn hm go
 ·rcases J with J|J
  ·exact wpAny_loadName_cell I.ok.kind J hc O go
  ·rcases hx with k|k
   ·have:X.env.scope.names.lookup x=some .free:=J
    rw[k] at this;cases this
   ·have:X.env.scope.names.lookup x=some .free:=J
    rw[k] at this;cases this
noncomputable def Ze2 (to ti te:TE)(j:V->V->Hp->VK->Prop)(Y:TIp)(J:ZbN):TS:=fun D O H=>to O H fun o H1=>ti O H1 fun i H2=>j o i H2 fun x H3=>te O H3 fun y H4=>Y x y H4 fun z H5=>J o i z H5 fun H6=>D.nx O H6
noncomputable def ZfG (X:Cx)(t:V->V->Hp->VK->Prop):Prop:=
 ∀(j:List (Addr×Obj)) (s:Shared) (z:St) (H:Hp) (o i:V) (J O:Value) (Q:VK),Inv X j z H s->RelV o J->RelV i O->t o i H Q->
  wpAny (model X.prog X.w) X.A (getItem J O) (EP X j z Q) X.xe s
theorem Zcd {o i e:Expr}{to ti te:TE}{J:V->V->Hp->VK->Prop}{h9:TIp}{O:ZbN}{op:eI}{i0:Pos}(ho:PE X o to)(hi:PE X i ti)(hg:ZfG X J)(he:PE X e te)(hp:PIp X op h9)(hs:ZeF X O)
  (ha:∀Y iv z,augStore i Y iv z=(do holding [z,Y,iv] (setItem Y iv z);release [z,Y,iv] [];pure .next):=by intros;rfl):PS X (.AugAssign (.Subscript o i i0) op e pos) (Ze2 to ti te J h9 O):=by
 intro j s σ H D I h;refine wpAny_AugAssign_SubscriptAny (ZW (ho j s σ H _ I h) fun Y s1 ⟨x1,H1,I1,r1,q1⟩=>?_) ha;refine ZW (hi j s1 σ H1 _ I1 q1) fun iv s2 ⟨x2,H2,I2,r2,q2⟩=>?_;refine ZW (hg j s2 σ H2 x1 x2 Y iv _ I2 r1 r2 q2) fun i4 s3 ⟨x3,H3,I3,r3,q3⟩=>?_;refine ZW (he j s3 σ H3 _ I3 q3) fun v s4 ⟨x4,H4,I4,r4,q4⟩=>?_;refine ZW (hp j s4 σ H4 x3 x4 i4 v _ I4 r3 r4 q4) fun z s5 ⟨x5,H5,I5,r5,q5⟩=>?_;exact ZW (hs j s5 σ H5 x1 x2 x5 Y iv z _ I5 r1 r2 r5 q5) fun _ s6 ⟨H6,I6,q6⟩=>⟨σ,H6,I6,q6⟩
noncomputable def ipI (f:Int->Int->Int):TIp:=fun x y H Q=>∃i j,x=.int i/\y=.int j/\Q (.int (f i j)) H
theorem Zbj:PIp X .Add (ipI fun i j=>i+j):=by
 intro z s σ H x y v u Q I J O h;obtain⟨i,j,Y,e2,q⟩:=h;subst Y;subst e2;obtain⟨t,rfl⟩:=J;obtain⟨t',rfl⟩:=O;exact iadd_int ⟨.int _,H,I.tok _,⟨_,rfl⟩,q⟩
end
section
variable {X:Cx}{pos:Pos}
noncomputable def ZaL (c:TT)(tb:TS):TS:=fun D j H=>∃W:Nat->St->Hp->Prop,(∃m,W m j H)/\∀m j H,W m j H->
 c j H fun b J=>if b=true then ∃N:St->Hp->Prop,(∀ z O,N z O->∃Y,Y<m/\W Y z O)/\tb {D with nx:=N,ct:=N,bk:=D.nx} j J else D.nx j J
theorem Wg {c:Expr}{body:List Stmt}{tc:TT}{tb:TS}(hp:PassesOwn (model X.prog X.w) X.A X.env X.xe)(hc:PT X c tc)(hb:J5 X body tb):PS X (.While c body [] pos) (ZaL tc tb):=by
 intro j s σ H D I h;obtain⟨W,⟨m0,w0⟩,O⟩:=h;refine wpAny_While (codeAny_whileLoop (fun n s'=>∃ Y H',Inv X j Y H' s'/\W n Y H') ?_ m0 ⟨σ,H,I,w0⟩);rintro n s1 ⟨J,H1,I1,w1⟩;refine aQ hp (ZW (hc j s1 J H1 _ I1 (O n J H1 w1)) fun b s2 ⟨H2,I2,q2⟩=>?_);cases b with
 |true=>
  obtain⟨N,hN,q2⟩:=q2;rw[if_pos rfl];refine aQ hp (ZW (hb j s2 J H2 _ I2 q2) fun f s3 q3=>?_);cases f with
  |next=>
   obtain⟨z,H3,I3,n3⟩:=q3;obtain⟨m',hm,w3⟩:=hN z H3 n3;exact⟨m',hm,z,H3,I3,w3⟩
  |cont=>
   obtain⟨z,H3,I3,n3⟩:=q3;obtain⟨m',hm,w3⟩:=hN z H3 n3;exact⟨m',hm,z,H3,I3,w3⟩
  |brk=>exact q3
  |ret v=>exact q3
 |false=>
  rw[if_neg ax];exact ck ⟨J,H2,I2,q2⟩
end
structure It where
 go:Nat->Hp->Prop
 yld:Nat->Hp->V->Hp->Prop
 stop:Nat->Hp->Prop
noncomputable def JV (X:Cx)(j:List (Addr×Obj))(H:Hp)(b:Addr):Prop:=
 H b=none/\b≠X.env.locals/\b∉X.fs/\(b∈X.ex\/X.s₀.heap.objs.size<=b)/\(∀x c,X.env.cells.lookup x=some c->c≠b)/\∀p∈X.pn++j,p.1≠b
theorem Inv.fpOk {X:Cx}{j:List (Addr×Obj)}{σ:St}{H J:Hp}{s:Shared}{b:Addr}(I:Inv X j σ H s)(hb:s.heap.objs.size<=b)(O:J b=none):JV X j J b:=by
 refine⟨O,ba (aj I.lt hb),I.nofs hb,.inr (aG I.sz hb),fun x c e z=>?_,fun p Y z=>?_⟩
 ·obtain⟨v,q⟩:=I.cell x c e
  exact absurd (aj q.lt (by rw[z];exact hb)) (aW _)
 ·exact absurd (aj (Zp (I.pin p Y).1) (by rw[z];exact hb)) (aW _)
structure Ug (P:Program)(w:World)(K:ae)(tg:Expr)(J:It)(fp:List Addr)(it:Addr)(tn:Nat->Heap->Prop):Prop where
 mem:it∈fp
 obj:∀i h,tn i h->∀b∈fp,∃o,h.get? b=some o/\∀v,o.data≠.cell v
 keep:∀i h h',tn i h->(∀b∈fp,∀o,h.get? b=some o->h'.get? b=some o)->tn i h'
 item:∀(X:Cx),X.prog=P->X.w=w->X.K=K->X.calm=true->∀(i:Nat) (pins:List (Addr×Obj)) (s:Shared) (σ:St) (H:Hp) (E:Value->Shared->Prop),Inv X pins σ H s->(∀b∈fp,JV X pins H b)->tn i s.heap->J.go i H->
  wpAny (model P w) X.A (pyNext (.ref it)) (fun r s1=>∃u,r=some u/\
   wpAny (model P w) X.A (letOwnedTupleGo tg (.ref it) u) (fun _ s2=>∃x H',Inv X pins σ H' s2/\RelV x u/\J.yld i H x H'/\tn (i+1) s2.heap/\∀b∈fp,H' b=none) E s1) E s
 done:∀(X:Cx),X.prog=P->X.w=w->X.K=K->X.calm=true->∀(i:Nat) (pins:List (Addr×Obj)) (s:Shared) (σ:St) (H:Hp) (E:Value->Shared->Prop),Inv X pins σ H s->(∀b∈fp,JV X pins H b)->tn i s.heap->J.stop i H->
  wpAny (model P w) X.A (pyNext (.ref it)) (fun r s1=>r=none/\Inv X pins σ H s1) E s
 self:∀(A:Around) (i:Nat) (s:Shared) (Q:Value->Shared->Prop) (E:Value->Shared->Prop),tn i s.heap->Q (.ref it) s->wpAny (model P w) A (pyIter (.ref it)) Q E s
noncomputable abbrev TI:=St->Hp->(It->Hp->Prop)->Prop
noncomputable def PIE (X:Cx)(j:List (Addr×Obj))(σ:St)(tg:Expr)(R:It->Hp->Prop)(z:Value)(Y:Shared):Prop:=
 ∃(it:Addr) (fp:List Addr) (tn:Nat->Heap->Prop) (J:It) (O:Hp),z=.ref it/\Inv X j σ O Y/\Ug X.prog X.w X.K tg J fp it tn/\tn 0 Y.heap/\(∀b∈fp,JV X j O b)/\R J O
noncomputable def PI (X:Cx)(J iter:Expr)(O:TI):Prop:=
 ∀(j:List (Addr×Obj)) (s:Shared) (z:St) (H:Hp) (R:It->Hp->Prop),Inv X j z H s->O z H R->
  wpAny (model X.prog X.w) X.A (eval iter X.env) (fun v Y=>wpAny (model X.prog X.w) X.A (pyIter v) (PIE X j z J R) X.xe Y) X.xe s
theorem Zbq {M:Model}{A:Around}{E:Value->Shared->Prop}{s:Shared}{z:Expr}{it:Addr}{u:Value}{o:Obj}{n:String}{J:Array Value}{Q:Unit->Shared->Prop}(O:s.heap.get? it=some o)(Y:o.cls=.type n)(hd:o.data=.fields J)
    (hn:["enumerate", "zip", "dict_itemiterator", "dict_reverseitemiterator", "odict_iterator", "itertools.zip_longest", "itertools.pairwise"].contains n=false) (j:Q () s):wpAny M A (letOwnedTupleGo z (.ref it) u) Q E s:=by
  unfold letOwnedTupleGo;cases z <;> first
    |exact Zm j
    |(cases u <;> first
        |exact Zm j
        | (refine Zl (wpAny_load O ?_)
           rw[Y,hd];show wpAny M A (if (["enumerate", "zip", "dict_itemiterator", "dict_reverseitemiterator", "odict_iterator", "itertools.zip_longest", "itertools.pairwise"].contains n && J[0]? == some (rawInt _))=true then _ else _) Q E s
           rw[if_neg (by intro h;rw[hn,Bool.false_and] at h;cases h)];exact Zm j))
noncomputable def Itl (K:ae)(a:Addr):It:=
 ⟨fun i H=>∃j x,Wr K H a j/\j[i]?=some x,fun i H x z=>z=H/\∀j,Wr K H a j->j[i]?=some x,fun i H=>∃j,Wr K H a j/\j.length<=i⟩
noncomputable def Itr (lo:Int)(n:Nat):It:=⟨fun i _=>i<n,fun i H x j=>j=H/\x=.int (lo+i),fun i _=>n<=i⟩
theorem J9 {P:Program}{w:World}{K:ae}{tg:Expr}(a J:Addr):Ug P w K tg (Itl K a) [J] J (fun i h=>h.IsListIter J a i) where
 mem:=by simp
 obj:=fun i h st b hb=>by
  have e:b=J:=by simpa using hb
  subst e;obtain⟨o,e,c,d⟩:=st;exact⟨o,e,fun v z=>by rw[d] at z;cases z⟩
 keep:=fun i h Y st k=>st.at fun o e=>k J (by simp) o e
 item:=by
  intro X hP hw hK hc i j s σ H E I hf st hg;subst hP hw hK;obtain⟨xs,x,hq,hx⟩:=hg;obtain⟨h9,rv,p,hz⟩:=I.list hq;obtain⟨u,hu,ru⟩:=rv.get hx;obtain⟨f0,f1,f2,f3,f4,f5⟩:=hf J (by simp);refine wpAny_pyNext_list_item st p.isList (x:=u) (by simpa using hu) fun Y O sb=>?_;have I1:Inv X j σ H {s with heap:=Y}:=I.turned (t':=s.toks) (fun b o hb e=>(sb.2 b hb).trans e) f0 f1 f3 f4 f5;obtain⟨o,e,c,d⟩:=id O;exact⟨u,rfl,Zbq (s:={s with heap:=Y}) e c d (by decide) ⟨x,H,I1,ru,⟨rfl,fun ys hy=>by rw[I.list_inj hy hq];exact hx⟩,O,fun b hb=>(hf b hb).1⟩⟩
 done:=by
  intro X hP hw hK hc i j s σ H E I hf st hg;subst hP hw hK;obtain⟨xs,hq,hx⟩:=hg;obtain⟨h9,rv,p,hz⟩:=I.list hq;obtain⟨f0,f1,f2,f3,f4,f5⟩:=hf J (by simp);have hl:=rv.length;exact wpAny_pyNext_list_end (I.ok.hd hc) st p.isList (by simp;omega) fun Y eb=>⟨rfl,I.turned (t':=s.toks) (fun b o hb e=>eb b o hb e) f0 f1 f3 f4 f5⟩
 self:=fun _ _ _ _ _ st h=>wpAny_pyIter_listiter st h
theorem VF {P:Program}{w:World}{K:ae}{tg:Expr}(j:Addr)(lo:Int)(n:Nat):Ug P w K tg (Itr lo n) [j] j (fun i h=>IsRangeIter h j (lo+(i:Nat)*1) ((n:Int)-(i:Nat)) 1) where
 mem:=by simp
 obj:=fun i h st b hb=>by
  have e:b=j:=by simpa using hb
  subst e;exact⟨_,st,fun v z=>by
   have z':gx _=hJ v:=z;cases z'⟩
 keep:=fun i h Y st k=>k j (by simp) _ st
 item:=by
  intro X hP hw hK hc i J s σ H E I hf st hg;subst hP hw hK;obtain⟨f0,f1,f2,f3,f4,f5⟩:=hf j (by simp);have W:=Walks.range (prog:=X.prog) (w:=X.w) (I.ok.hd hc) j lo 1 n;refine W.item i s _ _ hg st fun v Y tk hv O kk=>?_;obtain⟨t,rfl⟩:=hv;have I1:Inv X J σ H {s with heap:=Y,toks:=tk}:=I.turned (fun b o hb e=>kk b o (by simpa using hb) e) f0 f1 f3 f4 f5;refine⟨_,rfl,Zbq (s:={s with heap:=Y,toks:=tk}) (n:="range_iterator") O rfl rfl (by decide) ⟨.int (lo+i),H,I1,⟨t,?_⟩,⟨rfl,rfl⟩,O,fun b hb=>(hf b hb).1⟩⟩;rw[Int.mul_one]
 done:=by
  intro X hP hw hK hc i J s σ H E I hf st hg;subst hP hw hK;obtain⟨f0,f1,f2,f3,f4,f5⟩:=hf j (by simp);exact wpAny_pyNext_range_end (I.ok.hd hc) st (by have:n<=i:=hg;omega) fun Y eb=>⟨rfl,I.turned (t':=s.toks) (fun b o hb e=>eb b o hb e) f0 f1 f3 f4 f5⟩
 self:=fun _ _ _ _ _ st h=>wpAny_pyIter_rangeiter st h
section
variable {X:Cx}{tg:Expr}
noncomputable def Zbl (K:ae)(z:TE):TI:=fun J H R=>z J H fun x j=>∃a,x=.ref a/\(∃O,Wr K j a O)/\R (Itl K a) j
theorem Zcg {l:Expr}{O:TE}(hl:PE X l O):PI X tg l (Zbl X.K O):=by
 intro j s Y H R I h;refine ZW (hl j s Y H _ I h) fun v z ⟨x,H1,J,r1,q1⟩=>?_;obtain⟨a,e,⟨xs,hq⟩,q⟩:=q1;subst e;cases r1;obtain⟨h9,rv,p,hz⟩:=J.list hq;refine fv p.isList ?_;refine⟨z.heap.objs.size,[z.heap.objs.size],_,_,H1,rfl,J.kept (t':=z.toks) fun b o e=>Zn _ e,J9 a _,⟨_,Zo _ rfl,rfl,rfl⟩,fun b hb=>?_,q⟩;have e:b=z.heap.objs.size:=by simpa using hb
 subst e;exact J.fpOk (Zq _) (J.hok.fresh (Zq _))
theorem X8 {z:List (Addr×Obj)}{σ:St}{H:Hp}{s:Shared}{R:It->Hp->Prop}{E:Value->Shared->Prop}{lo j:Int}{t u v:Tok}{tk:Nat}(I:Inv X z σ H s)(O:-(2 ^ 62)<=lo)(Y:lo<2 ^ 62)(h3:-(2 ^ 62)<=j)(h4:j<2 ^ 62)
  (q:R (Itr lo (j-lo).toNat) H):wpAny (model X.prog X.w) X.A (pyIter (.ref s.heap.objs.size)) (PIE X z σ tg R) E {s with heap:=s.heap.push {cls:=.type "range",data:=.fields #[.int lo t,.int j u,.int 1 v]},toks:=tk}:=by
 refine wpAny_pyIter_range (IsRange.new ..) (small_one O Y h3 h4) ?_;have J:Inv X z σ H {s with heap:=s.heap.push {cls:=.type "range",data:=.fields #[.int lo t,.int j u,.int 1 v]},toks:=tk}:=I.kept fun b o e=>Zn _ e;refine⟨(s.heap.push {cls:=.type "range",data:=.fields #[.int lo t,.int j u,.int 1 v]}).objs.size,[(s.heap.push {cls:=.type "range",data:=.fields #[.int lo t,.int j u,.int 1 v]}).objs.size],_,_,H,rfl,
  J.kept (t':=tk) fun b o e=>Zn _ e,VF _ lo (j-lo).toNat,?_,fun b hb=>?_,q⟩
 ·have e1:lo+((0:Nat):Int)*1=lo:=by simp
  have e2:(((j-lo).toNat:Nat):Int)-((0:Nat):Int)=Builtin.Range.rangeSize lo j 1:=by rw[rangeSize_one];split <;> omega
  show IsRangeIter _ _ (lo+((0:Nat):Int)*1) ((((j-lo).toNat:Nat):Int)-((0:Nat):Int)) 1;rw[e1,e2];exact Zo _ rfl
 ·have e:b=(s.heap.push {cls:=.type "range",data:=.fields #[.int lo t,.int j u,.int 1 v]}).objs.size:=by simpa using hb
  subst e;exact J.fpOk (Zq _) (J.hok.fresh (Zq _))
noncomputable def Zdt (z:TA):TI:=fun J H R=>z J H fun O Y=>∃j:Int,O=[.int j]/\-(2 ^ 62)<=j/\j<2 ^ 62/\R (Itr 0 j.toNat) Y
noncomputable def Zds (z:TA):TI:=fun J H R=>z J H fun O Y=>∃i j:Int,O=[.int i,.int j]/\(-(2 ^ 62)<=i/\i<2 ^ 62/\-(2 ^ 62)<=j/\j<2 ^ 62)/\R (Itr i (j-i).toNat) Y
theorem U3 {a:Expr}{O:TA}{p pos:Pos}(Y:Gl X "range")(hm:X.mg "range"=none)(ha:PA X [a] O)(hs:starEach [a] X.env=[(false,eval a X.env)]:=by rfl):PI X tg (.Call (.Name "range" p) [a] [] pos) (Zdt O):=by
 intro z s σ H R I h;refine Call_ (W4 I Y hm boot_range (bA (ZW (ha pos z s σ H _ I h) fun us s1 ⟨vs,H1,I1,r1,J⟩=>?_) hs rfl));obtain⟨j,e,J,q2,q⟩:=J;subst e;cases r1 with
 |cons r rr=>
  cases rr;obtain⟨t,rfl⟩:=r;exact call_range_1 (X8 I1 (by omega) (by omega) J q2 (by simpa using q))
theorem U2 {a b:Expr}{ta:TA}{p pos:Pos}(hg:Gl X "range")(hm:X.mg "range"=none)(ha:PA X [a,b] ta)(hs:starEach [a,b] X.env=[(false,eval a X.env),(false,eval b X.env)]:=by rfl)(z:starEach [b] X.env=[(false,eval b X.env)]:=by rfl) :
  PI X tg (.Call (.Name "range" p) [a,b] [] pos) (Zds ta):=by
 intro J s σ H R I h;refine Call_ (W4 I hg hm boot_range (bA (ZW (ha pos J s σ H _ I h) fun us s1 ⟨vs,H1,I1,r1,O⟩=>?_) (by rw[hs,z]) (by rw[z];rfl)));obtain⟨i,j,e,⟨O,q2,q3,q4⟩,q⟩:=O;subst e;cases r1 with
 |cons r Y=>
  cases Y with
  |cons r' Y=>
   cases Y;obtain⟨t,rfl⟩:=r;obtain⟨t',rfl⟩:=r';exact call_range_2 (X8 I1 O q2 q3 q4 q)
noncomputable def ZeY (wi:TI)(g:TG)(tb:TS):TS:=fun D j H=>wi j H fun J H1=>∃W:Nat->Nat->St->Hp->Prop,(∃m,W 0 m j H1)/\∀i m j H,W i m j H->
 (J.stop i H/\D.nx j H)\/(J.go i H/\∃N:St->Hp->Prop,(∀ z O,N z O->∃m',m'<m/\W (i+1) m' z O)/\∀x O,J.yld i H x O->g x j O fun Y H2=>tb {D with nx:=N,ct:=N,bk:=D.nx} Y H2)
noncomputable def WZ (j:List Addr)(h:Heap):List (Addr×Obj):=j.filterMap fun b=>(h.get? b).map fun o=>(b,o)
theorem Yt {j:List Addr}{h:Heap}{b:Addr}{o:Obj}(hb:b∈j)(e:h.get? b=some o):(b,o)∈WZ j h:=gM.mpr ⟨b,hb,by rw[e];rfl⟩
theorem Zaa {j:List Addr}{h:Heap}{p:Addr×Obj}(z:p∈WZ j h):p.1∈j/\h.get? p.1=some p.2:=by
 obtain⟨b,hb,e⟩:=gM.mp z;cases q:h.get? b with
 |none=>rw[q] at e;cases e
 |some o=>
  rw[q] at e;have J:(b,o)=p:=aB e;subst J;exact⟨hb,q⟩
theorem Inv.pinned {j:List (Addr×Obj)}{σ:St}{H:Hp}{s:Shared}{J:List Addr}(I:Inv X j σ H s)(Y:∀b∈J,JV X j H b)(ho:∀b∈J,∃o,s.heap.get? b=some o/\∀v,o.data≠.cell v):Inv X (j++WZ J s.heap) σ H s:=
 I.pins_of fun p hp=>(bd.mp hp).elim (fun z=>I.pin p (av _ z)) fun z=>by
  obtain⟨hb,e⟩:=Zaa z;obtain⟨f0,f1,f2,_⟩:=Y p.1 hb;obtain⟨o,O,d⟩:=ho p.1 hb;rw[e] at O;cases O;exact⟨e,f0,f1,f2,d⟩
theorem Inv.unpinned {j z:List (Addr×Obj)}{σ:St}{H:Hp}{s:Shared}(I:Inv X (j++z) σ H s):Inv X j σ H s:=I.pins_of fun p J=>I.pin p (av _ (bb _ J))
theorem JF {iter:Expr}{body:List Stmt}{wi:TI}{g:TG}{tb:TS}{pos:Pos}(hp:PassesOwn (model X.prog X.w) X.A X.env X.xe)(hc:X.calm=true)(hi:PI X tg iter wi)(hg:PG X tg g)(hb:J5 X body tb)
  (hs:∀x,foldedSetIterable iter X.env x=pure x:=by intro _;rfl):PS X (.For tg iter body [] pos) (ZeY wi g tb):=by
 intro j s σ H D I h;refine wpAny_For (ZW (hi j s σ H _ I h) fun v s1 h1=>ZW h1 fun j6 s2 h2=>?_) hs;obtain⟨it,fp,tn,J,H2,e,I2,T,i7,f2,W,⟨m0,w0⟩,i4⟩:=h2;subst e;have O:∀{H':Hp},(∀b∈fp,H' b=none)->∀b∈fp,JV X j H' b:=fun hn b hb=>⟨hn b hb,(f2 b hb).2⟩;refine codeAny_forLoop_any (fun n s'=>∃i Y H',Inv X j Y H' s'/\tn i s'.heap/\(∀b∈fp,H' b=none)/\W i n Y H') ?_ m0 ⟨0,σ,H2,I2,i7,fun b hb=>(f2 b hb).1,w0⟩;rintro n s3 ⟨i,h9,H3,I3,i5,i6,w3⟩;rcases i4 i n h9 H3 w3 with ⟨stop,qn⟩|⟨go,N,hN,step⟩
 ·refine aQ hp (ZW (T.done X rfl rfl rfl hc i j s3 h9 H3 X.xe I3 (O i6) i5 stop) fun r s4 ⟨hr,I4⟩=>?_)
  subst hr;exact ck ⟨h9,H3,I4,qn⟩
 ·refine aQ hp (ZW (T.item X rfl rfl rfl hc i j s3 h9 H3 X.xe I3 (O i6) i5 go) fun r s4 ⟨u,hr,h4⟩=>?_)
  subst hr;refine aQ hp (ZW h4 fun _ s5 ⟨x,H5,I5,r5,y5,i0,i8⟩=>?_);have i9:=I5.pinned (O i8) (T.obj _ _ i0);refine aQ hp (ZW (hg _ s5 h9 H5 x u _ i9 r5 (step x H5 y5)) fun _ s6 ⟨j4,H6,I6,q6⟩=>?_);refine aQ hp (ZW (hb _ s6 j4 H6 _ I6 q6) fun f s7 q7=>?_);have again:∀{z:St}{H7:Hp},Inv X (j++WZ fp s5.heap) z H7 s7->N z H7->∃m,m<n/\∃i Y H',Inv X j Y H' s7/\tn i s7.heap/\(∀b∈fp,H' b=none)/\W i m Y H':=fun {z H7} I7 n7=>by
   obtain⟨m',hm,w7⟩:=hN z H7 n7;refine⟨m',hm,i+1,z,H7,I7.unpinned,T.keep _ _ _ i0 fun b hb o e=>(I7.pin (b,o) (av _ (av _ (Yt hb e)))).1,fun b hb=>?_,w7⟩;obtain⟨o,e,d⟩:=T.obj _ _ i0 b hb;exact (I7.pin (b,o) (av _ (av _ (Yt hb e)))).2.1
  cases f with
  |next=>obtain⟨z,H7,I7,n7⟩:=q7;exact again I7 n7
  |cont=>obtain⟨z,H7,I7,n7⟩:=q7;exact again I7 n7
  |brk=>obtain⟨z,H7,I7,q7⟩:=q7;exact⟨z,H7,I7.unpinned,q7⟩
  |ret v=>obtain⟨x7,z,H7,I7,r7,q7⟩:=q7;exact⟨x7,z,H7,I7.unpinned,r7,q7⟩
end
theorem Zbt {K:ae}{a:Addr}{xs:List V}{g:TG}{tb:TS}{D:YC}{σ:St}{H:Hp}(Pv:Nat->St->Hp->Prop)(h0:Pv 0 σ H)(hl:∀i σ H,i<=xs.length->Pv i σ H->Wr K H a xs)
  (hs:∀i x σ H,xs[i]?=some x->Pv i σ H->g x σ H fun j Y=>tb {D with nx:=Pv (i+1),ct:=Pv (i+1),bk:=D.nx} j Y) (hd:∀ σ H,Pv xs.length σ H->D.nx σ H) :
  ∃W:Nat->Nat->St->Hp->Prop,(∃m,W 0 m σ H)/\∀i m σ H,W i m σ H->
   ((Itl K a).stop i H/\D.nx σ H)\/((Itl K a).go i H/\∃N:St->Hp->Prop,(∀ z J,N z J->∃m',m'<m/\W (i+1) m' z J)/\∀x J,(Itl K a).yld i H x J->g x σ J fun j Y=>tb {D with nx:=N,ct:=N,bk:=D.nx} j Y):=by
 refine⟨fun i m σ H=>m=xs.length-i/\i<=xs.length/\Pv i σ H,⟨xs.length,by simp,aC _,h0⟩,?_⟩;rintro i m σ H ⟨rfl,hi,p⟩;have q:=hl i σ H hi p;by_cases O:i<xs.length
 ·refine .inr ⟨⟨xs,xs[i],q,by simp[O]⟩,Pv (i+1),fun z J p'=>⟨xs.length-(i+1),by omega,rfl,O,p'⟩,fun x J y=>?_⟩
  obtain⟨e,y⟩:=y;subst e;exact hs i x σ _ (y xs q) p
 ·have e:i=xs.length:=by omega
  subst e;exact .inl ⟨⟨xs,q,Zq _⟩,hd σ H p⟩
theorem W8 {lo:Int}{n:Nat}{g:TG}{tb:TS}{D:YC}{σ:St}{H:Hp}(Pv:Nat->St->Hp->Prop)(h0:Pv 0 σ H)
  (hs:∀i σ H,i<n->Pv i σ H->g (.int (lo+i)) σ H fun j Y=>tb {D with nx:=Pv (i+1),ct:=Pv (i+1),bk:=D.nx} j Y) (hd:∀ σ H,Pv n σ H->D.nx σ H) :
  ∃W:Nat->Nat->St->Hp->Prop,(∃m,W 0 m σ H)/\∀i m σ H,W i m σ H->
   ((Itr lo n).stop i H/\D.nx σ H)\/((Itr lo n).go i H/\∃N:St->Hp->Prop,(∀ z J,N z J->∃m',m'<m/\W (i+1) m' z J)/\∀x J,(Itr lo n).yld i H x J->g x σ J fun j Y=>tb {D with nx:=N,ct:=N,bk:=D.nx} j Y):=by
 refine⟨fun i m σ H=>m=n-i/\i<=n/\Pv i σ H,⟨n,by simp,aC _,h0⟩,?_⟩;rintro i m σ H ⟨rfl,hi,p⟩;by_cases O:i<n
 ·refine .inr ⟨O,Pv (i+1),fun z J p'=>⟨n-(i+1),by omega,rfl,O,p'⟩,fun x J y=>?_⟩
  obtain⟨e,y⟩:=y;subst e y;exact hs i σ _ O p
 ·have e:i=n:=by omega
  subst e;exact .inl ⟨Zq _,hd σ H p⟩
noncomputable abbrev R2:=V->V->Hp->VK->Prop
noncomputable def WV (X:Cx)(f:Value->Value->Sem Value)(r:R2):Prop:=
 ∀(j:List (Addr×Obj)) (s:Shared) (z:St) (H:Hp) (x y:V) (v u:Value) (Q:VK),Inv X j z H s->RelV x v->RelV y u->r x y H Q->
  wpAny (model X.prog X.w) X.A (f v u) (EP X j z Q) X.xe s
noncomputable def UnR (X:Cx)(f:Value->Sem Value)(r:V->Hp->VK->Prop):Prop:=
 ∀(j:List (Addr×Obj)) (s:Shared) (z:St) (H:Hp) (x:V) (v:Value) (Q:VK),Inv X j z H s->RelV x v->r x H Q->
  wpAny (model X.prog X.w) X.A (f v) (EP X j z Q) X.xe s
noncomputable def Z9 (X:Cx)(f:Value)(r:List V->Hp->VK->Prop):Prop:=
 ∀(j:List (Addr×Obj)) (s:Shared) (z:St) (H:Hp) (J:List V) (O:List Value) (Q:VK),Inv X j z H s->ZI J O->r J H Q->
  wpAny (model X.prog X.w) X.A (call f O) (EP X j z Q) X.xe s
noncomputable def Jk (r:R2)(z J:TE):TE:=fun j H Q=>z j H fun x O=>J j O fun y Y=>r x y Y Q
noncomputable def tUn (r:V->Hp->VK->Prop)(j:TE):TE:=fun z H Q=>j z H fun x J=>r x J Q
noncomputable def rI (C:Int->Int->Prop)(g:Int->Int->V):R2:=fun x y H Q=>∃i j,x=.int i/\y=.int j/\C i j/\Q (g i j) H
noncomputable def UX (g:Int->Int->V):R2:=fun x y H Q=>∃i j,x=.int i/\y=.int j/\Q (g i j) H
noncomputable def rU (g:Int->V):V->Hp->VK->Prop:=fun x H Q=>∃i,x=.int i/\Q (g i) H
section
variable {X:Cx}{a b c:Expr}{ta tb tc:TE}{pos:Pos}
theorem ZeC (ha:PE X a ta)(hb:PE X b tb){j:List (Addr×Obj)}{s:Shared}{σ:St}{H:Hp}{R:V->V->Hp->Prop}(I:Inv X j σ H s)
  (h:ta σ H fun x H1=>tb σ H1 fun y z=>R x y z) {Q:Value->Shared->Prop}{f:Value->Value->Sem Value}
  (hf:∀v u Y x y z,Inv X j σ z Y->RelV x v->RelV y u->R x y z->wpAny (model X.prog X.w) X.A (f v u) Q X.xe Y) :
  wpAny (model X.prog X.w) X.A (eval a X.env) (fun v J=>wpAny (model X.prog X.w) X.A (eval b X.env) (fun u O=>wpAny (model X.prog X.w) X.A (f v u) Q X.xe O) X.xe J) X.xe s:=by
 refine ZW (ha j s σ H _ I h) fun v s1 ⟨x,H1,I1,r1,q1⟩=>?_;refine ZW (hb j s1 σ H1 _ I1 q1) fun u Y ⟨y,z,I2,r2,q2⟩=>?_;exact hf v u Y x y z I2 r1 r2 q2
theorem ZD {op:eI}{r:R2}(z:WV X (binaryOp op) r)(J:PE X a ta)(hb:PE X b tb):PE X (.BinOp a op b pos) (Jk r ta tb):=by
 intro j s O H Q I h;exact wpAny_BinOp (ZeC J hb I h fun v u Y x y H2 I2 rx ry q=>z j Y O H2 x y v u Q I2 rx ry q)
theorem Va {op:UnaryOp}{r:V->Hp->VK->Prop}(J:UnR X (unaryOp op) r)(O:PE X a ta):PE X (.UnaryOp op a pos) (tUn r ta):=by
 intro j s z H Q I h;exact UnaryOp_ (ZW (O j s z H _ I h) fun v Y ⟨x,H1,I1,r1,q1⟩=>J j Y z H1 x v Q I1 r1 q1)
theorem opI {f:Value->Value->Sem Value}{C:Int->Int->Prop}{g:Int->Int->Int}
  (rule:∀(i j:Int) (t u:Tok) (s:Shared) (Q:Value->Shared->Prop) (E:Value->Shared->Prop),C i j->Q (.int (g i j) s.toks) {s with toks:=s.toks+1}->wpAny (model X.prog X.w) X.A (f (.int i t) (.int j u)) Q E s) :
  WV X f (rI C fun i j=>.int (g i j)):=by
 intro z s σ H x y v u Q I J O h;obtain⟨i,j,rfl,rfl,Y,q⟩:=h;obtain⟨t,rfl⟩:=J;obtain⟨t',rfl⟩:=O;exact rule i j t t' s _ _ Y ⟨.int (g i j),H,I.tok _,⟨_,rfl⟩,q⟩
theorem Zfr {f:Value->Value->Sem Value}{g:Int->Int->Int}
  (rule:∀(i j:Int) (t u:Tok) (s:Shared) (Q:Value->Shared->Prop) (E:Value->Shared->Prop),Q (.int (g i j) s.toks) {s with toks:=s.toks+1}->wpAny (model X.prog X.w) X.A (f (.int i t) (.int j u)) Q E s) :
  WV X f (UX fun i j=>.int (g i j)):=by
 intro z s σ H x y v u Q I J O h;obtain⟨i,j,rfl,rfl,q⟩:=h;obtain⟨t,rfl⟩:=J;obtain⟨Y,rfl⟩:=O;exact rule i j t Y s _ _ ⟨.int (g i j),H,I.tok _,⟨_,rfl⟩,q⟩
theorem Zcs {f:Value->Value->Sem Value}{g:Int->Int->Bool}
  (rule:∀(i j:Int) (t u:Tok) (s:Shared) (Q:Value->Shared->Prop) (E:Value->Shared->Prop),Q (.bool (g i j)) s->wpAny (model X.prog X.w) X.A (f (.int i t) (.int j u)) Q E s) :
  WV X f (UX fun i j=>.bl (g i j)):=by
 intro z s σ H x y v u Q I J O h;obtain⟨i,j,rfl,rfl,q⟩:=h;obtain⟨t,rfl⟩:=J;obtain⟨Y,rfl⟩:=O;exact rule i j t Y s _ _ ⟨.bl (g i j),H,I,rfl,q⟩
noncomputable def Zgq (i j:Int):Prop:=0<j/\j<1073741824
noncomputable def Zgp (i j:Int):Prop:=0<=j/\j<=1000000/\i.natAbs<2 ^ 64
noncomputable def ZbP (i j:Int):Prop:=(-(2 ^ 64)<i/\i<2 ^ 64)\/(-(2 ^ 64)<j/\j<2 ^ 64)
theorem ZbP.ok {i j:Int}(h:ZbP i j):IntMulOk i j:=by
 rcases h with ⟨z,J⟩|⟨z,J⟩
 ·exact .of_left (intBits_le_64 z J)
 ·exact .of_right (intBits_le_64 z J)
theorem Yb:WV X (binaryOp .Add) (UX fun i j=>.int (i+j)):=Zfr fun _ _ _ _ _ _ _ q=>add_int q
theorem Xz:WV X (binaryOp .Sub) (UX fun i j=>.int (i-j)):=Zfr fun _ _ _ _ _ _ _ q=>sub_int q
theorem Y0:WV X (binaryOp .Mult) (rI ZbP fun i j=>.int (i*j)):=opI fun _ _ _ _ _ _ _ z q=>mul_int q z.ok
theorem WP:WV X (binaryOp .FloorDiv) (rI Zgq fun i j=>.int (i / j)):=opI fun i j _ _ _ _ _ z q=>by
 have J:(0:Int)<j:=z.1;have O:j<1073741824:=z.2;exact floordiv_int (by omega) (by rw[Int.fdiv_eq_ediv_of_nonneg i (by omega)];exact q) (.inl (PyProof.noPylong_small (by omega)))
theorem YM:WV X (binaryOp .Mod) (rI (fun _ j=>0<j) fun i j=>.int (i % j)):=opI fun i j _ _ _ _ _ z q=>by
 have J:(0:Int)<j:=z;exact mod_int' (by omega) (by rw[Int.fmod_eq_emod_of_nonneg i (by omega)];exact q)
theorem VW:WV X (binaryOp .Pow) (rI Zgp fun i j=>.int (i ^ j.toNat)):=opI fun _ _ _ _ _ _ _ z q=>pow_int_small z.1 z.2.1 z.2.2 q
theorem unI {f:Value->Sem Value}{g:Int->Int}
  (rule:∀(i:Int) (t:Tok) (s:Shared) (Q:Value->Shared->Prop) (E:Value->Shared->Prop),Q (.int (g i) s.toks) {s with toks:=s.toks+1}->wpAny (model X.prog X.w) X.A (f (.int i t)) Q E s) :
  UnR X f (rU fun i=>.int (g i)):=by
 intro j s J H x v Q I z h;obtain⟨i,rfl,q⟩:=h;obtain⟨t,rfl⟩:=z;exact rule i t s _ _ ⟨.int (g i),H,I.tok _,⟨_,rfl⟩,q⟩
theorem Jw:UnR X (unaryOp .USub) (rU fun i=>.int (-i)):=unI fun _ _ _ _ _ q=>neg_int q
end
noncomputable def Ze5:V->V->Bool
 | .non,.non=>true | .non,.int _=>true | .int _,.non=>true | .non,.bl _=>true | .bl _,.non=>true | .non,.str _=>true | .str _,.non=>true
 | .int _,.int _=>true | .bl _,.bl _=>true | .str _,.str _=>true | .byt _,.byt _=>true
 | .int _,.str _=>true | .str _,.int _=>true | .bl _,.str _=>true | .str _,.bl _=>true
 |_,_=>false
noncomputable def rEq:R2:=fun x y H Q=>Ze5 x y=true/\Q (.bl (decide (x=y))) H
noncomputable def rNe:R2:=fun x y H Q=>Ze5 x y=true/\Q (.bl (!decide (x=y))) H
theorem UM {i j:Int}:decide (V.int i=V.int j)=(i == j):=by
 rw[be];simp
theorem ZbC {i j:Bool}:decide (V.bl i=V.bl j)=(i == j):=by
 rw[be];simp
theorem UL {i j:Str}:decide (V.str i=V.str j)=(i == j):=by
 rw[be];simp
theorem UN {i j:Array UInt8}:decide (V.byt i=V.byt j)=(i.toList == j.toList):=by
 rw[be];cases i;cases j;simp
section
variable {X:Cx}{a b c:Expr}{ta tb tc:TE}{pos:Pos}
theorem ZK {j:List (Addr×Obj)}{σ:St}{H:Hp}{s:Shared}{Q:VK}{k z:Bool}(I:Inv X j σ H s)(q:Q (.bl k) H)(e:k=z):EP X j σ Q (.bool z) s:=by
 subst e;exact⟨.bl k,H,I,rfl,q⟩
theorem Z2:WV X (compareOp .Eq) rEq:=by
 intro h9 s σ H x y v u Q I Y z h;obtain⟨O,q⟩:=h;cases x with
 |non=>
  cases Y;cases y with
  |non=>cases z;exact PySem.EqNone.eq_none_none (ZK I q (by simp))
  |bl j=>cases z;exact PySem.EqNone.eq_none_bool (ZK I q (by simp))
  |int j=>obtain⟨J,rfl⟩:=z;exact PySem.EqNone.eq_none_int (ZK I q (by simp))
  |str j=>obtain⟨J,rfl⟩:=z;exact PySem.EqNone.eq_none_str (ZK I q (by simp))
  |_=>exact absurd (show false=true from O) ax
 |bl i=>
  cases Y;cases y with
  |non=>cases z;exact PySem.EqNone.eq_bool_none (ZK I q (by simp))
  |bl j=>cases z;exact eq_bool (ZK I q ZbC)
  |str j=>obtain⟨J,rfl⟩:=z;exact PySem.EqMixed.eq_bool_str (ZK I q (by simp))
  |_=>exact absurd (show false=true from O) ax
 |int i=>
  obtain⟨t,rfl⟩:=Y;cases y with
  |non=>cases z;exact PySem.EqNone.eq_int_none (ZK I q (by simp))
  |int j=>obtain⟨J,rfl⟩:=z;exact eq_int (ZK I q UM)
  |str j=>obtain⟨J,rfl⟩:=z;exact PySem.EqMixed.eq_int_str (ZK I q (by simp))
  |_=>exact absurd (show false=true from O) ax
 |str i=>
  obtain⟨t,rfl⟩:=Y;cases y with
  |non=>cases z;exact PySem.EqNone.eq_str_none (ZK I q (by simp))
  |bl j=>cases z;exact PySem.EqMixed.eq_str_bool (ZK I q (by simp))
  |int j=>obtain⟨J,rfl⟩:=z;exact PySem.EqMixed.eq_str_int (ZK I q (by simp))
  |str j=>obtain⟨J,rfl⟩:=z;exact eq_str (ZK I q UL)
  |_=>exact absurd (show false=true from O) ax
 |byt i=>
  obtain⟨t,rfl⟩:=Y;cases y with
  |byt j=>obtain⟨J,rfl⟩:=z;exact PySem.W.eq_bytes (ZK I q UN)
  |_=>exact absurd (show false=true from O) ax
 |_=>cases y <;> exact absurd (show false=true from O) ax
theorem WO:WV X (compareOp .NotEq) rNe:=by
 intro h9 s σ H x y v u Q I Y z h;obtain⟨O,q⟩:=h;cases x with
 |non=>
  cases Y;cases y with
  |non=>cases z;exact PySem.EqNone.ne_none_none (ZK I q (by simp))
  |bl j=>cases z;exact PySem.EqNone.ne_none_bool (ZK I q (by simp))
  |int j=>obtain⟨J,rfl⟩:=z;exact PySem.EqNone.ne_none_int (ZK I q (by simp))
  |str j=>obtain⟨J,rfl⟩:=z;exact PySem.EqNone.ne_none_str (ZK I q (by simp))
  |_=>exact absurd (show false=true from O) ax
 |bl i=>
  cases Y;cases y with
  |non=>cases z;exact PySem.EqNone.ne_bool_none (ZK I q (by simp))
  |bl j=>cases z;exact ne_bool (ZK I q (congrArg not ZbC))
  |str j=>obtain⟨J,rfl⟩:=z;exact PySem.EqMixed.ne_bool_str (ZK I q (by simp))
  |_=>exact absurd (show false=true from O) ax
 |int i=>
  obtain⟨t,rfl⟩:=Y;cases y with
  |non=>cases z;exact PySem.EqNone.ne_int_none (ZK I q (by simp))
  |int j=>obtain⟨J,rfl⟩:=z;exact ne_int (ZK I q (congrArg not UM))
  |str j=>obtain⟨J,rfl⟩:=z;exact PySem.EqMixed.ne_int_str (ZK I q (by simp))
  |_=>exact absurd (show false=true from O) ax
 |str i=>
  obtain⟨t,rfl⟩:=Y;cases y with
  |non=>cases z;exact PySem.EqNone.ne_str_none (ZK I q (by simp))
  |bl j=>cases z;exact PySem.EqMixed.ne_str_bool (ZK I q (by simp))
  |int j=>obtain⟨J,rfl⟩:=z;exact PySem.EqMixed.ne_str_int (ZK I q (by simp))
  |str j=>obtain⟨J,rfl⟩:=z;exact ne_str (ZK I q (congrArg not UL))
  |_=>exact absurd (show false=true from O) ax
 |byt i=>
  obtain⟨t,rfl⟩:=Y;cases y with
  |byt j=>obtain⟨J,rfl⟩:=z;exact PySem.W.ne_bytes (ZK I q (congrArg not UN))
  |_=>exact absurd (show false=true from O) ax
 |_=>cases y <;> exact absurd (show false=true from O) ax
theorem Uv:WV X (compareOp .Lt) (UX fun i j=>.bl (decide (i<j))):=Zcs fun _ _ _ _ _ _ _ q=>lt_int q
theorem Zfq:WV X (compareOp .LtE) (UX fun i j=>.bl (decide (i<=j))):=Zcs fun _ _ _ _ _ _ _ q=>le_int q
theorem Y9:WV X (compareOp .Gt) (UX fun i j=>.bl (decide (j<i))):=Zcs fun _ _ _ _ _ _ _ q=>gt_int q
theorem Uw:WV X (compareOp .GtE) (UX fun i j=>.bl (decide (j<=i))):=Zcs fun _ _ _ _ _ _ _ q=>ge_int q
theorem U7:WV X (compareOp .In) (fun x y H Q=>∃i j,x=.str i/\y=.str j/\Q (.bl (!(cH j i 0 j.length 1).isEmpty)) H):=by
 intro z s Y H x y v u Q I J O h;obtain⟨i,j,rfl,rfl,q⟩:=h;obtain⟨t,rfl⟩:=J;obtain⟨t',rfl⟩:=O;exact in_str (ZK I q rfl)
theorem JH:WV X (compareOp .Is) (fun x y H Q=>y=.non/\Q (.bl (decide (x=.non))) H):=by
 intro j s O H x y v u Q I z J h;obtain⟨rfl,q⟩:=h;cases J;refine is_none_gen (ZK I q ?_);cases x <;> first
  |(cases z;rfl)
  |(obtain⟨t,rfl⟩:=z;rfl)
theorem YZ:WV X (compareOp .NotIn) (fun x y H Q=>∃i j,x=.str i/\y=.str j/\Q (.bl (!(!(cH j i 0 j.length 1).isEmpty))) H):=by
 intro z s Y H x y v u Q I J O h;obtain⟨i,j,rfl,rfl,q⟩:=h;obtain⟨t,rfl⟩:=J;obtain⟨t',rfl⟩:=O;exact notIn_str (ZK I q rfl)
theorem ZB (b:Expr){op:CmpOp}(h:op≠.In:=by decide)(j:op≠.NotIn:=by decide):behindInMarks op b=false:=by
 have z:(op == CmpOp.In)=false:=by cases op <;> first|rfl|exact absurd rfl h
 have J:(op == CmpOp.NotIn)=false:=by cases op <;> first|rfl|exact absurd rfl j
 cases b <;> simp[behindInMarks,z,J]
theorem Jm {op:CmpOp}{r:R2}(z:WV X (compareOp op) r)(J:PE X a ta)(hb:PE X b tb)(O:behindInMarks op b=false):PE X (.Compare a [op] [b] pos) (Jk r ta tb):=by
 intro j s Y H Q I h;exact wpAny_Compare1 (ZeC J hb I h fun v u s2 x y H2 I2 rx ry q=>z j s2 Y H2 x y v u Q I2 rx ry q) O
noncomputable def Y7 (t:TE):TT:=fun j H Q=>t j H fun x z=>∃k,x=.bl k/\Q k z
theorem Zw {op:CmpOp}{r:R2}(O:WV X (compareOp op) r)(Y:PE X a ta)(hb:PE X b tb)(hm:behindInMarks op b=false):PT X (.Compare a [op] [b] pos) (Y7 (Jk r ta tb)):=by
 intro j s J H Q I h;refine wpAny_isTrue_Compare1 (ZW (Y j s J H _ I h) fun v s1 ⟨x,H1,I1,r1,q1⟩=>ZW (hb j s1 J H1 _ I1 q1) fun u s2 ⟨y,H2,I2,r2,q2⟩=>
  ZW (O j s2 J H2 x y v u _ I2 r1 r2 q2) fun c s3 ⟨z,H3,I3,r3,k,e,q3⟩=>?_) hm
 subst e;cases r3;exact dh ⟨H3,I3,q3⟩
theorem WE:(sizeLine:Nat)<2 ^ 63:=by rw[fK];decide
theorem ZG:WV X (binaryOp .Add) (fun x y H Q=>∃i j,x=.str i/\y=.str j/\i.length+j.length<=sizeLine/\Q (.str (i++j)) H):=by
 intro z s σ H x y v u Q I J O h;obtain⟨i,j,rfl,rfl,Y,q⟩:=h;obtain⟨t,rfl⟩:=J;obtain⟨t',rfl⟩:=O;exact add_str (fun t' tk=>⟨.str (i++j),H,I.tok _,⟨_,rfl⟩,q⟩) Y
theorem vals1 {x:V}{us:List Value}(r:ZI [x] us):∃u,us=[u]/\RelV x u:=by
 cases r with
 |cons j z=>cases z;exact⟨_,rfl,j⟩
theorem vals2 {x y:V}{us:List Value}(r:ZI [x,y] us):∃u j,us=[u,j]/\RelV x u/\RelV y j:=by
 cases r with
 |cons z J=>
  cases J with
  |cons O Y=>cases Y;exact⟨_,_,rfl,z,O⟩
theorem Vu:Z9 X (.builtin "abs") (fun xs H Q=>∃i,xs=[.int i]/\Q (.int (if i<0 then -i else i)) H):=by
 intro j s z H xs J Q I r h;obtain⟨i,rfl,q⟩:=h;obtain⟨u,rfl,t,rfl⟩:=vals1 r;exact call_abs_int fun u tk=>⟨.int (if i<0 then -i else i),H,I.tok _,⟨_,rfl⟩,q⟩
theorem Jb (O:X.calm=true):Z9 X (.builtin "min") (fun xs H Q=>∃i j,xs=[.int i,.int j]/\Q (.int (if j<i then j else i)) H):=by
 intro J s Y H xs us Q I r h;obtain⟨i,j,rfl,q⟩:=h;obtain⟨u,w',rfl,⟨t,rfl⟩,⟨t',rfl⟩⟩:=vals2 r;refine min_two_ints (I.ok.hd O) fun h' tk k=>⟨_,H,I.kept k,?_,q⟩;by_cases z:j<i
 ·rw[if_pos z,if_pos z];exact⟨_,rfl⟩
 ·rw[if_neg z,if_neg z];exact⟨_,rfl⟩
theorem ZaA:Z9 X (.type "int") (fun xs H Q=>(∃i,xs=[.int i]/\Q (.int i) H)\/∃k,xs=[.bl k]/\Q (.int (if k then 1 else 0)) H):=by
 intro j s J H xs O Q I r h;rcases h with ⟨i,rfl,q⟩|⟨k,rfl,q⟩
 ·obtain⟨u,rfl,t,rfl⟩:=vals1 r
  exact call_int_int ⟨.int i,H,I,⟨_,rfl⟩,q⟩
 ·obtain⟨u,rfl,z⟩:=vals1 r
  cases z;exact call_int_bool ⟨.int (if k then 1 else 0),H,I.tok _,⟨_,rfl⟩,q⟩
theorem Ye:Z9 X (.type "str") (fun xs H Q=>∃i,xs=[.int i]/\i.natAbs.log2<1920/\Q (.str (toString i)) H):=by
 intro j s J H xs O Q I r h;obtain⟨i,rfl,z,q⟩:=h;obtain⟨u,rfl,t,rfl⟩:=vals1 r;exact PySem.P.str_of_int z ⟨.str _,H,I.tok _,⟨_,rfl⟩,q⟩
end
section
variable {prog:Program}{w:World}{A:Around}{E:Value->Shared->Prop}{s:Shared}{K:ae}{x dx C f:Addr}{mA:Str->Option Value}{name:Str}{v:Value}
end
theorem J4.some_of {v:V}{o:Option Value}(r:J4 (some v) o):∃u,o=some u/\RelV v u:=by
 cases o with
 |none=>exact (show False from r).elim
 |some u=>exact⟨u,rfl,r⟩
section
variable {P:Program}{w:World}{H H':Hp}{h h':Heap}{a C dx:Addr}{fs fs':List (Str×V)}
end
section
variable {X:Cx}{pins:List (Addr×Obj)}{σ:St}{H:Hp}{s:Shared}{a C dx:Addr}{fs:List (Str×V)}{f:Str}{v:V}{A:Around}{E:Value->Shared->Prop}
end
section
variable {X:Cx}{o e value:Expr}{f:Str}{pos pos' tpos:Pos}{ta tv:TE}
end
section
variable {X:Cx}{pins:List (Addr×Obj)}{σ:St}{H:Hp}{s:Shared}{A:Around}{E:Value->Shared->Prop}{Q:Value->Shared->Prop}{c:Value}{b:Bool}
end
structure YV (k:Nat)(A:Around):Prop where
 hd:A.handled=none
 dp:A.depth+3*k+5<recursionLimit
 un:A.units+16*k+200<cLine
 gd:A.guards=some []
theorem YV.mono {j k:Nat}{A:Around}(r:YV k A)(h:j<=k):YV j A:=⟨r.hd,by have:=r.dp;omega,by have:=r.un;omega,r.gd⟩
theorem YV.deeper {k:Nat}{A:Around}(r:YV (k+1) A)(env:Env):YV k (A.deeper env):=
 ⟨r.hd,by have:=r.dp;show A.depth+1+3*k+5<_;omega,by have:=r.un;show A.units+3+16*k+200<_;omega,r.gd⟩
theorem YV.depth {k:Nat}{A:Around}(r:YV k A):A.depth<recursionLimit:=by have:=r.dp;omega
theorem YV.units {k:Nat}{A:Around}(r:YV k A):A.units+64<cLine:=by have:=r.un;omega
noncomputable def WC:TA:=fun _ H Q=>Q [] H
noncomputable def Yg (z:TE)(J:TA):TA:=fun j H Q=>z j H fun x O=>J j O fun Y H2=>Q (x::Y) H2
section
variable {X:Cx}{e:Expr}{es:List Expr}{te:TE}{t:TA}{pos:Pos}
theorem Zu:PA X [] WC:=fun _ _ _ _ H Q I h=>gJ ⟨[],H,I,.nil,h⟩
theorem Zcq (J:PE X e te)(O:PA X es t)(Y:starEach (e::es) X.env=(false,eval e X.env)::starEach es X.env:=by rfl):PA X (e::es) (Yg te t):=by
 intro pos j s z H Q I h;rw[Y];show wpAny _ _ (spliced ((false,eval e X.env)::backTo pos (starEach es X.env))) _ _ s;refine dY (ZW (J j s z H _ I h) fun u s1 ⟨x,H1,I1,r1,q1⟩=>?_);exact ZW (O pos j s1 z H1 _ I1 q1) fun us s2 ⟨xs,H2,I2,r2,q2⟩=>⟨x::xs,H2,I2,.cons r1 r2,q2⟩
noncomputable def UR (t:TA):TE:=fun J H Q=>t J H fun j z=>j.length<=sizeLine/\∀p,z p=none->Q (.ref p) (upd z p (.tup j))
noncomputable def ZfX (t:TA):TE:=fun J H Q=>t J H fun j z=>j.length<=sizeLine/\∀p,z p=none->Q (.ref p) (upd z p (.lst j))
theorem W0 {x1}(h:PA X es t):PE X (.Tuple es x1 pos) (UR t):=by
 intro j s σ H Q I hq;refine wpAny_Tuple_spliced (ZW (h pos j s σ H _ I hq) fun us J ⟨xs,O,Y,r,z,q⟩=>⟨by rw[<-r.length];exact z,?_⟩);have hf:O J.heap.objs.size=none:=Y.hok.fresh (Zq _);refine⟨.ref J.heap.objs.size,upd O J.heap.objs.size (.tup xs),Y.laid (t':=J.toks) (fun b u e=>Zn _ e) (Zq _) ?_,rfl,q _ hf⟩;exact⟨z,us,r,⟨_,Zo _ rfl,rfl,_,rfl⟩⟩
theorem YF (h:PA X es t):PE X (.List es pos) (ZfX t):=by
 intro j s σ H Q I hq;refine wpAny_List_spliced (ZW (h pos j s σ H _ I hq) fun us J ⟨xs,O,Y,r,z,q⟩=>⟨by rw[<-r.length];exact z,?_⟩);have hf:O J.heap.objs.size=none:=Y.hok.fresh (Zq _);refine⟨.ref J.heap.objs.size,upd O J.heap.objs.size (.lst xs),Y.laid (t':=J.toks) (fun b u e=>Zn _ e) (Zq _) ?_,rfl,q _ hf⟩;exact⟨z,us,0,r,Zo _ rfl⟩
end
noncomputable abbrev Sp:=List V->Hp->VK->XK->Prop
noncomputable abbrev VB:=List Env->Hp->Shared->XK->Value->Shared->Prop
structure Zc5 (P:Program)(w:World)(K:ae)(mg:Str->Option Value)(base:Heap)(A:Around)(outer:List Env)(s:Shared)(H:Hp):Prop where
 frames:A.frames=some outer
 mod:Mod K mg base
 bs:∀b o,base.get? b=some o->s.heap.get? b=some o/\H b=none
 bsz:base.objs.size<=s.heap.objs.size
 funs:s.heap.FunFrames base outer
 frf:∀b∈V7 outer,H b=none
 hok:WI P w H s.heap
 bare:dk s.gens
noncomputable def CE (outer:List Env)(P:Program)(w:World)(H:Hp)(s:Shared)(Q:VK)(u:Value)(s':Shared):Prop:=
 ∃v j,s'.os=s.os/\dk s'.gens/\Un (V7 outer) [] H j s.heap s'.heap/\WI P w j s'.heap/\RelV v u/\Q v j
noncomputable def CR (CX:VB)(outer:List Env)(P:Program)(w:World)(H:Hp)(s:Shared)(Q:VK)(E:XK)(r:Result)(s':Shared):Prop:=
 match r with
 | .ok (.ret u)=>CE outer P w H s Q u s'
 | .ok _=>False
 | .error e=>CX outer H s E e s'
structure Yj (P:Program)(w:World)(K:ae)(mg:Str->Option Value)(base:Heap)(CX:VB)(k:Nat)(f:Addr)(fd:FuncData)(ps:List Str)(sp:Sp):Prop where
 len:∀vs H Q E,sp vs H Q E->vs.length=ps.length
 run:∀(A:Around) (outer:List Env) (s:Shared) (H:Hp) (args:Args) (us:List Value) (vs:List V) (Q:VK) (E:XK),YV k A->Zc5 P w K mg base A outer s H->eK s fd args (ps.zip us)->ZI vs us->sp vs H Q E->
  codeAny (model P w) A (.call (.ref f) args) (CR CX outer P w H s Q E) s
section
variable {X:Cx}{pins:List (Addr×Obj)}{σ:St}{H:Hp}{s s':Shared}
theorem Inv.env0 (I:Inv X pins σ H s):Zc5 X.prog X.w X.K X.mg X.base X.A X.stack s H:=
 ⟨I.ok.frames,I.ok.mod,I.bs,aG I.ok.bsz I.sz,I.stack,I.stkFree,I.hok,I.bare⟩
theorem Inv.after {Q:VK}{u:Value}(I:Inv X pins σ H s)(h:CE X.stack X.prog X.w H s Q u s'):EP X pins σ Q u s':=by
 obtain⟨v,J,os,bare,un,hok,r,q⟩:=h;obtain⟨O,g,d,t,j⟩:=s';obtain rfl:j=s.os:=os;exact⟨v,J,I.call (h':=O) (g':=g) (d':=d) (t':=t) (ch:=[]) un hok bare (fun b z=>absurd z (by simp)),r,q⟩
end
noncomputable def Jz (sp:Sp)(j:List V)(E:XK)(t:TA):TE:=fun z H Q=>t z H fun J O=>sp (J++j) O Q E
noncomputable def Binds (K:ae)(J:FuncData)(z:List Str)(ds:List Value):Prop:=
 ∀(s:Shared) (j:List Value),K.In s.heap->(j++ds).length=z.length->eK s J ⟨j,[]⟩ (z.zip (j++ds))
theorem Binds.all {K:ae}{fd:FuncData}{j:List Str}(h:∀us:List Value,us.length=j.length->bindArgs fd ⟨us,[]⟩=pure (j.zip us)):Binds K fd j []:=fun s us _ hl=>by
 rw[aA] at hl ⊢;exact .of_eq (h us hl)
noncomputable def JT (CX:VB)(X:Cx)(E:XK):Prop:=∀(j:List (Addr×Obj)) (J:St) (H:Hp) (s:Shared) (e:Value) (z:Shared),Inv X j J H s->CX X.stack H s E e z->X.xe e z
section
variable {X:Cx}{CX:VB}{k:Nat}{f C:Addr}{fd:FuncData}{ps:List Str}{sp:Sp}{dvs:List V}{ds:List Value}{E:XK}{x m:Str}{p pos apos:Pos}{e o:Expr}{es:List Expr}{ta:TE}{t:TA}
theorem ZdJ {j:List (Addr×Obj)}{σ:St}{H:Hp}{s:Shared}{Q:VK}{us:List Value}{J:List V}(F:Yj X.prog X.w X.K X.mg X.base CX k f fd ps sp)(Y:YV k X.A)(hb:Binds X.K fd ps ds)(hd:ZI dvs ds)(hx:JT CX X E)
  (I:Inv X j σ H s) (r:ZI J us) (h:sp (J++dvs) H Q E):wpAny (model X.prog X.w) X.A (call (.ref f) us) (EP X j σ Q) X.xe s:=by
 have O:ZI (J++dvs) (us++ds):=r.append hd;have hl:(us++ds).length=ps.length:=by rw[<-O.length];exact F.len _ _ _ _ h
 refine wpAny_call (gR (F.run X.A X.stack s H ⟨us,[]⟩ (us++ds) (J++dvs) Q E Y I.env0 (hb s us I.kIn hl) O h) fun r s' z=>?_);cases r with
 |error e=>exact hx j σ H s e s' I z
 |ok fl=>
  cases fl with
  |ret u=>exact I.after z
  |next=>exact bE z
  |brk=>exact bE z
  |cont=>exact bE z
theorem Zcn (F:Yj X.prog X.w X.K X.mg X.base CX k f fd ps sp)(hr:YV k X.A)(hg:Gl X x)(hm:X.mg x=some (.ref f))(hk:aP X.K (.ref f)=true)(hb:Binds X.K fd ps ds)(hd:ZI dvs ds)(hx:JT CX X E)
  (ha:PA X (e::es) t) (z:(x == ("__debug__":Str))=false:=by decide) (he:starEach (e::es) X.env=(false,eval e X.env)::starEach es X.env:=by rfl) (J:(backTo pos (starEach es X.env)).any (·.1)=false:=by rfl) :
  PE X (.Call (.Name x p) (e::es) [] pos) (Jz sp dvs E t):=by
 intro j s σ H Q I h;refine cY (Jo I hg hm ?_ z);refine f9 (h₀:=X.base) I.ok.mod.kin hk (ZW (ha pos j s σ H _ I h) fun us s1 ⟨vs,H1,Y,r,q⟩=>⟨Y.kIn,?_⟩) he J;exact ZdJ F hr hb hd hx Y r q
end
section
variable {X:Cx}{CX:VB}{k:Nat}{f C:Addr}{fd:FuncData}{ps ks:List Str}{sp:Sp}{E:XK}{x m:Str}{p pos apos kpos:Pos}{e o:Expr}{es:List Expr}{kws:List Keyword}{te ta:TE}{t tk:TA}{nm:Option Str}
variable {g:List Value->List Value->List Value}{gV:List V->List V->List V}
end
structure Jr (N P:List Str)(sc:Scope):Prop where
 kind:sc.kind=.function
 co:sc.isCoroutine=false
 gen:sc.isGenerator=false
 nd:N.Nodup
 pre:N.take P.length=P
 par:∀x∈P,sc.names.lookup x=some .local\/sc.names.lookup x=some .cell
 nofree:∀y∈sc.names,y.2≠.free
theorem FS {N P:List Str}{j:Scope}(a:j.kind=.function:=by rfl)(b:j.isCoroutine=false:=by rfl)(c:j.isGenerator=false:=by rfl)(d:N.Nodup:=by decide +kernel)(e:N.take P.length=P:=by rfl)(f:∀x∈P,j.names.lookup x=some .local\/j.names.lookup x=some .cell:=by decide +kernel)(g:∀y∈j.names,y.2≠.free:=by decide +kernel):Jr N P j:=⟨a,b,c,d,e,f,g⟩
theorem bd1 {α:Type}{f g:List Value->α}(h:∀a,f [a]=g [a])(j:List Value)(l:j.length=1):f j=g j:=by
  cases j with
  |nil=>cases l
  |cons a r=>cases r with
    |nil=>exact h a
    |cons b r=>simp at l
theorem bd2 {α:Type}{f g:List Value->α}(h:∀a b,f [a,b]=g [a,b])(j:List Value)(l:j.length=2):f j=g j:=by
  cases j with
  |nil=>cases l
  |cons a r=>exact bd1 (f:=fun r=>f (a::r)) (g:=fun r=>g (a::r)) (h a) r (dQ l)
theorem bd3 {α:Type}{f g:List Value->α}(h:∀a b c,f [a,b,c]=g [a,b,c])(j:List Value)(l:j.length=3):f j=g j:=by
  cases j with
  |nil=>cases l
  |cons a r=>exact bd2 (f:=fun r=>f (a::r)) (g:=fun r=>g (a::r)) (h a) r (dQ l)
theorem bd4 {α:Type}{f g:List Value->α}(h:∀a b c d,f [a,b,c,d]=g [a,b,c,d])(j:List Value)(l:j.length=4):f j=g j:=by
  cases j with
  |nil=>cases l
  |cons a r=>exact bd3 (f:=fun r=>f (a::r)) (g:=fun r=>g (a::r)) (h a) r (dQ l)
theorem bd5 {α:Type}{f g:List Value->α}(h:∀a b c d e,f [a,b,c,d,e]=g [a,b,c,d,e])(j:List Value)(l:j.length=5):f j=g j:=by
  cases j with
  |nil=>cases l
  |cons a r=>exact bd4 (f:=fun r=>f (a::r)) (g:=fun r=>g (a::r)) (h a) r (dQ l)
theorem Xi {kindOf:Str->Option bU}{x:Str}:∀{binds:List (Str×Value)}{m:Str->Option Value},(∀v,(x,v)∉binds)->bindL kindOf binds m x=m x
 | [],_,_=>rfl
 |(n,v)::r,m,h=>by
  unfold bindL;rw[Xi fun w j=>h w (ah _ j)];split
  ·have:x≠n:=by rintro rfl;exact h v ai
   simp[this]
  ·rfl
theorem Xk {kindOf:Str->Option bU}{x:Str}:∀{binds:List (Str×Value)}{m:Str->Option Value},(∀v,(x,v)∉binds)->bindC kindOf binds m x=m x
 | [],_,_=>rfl
 |(n,v)::r,m,h=>by
  unfold bindC;rw[Xk fun w j=>h w (ah _ j)];split
  ·rfl
  ·have:x≠n:=by rintro rfl;exact h v ai
   simp[this]
theorem Xj {kindOf:Str->Option bU}{x:Str}{v:Value}:∀{P:List Str}{j:List Value}{i:Nat}{m:Str->Option Value},P.Nodup->P[i]?=some x->j[i]?=some v->kindOf x=some .local->
  bindL kindOf (P.zip j) m x=some v
 | [],_,_,_,_,h,_,_=>by simp at h
 |_::_,[],_,_,_,_,h,_=>by simp at h
 |p::P,w::j,0,m,nd,z,J,O=>by
  simp at z J;subst z;subst J;show bindL kindOf ((p,w)::P.zip j) m p=_;unfold bindL;rw[Xi fun v Y=>(bW.mp nd).1 (fq Y).1,if_pos O];simp
 |p::P,w::j,i+1,m,nd,z,J,O=>by
  show bindL kindOf ((p,w)::P.zip j) m x=_;unfold bindL;exact Xj (i:=i) (bW.mp nd).2 (by simpa using z) (by simpa using J) O
theorem Xl {kindOf:Str->Option bU}{x:Str}{v:Value}:∀{P:List Str}{j:List Value}{i:Nat}{m:Str->Option Value},P.Nodup->P[i]?=some x->j[i]?=some v->kindOf x≠some .local->
  bindC kindOf (P.zip j) m x=some v
 | [],_,_,_,_,h,_,_=>by simp at h
 |_::_,[],_,_,_,_,h,_=>by simp at h
 |p::P,w::j,0,m,nd,z,J,O=>by
  simp at z J;subst z;subst J;show bindC kindOf ((p,w)::P.zip j) m p=_;unfold bindC;rw[Xk fun v Y=>(bW.mp nd).1 (fq Y).1,if_neg O];simp
 |p::P,w::j,i+1,m,nd,z,J,O=>by
  show bindC kindOf ((p,w)::P.zip j) m x=_;unfold bindC;exact Xl (i:=i) (bW.mp nd).2 (by simpa using z) (by simpa using J) O
noncomputable def start (N:List Str)(j:List V):St:=j.map some++ag (N.length-j.length) none
noncomputable def Vn (CX:VB)(P:Program)(w:World)(K:ae)(mg:Str->Option Value)(base:Heap)(N:List Str)(j:Str)(scope:Scope)(f:Addr)(J:Value)(A:Around)(outer:List Env)(s:Shared)(H:Hp)(E:XK):Cx where
 prog:=P
 w:=w
 K:=K
 mg:=mg
 base:=base
 A:=A.deeper (envOfC j scope s.heap.objs.size f J)
 N:=N
 s₀:=s
 H₀:=H
 env:=envOfC j scope s.heap.objs.size f J
 outer:=outer
 stack:=envOfC j scope s.heap.objs.size f J::outer
 ex:=[]
 calm:=true
 fn:=fun _=>true
 pn:=[]
 xe:=fun e O=>wpAny (model P w) (A.deeper (envOfC j scope s.heap.objs.size f J)) (leaving (envOfC j scope s.heap.objs.size f J) e) (fun _ z=>CX outer H s E e z) (fun Y z=>CX outer H s E Y z) O
theorem Vq {j:Scope}{n:Nat}{x:Str}(h:j.names.lookup x=some .cell):∃c,(cellsFrom n j.names []).lookup x=some c:=by
 have q:=cZ j.names n [] (.inl h);exact fF.mp q
theorem Zam {CX:VB}{P:Program}{w:World}{K:ae}{mg:Str->Option Value}{base:Heap}{N O:List Str}{qual:Str}{scope:Scope}{f:Addr}{cd:Value}{A:Around}{outer:List Env}{s s1:Shared}{H:Hp}{E:XK}{us:List Value}{Y:List V}
  (S:Jr N O scope) (hd:A.handled=none) (J:Zc5 P w K mg base A outer s H) (hl:Y.length=O.length) (r:ZI Y us)
  (x:InCallC s s.heap.objs.size (bindL (envOfC qual scope s.heap.objs.size f cd).kindOf (O.zip us) fun _=>none) (cellsFrom (s.heap.objs.size+1) scope.names []) (bindC (envOfC qual scope s.heap.objs.size f cd).kindOf (O.zip us) fun _=>none) s1) :
  Inv (Vn CX P w K mg base N qual scope f cd A outer s H E) [] (start N Y) H s1:=by
 have i4:O.length<=N.length:=by have:=congrArg fo S.pre;rw[bP] at this;omega
 obtain⟨h1,tk,rfl,hk⟩:=x.done;have h9:∀b:Addr,b∉(Vn CX P w K mg base N qual scope f cd A outer s H E).ex:=fun b z=>absurd (show b∈([]:List Addr) from z) (by simp);refine⟨⟨J.mod,S.kind,rfl,rfl,Zq _,fun y z c h1 j=>?_,fun y hy=>?_,fun y c _ h=>?_,fun _=>hd,Around.frames_deeper J.frames,.inr ⟨rfl,rfl⟩,fun b z=>absurd z (h9 b),J.bs,J.bsz,fun b _ _=>h9 b,fun b z=>absurd z (h9 b),J.funs,J.frf⟩,
  rfl,J.bare,Un.kept hk,⟨_,x.toInCall.ns,fun i y v h1 j h3=>?_⟩,fun y c h=>⟨_,x.cell y c h⟩,J.hok.fresh (Zq _),fun y c h=>?_,fun p hp=>absurd (show p∈([]:List (Addr×Obj)) from hp) (by simp),J.hok.kept hk,?_⟩
 ·exact name_of_addr x.apart (aL h1) (aL j)
 ·have hy:scope.names.lookup y=some .cell\/scope.names.lookup y=some .free:=hy
  rcases hy with hy|hy
  ·exact Vq hy
  ·exact absurd rfl (S.nofree _ (aL hy))
 ·exact gl (x.above y c (aL h))
 ·have hi:i<Y.length:=by
   unfold start at j;by_cases hi:i<Y.length
   ·exact hi
   ·rw[aX (by simpa using hi)] at j
    rw[ce] at j;split at j <;> cases j
  have ha:Y[i]?=some v:=by
   unfold start at j;rw[bR (by simpa using hi),Zc] at j;cases e:Y[i]? with
   |none=>rw[e] at j;cases j
   |some a=>rw[e] at j;cases j;rfl
  obtain⟨u,hu,rv⟩:=r.get ha;have hp:O[i]?=some y:=by
   rw[<-S.pre,List.getElem?_take_of_lt (by omega)];exact h1
  have i0:O.Nodup:=by rw[<-S.pre];exact S.nd.sublist (List.take_sublist _ _)
  refine⟨u,rv,?_⟩;rcases S.par y (aM hp) with k|k
  ·exact .inl ⟨k,Xj i0 hp hu k⟩
  ·obtain⟨c,e⟩:=Vq (n:=s.heap.objs.size+1) k
   refine .inr ⟨.inl k,c,e,?_⟩;have q:=x.cell y c e;rw[Xl i0 hp hu (by show scope.names.lookup y≠_;rw[k];decide)] at q;exact q
 ·exact J.hok.fresh (gl (x.above y c (aL h)))
 ·unfold start
  show _=N.length;rw[Zd,Za,Ze];omega
theorem Zdu {CX:VB}{P:Program}{w:World}{K:ae}{mg:Str->Option Value}{base:Heap}{k:Nat}{f:Addr}{name j:Str}{params:Arguments}{body:List Stmt}{scope:Scope}{dV kV i4 pm z ct oc:Value}{an od:Option Addr}
  {i7:Array (Option Value)}{N ps:List Str}{sp:Sp} (lk:K.lookup f=some ⟨oc,od,.func (a7 name j params body scope dV kV i4 pm an z ct),i7⟩) (i8:b8 K z j=true) (S:Jr N ps scope)
  (len:∀O H Q E,sp O H Q E->O.length=ps.length)
  (h9:∀(A:Around) (outer:List Env) (s:Shared) (H:Hp) (O:List V) (Q:VK) (E:XK),YV k (A.deeper (envOfC j scope s.heap.objs.size f z))->sp O H Q E->
   ∃t,J5 (Vn CX P w K mg base N j scope f z A outer s H E) body t/\t {nx:=fun _ H'=>Q .non H',rt:=Q} (start N O) H) :
  Yj P w K mg base CX (k+1) f (a7 name j params body scope dV kV i4 pm an z ct) ps sp:=by
 refine⟨len,fun A outer s H args us O Q E hr e0 hb r i5=>?_⟩;have hl:=len _ _ _ _ i5;have KX:K.In s.heap:=e0.mod.kin.keeps fun b o e=>(e0.bs b o e).1;have i9:s.heap.NoLimit:=e0.mod.nolimit.keeps fun b o e=>(e0.bs b o e).1;have i0:∀y∈ps.zip us,scope.names.lookup y.1=some .local\/(scope.names.lookup y.1=some .cell/\((cellsFrom (s.heap.objs.size+1) scope.names []).lookup y.1).isSome=true):=fun ⟨n,v⟩ hy=>by
  rcases S.par n (fq hy).1 with q|q
  ·exact .inl q
  ·exact .inr ⟨q,cZ _ _ _ (.inl q)⟩
 refine codeAny_call_function hr.depth (KX _ _ lk) rfl S.co S.gen rfl (PySem.W.codeRec_of KX i8) (hb _ _ _ _ ?_);refine wpAny_newFunctionEnv_cells S.kind i0 fun env he s1 x=>?_;subst he;refine⟨i9.keeps x.toInCall.keep,codeAny_func ?_⟩;obtain⟨t,ht,hq⟩:=h9 A outer s H O Q E (hr.deeper _) i5;have I:Inv (Vn CX P w K mg base N j scope f z A outer s H E) [] (start N O) H s1:=Zam S hr.hd e0 hl r x;refine a6 (ht [] s1 (start N O) H _ I hq) (fun fl s' hs=>?_) fun e s' hs=>hs;have i6:∀{Y:St}{H':Hp}{v:V}{u:Value},Inv (Vn CX P w K mg base N j scope f z A outer s H E) [] Y H' s'->RelV v u->Q v H'->CE outer P w H s Q u s':=
  fun {Y H' v u} J rv q=>⟨v,H',J.os,J.bare,J.base,J.hok,rv,q⟩
 cases fl with
 |ret u=>
  obtain⟨v,Y,H',J,rv,q⟩:=hs;exact i6 J rv q
 |next=>
  obtain⟨Y,H',J,q⟩:=hs;exact i6 (v:=V.non) (u:=bj) J rfl q
 |brk=>
  obtain⟨_,_,_,q⟩:=hs;exact bE q
 |cont=>
  obtain⟨_,_,_,q⟩:=hs;exact bE q
section
variable {X:Cx}{x:Str}{p pos:Pos}{e:Expr}{es:List Expr}{t:TA}{id T:String}{r:List V->Hp->VK->Prop}
noncomputable def tCB (r:List V->Hp->VK->Prop)(t:TA):TE:=fun j H Q=>t j H fun z J=>r z J Q
theorem Za5 (Y:Z9 X (.builtin id) r)(hg:Gl X x)(hm:X.mg x=none)(hv:bootBuiltins x=some (.builtin id))(ha:PA X (e::es) t)(hn:x ≠ "__name__":=by decide)(z:(x == ("__debug__":Str))=false:=by decide)
  (he:starEach (e::es) X.env=(false,eval e X.env)::starEach es X.env:=by rfl) (J:(backTo pos (starEach es X.env)).any (·.1)=false:=by rfl):PE X (.Call (.Name x p) (e::es) [] pos) (tCB r t):=by
 intro j s O H Q I h;refine cY (W4 I hg hm hv ?_ hn z);exact PyProof.Rows.callWith_builtin1 (ZW (ha pos j s O H _ I h) fun us s1 ⟨vs,H1,I1,r1,q1⟩=>Y j s1 O H1 vs us Q I1 r1 q1) he J
theorem U4 (Y:Z9 X (.type T) r)(hg:Gl X x)(hm:X.mg x=none)(hv:bootBuiltins x=some (.type T))(ha:PA X (e::es) t)(hn:x ≠ "__name__":=by decide)(z:(x == ("__debug__":Str))=false:=by decide)
  (he:starEach (e::es) X.env=(false,eval e X.env)::starEach es X.env:=by rfl) (J:(backTo pos (starEach es X.env)).any (·.1)=false:=by rfl):PE X (.Call (.Name x p) (e::es) [] pos) (tCB r t):=by
 intro j s O H Q I h;refine cY (W4 I hg hm hv ?_ hn z);exact bA (ZW (ha pos j s O H _ I h) fun us s1 ⟨vs,H1,I1,r1,q1⟩=>Y j s1 O H1 vs us Q I1 r1 q1) he J
end
end L2
namespace HT
open PySem PyProof.Rows
section
open PySem.SeqAt
open PySem.AutoSeq1 (wpAny_loadPart')
open PySem.MeetsSeq PySem.MeetsSeq2 PySem.MeetsSeq3
end
section
variable {prog:Program}{w:World}{A:Around}{E:Value->Shared->Prop}{s:Shared}
noncomputable def Xu (n d:Nat):Option Int->Nat
 |none=>d
 |some v=>if v<0 then (v+(n:Int)).toNat else min v.toNat n
theorem Zb5 (n d k:Nat):Xu n d (some (k:Int))=min k n:=by
 show (if (k:Int)<0 then ((k:Int)+(n:Int)).toNat else min (k:Int).toNat n)=min k n
 rw[if_neg (by omega),Zj]
end
end HT
namespace L2
open PySem PySem.Spec PyProof.Rows
noncomputable abbrev TO:=St->Hp->(Option Int->Hp->Prop)->Prop
noncomputable def PO (X:Cx)(e:Option Expr)(t:TO):Prop:=
 ∀(j:List (Addr×Obj)) (s:Shared) (z:St) (H:Hp) (Q:Option Int->Hp->Prop),Inv X j z H s->t z H Q->
  wpAny (model X.prog X.w) X.A (evalPart e X.env) (fun u O=>∃o J,Inv X j z J O/\IsPart u o/\Q o J) X.xe s
noncomputable def WJ:TO:=fun _ H Q=>Q none H
noncomputable def XX (t:TE):TO:=fun j H Q=>t j H fun x z=>∃i,x=.int i/\Q (some i) z
section
variable {X:Cx}{e:Expr}{te:TE}{lo hi:Option Expr}{tl th:TO}{pos p2:Pos}
theorem Z8:PO X none WJ:=by
 intro j s z H Q I h;rw[evalPart_none];exact Zm ⟨none,H,I,.none,h⟩
theorem ZV (h:PE X e te):PO X (some e) (XX te):=by
 intro j s z H Q I J;rw[evalPart_some];refine ZW (h j s z H _ I J) fun u s1 ⟨x,O,Y,r1,q1⟩=>?_;obtain⟨i,rfl,q⟩:=q1;obtain⟨t,rfl⟩:=r1;exact⟨some i,O,Y,.int i t,q⟩
noncomputable def SlR (X:Cx)(r:V->Option Int->Option Int->Hp->VK->Prop):Prop:=
 ∀(j:List (Addr×Obj)) (s:Shared) (z:St) (H:Hp) (x:V) (v J O:Value) (lo hi:Option Int) (Y:Addr) (Q:VK),Inv X j z H s->RelV x v->s.heap.IsSliceOf Y J O .none->IsPart J lo->IsPart O hi->r x lo hi H Q->
  ∃T id,typeLookup (.type T) "__getitem__"=pure (some (.builtin id))/\s.TypeIs v T/\wpAny (model X.prog X.w) X.A (getItem v (.ref Y)) (EP X j z Q) X.xe s
noncomputable def tSl (r:V->Option Int->Option Int->Hp->VK->Prop)(te:TE)(tl th:TO):TE:=fun j H Q=>te j H fun x z=>tl j z fun l J=>th j J fun u O=>r x l u O Q
theorem ZU {r:V->Option Int->Option Int->Hp->VK->Prop}(hr:SlR X r)(he:PE X e te)(hl:PO X lo tl)(hu:PO X hi th):PE X (.Subscript e (.Slice lo hi none p2) pos) (tSl r te tl th):=by
 intro j s J H Q I h;refine Subscript_ (ZW (he j s J H _ I h) fun v s1 ⟨x,H1,I1,r1,q1⟩=>?_);refine wpAny_Slice (ZW (hl j s1 J H1 _ I1 q1) fun O s2 ⟨l,H2,I2,pl,q2⟩=>ZW (hu j s2 J H2 _ I2 q2) fun Y z ⟨u,H3,I3,pu,q3⟩=>?_);rw[evalPart_none];refine Zm ?_;have I4:Inv X j J H3 {z with heap:=z.heap.push {cls:=.type "slice",data:=.fields #[O,Y,.none]}}:=I3.kept (t':=z.toks) fun b ob q=>Zn _ q;obtain⟨T,id,hT,ht,hg⟩:=hr j {z with heap:=z.heap.push {cls:=.type "slice",data:=.fields #[O,Y,.none]}} J H3 x v O Y l u z.heap.objs.size Q I4 r1 (Heap.IsSliceOf.new ..) pl pu q3;show wpAny (model X.prog X.w) X.A (subscriptTail e (.Slice lo hi none p2) v (.ref z.heap.objs.size)) (EP X j J Q) X.xe {z with heap:=z.heap.push {cls:=.type "slice",data:=.fields #[O,Y,.none]}};exact tail_any (ops:=[.ref z.heap.objs.size,v]) ht hT hg (by with_unfolding_all rfl)
noncomputable def Zav (xs:List V)(lo hi:Option Int):List V:=(xs.drop (HT.Xu xs.length 0 lo)).take (HT.Xu xs.length xs.length hi-HT.Xu xs.length 0 lo)
theorem Vo (xs:List V)(lo hi:Option Int):(Zav xs lo hi).length<=xs.length:=by
 unfold Zav;rw[bP,aI];omega
end
noncomputable def ixN (n:Nat)(i:Int):Option Nat:=if 0<=i then (if i<n then some i.toNat else none) else if -(n:Int)<=i then some (i+n).toNat else none
noncomputable def atI {α:Type}(xs:List α)(i:Int):Option α:=(ixN xs.length i).bind fun j=>xs[j]?
theorem UC {n:Nat}{i:Int}{j:Nat}(h:ixN n i=some j):seqIndex? i n=some j/\j<n/\-(n:Int)<=i/\i<n:=by
 unfold ixN at h;by_cases J:0<=i
 ·rw[if_pos J] at h
  by_cases z:i<n
  ·rw[if_pos z] at h
   have e:i.toNat=j:=aB h;exact⟨by rw[seqIndex_of J z,e],by omega,by omega,z⟩
  ·rw[if_neg z] at h;cases h
 ·rw[if_neg J] at h
  by_cases z:-(n:Int)<=i
  ·rw[if_pos z] at h
   have e:(i+n).toNat=j:=aB h;exact⟨by rw[seqIndex_neg (by omega) z,e],by omega,z,by omega⟩
  ·rw[if_neg z] at h;cases h
theorem XL {α:Type}{xs:List α}{i:Int}{v:α}(h:atI xs i=some v):∃j,seqIndex? i xs.length=some j/\xs[j]?=some v/\j<xs.length/\-(xs.length:Int)<=i/\i<xs.length:=by
 unfold atI at h;cases e:ixN xs.length i with
 |none=>rw[e] at h;cases h
 |some j=>
  rw[e] at h;obtain⟨z,J,O,Y⟩:=UC e;exact⟨j,z,h,J,O,Y⟩
theorem Y6 {α:Type}{xs:List α}{j:Nat}{v:α}(h:xs[j]?=some v):atI xs (j:Int)=some v:=by
 have z:j<xs.length:=(aK.mp h).1;have e:ixN xs.length (j:Int)=some j:=by
  unfold ixN;rw[if_pos (by omega),if_pos (by omega)];simp
 unfold atI;rw[e];exact h
noncomputable def Zc3 (b:Expr):Prop:=∀o i,subscripted b false o i=operate [o,i] (getItem o i)
noncomputable def IxR (X:Cx)(r:R2):Prop:=
 ∀(z slice:Expr) (j:List (Addr×Obj)) (s:Shared) (J:St) (H:Hp) (x y:V) (v u:Value) (Q:VK),Inv X j J H s->RelV x v->RelV y u->r x y H Q->
  subscripted slice false v u=operate [v,u] (getItem v u)->wpAny (model X.prog X.w) X.A (subscriptTail z slice v u) (EP X j J Q) X.xe s
noncomputable def MtR (X:Cx)(id:String)(r:V->List V->Hp->VK->Prop):Prop:=
 ∀(j:List (Addr×Obj)) (s:Shared) (z:St) (H:Hp) (x:V) (J:List V) (v:Value) (O:List Value) (Q:VK),Inv X j z H s->RelV x v->ZI J O->r x J H Q->
  wpAny (model X.prog X.w) X.A (call (.builtin id) (v::O)) (EP X j z Q) X.xe s
section
variable {X:Cx}{a b:Expr}{ta tb:TE}{pos:Pos}
theorem ZZ {r:R2}(z:IxR X r)(J:PE X a ta)(hb:PE X b tb)(O:Zc3 b):PE X (.Subscript a b pos) (Jk r ta tb):=by
 intro j s Y H Q I h;exact Subscript_ (ZeC J hb I h fun v u s2 x y H2 I2 rx ry q=>z a b j s2 Y H2 x y v u Q I2 rx ry q (O _ _))
noncomputable def Zfo (K:ae):R2:=fun x y H Q=>∃p j i v,x=.ref p/\y=.int i/\Wr K H p j/\atI j i=some v/\Q v H
noncomputable def Zb7 (K:ae):R2:=fun x y H Q=>∃p j i v,x=.ref p/\y=.int i/\Jq K H p j/\atI j i=some v/\Q v H
noncomputable def Zf5:R2:=fun x y H Q=>∃z i c,x=.str z/\y=.int i/\z.length<=sizeLine/\atI z.cps.toList i=some c/\Q (.str ⟨#[c]⟩) H
theorem ZcG:IxR X (Zfo X.K):=by
 intro Y slice J s σ H x y v u Q I rx ry h hs;obtain⟨p,xs,i,z,rfl,rfl,hq,he,q⟩:=h;cases rx;obtain⟨t,rfl⟩:=ry;obtain⟨h9,r,pl,hz⟩:=I.list hq;obtain⟨j,O,h2,h3,h4,h5⟩:=XL he;obtain⟨w,ew,i0⟩:=r.get h2;have hl:=r.length;have hn:=WE;have fin:EP X J σ Q w s:=⟨z,H,I,i0,q⟩;by_cases h0:0<=i
 ·have hj:i.toNat=j:=by
   rw[seqIndex_of h0 h5] at O;exact aB O
  exact item_listR pl.isList h0 (by omega) (by rw[hj];simpa using ew) fin hs
 ·have hj:(i+(h9.toArray.size:Int)).toNat=j:=by
   rw[seqIndex_neg (by omega) h4] at O;rw[Zh,<-hl];exact aB O
  exact gW (x:=w) pl.isList.typeIs slot_list_getitem.lookup
   (wpAny_getItem_list_neg (Q:=fun r s'=>r=w/\EP X J σ Q r s') pl.isList (by omega) (by rw[Zh] <;> omega) (by omega) (by rw[hj];simpa using ew) ⟨rfl,fin⟩) hs
theorem Zeq:IxR X (Zb7 X.K):=by
 intro O slice J s σ H x y v u Q I rx ry h hs;obtain⟨p,xs,i,z,rfl,rfl,hq,he,q⟩:=h;cases rx;obtain⟨t,rfl⟩:=ry;obtain⟨h9,r,pl,hz⟩:=I.tuple hq;obtain⟨j,h1,h2,h3,h4,h5⟩:=XL he;obtain⟨w,ew,Y⟩:=r.get h2;have hl:=r.length;have hn:=WE;have fin:EP X J σ Q w s:=⟨z,H,I,Y,q⟩;exact gW (x:=w) pl.typeIs slot_tuple_getitem.lookup
  (getItem_tuple (j:=j) (Q:=fun r s'=>r=w/\EP X J σ Q r s') pl (by omega) (by omega) (by rw[Zh,<-hl];exact h1) (by simpa using ew) ⟨rfl,fin⟩) hs
theorem JL:IxR X Zf5:=by
 intro J slice O s σ H x y v u Q I rx ry h hs;obtain⟨z,i,c,rfl,rfl,hz,he,q⟩:=h;obtain⟨t,rfl⟩:=rx;obtain⟨t',rfl⟩:=ry;obtain⟨j,Y,h2,h3,h4,h5⟩:=XL he;have hl:z.cps.toList.length=z.length:=by simp[Str.length]
 rw[hl] at Y h4 h5;have hn:=WE;exact tail_any (bp s z t) slot_str_getitem.lookup (getItem_str (c:=c) (by
  have e1:decide (i < -(2 ^ 63:Int))=false:=decide_eq_false (by omega);have e2:decide (i ≥ 2 ^ 63)=false:=decide_eq_false (by omega);rw[e1,e2,Bool.or_false]) (by rw[Y];simpa using h2) ⟨.str ⟨#[c]⟩,H,I.tok _,⟨_,rfl⟩,q⟩) hs
theorem VZ (z:List Value)(n j:Nat)(u:Value):eJ (·.setIfInBounds j u) {cls:=.type "list",data:=.seq z.toArray n}={cls:=.type "list",data:=.seq (z.set j u).toArray n}:=by
 simp[eJ]
theorem Inv.lst {J:List (Addr×Obj)}{σ:St}{H:Hp}{s:Shared}{p:Addr}{xs:List V}(I:Inv X J σ H s)(h:H p=some (.lst xs)) :
  ∃(j:List Value) (n:Nat),ZI xs j/\s.heap.get? p=some {cls:=.type "list",data:=.seq j.toArray n}/\xs.length<=sizeLine:=by
 obtain⟨z,j,n,r,e⟩:=I.hok p _ h;exact⟨j,n,r,e,z⟩
theorem Inv.lstUpd {j:List (Addr×Obj)}{σ:St}{H:Hp}{s:Shared}{p:Addr}{xs J:List V}{z its':List Value}{n O:Nat}{f:Obj->Obj}(I:Inv X j σ H s)(h:H p=some (.lst xs))
  (Y:s.heap.get? p=some {cls:=.type "list",data:=.seq z.toArray n}) (hf:f {cls:=.type "list",data:=.seq z.toArray n}={cls:=.type "list",data:=.seq its'.toArray O}) (r:ZI J its') (hz:J.length<=sizeLine) (t:Nat) :
  Inv X j σ (upd H p (.lst J)) {s with heap:=s.heap.update p f,toks:=t}:=by
 have e:(s.heap.update p f).get? p=some {cls:=.type "list",data:=.seq its'.toArray O}:=by
  rw[bJ f Y (by rw[hf] <;> rfl),hf]
 refine I.write (x:=p) (e:=p) (by rw[h];trivial) (.inl rfl) (fun b u hb q=>(aH _ _ (a8 hb)).trans q) ⟨_,e⟩ ?_;exact⟨hz,its',O,r,e⟩
noncomputable def Zfm:V->V->V->Hp->(Hp->Prop)->Prop:=fun o i v H Q=>∃p z k j,o=.ref p/\i=.int k/\H p=some (.lst z)/\ixN z.length k=some j/\Q (upd H p (.lst (z.set j v)))
theorem X4:ZeF X Zfm:=by
 intro z s σ H o i v ov iv u Q I ro ri rv h;obtain⟨p,xs,k,j,rfl,rfl,hp,hj,q⟩:=h;cases ro;obtain⟨t,rfl⟩:=ri;obtain⟨J,n,r,Y,hz⟩:=I.lst hp;obtain⟨O,h2,h3,h4⟩:=UC hj;have hl:=r.length;have hn:=WE;have I':Inv X z σ (upd H p (.lst (xs.set j v))) {s with heap:=s.heap.update p (eJ (·.setIfInBounds j u))}:=
  I.lstUpd hp Y (VZ J n j u) (r.set rv j) (by rw[bX];exact hz) s.toks
 by_cases h0:0<=k
 ·have hk:k.toNat=j:=by
   rw[seqIndex_of h0 h4] at O;exact aB O
  exact PySem.W.ki_setAt Y h0 (by omega) (by rw[Zh,<-hl];exact h4) (by rw[hk];exact⟨_,I',q⟩)
 ·have hk:(k+(J.toArray.size:Int)).toNat=j:=by
   rw[seqIndex_neg (by omega) h3] at O;rw[Zh,<-hl];exact aB O
  exact PySem.W.ki_setBack Y (by omega) (by rw[Zh,<-hl];exact h3) (by omega) (by rw[hk];exact⟨_,I',q⟩)
theorem Xr (lo j:Option Int)(n:Nat):(sliceBounds lo j none n).1=((HT.Xu n 0 lo:Nat):Int)/\(sliceBounds lo j none n).2.1=((HT.Xu n n j:Nat):Int)/\(sliceBounds lo j none n).2.2=1:=by
 refine⟨?_,?_,rfl⟩
 ·cases lo with
  |none=>simp[sliceBounds,HT.Xu]
  |some i=>
   simp only[sliceBounds,HT.Xu,gK,show (1:Int) > 0 by decide,if_true];by_cases h:i<0
   ·simp only[h,if_true] <;> omega
   ·simp only[h,if_false] <;> omega
 ·cases j with
  |none=>simp[sliceBounds,HT.Xu]
  |some i=>
   simp only[sliceBounds,HT.Xu,gK,show (1:Int) > 0 by decide,if_true];by_cases h:i<0
   ·simp only[h,if_true] <;> omega
   ·simp only[h,if_false] <;> omega
theorem J0 (j:List Value)(lo z:Option Int):slicePick j.toArray lo z none=((j.drop (HT.Xu j.length 0 lo)).take (HT.Xu j.length j.length z-HT.Xu j.length 0 lo)).toArray:=by
 obtain⟨J,O,Y⟩:=Xr lo z j.toArray.size;unfold slicePick;rw[J,O,Y];simp only[sliceRange_one,pick_run,Zh] <;> rfl
noncomputable def Zf2 (K:ae):V->Option Int->Option Int->Hp->VK->Prop:=fun x lo z H Q=>∃a j,x=.ref a/\Wr K H a j/\∀p,H p=none->Q (.ref p) (upd H p (.lst (Zav j lo z)))
theorem Zb1:SlR X (Zf2 X.K):=by
 intro J s σ H x v vl vu lo z sl Q I Y hs pl pu h;obtain⟨a,xs,rfl,hx,q⟩:=h;cases Y;obtain⟨h9,r,O,hz⟩:=I.list hx;have j:=r.length;refine⟨"list",_,slot_list_getitem.lookup,O.isList.typeIs,?_⟩;refine wpAny_getItem_list_slice O.isList hs pl pu .none (by simp) ?_ (by rw[Zh] <;> omega)
 rw[J0,<-j];refine⟨.ref s.heap.objs.size,_,I.laid (t':=s.toks) (o:=.lst (Zav xs lo z)) (fun b ob q=>Zn _ q) (Zq _) ?_,rfl,q _ (I.hok.fresh (Zq _))⟩;exact⟨aG (Vo xs lo z) hz,_,0,(r.drop (HT.Xu xs.length 0 lo)).take (HT.Xu xs.length xs.length z-HT.Xu xs.length 0 lo),Zo _ rfl⟩
theorem XI:Z9 X (.builtin "len") (fun xs H Q=>∃p j,xs=[.ref p]/\(Wr X.K H p j\/Jq X.K H p j)/\Q (.int j.length) H):=by
 intro Y s σ H xs us Q I r h;obtain⟨p,j,rfl,z,q⟩:=h;obtain⟨u,rfl,rx⟩:=vals1 r;cases rx;have hn:=WE;rcases z with z|z
 ·obtain⟨J,O,pl,hz⟩:=I.list z
  have hlen:=O.length;exact Calls.call_len_list pl.isList (by simp only[Zh] <;> omega) ⟨.int j.length,H,I.tok _,⟨s.toks+1,by rw[Zh,hlen]⟩,q⟩
 ·obtain⟨J,O,pl,hz⟩:=I.tuple z
  have hlen:=O.length;exact len_tuple pl (by simp only[Zh] <;> omega) ⟨.int j.length,H,I.tok _,⟨s.toks+1,by rw[Zh,hlen]⟩,q⟩
theorem Y5:Z9 X (.builtin "len") (fun xs H Q=>∃z,xs=[.str z]/\z.length<=sizeLine/\Q (.int z.length) H):=by
 intro j s J H xs O Q I r h;obtain⟨z,rfl,Y,q⟩:=h;obtain⟨u,rfl,t,rfl⟩:=vals1 r;have hn:=WE;exact len_str (by omega) ⟨.int z.length,H,I.tok _,⟨_,rfl⟩,q⟩
theorem XH:Z9 X (.type "list") (fun xs H Q=>∃p J,xs=[.ref p]/\(Wr X.K H p J\/Jq X.K H p J)/\∀l,H l=none->Q (.ref l) (upd H l (.lst J))):=by
 intro h9 s σ H xs us Q I r h;obtain⟨p,J,rfl,hq,q⟩:=h;obtain⟨u,rfl,rx⟩:=vals1 r;cases rx;have i0:∀(j:List Value),ZI J j->J.length<=sizeLine->∀(z:Heap) (O:Nat),(∀b o',s.heap.get? b=some o'->z.get? b=some o')->
   z.get? s.heap.objs.size=some {cls:=.type "list",dict:=none,data:=.seq j.toArray O,slots:=#[]}->EP X h9 σ Q (.ref s.heap.objs.size) {s with heap:=z}:=fun j Y hz z O kp e=>
  ⟨.ref s.heap.objs.size,_,I.laid (t':=s.toks) kp (Zq _) (show Z6 X.prog X.w _ z _ (.lst J) from ⟨hz,j,O,Y,e⟩),rfl,q _ (I.hok.fresh (Zq _))⟩
 rcases hq with hq|hq
 ·obtain⟨j,Y,pl,hz⟩:=I.list hq
  have i4:=Y.length;obtain⟨o,ho,hc,n,hd⟩:=pl.isList;exact call_list_seq p (.inl rfl) ho hc hd (fun z O kp e=>i0 j Y hz z O kp e) (by simp only[Zh] <;> omega)
 ·obtain⟨j,Y,pl,hz⟩:=I.tuple hq
  have i4:=Y.length;obtain⟨o,ho,hc,n,hd⟩:=pl;exact call_list_seq p (.inr rfl) ho hc hd (fun z O kp e=>i0 j Y hz z O kp e) (by simp only[Zh] <;> omega)
theorem J3:Z9 X (.type "tuple") (fun xs H Q=>∃p J,xs=[.ref p]/\((Wr X.K H p J/\∀l,H l=none->Q (.ref l) (upd H l (.tup J)))\/(Jq X.K H p J/\Q (.ref p) H))):=by
 intro j s σ H xs us Q I r h;obtain⟨p,J,rfl,h⟩:=h;obtain⟨u,rfl,rx⟩:=vals1 r;cases rx;rcases h with ⟨Y,q⟩|⟨Y,q⟩
 ·obtain⟨z,r',pl,hz⟩:=I.list Y
  have h9:=r'.length;refine call_tuple_list pl.isList (fun O kp=>?_) (by simp only[Zh] <;> omega)
  have I1:Inv X j σ H {s with heap:=O}:=I.kept (t':=s.toks) kp;have I2:Inv X j σ (upd H O.objs.size (.tup J)) {s with heap:=O.push {cls:=.type "tuple",data:=.seq z.toArray}}:=
   I1.laid (t':=s.toks) (fun b o e=>Zn _ e) (Zq _) (show Z6 X.prog X.w _ _ _ (.tup J) from ⟨hz,z,r',eV _ _⟩)
  exact⟨.ref O.objs.size,_,I2,rfl,q _ (I1.hok.fresh (Zq _))⟩
 ·obtain⟨z,r',pl,hz⟩:=I.tuple Y
  exact call_tuple_same pl ⟨.ref p,H,I,rfl,q⟩
noncomputable def tyV (K:ae)(T:String)(x:V)(H:Hp):Prop:=match x with
 | .str _=>T = "str"
 | .int _=>T = "int"
 | .ref p=>(T = "list"/\∃z,Wr K H p z)\/(T = "tuple"/\∃o,K.lookup p=some o/\o.cls=.type "tuple"/\o.dict=none)\/
   (T = "dict"/\((∃j,H p=some (.dK j))\/∃j,H p=some (.dT j)))\/(T = "set"/\∃S n,H p=some (.set S n))
 |_=>False
theorem ZaH {J:List (Addr×Obj)}{σ:St}{H:Hp}{s:Shared}{T:String}{x:V}{v:Value}(I:Inv X J σ H s)(r:RelV x v)(ty:tyV X.K T x H) :
  s.TypeIs v T/\∀a,v=.ref a->∃ob,s.heap.get? a=some ob/\ob.dict=none:=by
 cases x with
 |str z=>
  obtain⟨t,rfl⟩:=r;cases (show T = "str" from ty);exact⟨bp s z t,fun _ e=>nomatch e⟩
 |int i=>
  obtain⟨t,rfl⟩:=r;cases (show T = "int" from ty);exact⟨fe s i t,fun _ e=>nomatch e⟩
 |ref p=>
  cases r;rcases ty with ⟨rfl,xs,hq⟩|⟨rfl,o,j,hc,hd⟩|⟨rfl,j⟩|⟨rfl,S,n,j⟩
  ·obtain⟨h9,_,pl,_⟩:=I.list hq
   refine⟨pl.isList.typeIs,fun a e=>?_⟩;cases e;obtain⟨o,n,e,c,hd,_⟩:=pl;exact⟨o,e,hd⟩
  ·refine⟨⟨o,I.kIn p o j,hc⟩,fun a e=>?_⟩
   cases e;exact⟨o,I.kIn _ o j,hd⟩
  ·have z:∃o,s.heap.get? p=some o/\o.ExactDict:=by
    rcases j with ⟨O,j⟩|⟨O,j⟩
    ·obtain⟨_,_,_,_,o,_,_,e,ex,_⟩:=I.hok p _ j
     exact⟨o,e,ex⟩
    ·obtain⟨_,_,_,_,o,_,_,e,ex,_⟩:=I.hok p _ j
     exact⟨o,e,ex⟩
   obtain⟨o,e,ex⟩:=z;refine⟨⟨o,e,ex.1⟩,fun a Y=>?_⟩;cases Y;exact⟨o,e,ex.2.1⟩
  ·obtain⟨o,_,_,_,e,ex,_⟩:=I.hok p _ j
   refine⟨⟨o,e,ex.1⟩,fun a Y=>?_⟩;cases Y;exact⟨o,e,ex.2.1⟩
 |_=>exact bE ty
noncomputable def tBM (K:ae)(T:String)(r:V->List V->Hp->VK->Prop)(J:TE)(t:TA):TE:=fun j H Q=>J j H fun x z=>tyV K T x z/\t j z fun O Y=>r x O Y Q
variable {o e:Expr}{es:List Expr}{to:TE}{t:TA}{name:Str}{apos cpos:Pos}{T id:String}{r:V->List V->Hp->VK->Prop}
theorem Xd (pa:PlainAttrs T)(slot:Slot T name id)(h9:typeOf (.builtin id)=pure (.type "method_descriptor"))(hm:MtR X id r)(ho:PE X o to)(ha:PA X (e::es) t)
  (J:attributeBase o name X.env (eval o X.env)=eval o X.env:=by rfl)
  (Y:((backTo cpos (starEach (e::es) X.env)).all (fun x=>!x.1) && (backToKw cpos (keywordEach [] X.env)).all (fun x=>x.1.isSome)
   && decide ((e::es).length+([]:List Keyword).length+(if ([]:List Keyword).isEmpty then 0 else 1)<30))=true:=by rfl)
  (O:(apos.endLine == cpos.line)=true:=by rfl) (hs:starEach (e::es) X.env=(false,eval e X.env)::starEach es X.env:=by rfl) (z:(backTo cpos (starEach es X.env)).any (·.1)=false:=by rfl) :
  PE X (.Call (.Attribute o name apos) (e::es) [] cpos) (tBM X.K T r to t):=by
 intro j s σ H Q I h;refine dI J Y O rfl (ZW (ho j s σ H _ I h) fun v s1 ⟨x,H1,I1,r1,ty,q1⟩=>?_);obtain⟨h1,h2⟩:=ZaH I1 r1 ty;refine⟨T,id,pa,slot,h9,h1,h2,?_⟩;have hA:=ha cpos j s1 σ H1 _ I1 q1;rw[hs] at hA ⊢;refine df (by show (false || (backTo cpos (starEach es X.env)).any (·.1))=false;rw[z] <;> rfl) (dD ?_)
 exact ZW hA fun us s2 ⟨vs,H2,I2,r2,q2⟩=>hm j s2 σ H2 x vs v us Q I2 r1 r2 q2
end
noncomputable def MtM (X:Cx)(id:String)(r:V->List V->Hp->VK->Prop):Prop:=
 ∀(j:List (Addr×Obj)) (s:Shared) (z:St) (H:Hp) (x:V) (J:List V) (v:Value) (O:List Value) (Q:VK),Inv X j z H s->RelV x v->ZI J O->r x J H Q->
  wpAny (model X.prog X.w) X.A (call (.builtin id) (v::O)) (EP X j z Q) X.xe s
theorem ZI.one {x:V}{us:List Value}(h:ZI [x] us):∃u,us=[u]/\RelV x u:=by
 cases h with
 |cons r t=>cases t;exact⟨_,rfl,r⟩
theorem ZI.rep {xs:List V}{us:List Value}(h:ZI xs us):∀k:Nat,ZI (ag k xs).flatten (ag k us).flatten
 |0=>.nil
 |k+1=>by
  rw[aE,aE,bc,bc];exact ZI.append h (ZI.rep h k)
theorem foldl_rep (j:List Value):∀(k:Nat) (acc:List Value),
  gO (fun z J=>z++J) acc.toArray (ag k j.toArray)=(acc++(ag k j).flatten).toArray
 |0,acc=>by simp
 |k+1,acc=>by
  have e:acc.toArray++j.toArray=(acc++j).toArray:=by simp
  have O:(acc++j)++(ag k j).flatten=acc++(ag (k+1) j).flatten:=by
   rw[aE,bc,am]
  rw[<-O,<-foldl_rep j k (acc++j),<-e,aE,List.foldl_cons]
section
variable {X:Cx}{pins:List (Addr×Obj)}{σ:St}{H:Hp}{s:Shared}{l b:Addr}{xs ys zs:List V}
theorem Inv.lset {j its':List Value}{n:Nat}{f:Array Value->Array Value}{t':Nat}(I:Inv X pins σ H s)(z:H l=some (.lst xs))
  (e:s.heap.get? l=some {cls:=.type "list",data:=.seq j.toArray n}) (J:f j.toArray=its'.toArray) (O:ZI ys its') (Y:ys.length<=sizeLine) :
  Inv X pins σ (upd H l (.lst ys)) {s with heap:=s.heap.update l (eJ f),toks:=t'}:=by
 have q:=PySem.IsL.update e f;rw[J] at q;refine I.write (x:=l) (e:=l) (by rw[z];exact trivial) (.inl rfl) (fun b' u hb hu=>(aH s.heap (eJ f) (a8 hb)).trans hu) ⟨_,q⟩ ?_;exact⟨Y,its',_,O,q⟩
theorem Inv.lnew {j:List Value}{t':Nat}(I:Inv X pins σ H s)(z:ZI ys j)(J:ys.length<=sizeLine) :
  Inv X pins σ (upd H s.heap.objs.size (.lst ys)) {s with heap:=s.heap.push {cls:=.type "list",data:=.seq j.toArray},toks:=t'}:=
 I.laid (fun _ _ q=>Zn _ q) (Zq _) ⟨J,j,0,z,Zo _ rfl⟩
theorem Inv.fresh (I:Inv X pins σ H s):H s.heap.objs.size=none:=I.hok.fresh (Zq _)
theorem Inv.lstM (I:Inv X pins σ H s)(J:H l=some (.lst xs)):xs.length<=sizeLine/\∃(j:List Value) (n:Nat),ZI xs j/\xs.length=j.length/\s.heap.get? l=some {cls:=.type "list",data:=.seq j.toArray n}:=by
 obtain⟨z,j,n,r,e⟩:=I.hok l _ J;exact⟨z,j,n,r,r.length,e⟩
theorem Za8 {n:Nat}(h:n<=sizeLine):cC n=false:=by
 unfold cC;exact decide_eq_false (by omega)
end
section
variable {X:Cx}
noncomputable def Zb9:V->List V->Hp->VK->Prop:=fun x z H Q=>∃l j y,x=.ref l/\z=[y]/\H l=some (.lst j)/\j.length<sizeLine/\Q .non (upd H l (.lst (j++[y])))
theorem Wt:MtM X "list.append" Zb9:=by
 intro J s σ H x vs v us Q I rx rv h;obtain⟨l,xs,y,rfl,rfl,O,hz,q⟩:=h;cases rx;obtain⟨u,rfl,ru⟩:=rv.one;obtain⟨z,j,n,r,hl,e⟩:=I.lstM O;refine bL b9 ⟨_,e,rfl⟩ F.entry_list_append (F.args_list_append_2 _ _) (PySem.list_append l j.toArray n u (by rw[Zh];omega)) ⟨e,?_⟩;refine⟨.non,_,I.lset (its':=j++[u]) O e (by simp) (r.append (.cons ru .nil)) ?_,rfl,q⟩;rw[Zd,Zk];omega
noncomputable def Zf9:R2:=fun x y H Q=>∃l b j z,x=.ref l/\y=.ref b/\H l=some (.lst j)/\H b=some (.lst z)/\j.length+z.length<=sizeLine/\∀p,H p=none->Q (.ref p) (upd H p (.lst (j++z)))
theorem Zd4:WV X (binaryOp .Add) Zf9:=by
 intro O s σ H x y v u Q I Y ry h;obtain⟨l,b,xs,zs,rfl,rfl,hH,hB,hz,q⟩:=h;cases Y;cases ry;obtain⟨z,J,n,r,hl,e⟩:=I.lstM hH;obtain⟨z2,j,n2,r2,h9,e2⟩:=I.lstM hB;refine PySem.P.add_list e e2 ?_ (by rw[Zh,Zh];omega);have ea:J.toArray++j.toArray=(J++j).toArray:=by simp
 rw[ea];exact⟨.ref _,_,I.lnew (t':=s.toks) (r.append r2) (by rw[Zd];omega),rfl,q _ I.fresh⟩
noncomputable def Zf3:R2:=fun x y H Q=>∃l k j,x=.ref l/\y=.int k/\H l=some (.lst j)/\-(2 ^ 63)<=k/\k<2 ^ 63/\j.length*k.toNat<=sizeLine/\
 ∀p,H p=none->Q (.ref p) (upd H p (.lst (ag k.toNat j).flatten))
theorem XC {α:Type}(xs:List α)(k:Nat):(ag k xs).flatten.length=k*xs.length:=by
 induction k with
 |zero=>simp
 |succ k j=>rw[aE,bc,Zd,j,eW,Nat.add_comm]
theorem Za7:WV X (binaryOp .Mult) Zf3:=by
 intro i4 s σ H x y v u Q I rx ry h;obtain⟨l,k,xs,rfl,rfl,hH,h1,h2,hz,q⟩:=h;cases rx;obtain⟨t,rfl⟩:=ry;obtain⟨z,j,n,r,hl,e⟩:=I.lstM hH;have O:j.toArray.size*k.toNat<=sizeLine:=by rw[Zh,<-hl];exact hz
 have Y:¬j.toArray.size*k.toNat > (2 ^ 63-1) / 8:=by
  have:(sizeLine:Nat)<=(2 ^ 63-1) / 8:=by decide
  omega
 have h9:¬(!Builtin.List.listFitsIndex k)=true:=by
  rw[fitsIndex_both h1 h2];exact ax
 have J:¬cC (j.toArray.size*k.toNat)=true:=by
  rw[Za8 O];exact ax
 have i0:gO (fun x1 x2=>x1++x2) #[] (ag (if j.toArray.isEmpty=true then 0 else k.toNat) j.toArray)=(ag k.toNat j).flatten.toArray:=by
  have f0:∀m:Nat,gO (fun x1 x2=>x1++x2) #[] (ag m j.toArray)=(ag m j).flatten.toArray:=fun m=>by
   have:=foldl_rep j m [];rw[aU] at this;exact this
  rw[f0];cases j with
  |nil=>simp
  |cons a r'=>rw[if_neg (by simp)]
 refine gq (T:="list") (U:="int") (by decide) ⟨_,e,rfl⟩ (fun s'=>fe s' k t) noFill_list_mul F.fills_int_mul dG repeat_list F.slot_int_index.lookup
  (bL dG (fe s k t) F.entry_int_rmul (F.args_int_rmul_2 _ _) (int___rmul___int_list k t l j.toArray n)
   ⟨e,rfl,⟨_,e,rfl⟩,bL F.slot_list_mul ⟨_,e,rfl⟩ F.entry_list_mul (F.args_list_mul_2 _ _) (AutoListH.list___mul___list_int_3 l j.toArray n k t h9 Y J) ⟨e,?_⟩⟩)
 rw[i0];exact⟨.ref _,_,I.lnew (t':=s.toks) (r.rep k.toNat) (by rw[XC,eX];exact hz),rfl,q _ I.fresh⟩
end
section
variable {prog:Program}{w:World}{A:Around}{E:Value->Shared->Prop}{s:Shared}
end
section
variable {X:Cx}
end
end L2
namespace Att
open PySem PySem.W PySem.Calls PyProof.Rows
theorem Ji {P:Params}{h:Heap}:∀(ns:List Int) (j:List Value),WellAll P h j (ns.map WData.int)->gX j ns:=by
 intro ns;induction ns with
 |nil=>
  intro j w;rw[fV] at w;cases w;exact .nil
 |cons n ns z=>
  intro j w;rw[bv] at w;cases w with
  |cons a b=>
   cases a;exact .cons _ _ (z _ b)
theorem UU {l:cU}{n:Nat}(hn:l.most=some n){P:Params}{h:Heap}{args:List WData}{vals:List Value}
  (j:l.row.toRowW.claim.pre args=true) (Y:WellAll P h vals args) :
  ∃a vs ns,vals=[aw a]/\args=[WData.list (ns.map WData.int)]/\h.get? a=some {cls:=.type "list",data:=.seq vs.toArray}/\gX vs ns/\ns.length<=n:=by
 have h9:WShape.hasAll [] args [.list .int]=true:=(pre_splitW j).1;have hc:l.pre.holds [] {args:=args}=true:=(pre_splitW j).2;obtain⟨d,r,rfl,h1,h2⟩:=hasAllW_cons h9;obtain rfl:=hasAllW_nil h2;obtain⟨xs,rfl,h3⟩:=hasW_list h1;obtain⟨ns,rfl⟩:=items_int h3;have hlen:ns.length<=n:=by
  unfold OpenLaw.pre at hc;have J:(WTm.not (.lt (.lit (.int (n:Int))) (.len (.arg 0)))).holds [] {args:=[.list (ns.map .int)]}=true:=by
   have J:=(holds_andW hc).1;rw[hn] at J;exact J
  have O:=condW_of J (w_not (w_lt w_lit (w_len_list (w_arg rfl))));rw[Za] at O;refine Nat.le_of_not_lt fun q=>?_;have q':(n:Int)<((ns.length:Nat):Int):=by omega
  first
   |(rw[decide_eq_true q'] at O;exact absurd O (by decide))
   |(simp at O;omega)
 cases Y with
 |cons w1 w2=>
  cases w2;cases w1 with
  |list ho z=>exact⟨_,_,ns,rfl,rfl,ho,Ji ns _ z,hlen⟩
theorem U1 (l:cU)(args:List WData):l.row.toRowW.claim.post args (.bool true) args=true:=
 postW_of (r:=l.row.toRowW) (X:=(true == true))
  (show WShape.has [] (.bool true) .bool=true by first|rfl|decide|simp[WShape.has,WShape.arms,WShape.armsAll])
  (show (WTm.eq .res (.lit (.bool true))).value [] {args:=args,res:=some (.bool true),after:=args}=some (.bool (true == true)) from w_eq_bool (w_res rfl) w_lit) rfl
theorem Vv {l:cU}{n:Nat}{q:Program}{loose:List Str}{XP:(Str->Option Value)->Heap->Prop}{YP:World->Heap->Prop}{d:DefRec}
  (hn:l.most=some n) (i4:d.params.defaults=[])
  (call:∀(w:World) (s₀ j:Shared) (mg mb:Str->Option Value) (O:Addr) (o:Obj) (pm cd z:Value) (a:Addr) (J:List Value) (ns:List Int),
   Ground q loose [] XP w s₀ mg mb j.heap->YP w j.heap->
   j.heap.get? O=some o->o.data=.func (docDef d.name d.params d.body d.scope pm cd z)->j.heap.CodeRec cd d.name->mg d.name=some (.ref O)->
   j.heap.get? a=some {cls:=.type "list",data:=.seq J.toArray}->gX J ns->ns.length<=n->j.gens=#[]->
   codeAny (model l.prog w) callerA (.call (.ref O) ⟨[.ref a],[]⟩) (fun r s'=>r=.ok (.ret (.bool true))/\OldK j.heap s'.heap/\s'.os=j.os/\dk s'.gens) j) :
  gA q loose XP YP l.row.toRowW d [] (fun f J=>gz f J):=by
 intro w s₀ j mg mb G Y O o pm cd z dV kV ho hd i5 hD i6 hg args i8 as h9 i9 j4 i7 j6;obtain rfl:dV=.none:=Dflts.none hD i4;obtain rfl:kV=.none:=Dflts.noKw hD;obtain⟨a,J,ns,rfl,rfl,i0,hints,hlen⟩:=UU hn h9 i7;refine enter_call (gR (call w s₀ j mg mb O o pm cd z a J ns G Y ho (fd_plain hd) i5 i6 i0 hints hlen hg) fun r s' hq=>?_);obtain⟨rfl,h2,h3,h4⟩:=hq;exact⟨.inl ⟨.bool true,.bool true,[],rfl,fun _=>rfl,.bool true,U1 l _,fun _=>⟨fG,fun _ hm=>(nomatch hm)⟩⟩,h2,h3,h4⟩
section
variable {prog:Program}{w:World}{A:Around}{E:Value->Shared->Prop}{s:Shared}{K:Frag}
end
end Att
namespace L2
open PySem PySem.Spec PyProof.Rows
theorem J8:∀{j:List Value}{ns:List Int},gX j ns->ZI (ns.map V.int) j
 |_,_,.nil=>.nil
 |_,_,.cons n t h=>.cons ⟨t,rfl⟩ (J8 h)
noncomputable def ZeG (H:Hp):Prop:=∀b,H b=none\/∃o j,H b=some (.frz o (.lst j))
theorem Zbf {P:Program}{w:World}{K:ae}{mg mb:Str->Option Value}{CX:VB}{k:Nat}{fa a:Addr}{fd:FuncData}{x:Str}{sp:Sp}{j:Shared}{Y:List Value}{ns:List Int}
  (KX:K.In j.heap) (i0:j.heap.Ns mainGlobals mg) (hb:j.heap.Ns builtinsNs mb) (i8:∀x:Str,x ≠ "__name__"->mb x=bootBuiltins x) (i4:j.heap.NoLimit) (hg:j.gens=#[])
  (ha:j.heap.get? a=some {cls:=.type "list",data:=.seq Y.toArray}) (hi:gX Y ns) (hl:ns.length<=sizeLine) (hr:YV k callerA)
  (F:∀base:Heap,K.In base->base.Ns mainGlobals mg->Yj P w K mg base CX k fa fd [x] sp) (h9:∀(s:Shared) (u:Value),eK s fd ⟨[u],[]⟩ [(x,u)])
  (i9:∀H:Hp,ZeG H->Wr K H a (ns.map V.int)->sp [.ref a] H (fun v _=>v=.bl true) fun _ _ _=>False)
  (j4:∀H e s',CX [] H j (fun _ _ _=>False) e s'->False) :
  codeAny (model P w) callerA (.call (.ref fa) ⟨[.ref a],[]⟩) (fun r s'=>r=.ok (.ret (.bool true))/\OldK j.heap s'.heap/\s'.os=j.os/\dk s'.gens) j:=by
 have rv:=J8 hi;have i5:=hi.length;have core:∀H:Hp,ZeG H->Wr K H a (ns.map V.int)->WI P w H j.heap->(∀b,H b≠none->b=a)->(H a≠none->K.lookup a=none)->
   codeAny (model P w) callerA (.call (.ref fa) ⟨[.ref a],[]⟩) (fun r s'=>r=.ok (.ret (.bool true))/\OldK j.heap s'.heap/\s'.os=j.os/\dk s'.gens) j:=by
  intro H hO hS hok hA hK;have J:∀{b:Addr}{o:Obj},j.heap.get? b=some o->H b=none->(XD j.heap H).get? b=some o:=fun e n=>Zbn e n;have j6:∀{b:Addr}{o:Obj}{es:Array DictEntry}{ep:Nat},j.heap.get? b=some o->o.data=.dict es ep->H b=none:=fun {b o es ep} e d=>by
   cases q:H b with
   |none=>rfl
   |some u=>
    have e':b=a:=hA b (by rw[q];simp);subst e';rw[ha] at e;cases e;have d':Data.seq Y.toArray _=Data.dict es ep:=d;cases d'
  have O:∀{b:Addr}{m:Str->Option Value},j.heap.Ns b m->(XD j.heap H).Ns b m:=fun {b m} ⟨o,es,ep,e,d,r⟩=>⟨o,es,ep,J e (j6 e d),d,r⟩;have i6:K.In (XD j.heap H):=fun b o e=>J (KX b o e) (by
   cases q:H b with
   |none=>rfl
   |some u=>
    have e':b=a:=hA b (by rw[q];simp);subst e';rw[hK (by rw[q];simp)] at e;cases e)
  have hM:Mod K mg (XD j.heap H):=⟨i6,O i0,⟨mb,O hb,i8⟩,let ⟨mc,h1,h2⟩:=i4;⟨mc,O h1,h2⟩⟩;have e0:Zc5 P w K mg (XD j.heap H) callerA [] j H:=⟨rfl,hM,fun b o e=>Zcw e,Nat.le_of_eq (Zan _ _),trivial,fun b hb=>absurd (show b∈([]:List Addr) from hb) (by simp),hok,.of_eq hg⟩;refine gR ((F _ i6 (O i0)).run callerA [] j H ⟨[.ref a],[]⟩ [.ref a] [.ref a] _ _ hr e0 (h9 j (.ref a)) (.cons rfl .nil) (i9 H hO hS)) fun r s' h=>?_;cases r with
  |error e=>exact (j4 H e s' h).elim
  |ok fl=>
   cases fl with
   |next=>exact bE h
   |brk=>exact bE h
   |cont=>exact bE h
   |ret u=>
    obtain⟨v,H',os,bare,un,i7,r',q⟩:=h;have q':v=.bl true:=q;subst q';obtain rfl:u=fx true:=r';refine⟨rfl,OldK.of_keep fun b o e=>?_,os,bare⟩;cases q:H b with
    |none=>exact un.keep b o e q (by intro z;exact absurd (show b∈([]:List Addr) from z) (by simp)) (by simp)
    |some u=>
     rcases hO b with z|⟨ob,xs,z⟩
     ·rw[q] at z;cases z
     ·have z2:=un.frzs b ob _ z
      obtain⟨e1,_⟩:=hok b _ z;obtain⟨e2,_⟩:=i7 b _ z2;rw[e] at e1;cases e1;exact e2
 cases hk:K.lookup a with
 |some o=>
  have e:=KX a o hk;rw[ha] at e;cases e;refine core (fun _=>none) (fun _=>.inl rfl) (.inr ⟨_,Y.toArray,_,hk,rfl,rfl,rfl,by rw[Zh,i5];exact hl,by simpa using rv⟩) (fun b u z=>by have z':(none:Option HO)=some u:=z;cases z') (fun b z=>absurd rfl z) fun z=>absurd rfl z
 |none=>
  refine core (fun b=>if b=a then some (.frz {cls:=.type "list",data:=.seq Y.toArray} (.lst (ns.map V.int))) else none) (fun b=>?_) (.inl (.inr ⟨{cls:=.type "list",data:=.seq Y.toArray},if_pos rfl⟩)) (fun b u z=>?_) (fun b z=>?_) fun _=>hk
  ·by_cases hb:b=a
   ·exact .inr ⟨_,_,if_pos hb⟩
   ·exact .inl (if_neg hb)
  ·by_cases hb:b=a
   ·have z':=(if_pos hb).symm.trans z
    cases z';subst hb;exact⟨ha,by rw[Za];exact hl,Y,_,rv,ha⟩
   ·have z':=(if_neg hb).symm.trans z
    cases z'
  ·by_cases hb:b=a
   ·exact hb
   ·exact absurd (if_neg hb) z
theorem Xp {l:cU}{n k:Nat}{q:Program}{loose:List Str}{XP:(Str->Option Value)->Heap->Prop}{YP:World->Heap->Prop}{d:DefRec}{K:Params->ae}{CX:World->VB}{sp:World->Sp}{x:Str}
  (hn:l.most=some n) (i0:n<=sizeLine) (i4:d.params.defaults=[]) (hr:YV k callerA)
  (hY:∀(w:World) (h:Heap),YP w h->(K w.params).In h)
  (F:∀(w:World) (J:Str->Option Value) (fa:Addr) (h:Heap),(K w.params).In h->h.Ns mainGlobals J->J d.name=some (.ref fa)->
   ∃fd:FuncData,(∀(s:Shared) (u:Value),eK s fd ⟨[u],[]⟩ [(x,u)])/\
    ∀base:Heap,(K w.params).In base->base.Ns mainGlobals J->Yj l.prog w (K w.params) J base (CX w) k fa fd [x] (sp w))
  (i5:∀(w:World) (H:Hp) (a:Addr) (ns:List Int),ns.length<=n->ZeG H->Wr (K w.params) H a (ns.map V.int)->sp w [.ref a] H (fun v _=>v=.bl true) fun _ _ _=>False)
  (i6:∀(w:World) (H:Hp) (s:Shared) (e:Value) (s':Shared),CX w [] H s (fun _ _ _=>False) e s'->False) :
  gA q loose XP YP l.row.toRowW d [] (fun f vs=>gz f vs):=by
 refine Att.Vv hn i4 fun w i8 O J mb fa o pm cd i9 a vs ns G Y ho hd j4 i7 h9 z j hg=>?_;have KX:=hY w _ Y;obtain⟨fd,hb,hF⟩:=F w J fa _ KX G.T.g i7;exact Zbf KX G.T.g G.T.b G.T.builtins G.T.nolimit hg h9 z (aG j i0) hr hF hb (fun H hO hS=>i5 w H a ns j hO hS) fun H e s'=>i6 w H O e s'
noncomputable def Yv (s:Stmt):Arguments:=match s with
 | .FunctionDef _ a _ _ _ _ _ _ _ _=>a
 |_=>{posonlyargs:=[],args:=[],vararg:=none,kwonlyargs:=[],kw_defaults:=[],kwarg:=none,defaults:=[]}
noncomputable def Yp (s:Stmt):List Stmt:=match s with
 | .FunctionDef _ _ b _ _ _ _ _ _ _=>b
 |_=>[]
noncomputable def ZY (s:Stmt):Scope:=match s with
 | .FunctionDef _ _ _ _ _ _ j _ _ _=>j
 |_=>{kind:=.function,names:=[],isGenerator:=false,isCoroutine:=false}
noncomputable abbrev YW:VB:=fun _ _ _ _ _ _=>False
noncomputable abbrev E0:XK:=fun _ _ _=>False
theorem Z0 {X:Cx}:JT YW X E0:=fun _ _ _ _ _ _ _ h=>h.elim
structure Jf (K:ae)(x qual:Str)(st:Stmt)(f:Addr)(fd:FuncData):Prop where
 ex:∃(oc:Value) (od:Option Addr) (kV doc pm:Value) (an:Option Addr) (cdv ct:Value) (osl:Array (Option Value)),
  fd=a7 x qual (Yv st) (Yp st) (ZY st) .none kV doc pm an cdv ct/\K.lookup f=some ⟨oc,od,.func fd,osl⟩/\b8 K cdv qual=true
 kp:aP K (.ref f)=true
section
variable {P:Program}{w:World}{K:ae}{mg:Str->Option Value}{base:Heap}
theorem Jf.ok {x j:Str}{st:Stmt}{f:Addr}{fd:FuncData}{N Y:List Str}{k:Nat}{sp:Sp}(F:Jf K x j st f fd)(S:Jr N Y (ZY st))(len:∀J H Q E,sp J H Q E->J.length=Y.length)
  (O:∀(z:Value) (A:Around) (outer:List Env) (s:Shared) (H:Hp) (J:List V) (Q:VK) (E:XK),YV k (A.deeper (envOfC j (ZY st) s.heap.objs.size f z))->sp J H Q E->
   ∃t,J5 (Vn YW P w K mg base N j (ZY st) f z A outer s H E).nox (Yp st) t/\t {nx:=fun _ H'=>Q .non H',rt:=Q} (start N J) H):Yj P w K mg base YW (k+1) f fd Y sp:=by
 obtain⟨oc,od,kV,doc,pm,an,z,ct,i4,rfl,lk,h9⟩:=F.ex;refine Zdu lk h9 S len fun A outer s H J Q E hr i0=>?_;obtain⟨t,h,q⟩:=O z A outer s H J Q E hr i0;exact⟨t,h.nox,q⟩
theorem Jf.binds {x j:Str}{st:Stmt}{f:Addr}{fd:FuncData}{J:List Str}(F:Jf K x j st f fd)
  (h:∀(kV doc pm:Value) (an:Option Addr) (z ct:Value) (us:List Value),us.length=J.length->bindArgs (a7 x j (Yv st) (Yp st) (ZY st) .none kV doc pm an z ct) ⟨us,[]⟩=pure (J.zip us)):Binds K fd J []:=by
 obtain⟨oc,od,kV,doc,pm,an,z,ct,O,rfl,lk,Y⟩:=F.ex;exact .all (h kV doc pm an z ct)
theorem V6 {x j:Str}{st:Stmt}{f:Addr}{O:Value}{Y an:Option Addr}{J:Array (Option Value)}{kV doc pm z ct:Value}(l:K.lookup f=some ⟨O,Y,.func (a7 x j (Yv st) (Yp st) (ZY st) .none kV doc pm an z ct),J⟩)
  (c:b8 K z j=true) (k:aP K (.ref f)=true):Jf K x j st f (a7 x j (Yv st) (Yp st) (ZY st) .none kV doc pm an z ct):=⟨⟨O,Y,kV,doc,pm,an,z,ct,J,rfl,l,c⟩,k⟩
end
section
variable {X:Cx}
end
theorem Y1 {A B:Prop}(h:A):if true=true then A else B:=by
 rw[if_pos rfl];exact h
theorem ZQ {c A B:Prop} [Decidable c](j:c->A)(z:¬c->B):if c then A else B:=by
 by_cases h:c
 ·rw[if_pos h]
  exact j h
 ·rw[if_neg h]
  exact z h
noncomputable def ZC (H j:Hp):Prop:=∀b o,H b=some o->j b=some o
theorem ZC.refl (H:Hp):ZC H H:=fun _ _ h=>h
theorem ZC.trans {H H1 j:Hp}(a:ZC H H1)(b:ZC H1 j):ZC H j:=fun c o h=>b c o (a c o h)
theorem ZC.free {H j:Hp}(e:ZC H j){l:Addr}(h:j l=Option.none):H l=Option.none:=by
 cases q:H l with
 |none=>rfl
 |some o=>
  rw[e l o q] at h;cases h
theorem ZC.seq {K:ae}{H j:Hp}{a:Addr}{xs:List V}(e:ZC H j)(h:Wr K H a xs):Wr K j a xs:=by
 rcases h with (h|⟨o,h⟩)|h
 ·exact .inl (.inl (e _ _ h))
 ·exact .inl (.inr ⟨o,e _ _ h⟩)
 ·exact .inr h
end L2
set_option maxHeartbeats 4000000
namespace L2
open PySem PySem.Spec PyProof.Rows
structure Wy (N:List Str)(esc:Scope)(own:List Str)(caps:List Nat)(N':List Str)(sc:Scope):Prop where
 kind:sc.kind=.function
 ndn:(sc.names.map (·.1)).Nodup
 uniq:∀y∈sc.names,y.2=.local->sc.names.lookup y.1=some .local
 nd:N'.Nodup
 eqN:N'=own++caps.map fun j=>N.getD j ""
 cap:∀j∈caps,j<N.length/\sc.names.lookup (N.getD j "")=some .free
 fr:∀y∈sc.names,y.2=.free->esc.names.lookup y.1=some .cell\/esc.names.lookup y.1=some .free
noncomputable def Vr (J:List Str)(z:List Nat)(O:St):St:=ag J.length none++z.map fun j=>(O[j]?).join
theorem WH {env:Env}:∀(names:List (Str×bU)) (acc:List (Str×Addr)),(∀y∈names,y.2=.free->∃c,env.cells.lookup y.1=some c)->(∀y c,acc.lookup y=some c->env.cells.lookup y=some c)->
  ∃z,(forIn names acc (fun x r=>if (x.2 == cp)=true then (do let c <-cellOf env x.1;pure (bo ((x.1,c)::r))) else pure (bo r)):Sem (List (Str×Addr)))=pure z/\
   (∀y c,z.lookup y=some c->env.cells.lookup y=some c)/\(∀y,(∃c,acc.lookup y=some c)->∃c,z.lookup y=some c)/\∀y∈names,y.2=.free->∃c,z.lookup y.1=some c
 | [],acc,_,O=>⟨acc,rfl,O,fun _ h=>h,fun _ h=>absurd h (by simp)⟩
 | (n,k)::r,acc,hn,O=>by
  rw[List.forIn_cons];by_cases hk:k=.free
  ·subst hk
   obtain⟨c,hc⟩:=hn (n,.free) ai rfl;have h9:∀y d,((n,c)::acc).lookup y=some d->env.cells.lookup y=some d:=fun y d e=>by
    rw[bw] at e;cases q:y == n with
    |true=>rw[q] at e;cases e;rw[beq_iff_eq.mp q];exact hc
    |false=>rw[q] at e;exact O y d e
   obtain⟨z,e,h1,Y,h3⟩:=WH r ((n,c)::acc) (fun y j=>hn y (ah _ j)) h9;have hh:∀y,(∃d,acc.lookup y=some d)->∃d,((n,c)::acc).lookup y=some d:=fun y ⟨d,hd⟩=>by
    rw[bw];cases q:y == n with
    |true=>exact⟨c,rfl⟩
    |false=>exact⟨d,hd⟩
   have hs:∃d,((n,c)::acc).lookup n=some d:=⟨c,by rw[bw,beq_self_eq_true]⟩;refine⟨z,?_,h1,fun y j=>Y y (hh y j),fun y j hf=>?_⟩
   ·have J:cellOf env n=pure c:=by simp only[cellOf,hc]
    simp only[beq_self_eq_true,if_true,J];simp only[pure_bind];exact e
   ·rcases ak.mp j with rfl|j
    ·exact Y _ hs
    ·exact h3 y j hf
  ·obtain⟨z,e,h1,Y,h3⟩:=WH r acc (fun y j=>hn y (ah _ j)) O
   refine⟨z,?_,h1,Y,fun y j hf=>?_⟩
   ·have hb:(k == cp)=false:=by simpa using hk
    simp only[hb,ev,if_false,pure_bind];exact e
   ·rcases ak.mp j with rfl|j
    ·exact absurd hf hk
    ·exact h3 y j hf
theorem Uc {scope:Scope}{env:Env}(h:∀y∈scope.names,y.2=.free->∃c,env.cells.lookup y.1=some c) :
  ∃j,closureFor scope env=pure j/\(∀y c,j.lookup y=some c->env.cells.lookup y=some c)/\∀y∈scope.names,y.2=.free->∃c,j.lookup y.1=some c:=by
 obtain⟨j,e,z,_,J⟩:=WH (env:=env) scope.names [] h (fun y c e=>by simp at e);refine⟨j,?_,z,J⟩;have q:closureFor scope env=((forIn scope.names ([]:List (Str×Addr)) (fun x r=>if (x.2 == cp)=true then (do let c <-cellOf env x.1;pure (bo ((x.1,c)::r))) else pure (bo r)):Sem (List (Str×Addr))) >>= fun O=>pure O):=rfl
 rw[q,e];rfl
theorem YG {names:List (Str×bU)}{x:Str}{k:bU}(h:names.lookup x=some k):(x,k)∈names:=aL h
theorem Yn {env:Env}{x:Str}:∀{names:List (Str×bU)}{k:bU},
  (names.map fun (n,k)=>if (k == cp && env.scope.kind == .function && env.kindOf n == some .cell) then (n,bC) else (n,k)).lookup x=some k->
  names.lookup x=some k\/(k=.cell/\names.lookup x=some .free)
 | [],_,h=>by simp at h
 | (n,j)::r,k,h=>by
  have O:=@Yn env x r k;have h:List.lookup x ((if (j == cp && env.scope.kind == .function && env.kindOf n == some .cell)=true then (n,bC) else (n,j))::_)=some k:=h
  rw[bw];by_cases z:(j == cp && env.scope.kind == .function && env.kindOf n == some .cell)=true
  ·rw[if_pos z,bw] at h
   have J:j=.free:=by
    simp only[aJ,beq_iff_eq] at z;exact z.1.1
   cases q:x == n with
   |true=>rw[q] at h;cases h;right;exact⟨rfl,by rw[J]⟩
   |false=>rw[q] at h;exact O h
  ·rw[if_neg z,bw] at h
   cases q:x == n with
   |true=>rw[q] at h;cases h;left;rfl
   |false=>rw[q] at h;exact O h
section
variable {X:Cx}
noncomputable def ZbH (scope:Scope)(x:Str):Bool:=scope.names.any fun y=>y.1 == x && (match y.2 with | .cell=>true|_=>false)
theorem Zax {scope:Scope}{x:Str}(h:ZbH scope x=true):(x,bC)∈scope.names:=by
 unfold ZbH at h;obtain⟨⟨n,k⟩,hm,j⟩:=List.any_eq_true.mp h;rw[aJ] at j;obtain⟨z,J⟩:=j;have e:n=x:=by simpa using z
 subst e;cases k <;> first|exact hm|cases J
theorem W2 {x:Str}{k:bU}:∀{names:List (Str×bU)},(names.map (·.1)).Nodup->(x,k)∈names->names.lookup x=some k
 | [],_,h=>by cases h
 | (n,j)::r,nd,h=>by
  rw[bv,bW] at nd;rw[bw];rcases ak.mp h with e|h
  ·cases e
   simp
  ·have:(x == n)=false:=by
    refine cT.mpr fun z=>nd.1 ?_;rw[<-beq_iff_eq.mp z];exact dn.mpr ⟨_,h,rfl⟩
   rw[this];exact W2 nd.2 h
theorem Wx:∀(names:List (Str×bU)) (n:Nat) (acc:List (Str×Addr)),cellsFrom n names acc=cellsFrom n names []++acc
 | [],n,acc=>rfl
 |(x,k)::r,n,acc=>by
  unfold cellsFrom;by_cases j:(k == bC)=true
  ·rw[if_pos j,if_pos j,Wx r (n+1) ((x,n)::acc),Wx r (n+1) [(x,n)],am]
   rfl
  ·rw[if_neg j,if_neg j,Wx r n acc]
theorem Ja {x:Str}{c:Addr}:∀(names:List (Str×bU)) (n:Nat) (acc:List (Str×Addr)),(x,c)∈cellsFrom n names acc->(x,bC)∈names\/(x,c)∈acc
 | [],n,acc,h=>.inr h
 | (y,k)::r,n,acc,h=>by
  unfold cellsFrom at h;by_cases j:(k == bC)=true
  ·rw[if_pos j] at h
   rcases Ja r (n+1) _ h with z|z
   ·exact .inl (ah _ z)
   ·rcases ak.mp z with e|z
    ·cases e
     have:k=.cell:=by cases k <;> first|rfl|cases j
     rw[this];exact .inl ai
    ·exact .inr z
  ·rw[if_neg j] at h
   rcases Ja r n _ h with z|z
   ·exact .inl (ah _ z)
   ·exact .inr z
theorem ZcA {M:Model}{A:Around}{E:Value->Shared->Prop}{s:Shared}{scope:Scope}{globals:Addr}{O:List (Str×Addr)}{qual:Str}{j:Env}{Q:Env->Shared->Prop}
  (hQ:Q (newEnv scope s.heap.objs.size globals (cellsFrom (s.heap.objs.size+1) scope.names O) qual none .none (some j) builtinsNs) {s with heap:=pushCells (s.heap.push {cls:=.type "dict",data:=.dict #[]}) scope.names}) :
  wpAny M A (newFunctionEnv scope globals O [] qual none .none (some j)) Q E s:=by
 unfold newFunctionEnv;refine Zl (wpAny_alloc ?_);refine Zl (wpAny_layCells _ (fun Y kind z=>by cases J:kind == bC <;> simp[J]) _ _ _ _ ?_)
 rw[show ({s with heap:=s.heap.push {cls:=.type (if (some j).isSome=true then "dict" else "frame"),data:=.dict #[]}}:Shared).heap.objs.size=s.heap.objs.size+1 from bn ..]
 exact Zl (by rw[List.forIn_nil];exact Zm (Zm hQ))
noncomputable def YN (X:Cx)(scope:Scope)(j:List (Str×Addr))(z:List Str)(C:Addr)(s:Shared)(H:Hp)(ex:List Addr):Cx:=
 {X with N:=z,s₀:=s,H₀:=H,env:=compEnvC scope j C X.env,outer:=X.stack,ex:=ex,fn:=ZbH scope,pn:=[],xe:=fun _ _=>False}
noncomputable def VA (i0:List Str)(z:List Nat)(g:TG)(tc:TT)(te:TE)(σ:St)(Q:VK)(J:It)(H1:Hp):Prop:=∀D,H1 D=none->
 ∃W:Nat->Nat->St->Hp->Prop,(∃m,W 0 m (Vr i0 z σ) (upd H1 D (.lst [])))/\∀i m O Y,W i m O Y->
  (J.stop i Y/\Q (.ref D) Y)\/(J.go i Y/\∃N:St->Hp->Prop,(∀ h9 H2,N h9 H2->∃m',m'<m/\W (i+1) m' h9 H2)/\∀x H2,J.yld i Y x H2->g x O H2 fun j H3=>tc j H3 fun b H4=>
   if b=true then te j H4 fun v H5=>∃xs,H5 D=some (.lst xs)/\xs.length<sizeLine/\N j (upd H5 D (.lst (xs++[v]))) else N j H4)
noncomputable def Zc9 (z:List Str)(j:List Nat)(Y:TI)(g:TG)(tc:TT)(te:TE):TE:=fun O H Q=>Y O H fun J H1=>VA z j g tc te O Q J H1
noncomputable def XW:TT:=fun _ H Q=>Q true H
noncomputable def PIf (X:Cx)(z:List Expr)(t:TT):Prop:=
 ∀(j:List (Addr×Obj)) (s:Shared) (J:St) (H:Hp) (Q:Bool->Hp->Prop),Inv X j J H s->t J H Q->
  wpAny (model X.prog X.w) X.A (forIn z true fun c r=>if r=true then do let ok <-isTrue c X.env (eval c X.env);pure (bo ok) else pure (bo r)) (TP X j J Q) X.xe s
theorem Zcf:PIf X [] XW:=fun _ _ _ H _ I h=>wpAny_tests_nil ⟨H,I,h⟩
theorem Ut {c:Expr}{t:TT}(h:PT X c t):PIf X [c] t:=fun j s z H Q I q=>wpAny_tests_one (h j s z H Q I q)
theorem Wq {prog:Program}{w:World}{A:Around}{R:Result->Shared->Prop}{s:Shared}{elt j iter:Expr}{ifs:List Expr}{scope:Scope}{pos:Pos}{it i7:Value}{env:Env}(I:Nat->Shared->Prop)
  (turn:∀n s,I n s->wpAny (model prog w) A (pyNext it) (fun r z=>match r with
   |none=>R (.ok .next) z
   |some v=>wpAny (model prog w) A (letOwnedTupleGo j it v) (fun _ J=>wpAny (model prog w) A (assign j env v) (fun _ h9=>
     wpAny (model prog w) A (forIn ifs true fun c r=>if r=true then do let ok <-isTrue c env (eval c env);pure (bo ok) else pure (bo r)) (fun ok O=>
      if ok=true then wpAny (model prog w) A (eval elt env) (fun x i0=>
       wpAny (model prog w) A (call (.builtin "list.append") [i7,x]) (fun _ i4=>∃m,m<n/\I m i4) (fun _ _=>False) i0) (fun _ _=>False) O
      else ∃m,m<n/\I m O) (fun _ _=>False) h9) (fun _ _=>False) J) (fun _ _=>False) z) (fun _ _=>False) s)
  (n:Nat) (h:I n s) :
  codeAny (model prog w) A (.compLoop (.ListComp elt [⟨j,iter,ifs,0⟩] scope pos) 0 it i7 env) R s:=by
 refine codeAny_loop rfl I (fun n s hI=>?_) n h;show wpAny _ A ((compTurn (.ListComp elt [⟨j,iter,ifs,0⟩] scope pos) 0 it i7 env).onRaise (fun x=>do noteFrame x env;theTreesLotGoes x)) _ _ s
 refine wpAny_noted ?_;rw[compTurn_list];refine Zl (dw (Zl (a6 (turn n s hI) (fun r z i5=>?_) fun _ _ Y=>Y.elim)));cases r with
 |none=>exact Zm i5
 |some v=>
  refine Zl (a6 i5 (fun _ J i8=>?_) fun _ _ Y=>Y.elim);refine Zl (a6 i8 (fun _ h9 i9=>Zl (a6 i9 (fun ok O i6=>?_) fun _ _ Y=>Y.elim)) fun _ _ Y=>Y.elim);cases ok with
  |false=>exact Zm ⟨rfl,i6⟩
  |true=>
   exact Zl (Zl (a6 i6 (fun x i0 j4=>Zl (a6 j4 (fun _ i4 j6=>Zm (Zm ⟨rfl,j6⟩)) fun _ _ Y=>Y.elim)) fun _ _ Y=>Y.elim))
theorem Ua {own:List Str}{j7:List Nat}{N':List Str}{o8 scope:Scope}{elt iter tg:Expr}{ifs:List Expr}{pos:Pos}{g:TG}{tc:TT}{te:TE}{cl:List (Str×Addr)}
  (o9:X.env.scope=o8) (S:Wy X.N o8 own j7 N' scope) (hc:X.calm=true)
  (i4:∀y c,cl.lookup y=some c->X.env.cells.lookup y=some c) (m8:∀y∈scope.names,y.2=.free->∃c,cl.lookup y.1=some c)
  (hg:∀cl C s H ex,PG (YN X scope cl N' C s H ex) tg g) (ht:∀cl C s H ex,PIf (YN X scope cl N' C s H ex) ifs tc) (he:∀cl C s H ex,PE (YN X scope cl N' C s H ex) elt te)
  {i6:List (Addr×Obj)}{σ:St}{H2:Hp}{s2:Shared}{it:Addr}{fp:List Addr}{tn:Nat->Heap->Prop}{J:It}{Q:VK}{RR:Value->Addr->Result->Shared->Prop}{E:Value->Shared->Prop}
  (I2:Inv X i6 σ H2 s2) (T:Ug X.prog X.w X.K tg J fp it tn) (n8:tn 0 s2.heap) (f2:∀b∈fp,JV X i6 H2 b)
  (h:VA own j7 g tc te σ Q J H2)
  (u0:∀D C s' m H',s'.heap.Ns C m->C≠X.env.locals->(∀x c,X.env.cells.lookup x=some c->c≠C)->X.s₀.heap.objs.size<=C->(∀p∈X.pn++i6,p.1≠C)->H' C=none->Q (.ref D) H'->(∀h',aS C s'.heap h'->Inv X i6 σ H' {s' with heap:=h'})->RR (.ref D) C (.ok .next) s') :
  wpAny (model X.prog X.w) X.A (newList []) (fun p0 p4=>wpAny (model X.prog X.w) X.A (newFunctionEnv scope X.env.globals cl [] X.env.qual none .none (some X.env)) (fun m9 p5=>
   codeAny (model X.prog X.w) X.A (.compStart (.ListComp elt [⟨tg,iter,ifs,0⟩] scope pos) 0 (.ref it) p0 {m9 with scope:=relabel scope X.env}) (RR p0 m9.locals) p5) E p4) E s2:=by
 refine cy (ZcA ?_);dsimp only;have hD:H2 s2.heap.objs.size=none:=I2.hok.fresh (Zq _);obtain⟨W,⟨m0,w0⟩,p6⟩:=h _ hD;generalize n9:s2.heap.push {cls:=.type "list",dict:=none,data:=.seq ([]:List Value).toArray}=Y;have hC:Y.objs.size=s2.heap.objs.size+1:=by rw[<-n9,bn]
 have n4:∀b o,s2.heap.get? b=some o->Y.get? b=some o:=fun b o e=>n9▸Zn _ e;have I3:Inv X i6 σ (upd H2 s2.heap.objs.size (.lst [])) {s2 with heap:=Y,toks:=s2.toks}:=
  I2.laid (t':=s2.toks) n4 (Zq _) ⟨aC _,[],0,.nil,n9▸Zo _ rfl⟩
 generalize o0:pushCells (Y.push {cls:=.type "dict",data:=.dict #[]}) scope.names=i7;have k1:∀b o,Y.get? b=some o->i7.get? b=some o:=fun b o e=>o0▸pushCells_keeps _ _ b o (Zn _ e);have l8:i7.Ns Y.objs.size (fun _=>none):=o0▸(Heap.Ns.new Y (.type "dict")).keeps (pushCells_keeps _ _);have l9:CellsOk i7 (Y.objs.size+1) (cellsFrom (Y.objs.size+1) scope.names []):=by
  have q:=cellsFrom_ok scope.names (Y.push {cls:=.type "dict",data:=.dict #[]}) (Y.objs.size+1) [] ⟨fun _ _ hm=>(nomatch hm),fG⟩ (by rw[bn];exact Zq _);rw[bn,o0] at q;exact q
 have j8:cellsFrom (Y.objs.size+1) scope.names cl=cellsFrom (Y.objs.size+1) scope.names []++cl:=Wx _ _ _;have i9:∀y,scope.names.lookup y=some .cell->∃c,(cellsFrom (Y.objs.size+1) scope.names []).lookup y=some c:=fun y hy=>fF.mp (cZ scope.names (Y.objs.size+1) [] (.inl hy));generalize u3:cellsFrom (Y.objs.size+1) scope.names []=cA at l9 j8 i9;have p7:∀y c,cA.lookup y=some c->(y,bC)∈scope.names:=fun y c e=>by
  have:=aL e;rw[<-u3] at this;rcases Ja _ _ _ this with z|z
  ·exact z
  ·cases z
 generalize y4:cellsFrom (Y.objs.size+1) scope.names cl=cE at j8;have j9:∀y c,cE.lookup y=some c->cA.lookup y=some c\/(cA.lookup y=none/\cl.lookup y=some c):=fun y c e=>by
  rw[j8,er] at e;cases q:cA.lookup y with
  |none=>rw[q] at e;exact .inr ⟨rfl,by simpa using e⟩
  |some c'=>rw[q] at e;exact .inl (by simpa using e)
 have p8:∀y c,scope.names.lookup y=some .free->cl.lookup y=some c->cE.lookup y=some c:=fun y c hy e=>by
  rw[j8,er];cases q:cA.lookup y with
  |none=>simpa using e
  |some c'=>
   have:=W2 S.ndn (p7 y c' q);rw[hy] at this;cases this
 have u4:∀b∈fp,upd H2 s2.heap.objs.size (.lst []) b=none:=fun b hb=>by
  obtain⟨o,ho,_⟩:=T.obj _ _ n8 b hb;rw[ZE (ay (Zp ho))];exact (f2 b hb).1
 have k8:∀b∈fp,b<Y.objs.size:=fun b hb=>by
  obtain⟨o,ho,_⟩:=T.obj _ _ n8 b hb;rw[hC];exact hX (Zp ho)
 generalize O:YN X scope cE N' Y.objs.size {s2 with heap:=Y,toks:=s2.toks} (upd H2 s2.heap.objs.size (.lst [])) fp=X';have p9:X'.fs=V7 X.stack:=by rw[<-O];rfl
 have o2:∀y,X'.env.kindOf y=some .cell\/X'.env.kindOf y=some .free->∃c,cE.lookup y=some c:=fun y hy=>by
  have u5:(relabel scope X.env).names.lookup y=some .cell\/(relabel scope X.env).names.lookup y=some .free:=by rw[<-O] at hy;exact hy
  have hf:scope.names.lookup y=some .free->∃c,cE.lookup y=some c:=fun hf=>by
   obtain⟨c,j4⟩:=m8 _ (YG hf) rfl;exact⟨c,p8 y c hf j4⟩
  have m3:scope.names.lookup y=some .cell->∃c,cE.lookup y=some c:=fun hf=>by
   obtain⟨c,j4⟩:=i9 y hf;exact⟨c,by rw[j8,er,j4];rfl⟩
  rcases u5 with q|q
  ·rcases Yn q with z|z
   ·exact m3 z
   ·exact hf z.2
  ·rcases Yn q with z|z
   ·exact hf z
   ·exact absurd z.1 (by decide)
 have i5:X'.env.cells=cE:=by rw[<-O];rfl
 have i8:X'.env.locals=Y.objs.size:=by rw[<-O];rfl
 have cne:∀x c,cl.lookup x=some c->c≠Y.objs.size/\c<Y.objs.size:=fun x c e=>by
  obtain⟨v,q⟩:=I3.cell x c (i4 x c e);exact⟨ay q.lt,q.lt⟩
 have h9:∀x c,cA.lookup x=some c->Y.objs.size+1<=c:=fun x c e=>(l9.empty x c (aL e)).2;have q0:∀x y c,cE.lookup x=some c->cE.lookup y=some c->x=y:=fun x y c a b=>by
  rcases j9 x c a with a|⟨_,a⟩ <;> rcases j9 y c b with b|⟨_,b⟩
  ·exact name_of_addr l9.apart (aL a) (aL b)
  ·have h1:Y.objs.size+1<=c:=h9 x c a
   exact absurd (aj (cne y c b).2 (bM h1)) (aW _)
  ·have h1:Y.objs.size+1<=c:=h9 y c b
   exact absurd (aj (cne x c a).2 (bM h1)) (aW _)
  ·exact I3.ok.inj x y c (i4 x c a) (i4 y c b)
 have u6:X'.Ok:=by
  refine O▸⟨I3.ok.mod,S.kind,I3.ok.glob,I3.ok.blt,Zq _,q0,?_,?cab,I3.ok.hd,I3.ok.frames,.inl rfl,?_,?_,?_,?_,?_,I3.stack,I3.stkFree⟩
  ·intro y hy
   exact o2 y (by rw[<-O];exact hy)
  ·intro x c z e
   have hm:=W2 S.ndn (Zax z);rcases j9 x c e with e|⟨n,_⟩
   ·exact bM (h9 x c e)
   ·obtain⟨c',j4⟩:=i9 x hm
    rw[n] at j4;cases j4
  ·intro b hb
   refine⟨ay (k8 b hb),fun x c e=>?_⟩;rcases j9 x c e with e|⟨_,e⟩
   ·have h1:Y.objs.size+1<=c:=h9 x c e
    exact fun z=>absurd (aj (k8 b hb) (bM h1)) (by rw[z];exact aW _)
   ·exact (f2 b hb).2.2.2.2.1 x c (i4 x c e)
  ·exact I3.bs
  ·exact aG I3.ok.bsz I3.sz
  ·intro b o e hb
   rcases (f2 b hb).2.2.2.1 with z|z
   ·exact I3.ok.noex b o e z
   ·exact absurd (aj (Zp e) (aG I3.ok.bsz z)) (aW _)
  ·intro b hb z
   rcases ak.mp (I3.stkSub b z) with e|e
   ·exact (f2 b hb).2.1 e
   ·exact (f2 b hb).2.2.1 e
 have I4:Inv X' [] (Vr own j7 σ) (upd H2 s2.heap.objs.size (.lst [])) {s2 with heap:=i7,toks:=s2.toks}:=by
  refine⟨u6,O▸rfl,I3.bare,?_,⟨_,by rw[i8];exact l8,?_⟩,?_,?_,?_,?_,?_,?_⟩
  ·rw[<-O];exact Un.kept k1
  ·intro i x v hN j6 hV
   have o3:N'[i]?=some x:=by rw[<-O] at hN;exact hN
   unfold Vr at j6;by_cases hi:i<own.length
   ·rw[bR (by simpa using hi),ce] at j6
    rw[if_pos hi] at j6;cases j6
   ·rw[aX (by simpa using hi),Ze,Zc] at j6
    rw[S.eqN,aX (by omega),Zc] at o3;cases hj:j7[i-own.length]? with
    |none=>rw[hj] at j6;cases j6
    |some j=>
     rw[hj] at j6 o3;have hx:X.N.getD j ""=x:=aB o3;obtain⟨r8,l7⟩:=S.cap j (aM hj);rw[hx] at l7;have u7:X.N[j]?=some x:=by
      rw[Zf r8,<-hx,Zb,Zf r8];rfl
     have hv:σ[j]?=some (some v):=by
      have q:(σ[j]?).join=some v:=aB j6;cases q':σ[j]? with
      |none=>rw[q'] at q;cases q
      |some o=>rw[q'] at q;rw[show o=some v from q]
     have o4:=S.fr (x,.free) (YG l7) rfl;rw[<-o9] at o4;obtain⟨m,hn,hl⟩:=I3.loc;have r9:Vis X.env.scope x:=o4.elim (fun z=>.inr (.inl z)) fun z=>.inr (.inr z);obtain⟨u,ru,look⟩:=hl j x v u7 hv r9;refine⟨u,ru,?_⟩;obtain⟨c,m3⟩:=m8 (x,.free) (YG l7) rfl;rcases look with ⟨a,_⟩|⟨_,c',j4,o5⟩
     ·rcases o4 with z|z
      ·rw[show X.env.kindOf x=X.env.scope.names.lookup x from rfl,z] at a;cases a
      ·rw[show X.env.kindOf x=X.env.scope.names.lookup x from rfl,z] at a;cases a
     ·have:c'=c:=by rw[i4 _ _ m3] at j4;cases j4;rfl
      subst this;refine .inr ⟨?_,c',by rw[i5];exact p8 _ _ l7 m3,o5.keeps k1⟩;rcases hV with q|q|q
      ·have q':(relabel scope X.env).names.lookup x=some .local:=by rw[<-O] at q;exact q
       rcases Yn q' with z|z
       ·rw[l7] at z;cases z
       ·exact absurd z.1 (by decide)
      ·exact .inl q
      ·exact .inr q
  ·intro x c e
   rw[i5] at e;rcases j9 x c e with e|⟨_,e⟩
   ·exact⟨_,(l9.empty x c (aL e)).1⟩
   ·obtain⟨v,q⟩:=I3.cell x c (i4 x c e)
    exact⟨v,q.keeps k1⟩
  ·rw[i8];exact I3.hok.fresh (Zq _)
  ·intro x c e
   rw[i5] at e;rcases j9 x c e with e|⟨_,e⟩
   ·exact I3.hok.fresh (bM (h9 x c e))
   ·exact I3.freeC x c (i4 x c e)
  ·intro p hp
   have:p∈([]:List (Addr×Obj)):=by rw[<-O] at hp;exact hp
   cases this
  ·rw[<-O];exact I3.hok.kept k1
  ·rw[<-O]
   show (Vr own j7 σ).length=N'.length;unfold Vr;rw[S.eqN,Zd,Zd,Ze,Za,Za]
 have pX:X'.prog=X.prog:=by rw[<-O];rfl
 have wX:X'.w=X.w:=by rw[<-O];rfl
 have KX:X'.K=X.K:=by rw[<-O];rfl
 have AX:X'.A=X.A:=by rw[<-O];rfl
 have cX:X'.calm=true:=by rw[<-O];exact hc
 have xX:X'.xe=fun _ _=>False:=by rw[<-O];rfl
 have envX:X'.env=compEnvC scope cE Y.objs.size X.env:=by rw[<-O];rfl
 have t0:X'.ex=fp:=by rw[<-O];rfl
 have u8:PG X' tg g:=O▸hg _ _ _ _ _;have u9:PIf X' ifs tc:=O▸ht _ _ _ _ _;have v1:PE X' elt te:=O▸he _ _ _ _ _;have o6:∀{H':Hp},(∀b∈fp,H' b=none)->∀b∈fp,JV X' [] H' b:=fun {H'} hn b hb=>by
  refine⟨hn b hb,?_,?_,?_,?_,?_⟩
  ·rw[i8];exact ay (k8 b hb)
  ·rw[p9];intro z
   rcases ak.mp (I3.stkSub b z) with e|e
   ·exact (f2 b hb).2.1 e
   ·exact (f2 b hb).2.2.1 e
  ·rw[t0];exact .inl hb
  ·intro x c e
   rw[i5] at e;rcases j9 x c e with e|⟨_,e⟩
   ·have h1:Y.objs.size+1<=c:=h9 x c e
    exact fun z=>absurd (aj (k8 b hb) (bM h1)) (by rw[z];exact aW _)
   ·exact (f2 b hb).2.2.2.2.1 x c (i4 x c e)
  ·intro p hp
   have:p∈([]:List (Addr×Obj)):=by rw[<-O] at hp;exact hp
   cases this
 have t5:tn 0 i7:=T.keep _ _ _ n8 fun b hb o e=>k1 b o (n4 b o e);have back:∀{i0:St}{H':Hp}{s':Shared}{pp:List (Addr×Obj)}{h':Heap},Inv X' pp i0 H' s'->aS Y.objs.size s'.heap h'->Inv X i6 σ H' {s' with heap:=h'}:=fun {i0 H' s' pp h'} I' sb=>by
  have u:=I'.base;rw[p9,t0] at u;have v8:X'.s₀.heap=Y:=by rw[<-O];rfl
  have v9:X'.H₀=upd H2 s2.heap.objs.size (.lst []):=by rw[<-O];rfl
  rw[v8,v9] at u;have ne:∀b o,Y.get? b=some o->b≠Y.objs.size:=fun b o e=>ay (Zp e);have t6:H' Y.objs.size=none:=by have:=I'.free;rw[i8] at this;exact this
  refine I3.call' (s':={s' with heap:=h'}) (ch:=fp) ?_ ⟨?_,?_,?_,?_,?_,?_,?_⟩ ?_ I'.bare ?_
  ·have:=I'.os;rw[<-O] at this;exact this
  ·intro b o e n hb hx;exact sb.extBut b o (ne b o e) (u.keep b o e n hb hx)
  ·intro b o e n hb hx
   obtain⟨sl,q⟩:=u.slot b o e n hb hx;exact⟨sl,sb.extBut b _ (ne b o e) q⟩
  ·exact u.free
  ·intro b o e hx
   obtain⟨o',q⟩:=u.there b o e hx;exact⟨o',sb.extBut b _ (ne b o e) q⟩
  ·exact u.tups
  ·exact u.frzs
  ·exact u.tbls
  ·have t7:=I'.hok
   rw[pX,wX] at t7;intro a o e;refine (t7 a o e).stay (fun b v hb r=>sb.extBut b v ?_ r) (fun b r=>r) fun b xs r=>r;rcases hb with rfl|hb
   ·intro z;rw[z,t6] at e;cases e
   ·intro z;rw[z,t6] at hb;cases hb
  ·intro b hb
   refine⟨(f2 b hb).2.2.2.1,(f2 b hb).2.1,(f2 b hb).2.2.2.2.1,(f2 b hb).2.2.2.2.2⟩
 have n5:∀s3:Shared,s3={s2 with heap:=i7,toks:=s2.toks}->
   codeAny (model X.prog X.w) X.A (.compLoop (.ListComp elt [⟨tg,iter,ifs,0⟩] scope pos) 0 (.ref it) (.ref s2.heap.objs.size) (compEnvC scope cE Y.objs.size X.env)) (RR (.ref s2.heap.objs.size) Y.objs.size) s3:=by
  rintro s3 rfl;refine Wq (fun n s'=>∃i i0 H',Inv X' [] i0 H' s'/\tn i s'.heap/\(∀b∈fp,H' b=none)/\W i n i0 H') ?_ m0 ⟨0,_,_,I4,t5,u4,w0⟩;rintro n s5 ⟨i,m4,H5,I5,t8,t9,w5⟩;rcases p6 i n m4 H5 w5 with ⟨stop,qn⟩|⟨go,N,hN,step⟩
  ·have q:=T.done X' pX wX KX cX i [] s5 m4 H5 (fun _ _=>False) I5 (o6 t9) t8 stop
   rw[AX] at q;refine ZW q fun r s6 ⟨hr,I6⟩=>?_;subst hr;obtain⟨m,hn,_⟩:=I6.loc;rw[i8] at hn;refine u0 _ _ s6 m H5 hn ?_ ?_ I3.sz ?_ ?_ qn fun h' sb=>back I6 sb
   ·exact ba I3.lt
   ·intro x c e
    obtain⟨v,q⟩:=I3.cell x c e;exact ay q.lt
   ·intro pp w6
    exact ay (Zp (I3.pin pp w6).1)
   ·have:=I6.free;rw[i8] at this;exact this
  ·have q:=T.item X' pX wX KX cX i [] s5 m4 H5 (fun _ _=>False) I5 (o6 t9) t8 go
   rw[AX] at q;refine ZW q fun r s6 ⟨u,hr,h6⟩=>?_;subst hr;refine ZW h6 fun _ s7 ⟨x,H7,I7,r7,y7,o7,w8⟩=>?_;have w9:=I7.pinned (o6 w8) (T.obj _ _ o7);have q8:=u8 _ s7 m4 H7 x u _ w9 r7 (step x H7 y7);rw[pX,wX,AX,envX,xX] at q8;refine ZW q8 fun _ s8 ⟨m5,H8,I8,q8⟩=>?_;have q9:=u9 _ s8 m5 H8 _ I8 q8;rw[pX,wX,AX,envX,xX] at q9;have again:∀{i0:St}{H':Hp}{s':Shared},Inv X' ([]++WZ fp s7.heap) i0 H' s'->N i0 H'->∃m,m<n/\∃i i0 H',Inv X' [] i0 H' s'/\tn i s'.heap/\(∀b∈fp,H' b=none)/\W i m i0 H':=fun {i0 H' s'} I' n'=>by
    obtain⟨m',hm,w'⟩:=hN i0 H' n';refine⟨m',hm,i+1,i0,H',I'.unpinned,T.keep _ _ _ o7 fun b hb o e=>(I'.pin (b,o) (av _ (av _ (Yt hb e)))).1,fun b hb=>?_,w'⟩;obtain⟨o,e,d⟩:=T.obj _ _ o7 b hb;exact (I'.pin (b,o) (av _ (av _ (Yt hb e)))).2.1
   refine ZW q9 fun ok s9 ⟨H9,I9,q9⟩=>?_;cases ok with
   |false=>
    simp only[ev,if_false] at q9 ⊢;exact again I9 q9
   |true=>
    simp only[if_true] at q9 ⊢;have m6:=v1 _ s9 m5 H9 _ I9 q9;rw[pX,wX,AX,envX,xX] at m6;refine ZW m6 fun y x0 ⟨v,x6,x8,rv,xs,x9,hz,m6⟩=>?_;have m7:=Wt (X:=X') _ x0 m5 x6 (.ref s2.heap.objs.size) [v] (.ref s2.heap.objs.size) [y] (fun _ H'=>N m5 H') x8 rfl (.cons rv .nil) ⟨_,xs,v,rfl,rfl,x9,hz,m6⟩;rw[pX,wX,AX,xX] at m7;exact ZW m7 fun _ y6 ⟨_,y8,y0,_,m7⟩=>again y0 m7
 exact codeAny_compStart_list (n5 _ rfl) (T.self _ 0 _ _ _ t5 (n5 _ rfl))
theorem Zcm {own:List Str}{j:List Nat}{N':List Str}{h9 scope:Scope}{elt iter tg:Expr}{ifs:List Expr}{pos:Pos}{wi:TI}{g:TG}{tc:TT}{te:TE}
  (z:X.env.scope=h9) (S:Wy X.N h9 own j N' scope) (hc:X.calm=true) (hi:PI X tg iter wi)
  (hg:∀Y C s H ex,PG (YN X scope Y N' C s H ex) tg g) (ht:∀Y C s H ex,PIf (YN X scope Y N' C s H ex) ifs tc) (he:∀Y C s H ex,PE (YN X scope Y N' C s H ex) elt te)
  (hs:∀x,foldedSetIterable iter X.env x=pure x:=by intro _;rfl) :
  PE X (.ListComp elt [⟨tg,iter,ifs,0⟩] scope pos) (Zc9 own j wi g tc te):=by
 intro O s σ H Q I h;obtain⟨Y,i5,i0,i4⟩:=Uc (scope:=scope) (env:=X.env) fun y hy hf=>by
  have:=S.fr y hy hf;rw[<-z] at this;exact I.ok.has y.1 this
 rw[eval_ListComp];refine wpAny_comprehension_free (use:=none) rfl hs i5 S.kind S.uniq (ZW (hi O s σ H _ I h) fun v s1 h1=>ZW h1 fun i8 s2 h2=>?_);obtain⟨it,fp,tn,J,H2,e,I2,T,i6,f2,q⟩:=h2;subst e;refine Ua (RR:=fun i7 C=>compPost (model X.prog X.w) X.A X.xe none (EP X O σ Q) i7 C) z S hc i0 i4 hg ht he I2 T i6 f2 q ?_;intro D C s' m H' hn _ _ _ _ _ q' hb;exact⟨m,hn,fun h' sb=>⟨.ref D,H',hb h' sb,rfl,q'⟩⟩
end
section
variable {κ:Type} [DecidableEq κ]
noncomputable def Jv (j:List (κ×V))(k:κ):Option V:=(j.find? fun z=>decide (z.1=k)).map (·.2)
noncomputable def WD (j:List (κ×V))(k:κ)(v:V):List (κ×V):=
 if (j.any fun z=>decide (z.1=k))=true then j.map (fun z=>if z.1=k then (z.1,v) else z) else j++[(k,v)]
theorem Jt {p:κ×V}{r:List (κ×V)}{k:κ}(e:p.1=k):Jv (p::r) k=some p.2:=by simp[Jv,bY,e]
theorem Ju {p:κ×V}{r:List (κ×V)}{k:κ}(e:¬p.1=k):Jv (p::r) k=Jv r k:=by simp[Jv,bY,e]
theorem XV (k:κ):∀j:List (κ×V),(j.any fun z=>decide (z.1=k))=(Jv j k).isSome
 | []=>rfl
 |p::r=>by
  rw[ee];by_cases e:p.1=k
  ·simp only[Jt e,decide_eq_true e,Bool.true_or,Option.isSome_some]
  ·rw[Ju e,decide_eq_false e,Bool.false_or];exact XV k r
theorem Wi (j:List (κ×V))(k:κ)(v:V):(WD j k v).length<=j.length+1:=by
 unfold WD;split
 ·rw[Za];omega
 ·rw[Zd,Zi,ao];omega
theorem J4.isSome_eq {o:Option V}{u:Option Value}(r:J4 o u):o.isSome=u.isSome:=by
 cases o with
 |none=>cases u with
  |none=>rfl
  |some _=>exact (show False from r).elim
 |some _=>cases u with
  |none=>exact (show False from r).elim
  |some _=>rfl
theorem KV.val {j:List (κ×V)}{Y:List (κ×Value)}(r:KV j Y)(k:κ):J4 (Jv j k) (valueAt Y k):=by
 unfold KV at r;induction r with
 |nil=>exact dg
 | @cons p q ps J h t ih=>
  obtain⟨h1,h2⟩:=h;by_cases e:p.1=k
  ·have O:q.1=k:=h1.symm.trans e
   have b:valueAt (q::J) k=some q.2:=by simp[valueAt,bY,O]
   rw[Jt e,b];exact h2
  ·have O:¬q.1=k:=fun z=>e (h1.trans z)
   have b:valueAt (q::J) k=valueAt J k:=by simp[valueAt,bY,O]
   rw[Ju e,b];exact ih
theorem KV.any {j:List (κ×V)}{J:List (κ×Value)}(r:KV j J)(k:κ):(j.any fun z=>decide (z.1=k))=J.any fun z=>decide (z.1=k):=by
 unfold KV at r;induction r with
 |nil=>rfl
 |cons h t O=>rw[ee,ee,O,h.1]
theorem KV.repl {J:List (κ×V)}{Y:List (κ×Value)}(r:KV J Y)(k:κ){y:V}{u:Value}(ry:RelV y u) :
  KV (J.map fun j=>if j.1=k then (j.1,y) else j) (Y.map fun j=>if j.1=k then (j.1,u) else j):=by
 unfold KV at r ⊢;induction r with
 |nil=>exact .nil
 | @cons p q ps qs h t ih=>
  rw[bv,bv];refine .cons ?_ ih;obtain⟨O,h2⟩:=h;by_cases e:p.1=k
  ·rw[if_pos e,if_pos (O.symm.trans e)];exact⟨O,ry⟩
  ·rw[if_neg e,if_neg (fun z=>e (O.trans z))];exact⟨O,h2⟩
theorem KV.put {j:List (κ×V)}{z:List (κ×Value)}(r:KV j z)(k:κ){y:V}{u:Value}(J:RelV y u):KV (WD j k y) (stored z k u):=by
 unfold WD stored;rw[r.any k];by_cases e:(z.any fun O=>decide (O.1=k))=true
 ·rw[if_pos e,if_pos e];exact r.repl k J
 ·rw[if_neg e,if_neg e];exact Paired.snoc r ⟨rfl,J⟩
theorem KV.length {j:List (κ×V)}{z:List (κ×Value)}(r:KV j z):j.length=z.length:=fD r
end
theorem UA {P:Program}{w:World}{k:Yr}{u:Value}(r:RelV (kV k) u):(Z3 P w).is k u=true:=by
 cases k with
 |inl i=>obtain⟨t,e⟩:=(show ∃t,u=gU i t from r);subst e;exact Vd P w i t
 |inr x=>obtain⟨t,e⟩:=(show ∃t,u=gT x t from r);subst e;exact Vc P w x t
theorem Xf {P:Program}{w:World}:∀{j:List Yr}{us:List Value},ZI (j.map kV) us->ItemsAre (Z3 P w) j us
 | [],_,r=>by rw[fV] at r;cases r;exact .nil
 |k::j,_,r=>by
  rw[bv] at r;cases r with
  |cons h t=>exact .cons (UA h) (Xf t)
noncomputable abbrev KT (H:Hp):List (List Yr×V)->List (List Yr×Addr×Value)->Prop:=gh fun p q=>p.1=q.1/\H q.2.1=some (.tup (p.1.map kV))/\RelV p.2 q.2.2
theorem KT.val {H:Hp}{j:List (List Yr×V)}{xs:List (List Yr×Addr×Value)}(r:KT H j xs)(k:List Yr):J4 (Jv j k) ((atKey xs k).map (·.2)):=by
 induction r with
 |nil=>exact dg
 | @cons p q ps J h t ih=>
  obtain⟨Y,_,h2⟩:=h;by_cases e:p.1=k
  ·have O:q.1=k:=Y.symm.trans e
   have b:atKey (q::J) k=some q.2:=by simp[atKey,bY,O]
   rw[Jt e,b];exact h2
  ·have O:¬q.1=k:=fun z=>e (Y.trans z)
   have b:atKey (q::J) k=atKey J k:=by simp[atKey,bY,O]
   rw[Ju e,b];exact ih
theorem KT.repl {H:Hp}{j:List (List Yr×V)}{xs:List (List Yr×Addr×Value)}(r:KT H j xs)(k:List Yr){y:V}{u:Value}(ry:RelV y u) :
  KT H (j.map fun O=>if O.1=k then (O.1,y) else O) (xs.map (putAt k u)):=by
 induction r with
 |nil=>exact .nil
 | @cons p q ps qs h t ih=>
  rw[bv,bv];refine .cons ?_ ih;obtain⟨J,Y,h3⟩:=h;unfold putAt;by_cases e:p.1=k
  ·rw[if_pos e,if_pos (J.symm.trans e)];exact⟨J,Y,ry⟩
  ·rw[if_neg e,if_neg (fun z=>e (J.trans z))];exact⟨J,Y,h3⟩
theorem KT.put {H:Hp}{j:List (List Yr×V)}{xs:List (List Yr×Addr×Value)}(r:KT H j xs)(k:List Yr){b:Addr}{y:V}{u:Value}(hb:H b=some (.tup (k.map kV)))(z:RelV y u) :
  KT H (WD j k y) (storedH xs k b u):=by
 have e:(j.any fun J=>decide (J.1=k))=(atKey xs k).isSome:=by
  rw[XV,(r.val k).isSome_eq,Option.isSome_map]
 unfold WD storedH;rw[e];by_cases q:(atKey xs k).isSome=true
 ·rw[if_pos q,if_pos q];exact r.repl k z
 ·rw[if_neg q,if_neg q];exact Paired.snoc r ⟨rfl,hb,z⟩
theorem KT.keeps {H J:Hp}{j:List (List Yr×V)}{xs:List (List Yr×Addr×Value)}(r:KT H j xs)(Y:∀b O,H b=some (.tup O)->J b=some (.tup O)):KT J j xs:=
 gh.mapP r fun _ _ z=>⟨z.1,Y _ _ z.2.1,z.2.2⟩
section
variable {P:Program}{w:World}{H:Hp}{h:Heap}{a:Addr}
theorem Zdn {u:HO}(ok:WI P w H h)(e:Rd H a u):Z6 P w H h a u:=e.ok ok
theorem Zbz {j:List (Yr×V)}(ok:WI P w H h)(e:Rd H a (.dK j)):j.length<=sizeLine/\(a == sysModules)=false/\∃z,KV j z/\h.DictOf (Z3 P w) a z:=
 show Z6 P w H h a (.dK j) from Zdn ok e
theorem Zdx {j:List (Yr×V)}(ok:WI P w H h)(e:H a=some (.dK j)):j.length<=sizeLine/\(a == sysModules)=false/\∃z,KV j z/\h.DictOf (Z3 P w) a z:=Zbz ok (.inl e)
theorem V4 {j:List Yr}(ok:WI P w H h)(e:H a=some (.tup (j.map kV))):(tupleKind (Z3 P w)).is h j a:=by
 obtain⟨_,z,r,o,J,O,n,Y⟩:=(show Z6 P w H h a (.tup (j.map kV)) from ok a _ e);exact⟨o,z.toArray,n,J,O,Y,by simpa using Xf r⟩
theorem Zby {j:List (List Yr×V)}(ok:WI P w H h)(e:Rd H a (.dT j)):j.length<=sizeLine/\(a == sysModules)=false/\
  ∃xs,KT H j xs/\h.DictOfH (tupleKind (Z3 P w)) a xs:=by
 obtain⟨z,y,xs,r,o,es,Y,h1,h2,h3,h4,h5⟩:=(show Z6 P w H h a (.dT j) from Zdn ok e);refine⟨z,y,xs,r,o,es,Y,h1,h2,h3,h4,fun x J=>?_,h5⟩;have all:∀{l:List (List Yr×V)}{m:List (List Yr×Addr×Value)},KT H l m->∀x∈m,(tupleKind (Z3 P w)).is h x.1 x.2.1:=by
  intro l m q;induction q with
  |nil=>intro x J;exact nomatch J
  | @cons p q ps qs O t ih=>
   intro x J;rcases ak.mp J with e|J
   ·subst e
    exact V4 ok (by rw[<-O.1];exact O.2.1)
   ·exact ih x J
 exact all r x J
theorem ZfB {j:List (List Yr×V)}(ok:WI P w H h)(e:H a=some (.dT j)):j.length<=sizeLine/\(a == sysModules)=false/\
  ∃xs,KT H j xs/\h.DictOfH (tupleKind (Z3 P w)) a xs:=Zby ok (.inl e)
end
noncomputable def JW (H:Hp)(a:Addr)(y:V)(r:Option V):Prop:=
 (∃j k,Rd H a (.dK j)/\y=kV k/\r=Jv j k)\/∃j k b,Rd H a (.dT j)/\y=.ref b/\H b=some (.tup (k.map kV))/\r=Jv j k
noncomputable def Vz (H:Hp)(a:Addr)(y v:V)(z:Hp):Prop:=
 (∃j k,H a=some (.dK j)/\y=kV k/\j.length<sizeLine/\z=upd H a (.dK (WD j k v)))\/
 ∃j k b,H a=some (.dT j)/\y=.ref b/\H b=some (.tup (k.map kV))/\j.length<sizeLine/\z=upd H a (.dT (WD j k v))
theorem JW.k {H:Hp}{a:Addr}{j:List (Yr×V)}{k:Yr}(e:H a=some (.dK j)):JW H a (kV k) (Jv j k):=.inl ⟨j,k,.inl e,rfl,rfl⟩
theorem Vz.k {H:Hp}{a:Addr}{j:List (Yr×V)}{k:Yr}{v:V}(e:H a=some (.dK j))(hl:j.length<sizeLine):Vz H a (kV k) v (upd H a (.dK (WD j k v))):=.inl ⟨j,k,e,rfl,hl,rfl⟩
section
variable {X:Cx}{pins:List (Addr×Obj)}{σ:St}{H:Hp}{s:Shared}{a:Addr}{y v:V}{u r:Value}{o:Option V}{A:Around}{E:Value->Shared->Prop}
theorem Inv.big (I:Inv X pins σ H s):sysModules<s.heap.objs.size:=by
 have h:mainGlobals<s.heap.objs.size:=(I.mod.glob.keeps I.bk).lt;exact cq (by decide) h
theorem Zau {Q:Value->Shared->Prop}(hu:A.units+1<cLine)(I:Inv X pins σ H s)(g:JW H a y (some v))(ry:RelV y u)(h:∀J s',Inv X pins σ H s'->RelV v J->Q J s') :
  wpAny (model X.prog X.w) A (getItem (.ref a) u) Q E s:=by
 rcases g with ⟨O,k,e,Y,l⟩|⟨O,k,b,e,Y,eb,l⟩
 ·subst Y
  obtain⟨z,hd,vs,rel,dd⟩:=Zbz I.hok e;obtain⟨J,hw,j⟩:=J4.some_of (v:=v) (o:=valueAt vs k) (by rw[l];exact rel.val k);exact wpAny_getItem_of (UA ry) dd.mapOf hw (h J _ (I.tok _) j)
 ·subst Y
  cases (show u=aw b from ry);obtain⟨z,hd,xs,rel,dd⟩:=Zby I.hok e;obtain⟨J,hw,j⟩:=J4.some_of (v:=v) (o:=(atKey xs k).map (·.2)) (by rw[l];exact rel.val k);obtain⟨p,hp,h9⟩:=Option.map_eq_some_iff.mp hw;refine wpAny_getItem_heap (tupleKind_room_in1 hu) (V4 I.hok eb) dd hp ?_;rw[h9];exact h J _ (I.tok _) j
theorem XE {h':Heap}{t':Nat}{ob:HO}(I:Inv X pins σ H s)(J:Mut (H a))(O:aS a s.heap h')(Y:∃q,h'.get? a=some q)(j:Z6 X.prog X.w (upd H a ob) h' a ob) :
  Inv X pins σ (upd H a ob) {s with heap:=h',toks:=t'}:=
 I.write (x:=a) (e:=a) J (.inl rfl) (fun b q hb z=>(O.2 b hb).trans z) Y j
theorem ZbA {P:Program}{w:World}{O:Hp}{h':Heap}{j:List (Yr×V)}{J:List (Yr×Value)}(z:j.length<=sizeLine)(hd:(a == sysModules)=false)(rel:KV j J)(Y:h'.DictOf (Z3 P w) a J) :
  Z6 P w O h' a (.dK j):=⟨z,hd,J,rel,Y⟩
theorem Zat {H':Hp}{Q:Unit->Shared->Prop}(hu:A.units+1<cLine)(I:Inv X pins σ H s)(g:Vz H a y v H')(ry:RelV y u)(rv:RelV v r)(h:∀s',Inv X pins σ H' s'->Q () s') :
  wpAny (model X.prog X.w) A (setItem (.ref a) u r) Q E s:=by
 rcases g with ⟨j,k,e,Y,l,eH⟩|⟨j,k,b,e,Y,eb,l,eH⟩
 ·subst Y eH
  obtain⟨z,hd,vs,rel,dd⟩:=Zdx I.hok e;have hz:vs.length<=sizeLine:=by rw[<-rel.length];exact z
  have hl:(WD j k v).length<=sizeLine:=by have:=Wi j k v;omega
  refine wpAny_setItem_pairs (hsz:=hz) (UA ry) dd fun h' J hs=>h _ ?_;have he:∃q,h'.get? a=some q:=by obtain⟨q,_,_,O,_⟩:=J;exact⟨q,O⟩
  exact XE I (by rw[e];exact dg) hs he (ZbA hl hd (rel.put k rv) J)
 ·subst Y eH
  cases (show u=aw b from ry);obtain⟨z,hd,xs,rel,dd⟩:=ZfB I.hok e;have hz:xs.length<=sizeLine:=by rw[<-fD rel];exact z
  have hl:(WD j k v).length<=sizeLine:=by have:=Wi j k v;omega
  refine wpAny_setItem_heap (hsz:=hz) (tupleKind_room_in1 hu) (V4 I.hok eb) dd fun h' J hs=>h _ ?_;obtain⟨q,es,ep,O,h2,h3,h4,_,h5⟩:=J;refine XE I (by rw[e];exact dg) hs ⟨q,O⟩ ⟨hl,hd,_,(rel.put k eb rv).keeps fun c ys ec=>?_,q,es,ep,O,h2,h3,h4,h5⟩;rw[ZE (Zfs ec e (fun z=>nomatch z))];exact ec
end
section
variable {X:Cx}{pins:List (Addr×Obj)}{σ:St}{H:Hp}{s:Shared}{a:Addr}{kvs:List (Yr×V)}{k:Yr}{u:Value}{A:Around}{E:Value->Shared->Prop}
end
noncomputable def ZfH (i:Expr):Prop:=∀j z,subscripted i false j z=operate [j,z] (getItem j z)
theorem ZbY {prog:Program}{w:World}{A:Around}{E:Value->Shared->Prop}{s:Shared}{env:Env}{value slice:Expr}{pos:Pos}{T id:String}{Q:Value->Shared->Prop}
  (hl:typeLookup (.type T) "__getitem__"=pure (some (.builtin id))) (hs:ZfH slice)
  (h:wpAny (model prog w) A (eval value env) (fun o J=>wpAny (model prog w) A (eval slice env) (fun i j=>j.TypeIs o T/\wpAny (model prog w) A (getItem o i) Q E j) E J) E s) :
  wpAny (model prog w) A (eval (.Subscript value slice pos) env) Q E s:=by
 refine Subscript_ (a6 h (fun o J h9=>a6 h9 (fun i j z=>?_) fun _ _ x=>x) fun _ _ x=>x);obtain⟨hT,z⟩:=z;unfold subscriptTail;refine Zl ?_;rw[getitemInPython_of_ne hT.not_modules];refine Zl (wpAny_specialOf hT hl ?_);have Y:wpAny (model prog w) A (subscripted slice false o i) (fun r O=>wpAny (model prog w) A (letTemporaryGo value o r >>= fun _=>pure r) Q E O) E j:=by
  rw[hs o i];exact wpAny_operating (a6 z (fun r O i0=>Zl (wpAny_letTemporaryGo (Zm i0))) fun _ _ x=>x)
 first
  |exact Zm (Zl Y)
  |exact Zl (Zm (Zl Y))
  |exact Zl Y
theorem Vm {X:Cx}{j:List (Addr×Obj)}{σ:St}{H:Hp}{s:Shared}{a:Addr}{y:V}{o:Option V}(I:Inv X j σ H s)(g:JW H a y o):s.TypeIs (.ref a) "dict":=by
 rcases g with ⟨z,k,e,_,_⟩|⟨z,k,b,e,_,_,_⟩
 ·obtain⟨_,_,O,_,J⟩:=Zbz I.hok e
  exact J.typeIs
 ·obtain⟨_,_,xs,_,J⟩:=Zby I.hok e
  exact J.typeIs
noncomputable def Ze1 (J ty:TE):TE:=fun j H Q=>J j H fun x O=>ty j O fun y z=>∃a v,x=.ref a/\JW z a y (some v)/\Q v z
noncomputable def Zfi (J ty O:TE):TS:=fun D j H=>O j H fun v Y=>J j Y fun x H2=>ty j H2 fun y H3=>∃a z,x=.ref a/\Vz H3 a y v z/\D.nx j z
section
variable {X:Cx}{o i e value:Expr}{pos pos' tpos:Pos}{td ty tv:TE}
theorem WN (Y:X.A.units+1<cLine)(ho:PE X o td)(hi:PE X i ty)(hs:ZfH i):PE X (.Subscript o i pos) (Ze1 td ty):=by
 intro j s J H Q I h;refine ZbY PySem.F.slot_dict_getitem.lookup hs (ZW (ho j s J H _ I h) fun u s1 ⟨x,H1,I1,rx,q1⟩=>ZW (hi j s1 J H1 _ I1 q1) fun iv s2 ⟨y,H2,O,ry,a,v,ex,g,q2⟩=>?_);subst ex;obtain rfl:u=aw a:=rx;exact⟨Vm O g,Zau Y O g ry fun w' s3 I3 z=>⟨v,H2,I3,z,q2⟩⟩
theorem Xy (J:X.A.units+1<cLine)(O:PE X o td)(Y:PE X i ty)(hv:PE X value tv)(hs:swapsWith value (some (.Subscript o i pos')) pos.line X.env=pure false) :
  PS X (.Assign [.Subscript o i pos'] value pos) (Zfi td ty tv):=by
 intro j s z H D I h;refine wpAny_Assign_Subscript (ZW (hv j s z H _ I h) fun r s1 ⟨v,H1,I1,rv,q1⟩=>ZW (O j s1 z H1 _ I1 q1) fun u s2 ⟨x,H2,I2,rx,q2⟩=>ZW (Y j s2 z H2 _ I2 q2) fun iv s3 ⟨y,H3,I3,ry,a,H4,ex,g,q3⟩=>?_) hs;subst ex;obtain rfl:u=aw a:=rx;exact Zat J I3 g ry rv fun s4 I4=>⟨z,H4,I4,q3⟩
end
theorem ZbB {P:Program}{w:World}{H:Hp}(h:Heap)(hb:sysModules<h.objs.size):Z6 P w H (h.push {cls:=.type "dict",data:=.dict #[]}) h.objs.size (.dK []):=
 ⟨aC _,beq_eq_false_iff_ne.mpr (a8 (ay hb)),[],.nil,Heap.DictOf.new h⟩
section
variable {X:Cx}{pos:Pos}
end
noncomputable def VI:List (TE×TE)->St->Hp->(List (V×V)->Hp->Prop)->Prop
 | [],_,H,Q=>Q [] H
 |(tk,j)::r,σ,H,Q=>tk σ H fun x z=>j σ z fun y J=>VI r σ J fun O Y=>Q ((x,y)::O) Y
noncomputable abbrev VV:List (V×V)->List (Value×Value)->Prop:=gh fun p q=>RelV p.1 q.1/\RelV p.2 q.2
noncomputable def PPs (X:Cx)(pos:Pos)(J:List (Option Expr))(j:List Expr)(O:List (TE×TE)):Prop:=
 ∀(z:List (Addr×Obj)) (s:Shared) (Y:St) (H:Hp) (Q:List (V×V)->Hp->Prop),Inv X z Y H s->VI O Y H Q->
  wpAny (model X.prog X.w) X.A (evalPairs (pairTrees J j X.env pos)) (fun vs s'=>∃ps H',Inv X z Y H' s'/\VV ps vs/\Q ps H') X.xe s
theorem Zce {X:Cx}{pos:Pos}:PPs X pos [] [] []:=fun j s z H Q I h=>pairTrees_nil_walk ⟨[],H,I,.nil,h⟩
theorem JG {X:Cx}{pos:Pos}{k v:Expr}{O:List (Option Expr)}{Y:List Expr}{tk tv:TE}{z:List (TE×TE)}(hk:PE X k tk)(hv:PE X v tv)(hr:PPs X pos O Y z) :
  PPs X pos (some k::O) (v::Y) ((tk,tv)::z):=fun j s J H Q I h=>
 pairTrees_cons_walk (ZW (hk j s J H _ I h) fun u s1 ⟨x,H1,I1,rx,q1⟩=>ZW (hv j s1 J H1 _ I1 q1) fun w2 s2 ⟨y,H2,I2,ry,q2⟩=>
  ZW (hr j s2 J H2 _ I2 q2) fun ws s3 ⟨ps,H3,I3,rel,q3⟩=>⟨(x,y)::ps,H3,I3,.cons ⟨rx,ry⟩ rel,q3⟩)
noncomputable def JJ (z j:List (Yr×V)):List (Yr×V):=j.foldl (fun J O=>WD J O.1 O.2) z
theorem KV.merge:∀{more:List (Yr×V)}{rs:List (Yr×Value)}{j:List (Yr×V)}{z:List (Yr×Value)},KV more rs->KV j z->KV (JJ j more) (merged z rs):=by
 intro more rs j z r;unfold KV at r;induction r generalizing j z with
 |nil=>intro q;exact q
 | @cons p q Y qs h t J=>
  intro O;have e:KV (WD j p.1 p.2) (stored z q.1 q.2):=by
   have:=O.put p.1 h.2;rw[<-h.1];exact this
  exact J e
theorem WB:∀(z j:List (Yr×V)),(JJ j z).length<=j.length+z.length
 | [],j=>by show j.length<=j.length+0;omega
 |p::r,j=>by
  have J:=WB r (WD j p.1 p.2);have O:=Wi j p.1 p.2;show (JJ (WD j p.1 p.2) r).length<=_;rw[Zi];omega
theorem JP {P:Program}{w:World}:∀{j:List (Yr×V)}{J:List (Value×Value)},VV (j.map fun O=>(kV O.1,O.2)) J->∃z,Carries (Z3 P w) J z/\KV j z
 | [],_,r=>by rw[fV] at r;cases r;exact⟨[],dg,.nil⟩
 |p::j,_,r=>by
  rw[bv] at r;cases r with
  | @cons a b as bs h t=>
   obtain⟨z,c,q⟩:=JP (P:=P) (w:=w) t;obtain⟨b1,Y⟩:=b;exact⟨(p.1,Y)::z,⟨UA h.1,rfl,c⟩,.cons ⟨rfl,h.2⟩ q⟩
noncomputable def Ze0 (z:List (TE×TE)):TE:=fun Y H Q=>∀p,H p=none->VI z Y (upd H p (.dK [])) fun ps J=>J p=some (.dK [])/\∃j:List (Yr×V),ps=j.map (fun O=>(kV O.1,O.2))/\j.length<=15/\Q (.ref p) (upd J p (.dK (JJ [] j)))
theorem Zcl {X:Cx}{pos:Pos}{keys:List (Option Expr)}{values:List Expr}{j:List (TE×TE)}(h:PPs X pos keys values j)(J:keys.all (·.isSome)=true)(hl:keys.length=values.length)(h0:keys≠[])
  (i0:keys.length<=15):PE X (.Dict keys values pos) (Ze0 j):=by
 intro O s σ H Q I q;have hn:=I.hok.fresh (Zq s.heap.objs.size);have I1:=I.laid (a:=s.heap.objs.size) (o:=.dK []) (h':=s.heap.push {cls:=.type "dict",data:=.dict #[]}) (t':=s.toks) (fun _ _ q=>Zn _ q) (Zq _) (ZbB s.heap I.big);refine wpAny_Dict_walk (knd:=Z3 X.prog X.w) J hl h0 i0 (ZW (h O _ σ _ _ I1 (q _ hn)) fun ws s2 ⟨ps,H2,I2,rel,e,Y,ep,lk,q2⟩=>?_);subst ep;obtain⟨rs,c,rk⟩:=JP (P:=X.prog) (w:=X.w) rel;obtain⟨z,hd,i5,r0,dd⟩:=Zdx I2.hok e;cases r0;refine⟨rs,c,dd,fun h' h9 hs=>⟨.ref s.heap.objs.size,_,?_,rfl,q2⟩⟩;have hz:(JJ [] Y).length<=sizeLine:=by
  have h1:=WB Y [];rw[ao] at h1;rw[fK];omega
 have he:∃q,h'.get? s.heap.objs.size=some q:=by obtain⟨q,_,_,hq,_⟩:=h9;exact⟨q,hq⟩
 exact XE I2 (by rw[e];exact dg) hs he (ZbA hz hd (rk.merge .nil) h9)
section
variable {X:Cx}{pins:List (Addr×Obj)}{σ:St}{H:Hp}{s:Shared}{a:Addr}{y d:V}{u r:Value}{o:Option V}{A:Around}{E:Value->Shared->Prop}
end
section
variable {X:Cx}{o e f:Expr}{apos cpos:Pos}{td ty tx:TE}
end
section
variable {X:Cx}{pins:List (Addr×Obj)}{σ:St}{H:Hp}{s:Shared}{a:Addr}{kvs:List (Yr×V)}{A:Around}{E:Value->Shared->Prop}
end
section
variable {X:Cx}{pins:List (Addr×Obj)}{σ:St}{H:Hp}{s:Shared}{a:Addr}{y:V}{u:Value}{A:Around}{E:Value->Shared->Prop}
end
mutual
inductive XR (K:ae) (H:Hp):V->cn->Prop where
 |non:XR K H .non .none
 |bl (b:Bool):XR K H (.bl b) (.bool b)
 |int (i:Int):XR K H (.int i) (.int i)
 |str (x:Str):XR K H (.str x) (.str x)
 |lst {a:Addr}{xs:List V}{ds:List cn} (h:Wr K H a xs) (r:YO K H xs ds):XR K H (.ref a) (.list ds)
 |tup {a:Addr}{xs:List V}{ds:List cn} (h:Jq K H a xs) (r:YO K H xs ds):XR K H (.ref a) (.tuple ds)
inductive YO (K:ae) (H:Hp):List V->List cn->Prop where
 |nil:YO K H [] []
 |cons {x:V}{xs:List V}{d:cn}{ds:List cn} (h:XR K H x d) (r:YO K H xs ds):YO K H (x::xs) (d::ds)
end
section
variable {K:ae}{H H':Hp}
theorem ZC.tup {a:Addr}{xs:List V}(e:ZC H H')(h:Jq K H a xs):Jq K H' a xs:=by
 rcases h with (h|⟨o,h⟩)|h
 ·exact .inl (.inl (e _ _ h))
 ·exact .inl (.inr ⟨o,e _ _ h⟩)
 ·exact .inr h
theorem ZC.upd {p:Addr}{o:HO}(h:H p=none):ZC H (upd H p o):=fun b u e=>by rw[ZE (ZH e h)];exact e
theorem ZC.updr {p:Addr}{o:HO}(s:ZC H H')(h:H p=none):ZC H (L2.upd H' p o):=fun b u e=>by rw[ZE (ZH e h)];exact s b u e
mutual
theorem XR.mono (s:ZC H H'):∀{v:V}{d:cn},XR K H v d->XR K H' v d
 |_,_,.non=>.non
 |_,_,.bl b=>.bl b
 |_,_,.int i=>.int i
 |_,_,.str x=>.str x
 |_,_,.lst h r=>.lst (s.seq h) (YO.mono s r)
 |_,_,.tup h r=>.tup (s.tup h) (YO.mono s r)
theorem YO.mono (s:ZC H H'):∀{v:List V}{d:List cn},YO K H v d->YO K H' v d
 |_,_,.nil=>.nil
 |_,_,.cons h r=>.cons (XR.mono s h) (YO.mono s r)
end
theorem YO.ints:∀ns:List Int,YO K H (ns.map V.int) (ns.map br)
 | []=>.nil
 |n::r=>.cons (.int n) (YO.ints r)
end
section
variable {X:Cx}{pins:List (Addr×Obj)}{σ:St}{H:Hp}{s:Shared}
mutual
theorem Inv.reads (I:Inv X pins σ H s):∀{v:V}{d:cn}{u:Value},XR X.K H v d->RelV v u->∃j,Reads s.heap u d j
 |_,_,_,.non,r=>by cases (show _=bj from r);exact⟨_,.none⟩
 |_,_,_,.bl b,r=>by cases (show _=fx b from r);exact⟨_,.bool b⟩
 |_,_,_,.int i,r=>by obtain⟨t,rfl⟩:=r;exact⟨_,.int i t⟩
 |_,_,_,.str x,r=>by obtain⟨t,rfl⟩:=r;exact⟨_,.str x t⟩
 |_,_,_,.lst (a:=a) h q,r=>by
  cases (show _=aw a from r);obtain⟨z,J,⟨o,n,e,c,_,d⟩,_⟩:=I.list h;obtain⟨j,O⟩:=Inv.readsAll I q J;exact⟨_,.list e c d (by simpa using O)⟩
 |_,_,_,.tup (a:=a) h q,r=>by
  cases (show _=aw a from r);obtain⟨z,J,⟨o,e,c,n,d⟩,_⟩:=I.tuple h;obtain⟨j,O⟩:=Inv.readsAll I q J;exact⟨_,.tuple e c d (by simpa using O)⟩
theorem Inv.readsAll (I:Inv X pins σ H s):∀{v:List V}{d:List cn}{u:List Value},YO X.K H v d->ZI v u->∃j,ReadsAll s.heap u d j
 |_,_,_,.nil,r=>by cases r;exact⟨_,.nil⟩
 |_,_,_,.cons h q,r=>by
  cases r with
  |cons r z=>
   obtain⟨Y,J⟩:=Inv.reads I h r;obtain⟨a2,O⟩:=Inv.readsAll I q z;exact⟨_,.cons J O⟩
end
end
structure Zc4 (d:cn):Prop where
 sh:d.showable=true
 nd:d.hasDict=false
 dp:d.depth<=60
 sz:d.shown.length<=sizeLine
section
variable {X:Cx}
theorem Zd3 (O:X.A.units+64<cLine):WV X (compareOp .NotEq) (fun x y H Q=>∃j z,XR X.K H x j/\XR X.K H y z/\bO j=true/\bO z=true/\Q (.bl (!gu j z)) H):=by
 intro J s σ H x y v u Q I Y ry ⟨j,z,h1,h2,s1,s2,q⟩;obtain⟨as,r1⟩:=I.reads h1 Y;obtain⟨bs,r2⟩:=I.reads h2 ry;exact SeqAt.compareNe_shaped r1 r2 s1 s2 O ⟨.bl _,H,I,rfl,q⟩
theorem Zay {k:Nat}(hr:YV k X.A):Z9 X (.builtin "repr") (fun xs H Q=>∃x d,xs=[x]/\XR X.K H x d/\Zc4 d/\Q (.str d.shown) H):=by
 intro O s σ H xs us Q I r h;obtain⟨x,d,rfl,hd,F,q⟩:=h;obtain⟨u,rfl,ru⟩:=vals1 r;obtain⟨as,rd⟩:=I.reads hd ru;have h9:X.A.units+61<cLine:=by have:=hr.units;omega
 have j:∀(J:Heap) (u:Tok) (tk:Nat),(∀b o,s.heap.get? b=some o->J.get? b=some o)->EP X O σ Q (.str d.shown u) {s with heap:=J,toks:=tk}:=fun J u tk k=>⟨.str d.shown,H,I.kept k,⟨u,rfl⟩,q⟩;cases rd with
 |none=>exact P.repr_of_none (j s.heap _ _ fun _ _ e=>e)
 |bool b=>exact P.repr_of_bool (by have:=j s.heap s.toks (s.toks+1) fun _ _ e=>e;simpa only[eh] using this)
 |int i t=>exact P.repr_of_int (by simpa only[eZ,decide_eq_true_eq] using F.sh) (by have:=j s.heap s.toks (s.toks+1) fun _ _ e=>e;simpa only[eh] using this)
 |str y t=>exact P.repr_of_str (by have:=j s.heap s.toks (s.toks+1) fun _ _ e=>e;simpa only[eh] using this) (by simpa only[eh] using F.sz)
 |list Y h2 h3 h4=>exact repr_of_reads' (.list Y h2 h3 h4) F.sh (fun z=>by rw[F.nd] at z;cases z) hr.gd (by have:=F.dp;omega) (fun _ _ e=>e) (fun J u tk k=>j J u tk k) F.sz
 |tuple Y h2 h3 h4=>exact repr_of_reads' (.tuple Y h2 h3 h4) F.sh (fun z=>by rw[F.nd] at z;cases z) hr.gd (by have:=F.dp;omega) (fun _ _ e=>e) (fun J u tk k=>j J u tk k) F.sz
 |dict Y h2 h3 h4 h5=>cases hd
theorem ZdC {prog:Program}{w:World}{A:Around}{j:List Value}{bs:List Bool}(r:ZI (bs.map V.bl) j):TruthOf prog w A (fun i v=>j.toArray[i]?=some v) (fun i=>bs.getD i false):=by
 intro i v s Q E z O;rw[List.getElem?_toArray] at z;have hi:i<j.length:=(aK.mp z).1;have hl:=r.length;rw[Za] at hl;have hb:(bs.map V.bl)[i]?=some (.bl (bs.getD i false)):=by
  rw[Zc,Zb,Zf (by omega)];rfl
 obtain⟨u,J,Y⟩:=r.get hb;rw[z] at J;cases J;cases (show v=fx _ from Y);exact dh O
theorem UW {bs:List Bool}:((dm bs.length).all fun i=>bs.getD i false)=bs.all id:=by
 have:(dm bs.length).map (fun i=>bs.getD i false)=bs:=by
  apply List.ext_getElem
  ·simp
  ·intro i j z;simp at j;simp[j]
 conv=>rhs;rw[<-this,List.all_map]
 rfl
theorem ZbI (Y:X.calm=true):Z9 X (.builtin "all") (fun xs H Q=>∃(a:Addr) (bs:List Bool),xs=[.ref a]/\Wr X.K H a (bs.map V.bl)/\Q (.bl (bs.all id)) H):=by
 intro J s σ H xs us Q I r h;obtain⟨a,bs,rfl,hq,q⟩:=h;obtain⟨u,rfl,ru⟩:=vals1 r;cases ru;obtain⟨j,O,p,hz⟩:=I.list hq;have hl:=O.length;rw[Za] at hl;refine call_all_walk (fv p.isList ?_);have z:a≠s.heap.objs.size:=by obtain⟨o,n,e,_⟩:=p;exact ay (Zp e)
 refine⟨s.heap.objs.size,_,_,_,_,_,(fun i=>bs.getD i false),rfl,Walks.list (A:=X.A.in1) (I.ok.hd Y) _ a z j.toArray,⟨⟨_,Zo _ rfl,rfl,rfl⟩,p.isList.push _⟩,ZdC O,fun h' tk k=>?_⟩;rw[Zh,<-hl,UW];refine⟨.bl _,H,I.kept (t':=tk) fun b o e=>k b o ?_ (Zn _ e),rfl,q⟩;simpa using ay (Zp e)
end
section
variable {prog:Program}{w:World}{A:Around}{E:Value->Shared->Prop}{s:Shared}
end
section
variable {X:Cx}
noncomputable def Xv (lo:Int)(n:Nat):List Int:=(dm n).map fun i:Nat=>lo+(i:Int)
theorem ZaV {lo:Int}{n i:Nat}(h:i<n):(Xv lo n)[i]?=some (lo+i):=by unfold Xv;rw[Zc,List.getElem?_range h];rfl
theorem X5 {lo:Int}{n:Nat}:(Xv lo n).length=n:=by unfold Xv;rw[Za,Zg]
end
noncomputable def Wh:List Str->Bool
 | []=>true
 |x::r=>!(r.contains x) && Wh r
theorem Yk:∀{l:List Str},Wh l=true->l.Nodup
 | [],_=>List.nodup_nil
 |x::r,h=>by
  unfold Wh at h;simp only[aJ,g8] at h;refine bW.mpr ⟨fun z=>?_,Yk h.2⟩;have:=gp.mpr z;rw[h.1] at this;cases this
noncomputable def UD (j:Scope)(x:Str):Bool:=match j.names.lookup x with
 |some .local=>true
 |some .cell=>true
 |_=>false
theorem Vk {j:Scope}{x:Str}(h:UD j x=true):Loc j x:=by
 unfold UD at h;split at h
 ·rename_i e;exact .inl e
 ·rename_i e;exact .inr e
 ·cases h
noncomputable def Y2 (j:Scope)(x:Str):Bool:=match j.names.lookup x with
 |some .local=>true
 |_=>false
theorem Z7 {j:Scope}{x:Str}(h:Y2 j x=true):j.names.lookup x=some .local:=by
 unfold Y2 at h;split at h
 ·rename_i e;exact e
 ·cases h
noncomputable def Zbi (j:Scope)(x:Str):Bool:=match j.names.lookup x with
 |some .local=>true
 |some .cell=>true
 |some .free=>true
 |_=>false
theorem Zbh {j:Scope}{x:Str}(h:Zbi j x=true):Vis j x:=by
 unfold Zbi at h;split at h
 ·rename_i e;exact .inl e
 ·rename_i e;exact .inr (.inl e)
 ·rename_i e;exact .inr (.inr e)
 ·cases h
noncomputable def YH (j:Scope)(x:Str):Bool:=match j.names.lookup x with
 |some .globalImplicit=>true
 |_=>false
noncomputable def W1:Expr->Bool
 | .Starred _ _=>false
 |_=>true
theorem YS {e:Expr}{es:List Expr}{env:Env}(h:W1 e=true):starEach (e::es) env=(false,eval e env)::starEach es env:=by cases e <;> first|rfl|cases h
noncomputable def Ws:List Expr->Bool
 | []=>true
 |e::r=>W1 e && Ws r
theorem YL {env:Env}{pos:Pos}:∀{es:List Expr},Ws es=true->(backTo pos (starEach es env)).any (·.1)=false
 | [],_=>rfl
 |e::r,h=>by
  unfold Ws at h;rw[aJ] at h;rw[YS h.1];exact YL h.2
section
variable {X:Cx}
theorem pc {e:Expr}{es:List Expr}{j:TE}{t:TA}(z:PE X e j)(J:PA X es t)(O:W1 e=true:=by rfl):PA X (e::es) (Yg j t):=Zcq z J (YS O)
theorem Wk {x:Str}(h:YH X.env.scope x=true):Gl X x:=by
 unfold YH at h;split at h
 ·rename_i e;exact e
 ·cases h
theorem vn (i:Nat){x:Str}{pos:Pos}(z:X.N[i]?=some x:=by rfl)(J:Zbi X.env.scope x=true:=by kernel_rfl)(O:(x == ("__debug__":Str))=false:=by kernel_rfl)(j:(x == ("__classdict__":Str))=false:=by kernel_rfl) :
  PE X (.Name x pos) (Yc i):=ZdY z (Zbh J) O j
theorem gn (i:Nat){x:Str}{pos:Pos}(z:X.N[i]?=some x:=by rfl)(J:Wh X.N=true:=by kernel_rfl)(j:Y2 X.env.scope x=true:=by kernel_rfl):PG X (.Name x pos) (Yo i):=
 Zci (Yk J) z (.inl (Z7 j)) (.inr (Z7 j))
theorem ZL (i:Nat){x:Str}{e:Expr}{z:TE}{pos j:Pos}(J:X.fn x=true)(O:PE X e z)(Y:X.N[i]?=some x:=by rfl)(hN:Wh X.N=true:=by kernel_rfl)(hx:UD X.env.scope x=true:=by kernel_rfl)
  (hs:swapsWith e (some (.Name x j)) pos.line X.env=pure false:=by rfl):PS X (.Assign [.Name x j] e pos) (XY z (Yo i)):=
 ZdS (Yk hN) Y (Vk hx) O hs (.inl J)
theorem cb {x:Str}{id:String}{r:List V->Hp->VK->Prop}{e:Expr}{es:List Expr}{t:TA}{p pos:Pos}(z:Z9 X (.builtin id) r)(J:X.mg x=none)(O:PA X (e::es) t)(Y:YH X.env.scope x=true:=by kernel_rfl)(hv:bootBuiltins x=some (.builtin id):=by kernel_rfl)
  (hn:x ≠ "__name__":=by decide) (hd:(x == ("__debug__":Str))=false:=by kernel_rfl) (he:W1 e=true:=by rfl) (j:Ws es=true:=by rfl) :
  PE X (.Call (.Name x p) (e::es) [] pos) (tCB r t):=Za5 z (Wk Y) J hv O hn hd (YS he) (YL j)
theorem ct {x:Str}{T:String}{r:List V->Hp->VK->Prop}{e:Expr}{es:List Expr}{t:TA}{p pos:Pos}(z:Z9 X (.type T) r)(J:X.mg x=none)(O:PA X (e::es) t)(Y:YH X.env.scope x=true:=by kernel_rfl)(hv:bootBuiltins x=some (.type T):=by kernel_rfl)
  (hn:x ≠ "__name__":=by decide) (hd:(x == ("__debug__":Str))=false:=by kernel_rfl) (he:W1 e=true:=by rfl) (j:Ws es=true:=by rfl) :
  PE X (.Call (.Name x p) (e::es) [] pos) (tCB r t):=U4 z (Wk Y) J hv O hn hd (YS he) (YL j)
theorem tyv (T:String){x:Str}{pos:Pos}(j:X.mg x=none)(z:YH X.env.scope x=true:=by kernel_rfl)(J:bootBuiltins x=some (.type T):=by kernel_rfl)(O:x ≠ "__name__":=by decide)(Y:(x == ("__debug__":Str))=false:=by kernel_rfl) :
  PE X (.Name x pos) (tC (.ty T)):=Zco (Wk z) j J rfl O Y
theorem ZdK {z a:Expr}{j:TA}{p pos:Pos}(J:X.mg "range"=none)(O:PA X [a] j)(Y:YH X.env.scope "range"=true:=by kernel_rfl)(hs:starEach [a] X.env=[(false,eval a X.env)]:=by rfl):PI X z (.Call (.Name "range" p) [a] [] pos) (Zdt j):=U3 (Wk Y) J O hs
theorem ZfZ {J a b:Expr}{z:TA}{p pos:Pos}(O:X.mg "range"=none)(Y:PA X [a,b] z)(hg:YH X.env.scope "range"=true:=by kernel_rfl)(hs:starEach [a,b] X.env=[(false,eval a X.env),(false,eval b X.env)]:=by rfl)(j:starEach [b] X.env=[(false,eval b X.env)]:=by rfl) :
  PI X J (.Call (.Name "range" p) [a,b] [] pos) (Zds z):=U2 (Wk hg) O Y hs j
end
noncomputable def Fn (P:Program)(w:World)(K:ae)(j:Str->Option Value)(base:Heap)(CX:VB)(k:Nat)(x:Str)(z:List Str)(sp:Sp):Prop:=
 ∃f J,Yj P w K j base CX k f J z sp/\j x=some (.ref f)/\aP K (.ref f)=true/\Binds K J z []
section
variable {X:Cx}
theorem WR {CX:VB}{k j:Nat}{x:Str}{J:List Str}{sp:Sp}{E:XK}{e:Expr}{es:List Expr}{t:TA}{p pos:Pos}(G:Fn X.prog X.w X.K X.mg X.base CX k x J sp)(O:YV j X.A)(Y:JT CX X E)(ha:PA X (e::es) t)(hk:k<=j:=by decide)
  (hg:YH X.env.scope x=true:=by kernel_rfl) (hd:(x == ("__debug__":Str))=false:=by kernel_rfl) (he:W1 e=true:=by rfl) (z:Ws es=true:=by rfl) :
  PE X (.Call (.Name x p) (e::es) [] pos) (Jz sp [] E t):=by
 obtain⟨f,fd,F,hm,kp,b⟩:=G;exact Zcn F (O.mono hk) (Wk hg) hm kp b .nil Y ha hd (YS he) (YL z)
end
theorem Fn.mk {P:Program}{w:World}{K:ae}{mg:Str->Option Value}{base h:Heap}{CX:VB}{k:Nat}{x:Str}{J:List Str}{sp:Sp}{st:Stmt}{f:Addr}{oc:Value}{od O:Option Addr}{Y:Array (Option Value)}{kV z pm j ct:Value}(X:K.In h)(G:h.Ns mainGlobals mg)
  (a:az K mainGlobals x=some (some (.ref f))) (l:K.lookup f=some ⟨oc,od,.func (a7 x x (Yv st) (Yp st) (ZY st) .none kV z pm O j ct),Y⟩) (c:b8 K j x=true) (kp:aP K (.ref f)=true)
  (hok:∀fd,Jf K x x st f fd->Yj P w K mg base CX k f fd J sp)
  (hb:∀(kV z pm:Value) (O:Option Addr) (j ct:Value) (us:List Value),us.length=J.length->bindArgs (a7 x x (Yv st) (Yp st) (ZY st) .none kV z pm O j ct) ⟨us,[]⟩=pure (J.zip us)) :
  Fn P w K mg base CX k x J sp:=
 ⟨f,_,hok _ (V6 l c kp),dE X G a,kp,(V6 l c kp).binds hb⟩
section
variable {X:Cx}
theorem Vi (K:ae)(j:X.K=K:=by rfl):IxR X (Zb7 K):=j▸Zeq
theorem ixL (K:ae)(j:X.K=K:=by rfl):IxR X (Zfo K):=j▸ZcG
noncomputable def Zf4 (K:ae):List V->Hp->VK->Prop:=fun xs H Q=>∃p j,xs=[.ref p]/\(Wr K H p j\/Jq K H p j)/\Q (.int j.length) H
theorem Zai (K:ae)(j:X.K=K:=by rfl):Z9 X (.builtin "len") (Zf4 K):=j▸XI
theorem itL (K:ae){z l:Expr}{j:TE}(hl:PE X l j)(J:X.K=K:=by rfl):PI X z l (Zbl K j):=J▸Zcg hl
end
noncomputable def Ub (N:List Str)(O:Scope)(Y:List Str)(z:List Nat)(N':List Str)(J:Scope):Bool:=
 (J.kind == .function) && Wh (J.names.map (·.1)) && J.names.all (fun y=>y.2 != .local || Y2 J y.1) && Wh N' && decide (N'=Y++z.map fun j=>N.getD j "") &&
  z.all (fun j=>decide (j<N.length) && (match J.names.lookup (N.getD j "") with|some .free=>true|_=>false)) &&
  J.names.all (fun y=>y.2 != .free || (match O.names.lookup y.1 with|some .cell=>true|some .free=>true|_=>false))
theorem Wy.of {N:List Str}{O:Scope}{own:List Str}{J:List Nat}{N':List Str}{sc:Scope}(h:Ub N O own J N' sc=true):Wy N O own J N' sc:=by
 unfold Ub at h;simp only[aJ,bi,decide_eq_true_eq,beq_iff_eq,bne_iff_ne,ne_eq,Bool.or_eq_true] at h;obtain⟨⟨⟨⟨⟨⟨h1,h2⟩,h3⟩,h4⟩,h5⟩,h6⟩,h7⟩:=h;refine⟨h1,Yk h2,fun y Y e=>?_,Yk h4,h5,fun j hj=>⟨(h6 j hj).1,?_⟩,fun y Y e=>?_⟩
 ·rcases h3 y Y with z|z
  ·exact absurd e z
  ·exact Z7 z
 ·have:=(h6 j hj).2
  split at this
  ·rename_i z;exact z
  ·cases this
 ·rcases h7 y Y with z|z
  ·exact absurd e z
  ·split at z
   ·rename_i q;exact .inl q
   ·rename_i q;exact .inr q
   ·cases z
theorem cmp {X:Cx}(z:List Str)(j:List Nat)(O:List Str){scope:Scope}{elt iter Y:Expr}{ifs:List Expr}{pos:Pos}{wi:TI}{g:TG}{tc:TT}{te:TE}(hc:X.calm=true)(hi:PI X Y iter wi)
  (hg:∀J C s H ex,PG (YN X scope J O C s H ex) Y g) (ht:∀J C s H ex,PIf (YN X scope J O C s H ex) ifs tc) (he:∀J C s H ex,PE (YN X scope J O C s H ex) elt te)
  (hS:Ub X.N X.env.scope z j O scope=true:=by kernel_rfl) (hs:∀x,foldedSetIterable iter X.env x=pure x:=by intro _;rfl) :
  PE X (.ListComp elt [⟨Y,iter,ifs,0⟩] scope pos) (Zc9 z j wi g tc te):=Zcm rfl (.of hS) hc hi hg ht he hs
section
variable {X:Cx}
end
theorem YQ {c:TT}{tb:TS}{D:YC}{σ:St}{H:Hp}(Pv:Nat->St->Hp->Prop)(Ex:St->Hp->Prop)(hend:∀ σ H,Ex σ H->D.nx σ H)(h0:∃m,Pv m σ H)
  (turn:(∀ σ H,Ex σ H->D.nx σ H)->∀m σ H,Pv m σ H->c σ H fun b H1=>if b=true then ∃N:St->Hp->Prop,(∀ j z,N j z->∃J,J<m/\Pv J j z)/\tb {D with nx:=N,ct:=N,bk:=D.nx} σ H1 else D.nx σ H1) :
  ZaL c tb D σ H:=⟨Pv,h0,turn hend⟩
structure JS (J:It)(H:Hp)(xs:List V):Prop where
 go:∀(i:Nat) H',ZC H H'->i<xs.length->J.go i H'
 yld:∀(i:Nat) H' x H2,ZC H H'->i<xs.length->J.yld i H' x H2->H2=H'/\xs[i]?=some x
 stop:∀H',ZC H H'->J.stop xs.length H'
theorem Zb4 {K:ae}{H:Hp}{a:Addr}{xs:List V}(h:Wr K H a xs):JS (Itl K a) H xs:=
 ⟨fun i j s z=>⟨xs,_,s.seq h,Zf z⟩,fun i j x J s _ y=>⟨y.1,y.2 xs (s.seq h)⟩,fun j s=>⟨xs,s.seq h,Zq _⟩⟩
theorem Zb3 {H:Hp}(lo:Int)(n:Nat):JS (Itr lo n) H ((Xv lo n).map V.int):=by
 have hl:((Xv lo n).map V.int).length=n:=by rw[Za,X5]
 refine⟨fun i z s j=>by rw[hl] at j;exact j,fun i z x J s j y=>?_,fun z s=>by show n<=_;rw[hl];exact Zq _⟩;rw[hl] at j;exact⟨y.1,by rw[y.2,Zc,ZaV j];rfl⟩
theorem Vp {J:It}{own:List Str}{h9:List Nat}{g:TG}{tc:TT}{te:TE}{σ:St}{H:Hp}{Q:VK}{xs:List V}(S:JS J H xs)(cs:St)(i4:Vr own h9 σ=none::cs)(f:V->Option V)(hz:xs.length<=1000000)
  (hs:∀(i:Nat) x v0 j,xs[i]?=some x->ZC H j->∀(R:St->V->Hp->Prop) (R':St->Hp->Prop),(∀v H5,f x=some v->ZC j H5->R (some x::cs) v H5)->(∀H4,f x=none->ZC j H4->R' (some x::cs) H4)->
   g x (v0::cs) j fun O H3=>tc O H3 fun b H4=>if b=true then te O H4 (R O) else R' O H4)
  (hd:∀D j,H D=none->ZC H j->j D=some (.lst (xs.filterMap f))->Q (.ref D) j) :
  VA own h9 g tc te σ Q J H:=by
 intro D hD;refine⟨fun i m i0 j=>m=xs.length-i/\i<=xs.length/\(∃v0,i0=v0::cs)/\ZC H j/\j D=some (.lst ((xs.take i).filterMap f)),⟨_,rfl,aC _,⟨none,i4⟩,ZC.upd hD,by rw[Zy,List.take_zero];rfl⟩,?_⟩;rintro i m i0 j ⟨rfl,hi,⟨v0,rfl⟩,s,hl⟩;by_cases Y:i<xs.length
 ·refine .inr ⟨S.go i j s Y,_,fun i6 H2 z=>z,fun x H2 y=>?_⟩
  obtain⟨rfl,hx⟩:=S.yld i j x H2 s Y y;have ht:xs.take (i+1)=xs.take i++[x]:=by rw[gY,hx];rfl
  have i5:((xs.take i).filterMap f).length<=i:=aG (List.length_filterMap_le _ _) (by rw[bP];omega);refine hs i x v0 H2 hx s _ _ (fun v H5 e s5=>?_) (fun H4 e s4=>?_)
  ·refine⟨_,s5 _ _ hl,?_,xs.length-(i+1),by omega,rfl,Y,⟨_,rfl⟩,(s.trans s5).updr hD,?_⟩
   ·have:(16777216:Nat)=sizeLine:=by decide
    omega
   ·rw[Zy,ht,gm,bh,e];rfl
  ·refine⟨xs.length-(i+1),by omega,rfl,Y,⟨_,rfl⟩,s.trans s4,?_⟩
   rw[s4 _ _ hl,ht,gm,bh,e];simp
 ·have e:i=xs.length:=by omega
  subst e;refine .inl ⟨S.stop j s,hd D j hD s ?_⟩;rw[hl,cx]
theorem ZcQ {J:It}{g:TG}{tb:TS}{D:YC}{σ:St}{H0 H:Hp}{xs:List V}(S:JS J H0 xs)(Pv:Nat->St->Hp->Prop)(h0:Pv 0 σ H)(hS:∀i σ H,Pv i σ H->ZC H0 H)
  (hs:∀(i:Nat) x σ H,xs[i]?=some x->Pv i σ H->g x σ H fun z H2=>tb {D with nx:=Pv (i+1),ct:=Pv (i+1),bk:=D.nx} z H2) (hd:∀ σ H,Pv xs.length σ H->D.nx σ H) :
  ∃W:Nat->Nat->St->Hp->Prop,(∃m,W 0 m σ H)/\∀i m σ H,W i m σ H->
   (J.stop i H/\D.nx σ H)\/(J.go i H/\∃N:St->Hp->Prop,(∀ O j,N O j->∃m',m'<m/\W (i+1) m' O j)/\∀x j,J.yld i H x j->g x σ j fun z H2=>tb {D with nx:=N,ct:=N,bk:=D.nx} z H2):=by
 refine⟨fun i m σ H=>m=xs.length-i/\i<=xs.length/\Pv i σ H,⟨_,rfl,aC _,h0⟩,?_⟩;rintro i m σ H ⟨rfl,hi,p⟩;have s:=hS i σ H p;by_cases Y:i<xs.length
 ·refine .inr ⟨S.go i H s Y,Pv (i+1),fun O j p'=>⟨xs.length-(i+1),by omega,rfl,Y,p'⟩,fun x j y=>?_⟩
  obtain⟨rfl,hx⟩:=S.yld i H x j s Y y;exact hs i x σ _ hx p
 ·have e:i=xs.length:=by omega
  subst e;exact .inl ⟨S.stop H s,hd σ H p⟩
theorem tT {A B:Hp->Prop}{σ:St}{H:Hp}(h:A H):XW σ H fun b j=>if b=true then A j else B j:=by
 show if true=true then A H else B H
 rw[if_pos rfl];exact h
theorem UG {α j:Type}(g:α->j):∀xs:List α,xs.filterMap (fun y=>some (g y))=xs.map g
 | []=>rfl
 |x::r=>by rw[bh,bv,UG g r]
theorem Zdv {α j:Type}(p:α->Bool)(g:α->j):∀xs:List α,xs.filterMap (fun y=>if p y=true then some (g y) else none)=(xs.filter p).map g
 | []=>rfl
 |x::r=>by
  rw[bh,List.filter_cons,Zdv p g r];by_cases h:p x=true
  ·rw[if_pos h,if_pos h];rfl
  ·rw[if_neg h,if_neg h]
theorem Zfx {c A B:Prop} [Decidable c](j:c)(h:A):if c then A else B:=by rw[if_pos j];exact h
theorem Yu {c A B:Prop} [Decidable c](j:¬c)(h:B):if c then A else B:=by rw[if_neg j];exact h
theorem ZbE {J:It}{own:List Str}{O:List Nat}{Y:TE}{σ:St}{H:Hp}{Q:VK}{xs:List V}(S:JS J H xs)(z:St)(h9:Vr own O σ=none::z)(f:V->V)(hz:xs.length<=1000000)
  (hs:∀(i:Nat) x j,xs[i]?=some x->ZC H j->∀R:VK,(∀H5,ZC j H5->R (f x) H5)->Y (some x::z) j R)
  (hd:∀D j,H D=none->ZC H j->j D=some (.lst (xs.map f))->Q (.ref D) j):VA own O (Yo 0) XW Y σ Q J H:=by
 refine Vp S z h9 (fun x=>some (f x)) hz (fun i x v0 j hx s R R' h1 h2=>?_) fun D j hD s hl=>hd D j hD s (by rw[hl,UG]);show XW (some x::z) j fun b H4=>if b=true then Y (some x::z) H4 (R (some x::z)) else R' (some x::z) H4
 exact tT (A:=fun H4=>Y (some x::z) H4 (R (some x::z))) (hs i x j hx s _ fun H5 s5=>h1 _ H5 rfl s5)
theorem Xh {J:It}{own:List Str}{z:List Nat}{tc:TT}{te:TE}{σ:St}{H:Hp}{Q:VK}{xs:List V}(S:JS J H xs)(Y:St)(h9:Vr own z σ=none::Y)(p:V->Bool)(f:V->V)(hz:xs.length<=1000000)
  (hs:∀(i:Nat) x j,xs[i]?=some x->ZC H j->∀(R:VK) (R':Hp->Prop),(p x=true->∀H5,ZC j H5->R (f x) H5)->(p x=false->∀O,ZC j O->R' O)->tc (some x::Y) j fun b O=>if b=true then te (some x::Y) O R else R' O)
  (hd:∀D j,H D=none->ZC H j->j D=some (.lst ((xs.filter p).map f))->Q (.ref D) j):VA own z (Yo 0) tc te σ Q J H:=by
 refine Vp S Y h9 (fun x=>if p x=true then some (f x) else none) hz (fun i x v0 j hx s R R' h1 h2=>?_) fun D j hD s hl=>hd D j hD s (by rw[hl,Zdv])
 exact hs i x j hx s (R (some x::Y)) (R' (some x::Y)) (fun e H5 s5=>h1 _ H5 (by rw[if_pos e]) s5) fun e O s4=>h2 O (by rw[if_neg (by rw[e];decide)]) s4
noncomputable def ZN (K:ae)(x:Str)(st:Stmt):Prop:=
 ∃(f:Addr) (O:Value) (Y an:Option Addr) (z:Array (Option Value)) (kV J pm j ct:Value),az K mainGlobals x=some (some (.ref f))/\
  K.lookup f=some ⟨O,Y,.func (a7 x x (Yv st) (Yp st) (ZY st) .none kV J pm an j ct),z⟩/\b8 K j x=true/\aP K (.ref f)=true
theorem ZN.mk {K:ae}{x:Str}{st:Stmt}{f:Addr}{J:Value}{O an:Option Addr}{z:Array (Option Value)}{kV doc pm j ct:Value}(a:az K mainGlobals x=some (some (.ref f)))
  (l:K.lookup f=some ⟨J,O,.func (a7 x x (Yv st) (Yp st) (ZY st) .none kV doc pm an j ct),z⟩) (c:b8 K j x=true) (k:aP K (.ref f)=true):ZN K x st:=
 ⟨f,J,O,an,z,kV,doc,pm,j,ct,a,l,c,k⟩
theorem ZN.fn {P:Program}{w:World}{K:ae}{mg:Str->Option Value}{base h:Heap}{CX:VB}{k:Nat}{x:Str}{z:List Str}{sp:Sp}{st:Stmt}(D:ZN K x st)(X:K.In h)(G:h.Ns mainGlobals mg)
  (O:∀f J,Jf K x x st f J->Yj P w K mg base CX k f J z sp)
  (hb:∀(kV doc pm:Value) (an:Option Addr) (j ct:Value) (us:List Value),us.length=z.length->bindArgs (a7 x x (Yv st) (Yp st) (ZY st) .none kV doc pm an j ct) ⟨us,[]⟩=pure (z.zip us)) :
  Fn P w K mg base CX k x z sp:=by
 obtain⟨f,oc,od,an,Y,kV,doc,pm,j,ct,a,l,c,kp⟩:=D;exact Fn.mk X G a l c kp (fun J F=>O f J F) hb
theorem ZN.law {P:Program}{w:World}{K:ae}{mg:Str->Option Value}{h:Heap}{CX:VB}{k:Nat}{x:Str}{p:Str}{sp:Sp}{st:Stmt}{Y:Addr}(D:ZN K x st)(X:K.In h)(G:h.Ns mainGlobals mg)(J:mg x=some (.ref Y))
  (O:∀(base:Heap) f z,base.Ns mainGlobals mg->K.In base->Jf K x x st f z->Yj P w K mg base CX k f z [p] sp)
  (hb:∀(kV doc pm:Value) (an:Option Addr) (j ct:Value) (s:Shared) (u:Value),eK s (a7 x x (Yv st) (Yp st) (ZY st) .none kV doc pm an j ct) ⟨[u],[]⟩ [(p,u)]) :
  ∃z:FuncData,(∀(s:Shared) (u:Value),eK s z ⟨[u],[]⟩ [(p,u)])/\∀base:Heap,K.In base->base.Ns mainGlobals mg->Yj P w K mg base CX k Y z [p] sp:=by
 obtain⟨f,oc,od,an,h9,kV,doc,pm,j,ct,a,l,c,kp⟩:=D;have e:=J.symm.trans (dE X G a);cases e;exact⟨_,fun s u=>hb kV doc pm an j ct s u,fun base kb nb=>O base _ _ nb kb (V6 l c kp)⟩
theorem Za9:fillsNumberSlot (.type "tuple") "mul"=pure false:=
 PySem.fillsNumberSlot_seq (id:="tuple.__mul__") (r:=some (.builtin "tuple.__rmul__")) bV.lookup (by decide +kernel) fE.lookup (by decide +kernel)
theorem Zf0:seqRepeat? (.type "tuple")=pure (some (.builtin "tuple.__mul__")):=by
 unfold seqRepeat?;rw[gQ (T:="tuple") (name:="__mul__") (id:="tuple.__mul__") bV.lookup (by decide +kernel),gQ (T:="tuple") (name:="__rmul__") (id:="tuple.__rmul__") fE.lookup (by decide +kernel)];rfl
noncomputable abbrev tob (j:Option Addr)(items:Array Value)(n:Nat)(z:Array (Option Value)):Obj:={cls:=.type "tuple",dict:=j,data:=.seq items n,slots:=z}
theorem Zfl (a:Int)(t:Tok)(l:Addr)(items:Array Value)(n:Nat)(z:Option Addr)(J:Array (Option Value)) :
  Meets (aF.«int.__rmul__» ⟨[.int a t,.ref l],[]⟩) (fun _ R s=>s.heap.get? l=some (tob z items n J)/\R (.ok (.ret Value.notImplemented)) s):=.of_wp fun j w A R s h=>by
 obtain⟨O,g,d,tk,os⟩:=s;obtain⟨hl,h⟩:=h
 wp_walk;exact⟨_,rfl,h⟩
theorem Zfu (l:Addr)(items:Array Value)(n:Nat)(z:Option Addr)(J:Array (Option Value))(t:Tok) :
  Meets (aF.«tuple.__mul__» ⟨[.ref l,.int 1 t],[]⟩) (fun _ R s=>s.heap.get? l=some (tob z items n J)/\R (.ok (.ret (.ref l))) s):=.of_wp fun j w A R s h=>by
 obtain⟨O,g,d,tk,os⟩:=s;obtain⟨hl,h⟩:=h;have Y:=em;have f2:=cK
 wp_walk using wpAny_loadPart' hl
 exact⟨_,rfl,h⟩
theorem Zfv (l:Addr)(items:Array Value)(n:Nat)(z:Option Addr)(J:Array (Option Value))(t:Tok)(O:items.isEmpty=false) :
  Meets (aF.«tuple.__mul__» ⟨[.ref l,.int 0 t],[]⟩) (fun _ R s=>s.heap.get? l=some (tob z items n J)/\R (.ok (.ret (.ref s.heap.objs.size))) {s with heap:=s.heap.push {cls:=.type "tuple",data:=.seq #[]}}):=.of_wp fun j w A R s h=>by
 obtain⟨Y,g,d,tk,os⟩:=s;obtain⟨hl,h⟩:=h;have f1:=em;have f2:=cK
 wp_walk using wpAny_loadPart' hl
 exact⟨_,rfl,h⟩
theorem Zft (l:Addr)(items:Array Value)(n:Nat)(z:Option Addr)(J:Array (Option Value))(k:Int)(t:Tok)(O:¬(decide (k < -(2 ^ 63)) || decide (k ≥ 2 ^ 63))=true)(Y:¬(items.isEmpty || k == 1)=true)(h3:¬(decide (k<=0) || items.isEmpty)=true)
  (h4:¬((items.size:Int)*k > (2 ^ 63-1) / 8)) (h5:¬d0 ((items.size:Int)*k)=true) (h6:((ag k.toNat items).foldl (· ++ ·) #[]).size<=sizeLine) :
  Meets (aF.«tuple.__mul__» ⟨[.ref l,.int k t],[]⟩) (fun _ R s=>s.heap.get? l=some (tob z items n J)/\R (.ok (.ret (.ref s.heap.objs.size))) {s with heap:=s.heap.push {cls:=.type "tuple",data:=.seq ((ag k.toNat items).foldl (· ++ ·) #[])}}):=.of_wp fun j w A R s h=>by
 obtain⟨hp,g,d,tk,os⟩:=s;obtain⟨hl,h⟩:=h;have f1:=em;have f2:=cK
 wp_walk using wpAny_loadPart' hl
 rw[if_neg O]
 wp_walk using wpAny_loadPart' hl
 all_goals (try rw[if_neg Y])
 all_goals (try wp_walk using wpAny_loadPart' hl)
 all_goals (try rw[if_neg h3])
 all_goals (try wp_walk using wpAny_loadPart' hl)
 all_goals (try rw[if_neg h4])
 all_goals (try wp_walk using wpAny_loadPart' hl)
 all_goals (try rw[if_neg h5])
 all_goals (try wp_walk using wpAny_loadPart' hl)
 all_goals first|exact⟨_,rfl,h⟩|exact h6
theorem Xg (j:List Value):∀(m:Nat) (acc:List Value),(ag m j.toArray).foldl (· ++ ·) acc.toArray=(acc++(ag m j).flatten).toArray
 |0,acc=>by simp
 |m+1,acc=>by
  rw[aE,List.foldl_cons,aE,bc,<-am];have:acc.toArray++j.toArray=(acc++j).toArray:=by simp
  rw[this];exact Xg j m (acc++j)
section
variable {X:Cx}
theorem ZI.repl {xs:List V}{us:List Value}(r:ZI xs us):∀m:Nat,ZI (ag m xs).flatten (ag m us).flatten
 |0=>.nil
 |m+1=>by rw[aE,aE,bc,bc];exact r.append (ZI.repl r m)
noncomputable def Zfn:R2:=fun x y H Q=>∃(a:Addr) (j:List V) (k:Nat),x=.ref a/\y=.int k/\H a=some (.tup j)/\j≠[]/\j.length*k<=1000000/\k<=1000000/\∀p z,ZC H z->z p=some (.tup (ag k j).flatten)->Q (.ref p) z
theorem Zcr:WV X (binaryOp .Mult) Zfn:=by
 intro i0 s σ H x y v u Q I rx ry h;obtain⟨a,xs,k,rfl,rfl,ha,hx,hz,hk,q⟩:=h;cases rx;obtain⟨t,rfl⟩:=ry;obtain⟨j,Y,p1,_⟩:=I.tuple (Jq.of ha);have hl:=Y.length;have h9:j≠[]:=fun e=>by rw[e] at Y;cases Y;exact hx rfl
 have J:j.toArray.isEmpty=false:=by cases j with|nil=>exact absurd rfl h9|cons _ _=>rfl
 obtain⟨⟨cls,dd,data,sl⟩,z,hc,n,hd⟩:=id p1;simp only at hc hd;subst hc hd;have sz:(16777216:Nat)=sizeLine:=by decide
 have fl:(ag ((k:Nat):Int).toNat j.toArray).foldl (· ++ ·) #[]=((ag k j).flatten).toArray:=by
  have:=Xg j k [];rw[Zj];simpa using this
 have O:((ag k j).flatten).length=k*j.length:=XC j k;refine gq (T:="tuple") (U:="int") (by decide) ⟨_,z,rfl⟩ (fun s'=>fe s' k t) Za9 F.fills_int_mul dG Zf0 F.slot_int_index.lookup
  (bL dG (fe s k t) F.entry_int_rmul (F.args_int_rmul_2 _ _) (Zfl k t a j.toArray n dd sl) ⟨z,rfl,⟨_,z,rfl⟩,?_⟩)
 by_cases k0:k=0
 ·subst k0
  refine bL bV ⟨_,z,rfl⟩ fh (eS _ _) (Zfv a j.toArray n dd sl t J) ⟨z,?_⟩;exact⟨.ref s.heap.objs.size,_,I.laid (t':=s.toks) (o:=.tup []) (fun b ob q=>Zn _ q) (Zq _) ⟨aC _,[],.nil,eV _ _⟩,rfl,q _ _ (ZC.upd (I.hok.fresh (Zq _))) (by rw[Zy];rfl)⟩
 by_cases k1:k=1
 ·subst k1
  refine bL bV ⟨_,z,rfl⟩ fh (eS _ _) (Zfu a j.toArray n dd sl t) ⟨z,?_⟩;exact⟨.ref a,H,I,rfl,q _ _ (ZC.refl H) (by rw[ha];simp)⟩
 ·refine bL bV ⟨_,z,rfl⟩ fh (eS _ _) (Zft a j.toArray n dd sl k t ?_ ?_ ?_ ?_ ?_ ?_) ⟨z,?_⟩
  ·simp only[Bool.or_eq_true,decide_eq_true_eq,not_or];omega
  ·rw[J];simp;omega
  ·rw[J];simp;omega
  ·rw[Zh,<-hl]
   have:((xs.length*k:Nat):Int)<=1000000:=by omega
   rw[fB] at this;omega
  ·unfold d0
   rw[Zh,<-hl];have:((xs.length*k:Nat):Int)<=1000000:=by omega
   rw[fB] at this;simp only[decide_eq_true_eq];omega
  ·rw[fl,Zh,O,<-hl,eX];omega
  ·rw[fl]
   exact⟨.ref s.heap.objs.size,_,I.laid (t':=s.toks) (o:=.tup (ag k xs).flatten) (fun b ob q=>Zn _ q) (Zq _) ⟨by rw[XC,eX];omega,_,ZI.repl Y k,eV _ _⟩,rfl,q _ _ (ZC.upd (I.hok.fresh (Zq _))) Zy⟩
end
end L2
namespace L2
open PySem PySem.Spec PyProof.Rows
open PySem.Builtin PySem.Builtin.Str
section
variable {X:Cx}
theorem J7:∀(l:List (Str×Tok)),ZI ((l.map (·.1)).map V.str) (strValues l)
 | []=>.nil
 |(x,t)::r=>.cons ⟨t,rfl⟩ (J7 r)
theorem Zae:MtR X "str.startswith" (fun x xs H Q=>∃a b,x=.str a/\xs=[.str b]/\Q (.bl (dJ a b)) H):=by
 intro j s Y H x xs v us Q I z J h;obtain⟨a,b,rfl,rfl,q⟩:=h;obtain⟨t,rfl⟩:=z;obtain⟨u,rfl,O,rfl⟩:=vals1 J;exact call_gives fM (bp _ _ _) F.entry_str_startswith (F.args_str_startswith_2 _ _) (gives_str_startswith a b t O) ⟨.bl (dJ a b),H,I,rfl,q⟩
theorem Zba:MtR X "str.split" (fun x xs H Q=>∃a b,x=.str a/\xs=[.str b]/\(b.length == 0)=false/\a.length+2<=sizeLine/\∀p,H p=none->Q (.ref p) (upd H p (.lst ((cg a b).map V.str)))):=by
 intro J s σ H x xs v us Q I rx rv h;obtain⟨a,b,rfl,rfl,hb,hz,q⟩:=h;obtain⟨t,rfl⟩:=rx;obtain⟨u,rfl,Y,rfl⟩:=vals1 rv;have hn:(partsBetween a (occurrences a b 0 a.length (a.length+1)) b.length).length<=sizeLine:=by
  have e1:=StrLaws.occ_length_le a b 0 a.length (a.length+1);rw[length_partsBetween];omega
 have j:∀(l:List (Str×Tok)) (k:Nat),l.map (·.1)=cg a b->EP X J σ Q (.ref s.heap.objs.size) {s with heap:=s.heap.push {cls:=.type "list",data:=.seq (strValues l).toArray},toks:=k}:=fun l k e=>by
  have r:=J7 l;rw[e] at r;have ll:((cg a b).map V.str).length<=sizeLine:=by
   rw[Za];unfold cg;split
   ·show 1<=sizeLine;decide
   ·split
    ·show 1<=sizeLine;decide
    ·exact hn
  exact⟨.ref s.heap.objs.size,_,I.laid (t':=k) (fun b' o' e'=>Zn _ e') (Zq _) (show Z6 X.prog X.w _ _ _ (.lst ((cg a b).map V.str)) from ⟨ll,strValues l,_,r,Zo _ rfl⟩),rfl,q _ (I.hok.fresh (Zq _))⟩
 cases z:(decide (a.length<b.length) || decide (strKind a<strKind b))
 ·cases O:(occurrences a b 0 a.length (a.length+1)).isEmpty
  ·refine bL cQ (bp _ _ _) fi (eU _ _) (meets_str_split_sep a b t Y z hb O (by omega) hn) ?_
   show wants _ _ _ {s with toks:=_,heap:=s.heap.push {cls:=.type "list",data:=.seq (strsFrom s.toks (partsBetween a (occurrences a b 0 a.length (a.length+1)) b.length)).toArray}};rw[strsFrom_eq];exact j (numbered s.toks _) _ ((numbered_texts _ _).trans ((if_neg (ne_true_of_eq_false z)).trans (if_neg (ne_true_of_eq_false O))).symm)
  ·exact bL cQ (bp _ _ _) fi (eU _ _) (meets_str_split_not_found a b t Y z hb O) (j [(a,t)] s.toks ((if_neg (ne_true_of_eq_false z)).trans (if_pos O)).symm)
 ·exact bL cQ (bp _ _ _) fi (eU _ _) (meets_str_split_cannot_occur a b t Y z) (j [(a,t)] s.toks (if_pos z).symm)
theorem ZcE:MtR X "str.partition" (fun x xs H Q=>∃a b,x=.str a/\xs=[.str b]/\(b.length == 0)=false/\a.length<=sizeLine/\∀p,H p=none->Q (.ref p) (upd H p (.tup [.str (aR a b).1,.str (aR a b).2.1,.str (aR a b).2.2]))):=by
 intro j s σ H x xs v us Q I rx rv h;obtain⟨a,b,rfl,rfl,hb,hz,q⟩:=h;obtain⟨t,rfl⟩:=rx;obtain⟨u,rfl,t2,rfl⟩:=vals1 rv;refine bL fQ (bp _ _ _) F.entry_str_partition (F.args_str_partition_2 _ _) (meets_str_partition a b t t2 hb hz) ?_;have z:∀(J O Y:Str) (ta tb tc:Tok) (k:Nat),aR a b=(J,O,Y)->EP X j σ Q (.ref s.heap.objs.size) {s with heap:=s.heap.push {cls:=.type "tuple",data:=.seq [.str J ta,.str O tb,.str Y tc].toArray},toks:=k}:=fun J O Y ta tb tc k e=>by
  rw[e] at q;exact⟨.ref s.heap.objs.size,_,I.laid (t':=k) (fun b' o' e'=>Zn _ e') (Zq _) (show Z6 X.prog X.w _ _ _ (.tup [.str J,.str O,.str Y]) from ⟨by show 3<=sizeLine;decide,[.str J ta,.str O tb,.str Y tc],.cons ⟨ta,rfl⟩ (.cons ⟨tb,rfl⟩ (.cons ⟨tc,rfl⟩ .nil)),eV _ _⟩),rfl,q _ (I.hok.fresh (Zq _))⟩
 cases ho:occurrences a b 0 a.length 1 with
 |nil=>exact z _ _ _ _ _ _ _ (by unfold aR;rw[ho])
 |cons i r=>exact z _ _ _ _ _ _ _ (by unfold aR;rw[ho])
theorem Jc:Z9 X (.type "int") (fun xs H Q=>∃x n,xs=[.str x]/\x.length<=640/\PySem.intText? x=some n/\Q (.int n) H):=by
 intro j s J H xs O Q I r h;obtain⟨x,n,rfl,hl,z,q⟩:=h;obtain⟨u,rfl,t,rfl⟩:=vals1 r;exact PySem.W.KIN.call_text z hl ⟨.int n,H,I.tok _,⟨_,rfl⟩,q⟩
noncomputable def ZaZ:V->Option Int->Option Int->Hp->VK->Prop:=fun x lo j H Q=>∃a,x=.str a/\a.length<=sizeLine/\Q (.str (aZ a lo j)) H
theorem Yi:SlR X ZaZ:=by
 intro J s σ H x v vl vu lo hi sl Q I rx O pl pu h;obtain⟨a,rfl,Y,q⟩:=h;obtain⟨t,rfl⟩:=rx;have z:∀(j k:Nat),EP X J σ Q (.str (aZ a lo hi) j) {s with toks:=k}:=fun j k=>⟨.str _,H,I.tok _,⟨_,rfl⟩,q⟩;cases pl with
 |none=>cases pu with
  |none=>exact⟨"str",_,cR.lookup,bp _ _ _,cr (l:=none) (u:=none) (st:=none) O rfl (dO ⟨aG (eO a _ _) Y,fun j k=>z j k⟩)⟩
  |int=>exact⟨"str",_,cR.lookup,bp _ _ _,cr (l:=none) (u:=some (_,_)) (st:=none) O rfl (dO ⟨aG (eO a _ _) Y,fun j k=>z j k⟩)⟩
 |int=>cases pu with
  |none=>exact⟨"str",_,cR.lookup,bp _ _ _,cr (l:=some (_,_)) (u:=none) (st:=none) O rfl (dO ⟨aG (eO a _ _) Y,fun j k=>z j k⟩)⟩
  |int=>exact⟨"str",_,cR.lookup,bp _ _ _,cr (l:=some (_,_)) (u:=some (_,_)) (st:=none) O rfl (dO ⟨aG (eO a _ _) Y,fun j k=>z j k⟩)⟩
end
noncomputable def Its (x:Str):It:=⟨fun i _=>i<x.cps.toList.length,fun i H v j=>j=H/\∃c,x.cps.toList[i]?=some c/\v=.str ⟨#[c]⟩,fun i _=>x.cps.toList.length<=i⟩
theorem ZaJ {P:Program}{w:World}{K:ae}{tg:Expr}(x:Str)(t:Tok)(O:Addr):Ug P w K tg (Its x) [O] O (fun i h=>h.IsStrIter O "str_ascii_iterator" x t i) where
 mem:=by simp
 obj:=fun i h st b hb=>by
  have e:b=O:=by simpa using hb
  subst e;obtain⟨o,e,c,d⟩:=st;exact⟨o,e,fun v z=>by rw[d] at z;cases z⟩
 keep:=fun i h h' st k=>by
  obtain⟨o,e,c,d⟩:=st;exact⟨o,k O (by simp) o e,c,d⟩
 item:=by
  intro X hP hw hK hc i j s σ H E I hf st J;subst hP hw hK;have J:i<x.cps.toList.length:=J;obtain⟨f0,f1,f2,f3,f4,f5⟩:=hf O (by simp);refine wpAny_pyNext_ascii_item st (c:=x.cps.toList[i]) (by rw[<-fY];exact Zf J) fun h' Y sb=>?_;have I1:Inv X j σ H {s with heap:=h',toks:=s.toks+1}:=I.turned (fun b o hb e=>(sb.2 b hb).trans e) f0 f1 f3 f4 f5;obtain⟨o,e,c,d⟩:=id Y;exact⟨_,rfl,Zbq (s:={s with heap:=h',toks:=s.toks+1}) e c d (by decide) ⟨.str ⟨#[x.cps.toList[i]]⟩,H,I1,⟨_,rfl⟩,⟨rfl,_,Zf J,rfl⟩,Y,fun b hb=>(hf b hb).1⟩⟩
 done:=by
  intro X hP hw hK hc i j s σ H E I hf st J;subst hP hw hK;have J:x.cps.toList.length<=i:=J;obtain⟨f0,f1,f2,f3,f4,f5⟩:=hf O (by simp);exact wpAny_pyNext_ascii_end (I.ok.hd hc) st (by rw[<-fY];exact cw J) fun h' eb=>⟨rfl,I.turned (t':=s.toks) (fun b o hb e=>eb b o hb e) f0 f1 f3 f4 f5⟩
 self:=fun _ _ _ _ _ st h=>wpAny_pyIter_striter_ascii st h
section
variable {X:Cx}{tg:Expr}
noncomputable def Zgd (j:TE):TI:=fun J H R=>j J H fun x O=>∃z,x=.str z/\z.cps.all (· < 128)=true/\R (Its z) O
theorem Za4 {l:Expr}{Y:TE}(hl:PE X l Y):PI X tg l (Zgd Y):=by
 intro j s σ H R I h;refine ZW (hl j s σ H _ I h) fun v J ⟨x,H1,O,r1,q1⟩=>?_;obtain⟨z,rfl,ha,q⟩:=q1;obtain⟨t,rfl⟩:=r1;refine wpAny_pyIter_ascii ha ?_;refine⟨J.heap.objs.size,[J.heap.objs.size],_,_,H1,rfl,O.kept (t':=J.toks) fun b o e=>Zn _ e,ZaJ z t _,⟨_,Zo _ rfl,rfl,rfl⟩,fun b hb=>?_,q⟩;have e:b=J.heap.objs.size:=by simpa using hb
 subst e;exact O.fpOk (Zq _) (O.hok.fresh (Zq _))
end
theorem Uo {H:Hp}(z:Str):JS (Its z) H (z.cps.toList.map fun c=>V.str ⟨#[c]⟩):=by
 refine⟨fun i J s j=>by rw[Za] at j;exact j,fun i J x Y s j y=>?_,fun J s=>by show _<=_;rw[Za];exact Zq _⟩;obtain⟨e,c,O,rfl⟩:=y;exact⟨e,by rw[Zc,O];rfl⟩
inductive Yh {α:Type}:Sem α->Prop
 |fresh (k):Yh (.fresh k)
 |rule (tag k):Yh (k ())->Yh (.rule tag k)
 |at (p k):Yh (k ())->Yh (.at p k)
 |point (l k):Yh (k ())->Yh (.point l k)
theorem Yh.wp {α:Type}{t:Sem α}(h:Yh t){M:Model}{z:PySem.Ctx}{Q:α->Pos->Shared->Prop}{E:Value->Pos->Shared->Prop}:∀{p:Pos}{s:Shared},Sem.wp M z t Q E p s->Sem.wp M z t (fun a J s'=>s.toks+1<=s'.toks/\Q a J s') E p s:=by
 induction h with
 |fresh k=>exact fun {p s} h=>dL M z (k s.toks) (fun _ _ _ x=>x) (fun _ _ _ x=>x.2) p _ (gC M z (s.toks+1) (k s.toks) _ _ p {s with toks:=s.toks+1} (Zq _) h)
 |rule O k _ j=>exact fun h=>j h
 | «at» p k _ j=>exact fun h=>j h
 |point l k _ j=>exact fun h=>j h
noncomputable def PEp (X:Cx)(e:Expr)(t:TE):Prop:=
 ∀(j:List (Addr×Obj)) (s:Shared) (z:St) (H:Hp) (Q:VK),1<=s.toks->Inv X j z H s->t z H Q->wpAny (model X.prog X.w) X.A (eval e X.env) (EP X j z Q) X.xe s
noncomputable def PIt (X:Cx)(J iter:Expr)(O:TI):Prop:=
 ∀(j:List (Addr×Obj)) (s:Shared) (z:St) (H:Hp) (R:It->Hp->Prop),1<=s.toks->Inv X j z H s->O z H R->
  wpAny (model X.prog X.w) X.A (eval iter X.env) (fun v Y=>wpAny (model X.prog X.w) X.A (pyIter v) (PIE X j z J R) X.xe Y) X.xe s
noncomputable def PSp (X:Cx)(st:Stmt)(t:TS):Prop:=
 ∀(j:List (Addr×Obj)) (s:Shared) (z:St) (H:Hp) (D:YC),1<=s.toks->Inv X j z H s->t D z H->wpAny (model X.prog X.w) X.A (exec st X.env) (SP X j D) X.xe s
noncomputable def ZfF (X:Cx)(st:List Stmt)(t:TS):Prop:=
 ∀(j:List (Addr×Obj)) (s:Shared) (z:St) (H:Hp) (D:YC),1<=s.toks->Inv X j z H s->t D z H->wpAny (model X.prog X.w) X.A (execs st X.env) (SP X j D) X.xe s
section
variable {X:Cx}{tg:Expr}
noncomputable def ZeX (j:TE)(y z:Str):TE:=fun J H Q=>j J H fun x O=>∃a,x=.str a/\(y == z)=false/\a.length+(a.length+1)*z.length<=16777216/\Q (.str (Txt.replace a y z)) O
theorem Zcj {o:Expr}{to:TE}{y z:Str}{j1 j2:Nat}{p1 p2 J j:Pos}(ho:PE X o to)
  (O:attributeBase o "replace" X.env (eval o X.env)=eval o X.env:=by rfl)
  (h9:((backTo j (starEach [.Constant (.str y) j1 p1,.Constant (.str z) j2 p2] X.env)).all (fun x=>!x.1) && (backToKw j (keywordEach [] X.env)).all (fun x=>x.1.isSome)
   && decide (([.Constant (.str y) j1 p1,.Constant (.str z) j2 p2]:List Expr).length+([]:List Keyword).length+(if ([]:List Keyword).isEmpty then 0 else 1)<30))=true:=by rfl)
  (Y:(J.endLine == j.line)=true:=by rfl) :
  PEp X (.Call (.Attribute o "replace" J) [.Constant (.str y) j1 p1,.Constant (.str z) j2 p2] [] j) (ZeX to y z):=by
 intro i0 s σ H Q h1 I h;refine dI O h9 Y rfl (a6 (wpAny_toks_of h1 (ho i0 s σ H _ I h)) (fun v s1 ⟨ht,x,H1,I1,r1,q1⟩=>?_) fun _ _ e=>e.2);obtain⟨a,rfl,i4,hb,q⟩:=q1;obtain⟨t,rfl⟩:=r1;refine⟨"str", "str.replace",bx,PySem.F.slot_str_replace,PySem.F.type_str_replace,bp s1 a t,(fun _ e=>nomatch e),?_⟩;refine df rfl (dD ?_);show wpAny _ _ (spliced [(false,eval (.Constant (.str y) j1 p1) X.env),(false,eval (.Constant (.str z) j2 p2) X.env)]) _ _ s1;refine dY (dZ (dY (dZ (gJ ?_))));refine SC.replace (by show s1.toks≠0;omega) (by show s1.toks+1≠0;omega) (by show s1.toks≠s1.toks+1;omega) i4 hb fun t' k=>?_;exact⟨.str _,H1,(I1.tok k),⟨t',rfl⟩,q⟩
theorem Zd0 {o e:Expr}{es:List Expr}{to:TE}{t:TA}{name:Str}{O j:Pos}{T id:String}{r:V->List V->Hp->VK->Prop}
  (pa:PlainAttrs T) (slot:Slot T name id) (i4:typeOf (.builtin id)=pure (.type "method_descriptor")) (hm:MtR X id r) (ho:PEp X o to) (ha:PA X (e::es) t)
  (Y:attributeBase o name X.env (eval o X.env)=eval o X.env:=by rfl)
  (i0:((backTo j (starEach (e::es) X.env)).all (fun x=>!x.1) && (backToKw j (keywordEach [] X.env)).all (fun x=>x.1.isSome)
   && decide ((e::es).length+([]:List Keyword).length+(if ([]:List Keyword).isEmpty then 0 else 1)<30))=true:=by rfl)
  (h9:(O.endLine == j.line)=true:=by rfl) (hs:starEach (e::es) X.env=(false,eval e X.env)::starEach es X.env:=by rfl) (J:(backTo j (starEach es X.env)).any (·.1)=false:=by rfl) :
  PEp X (.Call (.Attribute o name O) (e::es) [] j) (tBM X.K T r to t):=by
 intro z s σ H Q h0 I h;refine dI Y i0 h9 rfl (ZW (ho z s σ H _ h0 I h) fun v s1 ⟨x,H1,I1,r1,ty,q1⟩=>?_);obtain⟨h1,h2⟩:=ZaH I1 r1 ty;refine⟨T,id,pa,slot,i4,h1,h2,?_⟩;have hA:=ha j z s1 σ H1 _ I1 q1;rw[hs] at hA ⊢;refine df (by show (false || (backTo j (starEach es X.env)).any (·.1))=false;rw[J] <;> rfl) (dD ?_)
 exact ZW hA fun us s2 ⟨vs,H2,I2,r2,q2⟩=>hm z s2 σ H2 x vs v us Q I2 r1 r2 q2
theorem Zgc (K:ae){l:Expr}{O:TE}(hl:PEp X l O)(Y:X.K=K:=by rfl):PIt X tg l (Zbl K O):=by
 subst Y;intro j s σ H R h0 I h;refine ZW (hl j s σ H _ h0 I h) fun v z ⟨x,H1,J,r1,q1⟩=>?_;obtain⟨a,e,⟨xs,hq⟩,q⟩:=q1;subst e;cases r1;obtain⟨h9,rv,p,hz⟩:=J.list hq;refine fv p.isList ?_;refine⟨z.heap.objs.size,[z.heap.objs.size],_,_,H1,rfl,J.kept (t':=z.toks) fun b o e=>Zn _ e,J9 a _,⟨_,Zo _ rfl,rfl,rfl⟩,fun b hb=>?_,q⟩;have e:b=z.heap.objs.size:=by simpa using hb
 subst e;exact J.fpOk (Zq _) (J.hok.fresh (Zq _))
theorem Zcc {iter:Expr}{body:List Stmt}{wi:TI}{g:TG}{tb:TS}{pos:Pos}(hp:PassesOwn (model X.prog X.w) X.A X.env X.xe)(hc:X.calm=true)(hi:PIt X tg iter wi)(hg:PG X tg g)(hb:J5 X body tb)
  (hs:∀x,foldedSetIterable iter X.env x=pure x:=by intro _;rfl):PSp X (.For tg iter body [] pos) (ZeY wi g tb):=by
 intro j s σ H D h0 I h;refine wpAny_For (ZW (hi j s σ H _ h0 I h) fun v s1 h1=>ZW h1 fun j6 s2 h2=>?_) hs;obtain⟨it,fp,tn,J,H2,e,I2,T,i7,f2,W,⟨m0,w0⟩,i4⟩:=h2;subst e;have O:∀{H':Hp},(∀b∈fp,H' b=none)->∀b∈fp,JV X j H' b:=fun hn b hb=>⟨hn b hb,(f2 b hb).2⟩;refine codeAny_forLoop_any (fun n s'=>∃i Y H',Inv X j Y H' s'/\tn i s'.heap/\(∀b∈fp,H' b=none)/\W i n Y H') ?_ m0 ⟨0,σ,H2,I2,i7,fun b hb=>(f2 b hb).1,w0⟩;rintro n s3 ⟨i,h9,H3,I3,i5,i6,w3⟩;rcases i4 i n h9 H3 w3 with ⟨stop,qn⟩|⟨go,N,hN,step⟩
 ·refine aQ hp (ZW (T.done X rfl rfl rfl hc i j s3 h9 H3 X.xe I3 (O i6) i5 stop) fun r s4 ⟨hr,I4⟩=>?_)
  subst hr;exact ck ⟨h9,H3,I4,qn⟩
 ·refine aQ hp (ZW (T.item X rfl rfl rfl hc i j s3 h9 H3 X.xe I3 (O i6) i5 go) fun r s4 ⟨u,hr,h4⟩=>?_)
  subst hr;refine aQ hp (ZW h4 fun _ s5 ⟨x,H5,I5,r5,y5,i0,i8⟩=>?_);have i9:=I5.pinned (O i8) (T.obj _ _ i0);refine aQ hp (ZW (hg _ s5 h9 H5 x u _ i9 r5 (step x H5 y5)) fun _ s6 ⟨j4,H6,I6,q6⟩=>?_);refine aQ hp (ZW (hb _ s6 j4 H6 _ I6 q6) fun f s7 q7=>?_);have again:∀{z:St}{H7:Hp},Inv X (j++WZ fp s5.heap) z H7 s7->N z H7->∃m,m<n/\∃i Y H',Inv X j Y H' s7/\tn i s7.heap/\(∀b∈fp,H' b=none)/\W i m Y H':=fun {z H7} I7 n7=>by
   obtain⟨m',hm,w7⟩:=hN z H7 n7;refine⟨m',hm,i+1,z,H7,I7.unpinned,T.keep _ _ _ i0 fun b hb o e=>(I7.pin (b,o) (av _ (av _ (Yt hb e)))).1,fun b hb=>?_,w7⟩;obtain⟨o,e,d⟩:=T.obj _ _ i0 b hb;exact (I7.pin (b,o) (av _ (av _ (Yt hb e)))).2.1
  cases f with
  |next=>obtain⟨z,H7,I7,n7⟩:=q7;exact again I7 n7
  |cont=>obtain⟨z,H7,I7,n7⟩:=q7;exact again I7 n7
  |brk=>obtain⟨z,H7,I7,q7⟩:=q7;exact⟨z,H7,I7.unpinned,q7⟩
  |ret v=>obtain⟨x7,z,H7,I7,r7,q7⟩:=q7;exact⟨x7,z,H7,I7.unpinned,r7,q7⟩
theorem UY {st:Stmt}{rest:List Stmt}{t u:TS}(J:PSp X st t)(O:J5 X rest u):ZfF X (st::rest) (JY t u):=by
 intro j s Y H D h0 I h;refine dB (ZW (J j s Y H {D with nx:=u D} h0 I h) fun f s1 q=>?_);cases f with
 |next=>
  obtain⟨z,H',I',q⟩:=q;exact O j s1 z H' D I' q
 |ret v=>exact q
 |brk=>exact q
 |cont=>exact q
end
end L2
namespace L2
open PySem PySem.Spec PyProof.Rows
noncomputable def Jg {α:Type}(t:Sem α):Prop:=∀(M:Model) (j:PySem.Ctx) (Q:α->Pos->Shared->Prop) (E:Value->Pos->Shared->Prop) (p:Pos) (s:Shared),Sem.wp M j t Q E p s->Sem.wp M j t (fun a J z=>s.toks+1<=z.toks/\Q a J z) E p s
theorem Yh.frS {α:Type}{t:Sem α}(h:Yh t):Jg t:=fun _ _ _ _ _ _ w=>h.wp w
theorem Jg.bind {α O:Type}{t:Sem α}{f:α->Sem O}(h:Jg t):Jg (t >>= f):=by
 intro M j Q E p s w;rw[Sem.wp_bind'] at w ⊢;refine dL M j t (fun a z J x=>?_) (fun _ _ _ x=>x) p s (h M j _ E p s w);exact dL M j (f a) (fun _ _ _ y=>y) (fun _ _ _ y=>y.2) z J (gC M j (s.toks+1) (f a) _ _ z J x.1 x.2)
theorem Jg.after {α O:Type}{t:Sem α}{f:α->Sem O}(h:∀a,Jg (f a)):Jg (t >>= f):=by
 intro M j Q E p s w;rw[Sem.wp_bind'] at w ⊢;refine dL M j t (fun a z J x=>?_) (fun _ _ _ x=>x.2) p s (gC M j s.toks t _ _ p s (Zq _) w);exact dL M j (f a) (fun _ _ _ y=>⟨by omega,y.2⟩) (fun _ _ _ y=>y) z J (h a M j _ _ z J x.2)
theorem Jg.any {α:Type}{t:Sem α}(h:Jg t){M:Model}{A:Around}{Q:α->Shared->Prop}{E:Value->Shared->Prop}{s:Shared}(w:wpAny M A t Q E s):wpAny M A t (fun a s'=>s.toks+1<=s'.toks/\Q a s') E s:=
 fun z p j=>h M z _ _ p s (w z p j)
theorem ZcN {env:Env}{i:Int}{k:Nat}{pos:Pos}:Jg (eval (.Constant (.int i) k pos) env):=Yh.frS (.fresh _)
theorem ZcK {x:Sem Value}{r:List (Bool×Sem Value)}(h:Jg x):Jg (spliced ((false,x)::r)):=by
 rw[spliced];exact h.bind
theorem ZcM {env:Env}{c:Expr}{pos:Pos}(h:Jg (eval c env))(j:starEach [c] env=[(false,eval c env)]):Jg (eval (.List [c] pos) env):=by
 show Jg (standAt pos >>= fun _=>spliced (backTo pos (starEach [c] env)) >>= fun z=>newList z);rw[j];exact Jg.after fun _=>Jg.bind (ZcK h)
theorem ZcO {env:Env}{l r:Expr}{op:eI}{pos:Pos}(h:Jg (eval l env)):Jg (eval (.BinOp l op r pos) env):=by
 show Jg (eval l env >>= _);exact h.bind
theorem ZcP {env:Env}{ts:List Expr}{v:Expr}{pos:Pos}(h:Jg (eval v env))(j:swapsWithSole ts v pos.line env=pure false):Jg (exec (.Assign ts v pos) env):=by
 rw[exec_Assign_arm,j];refine Jg.after fun _=>?_;show Jg (eval v env >>= _);exact h.bind
theorem ZcL {env:Env}{ts:List Expr}{i:Int}{k:Nat}{j z J pos:Pos}{op:eI}{r:Expr}(O:swapsWithSole ts (.BinOp (.List [.Constant (.int i) k j] z) op r J) pos.line env=pure false:=by rfl) :
  Jg (exec (.Assign ts (.BinOp (.List [.Constant (.int i) k j] z) op r J) pos) env):=ZcP (ZcO (ZcM ZcN rfl)) O
theorem UZ {X:Cx}{st:Stmt}{rest:List Stmt}{t u:TS}(hb:Jg (exec st X.env))(J:PS X st t)(O:ZfF X rest u):J5 X (st::rest) (JY t u):=by
 intro j s Y H D I h;refine dB (ZW (hb.any (J j s Y H {D with nx:=u D} I h)) fun f s1 ⟨ht,q⟩=>?_);cases f with
 |next=>
  obtain⟨z,H',I',q⟩:=q;exact O j s1 z H' D (by omega) I' q
 |ret v=>exact q
 |brk=>exact q
 |cont=>exact q
theorem Zbr {X:Cx}:ZfG X (fun x y H Q=>∃(p:Addr) (xs:List V) (i:Nat) (v:V),x=.ref p/\y=.int i/\H p=some (.lst xs)/\xs[i]?=some v/\Q v H):=by
 intro z s σ H x y O iv Q I Y ry h;obtain⟨p,xs,i,v,rfl,rfl,hp,J,q⟩:=h;cases (show O=aw p from Y);obtain⟨t,rfl⟩:=ry;obtain⟨h9,r,pl,hz⟩:=I.list (.of hp);obtain⟨w,ew,j⟩:=r.get J;have hl:=r.length;have hn:=WE;have hi:i<xs.length:=(aK.mp J).1;exact wpAny_getItem_list pl.isList (gZ _) (by omega) (by simpa using ew) ⟨v,H,I,j,q⟩
end L2
namespace Tx
open PySem PySem.Builtin PySem.Builtin.Str
noncomputable def tx (l:List Nat):Str:=⟨l.toArray⟩
theorem ZP (l:List Nat):(tx l).cps.toList=l:=rfl
theorem Zc8 (x:Str):tx x.cps.toList=x:=rfl
theorem ZaI {a b:List Nat}(h:tx a=tx b):a=b:=by
 have:=congrArg (fun x:Str=>x.cps.toList) h;exact this
theorem WL {x y:Str}(h:x.cps.toList=y.cps.toList):x=y:=by rw[<-Zc8 x,<-Zc8 y,h]
theorem ZR (a b:List Nat):tx a++tx b=tx (a++b):=WL (by
 show (a.toArray++b.toArray).toList=_;rw[bT];rfl)
theorem Zz (l:List Nat):(tx l).length=l.length:=rfl
theorem ZdB (l:List Nat)(p:Nat->Bool):(tx l).cps.all p=l.all p:=by
 show l.toArray.all p=_;simp
noncomputable def Z4 (c:Nat):List (List Nat)->List Nat
 | []=>[]
 | [p]=>p
 |p::q::r=>p++c::Z4 c (q::r)
theorem UB (c:Nat):∀j:List (List Nat),eQ ⟨#[c]⟩ (j.map tx)=tx (Z4 c j)
 | []=>rfl
 | [p]=>rfl
 |p::q::r=>by
  show tx p ++ ⟨#[c]⟩ ++ eQ ⟨#[c]⟩ ((q::r).map tx)=_;rw[UB c (q::r)];show tx p++tx [c]++_=_;rw[ZR,ZR];show tx (p++[c]++Z4 c (q::r))=tx (p++c::Z4 c (q::r));rw[am];rfl
theorem UO {c:Nat}:∀{p j a b:List Nat},c∉p->c∉j->p++c::a=j++c::b->p=j/\a=b
 | [],[],a,b,_,_,h=>⟨rfl,(cI h).2⟩
 | [],y::q,a,b,_,J,h=>absurd (by rw[(cI h).1];exact ai) J
 |x::p,[],a,b,O,_,h=>absurd (by rw[<-(cI h).1];exact ai) O
 |x::p,y::q,a,b,O,J,h=>by
  obtain⟨Y,e2⟩:=cI h;obtain⟨e3,e4⟩:=UO (fun z=>O (ah _ z)) (fun z=>J (ah _ z)) e2;exact⟨by rw[Y,e3],e4⟩
theorem W5 {c:Nat}:∀{J O:List (List Nat)},J≠[]->O≠[]->(∀p∈J,c∉p)->(∀p∈O,c∉p)->Z4 c J=Z4 c O->J=O
 | [],_,h,_,_,_,_=>absurd rfl h
 |_::_,[],_,h,_,_,_=>absurd rfl h
 | [p],[q],_,_,_,_,h=>by rw[show p=q from h]
 | [p],q::q'::r,_,_,j,z,h=>absurd (by
   have h:p=q++c::Z4 c (q'::r):=h;rw[h];simp) (j p ai)
 |p::p'::r,[q],_,_,j,z,h=>absurd (by
   have h:p++c::Z4 c (p'::r)=q:=h;rw[<-h];simp) (z q ai)
 |p::p'::r,q::q'::r',_,_,j,z,h=>by
  obtain⟨e1,e2⟩:=UO (j p ai) (z q ai) h;rw[e1,W5 (by simp) (by simp) (fun x Y=>j x (ah _ Y)) (fun x Y=>z x (ah _ Y)) e2]
theorem ZaP (x y:Str):cg x y≠[]:=by
 unfold cg;split
 ·simp
 split
 ·simp
 ·rw[StrLaws.partsBetween_eq]
  obtain⟨p,r,e⟩:=StrLaws.partsFrom_ne x y.length 0 (occurrences x y 0 x.length (x.length+1));rw[e];simp
theorem ZaO {c:Nat}{j:List (List Nat)}(h:j≠[])(hf:∀p∈j,c∉p):cg (tx (Z4 c j)) ⟨#[c]⟩=j.map tx:=by
 have z:=gf (tx (Z4 c j)) ⟨#[c]⟩;have J:=gb (tx (Z4 c j)) c;have O:=ZaP (tx (Z4 c j)) ⟨#[c]⟩;generalize cg (tx (Z4 c j)) ⟨#[c]⟩=Y at z J O;have eq:Y=(Y.map fun x=>x.cps.toList).map tx:=by
  rw[dq];exact (fW _).symm
 rw[eq,UB] at z;rw[eq,W5 (c:=c) (by simpa using O) h (fun p hp=>by
  obtain⟨x,hx,rfl⟩:=dn.mp hp;exact J x hx) hf (ZaI z)]
noncomputable def rep (l:List Nat):List Nat:=l.flatMap fun c=>if c=45 then [43,45] else [c]
theorem YX (a b:List Nat):rep (a++b)=rep a++rep b:=by unfold rep;rw[List.flatMap_append]
theorem Wd:∀{l:List Nat},45∉l->rep l=l
 | [],_=>rfl
 |c::l,h=>by
  have j:c≠45:=fun z=>h (by rw[z];exact ai);show (if c=45 then [43,45] else [c])++rep l=_
  rw[if_neg j,Wd fun z=>h (ah _ z)];rfl
theorem Xb:∀(j:List Str),(∀p∈j,45∉p.cps.toList)->(eQ ⟨#[43,45]⟩ j).cps.toList=rep (eQ ⟨#[45]⟩ j).cps.toList
 | [],_=>rfl
 | [p],h=>(Wd (h p ai)).symm
 |p::q::r,h=>by
  have z:=Xb (q::r) fun x J=>h x (ah _ J);show (p.cps ++ #[43,45]++(eQ ⟨#[43,45]⟩ (q::r)).cps).toList=rep (p.cps ++ #[45]++(eQ ⟨#[45]⟩ (q::r)).cps).toList;rw[bT,bT,bT,bT,z,YX,YX,Wd (h p ai)];rfl
theorem Ur (l:List Nat):Txt.replace (tx l) ⟨#[45]⟩ ⟨#[43,45]⟩=tx (rep l):=by
 rw[StrLaws.replace_one];refine WL ?_;rw[Xb _ (gb (tx l) 45),gf];rfl
theorem Zcp {c:Nat}{a b:List Nat}(h:c∉a):aR (tx (a++c::b)) ⟨#[c]⟩=(tx a,⟨#[c]⟩,tx b):=by
 unfold aR;have j:StrLaws.At (tx (a++c::b)) ⟨#[c]⟩ (tx (a++c::b)).length a.length:=(bI _ _ _).mpr (by
  rw[ZP,aX (Zq _),dz];rfl)
 rcases eG (tx (a++c::b)) ⟨#[c]⟩ 1 (Zq _) with ⟨_,J⟩|⟨i,r,e,O,hm⟩
 ·exact absurd j (J _)
 ·have Y:i=a.length:=by
   rcases hU i a.length with z|z|z
   ·have:=(bI _ _ _).mp O
    rw[ZP,bR z] at this;exact absurd (aM this) h
   ·exact z
   ·exact absurd j (hm _ z)
  rw[e,Y];show (strSub _ 0 a.length,_,strSub _ (a.length+1) (tx (a++c::b)).length)=_;have e1:strSub (tx (a++c::b)) 0 a.length=tx a:=WL (by
   rw[fL,ZP,ZP];show (a++c::b).take a.length=a;rw[cB (Zq _),cx])
  have e2:strSub (tx (a++c::b)) (a.length+1) (tx (a++c::b)).length=tx b:=WL (by
   rw[fL,ZP,ZP,fc,Zz,aY (cV _)];rw[show a.length+1-a.length=1 by omega,Zd,Zi];show List.take _ b=b;rw[fU (by omega)])
  rw[e1,e2]
theorem U5 {c:Nat}{a:List Nat}(h:c∉a):aR (tx a) ⟨#[c]⟩=(tx a,de,de):=by
 unfold aR;rcases eG (tx a) ⟨#[c]⟩ 1 (Zq _) with ⟨e,z⟩|⟨i,r,e,j,hm⟩
 ·rw[e]
 ·exact absurd (aM ((bI _ _ _).mp j)) h
end Tx
namespace Tx
open PySem PySem.Builtin PySem.Builtin.Str PySem.NumText PyProof.Rows PySem.W PySem.W.KIN
noncomputable def ZJ (n:Nat):List Nat:=(Nat.toDigits 10 n).map eu
theorem Z5 (n:Nat):bH (ZJ n):=by
 intro c z;obtain⟨J,j,e⟩:=dn.mp z;have r:=digit_range (Nat.isDigit_of_mem_toDigits (by decide) (by decide) j);rw[<-e];exact r
theorem Y4 (n:Nat):ZJ n≠[]:=by
 intro e;have h:=toDigits_len_ge 10 n;rw[List.map_eq_nil_iff.mp e] at h;exact absurd h (by decide)
theorem YJ (n:Nat):digitsVal (ZJ n)=n:=val_back n
theorem WT {n k:Nat}(j:1<=k)(h:n<10 ^ k):(ZJ n).length<=k:=by
 unfold ZJ;rw[Za];exact digits10_le j h
noncomputable def Wb (k:Int):List Nat:=if k<0 then 45::ZJ k.natAbs else ZJ k.natAbs
theorem str_int (k:Int):(ar (toString k))=tx (Wb k):=by
 refine WL ?_;rw[ZP];unfold Wb;cases k with
 |ofNat m=>
  rw[if_neg (show ¬(Int.ofNat m<0) from fun h=>absurd h (by simp))];exact signs_num m
 |negSucc m=>
  rw[if_pos (Int.negSucc_lt_zero m),signs_ofString];show (("-" ++ Nat.repr (m+1)).toList).map eu=_;rw[String.toList_append,Nat.toList_repr,cD];rfl
noncomputable def wd (k:Int)(p:Nat):List Nat:=if p=0 then Wb k else (if k.natAbs=1 then (if k > 0 then [] else [45]) else Wb k)++122::(if p=1 then [] else ZJ p)
noncomputable def Y8 (j:List Nat):List Int->Nat->List Nat
 | [],_=>j
 |k::r,p=>if k=0 then Y8 j r (p+1) else Y8 (j++(if j≠[]/\k > 0 then [43] else [])++wd k p) r (p+1)
noncomputable def WW (xs:List Int):List Nat:=if Y8 [] xs 0=[] then [48] else Y8 [] xs 0
noncomputable def ZS (c:Nat):List Nat->List (List Nat)
 | []=>[[]]
 |x::r=>if x=c then []::ZS c r else match ZS c r with
  | []=>[[x]]
  |p::j=>(x::p)::j
theorem Ys (c:Nat)(l:List Nat):ZS c l≠[]:=by
 cases l with
 |nil=>simp[ZS]
 |cons x r=>
  unfold ZS;split
  ·simp
  ·split <;> simp
theorem Wc (c:Nat):∀l:List Nat,∀p∈ZS c l,c∉p
 | [],p,j=>by rw[aD.mp j];simp
 |x::r,p,j=>by
  have z:=Wc c r;unfold ZS at j;by_cases J:x=c
  ·rw[if_pos J] at j
   rcases ak.mp j with rfl|j
   ·simp
   ·exact z p j
  ·rw[if_neg J] at j
   cases e:ZS c r with
   |nil=>exact absurd e (Ys c r)
   |cons q O=>
    rw[e] at j z;rcases ak.mp j with rfl|j
    ·intro h
     rcases ak.mp h with h|h
     ·exact J h.symm
     ·exact z q ai h
    ·exact z p (ah _ j)
theorem Wj (c:Nat):∀l:List Nat,Z4 c (ZS c l)=l
 | []=>rfl
 |x::r=>by
  have j:=Wj c r;unfold ZS;by_cases J:x=c
  ·rw[if_pos J]
   cases e:ZS c r with
   |nil=>exact absurd e (Ys c r)
   |cons q z=>
    rw[e] at j;show []++c::Z4 c (q::z)=_;rw[j,J];rfl
  ·rw[if_neg J]
   cases e:ZS c r with
   |nil=>exact absurd e (Ys c r)
   |cons q z=>
    rw[e] at j;cases z with
    |nil=>
     have j:q=r:=j;rw[<-j];rfl
    |cons O z=>
     have j:q++c::Z4 c (O::z)=r:=j;rw[<-j];rfl
theorem UT (c:Nat)(l:List Nat):cg (tx l) ⟨#[c]⟩=(ZS c l).map tx:=by
 have:=ZaO (Ys c l) (Wc c l);rw[Wj] at this;exact this
theorem XZ {c:Nat}{j:List (List Nat)}(h:j≠[])(z:∀p∈j,c∉p):ZS c (Z4 c j)=j:=
 W5 (Ys _ _) h (Wc _ _) z (Wj _ _)
noncomputable def Wn (l:List Nat):Bool:=!l.isEmpty && l.all fun c=>decide (48<=c) && decide (c<=57)
theorem YI {l:List Nat}:Wn l=true↔l≠[]/\bH l:=by
 unfold Wn bH;cases l with
 |nil=>simp
 |cons c r=>simp
theorem W9 (n:Nat):Wn (ZJ n)=true:=YI.mpr ⟨Y4 n,Z5 n⟩
noncomputable def ZO:List Nat->List Nat×Bool×List Nat
 | []=>([],false,[])
 |x::r=>if x=122 then ([],true,r) else (x::(ZO r).1,(ZO r).2)
theorem Wv:∀{l:List Nat},122∉l->ZO l=(l,false,[])
 | [],_=>rfl
 |x::r,h=>by
  unfold ZO;rw[if_neg (fun z=>h (by rw[z];exact ai)),Wv fun z=>h (ah _ z)]
theorem Wu:∀{a b:List Nat},122∉a->ZO (a++122::b)=(a,true,b)
 | [],b,_=>by
  show ZO (122::b)=_;unfold ZO;rw[if_pos rfl]
 |x::a,b,h=>by
  show ZO (x::(a++122::b))=_;unfold ZO;rw[if_neg (fun z=>h (by rw[z];exact ai)),Wu fun z=>h (ah _ z)]
theorem YU:∀l:List Nat,122∉(ZO l).1/\l=if (ZO l).2.1=true then (ZO l).1++122::(ZO l).2.2 else (ZO l).1
 | []=>⟨by simp[ZO],rfl⟩
 |x::r=>by
  obtain⟨O,j⟩:=YU r;unfold ZO;by_cases J:x=122
  ·rw[if_pos J]
   exact⟨by simp,by rw[J];rfl⟩
  ·rw[if_neg J]
   refine⟨fun z=>?_,?_⟩
   ·rcases ak.mp z with z|z
    ·exact J z.symm
    ·exact O z
   ·show x::r=if (ZO r).2.1=true then x::(ZO r).1++122::(ZO r).2.2 else x::(ZO r).1
    by_cases hb:(ZO r).2.1=true
    ·rw[if_pos hb] at j ⊢
     rw[h8,<-j]
    ·rw[if_neg hb] at j ⊢
     rw[<-j]
theorem U6 (l:List Nat):aR (tx l) ⟨#[122]⟩=(tx (ZO l).1,(if (ZO l).2.1=true then ⟨#[122]⟩ else de),tx (if (ZO l).2.1=true then (ZO l).2.2 else [])):=by
 obtain⟨z,j⟩:=YU l;by_cases hb:(ZO l).2.1=true
 ·rw[if_pos hb] at j
  rw[if_pos hb,if_pos hb];have:=Zcp (b:=(ZO l).2.2) z;rw[<-j] at this;exact this
 ·rw[if_neg hb] at j
  rw[if_neg hb,if_neg hb];have:=U5 z;rw[<-j] at this;rw[<-j];exact this
noncomputable def neg (l:List Nat):Bool:=l.head? == some 45
noncomputable def YT (l:List Nat):List Nat:=if neg l=true then (ZO l).1.drop 1 else (ZO l).1
noncomputable def VS (l:List Nat):List Nat:=if (ZO l).2.1=true then (if (ZO l).2.2=[] then [49] else (ZO l).2.2) else [48]
noncomputable def J1 (l:List Nat):List Nat:=if (ZO l).2.1=true/\YT l=[] then [49] else YT l
noncomputable def UV (l:List Nat):Option (Int×Nat):=if Wn (J1 l)=true/\Wn (VS l)=true then some ((if neg l=true then -1 else 1)*(digitsVal (J1 l):Nat),digitsVal (VS l)) else none
theorem Ux {l:List Nat}(h:bH l):122∉l/\45∉l/\43∉l:=⟨fun z=>by have:=h _ z;omega,fun z=>by have:=h _ z;omega,fun z=>by have:=h _ z;omega⟩
theorem ZcB {l:List Nat}(h:bH l)(r:List Nat)(j:l≠[]):neg (l++r)=false:=by
 cases l with
 |nil=>exact absurd rfl j
 |cons c l=>
  have:=h c ai;unfold neg;show (some c == some 45)=false;simp;omega
noncomputable def Vx (k:Int)(p:Nat):List Nat:=if p=0 then ZJ k.natAbs else if k.natAbs=1 then [] else ZJ k.natAbs
noncomputable def JQ (p:Nat):List Nat:=if p=0 then [] else 122::(if p=1 then [] else ZJ p)
theorem XT (k:Int)(p:Nat)(O:k≠0):wd k p=(if k<0 then [45] else [])++Vx k p++JQ p:=by
 unfold wd Vx JQ Wb;by_cases j:p=0
 ·rw[if_pos j,if_pos j,if_pos j,aA]
  split <;> rfl
 ·rw[if_neg j,if_neg j,if_neg j]
  by_cases z:k.natAbs=1
  ·rw[if_pos z,if_pos z]
   by_cases J:k<0
   ·rw[if_neg (by omega),if_pos J];rfl
   ·rw[if_pos (by omega),if_neg J];rfl
  ·rw[if_neg z,if_neg z]
   split <;> rfl
theorem XO (k:Int)(p:Nat):bH (Vx k p):=by
 unfold Vx;split
 ·exact Z5 _
 ·split
  ·intro c j;cases j
  ·exact Z5 _
theorem Um (k:Int){c:Nat}(j:c≠45):c∉(if k<0 then [45] else []:List Nat):=by
 split
 ·intro z;exact j (aD.mp z)
 ·simp
theorem ZdM {k:Int}(hk:k≠0)(p:Nat):UV (wd k p)=some (k,p):=by
 rw[XT k p hk];have hd:=XO k p;obtain⟨z1,z2,z3⟩:=Ux hd;have hz:122∉(if k<0 then [45] else [])++Vx k p:=fun z=>(bd.mp z).elim (Um k (by decide)) z1
 have Y:neg ((if k<0 then [45] else [])++Vx k p++JQ p)=decide (k<0):=by
  by_cases J:k<0
  ·rw[if_pos J,decide_eq_true J];rfl
  ·rw[if_neg J,decide_eq_false J,aU]
   by_cases h0:Vx k p=[]
   ·rw[h0]
    unfold JQ;split
    ·rfl
    ·rfl
   ·exact ZcB hd _ h0
 have O:ZO ((if k<0 then [45] else [])++Vx k p++JQ p)=((if k<0 then [45] else [])++Vx k p,decide (p≠0),if p=0 then [] else if p=1 then [] else ZJ p):=by
  by_cases j:p=0
  ·have:JQ p=[]:=by unfold JQ;rw[if_pos j]
   rw[this,aA,Wv hz,if_pos j];simp[j]
  ·have:JQ p=122::(if p=1 then [] else ZJ p):=by unfold JQ;rw[if_neg j]
   rw[this,Wu hz,if_neg j];simp[j]
 have h9:YT ((if k<0 then [45] else [])++Vx k p++JQ p)=Vx k p:=by
  unfold YT;rw[Y,O];by_cases J:k<0
  ·rw[if_pos (decide_eq_true J),if_pos J];rfl
  ·rw[if_neg (by simp[J]),if_neg J];rfl
 have hP:VS ((if k<0 then [45] else [])++Vx k p++JQ p)=ZJ p:=by
  unfold VS;rw[O];by_cases j:p=0
  ·rw[if_neg (by simp[j]),j];rfl
  ·rw[if_pos (by simp[j])]
   show (if (if p=0 then [] else if p=1 then [] else ZJ p)=[] then [49] else (if p=0 then [] else if p=1 then [] else ZJ p))=ZJ p
   rw[if_neg j];by_cases h1:p=1
   ·rw[if_pos h1,if_pos rfl,h1];rfl
   ·rw[if_neg h1,if_neg (Y4 p)]
 have hF:J1 ((if k<0 then [45] else [])++Vx k p++JQ p)=ZJ k.natAbs:=by
  unfold J1;rw[h9,O];by_cases j:p=0
  ·rw[if_neg (by simp[j])]
   unfold Vx;rw[if_pos j]
  ·unfold Vx
   rw[if_neg j];by_cases h1:k.natAbs=1
   ·rw[if_pos h1,if_pos ⟨by simp[j],rfl⟩,h1];rfl
   ·rw[if_neg h1,if_neg (fun z=>Y4 _ z.2)]
 unfold UV;rw[hF,hP,if_pos ⟨W9 _,W9 _⟩,YJ,YJ,Y];by_cases J:k<0
 ·rw[if_pos (decide_eq_true J)]
  congr 2;omega
 ·rw[if_neg (by simp[J])]
  congr 2;omega
theorem ZaY:UV [48]=some (0,0):=by decide
theorem WG {c:Nat}(w:List Nat):∀{j:List (List Nat)},j≠[]->Z4 c (j++[w])=Z4 c j++c::w
 | [],h=>absurd rfl h
 | [p],_=>rfl
 |p::q::r,_=>by
  show p++c::Z4 c (q::r++[w])=p++c::Z4 c (q::r)++c::w;rw[WG w (by simp),am,h8]
theorem XS (k:Int)(p:Nat):wd k p≠[]:=by
 unfold wd;split
 ·unfold Wb
  split
  ·simp
  ·exact Y4 _
 ·simp
theorem WU (p:Nat){c:Nat}(j:c≠122)(J:¬(48<=c/\c<=57)):c∉JQ p:=by
 unfold JQ;split
 ·simp
 ·intro z
  rcases ak.mp z with z|z
  ·exact j z
  ·split at z
   ·cases z
   ·exact J (Z5 _ _ z)
theorem ZbT {k:Int}(j:k≠0)(p:Nat):43∉wd k p:=by
 rw[XT k p j];intro z;rcases bd.mp z with z|z
 ·rcases bd.mp z with z|z
  ·exact Um k (by decide) z
  ·exact (Ux (XO k p)).2.2 z
 ·exact WU p (by decide) (by decide) z
theorem VQ {k:Int}(j:k≠0)(p:Nat):rep (wd k p)=(if k<0 then [43] else [])++wd k p:=by
 rw[XT k p j,YX,YX,Wd (Ux (XO k p)).2.1,Wd (WU p (by decide) (by decide))];split <;> rfl
noncomputable def nzw:List Int->Nat->List (List Nat)
 | [],_=>[]
 |k::r,p=>if k=0 then nzw r (p+1) else wd k p::nzw r (p+1)
noncomputable def W7 (j:List (List Nat)):List (List Nat):=j.filter fun w=>!w.isEmpty
theorem W6 (j:List (List Nat)){w:List Nat}(h:w≠[]):W7 (j++[w])=W7 j++[w]:=by
 unfold W7;rw[List.filter_append];congr 1;cases w with
 |nil=>exact absurd rfl h
 |cons c r=>rfl
theorem JC:∀(xs:List Int) (p:Nat) (acc:List Nat) (j:List (List Nat)),j≠[]->(∀w∈j,43∉w)->rep acc=Z4 43 j->(acc=[]->j=[[]])->
  ∃O,O≠[]/\(∀w∈O,43∉w)/\rep (Y8 acc xs p)=Z4 43 O/\W7 O=W7 j++nzw xs p
 | [],p,acc,j,h1,h2,h3,_=>⟨j,h1,h2,h3,by show _=_++[];rw[aA]⟩
 |k::r,p,acc,j,h1,h2,h3,h4=>by
  unfold Y8 nzw;by_cases hk:k=0
  ·rw[if_pos hk,if_pos hk]
   exact JC r (p+1) acc j h1 h2 h3 h4
  ·rw[if_neg hk,if_neg hk]
   have hw:=XS k p;have hf:=ZbT hk p;have fr:∀w∈j++[wd k p],43∉w:=fun w h9=>by
    rcases bd.mp h9 with z|z
    ·exact h2 w z
    ·rw[aD.mp z];exact hf
   have Y:∀J,J≠[]->(∀w∈J,43∉w)->W7 J=W7 j++[wd k p]->rep (acc++(if acc≠[]/\k > 0 then [43] else [])++wd k p)=Z4 43 J->
     ∃O,O≠[]/\(∀w∈O,43∉w)/\rep (Y8 (acc++(if acc≠[]/\k > 0 then [43] else [])++wd k p) r (p+1))=Z4 43 O/\W7 O=W7 j++wd k p::nzw r (p+1):=fun J a1 a2 a3 a4=>by
    obtain⟨O,b1,b2,b3,b4⟩:=JC r (p+1) (acc++(if acc≠[]/\k > 0 then [43] else [])++wd k p) J a1 a2 a4 (fun z=>absurd (dv.mp z).2 hw)
    exact⟨O,b1,b2,b3,by rw[b4,a3,am];rfl⟩
   by_cases hn:k<0
   ·refine Y (j++[wd k p]) (by simp) fr (W6 j hw) ?_
    rw[if_neg (fun z=>by omega),aA,YX,VQ hk,if_pos hn,WG _ h1,h3];rfl
   ·by_cases ha:acc=[]
    ·refine Y [wd k p] (by simp) (fun w h9=>by rw[aD.mp h9];exact hf) ?_ ?_
     ·rw[h4 ha]
      have:=W6 [] hw;exact this
     ·rw[if_neg (fun z=>z.1 ha),aA,ha,aU,VQ hk,if_neg hn]
      rfl
    ·refine Y (j++[wd k p]) (by simp) fr (W6 j hw) ?_
     rw[if_pos ⟨ha,by omega⟩,YX,YX,VQ hk,if_neg hn,WG _ h1,h3,am];rfl
theorem VP:∀(xs:List Int) (p:Nat) {acc:List Nat},acc≠[]->Y8 acc xs p≠[]
 | [],_,_,h=>h
 |k::r,p,acc,h=>by
  unfold Y8;split
  ·exact VP r (p+1) h
  ·exact VP r (p+1) (by simp[h])
theorem Xs:∀(xs:List Int) (p:Nat),Y8 [] xs p=[]->xs=ag xs.length 0
 | [],_,_=>rfl
 |k::r,p,h=>by
  unfold Y8 at h;by_cases j:k=0
  ·rw[if_pos j] at h
   rw[Zi,aE,<-Xs r (p+1) h,j]
  ·rw[if_neg j] at h
   exact absurd h (VP r (p+1) (by simp[XS]))
noncomputable def Yd (f:List Int)(p:Nat):Int:=f.getD p 0
noncomputable def YE (f:List Int)(w:List Nat):Option (List Int):=
 if w=[] then some f else match UV w with
  |none=>none
  |some (k,p)=>if p<f.length then some (f.set p (Yd f p+k)) else none
noncomputable def putAll:List Int->List (List Nat)->Option (List Int)
 |f,[]=>some f
 |f,w::j=>match YE f w with
  |none=>none
  |some g=>putAll g j
theorem We:∀(j:List (List Nat)) (f:List Int),putAll f j=putAll f (W7 j)
 | [],f=>rfl
 |w::j,f=>by
  cases w with
  |nil=>
   show putAll f j=putAll f (W7 j);exact We j f
  |cons c r=>
   show (match YE f (c::r) with|none=>none|some g=>putAll g j)=(match YE f (c::r) with|none=>none|some g=>putAll g (W7 j))
   cases YE f (c::r) with
   |none=>rfl
   |some g=>exact We j g
theorem WY:∀(xs a:List Int),putAll (a++ag xs.length 0) (nzw xs a.length)=some (a++xs)
 | [],a=>rfl
 |k::r,a=>by
  have hl:(a++ag (k::r).length 0)=(a++[0])++ag r.length (0:Int):=by
   rw[Zi,aE,am];rfl
  unfold nzw;by_cases j:k=0
  ·rw[if_pos j,hl,j]
   have:=WY r (a++[0]);rw[Zd,Zk] at this;rw[this,am];rfl
  ·rw[if_neg j]
   have z:YE (a++ag (k::r).length 0) (wd k a.length)=some ((a++[k])++ag r.length 0):=by
    unfold YE;rw[if_neg (XS _ _),ZdM j];show (if a.length<_ then _ else none)=_
    rw[if_pos (by rw[Zd,Ze,Zi];omega)];have J:Yd (a++ag (k::r).length 0) a.length=0:=by
     unfold Yd;rw[Zb,aX (Zq _),dz];rfl
    rw[J,List.set_append_right _ _ (Zq _),dz,Zi,aE,List.set_cons_zero,am,Int.zero_add];rfl
   unfold putAll;rw[z];have:=WY r (a++[k]);rw[Zd,Zk] at this;show putAll (a++[k]++ag r.length 0) (nzw r (a.length+1))=_;rw[this,am];rfl
noncomputable def Js (l:List Nat):List (List Nat):=ZS 43 (rep l)
theorem ZdA (xs:List Int):W7 (Js (WW xs))=if Y8 [] xs 0=[] then [[48]] else nzw xs 0:=by
 unfold Js WW;split
 ·rfl
 ·obtain⟨Y,j,z,J,O⟩:=JC xs 0 [] [[]] (by simp) (by simp) rfl (fun _=>rfl)
  rw[J,XZ j z,O];rfl
noncomputable def X7 (wide:Nat)(l:List Nat):Option (List Int):=match putAll (ag wide 0) (Js l) with
 |none=>none
 |some f=>if WW f=l then some f else none
theorem ZdQ {xs:List Int}(h:1<=xs.length):putAll (ag xs.length 0) (Js (WW xs))=some xs:=by
 rw[We,ZdA];split
 ·rename_i e
  have j:=Xs xs 0 e;show (match YE (ag xs.length 0) [48] with|none=>none|some g=>some g)=_
  have:YE (ag xs.length (0:Int)) [48]=some (ag xs.length 0):=by
   unfold YE;rw[if_neg (by simp),ZaY];show (if 0<_ then _ else none)=_
   rw[if_pos (by rw[Ze];omega)];congr 1;cases z:xs.length with
   |zero=>omega
   |succ m=>rfl
  rw[this];exact congrArg some j.symm
 ·exact WY xs []
theorem ZdO {xs:List Int}(h:1<=xs.length):X7 xs.length (WW xs)=some xs:=by
 unfold X7;rw[ZdQ h];show (if WW xs=WW xs then some xs else none)=some xs
 rw[if_pos rfl]
theorem Wp {k:Int}{e:Nat}(j:1<=e)(h:k.natAbs<10 ^ e):(Wb k).length<=e+1:=by
 have:=WT j h;unfold Wb;split
 ·rw[Zi];omega
 ·omega
theorem VD {k:Int}{p e:Nat}(j:1<=e)(h:k.natAbs<10 ^ e)(z:p<100):(wd k p).length<=e+4:=by
 have J:=Wp j h;have O:(ZJ p).length<=2:=WT (by decide) z;unfold wd;split
 ·omega
 ·rw[Zd,Zi]
  split
  ·split
   ·split
    ·simp only[ao];omega
    ·simp only[ao];omega
   ·split
    ·simp only[Zi,ao];omega
    ·simp only[Zi,ao];omega
  ·split
   ·simp only[ao];omega
   ·omega
theorem Xt {e:Nat}(j:1<=e):∀(xs:List Int) (p:Nat) (acc:List Nat),(∀x∈xs,x.natAbs<10 ^ e)->p+xs.length<=100->(Y8 acc xs p).length<=acc.length+xs.length*(e+5)
 | [],p,acc,_,_=>by unfold Y8;omega
 |k::r,p,acc,h,J=>by
  rw[Zi] at J;have O:=VD (p:=p) j (h k ai) (by omega);have Y:(if acc≠[]/\k > 0 then [43] else []:List Nat).length<=1:=by split <;> simp
  unfold Y8;rw[Zi,eW];split
  ·have:=Xt j r (p+1) acc (fun x z=>h x (ah _ z)) (by omega)
   omega
  ·have:=Xt j r (p+1) (acc++(if acc≠[]/\k > 0 then [43] else [])++wd k p) (fun x z=>h x (ah _ z)) (by omega)
   rw[Zd,Zd] at this;omega
noncomputable def Yz (l:List Nat):Prop:=∀c∈l,c<128
theorem Yz.app {a b:List Nat}(j:Yz a)(hb:Yz b):Yz (a++b):=fun c z=>(bd.mp z).elim (j c) (hb c)
theorem XN {l:List Nat}(h:bH l):Yz l:=fun c j=>by have:=h c j;omega
theorem ZeD (k:Int)(p:Nat):Yz (wd k p):=by
 have d:Yz (Wb k):=by
  unfold Wb;split
  ·intro c j
   rcases ak.mp j with rfl|j
   ·decide
   ·exact XN (Z5 _) c j
  ·exact XN (Z5 _)
 unfold wd;split
 ·exact d
 ·refine Yz.app ?_ fun c j=>?_
  ·split
   ·split
    ·intro c j;cases j
    ·intro c j;rw[aD.mp j];decide
   ·exact d
  ·rcases ak.mp j with rfl|j
   ·decide
   ·split at j
    ·cases j
    ·exact XN (Z5 _) c j
theorem XM:∀(xs:List Int) (p:Nat) {acc:List Nat},Yz acc->Yz (Y8 acc xs p)
 | [],_,_,h=>h
 |k::r,p,acc,h=>by
  unfold Y8;split
  ·exact XM r (p+1) h
  ·refine XM r (p+1) (Yz.app (Yz.app h ?_) (ZeD k p))
   split
   ·intro c j;rw[aD.mp j];decide
   ·intro c j;cases j
theorem ZcZ (xs:List Int):Yz (WW xs):=by
 unfold WW;split
 ·intro c j;rw[aD.mp j];decide
 ·exact XM xs 0 fun c j=>by cases j
theorem Zc0 {l:List Nat}(h:Yz l):Yz (rep l):=fun c j=>by
 unfold rep at j;obtain⟨d,hd,j⟩:=List.mem_flatMap.mp j;split at j
 ·rcases ak.mp j with rfl|j
  ·decide
  ·rw[aD.mp j];decide
 ·rw[aD.mp j];exact h d hd
theorem Xm {c:Nat}:∀{l:List Nat},Yz l->∀w∈ZS c l,Yz w
 | [],_,w,j=>by rw[aD.mp j];intro c J;cases J
 |x::r,h,w,j=>by
  have z:=Xm (c:=c) (l:=r) fun d hd=>h d (ah _ hd);unfold ZS at j;split at j
  ·rcases ak.mp j with rfl|j
   ·intro c J;cases J
   ·exact z w j
  ·cases e:ZS c r with
   |nil=>exact absurd e (Ys c r)
   |cons q O=>
    rw[e] at j z;rcases ak.mp j with rfl|j
    ·intro d hd
     rcases ak.mp hd with rfl|hd
     ·exact h _ ai
     ·exact z q ai d hd
    ·exact z w (ah _ j)
theorem ZcY {l:List Nat}(h:Yz l):∀w∈Js l,Yz w:=Xm (Zc0 h)
theorem UQ {l:List Nat}(h:Yz l):(tx l).cps.all (· < 128)=true:=by
 rw[ZdB];exact bi.mpr fun c j=>decide_eq_true (h c j)
end Tx
namespace Tb
section
variable {t:List (List Nat)}{a r:Nat}
end
section
variable {t:List (List Nat)}{o:List Nat}
end
end Tb
namespace HT
open PySem PyProof.Rows
section
variable {prog:Program}{w:World}{A:Around}{E:Value->Shared->Prop}{s:Shared}
end
end HT
namespace L2
open PySem PySem.Spec PyProof.Rows
section
variable {X:Cx}{e:Expr}{te ts:TE}{st:Expr}{pos p2:Pos}
end
end L2
namespace HT
open PySem PyProof.Rows
section
variable {prog:Program}{w:World}{A:Around}{E:Value->Shared->Prop}{s:Shared}
end
end HT
namespace L2
open PySem PySem.Spec PyProof.Rows
section
variable {X:Cx}
end
section
variable {X:Cx}
end
theorem Je:∀ns:List Int,cM (ns.map br)=true
 | []=>rfl
 |n::ns=>by
  show (cF (.int n) && cM (ns.map br))=true;rw[Je ns];rfl
theorem Ue (ns:List Int):cF (.tuple (ns.map br))=true:=Je ns
theorem JN:∀ns:List Int,bG (ns.map br)<=1
 | []=>by decide
 |n::ns=>by
  have:=JN ns;show max (ci (.int n)) (bG (ns.map br))<=1;have e:ci (.int n)<=1:=by simp[ci]
  omega
end L2
namespace L2
open PySem
theorem Zar (ns:List Int):ci (.tuple (ns.map br))<=60:=by
 have:=JN ns;show bG (ns.map br)+1<=60;omega
end L2
namespace PyZ
open PySem
end PyZ
namespace L2
open PySem PySem.Spec PyProof.Rows
section
variable {X:Cx}
end
end L2
namespace PyZ
open PySem PyProof PyProof.Rows
section
variable {prog:Program}{w:World}{A:Around}{E:Value->Shared->Prop}{s:Shared}
end
end PyZ
namespace L2
open PySem PySem.Spec PyProof.Rows
section
variable {X:Cx}{pins:List (Addr×Obj)}{σ:St}{H:Hp}{s:Shared}
end
section
variable {X:Cx}
variable {o e:Expr}{es:List Expr}{to:TE}{t:TA}{name:Str}{apos cpos:Pos}{id:String}{r:V->List V->Hp->VK->Prop}
end
end L2
namespace PyZ
open PySem PySem.Spec PyProof.Rows
section
variable {prog:Program}{w:World}{A:Around}{E:Value->Shared->Prop}{s:Shared}
end
end PyZ
namespace L2
open PySem PySem.Spec PyProof.Rows
section
variable {X:Cx}
end
end L2
namespace PyS
open PySem PySem.SetTable
end PyS
namespace PyS
open PySem
section
variable {prog:Program}{w:World}{A:Around}{E:Value->Shared->Prop}{s:Shared}{I a:Addr}{es:Array (Int×Value)}{ep:Nat}{t:SetTable}{first:Value}{i n:Nat}
end
section
variable {prog:Program}{w:World}{A:Around}{E:Value->Shared->Prop}{s:Shared}{I a:Addr}{es:Array (Int×Value)}{ep:Nat}{t:SetTable}{first:Value}{i n:Nat}
end
end PyS
namespace PyS
open PySem PySem.W PyProof.Rows PySem.Calls PyProof.V PySem.Spec
section
variable {prog:Program}{w:World}{A:Around}{E:Value->Shared->Prop}{s:Shared}{a:Addr}{es:Array (Int×Value)}{ep:Nat}{t:SetTable}
section
variable {T:String}{d:Addr}{n:Nat}{Good:(Nat->Value->Prop)->Prop}{OK:Heap->Prop}
end
section
variable {K:Type} [DecidableEq K]{knd:PySem.KeyKind prog w K}{kvs:List (K×Value)}
end
end
section
variable {prog:Program}{w:World}{A:Around}{E:Value->Shared->Prop}{s:Shared}{a:Addr}
end
section
variable {prog:Program}{w:World}{A:Around}{R:Result->Shared->Prop}{I:Addr}{fp wr:List Addr}{G:Array GenState->Array GenState->Prop}{n:Nat}{P:Nat->Value->Prop}{St:Nat->Shared->Prop}
end
section
variable {prog:Program}{w:World}{A:Around}{E:Value->Shared->Prop}{s:Shared}
end
end PyS
namespace L2
open PySem PySem.Spec PyProof.Rows
section
variable {X:Cx}{pins:List (Addr×Obj)}{σ:L2.St}{H:Hp}{s:Shared}
end
section
variable {X:Cx}{pins:List (Addr×Obj)}{σ:L2.St}{H:Hp}{s:Shared}
end
end L2
namespace PyY
open PySem
open AutoSeq1 (wpAny_loadPart')
section
variable {prog:Program}{w:World}{A:Around}{E:Value->Shared->Prop}{s:Shared}
theorem VY {j a:Addr}{k:Nat}{us:Array Value}{y:Value}{Q:Value->Shared->Prop}(c:s.heap.IsTupleIter j a k)(d:s.heap.IsTuple a us)(e:us[k]?=some y)
  (q:∀g,g.IsTupleIter j a (k+1)->aS j s.heap g->Q y {s with heap:=g}):wpAny (model prog w) A (bz (.ref j)) Q E s:=by
 obtain⟨oj,J,Y,z⟩:=id c;obtain⟨oa,ha,_,na,da⟩:=d;unfold bz;refine Zl (cu (name:=ar "__next__") c.typeIs bQ (dC bQ c.typeIs fN ?_ (fH _)));show wpAny _ _ (field (.ref j) 0 >>= _) _ _ s;refine Zl (bf J z (x:=.ref a) rfl ?_);show wpAny _ _ (if (aw a == bj)=true then _ else _) _ _ s
 rw[if_neg (show ¬((aw a == bj)=true) from ax)];show wpAny _ _ (field (.ref j) 1 >>= _) _ _ s;refine Zl (bf J z (x:=.int k 0) rfl ?_);show wpAny _ _ (seqItems? (.ref a) >>= _) _ _ s;refine Zl (wpAny_seqItems ha da ?_);simp only[Zj,e];refine Zl (eD J z (by simp) (Zm ⟨y,rfl,Zm (q _ ?_ (fy ..))⟩));refine⟨_,bJ _ J (gv (cN z _)),(Obj.cls_mapFields ..).trans Y,?_⟩;rw[cN z];simp[rawInt]
theorem Zac {j a:Addr}{k:Nat}{us:Array Value}{Q:Value->Shared->Prop}(hn:A.handled=none)(c:s.heap.IsTupleIter j a k)(d:s.heap.IsTuple a us)(e:us[k]?=none)
  (q:∀g x,Heap.ExtBut j s.heap g->(∃o,g.get? x=some o/\o.cls=.type "StopIteration")->E (.ref x) {s with heap:=g}):wpAny (model prog w) A (bz (.ref j)) Q E s:=by
 obtain⟨oj,z,cj,J⟩:=id c;obtain⟨oa,ha,_,na,da⟩:=d;unfold bz;refine Zl (cu (name:=ar "__next__") c.typeIs bQ (dC bQ c.typeIs fN ?_ (fH _)));show wpAny _ _ (field (.ref j) 0 >>= _) _ _ s;refine Zl (bf z J (x:=.ref a) rfl ?_);show wpAny _ _ (if (aw a == bj)=true then _ else _) _ _ s
 rw[if_neg (show ¬((aw a == bj)=true) from ax)];show wpAny _ _ (field (.ref j) 1 >>= _) _ _ s;refine Zl (bf z J (x:=.int k 0) rfl ?_);show wpAny _ _ (seqItems? (.ref a) >>= _) _ _ s;refine Zl (wpAny_seqItems ha da ?_);simp only[Zj,e];refine Zl (wpAny_rule (Zl (eD z J (by simp) ?_)));show wpAny _ _ (newExc (.type "StopIteration") [] >>= _) _ _ {s with heap:=_};refine Zl ?_;unfold newExc newTuple;refine Zl (cy (Q:=_) ?_ (by size_fits));refine Zl (m:=firstArgMember _ _) (wpAny_of_eq (a:=bj) (by first|rfl|(unfold firstArgMember;rfl)) ?_)
 refine cy (Q:=_) ?_ (by size_fits);unfold raiseNew;refine Zl (wpAny_handled ?_);have O:A.in1.handled=none:=hn;rw[O];refine Zl (Zm (wpAny_throw (E:=E) ?_));exact q _ _ (((fy ..).extBut.push _).push _) ⟨_,Zo _ rfl,rfl⟩
theorem V9 {n j a:Addr}{k:Nat}{us:Array Value}{y z:Value}{Q:Option Value->Shared->Prop}(b:db s.heap n j k z)(c:s.heap.IsTupleIter j a k)(d:s.heap.IsTuple a us)(e:us[k]?=some y)(nj:n≠j)
  (q:∀g,IsEnumOut g n j ((k:Int)+1) y s.heap.objs.size->g.IsTupleIter j a (k+1)->g.get? s.heap.objs.size=some {cls:=.type "tuple",data:=.seq #[.int k s.toks,y]}->g.objs.size=s.heap.objs.size+1->
   (∀x o,x≠n->x≠j->s.heap.get? x=some o->g.get? x=some o)->Q (some (.ref s.heap.objs.size)) {s with heap:=g,toks:=s.toks+1}):wpAny (model prog w) A (pyNext (.ref n)) Q E s:=by
 have tn:s.TypeIs (.ref n) "enumerate":=⟨_,b,rfl⟩;unfold pyNext;refine Zl (wpAny_attempt (cu (name:=ar "__next__") tn cz (dC cz tn gF ?_ (gw _))));obtain⟨J,O,Y,tk,os⟩:=s;show wpAny _ _ (field (.ref n) 2 >>= _) _ _ _;refine Zl (bf b rfl (x:=.ref j) rfl ?_);refine Zl (VY c d e fun g1 c1 s1=>?_);replace s1:aS j J g1:=s1;have b1:db g1 n j k z:=(s1.2 n nj).trans b;show wpAny _ _ (field (.ref n) 3 >>= _) _ _ ⟨g1,O,Y,tk,os⟩;refine Zl (bf b1 rfl (x:=rawInt k) rfl ?_);show wpAny _ _ (field (.ref n) 4 >>= _) _ _ ⟨g1,O,Y,tk,os⟩;refine Zl (bf b1 rfl (x:=.none) rfl ?_);show wpAny _ _ (mkInt k >>= _) _ _ ⟨g1,O,Y,tk,os⟩;refine Zl (wpAny_mkInt ?_);show wpAny _ _ (setField (.ref n) 3 (rawInt ((k:Int)+1)) >>= _) _ _ ⟨g1,O,Y,tk+1,os⟩;refine Zl (cm b1 (by simp) fun g2 b2 s2=>?_);replace s2:aS n g1 g2:=s2;replace b2:db g2 n j ((k:Int)+1) z:=b2;show wpAny _ _ (setField (.ref n) 4 .none >>= _) _ _ ⟨g2,O,Y,tk+1,os⟩;refine Zl (cm b2 (by simp) fun g3 b3 s3=>?_);replace s3:aS n g2 g3:=s3;replace b3:db g3 n j ((k:Int)+1) z:=b3;show wpAny _ _ (newTuple [.int k tk,y] >>= _) _ _ ⟨g3,O,Y,tk+1,os⟩;refine Zl (wpAny_newTuple ?_);have b4:db (g3.push {cls:=.type "tuple",data:=.seq #[.int k tk,y]}) n j ((k:Int)+1) z:=Zn _ b3;generalize z4:g3.push {cls:=.type "tuple",data:=.seq #[.int k tk,y]}=g4 at b4;have sz:g3.objs.size=J.objs.size:=by rw[s3.1,s2.1,s1.1]
 have nl:n<J.objs.size:=Zp b;have t4:g4.get? J.objs.size=some {cls:=.type "tuple",data:=.seq #[.int k tk,y]}:=by
  rw[<-z4,<-sz];exact Zo _ rfl
 have w4:g4.objs.size=J.objs.size+1:=by
  rw[<-z4,bn,sz]
 have k4:∀x o,x≠n->x≠j->J.get? x=some o->g4.get? x=some o:=fun x o xn xj hx=>by
  rw[<-z4];exact Zn _ (s3.extBut x o xn (s2.extBut x o xn (s1.extBut x o xj hx)))
 have c4:g4.IsTupleIter j a (k+1):=by
  obtain⟨o,ho,r⟩:=(c1.extBut s2.extBut (a8 nj)).extBut s3.extBut (a8 nj);rw[<-z4];exact⟨o,Zn _ ho,r⟩
 show wpAny _ _ (cP (.ref n) >>= _) _ _ ⟨g4,O,Y,tk+1,os⟩;rw[sz];clear z4 b3 s3 b2 s2 b1 s1 c1 sz g3 g2 g1;refine Zl ?_;unfold cP;refine Zl (bf b4 rfl (x:=.none) rfl (Zm ?_));rw[if_pos rfl];refine Zl (wpAny_rule (Zl (bf b4 rfl (x:=z) rfl ?_)));refine Zl (cm b4 (by simp) fun g5 b5 s5=>?_);replace s5:aS n g4 g5:=s5;replace b5:db g5 n j ((k:Int)+1) y:=b5;show wpAny _ _ (cJ (.ref n) (.ref J.objs.size) >>= _) _ _ ⟨g5,O,Y,tk+1,os⟩;refine Zl ?_;unfold cJ;refine Zl (cm b5 (by simp) fun g6 b6 s6=>?_);replace s6:aS n g5 g6:=s6;replace b6:IsEnumOut g6 n j ((k:Int)+1) y J.objs.size:=b6;refine cm b6 (by simp) fun g7 b7 s7=>?_;replace s7:aS n g6 g7:=s7;replace b7:IsEnumOut g7 n j ((k:Int)+1) y J.objs.size:=b7;refine Zl (wpAny_letGo (Zm ⟨_,rfl,Zm (q g7 b7 ?_ ?_ ?_ ?_)⟩))
 ·exact ((c4.extBut s5.extBut (a8 nj)).extBut s6.extBut (a8 nj)).extBut s7.extBut (a8 nj)
 ·exact s7.extBut _ _ (ba nl) (s6.extBut _ _ (ba nl) (s5.extBut _ _ (ba nl) t4))
 ·rw[s7.1,s6.1,s5.1,w4]
 ·exact fun x o xn xj hx=>s7.extBut x o xn (s6.extBut x o xn (s5.extBut x o xn (k4 x o xn xj hx)))
theorem Zap {n j a:Addr}{k:Nat}{us:Array Value}{old:Value}{Q:Option Value->Shared->Prop}(O:A.handled=none)(b:db s.heap n j k old)(c:s.heap.IsTupleIter j a k)(d:s.heap.IsTuple a us)(e:us[k]?=none)
  (q:∀g,Heap.ExtBut j s.heap g->Q none {s with heap:=g}):wpAny (model prog w) A (pyNext (.ref n)) Q E s:=by
 have z:s.TypeIs (.ref n) "enumerate":=⟨_,b,rfl⟩;unfold pyNext;refine Zl (wpAny_attempt (cu (name:=ar "__next__") z cz (dC cz z gF ?_ (gw _))));show wpAny _ _ (field (.ref n) 2 >>= _) _ _ _;refine Zl (bf b rfl (x:=.ref j) rfl ?_);refine Zl (Zac O c d e fun g x Y xs=>?_);obtain⟨o,ho,hc⟩:=xs;refine Zl (wpAny_isInstance (T:="StopIteration") (b:=true) ⟨o,ho,hc⟩ isSubtype_stop ?_);exact Zm (q _ Y)
theorem Zao (a:Addr)(z:Array Value)(n:Nat)(O:Option Addr)(Y:Array (Option Value)) :
  Meets (aF.«enumerate.__new__» ⟨[.type "enumerate",.ref a],[]⟩) (fun _ R s=>s.heap.get? a=some {cls:=.type "tuple",dict:=O,data:=.seq z n,slots:=Y}/\
   R (.ok (.ret (.ref (s.heap.push {cls:=.type "tuple_iterator",data:=.fields #[.ref a,.int 0 0]}).objs.size)))
    {s with heap:=(s.heap.push {cls:=.type "tuple_iterator",data:=.fields #[.ref a,.int 0 0]}).push {cls:=.type "enumerate",data:=.fields #[.none,.bool false,.ref s.heap.objs.size,rawInt 0,.none,.none]}}):=
 .of_wp fun prog w A R s h=>by
  obtain⟨hh,gg,dr,tk,os⟩:=s;obtain⟨j,h⟩:=h;have sub:=sub_enumerate;have J:Heap.IsTuple (Shared.heap ⟨hh,gg,dr,tk,os⟩) a z:=⟨_,j,rfl,n,rfl⟩
  wp_walk using wpAny_loadPart' j
  refine wpAny_stack_any fun st=>Zm ?_;split
  ·rename_i c1 _ _ _ _ _
   cases (c1 == gB "enumerate") <;> (wp_walk using wpAny_loadPart' j,wpAny_pyIter_tuple J) <;> exact⟨_,rfl,h⟩
  ·wp_walk using wpAny_loadPart' j,wpAny_pyIter_tuple J
   exact⟨_,rfl,h⟩
theorem Uf {a:Addr}{us:Array Value}{Q:Value->Shared->Prop}(hT:s.heap.IsTuple a us)
  (h:∀g,db g (s.heap.objs.size+1) s.heap.objs.size 0 .none->g.IsTupleIter s.heap.objs.size a 0->g.objs.size=s.heap.objs.size+2->(∀b o,s.heap.get? b=some o->g.get? b=some o)->Q (.ref (s.heap.objs.size+1)) {s with heap:=g}) :
  wpAny (model prog w) A (call (.type "enumerate") [.ref a]) Q E s:=by
 obtain⟨⟨cc,dd,dt,sl⟩,ha,hc,n,hd⟩:=hT;have j:cc=.type "tuple":=hc;have J:dt=.seq us n:=hd;subst j J;refine callType_new F.called_enumerate (by decide) (F.typeCall_enumerate_1 _) (F.newCall_enumerate_1 _) (fun O=>F.args_object_init_2 O _) F.entry_enumerate_new (Zao a us n dd sl) ⟨ha,?_⟩;have Y:(s.heap.push {cls:=.type "tuple_iterator",data:=.fields #[.ref a,.int 0 0]}).objs.size=s.heap.objs.size+1:=bn ..;show _/\_;rw[Y];have he:db ((s.heap.push {cls:=.type "tuple_iterator",data:=.fields #[.ref a,.int 0 0]}).push {cls:=.type "enumerate",data:=.fields #[.none,.bool false,.ref s.heap.objs.size,rawInt 0,.none,.none]}) (s.heap.objs.size+1) s.heap.objs.size 0 .none:=by
  have z:=Zo (s.heap.push {cls:=.type "tuple_iterator",data:=.fields #[.ref a,.int 0 0]}) (o:={cls:=.type "enumerate",data:=.fields #[.none,.bool false,.ref s.heap.objs.size,rawInt 0,.none,.none]}) rfl;rw[Y] at z;exact z
 exact⟨⟨_,he,rfl⟩,h _ he ⟨_,Zn _ (Zo _ rfl),rfl,rfl⟩ (by rw[bn,Y]) fun b o y=>Zn _ (Zn _ y)⟩
end
end PyY
namespace L2
open PySem PySem.Spec PyProof.Rows
section
variable {X:Cx}{pins:List (Addr×Obj)}{σ:St}{H:Hp}{s:Shared}{h':Heap}
theorem Inv.turnLay {t':Nat}{ts:List Addr}{T:Addr}{o:HO}(I:Inv X pins σ H s)(k:∀b u,b∉ts->s.heap.get? b=some u->h'.get? b=some u)(ht:∀b∈ts,∃u,h'.get? b=some u)(hf:∀b∈ts,JV X pins H b)(hT:s.heap.objs.size<=T)
  (Y:Z6 X.prog X.w (upd H T o) h' T o):Inv X pins σ (upd H T o) {s with heap:=h',toks:=t'}:=by
 have j:H T=none:=I.hok.fresh hT;have J:∀b u,H b=some u->b∉ts:=fun b u e z=>by
  have:=(hf b z).1;rw[e] at this;cases this
 refine I.call (ch:=ts) (g':=s.gens) (d':=s.drawn) ⟨fun b u e _ _ O=>k b u O e,fun b u e _ _ O=>⟨u.slots,k b u O e⟩,fun b u e n _=>?_,fun b u e O=>⟨u,k b u O e⟩,fun b ys q=>?_,fun b u v q=>?_,fun b ps q=>⟨#[],?_⟩⟩
  (fun b u e=>?_) I.bare fun b hb=>?_
 ·rw[ZE (ay (aj (Zp e) hT))]
  exact n
 ·rw[ZE (ZH q j)]
  exact q
 ·rw[ZE (ZH q j)]
  exact q
 ·rw[ZE (ZH q j),q]
  simp
 ·by_cases hb:b=T
  ·subst hb
   rw[Zy] at e;cases e;exact Y
  ·rw[ZE hb] at e
   refine (I.hok b u e).stay (fun c v hc q=>k c v ?_ q) (fun c r=>by rw[ZE (ZH r j)];exact r) fun c ys r=>by rw[ZE (ZH r j)];exact r
   rcases hc with z|z
   ·rw[z]
    exact J b u e
   ·exact J c _ z
 ·obtain⟨f0,f1,f2,f3,f4,f5⟩:=hf b hb
  exact⟨f3,f1,f4,f5⟩
theorem Inv.turnedL {t':Nat}{ts:List Addr}(I:Inv X pins σ H s)(k:∀b u,b∉ts->s.heap.get? b=some u->h'.get? b=some u)(O:∀b∈ts,JV X pins H b):Inv X pins σ H {s with heap:=h',toks:=t'}:=by
 have j:∀b u,H b=some u->b∉ts:=fun b u e z=>by
  have:=(O b z).1;rw[e] at this;cases this
 refine I.call (ch:=ts) (g':=s.gens) (d':=s.drawn) ⟨fun b u e _ _ J=>k b u J e,fun b u e _ _ J=>⟨u.slots,k b u J e⟩,fun b u e n _=>n,fun b u e J=>⟨u,k b u J e⟩,fun b Y q=>q,fun b u v q=>q,fun b ps q=>⟨#[],by rw[q];simp⟩⟩
  (fun b u e=>?_) I.bare fun b hb=>?_
 ·refine (I.hok b u e).stay (fun c v hc q=>k c v ?_ q) (fun c r=>r) fun c Y r=>r
  rcases hc with z|z
  ·rw[z]
   exact j b u e
  ·exact j c _ z
 ·obtain⟨f0,f1,f2,f3,f4,f5⟩:=O b hb
  exact⟨f3,f1,f4,f5⟩
end
noncomputable def ZfK (K:ae)(a:Addr):It:=
 ⟨fun i H=>∃j x,Wr K H a j/\j[i]?=some x,fun i H x z=>∃T y,x=.ref T/\H T=none/\z=upd H T (.tup [.int i,y])/\∀j,Wr K H a j->j[i]?=some y,fun i H=>∃j,Wr K H a j/\j.length<=i⟩
noncomputable def ZfJ (K:ae)(a:Addr):It:=
 ⟨fun i H=>∃j x,Jq K H a j/\j[i]?=some x,fun i H x z=>∃T y,x=.ref T/\H T=none/\z=upd H T (.tup [.int i,y])/\∀j,Jq K H a j->j[i]?=some y,fun i H=>∃j,Jq K H a j/\j.length<=i⟩
theorem VH {P:Program}{w:World}{K:ae}{elts:List Expr}{x1}{pos:Pos}(a e it:Addr)(ne:e≠it) :
  Ug P w K (.Tuple elts x1 pos) (ZfK K a) [e,it] e (fun i h=>(∃j,db h e it i j)/\h.IsListIter it a i) where
 mem:=by simp
 obj:=fun i h st b hb=>by
  obtain⟨⟨j,J⟩,⟨o,e1,c,d⟩⟩:=st;rcases ak.mp hb with rfl|hb
  ·exact⟨_,J,fun v z=>by
    have z':gx _=hJ v:=z;cases z'⟩
  ·have q:b=it:=by simpa using hb
   subst q;exact⟨o,e1,fun v z=>by rw[d] at z;cases z⟩
 keep:=fun i h h' st k=>by
  obtain⟨⟨j,J⟩,O⟩:=st;exact⟨⟨j,k e (by simp) _ J⟩,O.at fun o q=>k it (by simp) o q⟩
 item:=by
  intro X hP hw hK hc i h9 s σ H E I hf st hg;subst hP hw hK;obtain⟨⟨j,J⟩,O⟩:=st;obtain⟨xs,x,hq,hx⟩:=hg;obtain⟨i5,rv,p,hz⟩:=I.list hq;obtain⟨u,hu,ru⟩:=rv.get hx;refine wpAny_pyNext_enum_item J O p.isList (x:=u) (by simpa using hu) ne fun h1 ho i6 hT j4 hk=>?_;refine⟨_,rfl,fZ ho fun h2 i7 i8=>?_⟩;have le:e<s.heap.objs.size:=Zp J;have Y:aS e h1 h2:=i8;have i9:h2.get? s.heap.objs.size=some {cls:=.type "tuple",data:=.seq #[.int i s.toks,u]}:=(Y.2 _ (ba le)).trans hT;have i0:h2.IsListIter it a (i+1):=i6.at fun o q=>(Y.2 it (a8 ne)).trans q;have i4:db h2 e it ((i+1:Nat):Int) u:=by
   have:=i7;simpa using this
  have nT:H s.heap.objs.size=none:=I.hok.fresh (Zq _);have I2:=I.turnLay (t':=s.toks+1) (h':=h2) (ts:=[e,it]) (T:=s.heap.objs.size) (o:=.tup [.int i,x]) (fun b v hb q=>?_) (fun b hb=>?_) hf (Zq _) ⟨by show 2<=sizeLine;decide,[.int i s.toks,u],.cons ⟨_,rfl⟩ (.cons ru .nil),_,i9,rfl,0,rfl⟩
  ·refine⟨.ref s.heap.objs.size,_,I2,rfl,⟨_,x,rfl,nT,rfl,fun ys hy=>by rw[I.list_inj hy hq];exact hx⟩,⟨⟨u,i4⟩,i0⟩,fun b hb=>?_⟩
   have fb:=(hf b hb).1;have lb:b<s.heap.objs.size:=by
    rcases ak.mp hb with rfl|hb
    ·exact le
    ·have q:b=it:=by simpa using hb
     subst q;obtain⟨o,e1,_⟩:=O;exact Zp e1
   rw[ZE (ay lb)];exact fb
  ·have q1:b≠e:=fun z=>hb (by simp[z])
   have q2:b≠it:=fun z=>hb (by simp[z]);exact (Y.2 b q1).trans (hk b v q1 q2 q)
  ·rcases ak.mp hb with rfl|hb
   ·exact⟨_,i4⟩
   ·have q:b=it:=by simpa using hb
    subst q;obtain⟨o,e1,_⟩:=i0;exact⟨o,e1⟩
 done:=by
  intro X hP hw hK hc i h9 s σ H E I hf st hg;subst hP hw hK;obtain⟨⟨j,J⟩,O⟩:=st;obtain⟨xs,hq,hx⟩:=hg;obtain⟨i5,rv,p,hz⟩:=I.list hq;have hl:=rv.length;exact wpAny_pyNext_enum_end (I.ok.hd hc) J O p.isList (by simp;omega) fun h1 eb=>⟨rfl,I.turnedL (t':=s.toks) (ts:=[e,it]) (fun b o hb q=>eb b o (fun z=>hb (by simp[z])) q) hf⟩
 self:=fun _ _ _ _ _ st h=>by
  obtain⟨⟨j,J⟩,O⟩:=st;exact di J h
theorem VG {P:Program}{w:World}{K:ae}{elts:List Expr}{x1}{pos:Pos}(a e it:Addr)(ne:e≠it) :
  Ug P w K (.Tuple elts x1 pos) (ZfJ K a) [e,it] e (fun i h=>(∃j,db h e it i j)/\h.IsTupleIter it a i) where
 mem:=by simp
 obj:=fun i h st b hb=>by
  obtain⟨⟨j,J⟩,⟨o,e1,c,d⟩⟩:=st;rcases ak.mp hb with rfl|hb
  ·exact⟨_,J,fun v z=>by
    have z':gx _=hJ v:=z;cases z'⟩
  ·have q:b=it:=by simpa using hb
   subst q;exact⟨o,e1,fun v z=>by rw[d] at z;cases z⟩
 keep:=fun i h h' st k=>by
  obtain⟨⟨j,J⟩,O⟩:=st;exact⟨⟨j,k e (by simp) _ J⟩,O.at fun o q=>k it (by simp) o q⟩
 item:=by
  intro X hP hw hK hc i i0 s σ H E I hf st hg;subst hP hw hK;obtain⟨⟨j,J⟩,O⟩:=st;obtain⟨xs,x,hq,hx⟩:=hg;obtain⟨Y,rv,p,hz⟩:=I.tuple hq;obtain⟨u,hu,ru⟩:=rv.get hx;refine PyY.V9 J O (show s.heap.IsTuple a Y.toArray from p) (y:=u) (by simpa using hu) ne fun h1 ho i6 hT j4 hk=>?_;refine⟨_,rfl,fZ ho fun h2 i7 i8=>?_⟩;have le:e<s.heap.objs.size:=Zp J;have h9:aS e h1 h2:=i8;have i9:h2.get? s.heap.objs.size=some {cls:=.type "tuple",data:=.seq #[.int i s.toks,u]}:=(h9.2 _ (ba le)).trans hT;have i4:h2.IsTupleIter it a (i+1):=i6.at fun o q=>(h9.2 it (a8 ne)).trans q;have i5:db h2 e it ((i+1:Nat):Int) u:=by
   have:=i7;simpa using this
  have nT:H s.heap.objs.size=none:=I.hok.fresh (Zq _);have I2:=I.turnLay (t':=s.toks+1) (h':=h2) (ts:=[e,it]) (T:=s.heap.objs.size) (o:=.tup [.int i,x]) (fun b v hb q=>?_) (fun b hb=>?_) hf (Zq _) ⟨by show 2<=sizeLine;decide,[.int i s.toks,u],.cons ⟨_,rfl⟩ (.cons ru .nil),_,i9,rfl,0,rfl⟩
  ·refine⟨.ref s.heap.objs.size,_,I2,rfl,⟨_,x,rfl,nT,rfl,fun ys hy=>by rw[I.tuple_inj hy hq];exact hx⟩,⟨⟨u,i5⟩,i4⟩,fun b hb=>?_⟩
   have fb:=(hf b hb).1;have lb:b<s.heap.objs.size:=by
    rcases ak.mp hb with rfl|hb
    ·exact le
    ·have q:b=it:=by simpa using hb
     subst q;obtain⟨o,e1,_⟩:=O;exact Zp e1
   rw[ZE (ay lb)];exact fb
  ·have q1:b≠e:=fun z=>hb (by simp[z])
   have q2:b≠it:=fun z=>hb (by simp[z]);exact (h9.2 b q1).trans (hk b v q1 q2 q)
  ·rcases ak.mp hb with rfl|hb
   ·exact⟨_,i5⟩
   ·have q:b=it:=by simpa using hb
    subst q;obtain⟨o,e1,_⟩:=i4;exact⟨o,e1⟩
 done:=by
  intro X hP hw hK hc i i0 s σ H E I hf st hg;subst hP hw hK;obtain⟨⟨j,J⟩,O⟩:=st;obtain⟨xs,hq,hx⟩:=hg;obtain⟨Y,rv,p,hz⟩:=I.tuple hq;have hl:=rv.length;exact PyY.Zap (I.ok.hd hc) J O (show s.heap.IsTuple a Y.toArray from p) (by simp;omega) fun h1 eb=>⟨rfl,I.turnedL (t':=s.toks) (ts:=[e,it]) (fun b o hb q=>eb b o (fun z=>hb (by simp[z])) q) hf⟩
 self:=fun _ _ _ _ _ st h=>by
  obtain⟨⟨j,J⟩,O⟩:=st;exact di J h
section
variable {X:Cx}
end
structure Zc6 (J:It)(At:Hp->Prop)(xs:List V):Prop where
 go:∀i H,At H->i<xs.length->J.go i H
 yld:∀i H x H2,At H->J.yld i H x H2->∃T y,x=.ref T/\H T=none/\H2=upd H T (.tup [.int i,y])/\xs[i]?=some y
 stop:∀i H,At H->xs.length<=i->J.stop i H
theorem ZeB {K:ae}{a:Addr}{xs:List V}:Zc6 (ZfK K a) (fun H=>Wr K H a xs) xs:=
 ⟨fun i H h j=>⟨xs,xs[i],h,by simp[j]⟩,fun i H x Y h z=>by
  obtain⟨T,y,e,J,O,q⟩:=z;exact⟨T,y,e,J,O,q xs h⟩,fun i H h j=>⟨xs,h,j⟩⟩
theorem ZeA {K:ae}{a:Addr}{xs:List V}:Zc6 (ZfJ K a) (fun H=>Jq K H a xs) xs:=
 ⟨fun i H h j=>⟨xs,xs[i],h,by simp[j]⟩,fun i H x Y h z=>by
  obtain⟨T,y,e,J,O,q⟩:=z;exact⟨T,y,e,J,O,q xs h⟩,fun i H h j=>⟨xs,h,j⟩⟩
theorem Zbu {J:It}{g:TG}{tb:TS}{D:YC}{σ:St}{H:Hp}{At:Hp->Prop}{xs:List V}(S:Zc6 J At xs)(Pv:Nat->St->Hp->Prop)(h0:Pv 0 σ H)(hS:∀i σ H,Pv i σ H->At H)
  (hs:∀(i:Nat) y σ H T,xs[i]?=some y->Pv i σ H->H T=none->g (.ref T) σ (upd H T (.tup [.int i,y])) fun z H2=>tb {D with nx:=Pv (i+1),ct:=Pv (i+1),bk:=D.nx} z H2) (hd:∀ σ H,Pv xs.length σ H->D.nx σ H) :
  ∃W:Nat->Nat->St->Hp->Prop,(∃m,W 0 m σ H)/\∀i m σ H,W i m σ H->
   (J.stop i H/\D.nx σ H)\/(J.go i H/\∃N:St->Hp->Prop,(∀ O j,N O j->∃m',m'<m/\W (i+1) m' O j)/\∀x j,J.yld i H x j->g x σ j fun z H2=>tb {D with nx:=N,ct:=N,bk:=D.nx} z H2):=by
 refine⟨fun i m σ H=>m=xs.length-i/\i<=xs.length/\Pv i σ H,⟨_,rfl,aC _,h0⟩,?_⟩;rintro i m σ H ⟨rfl,hi,p⟩;have s:=hS i σ H p;by_cases Y:i<xs.length
 ·refine .inr ⟨S.go i H s Y,Pv (i+1),fun O j p'=>⟨xs.length-(i+1),by omega,rfl,Y,p'⟩,fun x j hy=>?_⟩
  obtain⟨T,y,rfl,hT,rfl,hx⟩:=S.yld i H x j s hy;exact hs i y σ H T hx p hT
 ·have e:i=xs.length:=by omega
  subst e;exact .inl ⟨S.stop _ H s (Zq _),hd σ H p⟩
theorem g2 (K:ae)(i j:Nat){X:Cx}{x y:Str}{k}{z J pos:Pos}(Y:X.calm=true)(hx:PG X (.Name x z) (Yo i))(hy:PG X (.Name y J) (Yo j))(hK:X.K=K:=by rfl)
  (hn:(assignEach [.Name x z,.Name y J] X.env).length=2:=by rfl) (O:(assignEach [.Name x z,.Name y J] X.env).findIdx? (·.1)=none:=by rfl) :
  PG X (.Tuple [.Name x z,.Name y J] k pos) (Zfz K 2 (Zbs (Yo i) (Zbs (Yo j) ZfA))):=hK▸ZdW Y (X9 hx (X9 hy Zch)) hn O
structure Sml (k b:Nat)(d:cn):Prop where
 sh:d.showable=true
 nd:d.hasDict=false
 dp:d.depth<=k
 lv:d.leavesShort 300=true
 bl:d.bulk<=b
theorem Sml.all {k b:Nat}:∀{ds:List cn},(∀d∈ds,Sml k b d)->gr ds=true/\gD ds=false/\bG ds<=k/\fP 300 ds=true/\hG ds<=ds.length*(b+1)
 | [],_=>⟨rfl,rfl,aC _,rfl,aC _⟩
 |d::ds,h=>by
  obtain⟨j,z,J,O,h5⟩:=Sml.all (ds:=ds) fun e Y=>h e (ah _ Y);have hd:=h d ai;refine⟨?_,?_,?_,?_,?_⟩
  ·simp only[gr,hd.sh,j,fO]
  ·simp only[gD,hd.nd,z,Bool.or_self]
  ·simp only[bG]
   exact Nat.max_le.mpr ⟨hd.dp,J⟩
  ·simp only[fP,hd.lv,O,fO]
  ·simp only[hG,Zi]
   have:=hd.bl;rw[eW];omega
theorem Sml.fit {k b:Nat}{d:cn}(h:Sml k b d)(j:k<=60)(hb:b<=50000):Zc4 d:=by
 refine⟨h.sh,h.nd,aG h.dp j,?_⟩;have:=PyData.shown_le_bulk 300 (by decide) d h.lv;have z:=h.bl;have e:(16777216:Nat)=sizeLine:=by decide
 omega
theorem Sml.tup {k b n:Nat}{ds:List cn}(j:ds.length<=n)(h:∀d∈ds,Sml k b d):Sml (k+1) (n*(b+1)) (.tuple ds):=by
 obtain⟨z,J,h3,O,Y⟩:=Sml.all h;refine⟨by simp only[eZ];exact z,by simp only[PyData.hasDict];exact J,by simp only[ci];omega,by simp only[gt];exact O,?_⟩;simp only[PyData.bulk];exact aG Y (bu _ j)
end L2
namespace Pm
open PySem L2 PySem.Spec PyProof.Rows
open Tb
theorem Vj {n i:Nat}(h:i<n):ixN n (i:Int)=some i:=by
 unfold ixN;rw[if_pos (gZ _),if_pos (by omega),Zj]
section
variable {X:Cx}
structure QE (X:Cx)(e:Expr)(t:TE):Prop where
 h:PE X e t
structure QS (X:Cx)(st:Stmt)(t:TS):Prop where
 h:PS X st t
structure QSs (X:Cx)(sts:List Stmt)(t:TS):Prop where
 h:J5 X sts t
theorem Zdo (i:Nat){x:Str}{e:Expr}{z:TE}{pos j:Pos}(J:X.fn x=true)(O:QE X e z)(Y:X.N[i]?=some x:=by rfl)(hN:Wh X.N=true:=by kernel_rfl)(hx:UD X.env.scope x=true:=by kernel_rfl)
  (hs:swapsWith e (some (.Name x j)) pos.line X.env=pure false:=by rfl):QS X (.Assign [.Name x j] e pos) (XY z (Yo i)):=⟨ZL i J O.h Y hN hx hs⟩
theorem VR {st:Stmt}{rest:List Stmt}{t u:TS}(j:QS X st t)(z:QSs X rest u):QSs X (st::rest) (JY t u):=⟨Zs j.h z.h⟩
end
theorem tupK {X:Cx}(K:ae)(z:X.K=K:=by rfl):Z9 X (.type "tuple") (fun xs H Q=>∃p j,xs=[.ref p]/\((Wr K H p j/\∀l,H l=none->Q (.ref l) (upd H l (.tup j)))\/(Jq K H p j/\Q (.ref p) H))):=z▸J3
end Pm
namespace L2
open PySem PySem.Spec PyProof.Rows
section
variable {X:Cx}
noncomputable def Zbm (K:ae)(ta:TA):TI:=fun σ H R=>ta σ H fun vs O=>∃a z j,vs=[.ref a]/\(Wr K j a z\/Jq K j a z)/\ZC j O/\∀J Y,Zc6 J Y z->(∀H',ZC j H'->Y H')->R J O
theorem Zew {elts:List Expr}{x1}{pt:Pos}{l:Expr}{ta:TA}{p pos:Pos}(hm:X.mg "enumerate"=none)(ha:PA X [l] ta)(hg:YH X.env.scope "enumerate"=true:=by kernel_rfl)(hs:starEach [l] X.env=[(false,eval l X.env)]:=by rfl) :
  PI X (.Tuple elts x1 pt) (.Call (.Name "enumerate" p) [l] [] pos) (Zbm X.K ta):=by
 intro J s σ H R I h;refine Call_ (W4 I (Wk hg) hm (show bootBuiltins "enumerate"=some (.type "enumerate") by kernel_rfl) (bA (ZW (ha pos J s σ H _ I h) fun us s1 ⟨vs,H1,j,r1,q1⟩=>?_) hs rfl));obtain⟨a,xs,Hx,e,z,sm,q⟩:=q1;subst e;cases r1 with
 |cons r rr=>
  cases rr;cases (show _=aw a from r);have sz:∀b,b∈[s1.heap.objs.size+1,s1.heap.objs.size]->s1.heap.objs.size<=b:=fun b hb=>by
   rcases ak.mp hb with rfl|hb
   ·exact cV _
   ·have:b=s1.heap.objs.size:=by simpa using hb
    rw[this];exact Zq _
  rcases z with z|z
  ·obtain⟨O,rv,p,hz⟩:=j.list (sm.seq z)
   refine call_enumerate_list p.isList fun g Y gi gs gk=>di Y ?_;exact⟨_,[s1.heap.objs.size+1,s1.heap.objs.size],_,_,H1,rfl,j.kept (t':=s1.toks) gk,VH a _ _ (ba (Nat.lt_succ_self _)),⟨⟨_,Y⟩,gi⟩,fun b hb=>j.fpOk (sz b hb) (j.hok.fresh (sz b hb)),q _ _ ZeB fun H' s'=>s'.seq z⟩
  ·obtain⟨O,rv,p,hz⟩:=j.tuple (sm.tup z)
   refine PyY.Uf (show s1.heap.IsTuple a O.toArray from p) fun g Y gi gs gk=>di Y ?_;exact⟨_,[s1.heap.objs.size+1,s1.heap.objs.size],_,_,H1,rfl,j.kept (t':=s1.toks) gk,VG a _ _ (ba (Nat.lt_succ_self _)),⟨⟨_,Y⟩,gi⟩,fun b hb=>j.fpOk (sz b hb) (j.hok.fresh (sz b hb)),q _ _ ZeA fun H' s'=>s'.tup z⟩
theorem Zex (K:ae){elts:List Expr}{z}{pt:Pos}{l:Expr}{j:TA}{p pos:Pos}(J:X.mg "enumerate"=none)(O:PA X [l] j)(Y:X.K=K:=by rfl)(hg:YH X.env.scope "enumerate"=true:=by kernel_rfl)(hs:starEach [l] X.env=[(false,eval l X.env)]:=by rfl) :
  PI X (.Tuple elts z pt) (.Call (.Name "enumerate" p) [l] [] pos) (Zbm K j):=Y▸Zew J O hg hs
end
end L2
namespace Tx
open PySem L2 PySem.Spec PyProof.Rows PySem.NumText
theorem t_e:ar ""=tx []:=by decide +kernel
theorem t_p:ar "+"=tx [43]:=by decide +kernel
theorem t_m:ar "-"=tx [45]:=by decide +kernel
theorem ZbX:ar "+-"=tx [43,45]:=by decide +kernel
theorem t_z:ar "z"=tx [122]:=by decide +kernel
theorem t_0:ar "0"=tx [48]:=by decide +kernel
theorem t_1:ar "1"=tx [49]:=by decide +kernel
theorem t_d:ar "0123456789"=tx [48,49,50,51,52,53,54,55,56,57]:=by decide +kernel
theorem Wz {a b:List Nat}:decide (V.str (tx a)=V.str (tx b))=decide (a=b):=by
 rw[be,decide_eq_true_eq,decide_eq_true_eq];exact⟨fun h=>ZaI (V.str.inj h),fun h=>by rw[h]⟩
theorem Zbk (c:Nat):(!(cH (tx [48,49,50,51,52,53,54,55,56,57]) ⟨#[c]⟩ 0 (tx [48,49,50,51,52,53,54,55,56,57]).length 1).isEmpty)=(decide (48<=c) && decide (c<=57)):=by
 rw[dW,ZP,be];simp only[ak,List.not_mem_nil,or_false,decide_eq_true_eq,aJ];omega
noncomputable def dgV:V->V
 | .str s=>.bl (s.cps.toList.all fun c=>decide (48<=c) && decide (c<=57))
 |v=>v
theorem ZcS (l:List Nat):(l.map fun c=>V.str ⟨#[c]⟩).map dgV=(l.map fun c=>decide (48<=c) && decide (c<=57)).map V.bl:=by
 rw[dq,dq];refine gG fun c _=>?_;show V.bl ([c].all _)=V.bl _;rw[eg,eL,cW]
theorem Zbc {a:List Int}{i:Nat}{y:V}(h:(a.map V.int)[i]?=some y):i<a.length/\y=.int (Yd a i):=by
 rw[Zc] at h;cases e:a[i]? with
 |none=>rw[e] at h;cases h
 |some z=>
  rw[e] at h;unfold Yd;rw[Zb,e];exact⟨(aK.mp e).1,(aB h).symm⟩
theorem Wo {a:List Int}{i:Nat}(h:i<a.length):a.drop i=Yd a i::a.drop (i+1):=by
 unfold Yd;rw[bS h,Zb,Zf h];rfl
theorem XG {a:List Int}{i:Nat}(h:i<a.length):Yd a i∈a:=by
 unfold Yd;rw[Zb,Zf h];exact hZ h
theorem UF {a:List Int}{i:Nat}(h:i<a.length):(a.map V.int)[i]?=some (.int (Yd a i)):=by
 unfold Yd;rw[Zc,Zb,Zf h];rfl
theorem Yw (j:List Nat)(k:Int)(r:List Int)(p:Nat):Y8 j (k::r) p=if k=0 then Y8 j r (p+1) else Y8 (j++(if j≠[]/\k > 0 then [43] else [])++wd k p) r (p+1):=rfl
theorem ZaN (l:List Nat):dJ (tx l) (tx [45])=neg l:=by
 unfold dJ neg;rw[be,aJ,decide_eq_true_eq];have:=bI (tx l) 45 0;rw[ZP] at this;refine this.trans ?_;cases l with
 |nil=>simp
 |cons c r=>simp
theorem Jl (l:List Nat){i:Nat}(h:i<=l.length):aZ (tx l) (some (i:Int)) none=tx (l.drop i):=by
 have:=StrLaws.sliceText_from (x:=tx l) (i:=(i:Int)) ⟨by omega,by rw[ZP];omega⟩;refine (show aZ (tx l) (some (i:Int)) none=dU (tx l) (some (i:Int)) none from rfl).trans (this.trans ?_);rw[ZP,Zj,fU (by rw[aI];omega)];rfl
theorem ZcC {l a b:List Nat}{z:Bool}(h:neg l=true)(j:ZO l=(a,z,b)):1<=a.length:=by
 unfold neg at h;cases l with
 |nil=>cases h
 |cons c r=>
  have J:c=45:=by simpa using h
  unfold ZO at j;rw[J,if_neg (by decide)] at j;have:=congrArg (fun x=>x.1.length) j;simp only[Zi] at this;omega
theorem XF {l a b:List Nat}{z:Bool}(J:ZO l=(a,z,b)):a.length<=l.length/\b.length<=l.length/\(∀c∈a,c∈l)/\(∀c∈b,c∈l)/\(z=false->b=[]):=by
 obtain⟨O,j⟩:=YU l;rw[J] at j;cases z with
 |false=>
  have j:l=a:=j;have:b=[]:=by
   have e:=Wv (l:=l) (by rw[J] at O;rw[j];exact O);rw[J] at e;exact (fR (fR e).2).2
  rw[j,this];exact⟨Zq _,aC _,(fun c h=>h),(fun c h=>by cases h),fun _=>rfl⟩
 |true=>
  have j:l=a++122::b:=j;rw[j];refine⟨?_,?_,fun c h=>bb _ h,fun c h=>av _ (ah _ h),fun h=>by cases h⟩
  ·rw[Zd];omega
  ·rw[Zd,Zi];omega
theorem ZdL (m:Nat):(ag m [V.int 0]).flatten=(ag m (0:Int)).map V.int:=by
 induction m with
 |zero=>rfl
 |succ m j=>rw[aE,bc,j,aE];rfl
theorem Xw:∀l:List Nat,(rep l).length<=2*l.length
 | []=>aC _
 |c::r=>by
  have j:=Xw r;show ((if c=45 then [43,45] else [c])++rep r).length<=_
  rw[Zd,Zi];split <;> simp only[Zi,ao] <;> omega
theorem X6 {wide:Nat}{l:List Nat}{xs:List Int}(h:X7 wide l=some xs):putAll (ag wide 0) (Js l)=some xs/\WW xs=l:=by
 unfold X7 at h;cases e:putAll (ag wide 0) (Js l) with
 |none=>rw[e] at h;cases h
 |some f=>
  rw[e] at h;have h:(if WW f=l then some f else none)=some xs:=h
  split at h
  ·cases h
   exact⟨rfl,by assumption⟩
  ·cases h
theorem Za2 {f g:List Int}{w:List Nat}(h:YE f w=some g):g.length=f.length:=by
 unfold YE at h;split at h
 ·cases h;rfl
 ·split at h
  ·cases h
  ·split at h
   ·cases h;rw[bX]
   ·cases h
theorem Za1 {f g:List Int}{w:List Nat}{z:List (List Nat)}(h:putAll f (w::z)=some g):∃j,YE f w=some j/\putAll j z=some g:=by
 unfold putAll at h;cases e:YE f w with
 |none=>rw[e] at h;cases h
 |some j=>rw[e] at h;exact⟨j,rfl,h⟩
theorem Zcb {f g:List Int}{w:List Nat}(h:YE f w=some g)(hw:w≠[]):∃k p,UV w=some (k,p)/\p<f.length/\g=f.set p (Yd f p+k):=by
 unfold YE at h;rw[if_neg hw] at h;split at h
 ·cases h
 ·rename_i k p e
  split at h
  ·cases h
   exact⟨k,p,e,by assumption,rfl⟩
  ·cases h
theorem ZaF {k:Int}(J:k≠0)(p:Nat):wd k p=(if p≠0/\k.natAbs=1 then (if k<0 then [45] else []) else Wb k)++JQ p:=by
 rw[XT k p J];congr 1;unfold Vx Wb;by_cases j:p=0
 ·rw[if_pos j,if_neg (show ¬(p≠0/\k.natAbs=1) from fun h=>h.1 j)]
  split <;> rfl
 ·rw[if_neg j]
  by_cases z:k.natAbs=1
  ·rw[if_pos z,if_pos (show p≠0/\k.natAbs=1 from ⟨j,z⟩),aA]
  ·rw[if_neg z,if_neg (show ¬(p≠0/\k.natAbs=1) from fun h=>z h.2)]
   split <;> rfl
theorem ZbL (p:Nat):atI [V.str (tx []),V.str (tx [122]),V.str (tx (122::ZJ p))] (if (2:Int)<(p:Nat) then 2 else (p:Nat))=some (V.str (tx (JQ p))):=by
 unfold JQ
 match p with
 |0=>rfl
 |1=>rfl
 |p+2=>
  by_cases h:(2:Int)<((p+2:Nat):Int)
  ·rw[if_pos h];rfl
  ·have:p=0:=by omega
   subst this;rfl
theorem ZfD (k:Int):atI [V.str (tx []),V.str (tx [45])] (if decide (k<0)=true then 1 else 0)=some (V.str (tx (if k<0 then [45] else []))):=by
 by_cases j:k<0
 ·rw[if_pos j,if_pos (decide_eq_true j)];rfl
 ·rw[if_neg j,if_neg (fun h=>j (of_decide_eq_true h))];rfl
theorem ZcW {p:Nat}(j:p<100):(JQ p).length<=3:=by
 have z:(ZJ p).length<=2:=WT (by decide) j;unfold JQ;split
 ·simp
 ·rw[Zi]
  split
  ·simp
  ·omega
theorem Zf1 (m:Nat):(ag m [V.int 0]).flatten=(ag m (0:Int)).map V.int:=ZdL m
end Tx
namespace N61
open PySem L2 PySem.Spec PyProof.Rows
noncomputable def top (i:Nat):Stmt:=PySem.Challenge.pw_classtab_k61_texts_of_no_number.main.body.getD i (.Pass ⟨0,0,0,0⟩)
structure Bl (mg:Str->Option Value):Prop where
 list:mg "list"=none
 len:mg "len"=none
 abs:mg "abs"=none
 range:mg "range"=none
 tuple:mg "tuple"=none
 isi:mg "isinstance"=none
 all:mg "all"=none
 set:mg "set"=none
 repr:mg "repr"=none
 any:mg "any"=none
 int:mg "int"=none
 bool:mg "bool"=none
section
variable {P:Program}{w:World}{K:ae}{mg:Str->Option Value}{base:Heap}
end
section
variable {P:Program}{w:World}{K:ae}{mg:Str->Option Value}{base:Heap}
theorem Zev (ds:List cn):gu (.list ds) (.list [])=ds.isEmpty:=by
 cases ds with
 |nil=>rfl
 |cons d r=>rfl
theorem Zb2 {ds:List cn}(h:∀d∈ds,d.canLay0=true/\d.depth<=10):bO (.list ds)=true:=by
 have j:cM ds=true/\bG ds<=10:=by
  induction ds with
  |nil=>exact⟨rfl,aC _⟩
  |cons d r z=>
   obtain⟨a,b⟩:=z fun e J=>h e (ah _ J);obtain⟨c,e⟩:=h d ai;exact⟨by simp only[cM,c,a,fO],by simp only[bG];omega⟩
 unfold bO;rw[aJ];have O:(PyData.list ds).depth<=64:=by simp only[ci];omega
 exact⟨by simp only[cF];exact j.1,decide_eq_true O⟩
end
noncomputable abbrev Up:Stmt:=top 17
noncomputable abbrev Uq:Stmt:=top 18
noncomputable def strip:Nat->Int->Int->Int
 |0,r,_=>r
 |g+1,r,p=>if r % p=0 then strip g (r / p) p else r
noncomputable def pr:Nat->Int->Int->List Int->List Int
 |0,_,_,acc=>acc
 |f+1,r,p,acc=>if 1<r then pr f (strip 6 r p) (p+1) (if r % p=0 then acc++[p] else acc) else acc
noncomputable def Zaq:Nat->Int->Int->Bool
 |0,r,_=>decide (r<=1)
 |f+1,r,p=>if 1<r then Zaq f (strip 6 r p) (p+1) else true
noncomputable def Yl (n:Int):List Int:=pr 100 n 2 []
noncomputable def YB (n:Int):Int:=(Yl n).foldl (fun f p=>f / p*(p-1)) n
noncomputable def ZcI:Nat->Int->Int->Int
 |0,a,_=>a
 |f+1,a,b=>if 0<b then ZcI f b (a % b) else a
noncomputable def Vl (a b:Int):Int:=ZcI 100 a b
noncomputable def Zbg (n:Int):Int:=(((Xv 1 n.toNat).filter fun k=>decide (Vl k n=1)).length:Nat)
noncomputable def okN (n:Nat):Bool:=Zaq 100 n 2 && (Yl n).all (fun p=>decide (2<=p) && decide (p<=60)) && decide (YB n=Zbg n) && decide (1<=YB n) && decide (YB n<=60)
theorem Zcv:((dm 61).all fun n=>n == 0 || okN n)=true:=by decide +kernel
theorem XA {n:Nat}(z:1<=n)(J:n<=60):Zaq 100 n 2=true/\(∀p∈Yl n,2<=p/\p<=60)/\YB n=Zbg n/\1<=YB n/\YB n<=60:=by
 have h:=bi.mp Zcv n (List.mem_range.mpr (by omega));have j:(n == 0)=false:=by simp;omega
 rw[j,Bool.false_or] at h;unfold okN at h;simp only[aJ,decide_eq_true_eq,bi] at h;exact⟨h.1.1.1.1,h.1.1.1.2,h.1.1.2,h.1.2,h.2⟩
theorem JM {r p:Int}(z:1<=r)(j:2<=p)(h:r % p=0):1<=r / p/\2*(r / p)<=r:=by
 have e:p*(r / p)=r:=Int.mul_ediv_cancel' (Int.dvd_of_emod_eq_zero h);generalize r / p=q at e;have J:1<=q:=by
  apply Classical.byContradiction;intro O;have:p*q<=p*0:=Int.mul_le_mul_of_nonneg_left (by omega) (by omega);omega
 have:2*q<=p*q:=Int.mul_le_mul_of_nonneg_right j (by omega);omega
theorem WK:∀(g:Nat) {r p:Int},1<=r->2<=p->1<=strip g r p/\strip g r p<=r
 |0,r,p,j,_=>⟨j,Int.le_refl _⟩
 |g+1,r,p,j,z=>by
  unfold strip;by_cases h:r % p=0
  ·rw[if_pos h]
   obtain⟨a,b⟩:=JM j z h;have:=WK g (r:=r / p) (p:=p) a z;omega
  ·rw[if_neg h];omega
theorem JA {g:Nat}{r p:Int}(h:¬r % p=0):strip g r p=r:=by
 cases g with
 |zero=>rfl
 |succ g=>unfold strip;rw[if_neg h]
noncomputable def X0:Sp:=fun z H Q _=>∃n:Nat,z=[.int n]/\1<=n/\n<=60/\∀l j,ZC H j->j l=some (.lst ((Yl n).map V.int))->Q (.ref l) j
noncomputable def X1:Sp:=fun z H Q _=>∃n:Nat,z=[.int n]/\1<=n/\n<=60/\∀j,ZC H j->Q (.int (YB n)) j
section
variable {P:Program}{w:World}{K:ae}{mg:Str->Option Value}{base:Heap}
theorem U8 {f:Addr}{fd:FuncData}(F:Jf K "primes_of" "primes_of" Up f fd)(T:Bl mg):Yj P w K mg base YW 1 f fd ["n"] X0:=by
 refine F.ok (FS (N:=["n", "primes", "rest", "p"])) (fun vs H Q E h=>?_) (fun k8 A i8 s H vs Q E hr h=>?_)
 ·obtain⟨n,rfl,_⟩:=h;rfl
 ·obtain⟨n,rfl,n1,i9,q⟩:=h
  obtain⟨i6,l7,_⟩:=XA n1 i9;refine⟨_,Zs (ZL 1 rfl (YF Zu)) (Zs (ZL 2 rfl (vn 0)) (Zs (ZL 3 rfl Zt)
   (Zs (Wg aV (Zw Y9 (vn 2) Zt (ZB _))
    (Zs (ZT (Zw Z2 (ZD YM (vn 2) (vn 3)) Zt (ZB _)) (Zv (Xx (Xd cS b9 cO Wt (vn 1) (pc (vn 3) Zu)))) ZF)
    (Zs (Wg aV (Zw Z2 (ZD YM (vn 2) (vn 3)) Zt (ZB _)) (Zv (ZL 2 rfl (ZD WP (vn 2) (vn 3)))))
    (Zv (ZdU (i:=3) (Yk (by kernel_rfl)) rfl (Vk (by kernel_rfl)) Zt Zbj (.inl rfl))))))
   (Zv (ZM (vn 1)))))),?_⟩
  refine⟨by decide,fun l hl=>⟨_,rfl,?_⟩⟩;have s1:ZC H (upd H l (.lst [])):=ZC.upd hl;refine YQ (fun f Y H'=>∃(r p:Int) (acc:List Int),Y=[some (.int n),some (.ref l),some (.int r),some (.int p)]/\H'=upd H l (.lst (acc.map V.int))/\1<=r/\r<=60/\2<=p/\p+f=102/\acc.length+f<=100/\Zaq f r p=true/\pr f r p acc=Yl n)
   (fun Y H'=>∃r p:Option V,Y=[some (.int n),some (.ref l),r,p]/\H'=upd H l (.lst ((Yl n).map V.int))) ?hend ⟨100,n,2,[],rfl,rfl,by omega,by omega,by omega,by omega,by decide,i6,rfl⟩ ?turn
  case hend=>
   rintro Y H' ⟨r,p,rfl,rfl⟩;exact⟨_,rfl,q l _ (ZC.upd hl) Zy⟩
  case turn=>
   rintro i4 f Y H' ⟨r,p,acc,rfl,rfl,r1,j4,p2,pf,al,he,hp⟩;refine⟨_,rfl,_,_,rfl,rfl,_,rfl,?_⟩;refine ZQ (fun h1=>?_) (fun h1=>?_)
   rotate_left
   ·have h1:¬ 1<r:=fun z=>h1 (decide_eq_true z)
    refine i4 _ _ ⟨_,_,rfl,?_⟩;have:pr f r p acc=acc:=by cases f with|zero=>rfl|succ f=>unfold pr;rw[if_neg h1]
    rw[<-hp,this]
   have h1:1<r:=of_decide_eq_true h1;obtain⟨g,rfl⟩:∃g,f=g+1:=by
    cases f with
    |zero=>unfold Zaq at he;have:=of_decide_eq_true he;omega
    |succ g=>exact⟨g,rfl⟩
   refine⟨_,fun _ _ z=>z,?_⟩;unfold Zaq at he;unfold pr at hp;rw[if_pos h1] at he hp;have sz:(16777216:Nat)=sizeLine:=by decide
   refine⟨_,rfl,_,rfl,_,_,rfl,rfl,(by show (0:Int)<p;omega),rfl,_,rfl,?_⟩;obtain⟨j,i5,i7,hA⟩:∃j:List Int,j=(if r % p=0 then acc++[p] else acc)/\pr g (strip 6 r p) (p+1) j=Yl n/\j.length<=acc.length+1:=⟨_,rfl,hp,by split <;> simp⟩
   obtain⟨j6,l8⟩:=WK 6 (r:=r) (p:=p) r1 p2;refine ZQ (fun h2=>?_) (fun h2=>?_)
   ·have h2:r % p=0:=V.int.inj (of_decide_eq_true h2)
    refine⟨_,rfl,.inl ⟨rfl,_,.of Zy⟩,_,rfl,l,_,_,rfl,rfl,Zy,by rw[Za];omega,?_⟩;have e1:upd (upd H l (.lst (acc.map V.int))) l (.lst (acc.map V.int++[.int p]))=upd H l (.lst (j.map V.int)):=by
     rw[ZbV,i5,if_pos h2,cD];rfl
    rw[e1];refine YQ (fun m J O=>∃(r':Int) (g':Nat),J=[some (.int n),some (.ref l),some (.int r'),some (.int p)]/\O=upd H l (.lst (j.map V.int))/\1<=r'/\r'<=60/\r'<2 ^ g'/\strip g' r' p=strip 6 r p/\m=r'.toNat)
     (fun J O=>J=[some (.int n),some (.ref l),some (.int (strip 6 r p)),some (.int p)]/\O=upd H l (.lst (j.map V.int))) ?hend2 ⟨_,r,6,rfl,rfl,r1,j4,by omega,rfl,rfl⟩ ?turn2
    case hend2=>
     rintro J O ⟨rfl,rfl⟩;exact⟨_,rfl,_,_,rfl,rfl,g,by omega,strip 6 r p,p+1,j,rfl,rfl,j6,by omega,by omega,by omega,by omega,he,i7⟩
    case turn2=>
     rintro h9 m J O ⟨r',g',rfl,rfl,a1,a2,a3,a4,rfl⟩;refine⟨_,rfl,_,rfl,_,_,rfl,rfl,(by show (0:Int)<p;omega),rfl,_,rfl,?_⟩;refine ZQ (fun h3=>?_) (fun h3=>?_)
     ·have h3:r' % p=0:=V.int.inj (of_decide_eq_true h3)
      obtain⟨b1,b2⟩:=JM a1 p2 h3;obtain⟨g2,rfl⟩:∃g2,g'=g2+1:=by
       cases g' with
       |zero=>simp at a3;omega
       |succ g2=>exact⟨g2,rfl⟩
      unfold strip at a4;rw[if_pos h3] at a4;refine⟨_,fun _ _ z=>z,_,rfl,_,rfl,_,_,rfl,rfl,⟨by omega,by omega⟩,(r' / p).toNat,by omega,r' / p,g2,rfl,rfl,b1,by omega,?_,a4,rfl⟩;rw[Int.pow_succ] at a3;omega
     ·have h3:¬r' % p=0:=fun z=>h3 (decide_eq_true (congrArg V.int z))
      rw[JA h3] at a4;exact h9 _ _ ⟨by rw[a4],rfl⟩
   ·have h2:¬r % p=0:=fun z=>h2 (decide_eq_true (congrArg V.int z))
    have e1:upd H l (.lst (acc.map V.int))=upd H l (.lst (j.map V.int)):=by rw[i5,if_neg h2]
    rw[e1];have e2:strip 6 r p=r:=JA h2;refine YQ (fun m J O=>J=[some (.int n),some (.ref l),some (.int r),some (.int p)]/\O=upd H l (.lst (j.map V.int)))
     (fun J O=>J=[some (.int n),some (.ref l),some (.int r),some (.int p)]/\O=upd H l (.lst (j.map V.int))) ?hend3 ⟨0,rfl,rfl⟩ ?turn3
    case hend3=>
     rintro J O ⟨rfl,rfl⟩;exact⟨_,rfl,_,_,rfl,rfl,g,by omega,r,p+1,j,rfl,rfl,r1,by omega,by omega,by omega,by omega,e2▸he,e2▸i7⟩
    case turn3=>
     rintro i0 m J O ⟨rfl,rfl⟩;refine⟨_,rfl,_,rfl,_,_,rfl,rfl,(by show (0:Int)<p;omega),rfl,_,rfl,?_⟩;exact Yu (fun z=>h2 (V.int.inj (of_decide_eq_true z))) (i0 _ _ ⟨rfl,rfl⟩)
theorem U9 {f:Addr}{fd:FuncData}(F:Jf K "places" "places" Uq f fd)(T:Bl mg)(GP:Fn P w K mg base YW 1 "primes_of" ["n"] X0):Yj P w K mg base YW 2 f fd ["n"] X1:=by
 refine F.ok (FS (N:=["n", "found", "p"])) (fun vs H Q E h=>?_) (fun i0 A Y s H vs Q E hr h=>?_)
 ·obtain⟨n,rfl,_⟩:=h;rfl
 ·obtain⟨n,rfl,n1,z,q⟩:=h
  obtain⟨_,h9,_⟩:=XA n1 z;refine⟨_,Zs (ZL 1 rfl (vn 0)) (Zs (JF aV rfl (itL K (WR GP hr Z0 (pc (vn 0) Zu))) (gn 2)
   (Zv (ZL 1 rfl (ZD Y0 (ZD WP (vn 1) (vn 2)) (ZD Xz (vn 2) Zt)))))
   (Zv (ZM (vn 1)))),?_⟩
  refine⟨_,rfl,_,rfl,n,rfl,n1,z,fun l H1 s1 hl=>⟨l,rfl,⟨_,.of hl⟩,?_⟩⟩;refine ZcQ (Zb4 (Wr.of hl)) (fun i j O=>∃v2:Option V,j=[some (.int n),some (.int (((Yl n).take i).foldl (fun f p=>f / p*(p-1)) n)),v2]/\O=H1) ⟨none,rfl,rfl⟩ (fun _ _ _ ⟨_,_,e⟩=>e▸ZC.refl _) ?_ ?_
  ·rintro i x j O J ⟨v2,rfl,rfl⟩
   rw[Zc] at J;cases e:(Yl n)[i]? with
   |none=>rw[e] at J;cases J
   |some p=>
    rw[e] at J;cases J;obtain⟨a1,a2⟩:=h9 p (aM e);refine⟨_,rfl,_,rfl,_,_,rfl,rfl,⟨by omega,by omega⟩,_,rfl,_,_,rfl,rfl,_,_,rfl,rfl,.inr ⟨by omega,by omega⟩,?_⟩;refine⟨some (.int p),?_,rfl⟩;have ht:(Yl n).take (i+1)=(Yl n).take i++[p]:=by rw[gY,e];rfl
    rw[ht,List.foldl_append];rfl
  ·rintro j O ⟨v2,rfl,rfl⟩
   refine⟨_,rfl,?_⟩;rw[Za,cx];exact q O s1
end
end N61
namespace C61
open PySem L2 PySem.Spec PyProof.Rows
open Tb Pm
noncomputable def top (i:Nat):Stmt:=PySem.Challenge.pw_classtab_k61_texts_of_no_number.main.body.getD i (.Pass ⟨0,0,0,0⟩)
noncomputable abbrev Zdl:Stmt:=top 25
noncomputable abbrev ZaU:Stmt:=top 26
structure BlB (mg:Str->Option Value):Prop where
 list:mg "list"=none
 len:mg "len"=none
 range:mg "range"=none
 tuple:mg "tuple"=none
 sorted:mg "sorted"=none
theorem neC {X:Cx}(K:ae)(J:X.A.units+64<cLine)(O:X.K=K:=by rfl):WV X (compareOp .NotEq) (fun x y H Q=>∃j z,XR K H x j/\XR K H y z/\bO j=true/\bO z=true/\Q (.bl (!gu j z)) H):=O▸Zd3 J
noncomputable def V8 (q:Addr)(a l:Int):List (Yr×V):=[(.inr "cells",.ref q),(.inr "at",.int a),(.inr "left",.int l)]
noncomputable def Yy (H:Hp)(p q:Addr)(b:Nat):Prop:=∃(j:List Int) (a l:Int),H p=some (.dK (V8 q a l))/\H q=some (.lst (j.map V.int))/\j.length<=63/\0<=l/\0<=a/\a<=b
theorem Yy.mono {H j:Hp}{p q:Addr}{b:Nat}(s:ZC H j)(h:Yy H p q b):Yy j p q b:=by
 obtain⟨z,a,l,J,O,Y⟩:=h;exact⟨z,a,l,s _ _ J,s _ _ O,Y⟩
theorem Yy.le {H:Hp}{p q:Addr}{b j:Nat}(h:Yy H p q b)(hb:b<=j):Yy H p q j:=by
 obtain⟨z,a,l,J,O,Y,h4,h5,h6⟩:=h;exact⟨z,a,l,J,O,Y,h4,h5,by omega⟩
theorem ZcJ {H:Hp}{p q:Addr}{a l:Int}(h:H p=some (.dK (V8 q a l))):JW H p (.str "cells") (some (.ref q)):=JW.k (k:=.inr "cells") h
theorem Zge {H:Hp}{p q:Addr}{a l:Int}(h:H p=some (.dK (V8 q a l))):JW H p (.str "at") (some (.int a)):=JW.k (k:=.inr "at") h
theorem V5 {H:Hp}{p q:Addr}{a l:Int}(h:H p=some (.dK (V8 q a l))):JW H p (.str "left") (some (.int l)):=JW.k (k:=.inr "left") h
theorem Zga {H:Hp}{p q:Addr}{a l j:Int}(h:H p=some (.dK (V8 q a l))):Vz H p (.str "at") (.int j) (upd H p (.dK (V8 q j l))):=Vz.k (k:=.inr "at") h (by rw[fK];show 3<_;omega)
theorem Za6 {H:Hp}{p q:Addr}{a l j:Int}(h:H p=some (.dK (V8 q a l))):Vz H p (.str "left") (.int j) (upd H p (.dK (V8 q a j))):=Vz.k (k:=.inr "left") h (by rw[fK];show 3<_;omega)
noncomputable def Tk (p:Addr)(H j:Hp):Prop:=∀b o,H b=some o->b≠p->j b=some o
theorem Tk.of {p:Addr}{H j:Hp}(s:ZC H j):Tk p H j:=fun b o e _=>s b o e
theorem Tk.trans {p:Addr}{H H1 j:Hp}(a:Tk p H H1)(b:Tk p H1 j):Tk p H j:=fun c o e n=>b c o (a c o e n) n
theorem Yy.ne {H:Hp}{p q a:Addr}{b:Nat}{o:HO}(h:Yy H p q b)(e:H a=some o)(J:∀j,o≠.dK j):a≠p:=fun z=>by
 obtain⟨Y,c,l,O,_⟩:=h;rw[z,O] at e;exact J _ (aB e).symm
theorem Yy.neN {H:Hp}{p q a:Addr}{b:Nat}(h:Yy H p q b)(e:H a=none):a≠p/\a≠q:=by
 obtain⟨O,c,l,j,J,_⟩:=h;exact⟨fun z=>(by rw[z,j] at e;cases e),fun z=>(by rw[z,J] at e;cases e)⟩
theorem Yy.put {H:Hp}{p q L:Addr}{b:Nat}{o:HO}(h:Yy H p q b)(j:L≠p)(z:L≠q):Yy (upd H L o) p q b:=by
 obtain⟨J,c,l,O,Y,h3⟩:=h;exact⟨J,c,l,by rw[ZE (a8 j)];exact O,by rw[ZE (a8 z)];exact Y,h3⟩
theorem Tk.lst {p q a:Addr}{H j:Hp}{b:Nat}{xs:List V}(d:Tk p H j)(T:Yy H p q b)(h:H a=some (.lst xs)):j a=some (.lst xs):=d a _ h (T.ne h fun _ z=>by cases z)
theorem ZaT (ns:List Int):bO (.list (ns.map br))=true:=by
 unfold bO;have j:cF (.list (ns.map br))=true:=Ue ns;have z:ci (.list (ns.map br))<=60:=Zar ns;simp only[j,Bool.true_and,cW,decide_eq_true_eq];omega
noncomputable def ZaS (K:ae):Sp:=fun z H Q _=>∃(a:Addr) (J:List Int),z=[.ref a]/\Wr K H a (J.map V.int)/\∀p q j,ZC H j->H p=none->Yy j p q 0->Q (.ref p) j
noncomputable def Xq:Sp:=fun z H Q _=>∃(p q:Addr) (m:Int) (b:Nat),z=[.ref p,.int m]/\Yy H p q b/\b<2 ^ 60/\0<m/\m<1073741824/\∀r j,0<=r->r<m->Tk p H j->Yy j p q (b+1)->Q (.int r) j
theorem ZbD (ns:List Int)(lo j:Option Int):∃z:List Int,Zav (ns.map V.int) lo j=z.map V.int/\(∀k:Nat,j=some (k:Int)->z.length<=k):=by
 refine⟨(ns.drop (HT.Xu ns.length 0 lo)).take (HT.Xu ns.length ns.length j-HT.Xu ns.length 0 lo),?_,fun k e=>?_⟩
 ·unfold Zav;rw[Za,List.map_take,List.map_drop]
 ·subst e
  rw[bP,HT.Zb5];omega
section
variable {P:Program}{w:World}{K:ae}{mg:Str->Option Value}{base:Heap}
theorem Zct {f:Addr}{fd:FuncData}(F:Jf K "_law_feed" "_law_feed" Zdl f fd)(T:BlB mg):Yj P w K mg base YW 1 f fd ["_law_script"] (ZaS K):=by
 refine F.ok (FS (N:=["_law_script"])) (fun vs H Q E h=>?_) (fun i5 A h9 s H vs Q E hr h=>?_)
 ·obtain⟨a,ns,rfl,_⟩:=h;rfl
 ·obtain⟨a,ns,rfl,hS,k⟩:=h
  refine⟨_,Zv (ZM (Zcl (JG ZA (ct XH T.list (pc (ZU Zb1 (vn 0) Z8 (ZV Zt)) Zu)) (JG ZA Zt (JG ZA Zt Zce))) rfl rfl (by simp) (by decide))),?_⟩;intro p np;obtain⟨J,e,hl⟩:=ZbD ns none (some 63);have s0:=ZC.upd (H:=H) (o:=.dK []) np;refine⟨_,rfl,_,rfl,a,_,rfl,s0.seq hS,fun p1 h1=>⟨p1,_,rfl,.inl (.of Zy),fun q hq=>?_⟩⟩;rw[e] at hq ⊢;have Y:upd H p (.dK []) p=some (.dK []):=Zy;generalize upd H p (.dK [])=H1 at s0 h1 hq Y ⊢;have s1:=ZC.upd (H:=H1) (o:=.lst (J.map V.int)) h1;generalize upd H1 p1 (.lst (J.map V.int))=H2 at s1 hq ⊢;have s2:=ZC.upd (H:=H2) (o:=.lst (J.map V.int)) hq;have j:upd H2 q (.lst (J.map V.int)) q=some (.lst (J.map V.int)):=Zy;have O:=s2 _ _ (s1 _ _ Y);generalize upd H2 q (.lst (J.map V.int))=H3 at s2 j O ⊢;have i0:q≠p:=fun z=>by rw[z,O] at j;cases j
  refine⟨O,V8 q 0 0,rfl,(by show 3<=15;decide),?_⟩;refine k p q _ (fun b o hb=>?_) np ⟨J,0,0,Zy,by rw[ZE i0];exact j,hl 63 rfl,by decide,by decide,by decide⟩;have i4:b≠p:=fun z=>by rw[z,np] at hb;cases hb
  rw[ZE i4];exact s2 _ _ (s1 _ _ (s0 _ _ hb))
theorem Zcu {f:Addr}{fd:FuncData}(F:Jf K "_law_draw" "_law_draw" ZaU f fd)(T:BlB mg):Yj P w K mg base YW 1 f fd ["_law_feed_here", "_law_many"] Xq:=by
 refine F.ok (FS (N:=["_law_feed_here", "_law_many", "_law_found", "_law_at", "_law_cells", "_law_cell", "_law_number_here"])) (fun vs H Q E h=>?_) (fun i6 A i7 s H vs Q E hr h=>?_)
 ·obtain⟨p,q,m,b,rfl,_⟩:=h;rfl
 ·obtain⟨p,q,m,b,rfl,⟨O,a,l,h1,h2,Y,l0,a0,ab⟩,hb,m0,m1,k⟩:=h
  have hu:(A.deeper (envOfC "_law_draw" (ZY ZaU) s.heap.objs.size f i6)).units+1<cLine:=by have:=hr.un;omega
  refine⟨_,Zs (ZT (Zw Y9 (WN hu (vn 0) ZA (fun _ _=>rfl)) Zt (ZB _)) (Zs (ZL 2 rfl (ZD YM (WN hu (vn 0) ZA (fun _ _=>rfl)) (vn 1)))
   (Zs (Xy hu (vn 0) ZA (ZD WP (WN hu (vn 0) ZA (fun _ _=>rfl)) (vn 1)) (by rfl))
   (Zv (ZM (vn 2))))) ZF)
   (Zs (ZL 3 rfl (WN hu (vn 0) ZA (fun _ _=>rfl)))
   (Zs (Xy hu (vn 0) ZA (ZD Yb (vn 3) Zt) (by rfl))
   (Zs (ZL 4 rfl (WN hu (vn 0) ZA (fun _ _=>rfl)))
   (Zs (ZL 5 rfl (Z1 (Zw (neC K hr.units) (vn 4) (YF Zu) (ZB _)) (ZZ (ixL K) (vn 4) (ZD YM (vn 3) (cb (Zai K) T.len (pc (vn 4) Zu))) (fun _ _=>rfl)) (ZD Y0 (vn 3) (vn 3))))
   (Zs (ZT (YY (Zw Uw (vn 5) (ZD VW Zt Zt) (ZB _)) (YA (Zw Uv (vn 3) (cb (Zai K) T.len (pc (vn 4) Zu)) (ZB _)))).pt (Zs (Xy hu (vn 0) ZA (ZD WP (vn 5) (vn 1)) (by rfl))
   (Zv (ZM (ZD YM (vn 5) (vn 1))))) ZF)
   (Zs (ZL 6 rfl (ZD YM (ZD Y0 (ZD Yb (ZD YM (vn 5) Zt) Zt) (ZD Yb Zt (ZD Y0 Zt (vn 3)))) Zt))
   (Zv (ZM (ZD YM (ZD WP (ZD YM (ZD Yb (ZD Y0 (vn 6) Zt) (ZD Y0 (ZD Y0 (vn 3) (vn 3)) Zt)) Zt) Zt) (vn 1)))))))))),?_⟩
  have h9:q≠p:=fun z=>by rw[z,h1] at h2;cases h2
  refine⟨_,rfl,p,_,rfl,V5 h1,_,_,rfl,rfl,_,rfl,?_⟩;refine ZQ (fun h=>?_) (fun h=>?_)
  ·refine⟨_,rfl,p,_,rfl,V5 h1,_,rfl,_,_,rfl,rfl,m0,?_⟩
   refine⟨_,rfl,p,_,rfl,V5 h1,_,rfl,_,_,rfl,rfl,⟨m0,m1⟩,_,rfl,p,_,rfl,Za6 h1,?_⟩;exact⟨_,rfl,k _ _ (bt _ (by omega)) (a9 _ m0) (fun b o e hb=>by rw[ZE hb];exact e) ⟨O,a,l / m,Zy,by rw[ZE h9];exact h2,Y,Int.ediv_nonneg l0 (by omega),a0,by omega⟩⟩
  ·refine⟨_,rfl,p,_,rfl,Zge h1,?_⟩
   refine⟨_,rfl,_,_,rfl,rfl,_,rfl,p,_,rfl,Zga h1,?_⟩;have h3:upd H p (.dK (V8 q (a+1) l)) p=some (.dK (V8 q (a+1) l)):=Zy;have i0:upd H p (.dK (V8 q (a+1) l)) q=some (.lst (O.map V.int)):=by rw[ZE h9];exact h2
   have k3:Tk p H (upd H p (.dK (V8 q (a+1) l))):=fun b o e hb=>by rw[ZE hb];exact e
   generalize upd H p (.dK (V8 q (a+1) l))=H3 at h3 i0 k3 ⊢;refine⟨_,rfl,p,_,rfl,ZcJ h3,?_⟩;refine⟨_,rfl,(by show 0<=sizeLine;decide),fun e0 i8=>?_⟩;have s4:=ZC.upd (H:=H3) (o:=.lst []) i8;have k4:=k3.trans (Tk.of s4);have h4:=s4 _ _ h3;have J:=s4 _ _ i0;have i4:upd H3 e0 (.lst []) e0=some (.lst []):=Zy;generalize upd H3 e0 (.lst [])=H4 at s4 k4 h4 J i4 ⊢;refine⟨_,_,.lst (.of J) (YO.ints O),.lst (.of i4) .nil,ZaT O,rfl,_,rfl,?_⟩;have len:(O.map V.int).length=O.length:=List.length_map ..;have T4:∀l',0<=l'->Yy (upd H4 p (.dK (V8 q (a+1) l'))) p q (b+1):=fun l' i9=>⟨O,a+1,l',Zy,by rw[ZE h9];exact J,Y,i9,by omega,by omega⟩;refine ZQ (fun i5=>?ca) (fun i5=>?cb)
   case' ca=>
    have hn:(0:Int)<O.length:=by
     cases O with
     |nil=>exact absurd i5 (by decide)
     |cons x r=>simp only[Zi];omega
    have r0:=bt a (show (O.length:Int)≠0 by omega);have r1:=a9 a hn;obtain⟨j,ej⟩:=Int.eq_ofNat_of_zero_le r0;have hj:j<O.length:=by omega
    refine⟨_,rfl,_,rfl,_,rfl,q,_,rfl,.inl (.of J),?_⟩;rw[len];refine⟨_,_,rfl,rfl,hn,?_⟩;dsimp only;rw[ej];refine⟨q,_,_,_,rfl,rfl,.of J,Y6 (j:=j) (by rw[Zc,Zf hj];rfl),?_⟩;generalize O[j]=c
   case' cb=>
    refine⟨_,rfl,_,rfl,_,_,rfl,rfl,.inr ⟨by omega,by omega⟩,?_⟩;dsimp only;generalize a*a=c
   all_goals
    refine⟨_,rfl,_,_,rfl,rfl,⟨by decide,by decide,by decide⟩,_,_,rfl,rfl,_,rfl,?_⟩;refine ZQ (fun hA=>?_) (fun hA=>?_)
    ·refine⟨_,rfl,_,rfl,q,_,rfl,.inl (.of J),?_⟩
     rw[len];refine⟨_,_,rfl,rfl,_,rfl,?_⟩;refine ZQ (fun hB=>?_) (fun hB=>?_)
     ·have hc:0<=c:=by
       have:=of_decide_eq_true hA;have j4:(10:Int) ^ (18:Int).toNat=1000000000000000000:=by decide
       omega
      refine⟨_,rfl,_,rfl,_,_,rfl,rfl,⟨m0,m1⟩,_,rfl,p,_,rfl,Za6 h4,?_⟩;refine⟨_,rfl,_,rfl,_,_,rfl,rfl,m0,?_⟩;exact k _ _ (bt _ (by omega)) (a9 _ m0) (k4.trans fun b o e hb=>by rw[ZE hb];exact e) (T4 _ (Int.ediv_nonneg hc (by omega)))
     ·refine⟨_,rfl,_,_,rfl,rfl,(by show (0:Int)<_;decide),_,_,rfl,rfl,_,rfl,_,_,rfl,rfl,.inl ⟨by decide,by decide⟩,_,_,rfl,rfl,_,_,rfl,rfl,.inl ⟨by have:=bt c (show (2147483629:Int)≠0 by decide);omega,by have:=a9 c (show (0:Int)<2147483629 by decide);omega⟩,_,_,rfl,rfl,(by show (0:Int)<_;decide),?_⟩
      refine⟨_,rfl,_,_,rfl,rfl,.inr ⟨by decide,by decide⟩,_,rfl,_,rfl,_,_,rfl,rfl,.inr ⟨by omega,by omega⟩,_,_,rfl,rfl,.inr ⟨by decide,by decide⟩,_,_,rfl,rfl,_,_,rfl,rfl,(by show (0:Int)<_;decide),_,_,rfl,rfl,⟨by decide,by decide⟩,_,rfl,_,_,rfl,rfl,m0,?_⟩;exact k _ _ (bt _ (by omega)) (a9 _ m0) k4 ⟨O,a+1,l,h4,J,Y,l0,by omega,by omega⟩
    ·refine⟨_,rfl,_,_,rfl,rfl,(by show (0:Int)<_;decide),_,_,rfl,rfl,_,rfl,_,_,rfl,rfl,.inl ⟨by decide,by decide⟩,_,_,rfl,rfl,_,_,rfl,rfl,.inl ⟨by have:=bt c (show (2147483629:Int)≠0 by decide);omega,by have:=a9 c (show (0:Int)<2147483629 by decide);omega⟩,_,_,rfl,rfl,(by show (0:Int)<_;decide),?_⟩
     refine⟨_,rfl,_,_,rfl,rfl,.inr ⟨by decide,by decide⟩,_,rfl,_,rfl,_,_,rfl,rfl,.inr ⟨by omega,by omega⟩,_,_,rfl,rfl,.inr ⟨by decide,by decide⟩,_,_,rfl,rfl,_,_,rfl,rfl,(by show (0:Int)<_;decide),_,_,rfl,rfl,⟨by decide,by decide⟩,_,rfl,_,_,rfl,rfl,m0,?_⟩;exact k _ _ (bt _ (by omega)) (a9 _ m0) k4 ⟨O,a+1,l,h4,J,Y,l0,by omega,by omega⟩
end
end C61
namespace C61
open PySem L2 PySem.Spec PyProof.Rows
open Tx Pm
noncomputable abbrev Zfg:Stmt:=top 15
noncomputable abbrev Ze7:Stmt:=top 21
noncomputable abbrev Ze8:Stmt:=top 20
noncomputable abbrev Ze9:Stmt:=top 23
noncomputable abbrev Zfa:Stmt:=top 22
structure BlX (mg:Str->Option Value):Prop where
 str:mg "str"=none
 enumerate:mg "enumerate"=none
noncomputable def Xa:Sp:=fun z H Q _=>∃l,z=[.str (tx l)]/\Yz l/\l.length<=2000/\∀j,ZC H j->Q (.bl (Wn l)) j
noncomputable def Zdb:Sp:=fun j H Q _=>∃(k:Int) (p:Nat),j=[.int k,.int p]/\k.natAbs<10 ^ 500/\p<100/\Q (.str (tx (wd k p))) H
noncomputable def Zdc (K:ae):Sp:=fun J H Q _=>∃(a:Addr) (j:List Int),J=[.ref a]/\(Wr K H a (j.map V.int)\/Jq K H a (j.map V.int))/\(∀x∈j,x.natAbs<10 ^ 500)/\j.length<=60/\∀z,ZC H z->Q (.str (tx (WW j))) z
theorem XB {k:Int}(h:k.natAbs<10 ^ 500):k.natAbs.log2<1920:=by
 by_cases j:k.natAbs=0
 ·rw[j];decide
 ·refine (Nat.log2_lt j).mpr (cq h ?_)
  decide +kernel
section
variable {P:Program}{w:World}{K:ae}{mg:Str->Option Value}{base:Heap}
theorem Zef {f:Addr}{fd:FuncData}(F:Jf K "are_figures" "are_figures" Zfg f fd)(T:N61.Bl mg):Yj P w K mg base YW 1 f fd ["text"] Xa:=by
 refine F.ok (FS (N:=["text"])) (fun vs H Q E h=>?_) (fun h9 A J s H vs Q E hr h=>?_)
 ·obtain⟨l,rfl,_⟩:=h;rfl
 ·obtain⟨l,rfl,ha,hl,q⟩:=h
  refine⟨_,Zv (ZM (Zd1 (Jm WO (vn 0) ZA (ZB _)) (ZdZ (cb (ZbI rfl) T.all (pc (cmp ["sign"] [] ["sign"] rfl (Za4 (vn 0)) (fun _ _ _ _ _=>gn 0) (fun _ _ _ _ _=>Zcf) (fun _ _ _ _ _=>Jm U7 (vn 0) ZA (by rfl))) Zu))))),?_⟩;refine⟨_,rfl,rfl,_,rfl,?_⟩;rw[t_e,Wz];refine ZQ (fun O=>?_) (fun O=>?_)
  ·refine⟨_,rfl,_,rfl,UQ ha,?_⟩
   refine ZbE (Uo (tx l)) [] rfl dgV (by rw[Za];show l.length<=_;omega) (fun i x z j s' R h1=>?_) (fun D z nD s' hD=>?_)
   ·rw[Zc] at j
    cases e:(tx l).cps.toList[i]? with
    |none=>rw[e] at j;cases j
    |some c=>
     rw[e] at j;cases j;refine⟨_,rfl,_,_,rfl,rfl,?_⟩;rw[t_d,Zbk];have:R (V.bl ([c].all fun c=>decide (48<=c) && decide (c<=57))) z:=h1 z (ZC.refl _);rw[eg,eL,cW] at this;exact this
   ·rw[ZcS] at hD
    refine⟨D,_,rfl,.of hD,?_⟩;have:=q z s';unfold Wn at this;have Y:l.isEmpty=false:=by cases l with|nil=>exact absurd O (by decide)|cons _ _=>rfl
    rw[Y] at this;rw[List.all_map];exact this
  ·have:l=[]:=by simpa using O
   have hq:=q H (ZC.refl _);rw[this] at hq;exact hq
theorem Zd6 {f:Addr}{fd:FuncData}(F:Jf K "shown_place" "shown_place" Ze7 f fd)(T:N61.Bl mg)(TX:BlX mg):Yj P w K mg base YW 1 f fd ["k", "power"] Zdb:=by
 refine F.ok (FS (N:=["k", "power", "ahead"])) (fun vs H Q E h=>?_) (fun i5 A i4 s H vs Q E hr h=>?_)
 ·obtain⟨k,p,rfl,_⟩:=h;rfl
 ·obtain⟨k,p,rfl,hk,hp,q⟩:=h
  refine⟨_,Zs (ZT (Zw Z2 (vn 1) Zt (ZB _)) (Zv (ZM (ct Ye TX.str (pc (vn 0) Zu)))) ZF)
   (Zs (ZL 2 rfl (ct Ye TX.str (pc (vn 0) Zu)))
   (Zs (ZT (Zw Z2 (cb (Vu) T.abs (pc (vn 0) Zu)) Zt (ZB _)) (Zv (ZL 2 rfl (Z1 (Zw Y9 (vn 0) Zt (ZB _)) ZA ZA))) ZF)
   (Zv (ZM (ZD ZG (ZD ZG (vn 2) ZA) (Z1 (Zw Z2 (vn 1) Zt (ZB _)) ZA (ct Ye TX.str (pc (vn 1) Zu)))))))),?_⟩
  have lg:=XB hk;have lp:((p:Nat):Int).natAbs.log2<1920:=XB (by rw[cf];exact cq hp (by decide +kernel));have hz:(16777216:Nat)=sizeLine:=by decide
  have l1:=Wp (by decide) hk;have l2:(Wb ((p:Nat):Int)).length<=3:=Wp (by decide) (by rw[cf];exact hp);have ep:Wb ((p:Nat):Int)=ZJ p:=by unfold Wb;rw[if_neg (by omega),cf]
  refine⟨_,rfl,rfl,_,rfl,?_⟩;refine ZQ (fun O=>?_) (fun O=>?_)
  ·have O:p=0:=by simpa using O
   refine⟨_,rfl,_,rfl,lg,?_⟩;rw[str_int];unfold wd at q;rw[if_pos O] at q;exact q
  ·have O:p≠0:=by simpa using O
   refine⟨_,rfl,_,rfl,lg,?_⟩;rw[str_int];refine⟨_,rfl,_,rfl,rfl,_,rfl,?_⟩;have J:wd k p=(if k.natAbs=1 then (if k > 0 then [] else [45]) else Wb k)++122::(if p=1 then [] else ZJ p):=by unfold wd;rw[if_neg O]
   refine ZQ (fun Y=>?_) (fun Y=>?_)
   ·have Y:k.natAbs=1:=by
     have:=of_decide_eq_true Y;have:=V.int.inj this;split at this <;> omega
    rw[if_pos Y] at J;refine⟨_,rfl,_,_,rfl,rfl,_,rfl,?_⟩;refine ZQ (fun h2=>?_) (fun h2=>?_)
    case' refine_1=>
     rw[if_pos (by simpa using h2)] at J;rw[t_e];have lq:([]:List Nat).length<=501:=by decide
    case' refine_2=>
     rw[if_neg (by simpa using h2)] at J;rw[t_m];have lq:[45].length<=501:=by decide
    all_goals
     refine⟨_,rfl,_,_,rfl,rfl,?_,?_⟩
     ·rw[t_z,Zz,Zz];simp only[Zi,ao];omega
     rw[t_z,ZR];refine⟨_,rfl,rfl,_,rfl,?_⟩;refine ZQ (fun j=>?_) (fun j=>?_)
     ·have j:p=1:=by have:=V.int.inj (of_decide_eq_true j);omega
      rw[if_pos j] at J;refine⟨_,_,rfl,rfl,?_,?_⟩
      ·(try rw[t_e]);rw[Zz,Zz];simp only[Zd,Zi,ao];omega
      try rw[t_e]
      rw[ZR,aA];rw[J] at q;exact q
     ·have j:¬p=1:=fun z=>by rw[z] at j;exact absurd j (by decide)
      rw[if_neg j] at J;refine⟨_,rfl,_,rfl,lp,?_⟩;rw[str_int,ep];refine⟨_,_,rfl,rfl,?_,?_⟩
      ·rw[Zz,Zz,Zd];rw[ep] at l2;simp only[Zi,ao];omega
      rw[ZR,am];rw[J] at q;exact q
   ·have Y:¬k.natAbs=1:=fun z=>by
     refine Y (decide_eq_true ?_);congr 1;split <;> omega
    rw[if_neg Y] at J;have lq:=l1;refine⟨_,rfl,_,_,rfl,rfl,?_,?_⟩
    ·rw[t_z,Zz,Zz];simp only[Zi,ao];omega
    rw[t_z,ZR];refine⟨_,rfl,rfl,_,rfl,?_⟩;refine ZQ (fun j=>?_) (fun j=>?_)
    ·have j:p=1:=by have:=V.int.inj (of_decide_eq_true j);omega
     rw[if_pos j] at J;refine⟨_,_,rfl,rfl,?_,?_⟩
     ·rw[t_e,Zz,Zz];simp only[Zd,Zi,ao];omega
     rw[t_e,ZR,aA];rw[J] at q;exact q
    ·have j:¬p=1:=fun z=>by rw[z] at j;exact absurd j (by decide)
     rw[if_neg j] at J;refine⟨_,rfl,_,rfl,lp,?_⟩;rw[str_int,ep];refine⟨_,_,rfl,rfl,?_,?_⟩
     ·rw[Zz,Zz,Zd];rw[ep] at l2;simp only[Zi,ao];omega
     rw[ZR,am];rw[J] at q;exact q
theorem Zd7 {f:Addr}{fd:FuncData}(F:Jf K "shown_number" "shown_number" Ze8 f fd)(TX:BlX mg)(GP:Fn P w K mg base YW 1 "shown_place" ["k", "power"] Zdb):Yj P w K mg base YW 2 f fd ["one"] (Zdc K):=by
 refine F.ok (FS (N:=["one", "shown", "power", "k", "sign"])) (fun vs H Q E h=>?_) (fun i6 A i0 s H vs Q E hr h=>?_)
 ·obtain⟨a,xs,rfl,_⟩:=h;rfl
 ·obtain⟨a,xs,rfl,hS,hx,hl,q⟩:=h
  refine⟨_,Zs (ZL 1 rfl ZA)
   (Zs (JF aV rfl (Zex K TX.enumerate (pc (vn 0) Zu)) (g2 K 2 3 rfl (gn 2) (gn 3))
   (Zv (ZT (Zw WO (vn 3) Zt (ZB _)) (Zs (ZL 4 rfl (Z1 (YY (Zw WO (vn 1) ZA (ZB _)) (YA (Zw Y9 (vn 3) Zt (ZB _)))).pt ZA ZA))
   (Zv (ZL 1 rfl (ZD ZG (ZD ZG (vn 1) (vn 4)) (WR GP hr Z0 (pc (vn 3) (pc (vn 2) Zu))))))) ZF)))
   (Zv (ZM (Z1 (Zw Z2 (vn 1) ZA (ZB _)) ZA (vn 1))))),?_⟩
  have hz:(16777216:Nat)=sizeLine:=by decide
  refine⟨_,rfl,a,_,H,rfl,hS,ZC.refl _,fun J At S i4=>?_⟩;rw[t_e];refine Zbu S (fun i Y H'=>∃(O:List Nat) (v2 v3 v4:Option V),Y=[some (.ref a),some (.str (tx O)),v2,v3,v4]/\ZC H H'/\Y8 O (xs.drop i) i=Y8 [] xs 0/\O.length<=i*505)
   ⟨[],_,_,_,rfl,ZC.refl _,rfl,by simp⟩ (fun i Y H' h=>i4 _ h.choose_spec.choose_spec.choose_spec.choose_spec.2.1) ?_ ?_
  ·rintro i y Y H' T' hy ⟨O,v2,v3,v4,rfl,sm,j,i5⟩ nT
   obtain⟨hi,rfl⟩:=Zbc hy;have sT:=ZC.upd (o:=.tup [.int i,.int (Yd xs i)]) nT;have hd:=Wo hi;have h9:=hx _ (XG hi);have lw:=VD (p:=i) (e:=500) (by decide) h9 (by omega);refine⟨T',_,rfl,.of Zy,rfl,_,_,rfl,_,_,rfl,rfl,_,rfl,rfl,_,rfl,?_⟩;rw[hd,Yw] at j;refine ZQ (fun h0=>?_) (fun h0=>?_)
   ·have h0:Yd xs i≠0:=fun z=>by rw[z] at h0;exact absurd h0 (by decide)
    rw[if_neg h0] at j;refine⟨_,rfl,rfl,_,rfl,?_⟩;rw[Wz];refine ZQ (fun ha=>?A) (fun ha=>?B)
    case' A=>
     have ha:O≠[]:=by simpa using ha
     refine⟨_,rfl,_,_,rfl,rfl,_,rfl,?_⟩;refine ZQ (fun hp=>?A1) (fun hp=>?A2)
    case' A1=>
     rw[if_pos ⟨ha,by simpa using hp⟩] at j;rw[t_p]
    case' A2=>rw[if_neg (fun z=>hp (by simpa using z.2))] at j
    case' B=>rw[if_neg (fun z=>ha (by simpa using z.1))] at j
    all_goals
     refine⟨_,rfl,_,rfl,_,_,rfl,rfl,?_,?_⟩
     ·rw[Zz,Zz];simp only[Zi,ao];omega
     rw[ZR];refine⟨_,rfl,_,rfl,_,i,rfl,h9,by omega,_,_,rfl,rfl,?_,?_⟩
     ·rw[Zz,Zz];simp only[Zd,Zi,ao];omega
     rw[ZR];exact⟨_,_,_,_,rfl,sm.trans sT,j,by simp only[Zd,Zi,ao];omega⟩
   ·have h0:Yd xs i=0:=by simpa using h0
    rw[if_pos h0] at j;exact⟨O,_,_,_,rfl,sm.trans sT,j,by omega⟩
  ·rintro Y H' ⟨O,v2,v3,v4,rfl,sm,j,i5⟩
   rw[Za,dc] at j;have j:O=Y8 [] xs 0:=j;have hq:=q H' sm;unfold WW at hq;rw[<-j] at hq;refine⟨_,rfl,rfl,_,rfl,?_⟩;rw[Wz];refine ZQ (fun ha=>?_) (fun ha=>?_)
   ·rw[if_pos (by simpa using ha)] at hq
    rw[t_0];exact hq
   ·rw[if_neg (by simpa using ha)] at hq
    exact⟨_,rfl,hq⟩
end
end C61
namespace C61
open PySem L2 PySem.Spec PyProof.Rows PySem.NumText
open Tx Pm
noncomputable def Zdd:Sp:=fun z H Q _=>∃l,z=[.str (tx l)]/\Yz l/\l.length<=640/\(UV l=none->∀j,ZC H j->Q .non j)/\∀k p,UV l=some (k,p)->∀r j,ZC H j->j r=some (.tup [.int k,.int (p:Nat)])->Q (.ref r) j
section
variable {P:Program}{w:World}{K:ae}{mg:Str->Option Value}{base:Heap}
end
noncomputable def ZeW (K:ae):TS:=
 JY (VJ (Y7 (Jk rEq (Jk (Zb7 K) (Yc 1) (tC (V.int 1))) (tC (V.str (ar ""))))) (XY (tC (V.str (ar "0"))) (Yo 4))
   (VJ (Y7 (Jk rEq (Yc 4) (tC (V.str (ar ""))))) (XY (tC (V.str (ar "1"))) (Yo 4)) Jy))
  (JY (VJ (ZdF (Y7 (Jk rEq (Jk (Zb7 K) (Yc 1) (tC (V.int 1))) (tC (V.str (ar "z"))))) (Y7 (Jk rEq (Yc 3) (tC (V.str (ar "")))))) (XY (tC (V.str (ar "1"))) (Yo 3)) Jy)
   (JY (VJ (tOr (ZaM (tB (Jz Xa [] E0 (Yg (Yc 3) WC)))) (ZaM (tB (Jz Xa [] E0 (Yg (Yc 4) WC))))) (JZ (tC V.non)) Jy)
    (JZ (UR (Yg (Jk (rI ZbP fun i j=>V.int (i*j)) (Yc 2) (tCB (fun xs H Q=>∃x n,xs=[V.str x]/\x.length<=640/\intText? x=some n/\Q (V.int n) H) (Yg (Yc 3) WC)))
     (Yg (tCB (fun xs H Q=>∃x n,xs=[V.str x]/\x.length<=640/\intText? x=some n/\Q (V.int n) H) (Yg (Yc 4) WC)) WC))))))
theorem Zey {H1:Hp}{w0 w1:Option V}{sg:Int}{J O:List Nat}{D:YC}(hs:sg=1\/sg=-1)(af:Yz J)(ap:Yz O)(lf:J.length<=640)(lp:O.length<=640)
  (qn:¬(Wn J=true/\Wn O=true)->∀Y,ZC H1 Y->D.rt .non Y) (qs:Wn J=true/\Wn O=true->∀r Y,ZC H1 Y->Y r=some (.tup [.int (sg*(digitsVal J:Nat)),.int (digitsVal O:Nat)])->D.rt (.ref r) Y) :
  (JY (VJ (tOr (ZaM (tB (Jz Xa [] E0 (Yg (Yc 3) WC)))) (ZaM (tB (Jz Xa [] E0 (Yg (Yc 4) WC))))) (JZ (tC V.non)) Jy)
    (JZ (UR (Yg (Jk (rI ZbP fun i j=>V.int (i*j)) (Yc 2) (tCB (fun xs H Q=>∃x n,xs=[V.str x]/\x.length<=640/\intText? x=some n/\Q (V.int n) H) (Yg (Yc 3) WC)))
     (Yg (tCB (fun xs H Q=>∃x n,xs=[V.str x]/\x.length<=640/\intText? x=some n/\Q (V.int n) H) (Yg (Yc 4) WC)) WC))))) D [w0,w1,some (.int sg),some (.str (tx J)),some (.str (tx O))] H1:=by
 refine⟨_,rfl,J,rfl,af,by omega,fun H2 s2=>⟨_,rfl,?_⟩⟩;cases e1:Wn J
 ·exact qn (fun z=>by rw[e1] at z;cases z.1) H2 s2
 ·refine Yu (by decide) ?_
  refine⟨_,rfl,O,rfl,ap,by omega,fun H3 s3=>⟨_,rfl,?_⟩⟩;cases e2:Wn O
  ·exact qn (fun z=>by rw[e2] at z;cases z.2) H3 (s2.trans s3)
  ·refine Yu (by decide) ?_
   have f1:=YI.mp e1;have f2:=YI.mp e2;refine⟨_,rfl,_,rfl,_,_,rfl,lf,f8 (x:=tx J) f1.2 f1.1 (by rw[Zz];omega),_,_,rfl,rfl,.inl ⟨by omega,by omega⟩,?_⟩;refine⟨_,rfl,_,_,rfl,lp,f8 (x:=tx O) f2.2 f2.1 (by rw[Zz];omega),?_⟩;refine⟨(by show 2<=sizeLine;decide),fun r nr=>?_⟩;exact qs ⟨e1,e2⟩ r _ ((s2.trans s3).trans (ZC.upd nr)) Zy
theorem Zb6 {K:ae}{H1:Hp}{l a b:List Nat}{z:Bool}{p:Addr}{D:YC}(hc:ZO l=(a,z,b))(ha:Yz l)(hl:l.length<=640)
  (h1:H1 p=some (.tup [.str (tx a),.str (if z=true then ⟨#[122]⟩ else de),.str (tx (if z=true then b else []))]))
  (qn:UV l=none->∀Y,ZC H1 Y->D.rt .non Y) (qs:∀k p,UV l=some (k,p)->∀r Y,ZC H1 Y->Y r=some (.tup [.int k,.int (p:Nat)])->D.rt (.ref r) Y) :
  ZeW K D [some (.str (tx l)),some (.ref p),some (.int (if neg l=true then -1 else 1)),some (.str (tx (YT l))),some (.str (tx (if z=true then b else [])))] H1:=by
 obtain⟨la,lb,ma,mb,zb⟩:=XF hc;have af:Yz (YT l):=by
  unfold YT;rw[hc];split
  ·exact fun c h=>ha c (ma c (gy h))
  ·exact fun c h=>ha c (ma c h)
 have lf:(YT l).length<=640:=by
  unfold YT;rw[hc];split
  ·rw[aI];show a.length-1<=_;omega
  ·show a.length<=_;omega
 have h9:Yz [49]:=fun c h=>by rw[aD.mp h];decide
 have i0:Yz [48]:=fun c h=>by rw[aD.mp h];decide
 have hs:(if neg l=true then (-1:Int) else 1)=1\/(if neg l=true then (-1:Int) else 1)=-1:=by split <;> simp
 have j:∀{w0 w1:Option V}{fg pw:List Nat},fg=J1 l->pw=VS l->Yz fg->Yz pw->fg.length<=640->pw.length<=640->_:=fun {w0 w1 fg pw} e1 e2 af ap lf lp=>
  Zey (H1:=H1) (w0:=w0) (w1:=w1) (D:=D) hs af ap lf lp (fun hn=>qn (by unfold UV;rw[if_neg (by rw[<-e1,<-e2];exact hn)])) (fun hy=>qs _ _ (by unfold UV;rw[if_pos (by rw[<-e1,<-e2];exact hy),e1,e2]))
 have eP:VS l=if z=true then (if b=[] then [49] else b) else [48]:=by unfold VS;rw[hc]
 have eF:J1 l=if z=true/\YT l=[] then [49] else YT l:=by unfold J1;rw[hc]
 cases z
 ·refine⟨_,rfl,p,_,_,_,rfl,rfl,.of h1,rfl,rfl,_,rfl,?_⟩
  refine Y1 ?_;rw[t_0];refine⟨_,rfl,p,_,_,_,rfl,rfl,.of h1,rfl,rfl,_,rfl,?_⟩;refine Yu (by decide) ?_;refine Yu (by decide) ?_;exact j (by rw[eF,if_neg (fun h=>by cases h.1)]) (by rw[eP,if_neg (by decide)]) af i0 lf (by decide)
 ·refine⟨_,rfl,p,_,_,_,rfl,rfl,.of h1,rfl,rfl,_,rfl,?_⟩
  refine Yu (by decide) ?_;refine⟨_,rfl,rfl,_,rfl,?_⟩;rw[t_e,Wz];rw[if_pos rfl] at eP;refine ZQ (fun hb=>?A) (fun hb=>?B)
  case' A=>
   have hb:b=[]:=by simpa using hb
   rw[if_pos hb] at eP;rw[t_1];have J:=h9;have O:[49].length<=640:=by decide
  case' B=>
   have hb:¬b=[]:=by simpa using hb
   rw[if_neg hb] at eP;have J:Yz b:=fun c h=>ha c (mb c h);have O:b.length<=640:=by omega
  all_goals
   refine⟨_,rfl,p,_,_,_,rfl,rfl,.of h1,rfl,rfl,_,rfl,?_⟩;refine Y1 ?_;refine⟨_,rfl,rfl,_,rfl,?_⟩;rw[Wz];refine ZQ (fun hf=>?_) (fun hf=>?_)
   ·have hf:YT l=[]:=by simpa using hf
    rw[if_pos ⟨rfl,hf⟩] at eF
    try rw[t_1]
    exact j eF.symm eP.symm h9 J (by decide) O
   ·have hf:¬YT l=[]:=by simpa using hf
    rw[if_neg (fun h=>hf h.2)] at eF;exact j eF.symm eP.symm af J lf O
section
variable {P:Program}{w:World}{K:ae}{mg:Str->Option Value}{base:Heap}
theorem Zd8 {f:Addr}{fd:FuncData}(F:Jf K "read_place" "read_place" Ze9 f fd)(T:N61.Bl mg)(GA:Fn P w K mg base YW 1 "are_figures" ["text"] Xa):Yj P w K mg base YW 2 f fd ["word"] Zdd:=by
 refine F.ok (FS (N:=["word", "halves", "sign", "figures", "power"])) (fun vs H Q E h=>?_) (fun i0 A h9 s H vs Q E hr h=>?_)
 ·obtain⟨l,rfl,_⟩:=h;rfl
 ·obtain⟨l,rfl,ha,hl,qn,qs⟩:=h
  refine⟨_,Zs (ZL 1 rfl (Xd bx fQ PySem.F.type_str_partition ZcE (vn 0) (pc ZA Zu)))
   (Zs (ZL 2 rfl (Z1 (Wf (Xd bx fM PySem.F.type_str_startswith Zae (vn 0) (pc ZA Zu))) (Va Jw Zt) Zt))
   (Zs (ZL 3 rfl (Z1 (Zw Z2 (vn 2) (Va Jw Zt) (ZB _)) (ZU Yi (ZZ (Vi K) (vn 1) Zt (fun _ _=>rfl)) (ZV Zt) Z8) (ZZ (Vi K) (vn 1) Zt (fun _ _=>rfl))))
   (Zs (ZL 4 rfl (ZZ (Vi K) (vn 1) Zt (fun _ _=>rfl)))
   (Zs (ZT (Zw Z2 (ZZ (Vi K) (vn 1) Zt (fun _ _=>rfl)) ZA (ZB _)) (Zv (ZL 4 rfl ZA)) (Zv (ZT (Zw Z2 (vn 4) ZA (ZB _)) (Zv (ZL 4 rfl ZA)) ZF)))
   (Zs (ZT (YY (Zw Z2 (ZZ (Vi K) (vn 1) Zt (fun _ _=>rfl)) ZA (ZB _)) (YA (Zw Z2 (vn 3) ZA (ZB _)))).pt (Zv (ZL 3 rfl ZA)) ZF)
   (Zs (ZT (WM (Za3 (Wf (WR GA hr Z0 (pc (vn 3) Zu)))) (JE (Za3 (Wf (WR GA hr Z0 (pc (vn 4) Zu)))))).pt (Zv (ZM Ym)) ZF)
   (Zv (ZM (W0 (pc (ZD Y0 (vn 2) (ct Jc T.int (pc (vn 3) Zu))) (pc (ct Jc T.int (pc (vn 4) Zu)) Zu))))))))))),?_⟩
  have hz:(16777216:Nat)=sizeLine:=by decide
  rcases J:ZO l with ⟨a,z,b⟩;have Y:=U6 l;rw[J] at Y;obtain⟨la,lb,ma,mb,zb⟩:=XF J;refine⟨_,rfl,rfl,_,_,rfl,rfl,by rw[t_z];rfl,by rw[Zz];omega,fun p np=>?_⟩;rw[show aR (tx l) (ar "z")=aR (tx l) (⟨#[122]⟩:Str) from congrArg _ t_z,Y];have s1:=ZC.upd (H:=H) (o:=.tup [.str (tx a),.str (if z=true then ⟨#[122]⟩ else de),.str (tx (if z=true then b else []))]) np
  have O:=Zy (H:=H) (a:=p) (o:=.tup [.str (tx a),.str (if z=true then ⟨#[122]⟩ else de),.str (tx (if z=true then b else []))])
  generalize upd H p (.tup [.str (tx a),.str (if z=true then ⟨#[122]⟩ else de),.str (tx (if z=true then b else []))])=H1 at s1 O ⊢
  refine⟨_,rfl,rfl,_,_,rfl,rfl,_,rfl,?_⟩;rw[t_m,ZaN];have j:=Zb6 (K:=K) (D:={nx:=fun x H'=>Q V.non H',rt:=Q}) J ha hl O (fun e H' s=>qn e H' (s1.trans s)) (fun k p e r H' s=>qs k p e r H' (s1.trans s));cases en:neg l
  ·rw[en] at j
   have eF:YT l=a:=by unfold YT;rw[en,J];rfl
   rw[eF] at j;refine Yu (by decide) ?_;refine⟨_,rfl,_,rfl,rfl,_,rfl,?_⟩;refine Yu (by decide) ?_;refine⟨_,rfl,p,_,_,_,rfl,rfl,.of O,rfl,?_⟩;refine⟨_,rfl,p,_,_,_,rfl,rfl,.of O,rfl,?_⟩;exact j
  ·rw[en] at j
   have eF:YT l=a.drop 1:=by unfold YT;rw[en,J];rfl
   rw[eF] at j;refine Y1 ?_;refine⟨_,rfl,_,rfl,_,rfl,rfl,_,rfl,?_⟩;refine Y1 ?_;refine⟨_,rfl,p,_,_,_,rfl,rfl,.of O,rfl,_,rfl,tx a,rfl,by rw[Zz];omega,?_⟩;rw[show aZ (tx a) (some 1) none=tx (a.drop 1) from Jl a (i:=1) (ZcC en J)];refine⟨_,rfl,p,_,_,_,rfl,rfl,.of O,rfl,?_⟩;exact j
end
noncomputable abbrev Zfk:Stmt:=top 27
noncomputable abbrev Zfc:Stmt:=top 28
noncomputable def Zdj:Sp:=fun j H Q _=>∃a b:Int,j=[.int a,.int b]/\0<=b/\b<100/\Q (.bl (decide (N61.Vl a b=1))) H
noncomputable def Zdf (K:ae):Sp:=fun J H Q _=>∃(a:Addr) (j:List Int),J=[.ref a]/\Jq K H a (j.map V.int)/\(∀x∈j,x.natAbs<10 ^ 500)/\j.length<=60/\∀z,ZC H z->Q (.str (tx (WW j))) z
section
variable {P:Program}{w:World}{K:ae}{mg:Str->Option Value}{base:Heap}
theorem Zei {f:Addr}{fd:FuncData}(F:Jf K "_law_alone" "_law_alone" Zfk f fd):Yj P w K mg base YW 1 f fd ["_law_k", "_law_n"] Zdj:=by
 refine F.ok (FS (N:=["_law_k", "_law_n"])) (fun vs H Q E h=>?_) (fun i5 A i0 s H vs Q E hr h=>?_)
 ·obtain⟨a,b,rfl,_⟩:=h;rfl
 ·obtain⟨a,b,rfl,b0,b1,q⟩:=h
  refine⟨_,Zs (Wg aV (Zw Y9 (vn 1) Zt (ZB _)) (Zv (ZdT (i:=0) (j:=1) rfl (Yk (by kernel_rfl)) rfl rfl (by decide) (Z7 (by kernel_rfl)) (Z7 (by kernel_rfl)) (pc (vn 1) (pc (ZD YM (vn 0) (vn 1)) Zu)) rfl)))
   (Zv (ZM (Jm Z2 (vn 0) Zt (ZB _)))),?_⟩
  refine YQ (fun m O H'=>∃(a' J:Int),O=[some (.int a'),some (.int J)]/\H'=H/\0<=J/\J<m/\N61.ZcI m a' J=N61.Vl a b) (fun O H'=>∃J:Option V,O=[some (.int (N61.Vl a b)),J]/\H'=H) ?hend ⟨100,a,b,rfl,rfl,b0,b1,rfl⟩ ?turn
  case hend=>
   rintro O H' ⟨J,rfl,rfl⟩;refine⟨_,rfl,rfl,?_⟩;rw[show decide (V.int (N61.Vl a b)=V.int 1)=decide (N61.Vl a b=1) from by rw[be,decide_eq_true_eq,decide_eq_true_eq];exact⟨fun h=>V.int.inj h,fun h=>by rw[h]⟩];exact q
  case turn=>
   rintro h9 m O H' ⟨a',J,rfl,rfl,c0,c1,c2⟩;refine⟨_,rfl,_,_,rfl,rfl,_,rfl,?_⟩;obtain⟨m2,rfl⟩:∃m2,m=m2+1:=⟨m-1,by omega⟩;unfold N61.ZcI at c2;refine ZQ (fun Y=>?_) (fun Y=>?_)
   ·have Y:0<J:=of_decide_eq_true Y
    rw[if_pos Y] at c2;refine⟨_,fun _ _ z=>z,_,rfl,_,rfl,_,rfl,_,_,rfl,rfl,Y,_,_,rfl,m2,by omega,J,a' % J,rfl,rfl,bt _ (by omega),?_,c2⟩;have:=a9 a' Y;omega
   ·have Y:¬ 0<J:=fun z=>Y (decide_eq_true z)
    rw[if_neg Y] at c2;exact h9 _ _ ⟨_,by rw[c2],rfl⟩
theorem Zeb {f:Addr}{fd:FuncData}(F:Jf K "_law_shown" "_law_shown" Zfc f fd)(T:N61.Bl mg)(TX:BlX mg)(i6:mg "min"=none):Yj P w K mg base YW 1 f fd ["_law_number_here"] (Zdf K):=by
 refine F.ok (FS (N:=["_law_number_here", "_law_found", "_law_k", "_law_piece_here"])) (fun vs H Q E h=>?_) (fun j4 A i8 s H vs Q E hr h=>?_)
 ·obtain⟨a,xs,rfl,_⟩:=h;rfl
 ·obtain⟨a,xs,rfl,hS,hx,hl,q⟩:=h
  refine⟨_,Zs (ZL 1 rfl ZA)
   (Zs (JF aV rfl (ZdK T.range (pc (cb (Zai K) T.len (pc (vn 0) Zu)) Zu)) (gn 2)
   (Zv (ZT (Zw WO (ZZ (Vi K) (vn 0) (vn 2) (fun _ _=>rfl)) Zt (ZB _)) (Zs (ZL 3 rfl (ZD ZG (ct Ye TX.str (pc (ZZ (Vi K) (vn 0) (vn 2) (fun _ _=>rfl)) Zu)) (ZZ (ixL K) (YF (pc ZA (pc ZA (pc (ZD ZG ZA (ct Ye TX.str (pc (vn 2) Zu))) Zu)))) (cb (Jb rfl) i6 (pc (vn 2) (pc Zt Zu))) (fun _ _=>rfl))))
   (Zs (ZT (YY (Zw Y9 (vn 2) Zt (ZB _)) (YA (Zw Z2 (cb (Vu) T.abs (pc (ZZ (Vi K) (vn 0) (vn 2) (fun _ _=>rfl)) Zu)) Zt (ZB _)))).pt (Zv (ZL 3 rfl (ZD ZG (ZZ (ixL K) (YF (pc ZA (pc ZA Zu))) (ct ZaA T.int (pc (Jm Uv (ZZ (Vi K) (vn 0) (vn 2) (fun _ _=>rfl)) Zt (ZB _)) Zu)) (fun _ _=>rfl)) (ZZ (ixL K) (YF (pc ZA (pc ZA (pc (ZD ZG ZA (ct Ye TX.str (pc (vn 2) Zu))) Zu)))) (cb (Jb rfl) i6 (pc (vn 2) (pc Zt Zu))) (fun _ _=>rfl))))) ZF)
   (Zs (ZT (YY (Zw WO (vn 1) ZA (ZB _)) (YA (Zw Y9 (ZZ (Vi K) (vn 0) (vn 2) (fun _ _=>rfl)) Zt (ZB _)))).pt (Zv (ZL 3 rfl (ZD ZG ZA (vn 3)))) ZF)
   (Zv (ZL 1 rfl (ZD ZG (vn 1) (vn 3))))))) ZF)))
   (Zv (ZM (Z1 (Zw WO (vn 1) ZA (ZB _)) (vn 1) ZA)))),?_⟩
  have hz:(16777216:Nat)=sizeLine:=by decide
  rw[t_e];refine⟨_,rfl,a,_,rfl,.inr hS,_,rfl,by omega,by rw[Za];omega,?_⟩;rw[Za];refine W8 (fun i h9 H'=>∃(J:List Nat) (v2 v3:Option V),h9=[some (.ref a),some (.str (tx J)),v2,v3]/\ZC H H'/\Y8 J (xs.drop i) i=Y8 [] xs 0/\J.length<=i*505)
   ⟨[],_,_,rfl,ZC.refl _,rfl,by simp⟩ ?_ ?_
  ·rintro i h9 H' hi ⟨J,v2,v3,rfl,sm,j,i9⟩
   rw[show (0:Int)+(i:Int)=(i:Int) by omega];have hi:i<xs.length:=by omega
   have sS:Jq K H' a (xs.map V.int):=sm.tup hS;have O:=Y6 (UF hi);have hd:=Wo hi;have i0:=hx _ (XG hi);have lg:=XB i0;have lp:((i:Nat):Int).natAbs.log2<1920:=XB (by rw[cf];exact cq (show i<100 by omega) (by decide +kernel));have lw:=VD (p:=i) (e:=500) (by decide) i0 (by omega);have lb:=ZcW (p:=i) (by omega);have ld:=Wp (by decide) i0;have ln:(ZJ i).length<=2:=WT (by decide) (show i<10 ^ 2 by omega);have ep:Wb ((i:Nat):Int)=ZJ i:=by unfold Wb;rw[if_neg (by omega),cf]
   rw[hd,Yw] at j;refine⟨_,rfl,_,rfl,a,_,_,_,rfl,rfl,sS,O,rfl,_,rfl,?_⟩;refine ZQ (fun Y=>?_) (fun Y=>?_)
   ·have Y:Yd xs i≠0:=fun z=>by rw[z] at Y;exact absurd Y (by decide)
    rw[if_neg Y] at j;refine⟨_,rfl,_,rfl,a,_,_,_,rfl,rfl,sS,O,_,rfl,lg,_,rfl,_,rfl,lp,_,_,rfl,rfl,?_,(by show 3<=sizeLine;decide),fun l1 n1=>?_⟩
    ·rw[str_int,ep,t_z,Zz,Zz];simp only[Zi,ao];omega
    rw[str_int,str_int,ep,t_z,ZR];have s1:=sm.trans (ZC.upd (o:=.lst [V.str (tx []),V.str (tx [122]),V.str (tx (122::ZJ i))]) n1);have i4:=Zy (H:=H') (a:=l1) (o:=.lst [V.str (tx []),V.str (tx [122]),V.str (tx (122::ZJ i))]);show tCB _ _ _ (upd H' l1 (.lst [V.str (tx []),V.str (tx [122]),V.str (tx (122::ZJ i))])) _;generalize upd H' l1 (.lst [V.str (tx []),V.str (tx [122]),V.str (tx (122::ZJ i))])=H1 at s1 i4 ⊢;refine⟨_,rfl,_,_,rfl,l1,_,_,_,rfl,rfl,.of i4,ZbL i,_,_,rfl,rfl,?_,?_⟩
    ·rw[Zz,Zz];omega
    rw[ZR];have ew:=ZaF Y i;refine⟨_,rfl,_,_,rfl,rfl,_,rfl,?_⟩;refine ZQ (fun hp=>?A) (fun hp=>?B)
    case' B=>
     rw[if_neg (fun h=>hp (decide_eq_true (by have:=h.1;show (0:Int)<(i:Int);omega)))] at ew;rw[<-ew]
    case' A=>
     have hp:i≠0:=by have:=of_decide_eq_true hp;omega
     refine⟨_,rfl,_,rfl,a,_,_,_,rfl,rfl,s1.tup hS,O,_,rfl,rfl,_,rfl,?_⟩;refine ZQ (fun h1=>?A1) (fun h1=>?A2)
    case' A2=>
     rw[if_neg (fun h=>h1 (decide_eq_true (by congr 1;have:=h.2;split <;> omega)))] at ew
     rw[<-ew]
    case' A1=>
     have h1:(Yd xs i).natAbs=1:=by
      have:=V.int.inj (of_decide_eq_true h1);split at this <;> omega
     rw[if_pos ⟨hp,h1⟩] at ew;refine⟨(by show 2<=sizeLine;decide),fun l2 n2=>?_⟩;rw[t_m];have s2:=s1.trans (ZC.upd (o:=.lst [V.str (tx []),V.str (tx [45])]) n2);have i5:=Zy (H:=H1) (a:=l2) (o:=.lst [V.str (tx []),V.str (tx [45])]);clear s1 i4;generalize upd H1 l2 (.lst [V.str (tx []),V.str (tx [45])])=H2 at s2 i5 ⊢;clear n2 n1;refine⟨_,rfl,_,rfl,a,_,_,_,rfl,rfl,s2.tup hS,O,_,_,rfl,rfl,.inr ⟨_,rfl,l2,_,_,V.str (tx (if Yd xs i<0 then [45] else [])),rfl,rfl,.of i5,ZfD _,?_⟩⟩
     refine⟨_,rfl,_,rfl,lp,_,_,rfl,rfl,?_,(by show 3<=sizeLine;decide),fun l3 n3=>?_⟩
     ·rw[str_int,ep,Zz,Zz];simp only[Zi,ao];omega
     rw[str_int,ep,ZR];have s1:=s2.trans (ZC.upd (o:=.lst [V.str (tx []),V.str (tx [122]),V.str (tx (122::ZJ i))]) n3);have i7:=Zy (H:=H2) (a:=l3) (o:=.lst [V.str (tx []),V.str (tx [122]),V.str (tx (122::ZJ i))]);clear s2 i5;show tCB _ _ _ (upd H2 l3 (.lst [V.str (tx []),V.str (tx [122]),V.str (tx (122::ZJ i))])) _;generalize upd H2 l3 (.lst [V.str (tx []),V.str (tx [122]),V.str (tx (122::ZJ i))])=H3 at s1 i7 ⊢;refine⟨_,rfl,_,_,rfl,l3,_,_,_,rfl,rfl,.of i7,ZbL i,_,_,rfl,rfl,?_,?_⟩
     ·rw[Zz,Zz]
      have:(if Yd xs i<0 then [45] else []:List Nat).length<=1:=by split <;> simp
      omega
     rw[ZR,<-ew]
    case' B=>refine Yu (by decide) ?_
    all_goals
     refine⟨_,rfl,rfl,_,rfl,?_⟩;rw[Wz];refine ZQ (fun ha=>?_) (fun ha=>?_)
     ·have ha:J≠[]:=by simpa using ha
      refine⟨_,rfl,_,rfl,a,_,_,_,rfl,rfl,s1.tup hS,O,_,_,rfl,rfl,_,rfl,?_⟩;refine ZQ (fun hk=>?_) (fun hk=>?_)
      ·rw[if_pos ⟨ha,of_decide_eq_true hk⟩] at j
       refine⟨_,rfl,_,_,rfl,rfl,?_,?_⟩
       ·rw[t_p,Zz,Zz];simp only[Zi,ao];omega
       rw[t_p,ZR];refine⟨_,rfl,_,rfl,_,_,rfl,rfl,?_,?_⟩
       ·rw[Zz,Zz,Zd];simp only[Zi,ao];omega
       rw[ZR,<-am];exact⟨_,_,_,rfl,s1,j,by simp only[Zd,Zi,ao];omega⟩
      ·rw[if_neg (fun h=>hk (decide_eq_true h.2)),aA] at j
       refine⟨_,rfl,_,rfl,_,_,rfl,rfl,?_,?_⟩
       ·rw[Zz,Zz];omega
       rw[ZR];exact⟨_,_,_,rfl,s1,j,by rw[Zd];omega⟩
     ·rw[if_neg (fun h=>ha (by simpa using h.1)),aA] at j
      refine Yu (by decide) ?_;refine⟨_,rfl,_,rfl,_,_,rfl,rfl,?_,?_⟩
      ·rw[Zz,Zz];omega
      rw[ZR];exact⟨_,_,_,rfl,s1,j,by rw[Zd];omega⟩
   ·have Y:Yd xs i=0:=by simpa using Y
    rw[if_pos Y] at j;exact⟨J,_,_,rfl,sm,j,by omega⟩
  ·rintro h9 H' ⟨J,v2,v3,rfl,sm,j,i9⟩
   have:xs.drop (xs.length:Int).toNat=[]:=aY (by omega);rw[this] at j;have j:J=Y8 [] xs 0:=j;have hq:=q H' sm;unfold WW at hq;rw[<-j] at hq;refine⟨_,rfl,rfl,_,rfl,?_⟩;rw[Wz];refine ZQ (fun ha=>?_) (fun ha=>?_)
   ·rw[if_neg (by simpa using ha)] at hq
    exact⟨_,rfl,hq⟩
   ·rw[if_pos (by simpa using ha)] at hq
    rw[t_0];exact hq
end
noncomputable abbrev Zfe:Stmt:=top 29
noncomputable def Zdh:Sp:=fun J H Q _=>∃(p q:Addr) (wide b:Nat),J=[.ref p,.int (wide:Nat)]/\Yy H p q b/\b<2 ^ 59/\wide<=60/\∀(z:List Int) r j,Tk p H j->Yy j p q (b+2*wide)->z.length=wide->(∀x∈z,x.natAbs<10 ^ 20)->j r=some (.tup (z.map V.int))->Q (.ref r) j
section
variable {P:Program}{w:World}{K:ae}{mg:Str->Option Value}{base:Heap}
theorem Zed {f:Addr}{fd:FuncData}(F:Jf K "_law_number" "_law_number" Zfe f fd)(T:N61.Bl mg)(GD:Fn P w K mg base YW 1 "_law_draw" ["_law_feed_here", "_law_many"] Xq):Yj P w K mg base YW 2 f fd ["_law_feed_here", "_law_wide"] Zdh:=by
 refine F.ok (FS (N:=["_law_feed_here", "_law_wide", "_law_found", "_law_k", "_law_way", "_law_big"])) (fun vs H Q E h=>?_) (fun j9 A i5 s H vs Q E hr h=>?_)
 ·obtain⟨p,q,wide,b,rfl,_⟩:=h;rfl
 ·obtain⟨p,q,wide,b,rfl,T0,hb,hw,qq⟩:=h
  refine⟨_,Zs (ZL 2 rfl (YF Zu))
   (Zs (JF aV rfl (ZdK T.range (pc (vn 1) Zu)) (gn 3)
   (Zs (ZL 4 rfl (WR GD hr Z0 (pc (vn 0) (pc Zt Zu))))
   (Zs (ZL 5 rfl (Z1 (Zw Z2 (vn 4) Zt (ZB _)) (ZD Xz (ZD Xz (ZD VW Zt Zt) Zt) (WR GD hr Z0 (pc (vn 0) (pc (ZD VW Zt Zt) Zu)))) (WR GD hr Z0 (pc (vn 0) (pc Zt Zu)))))
   (Zv (Xx (Xd cS b9 cO Wt (vn 2) (pc (ZZ (ixL K) (YF (pc Zt (pc Zt (pc (Va Jw Zt) (pc (vn 5) (pc (ZD Xz Zt (vn 5)) (pc (vn 5) Zu))))))) (vn 4) (fun _ _=>rfl)) Zu)))))))
   (Zv (ZM (ct (tupK K) T.tuple (pc (vn 2) Zu))))),?_⟩
  have hz:(16777216:Nat)=sizeLine:=by decide
  have i6:(10:Int) ^ (20:Int).toNat=100000000000000000000:=by decide
  have e6:(10:Int) ^ (6:Int).toNat=1000000:=by decide
  refine⟨(by show 0<=sizeLine;omega),fun L nL=>?_⟩;refine⟨_,rfl,_,rfl,by omega,by omega,?_⟩;obtain⟨Y,i4⟩:=T0.neN nL;refine W8 (fun i h9 H'=>∃(O:List Int) (v3 v4 v5:Option V),h9=[some (.ref p),some (.int (wide:Nat)),some (.ref L),v3,v4,v5]/\Tk p H H'/\Yy H' p q (b+2*i)/\H' L=some (.lst (O.map V.int))/\O.length=i/\∀x∈O,x.natAbs<10 ^ 20)
   ⟨[],_,_,_,rfl,Tk.of (ZC.upd nL),T0.put Y i4,Zy,rfl,fun x hx=>by cases hx⟩ ?_ ?_
  ·rintro i h9 H1 hi ⟨O,v3,v4,v5,rfl,k1,T1,i0,hn,hx⟩
   refine⟨_,rfl,p,q,_,_,rfl,T1,by omega,by decide,by decide,fun r H2 r0 r6 k2 T2=>?_⟩;have i7:=k2.lst T1 i0;refine⟨_,rfl,rfl,_,rfl,?_⟩;refine ZQ (fun h5=>?A) (fun h5=>?B)
   case' A=>
    refine⟨_,_,rfl,rfl,⟨by decide,by decide,by decide⟩,_,_,rfl,rfl,_,rfl,_,_,rfl,rfl,⟨by decide,by decide,by decide⟩,p,q,_,_,rfl,T2,by omega,(by decide),(by decide),fun z H3 z0 z1 k3 T3=>?_⟩;refine⟨_,_,rfl,rfl,?_⟩;rw[e6] at z1;rw[i6];obtain⟨j,i8⟩:∃j,j=(100000000000000000000:Int)-1-z:=⟨_,rfl⟩;show Yo 5 (V.int (100000000000000000000-1-z)) _ _ _;rw[<-i8];have i9:0<=j/\j<100000000000000000000:=by omega
   case' B=>
    refine⟨_,rfl,p,q,_,_,rfl,T2,by omega,by decide,by decide,fun j H3 z0 z1 k3 T3=>?_⟩;have i9:0<=j/\j<100000000000000000000:=by omega
   all_goals
    have J:=k3.lst T2 i7;refine⟨_,rfl,.inl ⟨rfl,_,.of J⟩,_,rfl,_,rfl,_,rfl,_,_,rfl,rfl,_,rfl,(by show 6<=sizeLine;decide),fun l6 n6=>?_⟩;have s6:=ZC.upd (H:=H3) (o:=.lst [V.int 0,V.int 1,V.int (-1),V.int j,V.int (0-j),V.int j]) n6;have h6:=Zy (H:=H3) (a:=l6) (o:=.lst [V.int 0,V.int 1,V.int (-1),V.int j,V.int (0-j),V.int j]);obtain⟨v,hv,j4⟩:∃v:Int,atI [V.int 0,V.int 1,V.int (-1),V.int j,V.int (0-j),V.int j] r=some (.int v)/\v.natAbs<100000000000000000000:=by
     have:r=0\/r=1\/r=2\/r=3\/r=4\/r=5:=by omega
     rcases this with rfl|rfl|rfl|rfl|rfl|rfl
     ·exact⟨0,rfl,by decide⟩
     ·exact⟨1,rfl,by decide⟩
     ·exact⟨-1,rfl,by decide⟩
     ·exact⟨j,rfl,by omega⟩
     ·exact⟨0-j,rfl,by omega⟩
     ·exact⟨j,rfl,by omega⟩
    refine⟨_,rfl,l6,_,_,_,rfl,rfl,.of h6,hv,L,_,_,rfl,rfl,s6 _ _ J,by rw[Za];omega,?_⟩;have j8:L≠p:=Y;have k8:L≠l6:=fun z=>by rw[z,n6] at J;cases J
    refine⟨O++[v],_,_,_,rfl,fun c o ho hc=>?_,?_,?_,?_,fun x j6=>?_⟩
    ·have j7:c≠L:=fun z=>by rw[z,nL] at ho;cases ho
     rw[ZE j7];exact s6 _ _ (k3 _ _ (k2 _ _ (k1 _ _ ho hc) hc) hc)
    ·exact ((T3.mono s6).put Y i4).le (by omega)
    ·rw[Zy,cD];rfl
    ·rw[Zd,Zk,hn]
    ·rcases bd.mp j6 with h|h
     ·exact hx x h
     ·rw[aD.mp h];exact j4
  ·rintro h9 H1 ⟨O,v3,v4,v5,rfl,k1,T1,i0,hn,hx⟩
   refine⟨_,rfl,L,_,rfl,.inl ⟨.of i0,fun r nr=>?_⟩⟩;have sr:=ZC.upd (H:=H1) (o:=.tup (O.map V.int)) nr;exact qq O r _ (k1.trans (Tk.of sr)) ((T1.mono sr).le (by omega)) (by omega) hx Zy
end
end C61
namespace PyX
open PySem
noncomputable def JU (h:Heap)(C N:Addr)(z:List Value)(j:String):Prop:=
 ∃J q bs O Y sb ab cl dd k0 k1 k2 k3 k5,
  h.get? C=some (excClassObj J q C N bs z O Y sb ab cl dd k0 k1 k2 k3 k5 j)
theorem JU.keeps {h h':Heap}{C N:Addr}{bm:List Value}{j:String}(x:JU h C N bm j)
  (k:∀b o,h.get? b=some o->h'.get? b=some o):JU h' C N bm j:=by
 obtain⟨z,q,bs,hd,sn,J,O,Y,dd,k0,k1,k2,k3,k5,e⟩:=x;exact⟨z,q,bs,hd,sn,J,O,Y,dd,k0,k1,k2,k3,k5,k _ _ e⟩
noncomputable abbrev Zbx (xs:List Value):Obj:={cls:=.type "tuple",data:=.seq xs.toArray}
noncomputable abbrev Zbw (C a:Addr):Obj:=
 {cls:=.ref C,data:=.fields #[.ref a,.none,.none,.none,.bool false,.none]}
section
variable {prog:Program}{w:World}{A:Around}{E:Value->Shared->Prop}
variable {h:Heap}{gs:Array GenState}{dr:Drawn}{tk:Nat}{os:OsState}
variable {C N fI:Addr}{oI:Obj}{bm bB:List Value}{B nid iid:String}{mN:Str->Option Value}{xs:List Value}
theorem Jh {Q:Fin->Shared->Prop}(F:fz B nid iid bB)(T:OwnTail h bB bm)
    (x:JU h C N bm nid) (ns:h.Ns N mN) (hi:mN "__init__"=none)
    (hq:∀h' e,Heap.MadeExcOf h h' e (.ref C) xs->h.objs.size<=e->Q (.done (.ret (.ref e))) ⟨h',gs,dr,tk,os⟩)
    (hl:xs.length<=sizeLine) :
    wpAny (model prog w) A (aF.«type.__call__» ⟨.ref C::xs,[]⟩) Q E ⟨h,gs,dr,tk,os⟩:=by
  obtain⟨nm,q,bs,hd,sn,sb,ab,cl,dd,k0,k1,k2,k3,k5,J⟩:=x
  repeat (first
    |with_reducible refine aN J ?_
    |with_reducible refine wpAny_madeBy_exc J ?_
    |wp_step)
  refine codeAny_call_builtin_code (ek _ F.quiet)
    (wpAny_check_new_subT F T J (codeAny_exc_new_subT F T J ?_ hl))
  show wpAny _ _ _ _ _ _;have O:∀b o,h.get? b=some o->((h.push (Zbx xs)).push (Zbw C h.objs.size)).get? b=some o:=
    fun b o e=>Zn _ (Zn _ e)
  have j:=O _ _ J;have Y:=ns.keeps O;have T1:=T.keeps O;have he:((h.push (Zbx xs)).push (Zbw C h.objs.size)).get? (h.objs.size+1)=some (Zbw C h.objs.size):=by
    heap_get
  have z:(aw C::bm).contains (.ref C)=true:=by
    simp
  unfold isInstance
  repeat (first
    |with_reducible refine aN he ?_
    | (with_reducible refine bF j ?_
       rw[z])
    |wp_step)
  show wpAny _ _ (typeLookup (.ref C) _) _ _ _;refine wpAny_typeLookup_tail j Y T1 F.mroIs F.init.lookup ?_;rw[hi];refine eY (Zl (wpAny_of_eq (F.init.bind _) ?_));refine Zl (wpAny_call (eE F.init.plain F.initEntry (wpAny_check_init_subT F T1 j he rfl ?_)))
  wp_walk
  refine hq _ _ ⟨fun b o hb=>?_,dF (cV _),h.objs.size+2,?_,dF (by omega),?_⟩ (cV _)
  · rw[aH _ _ (ba (hX (Zp hb)))]
    exact Zn _ (O b o hb)
  · rw[bJ _ (Zn _ he) rfl]
    simp only[bn];rfl
  · rw[aH _ _ (show h.objs.size+1≠h.objs.size+2 by
      omega)]
    exact Heap.get?_push_at (by
      simp only[bn]) rfl
theorem Vs {Q:Value->Shared->Prop}(F:fz B nid iid bB)(T:OwnTail h bB bm)
  (x:JU h C N bm nid) (ns:h.Ns N mN) (z:mN "__init__"=none)
  (J:∀h' e,Heap.MadeExcOf h h' e (.ref C) xs->h.objs.size<=e->Q (.ref e) ⟨h',gs,dr,tk,os⟩)
  (hl:xs.length<=sizeLine) :
  wpAny (model prog w) A (call (.ref C) xs) Q E ⟨h,gs,dr,tk,os⟩:=by
 obtain⟨O,q,bs,hd,sn,Y,ab,cl,dd,k0,k1,k2,k3,k5,j⟩:=x;have f1:=tc_lookup;have f2:=tc_bind (.ref C);have hT:(⟨h,gs,dr,tk,os⟩:Shared).TypeIs (.ref C) "type":=⟨_,j,rfl⟩;refine wpAny_call (codeAny_of_tree ?_);show wpAny _ _ (callAny (.ref C) _) _ _ _
 repeat (any_goals (first
  |assumption
  |with_reducible refine aN j ?_
  |wp_step))
 refine⟨rfl,?_⟩;refine codeAny_call_builtin_at (ek _ (by decide +kernel)) entry_typeCall
  (wpAny_check_type_call_sub j (Jh F T ⟨O,q,bs,hd,sn,Y,ab,cl,dd,k0,k1,k2,k3,k5,j⟩
   ns z (fun h' e hm hz=>?_) hl))
 exact J h' e hm hz
theorem Ve {e D:Addr}{Y:Obj}{b:Bool}{Q:Bool->Shared->Prop}{ND:Addr}{j:List Value}{M:Model}
    (x:JU h C N bm nid) (y:JU h D ND j nid) (he:h.get? e=some Y) (z:Y.cls=.ref C)
    (J:j.contains (.type "BaseException")=true) (hb:(aw C::bm).contains (.ref D)=b)
    (hq:Q b ⟨h,gs,dr,tk,os⟩) :
    wpAny M A (excMatches (.ref e) (.ref D)) Q E ⟨h,gs,dr,tk,os⟩:=by
  obtain⟨nm,q,bs,hd,sn,sb,ab,cl,dd,k0,k1,k2,k3,k5,hC⟩:=x;obtain⟨h9,q1,i0,i4,i5,i6,i7,i8,i9,j0,j1,j2,j3,j5,hD⟩:=y;have O:(aw D::j).contains (.type "BaseException")=true:=by
    rw[aO,J,cG]
  have f:=tc_notTuple;unfold excMatches
  repeat (first
    | (with_reducible refine aN he ?_
       rw[z])
    |with_reducible refine aN hD ?_
    | (with_reducible refine bF hD ?_
       rw[O])
    | (with_reducible refine bF hC ?_
       rw[hb])
    |wp_step)
  cases b <;> (first|exact hq|(wp_walk;exact hq))
end
end PyX
namespace PyX
open PySem
open PySem.Builtin PySem.Builtin.ObjectAttr
noncomputable abbrev VE:List Value:=[.type "ValueError",.type "Exception",.type "BaseException",.type "object"]
noncomputable abbrev WA:String:="ValueError.__new__"
noncomputable def Vy (h:Heap)(C N:Addr)(z:List Value)(j:String):Prop:=
 ∃J q bs O Y ab cl dd k0 k1 k2 k3 k5,
  h.get? C=some (excClassObj J q C N bs z true O Y ab cl dd k0 k1 k2 k3 k5 j)
theorem Vy.ex {h:Heap}{C N:Addr}{bm:List Value}{j:String}(x:Vy h C N bm j):JU h C N bm j:=by
 obtain⟨z,q,bs,sn,J,O,Y,dd,k0,k1,k2,k3,k5,e⟩:=x;exact⟨z,q,bs,true,sn,J,O,Y,dd,k0,k1,k2,k3,k5,e⟩
theorem Vy.keeps {h h':Heap}{C N:Addr}{bm:List Value}{j:String}(x:Vy h C N bm j)
  (k:∀b o,h.get? b=some o->h'.get? b=some o):Vy h' C N bm j:=by
 obtain⟨z,q,bs,sn,J,O,Y,dd,k0,k1,k2,k3,k5,e⟩:=x;exact⟨z,q,bs,sn,J,O,Y,dd,k0,k1,k2,k3,k5,k _ _ e⟩
structure Xn (h:Heap)(C N T U:Addr)(nid:String)(mN mT:Str->Option Value):Prop where
 c:Vy h C N (.ref T::VE) nid
 t:Vy h T U VE nid
 nsC:h.Ns N mN
 nsT:h.Ns U mT
 ini:mT "__init__"=none
section
variable {h h':Heap}{C N T U:Addr}{nid:String}{mN mT:Str->Option Value}
theorem Xn.keeps (x:Xn h C N T U nid mN mT)(k:∀b o,h.get? b=some o->h'.get? b=some o):Xn h' C N T U nid mN mT:=
 ⟨x.c.keeps k,x.t.keeps k,x.nsC.keeps k,x.nsT.keeps k,x.ini⟩
theorem Xn.tail (x:Xn h C N T U nid mN mT):OwnTail h VE (.ref T::VE):=by
 obtain⟨j,q,bs,sn,z,J,O,Y,k0,k1,k2,k3,k5,e⟩:=x.t;exact .own e x.nsT x.ini .base
variable {M:Model}{A:Around}{E:Value->Shared->Prop}{gs:Array GenState}{dr:Drawn}{tk:Nat}{os:OsState}
theorem Xn.look (x:Xn h C N T U nid mN mT){name:Str}{y:Option Value}{Q:Option Value->Shared->Prop}
  (J:typeLookup (.type "ValueError") name=pure y)
  (j:Q (match mN name with|some v=>some v|none=>(match mT name with|some v=>some v|none=>y)) ⟨h,gs,dr,tk,os⟩) :
  wpAny M A (typeLookup (.ref C) name) Q E ⟨h,gs,dr,tk,os⟩:=by
 obtain⟨nm,q,bs,sn,sb,ab,cl,dd,k0,k1,k2,k3,k5,O⟩:=x.c;obtain⟨h9,q',i0,i4,i5,i6,i7,i8,j0,j1,j2,j3,j5,eT⟩:=x.t;have r:lookupAlong VE name=pure y:=by
  rw[typeLookup_eq,dX.mroIs] at J;exact J
 rw[typeLookup_eq];refine Zl (wpAny_mroOf_exc O ?_);rw[lookupAlong_cons];refine Zl (wpAny_classOwn_exc O x.nsC ?_);cases Y:mN name with
 |some v=>
  rw[Y] at j;exact Zm j
 |none=>
  rw[Y] at j;simp only[];rw[lookupAlong_cons];refine Zl (wpAny_classOwn_exc eT x.nsT ?_);cases z:mT name with
  |some v=>
   rw[z] at j;exact Zm j
  |none=>
   rw[z] at j;simp only[];rw[r];exact Zm j
theorem Xn.lookB (x:Xn h C N T U nid mN mT){name:Str}{y:Option Value}{Q:Option Value->Shared->Prop}
  (j:typeLookup (.type "ValueError") name=pure y) (z:mN name=none) (J:mT name=none)
  (O:Q y ⟨h,gs,dr,tk,os⟩):wpAny M A (typeLookup (.ref C) name) Q E ⟨h,gs,dr,tk,os⟩:=
 x.look j (by
  rw[z];simp only[];rw[J];exact O)
end
section
variable {prog:Program}{w:World}{h:Heap}{C N T U x:Addr}{nid:String}{mN mT mA:Str->Option Value}
variable {A:Around}{E:Value->Shared->Prop}{gs:Array GenState}{dr:Drawn}{tk:Nat}{os:OsState}
variable {name:Str}{v:Value}
noncomputable abbrev SF:=F.store_ValueError
theorem ZcV {M:Model}{o:Obj}{j:Value}{Q:Unit->Shared->Prop}(c:Xn h C N T U nid mN mT)
    (z:h.get? x=some o) (J:o.cls=.ref C) (O:Q () ⟨h,gs,dr,tk,os⟩) :
    wpAny M A (checkBuiltinCall "BaseException.__getattribute__" ⟨[.ref x,j],[]⟩) Q E ⟨h,gs,dr,tk,os⟩:=by
  obtain⟨nm,q,bs,sn,sb,ab,cl,dd,k0,k1,k2,k3,k5,Y⟩:=c.c;have hk:builtinKind "BaseException.__getattribute__"=some .slot:=by
    decide +kernel
  have hs:splitId "BaseException.__getattribute__"=some ("BaseException", "__getattribute__"):=by
    decide +kernel
  have hO:(aw C::aw T::VE).contains (.type "BaseException")=true:=by
    rw[aO,aO,dX.hasBase,cG,cG]
  have ha:=F.args_bexc_ga (.ref x) j;simp only[checkBuiltinCall,hk,hs];refine Zl ?_;unfold isInstance
  repeat (first
    | (with_reducible refine aN z ?_
       rw[J])
    | (with_reducible refine bF Y ?_
       rw[hO])
    |wp_step)
  exact O
end
end PyX
namespace PyX
open PySem
noncomputable abbrev V7 (l:List Env):List Addr:=l.filterMap (·.frame)
noncomputable def Ex (h:Heap)(e C:Addr)(d:Option Addr)(T:Addr)(O:Value):Prop:=
 ∃j z J,h.get? e=some {cls:=.ref C,dict:=d,data:=.fields j}/\j[1]?=some (.ref T)/\
  T≠e/\h.get? T=some z/\z.data=.fields J/\J[3]?=some O
noncomputable def Ex0 (h:Heap)(e C:Addr)(d:Option Addr):Prop:=
 ∃j,h.get? e=some {cls:=.ref C,dict:=d,data:=.fields j}/\j[1]?=some .none
noncomputable def But (l:List Env)(xs:List Addr)(h h':Heap):Prop:=
 (∀b o,h.get? b=some o->b∉V7 l->b∉xs->h'.get? b=some o)/\
 (∀b o,h.get? b=some o->b∉xs->∃j,h'.get? b=some {o with slots:=j})
section
variable {M:Model}{A:Around}{E:Value->Shared->Prop}{s:Shared}
variable {base:Heap}{env:Env}{outer:List Env}{L e C T:Addr}{d:Option Addr}{fl:Value}{vs:Array Value}
theorem newEntry {head:Value}{nx:Bool}{Q:Unit->Shared->Prop}
  (fr:A.frames=some (env::outer)) (hl:s.heap.FunFrames base (env::outer)) (hf:env.frame=some L)
  (he:s.heap.get? e=some {cls:=.ref C,dict:=d,data:=.fields vs}) (sz:1<vs.size)
  (hq:∀h' T,s.heap.objs.size<=T->Ex h' e C d T (rawInt L)->But (env::outer) [e] s.heap h'->Q () {s with heap:=h'}) :
  wpAny M A (do let a <-frameOf env;let Y <-entryPlaceOf L nx;let b <-fJ head a .none (rawInt L) .none Y;setField (.ref e) 1 b)
   Q E s:=by
 have h9:e∉(env::outer).filterMap (·.frame):=fun hm=>by
  obtain⟨_,o,ho,i0⟩:=hl.mem hm;rw[he] at ho;injection ho with ho;subst ho;exact i0 vs rfl
 refine Zl (wpAny_frameOf_fun fr hl hf fun j k1=>?_);refine Zl (wpAny_entryPlaceOf fun Y i4=>?_);unfold fJ newFields;refine Zl (cy ?_ (i4.sizeOk5 _ _ _ _ _));have e1:j.get? e=some {cls:=.ref C,dict:=d,data:=.fields vs}:=(k1.2.1 e h9).trans he;generalize hO:({cls:=.type "traceback",dict:=none,data:=.fields ([head,.ref L,.none,rawInt L,.none]++(if Y.isEmpty then ag 6 bj else Y)).toArray}:Obj)=oT
 have e2:=Zn (h:=j) oT e1;have i5:oT.isFreed=false:=by
  rw[<-hO];rfl
 refine eD e2 rfl sz (hq _ j.objs.size ?_ ?_ ?_)
 ·rw[k1.1]
  exact Zq _
 ·have O:j.objs.size≠e:=ba (Zp e1)
  have e3:=bJ (ei (·.setIfInBounds 1 (aw j.objs.size))) e2 rfl;have t3:=(aH (j.push oT) (ei (·.setIfInBounds 1 (aw j.objs.size))) (a8 O)).trans (Zo j i5);refine⟨vs.setIfInBounds 1 (.ref j.objs.size),oT,_,e3,by simp[sz],O,t3,(by rw[<-hO]),?_⟩;simp
 ·refine⟨fun b o q n m=>?_,fun b o q m=>?_⟩
  ·have J:b≠e:=fun z=>m (by simp[z])
   rw[aH _ _ (a8 J)];exact Zn _ ((k1.2.1 b n).trans q)
  ·have J:b≠e:=fun z=>m (by simp[z])
   obtain⟨sl,q'⟩:=k1.2.2 b o q;refine⟨sl,?_⟩;rw[aH _ _ (a8 J)];exact Zn _ q'
theorem VX {Q:Unit->Shared->Prop}
  (J:A.frames=some (env::outer)) (hl:s.heap.FunFrames base (env::outer)) (j:env.frame=some L) (x:Ex0 s.heap e C d)
  (O:∀h' T,s.heap.objs.size<=T->Ex h' e C d T (rawInt L)->But (env::outer) [e] s.heap h'->Q () {s with heap:=h'}) :
  wpAny M A (noteFrame (.ref e) env) Q E s:=by
 obtain⟨vs,he,z⟩:=x;unfold noteFrame;simp only[j];refine Zl (bf he rfl z ?_);rw[if_neg (by decide)];exact newEntry J hl j he (bN.mp z).1 O
theorem Zab {Q:Unit->Shared->Prop}
  (fr:A.frames=some (env::outer)) (hl:s.heap.FunFrames base (env::outer)) (hf:env.frame=some L) (x:Ex s.heap e C d T .none)
  (hq:∀h' Y,s.heap.objs.size<=Y->Ex h' e C d Y (rawInt L)->But (env::outer) [e,T] s.heap h'->Q () {s with heap:=h'}) :
  wpAny M A (noteFrame (.ref e) env) Q E s:=by
 obtain⟨vs,oT,ts,he,h1,h9,hT,J,h3⟩:=x;unfold noteFrame;simp only[hf];refine Zl (bf he rfl h1 ?_);rw[if_pos (show (aw T != bj)=true from by simp)];refine Zl (bf hT J h3 ?_);rw[if_neg (show ¬((bj == rawInt L)=true) from by simp[rawInt])];refine Zl (eD hT J (bN.mp h3).1 ?_);have j:∀b,b≠T->(s.heap.update T (ei (·.setIfInBounds 3 bj))).get? b=s.heap.get? b:=
  fun b hb=>aH _ _ (a8 hb)
 have i0:∀b o,s.heap.get? b=some o->(∀ws,o.data≠.fields ws)->b≠T:=fun b o hb O z=>by
  rw[z,hT] at hb;injection hb with hb;subst hb;exact O ts J
 refine newEntry fr (hl.of_keeps fun b o hb O=>⟨o,(j b (i0 b o hb O)).trans hb,rfl⟩) hf
  ((j e (a8 h9)).trans he) (bN.mp h1).1 fun h' Y n x k=>hq h' Y ?_ x ?_
 ·have n':(s.heap.update T (ei (·.setIfInBounds 3 bj))).objs.size<=Y:=n
  rw[Heap.size_after_update] at n';exact n'
 ·refine⟨fun b o q nf m=>?_,fun b o q m=>?_⟩
  ·have b1:b≠T:=fun z=>m (by simp[z])
   exact k.1 b o ((j b b1).trans q) nf fun z=>m (by simp at z;simp[z])
  ·have b1:b≠T:=fun z=>m (by simp[z])
   exact k.2 b o ((j b b1).trans q) fun z=>m (by simp at z;simp[z])
theorem Wl {Q:Unit->Shared->Prop}(x:Ex s.heap e C d T fl)
  (hq:∀h',Ex h' e C d T .none->But [] [T] s.heap h'->Q () {s with heap:=h'}) :
  wpAny M A (setFlight (.ref e) none) Q E s:=by
 obtain⟨vs,oT,ts,he,O,J,Y,j,h3⟩:=x;have sz:3<ts.size:=(bN.mp h3).1;refine wpAny_setFlight_none he rfl O Y j sz (hq _ ?_ ?_)
 ·exact⟨vs,_,_,(aH _ _ J).trans he,O,J,
   bJ _ Y (gv (cN j _)),cN j _,by simp[sz]⟩
 ·refine⟨fun b o q _ m=>?_,fun b o q m=>⟨o.slots,?_⟩⟩
  ·rw[aH _ _ (fun z=>m (by simp[z]))]
   exact q
  ·rw[aH _ _ (fun z=>m (by simp[z]))]
   exact q
theorem But.nil {l:List Env}{xs:List Addr}{h h':Heap}(a:But [] xs h h'):But l xs h h':=
 ⟨fun b o q _ m=>a.1 b o q (by simp) m,a.2⟩
theorem Vh {Q:Unit->Shared->Prop}
  (J:A.frames=some (env::outer)) (hl:s.heap.FunFrames base (env::outer)) (O:env.frame=some L) (x:Ex0 s.heap e C d)
  (Y:∀h' T,s.heap.objs.size<=T->Ex h' e C d T .none->But (env::outer) [e] s.heap h'->Q () {s with heap:=h'}) :
  wpAny M A (leaving env (.ref e)) Q E s:=by
 unfold leaving;refine Zl (VX J hl O x fun h1 T n x1 j=>?_);refine Wl x1 fun h2 x2 z=>?_;refine Y h2 T n x2 ⟨fun b o q nf m=>?_,fun b o q m=>?_⟩
 ·have hb:b≠T:=ay (aj (Zp q) n)
  exact z.1 b o (j.1 b o q nf m) (by simp) (by simp[hb])
 ·have hb:b≠T:=ay (aj (Zp q) n)
  obtain⟨sl,q1⟩:=j.2 b o q m;exact⟨sl,z.1 b _ q1 (by simp) (by simp[hb])⟩
end
end PyX
namespace L2
open PySem PySem.Spec PyProof.Rows
noncomputable def CXE (P:Program)(w:World):VB:=fun j H s E e z=>
 ∃a C d T J,e=.ref a/\z.os=s.os/\dk z.gens/\Un (V7 j) [] H J s.heap z.heap/\WI P w J z.heap/\
  PyX.Ex z.heap a C d T .none/\s.heap.objs.size<=a/\s.heap.objs.size<=T/\J a=none/\J T=none/\E (.ref C) d J
section
variable {X:Cx}{pins:List (Addr×Obj)}{σ:St}{H:Hp}{s:Shared}
noncomputable def Wa (X:Cx)(pins:List (Addr×Obj))(H:Hp)(b:Addr):Prop:=
 X.s₀.heap.objs.size<=b/\H b=none/\b≠X.env.locals/\(∀x c,X.env.cells.lookup x=some c->c≠b)/\∀p∈X.pn++pins,p.1≠b
theorem Inv.loose (I:Inv X pins σ H s){b:Addr}(h:s.heap.objs.size<=b)(n:H b=none):Wa X pins H b:=by
 refine⟨aG I.sz h,n,?_,fun x c e z=>?_,fun p j z=>?_⟩
 ·exact ba (aj I.lt h)
 ·obtain⟨v,o,J,hd⟩:=I.cell x c e
  exact absurd (aj (Zp J) h) (by rw[z];exact aW _)
 ·exact absurd (aj (Zp (I.pin p j).1) h) (by rw[z];exact aW _)
theorem Inv.but {xs:List Addr}{h':Heap}{t':Nat}(I:Inv X pins σ H s)(k:PyX.But X.stack xs s.heap h')(J:∀b∈xs,Wa X pins H b) :
  Inv X pins σ H {s with heap:=h',toks:=t'}:=by
 refine I.call (ch:=xs) (g':=s.gens) (d':=s.drawn) ⟨fun b o e _ O j=>k.1 b o e O j,fun b o e _ _ j=>k.2 b o e j,fun _ _ _ n _=>n,fun b o e j=>?_,fun _ _ q=>q,fun _ _ _ q=>q,
  fun _ ps q=>⟨#[],by rw[q];simp⟩⟩ (fun a o e=>?_) I.bare fun b hb=>?_
 ·obtain⟨sl,q⟩:=k.2 b o e j
  exact⟨_,q⟩
 ·have z:∀b u,(∃o,H b=some o)->s.heap.get? b=some u->h'.get? b=some u:=fun b u ⟨o',n⟩ q=>by
   refine k.1 b u q (fun Y=>?_) fun hb=>?_
   ·rw[I.stkFree b Y] at n
    cases n
   ·rw[(J b hb).2.1] at n
    cases n
  refine (I.hok a o e).stay (fun b u hb q=>z b u ?_ q) (fun c r=>r) fun c ys r=>r;rcases hb with rfl|hb
  ·exact⟨o,e⟩
  ·exact⟨_,hb⟩
 ·obtain⟨h1,h2,h3,h4,h5⟩:=J b hb
  exact⟨.inr h1,h3,h4,h5⟩
theorem Inv.afterX {E:XK}{e:Value}{s':Shared}(I:Inv X pins σ H s)(h:CXE X.prog X.w X.stack H s E e s') :
  ∃a C d T j,e=.ref a/\Inv X pins σ j s'/\PyX.Ex s'.heap a C d T .none/\Wa X pins j a/\Wa X pins j T/\E (.ref C) d j:=by
 obtain⟨a,C,d,T,j,rfl,z,O,u,hok,x,Y,hT,na,nT,q⟩:=h;have J:Inv X pins σ j s':=I.call' z u hok O fun b hb=>absurd hb (by simp);have lo:∀b,s.heap.objs.size<=b->j b=none->Wa X pins j b:=fun b hb n=>by
  obtain⟨h1,_,h3,h4,h5⟩:=I.loose hb (I.hok.fresh hb);exact⟨h1,n,h3,h4,h5⟩
 exact⟨a,C,d,T,j,rfl,J,x,lo a Y na,lo T hT nT,q⟩
end
noncomputable def ZbM (X:Cx)(E:XK):Prop:=∀(j:List (Addr×Obj)) (z:St) (H:Hp) (s:Shared) (a C:Addr) (d:Option Addr),
 Inv X j z H s->PyX.Ex0 s.heap a C d->Wa X j H a->E (.ref C) d H->X.xe (.ref a) s
section
variable {P:Program}{w:World}{K:ae}{mg:Str->Option Value}{base:Heap}{N:List Str}{qual:Str}{scope:Scope}{f:Addr}{cd:Value}
variable {A:Around}{outer:List Env}{s:Shared}{H:Hp}{E:XK}
theorem ZeR {X:Cx}{j:List (Addr×Obj)}{σ:St}{z:Hp}{s':Shared}(I:Inv X j σ z s')(J:X.ex=[]):Un X.fs [] X.H₀ z X.s₀.heap s'.heap:=by
 have:=I.base;rw[J] at this;exact this
theorem Jx:ZbM (Vn (CXE P w) P w K mg base N qual scope f cd A outer s H E) E:=by
 intro j σ z s1 a C d I x lo q;show wpAny _ _ _ _ _ _;refine PyX.Vh (base:=base) I.ok.frames I.stack rfl x fun h' T O x' k=>?_;have Y:Wa (Vn (CXE P w) P w K mg base N qual scope f cd A outer s H E) j z T:=I.loose O (I.hok.fresh O);have J:=I.but (t':=s1.toks) k fun b hb=>by
  obtain rfl:b=a:=by simpa using hb
  exact lo
 exact⟨a,C,d,T,z,rfl,J.os,J.bare,ZeR J rfl,J.hok,x',lo.1,Y.1,lo.2.1,Y.2.1,q⟩
end
noncomputable def UI (a C:Addr)(d:Option Addr):HO:=.ext fun h=>∃j,h.get? a=some {cls:=.ref C,dict:=d,data:=.fields j}
noncomputable def Cx.suite (X:Cx)(a:Addr)(j:List (Addr×Obj)):Cx:=
 {X with A:=X.A.mark (some (.ref a)),calm:=false,xe:=fun _ _=>False,pn:=X.pn++j}
noncomputable def Cx.tryc (X:Cx)(D:YC)(j:List (Addr×Obj))(z:List ExceptHandler):Cx:=
 { X with
  pn:=X.pn++j
  xe:=fun e J=>wpAny (model X.prog X.w) X.A (noteFrame e X.env) (fun _ O=>wpAny (model X.prog X.w) X.A (setFlight e none)
   (fun _ Y=>wpAny (model X.prog X.w) X.A (handleBy e X.env z) (SP X j D) X.xe Y) X.xe O) X.xe J}
section
variable {X:Cx}{pins:List (Addr×Obj)}{σ:St}{H:Hp}{s:Shared}{D:YC}{hs:List ExceptHandler}{a:Addr}
theorem Inv.toTry (I:Inv X pins σ H s):Inv (X.tryc D pins hs) [] σ H s:=
 ⟨⟨I.ok.mod,I.ok.kind,I.ok.glob,I.ok.blt,I.ok.above,I.ok.inj,I.ok.has,I.ok.cab,I.ok.hd,I.ok.frames,I.ok.stk,I.ok.exf,I.ok.bs,I.ok.bsz,I.ok.noex,I.ok.exfs,I.ok.funs,I.ok.frf⟩,
  I.os,I.bare,I.base,I.loc,I.cell,I.free,I.freeC,fun p j=>I.pin p (by
   rw[aA] at j;exact j),I.hok,I.len⟩
theorem Inv.ofTry {j:List (Addr×Obj)}(I:Inv (X.tryc D pins hs) j σ H s):Inv X pins σ H s:=
 ⟨⟨I.ok.mod,I.ok.kind,I.ok.glob,I.ok.blt,I.ok.above,I.ok.inj,I.ok.has,I.ok.cab,I.ok.hd,I.ok.frames,I.ok.stk,I.ok.exf,I.ok.bs,I.ok.bsz,I.ok.noex,I.ok.exfs,I.ok.funs,I.ok.frf⟩,
  I.os,I.bare,I.base,I.loc,I.cell,I.free,I.freeC,fun p z=>I.pin p (bb _ z),I.hok,I.len⟩
theorem Inv.toSuite (I:Inv X pins σ H s):Inv (X.suite a pins) [] σ H s:=
 ⟨⟨I.ok.mod,I.ok.kind,I.ok.glob,I.ok.blt,I.ok.above,I.ok.inj,I.ok.has,I.ok.cab,fun z=>(by cases z),I.ok.frames,I.ok.stk,I.ok.exf,I.ok.bs,I.ok.bsz,I.ok.noex,I.ok.exfs,I.ok.funs,I.ok.frf⟩,
  I.os,I.bare,I.base,I.loc,I.cell,I.free,I.freeC,fun p j=>I.pin p (by
   rw[aA] at j;exact j),I.hok,I.len⟩
theorem Inv.ofSuite (j:X.calm=true->X.A.handled=none){z:List (Addr×Obj)}(I:Inv (X.suite a pins) z σ H s):Inv X pins σ H s:=
 ⟨⟨I.ok.mod,I.ok.kind,I.ok.glob,I.ok.blt,I.ok.above,I.ok.inj,I.ok.has,I.ok.cab,j,I.ok.frames,I.ok.stk,I.ok.exf,I.ok.bs,I.ok.bsz,I.ok.noex,I.ok.exfs,I.ok.funs,I.ok.frf⟩,
  I.os,I.bare,I.base,I.loc,I.cell,I.free,I.freeC,fun p J=>I.pin p (bb _ J),I.hok,I.len⟩
theorem ZdR {body:List Stmt}{h0:ExceptHandler}{pos:Pos}{tb:YC->TS}
  (hb:∀D pins,J5 (X.tryc D pins (h0::hs)) body (tb D)):PS X (.Try body (h0::hs) [] [] pos) (fun D σ H=>tb D D σ H):=by
 intro pins s σ H D I h;refine wpAny_Try_except (ZW (hb D pins [] s σ H D I.toTry h) fun f Y O=>?_);cases f with
 |next=>
  obtain⟨j,z,J,q⟩:=O;exact ck ⟨j,z,J.ofTry,q⟩
 |brk=>
  obtain⟨j,z,J,q⟩:=O;exact⟨j,z,J.ofTry,q⟩
 |cont=>
  obtain⟨j,z,J,q⟩:=O;exact⟨j,z,J.ofTry,q⟩
 |ret u=>
  obtain⟨v,j,z,J,r,q⟩:=O;exact⟨v,j,z,J.ofTry,r,q⟩
theorem Inv.track {C:Addr}{d:Option Addr}{J:Array Value}(I:Inv X pins σ H s)(he:s.heap.get? a=some {cls:=.ref C,dict:=d,data:=.fields J})(lo:Wa X pins H a) :
  Inv X pins σ (upd H a (UI a C d)) s:=by
 have ext:Z6 X.prog X.w (upd H a (UI a C d)) s.heap a (UI a C d):=
  ⟨⟨J,he⟩,⟨_,he⟩,fun h1 h2 ⟨j,e⟩ k=>⟨j,k _ e⟩⟩
 obtain⟨h,g,O,t,os⟩:=s;refine I.call (ch:=[a]) (h':=h) (g':=g) (d':=O) (t':=t) ⟨fun b o e _ _ _=>e,fun b o e _ _ _=>⟨o.slots,e⟩,fun b o e n Y=>?_,fun b o e _=>⟨o,e⟩,fun b ys q=>?_,fun b o u q=>?_,fun b ps q=>⟨#[],?_⟩⟩
  (fun b o e=>?_) I.bare fun b hb=>?_
 ·rw[ZE (fun z=>Y (by simp[z]))]
  exact n
 ·rw[ZE (ZH q lo.2.1)]
  exact q
 ·rw[ZE (ZH q lo.2.1)]
  exact q
 ·rw[ZE (ZH q lo.2.1),q]
  simp
 ·by_cases hb:b=a
  ·subst hb
   rw[Zy] at e;cases e;exact ext
  ·rw[ZE hb] at e
   exact (I.hok b o e).stay (fun _ _ _ q=>q) (fun c r=>by rw[ZE (ZH r lo.2.1)];exact r) fun c ys r=>by rw[ZE (ZH r lo.2.1)];exact r
 ·obtain rfl:b=a:=by simpa using hb
  exact⟨.inr lo.1,lo.2.2.1,lo.2.2.2.1,lo.2.2.2.2⟩
end
section
variable {X:Cx}{pins:List (Addr×Obj)}{σ:St}{H:Hp}{s:Shared}{D:YC}{a:Addr}
theorem Jp {M:Model}{A:Around}{E:Value->Shared->Prop}{i:Nat}{n:Str}{pos:Pos}{Q:Unit->Shared->Prop}(I:Inv X pins σ H s)(hN:X.N.Nodup)(hi:X.N[i]?=some n)
  (hk:X.env.kindOf n=some .local) (h:∀s',Inv X pins (σ.set i none) H s'->Q () s'):wpAny M A (do bindName X.env n .none;unbindBehindTheSuite X.env n pos) Q E s:=by
 obtain⟨m,hn,hl⟩:=id I.loc;have Y:(X.env.scope.kind == .class || (X.env.scope.kind == .module && X.env.locals != X.env.globals))=false:=by
  rw[I.ok.kind];rfl
 have h9:i < σ.length:=by
  rw[I.len];exact (aK.mp hi).1
 have cne:=I.cne;refine wpAny_nameGoes_keeps hk hn Y fun h' v i0 J=>?_;obtain⟨oL,_,_,i4,_⟩:=id hn;have up:∀{b:Addr}{o:Obj},X.s₀.heap.get? b=some o->b≠X.env.locals:=fun {b o} e=>ay (aj (Zp e) I.ok.above);refine h _ ⟨I.ok,I.os,I.bare,⟨fun b o e n hb hx=>?_,fun b o e n hb hx=>?_,I.base.free,fun b o e hx=>?_,I.base.tups,I.base.frzs,I.base.tbls⟩,⟨_,i0,fun j y v' O e2 e3=>?_⟩,fun y c e=>?_,I.free,I.freeC,fun p hp=>?_,fun b ob e=>?_,?_⟩
 ·exact (J.2 b (up e)).trans (I.base.keep b o e n hb hx)
 ·obtain⟨sl,O⟩:=I.base.slot b o e n hb hx
  exact⟨sl,(J.2 b (up e)).trans O⟩
 ·obtain⟨o',O⟩:=I.base.there b o e hx
  exact⟨o',(J.2 b (up e)).trans O⟩
 ·by_cases hj:j=i
  ·subst hj
   rw[du h9] at e2;cases e2
  ·rw[dH (a8 hj)] at e2
   obtain⟨u',r',q⟩:=hl j y v' O e2 e3;refine⟨u',r',?_⟩;rcases q with ⟨k,e⟩|⟨k,c,e,z⟩
   ·refine .inl ⟨k,?_⟩
    have:y≠n:=fun e=>hj (JI hN O (e▸hi));simp[this,e]
   ·exact .inr ⟨k,c,e,z.sameBut J (cne y c e)⟩
 ·obtain⟨w',z⟩:=I.cell y c e
  exact⟨w',z.sameBut J (cne y c e)⟩
 ·obtain⟨e,n,ne,nf,d⟩:=I.pin p hp
  exact⟨(J.2 p.1 ne).trans e,n,ne,nf,d⟩
 ·refine (I.hok b ob e).stay (fun c w' hc q=>(J.2 c ?_).trans q) (fun _ q=>q) fun _ _ q=>q
  rintro rfl;rcases hc with rfl|hc
  ·rw[I.free] at e
   cases e
  ·rw[I.free] at hc
   cases hc
 ·simpa using I.len
noncomputable def Zez (D:YC)(i:Nat):YC:={nx:=fun σ H=>D.nx (σ.set i none) H,rt:=D.rt,bk:=fun σ H=>D.bk (σ.set i none) H,ct:=fun σ H=>D.ct (σ.set i none) H}
noncomputable def noSt (X:Cx):St:=ag X.N.length none
theorem Inv.noSt (I:Inv X pins σ H s):Inv X pins (noSt X) H s:=
 I.weak (by simp[L2.noSt,I.len]) fun i v e=>by
  unfold L2.noSt at e;rw[ce] at e;split at e <;> cases e
noncomputable def VL (X:Cx)(z:Addr)(i:Nat)(ts:TS)(D:YC):XK:=fun cls d H=>∃C N J j Y O,cls=.ref C/\PyX.JU X.base C N J j/\PyX.JU X.base z Y O j/\
 O.contains (.type "BaseException")=true/\(aw C::J).contains (.ref z)=true/\
 ∀a,H a=none->ts (Zez D i) ((noSt X).set i (some (.ref a))) (upd H a (UI a C d))
theorem JO {C T L:Addr}{d:Option Addr}{Dc:Addr}{i:Nat}{n x:Str}{np hp:Pos}{b0:Stmt}{suite:List Stmt}{ts:TS}
  (I:Inv X pins σ H s) (e:PyX.Ex s.heap a C d T (rawInt L)) (la:Wa X pins H a) (lT:Wa X pins H T)
  (hN:X.N.Nodup) (hi:X.N[i]?=some n) (hk:X.env.kindOf n=some .local) (hg:Gl X x) (hm:X.mg x=some (.ref Dc)) (h9:(x == ("__debug__":Str))=false)
  (hs:J5 (X.suite a pins) (b0::suite) ts) (q:VL X Dc i ts D (.ref C) d H) :
  wpAny (model X.prog X.w) X.A (setFlight (.ref a) none)
   (fun _ s3=>wpAny (model X.prog X.w) X.A (handleBy (.ref a) X.env [.ExceptHandler (some (.Name x np)) (some n) (b0::suite) hp]) (SP X pins D) X.xe s3) X.xe s:=by
 obtain⟨C',N,bm,i6,ND,bD,hC,ic,i0,hb,i4,q⟩:=q;cases hC;refine PyX.Wl e fun h1 e1 k1=>?_;have I1:Inv X pins σ H {s with heap:=h1}:=I.but (t':=s.toks) k1.nil fun b hb=>by
  obtain rfl:b=T:=by simpa using hb
  exact lT
 refine wpAny_handleBy_cons (codeAny_handlers_test (Jo (X:=X.suite a pins) I1.toSuite hg hm ?_ h9)) (by intro z;cases z);obtain⟨vs,oT,tl,ea,_⟩:=id e1;refine PyX.Ve (ic.keeps I1.bk) (i0.keeps I1.bk) ea rfl hb i4 ?_;simp only[if_true];refine codeAny_handlers_suite_as (PyX.Wl e1 fun h2 e2 k2=>?_);have I2:Inv X pins σ H {s with heap:=h2}:=I1.but (t':=s.toks) k2.nil fun b hb=>by
  obtain rfl:b=T:=by simpa using hb
  exact lT
 obtain⟨i7,i8,i9,i5,_⟩:=id e2;have I3:=(I2.noSt.track i5 la).toSuite (a:=a);refine YR (X:=X.suite a pins) (v:=.ref a) I3 hN hi (.inl hk) rfl (fun s4 I4=>?_) (.inr hk);refine a6 (hs [] s4 _ _ (Zez D i) I4 (q a la.2.1)) (fun f s5 h5=>?_) fun _ _ z=>bE z;have back:∀{j:St}{O:Hp},Inv (X.suite a pins) [] j O s5->Inv X pins j O s5:=fun J=>J.ofSuite I.ok.hd;cases f with
 |next=>
  obtain⟨j,O,J,z⟩:=h5;exact Jp (back J) hN hi hk fun s6 Y=>⟨_,O,Y,z⟩
 |brk=>
  obtain⟨j,O,J,z⟩:=h5;exact Jp (back J) hN hi hk fun s6 Y=>⟨_,O,Y,z⟩
 |cont=>
  obtain⟨j,O,J,z⟩:=h5;exact Jp (back J) hN hi hk fun s6 Y=>⟨_,O,Y,z⟩
 |ret u=>
  obtain⟨v,j,O,J,r,z⟩:=h5;exact Jp (back J) hN hi hk fun s6 Y=>⟨v,_,O,Y,r,z⟩
section
variable {Dc:Addr}{i:Nat}{n x:Str}{np hp:Pos}{b0:Stmt}{suite:List Stmt}{ts:TS}
theorem VT (hN:X.N.Nodup)(hi:X.N[i]?=some n)(hk:X.env.kindOf n=some .local)(hg:Gl X x)(hm:X.mg x=some (.ref Dc))(Y:(x == ("__debug__":Str))=false)
  (j:X.stack=X.env::X.outer) (hf:X.env.frame=some X.env.locals) (hs:∀a,J5 (X.suite a pins) (b0::suite) ts) :
  JT (CXE X.prog X.w) (X.tryc D pins [.ExceptHandler (some (.Name x np)) (some n) (b0::suite) hp]) (VL X Dc i ts D):=by
 intro ps σ H s e s' I h;obtain⟨a,C,d,T,H',rfl,J,z,la,lT,q⟩:=I.afterX h;show wpAny _ _ _ _ _ _;have O:=J.ofTry;have fr:=O.ok.frames;have st:=O.stack;have lo:∀b,Wa (X.tryc D pins [.ExceptHandler (some (.Name x np)) (some n) (b0::suite) hp]) ps H' b->Wa X pins H' b:=
  fun b ⟨h1,h2,h3,h4,h5⟩=>⟨h1,h2,h3,h4,fun p hp=>h5 p (bb _ hp)⟩
 rw[j] at fr st;refine PyX.Zab (base:=X.base) fr st hf z fun h' T' nT z' k=>?_;rw[<-j] at k;have J2:Inv X pins σ H' {s' with heap:=h'}:=O.but (t':=s'.toks) k fun b hb=>by
  rcases ak.mp hb with rfl|hb
  ·exact lo _ la
  ·obtain rfl:b=T:=by simpa using hb
   exact lo _ lT
 exact JO J2 z' (lo _ la) (O.loose nT (O.hok.fresh nT)) hN hi hk hg hm Y (hs a) q
end
end
end L2
namespace PyX
open PySem
section
variable {M:Model}{A:Around}{E:Value->Shared->Prop}{env:Env}{s:Shared}
theorem ZdP {v:Sem Value}{Q:Flow->Shared->Prop}(hh:A.handled=none)
    (h:wpAny M A v (fun u s1=>∃e C N bm j d J,u=.ref e/\JU s1.heap C N bm j/\bm.contains (.type "BaseException")=true/\
      s1.heap.get? e=some {cls:=.ref C,dict:=d,data:=.fields J}/\J[1]?=some .none/\E (.ref e) s1) E s) :
    wpAny M A (raiseStmt env (some v) none) Q E s:=by
  unfold raiseStmt;refine Zl (a6 h (fun u s1 h1=>?_) fun _ _ z=>z);obtain⟨e,C,N,bm,j,d,J,rfl,x,hb,he,hv,hE⟩:=h1;obtain⟨nm,q,bs,hd,sn,sb,ab,cl,dd,k0,k1,k2,k3,k5,Y⟩:=x;have O:(aw C::bm).contains (.type "BaseException")=true:=by
    rw[aO,hb,cG]
  obtain⟨hp,g,dr,tk,os⟩:=s1
  repeat (first
    |with_reducible refine aN he ?_
    |with_reducible refine aN Y ?_
    | (with_reducible refine bF Y ?_
       rw[O])
    |wp_step)
  rw[hv];refine Zm ?_;rw[if_neg (by decide)];exact Zm (wpAny_raiseNew_none hh hE)
end
end PyX
namespace L2
open PySem PySem.Spec PyProof.Rows
section
variable {X:Cx}{C N T U:Addr}{nid iid:String}{mN mT:Str->Option Value}{x:Str}{p pos cpos:Pos}{e:Expr}{es:List Expr}{t:TA}{E:XK}
theorem Xc (hc:X.calm=true)(c:PyX.Xn X.base C N T U nid mN mT)(hi:mN "__init__"=none)(F:fz "ValueError" nid iid PyX.VE)
  (hg:Gl X x) (hm:X.mg x=some (.ref C)) (kp:aP X.K (.ref C)=true) (ha:PA X (e::es) t) (hx:ZbM X E)
  (h9:(x == ("__debug__":Str))=false:=by decide) (he:starEach (e::es) X.env=(false,eval e X.env)::starEach es X.env:=by rfl) (i0:(backTo cpos (starEach es X.env)).any (·.1)=false:=by rfl) :
  PS X (.Raise (some (.Call (.Name x p) (e::es) [] cpos)) none pos) (fun D O H=>t O H fun vs H1=>vs.length<=sizeLine/\E (.ref C) none H1):=by
 intro j s O H D I h;rw[arm_exec_Raise];refine Zl (dw (PyX.ZdP (I.ok.hd hc) ?_));refine Zl (a6 (cY (Jo I hg hm ?_ h9)) (fun v s3 h3=>Zl (dw (Zm h3))) fun _ _ z=>z);refine f9 (h₀:=X.base) I.ok.mod.kin kp (ZW (ha cpos j s O H _ I h) fun us s1 ⟨vs,H1,Y,r,hl,q⟩=>⟨Y.kIn,?_⟩) he i0;have c1:=c.keeps Y.bk;have i4:us.length<=sizeLine:=by
  rw[<-r.length];exact hl
 obtain⟨h1,g1,d1,t1,o1⟩:=s1;refine PyX.Vs F c1.tail c1.c.ex c1.nsC hi (fun h' a mk hz=>?_) i4;have J:Inv X j O H1 ⟨h',g1,d1,t1,o1⟩:=Y.kept (t':=t1) mk.keeps;obtain⟨ta,ho,_,_⟩:=mk.there;exact⟨a,C,N,_,nid,none,_,rfl,(c1.keeps mk.keeps).c.ex,rfl,ho,rfl,hx j O H1 _ a C none J ⟨_,ho,rfl⟩ (by
  obtain⟨l1,l2,l3,l4,l5⟩:=Y.loose hz (Y.hok.fresh hz);exact⟨l1,l2,l3,l4,l5⟩) q⟩
end
section
variable {X:Cx}{pins:List (Addr×Obj)}{σ:St}{H:Hp}{s:Shared}{a:Addr}
variable {C N T U:Addr}{nid:String}{mN mT:Str->Option Value}{f:Str}{y:V}{u:Value}{A:Around}{E:Value->Shared->Prop}{Q:Unit->Shared->Prop}
end
section
variable {X:Cx}{pins:List (Addr×Obj)}{σ:St}{H:Hp}{s:Shared}{a:Addr}
variable {C N T U dx:Addr}{nid:String}{mN mT:Str->Option Value}{f:Str}{y:V}{u:Value}{A:Around}{E:Value->Shared->Prop}{Q:Unit->Shared->Prop}{fs:List (Str×V)}
variable {o value:Expr}{ta tv:TE}{pos pos':Pos}
end
section
variable {X:Cx}{pins:List (Addr×Obj)}{σ:St}{H:Hp}{s:Shared}{a:Addr}{φ:Heap->Prop}
end
section
variable {X:Cx}{C N T U fI:Addr}{nid iid:String}{mN mT:Str->Option Value}{x:Str}{p pos cpos:Pos}{e:Expr}{es:List Expr}{t:TA}{E:XK}{k:Nat}{fd:FuncData}{ps:List Str}{sp:Sp}{oI:Obj}
end
section
variable {X:Cx}{f:Str}{e:Expr}{ta:TE}{pos:Pos}
end
end L2
namespace PyX
open PySem
theorem ZbU:typeLookup (.type "ValueError") "__class__"=pure (some (.builtin "object.__class__")):=by
 rw[typeLookup_type,builtinLookup_eq_fast];kernel_rfl
section
variable {prog:Program}{w:World}{h:Heap}{C N T U x:Addr}{nid:String}{mN mT:Str->Option Value}{o:Obj}
variable {A:Around}{E:Value->Shared->Prop}{gs:Array GenState}{dr:Drawn}{tk:Nat}{os:OsState}
theorem ZbG {R:Result->Shared->Prop}(c:Xn h C N T U nid mN mT)(j:h.get? x=some o)(z:o.cls=.ref C)(hq:R (.ok (.ret (.ref C))) ⟨h,gs,dr,tk,os⟩) :
    codeAny (model prog w) A (.call (.builtin "getset_descriptor.__get__") ⟨[.builtin "object.__class__",.ref x,.ref C],[]⟩) R ⟨h,gs,dr,tk,os⟩:=by
  obtain⟨nm,q,bs,sn,sb,ab,cl,dd,k0,k1,k2,k3,k5,J⟩:=c.c;have O:(⟨h,gs,dr,tk,os⟩:Shared).TypeIs (.builtin "object.__class__") "getset_descriptor":=dM;have Y:(aw C::aw T::VE).contains (.type (".".intercalate ("object.__class__".cutAt '.').dropLast))=true:=by
    rw[F.owner_object_class,aO,aO,SF.hasOwner,cG,cG]
  refine eE gj.plain F.entry_gs_get (gj.check _ _ _ _ _ _ _ _ O (F.args_gs_get _ _ _) ?_)
  repeat (any_goals (first
    |assumption
    | (with_reducible refine aN j ?_
       rw[z])
    | (with_reducible refine bF J ?_
       rw[Y])
    |wp_step))
  refine⟨ek _ (by decide +kernel),codeAny_builtin F.entry_object_class ?_⟩
  repeat (any_goals (first
    |assumption
    | (with_reducible refine aN j ?_
       rw[z])
    |wp_step))
theorem Ud {kt:Tok}{Q:Fin->Shared->Prop}(c:Xn h C N T U nid mN mT)(J:mN "__class__"=none)(O:mT "__class__"=none)(j:h.get? x=some o)(z:o.cls=.ref C)
    (Y:Q (.done (.ret (.ref C))) ⟨h,gs,dr,tk,os⟩) :
    wpAny (model prog w) A (aF.«object.__getattribute__» ⟨[.ref x,.str "__class__" kt],[]⟩) Q E ⟨h,gs,dr,tk,os⟩:=by
  have h5:(⟨h,gs,dr,tk,os⟩:Shared).TypeIs (.builtin "object.__class__") "getset_descriptor":=dM;have f5:=dM;have f6:=gj.lookup;have f7:=F.slot_gs_set.lookup
  repeat (any_goals (first
    |assumption
    | (with_reducible refine aN j ?_
       rw[z])
    |with_reducible refine c.lookB ZbU J O ?_
    |wp_step))
  refine ZbG c j z ?_
  repeat (any_goals (first
    |assumption
    |wp_step))
theorem Zaw {Q:Option Value->Shared->Prop}(c:Xn h C N T U nid mN mT)(J:mN "__class__"=none)(O:mT "__class__"=none)
    (Y:mN "__getattribute__"=none) (h4:mT "__getattribute__"=none) (h5:mN "__getattr__"=none) (h6:mT "__getattr__"=none)
    (j:h.get? x=some o) (z:o.cls=.ref C) (hq:Q (some (.ref C)) ⟨h,gs,dr,tk+1,os⟩) :
    wpAny (model prog w) A (getAttr? (.ref x) "__class__") Q E ⟨h,gs,dr,tk,os⟩:=by
  have f3:=fj.ga.bind (.ref x);have e2:(dP "BaseException.__getattribute__" == dP "object.__getattribute__")=false:=by
    decide +kernel
  have e1:(onTheHeap (aw C) && dP "BaseException.__getattribute__" == dP "object.__getattribute__")=false:=by
    rw[e2];rfl
  unfold getAttr? getAttrBy? getAttrBy
  repeat (any_goals (first
    |assumption
    | (with_reducible refine aN j ?_
       rw[z])
    |with_reducible refine c.lookB fj.ga.lookup Y h4 ?_
    |with_reducible refine c.lookB F.attrBase_ValueError.noGetattr h5 h6 ?_
    |wp_step))
  refine eE fj.ga.plain F.entry_bexc_ga (ZcV c j z (Ud c J O j z ?_))
  repeat (any_goals (first
    |assumption
    |wp_step))
end
end PyX
namespace L2
open PySem PySem.Spec PyProof.Rows
structure NoC (mN mT:Str->Option Value):Prop where
 a:mN "__class__"=none
 b:mT "__class__"=none
 d:mN "__getattribute__"=none
 e:mT "__getattribute__"=none
 g:mN "__getattr__"=none
 h:mT "__getattr__"=none
theorem Uz {K:ae}{x C N T U:Addr}{J:String}{mN mT:Str->Option Value}{cd:ClassData}(j:bq K C=some cd)(n:NoC mN mT) :
  PySem.W.KitX K (.ref x) (.ref C) (fun h=>PyX.Xn h C N T U J mN mT/\∃o,h.get? x=some o/\o.cls=.ref C) where
 ty:=fun M h _ ⟨_,o,e,c⟩=>by
  intro A Q E s k q;unfold typeOf;refine Zl (wpAny_loadPart (k _ _ e) (Zm ?_));rw[c];exact q
 it:=fun M h X _=>by
  unfold bq at j;split at j
  ·rename_i c' d' O Y ho
   intro A' Q' E' s' k q;unfold isType loadHead;exact Zl (wpAny_loadPart (k _ _ (X _ _ ho)) (Zm q))
  ·cases j
 ne:=fun h tp dd i0 m sl X h9=>by
  refine cT.mpr fun q=>?_;have e:C=tp:=dA (beq_iff_eq.mp q);subst e;unfold bq at j;split at j
  ·rename_i c' d' O Y ho
   have z:=(X _ _ ho).symm.trans h9;cases z
  ·cases j
 ca:=fun {prog w A E Q s} X ⟨c,o,e,cc⟩ k=>by
  obtain⟨h,g,d,t,os⟩:=s;exact PyX.Zaw c n.a n.b n.d n.e n.g n.h e cc k
section
variable {X:Cx}{C N T U:Addr}{nid:String}{mN mT:Str->Option Value}{cd:ClassData}
theorem Vt:Z9 X (.builtin "isinstance") (fun xs H Q=>∃a C d N T U nid mN mT cd c b,xs=[.ref a,c]/\H a=some (UI a C d)/\bq X.K C=some cd/\NoC mN mT/\PyX.Xn X.base C N T U nid mN mT/\
  (∀j,RelV c j->bZ X.K (.ref C) j=some b)/\Q (.bl b) H):=by
 intro J s σ H xs us Q I r h;obtain⟨a,C,d,N,T,U,nid,mN,mT,cd,c,b,rfl,O,Y,n,two,e,q⟩:=h;cases r with
 |cons r1 r=>
  cases r with
  |cons r2 r=>
   cases r;cases (show _=aw a from r1);obtain⟨⟨vs,ho⟩,_,_⟩:=I.hok a _ O;exact PySem.W.kia_one (Uz Y n) I.kIn ⟨two.keeps I.bk,_,ho,rfl⟩ (e _ r2) (fun z=>nomatch z) fun tk=>⟨.bl b,H,I.tok _,rfl,q⟩
theorem Zaz:Z9 X (.builtin "isinstance") (fun xs H Q=>∃a C d N T U nid mN mT cd J cs b,xs=[.ref a,.ref J]/\H a=some (UI a C d)/\H J=some (.tup cs)/\bq X.K C=some cd/\NoC mN mT/\PyX.Xn X.base C N T U nid mN mT/\
  (∀j,ZI cs j->ff X.K (.ref C) j=some b)/\Q (.bl b) H):=by
 intro O s σ H xs us Q I r h;obtain⟨a,C,d,N,T,U,nid,mN,mT,cd,J,cs,b,rfl,Y,ht,hk,n,two,e,q⟩:=h;cases r with
 |cons r1 r=>
  cases r with
  |cons r2 r=>
   cases r;cases (show _=aw a from r1);cases (show _=aw J from r2);obtain⟨⟨vs,ho⟩,_,_⟩:=I.hok a _ Y;obtain⟨_,j,rv,o,h1,h2,m,h3⟩:=I.hok J _ ht;obtain⟨oc,od,h9,i0⟩:=o;cases h2;cases h3;exact PySem.W.kia_tup (Uz hk n) I.kIn ⟨two.keeps I.bk,_,ho,rfl⟩ h1 (e _ rv) (fun z=>nomatch z) fun tk=>⟨.bl b,H,I.tok _,rfl,q⟩
end
noncomputable def YD (j:Array DictEntry):Bool:=j.toList.all fun e=>match e.key with | .str _ _=>true|_=>false
theorem VM {es:Array DictEntry}(h:YD es=true):StrKeys es:=by
 intro e j;unfold YD at h;have:=bi.mp h e (Array.mem_toList_iff.mpr j);split at this
 ·rename_i n t q;exact⟨n,t,q⟩
 ·cases this
noncomputable def WF (j:Array DictEntry)(ns:List Str):Bool:=ns.all fun n=>(nsFind j n).isNone
theorem Yx {es:Array DictEntry}{ns:List Str}(h:WF es ns=true){n:Str}(j:n∈ns):nsFind es n=none:=by
 have:=bi.mp h n j;exact Option.isNone_iff_eq_none.mp this
structure Yf (K:ae)(x:Str)(C N:Addr)(bm:List Value)(es:Array DictEntry):Prop where
 at_:az K mainGlobals x=some (some (.ref C))
 ob:∃nm q bs sn sb ab cl dd k0 k1 k2 k3 k5,K.lookup C=some (excClassObj nm q C N bs bm true sn sb ab cl dd k0 k1 k2 k3 k5 PyX.WA)
 ns:∃c d ep sl,K.lookup N=some ⟨c,d,.dict es ep,sl⟩
 kp:aP K (.ref C)=true
 sk:YD es=true
theorem Yf.mk' {K:ae}{x:Str}{C N:Addr}{bm:List Value}{es:Array DictEntry}{nm q:Str}{bs:List Value}{sn:List Str}{j:List Value}{z:Bool}{J:Option Bool}{O:Option Addr}{Y k1 k2 k3 k5:Option Value}{c:Value}{d:Option Addr}{ep:Nat}{sl:Array (Option Value)}
  (a:az K mainGlobals x=some (some (.ref C))) (l:K.lookup C=some (excClassObj nm q C N bs bm true sn j z J O Y k1 k2 k3 k5 PyX.WA)) (n:K.lookup N=some ⟨c,d,.dict es ep,sl⟩) (kp:aP K (.ref C)=true) (sk:YD es=true):Yf K x C N bm es:=
 ⟨a,⟨nm,q,bs,sn,j,z,J,O,Y,k1,k2,k3,k5,l⟩,⟨c,d,ep,sl,n⟩,kp,sk⟩
section
variable {K:ae}{x y:Str}{C N T U D M:Addr}{bm:List Value}{es et ez:Array DictEntry}{h:Heap}{mg:Str->Option Value}
theorem Yf.ed (e:Yf K x C N bm es)(X:K.In h):PyX.Vy h C N bm PyX.WA:=by
 obtain⟨j,q,bs,sn,z,J,O,Y,k0,k1,k2,k3,k5,l⟩:=e.ob;exact⟨j,q,bs,sn,z,J,O,Y,k0,k1,k2,k3,k5,X _ _ l⟩
theorem Yf.nsx (e:Yf K x C N bm es)(X:K.In h):h.Ns N (nsFind es):=by
 obtain⟨c,d,j,z,l⟩:=e.ns;exact⟨_,es,j,X _ _ l,rfl,VM e.sk,fun _=>rfl⟩
theorem Yf.cls (e:Yf K x C N bm es):∃j:ClassData,bq K C=some j/\j.mro=.ref C::bm:=by
 obtain⟨z,q,bs,sn,J,O,Y,dd,k0,k1,k2,k3,k5,l⟩:=e.ob;have q:bq K C=some {name:=z,bases:=bs,mro:=.ref C::bm,ns:=N,qualname:=q,hasDict:=true,slotNames:=sn,subclasses:=J,abstract:=O,collection:=Y,hasDel:=false}:=by
  unfold bq;rw[l]
 exact⟨_,q,rfl⟩
theorem Yf.ty (e:Yf K x C N bm es):gS K (.ref C)=some (.type "type"):=by
 obtain⟨j,q,bs,sn,z,J,O,Y,k0,k1,k2,k3,k5,l⟩:=e.ob;show (K.lookup C).map (·.cls)=_;rw[l];rfl
theorem Yf.sub (e:Yf K x C N bm es)(v:Value):fw K (.ref C) v=some ((aw C::bm).contains v):=by
 obtain⟨j,z,J⟩:=e.cls;show g9 K C v=_;unfold g9;rw[z];show (if j.mro.isEmpty=true then none else some (j.mro.contains v))=_
 rw[J];rfl
theorem Yf.kitR (e:Yf K x C N bm es){j:List Value}(f:Yf K y D M j ez):bZ K (.ref C) (.ref D)=some ((aw C::bm).contains (.ref D)):=by
 unfold bZ;by_cases q:(aw C == aw D)=true
 ·rw[if_pos q]
  have:C=D:=dA (beq_iff_eq.mp q);subst this;simp[aO]
 ·rw[if_neg q]
  obtain⟨J,z,_⟩:=f.cls;show (if ((bq K D).isSome && gS K (.ref D) == some (.type "type"))=true then fw K (.ref C) (.ref D) else none)=_
  rw[if_pos,e.sub];rw[z,f.ty];rfl
theorem Zaj:gI "ValueError"=true:=by kernel_rfl
theorem Yf.kitV (e:Yf K x C N (.ref T::PyX.VE) es):bZ K (.ref C) (.type "ValueError")=some true:=by
 unfold bZ;rw[if_neg (by simp)];show (if gI "ValueError"=true then fw K (.ref C) (.type "ValueError") else none)=_
 rw[if_pos Zaj,e.sub];rfl
theorem Yf.two (e:Yf K x C N (.ref T::PyX.VE) es)(t:Yf K y T U PyX.VE et)(i:nsFind et "__init__"=none)(X:K.In h):PyX.Xn h C N T U PyX.WA (nsFind es) (nsFind et):=
 ⟨e.ed X,t.ed X,e.nsx X,t.nsx X,i⟩
end
noncomputable def Ya:List Str:=["__setattr__", "__class__", "__getattribute__", "__getattr__"]
noncomputable def Wm:List Str:=["word", "thing", "number", "row", "name"]
structure Ec where
 C:Addr
 N:Addr
 es:Array DictEntry
structure YK (K:ae)(x:Str)(T U:Addr)(et:Array DictEntry)(e:Ec):Prop where
 c:Yf K x e.C e.N (.ref T::PyX.VE) e.es
 no:WF e.es (Ya++Wm)=true
structure Uh (K:ae)(T U:Addr)(et:Array DictEntry):Prop where
 t:Yf K "TableError" T U PyX.VE et
 no:WF et ("__init__" :: (Ya++Wm))=true
section
variable {K:ae}{x:Str}{T U:Addr}{et:Array DictEntry}{e:Ec}{f:Str}{h:Heap}
theorem YK.two (E:YK K x T U et e)(B:Uh K T U et)(X:K.In h):PyX.Xn h e.C e.N T U PyX.WA (nsFind e.es) (nsFind et):=E.c.two B.t (Yx B.no (by simp)) X
theorem YK.noC (E:YK K x T U et e)(B:Uh K T U et):NoC (nsFind e.es) (nsFind et):=
 ⟨Yx E.no (by simp[Ya]),Yx B.no (by simp[Ya]),Yx E.no (by simp[Ya]),Yx B.no (by simp[Ya]),Yx E.no (by simp[Ya]),Yx B.no (by simp[Ya])⟩
end
section
variable {P:Program}{w:World}{K:ae}{mg:Str->Option Value}{base:Heap}{C N T U:Addr}{mN mT:Str->Option Value}{qual:Str}{st:Stmt}{fI:Addr}{fd:FuncData}{f g u v:Str}
end
section
variable {K:ae}{x:Str}{C N T U:Addr}{es et:Array DictEntry}{nm q:Str}{bs:List Value}{sn:List Str}{sb:List Value}{ab:Bool}{cl:Option Bool}{dd:Option Addr}{k0 k1 k2 k3 k5:Option Value}{c:Value}{d:Option Addr}{ep:Nat}{sl:Array (Option Value)}
theorem Uh.mk' (a:az K mainGlobals "TableError"=some (some (.ref T)))(l:K.lookup T=some (excClassObj nm q T U bs PyX.VE true sn sb ab cl dd k0 k1 k2 k3 k5 PyX.WA))(n:K.lookup U=some ⟨c,d,.dict et ep,sl⟩)(j:aP K (.ref T)=true)
  (o:(YD et && WF et ("__init__" :: (Ya++Wm)))=true):Uh K T U et:=by
 rw[aJ] at o;exact⟨.mk' a l n j o.1,o.2⟩
theorem YK.mk' (a:az K mainGlobals x=some (some (.ref C)))(l:K.lookup C=some (excClassObj nm q C N bs (.ref T::PyX.VE) true sn sb ab cl dd k0 k1 k2 k3 k5 PyX.WA))(n:K.lookup N=some ⟨c,d,.dict es ep,sl⟩)(j:aP K (.ref C)=true)
  (o:(YD es && WF es (Ya++Wm))=true):YK K x T U et ⟨C,N,es⟩:=by
 rw[aJ] at o;exact⟨.mk' a l n j o.1,o.2⟩
noncomputable def Jj (K:ae)(x:Str)(T U:Addr)(et:Array DictEntry)(e:Ec):Prop:=YK K x T U et e/\nsFind e.es "__init__"=none
theorem Jj.mk (a:az K mainGlobals x=some (some (.ref C)))(l:K.lookup C=some (excClassObj nm q C N bs (.ref T::PyX.VE) true sn sb ab cl dd k0 k1 k2 k3 k5 PyX.WA))(n:K.lookup N=some ⟨c,d,.dict es ep,sl⟩)(j:aP K (.ref C)=true)
  (o:(YD es && WF es (Ya++Wm) && WF es ["__init__"])=true):Jj K x T U et ⟨C,N,es⟩:=by
 rw[aJ] at o;exact⟨.mk' a l n j o.1,Yx o.2 (by simp)⟩
end
end L2
namespace C61
open PySem L2 PySem.Spec PyProof.Rows
open Tb
noncomputable def ZbF:Nat->Str
 |0 => "NoGroup" |1 => "NoTable" |2 => "NoShares" |3 => "NoPerm" |4 => "NoLines" |5 => "NoAlike" |6 => "NoName" |7 => "TooMany" |8 => "NoOrder" |9 => "NoPart" |10 => "NoText" |_ => "NoRow"
structure Cs (K:ae)(mg:Str->Option Value)(T U:Addr)(et:Array DictEntry)(c:Nat->Ec):Prop where
 tb:Uh K T U et
 ok:∀k,k<12->YK K (ZbF k) T U et (c k)
 mgT:mg "TableError"=some (.ref T)
 mgC:∀k,k<12->mg (ZbF k)=some (.ref (c k).C)
 inj:∀j k,j<12->k<12->(c j).C=(c k).C->j=k
 neT:∀k,k<12->(c k).C≠T
 pl:∀k,7<=k->k<12->nsFind (c k).es "__init__"=none
noncomputable abbrev fVE:fz "ValueError" PyX.WA "ValueError.__init__" PyX.VE:=dX
noncomputable def UK (T:Addr)(l:List Addr):Bool:=match l with
 | []=>true
 |a::r=>!(a == T) && !(r.contains a) && UK T r
theorem UJ {T:Addr}:∀{l:List Addr},UK T l=true->(∀j k:Nat,∀a:Addr,l[j]?=some a->l[k]?=some a->j=k)/\∀a∈l,a≠T
 | [],_=>⟨fun j k a h=>by simp at h,fun a h=>by cases h⟩
 |b::r,h=>by
  unfold UK at h;simp only[aJ,g8] at h;obtain⟨⟨h1,h2⟩,h3⟩:=h;obtain⟨i1,i2⟩:=UJ h3;have nb:b∉r:=fun z=>by
   have:=gp.mpr z;rw[h2] at this;cases this
  refine⟨fun j k a J O=>?_,fun a Y=>?_⟩
  ·cases j with
   |zero=>
    cases k with
    |zero=>rfl
    |succ k=>
     have e:b=a:=by simpa using J
     subst e;have h9:r[k]?=some b:=by simpa using O
     exact absurd (aM h9) nb
   |succ j=>
    cases k with
    |zero=>
     have e:b=a:=by simpa using O
     subst e;have i0:r[j]?=some b:=by simpa using J
     exact absurd (aM i0) nb
    |succ k=>rw[i1 j k a (by simpa using J) (by simpa using O)]
  ·rcases ak.mp Y with rfl|Y
   ·intro z;subst z;simp at h1
   ·exact i2 a Y
noncomputable def ZbJ (l:List Ec)(k:Nat):Ec:=l.getD k ⟨0,0,#[]⟩
theorem XJ {l:List Ec}{k:Nat}(h:k<l.length):(l.map Ec.C)[k]?=some (ZbJ l k).C:=by
 unfold ZbJ;rw[Zc,Zb,Zf h];rfl
theorem k12 {k:Nat}(h:k<12):k=0\/k=1\/k=2\/k=3\/k=4\/k=5\/k=6\/k=7\/k=8\/k=9\/k=10\/k=11:=by omega
structure BlV (mg:Str->Option Value):Prop where
 ve:mg "ValueError"=none
section
variable {P:Program}{w:World}{K:ae}{mg:Str->Option Value}{base:Heap}{T U:Addr}{et:Array DictEntry}{c:Nat->Ec}
theorem Cs.kit (S:Cs K mg T U et c){j k:Nat}(J:j<12)(O:k<12):bZ K (.ref (c k).C) (.ref (c j).C)=some (decide (j=k)):=by
 rw[(S.ok k O).c.kitR (S.ok j J).c];have Y:(aw (c j).C == aw T)=false:=by
  refine cT.mpr fun q=>S.neT j J (dA (beq_iff_eq.mp q))
 congr 1;rw[aO,aO,Y];by_cases q:j=k
 ·subst q;simp
 ·have e2:(aw (c j).C == aw (c k).C)=false:=cT.mpr fun z=>q (S.inj j k J O (dA (beq_iff_eq.mp z)))
  rw[e2,decide_eq_false q];rfl
noncomputable def Zf8 (c:Nat->Ec):List V->Hp->VK->Prop:=fun xs H Q=>∃a k j d,xs=[.ref a,.ref (c j).C]/\k<12/\j<12/\H a=some (UI a (c k).C d)/\Q (.bl (decide (j=k))) H
theorem isE {X:Cx}(S:Cs K mg T U et c)(O:K.In base)(Y:X.K=K:=by rfl)(hB:X.base=base:=by rfl):Z9 X (.builtin "isinstance") (Zf8 c):=by
 subst Y hB;intro z s σ H xs us Q I r h;obtain⟨a,k,j,d,rfl,J,hj,ha,q⟩:=h;obtain⟨cd,h1,_⟩:=(S.ok k J).c.cls;refine Vt z s σ H _ us Q I r ⟨a,_,d,_,T,U,_,_,_,cd,_,_,rfl,ha,h1,(S.ok k J).noC S.tb,(S.ok k J).two S.tb O,fun cv rc=>?_,q⟩;cases (show cv=aw _ from rc);exact S.kit hj J
noncomputable def Zf6 (c:Nat->Ec):List V->Hp->VK->Prop:=fun xs H Q=>∃a k d,xs=[.ref a,.ty "ValueError"]/\k<12/\H a=some (UI a (c k).C d)/\Q (.bl true) H
theorem isV {X:Cx}(S:Cs K mg T U et c)(J:K.In base)(O:X.K=K:=by rfl)(Y:X.base=base:=by rfl):Z9 X (.builtin "isinstance") (Zf6 c):=by
 subst O Y;intro j s σ H xs us Q I r h;obtain⟨a,k,d,rfl,z,ha,q⟩:=h;obtain⟨cd,h1,_⟩:=(S.ok k z).c.cls;refine Vt j s σ H _ us Q I r ⟨a,_,d,_,T,U,_,_,_,cd,_,_,rfl,ha,h1,(S.ok k z).noC S.tb,(S.ok k z).two S.tb J,fun cv rc=>?_,q⟩;cases (show cv=gB "ValueError" from rc);exact (S.ok k z).c.kitV
theorem Cs.any (S:Cs K mg T U et c){k:Nat}(O:k<12):∀(J:List Nat) (z:List Value),(∀j∈J,j<12)->ZI (J.map fun j=>V.ref (c j).C) z->ff K (.ref (c k).C) z=some (J.any fun j=>decide (j=k))
 | [],z,_,h=>by cases h;rfl
 |j::J,z,hl,h=>by
  cases h with
  |cons r Y=>
   cases (show _=aw (c j).C from r);have ih:=S.any O J _ (fun i hi=>hl i (ah _ hi)) Y;have h1:=S.kit (hl j ai) O;unfold ff;rw[h1,ee];by_cases e:j=k
   ·rw[decide_eq_true e];rfl
   ·rw[decide_eq_false e];exact ih
noncomputable def Zf7 (c:Nat->Ec):List V->Hp->VK->Prop:=fun xs H Q=>∃(a:Addr) (k:Nat) (d:Option Addr) (J:Addr) (z:List Nat),xs=[.ref a,.ref J]/\k<12/\(∀j∈z,j<12)/\H a=some (UI a (c k).C d)/\H J=some (.tup (z.map fun j=>V.ref (c j).C))/\Q (.bl (z.any fun j=>decide (j=k))) H
theorem isT {X:Cx}(S:Cs K mg T U et c)(O:K.In base)(Y:X.K=K:=by rfl)(hB:X.base=base:=by rfl):Z9 X (.builtin "isinstance") (Zf7 c):=by
 subst Y hB;intro j s σ H xs us Q I r h;obtain⟨a,k,d,tp,js,rfl,z,hj,ha,ht,q⟩:=h;obtain⟨cd,h1,_⟩:=(S.ok k z).c.cls;exact Zaz j s σ H _ us Q I r ⟨a,_,d,_,T,U,_,_,_,cd,tp,_,_,rfl,ha,ht,h1,(S.ok k z).noC S.tb,(S.ok k z).two S.tb O,fun J rv=>S.any z js J hj rv,q⟩
theorem clv {X:Cx}{x:Str}{C:Addr}{pos:Pos}(j:X.mg x=some (.ref C))(z:YH X.env.scope x=true:=by kernel_rfl)(J:(x == ("__debug__":Str))=false:=by kernel_rfl):PE X (.Name x pos) (tC (.ref C)):=Zck (Wk z) j rfl J
theorem Cs.catchR {X:Cx}(S:Cs K mg T U et c)(j:K.In base){k:Nat}(z:k<12){i:Nat}{ts:TS}{D:YC}{d:Option Addr}{H:Hp}(J:X.base=base)
  (h:∀a,H a=none->ts (Zez D i) ((noSt X).set i (some (.ref a))) (upd H a (UI a (c k).C d))):VL X T i ts D (.ref (c k).C) d H:=by
 subst J;have two:=(S.ok k z).two S.tb j;refine⟨_,_,_,_,_,_,rfl,two.c.ex,two.t.ex,rfl,?_,h⟩;rw[aO,aO];simp
end
end C61
namespace Tx
open PySem PySem.Builtin PySem.Builtin.Str PySem.NumText PyProof.Rows PySem.W PySem.W.KIN
theorem Vb {c:Nat}(h:48<=c/\c<=57):(gP c).toNat=c:=by
 have:c=48\/c=49\/c=50\/c=51\/c=52\/c=53\/c=54\/c=55\/c=56\/c=57:=by omega
 rcases this with rfl|rfl|rfl|rfl|rfl|rfl|rfl|rfl|rfl|rfl <;> rfl
theorem Zaf {l:List Nat}(h:bH l):(l.map gP).map eu=l:=by
 rw[dq];exact (gG fun c j=>Vb (h c j)).trans (List.map_id _)
theorem ZcU {l:List Nat}(h:bH l){c:Nat}{r:List Nat}(e:l=c::r)(J:c≠48):ZJ (digitsVal l)=l/\1<=digitsVal l:=by
 have O:=h c (by rw[e];exact ai);have Y:=toDigits_digitsVal r.length l (by rw[e];rfl) h (.inr ⟨c,r,e,by omega⟩);have j:ZJ (digitsVal l)=l:=by unfold ZJ;rw[Y];exact Zaf h
 refine⟨j,?_⟩;rcases Nat.eq_zero_or_pos (digitsVal l) with z|z
 ·rw[z] at j
  have:l=[48]:=j.symm;rw[e] at this;exact absurd (cI this).1 J
 ·exact z
theorem Zas {m:Nat}(Y:1<=m){c:Nat}{r:List Nat}(e:ZJ m=c::r):c≠48:=by
 intro J;subst J;have h:=toDigits_all (ZJ m) (Z5 m);rw[YJ] at h;have j:ZJ m=(Nat.toDigits 10 m).map eu:=rfl;rw[h,e] at j;have O:(48::r).dropWhile (· == 48)=r.dropWhile (· == 48):=rfl;rw[O] at j;cases z:r.dropWhile (· == 48) with
 |nil=>
  rw[z] at j;have j:48::r=[48]:=j;have:m=0:=by
   have v:=YJ m;rw[e,j] at v;exact v.symm
  omega
 |cons x y=>
  rw[z] at j;have j:48::r=((x::y).map gP).map eu:=j;have hl:=congrArg fo j;rw[Za,Za,Zi] at hl;have:=(List.dropWhile_sublist (· == 48) (l:=r)).length_le;rw[z] at this;omega
noncomputable def Yq (l:List Nat):Option Nat:=if Wn l=true/\l.head?≠some 48 then some (digitsVal l) else none
theorem JK {m:Nat}(j:1<=m):Yq (ZJ m)=some m:=by
 have z:(ZJ m).head?≠some 48:=by
  cases e:ZJ m with
  |nil=>exact absurd e (Y4 m)
  |cons c r=>
   intro h;exact Zas j e (aB h)
 unfold Yq;rw[if_pos ⟨W9 m,z⟩,YJ]
theorem W3 {l:List Nat}{m:Nat}(h:Yq l=some m):l=ZJ m/\1<=m:=by
 unfold Yq at h;split at h
 ·rename_i j
  cases h;obtain⟨J,O⟩:=YI.mp j.1;cases l with
  |nil=>exact absurd rfl J
  |cons c r=>
   obtain⟨a,b⟩:=ZcU O rfl (fun z=>j.2 (by rw[z];rfl));exact⟨a.symm,b⟩
 ·cases h
noncomputable def Jn (l:List Nat):Option (Nat×Nat):=
 if (ZO l).2.1=false then (match Yq l with|none=>none|some m=>some (0,m))
 else match (if (ZO l).1=[] then some 1 else Yq (ZO l).1),(if (ZO l).2.2=[] then some 1 else Yq (ZO l).2.2) with
  |some m,some h=>if ((ZO l).1≠[]/\m=1)\/(ZO l).2.2=[49] then none else some (h,m)
  |_,_=>none
noncomputable def XQ (m p:Nat):List Nat:=(if p=0 then ZJ m else if m=1 then [] else ZJ m)++JQ p
theorem Xo (k:Int)(p:Nat)(j:k≠0):wd k p=(if k<0 then [45] else [])++XQ k.natAbs p:=by
 rw[XT k p j];unfold XQ Vx;rw[am]
theorem Uy {m:Nat}(O:1<=m)(p:Nat):Jn (XQ m p)=some (p,m):=by
 have Y:122∉ZJ m:=(Ux (Z5 m)).1;unfold XQ JQ;by_cases z:p=0
 ·rw[if_pos z,if_pos z,aA]
  unfold Jn;rw[Wv Y,if_pos rfl,JK O,z]
 ·rw[if_neg z,if_neg z]
  have hb:(if (if p=1 then [] else ZJ p)=[] then some 1 else Yq (if p=1 then [] else ZJ p))=some p:=by
   by_cases j:p=1
   ·rw[if_pos j,if_pos rfl,j]
   ·rw[if_neg j,if_neg (Y4 p),JK (by omega)]
  have J:(if p=1 then [] else ZJ p)≠[49]:=by
   by_cases j:p=1
   ·rw[if_pos j];simp
   ·rw[if_neg j]
    intro e;have:=YJ p;rw[e] at this;exact j this.symm
  by_cases j:m=1
  ·rw[if_pos j]
   unfold Jn;rw[Wu (by simp),if_neg (by simp)];show (match (if ([]:List Nat)=[] then some 1 else Yq []),(if (if p=1 then [] else ZJ p)=[] then some 1 else Yq (if p=1 then [] else ZJ p)) with
    |some m,some h=>if (([]:List Nat)≠[]/\m=1)\/(if p=1 then [] else ZJ p)=[49] then none else some (h,m)
    |_,_=>none)=_
   rw[hb,if_pos rfl];show (if _\/_ then none else some (p,1))=_
   rw[if_neg (fun h=>h.elim (fun h=>h.1 rfl) J),j]
  ·rw[if_neg j]
   unfold Jn;rw[Wu Y,if_neg (by simp)];show (match (if ZJ m=[] then some 1 else Yq (ZJ m)),(if (if p=1 then [] else ZJ p)=[] then some 1 else Yq (if p=1 then [] else ZJ p)) with
    |some m',some h=>if (ZJ m≠[]/\m'=1)\/(if p=1 then [] else ZJ p)=[49] then none else some (h,m')
    |_,_=>none)=_
   rw[hb,if_neg (Y4 m),JK O];show (if _\/_ then none else some (p,m))=_
   rw[if_neg (fun h=>h.elim (fun h=>j h.2) J)]
theorem Zbe {l:List Nat}{p m:Nat}(h:Jn l=some (p,m)):l=XQ m p/\1<=m:=by
 obtain⟨c1,Y⟩:=YU l;unfold Jn at h;by_cases O:(ZO l).2.1=false
 ·rw[if_pos O] at h
  split at h
  ·cases h
  ·rename_i m' e
   cases h;obtain⟨a,b⟩:=W3 e;refine⟨?_,b⟩;unfold XQ JQ;rw[if_pos rfl,if_pos rfl,aA];exact a
 ·rw[if_neg O] at h
  have O:(ZO l).2.1=true:=by simpa using O
  rw[if_pos O] at Y;generalize (ZO l).1=a at h c1 Y;generalize (ZO l).2.2=b at h Y;have hb:∀{x:Nat},(if b=[] then some 1 else Yq b)=some x->b≠[49]->x≠0/\b=if x=1 then [] else ZJ x:=fun {x} e j=>by
   split at e
   ·cases e;exact⟨by decide,by rw[if_pos rfl];assumption⟩
   ·obtain⟨J,e2⟩:=W3 e
    refine⟨by omega,?_⟩;rw[if_neg (fun z=>j (by rw[J,z];rfl))];exact J
  have ha:∀{x:Nat},(if a=[] then some 1 else Yq a)=some x->¬(a≠[]/\x=1)->1<=x/\a=if x=1 then [] else ZJ x:=fun {x} e j=>by
   split at e
   ·cases e;exact⟨by decide,by rw[if_pos rfl];assumption⟩
   ·rename_i h9
    obtain⟨J,e2⟩:=W3 e;refine⟨e2,?_⟩;rw[if_neg (fun z=>j ⟨h9,z⟩)];exact J
  split at h
  ·rename_i m' p' J e2
   split at h
   ·cases h
   ·rename_i j
    cases h;obtain⟨a1,a2⟩:=ha J (fun z=>j (.inl z));obtain⟨b1,b2⟩:=hb e2 (fun z=>j (.inr z));refine⟨?_,a1⟩;rw[Y,a2,b2];unfold XQ JQ;rw[if_neg b1,if_neg b1]
  ·cases h
noncomputable def brk (c:Nat):Bool:=c == 43 || c == 45
noncomputable def Y3 (l:List Nat):List Nat:=l.takeWhile fun c=>!brk c
noncomputable def Ui (l:List Nat):List Nat:=l.dropWhile fun c=>!brk c
theorem UE (l:List Nat):Y3 l++Ui l=l:=List.takeWhile_append_dropWhile
noncomputable def JX (j:Bool)(c:Nat)(r:List Nat):Option (Int×List Nat):=if c=45 then some (-1,r) else if j=true then some (1,c::r) else if c=43 then some (1,r) else none
noncomputable def Jd (wide:Nat):Nat->Bool->Nat->List Int->List Nat->Option (List Int)
 |_,_,nx,f,[]=>if nx≠0 then some f else none
 |0,_,_,_,_::_=>none
 |n+1,fst,nx,f,c::r=>match JX fst c r with
  |none=>none
  |some (j,rest)=>match Jn (Y3 rest) with
   |none=>none
   |some (p,m)=>if p<nx\/wide<=p then none else Jd wide n false (p+1) (f.set p (j*(m:Nat))) (Ui rest)
theorem Ww {f:List Int}{p:Nat}{z:Int}(J:p<f.length)(j:Nat):Yd (f.set p z) j=if j=p then z else Yd f j:=by
 unfold Yd;rw[Zb,List.getElem?_set,Zb];by_cases h:j=p
 ·rw[if_pos h,if_pos h.symm,if_pos J];rfl
 ·rw[if_neg h,if_neg (a8 h)]
theorem WX:∀(j:List Int) (p:Nat) (acc:List Nat),(∀x∈j,x=0)->Y8 acc j p=acc
 | [],_,_,_=>rfl
 |k::r,p,acc,h=>by
  rw[Yw,if_pos (h k ai)];exact WX r (p+1) acc fun x z=>h x (ah _ z)
theorem X3 {xs:List Int}(z:List Nat){nx:Nat}:∀{d:Nat},nx+d<=xs.length->(∀j,nx<=j->j<nx+d->Yd xs j=0)->Y8 z (xs.drop nx) nx=Y8 z (xs.drop (nx+d)) (nx+d)
 |0,_,_=>rfl
 |d+1,h,J=>by
  rw[X3 (d:=d) z (by omega) (fun j a b=>J j a (by omega)),Wo (i:=nx+d) (by omega),Yw,if_pos (J _ (by omega) (by omega))];rfl
theorem drop_zero {f:List Int}{nx:Nat}(h:∀j,nx<=j->Yd f j=0):∀x∈f.drop nx,x=0:=fun x J=>by
 obtain⟨i,z⟩:=List.getElem?_of_mem J;rw[gN] at z;have:=h (nx+i) (by omega);unfold Yd at this;rw[Zb,z] at this;exact this
theorem ZcD {m:Nat}{j:Int}(h:j=1\/j=-1):(j*(m:Int)).natAbs=m:=by rcases h with rfl|rfl <;> omega
theorem Vf {wide:Nat}:∀(n:Nat) (fst:Bool) (nx:Nat) (f:List Int) (l:List Nat) {xs:List Int},Jd wide n fst nx f l=some xs->f.length=wide->(∀j,nx<=j->Yd f j=0)->
  xs.length=wide/\(∀j,j<nx->Yd xs j=Yd f j)/\(∀Y:List Nat,(Y=[]↔fst=true)->Y8 Y (xs.drop nx) nx=Y++l)/\(l=[]->nx≠0)/\(l≠[]->∃j,Yd xs j≠0)
 |n,fst,nx,f,[],xs,h,hl,hz=>by
  unfold Jd at h;split at h
  ·cases h
   exact⟨hl,fun j _=>rfl,fun Y _=>by rw[WX _ _ _ (drop_zero hz),aA],fun _=>by assumption,fun z=>absurd rfl z⟩
  ·cases h
 |0,fst,nx,f,c::r,xs,h,hl,hz=>by cases h
 |n+1,fst,nx,f,c::r,xs,h,hl,hz=>by
  unfold Jd at h;cases J:JX fst c r with
  |none=>rw[J] at h;cases h
  |some y=>
   obtain⟨sg,rest⟩:=y;rw[J] at h;have h:(match Jn (Y3 rest) with|none=>none|some (p,m)=>if p<nx\/wide<=p then none else Jd wide n false (p+1) (f.set p (sg*(m:Nat))) (Ui rest))=some xs:=h
   cases ep:Jn (Y3 rest) with
   |none=>rw[ep] at h;cases h
   |some z=>
    obtain⟨p,m⟩:=z;rw[ep] at h;have h:(if p<nx\/wide<=p then none else Jd wide n false (p+1) (f.set p (sg*(m:Nat))) (Ui rest))=some xs:=h
    split at h
    ·cases h
    rename_i i6
    obtain⟨ew,m1⟩:=Zbe ep;have i0:p<f.length:=by omega
    obtain⟨i1,i2,i3,_,_⟩:=Vf n false (p+1) (f.set p (sg*(m:Nat))) (Ui rest) h (by rw[bX];exact hl) (fun j hj=>by rw[Ww i0,if_neg (by omega)];exact hz j (by omega));have i5:sg=1\/sg=-1:=by
     unfold JX at J;split at J
     ·cases J;exact .inr rfl
     split at J
     ·cases J;exact .inl rfl
     split at J
     ·cases J;exact .inl rfl
     ·cases J
    have hk:Yd xs p=sg*(m:Int):=by rw[i2 p (by omega),Ww i0,if_pos rfl]
    have i4:Yd xs p≠0:=by rw[hk];rcases i5 with rfl|rfl <;> omega
    refine⟨i1,fun j hj=>by rw[i2 j (by omega),Ww i0,if_neg (by omega)],fun Y ha=>?_,fun z=>(by cases z),fun _=>⟨p,i4⟩⟩;have h9:=X3 (xs:=xs) Y (nx:=nx) (d:=p-nx) (by omega) (fun j a b=>by rw[i2 j (by omega),Ww i0,if_neg (by omega)];exact hz j a);rw[show nx+(p-nx)=p by omega] at h9;rw[h9,Wo (i:=p) (by omega),Yw,if_neg i4,i3 _ ⟨fun z=>absurd (dv.mp z).2 (XS _ _),fun z=>by cases z⟩,Xo _ _ i4,hk,ZcD i5,<-ew];have O:=UE rest;unfold JX at J;split at J
    ·rename_i hc
     cases J;rw[if_neg (fun z=>by omega),if_pos (by omega),aA,am,am,O,hc];rfl
    ·split at J
     ·rename_i hf
      cases J;rw[if_neg (fun z=>z.1 (ha.mpr hf)),if_neg (by omega),aA,aU,am,O]
     ·split at J
      ·rename_i hf hc
       cases J;rw[if_pos ⟨fun z=>hf (ha.mp z),by omega⟩,if_neg (by omega),aU,am,am,O,hc];rfl
      ·cases J
noncomputable def VC:List Int->Nat->List Nat
 | [],_=>[]
 |k::r,p=>if k=0 then VC r (p+1) else (if k > 0 then [43] else [])++wd k p++VC r (p+1)
theorem Ul:∀(J:List Int) (p:Nat) {acc:List Nat},acc≠[]->Y8 acc J p=acc++VC J p
 | [],_,_,_=>(aA _).symm
 |k::r,p,acc,h=>by
  rw[Yw];unfold VC;split
  ·exact Ul r (p+1) h
  ·rw[Ul r (p+1) (by simp[h])]
   by_cases j:k > 0
   ·rw[if_pos ⟨h,j⟩,if_pos j]
    simp only[am]
   ·rw[if_neg (fun z=>j z.2),if_neg j]
    simp only[am,aU]
theorem Uk:∀(j:List Int) (p:Nat),VC j p=[]\/∃c r,VC j p=c::r/\brk c=true
 | [],_=>.inl rfl
 |k::r,p=>by
  unfold VC;split
  ·exact Uk r (p+1)
  ·rename_i z
   refine .inr ?_;by_cases h:k > 0
   ·rw[if_pos h]
    exact⟨43,_,rfl,rfl⟩
   ·rw[if_neg h,Xo _ _ z,if_pos (by omega)]
    exact⟨45,_,rfl,rfl⟩
theorem XU (m p:Nat):∀c∈XQ m p,brk c=false:=fun c J=>by
 have j:c≠43/\c≠45:=by
  unfold XQ at J;rcases bd.mp J with h|h
  ·have O:bH (if p=0 then ZJ m else if m=1 then [] else ZJ m):=by
    split
    ·exact Z5 _
    ·split
     ·intro c J;cases J
     ·exact Z5 _
   have:=O c h;omega
  ·exact⟨fun z=>WU p (by decide) (by decide) (z▸h),fun z=>WU p (by decide) (by decide) (z▸h)⟩
 unfold brk;simp[j.1,j.2]
theorem ZfC {w t:List Nat}(hw:∀c∈w,brk c=false)(J:t=[]\/∃c r,t=c::r/\brk c=true):Y3 (w++t)=w/\Ui (w++t)=t:=by
 have j:∀c∈w,(!brk c)=true:=fun c z=>by rw[hw c z];rfl
 unfold Y3 Ui;rw[List.takeWhile_append_of_pos j,List.dropWhile_append_of_pos j];rcases J with rfl|⟨c,r,rfl,z⟩
 ·simp
 ·rw[dR,List.dropWhile_cons,z]
  simp
theorem ZaG (m p:Nat)(j:1<=m):XQ m p≠[]:=by
 intro z;have:=Uy j p;rw[z] at this;exact absurd this (by unfold Jn Yq;simp[ZO,Wn])
theorem V3 {wide:Nat}{xs:List Int}(hx:xs.length=wide):∀(d q n:Nat) (fst:Bool) (nx:Nat) (f:List Int) (acc l:List Nat),q+d=wide->nx<=q->f.length=wide->(∀j,j<nx->Yd f j=Yd xs j)->(∀j,nx<=j->Yd f j=0)->(∀j,nx<=j->j<q->Yd xs j=0)->
  (acc=[]↔fst=true)->Y8 acc (xs.drop q) q=acc++l->l.length<=n->(l=[]->nx≠0)->Jd wide n fst nx f l=some xs
 |0,q,n,fst,nx,f,acc,l,hq,hn,hf,h1,h2,h3,ha,O,hl,i5=>by
  rw[aY (by omega)] at O;have O:acc=acc++l:=O;have l0:l=[]:=by
   have:=congrArg fo O;rw[Zd] at this;exact fS.mp (by omega)
  subst l0;have ef:f=xs:=by
   refine List.ext_getElem? fun j=>?_;have:Yd f j=Yd xs j:=by
    by_cases hj:j<nx
    ·exact h1 j hj
    ·rw[h2 j (by omega)]
     by_cases Y:j<q
     ·exact (h3 j (by omega) Y).symm
     ·unfold Yd
      rw[Zb,cw (by omega)];rfl
   unfold Yd at this;rw[Zb,Zb] at this;by_cases hj:j<wide
   ·rw[Zf (by omega),Zf (by omega)] at this ⊢
    exact congrArg some this
   ·rw[cw (by omega),cw (by omega)]
  cases n <;> (unfold Jd;rw[if_pos (i5 rfl),ef])
 |d+1,q,n,fst,nx,f,acc,l,hq,hn,hf,h1,h2,h3,ha,O,hl,i5=>by
  have i9:q<xs.length:=by omega
  rw[Wo i9,Yw] at O;by_cases hk:Yd xs q=0
  ·rw[if_pos hk] at O
   exact V3 hx d (q+1) n fst nx f acc l (by omega) (by omega) hf h1 h2 (fun j a b=>by
    by_cases hj:j=q
    ·rw[hj];exact hk
    ·exact h3 j a (by omega)) ha O hl i5
  ·rw[if_neg hk] at O
   have i6:acc++(if acc≠[]/\Yd xs q > 0 then [43] else [])++wd (Yd xs q) q≠[]:=fun z=>absurd (dv.mp z).2 (XS _ _)
   rw[Ul _ _ i6] at O;have i7:1<=(Yd xs q).natAbs:=by omega
   have el:l=(if acc≠[]/\Yd xs q > 0 then [43] else [])++((if Yd xs q<0 then [45] else [])++(XQ (Yd xs q).natAbs q++VC (xs.drop (q+1)) (q+1))):=by
    rw[Xo _ _ hk] at O;simp only[am] at O;exact (List.append_cancel_left O).symm
   obtain⟨c1,c2⟩:=ZfC (XU (Yd xs q).natAbs q) (Uk (xs.drop (q+1)) (q+1));have j4:=Uy i7 q;have j6:∀J,(VC (xs.drop (q+1)) (q+1)).length<=J->Jd wide J false (q+1) (f.set q (Yd xs q)) (VC (xs.drop (q+1)) (q+1))=some xs:=fun J i8=>
    V3 hx d (q+1) J false (q+1) (f.set q (Yd xs q)) (acc++(if acc≠[]/\Yd xs q > 0 then [43] else [])++wd (Yd xs q) q) _ (by omega) (Zq _) (by rw[bX];exact hf)
     (fun j hj=>by
      rw[Ww (by omega)];by_cases Y:j=q
      ·rw[if_pos Y,Y]
      ·rw[if_neg Y]
       by_cases j7:j<nx
       ·exact h1 j j7
       ·rw[h2 j (by omega),h3 j (by omega) (by omega)])
     (fun j hj=>by rw[Ww (by omega),if_neg (by omega)];exact h2 j (by omega)) (fun j a b=>by omega) ⟨fun z=>absurd z i6,fun z=>by cases z⟩ (Ul _ _ i6) i8 (fun _=>by omega)
   have step:∀(J:Nat) (c:Nat) (r:List Nat) (sg:Int) (fst:Bool),JX fst c r=some (sg,XQ (Yd xs q).natAbs q++VC (xs.drop (q+1)) (q+1))->sg*((Yd xs q).natAbs:Nat)=Yd xs q->(VC (xs.drop (q+1)) (q+1)).length<=J->Jd wide (J+1) fst nx f (c::r)=some xs:=fun J c r sg fst es e i8=>by
    unfold Jd;rw[es];show (match Jn (Y3 (XQ (Yd xs q).natAbs q++VC (xs.drop (q+1)) (q+1))) with|none=>none|some (p,m)=>if p<nx\/wide<=p then none else Jd wide J false (p+1) (f.set p (sg*(m:Nat))) (Ui (XQ (Yd xs q).natAbs q++VC (xs.drop (q+1)) (q+1))))=some xs
    rw[c1,j4,c2];show (if q<nx\/wide<=q then none else Jd wide J false (q+1) (f.set q (sg*((Yd xs q).natAbs:Nat))) (VC (xs.drop (q+1)) (q+1)))=some xs
    rw[if_neg (by omega),e];exact j6 J i8
   have lw:1<=(XQ (Yd xs q).natAbs q).length:=gH.mpr (ZaG _ _ i7);by_cases i4:Yd xs q<0
   ·rw[if_neg (fun z=>by omega),if_pos i4] at el
    rw[el] at hl ⊢;simp only[aU,Zd,Zi,ao] at hl;obtain⟨J,rfl⟩:∃J,n=J+1:=⟨n-1,by omega⟩;exact step J 45 _ (-1) fst (by unfold JX;rw[if_pos rfl];rfl) (by omega) (by omega)
   ·rw[if_neg i4] at el
    by_cases i0:acc=[]
    ·rw[if_neg (fun z=>z.1 i0)] at el
     have h9:=ha.mp i0;simp only[aU] at el;rw[el] at hl ⊢;rw[Zd] at hl;obtain⟨J,rfl⟩:∃J,n=J+1:=⟨n-1,by omega⟩;cases e:XQ (Yd xs q).natAbs q with
     |nil=>exact absurd e (ZaG _ _ i7)
     |cons c r=>
      have hc:c≠45:=fun z=>by
       have:=XU (Yd xs q).natAbs q c (by rw[e];exact ai);rw[z] at this;cases this
      refine step J c (r++VC (xs.drop (q+1)) (q+1)) 1 fst (by unfold JX;rw[if_neg hc,if_pos h9,e];rfl) (by omega) (by omega)
    ·rw[if_pos ⟨i0,by omega⟩] at el
     have h9:fst=false:=by
      cases fst with
      |false=>rfl
      |true=>exact absurd (ha.mpr rfl) i0
     rw[el] at hl ⊢;simp only[aU,Zd,Zi,ao] at hl;obtain⟨J,rfl⟩:∃J,n=J+1:=⟨n-1,by omega⟩;exact step J 43 _ 1 fst (by unfold JX;rw[if_neg (by decide),h9,if_neg (by decide),if_pos rfl];rfl) (by omega) (by omega)
noncomputable def lrN (wide:Nat)(l:List Nat):Option (List Int):=if l=[48] then some (ag wide 0) else Jd wide l.length true 0 (ag wide 0) l
theorem UP (n j:Nat):Yd (ag n 0) j=0:=by
 unfold Yd;rw[Zb,ce];split <;> rfl
theorem Vg {wide:Nat}{l:List Nat}{xs:List Int}(h:lrN wide l=some xs):xs.length=wide/\WW xs=l:=by
 unfold lrN at h;split at h
 ·rename_i e
  cases h;refine⟨bK ..,?_⟩;unfold WW;rw[if_pos (WX _ _ _ fun x J=>(gL.mp J).2),e]
 ·obtain⟨O,_,Y,a4,a5⟩:=Vf _ _ _ _ _ h (bK ..) (fun j _=>UP _ j)
  have:=Y [] ⟨fun _=>rfl,fun _=>rfl⟩;rw[aU,cL] at this;refine⟨O,?_⟩;have hl:l≠[]:=fun z=>a4 z rfl;unfold WW;rw[this,if_neg hl]
theorem Zek {xs:List Int}:lrN xs.length (WW xs)=some xs:=by
 by_cases O:Y8 [] xs 0=[]
 ·have Y:=Xs xs 0 O
  unfold WW lrN;rw[if_pos O,if_pos rfl];exact congrArg some Y.symm
 ·have J:=V3 (xs:=xs) rfl xs.length 0 (Y8 [] xs 0).length true 0 (ag xs.length 0) [] (Y8 [] xs 0) (by omega) (Zq _) (bK ..) (fun j hj=>by omega) (fun j _=>UP _ j) (fun j a b=>by omega) ⟨fun _=>rfl,fun _=>rfl⟩ (by rw[cL,aU]) (Zq _) (fun z=>absurd z O)
  unfold WW lrN;rw[if_neg O];split
  ·rename_i e
   rw[e] at J;have:Jd xs.length [48].length true 0 (ag xs.length 0) [48]=none:=rfl;rw[this] at J;cases J
  ·exact J
theorem JD {wide:Nat}(h:1<=wide)(l:List Nat):lrN wide l=X7 wide l:=by
 have len:∀{j:List (List Nat)}{f g:List Int},putAll f j=some g->g.length=f.length:=fun {j}=>by
  induction j with
  |nil=>intro f g e;cases e;rfl
  |cons w j O=>
   intro f g e;obtain⟨f',Y,z⟩:=Za1 e;rw[O z,Za2 Y]
 cases e:lrN wide l with
 |some J=>
  obtain⟨a,b⟩:=Vg e;rw[<-b,<-a];exact (ZdO (by omega)).symm
 |none=>
  cases z:X7 wide l with
  |none=>rfl
  |some J=>
   obtain⟨a,b⟩:=X6 z;have hl:=len a;rw[Ze] at hl;have:=Zek (xs:=J);rw[hl,b,e] at this;cases this
theorem JB (c:Nat):∀l:List Nat,(ZS c l).length<=l.length+1/\∀w∈ZS c l,w.length<=l.length
 | []=>⟨Zq 1,fun w j=>by rw[aD.mp j];exact aC _⟩
 |x::r=>by
  obtain⟨J,z⟩:=JB c r;unfold ZS;split
  ·refine⟨by rw[Zi,Zi];omega,fun w j=>?_⟩
   rcases ak.mp j with rfl|j
   ·exact aC _
   ·have:=z w j
    rw[Zi];omega
  ·cases e:ZS c r with
   |nil=>exact absurd e (Ys c r)
   |cons q O=>
    rw[e] at J z;refine⟨by rw[Zi] at J ⊢;rw[Zi];omega,fun w j=>?_⟩;rcases ak.mp j with rfl|j
    ·have:=z q ai
     rw[Zi,Zi];omega
    ·have:=z w (ah _ j)
     rw[Zi];omega
theorem ZbS (l:List Nat):(Js l).length<=2*l.length+1/\∀w∈Js l,w.length<=2*l.length:=by
 obtain⟨J,j⟩:=JB 43 (rep l);have:=Xw l;exact⟨by unfold Js;omega,fun w z=>aG (j w z) this⟩
theorem Zdw:∀(j:List Nat) (a:Nat),bH j->j.foldl (fun z c=>z*10+(c-48)) a<(a+1)*10 ^ j.length
 | [],a,_=>by simp
 |c::j,a,h=>by
  have:=h c ai;have J:=Zdw j (a*10+(c-48)) fun d O=>h d (ah _ O);show j.foldl _ (a*10+(c-48))<_;refine aj J ?_;rw[Zi,Nat.pow_succ,eX (10 ^ j.length) 10,<-Nat.mul_assoc];exact bu _ (by omega)
theorem WS {cs:List Nat}(h:bH cs):digitsVal cs<10 ^ cs.length:=by
 have:=Zdw cs 0 h;rw[Nat.zero_add,Nat.one_mul] at this;exact this
theorem ZdN {w:List Nat}{k:Int}{p:Nat}(h:UV w=some (k,p)):k.natAbs<10 ^ (w.length+1):=by
 unfold UV at h;split at h
 ·rename_i O
  have Y:=(YI.mp O.1).2;have h1:=WS Y;have hl:(J1 w).length<=w.length+1:=by
   rcases j:ZO w with ⟨a,z,b⟩;obtain⟨la,_⟩:=XF j;have lo:(YT w).length<=w.length:=by
    unfold YT;rw[j];split
    ·rw[aI];show a.length-1<=_;omega
    ·exact la
   unfold J1;by_cases J:(ZO w).2.1=true/\YT w=[]
   ·rw[if_pos J,Zk];omega
   ·rw[if_neg J];omega
  have h2:10 ^ (J1 w).length<=10 ^ (w.length+1):=dN (by decide) hl;obtain⟨e1,_⟩:=fR (aB h);rw[<-e1];split <;> omega
 ·cases h
theorem Zca {f g:List Int}{w:List Nat}(h:YE f w=some g){B D:Nat}(z:∀x∈f,x.natAbs<=B)(hw:10 ^ (w.length+1)<=D):∀x∈g,x.natAbs<=B+D:=by
 by_cases J:w=[]
 ·unfold YE at h
  rw[if_pos J] at h;cases h;exact fun x j=>aG (z x j) (fm _ _)
 ·obtain⟨k,p,e,O,rfl⟩:=Zcb h J
  intro x j;rcases List.mem_or_eq_of_mem_set j with j|rfl
  ·exact aG (z x j) (fm _ _)
  ·have Y:=z _ (XG O)
   have h2:=ZdN e;have:=Int.natAbs_add_le (Yd f p) k;omega
end Tx
namespace C61
open PySem L2 PySem.Spec PyProof.Rows PySem.NumText
open Tx Pm
noncomputable def ZaQ (c:Nat->Ec):Sp:=fun J H Q E=>∃(n:Nat) (l:List Nat),J=[.int n,.str (tx l)]/\1<=n/\n<=60/\Yz l/\l.length<=200/\(∀z,X7 (N61.YB n).toNat l=some z->∀r j,ZC H j->j r=some (.tup (z.map V.int))->Q (.ref r) j)/\(X7 (N61.YB n).toNat l=none->∀j,ZC H j->E (.ref (c 10).C) none j)
section
variable {P:Program}{w:World}{K:ae}{mg:Str->Option Value}{base:Heap}{T U:Addr}{et:Array DictEntry}{c:Nat->Ec}
theorem Zd9 {f:Addr}{fd:FuncData}(F:Jf K "read_number" "read_number" Zfa f fd)(B:N61.Bl mg)(S:Cs K mg T U et c)(hI:K.In base)(k8:Fn P w K mg base YW 2 "places" ["n"] N61.X1)(GR:Fn P w K mg base YW 2 "read_place" ["word"] Zdd)(GS:Fn P w K mg base YW 2 "shown_number" ["one"] (Zdc K)):Yj P w K mg base (CXE P w) 3 f fd ["n", "text"] (ZaQ c):=by
 obtain⟨oc,od,kV,doc,pm,an,n4,n5,n8,rfl,lk,l7⟩:=F.ex;refine Zdu lk l7 (FS (N:=["n", "text", "found", "word", "place"])) (fun vs H Q E h=>?_) fun A l8 s H vs Q E hr h=>?_
 ·obtain⟨n,l,rfl,_⟩:=h;rfl
 ·obtain⟨n,l,rfl,n1,j6,ha,hl,q,qE⟩:=h
  have two:PyX.Xn base (c 10).C (c 10).N T U PyX.WA (nsFind (c 10).es) (nsFind et):=(S.ok 10 (by decide)).two S.tb hI;refine⟨_,UZ ZcL (ZL 2 rfl (ZD Za7 (YF (pc Zt Zu)) (WR k8 hr Z0 (pc (vn 0) Zu))))
   (UY (Zcc PassesOwn.leaving rfl (Zgc K (Zd0 bx cQ PySem.F.type_str_split Zba (Zcj (vn 1)) (pc ZA Zu))) (gn 3)
   (Zv (ZT (Zw WO (vn 3) ZA (ZB _)) (Zs (ZL 4 rfl (WR GR hr Z0 (pc (vn 3) Zu)))
   (Zs (ZT (WM (Zw JH (vn 4) Ym (ZB _)) (JE (Zw Uw (ZZ (Vi K) (vn 4) Zt (fun _ _=>rfl)) (cb (Zai K) B.len (pc (vn 2) Zu)) (ZB _)))).pt (Zv (Xc rfl two (S.pl 10 (by decide) (by decide)) fVE (Wk (by kernel_rfl)) (S.mgC 10 (by decide)) (S.ok 10 (by decide)).c.kp (pc ZA Zu) Jx (by kernel_rfl))) ZF)
   (Zv (Zcd (vn 2) (ZZ (Vi K) (vn 4) Zt (fun _ _=>rfl)) Zbr (ZZ (Vi K) (vn 4) Zt (fun _ _=>rfl)) Zbj X4)))) ZF)))
   (Zs (ZT (Zw WO (WR GS hr Z0 (pc (vn 2) Zu)) (vn 1) (ZB _)) (Zv (Xc rfl two (S.pl 10 (by decide) (by decide)) fVE (Wk (by kernel_rfl)) (S.mgC 10 (by decide)) (S.ok 10 (by decide)).c.kp (pc ZA Zu) Jx (by kernel_rfl))) ZF)
   (Zv (ZM (ct (tupK K) B.tuple (pc (vn 2) Zu)))))),?_⟩
  obtain⟨_,_,_,p1,n9⟩:=N61.XA n1 j6;have hz:(16777216:Nat)=sizeLine:=by decide
  obtain⟨wc,wl⟩:=ZbS l;have l9:putAll (ag (N61.YB n).toNat 0) (Js l)=none->X7 (N61.YB n).toNat l=none:=fun e=>by unfold X7;rw[e]
  refine⟨(by show 1<=sizeLine;decide),fun l0 n0=>?_⟩;have s0:ZC H _:=ZC.upd (o:=.lst [.int 0]) n0;refine⟨_,rfl,n,rfl,n1,j6,fun H1 s1=>?_⟩;refine⟨l0,_,_,rfl,rfl,s1 _ _ Zy,by omega,by omega,?_,fun L nL=>?_⟩
  ·show 1*_<=sizeLine
   omega
  rw[ZdL];have m3:H L=none:=(s0.trans s1).free nL;have s2:=(s0.trans s1).trans (ZC.upd (o:=.lst ((ag (N61.YB n).toNat (0:Int)).map V.int)) nL);have i0:=Zy (H:=H1) (a:=L) (o:=.lst ((ag (N61.YB n).toNat (0:Int)).map V.int));generalize upd H1 L (.lst ((ag (N61.YB n).toNat (0:Int)).map V.int))=H2 at s2 i0 ⊢;refine⟨_,rfl,tx l,rfl,by decide +kernel,by rw[Zz,ZbX,Zz];show l.length+(l.length+1)*2<=_;omega,rfl,_,_,rfl,rfl,by decide +kernel,?_,fun W nW=>⟨W,rfl,⟨_,.of Zy⟩,?_⟩⟩
  ·rw[t_m,ZbX,show tx [45]=(⟨#[45]⟩:Str) from rfl,show tx [43,45]=(⟨#[43,45]⟩:Str) from rfl,Ur,Zz]
   have:=Xw l;omega
  rw[t_m,ZbX,t_p,show tx [45]=(⟨#[45]⟩:Str) from rfl,show tx [43,45]=(⟨#[43,45]⟩:Str) from rfl,Ur,show tx [43]=(⟨#[43]⟩:Str) from rfl,UT];have i7:=Zy (H:=H2) (a:=W) (o:=.lst (((ZS 43 (rep l)).map tx).map V.str));have s3:=ZC.upd (H:=H2) (o:=.lst (((ZS 43 (rep l)).map tx).map V.str)) nW;have j7:=s3 _ _ i0;have m4:L≠W:=fun z=>by rw[z,nW] at i0;cases i0
  generalize upd H2 W (.lst (((ZS 43 (rep l)).map tx).map V.str))=H3 at i7 s3 j7 ⊢;rw[dq] at i7;refine Zbt (K:=K) (xs:=(Js l).map (V.str ∘ tx)) (fun i i4 H'=>∃(j:List Int) (v3 v4:Option V),i4=[some (.int n),some (.str (tx l)),some (.ref L),v3,v4]/\ZC H H'/\H' W=some (.lst ((Js l).map (V.str ∘ tx)))/\H' L=some (.lst (j.map V.int))/\j.length=(N61.YB n).toNat/\putAll j ((Js l).drop i)=putAll (ag (N61.YB n).toNat 0) (Js l)/\∀x∈j,x.natAbs<=i*10 ^ 401)
   ⟨_,_,_,rfl,s2.trans s3,i7,j7,by rw[Ze],rfl,fun x hx=>by rw[(gL.mp hx).2];exact aC _⟩ (fun i i4 H' _ h=>by obtain⟨_,_,_,_,_,h,_⟩:=h;exact .of h) ?_ ?_
  ·rintro i y i4 H' hy ⟨j,v3,v4,rfl,sm,hW,hL,i8,O,h9⟩
   obtain⟨Y,j8,rfl⟩:∃Y,(Js l)[i]?=some Y/\y=V.str (tx Y):=by
    rw[Zc] at hy;cases e:(Js l)[i]? with
    |none=>rw[e] at hy;cases hy
    |some r=>rw[e] at hy;exact⟨r,rfl,(aB hy).symm⟩
   have i6:=aM j8;obtain⟨m5,m6⟩:=aK.mp j8;rw[bS m5,m6] at O;have o0:=wl _ i6;have m7:10 ^ (Y.length+1)<=10 ^ 401:=dN (by decide) (by omega);refine⟨_,rfl,rfl,_,rfl,?_⟩;rw[t_e,Wz];refine ZQ (fun J=>?_) (fun J=>?_)
   ·have J:Y≠[]:=by simpa using J
    have j9:YE j Y=none->X7 (N61.YB n).toNat l=none:=fun e=>l9 (by rw[<-O];unfold Tx.putAll;rw[e]);refine⟨_,rfl,Y,rfl,ZcY ha _ i6,by omega,(fun en H4 s4=>?_),fun k p hk r H4 s4 hr=>?_⟩
    ·refine⟨_,rfl,rfl,_,rfl,?_⟩
     refine Y1 ?_;refine Y1 ?_;exact⟨(by show 1<=sizeLine;decide),qE (j9 (by unfold YE;rw[if_neg J,en])) H4 (sm.trans s4)⟩
    have i9:=s4 _ _ hL;refine⟨_,rfl,rfl,_,rfl,?_⟩;refine Yu (fun z=>by cases of_decide_eq_true z) ?_;refine⟨_,rfl,r,_,_,_,rfl,rfl,.of hr,rfl,_,rfl,L,_,rfl,.inl (.of i9),_,_,rfl,rfl,_,rfl,?_⟩;rw[Za];refine ZQ (fun z=>?_) (fun z=>?_)
    ·have m8:¬p<j.length:=by have:=of_decide_eq_true z;omega
     exact⟨(by show 1<=sizeLine;decide),qE (j9 (by unfold YE;rw[if_neg J,hk];show (if p<j.length then _ else none)=_;rw[if_neg m8])) H4 (sm.trans s4)⟩
    have hp:p<j.length:=by
     have:=fun h=>z (decide_eq_true h);have:¬((j.length:Int)<=(p:Int)):=this;omega
    have ep:YE j Y=some (j.set p (Yd j p+k)):=by unfold YE;rw[if_neg J,hk];show (if p<j.length then _ else none)=_;rw[if_pos hp]
    have j4:putAll (j.set p (Yd j p+k)) ((Js l).drop (i+1))=putAll (ag (N61.YB n).toNat 0) (Js l):=by
     rw[<-O];show _=(match YE j Y with|none=>none|some g=>Tx.putAll g ((Js l).drop (i+1)))
     rw[ep]
    refine⟨_,rfl,_,rfl,r,_,_,_,rfl,rfl,.of hr,rfl,L,_,p,.int (Yd j p),rfl,rfl,i9,UF hp,_,rfl,r,_,_,_,rfl,rfl,.of hr,rfl,_,_,rfl,rfl,L,_,_,p,rfl,rfl,i9,?_,?_⟩
    ·rw[Za];exact Vj hp
    ·refine⟨j.set p (Yd j p+k),_,_,rfl,(sm.trans s4).updr m3,?_,?_,?_,j4,?_⟩
     ·rw[ZE m4.symm];exact s4 _ _ hW
     ·rw[Zy,List.map_set]
     ·rw[bX];exact i8
     ·have:=Zca ep h9 m7
      rw[eW];exact this
   ·have J:Y=[]:=by simpa using J
    have j4:putAll j ((Js l).drop (i+1))=putAll (ag (N61.YB n).toNat 0) (Js l):=by
     rw[<-O,J];rfl
    exact⟨j,_,_,rfl,sm,hW,hL,i8,j4,fun x hx=>aG (h9 x hx) (bu _ (cV i))⟩
  ·rintro i4 H' ⟨j,v3,v4,rfl,sm,hW,hL,i8,O,h9⟩
   rw[Za] at O h9;rw[dc] at O;have O:some j=_:=O;have m9:∀x∈j,x.natAbs<10 ^ 500:=fun x hx=>by
    have h1:=h9 x hx;have h2:(Js l).length*10 ^ 401<=401*10 ^ 401:=bu _ (by omega);have h3:401*10 ^ 401<10 ^ 500:=by decide +kernel
    omega
   refine⟨_,rfl,L,_,rfl,.inl (.of hL),m9,by omega,fun H4 s4=>?_⟩;refine⟨_,rfl,rfl,_,rfl,?_⟩;rw[Wz];have i5:X7 (N61.YB n).toNat l=if WW j=l then some j else none:=by unfold X7;rw[<-O]
   refine ZQ (fun J=>?_) (fun J=>?_)
   ·have J:¬WW j=l:=by simpa using J
    rw[if_neg J] at i5;exact⟨(by show 1<=sizeLine;decide),qE i5 H4 (sm.trans s4)⟩
   ·have J:WW j=l:=by simpa using J
    rw[if_pos J] at i5;exact⟨_,rfl,L,_,rfl,.inl ⟨.of (s4 _ _ hL),fun r nr=>q j i5 r _ ((sm.trans s4).trans (ZC.upd nr)) Zy⟩⟩
end
end C61
namespace L2
open PySem PySem.Spec PyProof.Rows
open PySem.Builtin PySem.Builtin.Str
section
variable {X:Cx}
theorem Zbb:MtR X "str.index" (fun x xs H Q=>∃a b i r,x=.str a/\xs=[.str b]/\occurrences a b 0 a.length 1=i::r/\Q (.int (i:Nat)) H):=by
 intro j s σ H x xs v us Q I z J h;obtain⟨a,b,i,r,rfl,rfl,O,q⟩:=h;obtain⟨t,rfl⟩:=z;obtain⟨u,rfl,Y,rfl⟩:=vals1 J;exact call_gives gE (bp _ _ _) F.entry_str_index (F.args_str_index_2 _ _) (gives_str_index a b t Y i r O) ⟨.int i,H,I.tok _,⟨_,rfl⟩,q⟩
end
end L2
namespace Tx
open PySem L2 PySem.Spec PyProof.Rows PySem.NumText
open PySem.Builtin.Str
theorem Zfy {a b:List Nat}(h:122∉a):∃r,occurrences (tx (a++122::b)) (tx [122]) 0 (tx (a++122::b)).length 1=a.length::r:=by
 have j:StrLaws.At (tx (a++122::b)) ⟨#[122]⟩ (tx (a++122::b)).length a.length:=(bI _ _ _).mpr (by
  rw[ZP,aX (Zq _),dz];rfl)
 rcases eG (tx (a++122::b)) ⟨#[122]⟩ 1 (Zq _) with ⟨_,J⟩|⟨i,r,e,O,hm⟩
 ·exact absurd j (J _)
 ·have Y:i=a.length:=by
   rcases hU i a.length with z|z|z
   ·have:=(bI _ _ _).mp O
    rw[ZP,bR z] at this;exact absurd (aM this) h
   ·exact z
   ·exact absurd j (hm _ z)
  rw[Y] at e;exact⟨r,e⟩
theorem Zer (c:Nat)(l:List Nat):(!(occurrences (tx l) (tx [c]) 0 (tx l).length 1).isEmpty)=decide (c∈l):=dW (tx l) c
theorem VN (l:List Nat){a b:Nat}(h:a<=b)(hb:b<=l.length):aZ (tx l) (some (a:Int)) (some (b:Int))=tx ((l.drop a).take (b-a)):=by
 have:=StrLaws.sliceText_plain (x:=tx l) (i:=(a:Int)) (j:=(b:Int)) ⟨by omega,by omega,by rw[ZP];omega⟩;refine (show aZ (tx l) (some (a:Int)) (some (b:Int))=dU (tx l) (some (a:Int)) (some (b:Int)) from rfl).trans (this.trans ?_);rw[ZP,Zj,show ((b:Int)-(a:Int)).toNat=b-a by omega];rfl
theorem Zdk (l:List Nat){b:Nat}(hb:b<=l.length):aZ (tx l) none (some (b:Int))=tx (l.take b):=by
 have:=StrLaws.sliceText_to (x:=tx l) (j:=(b:Int)) ⟨by omega,by rw[ZP];omega⟩;refine (show aZ (tx l) none (some (b:Int))=dU (tx l) none (some (b:Int)) from rfl).trans (this.trans ?_);rw[ZP,show ((b:Int)-0).toNat=b by omega,cL];rfl
theorem Zb0 (l:List Nat){a:Nat}(h:l.length<=a):aZ (tx l) (some (a:Int)) none=tx []:=by
 unfold aZ;have e:strSliceIndices (some (a:Int)) none 1 (tx l).length=strSliceIndices (some ((tx l).length:Int)) none 1 (tx l).length:=by
  have j:max (0:Int) (min (a:Int) ((tx l).length:Int))=max (0:Int) (min ((tx l).length:Int) ((tx l).length:Int)):=by rw[Zz];omega
  have z:¬((a:Int)<0):=by omega
  have J:¬(((tx l).length:Int)<0):=by omega
  unfold strSliceIndices;simp only[show ((1:Int) > 0)=True from by simp,if_true,z,J,if_false,j]
 rw[e];have:=Jl l (i:=l.length) (Zq _);unfold aZ at this;rw[dc] at this;exact this
end Tx
namespace C61
open PySem L2 PySem.Spec PyProof.Rows PySem.NumText
open Tx Pm
noncomputable abbrev Zfh:Stmt:=top 30
noncomputable abbrev Zfb:Stmt:=top 31
noncomputable def ZaR:Sp:=fun z H Q _=>∃l,z=[.str (tx l)]/\Yz l/\l.length<=640/\(Yq l=none->∀j,ZC H j->Q .non j)/\∀m:Nat,Yq l=some m->∀j,ZC H j->Q (.int (m:Nat)) j
noncomputable def Zde:Sp:=fun z H Q _=>∃l,z=[.str (tx l)]/\Yz l/\l.length<=640/\(Jn l=none->∀j,ZC H j->Q .non j)/\∀h m:Nat,Jn l=some (h,m)->∀r j,ZC H j->j r=some (.tup [.int (h:Nat),.int (m:Nat)])->Q (.ref r) j
noncomputable def ndV:V->Bool
 | .str s=>!(s.cps.toList.all fun c=>decide (48<=c) && decide (c<=57))
 |_=>false
theorem Ze4:∀c,c<128->cF (.str ⟨#[c]⟩)=true:=by decide +kernel
theorem Us {K:ae}{H:Hp}:∀j:List Nat,YO K H (j.map fun c=>V.str ⟨#[c]⟩) (j.map fun c=>PyData.str ⟨#[c]⟩)
 | []=>.nil
 |c::j=>.cons (.str _) (Us j)
theorem ZcR (l:List Nat):((l.map fun c=>V.str ⟨#[c]⟩).filter ndV).map (fun y=>y)=(l.filter fun c=>!(decide (48<=c) && decide (c<=57))).map fun c=>V.str ⟨#[c]⟩:=by
 rw[fW,List.filter_map];congr 1;refine List.filter_congr fun c _=>?_;show (!([c].all _))=_;rw[eg,eL,cW]
noncomputable def vO:Option Nat->V
 |none=>.non
 |some m=>.int (m:Nat)
noncomputable def ZdE:TS:=JY (VJ (tOr (Y7 (Jk (fun x y H Q=>y=V.non/\Q (V.bl (decide (x=V.non))) H) (Yc 1) (tC V.non))) (tOr (Y7 (Jk (fun x y H Q=>y=V.non/\Q (V.bl (decide (x=V.non))) H) (Yc 3) (tC V.non)))
  (tOr (ZdF (Y7 (Jk (UX fun i j=>V.bl (decide (j<i))) (Yc 2) (tC (V.int 0)))) (Y7 (Jk rEq (Yc 1) (tC (V.int 1))))) (Y7 (Jk rEq (tSl ZaZ (Yc 0) (XX (Jk (UX fun i j=>V.int (i+j)) (Yc 2) (tC (V.int 1)))) WJ) (tC (V.str (ar "1"))))))))
  (JZ (tC V.non)) Jy) (JZ (UR (Yg (Yc 3) (Yg (Yc 1) WC))))
noncomputable def ZfV:TS:=JY (XY (tIf (Y7 (Jk rEq (tSl ZaZ (Yc 0) (XX (Jk (UX fun i j=>V.int (i+j)) (Yc 2) (tC (V.int 1)))) WJ) (tC (V.str (ar ""))))) (tC (V.int 1))
  (Jz ZaR [] E0 (Yg (tSl ZaZ (Yc 0) (XX (Jk (UX fun i j=>V.int (i+j)) (Yc 2) (tC (V.int 1)))) WJ) WC))) (Yo 3)) ZdE
theorem ZdH {l a b:List Nat}(e:l=a++122::b):aZ (tx l) (some (((a.length:Nat):Int)+1)) none=tx b:=by
 have:=Jl l (i:=a.length+1) (by rw[e,Zd,Zi];omega);rw[fC] at this;refine this.trans ?_;rw[e,fc,aY (cV _),show a.length+1-a.length=1 by omega];rfl
theorem Zd2 {l a b:List Nat}{A B:Option Nat}{D:YC}{H:Hp}(e:l=a++122::b)(hl:l.length<=640)(qn:(∀m h,A=some m->B=some h->(a≠[]/\m=1)\/b=[49])->D.rt .non H)
  (qs:∀m h,A=some m->B=some h->¬((a≠[]/\m=1)\/b=[49])->∀r H',ZC H H'->H' r=some (.tup [.int (h:Nat),.int (m:Nat)])->D.rt (.ref r) H') :
  ZdE D [some (.str (tx l)),some (vO A),some (.int (a.length:Nat)),some (vO B)] H:=by
 have hz:(16777216:Nat)=sizeLine:=by decide
 refine⟨_,rfl,rfl,_,rfl,?_⟩;cases A with
 |none=>
  refine Y1 ?_;exact Y1 (qn fun m h z=>by cases z)
 |some m=>
  refine Yu (fun z=>by cases of_decide_eq_true z) ?_;refine⟨_,rfl,rfl,_,rfl,?_⟩;cases B with
  |none=>
   refine Y1 ?_;exact Y1 (qn fun m h _ z=>by cases z)
  |some h=>
   refine Yu (fun z=>by cases of_decide_eq_true z) ?_;refine⟨_,rfl,_,_,rfl,rfl,_,rfl,?_⟩;have J:¬(a≠[]/\m=1)->Y7 (Jk rEq (tSl ZaZ (Yc 0) (XX (Jk (UX fun i j=>V.int (i+j)) (Yc 2) (tC (V.int 1)))) WJ) (tC (V.str (ar "1")))) [some (.str (tx l)),some (.int (m:Nat)),some (.int (a.length:Nat)),some (.int (h:Nat))] H (fun b H1=>if b=true then JZ (tC V.non) {D with nx:=JZ (UR (Yg (Yc 3) (Yg (Yc 1) WC))) D} [some (.str (tx l)),some (.int (m:Nat)),some (.int (a.length:Nat)),some (.int (h:Nat))] H1 else Jy {D with nx:=JZ (UR (Yg (Yc 3) (Yg (Yc 1) WC))) D} [some (.str (tx l)),some (.int (m:Nat)),some (.int (a.length:Nat)),some (.int (h:Nat))] H1):=fun h1=>by
    refine⟨_,rfl,_,rfl,_,_,rfl,rfl,_,rfl,tx l,rfl,by rw[Zz];omega,?_⟩;rw[ZdH e];refine⟨rfl,_,rfl,?_⟩;rw[t_1,Wz];refine ZQ (fun Y=>?_) (fun Y=>?_)
    ·exact qn fun m' h' _ _=>.inr (by simpa using Y)
    ·have Y:¬b=[49]:=by simpa using Y
     refine⟨_,rfl,_,rfl,(by show 2<=sizeLine;decide),fun r nr=>?_⟩;exact qs m h rfl rfl (fun z=>z.elim h1 Y) r _ (ZC.upd nr) Zy
   refine ZQ (fun O=>?_) (fun O=>?_)
   ·have O:a≠[]:=fun z=>by rw[z] at O;exact absurd O (by decide)
    refine⟨_,rfl,rfl,_,rfl,?_⟩;by_cases hm:m=1
    ·rw[show decide (vO (some m)=V.int 1)=true from decide_eq_true (by rw[hm];rfl)]
     refine Y1 ?_;exact Y1 (qn fun m' h' e1 _=>by cases e1;exact .inl ⟨O,hm⟩)
    ·rw[show decide (vO (some m)=V.int 1)=false from decide_eq_false (fun z=>hm (by have:V.int ((m:Nat):Int)=V.int 1:=z;have:=V.int.inj this;omega))]
     refine Yu (by decide) ?_;exact J fun z=>hm z.2
   ·refine Yu (by decide) ?_
    exact J fun z=>O (decide_eq_true (by have:=gH.mpr z.1;show (0:Int)<(a.length:Int);omega))
theorem Zdr {l a b:List Nat}(j:ZO l=(a,false,b)):(Yq l=none->Jn l=none)/\∀m,Yq l=some m->Jn l=some (0,m):=
 ⟨fun e=>by unfold Jn;rw[j,if_pos rfl,e],fun m e=>by unfold Jn;rw[j,if_pos rfl,e]⟩
theorem Zdq {l a b:List Nat}{A B:Option Nat}(z:ZO l=(a,true,b))(J:A=if a=[] then some 1 else Yq a)(O:B=if b=[] then some 1 else Yq b) :
  ((∀m h,A=some m->B=some h->(a≠[]/\m=1)\/b=[49])->Jn l=none)/\∀m h,A=some m->B=some h->¬((a≠[]/\m=1)\/b=[49])->Jn l=some (h,m):=by
 unfold Jn;rw[z,if_neg (by simp)];simp only;rw[<-J,<-O];refine⟨fun j=>?_,fun m h Y e2 j=>?_⟩
 ·cases A with
  |none=>rfl
  |some m=>
   cases B with
   |none=>rfl
   |some h=>
    simp only;rw[if_pos (j m h rfl rfl)]
 ·rw[Y,e2]
  simp only;rw[if_neg j]
section
variable {P:Program}{w:World}{K:ae}{mg:Str->Option Value}{base:Heap}
theorem Zeg {f:Addr}{fd:FuncData}(F:Jf K "_law_figures" "_law_figures" Zfh f fd)(T:N61.Bl mg):Yj P w K mg base YW 1 f fd ["_law_text"] ZaR:=by
 refine F.ok (FS (N:=["_law_text"])) (fun vs H Q E h=>?_) (fun i5 A h9 s H vs Q E hr h=>?_)
 ·obtain⟨l,rfl,_⟩:=h;rfl
 ·obtain⟨l,rfl,ha,hl,qn,qs⟩:=h
  refine⟨_,Zs (ZT (WM (Zw Z2 (vn 0) ZA (ZB _)) (WM (Zw (neC K hr.units) (cmp ["_law_sign"] [] ["_law_sign"] rfl (Za4 (vn 0)) (fun _ _ _ _ _=>gn 0) (fun _ _ _ _ _=>Ut (Zw YZ (vn 0) ZA (by rfl))) (fun _ _ _ _ _=>vn 0)) (YF Zu) (ZB _)) (JE (Zw Z2 (ZZ JL (vn 0) Zt (fun _ _=>rfl)) ZA (ZB _))))).pt (Zv (ZM Ym)) ZF)
   (Zv (ZM (ct Jc T.int (pc (vn 0) Zu)))),?_⟩
  have hz:(16777216:Nat)=sizeLine:=by decide
  refine⟨_,rfl,rfl,_,rfl,?_⟩;rw[t_e,Wz];refine ZQ (fun J=>?_) (fun J=>?_)
  ·have J:l=[]:=by simpa using J
   exact qn (by rw[J];rfl) H (ZC.refl _)
  have J:l≠[]:=by simpa using J
  refine⟨_,rfl,_,rfl,UQ ha,?_⟩;refine Xh (Uo (tx l)) [] rfl ndV (fun y=>y) (by rw[Za];show l.length<=_;omega) (fun i x H' hx s' R R' g1 g2=>?_) (fun D H1 nD s1 hD=>?_)
  ·rw[Zc] at hx
   cases e:(tx l).cps.toList[i]? with
   |none=>rw[e] at hx;cases hx
   |some c=>
    rw[e] at hx;cases hx;refine⟨_,rfl,_,_,rfl,rfl,_,rfl,?_⟩;rw[t_d,Zbk];have eb:ndV (V.str ⟨#[c]⟩) = !(decide (48<=c) && decide (c<=57)):=by
     show (!([c].all _))=_;rw[eg,eL,cW]
    refine ZQ (fun b1=>?_) (fun b1=>?_)
    ·exact⟨_,rfl,g1 (by rw[<-b1];exact eb) H' (ZC.refl _)⟩
    ·exact g2 (by rw[show ndV _=_ from eb];simpa using b1) H' (ZC.refl _)
  ·rw[ZcR,show (tx l).cps.toList=l from rfl] at hD
   refine⟨(by show 0<=sizeLine;omega),fun D2 i0=>?_⟩;have s2:=ZC.upd (H:=H1) (o:=.lst []) i0;refine⟨.list ((l.filter fun c=>!(decide (48<=c) && decide (c<=57))).map fun c=>PyData.str ⟨#[c]⟩),.list [],.lst (.of (s2 _ _ hD)) (Us _),.lst (.of Zy) .nil,?_,by decide +kernel,_,rfl,?_⟩
   ·refine N61.Zb2 fun d hd=>?_
    obtain⟨c,hc,rfl⟩:=dn.mp hd;have:=ha c (fu.mp hc).1;exact⟨Ze4 c this,aC _⟩
   rw[N61.Zev];have O:=s1.trans s2;refine ZQ (fun Y=>?_) (fun Y=>?_)
   ·refine Y1 ?_
    refine qn ?_ _ O;unfold Yq;rw[if_neg];rintro⟨hf,_⟩;have hd:=(YI.mp hf).2;have:(l.filter fun c=>!(decide (48<=c) && decide (c<=57)))=[]:=fX.mpr fun c hc=>by
     have:=hd c hc;simp[this.1,this.2]
    rw[this] at Y;cases Y
   ·have hd:bH l:=fun c hc=>by
     have Y:(l.filter fun c=>!(decide (48<=c) && decide (c<=57)))=[]:=by simpa using Y
     have:=fX.mp Y c hc;simpa using this
    have i4:Wn l=true:=YI.mpr ⟨J,hd⟩;obtain⟨c0,r0,e0⟩:=List.exists_cons_of_ne_nil J;refine⟨_,rfl,tx l,0,c0,rfl,rfl,by rw[Zz];omega,by rw[ZP,e0];exact Y6 (j:=0) rfl,rfl,_,rfl,?_⟩;rw[t_0,show (⟨#[c0]⟩:Str)=tx [c0] from rfl,Wz];refine ZQ (fun h2=>?_) (fun h2=>?_)
    ·refine qn ?_ _ O
     unfold Yq;rw[if_neg];rintro⟨_,hh⟩;have:c0=48:=by simpa using h2
     rw[e0,this] at hh;exact hh rfl
    ·refine⟨_,rfl,tx l,_,rfl,hl,f8 (x:=tx l) hd J (by rw[Zz];omega),?_⟩
     refine qs (digitsVal l) ?_ _ O;have hh:l.head?≠some 48:=fun z=>h2 (by
      rw[e0] at z;rw[show c0=48 from aB z];decide)
     unfold Yq;rw[if_pos ⟨i4,hh⟩]
theorem Zea {f:Addr}{fd:FuncData}(F:Jf K "_law_piece" "_law_piece" Zfb f fd)(T:N61.Bl mg)(GF:Fn P w K mg base YW 1 "_law_figures" ["_law_text"] ZaR):Yj P w K mg base YW 2 f fd ["_law_text"] Zde:=by
 refine F.ok (FS (N:=["_law_text", "_law_many", "_law_at", "_law_high"])) (fun vs H Q E h=>?_) (fun i6 A i0 s H vs Q E hr h=>?_)
 ·obtain⟨l,rfl,_⟩:=h;rfl
 ·obtain⟨l,rfl,ha,hl,qn,qs⟩:=h
  refine⟨_,Zs (ZT (Zw YZ ZA (vn 0) (by rfl)) (Zs (ZL 1 rfl (WR GF hr Z0 (pc (vn 0) Zu)))
   (Zv (ZM (Z1 (Zw JH (vn 1) Ym (ZB _)) Ym (W0 (pc Zt (pc (vn 1) Zu))))))) ZF)
   (Zs (ZL 2 rfl (Xd bx gE PySem.F.type_str_index Zbb (vn 0) (pc ZA Zu)))
   (Zs (ZL 1 rfl (Z1 (Zw Z2 (vn 2) Zt (ZB _)) Zt (WR GF hr Z0 (pc (ZU Yi (vn 0) Z8 (ZV (vn 2))) Zu))))
   (Zs (ZL 3 rfl (Z1 (Zw Z2 (ZU Yi (vn 0) (ZV (ZD Yb (vn 2) Zt)) Z8) ZA (ZB _)) Zt (WR GF hr Z0 (pc (ZU Yi (vn 0) (ZV (ZD Yb (vn 2) Zt)) Z8) Zu))))
   (Zs (ZT (WM (Zw JH (vn 1) Ym (ZB _)) (WM (Zw JH (vn 3) Ym (ZB _)) (WM (YY (Zw Y9 (vn 2) Zt (ZB _)) (YA (Zw Z2 (vn 1) Zt (ZB _)))).pt (JE (Zw Z2 (ZU Yi (vn 0) (ZV (ZD Yb (vn 2) Zt)) Z8) ZA (ZB _)))))).pt (Zv (ZM Ym)) ZF)
   (Zv (ZM (W0 (pc (vn 3) (pc (vn 1) Zu))))))))),?_⟩
  have hz:(16777216:Nat)=sizeLine:=by decide
  rcases hc:ZO l with ⟨a,z,b⟩;obtain⟨c1,j⟩:=YU l;rw[hc] at c1 j;refine⟨_,rfl,_,_,rfl,rfl,_,rfl,?_⟩;rw[t_z,Zer];cases z
  ·have j:l=a:=j
   rw[show decide (122∈l)=false from decide_eq_false (by rw[j];exact c1)];refine Y1 ?_;refine⟨_,rfl,l,rfl,ha,hl,fun e J Y=>?_,fun m e J Y=>?_⟩
   ·refine⟨_,rfl,rfl,_,rfl,Y1 ?_⟩
    exact qn ((Zdr hc).1 e) J Y
   ·have i4:=(Zdr hc).2 m e
    refine⟨_,rfl,rfl,_,rfl,Yu (fun z=>by cases of_decide_eq_true z) ?_⟩;refine⟨_,rfl,(by show 2<=sizeLine;decide),fun r nr=>?_⟩;exact qs 0 m i4 r _ (Y.trans (ZC.upd nr)) Zy
  ·have j:l=a++122::b:=j
   rw[show decide (122∈l)=true from decide_eq_true (by rw[j];simp)];refine Yu (by decide) ?_;have i5:a.length<=l.length/\b.length<=l.length:=by rw[j,Zd,Zi];omega
   have aa:Yz a:=fun c h=>ha c (by rw[j];exact bb _ h);have ab:Yz b:=fun c h=>ha c (by rw[j];exact av _ (ah _ h));obtain⟨r0,h9⟩:=Zfy (b:=b) c1;rw[<-j] at h9;refine⟨_,rfl,rfl,tx l,_,a.length,r0,rfl,rfl,h9,?_⟩;have O:∀{A B:Option Nat}{J:Hp},A=(if a=[] then some 1 else Yq a)->B=(if b=[] then some 1 else Yq b)->ZC H J->ZdE {nx:=fun x H'=>Q V.non H',rt:=Q} [some (.str (tx l)),some (vO A),some (.int (a.length:Nat)),some (vO B)] J:=fun {A B J} eA eB Y=>by
    exact Zd2 j hl (fun hn=>qn ((Zdq hc eA eB).1 hn) J Y) (fun m h e1 e2 hn r H' s' hr=>qs h m ((Zdq hc eA eB).2 m h e1 e2 hn) r H' (Y.trans s') hr)
   have fin2:∀{A:Option Nat}{J:Hp},A=(if a=[] then some 1 else Yq a)->ZC H J->ZfV {nx:=fun x H'=>Q V.non H',rt:=Q} [some (.str (tx l)),some (vO A),some (.int (a.length:Nat)),none] J:=fun {A J} eA Y=>by
    refine⟨_,rfl,_,rfl,_,_,rfl,rfl,_,rfl,tx l,rfl,by rw[Zz];omega,?_⟩;rw[ZdH j];refine⟨rfl,_,rfl,?_⟩;rw[t_e,Wz];refine ZQ (fun h2=>?_) (fun h2=>?_)
    ·exact O (B:=some 1) eA (by rw[if_pos (by simpa using h2)]) Y
    ·have h2:¬b=[]:=by simpa using h2
     refine⟨_,rfl,_,rfl,_,_,rfl,rfl,_,rfl,tx l,rfl,by rw[Zz];omega,?_⟩;rw[ZdH j];refine⟨b,rfl,ab,by omega,fun e H2 s2=>?_,fun m e H2 s2=>?_⟩
     ·exact O (B:=none) eA (by rw[if_neg h2,e]) (Y.trans s2)
     ·exact O (B:=some m) eA (by rw[if_neg h2,e]) (Y.trans s2)
   refine⟨_,rfl,rfl,_,rfl,?_⟩;refine ZQ (fun h1=>?_) (fun h1=>?_)
   ·have h1:a=[]:=by
     have:=V.int.inj (of_decide_eq_true h1);exact fS.mp (by omega)
    exact fin2 (A:=some 1) (by rw[if_pos h1]) (ZC.refl _)
   ·have h1:¬a=[]:=fun z=>h1 (by rw[z];rfl)
    refine⟨_,rfl,_,rfl,_,rfl,tx l,rfl,by rw[Zz];omega,?_⟩;rw[Zdk l i5.1,show l.take a.length=a by rw[j,cB (Zq _),cx]];refine⟨a,rfl,aa,by omega,fun e H2 s2=>?_,fun m e H2 s2=>?_⟩
    ·exact fin2 (A:=none) (by rw[if_neg h1,e]) s2
    ·exact fin2 (A:=some m) (by rw[if_neg h1,e]) s2
end
end C61
namespace Tx
open PySem L2 PySem.Spec PyProof.Rows PySem.NumText
open PySem.Builtin.Str
theorem ZeT:ar "+-"=tx [43,45]:=ZbX
theorem Zes (c:Nat):(!(!(occurrences (tx [43,45]) ⟨#[c]⟩ 0 (tx [43,45]).length 1).isEmpty)) = !brk c:=by
 rw[dW,ZP];unfold brk;congr 1;rw[be];simp
theorem Zah {wide n nx c:Nat}{fst:Bool}{f:List Int}{r:List Nat}(h:JX fst c r=none):Jd wide (n+1) fst nx f (c::r)=none:=by
 unfold Jd;rw[h]
theorem Zag {wide n nx c:Nat}{fst:Bool}{f:List Int}{r rest:List Nat}{j:Int}(h:JX fst c r=some (j,rest))(z:Jn (Y3 rest)=none):Jd wide (n+1) fst nx f (c::r)=none:=by
 unfold Jd;rw[h];simp only;rw[z]
theorem Zbd {wide n nx c p m:Nat}{fst:Bool}{f:List Int}{r rest:List Nat}{j:Int}(h:JX fst c r=some (j,rest))(z:Jn (Y3 rest)=some (p,m)) :
  Jd wide (n+1) fst nx f (c::r)=if p<nx\/wide<=p then none else Jd wide n false (p+1) (f.set p (j*(m:Nat))) (Ui rest):=by
 conv=>lhs;unfold Jd
 rw[h];simp only;rw[z]
theorem ZcF {wide n nx:Nat}{fst:Bool}{f:List Int}:Jd wide n fst nx f []=if nx≠0 then some f else none:=by
 cases n <;> rfl
theorem Zbp:∀{l:List Nat}{j c:Nat},j<=(Y3 l).length->l[j]?=some c->(brk c=false↔j<(Y3 l).length)
 | [],j,c,_,h=>by cases h
 |x::r,0,c,_,h=>by
  cases h;unfold Y3;rw[dR];cases hb:brk x <;> simp[hb]
 |x::r,j+1,c,z,h=>by
  unfold Y3 at z ⊢;rw[dR] at z ⊢;cases hb:brk x with
  |true=>rw[hb] at z;simp at z
  |false=>
   simp only[hb,Bool.not_false,if_true,Zi] at z ⊢;have:=Zbp (l:=r) (j:=j) (c:=c) (by unfold Y3;omega) h;unfold Y3 at this;rw[this];omega
theorem Zet (l:List Nat):(Y3 l).length<=l.length:=by
 have:=congrArg fo (UE l);rw[Zd] at this;omega
theorem Zbo (l:List Nat):l.take (Y3 l).length=Y3 l:=by
 have h:=UE l
 calc l.take (Y3 l).length=(Y3 l++Ui l).take (Y3 l).length:=by rw[h]
  _=Y3 l:=by rw[cB (Zq _),cx]
theorem ZaK (l:List Nat):l.drop (Y3 l).length=Ui l:=by
 have h:=UE l
 calc l.drop (Y3 l).length=(Y3 l++Ui l).drop (Y3 l).length:=by rw[h]
  _=Ui l:=by rw[fc,dc,dz];rfl
theorem JR {l:List Nat}(h:Yz l)(a:Nat):Yz (l.drop a):=fun c j=>h c (gy j)
theorem Zc2 {l:List Nat}(h:Yz l):Yz (Y3 l):=fun c j=>h c ((List.takeWhile_sublist _).subset j)
theorem Zel {w:List Nat}{p m:Nat}(h:Jn w=some (p,m)):1<=w.length:=by
 cases w with
 |nil=>exact absurd h (by unfold Jn Yq;simp[ZO,Wn])
 |cons c r=>rw[Zi];omega
end Tx
namespace C61
open PySem L2 PySem.Spec PyProof.Rows PySem.NumText
open Tx Pm
noncomputable abbrev Zfd:Stmt:=top 32
noncomputable def Zdg:Sp:=fun J H Q _=>∃(wide:Nat) (l:List Nat),J=[.int (wide:Nat),.str (tx l)]/\1<=wide/\wide<=60/\Yz l/\l.length<=600/\(lrN wide l=none->∀j,ZC H j->Q .non j)/\∀z,lrN wide l=some z->∀r j,ZC H j->j r=some (.tup (z.map V.int))->Q (.ref r) j
noncomputable def sgo {fst:Bool}{c:Nat}{r t:List Nat}{s:Int}(_:JX fst c r=some (s,t)):Int:=s
theorem ZdI {fst:Bool}{c:Nat}{r t:List Nat}{s:Int}(h:JX fst c r=some (s,t)):s=1\/s=-1:=by
 unfold JX at h;split at h
 ·cases h;exact .inr rfl
 split at h
 ·cases h;exact .inl rfl
 split at h
 ·cases h;exact .inl rfl
 ·cases h
section
variable {P:Program}{w:World}{K:ae}{mg:Str->Option Value}{base:Heap}
theorem Zec {f:Addr}{fd:FuncData}(F:Jf K "_law_read" "_law_read" Zfd f fd)(T:N61.Bl mg)(k8:Fn P w K mg base YW 2 "_law_piece" ["_law_text"] Zde):Yj P w K mg base YW 3 f fd ["_law_wide", "_law_text"] Zdg:=by
 refine F.ok (FS (N:=["_law_wide", "_law_text", "_law_found", "_law_last", "_law_at", "_law_sign", "_law_end", "_law_piece_here"])) (fun vs H Q E h=>?_) (fun m8 A l7 s H vs Q E hr h=>?_)
 ·obtain⟨wide,l,rfl,_⟩:=h;rfl
 ·obtain⟨wide,l,rfl,w1,m9,ha,hl,qn,qs⟩:=h
  refine⟨_,Zs (ZT (Zw Z2 (vn 1) ZA (ZB _)) (Zv (ZM (ZD Zcr (W0 (pc Zt Zu)) (vn 0)))) ZF)
   (Zs (ZL 2 rfl (ZD Za7 (YF (pc Zt Zu)) (vn 0)))
   (Zs (ZL 3 rfl (Va Jw Zt))
   (Zs (ZL 4 rfl Zt)
   (Zs (Wg aV (Zw Uv (vn 4) (cb (Y5) T.len (pc (vn 1) Zu)) (ZB _))
   (Zs (ZL 5 rfl Zt)
   (Zs (ZT (Zw Z2 (ZZ JL (vn 1) (vn 4) (fun _ _=>rfl)) ZA (ZB _)) (Zs (ZL 5 rfl (Va Jw Zt))
   (Zv (ZL 4 rfl (ZD Yb (vn 4) Zt)))) (Zv (ZT (YY (Zw Y9 (vn 4) Zt (ZB _)) (YA (Zw Z2 (ZZ JL (vn 1) (vn 4) (fun _ _=>rfl)) ZA (ZB _)))).pt (Zv (ZL 4 rfl (ZD Yb (vn 4) Zt))) (Zv (ZT (Zw Y9 (vn 4) Zt (ZB _)) (Zv (ZM Ym)) ZF)))))
   (Zs (ZL 6 rfl (vn 4))
   (Zs (Wg aV (YY (Zw Uv (vn 6) (cb (Y5) T.len (pc (vn 1) Zu)) (ZB _)) (YA (Zw YZ (ZZ JL (vn 1) (vn 6) (fun _ _=>rfl)) ZA (by rfl)))).pt
   (Zv (ZL 6 rfl (ZD Yb (vn 6) Zt))))
   (Zs (ZL 7 rfl (WR k8 hr Z0 (pc (ZU Yi (vn 1) (ZV (vn 4)) (ZV (vn 6))) Zu)))
   (Zs (ZT (WM (Zw JH (vn 7) Ym (ZB _)) (WM (Zw Zfq (ZZ (Vi K) (vn 7) Zt (fun _ _=>rfl)) (vn 3) (ZB _)) (JE (Zw Uw (ZZ (Vi K) (vn 7) Zt (fun _ _=>rfl)) (vn 0) (ZB _))))).pt (Zv (ZM Ym)) ZF)
   (Zs (ZL 3 rfl (ZZ (Vi K) (vn 7) Zt (fun _ _=>rfl)))
   (Zs (ZdV (ZD Y0 (vn 5) (ZZ (Vi K) (vn 7) Zt (fun _ _=>rfl))) (ZdX (vn 2) (vn 3) X4))
   (Zv (ZL 4 rfl (vn 6))))))))))))
   (Zv (ZM (Z1 (Zw Uw (vn 3) Zt (ZB _)) (ct (tupK K) T.tuple (pc (vn 2) Zu)) Ym))))))),?_⟩
  have hz:(16777216:Nat)=sizeLine:=by decide
  refine⟨_,rfl,rfl,_,rfl,?_⟩;rw[t_0,Wz];refine ZQ (fun h0=>?_) (fun h0=>?_)
  ·have h0:l=[48]:=by simpa using h0
   refine⟨(by show 1<=sizeLine;decide),fun c1 m1=>?_⟩;refine⟨_,rfl,c1,_,wide,rfl,rfl,Zy,by simp,by simp only[Zi,ao];omega,by omega,fun d1 H1 s1 j4=>?_⟩;rw[Zf1] at j4;exact qs (ag wide 0) (by unfold lrN;rw[if_pos h0]) d1 H1 ((ZC.upd m1).trans s1) j4
  have h0:¬l=[48]:=by simpa using h0
  have l8:lrN wide l=Jd wide l.length true 0 (ag wide 0) l:=by unfold lrN;rw[if_neg h0]
  rw[l8] at qn qs;obtain⟨R,j6⟩:∃R,Jd wide l.length true 0 (ag wide 0) l=R:=⟨_,rfl⟩;rw[j6] at qn qs;refine⟨(by show 1<=sizeLine;decide),fun l0 n0=>?_⟩;have s0:ZC H _:=ZC.upd (o:=.lst [.int 0]) n0;refine⟨_,rfl,l0,_,_,rfl,rfl,Zy,by omega,by omega,?_,fun L nL=>?_⟩
  ·rw[Zj]
   show 1*wide<=sizeLine;omega
  rw[Zj,ZdL];have l9:H L=none:=s0.free nL;have s2:=s0.trans (ZC.upd (o:=.lst ((ag wide (0:Int)).map V.int)) nL);refine⟨_,rfl,?_⟩;refine YQ (fun k O H'=>∃(J nx n:Nat) (f:List Int) (v5 v6 v7:Option V),O=[some (.int (wide:Nat)),some (.str (tx l)),some (.ref L),some (.int ((nx:Int)-1)),some (.int (J:Nat)),v5,v6,v7]/\ZC H H'/\H' L=some (.lst (f.map V.int))/\f.length=wide/\J<=l.length/\l.length-J<=k/\(l.drop J).length<=n/\Jd wide n (decide (J=0)) nx f (l.drop J)=R)
   (fun O H'=>∃(nx:Nat) (f:List Int) (v4 v5 v6 v7:Option V),O=[some (.int (wide:Nat)),some (.str (tx l)),some (.ref L),some (.int ((nx:Int)-1)),v4,v5,v6,v7]/\ZC H H'/\H' L=some (.lst (f.map V.int))/\R=if nx≠0 then some f else none) ?hend ⟨l.length,0,0,l.length,ag wide 0,_,_,_,rfl,s2,Zy,bK ..,aC _,by omega,by rw[cL];exact Zq _,by rw[cL];exact j6⟩ ?turn
  case hend=>
   rintro O H' ⟨nx,f,v4,v5,v6,v7,rfl,sm,hL,eR⟩;refine⟨_,rfl,_,_,rfl,rfl,_,rfl,?_⟩;refine ZQ (fun h1=>?_) (fun h1=>?_)
   ·have h1:=of_decide_eq_true h1
    rw[if_pos (by omega)] at eR;exact⟨_,rfl,L,_,rfl,.inl ⟨.of hL,fun r nr=>qs f eR r _ (sm.trans (ZC.upd nr)) Zy⟩⟩
   ·have h1:¬(0:Int)<=(nx:Int)-1:=fun z=>h1 (decide_eq_true z)
    rw[if_neg (by omega)] at eR;exact qn eR H' sm
  case turn=>
   rintro i7 k O H' ⟨J,nx,n,f,v5,v6,v7,rfl,sm,hL,hf,n4,hk,hn,Y⟩;refine⟨_,rfl,_,rfl,tx l,rfl,by rw[Zz];omega,_,_,rfl,rfl,_,rfl,?_⟩;rw[Zz];refine ZQ (fun h1=>?_) (fun h1=>?_)
   ·have h1:J<l.length:=by have:=of_decide_eq_true h1;omega
    rw[bS h1] at hn Y;rw[Zi] at hn;obtain⟨n',rfl⟩:∃n',n=n'+1:=⟨n-1,by omega⟩;have hc:atI (tx l).cps.toList ((J:Nat):Int)=some l[J]:=Y6 (by rw[ZP];exact Zf h1);generalize ec:l[J]=c at hn Y hc;refine⟨_,fun _ _ z=>z,?_⟩;refine⟨_,rfl,_,rfl,tx l,_,_,rfl,rfl,by rw[Zz];omega,hc,rfl,_,rfl,?_⟩;rw[t_m,show (⟨#[c]⟩:Str)=tx [c] from rfl,Wz];refine ZQ (fun hm=>?A) (fun hm=>?B)
    case' A=>
     have hm:c=45:=by simpa using hm
     refine⟨_,rfl,_,rfl,_,_,rfl,rfl,?_⟩;show Yo 4 (V.int (((J:Nat):Int)+1)) _ _ _;obtain⟨a2,h9,i8⟩:∃a2:Nat,((J:Nat):Int)+1=(a2:Nat)/\J+1=a2:=⟨J+1,by omega,rfl⟩;rw[h9];rw[i8] at Y;have es:JX (decide (J=0)) c (l.drop a2)=some (-1,l.drop a2):=by unfold JX;rw[if_pos hm]
     have j7:a2<=l.length:=by omega
     have j8:l.length-a2<=k:=by omega
     have i9:(l.drop a2).length<=n'+1:=by rw[aI];rw[aI] at hn;omega
    case' B=>
     have hm:¬c=45:=by simpa using hm
     refine⟨_,rfl,_,_,rfl,rfl,_,rfl,?_⟩;refine ZQ (fun hp=>?B1) (fun hp=>?B2)
    case' B1=>
     have i6:¬J=0:=by have:=of_decide_eq_true hp;omega
     refine⟨_,rfl,_,rfl,tx l,_,_,rfl,rfl,by rw[Zz];omega,hc,rfl,_,rfl,?_⟩;rw[t_p,show (⟨#[c]⟩:Str)=tx [c] from rfl,Wz];refine ZQ (fun i0=>?B11) (fun i0=>?B12)
    case B12=>
     have i0:¬c=43:=by simpa using i0
     have es:JX (decide (J=0)) c (l.drop (J+1))=none:=by unfold JX;rw[if_neg hm,decide_eq_false i6,if_neg (by decide),if_neg i0]
     rw[Zah es] at Y;refine⟨_,rfl,_,_,rfl,rfl,_,rfl,?_⟩;refine ZQ (fun _=>?_) (fun z=>absurd hp z);exact qn Y.symm H' sm
    case' B11=>
     have i0:c=43:=by simpa using i0
     refine⟨_,rfl,_,_,rfl,rfl,?_⟩;show Yo 4 (V.int (((J:Nat):Int)+1)) _ _ _;obtain⟨a2,h9,i8⟩:∃a2:Nat,((J:Nat):Int)+1=(a2:Nat)/\J+1=a2:=⟨J+1,by omega,rfl⟩;rw[h9];rw[i8] at Y;have es:JX (decide (J=0)) c (l.drop a2)=some (1,l.drop a2):=by unfold JX;rw[if_neg hm,decide_eq_false i6,if_neg (by decide),if_pos i0]
     have j7:a2<=l.length:=by omega
     have j8:l.length-a2<=k:=by omega
     have i9:(l.drop a2).length<=n'+1:=by rw[aI];rw[aI] at hn;omega
    case' B2=>
     have i6:J=0:=by have:¬(0:Int)<(J:Int):=fun z=>hp (decide_eq_true z);omega
     refine Yu (by decide) ?_;refine⟨_,rfl,_,_,rfl,rfl,_,rfl,?_⟩;refine ZQ (fun z=>absurd z hp) (fun _=>?_);have ed:c::l.drop (J+1)=l.drop J:=by rw[<-ec];exact (bS h1).symm
     have es:JX (decide (J=0)) c (l.drop (J+1))=some (1,l.drop J):=by unfold JX;rw[if_neg hm,decide_eq_true i6,if_pos rfl,ed]
     obtain⟨a2,h9⟩:∃a2:Nat,J=a2:=⟨_,rfl⟩;rw[h9] at es;rw[h9];rw[h9] at Y;have j7:a2<=l.length:=by omega
     have j8:l.length-a2<=k:=by omega
     have i9:(l.drop a2).length<=n'+1:=by rw[aI];rw[aI] at hn;omega
    all_goals
     have m3:=Zet (l.drop a2);rw[aI] at m3;refine⟨_,rfl,?_⟩;refine YQ (fun k' O i4=>∃j:Nat,O=[some (.int (wide:Nat)),some (.str (tx l)),some (.ref L),some (.int ((nx:Int)-1)),some (.int (a2:Nat)),some (.int (sgo es)),some (.int ((a2+j:Nat):Int)),v7]/\i4=H'/\j<=(Y3 (l.drop a2)).length/\(Y3 (l.drop a2)).length-j<=k')
      (fun O i4=>O=[some (.int (wide:Nat)),some (.str (tx l)),some (.ref L),some (.int ((nx:Int)-1)),some (.int (a2:Nat)),some (.int (sgo es)),some (.int ((a2+(Y3 (l.drop a2)).length:Nat):Int)),v7]/\i4=H') ?_ ⟨_,0,rfl,rfl,aC _,Zq _⟩ ?_
     ·rintro O i4 ⟨rfl,rfl⟩
      have n9:sgo es=1\/sgo es=-1:=ZdI es;refine⟨_,rfl,_,rfl,_,rfl,_,rfl,_,rfl,tx l,rfl,by rw[Zz];omega,?_⟩;rw[VN l (fm _ _) (by omega),Nat.add_sub_cancel_left,Zbo];refine⟨Y3 (l.drop a2),rfl,Zc2 (JR ha a2),by omega,fun e H1 s1=>?_,fun p m e r H1 s1 hr=>?_⟩
      ·rw[Zag es e] at Y
       exact⟨_,rfl,rfl,_,rfl,Y1 (Y1 (qn Y.symm H1 (sm.trans s1)))⟩
      have o0:=Zel e;have m4:=s1 _ _ hL;rw[Zbd es e] at Y;refine⟨_,rfl,rfl,_,rfl,Yu (fun z=>by cases of_decide_eq_true z) ?_⟩;refine⟨_,rfl,r,_,_,_,rfl,rfl,.of hr,rfl,_,rfl,_,_,rfl,rfl,_,rfl,?_⟩;refine ZQ (fun h3=>?_) (fun h3=>?_)
      ·rw[if_pos (.inl (by have:=of_decide_eq_true h3;omega))] at Y
       exact Y1 (qn Y.symm H1 (sm.trans s1))
      have h3:¬((p:Int)<=(nx:Int)-1):=fun z=>h3 (decide_eq_true z);refine⟨_,rfl,r,_,_,_,rfl,rfl,.of hr,rfl,_,rfl,_,_,rfl,rfl,_,rfl,?_⟩;refine ZQ (fun h4=>?_) (fun h4=>?_)
      ·rw[if_pos (.inr (by have:=of_decide_eq_true h4;omega))] at Y
       exact qn Y.symm H1 (sm.trans s1)
      have h4:¬((wide:Int)<=(p:Int)):=fun z=>h4 (decide_eq_true z);rw[if_neg (by omega)] at Y;have hp:p<f.length:=by omega
      refine⟨_,rfl,r,_,_,_,rfl,rfl,.of hr,rfl,?_⟩;refine⟨_,rfl,_,rfl,r,_,_,_,rfl,rfl,.of hr,rfl,_,_,rfl,rfl,.inl (by omega),?_⟩;refine⟨_,rfl,_,rfl,L,_,_,p,rfl,rfl,m4,?_,?_⟩
      ·rw[Za];exact Vj hp
      refine⟨_,rfl,?_⟩;refine⟨l.length-(a2+(Y3 (l.drop a2)).length),by omega,a2+(Y3 (l.drop a2)).length,p+1,n',f.set p (sgo es*(m:Nat)),some (.int (sgo es)),some (.int ((a2+(Y3 (l.drop a2)).length:Nat):Int)),some (.ref r),?_,(sm.trans s1).updr l9,?_,?_,by omega,Zq _,?_,?_⟩
      ·rw[show ((p+1:Nat):Int)-1=(p:Int) by omega]
       rfl
      ·rw[Zy,List.map_set]
      ·rw[bX];exact hf
      ·rw[aI];rw[aI] at i9;omega
      ·have ed:l.drop (a2+(Y3 (l.drop a2)).length)=Ui (l.drop a2):=by rw[<-List.drop_drop,ZaK]
       rw[ed,show decide (a2+(Y3 (l.drop a2)).length=0)=false from decide_eq_false (by omega)];exact Y
     ·rintro i5 k' O i4 ⟨j,rfl,rfl,hj,o2⟩
      refine⟨_,rfl,_,rfl,tx l,rfl,by rw[Zz];omega,_,_,rfl,rfl,_,rfl,?_⟩;rw[Zz];refine ZQ (fun h2=>?_) (fun h2=>?_)
      ·have h2:a2+j<l.length:=by have:=of_decide_eq_true h2;omega
       have m5:atI (tx l).cps.toList ((a2+j:Nat):Int)=some l[a2+j]:=Y6 (by rw[ZP];exact Zf h2);have m6:(l.drop a2)[j]?=some l[a2+j]:=by rw[gN];exact Zf h2
       have j9:=Zbp hj m6;refine⟨_,rfl,_,rfl,tx l,_,_,rfl,rfl,by rw[Zz];omega,m5,_,_,rfl,rfl,_,rfl,?_⟩;rw[ZeT,Zes];cases hb:brk l[a2+j]
       ·refine Y1 ?_
        have o3:=j9.mp hb;exact⟨_,fun _ _ z=>z,_,rfl,_,_,rfl,rfl,k'-1,by omega,j+1,rfl,rfl,by omega,by omega⟩
       ·refine Yu (by decide) ?_
        have:¬j<(Y3 (l.drop a2)).length:=fun z=>by rw[j9.mpr z] at hb;cases hb
        exact i5 _ _ ⟨by rw[show (Y3 (l.drop a2)).length=j by omega],rfl⟩
      ·have h2:¬(((a2+j:Nat):Int)<(l.length:Int)):=fun z=>h2 (decide_eq_true z)
       refine Yu (by decide) ?_;exact i5 _ _ ⟨by rw[show (Y3 (l.drop a2)).length=j by omega],rfl⟩
   ·have h1:¬((J:Int)<(l.length:Int)):=fun z=>h1 (decide_eq_true z)
    rw[aY (by omega),ZcF] at Y;exact i7 _ _ ⟨nx,f,_,_,_,_,rfl,sm,hL,Y.symm⟩
end
end C61
namespace L2
open PySem PySem.Spec PyProof.Rows
open PySem.Builtin PySem.Builtin.Str
noncomputable def WQ:List Expr->Option (List Str)
 | []=>some []
 | .Constant (.str x) _ _::r=>(WQ r).map (x :: ·)
 |_=>none
section
variable {X:Cx}
noncomputable def taS (xs:List Str):TA:=fun _ H Q=>Q (xs.map V.str) H
theorem Uu:∀(j:List Expr) {xs:List Str},WQ j=some xs->PA X j (taS xs)
 | [],xs,h=>by
  cases h;exact Zu
 |e::r,xs,h=>by
  cases e with
  |Constant c k p=>
   cases c with
   |str x=>
    unfold WQ at h;cases e:WQ r with
    |none=>rw[e] at h;cases h
    |some z=>
     rw[e] at h;cases h;exact pc ZA (Uu r e) rfl
   |_=>cases h
  |_=>cases h
noncomputable def teS (xs:List Str):TE:=fun _ H Q=>xs.length<=sizeLine/\∀p,H p=none->Q (.ref p) (upd H p (.lst (xs.map V.str)))
theorem Za0 {es:List Expr}{xs:List Str}{pos:Pos}(h:WQ es=some xs:=by rfl):Pm.QE X (.List es pos) (teS xs):=⟨fun j s z H Q I J=>YF (Uu es h) j s z H Q I (by
 show (xs.map V.str).length<=sizeLine/\_;rw[Za];exact J)⟩
theorem Zfp {op:eI}{r:R2}{a b:Expr}{j z:TE}{pos:Pos}(J:WV X (binaryOp op) r)(O:PE X a j)(hb:Pm.QE X b z):Pm.QE X (.BinOp a op b pos) (Jk r j z):=⟨ZD J O hb.h⟩
structure WlS (p:Prop):Prop where
 h:p
theorem ZbK {j:List Stmt}{D:YC}{σ:St}{H:Hp}{t:TS}(h:Pm.QSs X j t)(k:WlS (t D σ H)):∃t,J5 X j t/\t D σ H:=⟨t,h.h,k.h⟩
theorem VU:WV X (binaryOp .Mult) (fun x y H Q=>∃(a:Str) (n:Nat),x=.str a/\y=.int (n:Nat)/\2<=n/\1<=a.length/\a.length*n<=1000000/\Q (.str ⟨(ag n a.cps).foldl (· ++ ·) #[]⟩) H):=by
 intro O s σ H x y v u Q I Y ry h;obtain⟨a,n,rfl,rfl,hn,ha,hz,q⟩:=h;obtain⟨t,rfl⟩:=Y;obtain⟨t2,rfl⟩:=ry;have e:(16777216:Nat)=sizeLine:=by decide
 have j:¬((n:Int)<1):=by omega
 have z:(((n:Nat):Int) == 1 || a.length == 0)=false:=by
  rw[Bool.or_eq_false_iff,beq_eq_false_iff_ne,beq_eq_false_iff_ne];omega
 have hl:tooLong (a.length*((n:Nat):Int).toNat)=false:=by
  unfold tooLong;refine decide_eq_false ?_;rw[Zj];omega
 have h9:n<=1000000:=aG (by have:=bu n ha;omega) hz;refine PySem.P.mul_str (by rw[decide_eq_false (by omega),decide_eq_false (by omega)];rfl) (fun _ _=>?_) (fun _ _=>hl) ?_
 ·have h1:((a.length*n:Nat):Int)<=1000000:=by omega
  rw[fB] at h1;have J:(0:Int)<(n:Int):=by omega
  refine Int.not_lt.mpr ?_;rw[Int.le_ediv_iff_mul_le J];have:(1000000:Int)<=2 ^ 63-1:=by decide
  omega
 ·rw[if_neg j,z]
  simp only[ev,if_false];refine⟨?_,?_⟩
  ·exact fits_reps hl
  ·rw[Zj]
   exact⟨.str _,H,I.tok _,⟨_,rfl⟩,q⟩
end
end L2
namespace Tx
open PySem L2 PySem.Spec PyProof.Rows PySem.NumText
open PySem.Builtin.Str
theorem X2 (l:List Nat)(i:Nat):aZ (tx l) (some (i:Int)) none=tx (l.drop i):=by
 by_cases h:i<=l.length
 ·exact Jl l h
 ·rw[Zb0 l (by omega),aY (by omega)]
theorem ZdG (l:List Nat){a:Nat}(h:a<=l.length):aZ (tx l) (some (a:Int)) (some ((a+1:Nat):Int))=tx ((l.drop a).take 1):=by
 by_cases hb:a+1<=l.length
 ·rw[VN l (show a<=a+1 by omega) hb,show a+1-a=1 by omega]
 ·have e:strSliceIndices (some (a:Int)) (some ((a+1:Nat):Int)) 1 (tx l).length=strSliceIndices (some (a:Int)) (some ((tx l).length:Int)) 1 (tx l).length:=by
   have j:max (0:Int) (min ((a+1:Nat):Int) ((tx l).length:Int))=max (0:Int) (min ((tx l).length:Int) ((tx l).length:Int)):=by rw[Zz];omega
   have z:¬(((a+1:Nat):Int)<0):=by omega
   have J:¬(((tx l).length:Int)<0):=by omega
   unfold strSliceIndices;simp only[show ((1:Int) > 0)=True from by simp,if_true,z,J,if_false,j]
  have:=VN l h (Zq _);unfold aZ at this ⊢;rw[e];rw[show ((tx l).length:Int)=(l.length:Int) from rfl];refine this.trans ?_;rw[aY (show l.length<=a by omega)];simp
noncomputable def Zcy:List Nat:=[48,49,50,51,122,43,45,122,49,32,57,90,120,46,42]
theorem ZdD:ar "0123z+-z1 9Zx.*"=tx Zcy:=by decide +kernel
theorem Zcx {i:Nat}(h:i<15):∃c,Zcy[i]?=some c/\c<128:=by
 have:∀i,i<15->(match Zcy[i]? with|some c=>decide (c<128)|none=>false)=true:=by decide
 have:=this i h;cases e:Zcy[i]? with
 |none=>rw[e] at this;cases this
 |some c=>rw[e] at this;exact⟨c,rfl,of_decide_eq_true this⟩
theorem Vw {l:List Nat}(h:Yz l)(a:Nat):Yz (l.take a):=fun c j=>h c (List.mem_of_mem_take j)
theorem Zc1 {c:Nat}(h:c<128):Yz [c]:=fun d j=>by rw[aD.mp j];exact h
end Tx
namespace C61
open PySem L2 PySem.Spec PyProof.Rows PySem.NumText
open Tx Pm
noncomputable abbrev Zfj:Stmt:=top 34
noncomputable def Zdi:Sp:=fun J H Q _=>∃(p q:Addr) (l:List Nat) (b:Nat),J=[.ref p,.str (tx l)]/\Yy H p q b/\b<2 ^ 59/\Yz l/\l.length<=1000/\∀j z,Tk p H z->Yy z p q (b+3)->Yz j->j.length<=l.length+1->Q (.str (tx j)) z
section
variable {P:Program}{w:World}{K:ae}{mg:Str->Option Value}{base:Heap}
theorem Zeh {f:Addr}{fd:FuncData}(F:Jf K "_law_bent" "_law_bent" Zfj f fd)(T:N61.Bl mg)(GD:Fn P w K mg base YW 1 "_law_draw" ["_law_feed_here", "_law_many"] Xq):Yj P w K mg base YW 2 f fd ["_law_feed_here", "_law_text"] Zdi:=by
 refine F.ok (FS (N:=["_law_feed_here", "_law_text", "_law_at", "_law_sign", "_law_way"])) (fun vs H Q E h=>?_) (fun i4 A i0 s H vs Q E hr h=>?_)
 ·obtain⟨p,q,l,b,rfl,_⟩:=h;rfl
 ·obtain⟨p,q,l,b,rfl,T0,hb,ha,hl,qq⟩:=h
  refine⟨_,Zs (ZL 2 rfl (WR GD hr Z0 (pc (vn 0) (pc (ZD Yb (cb (Y5) T.len (pc (vn 1) Zu)) Zt) Zu))))
   (Zs (ZL 3 rfl (ZZ JL ZA (WR GD hr Z0 (pc (vn 0) (pc Zt Zu))) (fun _ _=>rfl)))
   (Zs (ZL 4 rfl (WR GD hr Z0 (pc (vn 0) (pc Zt Zu))))
   (Zs (ZT (Zw Z2 (vn 4) Zt (ZB _)) (Zv (ZM (ZD ZG (ZU Yi (vn 1) Z8 (ZV (vn 2))) (ZU Yi (vn 1) (ZV (ZD Yb (vn 2) Zt)) Z8)))) ZF)
   (Zs (ZT (Zw Z2 (vn 4) Zt (ZB _)) (Zv (ZM (ZD ZG (ZD ZG (ZU Yi (vn 1) Z8 (ZV (vn 2))) (ZU Yi (vn 1) (ZV (vn 2)) (ZV (ZD Yb (vn 2) Zt)))) (ZU Yi (vn 1) (ZV (vn 2)) Z8)))) ZF)
   (Zs (ZT (Zw Z2 (vn 4) Zt (ZB _)) (Zv (ZM (ZD ZG (ZD ZG (ZU Yi (vn 1) Z8 (ZV (vn 2))) (vn 3)) (ZU Yi (vn 1) (ZV (ZD Yb (vn 2) Zt)) Z8)))) ZF)
   (Zv (ZM (ZD ZG (ZD ZG (ZU Yi (vn 1) Z8 (ZV (vn 2))) (vn 3)) (ZU Yi (vn 1) (ZV (vn 2)) Z8))))))))),?_⟩
  have hz:(16777216:Nat)=sizeLine:=by decide
  refine⟨_,rfl,_,rfl,tx l,rfl,by rw[Zz];omega,_,_,rfl,rfl,p,q,_,_,rfl,T0,by omega,by rw[Zz];omega,by rw[Zz];omega,fun r H1 r0 r1 k1 T1=>?_⟩;rw[Zz] at r1;obtain⟨a,ea⟩:∃a:Nat,r=(a:Nat):=⟨r.toNat,by omega⟩;subst ea;have O:a<=l.length:=by omega
  refine⟨_,rfl,p,q,_,_,rfl,T1,by omega,by decide,by decide,fun r2 H2 i5 i6 k2 T2=>?_⟩;obtain⟨o,eo⟩:∃o:Nat,r2=(o:Nat):=⟨r2.toNat,by omega⟩;subst eo;obtain⟨c,hc,J⟩:=Zcx (i:=o) (by omega);refine⟨_,_,c,rfl,rfl,by decide +kernel,by rw[ZdD,ZP];exact Y6 hc,?_⟩;refine⟨_,rfl,p,q,_,_,rfl,T2,by omega,by decide,by decide,fun r3 H3 i7 i8 k3 T3=>?_⟩;have kA:=(k1.trans k2).trans k3;have T3:=T3.le (show b+1+1+1<=b+3 by omega);have j:∀Y,Yz Y->Y.length<=l.length+1->Q (.str (tx Y)) H3:=fun Y h1 h2=>qq Y H3 kA T3 h1 h2;have aT:=Vw ha a;have e1:aZ (tx l) (some (((a:Nat):Int)+1)) none=tx (l.drop (a+1)):=by
   have:=X2 l (a+1);rw[fC] at this;exact this
  have e2:aZ (tx l) (some ((a:Nat):Int)) (some (((a:Nat):Int)+1))=tx ((l.drop a).take 1):=by
   have:=ZdG l O;rw[fC] at this;exact this
  have lt:(l.take a).length=a:=by rw[bP];omega
  have z:=Zdk l O;have ef:=X2 l a;have nl:(tx l).length<=sizeLine:=by rw[Zz];omega
  have ad:=JR ha a;have h9:=JR ha (a+1);have ld:(l.drop a).length=l.length-a:=aI;have i9:(l.drop (a+1)).length=l.length-(a+1):=aI;have l1:((l.drop a).take 1).length<=1:=by rw[bP];omega
  have ac:=Zc1 J;refine⟨_,rfl,rfl,_,rfl,?_⟩;refine ZQ (fun _=>?_) (fun _=>?_)
  ·refine⟨_,rfl,_,rfl,_,rfl,tx l,rfl,nl,_,rfl,_,rfl,_,_,rfl,rfl,_,rfl,tx l,rfl,nl,_,_,rfl,rfl,?_,?_⟩
   ·rw[z,e1,Zz,Zz];omega
   rw[z,e1,ZR];exact j _ (aT.app h9) (by rw[Zd];omega)
  refine⟨_,rfl,rfl,_,rfl,?_⟩;refine ZQ (fun _=>?_) (fun _=>?_)
  ·refine⟨_,rfl,_,rfl,_,rfl,tx l,rfl,nl,_,rfl,_,rfl,_,rfl,_,rfl,_,_,rfl,rfl,_,rfl,tx l,rfl,nl,_,_,rfl,rfl,?_,?_⟩
   ·rw[z,e2,Zz,Zz];omega
   rw[z,e2,ZR];refine⟨_,rfl,_,rfl,_,rfl,tx l,rfl,nl,_,_,rfl,rfl,?_,?_⟩
   ·rw[ef,Zz,Zz,Zd];omega
   rw[ef,ZR];exact j _ ((aT.app (Vw ad 1)).app ad) (by rw[Zd,Zd];omega)
  refine⟨_,rfl,rfl,_,rfl,?_⟩;refine ZQ (fun _=>?_) (fun _=>?_)
  ·refine⟨_,rfl,_,rfl,_,rfl,tx l,rfl,nl,_,rfl,_,_,rfl,rfl,?_,?_⟩
   ·rw[z,Zz];show _+1<=_;omega
   rw[z,show (⟨#[c]⟩:Str)=tx [c] from rfl,ZR];refine⟨_,rfl,_,rfl,_,_,rfl,rfl,_,rfl,tx l,rfl,nl,_,_,rfl,rfl,?_,?_⟩
   ·rw[e1,Zz,Zz,Zd,Zk];omega
   rw[e1,ZR];exact j _ ((aT.app ac).app h9) (by rw[Zd,Zd,Zk];omega)
  ·refine⟨_,rfl,_,rfl,_,rfl,tx l,rfl,nl,_,rfl,_,_,rfl,rfl,?_,?_⟩
   ·rw[z,Zz];show _+1<=_;omega
   rw[z,show (⟨#[c]⟩:Str)=tx [c] from rfl,ZR];refine⟨_,rfl,_,rfl,_,rfl,tx l,rfl,nl,_,_,rfl,rfl,?_,?_⟩
   ·rw[ef,Zz,Zz,Zd,Zk];omega
   rw[ef,ZR];exact j _ ((aT.app ac).app ad) (by rw[Zd,Zd,Zk];omega)
end
noncomputable abbrev Ze6:Stmt:=top 33
noncomputable def Zda:Sp:=fun J H Q _=>∃(n:Nat) (l:List Nat),J=[.int n,.str (tx l)]/\1<=n/\n<=60/\Yz l/\l.length<=200/\(∀z,X7 (N61.YB n).toNat l=some z->∀r j,ZC H j->j r=some (.tup (z.map V.int))->Q (.ref r) j)/\(X7 (N61.YB n).toNat l=none->∀j,ZC H j->Q .non j)
section
variable {P:Program}{w:World}{K:ae}{mg:Str->Option Value}{base:Heap}{T U:Addr}{et:Array DictEntry}{c:Nat->Ec}
theorem Zd5 {f:Addr}{fd:FuncData}(F:Jf K "_law_told" "_law_told" Ze6 f fd)(B:N61.Bl mg)(V0:BlV mg)(S:Cs K mg T U et c)(z:K.In base)(GR:Fn P w K mg base (CXE P w) 3 "read_number" ["n", "text"] (ZaQ c)) :
  Yj P w K mg base YW 4 f fd ["_law_n", "_law_text"] Zda:=by
 refine F.ok (FS (N:=["_law_n", "_law_text", "_law_found", "e"])) (fun vs H Q E h=>?_) (fun i8 A h9 s H vs Q E hr h=>?_)
 ·obtain⟨n,l,rfl,_⟩:=h;rfl
 ·obtain⟨n,l,rfl,n1,i0,ha,hl,q,qE⟩:=h
  refine⟨_,Zs (ZL 2 rfl Ym)
   (Zs (ZdR (fun D i7=>Zv (ZL 2 rfl (WR GR hr (VT (i:=3) (Yk (by kernel_rfl)) rfl (Z7 (by kernel_rfl)) (Wk (by kernel_rfl)) S.mgT (by kernel_rfl) rfl rfl
    (fun a=>Zs (ZL 2 rfl ZA)
     (Zs (ZT (YY (Wf (cb (isE S z) B.isi (pc (vn 3) (pc (clv (S.mgC 10 (by decide))) Zu)))) (YA (Wf (cb (isV S z) B.isi (pc (vn 3) (pc (tyv "ValueError" V0.ve) Zu)))))).pt (Zv (ZL 2 rfl Ym)) ZF)
     (Zs (ZT (Wf (cb (isT S z) B.isi (pc (vn 3) (pc (W0 (pc (clv (S.mgC 5 (by decide))) (pc (clv (S.mgC 0 (by decide))) (pc (clv (S.mgC 4 (by decide))) (pc (clv (S.mgC 6 (by decide))) (pc (clv (S.mgC 8 (by decide))) (pc (clv (S.mgC 9 (by decide))) Zu))))))) Zu)))) (Zv (ZL 2 rfl ZA)) ZF)
     (Zv (ZT (Wf (cb (isT S z) B.isi (pc (vn 3) (pc (W0 (pc (clv (S.mgC 3 (by decide))) (pc (clv (S.mgC 11 (by decide))) (pc (clv (S.mgC 2 (by decide))) (pc (clv (S.mgC 1 (by decide))) (pc (clv (S.mgC 7 (by decide))) Zu)))))) Zu)))) (Zv (ZL 2 rfl ZA)) ZF)))))) (pc (vn 0) (pc (vn 1) Zu))))))
   (Zv (ZM (vn 2)))),?_⟩
  refine⟨_,rfl,_,rfl,n,l,rfl,n1,i0,ha,hl,fun xs e r Y s1 i4=>?_,fun e Y s1=>S.catchR z (by decide) rfl fun b hb=>?_⟩
  ·exact⟨_,rfl,q xs e r Y s1 i4⟩
  ·have s2:=ZC.upd (o:=UI b (c 10).C none) hb
   have J:upd Y b (UI b (c 10).C none) b=some (UI b (c 10).C none):=Zy;have sA:=s1.trans s2;generalize upd Y b (UI b (c 10).C none)=H2 at J sA ⊢;refine⟨_,rfl,b,10,10,none,rfl,by decide,by decide,J,_,rfl,Zfx (by decide) ⟨_,rfl,b,10,none,rfl,by decide,J,_,rfl,Zfx rfl ?_⟩⟩;refine⟨_,rfl,(by show 6<=sizeLine;decide),fun tp i5=>?_⟩;have s3:=ZC.upd (H:=H2) (o:=.tup ([5,0,4,6,8,9].map fun j=>V.ref (c j).C)) i5;refine⟨b,10,none,tp,[5,0,4,6,8,9],rfl,by decide,by decide,s3 _ _ J,Zy,_,rfl,Yu (by decide) ?_⟩;refine⟨_,rfl,(by show 5<=sizeLine;decide),fun i6 O=>?_⟩;have s4:=s3.trans (ZC.upd (o:=.tup ([3,11,2,1,7].map fun j=>V.ref (c j).C)) O);refine⟨b,10,none,i6,[3,11,2,1,7],rfl,by decide,by decide,s4 _ _ J,Zy,_,rfl,Yu (by decide) ?_⟩;exact⟨_,rfl,qE e _ (sA.trans s4)⟩
end
end C61
namespace Tx
open PySem L2 PySem.Spec PyProof.Rows PySem.NumText
theorem ZbZ {z:Int}(h:z.natAbs<10 ^ 250):Sml 0 0 (.int z):=by
 have J:z.natAbs<10 ^ 500:=cq h (by decide +kernel);refine⟨?_,rfl,aC _,?_,aC _⟩
 ·simp only[eZ,decide_eq_true_eq]
  by_cases j:z.natAbs=0
  ·rw[j];decide
  ·exact (Nat.log2_lt j).mpr (cq J (by decide +kernel))
 ·simp only[gt]
  refine decide_eq_true ?_;show (ar (toString z)).length<=300;rw[str_int,Zz];have:=Wp (by decide) h;omega
theorem UH {xs:List Int}(hl:xs.length<=60)(h:∀x∈xs,x.natAbs<10 ^ 250):Zc4 (.tuple (xs.map br)):=by
 refine (Sml.tup (k:=0) (b:=0) (n:=60) (by rw[Za];exact hl) fun d j=>?_).fit (by decide) (by decide);obtain⟨z,J,rfl⟩:=dn.mp j;exact ZbZ (h z J)
theorem ZcT (k:Int)(p:Nat)(J:k≠0):(ZJ k.natAbs).length<=(wd k p).length+1:=by
 have O:(ZJ 1).length=1:=rfl;have Y:(ZJ k.natAbs).length<=(XQ k.natAbs p).length+1:=by
  unfold XQ;rw[Zd];by_cases z:p=0
  ·rw[if_pos z];omega
  ·rw[if_neg z]
   by_cases j:k.natAbs=1
   ·rw[if_pos j,j,O];omega
   ·rw[if_neg j];omega
 rw[Xo k p J,Zd];omega
theorem VO:∀(xs:List Int) (p:Nat) (acc:List Nat),(acc.length<=(Y8 acc xs p).length)/\∀x∈xs,(ZJ x.natAbs).length<=(Y8 acc xs p).length+1
 | [],p,acc=>⟨Zq _,fun x j=>by cases j⟩
 |k::r,p,acc=>by
  rw[Yw];by_cases z:k=0
  ·rw[if_pos z]
   obtain⟨J,O⟩:=VO r (p+1) acc;refine⟨J,fun x j=>?_⟩;rcases ak.mp j with rfl|j
   ·rw[z,show (ZJ (0:Int).natAbs).length=1 from rfl]
    omega
   ·exact O x j
  ·rw[if_neg z]
   obtain⟨J,O⟩:=VO r (p+1) (acc++(if acc≠[]/\k > 0 then [43] else [])++wd k p)
   rw[Zd,Zd] at J;refine⟨by omega,fun x j=>?_⟩;rcases ak.mp j with rfl|j
   ·have:=ZcT x p z
    omega
   ·exact O x j
theorem ZaX {wide:Nat}{l:List Nat}{xs:List Int}(h:X7 wide l=some xs)(hl:l.length<=200):∀x∈xs,x.natAbs<10 ^ 250:=fun x J=>by
 have j:=(X6 h).2;have O:=(VO xs 0 []).2 x J;have Y:(Y8 [] xs 0).length<=200:=by
  unfold WW at j;split at j
  ·rename_i e;rw[e];exact aC _
  ·rw[j];exact hl
 have z:=WS (Z5 x.natAbs);rw[YJ] at z;exact aj z (dN (by decide) (by omega))
theorem ZaW {wide:Nat}{l:List Nat}{xs:List Int}(j:1<=wide)(h:X7 wide l=some xs):xs.length=wide:=by
 rw[<-JD j] at h;exact (Vg h).1
end Tx
namespace C61
open PySem L2 PySem.Spec PyProof.Rows PySem.NumText
open Tx Pm
noncomputable abbrev Zff:Stmt:=top 35
theorem Zdm {X:Cx}(K:ae){k:Nat}(j:YV k X.A)(z:X.K=K:=by rfl):Z9 X (.builtin "repr") (fun xs H Q=>∃x d,xs=[x]/\XR K H x d/\Zc4 d/\Q (.str d.shown) H):=z▸Zay j
noncomputable def Uj (K:ae):Sp:=fun z H Q _=>∃(a:Addr) (j:List Int),z=[.ref a]/\Wr K H a (j.map V.int)/\j.length<=63/\∀J,Q (.bl true) J
noncomputable def Zbv (x:Str):Bool:=x.cps.toList.all (fun c=>decide (c<128)) && decide (x.length<=20)
noncomputable def V1:List Str:=["", "0", "00", "-0", "+0", "1z", "-1z", "0z", "z1", "z0", "z+z", "z2+z", "3+", "+3", "--3", "3+-z", "3-+z"]
noncomputable def V2:List Str:=["z", "-z", "2z", "z2", "03", "3z02", "z 2", " z", "z ", "Z", "z-", "-", "+", "1_0", "zz", "z2z"]
noncomputable def LsS (H:Hp)(L:Addr):Prop:=∃j:List Str,H L=some (.lst (j.map V.str))/\j.all Zbv=true/\j.length<=100/\1<=j.length
theorem LsS.mono {H j:Hp}{L:Addr}(s:ZC H j)(h:LsS H L):LsS j L:=by
 obtain⟨z,a,b⟩:=h;exact⟨z,s _ _ a,b⟩
theorem Zfw:(V1.all Zbv && V2.all Zbv)=true:=by decide +kernel
theorem LsS.tk {H j:Hp}{p q L:Addr}{b:Nat}(T:Yy H p q b)(k:Tk p H j)(h:LsS H L):LsS j L:=by
 obtain⟨z,a,r⟩:=h;exact⟨z,k.lst T a,r⟩
theorem Zeu {xs:List Str}(h:xs.all Zbv=true){i:Nat}(z:i<xs.length):∃l,(xs.map V.str)[i]?=some (.str (tx l))/\Yz l/\l.length<=20:=by
 have j:=bi.mp h xs[i] (hZ z);unfold Zbv at j;rw[aJ,decide_eq_true_eq] at j;exact⟨xs[i].cps.toList,by rw[Zc,Zf z];rfl,fun c J=>of_decide_eq_true (bi.mp j.1 c J),j.2⟩
section
variable {P:Program}{w:World}{K:ae}{mg:Str->Option Value}{base:Heap}
theorem Zee {f:Addr}{fd:FuncData}(F:Jf K "law" "law" Zff f fd)(T:N61.Bl mg)(m3:mg "min"=none)(m4:Fn P w K mg base YW 1 "_law_feed" ["_law_script"] (ZaS K))(GD:Fn P w K mg base YW 1 "_law_draw" ["_law_feed_here", "_law_many"] Xq)(m5:Fn P w K mg base YW 1 "_law_alone" ["_law_k", "_law_n"] Zdj)
  (m6:Fn P w K mg base YW 1 "_law_shown" ["_law_number_here"] (Zdf K)) (m7:Fn P w K mg base YW 2 "_law_number" ["_law_feed_here", "_law_wide"] Zdh) (j7:Fn P w K mg base YW 2 "_law_bent" ["_law_feed_here", "_law_text"] Zdi) (m8:Fn P w K mg base YW 4 "_law_told" ["_law_n", "_law_text"] Zda) (m9:Fn P w K mg base YW 3 "_law_read" ["_law_wide", "_law_text"] Zdg) :
  Yj P w K mg base YW 5 f fd ["_law_script"] (Uj K):=by
 refine F.ok (FS (N:=["_law_script", "_law_feed_here", "_law_some", "_law_turn", "_law_n", "_law_wide", "_law_text"])) (fun vs H Q E h=>?_) (fun p5 A n4 s H vs Q E J h=>?_)
 ·obtain⟨a,ns,rfl,_⟩:=h;rfl
 ·obtain⟨a,ns,rfl,hS,hl,q⟩:=h
  refine ZbK (VR ⟨ZL 1 rfl (WR m4 J Z0 (pc (vn 0) Zu))⟩ (VR (Zdo 2 rfl (Za0 (xs:=V1))) (VR (Zdo 2 rfl (Zfp Zd4 (vn 2) (Za0 (xs:=V2))))
   ⟨Zs (Xx (Xd cS b9 cO Wt (vn 2) (pc (ZD VU ZA Zt) Zu)))
   (Zs (JF aV rfl (ZdK T.range (pc Zt Zu)) (gn 3)
   (Zs (ZL 4 rfl (ZD Yb Zt (WR GD J Z0 (pc (vn 1) (pc Zt Zu)))))
   (Zs (ZL 5 rfl (cb (Zai K) T.len (pc (cmp ["_law_k"] [4] ["_law_k", "_law_n"] rfl (ZfZ T.range (pc Zt (pc (ZD Yb (vn 4) Zt) Zu))) (fun _ _ _ _ _=>gn 0) (fun _ _ _ _ _=>Ut (Wf (WR m5 J Z0 (pc (vn 0) (pc (vn 1) Zu))))) (fun _ _ _ _ _=>vn 0)) Zu)))
   (Zs (ZL 6 rfl (ZZ (ixL K) (vn 2) (WR GD J Z0 (pc (vn 1) (pc (cb (Zai K) T.len (pc (vn 2) Zu)) Zu))) (fun _ _=>rfl)))
   (Zs (ZT (Zw Y9 (vn 3) Zt (ZB _)) (Zv (ZL 6 rfl (WR j7 J Z0 (pc (vn 1) (pc (WR m6 J Z0 (pc (WR m7 J Z0 (pc (vn 1) (pc (cb (Jb rfl) m3 (pc (vn 5) (pc (ZD Yb Zt (WR GD J Z0 (pc (vn 1) (pc Zt Zu)))) Zu))) Zu))) Zu)) Zu))))) ZF)
   (Zs (ZT (Zw Y9 (vn 3) Zt (ZB _)) (Zv (ZL 6 rfl (WR j7 J Z0 (pc (vn 1) (pc (vn 6) Zu))))) ZF)
   (Zv (ZT (Zw WO (cb (Zdm K J) T.repr (pc (WR m8 J Z0 (pc (vn 4) (pc (vn 6) Zu))) Zu)) (cb (Zdm K J) T.repr (pc (WR m9 J Z0 (pc (vn 5) (pc (vn 6) Zu))) Zu)) (ZB _)) (Zv (ZM Zdp)) ZF))))))))
   (Zv (ZM Zdp)))⟩))) ?_
  refine⟨?_⟩;have hz:(16777216:Nat)=sizeLine:=by decide
  refine⟨_,rfl,a,ns,rfl,hS,fun p q' H1 s1 np T1=>?_⟩;have i5:=Zfw;rw[aJ] at i5;have x3:V1.length=17:=rfl;have y3:V2.length=16:=rfl;refine⟨by decide,fun L1 n1=>?_⟩;have s2:=ZC.upd (H:=H1) (o:=.lst (V1.map V.str)) n1;have x1:=Zy (H:=H1) (a:=L1) (o:=.lst (V1.map V.str));generalize upd H1 L1 (.lst (V1.map V.str))=H2 at s2 x1 ⊢;refine⟨_,rfl,by decide,fun L2 n2=>?_⟩;have s3:=ZC.upd (H:=H2) (o:=.lst (V2.map V.str)) n2;have y1:=Zy (H:=H2) (a:=L2) (o:=.lst (V2.map V.str));generalize upd H2 L2 (.lst (V2.map V.str))=H3 at s3 y1 ⊢;refine⟨L1,L2,_,_,rfl,rfl,s3 _ _ x1,y1,?_,fun L nL=>?_⟩
  ·rw[Za,Za];omega
  have x2:=i5.1;have y2:=i5.2;generalize V1=xs at x1 x2 x3 ⊢;generalize V2=ys at y1 y2 y3 ⊢;rw[<-cD];have s4:=(s2.trans s3).trans (ZC.upd (H:=H3) (o:=.lst ((xs++ys).map V.str)) nL);have i6:=Zy (H:=H3) (a:=L) (o:=.lst ((xs++ys).map V.str));have n5:L≠p:=((T1.mono (s2.trans s3)).neN nL).1;have n8:L≠q':=((T1.mono (s2.trans s3)).neN nL).2;have T4:=T1.mono s4;generalize upd H3 L (.lst ((xs++ys).map V.str))=H4 at s4 i6 T4 ⊢;refine⟨_,rfl,.inl ⟨rfl,_,.of i6⟩,_,20,rfl,rfl,by decide,by decide +kernel,by decide +kernel,L,_,_,rfl,rfl,i6,by rw[Za,Zd];omega,?_⟩;have T5:Yy (upd H4 L (.lst ((xs++ys).map V.str++[V.str ⟨(ag 20 (ar "9").cps).foldl (· ++ ·) #[]⟩]))) p q' 0:=T4.put n5 n8;have l5:LsS (upd H4 L (.lst ((xs++ys).map V.str++[V.str ⟨(ag 20 (ar "9").cps).foldl (· ++ ·) #[]⟩]))) L:=by
   refine⟨xs++ys++[⟨(ag 20 (ar "9").cps).foldl (· ++ ·) #[]⟩],by rw[Zy,cD (l₁:=xs++ys)];rfl,?_,?_,?_⟩
   ·rw[List.all_append,List.all_append,x2,y2]
    decide +kernel
   ·rw[Zd,Zd,Zk];omega
   ·rw[Zd,Zd,Zk];omega
  generalize upd H4 L (.lst ((xs++ys).map V.str++[V.str ⟨(ag 20 (ar "9").cps).foldl (· ++ ·) #[]⟩]))=H5 at T5 l5 ⊢;refine⟨_,rfl,by decide,by decide,?_⟩;refine W8 (fun i i7 H'=>∃v3 v4 v5 v6:Option V,i7=[some (.ref a),some (.ref p),some (.ref L),v3,v4,v5,v6]/\Yy H' p q' (50*i)/\LsS H' L) ⟨_,_,_,_,rfl,T5,l5⟩ ?_ ?_
  ·rintro i i7 H2 hi ⟨v3,v4,v5,v6,rfl,T2,lS⟩
   have hi:i<12:=hi;refine⟨_,rfl,p,q',_,_,rfl,T2,by omega,by decide,by decide,fun r H3 r0 r1 k3 T3=>⟨_,_,rfl,rfl,?_⟩⟩;have n9:=lS.tk T2 k3;obtain⟨n,en⟩:∃n:Nat,(1:Int)+r=(n:Nat):=⟨(1+r).toNat,by omega⟩;have n1:1<=n:=by omega
   have i8:n<=60:=by omega
   show Yo 4 (V.int (1+r)) _ _ _;rw[en];obtain⟨_,_,o0,p1,p6⟩:=N61.XA n1 i8;refine⟨_,rfl,_,_,rfl,rfl,1,(n:Int)+1,rfl,⟨by omega,by omega,by omega,by omega⟩,?_⟩;have en:((n:Int)+1-1).toNat=n:=by omega
   rw[en];refine Xh (Zb3 1 n) [some (.int n)] rfl (fun y=>match y with | .int k=>decide (N61.Vl k n=1)|_=>false) (fun y=>y) (by rw[Za,X5];omega) ?_ ?_
   ·intro j y H' hy s' R R' g1 g2
    rw[Zc] at hy;cases e:(Xv 1 n)[j]? with
    |none=>rw[e] at hy;cases hy
    |some k=>
     rw[e] at hy;cases hy;refine⟨_,rfl,_,rfl,k,n,rfl,by omega,by omega,_,rfl,?_⟩;refine ZQ (fun b1=>?_) (fun b1=>?_)
     ·exact⟨_,rfl,g1 b1 H' (ZC.refl _)⟩
     ·exact g2 (by simpa using b1) H' (ZC.refl _)
   intro D H4 nD s4 o2;refine⟨D,_,rfl,.inl (.of o2),?_⟩;have e:((((Xv 1 n).map V.int).filter fun y=>match y with | .int k=>decide (N61.Vl k n=1)|_=>false).map fun y=>y).length=(N61.YB n).toNat:=by
    rw[fW,List.filter_map,Za,o0];unfold N61.Zbg;rw[Zj,Zj];rfl
   rw[e];generalize i0:(N61.YB n).toNat=wide;have w1:1<=wide:=by omega
   have O:wide<=60:=by omega
   have T4:=T3.mono s4;have j8:=n9.mono s4;obtain⟨xs,j9,o3,p7,p8⟩:=id j8;refine⟨_,rfl,_,rfl,_,rfl,L,_,rfl,.inl (.of j9),p,q',_,_,rfl,T4,by omega,by rw[Za];omega,by rw[Za];omega,fun r2 H5 p9 o4 k5 T5=>?_⟩;rw[Za] at o4;obtain⟨o,eo⟩:∃o:Nat,r2=(o:Nat):=⟨r2.toNat,by omega⟩;subst eo;obtain⟨l,k8,l7,o5⟩:=Zeu o3 (i:=o) (by omega);have l8:=j8.tk T4 k5;refine⟨L,_,_,_,rfl,rfl,.of (k5.lst T4 j9),Y6 k8,?_⟩;refine⟨_,rfl,_,_,rfl,rfl,_,rfl,?_⟩;refine ZQ (fun _=>?A) (fun _=>?B)
   case' B=>
    have lA:Yz l:=l7;have lB:l.length<=140:=by omega
    have i4:=l8;have T6:=T5.le (show 50*i+1+1<=50*i+30 by omega)
   case' A=>
    refine⟨_,rfl,_,rfl,_,rfl,_,rfl,p,q',_,_,rfl,T5,by omega,by decide,by decide,fun r3 H6 q0 r8 k6 T6=>⟨_,_,rfl,rfl,_,_,rfl,?_⟩⟩;obtain⟨Y,o6,r9,t0⟩:∃Y:Nat,(if (1:Int)+r3<(wide:Nat) then (1:Int)+r3 else (wide:Nat))=(Y:Nat)/\1<=Y/\Y<=5:=by
     by_cases h:(1:Int)+r3<(wide:Nat)
     ·exact⟨(1+r3).toNat,by rw[if_pos h];omega,by omega,by omega⟩
     ·exact⟨wide,by rw[if_neg h],by omega,by omega⟩
    rw[o6];refine⟨p,q',Y,_,rfl,T6,by omega,by omega,fun zs nb H7 k7 T7 zl zb o7=>?_⟩;have o8:=fun x hx=>cq (zb x hx) (show 10 ^ 20<10 ^ 500 by decide +kernel);refine⟨nb,zs,rfl,.of o7,o8,by omega,fun H8 s8=>?_⟩;have ln:=Xt (e:=20) (by decide) zs 0 [] zb (by omega);have ls:(WW zs).length<=130:=by
     unfold WW;split
     ·simp
     ·simp only[ao] at ln
      have:zs.length*(20+5)<=5*(20+5):=bu _ (by omega);omega
    have o9:=((l8.tk T5 k6).tk T6 k7).mono s8;refine⟨p,q',WW zs,_,rfl,T7.mono s8,by omega,ZcZ zs,by omega,fun l2 H9 k9 T9 la lb=>?_⟩;have i4:=o9.tk (T7.mono s8) k9;have T6:=T9.le (show 50*i+1+1+1+2*Y+3<=50*i+30 by omega);clear k8 l7 o5
    rename List Nat=>l
    have lA:Yz l:=la;have lB:l.length<=140:=by omega
   all_goals
    refine⟨_,rfl,_,_,rfl,rfl,_,rfl,?_⟩;refine ZQ (fun _=>?_) (fun _=>?_)
    ·refine⟨_,rfl,_,rfl,p,q',l,_,rfl,T6,by omega,lA,by omega,fun l3 HA kA TA i9 t5=>?_⟩
     have l9:=i4.tk T6 kA;refine⟨_,rfl,_,rfl,n,l3,rfl,n1,i8,i9,by omega,fun p0 z r' HB sB j4=>?_,fun z HB sB=>?_⟩
     ·rw[i0] at z
      have ft:=UH (by rw[ZaW w1 z];exact O) (ZaX z (by omega));refine⟨_,_,rfl,.tup (.of j4) (YO.ints _),ft,_,rfl,_,rfl,wide,l3,rfl,w1,O,i9,by omega,(fun en=>by rw[JD w1,z] at en;cases en),fun j6 e2 r2 HC sC h9=>?_⟩;rw[JD w1,z] at e2;cases e2;refine⟨_,_,rfl,.tup (.of h9) (YO.ints _),ft,rfl,_,rfl,Yu (by simp) ?_⟩;exact⟨_,_,_,_,rfl,(TA.mono (sB.trans sC)).le (by omega),l9.mono (sB.trans sC)⟩
     ·rw[i0] at z
      refine⟨_,_,rfl,.non,⟨rfl,rfl,aC _,by decide +kernel⟩,_,rfl,_,rfl,wide,l3,rfl,w1,O,i9,by omega,(fun en HC sC=>?_),fun j6 e2 r2 HC sC h9=>by rw[JD w1,z] at e2;cases e2⟩;refine⟨_,_,rfl,.non,⟨rfl,rfl,aC _,by decide +kernel⟩,rfl,_,rfl,Yu (by simp) ?_⟩;exact⟨_,_,_,_,rfl,(TA.mono (sB.trans sC)).le (by omega),l9.mono (sB.trans sC)⟩
    ·skip
     refine⟨_,rfl,_,rfl,n,l,rfl,n1,i8,lA,by omega,fun p0 z r' HB sB j4=>?_,fun z HB sB=>?_⟩
     ·rw[i0] at z
      have ft:=UH (by rw[ZaW w1 z];exact O) (ZaX z (by omega));refine⟨_,_,rfl,.tup (.of j4) (YO.ints _),ft,_,rfl,_,rfl,wide,l,rfl,w1,O,lA,by omega,(fun en=>by rw[JD w1,z] at en;cases en),fun j6 e2 r2 HC sC h9=>?_⟩;rw[JD w1,z] at e2;cases e2;refine⟨_,_,rfl,.tup (.of h9) (YO.ints _),ft,rfl,_,rfl,Yu (by simp) ?_⟩;exact⟨_,_,_,_,rfl,(T6.mono (sB.trans sC)).le (by omega),i4.mono (sB.trans sC)⟩
     ·rw[i0] at z
      refine⟨_,_,rfl,.non,⟨rfl,rfl,aC _,by decide +kernel⟩,_,rfl,_,rfl,wide,l,rfl,w1,O,lA,by omega,(fun en HC sC=>?_),fun j6 e2 r2 HC sC h9=>by rw[JD w1,z] at e2;cases e2⟩;refine⟨_,_,rfl,.non,⟨rfl,rfl,aC _,by decide +kernel⟩,rfl,_,rfl,Yu (by simp) ?_⟩;exact⟨_,_,_,_,rfl,(T6.mono (sB.trans sC)).le (by omega),i4.mono (sB.trans sC)⟩
  ·rintro i7 H2 ⟨v3,v4,v5,v6,rfl,T2,lS⟩
   exact q H2
end
end C61
namespace C61
open PySem L2 PySem.Spec PyProof.Rows
open Tb Pm
theorem all_mk {l:cU}{w:World}{K:ae}{h:Heap}{mg:Str->Option Value}{fa T0 Y:Addr}{et:Array DictEntry}{c0 c1 c2 c3 c4 c5 c6 c7 c8 c9 J O:Ec}(X:K.In h)(G:h.Ns mainGlobals mg)(i5:mg "law"=some (.ref fa))
  (tb:Uh K T0 Y et) (e0:YK K "NoGroup" T0 Y et c0) (e1:YK K "NoTable" T0 Y et c1) (e2:YK K "NoShares" T0 Y et c2) (e3:YK K "NoPerm" T0 Y et c3) (e4:YK K "NoLines" T0 Y et c4) (e5:YK K "NoAlike" T0 Y et c5) (e6:YK K "NoName" T0 Y et c6) (e7:Jj K "TooMany" T0 Y et c7) (e8:Jj K "NoOrder" T0 Y et c8) (e9:Jj K "NoPart" T0 Y et c9) (h9:Jj K "NoText" T0 Y et J) (i0:Jj K "NoRow" T0 Y et O)
  (i6:UK T0 [c0.C,c1.C,c2.C,c3.C,c4.C,c5.C,c6.C,c7.C,c8.C,c9.C,J.C,O.C]=true)
  (d1:ZN K "are_figures" Zfg) (d2:ZN K "primes_of" N61.Up) (d3:ZN K "places" N61.Uq) (d4:ZN K "shown_place" Ze7) (d5:ZN K "shown_number" Ze8) (d6:ZN K "read_place" Ze9) (d7:ZN K "read_number" Zfa) (d8:ZN K "_law_feed" Zdl) (d9:ZN K "_law_draw" ZaU) (i7:ZN K "_law_alone" Zfk) (i8:ZN K "_law_shown" Zfc) (i9:ZN K "_law_number" Zfe) (j4:ZN K "_law_figures" Zfh) (j6:ZN K "_law_piece" Zfb) (j7:ZN K "_law_read" Zfd) (j8:ZN K "_law_told" Ze6) (j9:ZN K "_law_bent" Zfj) (k8:ZN K "law" Zff)
  (z1:az K mainGlobals "list"=some none) (z2:az K mainGlobals "len"=some none) (z3:az K mainGlobals "abs"=some none) (z4:az K mainGlobals "range"=some none) (z5:az K mainGlobals "tuple"=some none) (z6:az K mainGlobals "isinstance"=some none) (z7:az K mainGlobals "all"=some none) (z8:az K mainGlobals "set"=some none) (z9:az K mainGlobals "repr"=some none) (l7:az K mainGlobals "any"=some none) (l8:az K mainGlobals "int"=some none) (l9:az K mainGlobals "bool"=some none) (m3:az K mainGlobals "sorted"=some none) (m4:az K mainGlobals "str"=some none) (m5:az K mainGlobals "enumerate"=some none) (m6:az K mainGlobals "min"=some none) (m7:az K mainGlobals "ValueError"=some none) :
  ∃z:FuncData,(∀(s:Shared) (v:Value),eK s z ⟨[v],[]⟩ [("_law_script",v)])/\∀base:Heap,K.In base->base.Ns mainGlobals mg->Yj l.prog w K mg base YW 5 fa z ["_law_script"] (Uj K):=by
 have T:N61.Bl mg:=⟨aq X G z1,aq X G z2,aq X G z3,aq X G z4,aq X G z5,aq X G z6,aq X G z7,aq X G z8,aq X G z9,aq X G l7,aq X G l8,aq X G l9⟩;have TB:BlB mg:=⟨aq X G z1,aq X G z2,aq X G z4,aq X G z5,aq X G m3⟩;have TX:BlX mg:=⟨aq X G m4,aq X G m5⟩;have i4:mg "min"=none:=aq X G m6;have TV:BlV mg:=⟨aq X G m7⟩;obtain⟨D1,D2⟩:=UJ i6;have S:Cs K mg T0 Y et (ZbJ [c0,c1,c2,c3,c4,c5,c6,c7,c8,c9,J,O]):=by
  have ok:∀k,k<12->YK K (ZbF k) T0 Y et (ZbJ [c0,c1,c2,c3,c4,c5,c6,c7,c8,c9,J,O] k):=fun k hk=>by
   rcases k12 hk with rfl|rfl|rfl|rfl|rfl|rfl|rfl|rfl|rfl|rfl|rfl|rfl
   ·exact e0
   ·exact e1
   ·exact e2
   ·exact e3
   ·exact e4
   ·exact e5
   ·exact e6
   ·exact e7.1
   ·exact e8.1
   ·exact e9.1
   ·exact h9.1
   ·exact i0.1
  refine⟨tb,ok,dE X G tb.t.at_,fun k hk=>dE X G (ok k hk).c.at_,fun j k hj hk e=>?_,fun k hk=>?_,fun k h7 hk=>?_⟩
  ·refine D1 j k _ (XJ (l:=[c0,c1,c2,c3,c4,c5,c6,c7,c8,c9,J,O]) hj) ?_
   rw[e];exact XJ (l:=[c0,c1,c2,c3,c4,c5,c6,c7,c8,c9,J,O]) hk
  ·exact D2 _ (aM (XJ (l:=[c0,c1,c2,c3,c4,c5,c6,c7,c8,c9,J,O]) hk))
  ·have h5:k=7\/k=8\/k=9\/k=10\/k=11:=by omega
   rcases h5 with rfl|rfl|rfl|rfl|rfl
   ·exact e7.2
   ·exact e8.2
   ·exact e9.2
   ·exact h9.2
   ·exact i0.2
 refine k8.law X G i5 (fun base f z nb kb F=>?_) (fun _ _ _ _ _ _ _ _=>.of_eq rfl);have fn:=@ZN.fn l.prog w K mg base h;have GA:=fn d1 X G (fun f z F=>Zef F T) (fun _ _ _ _ _ _=>bd1 fun _=>rfl);have m8:=fn d2 X G (fun f z F=>N61.U8 F T) (fun _ _ _ _ _ _=>bd1 fun _=>rfl);have m9:=fn d3 X G (fun f z F=>N61.U9 F T m8) (fun _ _ _ _ _ _=>bd1 fun _=>rfl);have GP:=fn d4 X G (fun f z F=>Zd6 F T TX) (fun _ _ _ _ _ _=>bd2 fun _ _=>rfl);have GS:=fn d5 X G (fun f z F=>Zd7 F TX GP) (fun _ _ _ _ _ _=>bd1 fun _=>rfl);have GR:=fn d6 X G (fun f z F=>Zd8 F T GA) (fun _ _ _ _ _ _=>bd1 fun _=>rfl);have n4:Fn l.prog w K mg base (CXE l.prog w) 3 "read_number" ["n", "text"] (ZaQ (ZbJ [c0,c1,c2,c3,c4,c5,c6,c7,c8,c9,J,O])):=d7.fn X G (fun f z F=>Zd9 F T S kb m9 GR GS) (fun _ _ _ _ _ _=>bd2 fun _ _=>rfl);have n5:=fn d8 X G (fun f z F=>Zct F TB) (fun _ _ _ _ _ _=>bd1 fun _=>rfl);have GD:=fn d9 X G (fun f z F=>Zcu F TB) (fun _ _ _ _ _ _=>bd2 fun _ _=>rfl);have n8:=fn i7 X G (fun f z F=>Zei F) (fun _ _ _ _ _ _=>bd2 fun _ _=>rfl);have n9:=fn i8 X G (fun f z F=>Zeb F T TX i4) (fun _ _ _ _ _ _=>bd1 fun _=>rfl);have o0:=fn i9 X G (fun f z F=>Zed F T GD) (fun _ _ _ _ _ _=>bd2 fun _ _=>rfl);have GF:=fn j4 X G (fun f z F=>Zeg F T) (fun _ _ _ _ _ _=>bd1 fun _=>rfl);have o2:=fn j6 X G (fun f z F=>Zea F T GF) (fun _ _ _ _ _ _=>bd1 fun _=>rfl);have o3:=fn j7 X G (fun f z F=>Zec F T o2) (fun _ _ _ _ _ _=>bd2 fun _ _=>rfl);have o4:=fn j8 X G (fun f z F=>Zd5 F T TV S kb n4) (fun _ _ _ _ _ _=>bd2 fun _ _=>rfl);have o5:=fn j9 X G (fun f z F=>Zeh F T GD) (fun _ _ _ _ _ _=>bd2 fun _ _=>rfl);exact Zee F T i4 n5 GD n8 n9 o0 o5 o4 o3
theorem walk {l:cU}{q:Program}{loose:List Str}{XP:(Str->Option Value)->Heap->Prop}{O:World->Heap->Prop}{d:DefRec}{K:Params->ae}(hn:l.most=some 63)(J:d.params.defaults=[])
  (hY:∀(w:World) (h:Heap),O w h->(K w.params).In h)
  (F:∀(w:World) (j:Str->Option Value) (Y:Addr) (h:Heap),(K w.params).In h->h.Ns mainGlobals j->j d.name=some (.ref Y)->
   ∃fd:FuncData,(∀(s:Shared) (u:Value),eK s fd ⟨[u],[]⟩ [("_law_script",u)])/\∀base:Heap,(K w.params).In base->base.Ns mainGlobals j->Yj l.prog w (K w.params) j base YW 5 Y fd ["_law_script"] (Uj (K w.params))) :
  gA q loose XP O l.row.toRowW d [] (fun f vs=>gz f vs):=
 L2.Xp (n:=63) (k:=5) (x:="_law_script") (CX:=fun _=>YW) (sp:=fun w=>Uj (K w.params)) hn (by decide) J ⟨rfl,by decide,by decide,rfl⟩ hY F (fun _ _ a ns hl _ hS=>⟨a,ns,rfl,hS,hl,fun _=>rfl⟩) fun _ _ _ _ _ z=>z
end C61
namespace PySem.W.Fast
theorem tw15300720126964888736:0=0:=rfl
theorem tw12258070247373512910:0=0:=rfl
theorem tw7279105228162063864:0=0:=rfl
theorem tw6848362679100035736:0=0:=rfl
theorem tw12670540150761756092:0=0:=rfl
theorem tw9380562747523389774:0=0:=rfl
theorem tw9373788927471260504:0=0:=rfl
theorem tw1137099475265472865:0=0:=rfl
theorem tw14947077925564160051:0=0:=rfl
theorem tw17273670896430889431:0=0:=rfl
theorem tw6141855774051725923:0=0:=rfl
theorem tw17043279766733520055:0=0:=rfl
theorem tw10413199512771873174:0=0:=rfl
theorem tw17485587156615711671:0=0:=rfl
theorem tw15453728073326333366:0=0:=rfl
theorem tw8791011734820354647:0=0:=rfl
theorem tw12521254864918064087:0=0:=rfl
theorem tw4223354770855946817:0=0:=rfl
theorem tw16793727423565803281:0=0:=rfl
theorem tw2222524012384214838:0=0:=rfl
theorem tw5607380714982296235:0=0:=rfl
theorem tw12450649625959023311:0=0:=rfl
theorem tw16758993105840971625:0=0:=rfl
theorem tw7266955640602192253:0=0:=rfl
theorem tw15693450750460884874:0=0:=rfl
theorem tw11547974731977904794:0=0:=rfl
theorem tw17215510354213026801:0=0:=rfl
theorem tw12813287823407807449:0=0:=rfl
theorem tw7697840933875887611:0=0:=rfl
theorem tw7212237232107411178:0=0:=rfl
theorem tw7610586780256717395:0=0:=rfl
theorem tw9210596982198995015:0=0:=rfl
theorem tw9879054756230489796:0=0:=rfl
theorem tw10394391579282159120:0=0:=rfl
theorem tw15821728932124762552:0=0:=rfl
theorem tw2239481825260132930:0=0:=rfl
theorem tw11066771775900366717:0=0:=rfl
theorem tw4022948277709922047:0=0:=rfl
theorem tw4712789831782496861:0=0:=rfl
theorem tw16581576916929830444:0=0:=rfl
theorem tw13616292945655105867:0=0:=rfl
theorem tw10816664329307252783:0=0:=rfl
theorem tw4856194627798803062:0=0:=rfl
theorem tw4827375010592162861:0=0:=rfl
theorem tw9966327700952741963:0=0:=rfl
theorem tw10495691467248792921:0=0:=rfl
theorem tw17105788273710922564:0=0:=rfl
theorem tw10663268984317523210:0=0:=rfl
theorem tw319479537081424976:0=0:=rfl
theorem tw4505802031334011504:0=0:=rfl
theorem tw4170795486312888948:0=0:=rfl
theorem tw6707248101944516212:0=0:=rfl
theorem tw12693237117529710491:0=0:=rfl
theorem tw1112069467866513003:0=0:=rfl
theorem tw1950253715391828654:0=0:=rfl
theorem tw114223520164359320:0=0:=rfl
theorem tw12478188160174375814:0=0:=rfl
theorem tw12699694924712104405:0=0:=rfl
theorem tw489668613230093620:0=0:=rfl
theorem tw8621755145205486367:0=0:=rfl
theorem tw10918021619864632137:0=0:=rfl
theorem tw13082636963565011082:0=0:=rfl
theorem tw3640272750908673224:0=0:=rfl
theorem tw12179610504701649894:0=0:=rfl
theorem tw4103723494765384246:0=0:=rfl
theorem tw10403386657748999339:0=0:=rfl
theorem tw6790866168820876839:0=0:=rfl
theorem tw6023038651245014887:0=0:=rfl
theorem tw14631086225067275077:0=0:=rfl
theorem tw5695480661834854701:0=0:=rfl
theorem tw2205810179064155618:0=0:=rfl
theorem tw14689435960835816871:0=0:=rfl
theorem tw9382425535295659794:0=0:=rfl
theorem tw7447567703899001824:0=0:=rfl
theorem tw7238244696670158992:0=0:=rfl
theorem tw5017134206972954676:0=0:=rfl
theorem tw9410138692060094441:0=0:=rfl
theorem tw14912206915553015157:0=0:=rfl
theorem tw6888882722826761030:0=0:=rfl
theorem tw5729917450665475387:0=0:=rfl
theorem tw6148370849239036440:0=0:=rfl
theorem tw13604665463636487171:0=0:=rfl
theorem tw14870923148871458615:0=0:=rfl
theorem tw9309641367601272794:0=0:=rfl
theorem tw2979331038195632251:0=0:=rfl
theorem tw2800594011312196487:0=0:=rfl
theorem tw16330425693783081633:0=0:=rfl
theorem tw7791225221650677417:0=0:=rfl
theorem tw16650226934822163706:0=0:=rfl
theorem tw16193411671511313073:0=0:=rfl
theorem tw17997740630788221095:0=0:=rfl
theorem tw8080154773120606044:0=0:=rfl
theorem tw13522036727882026494:0=0:=rfl
theorem tw7610373568162348766:0=0:=rfl
theorem tw11221342864591536373:0=0:=rfl
theorem tw15275930255204338406:0=0:=rfl
theorem tw11385727738627754807:0=0:=rfl
theorem tw4759515388897527234:0=0:=rfl
theorem tw367124377616652653:0=0:=rfl
theorem tw15442903382038037705:0=0:=rfl
theorem tw13937765828217273449:0=0:=rfl
theorem tw14569071741027417430:0=0:=rfl
theorem tw11228800468768307376:0=0:=rfl
theorem tw8944044771120285944:0=0:=rfl
theorem tw15779439565538116662:0=0:=rfl
theorem tw15928371740549404059:0=0:=rfl
theorem tw375441234149633644:0=0:=rfl
theorem tw9065116318864760570:0=0:=rfl
theorem tw17778911694901984407:0=0:=rfl
theorem tw4881751290635372429:0=0:=rfl
theorem tw6089498358066664974:0=0:=rfl
theorem tw14716347217587028378:0=0:=rfl
theorem tw3158067452442564529:0=0:=rfl
theorem tw568850919765993276:0=0:=rfl
theorem tw8450131924135419657:0=0:=rfl
theorem tw16743479116796015715:0=0:=rfl
theorem tw12934815711613125203:0=0:=rfl
theorem tw2915651747830843279:0=0:=rfl
theorem tw13373272180153332517:0=0:=rfl
theorem tw14460878049283305732:0=0:=rfl
theorem tw16310399135826940907:0=0:=rfl
theorem tw17383932426915126292:0=0:=rfl
theorem tw1005527919095337387:0=0:=rfl
theorem tw11616796757170381080:0=0:=rfl
theorem tw10009405822317213961:0=0:=rfl
theorem tw17714869980585120481:0=0:=rfl
theorem tw7399880665701234150:0=0:=rfl
theorem tw14586755019412631040:0=0:=rfl
theorem tw5776837604910197218:0=0:=rfl
theorem tw6291924538960743854:0=0:=rfl
theorem tw6131140343860884681:0=0:=rfl
theorem tw6783815597310346890:0=0:=rfl
theorem tw650556893897594646:0=0:=rfl
theorem tw12173421814926063602:0=0:=rfl
theorem tw17678694896148517181:0=0:=rfl
theorem tw276673961982206181:0=0:=rfl
theorem tw14041391635599559330:0=0:=rfl
theorem tw10981648694293579447:0=0:=rfl
theorem tw13206846393947921797:0=0:=rfl
theorem tw2003843593406204565:0=0:=rfl
theorem tw5471478319087353912:0=0:=rfl
theorem tw11652806082006291158:0=0:=rfl
theorem tw8919665847170024907:0=0:=rfl
theorem tw11560639841782694205:0=0:=rfl
theorem tw4539326095503343506:0=0:=rfl
theorem tw14804763922132055811:0=0:=rfl
theorem tw14157677297966614080:0=0:=rfl
theorem tw9006844956737809702:0=0:=rfl
theorem tw14585802681424548995:0=0:=rfl
theorem tw4826620571266114443:0=0:=rfl
theorem tw898039882074241162:0=0:=rfl
theorem tw6939716560220218173:0=0:=rfl
theorem tw9394969748894797264:0=0:=rfl
theorem tw13334841098787700600:0=0:=rfl
theorem tw15255669876184805956:0=0:=rfl
theorem tw13538547598683892866:0=0:=rfl
theorem tw12064015394783656476:0=0:=rfl
theorem tw11850201628946844735:0=0:=rfl
theorem tw66402103232580804:0=0:=rfl
theorem tw3932192536727454474:0=0:=rfl
theorem tw10385004341413196645:0=0:=rfl
theorem tw14823893501076860905:0=0:=rfl
theorem tw15654948787672021453:0=0:=rfl
theorem tw18118205765470428781:0=0:=rfl
theorem tw5028297738016059676:0=0:=rfl
theorem tw11323138153975451014:0=0:=rfl
theorem tw369596241287241069:0=0:=rfl
theorem tw17328973539717056902:0=0:=rfl
theorem tw6331730103973819031:0=0:=rfl
theorem tw14024425549855664125:0=0:=rfl
theorem tw10744390229120626431:0=0:=rfl
theorem tw992136360663977950:0=0:=rfl
theorem tw8063716742506208466:0=0:=rfl
theorem tw5645805094859804417:0=0:=rfl
theorem tw3822392659455665739:0=0:=rfl
theorem tw7858676358169476788:0=0:=rfl
theorem tw18336644820722677175:0=0:=rfl
theorem tw17702582478736893870:0=0:=rfl
theorem tw18336027205164346761:0=0:=rfl
theorem tw4847093947487290708:0=0:=rfl
theorem tw5333687039553516579:0=0:=rfl
theorem tw9507459957806299322:0=0:=rfl
theorem tw917644167807177362:0=0:=rfl
theorem tw17295763294681121612:0=0:=rfl
theorem tw5641976735998438326:0=0:=rfl
theorem tw13925390755776583555:0=0:=rfl
theorem tw17329025791297599097:0=0:=rfl
theorem tw12118730528687419727:0=0:=rfl
theorem tw11969084803603969447:0=0:=rfl
theorem tw11954276375480283944:0=0:=rfl
theorem tw3018339592542833514:0=0:=rfl
theorem tw5083960670068673813:0=0:=rfl
theorem tw16129152989362396117:0=0:=rfl
theorem tw8529464031410220462:0=0:=rfl
theorem tw8905297793005042487:0=0:=rfl
theorem tw18446459159512652476:0=0:=rfl
theorem tw8004541432264791918:0=0:=rfl
theorem tw6347327439261342246:0=0:=rfl
theorem tw7720787786230157242:0=0:=rfl
theorem tw17214485011251803319:0=0:=rfl
theorem tw16777449644828589089:0=0:=rfl
theorem tw499353363687985658:0=0:=rfl
theorem tw6055694058177378059:0=0:=rfl
theorem tw11598076391230650312:0=0:=rfl
theorem tw5373144868420758003:0=0:=rfl
theorem tw16026471874504866628:0=0:=rfl
theorem tw14748000259617515531:0=0:=rfl
theorem tw4092865486505098148:0=0:=rfl
theorem tw13129137063958105645:0=0:=rfl
theorem tw2168976415169901693:0=0:=rfl
theorem tw9361203494344065150:0=0:=rfl
theorem tw12800713511012061169:0=0:=rfl
theorem tw1209257615439585135:0=0:=rfl
theorem tw6076085108438059753:0=0:=rfl
theorem tw4387447577443920450:0=0:=rfl
theorem tw594365122525268986:0=0:=rfl
theorem tw17381722434716109183:0=0:=rfl
theorem tw11527653821744832145:0=0:=rfl
theorem tw11336789753596585334:0=0:=rfl
theorem tw7537135957923119723:0=0:=rfl
theorem tw6217711475411465507:0=0:=rfl
theorem tw11655166894267614524:0=0:=rfl
theorem tw9125119116934333209:0=0:=rfl
theorem tw17557329644868976450:0=0:=rfl
theorem tw18020675095551605846:0=0:=rfl
theorem tw158601459692609029:0=0:=rfl
theorem tw15116124700613747758:0=0:=rfl
theorem tw10222273350771422547:0=0:=rfl
theorem tw4163361232502953136:0=0:=rfl
theorem tw16213426391686790251:0=0:=rfl
theorem tw15028105542152449273:0=0:=rfl
theorem tw10297770315687537545:0=0:=rfl
theorem tw8416997888025194531:0=0:=rfl
theorem tw10637599110926205413:0=0:=rfl
theorem tw9222389388333617749:0=0:=rfl
theorem tw17647092744998748424:0=0:=rfl
theorem tw8048427370734554674:0=0:=rfl
theorem tw1229451844661677043:0=0:=rfl
theorem tw846721745072749722:0=0:=rfl
theorem tw9968440640175410417:0=0:=rfl
theorem tw9135262740621573787:0=0:=rfl
theorem tw16866831801610615602:0=0:=rfl
theorem tw3147943265699502906:0=0:=rfl
theorem tw15578402407973284988:0=0:=rfl
theorem tw11047220537102492211:0=0:=rfl
theorem tw10552004363871821592:0=0:=rfl
theorem tw10821853015080491250:0=0:=rfl
theorem tw9278627491570093016:0=0:=rfl
theorem tw10607951471639776554:0=0:=rfl
theorem tw11247962536659917416:0=0:=rfl
theorem tw11424794115410374395:0=0:=rfl
theorem tw17490412647414043762:0=0:=rfl
theorem tw3331835311656529785:0=0:=rfl
theorem tw4876714654527850272:0=0:=rfl
theorem tw16093742206224248624:0=0:=rfl
theorem tw3632584651392287078:0=0:=rfl
theorem tw1433656045556711942:0=0:=rfl
theorem tw5273800780369439558:0=0:=rfl
theorem tw16220422988648191350:0=0:=rfl
theorem tw4293705811155858165:0=0:=rfl
theorem tw12512112862958275244:0=0:=rfl
theorem tw6654665750140057886:0=0:=rfl
theorem tw3971006918677634321:0=0:=rfl
theorem tw17467631859052307639:0=0:=rfl
theorem tw14565276038885924300:0=0:=rfl
theorem tw15649529024545524562:0=0:=rfl
theorem tw6795957423039411536:0=0:=rfl
theorem tw6362762445651596017:0=0:=rfl
theorem tw6780202040275158228:0=0:=rfl
theorem tw3473591856471519608:0=0:=rfl
theorem tw17359395095414337239:0=0:=rfl
theorem tw3375692449270358492:0=0:=rfl
theorem tw10520321861289822985:0=0:=rfl
theorem tw4089783625663767012:0=0:=rfl
theorem tw10929598904449740435:0=0:=rfl
theorem tw11487359293407415345:0=0:=rfl
theorem tw5851115071312680267:0=0:=rfl
theorem tw9590782649953737101:0=0:=rfl
theorem tw13295263213883968987:0=0:=rfl
theorem tw14701243489000475232:0=0:=rfl
theorem tw5034369925916483789:0=0:=rfl
theorem tw10778550505775145610:0=0:=rfl
theorem tw2792670288324988928:0=0:=rfl
theorem tw7335954415077976362:0=0:=rfl
theorem tw2799399962946475915:0=0:=rfl
theorem tw3565171277045077675:0=0:=rfl
theorem tw9861335051628750394:0=0:=rfl
theorem tw15451360428725380169:0=0:=rfl
theorem tw9007342660183041680:0=0:=rfl
theorem tw394172387273340102:0=0:=rfl
theorem tw7054426976597732883:0=0:=rfl
theorem tw1511873948246134775:0=0:=rfl
theorem tw10198426011400743677:0=0:=rfl
theorem tw11752381416514117954:0=0:=rfl
theorem tw15986975262966154808:0=0:=rfl
theorem tw330839521402017951:0=0:=rfl
theorem tw11669343744788517299:0=0:=rfl
theorem tw3292739798003058686:0=0:=rfl
theorem tw10142069988597364392:0=0:=rfl
theorem tw211505915894206130:0=0:=rfl
theorem tw9765014328987795389:0=0:=rfl
theorem tw10072619001456615061:0=0:=rfl
theorem tw10474560618957408247:0=0:=rfl
theorem tw17475311444239329913:0=0:=rfl
theorem tw11321703349108303067:0=0:=rfl
theorem tw17732944575395903908:0=0:=rfl
theorem tw15022452363120444203:0=0:=rfl
theorem tw17204957304106627483:0=0:=rfl
theorem tw17628706095823578228:0=0:=rfl
theorem tw13769942792521245162:0=0:=rfl
theorem tw7639533794231348058:0=0:=rfl
theorem tw8361363130373991116:0=0:=rfl
theorem tw3021981335592766178:0=0:=rfl
theorem tw5104416743496662765:0=0:=rfl
theorem tw10619129568873234193:0=0:=rfl
theorem tw17899690343331357833:0=0:=rfl
theorem tw16397039260284735130:0=0:=rfl
theorem tw14149824447931100425:0=0:=rfl
theorem tw12531640100727106847:0=0:=rfl
theorem tw16804377225604188311:0=0:=rfl
theorem tw5390527519705200893:0=0:=rfl
theorem tw4994531339363490294:0=0:=rfl
theorem tw2996014708922246498:0=0:=rfl
theorem tw6427626641665664847:0=0:=rfl
theorem tw975219918596511820:0=0:=rfl
theorem tw9413654213684779235:0=0:=rfl
theorem tw17377103280303225985:0=0:=rfl
theorem tw5305424944133791733:0=0:=rfl
theorem tw16161123478348306398:0=0:=rfl
theorem tw14138892433662602197:0=0:=rfl
theorem tw2832469382031206123:0=0:=rfl
theorem tw5677368813899096930:0=0:=rfl
theorem tw17710584995812335011:0=0:=rfl
theorem tw13520254147710173041:0=0:=rfl
theorem tw14802412592889509266:0=0:=rfl
theorem tw16440732113625075529:0=0:=rfl
theorem tw16863676171181543850:0=0:=rfl
theorem tw9031174471541274578:0=0:=rfl
theorem tw13903714018598259389:0=0:=rfl
theorem tw4507361076572208568:0=0:=rfl
theorem tw18217497868019938101:0=0:=rfl
theorem tw8854631623766897057:0=0:=rfl
theorem tw3825715328585772181:0=0:=rfl
theorem tw17451366767644459074:0=0:=rfl
theorem tw9168551854905678283:0=0:=rfl
theorem tw12989604484925910205:0=0:=rfl
theorem tw11645790499509817050:0=0:=rfl
theorem tw11257543099265768127:0=0:=rfl
theorem tw3729218808659994807:0=0:=rfl
theorem tw1969443501460913527:0=0:=rfl
theorem tw2648238960825162829:0=0:=rfl
theorem tw11395471761960142712:0=0:=rfl
theorem tw15835381711731125162:0=0:=rfl
theorem tw6486087118983743097:0=0:=rfl
theorem tw2740378115155227382:0=0:=rfl
theorem tw6925020818828775452:0=0:=rfl
end PySem.W.Fast
open PySem PySem.W PyProof.Rows
set_option maxRecDepth 100000 in
set_option maxHeartbeats 0 in
theorem PySem.Challenge.cw_classtab_k61_texts_of_no_number_holds : PySem.Challenge.rw_classtab_k61_texts_of_no_number.Holds := by
 w_on;o_law;k_head;(case hw=>w_witness2)
 k_fill
 refine C61.walk (l:=PySem.Challenge.rw_classtab_k61_texts_of_no_number) rfl rfl (fun w h Y=>PySem.W.kIn_of Y) ?F
 case F=>
  intro w mg fa h KX G hmg
  refine' C61.all_mk KX G hmg (L2.Uh.mk' ?_ ?_ ?_ ?_ ?_) (L2.YK.mk' ?_ ?_ ?_ ?_ ?_) (L2.YK.mk' ?_ ?_ ?_ ?_ ?_) (L2.YK.mk' ?_ ?_ ?_ ?_ ?_) (L2.YK.mk' ?_ ?_ ?_ ?_ ?_) (L2.YK.mk' ?_ ?_ ?_ ?_ ?_) (L2.YK.mk' ?_ ?_ ?_ ?_ ?_) (L2.YK.mk' ?_ ?_ ?_ ?_ ?_) (L2.Jj.mk ?_ ?_ ?_ ?_ ?_) (L2.Jj.mk ?_ ?_ ?_ ?_ ?_) (L2.Jj.mk ?_ ?_ ?_ ?_ ?_) (L2.Jj.mk ?_ ?_ ?_ ?_ ?_) (L2.Jj.mk ?_ ?_ ?_ ?_ ?_) ?_ (L2.ZN.mk ?_ ?_ ?_ ?_) (L2.ZN.mk ?_ ?_ ?_ ?_) (L2.ZN.mk ?_ ?_ ?_ ?_) (L2.ZN.mk ?_ ?_ ?_ ?_) (L2.ZN.mk ?_ ?_ ?_ ?_) (L2.ZN.mk ?_ ?_ ?_ ?_) (L2.ZN.mk ?_ ?_ ?_ ?_) (L2.ZN.mk ?_ ?_ ?_ ?_) (L2.ZN.mk ?_ ?_ ?_ ?_) (L2.ZN.mk ?_ ?_ ?_ ?_) (L2.ZN.mk ?_ ?_ ?_ ?_) (L2.ZN.mk ?_ ?_ ?_ ?_) (L2.ZN.mk ?_ ?_ ?_ ?_) (L2.ZN.mk ?_ ?_ ?_ ?_) (L2.ZN.mk ?_ ?_ ?_ ?_) (L2.ZN.mk ?_ ?_ ?_ ?_) (L2.ZN.mk ?_ ?_ ?_ ?_) (L2.ZN.mk ?_ ?_ ?_ ?_) ?_ ?_ ?_ ?_ ?_ ?_ ?_ ?_ ?_ ?_ ?_ ?_ ?_ ?_ ?_ ?_ ?_
  any_goals k_is
  all_goals kernel_rfl
