import PyProof.Rows.All
import Wide.All
import OpenK.AllK
import Wide.FinOn
import Lean
import PyProof.EqAt
import PyProof.EqKinds
import PyProof.TupleCall
import PyProof.DictWalks
import KE.KDictSum
import KE.KSortTup
import PyProof.EnumMake
import PyProof.EnumFor
import PyProof.TupleIter
import PyProof.Rows.Range3
import KE.LcSums
import PyProof.ZipIter
import KE.KUnpack
import PySem.Challenge.RW_classtab_k55_matches
abbrev Y4:=List (List (List Nat))
abbrev X0:=List (List (List Int))
abbrev T9:=List (List Nat)
abbrev TZ:=List (List Int)
abbrev TY:=List Nat
abbrev TV:=List Int
abbrev TU:=PySem.Value->PySem.Shared->Prop
abbrev TR:=PySem.Str->Option PySem.Value
abbrev TN:=List PySem.Addr
open PySem.W renaming Frag->aa,mg_none_of->au,nsIn->bd,kia_one->bK,fnOf->cp,keepIn->dN,codeIn->eP,kas_rev->eW,OpenLaw->gy,cellsFrom_some->gM,kitOne->ig,ked_eqvAll->iC,methodObj->iO,kas_sort->je,instObj->jf,lookIn->ju,KasT->jM,kitx_tuple->kL,kitx_list->lE,kitx_dict->lF,plainGet->lT,lks_uniq->lU,WalkO->lV,kas_tail3->mv,findIn->mw,mg_of->mP
open List renaming getElem?_eq_some_iff->ac,range->ae,mem_range->af,getElem?_eq_none->ag,getElem?_range->ai,getElem?_append_left->ak,getElem?_append_right->aq,mem_of_getElem?->av,replicate->aw,contains_iff_mem->ay,mem_map->az,mem_cons_self->aA,map_cons->aB,map_map->aC,mem_cons->aD,mem_cons_of_mem->aE,mem_singleton->aM,map_append->aN,map_congr_left->aQ,all_eq_true->aR,mem_append_right->aT,length_set->aX,ext_getElem?->aY,any_eq_true->aZ,length->a6,replicate_succ->bf,getElem_mem->bh,mem_append->bu,getElem?_of_mem->bx,Perm->bJ,mem_append_left->bN,drop_eq_getElem_cons->bR,filterMap_cons->bS,nodup_cons->bW,length_take->b8,flatten_cons->ce,range_succ->ck,take_add_one->cx,take_length->cD,perm_ext_iff_of_nodup->cG,getElem?_eq_none_iff->cK,findIdx_lt_length_of_exists->cM,findIdx_getElem->cN,tail_cons->cS,not_mem_nil->cT,nodup_range->cU,lookup_cons->cV,range'->c9,length_replicate->dJ,range_eq_range'->dS,range'_succ->dW,length_drop->dX,any_cons->eE,length_zip->eF,length_nil->eG,find?_cons->eK,getElem?_replicate->eS,take_zero->eX,pairwise_map->eY,pairwise_lt_range->eZ,map_nil->e7,findIdx_lt_length->e8,drop_eq_nil_of_le->e9,drop_length->fq,mem_erase_of_ne->fw,length_eraseIdx->fz,getElem?_set_ne->fC,mem_filter->fM,length_map->fN,nodup_nil->fZ,pairwise_iff_getElem->gh,mem_or_eq_of_mem_set->gm,mem_of_find?_eq_some->gq,getElem?_zip_eq_some->gu,append_assoc->gx,length_erase_of_mem->gE,pairwise_singleton->gS,map->gU,length_eq_zero_iff->gX,length_pos_of_mem->hU,any_map->ic,append_nil->ip,any_append->iq,pairwise_append->ix,mem_filterMap->iR,lookup_append->iS,getElem?_take->iT,find?_eq_none->iU,take_sublist->jb,getElem?_set->jc,eraseIdx_eq_take_drop_succ->ji,ext_getElem->jp,of_mem_zip->jE,find?_some->jF,Nodup->jY,map_take->ko,not_of_lt_findIdx->kE,map_set->kF,getElem?_set_self->kG,any_nil->kH,all_map->kI,length_filter_le->lu,getElem?_toArray->lx,filterMap_append->lz,map_id->lM,filter_sublist->l8,pairwise_cons->mj,foldl->mo,nodup_append->mH,any_eq_false->mI,getElem_map->mU,filter_cons->mV,countP_cons->mW
open Bool renaming and_eq_true->ah,false_ne_true->aH,or_eq_true->bi,and_true->bV,false_eq_true->df,eq_iff_iff->dF,true_and->dG,or_false->fu,false_or->gG,false_and->jZ,not_eq_true'->mL
open Classical renaming byContradiction->aj,propDecidable->gc
open PySem.PassesOwn renaming never->ao
open Nat renaming ne_of_lt->ar,lt_of_lt_of_le->aF,zero_le->aU,le_trans->aW,dvd_of_mod_eq_zero->a8,ne_of_gt->bj,mod_eq_of_lt->bH,lt_succ_of_lt->bI,mod_lt->bO,lt_irrefl->b9,succ_mul->cg,sub_self->cr,mul_le_mul_right->cw,lt_succ_self->cF,lt_of_le_of_ne->dk,le_of_lt->dw,add_sub_cancel->dz,le_of_succ_le->dP,le_add_right->ef,not_lt_zero->eO,sub_zero->fg,mul_comm->fh,lt_of_succ_lt_succ->fj,le_succ->fH,mul_le_mul_left->fR,zero_mul->fU,lt_or_ge->fV,le_of_dvd->gR,succ_lt_succ->gZ,add_zero->io,mod_add_mod->iw,mul_one->iE,mul_le_mul->iF,zero_add->jg,lt_trans->jh,succ_ne_zero->jx,le_of_not_lt->jy,mul_add->jD,min_le_left->jS,div_le_self->jT,lt_of_mul_lt_mul_left->km,mul_assoc->kC,add_lt_add_iff_right->kD,succ_pos->lh,min_self->lq,mod_eq_sub_mod->mG,lt_trichotomy->mS,add_mod_right->mT
open Option.some renaming inj->ax
open PySem.F renaming plainAttrs_list->aG,slot_list_append->aO,type_list_append->aS,called_set->bc,slot_tuple_iterator_next->dZ,plain_list_iadd->eC,slot_tuple_index->eQ,slot_enumerate_next->fv,type_tuple_index->f7,plainAttrs_tuple->f8,slot_list_index->ii,called_tuple->ik,plain_proto_collect->jo,plain_extend_loop->jC,type_list_index->jX,args_tuple_iterator_next_1->j6,plain_set_new->ke,entry_tuple_iterator_next->kg,args_object_init_2->kx,slot_list_remove->kP,slot_list_extend->kQ,entry_type_call->lI,args_enumerate_next_1->lJ,typeCall_set_1->lX,entry_set_init->lY,entry_enumerate_next->lZ
open PySem.PyData renaming int->aI,depthAll->aV,canLayAll0->ba,depth->bU,tuple->c6,eqv->c7,eqvAll->di,leavesShortAll->dD,showableAll->eB,canLay0->eV,shown->fK,hasDictAll->f6,bulkAll->iu,showable->jm,leavesShort->lG,hasDict->mQ
open Int renaming natCast_mul->aJ,natCast_emod->a5,mul_emod->bC,emod_lt_of_pos->bD,eq_ofNat_of_zero_le->bM,emod_nonneg->bY,mul_assoc->cf,zero_mul->ci,mul_zero->cu,add_zero->cC,mul_le_mul_of_nonneg_right->cZ,zero_add->dA,natCast_nonneg->dB,mul_comm->dC,natCast_ediv->eh,emod_eq_of_lt->fk,emod_emod_of_dvd->fJ,natCast_add->fO,neg_mul->gF,sub_emod->ir,mul_one->iG,dvd_refl->jj,one_mul->jG,mul_sub->jH,ediv_nonneg->jU,sub_zero->lC,sub_mul->l9,add_mul->md,lt_of_lt_of_le->mJ,lt_of_le_of_lt->mK
open PySem.Value renaming ref->aK,none->bG,type->bX,int->gN,bool->gY,isInt_shape->iX,str->j9
open PySem renaming Spec->aL,wpAny_call_entry->bm,mem_of_lookup->bo,codeAny_builtin->bv,wpAny_newObj_type->bA,wpAny_callSpecial?_slot->bP,wpAny_holding->bZ,wpAny_mono->cm,Builtin->cB,Scope->cL,PyData->cP,wpAny_truthy_bool->cQ,plainId_quiet->cW,wpAny_setField->dh,wpAny_field->dH,codeAny_mono->dM,wpAny_passesOwn->dQ,wpAny_pyIter_enum->dU,NameKind->eA,wpAny_setField_rec->fc,wpAny_rule->fe,wpAny_pyIter_list->ft,wpAny_newList->fP,wpAny_attempt->fQ,wpAny_seqItems->gH,wpAny_runValue->gI,wpAny_pyIter_tuple->gJ,isSubtype_type->gK,call_meets->gL,IsEnum->gP,ItemsOf->g9,IsRangeIter->hG,wpAny_standAt->ie,wpAny_typeOf->iy,wpAny_pyNext_range_end->iz,wpAny_pyIter_rangeiter->iA,wpAny_load->iB,wpAny_execs_nil->iJ,codeAny_of_tree->iK,wpAny_fieldsOf->iV,sizeLine_eq->iW,BindsTo->ja,wpAny_pyIter_range->jq,wpAny_Call_Name_kw->jr,tupleKind_room_in1->jt,slot_list_getitem->jI,wpAny_isInstance->j3,wpAny_askSetting->j4,wpAny_of_eq->j8,wpAny_updateSeq->kq,wpAny_ite_split->ku,wpAny_letOwnedTupleGo_enum->kJ,Paired->kN,Operator->kO,Drawn->kS,wpAny_getItem_list_slice->lO,wpAny_comprehension_free->lP,rangeSize_one->lQ,evalPart_none->lR,call->lS,wpAny_Call_method_late->mr,wpAny_isTrue_Compare1->mM,weight_type_call_type->mN,builtinLookup_eq_fast->mO
open Array renaming getElem?_eq_getElem->aP,getElem?_toList->cn,getElem?_eq_none->cy,getD_eq_getD_getElem?->cz,getElem_mem->i8,perm_iff_toList_perm->jV,toArray_toList->lD,size_extract->me,getD->mf,toList_push->mq
open PySem.Obj renaming mapSeq->a7,data_mapFields->bn,isFreed_of_fields->cI,cls_mapFields->gC,mapFields->gO,putSet->iZ
open PySem.Builtin.Range renaming rangeSize->a9,small->cq,rangeFitsLong->iL
open PySem.Heap renaming SameBut->be,get?_update_self->br,size_push->bF,get?_update_other->bQ,size_update->fo,get?_push_ne->gv,get?_none_of_le->lH
open PyProof.Rows renaming callWith_type1->bg,IntsAre->bB,firstMet_length_le->gQ,AllBare->iD,get?_update_seq->iM,entry_list_sort->iN,slot_list_sort->i6,args_list_sort->i7,assignInOrder_cons->jw,plain_sorted->jP,entry_sorted->jQ,args_sorted1->jR,kind_sorted->kh,size_push'->kU,boot_range->kW,Subscript_->kZ,IsTup->lf,listUpdate_at->l5,firstMet_succ->l6,subscriptTail_builtinR->mD,listItems_at->mE
open PySem.SeqAt renaming shaped->bq,readOf->iY,eqv_refl->jN,EqAt->j5,readsAll_map->lW,items_eqAt->mC
open PySem.Around renaming under_plainId->bw,under_plain->lK
open PySem.Heap.SameBut renaming update->bz
open Ne renaming symm->bE
open PySem.Builtin.List renaming listExtendWith->bT,listTooLong->dO,listLengthHint->fm,listSameRef->i9
open ForInStep renaming yield->cH
open Nat.succ renaming inj->cJ
open List.Perm renaming refl->cO,eq_of_pairwise->jz,of_eq->lN
open List.Pairwise renaming sublist->cR,nil->fF,map->fG,imp_of_mem->fI
open PySem.Builtin.SmallTypes renaming nextOf->cY,ownedTupleHandOut->fY,ownedTupleIsFree->f9
open PySem.NameKind renaming cell->c8,free->ff
open True renaming intro->db
open Option renaming map_some->de,isSome_iff_exists->gf,isSome_map->l7,getD_none->mi
open PyProof.Rows.F renaming plain_set_update_loop->dE,entry_set_update_loop->gD
open PySem.SetTable renaming grown->dI,below->mh,slot->mz,fits->mB
open False renaming elim->dR
open PySem.Str renaming ofString->dY
open PySem.Calls renaming call_function_entry->eL,Name_function_global->jO,callWith_builtin->kB,evalArgs_plain->kT
open PySem.Data renaming cell->fS,fields->gw
open PySem.Challenge renaming rw_classtab_k55_matches->fW,pw_classtab_k55_matches->fX
open PySem.MeetsSeq renaming plain_remove_loop->g8
open PySem.Builtin.Frozenset renaming updateFrom->im
open Sum renaming inl->iH,inr->jd
open Std.Legacy renaming Range->iI
open PySem.Builtin.Tuple renaming tupleItemsOf->iP,tupleExact->i5
open PySem.Code renaming quiet_builtin->iQ
open PySem.Heap.IsListIter renaming extBut->i0
open PySem.SeqAt.EqAt renaming int_int->jA,str_int->ka,int_str->kc
open PySem.Heap.IsSliceOf renaming new->jB
open PySem.pickOrder renaming go->jK
open PySem.Walks renaming list->jL,range->kK
open PySem.Paired renaming length->jW
open PyProof renaming noPylong_small->j7
open PyProof.Rows.IsTup renaming new->ki
open PySem.IsRange renaming new->kw
open Prod renaming fst->lL
open PyProof.Rows.IntsAre renaming int_at->mF
open PySem.Heap.IsTuple renaming typeIs->mR
set_option Elab.async false
set_option linter.all false
set_option maxRecDepth 100000
theorem Za {α j:Type _}{l:List α}{f:α->j}:(l.map f).length=l.length:=fN ..
theorem Zb {α:Type _}{l:List α}{i:Nat}{a:α}:l.getD i a=l[i]?.getD a:=List.getD_eq_getElem?_getD ..
theorem Zc {α j:Type _}{f:α->j}{l:List α}{i:Nat}:(l.map f)[i]?=l[i]?.map f:=List.getElem?_map ..
theorem Zd {α:Type _}{a b:List α}:(a++b).length=a.length+b.length:=List.length_append ..
theorem Ze {α:Type _}{n:Nat}{a:α}:(aw n a).length=n:=dJ ..
theorem Zf {α:Type _}{l:List α}{i:Nat}(h:i<l.length):l[i]?=some l[i]:=List.getElem?_eq_getElem h
theorem Zg {n:Nat}:(ae n).length=n:=List.length_range ..
theorem Zh {α:Type _}{l:List α}:l.toArray.size=l.length:=List.size_toArray ..
theorem Zi {α:Type _}{a:α}{l:List α}:(a::l).length=l.length+1:=List.length_cons ..
theorem Zj (n:Nat):(n:Int).toNat=n:=Int.toNat_natCast n
theorem Zk {α:Type _}{a:α}:[a].length=1:=List.length_singleton ..
noncomputable abbrev Zl:=@PySem.wpAny_bind
noncomputable abbrev Zm:=@PySem.wpAny_pure
noncomputable abbrev Zn:=@PySem.Heap.get?_push_of_some
noncomputable abbrev Zo:=@PySem.Heap.get?_push_size
noncomputable abbrev Zp:=@PySem.Heap.lt_size
noncomputable abbrev Zq:=@Nat.le_refl
noncomputable abbrev Zr.{u}:=@Array.length_toList.{u}
namespace L2
open PySem PySem.Spec PyProof.Rows
noncomputable abbrev YQ:=Sum Int Str
def ZaB:YQ->Value->Bool
 | .inl k,v=>Value.isInt k v
 | .inr x,v=>Value.isStrOf x v
def ZpP (w:World):YQ->Int
 | .inl k=>hashInt k
 | .inr x=>hashStr w x
theorem Yw:∀{k:YQ}{v:Value},ZaB k v=true->(∃i t,k=iH i/\v=gN i t)\/(∃x t,k=jd x/\v=j9 x t)
 | .inl i,v,h=>by
  obtain⟨t,e⟩:=iX (k:=i) (v:=v) h;exact .inl ⟨i,t,rfl,e⟩
 | .inr x,v,h=>by
  obtain⟨t,e⟩:=Value.isStrOf_shape (x:=x) (v:=v) h;exact .inr ⟨x,t,rfl,e⟩
theorem ZfY (i:Int)(t:Tok):ZaB (.inl i) (.int i t)=true:=by simp[ZaB,Value.isInt]
theorem ZfX (x:Str)(t:Tok):ZaB (.inr x) (.str x t)=true:=by simp[ZaB,Value.isStrOf]
theorem ZmN (a b:Int):decide ((iH a:YQ)=iH b)=(a == b):=by
 by_cases e:a=b
 ·subst e;simp
 ·have h:¬(iH a:YQ)=iH b:=λq=>e (Sum.inl.inj q)
  rw[decide_eq_false h];exact (beq_eq_false_iff_ne.mpr e).symm
theorem ZmK (a b:Str):decide ((jd a:YQ)=jd b)=decide (a=b):=by
 by_cases e:a=b
 ·subst e;simp
 ·have h:¬(jd a:YQ)=jd b:=λq=>e (Sum.inr.inj q)
  rw[decide_eq_false h,decide_eq_false e]
theorem ZmM (a:Int)(b:Str):decide ((iH a:YQ)=jd b)=false:=decide_eq_false (λq=>nomatch q)
theorem ZmL (a:Str)(b:Int):decide ((jd a:YQ)=iH b)=false:=decide_eq_false (λq=>nomatch q)
noncomputable def YH (prog:Program)(w:World):PySem.KeyKind prog w YQ where
 is:=ZaB
 hash:=ZpP w
 inj:=λv a b M hb=>by
  rcases Yw M with ⟨i,t,rfl,rfl⟩|⟨x,t,rfl,rfl⟩
  ·rcases Yw hb with ⟨j,u,rfl,e⟩|⟨y,u,rfl,e⟩
   ·injection e with q _;rw[q]
   ·exact nomatch e
  ·rcases Yw hb with ⟨j,u,rfl,e⟩|⟨y,u,rfl,e⟩
   ·exact nomatch e
   ·injection e with q _;rw[q]
 byValue:=λk v h=>by
  rcases Yw h with ⟨i,t,rfl,rfl⟩|⟨x,t,rfl,rfl⟩ <;> rfl
 pyHash:=λJ h=>by
  rcases Yw J with ⟨i,t,rfl,rfl⟩|⟨x,t,rfl,rfl⟩
  ·exact wpAny_pyHash_int h
  ·exact wpAny_pyHash_str h
 eqBool:=λO J h=>by
  rcases Yw O with ⟨i,t,rfl,rfl⟩|⟨x,t,rfl,rfl⟩
  ·rcases Yw J with ⟨j,u,rfl,rfl⟩|⟨y,u,rfl,rfl⟩
   ·rw[ZmN] at h;exact wpAny_eqBool_int h
   ·rw[ZmM] at h;exact kc i t y u _ _ _ _ h
  ·rcases Yw J with ⟨j,u,rfl,rfl⟩|⟨y,u,rfl,rfl⟩
   ·rw[ZmL] at h;exact ka x t j u _ _ _ _ h
   ·rw[ZmK] at h;exact wpAny_eqBool_str h
 «strs»:=λk x t v h=>by
  rcases Yw h with ⟨i,u,rfl,e⟩|⟨y,u,rfl,e⟩
  ·exact nomatch e
  ·injection e with q _
   subst q;cases v <;> rfl
theorem ZcS (prog:Program)(w:World)(i:Int)(t:Tok):(YH prog w).is (.inl i) (.int i t)=true:=ZfY i t
theorem ZcR (prog:Program)(w:World)(x:Str)(t:Tok):(YH prog w).is (.inr x) (.str x t)=true:=ZfX x t
inductive V where
 |non|bl (b:Bool)|int (i:Int)|str (x:Str)|byt (b:Array UInt8)|flt (b:UInt64)|ref (a:Addr)|ty (n:String)
 deriving DecidableEq
abbrev TL:=List V
abbrev TK:=Option V
def RelV:V->Value->Prop
 | .non,u=>u=bG
 | .bl b,u=>u=gY b
 | .int i,u=>∃t,u=gN i t
 | .str x,u=>∃t,u=j9 x t
 | .byt b,u=>∃t,u=Value.bytes b t
 | .flt b,u=>∃t,u=Value.float b t
 | .ref a,u=>u=aK a
 | .ty n,u=>u=bX n
noncomputable abbrev ZO:TL->List Value->Prop:=kN RelV
theorem ZO.length {xs:TL}{us:List Value}(r:ZO xs us):xs.length=us.length:=jW r
theorem ZO.get:∀{xs:TL}{us:List Value}{i:Nat}{x:V},ZO xs us->xs[i]?=some x->∃u,us[i]?=some u/\RelV x u
 |_,_,_,_,.nil,e=>by simp at e
 |_,_,0,_,.cons r _,e=>by simp at e;subst e;exact⟨_,rfl,r⟩
 |_,_,i+1,x,.cons _ t,e=>by
  obtain⟨u,j,q⟩:=ZO.get (i:=i) (x:=x) t (by simpa using e);exact⟨u,by simpa using j,q⟩
theorem ZO.set {x:V}{u:Value}(r:RelV x u):∀{xs:TL}{us:List Value} (i:Nat),ZO xs us->ZO (xs.set i x) (us.set i u)
 |_,_,_,.nil=>.nil
 |_,_,0,.cons _ t=>.cons r t
 |_,_,i+1,.cons q t=>.cons q (ZO.set r i t)
theorem ZO.append:∀{xs ys:TL}{us j:List Value},ZO xs us->ZO ys j->ZO (xs++ys) (us++j)
 |_,_,_,_,.nil,s=>s
 |_,_,_,_,.cons r t,s=>.cons r (ZO.append t s)
theorem ZO.take:∀{xs:TL}{us:List Value} (n:Nat),ZO xs us->ZO (xs.take n) (us.take n)
 |_,_,0,_=>.nil
 |_,_,_+1,.nil=>.nil
 |_,_,n+1,.cons r t=>.cons r (ZO.take n t)
theorem ZO.drop:∀{xs:TL}{us:List Value} (n:Nat),ZO xs us->ZO (xs.drop n) (us.drop n)
 |_,_,0,r=>r
 |_,_,_+1,.nil=>.nil
 |_,_,n+1,.cons _ t=>ZO.drop n t
def UZ:TK->Option Value->Prop
 |some v,some u=>RelV v u
 |none,none=>True
 |_,_=>False
def KV {j:Type}:List (j×V)->List (j×Value)->Prop:=kN λ(p:j×V) (q:j×Value)=>p.1=q.1/\RelV p.2 q.2
def kV:YQ->V
 | .inl i=>.int i
 | .inr x=>.str x
inductive HO where
 |lst (xs:TL)
 |tup (xs:TL)
 |dK (kvs:List (YQ×V))|dT (kvs:List (List YQ×V))
 |set (S:Int->Bool) (n:Nat)
 |ins (C dx:Addr) (fs:List (Str×V))
 |own (x:Addr)
 |xd (fs:List (Str×V))
 |met (f x:Addr)
 |rng (lo hi:Int)
 |frz (o:Obj) (u:HO)
 |tbl (ps:Array Value)
 |ext (φ:Heap->Prop)
noncomputable abbrev Hp:=Addr->Option HO
def upd (H:Hp)(a:Addr)(o:HO):Hp:=λb=>if b=a then some o else H b
theorem Zu {H:Hp}{a:Addr}{o:HO}:upd H a o a=some o:=by unfold upd;rw[if_pos rfl]
theorem Zy {H:Hp}{a b:Addr}{o:HO}(h:b≠a):upd H a o b=H b:=by unfold upd;rw[if_neg h]
theorem Zjl {H:Hp}{a:Addr}{o u:HO}:upd (upd H a o) a u=upd H a u:=by
 funext b;unfold upd;split <;> rfl
theorem Zh9 {H:Hp}{a b:Addr}{o u:HO}(h:H a=some o)(h':H b=some u)(d:o≠u):a≠b:=by
 intro e;subst e;rw[h] at h';exact d (ax h')
theorem Yf {H:Hp}{a b:Addr}{o:HO}(h:H a=some o)(h':H b=none):a≠b:=by
 intro e;subst e;rw[h] at h';cases h'
section
variable (P:Program)(w:World)
def Yk (H:Hp)(h:Heap)(a:Addr):HO->Prop
 | .lst M=>M.length<=sizeLine/\∃(j:List Value) (n:Nat),ZO M j/\h.get? a=some {cls:=.type "list",data:=.seq j.toArray n}
 | .tup M=>M.length<=sizeLine/\∃j:List Value,ZO M j/\lf h a j.toArray
 | .dK J=>J.length<=sizeLine/\(a == sysModules)=false/\∃Y,KV J Y/\h.DictOf (YH P w) a Y
 | .dT J=>J.length<=sizeLine/\(a == sysModules)=false/\∃M:List (List YQ×Addr×Value),
   kN (λ(p:List YQ×V) (q:List YQ×Addr×Value)=>p.1=q.1/\H q.2.1=some (.tup (p.1.map kV))/\RelV p.2 q.2.2) J M/\
   ∃o es ep,h.get? a=some o/\o.ExactDict/\o.data=.dict es ep/\es.toList=M.map (entryOfKey (tupleKind (YH P w)))/\(M.map (·.1)).Nodup
 | .set S n=>h.SetOf (intKind P w) a S n
 | .ins C U fs=>H U=some (.own a)/\fs.length<=1000/\U≠a/\h.get? a=some (jf C U)/\
   ∃O,h.Ns1 U O/\(∀f,UZ (fs.lookup f) (O f))/\PySem.Within O (fs.map (·.1))
 | .own _=>∃o,h.get? a=some o
 | .xd fs=>∃O,h.Ns1 a O/\∀f,UZ (fs.lookup f) (O f)
 | .rng lo hi=>∃t u v,h.get? a=some {cls:=.type "range",data:=.fields #[.int lo t,.int hi u,.int 1 v]}
 | .frz o u=>h.get? a=some o/\Yk H h a u
 | .tbl ps=>h.get? a=some {cls:=.none,data:=.fields ps}
 | .met f x=>h.get? a=some (iO (.ref f) (.ref x))
 | .ext φ=>φ h/\(∃o,h.get? a=some o)/\∀h1 h2:Heap,φ h1->(∀o,h1.get? a=some o->h2.get? a=some o)->φ h2
def Xy (H:Hp)(h:Heap):Prop:=∀a o,H a=some o->Yk P w H h a o
end
section
variable {P:Program}{w:World}{H H':Hp}{h h':Heap}{a:Addr}{o:HO}
theorem Yk.lt (x:Yk P w H h a o):a<h.objs.size:=by
 cases o with
 |lst q=>obtain⟨_,_,_,_,e⟩:=x;exact Zp e
 |tup q=>obtain⟨_,_,_,p⟩:=x;exact p.lt
 |dK j=>obtain⟨_,_,_,_,o,_,_,e,_⟩:=x;exact Zp e
 |dT j=>obtain⟨_,_,_,_,o,_,_,e,_⟩:=x;exact Zp e
 |set S n=>obtain⟨o,_,_,_,e,_⟩:=x;exact Zp e
 |ins C J fs=>obtain⟨_,_,_,e,_⟩:=x;exact Zp e
 |own y=>obtain⟨_,e⟩:=x;exact Zp e
 |xd fs=>obtain⟨_,⟨_,_,_,e,_⟩,_⟩:=x;exact Zp e
 |rng lo M=>obtain⟨_,_,_,e⟩:=x;exact Zp e
 |frz O u=>obtain⟨e,_⟩:=x;exact Zp e
 |tbl U=>exact Zp (show h.get? a=some _ from x)
 |met f y=>exact Zp (show h.get? a=some _ from x)
 |ext Y=>obtain⟨_,⟨_,e⟩,_⟩:=x;exact Zp e
theorem kN.mapP {α J:Type}{F G:α->J->Prop}:∀{j:List α}{q:List J},kN F j q->(∀a b,F a b->G a b)->kN G j q
 |_,_,.nil,_=>.nil
 |_,_,.cons r t,f=>.cons (f _ _ r) (kN.mapP t f)
theorem Yk.stay (x:Yk P w H h a o)(k:∀b u,(b=a\/H b=some (.own a))->h.get? b=some u->h'.get? b=some u)
  (ho:∀b,H b=some (.own a)->H' b=some (.own a)) (ht:∀b xs,H b=some (.tup xs)->H' b=some (.tup xs)):Yk P w H' h' a o:=by
 induction o with
 |lst xs=>obtain⟨z,O,n,r,e⟩:=x;exact⟨z,O,n,r,k _ _ (.inl rfl) e⟩
 |tup xs=>obtain⟨z,O,r,j,e,c⟩:=x;exact⟨z,O,r,j,k _ _ (.inl rfl) e,c⟩
 |dK U=>obtain⟨z,y,vs,r,j,J,M,e,c⟩:=x;exact⟨z,y,vs,r,j,J,M,k _ _ (.inl rfl) e,c⟩
 |dT U=>
  obtain⟨z,y,xs,r,j,J,M,e,c⟩:=x;exact⟨z,y,xs,kN.mapP r λp q z=>⟨z.1,ht _ _ z.2.1,z.2.2⟩,j,J,M,k _ _ (.inl rfl) e,c⟩
 |set S n=>obtain⟨j,J,M,t,e,c⟩:=x;exact⟨j,J,M,t,k _ _ (.inl rfl) e,c⟩
 |ins C dx fs=>
  obtain⟨d,z,ne,e,Y,⟨od,J,M,e2,c⟩,r⟩:=x;exact⟨ho _ d,z,ne,k _ _ (.inl rfl) e,Y,⟨od,J,M,k _ _ (.inr d) e2,c⟩,r⟩
 |own y=>obtain⟨j,e⟩:=x;exact⟨j,k _ _ (.inl rfl) e⟩
 |xd fs=>obtain⟨Y,⟨od,J,M,e,c⟩,r⟩:=x;exact⟨Y,⟨od,J,M,k _ _ (.inl rfl) e,c⟩,r⟩
 |rng lo hi=>obtain⟨t,u,v,e⟩:=x;exact⟨t,u,v,k _ _ (.inl rfl) e⟩
 |frz j u ih=>obtain⟨e,q⟩:=x;exact⟨k _ _ (.inl rfl) e,ih q⟩
 |tbl ps=>
  have e:h.get? a=some {cls:=.none,data:=.fields ps}:=x;show h'.get? a=some {cls:=.none,data:=.fields ps};exact k a _ (.inl rfl) e
 |met f y=>
  have e:h.get? a=some (iO (.ref f) (.ref y)):=x;show h'.get? a=some (iO (.ref f) (.ref y));exact k a _ (.inl rfl) e
 |ext φ=>obtain⟨p,⟨o,e⟩,st⟩:=x;exact⟨st _ _ p λo q=>k _ _ (.inl rfl) q,⟨o,k _ _ (.inl rfl) e⟩,st⟩
theorem Xy.lt (x:Xy P w H h)(e:H a=some o):a<h.objs.size:=(x a o e).lt
theorem Xy.fresh (x:Xy P w H h)(e:h.objs.size<=a):H a=none:=by
 cases q:H a with
 |none=>rfl
 |some u=>exact absurd (aF (x.lt q) e) (b9 _)
theorem Xy.kept (x:Xy P w H h)(k:∀b u,h.get? b=some u->h'.get? b=some u):Xy P w H h':=λa o e=>
 (x a o e).stay (λb u _ q=>k b u q) (λ_ q=>q) λ_ _ q=>q
theorem Xy.laid (x:Xy P w H h)(k:∀b u,h.get? b=some u->h'.get? b=some u)(M:h.objs.size<=a)(j:Yk P w (upd H a o) h' a o):Xy P w (upd H a o) h':=λb u e=>by
 have J:=x.fresh M;by_cases hb:b=a
 ·subst hb;rw[Zu] at e;cases e;exact j
 ·rw[Zy hb] at e
  exact (x b u e).stay (λc v _ q=>k c v q) (λc q=>by rw[Zy (Yf q J)];exact q) λc O q=>by rw[Zy (Yf q J)];exact q
end
def Rd (H:Hp)(a:Addr)(u:HO):Prop:=H a=some u\/∃o,H a=some (.frz o u)
theorem Rd.ok {P:Program}{w:World}{H:Hp}{h:Heap}{a:Addr}{u:HO}(r:Rd H a u)(x:Xy P w H h):Yk P w H h a u:=by
 rcases r with r|⟨o,r⟩
 ·exact x a u r
 ·obtain⟨_,q⟩:=x a _ r
  exact q
def Mut:Option HO->Prop
 |some (.lst _)=>True
 |some (.dK _)=>True
 |some (.dT _)=>True
 |some (.set _ _)=>True
 |some (.ins _ _ _)=>True
 |some (.ext _)=>True
 |_=>False
section
variable {P:Program}{w:World}{H:Hp}{h h':Heap}{x e:Addr}{o':HO}
theorem Xy.write (ok:Xy P w H h)(O:Mut (H x))(he:e=x\/H e=some (.own x))(k:∀b u,b≠e->h.get? b=some u->h'.get? b=some u)(m5:∃u,h'.get? e=some u)
  (m6:Yk P w (upd H x o') h' x o'):Xy P w (upd H x o') h':=λb u q=>by
 have J:∀c y,H c=some (.own y)->c≠x:=λc y r z=>by subst z;rw[r] at O;exact O
 have M:∀c U,H c=some (.tup U)->c≠x:=λc U r z=>by subst z;rw[r] at O;exact O
 by_cases hb:b=x
 ·subst hb;rw[Zu] at q;cases q;exact m6
 ·rw[Zy hb] at q
  by_cases j:b=e
  ·have q':H b=some (.own x):=by
    rcases he with z|z
    ·exact absurd (j.trans z) hb
    ·rw[j];exact z
   rw[q] at q';cases q';obtain⟨v,hv⟩:=m5;exact⟨v,by rw[j];exact hv⟩
  ·refine (ok b u q).stay (λc v Y r=>k c v ?_ r) (λc r=>by rw[Zy (J c b r)];exact r) λc U r=>by rw[Zy (M c U r)];exact r
   rcases Y with rfl|Y
   ·exact j
   ·rintro rfl
    rcases he with z|z
    ·exact J c b Y z
    ·rw[Y] at z;cases z;exact hb rfl
end
structure Un (fs ex:TN)(H H':Hp)(h h':Heap):Prop where
 keep:∀b o,h.get? b=some o->H b=none->b∉fs->b∉ex->h'.get? b=some o
 slot:∀b o,h.get? b=some o->H b=none->b∈fs->b∉ex->∃sl,h'.get? b=some {o with slots:=sl}
 free:∀b o,h.get? b=some o->H b=none->b∉ex->H' b=none
 there:∀b o,h.get? b=some o->b∉ex->∃o',h'.get? b=some o'
 tups:∀b xs,H b=some (.tup xs)->H' b=some (.tup xs)
 frzs:∀b o u,H b=some (.frz o u)->H' b=some (.frz o u)
 tbls:∀b ps,H b=some (.tbl ps)->∃more,H' b=some (.tbl (ps++more))
section
variable {fs fs' ex ex':TN}{H H1 H2:Hp}{h h1 h2 h':Heap}{a x e:Addr}{o:HO}
theorem Un.any (u:Un fs ex H H1 h h1){b:Addr}{j:Obj}(q:h.get? b=some j)(n:H b=none)(J:b∉ex):∃M,h1.get? b=some {j with slots:=M}:=by
 by_cases hb:b∈fs
 ·exact u.slot b j q n hb J
 ·exact⟨j.slots,u.keep b j q n hb J⟩
theorem Un.kept (k:∀b u,h.get? b=some u->h'.get? b=some u):Un fs ex H H h h':=
 ⟨λb j q _ _ _=>k b j q,λb j q _ _ _=>⟨j.slots,k b j q⟩,λ_ _ _ n _=>n,λb j q _=>⟨j,k b j q⟩,λ_ _ q=>q,λ_ _ _ q=>q,λ_ J q=>⟨#[],by rw[q];simp⟩⟩
theorem Un.refl:Un fs ex H H h h:=Un.kept λ_ _ q=>q
theorem Un.laid (k:∀b u,h.get? b=some u->h'.get? b=some u)(J:h.objs.size<=a)(j:H a=none):Un fs ex H (upd H a o) h h' where
 keep:=λb u q _ _ _=>k b u q
 slot:=λb u q _ _ _=>⟨u.slots,k b u q⟩
 free:=λb u q n _=>by rw[Zy (ar (aF (Zp q) J))];exact n
 there:=λb u q _=>⟨u,k b u q⟩
 tups:=λb M q=>by rw[Zy (Yf q j)];exact q
 frzs:=λb u M q=>by rw[Zy (Yf q j)];exact q
 tbls:=λb O q=>⟨#[],by rw[Zy (Yf q j),q];simp⟩
theorem Un.write (J:Mut (H x))(Y:e=x\/H e=some (.own x))(k:∀b u,b≠e->h.get? b=some u->h'.get? b=some u)(M:∃u,h'.get? e=some u):Un fs ex H (upd H x o) h h':=by
 have U:∀b,H b=none->b≠x:=λb n z=>by subst z;rw[n] at J;exact J
 have hb:∀b,H b=none->b≠e:=λb n z=>by
  subst z;rcases Y with r|r
  ·exact U b n r
  ·rw[n] at r;cases r
 have O:∀b u,H b=some u->¬Mut (some u)->b≠x:=λb u q nm z=>by subst z;rw[q] at J;exact nm J
 refine⟨λb u q n _ _=>k b u (hb b n) q,λb u q n _ _=>⟨u.slots,k b u (hb b n) q⟩,λb u q n _=>by rw[Zy (U b n)];exact n,λb u q _=>?_,
  λb xs q=>by rw[Zy (O b _ q λz=>z)];exact q,λb u xs q=>by rw[Zy (O b _ q λz=>z)];exact q,λb ps q=>⟨#[],by rw[Zy (O b _ q λz=>z),q];simp⟩⟩
 by_cases j:b=e
 ·subst j;exact M
 ·exact⟨u,k b u j q⟩
end
def trk (h:Heap)(H:Hp):TN:=(ae h.objs.size).filter λa=>(H a).isSome
def ZbJ (h:Heap)(H:Hp):Heap:=PySem.W.hideAll h (trk h H)
theorem Zf1 (h:Heap)(H:Hp):(ZbJ h H).objs.size=h.objs.size:=PySem.W.hideAll_size _ _
theorem Ziv {h:Heap}{H:Hp}{b:Addr}{o:Obj}(e:h.get? b=some o)(n:H b=none):(ZbJ h H).get? b=some o:=
 PySem.W.hideAll_get _ e λj=>by
  have q:(H b).isSome=true:=(fM.mp j).2;rw[n] at q;simp at q
theorem Zkg {h:Heap}{H:Hp}{b:Addr}{o:Obj}(e:(ZbJ h H).get? b=some o):h.get? b=some o/\H b=none:=by
 have j:h.get? b=some o:=PySem.W.of_hideAll (trk h H) e;refine⟨j,?_⟩;cases q:H b with
 |none=>rfl
 |some x=>
  have J:b∈trk h H:=fM.mpr ⟨af.mpr (Zp j),by simp[q]⟩;have z:(ZbJ h H).get? b=none:=PySem.W.hideAll_none (trk h H) J;rw[z] at e;cases e
structure Mod (K:aa)(mg:TR)(base:Heap):Prop where
 kin:K.In base
 glob:base.Ns mainGlobals mg
 blt:∃mb,base.Ns builtinsNs mb/\∀x:Str,x ≠ "__name__"->mb x=bootBuiltins x
 nolimit:base.NoLimit
structure Cx where
 prog:Program
 w:World
 K:aa
 mg:Str->Option Value
 base:Heap
 A:Around
 N:List Str
 s₀:Shared
 H₀:Hp
 env:Env
 outer:List Env
 stack:List Env
 ex:TN
 fn:Str->Bool
 calm:Bool
 pn:List (Addr×Obj)
 xe:Value->Shared->Prop
def VW (l:List Env):TN:=l.filterMap (·.frame)
noncomputable abbrev Cx.fs (X:Cx):TN:=VW X.outer
def Vis (j:cL)(x:Str):Prop:=j.names.lookup x=some .local\/j.names.lookup x=some .cell\/j.names.lookup x=some .free
def Loc (j:cL)(x:Str):Prop:=j.names.lookup x=some .local\/j.names.lookup x=some .cell
def Look (env:Env)(h:Heap)(m:TR)(x:Str)(u:Value):Prop:=
 (env.kindOf x=some .local/\m x=some u)\/((env.kindOf x=some .cell\/env.kindOf x=some .free)/\∃c,env.cells.lookup x=some c/\h.IsCell c (some u))
structure Cx.Ok (X:Cx):Prop where
 mod:Mod X.K X.mg X.base
 kind:X.env.scope.kind=.function
 glob:X.env.globals=mainGlobals
 blt:X.env.builtins=builtinsNs
 above:X.s₀.heap.objs.size<=X.env.locals
 inj:∀x y c,X.env.cells.lookup x=some c->X.env.cells.lookup y=some c->x=y
 has:∀x,(X.env.kindOf x=some .cell\/X.env.kindOf x=some .free)->∃c,X.env.cells.lookup x=some c
 cab:∀x c,X.fn x=true->X.env.cells.lookup x=some c->X.s₀.heap.objs.size<=c
 hd:X.calm=true->X.A.handled=none
 frames:X.A.frames=some X.stack
 stk:X.stack=X.outer\/(X.stack=X.env::X.outer/\X.env.frame=some X.env.locals)
 exf:∀b∈X.ex,b≠X.env.locals/\∀x c,X.env.cells.lookup x=some c->c≠b
 bs:∀b o,X.base.get? b=some o->X.s₀.heap.get? b=some o/\X.H₀ b=none
 bsz:X.base.objs.size<=X.s₀.heap.objs.size
 noex:∀b o,X.base.get? b=some o->b∉X.ex
 exfs:∀b∈X.ex,b∉X.fs
 funs:X.s₀.heap.FunFrames X.base X.outer
 frf:∀b∈X.fs,X.H₀ b=none
structure Inv (X:Cx)(pins:List (Addr×Obj))(σ:List TK)(H:Hp)(s:Shared):Prop where
 ok:X.Ok
 os:s.os=X.s₀.os
 bare:iD s.gens
 base:Un X.fs X.ex X.H₀ H X.s₀.heap s.heap
 loc:∃m,s.heap.Ns X.env.locals m/\∀(i:Nat) (x:Str) (v:V),X.N[i]?=some x->σ[i]?=some (some v)->Vis X.env.scope x->∃u,RelV v u/\Look X.env s.heap m x u
 cell:∀x c,X.env.cells.lookup x=some c->∃v,s.heap.IsCell c v
 free:H X.env.locals=none
 freeC:∀x c,X.env.cells.lookup x=some c->H c=none
 pin:∀p∈X.pn++pins,s.heap.get? p.1=some p.2/\H p.1=none/\p.1≠X.env.locals/\p.1∉X.fs/\∀v,p.2.data≠.cell v
 hok:Xy X.prog X.w H s.heap
 len:σ.length=X.N.length
section
variable {X:Cx}{pins:List (Addr×Obj)}{σ:List TK}{H H':Hp}{s:Shared}{h':Heap}
theorem Cx.Ok.nofr (ok:X.Ok){b:Addr}{o:Obj}(e:X.base.get? b=some o):b∉X.fs:=λhb=>by
 have:=(ok.funs.mem hb).1;rw[e] at this;cases this
theorem Inv.bs (I:Inv X pins σ H s):∀b o,X.base.get? b=some o->s.heap.get? b=some o/\H b=none:=λb o e=>
 ⟨I.base.keep b o (I.ok.bs b o e).1 (I.ok.bs b o e).2 (I.ok.nofr e) (I.ok.noex b o e),I.base.free b o (I.ok.bs b o e).1 (I.ok.bs b o e).2 (I.ok.noex b o e)⟩
theorem Inv.bk (I:Inv X pins σ H s):∀b o,X.base.get? b=some o->s.heap.get? b=some o:=λb o e=>(I.bs b o e).1
theorem Inv.mod (I:Inv X pins σ H s):Mod X.K X.mg X.base:=I.ok.mod
theorem Inv.kIn (I:Inv X pins σ H s):X.K.In s.heap:=I.ok.mod.kin.keeps I.bk
theorem Inv.lt (I:Inv X pins σ H s):X.env.locals<s.heap.objs.size:=let ⟨_,j,_⟩:=I.loc;j.lt
theorem Inv.sz (I:Inv X pins σ H s):X.s₀.heap.objs.size<=s.heap.objs.size:=aW I.ok.above (dw I.lt)
theorem Inv.nofs (I:Inv X pins σ H s){a:Addr}(h:s.heap.objs.size<=a):a∉X.fs:=λhb=>by
 obtain⟨_,o,j,_⟩:=I.ok.funs.mem hb;exact absurd (aF (Zp j) (aW I.sz h)) (b9 _)
theorem Inv.cne (I:Inv X pins σ H s):∀x c,X.env.cells.lookup x=some c->c≠X.env.locals:=λx c e z=>by
 obtain⟨v,o,J,hd⟩:=I.cell x c e;obtain⟨m,⟨M,O,U,j,q,_⟩,_⟩:=I.loc;rw[z,j] at J;cases J;rw[q] at hd;cases hd
theorem Inv.funs (I:Inv X pins σ H s):s.heap.FunFrames X.base X.outer:=by
 have all:∀(l:List Env),(∀b∈VW l,b∈X.fs)->X.s₀.heap.FunFrames X.base l->s.heap.FunFrames X.base l:=by
  intro l;induction l with
  |nil=>intro _ _;trivial
  |cons env r J=>
   intro q M;obtain⟨O,⟨L,o,hf,U,Y,hd⟩,hr⟩:=M;have j:L∈X.fs:=q L (by unfold VW;rw[bS,hf];exact aA);obtain⟨sl,e⟩:=I.base.slot L o Y (I.ok.frf L j) j λz=>I.ok.exfs L z j;exact⟨O,⟨L,_,hf,U,e,hd⟩,J (λb hb=>q b (by unfold VW;rw[bS,hf];exact aE _ hb)) hr⟩
 exact all X.outer (λ_ hb=>hb) I.ok.funs
theorem Inv.stack (I:Inv X pins σ H s):s.heap.FunFrames X.base X.stack:=by
 rcases I.ok.stk with e|⟨e,hf⟩
 ·rw[e];exact I.funs
 ·rw[e]
  obtain⟨m,j,_⟩:=I.loc;refine .cons (by rw[I.ok.kind];decide) hf j ?_ I.funs;exact lH (aW I.ok.bsz I.ok.above)
theorem Inv.stkSub (I:Inv X pins σ H s):∀b∈VW X.stack,b∈X.env.locals::X.fs:=λb hb=>by
 rcases I.ok.stk with e|⟨e,hf⟩
 ·rw[e] at hb;exact aE _ hb
 ·rw[e] at hb
  unfold VW at hb;rw[bS,hf] at hb;exact hb
theorem Inv.stkFree (I:Inv X pins σ H s):∀b∈VW X.stack,H b=none:=λb hb=>by
 rcases aD.mp (I.stkSub b hb) with e|hb
 ·rw[e];exact I.free
 ·obtain⟨_,o,j,_⟩:=I.ok.funs.mem hb
  exact I.base.free b o j (I.ok.frf b hb) λz=>I.ok.exfs b z hb
theorem Inv.step {g':Array GenState}{t':Nat}{d':kS}{ch:TN}(I:Inv X pins σ H s)
  (J:∀b∈ch,(b∈X.ex\/X.s₀.heap.objs.size<=b)/\b≠X.env.locals/\(∀x c,X.env.cells.lookup x=some c->c≠b)/\∀p∈X.pn++pins,p.1≠b)
  (keep:∀b o,b≠X.env.locals->b∉X.fs->b∉ch->s.heap.get? b=some o->H b=none->h'.get? b=some o)
  (slot:∀b o,b≠X.env.locals->b∈X.fs->b∉ch->s.heap.get? b=some o->H b=none->∃sl,h'.get? b=some {o with slots:=sl}) (free:∀b o,b∉ch->s.heap.get? b=some o->H b=none->H' b=none)
  (there:∀b o,b∉ch->s.heap.get? b=some o->∃o',h'.get? b=some o')
  (m5:∀b xs,H b=some (.tup xs)->H' b=some (.tup xs)) (m6:∀b o u,H b=some (.frz o u)->H' b=some (.frz o u)) (m7:∀b ps,H b=some (.tbl ps)->∃m8,H' b=some (.tbl (ps++m8)))
  (ns:∀m,s.heap.Ns X.env.locals m->h'.Ns X.env.locals m) (hok:Xy X.prog X.w H' h') (hg:iD g') :
  Inv X pins σ H' {s with heap:=h',gens:=g',drawn:=d',toks:=t'}:=by
 have m9:∀b o,X.s₀.heap.get? b=some o->b≠X.env.locals:=λb o e=>ar (aF (Zp e) I.ok.above);have neC:∀b o,X.s₀.heap.get? b=some o->b∉X.ex->b∉ch:=λb o e j hb=>by
  rcases (J b hb).1 with z|z
  ·exact j z
  ·exact absurd (aF (Zp e) z) (b9 _)
 have M:∀x c,X.env.cells.lookup x=some c->∀v,s.heap.IsCell c v->h'.IsCell c v:=λx c e v ⟨o,Y,hd⟩=>by
  have O:c∉ch:=λz=>(J c z).2.2.1 x c e rfl;by_cases hc:c∈X.fs
  ·obtain⟨sl,q⟩:=slot c o (I.cne x c e) hc O Y (I.freeC x c e)
   exact⟨_,q,hd⟩
  ·exact⟨o,keep c o (I.cne x c e) hc O Y (I.freeC x c e),hd⟩
 refine⟨I.ok,I.os,hg,⟨λb o e n hb j=>?_,λb o e n hb j=>?_,λb o e n j=>?_,λb o e j=>?_,λb xs e=>m5 b xs (I.base.tups b xs e),λb o xs e=>m6 b o xs (I.base.frzs b o xs e),λb ps e=>?_⟩,?_,λx c e=>?_,?_,λx c e=>?_,λp hp=>?_,hok,I.len⟩
 ·exact keep b o (m9 b o e) hb (neC b o e j) (I.base.keep b o e n hb j) (I.base.free b o e n j)
 ·obtain⟨sl,U⟩:=I.base.slot b o e n hb j
  obtain⟨n6,e2⟩:=slot b _ (m9 b o e) hb (neC b o e j) U (I.base.free b o e n j);exact⟨n6,e2⟩
 ·obtain⟨o',U⟩:=I.base.there b o e j
  exact free b o' (neC b o e j) U (I.base.free b o e n j)
 ·obtain⟨o',U⟩:=I.base.there b o e j
  exact there b o' (neC b o e j) U
 ·obtain⟨m1,U⟩:=I.base.tbls b ps e
  obtain⟨m2,e2⟩:=m7 b _ U;exact⟨m1++m2,by rw[e2,Array.append_assoc]⟩
 ·obtain⟨m,hn,hl⟩:=I.loc
  refine⟨m,ns m hn,λi x v U e2 e3=>?_⟩;obtain⟨u,r,l⟩:=hl i x v U e2 e3;refine⟨u,r,?_⟩;rcases l with l|⟨k,c,e,z⟩
  ·exact .inl l
  ·exact .inr ⟨k,c,e,M x c e _ z⟩
 ·obtain⟨v,z⟩:=I.cell x c e
  exact⟨v,M x c e v z⟩
 ·obtain⟨m,⟨o,_,_,Y,_⟩,_⟩:=I.loc
  exact free _ o (λz=>(J _ z).2.1 rfl) Y I.free
 ·obtain⟨v,o,Y,hd⟩:=I.cell x c e
  exact free c o (λz=>(J c z).2.2.1 x c e rfl) Y (I.freeC x c e)
 ·obtain⟨e,n,ne,nf,d⟩:=I.pin p hp
  have O:p.1∉ch:=λz=>(J p.1 z).2.2.2 p hp rfl;exact⟨keep p.1 p.2 ne nf O e n,free p.1 p.2 O e n,ne,nf,d⟩
theorem Inv.un {t':Nat}(I:Inv X pins σ H s)(u:Un X.fs [] H H' s.heap h')(q:Xy X.prog X.w H' h'):Inv X pins σ H' {s with heap:=h',toks:=t'}:=by
 obtain⟨m,⟨o,es,ep,O,r⟩,_⟩:=id I.loc;obtain⟨sl,U⟩:=u.any O I.free (by simp);exact I.step (g':=s.gens) (d':=s.drawn) (ch:=[]) (λ_ z=>nomatch z) (λb o _ hb _ e n=>u.keep b o e n hb (by simp)) (λb o _ hb _ e n=>u.slot b o e n hb (by simp)) (λb o _ e n=>u.free b o e n (by simp)) (λb o _ e=>u.there b o e (by simp)) u.tups u.frzs u.tbls (λm' Y=>by
  obtain⟨o',J,M,j,r'⟩:=Y;rw[O] at j;cases j;exact⟨_,J,M,U,r'⟩) q I.bare
theorem Inv.call {g':Array GenState}{t':Nat}{d':kS}{ch:TN}(I:Inv X pins σ H s)(u:Un (VW X.stack) ch H H' s.heap h')(M:Xy X.prog X.w H' h')(hg:iD g')
  (q:∀b∈ch,(b∈X.ex\/X.s₀.heap.objs.size<=b)/\b≠X.env.locals/\(∀x c,X.env.cells.lookup x=some c->c≠b)/\∀p∈X.pn++pins,p.1≠b) :
  Inv X pins σ H' {s with heap:=h',gens:=g',drawn:=d',toks:=t'}:=by
 obtain⟨m,⟨o,es,ep,ho,r⟩,_⟩:=id I.loc;obtain⟨sl,O⟩:=u.any ho I.free λz=>(q _ z).2.1 rfl;exact I.step (ch:=ch) q (λb o O hb j e n=>u.keep b o e n (λz=>(aD.mp (I.stkSub b z)).elim O hb) j) (λb o _ _ j e n=>u.any e n j) (λb o j e n=>u.free b o e n j) (λb o j e=>u.there b o e j) u.tups u.frzs u.tbls (λm' hm=>by
  obtain⟨o',U,Y,J,r'⟩:=hm;rw[ho] at J;cases J;exact⟨_,U,Y,O,r'⟩) M hg
theorem Inv.turned {t':Nat}{it:Addr}(I:Inv X pins σ H s)(k:∀b o,b≠it->s.heap.get? b=some o->h'.get? b=some o)(O:H it=none)(M:it≠X.env.locals)
  (U:it∈X.ex\/X.s₀.heap.objs.size<=it) (Y:∀x c,X.env.cells.lookup x=some c->c≠it) (h3:∀p∈X.pn++pins,p.1≠it):Inv X pins σ H {s with heap:=h',toks:=t'}:=by
 have J:∀b u,H b=some u->b≠it:=λb u e z=>by rw[z,O] at e;cases e
 refine I.step (g':=s.gens) (d':=s.drawn) (ch:=[it]) (λb hb=>?_) (λb o _ _ j e _=>k b o (λz=>j (by simp[z])) e) (λb o _ _ j e _=>⟨o.slots,k b o (λz=>j (by simp[z])) e⟩) (λ_ _ _ _ n=>n)
  (λb o j e=>⟨o,k b o (λz=>j (by simp[z])) e⟩) (λ_ _ e=>e) (λ_ _ _ e=>e) (λb ps e=>⟨#[],by rw[e];simp⟩) (λm hm=>?_) (λb u e=>?_) I.bare
 ·have e:b=it:=by simpa using hb
  subst e;exact⟨U,M,Y,h3⟩
 ·obtain⟨o,es,ep,ho,r⟩:=hm
  exact⟨o,es,ep,k _ o (bE M) ho,r⟩
 ·refine (I.hok b u e).stay (λc v j q=>k c v ?_ q) (λ_ q=>q) λ_ _ q=>q
  rcases j with z|z
  ·rw[z];exact J b u e
  ·exact J c _ z
theorem Inv.tok (I:Inv X pins σ H s)(t:Nat):Inv X pins σ H {s with toks:=t}:=I.un (h':=s.heap) (t':=t) Un.refl I.hok
theorem Inv.kept {t':Nat}(I:Inv X pins σ H s)(k:∀b u,s.heap.get? b=some u->h'.get? b=some u):Inv X pins σ H {s with heap:=h',toks:=t'}:=I.un (Un.kept k) (I.hok.kept k)
theorem Inv.laid {a:Addr}{o:HO}{t':Nat}(I:Inv X pins σ H s)(k:∀b u,s.heap.get? b=some u->h'.get? b=some u)(j:s.heap.objs.size<=a)(q:Yk X.prog X.w (upd H a o) h' a o) :
  Inv X pins σ (upd H a o) {s with heap:=h',toks:=t'}:=I.un (Un.laid k j (I.hok.fresh j)) (I.hok.laid k j q)
theorem Inv.write {x e:Addr}{o:HO}{t':Nat}(I:Inv X pins σ H s)(J:Mut (H x))(M:e=x\/H e=some (.own x))(k:∀b u,b≠e->s.heap.get? b=some u->h'.get? b=some u)(j:∃u,h'.get? e=some u)
  (q:Yk X.prog X.w (upd H x o) h' x o):Inv X pins σ (upd H x o) {s with heap:=h',toks:=t'}:=I.un (Un.write J M k j) (I.hok.write J M k j q)
theorem Inv.pins_of {j:List (Addr×Obj)}(I:Inv X pins σ H s)(h:∀p∈j,s.heap.get? p.1=some p.2/\H p.1=none/\p.1≠X.env.locals/\p.1∉X.fs/\∀v,p.2.data≠.cell v):Inv X j σ H s:=
 ⟨I.ok,I.os,I.bare,I.base,I.loc,I.cell,I.free,I.freeC,λp q=>(bu.mp q).elim (λz=>I.pin p (bN _ z)) (h p),I.hok,I.len⟩
theorem ZcO {N:List Str}(q:N.Nodup){i j:Nat}{x:Str}(a:N[i]?=some x)(b:N[j]?=some x):i=j:=by
 obtain⟨O,J⟩:=ac.mp a;obtain⟨U,M⟩:=ac.mp b;exact (List.getElem_inj q).mp (J.trans M.symm)
theorem Zal {M:Model}{A:Around}{E:TU}{i:Nat}{x:Str}{v:V}{u:Value}{Q:Unit->Shared->Prop}(I:Inv X pins σ H s)(hN:X.N.Nodup)(hi:X.N[i]?=some x)(hx:Loc X.env.scope x)(r:RelV v u)
  (h:∀s',Inv X pins (σ.set i (some v)) H s'->(∃a,be a s.heap s'.heap/\(a=X.env.locals\/X.env.cells.lookup x=some a))->Q () s') (hf:X.fn x=true\/X.env.scope.names.lookup x=some .local:=by first|exact .inl rfl|exact .inr rfl|assumption):wpAny M A (storeName X.env x u) Q E s:=by
 obtain⟨m,hn,hl⟩:=id I.loc;have m8:(X.env.scope.kind == .class || (X.env.scope.kind == .module && X.env.locals != X.env.globals))=false:=by rw[I.ok.kind];rfl
 have m6:i < σ.length:=by rw[I.len];exact (ac.mp hi).1
 have cne:=I.cne;have O:∀{a:Addr}{h':Heap},(∃o,s.heap.get? a=some o/\H a=none)->be a s.heap h'->Xy X.prog X.w H h':=λ{a h'} ha J b ob e=>by
  obtain⟨_,_,m5⟩:=ha;refine (I.hok b ob e).stay (λc w' Y q=>(J.2 c ?_).trans q) (λ_ q=>q) λ_ _ q=>q;rintro rfl;rcases Y with rfl|Y
  ·rw[m5] at e;cases e
  ·rw[m5] at Y;cases Y
 rcases hx with hk|hk
 ·refine wpAny_storeName_local hk hn (λh' o0 J=>?_) m8
  obtain⟨oL,_,_,o5,_⟩:=id hn;refine h _ ⟨I.ok,I.os,I.bare,⟨λb o e n hb hx=>?_,λb o e n hb hx=>?_,I.base.free,λb o e hx=>?_,I.base.tups,I.base.frzs,I.base.tbls⟩,⟨_,o0,λj y v' U e2 e3=>?_⟩,λy c e=>?_,I.free,I.freeC,λp hp=>?_,O ⟨oL,o5,I.free⟩ J,by simpa using I.len⟩ ⟨_,J,.inl rfl⟩
  ·exact (J.2 b (ar (aF (Zp e) I.ok.above))).trans (I.base.keep b o e n hb hx)
  ·obtain⟨sl,U⟩:=I.base.slot b o e n hb hx
   exact⟨sl,(J.2 b (ar (aF (Zp e) I.ok.above))).trans U⟩
  ·obtain⟨o',U⟩:=I.base.there b o e hx
   exact⟨o',(J.2 b (ar (aF (Zp e) I.ok.above))).trans U⟩
  ·by_cases hj:j=i
   ·subst hj
    rw[hi] at U;cases U;rw[kG m6] at e2;cases e2;exact⟨u,r,.inl ⟨hk,by simp⟩⟩
   ·rw[fC (bE hj)] at e2
    obtain⟨u',r',q⟩:=hl j y v' U e2 e3;refine⟨u',r',?_⟩;rcases q with ⟨k,e⟩|⟨k,c,e,z⟩
    ·refine .inl ⟨k,?_⟩
     have:y≠x:=λe=>hj (ZcO hN U (e▸hi));simp[this,e]
    ·exact .inr ⟨k,c,e,z.sameBut J (cne y c e)⟩
  ·obtain⟨w',z⟩:=I.cell y c e
   exact⟨w',z.sameBut J (cne y c e)⟩
  ·obtain⟨e,n,ne,nf,d⟩:=I.pin p hp
   exact⟨(J.2 p.1 ne).trans e,n,ne,nf,d⟩
 ·have m7:X.fn x=true:=by
   rcases hf with z|z
   ·exact z
   ·rw[z] at hk;cases hk
  obtain⟨c,Y⟩:=I.ok.has x (.inl hk);obtain⟨w',z⟩:=I.cell x c Y;refine wpAny_storeName_cell I.ok.kind hk Y z (λh' m9 J=>?_);obtain⟨oc,n6,n8⟩:=id z;refine h {s with heap:=h'} ⟨I.ok,I.os,I.bare,⟨λb o e n hb hx=>?_,λb o e n hb hx=>?_,I.base.free,λb o e hx=>?_,I.base.tups,I.base.frzs,I.base.tbls⟩,⟨m,hn.sameBut J (bE (cne x c Y)),λj y v' U e2 e3=>?_⟩,λy c' e=>?_,I.free,I.freeC,λp hp=>?_,O ⟨oc,n6,I.freeC x c Y⟩ J,by simpa using I.len⟩ ⟨c,J,.inr Y⟩
  ·exact (J.2 b (ar (aF (Zp e) (I.ok.cab x c m7 Y)))).trans (I.base.keep b o e n hb hx)
  ·obtain⟨sl,U⟩:=I.base.slot b o e n hb hx
   exact⟨sl,(J.2 b (ar (aF (Zp e) (I.ok.cab x c m7 Y)))).trans U⟩
  ·obtain⟨o',U⟩:=I.base.there b o e hx
   exact⟨o',(J.2 b (ar (aF (Zp e) (I.ok.cab x c m7 Y)))).trans U⟩
  ·by_cases hj:j=i
   ·subst hj
    rw[hi] at U;cases U;rw[kG m6] at e2;cases e2;exact⟨u,r,.inr ⟨.inl hk,c,Y,m9⟩⟩
   ·rw[fC (bE hj)] at e2
    obtain⟨u',r',q⟩:=hl j y v' U e2 e3;refine⟨u',r',?_⟩;rcases q with q|⟨k,c',e,z'⟩
    ·exact .inl q
    ·refine .inr ⟨k,c',e,z'.sameBut J ?_⟩
     rintro rfl;exact hj (ZcO hN U (I.ok.inj _ _ _ e Y▸hi))
  ·by_cases n9:c'=c
   ·subst n9;exact⟨_,m9⟩
   ·obtain⟨w2,z2⟩:=I.cell y c' e
    exact⟨w2,z2.sameBut J n9⟩
  ·obtain⟨e,n,ne,nf,d⟩:=I.pin p hp
   refine⟨(J.2 p.1 ?_).trans e,n,ne,nf,d⟩;intro q;rw[q,n6] at e;have q':oc=p.2:=ax e;exact d w' (by rw[<-q'];exact n8)
theorem Wx {M:Model}{A:Around}{E:TU}{i:Nat}{x:Str}{v:V}{u:Value}{Q:Unit->Shared->Prop}(I:Inv X pins σ H s)(j:X.N.Nodup)(q:X.N[i]?=some x)(J:Loc X.env.scope x)(r:RelV v u)
  (h:∀s',Inv X pins (σ.set i (some v)) H s'->Q () s') (O:X.fn x=true\/X.env.scope.names.lookup x=some .local:=by first|exact .inl rfl|exact .inr rfl|assumption):wpAny M A (storeName X.env x u) Q E s:=
 Zal I j q J r (λs' U _=>h s' U) O
theorem Inv.call' {s':Shared}{ch:TN}(I:Inv X pins σ H s)(U:s'.os=s.os)(u:Un (VW X.stack) ch H H' s.heap s'.heap)(j:Xy X.prog X.w H' s'.heap)(Y:iD s'.gens)
  (q:∀b∈ch,(b∈X.ex\/X.s₀.heap.objs.size<=b)/\b≠X.env.locals/\(∀x c,X.env.cells.lookup x=some c->c≠b)/\∀p∈X.pn++pins,p.1≠b):Inv X pins σ H' s':=by
 obtain⟨h',J,M,O,o'⟩:=s';have e:o'=s.os:=U;subst e;exact I.call (g':=J) (t':=O) (d':=M) u j Y q
end
noncomputable abbrev XK:=Value->Option Addr->Hp->Prop
noncomputable abbrev St:=List TK
noncomputable abbrev VK:=V->Hp->Prop
noncomputable abbrev TE:=St->Hp->VK->Prop
noncomputable abbrev TT:=St->Hp->(Bool->Hp->Prop)->Prop
noncomputable abbrev TA:=St->Hp->(TL->Hp->Prop)->Prop
structure WO where
 nx:St->Hp->Prop
 rt:VK
 bk:St->Hp->Prop:=λ_ _=>False
 ct:St->Hp->Prop:=λ_ _=>False
noncomputable abbrev TS:=WO->St->Hp->Prop
def EP (X:Cx)(j:List (Addr×Obj))(J:St)(Q:VK)(u:Value)(s':Shared):Prop:=∃v q,Inv X j J q s'/\RelV v u/\Q v q
def TP (X:Cx)(j:List (Addr×Obj))(J:St)(Q:Bool->Hp->Prop)(b:Bool)(s':Shared):Prop:=∃q,Inv X j J q s'/\Q b q
def AP (X:Cx)(j:List (Addr×Obj))(M:St)(Q:TL->Hp->Prop)(O:List Value)(s':Shared):Prop:=∃q J,Inv X j M J s'/\ZO q O/\Q q J
def SP (X:Cx)(q:List (Addr×Obj))(D:WO)(f:Flow)(s':Shared):Prop:=
 match f with
 | .next=>∃ j J,Inv X q j J s'/\D.nx j J
 | .brk=>∃ j J,Inv X q j J s'/\D.bk j J
 | .cont=>∃ j J,Inv X q j J s'/\D.ct j J
 | .ret u=>∃v j J,Inv X q j J s'/\RelV v u/\D.rt v J
def PE (X:Cx)(e:Expr)(t:TE):Prop:=
 ∀(j:List (Addr×Obj)) (s:Shared) (q:St) (H:Hp) (Q:VK),Inv X j q H s->t q H Q->wpAny (model X.prog X.w) X.A (eval e X.env) (EP X j q Q) X.xe s
def PT (X:Cx)(e:Expr)(t:TT):Prop:=
 ∀(j:List (Addr×Obj)) (s:Shared) (q:St) (H:Hp) (Q:Bool->Hp->Prop),Inv X j q H s->t q H Q->wpAny (model X.prog X.w) X.A (isTrue e X.env (eval e X.env)) (TP X j q Q) X.xe s
def PW (X:Cx)(e:Expr)(t:TT):Prop:=
 ∀(q:Sem Value) (j:List (Addr×Obj)) (s:Shared) (J:St) (H:Hp) (Q:Bool->Hp->Prop),Inv X j J H s->t J H Q->wpAny (model X.prog X.w) X.A (isTrue e X.env q) (TP X j J Q) X.xe s
theorem PW.pt {X:Cx}{e:Expr}{t:TT}(h:PW X e t):PT X e t:=h _
def PA (X:Cx)(J:List Expr)(t:TA):Prop:=
 ∀(pos:Pos) (j:List (Addr×Obj)) (s:Shared) (q:St) (H:Hp) (Q:TL->Hp->Prop),Inv X j q H s->t q H Q->wpAny (model X.prog X.w) X.A (spliced (backTo pos (starEach J X.env))) (AP X j q Q) X.xe s
def PS (X:Cx)(st:Stmt)(t:TS):Prop:=
 ∀(j:List (Addr×Obj)) (s:Shared) (q:St) (H:Hp) (D:WO),Inv X j q H s->t D q H->wpAny (model X.prog X.w) X.A (exec st X.env) (SP X j D) X.xe s
def PSs (X:Cx)(st:List Stmt)(t:TS):Prop:=
 ∀(j:List (Addr×Obj)) (s:Shared) (q:St) (H:Hp) (D:WO),Inv X j q H s->t D q H->wpAny (model X.prog X.w) X.A (execs st X.env) (SP X j D) X.xe s
theorem Yh {α:Type}{t:Sem α}{Q j:α->Shared->Prop}{M:Model}{A:Around}{E:TU}{s:Shared}(h:wpAny M A t Q E s)(q:∀a s,Q a s->j a s):wpAny M A t j E s:=cm h q λ_ _ x=>x
section
variable {X:Cx}
inductive ZlV (i:Nat) (σ:L2.St) (H:Hp) (Q:VK):Prop
 |mk (v:_):(σ[i]?=some (some v))->(Q v H)->ZlV i σ H Q
def tC (v:V):TE:=λ_ H Q=>Q v H
theorem Zmg {i:Nat}{x:Str}{pos:Pos}(hN:X.N[i]?=some x)(hv:Vis X.env.scope x)(O:(x == ("__debug__":Str))=false:=by decide)(U:(x == ("__classdict__":Str))=false:=by decide):PE X (.Name x pos) (ZlV i):=by
 intro M s σ H Q I h;obtain⟨v,e,h⟩:=h;obtain⟨m,hn,hl⟩:=I.loc;obtain⟨u,r,l⟩:=hl i x v hN e hv;have q:EP X M σ Q u s:=⟨v,H,I,r,h⟩;rcases l with ⟨J,hm⟩|⟨J,c,Y,j⟩
 ·exact wpAny_Name (wpAny_loadName_local I.ok.kind J hn hm q) O
 ·rcases J with J|J
  ·exact wpAny_Name (wpAny_loadName_cell I.ok.kind J Y j q) O
  ·exact wpAny_Name (wpAny_loadName_free I.ok.kind J Y j q U) O
theorem Zv {i j pos}:PE X (.Constant (.int i) j pos) (tC (.int i)):=λ_ _ _ H _ I h=>wpAny_Constant_int ⟨.int i,H,I.tok _,⟨_,rfl⟩,h⟩
theorem Jk {b j pos}:PE X (.Constant (.bool b) j pos) (tC (.bl b)):=λ_ _ _ H _ I h=>Constant_bool ⟨.bl b,H,I,rfl,h⟩
theorem ZhJ {j pos}:PE X (.Constant .none j pos) (tC .non):=λ_ _ _ H _ I h=>Constant_none ⟨.non,H,I,rfl,h⟩
theorem WD {x j pos}:PE X (.Constant (.str x) j pos) (tC (.str x)):=λ_ _ _ H _ I h=>Calls.Constant_str ⟨.str x,H,I.tok _,⟨_,rfl⟩,h⟩
def Gl (X:Cx)(x:Str):Prop:=X.env.kindOf x=some .globalImplicit
theorem Zkq {E:TU}{j:List (Addr×Obj)}{s:Shared}{σ:St}{H:Hp}{x:Str}{u:Value}{pos:Pos}{Q:TU}(I:Inv X j σ H s)(q:Gl X x)(J:X.mg x=some u)(h:Q u s)
  (M:(x == ("__debug__":Str))=false:=by decide):wpAny (model X.prog X.w) X.A (eval (.Name x pos) X.env) Q E s:=
 jO I.ok.kind q (Calls.loadGlobal_global (by rw[I.ok.glob];exact I.mod.glob.keeps I.bk) J h) M
theorem Je {E:TU}{j:List (Addr×Obj)}{s:Shared}{σ:St}{H:Hp}{x:Str}{u:Value}{pos:Pos}{Q:TU}(I:Inv X j σ H s)(q:Gl X x)(J:X.mg x=none)(M:bootBuiltins x=some u)(h:Q u s)
  (O:x ≠ "__name__":=by decide) (U:(x == ("__debug__":Str))=false:=by decide):wpAny (model X.prog X.w) X.A (eval (.Name x pos) X.env) Q E s:=by
 obtain⟨mb,Y,h2⟩:=I.mod.blt;exact jO I.ok.kind q (Calls.loadGlobal_builtin (by rw[I.ok.glob];exact I.mod.glob.keeps I.bk) J (by rw[I.ok.blt];exact Y.keeps I.bk) ((h2 x O).trans M) h) U
theorem ZjV {x:Str}{v:V}{u:Value}{pos:Pos}(j:Gl X x)(q:X.mg x=none)(J:bootBuiltins x=some u)(r:RelV v u)(M:x ≠ "__name__":=by decide)(O:(x == ("__debug__":Str))=false:=by decide):PE X (.Name x pos) (tC v):=
 λ_ _ _ H _ I h=>Je I j q J ⟨v,H,I,r,h⟩ M O
variable {a b:Expr}{ta tb:TE}{pos:Pos}
def PC (X:Cx)(op:CmpOp)(a b:Expr)(t:TE):Prop:=
 ∀(j:List (Addr×Obj)) (s:Shared) (M:St) (H:Hp) (Q:VK),Inv X j M H s->t M H Q->
  wpAny (model X.prog X.w) X.A (eval a X.env) (λv q=>wpAny (model X.prog X.w) X.A (eval b X.env) (λu J=>wpAny (model X.prog X.w) X.A (compareOp op v u) (EP X j M Q) X.xe J) X.xe q) X.xe s
inductive iBl (Q:Bool->Hp->Prop) (x:V) (H:Hp):Prop
 |mk (c:Bool):x=.bl c->Q c H->iBl Q x H
def tB (t:TE):TT:=λj H Q=>t j H (iBl Q)
theorem ZhI {op:CmpOp}{t:TE}(h:PC X op a b t)(M:behindInMarks op b=false:=by first|exact j _ (by decide) (by decide)|rfl):PT X (.Compare a [op] [b] pos) (tB t):=by
 intro J s O H Q I U;refine mM (Yh (h J s O H _ I U) λv s1 M=>Yh M λu s2 Y=>Yh Y λc s3 ⟨x,H1,I1,r1,q1⟩=>?_) M;obtain⟨d,rfl,q⟩:=q1;cases r1;exact cQ ⟨H1,I1,q⟩
theorem JM {e:Expr}{t:TE}(h:PE X e t)(M:∀j,isTrue e X.env j=(do let v <-j;standAt e.pos;holding [v] (truthy v)):=by intro _;rfl):PT X e (tB t):=by
 intro J s O H Q I U;refine isTrue_plain (Yh (h J s O H _ I U) λv s1 ⟨x,Y,I1,r1,q1⟩=>?_) (M _);obtain⟨d,rfl,q⟩:=q1;cases r1;exact cQ ⟨Y,I1,q⟩
variable {tA tB':TT}{rest:List Expr}
def ZpC (t u:TT):TT:=λj H Q=>t j H λc q=>if c=true then u j q Q else Q false q
def tOr (t u:TT):TT:=λj H Q=>t j H λc q=>if c=true then Q true q else u j q Q
def Zpx (t:TT):TT:=λj H Q=>t j H λc q=>Q (!c) q
theorem ZjK (q:PT X a tA):PW X (.BoolOp .And [a] pos) tA:=by
 intro M j s J H Q I h;refine isTrue_and (Yh (q j s J H Q I h) λc O e=>?_);cases c with
 |true=>exact isTrue_and_nil e
 |false=>exact e
theorem Uj (q:PT X a tA):PW X (.BoolOp .Or [a] pos) tA:=by
 intro M j s J H Q I h;refine isTrue_or (Yh (q j s J H Q I h) λc O e=>?_);cases c with
 |false=>exact isTrue_or_nil e
 |true=>exact e
theorem Zmb (U:PT X a tA)(hb:PW X (.BoolOp .And (b::rest) pos) tB'):PW X (.BoolOp .And (a::b::rest) pos) (ZpC tA tB'):=by
 intro Y j s q H Q I h;refine isTrue_and (Yh (U j s q H _ I h) λc s1 ⟨J,M,O⟩=>?_);cases c with
 |true=>exact hb Y j s1 q J Q M O
 |false=>exact⟨J,M,O⟩
theorem Uk (U:PT X a tA)(hb:PW X (.BoolOp .Or (b::rest) pos) tB'):PW X (.BoolOp .Or (a::b::rest) pos) (tOr tA tB'):=by
 intro Y j s q H Q I h;refine isTrue_or (Yh (U j s q H _ I h) λc s1 ⟨J,M,O⟩=>?_);cases c with
 |true=>exact⟨J,M,O⟩
 |false=>exact hb Y j s1 q J Q M O
theorem Zbr (q:PT X a tA):PT X (.UnaryOp .Not a pos) (Zpx tA):=by
 intro j s J H Q I h;exact isTrue_not (q j s J H (λc M=>Q (!c) M) I h)
def ZnQ (ta tb:TE):TE:=λj H Q=>ta j H λx q=>∃c,x=.bl c/\if c=true then tb j q Q else Q (.bl false) q
def ZnI (ta:TE):TE:=λj H Q=>ta j H λx q=>∃c,x=.bl c/\Q (.bl (!c)) q
theorem Ur {op}{t:TE}(h:PE X a t):PE X (.BoolOp op [a] pos) t:=λj s q H Q I J=>BoolOp_one (h j s q H Q I J)
theorem Xm (U:PE X a ta)(hb:PE X (.BoolOp .And (b::rest) pos) tb):PE X (.BoolOp .And (a::b::rest) pos) (ZnQ ta tb):=by
 intro j s J H Q I h;refine BoolOp_and (Yh (U j s J H _ I h) λv Y ⟨x,M,O,r1,q⟩=>?_);obtain⟨c,rfl,q⟩:=q;cases r1;refine cQ ?_;cases c with
 |true=>exact hb j Y J M Q O q
 |false=>exact⟨.bl false,M,O,rfl,q⟩
theorem Zmi (J:PE X a ta):PE X (.UnaryOp .Not a pos) (ZnI ta):=by
 intro j s M H Q I h;refine UnaryOp_ (Yh (J j s M H _ I h) λv Y ⟨x,O,U,r1,q⟩=>?_);obtain⟨c,rfl,q⟩:=q;cases r1;exact not_of (cQ ⟨.bl (!c),O,U,rfl,q⟩)
def tIf (t:TT)(ta tb:TE):TE:=λj H Q=>t j H λc q=>if c=true then ta j q Q else tb j q Q
theorem ZcG {c:Expr}(Y:PT X c tA)(ha:PE X a ta)(hb:PE X b tb):PE X (.IfExp c a b pos) (tIf tA ta tb):=by
 intro j s q H Q I h;refine wpAny_IfExp (Yh (Y j s q H _ I h) λd J ⟨M,O,U⟩=>?_);cases d with
 |true=>exact ha j J q M Q O U
 |false=>exact hb j J q M Q O U
end
def Wp (K:aa)(H:Hp)(a:Addr)(xs:TL):Prop:=
 Rd H a (.lst xs)\/
  ∃(o:Obj) (j:Array Value) (n:Nat),K.lookup a=some o/\o.cls=.type "list"/\o.dict=none/\o.data=.seq j n/\j.size<=sizeLine/\ZO xs j.toList
def Xw (K:aa)(H:Hp)(a:Addr)(xs:TL):Prop:=
 Rd H a (.tup xs)\/
  ∃(o:Obj) (j:Array Value) (n:Nat),K.lookup a=some o/\o.cls=.type "tuple"/\o.data=.seq j n/\j.size<=sizeLine/\ZO xs j.toList
def Zp7:Value->TK
 | .none=>some .non
 | .bool b=>some (.bl b)
 | .int i _=>some (.int i)
 | .str x _=>some (.str x)
 | .bytes b _=>some (.byt b)
 | .float b _=>some (.flt b)
 | .ref a=>some (.ref a)
 | .type n=>some (.ty n)
 |_=>none
theorem RelV.abs {x:V}{u:Value}(r:RelV x u):Zp7 u=some x:=by
 cases x with
 |non=>cases r;rfl
 |bl _=>cases r;rfl
 |int _=>obtain⟨t,rfl⟩:=r;rfl
 |str _=>obtain⟨t,rfl⟩:=r;rfl
 |byt _=>obtain⟨t,rfl⟩:=r;rfl
 |flt _=>obtain⟨t,rfl⟩:=r;rfl
 |ref _=>cases r;rfl
 |ty _=>cases r;rfl
theorem RelV.inj {x y:V}{u:Value}(r:RelV x u)(q:RelV y u):x=y:=ax (r.abs.symm.trans q.abs)
theorem ZO.inj:∀{xs ys:TL}{us:List Value},ZO xs us->ZO ys us->xs=ys
 |_,_,_,.nil,.nil=>rfl
 |_,_,_,.cons r t,.cons j q=>by rw[r.inj j,ZO.inj t q]
section
variable {X:Cx}{pins:List (Addr×Obj)}{σ:St}{H:Hp}{s:Shared}{a:Addr}{xs ys:TL}
theorem Wp.of {K:aa}(h:H a=some (.lst xs)):Wp K H a xs:=.inl (.inl h)
theorem Xw.of {K:aa}(h:H a=some (.tup xs)):Xw K H a xs:=.inl (.inl h)
theorem Inv.list (I:Inv X pins σ H s)(h:Wp X.K H a xs):∃j:List Value,ZO xs j/\PlainL s.heap a j.toArray/\xs.length<=sizeLine:=by
 rcases h with h|⟨o,j,n,q,J,hd,M,O,r⟩
 ·obtain⟨z,j,n,r,e⟩:=h.ok I.hok
  exact⟨j,r,⟨_,n,e,rfl,rfl,rfl⟩,z⟩
 ·refine⟨j.toList,r,⟨o,n,I.kIn a o q,J,hd,by simpa using M⟩,?_⟩
  have e:=r.length;simp only[Zr] at e;omega
theorem Inv.tuple (I:Inv X pins σ H s)(h:Xw X.K H a xs):∃j:List Value,ZO xs j/\lf s.heap a j.toArray/\xs.length<=sizeLine:=by
 rcases h with h|⟨o,j,n,q,J,M,O,r⟩
 ·obtain⟨z,j,r,p⟩:=h.ok I.hok
  exact⟨j,r,p,z⟩
 ·refine⟨j.toList,r,⟨o,I.kIn a o q,J,n,by simpa using M⟩,?_⟩
  have e:=r.length;simp only[Zr] at e;omega
theorem Inv.list_inj (I:Inv X pins σ H s)(h:Wp X.K H a xs)(h':Wp X.K H a ys):xs=ys:=by
 obtain⟨q,r,⟨o,n,e,_,_,d⟩,_⟩:=I.list h;obtain⟨j,O,⟨U,Y,J,_,_,M⟩,_⟩:=I.list h';rw[e] at J;cases J;rw[d] at M;injection M with d1 _;have:q=j:=by simpa using congrArg Array.toList d1
 subst this;exact r.inj O
theorem Inv.tuple_inj (I:Inv X pins σ H s)(h:Xw X.K H a xs)(h':Xw X.K H a ys):xs=ys:=by
 obtain⟨q,r,⟨o,e,_,n,d⟩,_⟩:=I.tuple h;obtain⟨j,O,⟨U,J,_,Y,M⟩,_⟩:=I.tuple h';rw[e] at J;cases J;rw[d] at M;injection M with d1 _;have:q=j:=by simpa using congrArg Array.toList d1
 subst this;exact r.inj O
end
noncomputable abbrev Cx.wish (X:Cx)(E:TU):Cx:={X with xe:=E}
noncomputable abbrev Cx.nox (X:Cx):Cx:=X.wish λ_ _=>False
theorem Cx.Ok.wish {X:Cx}(ok:X.Ok)(E:TU):(X.wish E).Ok:=
 ⟨ok.mod,ok.kind,ok.glob,ok.blt,ok.above,ok.inj,ok.has,ok.cab,ok.hd,ok.frames,ok.stk,ok.exf,ok.bs,ok.bsz,ok.noex,ok.exfs,ok.funs,ok.frf⟩
theorem Cx.Ok.unwish {X:Cx}{E:TU}(ok:(X.wish E).Ok):X.Ok:=
 ⟨ok.mod,ok.kind,ok.glob,ok.blt,ok.above,ok.inj,ok.has,ok.cab,ok.hd,ok.frames,ok.stk,ok.exf,ok.bs,ok.bsz,ok.noex,ok.exfs,ok.funs,ok.frf⟩
section
variable {X:Cx}{pins:List (Addr×Obj)}{σ:St}{H:Hp}{s:Shared}{E:TU}
theorem Inv.wish (I:Inv X pins σ H s)(E:TU):Inv (X.wish E) pins σ H s:=⟨I.ok.wish E,I.os,I.bare,I.base,I.loc,I.cell,I.free,I.freeC,I.pin,I.hok,I.len⟩
theorem Inv.unwish (I:Inv (X.wish E) pins σ H s):Inv X pins σ H s:=⟨I.ok.unwish,I.os,I.bare,I.base,I.loc,I.cell,I.free,I.freeC,I.pin,I.hok,I.len⟩
theorem SP.unwish {D:WO}{f:Flow}{s':Shared}(h:SP (X.wish E) pins D f s'):SP X pins D f s':=by
 cases f with
 |next=>obtain⟨j,J,I,q⟩:=h;exact⟨j,J,I.unwish,q⟩
 |brk=>obtain⟨j,J,I,q⟩:=h;exact⟨j,J,I.unwish,q⟩
 |cont=>obtain⟨j,J,I,q⟩:=h;exact⟨j,J,I.unwish,q⟩
 |ret u=>obtain⟨v,j,J,I,r,q⟩:=h;exact⟨v,j,J,I.unwish,r,q⟩
theorem PSs.nox {st:List Stmt}{t:TS}(h:PSs X.nox st t):PSs X st t:=λpins s σ H D I j=>
 cm (h pins s σ H D (I.wish _) j) (λ_ _ q=>q.unwish) λ_ _ z=>dR z
end
section
variable {X:Cx}{st:Stmt}{rest:List Stmt}{t u:TS}{e:Expr}{te:TE}{pos:Pos}
def ZnK:TS:=λD j H=>D.nx j H
noncomputable def WO.sq (D:WO)(n:St->Hp->Prop):WO:={D with nx:=n}
def WO.lp (D:WO)(n:St->Hp->Prop):WO:={D with nx:=n,ct:=n,bk:=D.nx}
def ZlW (t u:TS):TS:=λD j H=>t (D.sq (u D)) j H
theorem ZT:PSs X [] ZnK:=λ_ _ j H _ I h=>iJ ⟨j,H,I,h⟩
theorem Zt (M:PS X st t)(O:PSs X rest u):PSs X (st::rest) (ZlW t u):=by
 intro j s U H D I h;refine wpAny_execs_cons (Yh (M j s U H (D.sq (u D)) I h) λf Y q=>?_);cases f with
 |next=>
  obtain⟨J,H',I',q⟩:=q;exact O j Y J H' D I' q
 |ret v=>exact q
 |brk=>exact q
 |cont=>exact q
theorem Zx (J:PS X st t):PSs X [st] t:=by
 intro j s M H D I h;refine wpAny_execs_cons (Yh (J j s M H D I h) λf O q=>?_);cases f with
 |next=>exact iJ q
 |ret v=>exact q
 |brk=>exact q
 |cont=>exact q
theorem Inv.quiet {j:List (Addr×Obj)}{σ:St}{H:Hp}{s:Shared}(I:Inv X j σ H s):interactive X.env=false:=by simp[interactive,I.ok.kind]
def ZnL (te:TE):TS:=λD j H=>te j H λ_ q=>D.nx j q
theorem Yq (J:PE X e te)(M:swapsWith e none pos.line X.env=pure false:=by rfl):PS X (.Expr e pos) (ZnL te):=by
 intro j s q H D I h;exact wpAny_Expr_any (Yh (J j s q H _ I h) λv s1 ⟨x,O,U,r1,Y⟩=>⟨q,O,U,Y⟩) I.quiet M
def Zpw (te:TE):TS:=λD j H=>te j H D.rt
theorem ZE (q:PE X e te):PS X (.Return (some e) pos) (Zpw te):=by
 intro j s σ H D I h;exact wpAny_Return_some (Yh (q j s σ H _ I h) λv U ⟨x,J,M,r1,O⟩=>⟨x,σ,J,M,r1,O⟩)
def Zpz (c:TT)(t u:TS):TS:=λD j H=>c j H λb q=>if b=true then t D j q else u D j q
theorem Yx {c:Expr}{a b:List Stmt}{J:TT}(hc:PT X c J)(ha:PSs X a t)(hb:PSs X b u):PS X (.If c a b pos) (Zpz J t u):=by
 intro j s q H D I h;refine wpAny_If (Yh (hc j s q H _ I h) λd M ⟨O,U,Y⟩=>?_);cases d with
 |true=>exact ha j M q O D U Y
 |false=>exact hb j M q O D U Y
def ZlX:TS:=λ_ _ _=>False
theorem ZfB {j:List Stmt}:PSs X j ZlX:=λ_ _ _ _ _ _ h=>h.elim
end
noncomputable abbrev TG:=V->St->Hp->(St->Hp->Prop)->Prop
noncomputable abbrev TGs:=TL->St->Hp->(St->Hp->Prop)->Prop
def PG (X:Cx)(j:Expr)(t:TG):Prop:=
 ∀(q:List (Addr×Obj)) (s:Shared) (M:St) (H:Hp) (v:V) (u:Value) (Q:St->Hp->Prop),Inv X q M H s->RelV v u->t v M H Q->
  wpAny (model X.prog X.w) X.A (assign j X.env u) (λ_ U=>∃ J O,Inv X q J O U/\Q J O) X.xe s
def PGs (X:Cx)(ts:List Expr)(t:TGs):Prop:=
 ∀(j:List (Addr×Obj)) (s:Shared) (J:St) (H:Hp) (M:TL) (O:List Value) (Q:St->Hp->Prop),Inv X j J H s->ZO M O->t M J H Q->
  wpAny (model X.prog X.w) X.A (assignInOrder ((assignEach ts X.env).map (·.2)) O) (λ_ Y=>∃ q U,Inv X j q U Y/\Q q U) X.xe s
noncomputable abbrev Zi6:=V->V->V->Hp->(Hp->Prop)->Prop
def Znj (X:Cx)(t:Zi6):Prop:=
 ∀(j:List (Addr×Obj)) (s:Shared) (q:St) (H:Hp) (o i v:V) (J M u:Value) (Q:Hp->Prop),Inv X j q H s->RelV o J->RelV i M->RelV v u->t o i v H Q->
  wpAny (model X.prog X.w) X.A (setItem J M u) (λ_ U=>∃O,Inv X j q O U/\Q O) X.xe s
noncomputable abbrev TIp:=V->V->Hp->VK->Prop
def PIp (X:Cx)(op:kO)(t:TIp):Prop:=
 ∀(j:List (Addr×Obj)) (s:Shared) (q:St) (H:Hp) (x y:V) (v u:Value) (Q:VK),Inv X j q H s->RelV x v->RelV y u->t x y H Q->
  wpAny (model X.prog X.w) X.A (inplaceOp op v u) (EP X j q Q) X.xe s
section
variable {X:Cx}{pos:Pos}
def Yc (i:Nat):TG:=λv j H Q=>Q (j.set i (some v)) H
theorem ZeQ {i:Nat}{x:Str}(q:X.N.Nodup)(J:X.N[i]?=some x)(M:Loc X.env.scope x)(O:X.fn x=true\/X.env.scope.names.lookup x=some .local:=by first|exact .inl rfl|exact .inr rfl|assumption):PG X (.Name x pos) (Yc i):=by
 intro j s Y H v u Q I r h;exact wpAny_assign_Name (Wx I q J M r (λs' U=>⟨_,H,U,h⟩) O)
inductive Zf3 (vs:TL) (σ:L2.St) (H:Hp) (Q:(L2.St->Hp->Prop)):Prop
 |mk:(vs=[])->(Q σ H)->Zf3 vs σ H Q
inductive JD (t:TG) (u:TGs) (vs:TL) (σ:L2.St) (H:Hp) (Q:(L2.St->Hp->Prop)):Prop
 |mk (v:_) (r:_):(vs=v::r)->(t v σ H λσ' H'=>u r σ' H' Q)->JD t u vs σ H Q
theorem XS:PGs X [] Zf3:=by
 intro j s q H J M Q I r h;obtain⟨e,h⟩:=h;subst e;cases r;exact assignInOrder_nil ⟨q,H,I,h⟩
theorem YJ {e:Expr}{q:List Expr}{t:TG}{u:TGs}(M:PG X e t)(O:PGs X q u)
  (U:(assignEach (e::q) X.env).map (·.2)=assign e X.env::(assignEach q X.env).map (·.2):=by rfl):PGs X (e::q) (JD t u):=by
 intro j s Y H vs us Q I r h;obtain⟨v,vr,e1,h⟩:=h;subst e1;cases r with
 |cons r rr=>
  rw[U];refine jw (Yh (M j s Y H _ _ _ I r h) λ_ s1 ⟨J,H1,I1,q1⟩=>?_);exact O j s1 J H1 _ _ Q I1 rr q1
inductive Zf2 (K:aa) (n:Nat) (t:TGs) (v:V) (σ:L2.St) (H:Hp) (Q:(L2.St->Hp->Prop)):Prop
 |mk (a:_) (xs:_):(v=.ref a)->(Xw K H a xs)->(xs.length=n)->(t xs σ H Q)->Zf2 K n t v σ H Q
theorem Zbu {q:List Expr}{k:Nat}{t:TGs}{n:Nat}(Y:X.calm=true)(h:PGs X q t)
  (hn:(assignEach q X.env).length=n:=by rfl) (J:(assignEach q X.env).findIdx? (·.1)=none:=by rfl):PG X (.Tuple q k pos) (Zf2 X.K n t):=by
 intro j s O H v u Q I r M;obtain⟨a,xs,e1,hq,hl,M⟩:=M;subst e1;cases r;obtain⟨m5,U,ht,hz⟩:=I.tuple hq;refine assign_Tuple_tuple (I.ok.hd Y) ht (by simp[hn,<-hl,U.length]) J λh' hx=>?_;have I1:Inv X j O H {s with heap:=h'}:=I.kept (t':=s.toks) λb o e=>hx b o (ar (Zp e)) e;exact h j _ O H xs _ Q I1 (by simpa using U) M
def ZpV (q J:TE)(t:Zi6):TG:=λv j H Q=>q j H λo M=>J j M λi O=>t o i v O λU=>Q j U
theorem Jt {o i:Expr}{to M:TE}{t:Zi6}(O:PE X o to)(U:PE X i M)(Y:Znj X t)
  (ha:∀v,assign (.Subscript o i pos) X.env v=(do
   let q <-holding [v] (eval o X.env)
   let iv <-holding [v,q] (eval i X.env)
   standAt pos
   holding [v,q,iv] (setItem q iv v)
   release [v,q,iv] []):=by intro _;rfl):PG X (.Subscript o i pos) (ZpV to M t):=by
 intro j s J H v u Q I r h;rw[ha];refine Zl (bZ (Yh (O j s J H _ I h) λq s1 ⟨x,H1,I1,r1,q1⟩=>?_));refine Zl (bZ (Yh (U j s1 J H1 _ I1 q1) λiv s2 ⟨y,H2,I2,r2,q2⟩=>?_));refine Zl (ie (Zl (bZ (Yh (Y j s2 J H2 x y v q iv u _ I2 r1 r2 r q2) λ_ s3 ⟨H3,I3,q3⟩=>?_))));exact wpAny_release ⟨J,H3,I3,q3⟩
def ZdA (q:TE)(g:TG):TS:=λD j H=>q j H λx J=>g x j J D.nx
theorem Js {J e:Expr}{M:TE}{g:TG}(U:PE X e M)(Y:PG X J g)(hs:swapsWithSole [J] e pos.line X.env=pure false:=by rfl)(hw:swappedStores [J] e X.env=pure none:=by rfl)
  (h1:(assignEach [J] X.env).map (·.2)=[assign J X.env]:=by rfl):PS X (.Assign [J] e pos) (ZdA M g):=by
 intro j s O H D I h;refine wpAny_Assign_stores (Yh (U j s O H _ I h) λv s1 ⟨x,H1,I1,r1,q1⟩=>?_) hs hw;rw[h1];exact Yh (Y j s1 O H1 x v _ I1 r1 q1) λ_ s2 q=>q
theorem Zmd {i:Nat}{x:Str}{e:Expr}{J:TE}{j:Pos}(M:X.N.Nodup)(O:X.N[i]?=some x)(U:Loc X.env.scope x)(Y:PE X e J)(hs:swapsWith e (some (.Name x j)) pos.line X.env=pure false:=by rfl)(hf:X.fn x=true\/X.env.scope.names.lookup x=some .local:=by first|exact .inl rfl|exact .inr rfl|assumption) :
  PS X (.Assign [.Name x j] e pos) (ZdA J (Yc i)):=by
 intro q s σ H D I h;refine wpAny_Assign_Name (Yh (Y q s σ H _ I h) λv s1 ⟨y,H1,I1,r1,q1⟩=>?_) hs;exact Wx I1 M O U r1 (λs2 I2=>⟨_,H1,I2,q1⟩) hf
def ZnG (i j:Nat)(J:TA):TS:=λD q H=>J q H λM O=>∃v w,M=[v,w]/\D.nx ((q.set i (some v)).set j (some w)) O
theorem Zme {i j:Nat}{x y:Str}{a b:Expr}{ta:TA}{px py pt:Pos}{kt k2 O}(hc:X.calm=true)(hN:X.N.Nodup)(hi:X.N[i]?=some x)(hj:X.N[j]?=some y)(m5:i≠j)
  (hx:X.env.scope.names.lookup x=some .local) (hy:X.env.scope.names.lookup y=some .local) (ha:PA X [a,b] ta)
  (hw:swappedStores [.Tuple [.Name x px,.Name y py] kt pt] (.Tuple [a,b] k2 O) X.env=pure (some [x,y]))
  (hs:swapsWithSole [.Tuple [.Name x px,.Name y py] kt pt] (.Tuple [a,b] k2 O) pos.line X.env=pure false:=by rfl) :
  PS X (.Assign [.Tuple [.Name x px,.Name y py] kt pt] (.Tuple [a,b] k2 O) pos) (ZnG i j ta):=by
 intro M s σ H D I h;rw[exec_Assign_arm];refine Zl (ie ?_);rw[hs];refine Zl (Zm ?_);rw[if_neg (by decide)];refine Zl (Tuple_ (Yh (ha _ M s σ H _ I h) λus s1 ⟨vs,H1,I1,r1,q1⟩=>?_));obtain⟨v,w,e1,q1⟩:=q1;subst e1;obtain⟨U,Y,rfl,rv,m6⟩:∃U Y,us=[U,Y]/\RelV v U/\RelV w Y:=by
  cases r1 with
  |cons p q=>
   cases q with
   |cons p' q'=>
    cases q';exact⟨_,_,rfl,p,p'⟩
 refine bA ?_ (by show 2<=sizeLine;decide);have I2:Inv X M σ H1 {s1 with heap:=s1.heap.push {cls:=.type "tuple",data:=.seq [U,Y].toArray}}:=I1.kept (t':=s1.toks) λb o e=>Zn _ e;rw[hw];refine Zl (Zm ?_);show wpAny (model X.prog X.w) X.A (do rule "assign.swapped-stores";let J <-unpackItems (.ref s1.heap.objs.size) 2 none;assignInOrder [λv=>bindName X.env y v,λv=>bindName X.env x v] J.reverse;pure Flow.next) _ _ _
 refine Zl (fe (Zl (unpackItems_tuple (items:=#[U,Y]) (I.ok.hd hc) (ki s1.heap _) λh' m7=>?_)));have I3:=I2.kept (h':=h') (t':=s1.toks) λb o e=>m7 b o (ar (Zp e)) e;show wpAny _ _ (assignInOrder [λv=>bindName X.env y v,λv=>bindName X.env x v] [Y,U] >>= λ_=>pure Flow.next) _ _ _;refine Zl (jw (wpAny_bindName (Wx I3 hN hj (.inl hy) m6 (λs2 I4=>?_) (.inr hy))));refine jw (wpAny_bindName (Wx I4 hN hi (.inl hx) rv (λs3 I5=>assignInOrder_nil (Zm ?_)) (.inr hx)));rw[List.set_comm _ _ (bE m5)] at I5;exact⟨_,H1,I5,q1⟩
inductive ZnP (i:Nat) (te:TE) (ti:TIp) (D:WO) (σ:L2.St) (H:Hp):Prop
 |mk (x:_):(σ[i]?=some (some x))->(te σ H λy H1=>ti x y H1 λz H2=>D.nx (σ.set i (some z)) H2)->ZnP i te ti D σ H
theorem JN {i:Nat}{x:Str}{e:Expr}{te:TE}{op:kO}{ti:TIp}{M:Pos}(hN:X.N.Nodup)(hi:X.N[i]?=some x)(Y:Loc X.env.scope x)(he:PE X e te)(ho:PIp X op ti)(hf:X.fn x=true\/X.env.scope.names.lookup x=some .local:=by first|exact .inl rfl|exact .inr rfl|assumption) :
  PS X (.AugAssign (.Name x M) op e pos) (ZnP i te ti):=by
 intro j s σ H D I h;obtain⟨v,e1,h⟩:=h;obtain⟨m,hn,hl⟩:=I.loc;have m5:Vis X.env.scope x:=by rcases Y with k|k;exact .inl k;exact .inr (.inl k)
 obtain⟨u,r,l⟩:=hl i x v hi e1 m5;refine wpAny_AugAssign_Name ?_;have go:wpAny (model X.prog X.w) X.A (eval e X.env) (λw O=>wpAny (model X.prog X.w) X.A (inplaceOp op u w) (λr U=>wpAny (model X.prog X.w) X.A (storeName X.env x r) (λ_=>SP X j D .next) X.xe U) X.xe O) X.xe s:=by
  refine Yh (he j s σ H _ I h) λw s1 ⟨y,H1,I1,r1,q1⟩=>?_;refine Yh (ho j s1 σ H1 v y u w _ I1 r r1 q1) λz s2 ⟨zv,H2,I2,r2,q2⟩=>?_;exact Wx I2 hN hi Y r2 (λs3 I3=>⟨_,H2,I3,q2⟩) hf
 rcases l with ⟨q,hm⟩|⟨q,c,hc,J⟩
 ·exact wpAny_loadName_local I.ok.kind q hn hm go
 ·rcases q with q|q
  ·exact wpAny_loadName_cell I.ok.kind q hc J go
  ·rcases Y with k|k
   ·have:X.env.scope.names.lookup x=some .free:=q
    rw[k] at this;cases this
   ·have:X.env.scope.names.lookup x=some .free:=q
    rw[k] at this;cases this
def ZnO (O U Y:TE)(j:V->V->Hp->VK->Prop)(M:TIp)(q:Zi6):TS:=λD J H=>O J H λo H1=>U J H1 λi H2=>j o i H2 λx H3=>Y J H3 λy H4=>M x y H4 λz H5=>q o i z H5 λH6=>D.nx J H6
def Znk (X:Cx)(t:V->V->Hp->VK->Prop):Prop:=
 ∀(j:List (Addr×Obj)) (s:Shared) (q:St) (H:Hp) (o i:V) (J M:Value) (Q:VK),Inv X j q H s->RelV o J->RelV i M->t o i H Q->
  wpAny (model X.prog X.w) X.A (getItem J M) (EP X j q Q) X.xe s
theorem VP {o i e:Expr}{to ti te:TE}{J:V->V->Hp->VK->Prop}{Y:TIp}{M:Zi6}{op:kO}{m5:Pos}(ho:PE X o to)(hi:PE X i ti)(hg:Znk X J)(he:PE X e te)(hp:PIp X op Y)(hs:Znj X M)
  (ha:∀O iv q,augStore i O iv q=(do holding [q,O,iv] (setItem O iv q);release [q,O,iv] [];pure .next):=by intros;rfl):PS X (.AugAssign (.Subscript o i m5) op e pos) (ZnO to ti te J Y M):=by
 intro j s U H D I h;refine wpAny_AugAssign_SubscriptAny (Yh (ho j s U H _ I h) λO s1 ⟨x1,H1,I1,r1,q1⟩=>?_) ha;refine Yh (hi j s1 U H1 _ I1 q1) λiv s2 ⟨x2,H2,I2,r2,q2⟩=>?_;refine Yh (hg j s2 U H2 x1 x2 O iv _ I2 r1 r2 q2) λm6 s3 ⟨x3,H3,I3,r3,q3⟩=>?_;refine Yh (he j s3 U H3 _ I3 q3) λv s4 ⟨x4,H4,I4,r4,q4⟩=>?_;refine Yh (hp j s4 U H4 x3 x4 m6 v _ I4 r3 r4 q4) λq s5 ⟨x5,H5,I5,r5,q5⟩=>?_;exact Yh (hs j s5 U H5 x1 x2 x5 O iv q _ I5 r1 r2 r5 q5) λ_ s6 ⟨H6,I6,q6⟩=>⟨U,H6,I6,q6⟩
inductive ipI (f:Int->Int->Int) (x:V) (y:V) (H:Hp) (Q:VK):Prop
 |mk (i:_) (j:_):(x=.int i)->(y=.int j)->(Q (.int (f i j)) H)->ipI f x y H Q
theorem Jg:PIp X .Add (ipI λi j=>i+j):=by
 intro J s σ H x y v u Q I M O h;obtain⟨i,j,U,Y,q⟩:=h;subst U;subst Y;obtain⟨t,rfl⟩:=M;obtain⟨t',rfl⟩:=O;exact iadd_int ⟨.int _,H,I.tok _,⟨_,rfl⟩,q⟩
theorem Zio:PIp X .Sub (ipI λi j=>i-j):=by
 intro J s σ H x y v u Q I M O h;obtain⟨i,j,U,Y,q⟩:=h;subst U;subst Y;obtain⟨t,rfl⟩:=M;obtain⟨t',rfl⟩:=O;exact isub_int ⟨.int _,H,I.tok _,⟨_,rfl⟩,q⟩
end
section
variable {X:Cx}{pos:Pos}
def ZgK (c:TT)(tb:TS):TS:=λD j H=>∃W:Nat->St->Hp->Prop,(∃m,W m j H)/\∀m j H,W m j H->
 c j H λb J=>if b=true then ∃N:St->Hp->Prop,(∀ q M,N q M->∃O,O<m/\W O q M)/\tb (D.lp N) j J else D.nx j J
theorem Yv {c:Expr}{body:List Stmt}{tc:TT}{tb:TS}(hp:PassesOwn (model X.prog X.w) X.A X.env X.xe)(hc:PT X c tc)(hb:PSs X body tb):PS X (.While c body [] pos) (ZgK tc tb):=by
 intro j s σ H D I h;obtain⟨W,⟨m0,w0⟩,turn⟩:=h;refine wpAny_While (codeAny_whileLoop (λn s'=>∃ M H',Inv X j M H' s'/\W n M H') ?_ m0 ⟨σ,H,I,w0⟩);rintro n s1 ⟨J,H1,I1,w1⟩;refine dQ hp (Yh (hc j s1 J H1 _ I1 (turn n J H1 w1)) λb s2 ⟨H2,I2,U⟩=>?_);cases b with
 |true=>
  obtain⟨N,hN,U⟩:=U;rw[if_pos rfl];refine dQ hp (Yh (hb j s2 J H2 _ I2 U) λf s3 Y=>?_);cases f with
  |next=>
   obtain⟨q,O,I3,n3⟩:=Y;obtain⟨m',hm,w3⟩:=hN q O n3;exact⟨m',hm,q,O,I3,w3⟩
  |cont=>
   obtain⟨q,O,I3,n3⟩:=Y;obtain⟨m',hm,w3⟩:=hN q O n3;exact⟨m',hm,q,O,I3,w3⟩
  |brk=>exact Y
  |ret v=>exact Y
 |false=>
  rw[if_neg aH];exact iJ ⟨J,H2,I2,U⟩
end
structure It where
 go:Nat->Hp->Prop
 yld:Nat->Hp->V->Hp->Prop
 stop:Nat->Hp->Prop
def Zad (X:Cx)(j:List (Addr×Obj))(H:Hp)(b:Addr):Prop:=
 H b=none/\b≠X.env.locals/\b∉X.fs/\(b∈X.ex\/X.s₀.heap.objs.size<=b)/\(∀x c,X.env.cells.lookup x=some c->c≠b)/\∀p∈X.pn++j,p.1≠b
theorem Inv.fpOk {X:Cx}{j:List (Addr×Obj)}{σ:St}{H J:Hp}{s:Shared}{b:Addr}(I:Inv X j σ H s)(hb:s.heap.objs.size<=b)(M:J b=none):Zad X j J b:=by
 refine⟨M,bj (aF I.lt hb),I.nofs hb,.inr (aW I.sz hb),λx c e z=>?_,λp O z=>?_⟩
 ·obtain⟨v,q⟩:=I.cell x c e
  exact absurd (aF q.lt (by rw[z];exact hb)) (b9 _)
 ·exact absurd (aF (Zp (I.pin p O).1) (by rw[z];exact hb)) (b9 _)
structure Zac (P:Program)(w:World)(K:aa)(tg:Expr)(J:It)(fp:TN)(it:Addr)(tn:Nat->Heap->Prop):Prop where
 mem:it∈fp
 obj:∀i h,tn i h->∀b∈fp,∃o,h.get? b=some o/\∀v,o.data≠.cell v
 keep:∀i h h',tn i h->(∀b∈fp,∀o,h.get? b=some o->h'.get? b=some o)->tn i h'
 item:∀(X:Cx),X.prog=P->X.w=w->X.K=K->X.calm=true->∀(i:Nat) (pins:List (Addr×Obj)) (s:Shared) (σ:St) (H:Hp) (E:TU),Inv X pins σ H s->(∀b∈fp,Zad X pins H b)->tn i s.heap->J.go i H->
  wpAny (model P w) X.A (pyNext (.ref it)) (λr s1=>∃u,r=some u/\
   wpAny (model P w) X.A (letOwnedTupleGo tg (.ref it) u) (λ_ s2=>∃x H',Inv X pins σ H' s2/\RelV x u/\J.yld i H x H'/\tn (i+1) s2.heap/\∀b∈fp,H' b=none) E s1) E s
 done:∀(X:Cx),X.prog=P->X.w=w->X.K=K->X.calm=true->∀(i:Nat) (pins:List (Addr×Obj)) (s:Shared) (σ:St) (H:Hp) (E:TU),Inv X pins σ H s->(∀b∈fp,Zad X pins H b)->tn i s.heap->J.stop i H->
  wpAny (model P w) X.A (pyNext (.ref it)) (λr s1=>r=none/\Inv X pins σ H s1) E s
 self:∀(A:Around) (i:Nat) (s:Shared) (Q:TU) (E:TU),tn i s.heap->Q (.ref it) s->wpAny (model P w) A (pyIter (.ref it)) Q E s
noncomputable abbrev TI:=St->Hp->(It->Hp->Prop)->Prop
def PIE (X:Cx)(j:List (Addr×Obj))(σ:St)(tg:Expr)(R:It->Hp->Prop)(q:Value)(O:Shared):Prop:=
 ∃(it:Addr) (U:TN) (Y:Nat->Heap->Prop) (J:It) (M:Hp),q=.ref it/\Inv X j σ M O/\Zac X.prog X.w X.K tg J U it Y/\Y 0 O.heap/\(∀b∈U,Zad X j M b)/\R J M
def PI (X:Cx)(M q:Expr)(O:TI):Prop:=
 ∀(j:List (Addr×Obj)) (s:Shared) (J:St) (H:Hp) (R:It->Hp->Prop),Inv X j J H s->O J H R->
  wpAny (model X.prog X.w) X.A (eval q X.env) (λv U=>wpAny (model X.prog X.w) X.A (pyIter v) (PIE X j J M R) X.xe U) X.xe s
theorem Zc5 {M:Model}{A:Around}{E:TU}{s:Shared}{q:Expr}{it:Addr}{u:Value}{o:Obj}{n:String}{vs:Array Value}{Q:Unit->Shared->Prop}(J:s.heap.get? it=some o)(O:o.cls=.type n)(hd:o.data=.fields vs)
    (U:["enumerate", "zip", "dict_itemiterator", "dict_reverseitemiterator", "odict_iterator", "itertools.zip_longest", "itertools.pairwise"].contains n=false) (j:Q () s):wpAny M A (letOwnedTupleGo q (.ref it) u) Q E s:=by
  unfold letOwnedTupleGo;cases q <;> first
    |exact Zm j
    |(cases u <;> first
        |exact Zm j
        | (refine Zl (iB J ?_)
           rw[O,hd];show wpAny M A (if (["enumerate", "zip", "dict_itemiterator", "dict_reverseitemiterator", "odict_iterator", "itertools.zip_longest", "itertools.pairwise"].contains n && vs[0]? == some (rawInt _))=true then _ else _) Q E s
           rw[if_neg (by intro h;rw[U,jZ] at h;cases h)];exact Zm j))
def Itl (K:aa)(a:Addr):It:=
 ⟨λi H=>∃j x,Wp K H a j/\j[i]?=some x,λi H x q=>q=H/\∀j,Wp K H a j->j[i]?=some x,λi H=>∃j,Wp K H a j/\j.length<=i⟩
def Itt (K:aa)(a:Addr):It:=
 ⟨λi H=>∃j x,Xw K H a j/\j[i]?=some x,λi H x q=>q=H/\∀j,Xw K H a j->j[i]?=some x,λi H=>∃j,Xw K H a j/\j.length<=i⟩
def Itr (lo:Int)(n:Nat):It:=⟨λi _=>i<n,λi H x j=>j=H/\x=.int (lo+i),λi _=>n<=i⟩
theorem Zft {P:Program}{w:World}{K:aa}{tg:Expr}(a it:Addr):Zac P w K tg (Itl K a) [it] it (λi h=>h.IsListIter it a i) where
 mem:=by simp
 obj:=λi h st b hb=>by
  have e:b=it:=by simpa using hb
  subst e;obtain⟨o,e,c,d⟩:=st;exact⟨o,e,λv z=>by rw[d] at z;cases z⟩
 keep:=λi h J st k=>st.at λo e=>k it (by simp) o e
 item:=by
  intro X U Y hK hc i j s σ H E I M st hg;subst U Y hK;obtain⟨xs,x,O,hx⟩:=hg;obtain⟨m5,rv,p,hz⟩:=I.list O;obtain⟨u,hu,ru⟩:=rv.get hx;obtain⟨f0,f1,f2,f3,f4,f5⟩:=M it (by simp);refine wpAny_pyNext_list_item st p.isList (x:=u) (by simpa using hu) λJ q sb=>?_;have I1:Inv X j σ H {s with heap:=J}:=I.turned (t':=s.toks) (λb o hb e=>(sb.2 b hb).trans e) f0 f1 f3 f4 f5;obtain⟨o,e,c,d⟩:=id q;exact⟨u,rfl,Zc5 (s:={s with heap:=J}) e c d (by decide) ⟨x,H,I1,ru,⟨rfl,λys hy=>by rw[I.list_inj hy O];exact hx⟩,q,λb hb=>(M b hb).1⟩⟩
 done:=by
  intro X U Y hK hc i j s σ H E I M st hg;subst U Y hK;obtain⟨xs,O,hx⟩:=hg;obtain⟨m5,rv,p,hz⟩:=I.list O;obtain⟨f0,f1,f2,f3,f4,f5⟩:=M it (by simp);have hl:=rv.length;exact wpAny_pyNext_list_end (I.ok.hd hc) st p.isList (by simp;omega) λJ eb=>⟨rfl,I.turned (t':=s.toks) (λb o hb e=>eb b o hb e) f0 f1 f3 f4 f5⟩
 self:=λ_ _ _ _ _ st h=>wpAny_pyIter_listiter st h
theorem Zdw {P:Program}{w:World}{K:aa}{tg:Expr}(a it:Addr):Zac P w K tg (Itt K a) [it] it (λi h=>h.IsTupleIter it a i) where
 mem:=by simp
 obj:=λi h st b hb=>by
  have e:b=it:=by simpa using hb
  subst e;obtain⟨o,e,c,d⟩:=st;exact⟨o,e,λv z=>by rw[d] at z;cases z⟩
 keep:=λi h M st k=>st.at λo e=>k it (by simp) o e
 item:=by
  intro X Y hw hK hc i j s σ H E I O st hg;subst Y hw hK;obtain⟨xs,x,U,hx⟩:=hg;obtain⟨q,rv,p,hz⟩:=I.tuple U;obtain⟨u,hu,ru⟩:=rv.get hx;obtain⟨f0,f1,f2,f3,f4,f5⟩:=O it (by simp);refine wpAny_pyNext_tuple_item st (show s.heap.IsTuple a q.toArray from p) (x:=u) (by simpa using hu) λM J sb=>?_;have I1:Inv X j σ H {s with heap:=M}:=I.turned (t':=s.toks) (λb o hb e=>(sb.2 b hb).trans e) f0 f1 f3 f4 f5;obtain⟨o,e,c,d⟩:=id J;exact⟨u,rfl,Zc5 (s:={s with heap:=M}) e c d (by decide) ⟨x,H,I1,ru,⟨rfl,λys hy=>by rw[I.tuple_inj hy U];exact hx⟩,J,λb hb=>(O b hb).1⟩⟩
 done:=by
  intro X Y hw hK hc i j s σ H E I O st hg;subst Y hw hK;obtain⟨xs,U,hx⟩:=hg;obtain⟨q,rv,p,hz⟩:=I.tuple U;obtain⟨f0,f1,f2,f3,f4,f5⟩:=O it (by simp);have hl:=rv.length;exact wpAny_pyNext_tuple_end (I.ok.hd hc) st (show s.heap.IsTuple a q.toArray from p) (by simp;omega) λM eb=>⟨rfl,I.turned (t':=s.toks) (λb o hb e=>eb b o hb e) f0 f1 f3 f4 f5⟩
 self:=λ_ _ _ _ _ st h=>wpAny_pyIter_tupleiter st h
theorem Zdx {P:Program}{w:World}{K:aa}{tg:Expr}(it:Addr)(lo:Int)(n:Nat):Zac P w K tg (Itr lo n) [it] it (λi h=>hG h it (lo+(i:Nat)*1) ((n:Int)-(i:Nat)) 1) where
 mem:=by simp
 obj:=λi h st b hb=>by
  have e:b=it:=by simpa using hb
  subst e;exact⟨_,st,λv z=>by
   have z':gw _=fS v:=z;cases z'⟩
 keep:=λi h J st k=>k it (by simp) _ st
 item:=by
  intro X O U Y hc i j s σ H E I M st hg;subst O U Y;obtain⟨f0,f1,f2,f3,f4,f5⟩:=M it (by simp);have W:=kK (prog:=X.prog) (w:=X.w) (I.ok.hd hc) it lo 1 n;refine W.item i s _ _ hg st λv J tk hv q kk=>?_;obtain⟨t,rfl⟩:=hv;have I1:Inv X j σ H {s with heap:=J,toks:=tk}:=I.turned (λb o hb e=>kk b o (by simpa using hb) e) f0 f1 f3 f4 f5;refine⟨_,rfl,Zc5 (s:={s with heap:=J,toks:=tk}) (n:="range_iterator") q rfl rfl (by decide) ⟨.int (lo+i),H,I1,⟨t,?_⟩,⟨rfl,rfl⟩,q,λb hb=>(M b hb).1⟩⟩;rw[iG]
 done:=by
  intro X O U Y hc i j s σ H E I M st hg;subst O U Y;obtain⟨f0,f1,f2,f3,f4,f5⟩:=M it (by simp);exact iz (I.ok.hd hc) st (by have:n<=i:=hg;omega) λJ eb=>⟨rfl,I.turned (t':=s.toks) (λb o hb e=>eb b o hb e) f0 f1 f3 f4 f5⟩
 self:=λ_ _ _ _ _ st h=>iA st h
section
variable {X:Cx}{tg:Expr}
inductive iLi (K:aa) (R:It->Hp->Prop) (x:V) (H:Hp):Prop
 |mk (a:Addr):x=.ref a->(∃xs,Wp K H a xs)->R (Itl K a) H->iLi K R x H
def Zlq (K:aa)(j:TE):TI:=λq H R=>j q H (iLi K R)
inductive iTi (K:aa) (R:It->Hp->Prop) (x:V) (H:Hp):Prop
 |mk (a:Addr):x=.ref a->(∃xs,Xw K H a xs)->R (Itt K a) H->iTi K R x H
def Zom (K:aa)(j:TE):TI:=λq H R=>j q H (iTi K R)
theorem ZjP {l:Expr}{O:TE}(U:PE X l O):PI X tg l (Zlq X.K O):=by
 intro j s Y H R I h;refine Yh (U j s Y H _ I h) λv J ⟨x,H1,M,r1,q1⟩=>?_;obtain⟨a,e,⟨xs,hq⟩,q⟩:=q1;subst e;cases r1;obtain⟨m5,rv,p,hz⟩:=M.list hq;refine ft p.isList ?_;refine⟨J.heap.objs.size,[J.heap.objs.size],_,_,H1,rfl,M.kept (t':=J.toks) λb o e=>Zn _ e,Zft a _,⟨_,Zo _ rfl,rfl,rfl⟩,λb hb=>?_,q⟩;have e:b=J.heap.objs.size:=by simpa using hb
 subst e;exact M.fpOk (Zq _) (M.hok.fresh (Zq _))
theorem Zmf {l:Expr}{U:TE}(Y:PE X l U):PI X tg l (Zom X.K U):=by
 intro j s σ H R I h;refine Yh (Y j s σ H _ I h) λv J ⟨x,H1,M,r1,q1⟩=>?_;obtain⟨a,e,⟨xs,hq⟩,q⟩:=q1;subst e;cases r1;obtain⟨O,rv,p,hz⟩:=M.tuple hq;refine gJ (show J.heap.IsTuple a O.toArray from p) ?_;refine⟨J.heap.objs.size,[J.heap.objs.size],_,_,H1,rfl,M.kept (t':=J.toks) λb o e=>Zn _ e,Zdw a _,⟨_,Zo _ rfl,rfl,rfl⟩,λb hb=>?_,q⟩;have e:b=J.heap.objs.size:=by simpa using hb
 subst e;exact M.fpOk (Zq _) (M.hok.fresh (Zq _))
theorem ZcA {J:List (Addr×Obj)}{σ:St}{H:Hp}{s:Shared}{R:It->Hp->Prop}{E:TU}{lo j:Int}{t u v:Tok}{tk:Nat}(I:Inv X J σ H s)(O:-(2 ^ 62)<=lo)(U:lo<2 ^ 62)(Y:-(2 ^ 62)<=j)(h4:j<2 ^ 62)
  (q:R (Itr lo (j-lo).toNat) H):wpAny (model X.prog X.w) X.A (pyIter (.ref s.heap.objs.size)) (PIE X J σ tg R) E {s with heap:=s.heap.push {cls:=.type "range",data:=.fields #[.int lo t,.int j u,.int 1 v]},toks:=tk}:=by
 refine jq (kw ..) (small_one O U Y h4) ?_;have M:Inv X J σ H {s with heap:=s.heap.push {cls:=.type "range",data:=.fields #[.int lo t,.int j u,.int 1 v]},toks:=tk}:=I.kept λb o e=>Zn _ e;refine⟨(s.heap.push {cls:=.type "range",data:=.fields #[.int lo t,.int j u,.int 1 v]}).objs.size,[(s.heap.push {cls:=.type "range",data:=.fields #[.int lo t,.int j u,.int 1 v]}).objs.size],_,_,H,rfl,
  M.kept (t':=tk) λb o e=>Zn _ e,Zdx _ lo (j-lo).toNat,?_,λb hb=>?_,q⟩
 ·have e1:lo+((0:Nat):Int)*1=lo:=by simp
  have e2:(((j-lo).toNat:Nat):Int)-((0:Nat):Int)=a9 lo j 1:=by rw[lQ];split <;> omega
  show hG _ _ (lo+((0:Nat):Int)*1) ((((j-lo).toNat:Nat):Int)-((0:Nat):Int)) 1;rw[e1,e2];exact Zo _ rfl
 ·have e:b=(s.heap.push {cls:=.type "range",data:=.fields #[.int lo t,.int j u,.int 1 v]}).objs.size:=by simpa using hb
  subst e;exact M.fpOk (Zq _) (M.hok.fresh (Zq _))
inductive iR1 (R:It->Hp->Prop) (vs:TL) (H1:Hp):Prop
 |mk (j:Int):vs=[.int j]->-(2 ^ 62)<=j->j<2 ^ 62->R (Itr 0 j.toNat) H1->iR1 R vs H1
def Zlp (j:TA):TI:=λq H R=>j q H (iR1 R)
inductive iR2 (R:It->Hp->Prop) (vs:TL) (H1:Hp):Prop
 |mk (i j:Int):vs=[.int i,.int j]->(-(2 ^ 62)<=i/\i<2 ^ 62/\-(2 ^ 62)<=j/\j<2 ^ 62)->R (Itr i (j-i).toNat) H1->iR2 R vs H1
def Zlo (j:TA):TI:=λq H R=>j q H (iR2 R)
theorem ZfE {a:Expr}{O:TA}{p pos:Pos}(U:Gl X "range")(Y:X.mg "range"=none)(ha:PA X [a] O)(hs:starEach [a] X.env=[(false,eval a X.env)]:=by rfl):PI X tg (.Call (.Name "range" p) [a] [] pos) (Zlp O):=by
 intro J s σ H R I h;refine Call_ (Je I U Y kW (bg (Yh (ha pos J s σ H _ I h) λus s1 ⟨vs,H1,I1,r1,M⟩=>?_) hs rfl));obtain⟨j,e,M,q2,q⟩:=M;subst e;cases r1 with
 |cons r rr=>
  cases rr;obtain⟨t,rfl⟩:=r;exact call_range_1 (ZcA I1 (by omega) (by omega) M q2 (by simpa using q))
theorem ZfD {a b:Expr}{Y:TA}{p pos:Pos}(hg:Gl X "range")(hm:X.mg "range"=none)(ha:PA X [a,b] Y)(hs:starEach [a,b] X.env=[(false,eval a X.env),(false,eval b X.env)]:=by rfl)(J:starEach [b] X.env=[(false,eval b X.env)]:=by rfl) :
  PI X tg (.Call (.Name "range" p) [a,b] [] pos) (Zlo Y):=by
 intro M s σ H R I h;refine Call_ (Je I hg hm kW (bg (Yh (ha pos M s σ H _ I h) λus s1 ⟨vs,H1,I1,r1,O⟩=>?_) (by rw[hs,J]) (by rw[J];rfl)));obtain⟨i,j,e,⟨O,q2,q3,q4⟩,q⟩:=O;subst e;cases r1 with
 |cons r U=>
  cases U with
  |cons r' U=>
   cases U;obtain⟨t,rfl⟩:=r;obtain⟨t',rfl⟩:=r';exact call_range_2 (ZcA I1 O q2 q3 q4 q)
def ZpA (Y:TI)(g:TG)(tb:TS):TS:=λD j H=>Y j H λJ H1=>∃W:Nat->Nat->St->Hp->Prop,(∃m,W 0 m j H1)/\∀i m j H,W i m j H->
 (J.stop i H/\D.nx j H)\/(J.go i H/\∃N:St->Hp->Prop,(∀ q M,N q M->∃U,U<m/\W (i+1) U q M)/\∀x M,J.yld i H x M->g x j M λO H2=>tb (D.lp N) O H2)
def Uo (j:TN)(h:Heap):List (Addr×Obj):=j.filterMap λb=>(h.get? b).map λo=>(b,o)
theorem Jx {j:TN}{h:Heap}{b:Addr}{o:Obj}(hb:b∈j)(e:h.get? b=some o):(b,o)∈Uo j h:=iR.mpr ⟨b,hb,by rw[e];rfl⟩
theorem ZfP {j:TN}{h:Heap}{p:Addr×Obj}(J:p∈Uo j h):p.1∈j/\h.get? p.1=some p.2:=by
 obtain⟨b,hb,e⟩:=iR.mp J;cases q:h.get? b with
 |none=>rw[q] at e;cases e
 |some o=>
  rw[q] at e;have M:(b,o)=p:=ax e;subst M;exact⟨hb,q⟩
theorem Inv.pinned {j:List (Addr×Obj)}{σ:St}{H:Hp}{s:Shared}{q:TN}(I:Inv X j σ H s)(M:∀b∈q,Zad X j H b)(O:∀b∈q,∃o,s.heap.get? b=some o/\∀v,o.data≠.cell v):Inv X (j++Uo q s.heap) σ H s:=
 I.pins_of λp U=>(bu.mp U).elim (λz=>I.pin p (aT _ z)) λz=>by
  obtain⟨hb,e⟩:=ZfP z;obtain⟨Y,f1,f2,_⟩:=M p.1 hb;obtain⟨o,J,d⟩:=O p.1 hb;rw[e] at J;cases J;exact⟨e,Y,f1,f2,d⟩
theorem Inv.unpinned {j pl:List (Addr×Obj)}{σ:St}{H:Hp}{s:Shared}(I:Inv X (j++pl) σ H s):Inv X j σ H s:=I.pins_of λp q=>I.pin p (aT _ (bN _ q))
theorem ZV {iter:Expr}{body:List Stmt}{wi:TI}{g:TG}{tb:TS}{pos:Pos}(hp:PassesOwn (model X.prog X.w) X.A X.env X.xe)(hc:X.calm=true)(hi:PI X tg iter wi)(hg:PG X tg g)(hb:PSs X body tb)
  (hs:∀x,foldedSetIterable iter X.env x=pure x:=by intro _;rfl):PS X (.For tg iter body [] pos) (ZpA wi g tb):=by
 intro j s σ H D I h;refine wpAny_For (Yh (hi j s σ H _ I h) λv s1 h1=>Yh h1 λn9 s2 h2=>?_) hs;obtain⟨it,fp,tn,J,H2,e,I2,T,m8,f2,W,⟨m0,w0⟩,turn⟩:=h2;subst e;have M:∀{H':Hp},(∀b∈fp,H' b=none)->∀b∈fp,Zad X j H' b:=λhn b hb=>⟨hn b hb,(f2 b hb).2⟩;refine codeAny_forLoop_any (λn s'=>∃i O H',Inv X j O H' s'/\tn i s'.heap/\(∀b∈fp,H' b=none)/\W i n O H') ?_ m0 ⟨0,σ,H2,I2,m8,λb hb=>(f2 b hb).1,w0⟩;rintro n s3 ⟨i,U,H3,I3,m6,m7,w3⟩;rcases turn i n U H3 w3 with ⟨stop,qn⟩|⟨go,N,hN,step⟩
 ·refine dQ hp (Yh (T.done X rfl rfl rfl hc i j s3 U H3 X.xe I3 (M m7) m6 stop) λr s4 ⟨hr,I4⟩=>?_)
  subst hr;exact iJ ⟨U,H3,I4,qn⟩
 ·refine dQ hp (Yh (T.item X rfl rfl rfl hc i j s3 U H3 X.xe I3 (M m7) m6 go) λr s4 ⟨u,hr,h4⟩=>?_)
  subst hr;refine dQ hp (Yh h4 λ_ s5 ⟨x,H5,I5,r5,y5,m5,m9⟩=>?_);have n6:=I5.pinned (M m9) (T.obj _ _ m5);refine dQ hp (Yh (hg _ s5 U H5 x u _ n6 r5 (step x H5 y5)) λ_ s6 ⟨n8,H6,I6,q6⟩=>?_);refine dQ hp (Yh (hb _ s6 n8 H6 _ I6 q6) λf s7 q7=>?_);have again:∀{q:St}{Y:Hp},Inv X (j++Uo fp s5.heap) q Y s7->N q Y->∃m,m<n/\∃i O H',Inv X j O H' s7/\tn i s7.heap/\(∀b∈fp,H' b=none)/\W i m O H':=λ{q Y} I7 n7=>by
   obtain⟨m',hm,w7⟩:=hN q Y n7;refine⟨m',hm,i+1,q,Y,I7.unpinned,T.keep _ _ _ m5 λb hb o e=>(I7.pin (b,o) (aT _ (aT _ (Jx hb e)))).1,λb hb=>?_,w7⟩;obtain⟨o,e,d⟩:=T.obj _ _ m5 b hb;exact (I7.pin (b,o) (aT _ (aT _ (Jx hb e)))).2.1
  cases f with
  |next=>obtain⟨q,Y,I7,n7⟩:=q7;exact again I7 n7
  |cont=>obtain⟨q,Y,I7,n7⟩:=q7;exact again I7 n7
  |brk=>obtain⟨q,Y,I7,q7⟩:=q7;exact⟨q,Y,I7.unpinned,q7⟩
  |ret v=>obtain⟨x7,q,Y,I7,r7,q7⟩:=q7;exact⟨x7,q,Y,I7.unpinned,r7,q7⟩
end
theorem Ziz {K:aa}{a:Addr}{xs:TL}{g:TG}{tb:TS}{D:WO}{σ:St}{H:Hp}(Pv:Nat->St->Hp->Prop)(h0:Pv 0 σ H)(hl:∀i σ H,i<=xs.length->Pv i σ H->Wp K H a xs)
  (hs:∀i x σ H,xs[i]?=some x->Pv i σ H->g x σ H λj U=>tb (D.lp (Pv (i+1))) j U) (hd:∀ σ H,Pv xs.length σ H->D.nx σ H) :
  ∃W:Nat->Nat->St->Hp->Prop,(∃m,W 0 m σ H)/\∀i m σ H,W i m σ H->
   ((Itl K a).stop i H/\D.nx σ H)\/((Itl K a).go i H/\∃N:St->Hp->Prop,(∀ J M,N J M->∃Y,Y<m/\W (i+1) Y J M)/\∀x M,(Itl K a).yld i H x M->g x σ M λj U=>tb (D.lp N) j U):=by
 refine⟨λi m σ H=>m=xs.length-i/\i<=xs.length/\Pv i σ H,⟨xs.length,by simp,aU _,h0⟩,?_⟩;rintro i m σ H ⟨rfl,hi,p⟩;have q:=hl i σ H hi p;by_cases O:i<xs.length
 ·refine .inr ⟨⟨xs,xs[i],q,by simp[O]⟩,Pv (i+1),λJ M p'=>⟨xs.length-(i+1),by omega,rfl,O,p'⟩,λx M y=>?_⟩
  obtain⟨e,y⟩:=y;subst e;exact hs i x σ _ (y xs q) p
 ·have e:i=xs.length:=by omega
  subst e;exact .inl ⟨⟨xs,q,Zq _⟩,hd σ H p⟩
theorem Ze9 {K:aa}{a:Addr}{xs:TL}{g:TG}{tb:TS}{D:WO}{σ:St}{H:Hp}(Pv:Nat->St->Hp->Prop)(h0:Pv 0 σ H)(hl:∀i σ H,i<=xs.length->Pv i σ H->Xw K H a xs)
  (hs:∀i x σ H,xs[i]?=some x->Pv i σ H->g x σ H λj U=>tb (D.lp (Pv (i+1))) j U) (hd:∀ σ H,Pv xs.length σ H->D.nx σ H) :
  ∃W:Nat->Nat->St->Hp->Prop,(∃m,W 0 m σ H)/\∀i m σ H,W i m σ H->
   ((Itt K a).stop i H/\D.nx σ H)\/((Itt K a).go i H/\∃N:St->Hp->Prop,(∀ J M,N J M->∃Y,Y<m/\W (i+1) Y J M)/\∀x M,(Itt K a).yld i H x M->g x σ M λj U=>tb (D.lp N) j U):=by
 refine⟨λi m σ H=>m=xs.length-i/\i<=xs.length/\Pv i σ H,⟨xs.length,by simp,aU _,h0⟩,?_⟩;rintro i m σ H ⟨rfl,hi,p⟩;have q:=hl i σ H hi p;by_cases O:i<xs.length
 ·refine .inr ⟨⟨xs,xs[i],q,by simp[O]⟩,Pv (i+1),λJ M p'=>⟨xs.length-(i+1),by omega,rfl,O,p'⟩,λx M y=>?_⟩
  obtain⟨e,y⟩:=y;subst e;exact hs i x σ _ (y xs q) p
 ·have e:i=xs.length:=by omega
  subst e;exact .inl ⟨⟨xs,q,Zq _⟩,hd σ H p⟩
theorem YD {lo:Int}{n:Nat}{g:TG}{tb:TS}{D:WO}{σ:St}{H:Hp}(Pv:Nat->St->Hp->Prop)(h0:Pv 0 σ H)
  (Y:∀i σ H,i<n->Pv i σ H->g (.int (lo+i)) σ H λj O=>tb (D.lp (Pv (i+1))) j O) (hd:∀ σ H,Pv n σ H->D.nx σ H) :
  ∃W:Nat->Nat->St->Hp->Prop,(∃m,W 0 m σ H)/\∀i m σ H,W i m σ H->
   ((Itr lo n).stop i H/\D.nx σ H)\/((Itr lo n).go i H/\∃N:St->Hp->Prop,(∀ q J,N q J->∃U,U<m/\W (i+1) U q J)/\∀x J,(Itr lo n).yld i H x J->g x σ J λj O=>tb (D.lp N) j O):=by
 refine⟨λi m σ H=>m=n-i/\i<=n/\Pv i σ H,⟨n,by simp,aU _,h0⟩,?_⟩;rintro i m σ H ⟨rfl,hi,p⟩;by_cases M:i<n
 ·refine .inr ⟨M,Pv (i+1),λq J p'=>⟨n-(i+1),by omega,rfl,M,p'⟩,λx J y=>?_⟩
  obtain⟨e,y⟩:=y;subst e y;exact Y i σ _ M p
 ·have e:i=n:=by omega
  subst e;exact .inl ⟨Zq _,hd σ H p⟩
noncomputable abbrev R2:=V->V->Hp->VK->Prop
def X8 (X:Cx)(f:Value->Value->Sem Value)(r:R2):Prop:=
 ∀(j:List (Addr×Obj)) (s:Shared) (q:St) (H:Hp) (x y:V) (v u:Value) (Q:VK),Inv X j q H s->RelV x v->RelV y u->r x y H Q->
  wpAny (model X.prog X.w) X.A (f v u) (EP X j q Q) X.xe s
def UnR (X:Cx)(f:Value->Sem Value)(r:V->Hp->VK->Prop):Prop:=
 ∀(j:List (Addr×Obj)) (s:Shared) (q:St) (H:Hp) (x:V) (v:Value) (Q:VK),Inv X j q H s->RelV x v->r x H Q->
  wpAny (model X.prog X.w) X.A (f v) (EP X j q Q) X.xe s
def Yd (X:Cx)(f:Value)(r:TL->Hp->VK->Prop):Prop:=
 ∀(j:List (Addr×Obj)) (s:Shared) (q:St) (H:Hp) (J:TL) (M:List Value) (Q:VK),Inv X j q H s->ZO J M->r J H Q->
  wpAny (model X.prog X.w) X.A (call f M) (EP X j q Q) X.xe s
def tOp (r:R2)(q tb:TE):TE:=λj H Q=>q j H λx J=>tb j J λy M=>r x y M Q
def tUn (r:V->Hp->VK->Prop)(j:TE):TE:=λq H Q=>j q H λx J=>r x J Q
inductive rI (C:Int->Int->Prop) (g:Int->Int->V) (x:V) (y:V) (H:Hp) (Q:VK):Prop
 |mk (i:_) (j:_):(x=.int i)->(y=.int j)->(C i j)->(Q (g i j) H)->rI C g x y H Q
inductive rI0 (g:Int->Int->V) (x:V) (y:V) (H:Hp) (Q:VK):Prop
 |mk (i:_) (j:_):(x=.int i)->(y=.int j)->(Q (g i j) H)->rI0 g x y H Q
inductive rU (g:Int->V) (x:V) (H:Hp) (Q:VK):Prop
 |mk (i:_):(x=.int i)->(Q (g i) H)->rU g x H Q
section
variable {X:Cx}{a b c:Expr}{ta tb tc:TE}{pos:Pos}
theorem Znb (Y:PE X a ta)(hb:PE X b tb){j:List (Addr×Obj)}{s:Shared}{σ:St}{H:Hp}{R:V->V->Hp->Prop}(I:Inv X j σ H s)
  (h:ta σ H λx U=>tb σ U λy q=>R x y q) {Q:TU}{f:Value->Value->Sem Value}
  (hf:∀v u O x y q,Inv X j σ q O->RelV x v->RelV y u->R x y q->wpAny (model X.prog X.w) X.A (f v u) Q X.xe O) :
  wpAny (model X.prog X.w) X.A (eval a X.env) (λv J=>wpAny (model X.prog X.w) X.A (eval b X.env) (λu M=>wpAny (model X.prog X.w) X.A (f v u) Q X.xe M) X.xe J) X.xe s:=by
 refine Yh (Y j s σ H _ I h) λv s1 ⟨x,U,I1,r1,q1⟩=>?_;refine Yh (hb j s1 σ U _ I1 q1) λu O ⟨y,q,I2,r2,q2⟩=>?_;exact hf v u O x y q I2 r1 r2 q2
theorem Zz {op:kO}{r:R2}(J:X8 X (binaryOp op) r)(M:PE X a ta)(hb:PE X b tb):PE X (.BinOp a op b pos) (tOp r ta tb):=by
 intro j s O H Q I h;exact wpAny_BinOp (Znb M hb I h λv u U x y Y I2 rx ry q=>J j U O Y x y v u Q I2 rx ry q)
theorem Xf {op:UnaryOp}{r:V->Hp->VK->Prop}(J:UnR X (unaryOp op) r)(M:PE X a ta):PE X (.UnaryOp op a pos) (tUn r ta):=by
 intro j s q H Q I h;exact UnaryOp_ (Yh (M j s q H _ I h) λv O ⟨x,U,Y,r1,q1⟩=>J j O q U x v Q Y r1 q1)
theorem opI {f:Value->Value->Sem Value}{C:Int->Int->Prop}{g:Int->Int->Int}
  (rule:∀(i j:Int) (t u:Tok) (s:Shared) (Q:TU) (E:TU),C i j->Q (.int (g i j) s.toks) {s with toks:=s.toks+1}->wpAny (model X.prog X.w) X.A (f (.int i t) (.int j u)) Q E s) :
  X8 X f (rI C λi j=>.int (g i j)):=by
 intro J s σ H x y v u Q I M O h;obtain⟨i,j,rfl,rfl,U,q⟩:=h;obtain⟨t,rfl⟩:=M;obtain⟨Y,rfl⟩:=O;exact rule i j t Y s _ _ U ⟨.int (g i j),H,I.tok _,⟨_,rfl⟩,q⟩
theorem Zod {f:Value->Value->Sem Value}{g:Int->Int->Int}
  (rule:∀(i j:Int) (t u:Tok) (s:Shared) (Q:TU) (E:TU),Q (.int (g i j) s.toks) {s with toks:=s.toks+1}->wpAny (model X.prog X.w) X.A (f (.int i t) (.int j u)) Q E s) :
  X8 X f (rI0 λi j=>.int (g i j)):=by
 intro J s Y H x y v u Q I M O h;obtain⟨i,j,rfl,rfl,q⟩:=h;obtain⟨t,rfl⟩:=M;obtain⟨U,rfl⟩:=O;exact rule i j t U s _ _ ⟨.int (g i j),H,I.tok _,⟨_,rfl⟩,q⟩
theorem Zj1 {f:Value->Value->Sem Value}{g:Int->Int->Bool}
  (rule:∀(i j:Int) (t u:Tok) (s:Shared) (Q:TU) (E:TU),Q (.bool (g i j)) s->wpAny (model X.prog X.w) X.A (f (.int i t) (.int j u)) Q E s) :
  X8 X f (rI0 λi j=>.bl (g i j)):=by
 intro J s Y H x y v u Q I M O h;obtain⟨i,j,rfl,rfl,q⟩:=h;obtain⟨t,rfl⟩:=M;obtain⟨U,rfl⟩:=O;exact rule i j t U s _ _ ⟨.bl (g i j),H,I,rfl,q⟩
def Zqf (i j:Int):Prop:=0<j/\j<1073741824
def Zqe (i j:Int):Prop:=0<=j/\j<=1000000/\i.natAbs<2 ^ 64
def Znq (i j:Int):Prop:=(-(2 ^ 64)<i/\i<2 ^ 64)\/(-(2 ^ 64)<j/\j<2 ^ 64)
theorem Znq.ok {i j:Int}(h:Znq i j):IntMulOk i j:=by
 rcases h with ⟨q,J⟩|⟨q,J⟩
 ·exact .of_left (intBits_le_64 q J)
 ·exact .of_right (intBits_le_64 q J)
theorem YG:X8 X (binaryOp .Add) (rI0 λi j=>.int (i+j)):=Zod λ_ _ _ _ _ _ _ q=>add_int q
theorem Wt:X8 X (binaryOp .Sub) (rI0 λi j=>.int (i-j)):=Zod λ_ _ _ _ _ _ _ q=>sub_int q
theorem ZS:X8 X (binaryOp .Mult) (rI Znq λi j=>.int (i*j)):=opI λ_ _ _ _ _ _ _ J q=>mul_int q J.ok
theorem Wi:X8 X (binaryOp .FloorDiv) (rI Zqf λi j=>.int (i / j)):=opI λi j _ _ _ _ _ J q=>by
 have M:(0:Int)<j:=J.1;have O:j<1073741824:=J.2;exact floordiv_int (by omega) (by rw[Int.fdiv_eq_ediv_of_nonneg i (by omega)];exact q) (.inl (j7 (by omega)))
theorem ZX:X8 X (binaryOp .Mod) (rI (λ_ j=>0<j) λi j=>.int (i % j)):=opI λi j _ _ _ _ _ J q=>by
 have M:(0:Int)<j:=J;exact mod_int' (by omega) (by rw[Int.fmod_eq_emod_of_nonneg i (by omega)];exact q)
theorem Zmk:X8 X (binaryOp .Pow) (rI Zqe λi j=>.int (i ^ j.toNat)):=opI λ_ _ _ _ _ _ _ J q=>pow_int_small J.1 J.2.1 J.2.2 q
theorem unI {f:Value->Sem Value}{g:Int->Int}
  (rule:∀(i:Int) (t:Tok) (s:Shared) (Q:TU) (E:TU),Q (.int (g i) s.toks) {s with toks:=s.toks+1}->wpAny (model X.prog X.w) X.A (f (.int i t)) Q E s) :
  UnR X f (rU λi=>.int (g i)):=by
 intro j s M H x v Q I J h;obtain⟨i,rfl,q⟩:=h;obtain⟨t,rfl⟩:=J;exact rule i t s _ _ ⟨.int (g i),H,I.tok _,⟨_,rfl⟩,q⟩
theorem W9:UnR X (unaryOp .USub) (rU λi=>.int (-i)):=unI λ_ _ _ _ _ q=>neg_int q
end
def ZnR:V->V->Bool
 | .non,.non=>true | .non,.int _=>true | .int _,.non=>true | .non,.bl _=>true | .bl _,.non=>true | .non,.str _=>true | .str _,.non=>true
 | .int _,.int _=>true | .bl _,.bl _=>true | .str _,.str _=>true | .byt _,.byt _=>true
 | .int _,.str _=>true | .str _,.int _=>true | .bl _,.str _=>true | .str _,.bl _=>true
 |_,_=>false
inductive rEq (x:V) (y:V) (H:Hp) (Q:VK):Prop
 |mk:(ZnR x y=true)->(Q (.bl (decide (x=y))) H)->rEq x y H Q
inductive rNe (x:V) (y:V) (H:Hp) (Q:VK):Prop
 |mk:(ZnR x y=true)->(Q (.bl (!decide (x=y))) H)->rNe x y H Q
theorem Yi {i j:Int}:decide (V.int i=V.int j)=(i == j):=by
 rw[dF];simp
theorem ZiJ {i j:Bool}:decide (V.bl i=V.bl j)=(i == j):=by
 rw[dF];simp
theorem Zfh {i j:Str}:decide (V.str i=V.str j)=(i == j):=by
 rw[dF];simp
theorem Zfi {i j:Array UInt8}:decide (V.byt i=V.byt j)=(i.toList == j.toList):=by
 rw[dF];cases i;cases j;simp
section
variable {X:Cx}{a b c:Expr}{ta tb tc:TE}{pos:Pos}
theorem ZY {j:List (Addr×Obj)}{σ:St}{H:Hp}{s:Shared}{Q:VK}{k J:Bool}(I:Inv X j σ H s)(q:Q (.bl k) H)(e:k=J):EP X j σ Q (.bool J) s:=by
 subst e;exact⟨.bl k,H,I,rfl,q⟩
theorem WH:X8 X (compareOp .Eq) rEq:=by
 intro Y s σ H x y v u Q I U J h;obtain⟨O,q⟩:=h;cases x with
 |non=>
  cases U;cases y with
  |non=>cases J;exact PySem.EqNone.eq_none_none (ZY I q (by simp))
  |bl j=>cases J;exact PySem.EqNone.eq_none_bool (ZY I q (by simp))
  |int j=>obtain⟨M,rfl⟩:=J;exact PySem.EqNone.eq_none_int (ZY I q (by simp))
  |str j=>obtain⟨M,rfl⟩:=J;exact PySem.EqNone.eq_none_str (ZY I q (by simp))
  |_=>exact absurd (show false=true from O) aH
 |bl i=>
  cases U;cases y with
  |non=>cases J;exact PySem.EqNone.eq_bool_none (ZY I q (by simp))
  |bl j=>cases J;exact eq_bool (ZY I q ZiJ)
  |str j=>obtain⟨M,rfl⟩:=J;exact PySem.EqMixed.eq_bool_str (ZY I q (by simp))
  |_=>exact absurd (show false=true from O) aH
 |int i=>
  obtain⟨t,rfl⟩:=U;cases y with
  |non=>cases J;exact PySem.EqNone.eq_int_none (ZY I q (by simp))
  |int j=>obtain⟨M,rfl⟩:=J;exact eq_int (ZY I q Yi)
  |str j=>obtain⟨M,rfl⟩:=J;exact PySem.EqMixed.eq_int_str (ZY I q (by simp))
  |_=>exact absurd (show false=true from O) aH
 |str i=>
  obtain⟨t,rfl⟩:=U;cases y with
  |non=>cases J;exact PySem.EqNone.eq_str_none (ZY I q (by simp))
  |bl j=>cases J;exact PySem.EqMixed.eq_str_bool (ZY I q (by simp))
  |int j=>obtain⟨M,rfl⟩:=J;exact PySem.EqMixed.eq_str_int (ZY I q (by simp))
  |str j=>obtain⟨M,rfl⟩:=J;exact eq_str (ZY I q Zfh)
  |_=>exact absurd (show false=true from O) aH
 |byt i=>
  obtain⟨t,rfl⟩:=U;cases y with
  |byt j=>obtain⟨M,rfl⟩:=J;exact PySem.W.eq_bytes (ZY I q Zfi)
  |_=>exact absurd (show false=true from O) aH
 |_=>cases y <;> exact absurd (show false=true from O) aH
theorem WG:X8 X (compareOp .NotEq) rNe:=by
 intro Y s σ H x y v u Q I U J h;obtain⟨O,q⟩:=h;cases x with
 |non=>
  cases U;cases y with
  |non=>cases J;exact PySem.EqNone.ne_none_none (ZY I q (by simp))
  |bl j=>cases J;exact PySem.EqNone.ne_none_bool (ZY I q (by simp))
  |int j=>obtain⟨M,rfl⟩:=J;exact PySem.EqNone.ne_none_int (ZY I q (by simp))
  |str j=>obtain⟨M,rfl⟩:=J;exact PySem.EqNone.ne_none_str (ZY I q (by simp))
  |_=>exact absurd (show false=true from O) aH
 |bl i=>
  cases U;cases y with
  |non=>cases J;exact PySem.EqNone.ne_bool_none (ZY I q (by simp))
  |bl j=>cases J;exact ne_bool (ZY I q (congrArg not ZiJ))
  |str j=>obtain⟨M,rfl⟩:=J;exact PySem.EqMixed.ne_bool_str (ZY I q (by simp))
  |_=>exact absurd (show false=true from O) aH
 |int i=>
  obtain⟨t,rfl⟩:=U;cases y with
  |non=>cases J;exact PySem.EqNone.ne_int_none (ZY I q (by simp))
  |int j=>obtain⟨M,rfl⟩:=J;exact ne_int (ZY I q (congrArg not Yi))
  |str j=>obtain⟨M,rfl⟩:=J;exact PySem.EqMixed.ne_int_str (ZY I q (by simp))
  |_=>exact absurd (show false=true from O) aH
 |str i=>
  obtain⟨t,rfl⟩:=U;cases y with
  |non=>cases J;exact PySem.EqNone.ne_str_none (ZY I q (by simp))
  |bl j=>cases J;exact PySem.EqMixed.ne_str_bool (ZY I q (by simp))
  |int j=>obtain⟨M,rfl⟩:=J;exact PySem.EqMixed.ne_str_int (ZY I q (by simp))
  |str j=>obtain⟨M,rfl⟩:=J;exact ne_str (ZY I q (congrArg not Zfh))
  |_=>exact absurd (show false=true from O) aH
 |byt i=>
  obtain⟨t,rfl⟩:=U;cases y with
  |byt j=>obtain⟨M,rfl⟩:=J;exact PySem.W.ne_bytes (ZY I q (congrArg not Zfi))
  |_=>exact absurd (show false=true from O) aH
 |_=>cases y <;> exact absurd (show false=true from O) aH
theorem Zav:X8 X (compareOp .Lt) (rI0 λi j=>.bl (decide (i<j))):=Zj1 λ_ _ _ _ _ _ _ q=>lt_int q
theorem Zlj:X8 X (compareOp .LtE) (rI0 λi j=>.bl (decide (i<=j))):=Zj1 λ_ _ _ _ _ _ _ q=>le_int q
theorem Zlk:X8 X (compareOp .Gt) (rI0 λi j=>.bl (decide (j<i))):=Zj1 λ_ _ _ _ _ _ _ q=>gt_int q
theorem Zoc:X8 X (compareOp .GtE) (rI0 λi j=>.bl (decide (j<=i))):=Zj1 λ_ _ _ _ _ _ _ q=>ge_int q
theorem ZI (b:Expr){op:CmpOp}(h:op≠.In:=by decide)(j:op≠.NotIn:=by decide):behindInMarks op b=false:=by
 have q:(op == CmpOp.In)=false:=by cases op <;> first|rfl|exact absurd rfl h
 have J:(op == CmpOp.NotIn)=false:=by cases op <;> first|rfl|exact absurd rfl j
 cases b <;> simp[behindInMarks,q,J]
theorem W1 {op:CmpOp}{r:R2}(J:X8 X (compareOp op) r)(M:PE X a ta)(hb:PE X b tb)(O:behindInMarks op b=false):PE X (.Compare a [op] [b] pos) (tOp r ta tb):=by
 intro j s U H Q I h;exact wpAny_Compare1 (Znb M hb I h λv u Y x y H2 I2 rx ry q=>J j Y U H2 x y v u Q I2 rx ry q) O
inductive iTs (Q:Bool->Hp->Prop) (x:V) (H:Hp):Prop
 |mk (c:Bool):x=.bl c->Q c H->iTs Q x H
def ZnE (t:TE):TT:=λj H Q=>t j H (iTs Q)
theorem ZH {op:CmpOp}{r:R2}(J:X8 X (compareOp op) r)(M:PE X a ta)(hb:PE X b tb)(O:behindInMarks op b=false):PT X (.Compare a [op] [b] pos) (ZnE (tOp r ta tb)):=by
 intro j s q H Q I h;refine mM (Yh (M j s q H _ I h) λv U ⟨x,Y,I1,r1,q1⟩=>Yh (hb j U q Y _ I1 q1) λu s2 ⟨y,H2,I2,r2,q2⟩=>
  Yh (J j s2 q H2 x y v u _ I2 r1 r2 q2) λc s3 ⟨z,H3,I3,r3,k,e,q3⟩=>?_) O
 subst e;cases r3;exact cQ ⟨H3,I3,q3⟩
def ZlZ (r J:R2)(ta tb tc:TE):TE:=λj H Q=>ta j H λx M=>tb j M λy O=>r x y O λz q=>∃k,z=.bl k/\
 (if k=true then tc j q λU Y=>J y U Y Q else Q (.bl false) q)
theorem ZhK {op q:CmpOp}{r O:R2}(ho:X8 X (compareOp op) r)(M:X8 X (compareOp q) O)(ha:PE X a ta)(hb:PE X b tb)(hc:PE X c tc)
  (hm:lastMarks [op,q] [b,c]=false:=by with_unfolding_all rfl):PE X (.Compare a [op,q] [b,c] pos) (ZlZ r O ta tb tc):=by
 intro j s J H Q I h;refine Compare_chain (Yh (ha j s J H _ I h) λv s1 ⟨x,H1,I1,r1,q1⟩=>chain_link (Yh (hb j s1 J H1 _ I1 q1) λu s2 ⟨y,H2,I2,U,q2⟩=>
  Yh (ho j s2 J H2 x y v u _ I2 r1 U q2) λd s3 ⟨z,Y,I3,r3,k,e,q3⟩=>?_)) hm
 subst e;cases r3;refine cQ ?_;cases k with
 |false=>exact ite_ff ⟨.bl false,Y,I3,rfl,q3⟩
 |true=>exact ite_tt (chain_last (Yh (hc j s3 J Y _ I3 q3) λw' s4 ⟨z',H4,I4,r4,q4⟩=>M j s4 J H4 y z' u w' Q I4 U r4 q4))
theorem Xp:(sizeLine:Nat)<2 ^ 63:=by rw[iW];decide
theorem vals1 {x:V}{us:List Value}(r:ZO [x] us):∃u,us=[u]/\RelV x u:=by
 cases r with
 |cons r1 j=>cases j;exact⟨_,rfl,r1⟩
end
structure Znm (h:Heap)(x dx C:Addr)(mA:TR):Prop where
 obj:h.get? x=some (jf C dx)
 ns:h.Ns1 dx mA
 ne:dx≠x
theorem ZfU {h:Heap}{J:Addr}{M:TR}(n:h.Ns1 J M):∃O,h.get? J=some O/\∀name,ju name O=some (M name):=by
 obtain⟨o,U,ep,Y,hd,hk,_,hm⟩:=n;refine⟨o,Y,λname=>?_⟩;have e:=hm name;unfold nsFind findBy at e;rw[<-Array.find?_toList] at e;unfold ju;rw[hd]
 try dsimp only
 split
 ·rename_i y q
  rw[q] at e;exact congrArg some e
 ·rename_i q
  rw[q] at e;have a:U.toList.any (·.refKey)=false:=by
   rw[mI];intro y hy;obtain⟨z,t,j⟩:=hk y (Array.mem_toList_iff.mp hy);simp[DictEntry.refKey,j]
  have a':¬U.toList.any (·.refKey)=true:=by rw[a];exact aH
  rw[if_neg a'];exact congrArg some e
theorem Znm.look {h:Heap}{x q C:Addr}{J:TR}(I:Znm h x q C J):∃j,PySem.W.InstAt h x (jf C q) C (some j)/\∀name,ju name j=some (J name):=
 let ⟨j,M,O⟩:=ZfU I.ns
 ⟨j,⟨I.obj,rfl,rfl,M⟩,O⟩
section
variable {prog:Program}{w:World}{A:Around}{E:TU}{s:Shared}{K:aa}{x dx C f:Addr}{mA:TR}{name:Str}{v:Value}
end
theorem UZ.some_of {v:V}{o:Option Value}(r:UZ (some v) o):∃u,o=some u/\RelV v u:=by
 cases o with
 |none=>exact (show False from r).elim
 |some u=>exact⟨u,rfl,r⟩
section
variable {P:Program}{w:World}{H H':Hp}{h h':Heap}{a C dx:Addr}{fs fs':List (Str×V)}
theorem Zkw (J:Xy P w H h)(e:H a=some (.ins C dx fs)):∃j,Znm h a dx C j/\(∀f,UZ (fs.lookup f) (j f))/\PySem.Within j (fs.map (·.1))/\fs.length<=1000/\H dx=some (.own a):=by
 obtain⟨d,z,ne,M,j,n,r,q⟩:=(show Yk P w H h a (.ins C dx fs) from J a _ e);exact⟨j,⟨M,n,ne⟩,r,q,z,d⟩
end
structure Cls (K:aa)(C:Addr):Prop where
 pg:lT K C Str.empty=true
 hd:PySem.W.hasDictIn K C=true
 po:PySem.W.plainOver K C=true
 sa:mw K (.ref C) "__setattr__"=some (some (.builtin "object.__setattr__"))
theorem Cls.get {K:aa}{C:Addr}(c:Cls K C)(f:Str):lT K C f=true:=c.pg
section
variable {X:Cx}{pins:List (Addr×Obj)}{σ:St}{H:Hp}{s:Shared}{a C dx:Addr}{fs:List (Str×V)}{f:Str}{v:V}{A:Around}{E:TU}
end
section
variable {X:Cx}{o e value:Expr}{f:Str}{pos pos' tpos:Pos}{ta tv:TE}
end
section
variable {X:Cx}{pins:List (Addr×Obj)}{σ:St}{H:Hp}{s:Shared}{A:Around}{E:TU}{Q:TU}{c:Value}{b:Bool}
inductive X6 (K:aa) (H:Hp):V->Value->Prop where
 |non:X6 K H .non (.type "NoneType")
 |bl (x:Bool):X6 K H (.bl x) (.type "bool")
 |int (i:Int):X6 K H (.int i) (.type "int")
 |str (x:Str):X6 K H (.str x) (.type "str")
 |flt (x:UInt64):X6 K H (.flt x) (.type "float")
 |lst {a:Addr}{xs:TL} (e:H a=some (.lst xs)):X6 K H (.ref a) (.type "list")
 |frz {a:Addr}{o:Obj}{xs:TL} (e:H a=some (.frz o (.lst xs))):X6 K H (.ref a) (.type "list")
 |tup {a:Addr}{xs:TL} (e:H a=some (.tup xs)):X6 K H (.ref a) (.type "tuple")
 |dK {a:Addr}{kvs:List (YQ×V)} (e:H a=some (.dK kvs)):X6 K H (.ref a) (.type "dict")
 |dT {a:Addr}{kvs:List (List YQ×V)} (e:H a=some (.dT kvs)):X6 K H (.ref a) (.type "dict")
 |ins {a C dx:Addr}{fs:List (Str×V)} (e:H a=some (.ins C dx fs)) (cl:Cls K C) (ha:mw K (.ref C) "__class__"=some (some (.builtin "object.__class__")))
   (hn:PySem.W.specialIn K (.builtin "object.__class__") "__get__"=some (some (.builtin "getset_descriptor.__get__"))) (htk:PySem.W.takesIn K (.builtin "object.__class__")=some true)
   (hm:PySem.W.mroIn K C (.type "object")=some true):X6 K H (.ref a) (.ref C)
theorem ZaE {x:V}{u t:Value}(I:Inv X pins σ H s)(j:RelV x u)(ty:X6 X.K H x t)(e:ig X.K t c=some b)(h:∀tk,Q (.bool b) {s with toks:=tk}) :
  wpAny (model X.prog X.w) A (call (.builtin "isinstance") [u,c]) Q E s:=by
 cases ty with
 |non=>cases (show u=bG from j);exact bK PySem.W.kitx_none I.kIn db e (λz=>nomatch z) h
 |bl y=>cases (show u=gY y from j);exact bK PySem.W.kitx_bool I.kIn db e (λz=>nomatch z) h
 |int i=>obtain⟨t,q⟩:=(show ∃t,u=gN i t from j);cases q;exact bK PySem.W.kitx_int I.kIn db e (λz=>nomatch z) h
 |str y=>obtain⟨t,q⟩:=(show ∃t,u=j9 y t from j);cases q;exact bK PySem.W.kitx_str I.kIn db e (λz=>nomatch z) h
 |flt y=>obtain⟨t,q⟩:=(show ∃t,u=Value.float y t from j);cases q;exact bK PySem.W.kitx_float I.kIn db e (λz=>nomatch z) h
 | @lst a xs M=>
  cases (show u=aK a from j);obtain⟨_,_,n,_,U⟩:=(show Yk X.prog X.w H s.heap a (.lst xs) from I.hok a _ M);exact bK lE I.kIn ⟨_,U,rfl⟩ e (λz=>nomatch z) h
 | @frz a ob xs M=>
  cases (show u=aK a from j);obtain⟨_,_,_,n,_,U⟩:=(show Yk X.prog X.w H s.heap a (.frz ob (.lst xs)) from I.hok a _ M);exact bK lE I.kIn ⟨_,U,rfl⟩ e (λz=>nomatch z) h
 | @tup a xs M=>
  cases (show u=aK a from j);obtain⟨_,_,_,p⟩:=(show Yk X.prog X.w H s.heap a (.tup xs) from I.hok a _ M);obtain⟨o,U,h2,_⟩:=p;exact bK kL I.kIn ⟨o,U,h2⟩ e (λz=>nomatch z) h
 | @dK a Y M=>
  cases (show u=aK a from j);obtain⟨_,_,vs,_,p⟩:=(show Yk X.prog X.w H s.heap a (.dK Y) from I.hok a _ M);obtain⟨o,es,ep,U,h2,_⟩:=p;exact bK lF I.kIn ⟨o,U,h2.1⟩ e (λz=>nomatch z) h
 | @dT a Y M=>
  cases (show u=aK a from j);obtain⟨_,_,xs,_,o,es,ep,U,h2,_⟩:=(show Yk X.prog X.w H s.heap a (.dT Y) from I.hok a _ M);exact bK lF I.kIn ⟨o,U,h2.1⟩ e (λz=>nomatch z) h
 | @ins a C dx fs M cl ha hn m5 hm=>
  cases (show u=aK a from j);obtain⟨mA,O,_⟩:=Zkw I.hok M;obtain⟨od,J,_⟩:=O.look;exact bK (PySem.W.kitx_own (cl.get _) cl.hd ha hn m5 hm) I.kIn J e (λz=>nomatch z) h
end
structure Jo (k:Nat)(A:Around):Prop where
 hd:A.handled=none
 dp:A.depth+3*k+5<recursionLimit
 un:A.units+16*k+200<cLine
 gd:A.guards=some []
theorem Jo.mono {j k:Nat}{A:Around}(r:Jo k A)(h:j<=k):Jo j A:=⟨r.hd,by have:=r.dp;omega,by have:=r.un;omega,r.gd⟩
theorem Jo.deeper {k:Nat}{A:Around}(r:Jo (k+1) A)(env:Env):Jo k (A.deeper env):=
 ⟨r.hd,by have:=r.dp;show A.depth+1+3*k+5<_;omega,by have:=r.un;show A.units+3+16*k+200<_;omega,r.gd⟩
theorem Jo.depth {k:Nat}{A:Around}(r:Jo k A):A.depth<recursionLimit:=by have:=r.dp;omega
theorem Jo.units {k:Nat}{A:Around}(r:Jo k A):A.units+64<cLine:=by have:=r.un;omega
def ZnJ:TA:=λ_ H Q=>Q [] H
def ZgL (q:TE)(J:TA):TA:=λj H Q=>q j H λx M=>J j M λO U=>Q (x::O) U
section
variable {X:Cx}{e:Expr}{es:List Expr}{te:TE}{t:TA}{pos:Pos}
theorem Zs:PA X [] ZnJ:=λ_ _ _ _ H Q I h=>Calls.spliced_nil ⟨[],H,I,.nil,h⟩
theorem ZjY (J:PE X e te)(M:PA X es t)(O:starEach (e::es) X.env=(false,eval e X.env)::starEach es X.env:=by rfl):PA X (e::es) (ZgL te t):=by
 intro pos j s q H Q I h;rw[O];show wpAny _ _ (spliced ((false,eval e X.env)::backTo pos (starEach es X.env))) _ _ s;refine Calls.spliced_cons (Yh (J j s q H _ I h) λu U ⟨x,Y,I1,r1,q1⟩=>?_);exact Yh (M pos j U q Y _ I1 q1) λus s2 ⟨xs,H2,I2,r2,q2⟩=>⟨x::xs,H2,I2,.cons r1 r2,q2⟩
inductive iTu (Q:VK) (xs:TL) (H:Hp):Prop
 |mk:xs.length<=sizeLine->(∀p,H p=none->Q (.ref p) (upd H p (.tup xs)))->iTu Q xs H
def Zpu (t:TA):TE:=λj H Q=>t j H (iTu Q)
inductive iLs (Q:VK) (xs:TL) (H:Hp):Prop
 |mk:xs.length<=sizeLine->(∀p,H p=none->Q (.ref p) (upd H p (.lst xs)))->iLs Q xs H
def Zpy (t:TA):TE:=λj H Q=>t j H (iLs Q)
theorem WC {U}(h:PA X es t):PE X (.Tuple es U pos) (Zpu t):=by
 intro j s Y H Q I hq;refine wpAny_Tuple_spliced (Yh (h pos j s Y H _ I hq) λus J ⟨xs,M,O,r,z,q⟩=>⟨by rw[<-r.length];exact z,?_⟩);have hf:M J.heap.objs.size=none:=O.hok.fresh (Zq _);refine⟨.ref J.heap.objs.size,upd M J.heap.objs.size (.tup xs),O.laid (t':=J.toks) (λb u e=>Zn _ e) (Zq _) ?_,rfl,q _ hf⟩;exact⟨z,us,r,⟨_,Zo _ rfl,rfl,_,rfl⟩⟩
theorem ZK (h:PA X es t):PE X (.List es pos) (Zpy t):=by
 intro j s U H Q I Y;refine wpAny_List_spliced (Yh (h pos j s U H _ I Y) λus J ⟨xs,M,O,r,z,q⟩=>⟨by rw[<-r.length];exact z,?_⟩);have hf:M J.heap.objs.size=none:=O.hok.fresh (Zq _);refine⟨.ref J.heap.objs.size,upd M J.heap.objs.size (.lst xs),O.laid (t':=J.toks) (λb u e=>Zn _ e) (Zq _) ?_,rfl,q _ hf⟩;exact⟨z,us,0,r,Zo _ rfl⟩
end
noncomputable abbrev Sp:=TL->Hp->VK->XK->Prop
noncomputable abbrev CXT:=List Env->Hp->Shared->XK->Value->Shared->Prop
structure Zk0 (P:Program)(w:World)(K:aa)(mg:TR)(base:Heap)(A:Around)(outer:List Env)(s:Shared)(H:Hp):Prop where
 frames:A.frames=some outer
 mod:Mod K mg base
 bs:∀b o,base.get? b=some o->s.heap.get? b=some o/\H b=none
 bsz:base.objs.size<=s.heap.objs.size
 funs:s.heap.FunFrames base outer
 frf:∀b∈VW outer,H b=none
 hok:Xy P w H s.heap
 bare:iD s.gens
def CE (outer:List Env)(P:Program)(w:World)(H:Hp)(s:Shared)(Q:VK)(u:Value)(s':Shared):Prop:=
 ∃v j,s'.os=s.os/\iD s'.gens/\Un (VW outer) [] H j s.heap s'.heap/\Xy P w j s'.heap/\RelV v u/\Q v j
def CR (CX:CXT)(outer:List Env)(P:Program)(w:World)(H:Hp)(s:Shared)(Q:VK)(E:XK)(r:Result)(s':Shared):Prop:=
 match r with
 | .ok (.ret u)=>CE outer P w H s Q u s'
 | .ok _=>False
 | .error e=>CX outer H s E e s'
structure Z2 (P:Program)(w:World)(K:aa)(mg:TR)(base:Heap)(CX:CXT)(k:Nat)(f:Addr)(fd:FuncData)(ps:List Str)(sp:Sp):Prop where
 len:∀vs H Q E,sp vs H Q E->vs.length=ps.length
 run:∀(A:Around) (outer:List Env) (s:Shared) (H:Hp) (args:Args) (us:List Value) (vs:TL) (Q:VK) (E:XK),Jo k A->Zk0 P w K mg base A outer s H->ja s fd args (ps.zip us)->ZO vs us->sp vs H Q E->
  codeAny (model P w) A (.call (.ref f) args) (CR CX outer P w H s Q E) s
section
variable {X:Cx}{pins:List (Addr×Obj)}{σ:St}{H:Hp}{s s':Shared}
theorem Inv.env0 (I:Inv X pins σ H s):Zk0 X.prog X.w X.K X.mg X.base X.A X.stack s H:=
 ⟨I.ok.frames,I.ok.mod,I.bs,aW I.ok.bsz I.sz,I.stack,I.stkFree,I.hok,I.bare⟩
theorem Inv.after {Q:VK}{u:Value}(I:Inv X pins σ H s)(h:CE X.stack X.prog X.w H s Q u s'):EP X pins σ Q u s':=by
 obtain⟨v,J,os,bare,un,hok,r,q⟩:=h;obtain⟨M,g,d,t,j⟩:=s';obtain rfl:j=s.os:=os;exact⟨v,J,I.call (h':=M) (g':=g) (d':=d) (t':=t) (ch:=[]) un hok bare (λb z=>absurd z (by simp)),r,q⟩
end
def Zk6 (sp:Sp)(j:TL)(E:XK)(t:TA):TE:=λq H Q=>t q H λJ M=>sp (J++j) M Q E
def Binds (K:aa)(J:FuncData)(q:List Str)(ds:List Value):Prop:=
 ∀(s:Shared) (j:List Value),K.In s.heap->(j++ds).length=q.length->ja s J ⟨j,[]⟩ (q.zip (j++ds))
theorem Binds.all {K:aa}{fd:FuncData}{j:List Str}(h:∀us:List Value,us.length=j.length->bindArgs fd ⟨us,[]⟩=pure (j.zip us)):Binds K fd j []:=λs us _ q=>by
 rw[ip] at q ⊢;exact .of_eq (h us q)
def Zb4 (CX:CXT)(X:Cx)(E:XK):Prop:=∀(j:List (Addr×Obj)) (J:St) (H:Hp) (s:Shared) (e:Value) (q:Shared),Inv X j J H s->CX X.stack H s E e q->X.xe e q
section
variable {X:Cx}{CX:CXT}{k:Nat}{f C:Addr}{fd:FuncData}{ps:List Str}{sp:Sp}{dvs:TL}{ds:List Value}{E:XK}{x m:Str}{p pos apos:Pos}{e o:Expr}{es:List Expr}{ta:TE}{t:TA}
theorem Zl4 {j:List (Addr×Obj)}{σ:St}{H:Hp}{s:Shared}{Q:VK}{us:List Value}{vs:TL}(F:Z2 X.prog X.w X.K X.mg X.base CX k f fd ps sp)(M:Jo k X.A)(hb:Binds X.K fd ps ds)(O:ZO dvs ds)(U:Zb4 CX X E)
  (I:Inv X j σ H s) (r:ZO vs us) (h:sp (vs++dvs) H Q E):wpAny (model X.prog X.w) X.A (call (.ref f) us) (EP X j σ Q) X.xe s:=by
 have J:ZO (vs++dvs) (us++ds):=r.append O;have Y:(us++ds).length=ps.length:=by rw[<-J.length];exact F.len _ _ _ _ h
 refine wpAny_call (dM (F.run X.A X.stack s H ⟨us,[]⟩ (us++ds) (vs++dvs) Q E M I.env0 (hb s us I.kIn Y) J h) λr s' q=>?_);cases r with
 |error e=>exact U j σ H s e s' I q
 |ok fl=>
  cases fl with
  |ret u=>exact I.after q
  |next=>exact dR q
  |brk=>exact dR q
  |cont=>exact dR q
theorem ZjU (F:Z2 X.prog X.w X.K X.mg X.base CX k f fd ps sp)(Y:Jo k X.A)(hg:Gl X x)(hm:X.mg x=some (.ref f))(hk:dN X.K (.ref f)=true)(hb:Binds X.K fd ps ds)(hd:ZO dvs ds)(hx:Zb4 CX X E)
  (ha:PA X (e::es) t) (J:(x == ("__debug__":Str))=false:=by decide) (he:starEach (e::es) X.env=(false,eval e X.env)::starEach es X.env:=by rfl) (M:(backTo pos (starEach es X.env)).any (·.1)=false:=by rfl) :
  PE X (.Call (.Name x p) (e::es) [] pos) (Zk6 sp dvs E t):=by
 intro j s σ H Q I h;refine jr (Zkq I hg hm ?_ J);refine PySem.W.callWith_K (h₀:=X.base) I.ok.mod.kin hk (Yh (ha pos j s σ H _ I h) λus s1 ⟨vs,H1,U,r,q⟩=>⟨U.kIn,?_⟩) he M;exact Zl4 F Y hb hd hx U r q
end
section
variable {X:Cx}{CX:CXT}{k:Nat}{f C:Addr}{fd:FuncData}{ps ks:List Str}{sp:Sp}{E:XK}{x m:Str}{p pos apos kpos:Pos}{e o:Expr}{es:List Expr}{kws:List Keyword}{te ta:TE}{t tk:TA}{nm:Option Str}
variable {g:List Value->List Value->List Value}{gV:TL->TL->TL}
end
structure V1 (N P:List Str)(sc:cL):Prop where
 kind:sc.kind=.function
 co:sc.isCoroutine=false
 gen:sc.isGenerator=false
 nd:N.Nodup
 pre:N.take P.length=P
 par:∀x∈P,sc.names.lookup x=some .local\/sc.names.lookup x=some .cell
 nofree:∀y∈sc.names,y.2≠.free
theorem FS {N P:List Str}{j:cL}(a:j.kind=.function:=by rfl)(b:j.isCoroutine=false:=by rfl)(c:j.isGenerator=false:=by rfl)(d:N.Nodup:=by decide +kernel)(e:N.take P.length=P:=by rfl)(f:∀x∈P,j.names.lookup x=some .local\/j.names.lookup x=some .cell:=by decide +kernel)(g:∀y∈j.names,y.2≠.free:=by decide +kernel):V1 N P j:=⟨a,b,c,d,e,f,g⟩
theorem bd1 {α:Type}{f g:List Value->α}(h:∀a,f [a]=g [a])(j:List Value)(l:j.length=1):f j=g j:=by
  cases j with
  |nil=>cases l
  |cons a r=>cases r with
    |nil=>exact h a
    |cons b r=>simp at l
theorem U3 {α:Type}{f g:List Value->α}(h:∀a b,f [a,b]=g [a,b])(j:List Value)(l:j.length=2):f j=g j:=by
  cases j with
  |nil=>cases l
  |cons a r=>exact bd1 (f:=λr=>f (a::r)) (g:=λr=>g (a::r)) (h a) r (cJ l)
theorem bd3 {α:Type}{f g:List Value->α}(h:∀a b c,f [a,b,c]=g [a,b,c])(j:List Value)(l:j.length=3):f j=g j:=by
  cases j with
  |nil=>cases l
  |cons a r=>exact U3 (f:=λr=>f (a::r)) (g:=λr=>g (a::r)) (h a) r (cJ l)
theorem bd4 {α:Type}{f g:List Value->α}(h:∀a b c d,f [a,b,c,d]=g [a,b,c,d])(j:List Value)(l:j.length=4):f j=g j:=by
  cases j with
  |nil=>cases l
  |cons a r=>exact bd3 (f:=λr=>f (a::r)) (g:=λr=>g (a::r)) (h a) r (cJ l)
theorem bd5 {α:Type}{f g:List Value->α}(h:∀a b c d e,f [a,b,c,d,e]=g [a,b,c,d,e])(j:List Value)(l:j.length=5):f j=g j:=by
  cases j with
  |nil=>cases l
  |cons a r=>exact bd4 (f:=λr=>f (a::r)) (g:=λr=>g (a::r)) (h a) r (cJ l)
theorem ZaM {kindOf:Str->Option eA}{x:Str}:∀{binds:List (Str×Value)}{m:TR},(∀v,(x,v)∉binds)->bindL kindOf binds m x=m x
 | [],_,_=>rfl
 |(n,v)::r,m,h=>by
  unfold bindL;rw[ZaM λw j=>h w (aE _ j)];split
  ·have:x≠n:=by rintro rfl;exact h v aA
   simp[this]
  ·rfl
theorem ZaO {kindOf:Str->Option eA}{x:Str}:∀{binds:List (Str×Value)}{m:TR},(∀v,(x,v)∉binds)->bindC kindOf binds m x=m x
 | [],_,_=>rfl
 |(n,v)::r,m,h=>by
  unfold bindC;rw[ZaO λw j=>h w (aE _ j)];split
  ·rfl
  ·have:x≠n:=by rintro rfl;exact h v aA
   simp[this]
theorem ZaN {kindOf:Str->Option eA}{x:Str}{v:Value}:∀{P:List Str}{vs:List Value}{i:Nat}{m:TR},P.Nodup->P[i]?=some x->vs[i]?=some v->kindOf x=some .local->
  bindL kindOf (P.zip vs) m x=some v
 | [],_,_,_,_,h,_,_=>by simp at h
 |_::_,[],_,_,_,_,h,_=>by simp at h
 |p::P,w::vs,0,m,nd,j,q,J=>by
  simp at j q;subst j;subst q;show bindL kindOf ((p,w)::P.zip vs) m p=_;unfold bindL;rw[ZaM λv M=>(bW.mp nd).1 (jE M).1,if_pos J];simp
 |p::P,w::vs,i+1,m,nd,j,q,J=>by
  show bindL kindOf ((p,w)::P.zip vs) m x=_;unfold bindL;exact ZaN (i:=i) (bW.mp nd).2 (by simpa using j) (by simpa using q) J
theorem ZaP {kindOf:Str->Option eA}{x:Str}{v:Value}:∀{P:List Str}{vs:List Value}{i:Nat}{m:TR},P.Nodup->P[i]?=some x->vs[i]?=some v->kindOf x≠some .local->
  bindC kindOf (P.zip vs) m x=some v
 | [],_,_,_,_,h,_,_=>by simp at h
 |_::_,[],_,_,_,_,h,_=>by simp at h
 |p::P,w::vs,0,m,nd,j,q,J=>by
  simp at j q;subst j;subst q;show bindC kindOf ((p,w)::P.zip vs) m p=_;unfold bindC;rw[ZaO λv M=>(bW.mp nd).1 (jE M).1,if_neg J];simp
 |p::P,w::vs,i+1,m,nd,j,q,J=>by
  show bindC kindOf ((p,w)::P.zip vs) m x=_;unfold bindC;exact ZaP (i:=i) (bW.mp nd).2 (by simpa using j) (by simpa using q) J
def start (N:List Str)(vs:TL):St:=vs.map some++aw (N.length-vs.length) none
def Zdc (CX:CXT)(P:Program)(w:World)(K:aa)(mg:TR)(base:Heap)(N:List Str)(j:Str)(scope:cL)(f:Addr)(J:Value)(A:Around)(outer:List Env)(s:Shared)(H:Hp)(E:XK):Cx where
 prog:=P
 w:=w
 K:=K
 mg:=mg
 base:=base
 A:=A.deeper (envOfC j scope s.heap.objs.size f J)
 N:=N
 s₀:=s
 H₀:=H
 env:=envOfC j scope s.heap.objs.size f J
 outer:=outer
 stack:=envOfC j scope s.heap.objs.size f J::outer
 ex:=[]
 calm:=true
 fn:=λ_=>true
 pn:=[]
 xe:=λe M=>wpAny (model P w) (A.deeper (envOfC j scope s.heap.objs.size f J)) (leaving (envOfC j scope s.heap.objs.size f J) e) (λ_ q=>CX outer H s E e q) (λO q=>CX outer H s E O q) M
theorem Zdi {j:cL}{n:Nat}{x:Str}(h:j.names.lookup x=some .cell):∃c,(cellsFrom n j.names []).lookup x=some c:=by
 have q:=gM j.names n [] (.inl h);exact gf.mp q
theorem Zf0 {CX:CXT}{P:Program}{w:World}{K:aa}{mg:TR}{base:Heap}{N M:List Str}{qual:Str}{scope:cL}{f:Addr}{cd:Value}{A:Around}{outer:List Env}{s s1:Shared}{H:Hp}{E:XK}{us:List Value}{vs:TL}
  (S:V1 N M scope) (hd:A.handled=none) (J:Zk0 P w K mg base A outer s H) (hl:vs.length=M.length) (r:ZO vs us)
  (x:InCallC s s.heap.objs.size (bindL (envOfC qual scope s.heap.objs.size f cd).kindOf (M.zip us) λ_=>none) (cellsFrom (s.heap.objs.size+1) scope.names []) (bindC (envOfC qual scope s.heap.objs.size f cd).kindOf (M.zip us) λ_=>none) s1) :
  Inv (Zdc CX P w K mg base N qual scope f cd A outer s H E) [] (start N vs) H s1:=by
 have m6:M.length<=N.length:=by have:=congrArg a6 S.pre;rw[b8] at this;omega
 obtain⟨h1,tk,rfl,hk⟩:=x.done;have O:∀b:Addr,b∉(Zdc CX P w K mg base N qual scope f cd A outer s H E).ex:=λb z=>absurd (show b∈([]:TN) from z) (by simp);refine⟨⟨J.mod,S.kind,rfl,rfl,Zq _,λy z c h1 j=>?_,λy U=>?_,λy c _ h=>?_,λ_=>hd,Around.frames_deeper J.frames,.inr ⟨rfl,rfl⟩,λb z=>absurd z (O b),J.bs,J.bsz,λb _ _=>O b,λb z=>absurd z (O b),J.funs,J.frf⟩,
  rfl,J.bare,Un.kept hk,⟨_,x.toInCall.ns,λi y v h1 j h3=>?_⟩,λy c h=>⟨_,x.cell y c h⟩,J.hok.fresh (Zq _),λy c h=>?_,λp Y=>absurd (show p∈([]:List (Addr×Obj)) from Y) (by simp),J.hok.kept hk,?_⟩
 ·exact name_of_addr x.apart (bo h1) (bo j)
 ·have U:scope.names.lookup y=some .cell\/scope.names.lookup y=some .free:=U
  rcases U with U|U
  ·exact Zdi U
  ·exact absurd rfl (S.nofree _ (bo U))
 ·exact dw (x.above y c (bo h))
 ·have hi:i<vs.length:=by
   unfold start at j;by_cases hi:i<vs.length
   ·exact hi
   ·rw[aq (by simpa using hi)] at j
    rw[eS] at j;split at j <;> cases j
  have ha:vs[i]?=some v:=by
   unfold start at j;rw[ak (by simpa using hi),Zc] at j;cases e:vs[i]? with
   |none=>rw[e] at j;cases j
   |some a=>rw[e] at j;cases j;rfl
  obtain⟨u,hu,rv⟩:=r.get ha;have Y:M[i]?=some y:=by
   rw[<-S.pre,List.getElem?_take_of_lt (by omega)];exact h1
  have m5:M.Nodup:=by rw[<-S.pre];exact S.nd.sublist (jb _ _)
  refine⟨u,rv,?_⟩;rcases S.par y (av Y) with k|k
  ·exact .inl ⟨k,ZaN m5 Y hu k⟩
  ·obtain⟨c,e⟩:=Zdi (n:=s.heap.objs.size+1) k
   refine .inr ⟨.inl k,c,e,?_⟩;have q:=x.cell y c e;rw[ZaP m5 Y hu (by show scope.names.lookup y≠_;rw[k];decide)] at q;exact q
 ·exact J.hok.fresh (dw (x.above y c (bo h)))
 ·unfold start
  show _=N.length;rw[Zd,Za,Ze];omega
theorem Zot {CX:CXT}{P:Program}{w:World}{K:aa}{mg:TR}{base:Heap}{k:Nat}{f:Addr}{name j:Str}{params:Arguments}{body:List Stmt}{scope:cL}{dV kV m6 pm M ct oc:Value}{an od:Option Addr}
  {m9:Array (Option Value)}{N ps:List Str}{sp:Sp} (lk:K.lookup f=some ⟨oc,od,.func (cp name j params body scope dV kV m6 pm an M ct),m9⟩) (n6:eP K M j=true) (S:V1 N ps scope)
  (len:∀vs H Q E,sp vs H Q E->vs.length=ps.length)
  (Y:∀(A:Around) (outer:List Env) (s:Shared) (H:Hp) (vs:TL) (Q:VK) (E:XK),Jo k (A.deeper (envOfC j scope s.heap.objs.size f M))->sp vs H Q E->
   ∃t,PSs (Zdc CX P w K mg base N j scope f M A outer s H E) body t/\t {nx:=λ_ U=>Q .non U,rt:=Q} (start N vs) H) :
  Z2 P w K mg base CX (k+1) f (cp name j params body scope dV kV m6 pm an M ct) ps sp:=by
 refine⟨len,λA outer s H args us vs Q E hr e0 hb r m7=>?_⟩;have hl:=len _ _ _ _ m7;have KX:K.In s.heap:=e0.mod.kin.keeps λb o e=>(e0.bs b o e).1;have n8:s.heap.NoLimit:=e0.mod.nolimit.keeps λb o e=>(e0.bs b o e).1;have m5:∀y∈ps.zip us,scope.names.lookup y.1=some .local\/(scope.names.lookup y.1=some .cell/\((cellsFrom (s.heap.objs.size+1) scope.names []).lookup y.1).isSome=true):=λ⟨n,v⟩ hy=>by
  rcases S.par n (jE hy).1 with q|q
  ·exact .inl q
  ·exact .inr ⟨q,gM _ _ _ (.inl q)⟩
 refine codeAny_call_function hr.depth (KX _ _ lk) rfl S.co S.gen rfl (PySem.W.codeRec_of KX n6) (hb _ _ _ _ ?_);refine wpAny_newFunctionEnv_cells S.kind m5 λenv he s1 x=>?_;subst he;refine⟨n8.keeps x.toInCall.keep,codeAny_func ?_⟩;obtain⟨t,ht,hq⟩:=Y A outer s H vs Q E (hr.deeper _) m7;have I:Inv (Zdc CX P w K mg base N j scope f M A outer s H E) [] (start N vs) H s1:=Zf0 S hr.hd e0 hl r x;refine cm (ht [] s1 (start N vs) H _ I hq) (λfl s' hs=>?_) λe s' hs=>hs;have m8:∀{O:St}{U:Hp}{v:V}{u:Value},Inv (Zdc CX P w K mg base N j scope f M A outer s H E) [] O U s'->RelV v u->Q v U->CE outer P w H s Q u s':=
  λ{O U v u} J rv q=>⟨v,U,J.os,J.bare,J.base,J.hok,rv,q⟩
 cases fl with
 |ret u=>
  obtain⟨v,O,U,J,rv,q⟩:=hs;exact m8 J rv q
 |next=>
  obtain⟨O,U,J,q⟩:=hs;exact m8 (v:=V.non) (u:=bG) J rfl q
 |brk=>
  obtain⟨_,_,_,q⟩:=hs;exact dR q
 |cont=>
  obtain⟨_,_,_,q⟩:=hs;exact dR q
section
variable {X:Cx}{x:Str}{p pos:Pos}{e:Expr}{es:List Expr}{t:TA}{id T:String}{r:TL->Hp->VK->Prop}
def tCB (r:TL->Hp->VK->Prop)(t:TA):TE:=λj H Q=>t j H λq J=>r q J Q
theorem ZhL (O:Yd X (.builtin id) r)(U:Gl X x)(Y:X.mg x=none)(hv:bootBuiltins x=some (.builtin id))(ha:PA X (e::es) t)(hn:x ≠ "__name__":=by decide)(q:(x == ("__debug__":Str))=false:=by decide)
  (he:starEach (e::es) X.env=(false,eval e X.env)::starEach es X.env:=by rfl) (J:(backTo pos (starEach es X.env)).any (·.1)=false:=by rfl):PE X (.Call (.Name x p) (e::es) [] pos) (tCB r t):=by
 intro j s M H Q I h;refine jr (Je I U Y hv ?_ hn q);exact PyProof.Rows.callWith_builtin1 (Yh (ha pos j s M H _ I h) λus s1 ⟨vs,H1,I1,r1,q1⟩=>O j s1 M H1 vs us Q I1 r1 q1) he J
theorem ZfF (O:Yd X (.type T) r)(U:Gl X x)(Y:X.mg x=none)(hv:bootBuiltins x=some (.type T))(ha:PA X (e::es) t)(hn:x ≠ "__name__":=by decide)(q:(x == ("__debug__":Str))=false:=by decide)
  (he:starEach (e::es) X.env=(false,eval e X.env)::starEach es X.env:=by rfl) (J:(backTo pos (starEach es X.env)).any (·.1)=false:=by rfl):PE X (.Call (.Name x p) (e::es) [] pos) (tCB r t):=by
 intro j s M H Q I h;refine jr (Je I U Y hv ?_ hn q);exact bg (Yh (ha pos j s M H _ I h) λus s1 ⟨vs,H1,I1,r1,q1⟩=>O j s1 M H1 vs us Q I1 r1 q1) he J
end
end L2
namespace HT
open PySem PyProof.Rows
section
open PySem.SeqAt
open PySem.AutoSeq1 (wpAny_loadPart')
open PySem.MeetsSeq PySem.MeetsSeq2 PySem.MeetsSeq3
end
section
variable {prog:Program}{w:World}{A:Around}{E:TU}{s:Shared}
def sIx (n d:Nat):Option Int->Nat
 |none=>d
 |some v=>if v<0 then (v+(n:Int)).toNat else min v.toNat n
theorem ZeA (n d k:Nat):sIx n d (some (k:Int))=min k n:=by
 show (if (k:Int)<0 then ((k:Int)+(n:Int)).toNat else min (k:Int).toNat n)=min k n
 rw[if_neg (by omega),Zj]
end
end HT
namespace L2
open PySem PySem.Spec PyProof.Rows
noncomputable abbrev TO:=St->Hp->(Option Int->Hp->Prop)->Prop
def PO (X:Cx)(e:Option Expr)(t:TO):Prop:=
 ∀(j:List (Addr×Obj)) (s:Shared) (q:St) (H:Hp) (Q:Option Int->Hp->Prop),Inv X j q H s->t q H Q->
  wpAny (model X.prog X.w) X.A (evalPart e X.env) (λu M=>∃o J,Inv X j q J M/\IsPart u o/\Q o J) X.xe s
def Zjo:TO:=λ_ H Q=>Q none H
inductive iPt (Q:Option Int->Hp->Prop) (x:V) (H:Hp):Prop
 |mk (i:Int):x=.int i->Q (some i) H->iPt Q x H
def ZnF (t:TE):TO:=λj H Q=>t j H (iPt Q)
theorem intsAre_of {ns:TV}:∀{us:List Value},ZO (ns.map V.int) us->bB us ns:=by
 induction ns with
 |nil=>intro us r;rw[e7] at r;cases r;exact .nil
 |cons n ns j=>
  intro us r;rw[aB] at r;cases r with
  |cons q J=>
   obtain⟨t,e⟩:=q;subst e;exact .cons n t (j J)
section
variable {X:Cx}{e:Expr}{te:TE}{lo hi:Option Expr}{tl th:TO}{pos p2:Pos}
theorem Zbt:PO X none Zjo:=by
 intro j s q H Q I h;rw[lR];exact Zm ⟨none,H,I,.none,h⟩
theorem Zbs (h:PE X e te):PO X (some e) (ZnF te):=by
 intro j s J H Q I M;rw[evalPart_some];refine Yh (h j s J H _ I M) λu s1 ⟨x,O,U,r1,Y⟩=>?_;obtain⟨i,rfl,q⟩:=Y;obtain⟨t,rfl⟩:=r1;exact⟨some i,O,U,.int i t,q⟩
def SlR (X:Cx)(r:V->Option Int->Option Int->Hp->VK->Prop):Prop:=
 ∀(j:List (Addr×Obj)) (s:Shared) (q:St) (H:Hp) (x:V) (v J M:Value) (lo hi:Option Int) (O:Addr) (Q:VK),Inv X j q H s->RelV x v->s.heap.IsSliceOf O J M .none->IsPart J lo->IsPart M hi->r x lo hi H Q->
  ∃T id,typeLookup (.type T) "__getitem__"=pure (some (.builtin id))/\s.TypeIs v T/\wpAny (model X.prog X.w) X.A (getItem v (.ref O)) (EP X j q Q) X.xe s
def tSl (r:V->Option Int->Option Int->Hp->VK->Prop)(te:TE)(tl th:TO):TE:=λj H Q=>te j H λx q=>tl j q λl J=>th j J λu M=>r x l u M Q
theorem Uq {r:V->Option Int->Option Int->Hp->VK->Prop}(hr:SlR X r)(he:PE X e te)(hl:PO X lo tl)(hu:PO X hi th):PE X (.Subscript e (.Slice lo hi none p2) pos) (tSl r te tl th):=by
 intro j s M H Q I h;refine kZ (Yh (he j s M H _ I h) λv s1 ⟨x,H1,I1,r1,q1⟩=>?_);refine wpAny_Slice (Yh (hl j s1 M H1 _ I1 q1) λO s2 ⟨l,H2,I2,pl,q2⟩=>Yh (hu j s2 M H2 _ I2 q2) λU J ⟨u,Y,I3,pu,q3⟩=>?_);rw[lR];refine Zm ?_;have I4:Inv X j M Y {J with heap:=J.heap.push {cls:=.type "slice",data:=.fields #[O,U,.none]}}:=I3.kept (t':=J.toks) λb ob q=>Zn _ q;obtain⟨T,id,hT,ht,hg⟩:=hr j {J with heap:=J.heap.push {cls:=.type "slice",data:=.fields #[O,U,.none]}} M Y x v O U l u J.heap.objs.size Q I4 r1 (jB ..) pl pu q3;show wpAny (model X.prog X.w) X.A (subscriptTail e (.Slice lo hi none p2) v (.ref J.heap.objs.size)) (EP X j M Q) X.xe {J with heap:=J.heap.push {cls:=.type "slice",data:=.fields #[O,U,.none]}};exact tail_any (ops:=[.ref J.heap.objs.size,v]) ht hT hg (by with_unfolding_all rfl)
def ZbS (xs:TL)(lo hi:Option Int):TL:=(xs.drop (HT.sIx xs.length 0 lo)).take (HT.sIx xs.length xs.length hi-HT.sIx xs.length 0 lo)
theorem VB (xs:TL)(lo hi:Option Int):(ZbS xs lo hi).length<=xs.length:=by
 unfold ZbS;rw[b8,dX];omega
end
def ixN (n:Nat)(i:Int):Option Nat:=if 0<=i then (if i<n then some i.toNat else none) else if -(n:Int)<=i then some (i+n).toNat else none
def Xu {α:Type}(xs:List α)(i:Int):Option α:=(ixN xs.length i).bind λj=>xs[j]?
theorem Ze4 {n:Nat}{i:Int}{j:Nat}(h:ixN n i=some j):seqIndex? i n=some j/\j<n/\-(n:Int)<=i/\i<n:=by
 unfold ixN at h;by_cases J:0<=i
 ·rw[if_pos J] at h
  by_cases q:i<n
  ·rw[if_pos q] at h
   have e:i.toNat=j:=ax h;exact⟨by rw[seqIndex_of J q,e],by omega,by omega,q⟩
  ·rw[if_neg q] at h;cases h
 ·rw[if_neg J] at h
  by_cases q:-(n:Int)<=i
  ·rw[if_pos q] at h
   have e:(i+n).toNat=j:=ax h;exact⟨by rw[seqIndex_neg (by omega) q,e],by omega,q,by omega⟩
  ·rw[if_neg q] at h;cases h
theorem Zfn {α:Type}{xs:List α}{i:Int}{v:α}(h:Xu xs i=some v):∃j,seqIndex? i xs.length=some j/\xs[j]?=some v/\j<xs.length/\-(xs.length:Int)<=i/\i<xs.length:=by
 unfold Xu at h;cases e:ixN xs.length i with
 |none=>rw[e] at h;cases h
 |some j=>
  rw[e] at h;obtain⟨q,J,M,O⟩:=Ze4 e;exact⟨j,q,h,J,M,O⟩
theorem ZA {α:Type}{xs:List α}{j:Nat}{v:α}(h:xs[j]?=some v):Xu xs (j:Int)=some v:=by
 have q:j<xs.length:=(ac.mp h).1;have e:ixN xs.length (j:Int)=some j:=by
  unfold ixN;rw[if_pos (by omega),if_pos (by omega)];simp
 unfold Xu;rw[e];exact h
theorem UX {α:Type}(xs:List α)(v:α):Xu (xs++[v]) (-1)=some v:=by
 have j:(xs++[v]).length=xs.length+1:=by simp
 have e:ixN (xs++[v]).length (-1)=some xs.length:=by
  unfold ixN;rw[j,if_neg (by decide),if_pos (by omega)];congr 1;omega
 unfold Xu;rw[e];show (xs++[v])[xs.length]?=some v;simp
def ZkX (b:Expr):Prop:=∀o i,subscripted b false o i=operate [o,i] (getItem o i)
def IxR (X:Cx)(r:R2):Prop:=
 ∀(J j:Expr) (q:List (Addr×Obj)) (s:Shared) (M:St) (H:Hp) (x y:V) (v u:Value) (Q:VK),Inv X q M H s->RelV x v->RelV y u->r x y H Q->
  subscripted j false v u=operate [v,u] (getItem v u)->wpAny (model X.prog X.w) X.A (subscriptTail J j v u) (EP X q M Q) X.xe s
def MtR (X:Cx)(id:String)(r:V->TL->Hp->VK->Prop):Prop:=
 ∀(j:List (Addr×Obj)) (s:Shared) (q:St) (H:Hp) (x:V) (J:TL) (v:Value) (M:List Value) (Q:VK),Inv X j q H s->RelV x v->ZO J M->r x J H Q->
  wpAny (model X.prog X.w) X.A (call (.builtin id) (v::M)) (EP X j q Q) X.xe s
section
variable {X:Cx}{a b:Expr}{ta tb:TE}{pos:Pos}
theorem ZB {r:R2}(J:IxR X r)(M:PE X a ta)(hb:PE X b tb)(O:ZkX b):PE X (.Subscript a b pos) (tOp r ta tb):=by
 intro j s U H Q I h;exact kZ (Znb M hb I h λv u Y x y H2 I2 rx ry q=>J a b j Y U H2 x y v u Q I2 rx ry q (O _ _))
inductive Zma (K:aa) (x:V) (y:V) (H:Hp) (Q:VK):Prop
 |mk (p:_) (xs:_) (i:_) (v:_):(x=.ref p)->(y=.int i)->(Wp K H p xs)->(Xu xs i=some v)->(Q v H)->Zma K x y H Q
inductive Zl9 (K:aa) (x:V) (y:V) (H:Hp) (Q:VK):Prop
 |mk (p:_) (xs:_) (i:_) (v:_):(x=.ref p)->(y=.int i)->(Xw K H p xs)->(Xu xs i=some v)->(Q v H)->Zl9 K x y H Q
theorem Zkt:IxR X (Zma X.K):=by
 intro O U J s σ H x y v u Q I rx ry h hs;obtain⟨p,xs,i,z,rfl,rfl,hq,he,q⟩:=h;cases rx;obtain⟨t,rfl⟩:=ry;obtain⟨Y,r,pl,hz⟩:=I.list hq;obtain⟨j,M,h2,h3,h4,h5⟩:=Zfn he;obtain⟨w,ew,m5⟩:=r.get h2;have hl:=r.length;have hn:=Xp;have fin:EP X J σ Q w s:=⟨z,H,I,m5,q⟩;by_cases h0:0<=i
 ·have hj:i.toNat=j:=by
   rw[seqIndex_of h0 h5] at M;exact ax M
  exact item_listR pl.isList h0 (by omega) (by rw[hj];simpa using ew) fin hs
 ·have hj:(i+(Y.toArray.size:Int)).toNat=j:=by
   rw[seqIndex_neg (by omega) h4] at M;rw[Zh,<-hl];exact ax M
  exact mD (x:=w) pl.isList.typeIs jI.lookup
   (wpAny_getItem_list_neg (Q:=λr s'=>r=w/\EP X J σ Q r s') pl.isList (by omega) (by rw[Zh] <;> omega) (by omega) (by rw[hj];simpa using ew) ⟨rfl,fin⟩) hs
theorem ZmO:IxR X (Zl9 X.K):=by
 intro M O J s Y H x y v u Q I rx ry h hs;obtain⟨p,xs,i,z,rfl,rfl,hq,he,q⟩:=h;cases rx;obtain⟨t,rfl⟩:=ry;obtain⟨m5,r,pl,hz⟩:=I.tuple hq;obtain⟨j,h1,h2,h3,h4,h5⟩:=Zfn he;obtain⟨w,ew,U⟩:=r.get h2;have hl:=r.length;have hn:=Xp;have fin:EP X J Y Q w s:=⟨z,H,I,U,q⟩;exact mD (x:=w) pl.typeIs slot_tuple_getitem.lookup
  (getItem_tuple (j:=j) (Q:=λr s'=>r=w/\EP X J Y Q r s') pl (by omega) (by omega) (by rw[Zh,<-hl];exact h1) (by simpa using ew) ⟨rfl,fin⟩) hs
theorem Zd3 (q:List Value)(n j:Nat)(u:Value):a7 (·.setIfInBounds j u) {cls:=.type "list",data:=.seq q.toArray n}={cls:=.type "list",data:=.seq (q.set j u).toArray n}:=by
 simp[a7]
theorem Inv.lst {q:List (Addr×Obj)}{σ:St}{H:Hp}{s:Shared}{p:Addr}{xs:TL}(I:Inv X q σ H s)(h:H p=some (.lst xs)) :
  ∃(j:List Value) (n:Nat),ZO xs j/\s.heap.get? p=some {cls:=.type "list",data:=.seq j.toArray n}/\xs.length<=sizeLine:=by
 obtain⟨z,j,n,r,e⟩:=I.hok p _ h;exact⟨j,n,r,e,z⟩
theorem Inv.lstUpd {j:List (Addr×Obj)}{σ:St}{H:Hp}{s:Shared}{p:Addr}{xs ys:TL}{J its':List Value}{n M:Nat}{f:Obj->Obj}(I:Inv X j σ H s)(h:H p=some (.lst xs))
  (O:s.heap.get? p=some {cls:=.type "list",data:=.seq J.toArray n}) (hf:f {cls:=.type "list",data:=.seq J.toArray n}={cls:=.type "list",data:=.seq its'.toArray M}) (r:ZO ys its') (hz:ys.length<=sizeLine) (t:Nat) :
  Inv X j σ (upd H p (.lst ys)) {s with heap:=s.heap.update p f,toks:=t}:=by
 have e:(s.heap.update p f).get? p=some {cls:=.type "list",data:=.seq its'.toArray M}:=by
  rw[br f O (by rw[hf] <;> rfl),hf]
 refine I.write (x:=p) (e:=p) (by rw[h];trivial) (.inl rfl) (λb u hb q=>(bQ _ _ (bE hb)).trans q) ⟨_,e⟩ ?_;exact⟨hz,its',M,r,e⟩
inductive Zli (o:V) (i:V) (v:V) (H:Hp) (Q:(Hp->Prop)):Prop
 |mk (p:_) (xs:_) (k:_) (j:_):(o=.ref p)->(i=.int k)->(H p=some (.lst xs))->(ixN xs.length k=some j)->(Q (upd H p (.lst (xs.set j v))))->Zli o i v H Q
theorem YB:Znj X Zli:=by
 intro J s σ H o i v ov iv u Q I ro ri rv h;obtain⟨p,xs,k,j,rfl,rfl,hp,hj,q⟩:=h;cases ro;obtain⟨t,rfl⟩:=ri;obtain⟨M,n,r,U,hz⟩:=I.lst hp;obtain⟨O,h2,h3,h4⟩:=Ze4 hj;have Y:=r.length;have hn:=Xp;have I':Inv X J σ (upd H p (.lst (xs.set j v))) {s with heap:=s.heap.update p (a7 (·.setIfInBounds j u))}:=
  I.lstUpd hp U (Zd3 M n j u) (r.set rv j) (by rw[aX];exact hz) s.toks
 by_cases h0:0<=k
 ·have hk:k.toNat=j:=by
   rw[seqIndex_of h0 h4] at O;exact ax O
  exact PySem.W.ki_setAt U h0 (by omega) (by rw[Zh,<-Y];exact h4) (by rw[hk];exact⟨_,I',q⟩)
 ·have hk:(k+(M.toArray.size:Int)).toNat=j:=by
   rw[seqIndex_neg (by omega) h3] at O;rw[Zh,<-Y];exact ax O
  exact PySem.W.ki_setBack U (by omega) (by rw[Zh,<-Y];exact h3) (by omega) (by rw[hk];exact⟨_,I',q⟩)
theorem Zbi (lo j:Option Int)(n:Nat):(sliceBounds lo j none n).1=((HT.sIx n 0 lo:Nat):Int)/\(sliceBounds lo j none n).2.1=((HT.sIx n n j:Nat):Int)/\(sliceBounds lo j none n).2.2=1:=by
 refine⟨?_,?_,rfl⟩
 ·cases lo with
  |none=>simp[sliceBounds,HT.sIx]
  |some i=>
   simp only[sliceBounds,HT.sIx,mi,show (1:Int) > 0 by decide,if_true];by_cases h:i<0
   ·simp only[h,if_true] <;> omega
   ·simp only[h,if_false] <;> omega
 ·cases j with
  |none=>simp[sliceBounds,HT.sIx]
  |some i=>
   simp only[sliceBounds,HT.sIx,mi,show (1:Int) > 0 by decide,if_true];by_cases h:i<0
   ·simp only[h,if_true] <;> omega
   ·simp only[h,if_false] <;> omega
theorem U6 (j:List Value)(lo q:Option Int):slicePick j.toArray lo q none=((j.drop (HT.sIx j.length 0 lo)).take (HT.sIx j.length j.length q-HT.sIx j.length 0 lo)).toArray:=by
 obtain⟨J,M,O⟩:=Zbi lo q j.toArray.size;unfold slicePick;rw[J,M,O];simp only[sliceRange_one,pick_run,Zh] <;> rfl
inductive Zn5 (K:aa) (x:V) (lo:Option Int) (hi:Option Int) (H:Hp) (Q:VK):Prop
 |mk (a:_) (xs:_):(x=.ref a)->(Wp K H a xs)->(∀p,H p=none->Q (.ref p) (upd H p (.lst (ZbS xs lo hi))))->Zn5 K x lo hi H Q
theorem Zbj:SlR X (Zn5 X.K):=by
 intro M s σ H x v vl vu lo J sl Q I U Y pl pu h;obtain⟨a,xs,rfl,hx,q⟩:=h;cases U;obtain⟨m5,r,O,hz⟩:=I.list hx;have j:=r.length;refine⟨"list",_,jI.lookup,O.isList.typeIs,?_⟩;refine lO O.isList Y pl pu .none (by simp) ?_ (by rw[Zh] <;> omega)
 rw[U6,<-j];refine⟨.ref s.heap.objs.size,_,I.laid (t':=s.toks) (o:=.lst (ZbS xs lo J)) (λb ob q=>Zn _ q) (Zq _) ?_,rfl,q _ (I.hok.fresh (Zq _))⟩;exact⟨aW (VB xs lo J) hz,_,0,(r.drop (HT.sIx xs.length 0 lo)).take (HT.sIx xs.length xs.length J-HT.sIx xs.length 0 lo),Zo _ rfl⟩
def Vz:V->Bool
 | .non=>true
 | .bl _=>true
 | .int _=>true
 | .str _=>true
 |_=>false
def eqV:V->V->Bool
 | .non,.non=>true
 | .bl a,.bl b=>a == b
 | .bl a,.int b=>(if a then 1 else 0) == b
 | .int a,.bl b=>a == (if b then 1 else 0)
 | .int a,.int b=>a == b
 | .str a,.str b=>a == b
 |_,_=>false
theorem ZmX {A:Around}{s:Shared}{y x:V}{u v:Value}(J:RelV y u)(j:RelV x v)(O:Vz y=true)(M:Vz x=true):j5 A s u v (eqV y x):=by
 cases y with
 |non=>
  cases J;cases x with
  |non=>cases j;exact SeqAt.EqAt.same _
  |bl b=>cases j;exact SeqAt.EqAt.none_bool b
  |int b=>obtain⟨t,rfl⟩:=j;exact SeqAt.EqAt.none_int b t
  |str b=>obtain⟨t,rfl⟩:=j;exact SeqAt.EqAt.none_str b t
  |_=>exact absurd (show false=true from M) aH
 |bl a=>
  cases J;cases x with
  |non=>cases j;exact SeqAt.EqAt.bool_none a
  |bl b=>cases j;exact SeqAt.EqAt.bool_bool a b
  |int b=>obtain⟨t,rfl⟩:=j;exact SeqAt.EqAt.bool_int a b t
  |str b=>obtain⟨t,rfl⟩:=j;exact SeqAt.EqAt.bool_str a b t
  |_=>exact absurd (show false=true from M) aH
 |int a=>
  obtain⟨q,rfl⟩:=J;cases x with
  |non=>cases j;exact SeqAt.EqAt.int_none a q
  |bl b=>cases j;exact SeqAt.EqAt.int_bool a q b
  |int b=>obtain⟨t,rfl⟩:=j;exact jA a q b t
  |str b=>obtain⟨t,rfl⟩:=j;exact kc a q b t
  |_=>exact absurd (show false=true from M) aH
 |str a=>
  obtain⟨q,rfl⟩:=J;cases x with
  |non=>cases j;exact SeqAt.EqAt.str_none a q
  |bl b=>cases j;exact SeqAt.EqAt.str_bool a q b
  |int b=>obtain⟨t,rfl⟩:=j;exact ka a q b t
  |str b=>obtain⟨t,rfl⟩:=j;exact SeqAt.EqAt.str_str a q b t
  |_=>exact absurd (show false=true from M) aH
 |_=>exact absurd (show false=true from O) aH
def eqU (x:V)(u:Value):Bool:=match u with
 | .none=>eqV .non x
 | .bool b=>eqV (.bl b) x
 | .int i _=>eqV (.int i) x
 | .str z _=>eqV (.str z) x
 |_=>false
theorem ZiH {x y:V}{u:Value}(r:RelV y u)(f:Vz y=true):eqU x u=eqV y x:=by
 cases y with
 |non=>cases r;rfl
 |bl b=>cases r;rfl
 |int i=>obtain⟨t,rfl⟩:=r;rfl
 |str z=>obtain⟨t,rfl⟩:=r;rfl
 |_=>exact absurd (show false=true from f) aH
theorem ZcT {A:Around}{s:Shared}{x:V}{v:Value}(q:RelV x v)(J:Vz x=true):∀{xs:TL}{us:List Value},ZO xs us->xs.all Vz=true->∀u∈us,j5 A s u v (eqU x u)
 |_,_,.nil,_=>λu j=>by cases j
 |y::xs,u::us,.cons r t,f=>λM j=>by
  rw[List.all_cons,ah] at f;rcases aD.mp j with rfl|j
  ·rw[ZiH r f.1];exact ZmX r q f.1 J
  ·exact ZcT q J t f.2 M j
inductive I_call_len_seq (K:aa) (xs:TL) (H:Hp) (Q:VK):Prop
 |mk (p:_) (ys:_):(xs=[.ref p])->((Wp K H p ys\/Xw K H p ys))->(Q (.int ys.length) H)->I_call_len_seq K xs H Q
theorem Zb1:Yd X (.builtin "len") (_root_.L2.I_call_len_seq X.K):=by
 intro U s σ H xs us Q I r h;obtain⟨p,Y,rfl,j,q⟩:=h;obtain⟨u,rfl,rx⟩:=vals1 r;cases rx;have hn:=Xp;rcases j with j|j
 ·obtain⟨J,M,O,hz⟩:=I.list j
  have hlen:=M.length;exact Calls.call_len_list O.isList (by simp only[Zh] <;> omega) ⟨.int Y.length,H,I.tok _,⟨s.toks+1,by rw[Zh,hlen]⟩,q⟩
 ·obtain⟨J,M,O,hz⟩:=I.tuple j
  have hlen:=M.length;exact len_tuple O (by simp only[Zh] <;> omega) ⟨.int Y.length,H,I.tok _,⟨s.toks+1,by rw[Zh,hlen]⟩,q⟩
inductive I_call_list_of (K:aa) (xs:TL) (H:Hp) (Q:VK):Prop
 |mk (p:_) (ys:_):(xs=[.ref p])->((Wp K H p ys\/Xw K H p ys))->(∀l,H l=none->Q (.ref l) (upd H l (.lst ys)))->I_call_list_of K xs H Q
theorem JC:Yd X (.type "list") (_root_.L2.I_call_list_of X.K):=by
 intro U s σ H xs us Q I r h;obtain⟨p,ys,rfl,Y,q⟩:=h;obtain⟨u,rfl,rx⟩:=vals1 r;cases rx;have m5:∀(j:List Value),ZO ys j->ys.length<=sizeLine->∀(J:Heap) (M:Nat),(∀b o',s.heap.get? b=some o'->J.get? b=some o')->
   J.get? s.heap.objs.size=some {cls:=.type "list",dict:=none,data:=.seq j.toArray M,slots:=#[]}->EP X U σ Q (.ref s.heap.objs.size) {s with heap:=J}:=λj O hz J M kp e=>
  ⟨.ref s.heap.objs.size,_,I.laid (t':=s.toks) kp (Zq _) (show Yk X.prog X.w _ J _ (.lst ys) from ⟨hz,j,M,O,e⟩),rfl,q _ (I.hok.fresh (Zq _))⟩
 rcases Y with Y|Y
 ·obtain⟨j,O,pl,hz⟩:=I.list Y
  have m6:=O.length;obtain⟨o,ho,hc,n,hd⟩:=pl.isList;exact call_list_seq p (.inl rfl) ho hc hd (λJ M kp e=>m5 j O hz J M kp e) (by simp only[Zh] <;> omega)
 ·obtain⟨j,O,pl,hz⟩:=I.tuple Y
  have m6:=O.length;obtain⟨o,ho,hc,n,hd⟩:=pl;exact call_list_seq p (.inr rfl) ho hc hd (λJ M kp e=>m5 j O hz J M kp e) (by simp only[Zh] <;> omega)
inductive I_call_tuple_of (K:aa) (xs:TL) (H:Hp) (Q:VK):Prop
 |mk (p:_) (ys:_):(xs=[.ref p])->(((Wp K H p ys/\∀l,H l=none->Q (.ref l) (upd H l (.tup ys)))\/(Xw K H p ys/\Q (.ref p) H)))->I_call_tuple_of K xs H Q
theorem ZL:Yd X (.type "tuple") (_root_.L2.I_call_tuple_of X.K):=by
 intro j s σ H xs us Q I r h;obtain⟨p,ys,rfl,h⟩:=h;obtain⟨u,rfl,rx⟩:=vals1 r;cases rx;rcases h with ⟨O,q⟩|⟨O,q⟩
 ·obtain⟨J,U,Y,hz⟩:=I.list O
  have m5:=U.length;refine call_tuple_list Y.isList (λM kp=>?_) (by simp only[Zh] <;> omega)
  have I1:Inv X j σ H {s with heap:=M}:=I.kept (t':=s.toks) kp;have I2:Inv X j σ (upd H M.objs.size (.tup ys)) {s with heap:=M.push {cls:=.type "tuple",data:=.seq J.toArray}}:=
   I1.laid (t':=s.toks) (λb o e=>Zn _ e) (Zq _) (show Yk X.prog X.w _ _ _ (.tup ys) from ⟨hz,J,U,ki _ _⟩)
  exact⟨.ref M.objs.size,_,I2,rfl,q _ (I1.hok.fresh (Zq _))⟩
 ·obtain⟨J,U,Y,hz⟩:=I.tuple O
  exact call_tuple_same Y ⟨.ref p,H,I,rfl,q⟩
def tyV (K:aa)(T:String)(x:V)(H:Hp):Prop:=match x with
 | .str _=>T = "str"
 | .int _=>T = "int"
 | .ref p=>(T = "list"/\∃q,Wp K H p q)\/(T = "tuple"/\∃o,K.lookup p=some o/\o.cls=.type "tuple"/\o.dict=none)\/
   (T = "dict"/\((∃j,H p=some (.dK j))\/∃j,H p=some (.dT j)))\/(T = "set"/\∃S n,H p=some (.set S n))
 |_=>False
theorem ZlM {q:List (Addr×Obj)}{σ:St}{H:Hp}{s:Shared}{T:String}{x:V}{v:Value}(I:Inv X q σ H s)(r:RelV x v)(J:tyV X.K T x H) :
  s.TypeIs v T/\∀a,v=.ref a->∃U,s.heap.get? a=some U/\U.dict=none:=by
 cases x with
 |str z=>
  obtain⟨t,rfl⟩:=r;cases (show T = "str" from J);exact⟨typeIs_str s z t,λ_ e=>nomatch e⟩
 |int i=>
  obtain⟨t,rfl⟩:=r;cases (show T = "int" from J);exact⟨typeIs_int s i t,λ_ e=>nomatch e⟩
 |ref p=>
  cases r;rcases J with ⟨rfl,xs,hq⟩|⟨rfl,o,j,hc,hd⟩|⟨rfl,j⟩|⟨rfl,S,n,j⟩
  ·obtain⟨m5,_,Y,_⟩:=I.list hq
   refine⟨Y.isList.typeIs,λa e=>?_⟩;cases e;obtain⟨o,n,e,c,hd,_⟩:=Y;exact⟨o,e,hd⟩
  ·refine⟨⟨o,I.kIn p o j,hc⟩,λa e=>?_⟩
   cases e;exact⟨o,I.kIn _ o j,hd⟩
  ·have z:∃o,s.heap.get? p=some o/\o.ExactDict:=by
    rcases j with ⟨M,j⟩|⟨M,j⟩
    ·obtain⟨_,_,_,_,o,_,_,e,ex,_⟩:=I.hok p _ j
     exact⟨o,e,ex⟩
    ·obtain⟨_,_,_,_,o,_,_,e,ex,_⟩:=I.hok p _ j
     exact⟨o,e,ex⟩
   obtain⟨o,e,ex⟩:=z;refine⟨⟨o,e,ex.1⟩,λa O=>?_⟩;cases O;exact⟨o,e,ex.2.1⟩
  ·obtain⟨o,_,_,_,e,ex,_⟩:=I.hok p _ j
   refine⟨⟨o,e,ex.1⟩,λa O=>?_⟩;cases O;exact⟨o,e,ex.2.1⟩
 |_=>exact dR J
inductive iBM (K:aa) (T:String) (r:V->TL->Hp->VK->Prop) (t:TA) (σ:St) (Q:VK) (x:V) (H:Hp):Prop
 |mk:tyV K T x H->(t σ H λxs H2=>r x xs H2 Q)->iBM K T r t σ Q x H
def tBM (K:aa)(T:String)(r:V->TL->Hp->VK->Prop)(q:TE)(t:TA):TE:=λj H Q=>q j H (iBM K T r t j Q)
variable {o e:Expr}{es:List Expr}{to:TE}{t:TA}{name:Str}{apos cpos:Pos}{T id:String}{r:V->TL->Hp->VK->Prop}
theorem Wh (pa:PlainAttrs T)(slot:Slot T name id)(U:typeOf (.builtin id)=pure (.type "method_descriptor"))(hm:MtR X id r)(ho:PE X o to)(ha:PA X (e::es) t)
  (J:attributeBase o name X.env (eval o X.env)=eval o X.env:=by rfl)
  (O:((backTo cpos (starEach (e::es) X.env)).all (λx=>!x.1) && (backToKw cpos (keywordEach [] X.env)).all (λx=>x.1.isSome)
   && decide ((e::es).length+([]:List Keyword).length+(if ([]:List Keyword).isEmpty then 0 else 1)<30))=true:=by rfl)
  (M:(apos.endLine == cpos.line)=true:=by rfl) (hs:starEach (e::es) X.env=(false,eval e X.env)::starEach es X.env:=by rfl) (q:(backTo cpos (starEach es X.env)).any (·.1)=false:=by rfl) :
  PE X (.Call (.Attribute o name apos) (e::es) [] cpos) (tBM X.K T r to t):=by
 intro j s Y H Q I h;refine mr J O M rfl (Yh (ho j s Y H _ I h) λv s1 ⟨x,H1,I1,r1,ty,q1⟩=>?_);obtain⟨h1,h2⟩:=ZlM I1 r1 ty;refine⟨T,id,pa,slot,U,h1,h2,?_⟩;have hA:=ha cpos j s1 Y H1 _ I1 q1;rw[hs] at hA ⊢;refine kB (by show (false || (backTo cpos (starEach es X.env)).any (·.1))=false;rw[q] <;> rfl) (kT ?_)
 exact Yh hA λus s2 ⟨vs,H2,I2,r2,q2⟩=>hm j s2 Y H2 x vs v us Q I2 r1 r2 q2
end
def MtM (X:Cx)(id:String)(r:V->TL->Hp->VK->Prop):Prop:=
 ∀(j:List (Addr×Obj)) (s:Shared) (q:St) (H:Hp) (x:V) (J:TL) (v:Value) (M:List Value) (Q:VK),Inv X j q H s->RelV x v->ZO J M->r x J H Q->
  wpAny (model X.prog X.w) X.A (call (.builtin id) (v::M)) (EP X j q Q) X.xe s
theorem ZO.one {x:V}{us:List Value}(h:ZO [x] us):∃u,us=[u]/\RelV x u:=by
 cases h with
 |cons r t=>cases t;exact⟨_,rfl,r⟩
theorem ZO.two {x y:V}{us:List Value}(h:ZO [x,y] us):∃u v,us=[u,v]/\RelV x u/\RelV y v:=by
 cases h with
 |cons r t=>
  obtain⟨v,rfl,q⟩:=ZO.one t;exact⟨_,_,rfl,r,q⟩
theorem ZO.eraseIdx:∀{xs:TL}{us:List Value} (i:Nat),ZO xs us->ZO (xs.eraseIdx i) (us.eraseIdx i)
 |_,_,_,.nil=>.nil
 |_,_,0,.cons _ t=>t
 |_,_,i+1,.cons r t=>.cons r (ZO.eraseIdx i t)
theorem ZO.rep {xs:TL}{us:List Value}(h:ZO xs us):∀k:Nat,ZO (aw k xs).flatten (aw k us).flatten
 |0=>.nil
 |k+1=>by
  rw[bf,bf,ce,ce];exact ZO.append h (ZO.rep h k)
theorem ZaA {α:Type}:∀(l:List α) (i:Nat),(l.eraseIdx i).length<=l.length
 | [],_=>Zq _
 |_::_,0=>fH _
 |_::r,i+1=>Nat.succ_le_succ (ZaA r i)
theorem foldl_rep (j:List Value):∀(k:Nat) (ZJ:List Value),
  mo (λq J=>q++J) ZJ.toArray (aw k j.toArray)=(ZJ++(aw k j).flatten).toArray
 |0,ZJ=>by simp
 |k+1,ZJ=>by
  have e:ZJ.toArray++j.toArray=(ZJ++j).toArray:=by simp
  have M:(ZJ++j)++(aw k j).flatten=ZJ++(aw (k+1) j).flatten:=by
   rw[bf,ce,gx]
  rw[<-M,<-foldl_rep j k (ZJ++j),<-e,bf,List.foldl_cons]
section
variable {X:Cx}{pins:List (Addr×Obj)}{σ:St}{H:Hp}{s:Shared}{l b:Addr}{xs ys zs:TL}
theorem Inv.lset {j its':List Value}{n:Nat}{f:Array Value->Array Value}{t':Nat}(I:Inv X pins σ H s)(J:H l=some (.lst xs))
  (e:s.heap.get? l=some {cls:=.type "list",data:=.seq j.toArray n}) (M:f j.toArray=its'.toArray) (O:ZO ys its') (hz:ys.length<=sizeLine) :
  Inv X pins σ (upd H l (.lst ys)) {s with heap:=s.heap.update l (a7 f),toks:=t'}:=by
 have q:=PySem.IsL.update e f;rw[M] at q;refine I.write (x:=l) (e:=l) (by rw[J];exact trivial) (.inl rfl) (λY u hb U=>(bQ s.heap (a7 f) (bE hb)).trans U) ⟨_,q⟩ ?_;exact⟨hz,its',_,O,q⟩
theorem Inv.lnew {j:List Value}{t':Nat}(I:Inv X pins σ H s)(J:ZO ys j)(hz:ys.length<=sizeLine) :
  Inv X pins σ (upd H s.heap.objs.size (.lst ys)) {s with heap:=s.heap.push {cls:=.type "list",data:=.seq j.toArray},toks:=t'}:=
 I.laid (λ_ _ q=>Zn _ q) (Zq _) ⟨hz,j,0,J,Zo _ rfl⟩
theorem Inv.fresh (I:Inv X pins σ H s):H s.heap.objs.size=none:=I.hok.fresh (Zq _)
theorem Inv.lstM (I:Inv X pins σ H s)(q:H l=some (.lst xs)):xs.length<=sizeLine/\∃(j:List Value) (n:Nat),ZO xs j/\xs.length=j.length/\s.heap.get? l=some {cls:=.type "list",data:=.seq j.toArray n}:=by
 obtain⟨z,j,n,r,e⟩:=I.hok l _ q;exact⟨z,j,n,r,r.length,e⟩
theorem ZcN {n:Nat}(h:n<=sizeLine):dO n=false:=by
 unfold dO;exact decide_eq_false (by omega)
end
section
variable {X:Cx}
inductive ZeN (x:V) (vs:TL) (H:Hp) (Q:VK):Prop
 |mk (l:_) (xs:_) (y:_):(x=.ref l)->(vs=[y])->(H l=some (.lst xs))->(xs.length<sizeLine)->(Q .non (upd H l (.lst (xs++[y]))))->ZeN x vs H Q
theorem ZZ:MtM X "list.append" ZeN:=by
 intro J s σ H x vs v us Q I U Y h;obtain⟨l,xs,y,rfl,rfl,M,hz,q⟩:=h;cases U;obtain⟨u,rfl,ru⟩:=Y.one;obtain⟨z,j,n,r,hl,e⟩:=I.lstM M;refine gL aO ⟨_,e,rfl⟩ F.entry_list_append (F.args_list_append_2 _ _) (PySem.list_append l j.toArray n u (by rw[Zh];omega)) ⟨e,?_⟩;refine⟨.non,_,I.lset (its':=j++[u]) M e (by simp) (r.append (.cons ru .nil)) ?_,rfl,q⟩;rw[Zd,Zk];omega
inductive ZeM (x:V) (vs:TL) (H:Hp) (Q:VK):Prop
 |mk (l:_) (b:_) (xs:_) (zs:_):(x=.ref l)->(vs=[.ref b])->(H l=some (.lst xs))->(H b=some (.lst zs))->(xs.length+zs.length<=sizeLine)->(Q .non (upd H l (.lst (xs++zs))))->ZeM x vs H Q
theorem ZfT:MtM X "list.extend" ZeM:=by
 intro U s σ H x vs v us Q I rx rv h;obtain⟨l,b,xs,zs,rfl,rfl,Y,hB,hz,q⟩:=h;cases rx;obtain⟨u,rfl,ru⟩:=rv.one;cases ru;obtain⟨z,J,n,r,hl,e⟩:=I.lstM Y;obtain⟨z2,j,n2,r2,m6,e2⟩:=I.lstM hB;have O:J.toArray.size+j.toArray.size<=sizeLine:=by rw[Zh,Zh];omega
 have M:¬(!J.toArray.isEmpty && dO (J.toArray.size+j.toArray.size))=true:=by
  rw[ZcN O,Bool.and_false];exact aH
 refine gL kQ ⟨_,e,rfl⟩ F.entry_list_extend (F.args_list_extend_2 _ _)
  (AutoSeq1.list_extend_list_list_0 l J.toArray n b j.toArray n2 M (by rw[Zh];omega) (by omega)) ⟨e,e2,?_⟩
 refine⟨.non,_,I.lset (its':=J++j) Y e (by simp) (r.append r2) ?_,rfl,q⟩;rw[Zd];omega
inductive Zn7 (x:V) (y:V) (H:Hp) (Q:VK):Prop
 |mk (l:_) (b:_) (xs:_) (zs:_):(x=.ref l)->(y=.ref b)->(H l=some (.lst xs))->(H b=some (.lst zs))->(xs.length+zs.length<=sizeLine)->(∀p,H p=none->Q (.ref p) (upd H p (.lst (xs++zs))))->Zn7 x y H Q
theorem Ut:X8 X (binaryOp .Add) Zn7:=by
 intro M s σ H x y v u Q I O U h;obtain⟨l,b,xs,zs,rfl,rfl,Y,hB,hz,q⟩:=h;cases O;cases U;obtain⟨z,J,n,r,hl,e⟩:=I.lstM Y;obtain⟨z2,j,n2,r2,m5,e2⟩:=I.lstM hB;refine PySem.P.add_list e e2 ?_ (by rw[Zh,Zh];omega);have ea:J.toArray++j.toArray=(J++j).toArray:=by simp
 rw[ea];exact⟨.ref _,_,I.lnew (t':=s.toks) (r.append r2) (by rw[Zd];omega),rfl,q _ I.fresh⟩
inductive Zn6 (x:V) (y:V) (H:Hp) (Q:VK):Prop
 |mk (l:_) (k:_) (xs:_):(x=.ref l)->(y=.int k)->(H l=some (.lst xs))->(-(2 ^ 63)<=k)->(k<2 ^ 63)->(xs.length*k.toNat<=sizeLine)->(∀p,H p=none->Q (.ref p) (upd H p (.lst (aw k.toNat xs).flatten)))->Zn6 x y H Q
theorem Zko {α:Type}(xs:List α)(k:Nat):(aw k xs).flatten.length=k*xs.length:=by
 induction k with
 |zero=>simp
 |succ k j=>rw[bf,ce,Zd,j,cg,Nat.add_comm]
theorem Xn:X8 X (binaryOp .Mult) Zn6:=by
 intro m6 s σ H x y v u Q I rx ry h;obtain⟨l,k,xs,rfl,rfl,hH,h1,h2,hz,q⟩:=h;cases rx;obtain⟨t,rfl⟩:=ry;obtain⟨z,j,n,r,hl,e⟩:=I.lstM hH;have M:j.toArray.size*k.toNat<=sizeLine:=by rw[Zh,<-hl];exact hz
 have O:¬j.toArray.size*k.toNat > (2 ^ 63-1) / 8:=by
  have:(sizeLine:Nat)<=(2 ^ 63-1) / 8:=by decide
  omega
 have Y:¬(!Builtin.List.listFitsIndex k)=true:=by
  rw[fitsIndex_both h1 h2];exact aH
 have J:¬dO (j.toArray.size*k.toNat)=true:=by
  rw[ZcN M];exact aH
 have m5:mo (λx1 x2=>x1++x2) #[] (aw (if j.toArray.isEmpty=true then 0 else k.toNat) j.toArray)=(aw k.toNat j).flatten.toArray:=by
  have f0:∀m:Nat,mo (λx1 x2=>x1++x2) #[] (aw m j.toArray)=(aw m j).flatten.toArray:=λm=>by
   have:=foldl_rep j m [];rw[List.nil_append] at this;exact this
  rw[f0];cases j with
  |nil=>simp
  |cons a r'=>rw[if_neg (by simp)]
 refine wpAny_binaryOp_repeat_ref (T:="list") (U:="int") (by decide) ⟨_,e,rfl⟩ (λs'=>typeIs_int s' k t) noFill_list_mul F.fills_int_mul F.slot_int_rmul repeat_list F.slot_int_index.lookup
  (gL F.slot_int_rmul (typeIs_int s k t) F.entry_int_rmul (F.args_int_rmul_2 _ _) (int___rmul___int_list k t l j.toArray n)
   ⟨e,rfl,⟨_,e,rfl⟩,gL F.slot_list_mul ⟨_,e,rfl⟩ F.entry_list_mul (F.args_list_mul_2 _ _) (AutoListH.list___mul___list_int_3 l j.toArray n k t Y O J) ⟨e,?_⟩⟩)
 rw[m5];exact⟨.ref _,_,I.lnew (t':=s.toks) (r.rep k.toNat) (by rw[Zko,fh];exact hz),rfl,q _ I.fresh⟩
end
section
variable {prog:Program}{w:World}{A:Around}{E:TU}{s:Shared}
end
section
variable {X:Cx}
end
end L2
namespace Att
open PySem PySem.W PySem.Calls PyProof.Rows
theorem VE {P:Params}{h:Heap}:∀(ns:TV) (vs:List Value),WellAll P h vs (ns.map WData.int)->bB vs ns:=by
 intro ns;induction ns with
 |nil=>
  intro vs w;rw[e7] at w;cases w;exact .nil
 |cons n ns j=>
  intro vs w;rw[aB] at w;cases w with
  |cons a b=>
   cases a;exact .cons _ _ (j _ b)
theorem Zfx {l:gy}{n:Nat}(hn:l.most=some n){P:Params}{h:Heap}{args:List WData}{Xz:List Value}
  (j:l.row.toRowW.claim.pre args=true) (U:WellAll P h Xz args) :
  ∃a vs ns,Xz=[aK a]/\args=[WData.list (ns.map WData.int)]/\h.get? a=some {cls:=.type "list",data:=.seq vs.toArray}/\bB vs ns/\ns.length<=n:=by
 have Y:WShape.hasAll [] args [.list .int]=true:=(pre_splitW j).1;have hc:l.pre.holds [] {args:=args}=true:=(pre_splitW j).2;obtain⟨d,r,rfl,h1,h2⟩:=hasAllW_cons Y;obtain rfl:=hasAllW_nil h2;obtain⟨xs,rfl,h3⟩:=hasW_list h1;obtain⟨ns,rfl⟩:=items_int h3;have hlen:ns.length<=n:=by
  unfold OpenLaw.pre at hc;have M:(WTm.not (.lt (.lit (.int (n:Int))) (.len (.arg 0)))).holds [] {args:=[.list (ns.map .int)]}=true:=by
   have M:=(holds_andW hc).1;rw[hn] at M;exact M
  have O:=condW_of M (w_not (w_lt w_lit (w_len_list (w_arg rfl))));rw[Za] at O;refine jy λq=>?_;have q':(n:Int)<((ns.length:Nat):Int):=by omega
  first
   |(rw[decide_eq_true q'] at O;exact absurd O (by decide))
   |(simp at O;omega)
 cases U with
 |cons w1 w2=>
  cases w2;cases w1 with
  |list ho J=>exact⟨_,_,ns,rfl,rfl,ho,VE ns _ J,hlen⟩
theorem ZfC (l:gy)(args:List WData):l.row.toRowW.claim.post args (.bool true) args=true:=
 postW_of (r:=l.row.toRowW) (X:=(true == true))
  (show WShape.has [] (.bool true) .bool=true by first|rfl|decide|simp[WShape.has,WShape.arms,WShape.armsAll])
  (show (WTm.eq .res (.lit (.bool true))).value [] {args:=args,res:=some (.bool true),after:=args}=some (.bool (true == true)) from w_eq_bool (w_res rfl) w_lit) rfl
theorem Zdm {l:gy}{n:Nat}{q:Program}{loose:List Str}{XP:TR->Heap->Prop}{YP:World->Heap->Prop}{d:DefRec}
  (hn:l.most=some n) (m5:d.params.defaults=[])
  (call:∀(w:World) (s₀ j:Shared) (mg mb:TR) (M:Addr) (o:Obj) (pm cd J:Value) (a:Addr) (vs:List Value) (ns:TV),
   Ground q loose [] XP w s₀ mg mb j.heap->YP w j.heap->
   j.heap.get? M=some o->o.data=.func (docDef d.name d.params d.body d.scope pm cd J)->j.heap.CodeRec cd d.name->mg d.name=some (.ref M)->
   j.heap.get? a=some {cls:=.type "list",data:=.seq vs.toArray}->bB vs ns->ns.length<=n->j.gens=#[]->
   codeAny (model l.prog w) callerA (.call (.ref M) ⟨[.ref a],[]⟩) (λr s'=>r=.ok (.ret (.bool true))/\OldK j.heap s'.heap/\s'.os=j.os/\iD s'.gens) j) :
  lV q loose XP YP l.row.toRowW d [] (λf vs=>lS f vs):=by
 intro w s₀ j mg mb G Y M o pm cd J dV kV ho hd m6 hD m7 hg args Xz as O m9 n6 m8 n8;obtain rfl:dV=.none:=Dflts.none hD m5;obtain rfl:kV=.none:=Dflts.noKw hD;obtain⟨a,vs,ns,rfl,rfl,U,hints,hlen⟩:=Zfx hn O m8;refine enter_call (dM (call w s₀ j mg mb M o pm cd J a vs ns G Y ho (fd_plain hd) m6 m7 U hints hlen hg) λr s' hq=>?_);obtain⟨rfl,h2,h3,h4⟩:=hq;exact⟨.inl ⟨.bool true,.bool true,[],rfl,λ_=>rfl,.bool true,ZfC l _,λ_=>⟨fF,λ_ hm=>(nomatch hm)⟩⟩,h2,h3,h4⟩
section
variable {prog:Program}{w:World}{A:Around}{E:TU}{s:Shared}{K:Frag}
end
end Att
namespace L2
open PySem PySem.Spec PyProof.Rows
theorem Zah:∀{vs:List Value}{ns:TV},bB vs ns->ZO (ns.map V.int) vs
 |_,_,.nil=>.nil
 |_,_,.cons n t h=>.cons ⟨t,rfl⟩ (Zah h)
def Znl (H:Hp):Prop:=∀b,H b=none\/∃o j,H b=some (.frz o (.lst j))
theorem Zig {P:Program}{w:World}{K:aa}{mg mb:TR}{CX:CXT}{k:Nat}{fa a:Addr}{fd:FuncData}{x:Str}{sp:Sp}{j:Shared}{vs:List Value}{ns:TV}
  (KX:K.In j.heap) (Y:j.heap.Ns mainGlobals mg) (hb:j.heap.Ns builtinsNs mb) (m8:∀x:Str,x ≠ "__name__"->mb x=bootBuiltins x) (m5:j.heap.NoLimit) (hg:j.gens=#[])
  (ha:j.heap.get? a=some {cls:=.type "list",data:=.seq vs.toArray}) (hi:bB vs ns) (hl:ns.length<=sizeLine) (hr:Jo k callerA)
  (F:∀base:Heap,K.In base->base.Ns mainGlobals mg->Z2 P w K mg base CX k fa fd [x] sp) (U:∀(s:Shared) (u:Value),ja s fd ⟨[u],[]⟩ [(x,u)])
  (m9:∀H:Hp,Znl H->Wp K H a (ns.map V.int)->sp [.ref a] H (λv _=>v=.bl true) λ_ _ _=>False)
  (n6:∀H e s',CX [] H j (λ_ _ _=>False) e s'->False) :
  codeAny (model P w) callerA (.call (.ref fa) ⟨[.ref a],[]⟩) (λr s'=>r=.ok (.ret (.bool true))/\OldK j.heap s'.heap/\s'.os=j.os/\iD s'.gens) j:=by
 have rv:=Zah hi;have Zc0:=hi.length;have O:∀H:Hp,Znl H->Wp K H a (ns.map V.int)->Xy P w H j.heap->(∀b,H b≠none->b=a)->(H a≠none->K.lookup a=none)->
   codeAny (model P w) callerA (.call (.ref fa) ⟨[.ref a],[]⟩) (λr s'=>r=.ok (.ret (.bool true))/\OldK j.heap s'.heap/\s'.os=j.os/\iD s'.gens) j:=by
  intro H hO hS hok hA hK;have J:∀{b:Addr}{o:Obj},j.heap.get? b=some o->H b=none->(ZbJ j.heap H).get? b=some o:=λe n=>Ziv e n;have n8:∀{b:Addr}{o:Obj}{es:Array DictEntry}{ep:Nat},j.heap.get? b=some o->o.data=.dict es ep->H b=none:=λ{b o es ep} e d=>by
   cases q:H b with
   |none=>rfl
   |some u=>
    have e':b=a:=hA b (by rw[q];simp);subst e';rw[ha] at e;cases e;have d':Data.seq vs.toArray _=Data.dict es ep:=d;cases d'
  have M:∀{b:Addr}{m:TR},j.heap.Ns b m->(ZbJ j.heap H).Ns b m:=λ{b m} ⟨o,es,ep,e,d,r⟩=>⟨o,es,ep,J e (n8 e d),d,r⟩;have m6:K.In (ZbJ j.heap H):=λb o e=>J (KX b o e) (by
   cases q:H b with
   |none=>rfl
   |some u=>
    have e':b=a:=hA b (by rw[q];simp);subst e';rw[hK (by rw[q];simp)] at e;cases e)
  have hM:Mod K mg (ZbJ j.heap H):=⟨m6,M Y,⟨mb,M hb,m8⟩,let ⟨mc,h1,h2⟩:=m5;⟨mc,M h1,h2⟩⟩;have e0:Zk0 P w K mg (ZbJ j.heap H) callerA [] j H:=⟨rfl,hM,λb o e=>Zkg e,Nat.le_of_eq (Zf1 _ _),trivial,λb hb=>absurd (show b∈([]:TN) from hb) (by simp),hok,.of_eq hg⟩;refine dM ((F _ m6 (M Y)).run callerA [] j H ⟨[.ref a],[]⟩ [.ref a] [.ref a] _ _ hr e0 (U j (.ref a)) (.cons rfl .nil) (m9 H hO hS)) λr s' h=>?_;cases r with
  |error e=>exact (n6 H e s' h).elim
  |ok fl=>
   cases fl with
   |next=>exact dR h
   |brk=>exact dR h
   |cont=>exact dR h
   |ret u=>
    obtain⟨v,H',os,bare,un,m7,r',q⟩:=h;have q':v=.bl true:=q;subst q';obtain rfl:u=gY true:=r';refine⟨rfl,OldK.of_keep λb o e=>?_,os,bare⟩;cases q:H b with
    |none=>exact un.keep b o e q (by intro z;exact absurd (show b∈([]:TN) from z) (by simp)) (by simp)
    |some u=>
     rcases hO b with z|⟨ob,xs,z⟩
     ·rw[q] at z;cases z
     ·have z2:=un.frzs b ob _ z
      obtain⟨e1,_⟩:=hok b _ z;obtain⟨e2,_⟩:=m7 b _ z2;rw[e] at e1;cases e1;exact e2
 cases hk:K.lookup a with
 |some o=>
  have e:=KX a o hk;rw[ha] at e;cases e;refine O (λ_=>none) (λ_=>.inl rfl) (.inr ⟨_,vs.toArray,_,hk,rfl,rfl,rfl,by rw[Zh,Zc0];exact hl,by simpa using rv⟩) (λb u z=>by have z':(none:Option HO)=some u:=z;cases z') (λb z=>absurd rfl z) λz=>absurd rfl z
 |none=>
  refine O (λb=>if b=a then some (.frz {cls:=.type "list",data:=.seq vs.toArray} (.lst (ns.map V.int))) else none) (λb=>?_) (.inl (.inr ⟨{cls:=.type "list",data:=.seq vs.toArray},if_pos rfl⟩)) (λb u z=>?_) (λb z=>?_) λ_=>hk
  ·by_cases hb:b=a
   ·exact .inr ⟨_,_,if_pos hb⟩
   ·exact .inl (if_neg hb)
  ·by_cases hb:b=a
   ·have z':=(if_pos hb).symm.trans z
    cases z';subst hb;exact⟨ha,by rw[Za];exact hl,vs,_,rv,ha⟩
   ·have z':=(if_neg hb).symm.trans z
    cases z'
  ·by_cases hb:b=a
   ·exact hb
   ·exact absurd (if_neg hb) z
theorem ZaS {l:gy}{n k:Nat}{q:Program}{loose:List Str}{XP:TR->Heap->Prop}{YP:World->Heap->Prop}{d:DefRec}{K:Params->aa}{CX:World->CXT}{sp:World->Sp}{x:Str}
  (hn:l.most=some n) (m5:n<=sizeLine) (m6:d.params.defaults=[]) (hr:Jo k callerA)
  (hY:∀(w:World) (h:Heap),YP w h->(K w.params).In h)
  (F:∀(w:World) (M:TR) (fa:Addr) (h:Heap),(K w.params).In h->h.Ns mainGlobals M->M d.name=some (.ref fa)->
   ∃fd:FuncData,(∀(s:Shared) (u:Value),ja s fd ⟨[u],[]⟩ [(x,u)])/\
    ∀base:Heap,(K w.params).In base->base.Ns mainGlobals M->Z2 l.prog w (K w.params) M base (CX w) k fa fd [x] (sp w))
  (m7:∀(w:World) (H:Hp) (a:Addr) (ns:TV),ns.length<=n->Znl H->Wp (K w.params) H a (ns.map V.int)->sp w [.ref a] H (λv _=>v=.bl true) λ_ _ _=>False)
  (m8:∀(w:World) (H:Hp) (s:Shared) (e:Value) (s':Shared),CX w [] H s (λ_ _ _=>False) e s'->False) :
  lV q loose XP YP l.row.toRowW d [] (λf vs=>lS f vs):=by
 refine Att.Zdm hn m6 λw n6 O M mb fa o pm cd n8 a vs ns G Y ho hd n9 m9 U J j hg=>?_;have KX:=hY w _ Y;obtain⟨fd,hb,hF⟩:=F w M fa _ KX G.T.g m9;exact Zig KX G.T.g G.T.b G.T.builtins G.T.nolimit hg U J (aW j m5) hr hF hb (λH hO hS=>m7 w H a ns j hO hS) λH e s'=>m8 w H O e s'
def Ww (s:Stmt):Arguments:=match s with
 | .FunctionDef _ a _ _ _ _ _ _ _ _=>a
 |_=>{posonlyargs:=[],args:=[],vararg:=none,kwonlyargs:=[],kw_defaults:=[],kwarg:=none,defaults:=[]}
def Wm (s:Stmt):List Stmt:=match s with
 | .FunctionDef _ _ b _ _ _ _ _ _ _=>b
 |_=>[]
def Z5 (s:Stmt):cL:=match s with
 | .FunctionDef _ _ _ _ _ _ j _ _ _=>j
 |_=>{kind:=.function,names:=[],isGenerator:=false,isCoroutine:=false}
noncomputable abbrev Z9:CXT:=λ_ _ _ _ _ _=>False
noncomputable abbrev E0:XK:=λ_ _ _=>False
theorem ZF {X:Cx}:Zb4 Z9 X E0:=λ_ _ _ _ _ _ _ h=>h.elim
structure Wu (K:aa)(x qual:Str)(st:Stmt)(f:Addr)(fd:FuncData):Prop where
 ex:∃(oc:Value) (od:Option Addr) (kV doc pm:Value) (an:Option Addr) (cdv ct:Value) (osl:Array (Option Value)),
  fd=cp x qual (Ww st) (Wm st) (Z5 st) .none kV doc pm an cdv ct/\K.lookup f=some ⟨oc,od,.func fd,osl⟩/\eP K cdv qual=true
 kp:dN K (.ref f)=true
section
variable {P:Program}{w:World}{K:aa}{mg:TR}{base:Heap}
theorem Wu.ok {x j:Str}{st:Stmt}{f:Addr}{fd:FuncData}{N O:List Str}{k:Nat}{sp:Sp}(F:Wu K x j st f fd)(S:V1 N O (Z5 st))(len:∀vs H Q E,sp vs H Q E->vs.length=O.length)
  (M:∀(J:Value) (A:Around) (outer:List Env) (s:Shared) (H:Hp) (vs:TL) (Q:VK) (E:XK),Jo k (A.deeper (envOfC j (Z5 st) s.heap.objs.size f J))->sp vs H Q E->
   ∃t,PSs (Zdc Z9 P w K mg base N j (Z5 st) f J A outer s H E).nox (Wm st) t/\t {nx:=λ_ H'=>Q .non H',rt:=Q} (start N vs) H):Z2 P w K mg base Z9 (k+1) f fd O sp:=by
 obtain⟨oc,od,kV,doc,pm,an,J,ct,m5,rfl,lk,U⟩:=F.ex;refine Zot lk U S len λA outer s H vs Q E hr Y=>?_;obtain⟨t,h,q⟩:=M J A outer s H vs Q E hr Y;exact⟨t,h.nox,q⟩
theorem Wu.binds {x j:Str}{st:Stmt}{f:Addr}{fd:FuncData}{J:List Str}(F:Wu K x j st f fd)
  (h:∀(kV doc pm:Value) (an:Option Addr) (q ct:Value) (us:List Value),us.length=J.length->bindArgs (cp x j (Ww st) (Wm st) (Z5 st) .none kV doc pm an q ct) ⟨us,[]⟩=pure (J.zip us)):Binds K fd J []:=by
 obtain⟨U,Y,kV,doc,pm,an,q,ct,M,rfl,lk,O⟩:=F.ex;exact .all (h kV doc pm an q ct)
theorem Zed {x j:Str}{st:Stmt}{f:Addr}{M:Value}{O an:Option Addr}{J:Array (Option Value)}{kV doc pm q ct:Value}(l:K.lookup f=some ⟨M,O,.func (cp x j (Ww st) (Wm st) (Z5 st) .none kV doc pm an q ct),J⟩)
  (c:eP K q j=true) (k:dN K (.ref f)=true):Wu K x j st f (cp x j (Ww st) (Wm st) (Z5 st) .none kV doc pm an q ct):=⟨⟨M,O,kV,doc,pm,an,q,ct,J,rfl,l,c⟩,k⟩
end
section
variable {X:Cx}
end
theorem Z1 {c A B:Prop} [Decidable c](j:c->A)(q:¬c->B):if c then A else B:=by
 by_cases h:c
 ·rw[if_pos h]
  exact j h
 ·rw[if_neg h]
  exact q h
def Zw (H j:Hp):Prop:=∀b o,H b=some o->j b=some o
theorem Zw.refl (H:Hp):Zw H H:=λ_ _ h=>h
theorem Zw.trans {H j q:Hp}(a:Zw H j)(b:Zw j q):Zw H q:=λc o h=>b c o (a c o h)
theorem Zw.free {H j:Hp}(e:Zw H j){l:Addr}(h:j l=Option.none):H l=Option.none:=by
 cases q:H l with
 |none=>rfl
 |some o=>
  rw[e l o q] at h;cases h
theorem Zw.seq {K:aa}{H j:Hp}{a:Addr}{xs:TL}(e:Zw H j)(h:Wp K H a xs):Wp K j a xs:=by
 rcases h with (h|⟨o,h⟩)|h
 ·exact .inl (.inl (e _ _ h))
 ·exact .inl (.inr ⟨o,e _ _ h⟩)
 ·exact .inr h
end L2
namespace Tb
def ZP (t:T9)(a b:Nat):Nat:=(t.getD a []).getD b 0
def it (t:T9)(a:Nat):Nat->Nat
 |0=>0
 |k+1=>ZP t (it t a k) a
structure Rd (t:T9)(a r:Nat):Prop where
 r1:1<=r
 rn:r<=t.length
 dv:t.length % r=0
 z:it t a r=0
 nz:∀k,1<=k->k<r->it t a k≠0
 bk:ZP t a (it t a (r-1))=0
 un:∀b,b<t.length->ZP t a b=0->b=it t a (r-1)
structure PW (t:T9):Prop where
 n1:1<=t.length
 n60:t.length<=60
 len:∀row∈t,row.length=t.length
 lt:∀a b,a<t.length->b<t.length->ZP t a b<t.length
 one:∀a,a<t.length->ZP t 0 a=a
 rd:∀a,a<t.length->∃r,Rd t a r
 oneR:∀a,a<t.length->ZP t a 0=a
 ass:∀a b c,a<t.length->b<t.length->c<t.length->ZP t (ZP t a b) c=ZP t a (ZP t b c)
section
variable {t:T9}{a r:Nat}
theorem WX (P:PW t)(j:a<t.length):∀k,it t a k<t.length
 |0=>P.n1
 |k+1=>P.lt _ _ (WX P j k) j
theorem Zd9 (P:PW t)(j:a<t.length):it t a 1=a:=P.one a j
theorem ZmQ (R:Rd t a r)(k:Nat):it t a (r+k)=it t a k:=by
 induction k with
 |zero=>exact R.z
 |succ k j=>rw[Nat.add_succ,it,it,j]
theorem UD (R:Rd t a r)(k:Nat):it t a k=it t a (k % r):=by
 have q:=R.r1;induction k using Nat.strongRecOn with
 |_ k j=>
  by_cases h:k<r
  ·rw[bH h]
  ·have e:k=r+(k-r):=by omega
   rw[mG (by omega),<-j (k-r) (by omega),<-ZmQ R (k-r),<-e]
end
def rdB (t:T9)(n a:Nat):Nat->Nat->Nat->Bool
 |0,_,_=>false
 |f+1,k,prev=>
  let x:=ZP t prev a
  match x with
  |0=>decide (n % (k+1)=0) && decide (k+1<=n) && decide (ZP t a prev=0) && ((ae n).all λb=>decide (b=prev) || !decide (ZP t a b=0))
  |y+1=>rdB t n a f (k+1) (y+1)
def fq1 {β:Type}(m:Nat)(k:Nat->β):β:=match m with
 |0=>k 0
 |m+1=>k (m+1)
theorem Zix {β:Type}(m:Nat)(k:Nat->β):fq1 m k=k m:=by cases m <;> rfl
def fql {β:Type}:TY->(TY->β)->β
 | [],k=>k []
 |x::j,k=>fq1 x λy=>fql j λq=>k (y::q)
theorem ZbO {β:Type}:∀(a:TY) (k:TY->β),fql a k=k a
 | [],k=>rfl
 |x::j,k=>by rw[fql,Zix,ZbO j]
def Zne (ZJ:TY)(y:Nat):TY:=if ZJ.contains y then ZJ else ZJ++[y]
def Zgr (t:T9)(gens:TY):Nat->Nat->TY->TY
 |0,_,ZJ=>ZJ
 |f+1,i,ZJ=>match ZJ[i]? with
  |none=>ZJ
  |some x=>fql (gens.foldl (λZJ g=>fq1 (ZP t x g) λy=>Zne ZJ y) ZJ) λZJ=>Zgr t gens f (i+1) ZJ
def Ze8 (t:T9):Nat->Nat->TY->TY->TY
 |0,_,gens,_=>gens
 |f+1,a,gens,ZJ=>if ZJ.contains a then Ze8 t f (a+1) gens ZJ else fql (Zgr t (gens++[a]) t.length 0 [0]) λZJ=>Ze8 t f (a+1) (gens++[a]) ZJ
def liB (t:T9)(g:Nat):Bool:=decide (g<t.length) && t.all λj=>(t.getD (j.getD g 0) [] == (t.getD g []).map λc=>j.getD c 0)
def asG (t:T9)(gens:TY):Bool:=gens.all (liB t) && fql (Zgr t gens t.length 0 [0]) λZJ=>(ae t.length).all λa=>ZJ.contains a
def asB (t:T9):Bool:=fql (Ze8 t t.length 0 [] [0]) (asG t)
def Zn8 (t:T9):Bool:=decide (1<=t.length) && decide (t.length<=60) && (t.all λrow=>decide (row.length=t.length) && row.all λx=>decide (x<t.length)) && ((ae t.length).all λa=>decide (ZP t 0 a=a) && rdB t t.length a t.length 0 0)
def pwB (t:T9):Bool:=Zn8 t && ((ae t.length).all λa=>decide (ZP t a 0=a)) && asB t
def Pr (t:T9)(a:Nat):Prop:=a<t.length/\∀x y,x<t.length->y<t.length->ZP t (ZP t x a) y=ZP t x (ZP t a y)
theorem Zoh {t:T9}(U:∀row∈t,row.length=t.length){g:Nat}(h:liB t g=true):Pr t g:=by
 unfold liB at h;simp only[aR,ah,beq_iff_eq,decide_eq_true_eq] at h;obtain⟨q,h⟩:=h;refine⟨q,λx y M hy=>?_⟩;have Y:t.getD x []∈t:=by
  rw[Zb,Zf M];exact bh M
 have J:t.getD g []∈t:=by
  rw[Zb,Zf q];exact bh q
 have h1:=h _ Y;unfold ZP;rw[h1];have m5:=U _ J;generalize t.getD g []=O at *;have j:y<O.length:=by omega
 rw[Zb,Zc,Zf j,Zb (l:=O),Zf j];rfl
theorem Pr.times {t:T9}(lt:∀a b,a<t.length->b<t.length->ZP t a b<t.length){a g:Nat}(j:Pr t a)(q:Pr t g):Pr t (ZP t a g):=by
 refine⟨lt _ _ j.1 q.1,λx y J M=>?_⟩;rw[<-j.2 x g J q.1,q.2 _ y (lt _ _ J j.1) M,j.2 x _ J (lt _ _ q.1 M),q.2 a y j.1 M]
theorem Zfm {t:T9}(lt:∀a b,a<t.length->b<t.length->ZP t a b<t.length){gens:TY}(hg:∀g∈gens,Pr t g):∀(f i:Nat) (ZJ:TY),(∀a∈ZJ,Pr t a)->∀a∈Zgr t gens f i ZJ,Pr t a
 |0,i,ZJ,h=>by unfold Zgr;exact h
 |f+1,i,ZJ,h=>by
  unfold Zgr;split
  ·exact h
  ·rename_i x hx
   rw[ZbO];refine Zfm lt hg f (i+1) _ ?_;have O:=h x (av hx);have U:∀(J ZJ:TY),(∀g∈J,Pr t g)->(∀a∈ZJ,Pr t a)->∀a∈J.foldl (λZJ g=>fq1 (ZP t x g) λy=>Zne ZJ y) ZJ,Pr t a:=λJ=>by
    induction J with
    |nil=>intro ZJ _ h;exact h
    |cons g J ih=>
     intro ZJ M q;rw[List.foldl_cons];refine ih _ (λg' Y=>M g' (aE _ Y)) λa j=>?_;rw[Zix] at j;unfold Zne at j;split at j
     ·exact q a j
     ·rcases bu.mp j with j|j
      ·exact q a j
      ·rw[aM.mp j]
       exact O.times lt (M g aA)
   exact U gens ZJ hg h
theorem Znc {t:T9}(n1:1<=t.length)(O:∀row∈t,row.length=t.length)(lt:∀a b,a<t.length->b<t.length->ZP t a b<t.length)(one:∀a,a<t.length->ZP t 0 a=a)(j:∀a,a<t.length->ZP t a 0=a)(h:asB t=true):∀a b c,a<t.length->b<t.length->c<t.length->ZP t (ZP t a b) c=ZP t a (ZP t b c):=by
 intro a b c q hb U;unfold asB at h;rw[ZbO] at h;generalize Ze8 t t.length 0 [] [0]=M at h;unfold asG at h;rw[ZbO,ah,aR,aR] at h;have Y:Pr t 0:=⟨by omega,λx y hx hy=>by rw[j x hx,one y hy]⟩;have J:=Zfm lt (λg hg=>Zoh O (h.1 g hg)) t.length 0 [0] (λa q=>by rw[aM.mp q];exact Y) b (ay.mp (h.2 b (af.mpr hb)));exact J.2 a c q U
theorem ZhA {t:T9}{a:Nat}:∀(f k prev:Nat),prev=it t a k->(∀j,1<=j->j<=k->it t a j≠0)->rdB t t.length a f k prev=true->∃r,Rd t a r
 |0,k,prev,_,_,h=>by cases h
 |f+1,k,prev,e,M,h=>by
  unfold rdB at h;have ex:it t a (k+1)=ZP t prev a:=by rw[it,e]
  cases q:ZP t prev a with
  |zero=>
   simp only[q,ah,decide_eq_true_eq,aR,bi,mL,decide_eq_false_iff_not] at h;obtain⟨⟨⟨O,U⟩,Y⟩,h4⟩:=h;refine⟨k+1,by omega,U,O,by rw[ex,q],λj J jk=>M j J (by omega),by rw[dz,<-e];exact Y,λb hb hm=>?_⟩;rw[dz,<-e];exact (h4 b (af.mpr hb)).resolve_right λz=>z hm
  |succ y=>
   simp only[q] at h;refine ZhA f (k+1) (y+1) (by rw[ex,q]) (λj J jk=>?_) h;by_cases ej:j=k+1
   ·rw[ej,ex,q]
    exact jx _
   ·exact M j J (by omega)
theorem Zmc {t:T9}(h:pwB t=true):PW t:=by
 unfold pwB at h;rw[ah,ah] at h;obtain⟨⟨h,M⟩,O⟩:=h;unfold Zn8 at h;simp only[ah,decide_eq_true_eq,aR] at h;obtain⟨⟨⟨h1,h2⟩,U⟩,h4⟩:=h;have lt:∀a b,a<t.length->b<t.length->ZP t a b<t.length:=λa b q hb=>by
  unfold ZP;have hm:t.getD a []∈t:=by
   rw[Zb,Zf q];exact bh q
  obtain⟨hl,hx⟩:=U _ hm;generalize t.getD a []=row at *;have J:b<row.length:=by omega
  refine hx _ ?_;rw[Zb,Zf J];exact bh J
 have oneR:∀a,a<t.length->ZP t a 0=a:=λa q=>of_decide_eq_true (aR.mp M a (af.mpr q));have one:∀a,a<t.length->ZP t 0 a=a:=λa q=>(h4 a (af.mpr q)).1;refine⟨h1,h2,λrow Y=>(U row Y).1,lt,one,λa q=>?_,oneR,Znc h1 (λrow Y=>(U row Y).1) lt one oneR O⟩
 ·exact ZhA _ 0 0 rfl (λj j1 j0=>by omega) (h4 a (af.mpr q)).2
def pos (o:TY)(v:Nat):Nat:=o.findIdx (· == v)
def ren (t:T9)(o:TY):T9:=o.map λa=>o.map λb=>pos o (ZP t a b)
structure Ord (n:Nat)(o:TY):Prop where
 len:o.length=n
 nd:o.Nodup
 all:∀v,v<n->v∈o
 lt:∀v∈o,v<n
 z:o.getD 0 0=0
section
variable {t:T9}{o:TY}
theorem ZR {o:TY}{i:Nat}(h:i<o.length):o[i]?=some (o.getD i 0):=by
 rw[Zb,Zf h];rfl
theorem Yb {n v:Nat}(O:Ord n o)(q:v<n):pos o v<n/\o.getD (pos o v) 0=v:=by
 have hm:=O.all v q;have j:o.findIdx (· == v)<o.length:=cM ⟨v,hm,by simp⟩;refine⟨by rw[<-O.len];exact j,?_⟩;have J:=cN (w:=j);have M:o[o.findIdx (· == v)]=v:=by simpa using J
 unfold pos;rw[Zb,Zf j];exact M
theorem inj {n i j:Nat}(O:Ord n o)(q:i<n)(M:j<n)(e:o.getD i 0=o.getD j 0):i=j:=by
 have J:=ZR (o:=o) (i:=i) (by rw[O.len];exact q);have U:=ZR (o:=o) (i:=j) (by rw[O.len];exact M);rw[e] at J;exact (List.getElem?_inj (by rw[O.len];exact q) O.nd).mp (J.trans U.symm)
theorem Ym {n i:Nat}(O:Ord n o)(j:i<n):o.getD i 0<n:=O.lt _ (av (ZR (by rw[O.len];exact j)))
theorem Zbp:(ren t o).length=o.length:=by unfold ren;rw[Za]
theorem VR {n i j:Nat}(O:Ord n o)(q:i<n)(J:j<n):ZP (ren t o) i j=pos o (ZP t (o.getD i 0) (o.getD j 0)):=by
 unfold ZP ren;have M:=ZR (o:=o) (i:=i) (by rw[O.len];exact q);have U:=ZR (o:=o) (i:=j) (by rw[O.len];exact J);rw[Zb (l:=o.map _),Zc,M];show (o.map λb=>pos o ((t.getD (o.getD i 0) []).getD b 0)).getD j 0=_;rw[Zb,Zc,U];rfl
theorem Wc (P:PW t)(O:Ord t.length o):PW (ren t o):=by
 have L:(ren t o).length=t.length:=by rw[Zbp,O.len]
 have back:∀i j,i<t.length->j<t.length->o.getD (ZP (ren t o) i j) 0=ZP t (o.getD i 0) (o.getD j 0):=λi j Y hj=>by
  rw[VR O Y hj];exact (Yb O (P.lt _ _ (Ym O Y) (Ym O hj))).2
 have lt:∀i j,i<t.length->j<t.length->ZP (ren t o) i j<t.length:=λi j Y hj=>by
  rw[VR O Y hj];exact (Yb O (P.lt _ _ (Ym O Y) (Ym O hj))).1
 have n1:=P.n1;have M:∀a,a<t.length->∀k,it (ren t o) a k<t.length/\o.getD (it (ren t o) a k) 0=it t (o.getD a 0) k:=λa ha k=>by
  induction k with
  |zero=>exact⟨n1,O.z⟩
  |succ k ih=>
   rw[it,it];exact⟨lt _ _ ih.1 ha,by rw[back _ _ ih.1 ha,ih.2]⟩
 have zz:∀i,i<t.length->(i=0↔o.getD i 0=0):=λi Y=>by
  constructor
  ·intro e;rw[e,O.z]
  ·intro e;exact inj O Y n1 (by rw[e,O.z])
 refine⟨by omega,by have:=P.n60;omega,λrow hr=>?_,λa b ha hb=>by rw[L];exact lt a b (by omega) (by omega),λa ha=>?_,λa ha=>?_,λa ha=>?_,λa b c ha hb hc=>?_⟩
 ·unfold ren at hr
  obtain⟨a,_,rfl⟩:=az.mp hr;rw[Za,Zbp]
 ·refine inj O (lt 0 a n1 (by omega)) (by omega) ?_
  rw[back 0 a n1 (by omega),O.z,P.one _ (Ym O (by omega))]
 ·have q:a<t.length:=by omega
  obtain⟨r,R⟩:=P.rd _ (Ym O q);have m5:∀k,it (ren t o) a k=0↔it t (o.getD a 0) k=0:=λk=>by
   rw[zz _ (M a q k).1,(M a q k).2]
  refine⟨r,R.r1,by rw[L];exact R.rn,by rw[L];exact R.dv,(m5 r).mpr R.z,λk k1 kr z=>R.nz k k1 kr ((m5 k).mp z),?_,λb hb hm=>?_⟩
  ·refine (zz _ (lt _ _ q (M a q _).1)).mpr ?_
   rw[back _ _ q (M a q _).1,(M a q _).2];exact R.bk
  ·have J:b<t.length:=by omega
   refine inj O J (M a q _).1 ?_;rw[(M a q _).2];refine R.un _ (Ym O J) ?_;rw[<-back a b q J,hm,O.z]
 ·refine inj O (lt a 0 (by omega) n1) (by omega) ?_
  rw[back a 0 (by omega) n1,O.z,P.oneR _ (Ym O (by omega))]
 ·have q:a<t.length:=by omega
  have J:b<t.length:=by omega
  have U:c<t.length:=by omega
  refine inj O (lt _ _ (lt _ _ q J) U) (lt _ _ q (lt _ _ J U)) ?_;rw[back _ _ (lt _ _ q J) U,back _ _ q J,back _ _ q (lt _ _ J U),back _ _ J U];exact P.ass _ _ _ (Ym O q) (Ym O J) (Ym O U)
end
def upTo (r st:Nat):Nat->Nat->Nat
 |0,f=>f
 |k+1,f=>if f % r=0 then f else upTo r st k (f+st)
theorem Zaj {r st B:Nat}(j:1<=st)(Y:B % r=0)(q:B % st=0):∀(k f:Nat),f % st=0->f<=B->B-f<k*st->(∀x,x % st=0->x % r=0->1<=x->x<f->False)->upTo r st k f % r=0/\upTo r st k f % st=0/\f<=upTo r st k f/\upTo r st k f<=B/\(∀x,x % st=0->x % r=0->1<=x->x<upTo r st k f->False)
 |0,f,J,M,O,_=>by rw[fU] at O;omega
 |k+1,f,J,M,O,h4=>by
  unfold upTo;by_cases h:f % r=0
  ·rw[if_pos h]
   exact⟨h,J,Zq _,M,h4⟩
  ·rw[if_neg h]
   have fB:f≠B:=λz=>h (z▸Y);obtain⟨u,rfl⟩:=a8 J;obtain⟨v,rfl⟩:=a8 q;have uv:u<v:=km (dk M fB);have h5:st*u+st<=st*v:=by
    have:=fR st (show u+1<=v by omega);rw[jD,iE] at this;exact this
   have:=Zaj j Y q k (st*u+st) (by rw[mT,Nat.mul_mod_right]) h5 (by rw[cg] at O;omega) λx x1 U x3 x4=>?_
   ·exact⟨this.1,this.2.1,by omega,this.2.2.2.1,this.2.2.2.2⟩
   ·by_cases hx:x<st*u
    ·exact h4 x x1 U x3 hx
    ·obtain⟨y,rfl⟩:=a8 x1
     have y1:u<=y:=Nat.le_of_mul_le_mul_left (by omega) j;have y2:y<u+1:=km (a:=st) (by rw[jD,iE];exact x4);have:y=u:=by omega
     rw[this] at U;exact h U
theorem ZbA {x d r:Nat}(q:x % r=0)(hd:d % r=0):x % d % r=0:=by
 have J:=Nat.mod_add_div x d;have M:(d*(x / d)) % r=0:=by rw[Nat.mul_mod,hd,fU,Nat.zero_mod]
 have j:(x % d+d*(x / d)) % r=0:=by rw[J];exact q
 rw[Nat.add_mod,M,io,Nat.mod_mod] at j;exact j
structure Lc (rs:Nat->Nat)(i f:Nat):Prop where
 f1:1<=f
 dv:∀a,a<i->f % rs a=0
 mn:∀x,(∀a,a<i->x % rs a=0)->x % f=0
theorem Lc.step {rs:Nat->Nat}{i f B:Nat}(L:Lc rs i f)(hB:1<=B)(j:∀a,a<i+1->B % rs a=0){k:Nat}(hk:B<k):Lc rs (i+1) (upTo (rs i) f k f):=by
 have q:B % f=0:=L.mn B λa J=>j a (by omega);have M:=L.f1;have fB:f<=B:=gR (by omega) (a8 q);obtain⟨O,U,h3,h4,h5⟩:=Zaj (r:=rs i) M (j i (by omega)) q k f (Nat.mod_self f) fB (by
  have:k*1<=k*f:=fR k M;omega) λx x1 x2 x3 x4=>by
   have:=gR (by omega) (a8 x1);omega
 refine⟨by omega,λa J=>?_,λx Y=>?_⟩
 ·by_cases e:a=i
  ·rw[e];exact O
  ·have:=L.dv a (by omega)
   obtain⟨u,hu⟩:=a8 U;rw[hu,Nat.mul_mod,this,fU,Nat.zero_mod]
 ·have xf:x % f=0:=L.mn x λa J=>Y a (by omega)
  apply aj;intro z;exact h5 (x % upTo (rs i) f k f) (ZbA xf U) (ZbA (Y i (by omega)) O) (by omega) (bO _ (by omega))
section
variable {t:T9}
def YL (t:T9)(a:Nat):Nat:=((ae t.length).find? λb=>ZP t a b == 0).getD 0
theorem Yp (P:PW t){a:Nat}(j:a<t.length):YL t a<t.length/\ZP t a (YL t a)=0:=by
 obtain⟨r,R⟩:=P.rd a j;unfold YL;cases h:(ae t.length).find? λb=>ZP t a b == 0 with
 |none=>
  exfalso;rw[iU] at h;exact h _ (af.mpr (WX P j (r-1))) (by rw[R.bk];rfl)
 |some b=>
  have q:=af.mp (gq h);have J:=jF h;exact⟨q,by simpa using J⟩
theorem Zi2 (P:PW t){a r:Nat}(j:a<t.length)(R:Rd t a r):it t a (r-1)=YL t a:=((R.un _ (Yp P j).1 (Yp P j).2)).symm
theorem Xt (P:PW t){a b:Nat}(j:a<t.length)(hb:b<t.length)(h:ZP t a b=0):b=YL t a:=by
 obtain⟨r,R⟩:=P.rd a j;rw[<-Zi2 P j R];exact R.un b hb h
theorem ZaR (P:PW t){a:Nat}(j:a<t.length):ZP t (YL t a) a=0:=by
 obtain⟨q,O⟩:=Yp P j;obtain⟨J,M⟩:=Yp P q;have e:a=YL t (YL t a):=by
  have:=P.ass a (YL t a) (YL t (YL t a)) j q J;rw[O,M,P.one _ J,P.oneR a j] at this;exact this.symm
 conv=>lhs;rw[e]
 rw[<-e]
 conv=>lhs;rw[e]
 rw[<-e];rw[show ZP t (YL t a) a=ZP t (YL t a) (YL t (YL t a)) by rw[<-e]];exact M
def tb (t:T9)(b x:Nat):Nat:=ZP t (ZP t x b) (YL t x)
theorem Vu (P:PW t){b x:Nat}(hb:b<t.length)(j:x<t.length):tb t b x<t.length:=P.lt _ _ (P.lt _ _ j hb) (Yp P j).1
theorem ZaV (P:PW t){b:Nat}(hb:b<t.length):tb t b 0=b:=by
 have j:=P.n1;have e:YL t 0=0:=(Xt P (by omega) (by omega) (P.one 0 (by omega))).symm;unfold tb;rw[e,P.one b hb,P.oneR b hb]
theorem VJ (P:PW t){b x:Nat}(hb:b<t.length)(j:x<t.length):ZP t (ZP t (YL t x) (tb t b x)) x=b:=by
 obtain⟨q,_⟩:=Yp P j;have J:=ZaR P j;unfold tb;rw[<-P.ass (YL t x) (ZP t x b) (YL t x) q (P.lt _ _ j hb) q,<-P.ass (YL t x) x b q j hb,J,P.one b hb,P.ass b (YL t x) x hb q j,J,P.oneR b hb]
theorem ZaW (P:PW t){b k x y:Nat}(hb:b<t.length)(Y:k<t.length)(q:x<t.length)(j:y<t.length)(h:tb t b x=tb t k y):∃z,z<t.length/\tb t b z=k:=by
 obtain⟨J,x2⟩:=Yp P q;obtain⟨M,y2⟩:=Yp P j;have yl:=ZaR P j;have U:=P.lt _ _ M q;refine⟨ZP t (YL t y) x,U,?_⟩;have e1:YL t (ZP t (YL t y) x)=ZP t (YL t x) y:=by
  refine (Xt P U (P.lt _ _ J j) ?_).symm;rw[P.ass _ x _ M q (P.lt _ _ J j),<-P.ass x (YL t x) y q J j,x2,P.one y j,yl]
 have O:=VJ P Y j;rw[<-h] at O;unfold tb at O ⊢;rw[e1,P.ass (YL t y) x b M q hb,<-P.ass (ZP t (YL t y) (ZP t x b)) (YL t x) y (P.lt _ _ M (P.lt _ _ q hb)) J j,P.ass (YL t y) (ZP t x b) (YL t x) M (P.lt _ _ q hb) J];exact O
def ZU (t:T9)(b:Nat):TY:=(ae t.length).filter λa=>(ae t.length).any λx=>tb t b x == a
theorem Ya (P:PW t){b a:Nat}(hb:b<t.length):a∈ZU t b↔∃x,x<t.length/\tb t b x=a:=by
 unfold ZU;rw[fM,aZ];constructor
 ·rintro⟨_,x,j,e⟩
  exact⟨x,af.mp j,by simpa using e⟩
 ·rintro⟨x,j,e⟩
  exact⟨af.mpr (e▸Vu P hb j),x,af.mpr j,by simpa using e⟩
theorem Xq {b a:Nat}(h:a∈ZU t b):a<t.length:=af.mp (fM.mp h).1
theorem Zdf (b:Nat):(ZU t b).Pairwise (· < ·):=cR l8 eZ
theorem ZbY (b:Nat):(ZU t b).length<=t.length:=by
 have:=lu (λa=>(ae t.length).any λx=>tb t b x == a) (ae t.length);rw[Zg] at this;exact this
theorem YE (P:PW t){b:Nat}(hb:b<t.length):b∈ZU t b:=(Ya P hb).mpr ⟨0,by have:=P.n1;omega,ZaV P hb⟩
theorem Yg (P:PW t){b k a:Nat}(hb:b<t.length)(j:k<t.length)(q:a∈ZU t b)(J:a∈ZU t k):k∈ZU t b:=by
 obtain⟨x,M,O⟩:=(Ya P hb).mp q;obtain⟨y,U,Y⟩:=(Ya P j).mp J;exact (Ya P hb).mpr (ZaW P hb j M U (O.trans Y.symm))
def ZC (t:T9):Nat->T9
 |0=>[]
 |k+1=>if (ZC t k).any (·.contains k) then ZC t k else ZC t k++[ZU t k]
def Yu (j:T9)(a:Nat):Bool:=j.any (·.contains a)
theorem W6 (P:PW t):∀k,k<=t.length->∀c∈ZC t k,∃b,b<k/\c=ZU t b
 |0,_,c,h=>by cases h
 |k+1,J,c,h=>by
  unfold ZC at h;split at h
  ·obtain⟨b,q,j⟩:=W6 P k (by omega) c h
   exact⟨b,by omega,j⟩
  ·rcases bu.mp h with h|h
   ·obtain⟨b,q,j⟩:=W6 P k (by omega) c h
    exact⟨b,by omega,j⟩
   ·exact⟨k,by omega,aM.mp h⟩
theorem WZ (P:PW t):∀k,k<=t.length->∀b,b<k->Yu (ZC t k) b=true
 |0,_,b,h=>by omega
 |k+1,q,b,h=>by
  unfold Yu ZC;split
  ·rename_i j
   by_cases e:b=k
   ·subst e;exact j
   ·exact WZ P k (by omega) b (by omega)
  ·rw[iq,bi]
   by_cases e:b=k
   ·subst e
    right;rw[eE,kH,fu];exact ay.mpr (YE P (by omega))
   ·left
    exact WZ P k (by omega) b (by omega)
theorem X4 (P:PW t):∀k,k<=t.length->∀(i j:Nat) (c d:TY) (a:Nat),(ZC t k)[i]?=some c->(ZC t k)[j]?=some d->a∈c->a∈d->i=j
 |0,_,i,j,c,d,a,h,_,_,_=>by cases h
 |k+1,hk,i,j,c,d,a,J,q,U,Y=>by
  have ih:=X4 P k (by omega);unfold ZC at J q;split at J
  ·rename_i hc
   rw[if_pos hc] at q;exact ih i j c d a J q U Y
  ·rename_i hc
   rw[if_neg hc] at q;have O:∀c,c∈ZC t k->∀a,a∈c->a∈ZU t k->False:=λc hm a ha m5=>by
    obtain⟨b,hb,rfl⟩:=W6 P k (by omega) c hm;have:=Yg P (by omega) (by omega) ha m5;exact hc (aZ.mpr ⟨_,hm,ay.mpr this⟩)
   by_cases hi:i<(ZC t k).length
   ·rw[ak hi] at J
    by_cases hj:j<(ZC t k).length
    ·rw[ak hj] at q
     exact ih i j c d a J q U Y
    ·rw[aq (by omega)] at q
     have hd:d=ZU t k:=by
      cases M:j-(ZC t k).length with
      |zero=>rw[M] at q;cases q;rfl
      |succ m=>rw[M] at q;cases q
     subst hd;exact (O c (av J) a U Y).elim
   ·rw[aq (by omega)] at J
    have m6:c=ZU t k/\i=(ZC t k).length:=by
     cases M:i-(ZC t k).length with
     |zero=>rw[M] at J;cases J;exact⟨rfl,by omega⟩
     |succ m=>rw[M] at J;cases J
    obtain⟨rfl,ei⟩:=m6;by_cases hj:j<(ZC t k).length
    ·rw[ak hj] at q
     exact (O d (av q) a Y U).elim
    ·rw[aq (by omega)] at q
     cases M:j-(ZC t k).length with
     |zero=>omega
     |succ m=>rw[M] at q;cases q
theorem Wn:∀k,(ZC t k).length<=k
 |0=>Zq _
 |k+1=>by
  have:=Wn k;unfold ZC;split
  ·omega
  ·rw[Zd,Zk];omega
end
section
variable {t:T9}
def sm (n:Nat)(f:Nat->Nat):Nat:=((ae n).map f).sum
theorem Yt {n:Nat}{f g:Nat->Nat}(h:∀x,x<n->f x=g x):sm n f=sm n g:=by
 unfold sm;rw[aQ λx j=>h x (af.mp j)]
theorem YX (n:Nat)(f:Nat->Nat):sm (n+1) f=sm n f+f n:=by
 unfold sm;rw[ck,aN,List.sum_append];simp
theorem Zjw (n:Nat):sm n (λ_=>0)=0:=by
 induction n with
 |zero=>rfl
 |succ n j=>rw[YX,j]
theorem Zl1 (n:Nat)(f g:Nat->Nat):sm n (λx=>f x+g x)=sm n f+sm n g:=by
 induction n with
 |zero=>rfl
 |succ n j=>rw[YX,YX,YX,j];omega
theorem ZdQ (n k:Nat)(f:Nat->Nat):sm n (λx=>k*f x)=k*sm n f:=by
 induction n with
 |zero=>rfl
 |succ n j=>rw[YX,YX,j,jD]
theorem Zjx (n m:Nat)(f:Nat->Nat->Nat):sm n (λx=>sm m λy=>f x y)=sm m (λy=>sm n λx=>f x y):=by
 induction n with
 |zero=>exact (Zjw m).symm
 |succ n j=>
  rw[YX,j,<-Zl1];exact Yt λy _=>(YX n λx=>f x y).symm
theorem Zbf {n:Nat}{c d:Nat->Nat}(M:∀x,x<n->c x<n)(O:∀x,x<n->d x<n)(q:∀x,x<n->d (c x)=x)(U:∀x,x<n->c (d x)=x)(f:Nat->Nat):sm n (λx=>f (c x))=sm n f:=by
 unfold sm;have Y:bJ ((ae n).map c) (ae n):=by
  refine (cG ?_ cU).mpr λk=>?_
  ·unfold jY
   rw[eY];refine fI (λ{a b} ha hb j z=>j ?_) cU;rw[<-q a (af.mp ha),z,q b (af.mp hb)]
  ·rw[az]
   constructor
   ·rintro⟨x,hx,rfl⟩
    exact af.mpr (M x (af.mp hx))
   ·intro J
    exact⟨d k,af.mpr (O k (af.mp J)),U k (af.mp J)⟩
 have:=(Y.map f).sum_nat;rw[aC] at this;exact this
theorem Zjn (P:PW t){s:Nat}(q:s<t.length)(f:Nat->Nat):sm t.length (λx=>f (tb t x s))=sm t.length f:=by
 obtain⟨J,O⟩:=Yp P q;have M:=ZaR P q;have e:YL t (YL t s)=s:=(Xt P J q M).symm;refine Zbf (c:=λx=>tb t x s) (d:=λx=>tb t x (YL t s)) (λx j=>Vu P j q) (λx j=>Vu P j J) (λx j=>?_) (λx j=>?_) f
 ·show tb t (tb t x s) (YL t s)=x
  have:=VJ P j q;unfold tb at this ⊢;rw[e];exact this
 ·show tb t (tb t x (YL t s)) s=x
  have:=VJ P j J;rw[e] at this;unfold tb at this ⊢;rw[e] at this ⊢;exact this
theorem Zdy (P:PW t){s x y:Nat}(j:s<t.length)(M:x<t.length)(J:y<t.length):tb t (ZP t x y) s=ZP t (tb t x s) (tb t y s):=by
 obtain⟨q,_⟩:=Yp P j;have Y:=ZaR P j;have O:=P.lt _ _ j M;have U:=P.lt _ _ j J;unfold tb;rw[P.ass (ZP t s x) (YL t s) (ZP t (ZP t s y) (YL t s)) O q (P.lt _ _ U q),<-P.ass (YL t s) (ZP t s y) (YL t s) q U q,<-P.ass (YL t s) s y q j J,Y,P.one y J,<-P.ass s x y j M J,P.ass (ZP t s x) y (YL t s) O J q]
theorem J0 (P:PW t){s:Nat}(j:s<t.length):tb t 0 s=0:=by
 have q:=P.n1;unfold tb;rw[P.oneR s j,(Yp P j).2]
theorem ZlT (P:PW t){s x:Nat}(j:s<t.length)(q:x<t.length):YL t (tb t x s)=tb t (YL t x) s:=by
 obtain⟨J,M⟩:=Yp P q;refine (Xt P (Vu P q j) (Vu P J j) ?_).symm;rw[<-Zdy P j q J,M,J0 P j]
theorem Zib (P:PW t){x:Nat}(q:x<t.length)(F:Nat->Nat->Nat):sm t.length (λy=>F y (ZP t x y))=sm t.length (λw=>F (ZP t (YL t x) w) w):=by
 obtain⟨J,O⟩:=Yp P q;have M:=ZaR P q;have:=Zbf (c:=λy=>ZP t x y) (d:=λy=>ZP t (YL t x) y) (λy j=>P.lt _ _ q j) (λy j=>P.lt _ _ J j) (λy j=>by
  show ZP t (YL t x) (ZP t x y)=y;rw[<-P.ass _ _ _ J q j,M,P.one y j]) (λy j=>by
  show ZP t x (ZP t (YL t x) y)=y;rw[<-P.ass _ _ _ q J j,O,P.one y j]) (λw=>F (ZP t (YL t x) w) w)
 rw[<-this];refine Yt λy j=>?_;show F y (ZP t x y)=F (ZP t (YL t x) (ZP t x y)) (ZP t x y);rw[<-P.ass _ _ _ J q j,M,P.one y j]
def JP (b:Bool):Nat:=if b then 1 else 0
theorem ZgY {n z:Nat}(hz:z<n)(f:Nat->Nat):sm n (λw=>JP (decide (w=z))*f w)=f z:=by
 have j:∀m,m<=n->sm m (λw=>JP (decide (w=z))*f w)=if z<m then f z else 0:=λm=>by
  induction m with
  |zero=>intro _;rfl
  |succ m q=>
   intro J;rw[YX,q (by omega)];by_cases e:m=z
   ·subst e
    rw[if_neg (b9 _),if_pos (cF _),decide_eq_true rfl];show 0+1*f m=f m;omega
   ·rw[decide_eq_false e]
    show _+0*f m=_;by_cases h:z<m
    ·rw[if_pos h,if_pos (by omega)];omega
    ·rw[if_neg h,if_neg (by omega)];omega
 rw[j n (Zq _),if_pos hz]
def cnA (t:T9)(q:Nat->Nat)(i j z:Nat):Nat:=sm t.length λx=>JP (decide (q x=i))*JP (decide (q (ZP t (YL t x) z)=j))
section
variable {nu:Nat->Nat}
theorem Zgi (P:PW t){i j z:Nat}(hz:z<t.length):sm t.length (λx=>sm t.length λy=>JP (decide (nu x=i))*(JP (decide (nu y=j))*JP (decide (ZP t x y=z))))=cnA t nu i j z:=by
 unfold cnA;refine Yt λx q=>?_;rw[ZdQ,Zib P q (λy w=>JP (decide (nu y=j))*JP (decide (w=z)))];congr 1;have:sm t.length (λw=>JP (decide (nu (ZP t (YL t x) w)=j))*JP (decide (w=z)))=sm t.length (λw=>JP (decide (w=z))*JP (decide (nu (ZP t (YL t x) w)=j))):=Yt λw _=>fh _ _;rw[this,ZgY hz λw=>JP (decide (nu (ZP t (YL t x) w)=j))]
end
end
structure Nus (t:T9)(nu rep:Nat->Nat)(N:Nat):Prop where
 lt:∀x,x<t.length->nu x<N
 con:∀x s,x<t.length->s<t.length->nu (tb t x s)=nu x
 tr:∀x y,x<t.length->y<t.length->nu x=nu y->∃s,s<t.length/\tb t x s=y
 rl:∀k,k<N->rep k<t.length
 rn:∀k,k<N->nu (rep k)=k
 z:∀x,x<t.length->(nu x=0↔x=0)
section
variable {t:T9}{nu rep:Nat->Nat}{N:Nat}
end
section
variable {t1 t2 T:T9}
end
section
variable {t:T9}{On:Nat->TY}{n:Nat}
end
section
variable {t:T9}{o:TY}
end
section
variable {t:T9}{o o2:TY}
def YW (t:T9)(b:Nat):Nat:=(ZC t t.length).findIdx (·.contains b)
theorem UP (P:PW t){b:Nat}(hb:b<t.length):YW t b<(ZC t t.length).length/\b∈(ZC t t.length).getD (YW t b) []:=by
 have q:=WZ P t.length (Zq _) b hb;unfold Yu at q;obtain⟨c,J,hm⟩:=aZ.mp q;have j:(ZC t t.length).findIdx (·.contains b)<(ZC t t.length).length:=cM ⟨c,J,hm⟩;refine⟨j,?_⟩;have M:=cN (w:=j);unfold YW;rw[Zb,Zf j];exact ay.mp M
theorem Vk {α:Type}{l:List (List α)}{i:Nat}(h:i<l.length):l[i]?=some (l.getD i []):=by
 rw[Zb,Zf h];rfl
theorem ZbW (P:PW t){b i:Nat}(hb:b<t.length)(j:i<(ZC t t.length).length)(q:b∈(ZC t t.length).getD i []):YW t b=i:=by
 obtain⟨J,M⟩:=UP P hb;exact X4 P t.length (Zq _) _ _ _ _ b (Vk J) (Vk j) M q
theorem UQ (P:PW t){i:Nat}(j:i<(ZC t t.length).length):∃b,b<t.length/\(ZC t t.length).getD i []=ZU t b:=W6 P t.length (Zq _) _ (av (Vk j))
theorem ZiQ (P:PW t){b x:Nat}(hb:b<t.length)(j:x<t.length):YW t (tb t b x)=YW t b:=by
 have M:=Vu P hb j;obtain⟨q,J⟩:=UP P M;obtain⟨c,O,e⟩:=UQ P q;have U:tb t b x∈ZU t b:=(Ya P hb).mpr ⟨x,j,rfl⟩;rw[e] at J;have Y:=Yg P O hb J U;exact (ZbW P hb q (by rw[e];exact Y)).symm
theorem X3 (P:PW t){i:Nat}(q:i<(ZC t t.length).length):((ZC t t.length).getD i []).getD 0 0∈(ZC t t.length).getD i []/\((ZC t t.length).getD i []).getD 0 0<t.length:=by
 obtain⟨b,hb,e⟩:=UQ P q;rw[e];have j:=YE P hb;have:(ZU t b).getD 0 0∈ZU t b:=by
  cases h:ZU t b with
  |nil=>rw[h] at j;cases j
  |cons x r=>exact aA
 exact⟨this,Xq this⟩
end
def ZM (t:T9)(k:Nat):Nat:=((ZC t t.length).getD k []).getD 0 0
section
variable {t:T9}
theorem JB (P:PW t){k:Nat}(j:k<(ZC t t.length).length):∃b,b<t.length/\(ZC t t.length).getD k []=ZU t b:=by
 have q:(ZC t t.length).getD k []∈ZC t t.length:=by
  rw[Zb,Zf j];exact bh j
 exact W6 P t.length (Zq _) _ q
theorem ZeJ (P:PW t){k:Nat}(q:k<(ZC t t.length).length):ZM t k∈(ZC t t.length).getD k []:=by
 obtain⟨b,hb,e⟩:=JB P q;unfold ZM;rw[e];have j:=YE P hb;cases h:ZU t b with
 |nil=>rw[h] at j;cases j
 |cons x r=>exact aA
theorem Zht (P:PW t){k:Nat}(j:k<(ZC t t.length).length):ZM t k<t.length:=by
 obtain⟨b,hb,e⟩:=JB P j;have:=ZeJ P j;rw[e] at this;exact Xq this
theorem Zcm (P:PW t){x y:Nat}(j:x<t.length)(M:y<t.length)(h:YW t x=YW t y):∃s,s<t.length/\tb t x s=y:=by
 obtain⟨hk,U⟩:=UP P j;obtain⟨_,O⟩:=UP P M;rw[<-h] at O;obtain⟨b,hb,e⟩:=JB P hk;rw[e] at U O;obtain⟨u,hu,eu⟩:=(Ya P hb).mp U;have Y:x∈ZU t x:=YE P j;have J:b∈ZU t x:=Yg P j hb Y U;have:y∈ZU t x:=by
  obtain⟨v,hv,ev⟩:=(Ya P hb).mp O;obtain⟨q,hq,eq⟩:=(Ya P j).mp J;have m5:b∈ZU t y:=Yg P M hb (YE P M) O;have m6:y∈ZU t x:=Yg P j M J m5;exact m6
 exact (Ya P j).mp this
theorem ZaK:∀k,(ZC t (k+1))[0]?=some (ZU t 0)
 |0=>rfl
 |k+1=>by
  have j:=ZaK k;show (if (ZC t (k+1)).any (·.contains (k+1)) then ZC t (k+1) else ZC t (k+1)++[ZU t (k+1)])[0]?=_
  split
  ·exact j
  ·rw[ak (ac.mp j).1]
   exact j
theorem UO (P:PW t):YW t 0=0:=by
 obtain⟨k,j⟩:∃k,t.length=k+1:=⟨t.length-1,by have:=P.n1;omega⟩;have h:=ZaK (t:=t) k;rw[<-j] at h;have q:=(ac.mp h).1;refine ZbW P P.n1 q ?_;rw[Zb,h];exact YE P P.n1
theorem YU (P:PW t):Nus t (YW t) (ZM t) (ZC t t.length).length:=by
 have M:=UO P;refine⟨λx j=>(UP P j).1,λx s j J=>ZiQ P j J,λx y j O h=>Zcm P j O h,λk q=>Zht P q,λk q=>ZbW P (Zht P q) q (ZeJ P q),λx j=>⟨λh=>?_,λh=>by rw[h];exact M⟩⟩;obtain⟨s,J,e⟩:=Zcm P P.n1 j (M.trans h.symm);rw[J0 P J] at e;exact e.symm
end
def We (n:Nat)(f:Nat->Int):Int:=((ae n).map f).sum
theorem YI (n:Nat)(f:Nat->Int):We (n+1) f=We n f+f n:=by
 unfold We;rw[ck,aN,List.sum_append];simp
theorem Z6 {n:Nat}{f g:Nat->Int}(h:∀x,x<n->f x=g x):We n f=We n g:=by
 unfold We;rw[aQ λx j=>h x (af.mp j)]
theorem JK (n:Nat):We n (λ_=>0)=0:=by
 induction n with
 |zero=>rfl
 |succ n j=>rw[YI,j];rfl
theorem Zbh (n:Nat)(f g:Nat->Int):We n (λx=>f x+g x)=We n f+We n g:=by
 induction n with
 |zero=>rfl
 |succ n j=>rw[YI,YI,YI,j];omega
theorem Jq (n:Nat)(k:Int)(f:Nat->Int):We n (λx=>k*f x)=k*We n f:=by
 induction n with
 |zero=>exact (cu k).symm
 |succ n j=>rw[YI,YI,j,Int.mul_add]
theorem Zcg (n m:Nat)(f:Nat->Nat->Int):We n (λx=>We m λy=>f x y)=We m (λy=>We n λx=>f x y):=by
 induction n with
 |zero=>
  show (0:Int)=_;exact (JK m).symm
 |succ n j=>
  rw[YI,j,<-Zbh];exact Z6 λy _=>(YI n _).symm
theorem XG {n:Nat}{p:Int}{f g:Nat->Int}(h:∀x,x<n->f x % p=g x % p):We n f % p=We n g % p:=by
 induction n with
 |zero=>rfl
 |succ n j=>
  rw[YI,YI,Int.add_emod,j λx q=>h x (by omega),h n (by omega),<-Int.add_emod]
theorem Zev {n z:Nat}(hz:z<n)(f:Nat->Int):We n (λw=>if w=z then f w else 0)=f z:=by
 induction n with
 |zero=>omega
 |succ n j=>
  rw[YI];by_cases e:z=n
  ·subst e
   rw[if_pos rfl];have:We z (λw=>if w=z then f w else 0)=We z (λ_=>0):=Z6 λx q=>if_neg (by omega)
   rw[this,JK,dA]
  ·rw[j (by omega),if_neg (λx=>e x.symm),cC]
theorem Zbg (n:Nat)(f:Nat->Nat):We n (λx=>(f x:Int))=(sm n f:Nat):=by
 induction n with
 |zero=>rfl
 |succ n j=>rw[YI,YX,j];omega
def cjB (t:T9)(u x:Nat):Bool:=(ae t.length).any λy=>tb t u y == x
theorem Xs {t:T9}{u x:Nat}:cjB t u x=true↔∃y,y<t.length/\tb t u y=x:=by
 unfold cjB;rw[aZ];constructor
 ·rintro⟨y,j,e⟩;exact⟨y,af.mp j,eq_of_beq e⟩
 ·rintro⟨y,j,e⟩;exact⟨y,af.mpr j,beq_iff_eq.mpr e⟩
structure PrM (p:Nat):Prop where
 p2:2<=p
 nz:∀a b,0<a->a<p->0<b->b<p->a*b % p≠0
 iv:∀a,0<a->a<p->∃b,0<b/\b<p/\b*a % p=1
structure CD (t:T9)(p m:Nat)(e w f:Nat->Nat->Nat):Prop where
 pr:PrM p
 m1:1<=m
 mc:m=(ZC t t.length).length
 ec:∀s x y,s<m->x<t.length->y<t.length->e s (tb t x y)=e s x
 wc:∀s x y,s<m->x<t.length->y<t.length->w s (tb t x y)=w s x
 elt:∀s x,s<m->x<t.length->e s x<p
 wlt:∀s x,s<m->x<t.length->w s x<p
 eig:∀s u z,s<m->u<t.length->z<t.length->sm t.length (λx=>JP (cjB t u x)*e s (ZP t (YL t x) z)) % p=w s u*e s z % p
 one:∀x,x<t.length->sm m (λs=>e s x) % p=if x=0 then 1 else 0
 du:∀s s',s<m->s'<m->sm t.length (λx=>f s x*e s' x) % p=if s=s' then 1 else 0
 sep:∀s s',s<m->s'<m->(∀u,u<t.length->w s u=w s' u)->s=s'
section
variable {t:T9}{p m:Nat}{e w f:Nat->Nat->Nat}
theorem CD.p0 (C:CD t p m e w f):(p:Int)≠0:=by have:=C.pr.p2;omega
def EC (t:T9)(e:Nat->Nat->Nat)(s c:Nat):Nat:=e s (ZM t c)
theorem CD.at (C:CD t p m e w f)(P:PW t){s x:Nat}(J:s<m)(q:x<t.length):e s x=EC t e s (YW t x):=by
 have U:=YU P;have j:=U.lt x q;obtain⟨y,M,h⟩:=U.tr (ZM t (YW t x)) x (U.rl _ j) q (U.rn _ j);have:=C.ec s _ y J (U.rl _ j) M;rw[h] at this;exact this
theorem CD.wat (C:CD t p m e w f)(P:PW t){s x:Nat}(J:s<m)(q:x<t.length):w s x=w s (ZM t (YW t x)):=by
 have U:=YU P;have j:=U.lt x q;obtain⟨y,M,h⟩:=U.tr (ZM t (YW t x)) x (U.rl _ j) q (U.rn _ j);have:=C.wc s _ y J (U.rl _ j) M;rw[h] at this;exact this
theorem ZbZ (P:PW t){u x:Nat}(j:u<t.length)(J:x<t.length):cjB t u x=decide (YW t x=YW t u):=by
 have U:=YU P;by_cases h:YW t x=YW t u
 ·rw[decide_eq_true h]
  exact Xs.mpr (U.tr u x j J h.symm)
 ·rw[decide_eq_false h]
  cases q:cjB t u x with
  |false=>rfl
  |true=>
   obtain⟨y,M,e⟩:=Xs.mp q;have:=U.con u y j M;rw[e] at this;exact absurd this h
theorem CD.LE (C:CD t p m e w f)(P:PW t){s i c:Nat}(J:s<m)(hi:i<m)(hc:c<m) :
  sm m (λj=>EC t e s j*cnA t (YW t) i j (ZM t c)) % p=w s (ZM t i)*EC t e s c % p:=by
 have U:=YU P;have Y:=C.mc;have M:ZM t i<t.length:=U.rl i (by omega);have q:ZM t c<t.length:=U.rl c (by omega);rw[show w s (ZM t i)*EC t e s c=w s (ZM t i)*e s (ZM t c) from rfl,<-C.eig s _ _ J M q];congr 1;have h1:sm m (λj=>EC t e s j*cnA t (YW t) i j (ZM t c))=sm m (λj=>sm t.length λx=>JP (decide (YW t x=i))*(JP (decide (YW t (ZP t (YL t x) (ZM t c))=j))*EC t e s j)):=Yt λj _=>by
  unfold cnA;rw[<-ZdQ];refine Yt λx _=>?_;rw[fh (EC t e s j),kC]
 rw[h1,Zjx];refine Yt λx O=>?_;rw[ZdQ,ZbZ P M O,U.rn i (by omega)];congr 1;have hb:=(Yp P O).1;have hl:YW t (ZP t (YL t x) (ZM t c))<m:=by rw[Y];exact U.lt _ (P.lt _ _ hb q)
 have:=ZgY hl (λj=>EC t e s j);rw[C.at P J (P.lt _ _ hb q),<-this];refine Yt λj _=>?_;congr 2;rw[decide_eq_decide];exact eq_comm
def Vc (t:T9)(p m:Nat)(e:Nat->Nat->Nat)(α:Nat->Int)(c:Nat):Int:=We m (λs=>α s*(EC t e s c:Int)) % (p:Int)
theorem JV {α j:Nat->Int}(h:∀s,s<m->α s % (p:Int)=j s % (p:Int))(c:Nat):Vc t p m e α c=Vc t p m e j c:=by
 unfold Vc;refine XG λs q=>?_;rw[bC,h s q,<-bC]
theorem Zi5 (α:Nat->Int)(u:Int)(c:Nat):Vc t p m e α c*u % (p:Int)=Vc t p m e (λs=>α s*u) c:=by
 unfold Vc;rw[bC,fJ _ (jj _),<-bC,dC,<-Jq];congr 1;refine Z6 λs _=>?_;rw[<-cf,dC u]
theorem Znf (α j:Nat->Int)(c:Nat):(Vc t p m e α c-Vc t p m e j c) % (p:Int)=Vc t p m e (λs=>α s - j s) c:=by
 unfold Vc;rw[<-ir];congr 1;have:We m (λs=>(α s - j s)*(EC t e s c:Int))=We m (λs=>α s*(EC t e s c:Int)+(-1)*(j s*(EC t e s c:Int))):=Z6 λs _=>by
  rw[l9];omega
 rw[this,Zbh,Jq];omega
theorem ZkV (C:CD t p m e w f)(P:PW t){i c:Nat}(q:i<m)(J:c<m)(α:Nat->Int)(k:Int) :
  (We m (λj=>Vc t p m e α j*(cnA t (YW t) i j (ZM t c):Int))-k*Vc t p m e α c) % (p:Int)=Vc t p m e (λs=>α s*((w s (ZM t i):Int)-k)) c:=by
 have M:We m (λj=>Vc t p m e α j*(cnA t (YW t) i j (ZM t c):Int)) % (p:Int)=We m (λs=>α s*((w s (ZM t i):Int)*(EC t e s c:Int))) % (p:Int):=by
  have O:We m (λj=>Vc t p m e α j*(cnA t (YW t) i j (ZM t c):Int)) % (p:Int)=We m (λj=>We m (λs=>α s*(EC t e s j:Int))*(cnA t (YW t) i j (ZM t c):Int)) % (p:Int):=XG λj _=>by
   unfold Vc;rw[bC,fJ _ (jj _),<-bC]
  rw[O];have U:We m (λj=>We m (λs=>α s*(EC t e s j:Int))*(cnA t (YW t) i j (ZM t c):Int))=We m (λs=>α s*We m (λj=>((EC t e s j*cnA t (YW t) i j (ZM t c):Nat):Int))):=by
   have Y:∀j,We m (λs=>α s*(EC t e s j:Int))*(cnA t (YW t) i j (ZM t c):Int)=We m (λs=>α s*((EC t e s j*cnA t (YW t) i j (ZM t c):Nat):Int)):=λj=>by
    rw[dC,<-Jq];refine Z6 λs _=>?_;rw[aJ,<-cf,dC _ (α s),cf,dC (cnA t (YW t) i j (ZM t c):Int)]
   rw[Z6 λj _=>Y j,Zcg];refine Z6 λs _=>?_;rw[<-Jq]
  rw[U];refine XG λs hs=>?_;rw[Zbg,bC];have:=C.LE P hs q J;have h2:((sm m (λj=>EC t e s j*cnA t (YW t) i j (ZM t c)):Nat):Int) % (p:Int)=((w s (ZM t i):Int)*(EC t e s c:Int)) % (p:Int):=by
   rw[<-aJ,<-a5,<-a5,this]
  rw[h2,<-bC]
 rw[ir,M,<-ir];have h3:(k*Vc t p m e α c) % (p:Int)=(k*We m (λs=>α s*(EC t e s c:Int))) % (p:Int):=by
  unfold Vc;rw[bC,fJ _ (jj _),<-bC]
 rw[ir,h3,<-ir];unfold Vc;congr 1;have:We m (λs=>α s*((w s (ZM t i):Int)-k)*(EC t e s c:Int))=We m (λs=>α s*((w s (ZM t i):Int)*(EC t e s c:Int))+(-k)*(α s*(EC t e s c:Int))):=Z6 λs _=>by
  rw[jH,l9,cf,gF,dC (α s) k,cf k];omega
 rw[this,Zbh,Jq,gF];omega
theorem ZlC (C:CD t p m e w f)(P:PW t)(α:Nat->Int)(h:∀c,c<m->Vc t p m e α c=0):∀s,s<m->α s % (p:Int)=0:=by
 intro s O;have U:=YU P;have mc:=C.mc;have M:We t.length (λx=>(f s x:Int)*We m (λj=>α j*(e j x:Int))) % (p:Int)=0:=by
  have:We t.length (λx=>(f s x:Int)*We m (λj=>α j*(e j x:Int))) % (p:Int)=We t.length (λ_=>0) % (p:Int):=XG λx Y=>by
   have hc:=U.lt x Y;have hv:=h (YW t x) (by omega);unfold Vc at hv;have:We m (λj=>α j*(e j x:Int))=We m (λj=>α j*(EC t e j (YW t x):Int)):=Z6 λj J=>by rw[C.at P J Y]
   rw[this,bC,hv];simp
  rw[this,JK];rfl
 have h2:We t.length (λx=>(f s x:Int)*We m (λj=>α j*(e j x:Int)))=We m (λj=>α j*((sm t.length (λx=>f s x*e j x):Nat):Int)):=by
  have e1:∀x,(f s x:Int)*We m (λj=>α j*(e j x:Int))=We m (λj=>α j*((f s x*e j x:Nat):Int)):=λx=>by
   rw[<-Jq];refine Z6 λj _=>?_;rw[aJ,<-cf,dC _ (α j),cf]
  rw[Z6 λx _=>e1 x,Zcg];refine Z6 λj _=>?_;rw[Jq,Zbg]
 rw[h2] at M;have h3:We m (λj=>α j*((sm t.length (λx=>f s x*e j x):Nat):Int)) % (p:Int)=We m (λj=>if j=s then α j else 0) % (p:Int):=XG λj J=>by
  have d:=C.du s j O J;have d2:((sm t.length (λx=>f s x*e j x):Nat):Int) % (p:Int)=(if s=j then 1 else 0:Int):=by
   rw[<-a5,d];split <;> rfl
  rw[bC,d2];by_cases q:j=s
  ·rw[if_pos q,if_pos q.symm]
   simp
  ·rw[if_neg q,if_neg (λz=>q z.symm)]
   simp
 rw[h3,Zev O] at M;exact M
theorem ZoU (C:CD t p m e w f)(P:PW t){s c:Nat}(j:s<m)(J:c<m):Vc t p m e (λs'=>if s'=s then 1 else 0) c=(EC t e s c:Int):=by
 unfold Vc;have:We m (λs'=>(if s'=s then (1:Int) else 0)*(EC t e s' c:Int))=We m (λs'=>if s'=s then (EC t e s' c:Int) else 0):=Z6 λs' _=>by
  split
  ·rw[jG]
  ·rw[ci]
 rw[this,Zev j];have q:ZM t c<t.length:=(YU P).rl c (by have:=C.mc;omega);have:=C.elt s _ j q;rw[fk (by omega)];unfold EC;omega
theorem Zng (C:CD t p m e w f)(P:PW t){c:Nat}(J:c<m):Vc t p m e (λ_=>1) c=if c=0 then 1 else 0:=by
 have U:=YU P;have j:c<(ZC t t.length).length:=by have:=C.mc;omega
 have q:=U.rl c j;unfold Vc;have:We m (λs=>1*(EC t e s c:Int))=((sm m (λs=>e s (ZM t c)):Nat):Int):=by
  rw[<-Zbg];exact Z6 λs _=>jG _
 rw[this,<-a5,C.one _ q];have:ZM t c=0↔c=0:=by
  rw[<-U.z _ q,U.rn c j]
 by_cases h:c=0
 ·rw[if_pos (this.mpr h),if_pos h];rfl
 ·rw[if_neg (λz=>h (this.mp z)),if_neg h];rfl
end
end Tb
set_option maxHeartbeats 4000000
namespace L2
open PySem PySem.Spec PyProof.Rows
structure Jp (N:List Str)(esc:cL)(own:List Str)(caps:TY)(N':List Str)(sc:cL):Prop where
 kind:sc.kind=.function
 ndn:(sc.names.map (·.1)).Nodup
 uniq:∀y∈sc.names,y.2=.local->sc.names.lookup y.1=some .local
 nd:N'.Nodup
 eqN:N'=own++caps.map λj=>N.getD j ""
 cap:∀j∈caps,j<N.length/\sc.names.lookup (N.getD j "")=some .free
 fr:∀y∈sc.names,y.2=.free->esc.names.lookup y.1=some .cell\/esc.names.lookup y.1=some .free
def JG (J:List Str)(q:TY)(M:St):St:=aw J.length none++q.map λj=>(M[j]?).join
theorem Xr {env:Env}:∀(names:List (Str×eA)) (ZJ:List (Str×Addr)),(∀y∈names,y.2=.free->∃c,env.cells.lookup y.1=some c)->(∀y c,ZJ.lookup y=some c->env.cells.lookup y=some c)->
  ∃cl,(forIn names ZJ (λx r=>if (x.2 == ff)=true then (do let c <-cellOf env x.1;pure (cH ((x.1,c)::r))) else pure (cH r)):Sem (List (Str×Addr)))=pure cl/\
   (∀y c,cl.lookup y=some c->env.cells.lookup y=some c)/\(∀y,(∃c,ZJ.lookup y=some c)->∃c,cl.lookup y=some c)/\∀y∈names,y.2=.free->∃c,cl.lookup y.1=some c
 | [],ZJ,_,M=>⟨ZJ,rfl,M,λ_ h=>h,λ_ h=>absurd h (by simp)⟩
 | (n,k)::r,ZJ,Y,M=>by
  rw[List.forIn_cons];by_cases hk:k=.free
  ·subst hk
   obtain⟨c,hc⟩:=Y (n,.free) aA rfl;have m5:∀y d,((n,c)::ZJ).lookup y=some d->env.cells.lookup y=some d:=λy d e=>by
    rw[cV] at e;cases q:y == n with
    |true=>rw[q] at e;cases e;rw[beq_iff_eq.mp q];exact hc
    |false=>rw[q] at e;exact M y d e
   obtain⟨cl,e,h1,O,h3⟩:=Xr r ((n,c)::ZJ) (λy j=>Y y (aE _ j)) m5;have hh:∀y,(∃d,ZJ.lookup y=some d)->∃d,((n,c)::ZJ).lookup y=some d:=λy ⟨d,hd⟩=>by
    rw[cV];cases q:y == n with
    |true=>exact⟨c,rfl⟩
    |false=>exact⟨d,hd⟩
   have hs:∃d,((n,c)::ZJ).lookup n=some d:=⟨c,by rw[cV,beq_self_eq_true]⟩;refine⟨cl,?_,h1,λy j=>O y (hh y j),λy j U=>?_⟩
   ·have J:cellOf env n=pure c:=by simp only[cellOf,hc]
    simp only[beq_self_eq_true,if_true,J];simp only[pure_bind];exact e
   ·rcases aD.mp j with rfl|j
    ·exact O _ hs
    ·exact h3 y j U
  ·obtain⟨cl,e,h1,O,h3⟩:=Xr r ZJ (λy j=>Y y (aE _ j)) M
   refine⟨cl,?_,h1,O,λy j U=>?_⟩
   ·have hb:(k == ff)=false:=by simpa using hk
    simp only[hb,df,if_false,pure_bind];exact e
   ·rcases aD.mp j with rfl|j
    ·exact absurd U hk
    ·exact h3 y j U
theorem UR {scope:cL}{env:Env}(h:∀y∈scope.names,y.2=.free->∃c,env.cells.lookup y.1=some c) :
  ∃cl,closureFor scope env=pure cl/\(∀y c,cl.lookup y=some c->env.cells.lookup y=some c)/\∀y∈scope.names,y.2=.free->∃c,cl.lookup y.1=some c:=by
 obtain⟨cl,e,j,_,J⟩:=Xr (env:=env) scope.names [] h (λy c e=>by simp at e);refine⟨cl,?_,j,J⟩;have q:closureFor scope env=((forIn scope.names ([]:List (Str×Addr)) (λx r=>if (x.2 == ff)=true then (do let c <-cellOf env x.1;pure (cH ((x.1,c)::r))) else pure (cH r)):Sem (List (Str×Addr))) >>= λM=>pure M):=rfl
 rw[q,e];rfl
theorem WW {names:List (Str×eA)}{x:Str}{k:eA}(h:names.lookup x=some k):(x,k)∈names:=bo h
theorem Wj {env:Env}{x:Str}:∀{names:List (Str×eA)}{k:eA},
  (names.map λ(n,k)=>if (k == ff && env.scope.kind == .function && env.kindOf n == some .cell) then (n,c8) else (n,k)).lookup x=some k->
  names.lookup x=some k\/(k=.cell/\names.lookup x=some .free)
 | [],_,h=>by simp at h
 | (n,j)::r,k,h=>by
  have O:=@Wj env x r k;have h:List.lookup x ((if (j == ff && env.scope.kind == .function && env.kindOf n == some .cell)=true then (n,c8) else (n,j))::_)=some k:=h
  rw[cV];by_cases J:(j == ff && env.scope.kind == .function && env.kindOf n == some .cell)=true
  ·rw[if_pos J,cV] at h
   have M:j=.free:=by
    simp only[ah,beq_iff_eq] at J;exact J.1.1
   cases q:x == n with
   |true=>rw[q] at h;cases h;right;exact⟨rfl,by rw[M]⟩
   |false=>rw[q] at h;exact O h
  ·rw[if_neg J,cV] at h
   cases q:x == n with
   |true=>rw[q] at h;cases h;left;rfl
   |false=>rw[q] at h;exact O h
section
variable {X:Cx}
def ZiV (scope:cL)(x:Str):Bool:=scope.names.any λy=>y.1 == x && (match y.2 with | .cell=>true|_=>false)
theorem Zgk {scope:cL}{x:Str}(h:ZiV scope x=true):(x,c8)∈scope.names:=by
 unfold ZiV at h;obtain⟨⟨n,k⟩,hm,j⟩:=aZ.mp h;rw[ah] at j;obtain⟨q,J⟩:=j;have e:n=x:=by simpa using q
 subst e;cases k <;> first|exact hm|cases J
theorem Vh {x:Str}{k:eA}:∀{names:List (Str×eA)},(names.map (·.1)).Nodup->(x,k)∈names->names.lookup x=some k
 | [],_,h=>by cases h
 | (n,j)::r,nd,h=>by
  rw[aB,bW] at nd;rw[cV];rcases aD.mp h with e|h
  ·cases e
   simp
  ·have:(x == n)=false:=by
    refine Bool.eq_false_iff.mpr λz=>nd.1 ?_;rw[<-beq_iff_eq.mp z];exact az.mpr ⟨_,h,rfl⟩
   rw[this];exact Vh nd.2 h
theorem J7:∀(names:List (Str×eA)) (n:Nat) (ZJ:List (Str×Addr)),cellsFrom n names ZJ=cellsFrom n names []++ZJ
 | [],n,ZJ=>rfl
 |(x,k)::r,n,ZJ=>by
  unfold cellsFrom;by_cases j:(k == c8)=true
  ·rw[if_pos j,if_pos j,J7 r (n+1) ((x,n)::ZJ),J7 r (n+1) [(x,n)],gx]
   rfl
  ·rw[if_neg j,if_neg j,J7 r n ZJ]
theorem Vn {x:Str}{c:Addr}:∀(names:List (Str×eA)) (n:Nat) (ZJ:List (Str×Addr)),(x,c)∈cellsFrom n names ZJ->(x,c8)∈names\/(x,c)∈ZJ
 | [],n,ZJ,h=>.inr h
 | (y,k)::r,n,ZJ,h=>by
  unfold cellsFrom at h;by_cases j:(k == c8)=true
  ·rw[if_pos j] at h
   rcases Vn r (n+1) _ h with z|z
   ·exact .inl (aE _ z)
   ·rcases aD.mp z with e|z
    ·cases e
     have:k=.cell:=by cases k <;> first|rfl|cases j
     rw[this];exact .inl aA
    ·exact .inr z
  ·rw[if_neg j] at h
   rcases Vn r n _ h with z|z
   ·exact .inl (aE _ z)
   ·exact .inr z
theorem Zkh {M:Model}{A:Around}{E:TU}{s:Shared}{scope:cL}{globals:Addr}{cl:List (Str×Addr)}{qual:Str}{j:Env}{Q:Env->Shared->Prop}
  (U:Q (newEnv scope s.heap.objs.size globals (cellsFrom (s.heap.objs.size+1) scope.names cl) qual none .none (some j) builtinsNs) {s with heap:=pushCells (s.heap.push {cls:=.type "dict",data:=.dict #[]}) scope.names}) :
  wpAny M A (newFunctionEnv scope globals cl [] qual none .none (some j)) Q E s:=by
 unfold newFunctionEnv;refine Zl (wpAny_alloc ?_);refine Zl (wpAny_layCells _ (λO kind q=>by cases J:kind == c8 <;> simp[J]) _ _ _ _ ?_)
 rw[show ({s with heap:=s.heap.push {cls:=.type (if (some j).isSome=true then "dict" else "frame"),data:=.dict #[]}}:Shared).heap.objs.size=s.heap.objs.size+1 from bF ..]
 exact Zl (by rw[List.forIn_nil];exact Zm (Zm U))
def Y5 (X:Cx)(scope:cL)(j:List (Str×Addr))(q:List Str)(C:Addr)(s:Shared)(H:Hp)(ex:TN):Cx:=
 {X with N:=q,s₀:=s,H₀:=H,env:=compEnvC scope j C X.env,outer:=X.stack,ex:=ex,fn:=ZiV scope,pn:=[],xe:=λ_ _=>False}
def W0 (m5:List Str)(q:TY)(g:TG)(tc:TT)(te:TE)(σ:St)(Q:VK)(J:It)(H1:Hp):Prop:=∀D,H1 D=none->
 ∃W:Nat->Nat->St->Hp->Prop,(∃m,W 0 m (JG m5 q σ) (upd H1 D (.lst [])))/\∀i m M O,W i m M O->
  (J.stop i O/\Q (.ref D) O)\/(J.go i O/\∃N:St->Hp->Prop,(∀ U Y,N U Y->∃m',m'<m/\W (i+1) m' U Y)/\∀x Y,J.yld i O x Y->g x M Y λj H3=>tc j H3 λb H4=>
   if b=true then te j H4 λv H5=>∃xs,H5 D=some (.lst xs)/\xs.length<sizeLine/\N j (upd H5 D (.lst (xs++[v]))) else N j H4)
def Zeq (q:List Str)(j:TY)(O:TI)(g:TG)(U:TT)(Y:TE):TE:=λM H Q=>O M H λJ H1=>W0 q j g U Y M Q J H1
def WF:TT:=λ_ H Q=>Q true H
def PIf (X:Cx)(q:List Expr)(t:TT):Prop:=
 ∀(j:List (Addr×Obj)) (s:Shared) (J:St) (H:Hp) (Q:Bool->Hp->Prop),Inv X j J H s->t J H Q->
  wpAny (model X.prog X.w) X.A (forIn q true λc r=>if r=true then do let ok <-isTrue c X.env (eval c X.env);pure (cH ok) else pure (cH r)) (TP X j J Q) X.xe s
theorem ZQ:PIf X [] WF:=λ_ _ _ H _ I h=>wpAny_tests_nil ⟨H,I,h⟩
theorem ZjO {c:Expr}{t:TT}(h:PT X c t):PIf X [c] t:=λj s J H Q I q=>wpAny_tests_one (h j s J H Q I q)
theorem JT {prog:Program}{w:World}{A:Around}{R:Result->Shared->Prop}{s:Shared}{elt j iter:Expr}{ifs:List Expr}{scope:cL}{pos:Pos}{it ZJ:Value}{env:Env}(I:Nat->Shared->Prop)
  (turn:∀n s,I n s->wpAny (model prog w) A (pyNext it) (λr q=>match r with
   |none=>R (.ok .next) q
   |some v=>wpAny (model prog w) A (letOwnedTupleGo j it v) (λ_ J=>wpAny (model prog w) A (assign j env v) (λ_ U=>
     wpAny (model prog w) A (forIn ifs true λc r=>if r=true then do let ok <-isTrue c env (eval c env);pure (cH ok) else pure (cH r)) (λok M=>
      if ok=true then wpAny (model prog w) A (eval elt env) (λx Y=>
       wpAny (model prog w) A (call (.builtin "list.append") [ZJ,x]) (λ_ m5=>∃m,m<n/\I m m5) (λ_ _=>False) Y) (λ_ _=>False) M
      else ∃m,m<n/\I m M) (λ_ _=>False) U) (λ_ _=>False) J) (λ_ _=>False) q) (λ_ _=>False) s)
  (n:Nat) (h:I n s) :
  codeAny (model prog w) A (.compLoop (.ListComp elt [⟨j,iter,ifs,0⟩] scope pos) 0 it ZJ env) R s:=by
 refine codeAny_loop rfl I (λn s hI=>?_) n h;show wpAny _ A ((compTurn (.ListComp elt [⟨j,iter,ifs,0⟩] scope pos) 0 it ZJ env).onRaise (λx=>do noteFrame x env;theTreesLotGoes x)) _ _ s
 refine wpAny_noted ?_;rw[compTurn_list];refine Zl (ie (Zl (cm (turn n s hI) (λr q m6=>?_) λ_ _ O=>O.elim)));cases r with
 |none=>exact Zm m6
 |some v=>
  refine Zl (cm m6 (λ_ J m8=>?_) λ_ _ O=>O.elim);refine Zl (cm m8 (λ_ U m9=>Zl (cm m9 (λok M m7=>?_) λ_ _ O=>O.elim)) λ_ _ O=>O.elim);cases ok with
  |false=>exact Zm ⟨rfl,m7⟩
  |true=>
   exact Zl (Zl (cm m7 (λx Y n6=>Zl (cm n6 (λ_ m5 n8=>Zm (Zm ⟨rfl,n8⟩)) λ_ _ O=>O.elim)) λ_ _ O=>O.elim))
theorem UL {own:List Str}{o0:TY}{N':List Str}{y4 scope:cL}{elt iter tg:Expr}{ifs:List Expr}{pos:Pos}{g:TG}{tc:TT}{te:TE}{cl:List (Str×Addr)}
  (y6:X.env.scope=y4) (S:Jp X.N y4 own o0 N' scope) (hc:X.calm=true)
  (m5:∀y c,cl.lookup y=some c->X.env.cells.lookup y=some c) (r8:∀y∈scope.names,y.2=.free->∃c,cl.lookup y.1=some c)
  (hg:∀cl C s H ex,PG (Y5 X scope cl N' C s H ex) tg g) (ht:∀cl C s H ex,PIf (Y5 X scope cl N' C s H ex) ifs tc) (he:∀cl C s H ex,PE (Y5 X scope cl N' C s H ex) elt te)
  {m7:List (Addr×Obj)}{σ:St}{H2:Hp}{s2:Shared}{it:Addr}{fp:TN}{tn:Nat->Heap->Prop}{J:It}{Q:VK}{RR:Value->Addr->Result->Shared->Prop}{E:TU}
  (I2:Inv X m7 σ H2 s2) (T:Zac X.prog X.w X.K tg J fp it tn) (t7:tn 0 s2.heap) (f2:∀b∈fp,Zad X m7 H2 b)
  (h:W0 own o0 g tc te σ Q J H2)
  (hRR:∀D C s' m H',s'.heap.Ns C m->C≠X.env.locals->(∀x c,X.env.cells.lookup x=some c->c≠C)->X.s₀.heap.objs.size<=C->(∀p∈X.pn++m7,p.1≠C)->H' C=none->Q (.ref D) H'->(∀h',be C s'.heap h'->Inv X m7 σ H' {s' with heap:=h'})->RR (.ref D) C (.ok .next) s') :
  wpAny (model X.prog X.w) X.A (newList []) (λZJ y8=>wpAny (model X.prog X.w) X.A (newFunctionEnv scope X.env.globals cl [] X.env.qual none .none (some X.env)) (λr9 y9=>
   codeAny (model X.prog X.w) X.A (.compStart (.ListComp elt [⟨tg,iter,ifs,0⟩] scope pos) 0 (.ref it) ZJ {r9 with scope:=relabel scope X.env}) (RR ZJ r9.locals) y9) E y8) E s2:=by
 refine bA (Zkh ?_)
 try dsimp only
 have hD:H2 s2.heap.objs.size=none:=I2.hok.fresh (Zq _);obtain⟨W,⟨m0,w0⟩,turn⟩:=h _ hD;generalize t8:s2.heap.push {cls:=.type "list",dict:=none,data:=.seq ([]:List Value).toArray}=O;have hC:O.objs.size=s2.heap.objs.size+1:=by rw[<-t8,bF]
 have t0:∀b o,s2.heap.get? b=some o->O.get? b=some o:=λb o e=>t8▸Zn _ e;have I3:Inv X m7 σ (upd H2 s2.heap.objs.size (.lst [])) {s2 with heap:=O,toks:=s2.toks}:=
  I2.laid (t':=s2.toks) t0 (Zq _) ⟨aU _,[],0,.nil,t8▸Zo _ rfl⟩
 generalize t9:pushCells (O.push {cls:=.type "dict",data:=.dict #[]}) scope.names=m8;have k1:∀b o,O.get? b=some o->m8.get? b=some o:=λb o e=>t9▸pushCells_keeps _ _ b o (Zn _ e);have o9:m8.Ns O.objs.size (λ_=>none):=t9▸(Heap.Ns.new O (.type "dict")).keeps (pushCells_keeps _ _);have p4:CellsOk m8 (O.objs.size+1) (cellsFrom (O.objs.size+1) scope.names []):=by
  have q:=cellsFrom_ok scope.names (O.push {cls:=.type "dict",data:=.dict #[]}) (O.objs.size+1) [] ⟨λ_ _ hm=>(nomatch hm),fF⟩ (by rw[bF];exact Zq _);rw[bF,t9] at q;exact q
 have o5:cellsFrom (O.objs.size+1) scope.names cl=cellsFrom (O.objs.size+1) scope.names []++cl:=J7 _ _ _;have n6:∀y,scope.names.lookup y=some .cell->∃c,(cellsFrom (O.objs.size+1) scope.names []).lookup y=some c:=λy hy=>gf.mp (gM scope.names (O.objs.size+1) [] (.inl hy));generalize hcA:cellsFrom (O.objs.size+1) scope.names []=cA at p4 o5 n6;have memA:∀y c,cA.lookup y=some c->(y,c8)∈scope.names:=λy c e=>by
  have:=bo e;rw[<-hcA] at this;rcases Vn _ _ _ this with z|z
  ·exact z
  ·cases z
 generalize hcE:cellsFrom (O.objs.size+1) scope.names cl=cE at o5;have o6:∀y c,cE.lookup y=some c->cA.lookup y=some c\/(cA.lookup y=none/\cl.lookup y=some c):=λy c e=>by
  rw[o5,iS] at e;cases q:cA.lookup y with
  |none=>rw[q] at e;exact .inr ⟨rfl,by simpa using e⟩
  |some c'=>rw[q] at e;exact .inl (by simpa using e)
 have lkF:∀y c,scope.names.lookup y=some .free->cl.lookup y=some c->cE.lookup y=some c:=λy c hy e=>by
  rw[o5,iS];cases q:cA.lookup y with
  |none=>simpa using e
  |some c'=>
   have:=Vh S.ndn (memA y c' q);rw[hy] at this;cases this
 have fpn:∀b∈fp,upd H2 s2.heap.objs.size (.lst []) b=none:=λb hb=>by
  obtain⟨o,ho,_⟩:=T.obj _ _ t7 b hb;rw[Zy (ar (Zp ho))];exact (f2 b hb).1
 have o7:∀b∈fp,b<O.objs.size:=λb hb=>by
  obtain⟨o,ho,_⟩:=T.obj _ _ t7 b hb;rw[hC];exact bI (Zp ho)
 generalize M:Y5 X scope cE N' O.objs.size {s2 with heap:=O,toks:=s2.toks} (upd H2 s2.heap.objs.size (.lst [])) fp=X';have hfs:X'.fs=VW X.stack:=by rw[<-M];rfl
 have u5:∀y,X'.env.kindOf y=some .cell\/X'.env.kindOf y=some .free->∃c,cE.lookup y=some c:=λy hy=>by
  have hy':(relabel scope X.env).names.lookup y=some .cell\/(relabel scope X.env).names.lookup y=some .free:=by rw[<-M] at hy;exact hy
  have hf:scope.names.lookup y=some .free->∃c,cE.lookup y=some c:=λhf=>by
   obtain⟨c,n8⟩:=r8 _ (WW hf) rfl;exact⟨c,lkF y c hf n8⟩
  have p6:scope.names.lookup y=some .cell->∃c,cE.lookup y=some c:=λhf=>by
   obtain⟨c,n8⟩:=n6 y hf;exact⟨c,by rw[o5,iS,n8];rfl⟩
  rcases hy' with q|q
  ·rcases Wj q with z|z
   ·exact p6 z
   ·exact hf z.2
  ·rcases Wj q with z|z
   ·exact hf z
   ·exact absurd z.1 (by decide)
 have m6:X'.env.cells=cE:=by rw[<-M];rfl
 have m9:X'.env.locals=O.objs.size:=by rw[<-M];rfl
 have cne:∀x c,cl.lookup x=some c->c≠O.objs.size/\c<O.objs.size:=λx c e=>by
  obtain⟨v,q⟩:=I3.cell x c (m5 x c e);exact⟨ar q.lt,q.lt⟩
 have U:∀x c,cA.lookup x=some c->O.objs.size+1<=c:=λx c e=>(p4.empty x c (bo e)).2;have injE:∀x y c,cE.lookup x=some c->cE.lookup y=some c->x=y:=λx y c a b=>by
  rcases o6 x c a with a|⟨_,a⟩ <;> rcases o6 y c b with b|⟨_,b⟩
  ·exact name_of_addr p4.apart (bo a) (bo b)
  ·have h1:O.objs.size+1<=c:=U x c a
   exact absurd (aF (cne y c b).2 (dP h1)) (b9 _)
  ·have h1:O.objs.size+1<=c:=U y c b
   exact absurd (aF (cne x c a).2 (dP h1)) (b9 _)
  ·exact I3.ok.inj x y c (m5 x c a) (m5 y c b)
 have ok':X'.Ok:=by
  refine M▸⟨I3.ok.mod,S.kind,I3.ok.glob,I3.ok.blt,Zq _,injE,?_,?cab,I3.ok.hd,I3.ok.frames,.inl rfl,?_,?_,?_,?_,?_,I3.stack,I3.stkFree⟩
  ·intro y hy
   exact u5 y (by rw[<-M];exact hy)
  ·intro x c z e
   have hm:=Vh S.ndn (Zgk z);rcases o6 x c e with e|⟨n,_⟩
   ·exact dP (U x c e)
   ·obtain⟨c',n8⟩:=n6 x hm
    rw[n] at n8;cases n8
  ·intro b hb
   refine⟨ar (o7 b hb),λx c e=>?_⟩;rcases o6 x c e with e|⟨_,e⟩
   ·have h1:O.objs.size+1<=c:=U x c e
    exact λz=>absurd (aF (o7 b hb) (dP h1)) (by rw[z];exact b9 _)
   ·exact (f2 b hb).2.2.2.2.1 x c (m5 x c e)
  ·exact I3.bs
  ·exact aW I3.ok.bsz I3.sz
  ·intro b o e hb
   rcases (f2 b hb).2.2.2.1 with z|z
   ·exact I3.ok.noex b o e z
   ·exact absurd (aF (Zp e) (aW I3.ok.bsz z)) (b9 _)
  ·intro b hb z
   rcases aD.mp (I3.stkSub b z) with e|e
   ·exact (f2 b hb).2.1 e
   ·exact (f2 b hb).2.2.1 e
 have I4:Inv X' [] (JG own o0 σ) (upd H2 s2.heap.objs.size (.lst [])) {s2 with heap:=m8,toks:=s2.toks}:=by
  refine⟨ok',M▸rfl,I3.bare,?_,⟨_,by rw[m9];exact o9,?_⟩,?_,?_,?_,?_,?_,?_⟩
  ·rw[<-M];exact Un.kept k1
  ·intro i x v hN n9 hV
   have u9:N'[i]?=some x:=by rw[<-M] at hN;exact hN
   unfold JG at n9;by_cases hi:i<own.length
   ·rw[ak (by simpa using hi),eS] at n9
    rw[if_pos hi] at n9;cases n9
   ·rw[aq (by simpa using hi),Ze,Zc] at n9
    rw[S.eqN,aq (by omega),Zc] at u9;cases hj:o0[i-own.length]? with
    |none=>rw[hj] at n9;cases n9
    |some j=>
     rw[hj] at n9 u9;have hx:X.N.getD j ""=x:=ax u9;obtain⟨hjl,o8⟩:=S.cap j (av hj);rw[hx] at o8;have hjN:X.N[j]?=some x:=by
      rw[Zf hjl,<-hx,Zb,Zf hjl];rfl
     have hv:σ[j]?=some (some v):=by
      have q:(σ[j]?).join=some v:=ax n9;cases q':σ[j]? with
      |none=>rw[q'] at q;cases q
      |some o=>rw[q'] at q;rw[show o=some v from q]
     have w8:=S.fr (x,.free) (WW o8) rfl;rw[<-y6] at w8;obtain⟨m,hn,hl⟩:=I3.loc;have visX:Vis X.env.scope x:=w8.elim (λz=>.inr (.inl z)) λz=>.inr (.inr z);obtain⟨u,ru,look⟩:=hl j x v hjN hv visX;refine⟨u,ru,?_⟩;obtain⟨c,p6⟩:=r8 (x,.free) (WW o8) rfl;rcases look with ⟨a,_⟩|⟨_,c',n8,w9⟩
     ·rcases w8 with z|z
      ·rw[show X.env.kindOf x=X.env.scope.names.lookup x from rfl,z] at a;cases a
      ·rw[show X.env.kindOf x=X.env.scope.names.lookup x from rfl,z] at a;cases a
     ·have:c'=c:=by rw[m5 _ _ p6] at n8;cases n8;rfl
      subst this;refine .inr ⟨?_,c',by rw[m6];exact lkF _ _ o8 p6,w9.keeps k1⟩;rcases hV with q|q|q
      ·have q':(relabel scope X.env).names.lookup x=some .local:=by rw[<-M] at q;exact q
       rcases Wj q' with z|z
       ·rw[o8] at z;cases z
       ·exact absurd z.1 (by decide)
      ·exact .inl q
      ·exact .inr q
  ·intro x c e
   rw[m6] at e;rcases o6 x c e with e|⟨_,e⟩
   ·exact⟨_,(p4.empty x c (bo e)).1⟩
   ·obtain⟨v,q⟩:=I3.cell x c (m5 x c e)
    exact⟨v,q.keeps k1⟩
  ·rw[m9];exact I3.hok.fresh (Zq _)
  ·intro x c e
   rw[m6] at e;rcases o6 x c e with e|⟨_,e⟩
   ·exact I3.hok.fresh (dP (U x c e))
   ·exact I3.freeC x c (m5 x c e)
  ·intro p hp
   have:p∈([]:List (Addr×Obj)):=by rw[<-M] at hp;exact hp
   cases this
  ·rw[<-M];exact I3.hok.kept k1
  ·rw[<-M]
   show (JG own o0 σ).length=N'.length;unfold JG;rw[S.eqN,Zd,Zd,Ze,Za,Za]
 have pX:X'.prog=X.prog:=by rw[<-M];rfl
 have wX:X'.w=X.w:=by rw[<-M];rfl
 have KX:X'.K=X.K:=by rw[<-M];rfl
 have AX:X'.A=X.A:=by rw[<-M];rfl
 have cX:X'.calm=true:=by rw[<-M];exact hc
 have xX:X'.xe=λ_ _=>False:=by rw[<-M];rfl
 have envX:X'.env=compEnvC scope cE O.objs.size X.env:=by rw[<-M];rfl
 have exX:X'.ex=fp:=by rw[<-M];rfl
 have hg':PG X' tg g:=M▸hg _ _ _ _ _;have ht':PIf X' ifs tc:=M▸ht _ _ _ _ _;have he':PE X' elt te:=M▸he _ _ _ _ _;have x0:∀{H':Hp},(∀b∈fp,H' b=none)->∀b∈fp,Zad X' [] H' b:=λ{H'} hn b hb=>by
  refine⟨hn b hb,?_,?_,?_,?_,?_⟩
  ·rw[m9];exact ar (o7 b hb)
  ·rw[hfs];intro z
   rcases aD.mp (I3.stkSub b z) with e|e
   ·exact (f2 b hb).2.1 e
   ·exact (f2 b hb).2.2.1 e
  ·rw[exX];exact .inl hb
  ·intro x c e
   rw[m6] at e;rcases o6 x c e with e|⟨_,e⟩
   ·have h1:O.objs.size+1<=c:=U x c e
    exact λz=>absurd (aF (o7 b hb) (dP h1)) (by rw[z];exact b9 _)
   ·exact (f2 b hb).2.2.2.2.1 x c (m5 x c e)
  ·intro p hp
   have:p∈([]:List (Addr×Obj)):=by rw[<-M] at hp;exact hp
   cases this
 have st1:tn 0 m8:=T.keep _ _ _ t7 λb hb o e=>k1 b o (t0 b o e);have back:∀{Y:St}{H':Hp}{s':Shared}{pp:List (Addr×Obj)}{h':Heap},Inv X' pp Y H' s'->be O.objs.size s'.heap h'->Inv X m7 σ H' {s' with heap:=h'}:=λ{Y H' s' pp h'} I' sb=>by
  have u:=I'.base;rw[hfs,exX] at u;have hs0:X'.s₀.heap=O:=by rw[<-M];rfl
  have hH0:X'.H₀=upd H2 s2.heap.objs.size (.lst []):=by rw[<-M];rfl
  rw[hs0,hH0] at u;have ne:∀b o,O.get? b=some o->b≠O.objs.size:=λb o e=>ar (Zp e);have hCn:H' O.objs.size=none:=by have:=I'.free;rw[m9] at this;exact this
  refine I3.call' (s':={s' with heap:=h'}) (ch:=fp) ?_ ⟨?_,?_,?_,?_,?_,?_,?_⟩ ?_ I'.bare ?_
  ·have:=I'.os;rw[<-M] at this;exact this
  ·intro b o e n hb hx;exact sb.extBut b o (ne b o e) (u.keep b o e n hb hx)
  ·intro b o e n hb hx
   obtain⟨sl,q⟩:=u.slot b o e n hb hx;exact⟨sl,sb.extBut b _ (ne b o e) q⟩
  ·exact u.free
  ·intro b o e hx
   obtain⟨o',q⟩:=u.there b o e hx;exact⟨o',sb.extBut b _ (ne b o e) q⟩
  ·exact u.tups
  ·exact u.frzs
  ·exact u.tbls
  ·have hok:=I'.hok
   rw[pX,wX] at hok;intro a o e;refine (hok a o e).stay (λb v hb r=>sb.extBut b v ?_ r) (λb r=>r) λb xs r=>r;rcases hb with rfl|hb
   ·intro z;rw[z,hCn] at e;cases e
   ·intro z;rw[z,hCn] at hb;cases hb
  ·intro b hb
   refine⟨(f2 b hb).2.2.2.1,(f2 b hb).2.1,(f2 b hb).2.2.2.2.1,(f2 b hb).2.2.2.2.2⟩
 have t6:∀s3:Shared,s3={s2 with heap:=m8,toks:=s2.toks}->
   codeAny (model X.prog X.w) X.A (.compLoop (.ListComp elt [⟨tg,iter,ifs,0⟩] scope pos) 0 (.ref it) (.ref s2.heap.objs.size) (compEnvC scope cE O.objs.size X.env)) (RR (.ref s2.heap.objs.size) O.objs.size) s3:=by
  rintro s3 rfl;refine JT (λn s'=>∃i Y H',Inv X' [] Y H' s'/\tn i s'.heap/\(∀b∈fp,H' b=none)/\W i n Y H') ?_ m0 ⟨0,_,_,I4,st1,fpn,w0⟩;rintro n s5 ⟨i,p7,H5,I5,st5,fr5,w5⟩;rcases turn i n p7 H5 w5 with ⟨stop,qn⟩|⟨go,N,hN,step⟩
  ·have q:=T.done X' pX wX KX cX i [] s5 p7 H5 (λ_ _=>False) I5 (x0 fr5) st5 stop
   rw[AX] at q;refine Yh q λr s6 ⟨hr,I6⟩=>?_;subst hr;obtain⟨m,hn,_⟩:=I6.loc;rw[m9] at hn;refine hRR _ _ s6 m H5 hn ?_ ?_ I3.sz ?_ ?_ qn λh' sb=>back I6 sb
   ·exact bj I3.lt
   ·intro x c e
    obtain⟨v,q⟩:=I3.cell x c e;exact ar q.lt
   ·intro pp hpp
    exact ar (Zp (I3.pin pp hpp).1)
   ·have:=I6.free;rw[m9] at this;exact this
  ·have q:=T.item X' pX wX KX cX i [] s5 p7 H5 (λ_ _=>False) I5 (x0 fr5) st5 go
   rw[AX] at q;refine Yh q λr s6 ⟨u,hr,h6⟩=>?_;subst hr;refine Yh h6 λ_ s7 ⟨x,H7,I7,r7,y7,x9,fr7⟩=>?_;have I7':=I7.pinned (x0 fr7) (T.obj _ _ x9);have q8:=hg' _ s7 p7 H7 x u _ I7' r7 (step x H7 y7);rw[pX,wX,AX,envX,xX] at q8;refine Yh q8 λ_ s8 ⟨p8,H8,I8,q8⟩=>?_;have q9:=ht' _ s8 p8 H8 _ I8 q8;rw[pX,wX,AX,envX,xX] at q9;have again:∀{Y:St}{H':Hp}{s':Shared},Inv X' ([]++Uo fp s7.heap) Y H' s'->N Y H'->∃m,m<n/\∃i Y H',Inv X' [] Y H' s'/\tn i s'.heap/\(∀b∈fp,H' b=none)/\W i m Y H':=λ{Y H' s'} I' n'=>by
    obtain⟨m',hm,w'⟩:=hN Y H' n';refine⟨m',hm,i+1,Y,H',I'.unpinned,T.keep _ _ _ x9 λb hb o e=>(I'.pin (b,o) (aT _ (aT _ (Jx hb e)))).1,λb hb=>?_,w'⟩;obtain⟨o,e,d⟩:=T.obj _ _ x9 b hb;exact (I'.pin (b,o) (aT _ (aT _ (Jx hb e)))).2.1
   refine Yh q9 λok s9 ⟨H9,I9,q9⟩=>?_;cases ok with
   |false=>
    simp only[df,if_false] at q9 ⊢;exact again I9 q9
   |true=>
    simp only[if_true] at q9 ⊢;have p9:=he' _ s9 p8 H9 _ I9 q9;rw[pX,wX,AX,envX,xX] at p9;refine Yh p9 λy s10 ⟨v,H10,I10,rv,xs,hxs,hz,p9⟩=>?_;have r6:=ZZ (X:=X') _ s10 p8 H10 (.ref s2.heap.objs.size) [v] (.ref s2.heap.objs.size) [y] (λ_ H'=>N p8 H') I10 rfl (.cons rv .nil) ⟨_,xs,v,rfl,rfl,hxs,hz,p9⟩;rw[pX,wX,AX,xX] at r6;exact Yh r6 λ_ s11 ⟨_,H11,I11,_,r6⟩=>again I11 r6
 exact codeAny_compStart_list (t6 _ rfl) (T.self _ 0 _ _ _ st1 (t6 _ rfl))
theorem ZjT {own:List Str}{j:TY}{N':List Str}{Y scope:cL}{elt iter tg:Expr}{ifs:List Expr}{pos:Pos}{wi:TI}{g:TG}{tc:TT}{te:TE}
  (M:X.env.scope=Y) (S:Jp X.N Y own j N' scope) (hc:X.calm=true) (hi:PI X tg iter wi)
  (hg:∀U C s H ex,PG (Y5 X scope U N' C s H ex) tg g) (ht:∀U C s H ex,PIf (Y5 X scope U N' C s H ex) ifs tc) (he:∀U C s H ex,PE (Y5 X scope U N' C s H ex) elt te)
  (hs:∀x,foldedSetIterable iter X.env x=pure x:=by intro _;rfl) :
  PE X (.ListComp elt [⟨tg,iter,ifs,0⟩] scope pos) (Zeq own j wi g tc te):=by
 intro O s σ H Q I h;obtain⟨U,m7,m5,m6⟩:=UR (scope:=scope) (env:=X.env) λy hy hf=>by
  have:=S.fr y hy hf;rw[<-M] at this;exact I.ok.has y.1 this
 rw[eval_ListComp];refine lP (use:=none) rfl hs m7 S.kind S.uniq (Yh (hi O s σ H _ I h) λv s1 h1=>Yh h1 λm9 s2 h2=>?_);obtain⟨it,fp,tn,J,H2,e,I2,T,m8,f2,q⟩:=h2;subst e;refine UL (RR:=λZJ C=>compPost (model X.prog X.w) X.A X.xe none (EP X O σ Q) ZJ C) M S hc m5 m6 hg ht he I2 T m8 f2 q ?_;intro D C s' m H' hn _ _ _ _ _ q' hb;exact⟨m,hn,λh' sb=>⟨.ref D,H',hb h' sb,rfl,q'⟩⟩
theorem ZdV {own:List Str}{M:TY}{N':List Str}{m5 scope:cL}{elt iter tg:Expr}{ifs:List Expr}{pos O py:Pos}{y:Str}{i:Nat}{wi:TI}{g:TG}{tc:TT}{te:TE}
  (U:X.env.scope=m5) (S:Jp X.N m5 own M N' scope) (hc:X.calm=true) (hi:PI X tg iter wi)
  (hg:∀cl C s H ex,PG (Y5 X scope cl N' C s H ex) tg g) (ht:∀cl C s H ex,PIf (Y5 X scope cl N' C s H ex) ifs tc) (he:∀cl C s H ex,PE (Y5 X scope cl N' C s H ex) elt te)
  (hN:X.N.Nodup) (hy:X.N[i]?=some y) (hx:Loc X.env.scope y) (hf:X.fn y=true\/X.env.scope.names.lookup y=some .local)
  (n6:swapsWith (.ListComp elt [⟨tg,iter,ifs,0⟩] scope pos) (some (.Name y py)) O.line X.env=pure true)
  (hs:∀x,foldedSetIterable iter X.env x=pure x:=by intro _;rfl) :
  PS X (.Assign [.Name y py] (.ListComp elt [⟨tg,iter,ifs,0⟩] scope pos) O) (ZdA (Zeq own M wi g tc te) (Yc i)):=by
 intro j s σ H D0 I h;obtain⟨cl,n8,m6,m7⟩:=UR (scope:=scope) (env:=X.env) λy hy hf=>by
  have:=S.fr y hy hf;rw[<-U] at this;exact I.ok.has y.1 this
 rw[exec_Assign_Name_used _ _ _ _ n6];refine Zl (ie (Zl ?_));show wpAny _ X.A (do let _ <-comprehension (.ListComp elt [⟨tg,iter,ifs,0⟩] scope pos) scope X.env _ (newList []) false (eval iter X.env) (some (assign (.Name y py) X.env))) _ _ s
 refine Zl (cm (lP (use:=some (assign (.Name y py) X.env)) (Q:=λ_ Y=>SP X j D0 .next Y) rfl hs n8 S.kind S.uniq
  (Yh (hi j s σ H _ I h) λv s1 h1=>Yh h1 λp6 s2 h2=>?_)) (λ_ Y hq=>Zm (Zm hq)) λ_ _ e=>e)
 obtain⟨it,fp,tn,J,H2,e,I2,T,n9,f2,q⟩:=h2;subst e;refine UL (RR:=λZJ C=>compPost (model X.prog X.w) X.A X.xe (some (assign (.Name y py) X.env)) (λ_ Y=>SP X j D0 .next Y) ZJ C) U S hc m6 m7 hg ht he I2 T n9 f2 q ?_;intro D C Y m H' hn m8 m9 o0 o5 o6 q' hb;have I':Inv X j σ H' Y:=hb Y.heap (.refl ..);show wpAny _ X.A (assign (.Name y py) X.env (.ref D)) _ _ Y;refine wpAny_assign_Name (Zal I' hN hy hx (v:=.ref D) rfl (λo7 o8 ⟨a,sb,ha⟩=>?_) hf);have o9:C≠a:=by
  rcases ha with rfl|ha
  ·exact m8
  ·exact λz=>m9 y a ha z.symm
 refine⟨m,hn.sameBut sb o9,λh' p4=>⟨_,H',?_,q'⟩⟩;exact o8.turned (t':=o7.toks) (λb o hb e=>p4.extBut b o hb e) o6 m8 (.inr o0) m9 o5
end
section
variable {κ:Type} [DecidableEq κ]
def Wg (j:List (κ×V))(k:κ):TK:=(j.find? λq=>decide (q.1=k)).map (·.2)
def Jc (j:List (κ×V))(k:κ)(v:V):List (κ×V):=
 if (j.any λq=>decide (q.1=k))=true then j.map (λq=>if q.1=k then (q.1,v) else q) else j++[(k,v)]
theorem YR {p:κ×V}{r:List (κ×V)}{k:κ}(e:p.1=k):Wg (p::r) k=some p.2:=by simp[Wg,eK,e]
theorem YS {p:κ×V}{r:List (κ×V)}{k:κ}(e:¬p.1=k):Wg (p::r) k=Wg r k:=by simp[Wg,eK,e]
theorem WR (k:κ):∀j:List (κ×V),(j.any λq=>decide (q.1=k))=(Wg j k).isSome
 | []=>rfl
 |p::r=>by
  rw[eE];by_cases e:p.1=k
  ·simp only[YR e,decide_eq_true e,Bool.true_or,Option.isSome_some]
  ·rw[YS e,decide_eq_false e,gG];exact WR k r
theorem Zb9 (k j:κ)(y:V):∀q:List (κ×V),Wg (q.map λJ=>if J.1=k then (J.1,y) else J) j=(Wg q j).map λx=>if j=k then y else x
 | []=>rfl
 |p::r=>by
  have M:=Zb9 k j y r;rw[aB];by_cases h:p.1=k
  ·rw[if_pos h]
   by_cases e:p.1=j
   ·rw[YR (p:=(p.1,y)) e,YR e,de,if_pos (e.symm.trans h)]
   ·rw[YS (p:=(p.1,y)) e,YS e,M]
  ·rw[if_neg h]
   by_cases e:p.1=j
   ·rw[YR (p:=p) e,YR e,de,if_neg (λz=>h (e.trans z))]
   ·rw[YS (p:=p) e,YS e,M]
theorem Zai (k j:κ)(y:V):∀q:List (κ×V),Wg q k=none->Wg (q++[(k,y)]) j=if j=k then some y else Wg q j
 | [],_=>by
  by_cases e:k=j
  ·rw[if_pos e.symm];exact YR (p:=(k,y)) e
  ·rw[if_neg (λz=>e z.symm)];exact YS (p:=(k,y)) e
 |p::r,J=>by
  rw[List.cons_append];have M:¬p.1=k:=λz=>by rw[YR z] at J;cases J
  rw[YS M] at J;have O:=Zai k j y r J;by_cases e:p.1=j
  ·rw[YR e,YR e,if_neg (λz=>M (e.trans z))]
  ·rw[YS e,YS e,O]
theorem ZgA (J:List (κ×V))(k j:κ)(y:V):Wg (Jc J k y) j=if j=k then some y else Wg J j:=by
 unfold Jc;by_cases a:(J.any λM=>decide (M.1=k))=true
 ·rw[if_pos a,Zb9]
  rw[WR] at a;by_cases e:j=k
  ·obtain⟨x,O⟩:=gf.mp a
   rw[if_pos e,e,O,de,if_pos rfl]
  ·rw[if_neg e]
   cases Wg J j with
   |none=>rfl
   |some x=>rw[de,if_neg e]
 ·rw[if_neg a]
  refine Zai k j y J ?_;rw[WR] at a;cases q:Wg J k with
  |none=>rfl
  |some x=>rw[q] at a;exact (a rfl).elim
theorem W3 (j:List (κ×V))(k:κ)(v:V):(Jc j k v).length<=j.length+1:=by
 unfold Jc;split
 ·rw[Za];omega
 ·rw[Zd,Zi,eG];omega
theorem ZhH {j:List (κ×V)}{k:κ}(v:V)(h:Wg j k=none):Jc j k v=j++[(k,v)]:=by
 unfold Jc;rw[WR,h];exact if_neg (by decide)
theorem UZ.isSome_eq {o:TK}{u:Option Value}(r:UZ o u):o.isSome=u.isSome:=by
 cases o with
 |none=>cases u with
  |none=>rfl
  |some _=>exact (show False from r).elim
 |some _=>cases u with
  |none=>exact (show False from r).elim
  |some _=>rfl
theorem KV.val {j:List (κ×V)}{vs:List (κ×Value)}(r:KV j vs)(k:κ):UZ (Wg j k) (valueAt vs k):=by
 unfold KV at r;induction r with
 |nil=>exact db
 | @cons p q ps J h t U=>
  obtain⟨O,Y⟩:=h;by_cases e:p.1=k
  ·have M:q.1=k:=O.symm.trans e
   have b:valueAt (q::J) k=some q.2:=by simp[valueAt,eK,M]
   rw[YR e,b];exact Y
  ·have M:¬q.1=k:=λz=>e (O.trans z)
   have b:valueAt (q::J) k=valueAt J k:=by simp[valueAt,eK,M]
   rw[YS e,b];exact U
theorem KV.any {j:List (κ×V)}{vs:List (κ×Value)}(r:KV j vs)(k:κ):(j.any λq=>decide (q.1=k))=vs.any λq=>decide (q.1=k):=by
 unfold KV at r;induction r with
 |nil=>rfl
 |cons h t J=>rw[eE,eE,J,h.1]
theorem KV.repl {J:List (κ×V)}{vs:List (κ×Value)}(r:KV J vs)(k:κ){y:V}{u:Value}(O:RelV y u) :
  KV (J.map λj=>if j.1=k then (j.1,y) else j) (vs.map λj=>if j.1=k then (j.1,u) else j):=by
 unfold KV at r ⊢;induction r with
 |nil=>exact .nil
 | @cons p q ps qs h t U=>
  rw[aB,aB];refine .cons ?_ U;obtain⟨M,Y⟩:=h;by_cases e:p.1=k
  ·rw[if_pos e,if_pos (M.symm.trans e)];exact⟨M,O⟩
  ·rw[if_neg e,if_neg (λz=>e (M.trans z))];exact⟨M,Y⟩
theorem KV.put {j:List (κ×V)}{vs:List (κ×Value)}(r:KV j vs)(k:κ){y:V}{u:Value}(q:RelV y u):KV (Jc j k y) (stored vs k u):=by
 unfold Jc stored;rw[r.any k];by_cases e:(vs.any λJ=>decide (J.1=k))=true
 ·rw[if_pos e,if_pos e];exact r.repl k q
 ·rw[if_neg e,if_neg e];exact Paired.snoc r ⟨rfl,q⟩
theorem KV.length {j:List (κ×V)}{vs:List (κ×Value)}(r:KV j vs):j.length=vs.length:=jW r
end
theorem Zc2 {P:Program}{w:World}{k:YQ}{u:Value}(r:RelV (kV k) u):(YH P w).is k u=true:=by
 cases k with
 |inl i=>obtain⟨t,e⟩:=(show ∃t,u=gN i t from r);subst e;exact ZcS P w i t
 |inr x=>obtain⟨t,e⟩:=(show ∃t,u=j9 x t from r);subst e;exact ZcR P w x t
theorem ZaD {P:Program}{w:World}:∀{j:List YQ}{us:List Value},ZO (j.map kV) us->ItemsAre (YH P w) j us
 | [],_,r=>by rw[e7] at r;cases r;exact .nil
 |k::j,_,r=>by
  rw[aB] at r;cases r with
  |cons h t=>exact .cons (Zc2 h) (ZaD t)
noncomputable abbrev KT (H:Hp):List (List YQ×V)->List (List YQ×Addr×Value)->Prop:=kN λp q=>p.1=q.1/\H q.2.1=some (.tup (p.1.map kV))/\RelV p.2 q.2.2
theorem KT.val {H:Hp}{j:List (List YQ×V)}{xs:List (List YQ×Addr×Value)}(r:KT H j xs)(k:List YQ):UZ (Wg j k) ((atKey xs k).map (·.2)):=by
 induction r with
 |nil=>exact db
 | @cons p q ps J h t U=>
  obtain⟨O,_,Y⟩:=h;by_cases e:p.1=k
  ·have M:q.1=k:=O.symm.trans e
   have b:atKey (q::J) k=some q.2:=by simp[atKey,eK,M]
   rw[YR e,b];exact Y
  ·have M:¬q.1=k:=λz=>e (O.trans z)
   have b:atKey (q::J) k=atKey J k:=by simp[atKey,eK,M]
   rw[YS e,b];exact U
theorem KT.repl {H:Hp}{j:List (List YQ×V)}{xs:List (List YQ×Addr×Value)}(r:KT H j xs)(k:List YQ){y:V}{u:Value}(U:RelV y u) :
  KT H (j.map λM=>if M.1=k then (M.1,y) else M) (xs.map (putAt k u)):=by
 induction r with
 |nil=>exact .nil
 | @cons p q ps qs h t Y=>
  rw[aB,aB];refine .cons ?_ Y;obtain⟨J,O,h3⟩:=h;unfold putAt;by_cases e:p.1=k
  ·rw[if_pos e,if_pos (J.symm.trans e)];exact⟨J,O,U⟩
  ·rw[if_neg e,if_neg (λz=>e (J.trans z))];exact⟨J,O,h3⟩
theorem KT.put {H:Hp}{j:List (List YQ×V)}{xs:List (List YQ×Addr×Value)}(r:KT H j xs)(k:List YQ){b:Addr}{y:V}{u:Value}(hb:H b=some (.tup (k.map kV)))(J:RelV y u) :
  KT H (Jc j k y) (storedH xs k b u):=by
 have e:(j.any λM=>decide (M.1=k))=(atKey xs k).isSome:=by
  rw[WR,(r.val k).isSome_eq,l7]
 unfold Jc storedH;rw[e];by_cases q:(atKey xs k).isSome=true
 ·rw[if_pos q,if_pos q];exact r.repl k J
 ·rw[if_neg q,if_neg q];exact Paired.snoc r ⟨rfl,hb,J⟩
theorem KT.keeps {H q:Hp}{j:List (List YQ×V)}{xs:List (List YQ×Addr×Value)}(r:KT H j xs)(J:∀b ys,H b=some (.tup ys)->q b=some (.tup ys)):KT q j xs:=
 kN.mapP r λ_ _ z=>⟨z.1,J _ _ z.2.1,z.2.2⟩
section
variable {P:Program}{w:World}{H:Hp}{h:Heap}{a:Addr}
theorem Zlh {u:HO}(ok:Xy P w H h)(e:Rd H a u):Yk P w H h a u:=e.ok ok
theorem Zfg {j:List (YQ×V)}(ok:Xy P w H h)(e:Rd H a (.dK j)):j.length<=sizeLine/\(a == sysModules)=false/\∃vs,KV j vs/\h.DictOf (YH P w) a vs:=
 show Yk P w H h a (.dK j) from Zlh ok e
theorem Zly {j:List (YQ×V)}(ok:Xy P w H h)(e:H a=some (.dK j)):j.length<=sizeLine/\(a == sysModules)=false/\∃vs,KV j vs/\h.DictOf (YH P w) a vs:=Zfg ok (.inl e)
theorem ZbI {j:List YQ}(ok:Xy P w H h)(e:H a=some (.tup (j.map kV))):(tupleKind (YH P w)).is h j a:=by
 obtain⟨_,q,r,o,J,M,n,O⟩:=(show Yk P w H h a (.tup (j.map kV)) from ok a _ e);exact⟨o,q.toArray,n,J,M,O,by simpa using ZaD r⟩
theorem Zff {j:List (List YQ×V)}(ok:Xy P w H h)(e:Rd H a (.dT j)):j.length<=sizeLine/\(a == sysModules)=false/\
  ∃xs,KT H j xs/\h.DictOfH (tupleKind (YH P w)) a xs:=by
 obtain⟨z,y,xs,r,o,O,U,Y,h2,h3,h4,h5⟩:=(show Yk P w H h a (.dT j) from Zlh ok e);refine⟨z,y,xs,r,o,O,U,Y,h2,h3,h4,λx J=>?_,h5⟩;have all:∀{l:List (List YQ×V)}{m:List (List YQ×Addr×Value)},KT H l m->∀x∈m,(tupleKind (YH P w)).is h x.1 x.2.1:=by
  intro l m q;induction q with
  |nil=>intro x J;exact nomatch J
  | @cons p q ps qs M t ih=>
   intro x J;rcases aD.mp J with e|J
   ·subst e
    exact ZbI ok (by rw[<-M.1];exact M.2.1)
   ·exact ih x J
 exact all r x J
theorem ZoA {j:List (List YQ×V)}(ok:Xy P w H h)(e:H a=some (.dT j)):j.length<=sizeLine/\(a == sysModules)=false/\
  ∃xs,KT H j xs/\h.DictOfH (tupleKind (YH P w)) a xs:=Zff ok (.inl e)
end
def Xb (H:Hp)(a:Addr)(y:V)(r:TK):Prop:=
 (∃j k,Rd H a (.dK j)/\y=kV k/\r=Wg j k)\/∃j k b,Rd H a (.dT j)/\y=.ref b/\H b=some (.tup (k.map kV))/\r=Wg j k
def Zae (H:Hp)(a:Addr)(y v:V)(q:Hp):Prop:=
 (∃j k,H a=some (.dK j)/\y=kV k/\j.length<sizeLine/\q=upd H a (.dK (Jc j k v)))\/
 ∃j k b,H a=some (.dT j)/\y=.ref b/\H b=some (.tup (k.map kV))/\j.length<sizeLine/\q=upd H a (.dT (Jc j k v))
theorem Xb.k {H:Hp}{a:Addr}{j:List (YQ×V)}{k:YQ}(e:H a=some (.dK j)):Xb H a (kV k) (Wg j k):=.inl ⟨j,k,.inl e,rfl,rfl⟩
theorem Zae.k {H:Hp}{a:Addr}{j:List (YQ×V)}{k:YQ}{v:V}(e:H a=some (.dK j))(q:j.length<sizeLine):Zae H a (kV k) v (upd H a (.dK (Jc j k v))):=.inl ⟨j,k,e,rfl,q,rfl⟩
section
variable {X:Cx}{pins:List (Addr×Obj)}{σ:St}{H:Hp}{s:Shared}{a:Addr}{y v:V}{u r:Value}{o:TK}{A:Around}{E:TU}
theorem Inv.big (I:Inv X pins σ H s):sysModules<s.heap.objs.size:=by
 have h:mainGlobals<s.heap.objs.size:=(I.mod.glob.keeps I.bk).lt;exact jh (by decide) h
theorem Zgc {Q:TU}(hu:A.units+1<cLine)(I:Inv X pins σ H s)(g:Xb H a y (some v))(ry:RelV y u)(h:∀q s',Inv X pins σ H s'->RelV v q->Q q s') :
  wpAny (model X.prog X.w) A (getItem (.ref a) u) Q E s:=by
 rcases g with ⟨J,k,e,M,l⟩|⟨J,k,b,e,M,eb,l⟩
 ·subst M
  obtain⟨z,hd,vs,rel,O⟩:=Zfg I.hok e;obtain⟨q,U,j⟩:=UZ.some_of (v:=v) (o:=valueAt vs k) (by rw[l];exact rel.val k);exact wpAny_getItem_of (Zc2 ry) O.mapOf U (h q _ (I.tok _) j)
 ·subst M
  cases (show u=aK b from ry);obtain⟨z,hd,xs,rel,O⟩:=Zff I.hok e;obtain⟨q,U,j⟩:=UZ.some_of (v:=v) (o:=(atKey xs k).map (·.2)) (by rw[l];exact rel.val k);obtain⟨p,hp,Y⟩:=Option.map_eq_some_iff.mp U;refine wpAny_getItem_heap (jt hu) (ZbI I.hok eb) O hp ?_;rw[Y];exact h q _ (I.tok _) j
theorem ZkL {Q:TU}(U:A.units+1<cLine)(I:Inv X pins σ H s)(g:Xb H a y o)(O:RelV y u)(h:∀s',Inv X pins σ H s'->Q (.bool (!o.isSome)) s') :
  wpAny (model X.prog X.w) A (compareOp .NotIn u (.ref a)) Q E s:=by
 rcases g with ⟨j,k,e,J,l⟩|⟨j,k,b,e,J,Y,l⟩
 ·subst J
  obtain⟨z,hd,vs,rel,M⟩:=Zfg I.hok e;refine wpAny_notIn_of (Zc2 O) hd M.mapOf ?_;rw[<-(rel.val k).isSome_eq,<-l];exact h _ (I.tok _)
 ·subst J
  cases (show u=aK b from O);obtain⟨z,hd,xs,rel,M⟩:=Zff I.hok e;refine wpAny_notIn_heap (jt U) (ZbI I.hok Y) hd M ?_;have q:=(rel.val k).isSome_eq;rw[l7] at q;rw[<-q,<-l];exact h _ (I.tok _)
theorem ZbR {h':Heap}{t':Nat}{j:HO}(I:Inv X pins σ H s)(M:Mut (H a))(O:be a s.heap h')(U:∃q,h'.get? a=some q)(J:Yk X.prog X.w (upd H a j) h' a j) :
  Inv X pins σ (upd H a j) {s with heap:=h',toks:=t'}:=
 I.write (x:=a) (e:=a) M (.inl rfl) (λb q hb z=>(O.2 b hb).trans z) U J
theorem ZiI {P:Program}{w:World}{q:Hp}{h':Heap}{j:List (YQ×V)}{vs:List (YQ×Value)}(z:j.length<=sizeLine)(hd:(a == sysModules)=false)(rel:KV j vs)(J:h'.DictOf (YH P w) a vs) :
  Yk P w q h' a (.dK j):=⟨z,hd,vs,rel,J⟩
theorem Zgb {H':Hp}{Q:Unit->Shared->Prop}(hu:A.units+1<cLine)(I:Inv X pins σ H s)(g:Zae H a y v H')(ry:RelV y u)(rv:RelV v r)(h:∀s',Inv X pins σ H' s'->Q () s') :
  wpAny (model X.prog X.w) A (setItem (.ref a) u r) Q E s:=by
 rcases g with ⟨j,k,e,O,l,U⟩|⟨j,k,b,e,O,eb,l,U⟩
 ·subst O U
  obtain⟨z,hd,vs,rel,Y⟩:=Zly I.hok e;have hz:vs.length<=sizeLine:=by rw[<-rel.length];exact z
  have hl:(Jc j k v).length<=sizeLine:=by have:=W3 j k v;omega
  refine wpAny_setItem_pairs (hsz:=hz) (Zc2 ry) Y λh' J hs=>h _ ?_;have he:∃q,h'.get? a=some q:=by obtain⟨q,_,_,M,_⟩:=J;exact⟨q,M⟩
  exact ZbR I (by rw[e];exact db) hs he (ZiI hl hd (rel.put k rv) J)
 ·subst O U
  cases (show u=aK b from ry);obtain⟨z,hd,xs,rel,Y⟩:=ZoA I.hok e;have hz:xs.length<=sizeLine:=by rw[<-jW rel];exact z
  have hl:(Jc j k v).length<=sizeLine:=by have:=W3 j k v;omega
  refine wpAny_setItem_heap (hsz:=hz) (jt hu) (ZbI I.hok eb) Y λh' J hs=>h _ ?_;obtain⟨q,es,ep,M,h2,h3,h4,_,h5⟩:=J;refine ZbR I (by rw[e];exact db) hs ⟨q,M⟩ ⟨hl,hd,_,(rel.put k eb rv).keeps λc ys ec=>?_,q,es,ep,M,h2,h3,h4,h5⟩;rw[Zy (Zh9 ec e (λz=>nomatch z))];exact ec
end
section
variable {X:Cx}{pins:List (Addr×Obj)}{σ:St}{H:Hp}{s:Shared}{a:Addr}{kvs:List (YQ×V)}{k:YQ}{u:Value}{A:Around}{E:TU}
end
def ZoY (i:Expr):Prop:=∀j iv,subscripted i false j iv=operate [j,iv] (getItem j iv)
theorem Zjr {prog:Program}{w:World}{A:Around}{E:TU}{s:Shared}{env:Env}{value j:Expr}{pos:Pos}{T id:String}{Q:TU}
  (hl:typeLookup (.type T) "__getitem__"=pure (some (.builtin id))) (hs:ZoY j)
  (h:wpAny (model prog w) A (eval value env) (λo M=>wpAny (model prog w) A (eval j env) (λi q=>q.TypeIs o T/\wpAny (model prog w) A (getItem o i) Q E q) E M) E s) :
  wpAny (model prog w) A (eval (.Subscript value j pos) env) Q E s:=by
 refine kZ (cm h (λo M Y=>cm Y (λi q J=>?_) λ_ _ x=>x) λ_ _ x=>x);obtain⟨hT,J⟩:=J;unfold subscriptTail;refine Zl ?_;rw[getitemInPython_of_ne hT.not_modules];refine Zl (wpAny_specialOf hT hl ?_);have U:wpAny (model prog w) A (subscripted j false o i) (λr O=>wpAny (model prog w) A (letTemporaryGo value o r >>= λ_=>pure r) Q E O) E q:=by
  rw[hs o i];exact wpAny_operating (cm J (λr O m5=>Zl (wpAny_letTemporaryGo (Zm m5))) λ_ _ x=>x)
 first
  |exact Zm (Zl U)
  |exact Zl (Zm (Zl U))
  |exact Zl U
theorem Zdb {X:Cx}{j:List (Addr×Obj)}{σ:St}{H:Hp}{s:Shared}{a:Addr}{y:V}{o:TK}(I:Inv X j σ H s)(g:Xb H a y o):s.TypeIs (.ref a) "dict":=by
 rcases g with ⟨q,k,e,_,_⟩|⟨q,k,b,e,_,_,_⟩
 ·obtain⟨_,_,M,_,J⟩:=Zfg I.hok e
  exact J.typeIs
 ·obtain⟨_,_,xs,_,J⟩:=Zff I.hok e
  exact J.typeIs
inductive iDG (Q:VK) (x y:V) (H:Hp):Prop
 |mk (a:Addr) (v:V):x=.ref a->Xb H a y (some v)->Q v H->iDG Q x y H
def ZnN (q J:TE):TE:=λj H Q=>q j H λx M=>J j M (iDG Q x)
def Zjp (J M:TE):TE:=λj H Q=>J j H λy O=>M j O λx q=>∃a o,x=.ref a/\Xb q a y o/\Q (.bl (!o.isSome)) q
inductive iDP (D:WO) (σ:St) (x v y:V) (H3:Hp):Prop
 |mk (a:Addr) (H4:Hp):x=.ref a->Zae H3 a y v H4->D.nx σ H4->iDP D σ x v y H3
def Zn0 (q J M:TE):TS:=λD j H=>M j H λv O=>q j O λx U=>J j U (iDP D j x v)
section
variable {X:Cx}{o i e value:Expr}{pos pos' tpos:Pos}{td ty tv:TE}
theorem J1 (O:X.A.units+1<cLine)(U:PE X o td)(Y:PE X i ty)(hs:ZoY i):PE X (.Subscript o i pos) (ZnN td ty):=by
 intro j s J H Q I h;refine Zjr PySem.F.slot_dict_getitem.lookup hs (Yh (U j s J H _ I h) λu s1 ⟨x,H1,I1,rx,q1⟩=>Yh (Y j s1 J H1 _ I1 q1) λiv s2 ⟨y,H2,M,ry,a,v,ex,g,q2⟩=>?_);subst ex;obtain rfl:u=aK a:=rx;exact⟨Zdb M g,Zgc O M g ry λw' s3 I3 q=>⟨v,H2,I3,q,q2⟩⟩
theorem Zau (J:X.A.units+1<cLine)(M:PE X i ty)(O:PE X o td):PC X .NotIn i o (Zjp ty td):=by
 intro j s q H Q I h;refine Yh (M j s q H _ I h) λiv U ⟨y,Y,I1,ry,q1⟩=>Yh (O j U q Y _ I1 q1) λu s2 ⟨x,H2,I2,rx,a,ov,ex,g,q2⟩=>?_;subst ex;obtain rfl:u=aK a:=rx;exact ZkL J I2 g ry λs3 I3=>⟨.bl (!ov.isSome),H2,I3,rfl,q2⟩
theorem XR (J:X.A.units+1<cLine)(M:PE X o td)(O:PE X i ty)(U:PE X value tv)(Y:swapsWith value (some (.Subscript o i pos')) pos.line X.env=pure false) :
  PS X (.Assign [.Subscript o i pos'] value pos) (Zn0 td ty tv):=by
 intro j s q H D I h;refine wpAny_Assign_Subscript (Yh (U j s q H _ I h) λr s1 ⟨v,H1,I1,rv,q1⟩=>Yh (M j s1 q H1 _ I1 q1) λu s2 ⟨x,H2,I2,rx,q2⟩=>Yh (O j s2 q H2 _ I2 q2) λiv s3 ⟨y,H3,I3,ry,a,H4,ex,g,q3⟩=>?_) Y;subst ex;obtain rfl:u=aK a:=rx;exact Zgb J I3 g ry rv λs4 I4=>⟨q,H4,I4,q3⟩
end
theorem Zda {P:Program}{w:World}{H:Hp}(h:Heap)(hb:sysModules<h.objs.size):Yk P w H (h.push {cls:=.type "dict",data:=.dict #[]}) h.objs.size (.dK []):=
 ⟨aU _,beq_eq_false_iff_ne.mpr (bE (ar hb)),[],.nil,Heap.DictOf.new h⟩
def ZlY:TE:=λ_ H Q=>∀p,H p=none->Q (.ref p) (upd H p (.dK []))
section
variable {X:Cx}{pos:Pos}
theorem ZcH:PE X (.Dict [] [] pos) ZlY:=λj s J H Q I h=>
 wpAny_Dict_empty ⟨.ref s.heap.objs.size,_,I.laid (a:=s.heap.objs.size) (o:=.dK []) (t':=s.toks) (λ_ _ q=>Zn _ q) (Zq _) (Zda s.heap I.big),rfl,h _ (I.hok.fresh (Zq _))⟩
end
def Zdz:List (TE×TE)->St->Hp->(List (V×V)->Hp->Prop)->Prop
 | [],_,H,Q=>Q [] H
 |(tk,j)::r,σ,H,Q=>tk σ H λx q=>j σ q λy J=>Zdz r σ J λM O=>Q ((x,y)::M) O
noncomputable abbrev VV:List (V×V)->List (Value×Value)->Prop:=kN λp q=>RelV p.1 q.1/\RelV p.2 q.2
def PPs (X:Cx)(pos:Pos)(J:List (Option Expr))(j:List Expr)(M:List (TE×TE)):Prop:=
 ∀(q:List (Addr×Obj)) (s:Shared) (O:St) (H:Hp) (Q:List (V×V)->Hp->Prop),Inv X q O H s->Zdz M O H Q->
  wpAny (model X.prog X.w) X.A (evalPairs (pairTrees J j X.env pos)) (λvs s'=>∃U Y,Inv X q O Y s'/\VV U vs/\Q U Y) X.xe s
theorem ZjN {X:Cx}{pos:Pos}:PPs X pos [] [] []:=λj s q H Q I h=>pairTrees_nil_walk ⟨[],H,I,.nil,h⟩
theorem Ul {X:Cx}{pos:Pos}{k v:Expr}{M:List (Option Expr)}{vs:List Expr}{tk O:TE}{q:List (TE×TE)}(U:PE X k tk)(Y:PE X v O)(hr:PPs X pos M vs q) :
  PPs X pos (some k::M) (v::vs) ((tk,O)::q):=λj s J H Q I h=>
 pairTrees_cons_walk (Yh (U j s J H _ I h) λu s1 ⟨x,H1,I1,rx,q1⟩=>Yh (Y j s1 J H1 _ I1 q1) λw2 s2 ⟨y,H2,I2,ry,q2⟩=>
  Yh (hr j s2 J H2 _ I2 q2) λws s3 ⟨ps,H3,I3,rel,q3⟩=>⟨(x,y)::ps,H3,I3,.cons ⟨rx,ry⟩ rel,q3⟩)
def Uw (q j:List (YQ×V)):List (YQ×V):=j.foldl (λZJ J=>Jc ZJ J.1 J.2) q
theorem KV.merge:∀{more:List (YQ×V)}{rs:List (YQ×Value)}{j:List (YQ×V)}{vs:List (YQ×Value)},KV more rs->KV j vs->KV (Uw j more) (merged vs rs):=by
 intro more rs j vs r;unfold KV at r;induction r generalizing j vs with
 |nil=>intro q;exact q
 | @cons p q O U h t J=>
  intro M;have e:KV (Jc j p.1 p.2) (stored vs q.1 q.2):=by
   have:=M.put p.1 h.2;rw[<-h.1];exact this
  exact J e
theorem Xg:∀(q j:List (YQ×V)),(Uw j q).length<=j.length+q.length
 | [],j=>by show j.length<=j.length+0;omega
 |p::r,j=>by
  have J:=Xg r (Jc j p.1 p.2);have M:=W3 j p.1 p.2;show (Uw (Jc j p.1 p.2) r).length<=_;rw[Zi];omega
theorem US {P:Program}{w:World}:∀{j:List (YQ×V)}{M:List (Value×Value)},VV (j.map λO=>(kV O.1,O.2)) M->∃J,Carries (YH P w) M J/\KV j J
 | [],_,r=>by rw[e7] at r;cases r;exact⟨[],db,.nil⟩
 |p::j,_,r=>by
  rw[aB] at r;cases r with
  | @cons a b Y bs h t=>
   obtain⟨J,c,q⟩:=US (P:=P) (w:=w) t;obtain⟨b1,U⟩:=b;exact⟨(p.1,U)::J,⟨Zc2 h.1,rfl,c⟩,.cons ⟨rfl,h.2⟩ q⟩
def ZnM (q:List (TE×TE)):TE:=λO H Q=>∀p,H p=none->Zdz q O (upd H p (.dK [])) λU J=>J p=some (.dK [])/\∃j:List (YQ×V),U=j.map (λM=>(kV M.1,M.2))/\j.length<=15/\Q (.ref p) (upd J p (.dK (Uw [] j)))
theorem ZjS {X:Cx}{pos:Pos}{keys:List (Option Expr)}{values:List Expr}{j:List (TE×TE)}(h:PPs X pos keys values j)(J:keys.all (·.isSome)=true)(hl:keys.length=values.length)(h0:keys≠[])
  (Y:keys.length<=15):PE X (.Dict keys values pos) (ZnM j):=by
 intro M s σ H Q I q;have hn:=I.hok.fresh (Zq s.heap.objs.size);have I1:=I.laid (a:=s.heap.objs.size) (o:=.dK []) (h':=s.heap.push {cls:=.type "dict",data:=.dict #[]}) (t':=s.toks) (λ_ _ q=>Zn _ q) (Zq _) (Zda s.heap I.big);refine wpAny_Dict_walk (knd:=YH X.prog X.w) J hl h0 Y (Yh (h M _ σ _ _ I1 (q _ hn)) λws s2 ⟨ps,H2,I2,rel,e,O,ep,lk,q2⟩=>?_);subst ep;obtain⟨rs,c,rk⟩:=US (P:=X.prog) (w:=X.w) rel;obtain⟨z,hd,m6,r0,dd⟩:=Zly I2.hok e;cases r0;refine⟨rs,c,dd,λh' U hs=>⟨.ref s.heap.objs.size,_,?_,rfl,q2⟩⟩;have hz:(Uw [] O).length<=sizeLine:=by
  have h1:=Xg O [];rw[eG] at h1;rw[iW];omega
 have he:∃q,h'.get? s.heap.objs.size=some q:=by obtain⟨q,_,_,hq,_⟩:=U;exact⟨q,hq⟩
 exact ZbR I2 (by rw[e];exact db) hs he (ZiI hz hd (rk.merge .nil) U)
section
variable {X:Cx}{pins:List (Addr×Obj)}{σ:St}{H:Hp}{s:Shared}{a:Addr}{y d:V}{u r:Value}{o:TK}{A:Around}{E:TU}
end
section
variable {X:Cx}{o e f:Expr}{apos cpos:Pos}{td ty tx:TE}
end
section
variable {X:Cx}{pins:List (Addr×Obj)}{σ:St}{H:Hp}{s:Shared}{a:Addr}{kvs:List (YQ×V)}{A:Around}{E:TU}
end
section
variable {X:Cx}{pins:List (Addr×Obj)}{σ:St}{H:Hp}{s:Shared}{a:Addr}{y:V}{u:Value}{A:Around}{E:TU}
end
mutual
inductive Vs (K:aa) (H:Hp):V->cP->Prop where
 |non:Vs K H .non .none
 |bl (b:Bool):Vs K H (.bl b) (.bool b)
 |int (i:Int):Vs K H (.int i) (.int i)
 |str (x:Str):Vs K H (.str x) (.str x)
 |lst {a:Addr}{xs:TL}{ds:List cP} (h:Wp K H a xs) (r:Wf K H xs ds):Vs K H (.ref a) (.list ds)
 |tup {a:Addr}{xs:TL}{ds:List cP} (h:Xw K H a xs) (r:Wf K H xs ds):Vs K H (.ref a) (.tuple ds)
inductive Wf (K:aa) (H:Hp):TL->List cP->Prop where
 |nil:Wf K H [] []
 |cons {x:V}{xs:TL}{d:cP}{ds:List cP} (h:Vs K H x d) (r:Wf K H xs ds):Wf K H (x::xs) (d::ds)
end
section
variable {K:aa}{H H':Hp}
theorem Zw.tup {a:Addr}{xs:TL}(e:Zw H H')(h:Xw K H a xs):Xw K H' a xs:=by
 rcases h with (h|⟨o,h⟩)|h
 ·exact .inl (.inl (e _ _ h))
 ·exact .inl (.inr ⟨o,e _ _ h⟩)
 ·exact .inr h
theorem Zw.upd {p:Addr}{o:HO}(h:H p=none):Zw H (upd H p o):=λb u e=>by rw[Zy (Yf e h)];exact e
theorem Zw.updr {p:Addr}{o:HO}(s:Zw H H')(h:H p=none):Zw H (L2.upd H' p o):=λb u e=>by rw[Zy (Yf e h)];exact s b u e
mutual
theorem Vs.mono (s:Zw H H'):∀{v:V}{d:cP},Vs K H v d->Vs K H' v d
 |_,_,.non=>.non
 |_,_,.bl b=>.bl b
 |_,_,.int i=>.int i
 |_,_,.str x=>.str x
 |_,_,.lst h r=>.lst (s.seq h) (Wf.mono s r)
 |_,_,.tup h r=>.tup (s.tup h) (Wf.mono s r)
theorem Wf.mono (s:Zw H H'):∀{v:TL}{d:List cP},Wf K H v d->Wf K H' v d
 |_,_,.nil=>.nil
 |_,_,.cons h r=>.cons (Vs.mono s h) (Wf.mono s r)
end
theorem Wf.ints:∀ns:TV,Wf K H (ns.map V.int) (ns.map aI)
 | []=>.nil
 |n::r=>.cons (.int n) (Wf.ints r)
end
section
variable {X:Cx}{pins:List (Addr×Obj)}{σ:St}{H:Hp}{s:Shared}
mutual
theorem Inv.reads (I:Inv X pins σ H s):∀{v:V}{d:cP}{u:Value},Vs X.K H v d->RelV v u->∃as,Reads s.heap u d as
 |_,_,_,.non,r=>by cases (show _=bG from r);exact⟨_,.none⟩
 |_,_,_,.bl b,r=>by cases (show _=gY b from r);exact⟨_,.bool b⟩
 |_,_,_,.int i,r=>by obtain⟨t,rfl⟩:=r;exact⟨_,.int i t⟩
 |_,_,_,.str x,r=>by obtain⟨t,rfl⟩:=r;exact⟨_,.str x t⟩
 |_,_,_,.lst (a:=a) h q,r=>by
  cases (show _=aK a from r);obtain⟨j,J,⟨o,n,e,c,_,d⟩,_⟩:=I.list h;obtain⟨as,M⟩:=Inv.readsAll I q J;exact⟨_,.list e c d (by simpa using M)⟩
 |_,_,_,.tup (a:=a) h q,r=>by
  cases (show _=aK a from r);obtain⟨j,J,⟨o,e,c,n,d⟩,_⟩:=I.tuple h;obtain⟨as,M⟩:=Inv.readsAll I q J;exact⟨_,.tuple e c d (by simpa using M)⟩
theorem Inv.readsAll (I:Inv X pins σ H s):∀{v:TL}{d:List cP}{u:List Value},Wf X.K H v d->ZO v u->∃as,ReadsAll s.heap u d as
 |_,_,_,.nil,r=>by cases r;exact⟨_,.nil⟩
 |_,_,_,.cons h q,r=>by
  cases r with
  |cons r j=>
   obtain⟨O,J⟩:=Inv.reads I h r;obtain⟨U,M⟩:=Inv.readsAll I q j;exact⟨_,.cons J M⟩
end
end
structure Zjc (d:cP):Prop where
 sh:d.showable=true
 nd:d.hasDict=false
 dp:d.depth<=60
 sz:d.shown.length<=sizeLine
section
variable {X:Cx}
inductive I_op_eqD (K:aa) (x:V) (y:V) (H:Hp) (Q:VK):Prop
 |mk (dx:_) (dy:_):(Vs K H x dx)->(Vs K H y dy)->(bq dx=true)->(bq dy=true)->(Q (.bl (c7 dx dy)) H)->I_op_eqD K x y H Q
theorem Zmm (J:X.A.units+64<cLine):X8 X (compareOp .Eq) (_root_.L2.I_op_eqD X.K):=by
 intro j s σ H x y v u Q I M O ⟨dx,dy,U,Y,s1,s2,q⟩;obtain⟨as,r1⟩:=I.reads U M;obtain⟨bs,r2⟩:=I.reads Y O;exact SeqAt.compareEq_shaped r1 r2 s1 s2 J ⟨.bl _,H,I,rfl,q⟩
inductive I_op_neD (K:aa) (x:V) (y:V) (H:Hp) (Q:VK):Prop
 |mk (dx:_) (dy:_):(Vs K H x dx)->(Vs K H y dy)->(bq dx=true)->(bq dy=true)->(Q (.bl (!c7 dx dy)) H)->I_op_neD K x y H Q
theorem Zml (J:X.A.units+64<cLine):X8 X (compareOp .NotEq) (_root_.L2.I_op_neD X.K):=by
 intro j s σ H x y v u Q I M O ⟨dx,dy,U,Y,s1,s2,q⟩;obtain⟨as,r1⟩:=I.reads U M;obtain⟨bs,r2⟩:=I.reads Y O;exact SeqAt.compareNe_shaped r1 r2 s1 s2 J ⟨.bl _,H,I,rfl,q⟩
inductive I_call_repr (K:aa) (xs:TL) (H:Hp) (Q:VK):Prop
 |mk (x:_) (d:_):(xs=[x])->(Vs K H x d)->(Zjc d)->(Q (.str d.shown) H)->I_call_repr K xs H Q
theorem Zgo {k:Nat}(hr:Jo k X.A):Yd X (.builtin "repr") (_root_.L2.I_call_repr X.K):=by
 intro M s σ H xs us Q I r h;obtain⟨x,d,rfl,hd,F,q⟩:=h;obtain⟨u,rfl,ru⟩:=vals1 r;obtain⟨as,rd⟩:=I.reads hd ru;have m5:X.A.units+61<cLine:=by have:=hr.units;omega
 have j:∀(J:Heap) (u:Tok) (tk:Nat),(∀b o,s.heap.get? b=some o->J.get? b=some o)->EP X M σ Q (.str d.shown u) {s with heap:=J,toks:=tk}:=λJ u tk k=>⟨.str d.shown,H,I.kept k,⟨u,rfl⟩,q⟩;cases rd with
 |none=>exact P.repr_of_none (j s.heap _ _ λ_ _ e=>e)
 |bool b=>exact P.repr_of_bool (by have:=j s.heap s.toks (s.toks+1) λ_ _ e=>e;simpa only[fK] using this)
 |int i t=>exact P.repr_of_int (by simpa only[jm,decide_eq_true_eq] using F.sh) (by have:=j s.heap s.toks (s.toks+1) λ_ _ e=>e;simpa only[fK] using this)
 |str y t=>exact P.repr_of_str (by have:=j s.heap s.toks (s.toks+1) λ_ _ e=>e;simpa only[fK] using this) (by simpa only[fK] using F.sz)
 |list O U Y h4=>exact repr_of_reads' (.list O U Y h4) F.sh (λz=>by rw[F.nd] at z;cases z) hr.gd (by have:=F.dp;omega) (λ_ _ e=>e) (λJ u tk k=>j J u tk k) F.sz
 |tuple O U Y h4=>exact repr_of_reads' (.tuple O U Y h4) F.sh (λz=>by rw[F.nd] at z;cases z) hr.gd (by have:=F.dp;omega) (λ_ _ e=>e) (λJ u tk k=>j J u tk k) F.sz
 |dict O U Y h4 h5=>cases hd
inductive I_call_isi (K:aa) (xs:TL) (H:Hp) (Q:VK):Prop
 |mk (x:_) (c:_) (t:_) (b:_):(xs=[x,c])->(X6 K H x t)->((∀cv,RelV c cv->ig K t cv=some b))->(Q (.bl b) H)->I_call_isi K xs H Q
theorem ZiW:Yd X (.builtin "isinstance") (_root_.L2.I_call_isi X.K):=by
 intro j s O H U Y Q I r h;obtain⟨x,c,t,b,rfl,ty,e,q⟩:=h;cases r with
 |cons J r=>
  cases r with
  |cons M r=>
   cases r;exact ZaE I J ty (e _ M) λtk=>⟨.bl b,H,I.tok _,rfl,q⟩
theorem ZgG {prog:Program}{w:World}{A:Around}{j:List Value}{bs:List Bool}(r:ZO (bs.map V.bl) j):TruthOf prog w A (λi v=>j.toArray[i]?=some v) (λi=>bs.getD i false):=by
 intro i v s Q E q M;rw[lx] at q;have Y:i<j.length:=(ac.mp q).1;have O:=r.length;rw[Za] at O;have hb:(bs.map V.bl)[i]?=some (.bl (bs.getD i false)):=by
  rw[Zc,Zb,Zf (by omega)];rfl
 obtain⟨u,J,U⟩:=r.get hb;rw[q] at J;cases J;cases (show v=gY _ from U);exact cQ M
theorem ZfA {bs:List Bool}:((ae bs.length).all λi=>bs.getD i false)=bs.all id:=by
 have:(ae bs.length).map (λi=>bs.getD i false)=bs:=by
  apply jp
  ·simp
  ·intro i j q;simp at j;simp[j]
 conv=>rhs;rw[<-this,kI]
 rfl
theorem Zfz {bs:List Bool}:((ae bs.length).any λi=>bs.getD i false)=bs.any id:=by
 have:(ae bs.length).map (λi=>bs.getD i false)=bs:=by
  apply jp
  ·simp
  ·intro i j q;simp at j;simp[j]
 conv=>rhs;rw[<-this,ic]
 rfl
inductive I_call_all (K:aa) (xs:TL) (H:Hp) (Q:VK):Prop
 |mk (a:Addr) (bs:List Bool):(xs=[.ref a])->(Wp K H a (bs.map V.bl))->(Q (.bl (bs.all id)) H)->I_call_all K xs H Q
theorem ZiZ (Y:X.calm=true):Yd X (.builtin "all") (_root_.L2.I_call_all X.K):=by
 intro M s σ H xs us Q I r h;obtain⟨a,bs,rfl,hq,q⟩:=h;obtain⟨u,rfl,ru⟩:=vals1 r;cases ru;obtain⟨j,O,p,hz⟩:=I.list hq;have U:=O.length;rw[Za] at U;refine call_all_walk (ft p.isList ?_);have J:a≠s.heap.objs.size:=by obtain⟨o,n,e,_⟩:=p;exact ar (Zp e)
 refine⟨s.heap.objs.size,_,_,_,_,_,(λi=>bs.getD i false),rfl,jL (A:=X.A.in1) (I.ok.hd Y) _ a J j.toArray,⟨⟨_,Zo _ rfl,rfl,rfl⟩,p.isList.push _⟩,ZgG O,λh' tk k=>?_⟩;rw[Zh,<-U,ZfA];refine⟨.bl _,H,I.kept (t':=tk) λb o e=>k b o ?_ (Zn _ e),rfl,q⟩;simpa using ar (Zp e)
inductive I_call_any (K:aa) (xs:TL) (H:Hp) (Q:VK):Prop
 |mk (a:Addr) (bs:List Bool):(xs=[.ref a])->(Wp K H a (bs.map V.bl))->(Q (.bl (bs.any id)) H)->I_call_any K xs H Q
theorem ZiY (Y:X.calm=true):Yd X (.builtin "any") (_root_.L2.I_call_any X.K):=by
 intro M s σ H xs us Q I r h;obtain⟨a,bs,rfl,hq,q⟩:=h;obtain⟨u,rfl,ru⟩:=vals1 r;cases ru;obtain⟨j,O,p,hz⟩:=I.list hq;have U:=O.length;rw[Za] at U;refine call_any_walk (ft p.isList ?_);have J:a≠s.heap.objs.size:=by obtain⟨o,n,e,_⟩:=p;exact ar (Zp e)
 refine⟨s.heap.objs.size,_,_,_,_,_,(λi=>bs.getD i false),rfl,jL (A:=X.A.in1) (I.ok.hd Y) _ a J j.toArray,⟨⟨_,Zo _ rfl,rfl,rfl⟩,p.isList.push _⟩,ZgG O,λh' tk k=>?_⟩;rw[Zh,<-U,Zfz];refine⟨.bl _,H,I.kept (t':=tk) λb o e=>k b o ?_ (Zn _ e),rfl,q⟩;simpa using ar (Zp e)
end
theorem Ja:(16777216:Nat)=sizeLine:=by decide
theorem WK {k:Nat}(h:k<=16777216:=by first|decide|simp):k<=sizeLine:=Ja▸h
theorem Jl {H:Hp}{l:Addr}{o:HO}(h:H l=none):∃j,upd H l o=j/\Zw H j/\j l=some o:=⟨_,rfl,Zw.upd h,Zu⟩
theorem Ve {bs:TN}{i:Nat}{y:V}(h:(bs.map V.ref)[i]?=some y):∃b,bs[i]?=some b/\y=.ref b:=by
 rw[Zc] at h;cases e:bs[i]? with
 |none=>rw[e] at h;cases h
 |some r=>rw[e] at h;exact⟨r,rfl,(ax h).symm⟩
theorem ZgF:isSubtype (.type "tuple") (.type "set")=pure false:=by rw[gK];kernel_rfl
theorem Zfv:isSubtype (.type "tuple") (.type "frozenset")=pure false:=by rw[gK];kernel_rfl
noncomputable abbrev Yy (ns:TV)(n:Nat):TV:=firstMet (λi=>ns.getD i 0) n
section
variable {prog:Program}{w:World}{A:Around}{E:TU}{s:Shared}
noncomputable abbrev Zi7 (prog:Program)(w:World)(s:Shared)(ns:TV)(n:Nat)(h':Heap):Prop:=
 h'.SetOf (intKind prog w) s.heap.objs.size (λj=>(Yy ns n).any (· == j)) (Yy ns n).length/\∀b o,b<s.heap.objs.size->s.heap.get? b=some o->h'.get? b=some o
theorem ZdR {l:Addr}{items:Array Value}{ns:TV}{Q:TU}(hh:A.handled=none)(hl:s.heap.IsTuple l items)(hi:bB items.toList ns)(hb:items.size+1<scanBound)
  (h:∀(h':Heap) (tk:Nat),Zi7 prog w s ns items.size h'->Q (.ref s.heap.objs.size) {s with heap:=h',toks:=tk}):wpAny (model prog w) A (call (.type "set") [.ref l]) Q E s:=by
 obtain⟨c,tl,p4⟩:=bc.mro;have n8:=bc.made;have p6:=bc.sub;refine wpAny_call (iK ?_);show wpAny _ _ (callAny (.type "set") _) _ _ _;refine Zm ⟨iQ _ (by decide +kernel),bv lI ?_⟩;rw[lK (mN "set" [.ref l] []) rfl];have h1:=bc.notType;have h2:=bc.canCreate;have r8:=lX (.ref l)
 repeat (any_goals (first|assumption|wp_step))
 let J (led:Bool):Obj:={cls:=.type "set",dict:=none,data:=.set #[] 0 (.fresh 0 0 led)}
 refine dM (code_set_new_1 (.ref l) (E:=E) (Q₁:=λobj M=>∃led:Bool,obj=.ref s.heap.objs.size/\M={s with heap:=s.heap.push (J led)}) λled=>⟨led,rfl,rfl⟩) λr M hr=>?_;cases r with
 |error e=>exact hr
 |ok fl=>
  cases fl with
  |ret obj=>
   obtain⟨led,rfl,rfl⟩:=hr;have hS:(s.heap.push (J led)).get? s.heap.objs.size=some (J led):=Zo _ rfl;have hT:Shared.TypeIs {s with heap:=s.heap.push (J led)} (.ref s.heap.objs.size) "set":=⟨_,hS,rfl⟩;have r9:=bc.init.lookup;have t0:=bc.init.bind (.ref s.heap.objs.size)
   repeat (any_goals (first|assumption|wp_step))
   refine dM (codeAny_call_builtin (R:=wants (λr O=>r=.none/\∃h' tk,O={s with heap:=h',toks:=tk}/\Zi7 prog w s ns items.size h') E) bc.init.plain lY (check_set_init_1 hT ?_)) λm6 O j=>?_
   ·obtain⟨ol,VU,m7,nl,m8⟩:=hl
    obtain⟨p8,Y,n9,q⟩:=ol;simp only at m7 m8;subst m7;subst m8;have U:(s.heap.push (J led)).get? l=some {cls:=.type "tuple",dict:=Y,data:=.seq items nl,slots:=q}:=Zn _ VU;have p9:=ZgF;have r6:=Zfv;have t6:(bX "tuple" == bX "dict")=false:=by decide
    have o0:(s.heap.push (J led)).IsTuple l items:=⟨_,U,rfl,nl,rfl⟩;unfold cB.«set.__init__» noKeywords im;generalize o5:pyIter=PI
    wp_walk
    subst o5;refine gJ o0 ?_;refine Zl (gI ?_);have m9:l<s.heap.objs.size:=Zp VU;have n6:l≠(s.heap.push (J led)).objs.size:=by rw[bF];exact ar (bI m9)
    have o6:s.heap.objs.size∉[(s.heap.push (J led)).objs.size,l]:=by
     rw[bF];intro z;rcases aD.mp z with z|z
     ·exact absurd z (ar (cF _))
     ·exact absurd (aM.mp z) (bj m9)
    refine codeAny_set_update_loopS ((Walks.tuple (A:=A.in1.in1.in1) (by simp[hh]) _ l n6 items).toS) s.heap.objs.size o6 (λi=>ns.getD i 0) (λi v hv=>mF hi i v (by rw[cn];exact hv)) hb (items.size-0) 0 _ (by omega) (aU _)
     ⟨⟨_,Zo _ rfl,rfl,rfl⟩,⟨_,Zn _ U,rfl,nl,rfl⟩⟩ ?hS0 ?hR
    case hS0=>exact SetOf_congr ((setObjOf_fresh (knd:=intKind prog w) led).setOf (Zn _ hS) (by unfold scanBound;omega)) (λ_=>rfl) rfl
    case hR=>
     intro s' hm o7;obtain⟨h',g',d',o8,o9⟩:=s';obtain rfl:g'=s.gens:=hm.gens;obtain rfl:d'=s.drawn:=hm.drawn;obtain rfl:o9=s.os:=hm.os;show wpAny _ _ _ _ _ _;refine Zm ?_;show wpAny _ _ (ret bG) _ _ _;refine Zm ⟨rfl,h',o8,rfl,o7,λb o hb e=>hm.heap b o (λz=>?_) (Zn _ (Zn _ e))⟩;rcases aD.mp z with z|z
     ·exact absurd z (ar hb)
     ·refine absurd (aM.mp z) (ar ?_);rw[bF];exact bI hb
   ·cases m6 with
    |error e=>exact j
    |ok m5=>
     cases m5 with
     |ret r=>
      obtain⟨rfl,h',tk,rfl,he⟩:=j
      repeat (any_goals (first|assumption|wp_step))
      exact h _ _ he
     |_=>exact j.elim
  |_=>exact hr.elim
end
theorem VS:∀{ns:TV}{us:List Value},ZO (ns.map V.int) us->bB us ns
 | [],_,.nil=>.nil
 |n::r,_,.cons h t=>by
  obtain⟨k,rfl⟩:=(show ∃t,_=gN n t from h);exact .cons n k (VS t)
section
variable {X:Cx}
inductive I_call_setT (K:aa) (xs:TL) (H:Hp) (Q:VK):Prop
 |mk (a:Addr) (ns:TV):(xs=[.ref a])->(Xw K H a (ns.map V.int))->(ns.length<1000)->(∀p,H p=none->Q (.ref p) (upd H p (.set (λk=>(Yy ns ns.length).any (· == k)) (Yy ns ns.length).length)))->I_call_setT K xs H Q
theorem Zgn (Y:X.calm=true):Yd X (.type "set") (_root_.L2.I_call_setT X.K):=by
 intro J s σ H xs us Q I r h;obtain⟨a,ns,rfl,hq,hn,q⟩:=h;obtain⟨u,rfl,ru⟩:=vals1 r;cases ru;obtain⟨j,M,p,hz⟩:=I.tuple hq;have O:j.toArray.size=ns.length:=by rw[Zh,<-M.length,Za]
 refine ZdR (I.ok.hd Y) (show s.heap.IsTuple a j.toArray from p) (ns:=ns) (by simpa using VS M) (by rw[O];unfold scanBound;omega) λh' tk ⟨U,e2⟩=>?_;rw[O] at U;exact⟨.ref _,_,I.laid (a:=s.heap.objs.size) (o:=.set (λk=>(Yy ns ns.length).any (· == k)) (Yy ns ns.length).length) (t':=tk) (λb o e=>e2 b o (Zp e) e) (Zq _) U,rfl,q _ (I.hok.fresh (Zq _))⟩
inductive I_call_lenS (xs:TL) (H:Hp) (Q:VK):Prop
 |mk (a:Addr) (S:Int->Bool) (n:Nat):(xs=[.ref a])->(H a=some (.set S n))->(Q (.int n) H)->I_call_lenS xs H Q
theorem Zgp:Yd X (.builtin "len") _root_.L2.I_call_lenS:=by
 intro j s σ H xs us Q I r h;obtain⟨a,S,n,rfl,J,q⟩:=h;obtain⟨u,rfl,M⟩:=vals1 r;cases M;obtain⟨o,es,ep,t,O,U,Y,_,_,e4,e5,e6⟩:=(show s.heap.SetOf (intKind X.prog X.w) a S n from I.hok a _ J);refine call_len_set O U Y e5 (by unfold scanBound at e4;omega) ?_;exact⟨.int n,H,I.tok _,⟨_,by rw[e6]⟩,q⟩
inductive I_call_range1 (xs:TL) (H:Hp) (Q:VK):Prop
 |mk (j:Int):(xs=[.int j])->(∀p,H p=none->Q (.ref p) (upd H p (.rng 0 j)))->I_call_range1 xs H Q
theorem JU:Yd X (.type "range") _root_.L2.I_call_range1:=by
 intro J s O H U Y Q I r h;obtain⟨j,rfl,q⟩:=h;obtain⟨u,rfl,M⟩:=vals1 r;obtain⟨t,rfl⟩:=M;exact call_range_1 ⟨.ref s.heap.objs.size,_,I.laid (a:=s.heap.objs.size) (o:=.rng 0 j) (λb o e=>Zn _ e) (Zq _) ⟨_,_,_,Zo _ rfl⟩,rfl,q _ (I.hok.fresh (Zq _))⟩
def YC (lo:Int)(n:Nat):TV:=(ae n).map λi:Nat=>lo+(i:Int)
theorem Zcr {lo:Int}{n i:Nat}(h:i<n):(YC lo n)[i]?=some (lo+i):=by unfold YC;rw[Zc,ai h];rfl
theorem Z8 {lo:Int}{n:Nat}:(YC lo n).length=n:=by unfold YC;rw[Za,Zg]
theorem Zag {lo:Int}{n:Nat}{ZJ:Array Value}(h:g9 (λi v=>∃t,v=.int (lo+i*1) t) ZJ n):ZO ((YC lo n).map V.int) ZJ.toList:=by
 have go:∀(l:List Value) (k:Nat),(∀(j:Nat) v,l[j]?=some v->∃t,v=.int (lo+((k+j:Nat):Int)) t)->ZO (((c9 k l.length).map λi:Nat=>lo+(i:Int)).map V.int) l:=by
  intro l;induction l with
  |nil=>intro k _;exact .nil
  |cons x r M=>
   intro k J;rw[Zi,dW];refine .cons ?_ (M (k+1) λj v q=>?_)
   ·obtain⟨t,e⟩:=J 0 x rfl
    exact⟨t,e⟩
   ·obtain⟨t,e⟩:=J (j+1) v q
    exact⟨t,by rw[e];congr 2;omega⟩
 have e:=go ZJ.toList 0 λj v q=>by
  rw[cn] at q;obtain⟨t,e⟩:=h.2 j v q;exact⟨t,by rw[e];congr 1 <;> omega⟩
 rw[Zr,h.1] at e;unfold YC;rw[dS];exact e
inductive I_call_list_rng (xs:TL) (H:Hp) (Q:VK):Prop
 |mk (a:Addr) (lo hi:Int):(xs=[.ref a])->(H a=some (.rng lo hi))->((-(2 ^ 62)<=lo/\lo<2 ^ 62/\-(2 ^ 62)<=hi/\hi<2 ^ 62))->((hi-lo).toNat<=sizeLine)->(∀l,H l=none->Q (.ref l) (upd H l (.lst ((YC lo (hi-lo).toNat).map V.int))))->I_call_list_rng xs H Q
theorem Xj (O:X.calm=true):Yd X (.type "list") _root_.L2.I_call_list_rng:=by
 intro J s σ H xs us Q I r h;obtain⟨a,lo,hi,rfl,U,⟨Y,b2,b3,b4⟩,M,q⟩:=h;obtain⟨u,rfl,ru⟩:=vals1 r;cases ru;obtain⟨t,u,v,e⟩:=(show ∃t u v,s.heap.get? a=some {cls:=.type "range",data:=.fields #[.int lo t,.int hi u,.int 1 v]} from I.hok a _ U);refine call_list_range (n:=(hi-lo).toNat) (I.ok.hd O) e (small_one Y b2 b3 b4) (by rw[lQ];split <;> omega) M λh' tk ZJ c' hk hl j=>?_
 exact⟨.ref _,_,I.laid (a:=s.heap.objs.size) (o:=.lst ((YC lo (hi-lo).toNat).map V.int)) (t':=tk) hk (Zq _) ⟨by rw[Za,Z8];exact M,ZJ.toList,c',Zag j,by simpa using hl⟩,rfl,q _ (I.hok.fresh (Zq _))⟩
end
def WU:List Str->Bool
 | []=>true
 |x::r=>!(r.contains x) && WU r
theorem Z7:∀{l:List Str},WU l=true->l.Nodup
 | [],_=>fZ
 |x::r,h=>by
  unfold WU at h;simp only[ah,mL] at h;refine bW.mpr ⟨λz=>?_,Z7 h.2⟩;have:=ay.mpr z;rw[h.1] at this;cases this
def ZaF (j:cL)(x:Str):Bool:=match j.names.lookup x with
 |some .local=>true
 |some .cell=>true
 |_=>false
theorem YV {j:cL}{x:Str}(h:ZaF j x=true):Loc j x:=by
 unfold ZaF at h;split at h
 ·rename_i e;exact .inl e
 ·rename_i e;exact .inr e
 ·cases h
def Jz (j:cL)(x:Str):Bool:=match j.names.lookup x with
 |some .local=>true
 |_=>false
theorem Jf {j:cL}{x:Str}(h:Jz j x=true):j.names.lookup x=some .local:=by
 unfold Jz at h;split at h
 ·rename_i e;exact e
 ·cases h
def Zim (j:cL)(x:Str):Bool:=match j.names.lookup x with
 |some .local=>true
 |some .cell=>true
 |some .free=>true
 |_=>false
theorem Zil {j:cL}{x:Str}(h:Zim j x=true):Vis j x:=by
 unfold Zim at h;split at h
 ·rename_i e;exact .inl e
 ·rename_i e;exact .inr (.inl e)
 ·rename_i e;exact .inr (.inr e)
 ·cases h
def Y3 (j:cL)(x:Str):Bool:=match j.names.lookup x with
 |some .globalImplicit=>true
 |_=>false
def Jv:Expr->Bool
 | .Starred _ _=>false
 |_=>true
theorem Jj {e:Expr}{j:List Expr}{env:Env}(h:Jv e=true):starEach (e::j) env=(false,eval e env)::starEach j env:=by cases e <;> first|rfl|cases h
def J5:List Expr->Bool
 | []=>true
 |e::r=>Jv e && J5 r
theorem W2 {env:Env}{pos:Pos}:∀{j:List Expr},J5 j=true->(backTo pos (starEach j env)).any (·.1)=false
 | [],_=>rfl
 |e::r,h=>by
  unfold J5 at h;rw[ah] at h;rw[Jj h.1];exact W2 h.2
section
variable {X:Cx}
theorem pc {e:Expr}{j:List Expr}{q:TE}{t:TA}(J:PE X e q)(M:PA X j t)(O:Jv e=true:=by rfl):PA X (e::j) (ZgL q t):=ZjY J M (Jj O)
theorem JQ {x:Str}(h:Y3 X.env.scope x=true):Gl X x:=by
 unfold Y3 at h;split at h
 ·rename_i e;exact e
 ·cases h
theorem vn (i:Nat){x:Str}{pos:Pos}(q:X.N[i]?=some x:=by rfl)(J:Zim X.env.scope x=true:=by kernel_rfl)(M:(x == ("__debug__":Str))=false:=by kernel_rfl)(j:(x == ("__classdict__":Str))=false:=by kernel_rfl) :
  PE X (.Name x pos) (ZlV i):=Zmg q (Zil J) M j
theorem gn (i:Nat){x:Str}{pos:Pos}(q:X.N[i]?=some x:=by rfl)(J:WU X.N=true:=by kernel_rfl)(j:Jz X.env.scope x=true:=by kernel_rfl):PG X (.Name x pos) (Yc i):=
 ZeQ (Z7 J) q (.inl (Jf j)) (.inr (Jf j))
theorem gnf (i:Nat){x:Str}{pos:Pos}(j:X.fn x=true)(q:X.N[i]?=some x:=by rfl)(J:WU X.N=true:=by kernel_rfl)(M:ZaF X.env.scope x=true:=by kernel_rfl):PG X (.Name x pos) (Yc i):=
 ZeQ (Z7 J) q (YV M) (.inl j)
theorem ZG (i:Nat){x:Str}{e:Expr}{q:TE}{pos j:Pos}(J:X.fn x=true)(M:PE X e q)(O:X.N[i]?=some x:=by rfl)(U:WU X.N=true:=by kernel_rfl)(Y:ZaF X.env.scope x=true:=by kernel_rfl)
  (hs:swapsWith e (some (.Name x j)) pos.line X.env=pure false:=by rfl):PS X (.Assign [.Name x j] e pos) (ZdA q (Yc i)):=
 Zmd (Z7 U) O (YV Y) M hs (.inl J)
theorem cb {x:Str}{id:String}{r:TL->Hp->VK->Prop}{e:Expr}{j:List Expr}{t:TA}{p pos:Pos}(J:Yd X (.builtin id) r)(M:X.mg x=none)(O:PA X (e::j) t)(U:Y3 X.env.scope x=true:=by kernel_rfl)(Y:bootBuiltins x=some (.builtin id):=by kernel_rfl)
  (hn:x ≠ "__name__":=by decide) (hd:(x == ("__debug__":Str))=false:=by kernel_rfl) (he:Jv e=true:=by rfl) (q:J5 j=true:=by rfl) :
  PE X (.Call (.Name x p) (e::j) [] pos) (tCB r t):=ZhL J (JQ U) M Y O hn hd (Jj he) (W2 q)
theorem ct {x:Str}{T:String}{r:TL->Hp->VK->Prop}{e:Expr}{j:List Expr}{t:TA}{p pos:Pos}(J:Yd X (.type T) r)(M:X.mg x=none)(O:PA X (e::j) t)(U:Y3 X.env.scope x=true:=by kernel_rfl)(Y:bootBuiltins x=some (.type T):=by kernel_rfl)
  (hn:x ≠ "__name__":=by decide) (hd:(x == ("__debug__":Str))=false:=by kernel_rfl) (he:Jv e=true:=by rfl) (q:J5 j=true:=by rfl) :
  PE X (.Call (.Name x p) (e::j) [] pos) (tCB r t):=ZfF J (JQ U) M Y O hn hd (Jj he) (W2 q)
theorem tyv (T:String){x:Str}{pos:Pos}(j:X.mg x=none)(q:Y3 X.env.scope x=true:=by kernel_rfl)(J:bootBuiltins x=some (.type T):=by kernel_rfl)(M:x ≠ "__name__":=by decide)(O:(x == ("__debug__":Str))=false:=by kernel_rfl) :
  PE X (.Name x pos) (tC (.ty T)):=ZjV (JQ q) j J rfl M O
theorem J9 {q a:Expr}{j:TA}{p pos:Pos}(J:X.mg "range"=none)(M:PA X [a] j)(O:Y3 X.env.scope "range"=true:=by kernel_rfl)(U:starEach [a] X.env=[(false,eval a X.env)]:=by rfl):PI X q (.Call (.Name "range" p) [a] [] pos) (Zlp j):=ZfE (JQ O) J M U
theorem Zn4 {J a b:Expr}{q:TA}{p pos:Pos}(M:X.mg "range"=none)(O:PA X [a,b] q)(U:Y3 X.env.scope "range"=true:=by kernel_rfl)(Y:starEach [a,b] X.env=[(false,eval a X.env),(false,eval b X.env)]:=by rfl)(j:starEach [b] X.env=[(false,eval b X.env)]:=by rfl) :
  PI X J (.Call (.Name "range" p) [a,b] [] pos) (Zlo q):=ZfD (JQ U) M O Y j
end
def Fn (P:Program)(w:World)(K:aa)(j:TR)(base:Heap)(CX:CXT)(k:Nat)(x:Str)(q:List Str)(sp:Sp):Prop:=
 ∃f J,Z2 P w K j base CX k f J q sp/\j x=some (.ref f)/\dN K (.ref f)=true/\Binds K J q []
section
variable {X:Cx}
theorem Yz {CX:CXT}{k j:Nat}{x:Str}{M:List Str}{sp:Sp}{E:XK}{e:Expr}{q:List Expr}{t:TA}{p pos:Pos}(G:Fn X.prog X.w X.K X.mg X.base CX k x M sp)(O:Jo j X.A)(U:Zb4 CX X E)(Y:PA X (e::q) t)(hk:k<=j:=by decide)
  (hg:Y3 X.env.scope x=true:=by kernel_rfl) (hd:(x == ("__debug__":Str))=false:=by kernel_rfl) (he:Jv e=true:=by rfl) (J:J5 q=true:=by rfl) :
  PE X (.Call (.Name x p) (e::q) [] pos) (Zk6 sp [] E t):=by
 obtain⟨f,fd,F,hm,kp,b⟩:=G;exact ZjU F (O.mono hk) (JQ hg) hm kp b .nil U Y hd (Jj he) (W2 J)
end
theorem Fn.mk {P:Program}{w:World}{K:aa}{mg:TR}{base h:Heap}{CX:CXT}{k:Nat}{x:Str}{J:List Str}{sp:Sp}{st:Stmt}{f:Addr}{oc:Value}{od M:Option Addr}{O:Array (Option Value)}{kV q U j ct:Value}(X:K.In h)(G:h.Ns mainGlobals mg)
  (a:bd K mainGlobals x=some (some (.ref f))) (l:K.lookup f=some ⟨oc,od,.func (cp x x (Ww st) (Wm st) (Z5 st) .none kV q U M j ct),O⟩) (c:eP K j x=true) (kp:dN K (.ref f)=true)
  (hok:∀Y,Wu K x x st f Y->Z2 P w K mg base CX k f Y J sp)
  (hb:∀(kV q U:Value) (M:Option Addr) (j ct:Value) (us:List Value),us.length=J.length->bindArgs (cp x x (Ww st) (Wm st) (Z5 st) .none kV q U M j ct) ⟨us,[]⟩=pure (J.zip us)) :
  Fn P w K mg base CX k x J sp:=
 ⟨f,_,hok _ (Zed l c kp),mP X G a,kp,(Zed l c kp).binds hb⟩
def U9 (n T:String):Bool:=n == T || (n == "bool" && T == "int")
def Zd7:List String:=["NoneType", "bool", "int", "str", "list", "tuple", "dict"]
theorem Zoi {K:aa}{n T:String}(j:n∈Zd7)(q:T∈["int", "bool", "tuple", "list", "str"]):ig K (.type n) (.type T)=some (U9 n T):=by
 simp only[Zd7,aD,aM,cT,or_false] at j q;rcases j with rfl|rfl|rfl|rfl|rfl|rfl|rfl <;> rcases q with rfl|rfl|rfl|rfl|rfl <;> kernel_rfl
def Kd (K:aa)(H:Hp)(x:V)(n:String):Prop:=X6 K H x (.type n)/\n∈Zd7
inductive ZjG (K:aa) (T:String) (xs:TL) (H:Hp) (Q:VK):Prop
 |mk (x:_) (n:_):(xs=[x,.ty T])->(Kd K H x n)->(Q (.bl (U9 n T)) H)->ZjG K T xs H Q
theorem ZiX {X:Cx}{T:String}(J:T∈["int", "bool", "tuple", "list", "str"]):Yd X (.builtin "isinstance") (ZjG X.K T):=by
 intro j s M H xs O Q I r h;obtain⟨x,n,rfl,⟨ty,U⟩,q⟩:=h;refine ZiW j s M H _ O Q I r ⟨x,.ty T,.type n,U9 n T,rfl,ty,λY rc=>?_,q⟩;cases (show Y=bX T from rc);exact Zoi U J
section
variable {X:Cx}
theorem Wa (K:aa)(j:X.K=K:=by rfl):IxR X (Zl9 K):=j▸ZmO
theorem WB (K:aa)(j:X.K=K:=by rfl):IxR X (Zma K):=j▸Zkt
theorem Zik (K:aa)(T:String)(j:T∈["int", "bool", "tuple", "list", "str"]:=by decide)(q:X.K=K:=by rfl):Yd X (.builtin "isinstance") (ZjG K T):=q▸ZiX j
noncomputable abbrev ZpG (K:aa):TL->Hp->VK->Prop:=_root_.L2.I_call_len_seq K
theorem Yr (K:aa)(j:X.K=K:=by rfl):Yd X (.builtin "len") (ZpG K):=j▸Zb1
theorem itT (K:aa){q l:Expr}{j:TE}(J:PE X l j)(M:X.K=K:=by rfl):PI X q l (Zom K j):=M▸Zmf J
theorem itL (K:aa){q l:Expr}{j:TE}(J:PE X l j)(M:X.K=K:=by rfl):PI X q l (Zlq K j):=M▸ZjP J
end
def ZbT (N:List Str)(M:cL)(O:List Str)(q:TY)(U:List Str)(J:cL):Bool:=
 (J.kind == .function) && WU (J.names.map (·.1)) && J.names.all (λy=>y.2 != .local || Jz J y.1) && WU U && decide (U=O++q.map λj=>N.getD j "") &&
  q.all (λj=>decide (j<N.length) && (match J.names.lookup (N.getD j "") with|some .free=>true|_=>false)) &&
  J.names.all (λy=>y.2 != .free || (match M.names.lookup y.1 with|some .cell=>true|some .free=>true|_=>false))
theorem Jp.of {N:List Str}{M:cL}{own:List Str}{J:TY}{U:List Str}{Y:cL}(h:ZbT N M own J U Y=true):Jp N M own J U Y:=by
 unfold ZbT at h;simp only[ah,aR,decide_eq_true_eq,beq_iff_eq,bne_iff_ne,ne_eq,bi] at h;obtain⟨⟨⟨⟨⟨⟨h1,h2⟩,h3⟩,h4⟩,h5⟩,h6⟩,h7⟩:=h;refine⟨h1,Z7 h2,λy O e=>?_,Z7 h4,h5,λj hj=>⟨(h6 j hj).1,?_⟩,λy O e=>?_⟩
 ·rcases h3 y O with z|z
  ·exact absurd e z
  ·exact Jf z
 ·have:=(h6 j hj).2
  split at this
  ·rename_i z;exact z
  ·cases this
 ·rcases h7 y O with z|z
  ·exact absurd e z
  ·split at z
   ·rename_i q;exact .inl q
   ·rename_i q;exact .inr q
   ·cases z
theorem cmp {X:Cx}(q:List Str)(j:TY)(M:List Str){scope:cL}{elt iter O:Expr}{ifs:List Expr}{pos:Pos}{U:TI}{g:TG}{Y:TT}{te:TE}(hc:X.calm=true)(hi:PI X O iter U)
  (hg:∀J C s H ex,PG (Y5 X scope J M C s H ex) O g) (ht:∀J C s H ex,PIf (Y5 X scope J M C s H ex) ifs Y) (he:∀J C s H ex,PE (Y5 X scope J M C s H ex) elt te)
  (hS:ZbT X.N X.env.scope q j M scope=true:=by kernel_rfl) (hs:∀x,foldedSetIterable iter X.env x=pure x:=by intro _;rfl) :
  PE X (.ListComp elt [⟨O,iter,ifs,0⟩] scope pos) (Zeq q j U g Y te):=ZjT rfl (.of hS) hc hi hg ht he hs
section
variable {X:Cx}
end
theorem Yn {c:TT}{tb:TS}{D:WO}{σ:St}{H:Hp}(Pv:Nat->St->Hp->Prop)(q:St->Hp->Prop)(hend:∀ σ H,q σ H->D.nx σ H)(h0:∃m,Pv m σ H)
  (turn:(∀ σ H,q σ H->D.nx σ H)->∀m σ H,Pv m σ H->c σ H λb J=>if b=true then ∃N:St->Hp->Prop,(∀ j M,N j M->∃O,O<m/\Pv O j M)/\tb (D.lp N) σ J else D.nx σ J) :
  ZgK c tb D σ H:=⟨Pv,h0,turn hend⟩
structure WA (J:It)(H:Hp)(xs:TL):Prop where
 go:∀(i:Nat) H',Zw H H'->i<xs.length->J.go i H'
 yld:∀(i:Nat) H' x H2,Zw H H'->i<xs.length->J.yld i H' x H2->H2=H'/\xs[i]?=some x
 stop:∀H',Zw H H'->J.stop xs.length H'
theorem WA.mono {J:It}{H q:Hp}{xs:TL}(s:Zw H q)(S:WA J H xs):WA J q xs:=
 ⟨λi j e=>S.go i j (s.trans e),λi j x M e=>S.yld i j x M (s.trans e),λj e=>S.stop j (s.trans e)⟩
theorem YM {K:aa}{H:Hp}{a:Addr}{xs:TL}(h:Xw K H a xs):WA (Itt K a) H xs:=
 ⟨λi j s q=>⟨xs,_,s.tup h,Zf q⟩,λi j x J s _ y=>⟨y.1,y.2 xs (s.tup h)⟩,λj s=>⟨xs,s.tup h,Zq _⟩⟩
theorem YY {K:aa}{H:Hp}{a:Addr}{xs:TL}(h:Wp K H a xs):WA (Itl K a) H xs:=
 ⟨λi j s q=>⟨xs,_,s.seq h,Zf q⟩,λi j x J s _ y=>⟨y.1,y.2 xs (s.seq h)⟩,λj s=>⟨xs,s.seq h,Zq _⟩⟩
theorem Jr {H:Hp}(lo:Int)(n:Nat):WA (Itr lo n) H ((YC lo n).map V.int):=by
 have q:((YC lo n).map V.int).length=n:=by rw[Za,Z8]
 refine⟨λi J s j=>by rw[q] at j;exact j,λi J x M s j y=>?_,λJ s=>by show n<=_;rw[q];exact Zq _⟩;rw[q] at j;exact⟨y.1,by rw[y.2,Zc,Zcr j];rfl⟩
theorem Zdd {J:It}{own:List Str}{O:TY}{g:TG}{tc:TT}{te:TE}{σ:St}{H:Hp}{Q:VK}{xs:TL}(S:WA J H xs)(Y:St)(m6:JG own O σ=none::Y)(f:V->TK)(hz:xs.length<=1000000)
  (hs:∀(i:Nat) x v0 j,xs[i]?=some x->Zw H j->∀(R:St->V->Hp->Prop) (R':St->Hp->Prop),(∀v H5,f x=some v->Zw j H5->R (some x::Y) v H5)->(∀U,f x=none->Zw j U->R' (some x::Y) U)->
   g x (v0::Y) j λq H3=>tc q H3 λb U=>if b=true then te q U (R q) else R' q U)
  (hd:∀D j,H D=none->Zw H j->j D=some (.lst (xs.filterMap f))->Q (.ref D) j) :
  W0 own O g tc te σ Q J H:=by
 intro D hD;refine⟨λi m m5 j=>m=xs.length-i/\i<=xs.length/\(∃v0,m5=v0::Y)/\Zw H j/\j D=some (.lst ((xs.take i).filterMap f)),⟨_,rfl,aU _,⟨none,m6⟩,Zw.upd hD,by rw[Zu,eX];rfl⟩,?_⟩;rintro i m m5 j ⟨rfl,hi,⟨v0,rfl⟩,s,hl⟩;by_cases M:i<xs.length
 ·refine .inr ⟨S.go i j s M,_,λm8 H2 z=>z,λx H2 y=>?_⟩
  obtain⟨rfl,hx⟩:=S.yld i j x H2 s M y;have ht:xs.take (i+1)=xs.take i++[x]:=by rw[cx,hx];rfl
  have m7:((xs.take i).filterMap f).length<=i:=aW (List.length_filterMap_le _ _) (by rw[b8];omega);refine hs i x v0 H2 hx s _ _ (λv H5 e s5=>?_) (λU e s4=>?_)
  ·refine⟨_,s5 _ _ hl,?_,xs.length-(i+1),by omega,rfl,M,⟨_,rfl⟩,(s.trans s5).updr hD,?_⟩
   ·have:(16777216:Nat)=sizeLine:=by decide
    omega
   ·rw[Zu,ht,lz,bS,e];rfl
  ·refine⟨xs.length-(i+1),by omega,rfl,M,⟨_,rfl⟩,s.trans s4,?_⟩
   rw[s4 _ _ hl,ht,lz,bS,e];simp
 ·have e:i=xs.length:=by omega
  subst e;refine .inl ⟨S.stop j s,hd D j hD s ?_⟩;rw[hl,cD]
theorem W5 {J:It}{g:TG}{tb:TS}{D:WO}{σ:St}{H0 H:Hp}{xs:TL}(S:WA J H0 xs)(Pv:Nat->St->Hp->Prop)(h0:Pv 0 σ H)(hS:∀i σ H,Pv i σ H->Zw H0 H)
  (hs:∀(i:Nat) x σ H,xs[i]?=some x->Pv i σ H->g x σ H λq U=>tb (D.lp (Pv (i+1))) q U) (hd:∀ σ H,Pv xs.length σ H->D.nx σ H) :
  ∃W:Nat->Nat->St->Hp->Prop,(∃m,W 0 m σ H)/\∀i m σ H,W i m σ H->
   (J.stop i H/\D.nx σ H)\/(J.go i H/\∃N:St->Hp->Prop,(∀ M j,N M j->∃Y,Y<m/\W (i+1) Y M j)/\∀x j,J.yld i H x j->g x σ j λq U=>tb (D.lp N) q U):=by
 refine⟨λi m σ H=>m=xs.length-i/\i<=xs.length/\Pv i σ H,⟨_,rfl,aU _,h0⟩,?_⟩;rintro i m σ H ⟨rfl,hi,p⟩;have s:=hS i σ H p;by_cases O:i<xs.length
 ·refine .inr ⟨S.go i H s O,Pv (i+1),λM j p'=>⟨xs.length-(i+1),by omega,rfl,O,p'⟩,λx j y=>?_⟩
  obtain⟨rfl,hx⟩:=S.yld i H x j s O y;exact hs i x σ _ hx p
 ·have e:i=xs.length:=by omega
  subst e;exact .inl ⟨S.stop H s,hd σ H p⟩
theorem tT {A B:Hp->Prop}{σ:St}{H:Hp}(h:A H):WF σ H λb j=>if b=true then A j else B j:=by
 show if true=true then A H else B H
 rw[if_pos rfl];exact h
theorem Zfa {α j:Type}(g:α->j):∀xs:List α,xs.filterMap (λy=>some (g y))=xs.map g
 | []=>rfl
 |x::r=>by rw[bS,aB,Zfa g r]
theorem Zlw {α j:Type}(p:α->Bool)(g:α->j):∀xs:List α,xs.filterMap (λy=>if p y=true then some (g y) else none)=(xs.filter p).map g
 | []=>rfl
 |x::r=>by
  rw[bS,mV,Zlw p g r];by_cases h:p x=true
  ·rw[if_pos h,if_pos h];rfl
  ·rw[if_neg h,if_neg h]
theorem ZmP {c A B:Prop} [Decidable c](j:c)(h:A):if c then A else B:=by rw[if_pos j];exact h
theorem Zd8 {c A B:Prop} [Decidable c](j:¬c)(h:B):if c then A else B:=by rw[if_neg j];exact h
theorem Jn {J:It}{own:List Str}{M:TY}{O:TE}{σ:St}{H:Hp}{Q:VK}{xs:TL}(S:WA J H xs)(q:St)(m5:JG own M σ=none::q)(f:V->V)(hz:xs.length<=1000000)
  (hs:∀(i:Nat) x j,xs[i]?=some x->Zw H j->∀R:VK,(∀U,Zw j U->R (f x) U)->O (some x::q) j R)
  (hd:∀D j,H D=none->Zw H j->j D=some (.lst (xs.map f))->Q (.ref D) j):W0 own M (Yc 0) WF O σ Q J H:=by
 refine Zdd S q m5 (λx=>some (f x)) hz (λi x v0 j hx s R R' h1 h2=>?_) λD j hD s hl=>hd D j hD s (by rw[hl,Zfa]);show WF (some x::q) j λb Y=>if b=true then O (some x::q) Y (R (some x::q)) else R' (some x::q) Y
 exact tT (A:=λY=>O (some x::q) Y (R (some x::q))) (hs i x j hx s _ λU s5=>h1 _ U rfl s5)
theorem Zgh {J:It}{own:List Str}{q:TY}{tc:TT}{te:TE}{σ:St}{H:Hp}{Q:VK}{xs:TL}(S:WA J H xs)(O:St)(m5:JG own q σ=none::O)(p:V->Bool)(f:V->V)(hz:xs.length<=1000000)
  (hs:∀(i:Nat) x j,xs[i]?=some x->Zw H j->∀(R:VK) (U:Hp->Prop),(p x=true->∀Y,Zw j Y->R (f x) Y)->(p x=false->∀M,Zw j M->U M)->tc (some x::O) j λb M=>if b=true then te (some x::O) M R else U M)
  (hd:∀D j,H D=none->Zw H j->j D=some (.lst ((xs.filter p).map f))->Q (.ref D) j):W0 own q (Yc 0) tc te σ Q J H:=by
 refine Zdd S O m5 (λx=>if p x=true then some (f x) else none) hz (λi x v0 j hx s R U h1 h2=>?_) λD j hD s hl=>hd D j hD s (by rw[hl,Zlw])
 exact hs i x j hx s (R (some x::O)) (U (some x::O)) (λe Y s5=>h1 _ Y (by rw[if_pos e]) s5) λe M s4=>h2 M (by rw[if_neg (by rw[e];decide)]) s4
theorem XI:∀{ns:TV},(∀n∈ns,n.natAbs<2 ^ 200)->eB (ns.map aI)=true/\f6 (ns.map aI)=false/\aV (ns.map aI)=0/\dD 300 (ns.map aI)=true/\iu (ns.map aI)=ns.length/\ba (ns.map aI)=true
 | [],_=>⟨rfl,rfl,rfl,rfl,rfl,rfl⟩
 |n::r,h=>by
  obtain⟨U,M,Y,h4,h5,h6⟩:=XI (ns:=r) λm hm=>h m (aE _ hm);have O:=h n aA;have j:n.natAbs.log2<1920:=by
   by_cases q:n.natAbs=0
   ·rw[q];decide +kernel
   ·have:=(Nat.log2_lt q).mpr O
    omega
  have J:(fK (.int n)).length<=300:=by
   have M:n.natAbs.log2<200:=by
    by_cases q:n.natAbs=0
    ·rw[q];decide +kernel
    ·exact (Nat.log2_lt q).mpr O
   have:=int_text_length_le (k:=200) (by decide) M;simp only[fK];rw[PySem.ofString_length];omega
  refine⟨?_,?_,?_,?_,?_,?_⟩
  ·simp only[aB,eB,jm,U,bV,decide_eq_true_eq];exact j
  ·simp only[aB,f6,mQ,M,fu]
  ·simp only[aB,aV,bU,Y];rfl
  ·simp only[aB,dD,lG,h4,bV,decide_eq_true_eq];exact J
  ·simp only[aB,iu,PyData.bulk,h5,Zi];omega
  ·simp only[aB,ba,eV,h6,bV]
theorem Z3 {α:Type} [DecidableEq α]:∀(l j:List α),l.Nodup->(∀a∈l,a∈j)->l.length<=j.length
 | [],_,_,_=>aU _
 |a::r,j,nd,h=>by
  obtain⟨M,O⟩:=bW.mp nd;have J:a∈j:=h a aA;have:=Z3 r (j.erase a) O λb hb=>by
   have q:b≠a:=λe=>M (e▸hb);exact (fw q).mpr (h b (aE _ hb))
  rw[gE J] at this;have U:0<j.length:=hU J;rw[Zi];omega
theorem WQ (val:Nat->Int):∀i,(firstMet val i).Nodup
 |0=>fZ
 |i+1=>by
  have j:=WQ val i;rw[l6];unfold step_dedup;split
  ·exact j
  ·rename_i h
   refine mH.mpr ⟨j,bW.mpr ⟨by simp,fZ⟩,?_⟩;intro a q b hb e;rw[aM.mp hb] at e;apply h
   first
    |exact aZ.mpr ⟨a,q,by simp[e]⟩
    |simpa [e] using q
theorem ZbB (val:Nat->Int)(i:Nat)(k:Int):k∈firstMet val i↔∃j,j<i/\val j=k:=by
 have h:=firstMet_any val i k;constructor
 ·intro M
  have:(firstMet val i).any (· == k)=true:=aZ.mpr ⟨k,M,by simp⟩;rw[h] at this;obtain⟨x,q,e⟩:=aZ.mp this;obtain⟨j,J,rfl⟩:=az.mp q;exact⟨j,af.mp J,by simpa using e⟩
 ·rintro⟨j,J,rfl⟩
  have:((ae i).map val).any (· == val j)=true:=aZ.mpr ⟨val j,az.mpr ⟨j,af.mpr J,rfl⟩,by simp⟩;rw[<-h] at this;obtain⟨x,q,e⟩:=aZ.mp this;have:x=val j:=by simpa using e
  exact this▸q
theorem Zaw (ns:TV)(k:Int):k∈Yy ns ns.length↔k∈ns:=by
 rw[ZbB];constructor
 ·rintro⟨j,q,rfl⟩
  rw[Zb,Zf q];exact bh q
 ·intro h
  obtain⟨j,q,e⟩:=List.getElem_of_mem h;exact⟨j,q,by rw[Zb,Zf q];exact e⟩
theorem Uf (n:Nat):(YC 0 n).Nodup:=by
 unfold YC;rw[jY,eY];exact List.Pairwise.imp (λh e=>h (by omega)) (cU (n:=n))
theorem XO {n:Nat}{k:Int}:k∈YC 0 n↔0<=k/\k<n:=by
 unfold YC;rw[az];constructor
 ·rintro⟨i,hi,rfl⟩
  have:=af.mp hi;omega
 ·rintro⟨q,J⟩
  obtain⟨j,rfl⟩:=bM q;exact⟨j,af.mpr (by omega),by simp⟩
theorem ZcF (ns:TV):((∀z∈ns,0<=z/\z<ns.length)/\(Yy ns ns.length).length=ns.length)↔∀k:Nat,k<ns.length->(k:Int)∈ns:=by
 constructor
 ·rintro⟨hr,hl⟩ k hk
  apply aj;intro U;have O:=Z3 (Yy ns ns.length) ((YC 0 ns.length).erase (k:Int)) (WQ _ _) λa q=>by
   have Y:=(Zaw ns a).mp q;have M:a≠(k:Int):=λe=>U (e▸Y);exact (fw M).mpr (XO.mpr (hr a Y))
  rw[gE (XO.mpr ⟨by omega,by omega⟩),Z8,hl] at O;omega
 ·intro h
  have J:∀a∈YC 0 ns.length,a∈ns:=λa q=>by
   obtain⟨h0,O⟩:=XO.mp q;obtain⟨j,rfl⟩:=bM h0;exact h j (by omega)
  refine⟨λz hz=>?_,?_⟩
  ·apply aj
   intro U;have O:=Z3 (YC 0 ns.length) (ns.erase z) (Uf _) λa q=>by
    have M:a≠z:=λe=>U (e▸XO.mp q);exact (fw M).mpr (J a q)
   have hp:0<ns.length:=hU hz;rw[gE hz,Z8] at O;omega
  ·have O:=Z3 (YC 0 ns.length) (Yy ns ns.length) (Uf _) λa q=>(Zaw ns a).mpr (J a q)
   have h2:=gQ (λi=>ns.getD i 0) ns.length;rw[Z8] at O;have h3:(Yy ns ns.length).length<=ns.length:=h2;omega
end L2
namespace Tb
def ffI (w:Nat):Nat->Int
 |0=>1
 |k+1=>ffI w k*((w:Int)-(k:Int))
theorem ZbP {w:Nat}:∀{k:Nat},w<k->ffI w k=0
 |0,h=>by omega
 |k+1,h=>by
  rw[ffI];by_cases e:w=k
  ·subst e
   rw[Int.sub_self,cu]
  ·rw[ZbP (by omega),ci]
theorem PrM.nzI {p:Nat}(h:PrM p){a:Int}{b:Nat}(M:a % (p:Int)≠0)(hb:0<b)(j:b<p):a*(b:Int) % (p:Int)≠0:=by
 have O:=h.p2;have p0:(p:Int)≠0:=by omega
 obtain⟨r,q⟩:=bM (bY a p0);have J:=bD a (show (0:Int)<p by omega);rw[bC,q,<-a5 b p,<-aJ,<-a5,bH j];have:=h.nz r b (by omega) (by omega) hb j;omega
theorem ZiC {p:Nat}(h:PrM p){w:Nat}(hw:w<p):∀{k:Nat},k<=w->ffI w k % (p:Int)≠0
 |0,_=>by
  have:=h.p2;rw[ffI,fk (by omega) (by omega)];decide
 |k+1,j=>by
  rw[ffI,show (w:Int)-(k:Int)=((w-k:Nat):Int) by omega];exact h.nzI (ZiC h hw (by omega)) (by omega) (by omega)
def fcI (p:Nat):Nat->Int
 |0=>1
 |k+1=>fcI p k*((k:Int)+1) % (p:Int)
theorem Zc8 (w:Nat):∀k,ffI (w+1) (k+1)=((w:Int)+1)*ffI w k
 |0=>by
  show (1:Int)*(((w+1:Nat):Int)-0)=((w:Int)+1)*1;omega
 |k+1=>by
  rw[ffI,Zc8 w k,ffI];have:((w+1:Nat):Int)-((k+1:Nat):Int)=(w:Int)-(k:Int):=by omega
  rw[this,cf]
theorem ZiD (p:Nat):∀k,fcI p k % (p:Int)=ffI k k % (p:Int)
 |0=>rfl
 |k+1=>by
  rw[fcI,Zc8,fJ _ (jj _),bC,ZiD p k,<-bC,dC]
theorem Zlx {p:Nat}(j:2<=p):∀k,0<=fcI p k/\fcI p k<(p:Int)
 |0=>by unfold fcI;omega
 |k+1=>by
  rw[fcI];exact⟨bY _ (by omega),bD _ (by omega)⟩
def Xa (S:Nat->Bool)(s:Nat):Int:=if S s then 1 else 0
theorem ZmE {m:Nat}{S:Nat->Bool}{g:Nat->Nat}(h:∃s,s<m/\S s=true):∃M,(∃s,s<m/\S s=true/\g s=M)/\∀s,s<m->S s=true->g s<=M:=by
 induction m with
 |zero=>obtain⟨s,U,_⟩:=h;omega
 |succ m ih=>
  by_cases O:∃s,s<m/\S s=true
  ·obtain⟨M,⟨s,U,h1,h2⟩,Y⟩:=ih O
   by_cases hq:S m=true/\M<g m
   ·refine⟨g m,⟨m,by omega,hq.1,rfl⟩,λj J q=>?_⟩
    by_cases z:j=m
    ·rw[z];exact Zq _
    ·have:=Y j (by omega) q
     omega
   ·refine⟨M,⟨s,by omega,h1,h2⟩,λj J q=>?_⟩
    by_cases z:j=m
    ·subst z
     by_cases zz:M<g j
     ·exact absurd ⟨q,zz⟩ hq
     ·omega
    ·exact Y j (by omega) q
  ·obtain⟨s,U,q⟩:=h
   have:s=m:=by
    by_cases z:s=m
    ·exact z
    ·exact absurd ⟨s,by omega,q⟩ O
   subst this;refine⟨g s,⟨s,by omega,q,rfl⟩,λj J q'=>?_⟩;by_cases z:j=s
   ·rw[z];exact Zq _
   ·exact absurd ⟨j,by omega,q'⟩ O
section
variable {t:T9}{p m:Nat}{e w f:Nat->Nat->Nat}
def lpA (S:Nat->Bool)(g:Nat->Nat)(k s:Nat):Int:=Xa S s*ffI (g s) k
theorem Zkn (S:Nat->Bool)(g:Nat->Nat)(k:Nat):(λs=>lpA S g k s*((g s:Int)-(k:Int)))=lpA S g (k+1):=by
 funext s;unfold lpA;rw[ffI,cf]
theorem Zkm (S:Nat->Bool)(g:Nat->Nat):lpA S g 0=Xa S:=by
 funext s;unfold lpA;rw[ffI,iG]
theorem ZmG (C:CD t p m e w f)(P:PW t){S:Nat->Bool}{g:Nat->Nat}(O:∀s,s<m->g s<p){M:Nat}(U:∃s,s<m/\S s=true/\g s=M)(Y:∀s,s<m->S s=true->g s<=M)(k:Nat) :
  (∃c,c<m/\Vc t p m e (lpA S g k) c≠0)↔k<=M:=by
 constructor
 ·rintro⟨c,J,h⟩
  by_cases z:k<=M
  ·exact z
  ·refine absurd ?_ h
   have:Vc t p m e (lpA S g k) c=Vc t p m e (λ_=>0) c:=JV (λs j=>by
    unfold lpA Xa;by_cases q:S s=true
    ·have:=Y s j q
     rw[ZbP (show g s<k by omega),cu]
    ·rw[if_neg q,ci]) c
   rw[this];unfold Vc;rw[Z6 (g:=λ_=>0) λs _=>ci _,JK];rfl
 ·intro hk
  obtain⟨s,j,q1,q2⟩:=U;refine aj λhn=>?_;have hz:∀c,c<m->Vc t p m e (lpA S g k) c=0:=λc J=>aj λz=>hn ⟨c,J,z⟩;have:=ZlC C P _ hz s j;unfold lpA Xa at this;rw[if_pos q1,jG] at this;exact ZiC C.pr (O s j) (by omega) this
def J8 (S:Nat->Bool)(g:Nat->Nat)(M:Nat)(s:Nat):Bool:=S s && decide (g s=M)
theorem ZmF (C:CD t p m e w f){S:Nat->Bool}{g:Nat->Nat}{M:Nat}(j:∀s,s<m->S s=true->g s<=M){u:Int}(J:u*fcI p M % (p:Int)=1)(c:Nat) :
  Vc t p m e (lpA S g M) c*u % (p:Int)=Vc t p m e (Xa (J8 S g M)) c:=by
 rw[Zi5];refine JV (λs O=>?_) c;unfold lpA Xa J8;by_cases q:S s=true
 ·rw[q,if_pos rfl,jG]
  by_cases z:g s=M
  ·rw[decide_eq_true z,z]
   show ffI M M*u % (p:Int)=1 % (p:Int);rw[bC,<-ZiD,<-bC,dC,J,fk (by omega) (by have:=C.pr.p2;omega)]
  ·have:=j s O q
   rw[decide_eq_false z,ZbP (show g s<M by omega),ci];rfl
 ·rw[if_neg q,ci,ci]
  have:S s=false:=by cases U:S s with|true=>exact absurd U q|false=>rfl
  rw[this];rfl
def ZbF (S:Nat->Bool)(g:Nat->Nat)(M:Nat)(s:Nat):Bool:=S s && decide (g s<M)
theorem ZmH {S:Nat->Bool}{g:Nat->Nat}{M:Nat}(j:∀s,s<m->S s=true->g s<=M)(c:Nat) :
  (Vc t p m e (Xa S) c-Vc t p m e (Xa (J8 S g M)) c) % (p:Int)=Vc t p m e (Xa (ZbF S g M)) c:=by
 rw[Znf];refine JV (λs J=>?_) c;congr 1;unfold Xa J8 ZbF;cases q:S s with
 |false=>rfl
 |true=>
  have:=j s J q;by_cases z:g s=M
  ·rw[decide_eq_true z,decide_eq_false (by omega)];rfl
  ·rw[decide_eq_false z,decide_eq_true (by omega)];rfl
theorem Zfo (C:CD t p m e w f)(P:PW t)(S:Nat->Bool):(∃c,c<m/\Vc t p m e (Xa S) c≠0)↔∃s,s<m/\S s=true:=by
 constructor
 ·rintro⟨c,M,h⟩
  refine aj λj=>h ?_;have:Vc t p m e (Xa S) c=Vc t p m e (λ_=>0) c:=JV (λs J=>by
   unfold Xa;rw[if_neg (λz=>j ⟨s,J,z⟩)]) c
  rw[this];unfold Vc;rw[Z6 (g:=λ_=>0) λs _=>ci _,JK];rfl
 ·rintro⟨s,J,q⟩
  refine aj λj=>?_;have:=ZlC C P _ (λc M=>aj λz=>j ⟨c,M,z⟩) s J;unfold Xa at this;rw[if_pos q,fk (by omega) (by have:=C.pr.p2;omega)] at this;cases this
end
structure PtS (m:Nat)(S:Nat->Bool)(g:Nat->Nat)(Ss:List (Nat->Bool)):Prop where
 ne:∀T∈Ss,∃s,s<m/\T s=true
 sub:∀T∈Ss,∀s,s<m->T s=true->S s=true
 cov:∀s,s<m->S s=true->∃T∈Ss,T s=true
 dj:Ss.Pairwise λT T'=>∀s,s<m->T s=true->T' s=true->False
 eq:∀T∈Ss,∀s s',s<m->s'<m->T s=true->T s'=true->g s=g s'
structure PtW (m:Nat)(S:Nat->Bool)(g:Nat->Nat)(Ss:List (Nat->Bool))(R:Nat->Bool):Prop where
 ne:∀T∈Ss,∃s,s<m/\T s=true
 sub:∀T∈Ss,∀s,s<m->T s=true->S s=true
 rs:∀s,s<m->R s=true->S s=true
 cov:∀s,s<m->S s=true->R s=true\/∃T∈Ss,T s=true
 dj:Ss.Pairwise λT T'=>∀s,s<m->T s=true->T' s=true->False
 dr:∀T∈Ss,∀s,s<m->T s=true->R s=true->False
 eq:∀T∈Ss,∀s s',s<m->s'<m->T s=true->T s'=true->g s=g s'
theorem PtW.zero {m:Nat}{S:Nat->Bool}{g:Nat->Nat}:PtW m S g [] S:=
 ⟨λ_ h=>(by cases h),λ_ h=>(by cases h),λs _ h=>h,λs _ h=>.inl h,.nil,λ_ h=>(by cases h),λ_ h=>(by cases h)⟩
theorem PtW.step {m:Nat}{S R:Nat->Bool}{g:Nat->Nat}{Ss:List (Nat->Bool)}(W:PtW m S g Ss R){M:Nat}(h1:∃s,s<m/\R s=true/\g s=M)(h2:∀s,s<m->R s=true->g s<=M):PtW m S g (Ss++[J8 R g M]) (ZbF R g M):=by
 have U:∀s,J8 R g M s=true->R s=true/\g s=M:=λs h=>by
  unfold J8 at h;rw[ah,decide_eq_true_eq] at h;exact h
 have lw:∀s,ZbF R g M s=true->R s=true/\g s<M:=λs h=>by
  unfold ZbF at h;rw[ah,decide_eq_true_eq] at h;exact h
 have O:∀{T:Nat->Bool},T∈Ss++[J8 R g M]->T∈Ss\/T=J8 R g M:=λ{T} h=>by
  rcases bu.mp h with h|h
  ·exact .inl h
  ·exact .inr (aM.mp h)
 refine⟨λT J=>?_,λT J s j q=>?_,λs j q=>W.rs s j (lw s q).1,λs j q=>?_,?_,λT J s j q1 q2=>?_,λT J s s' j m5 q Y=>?_⟩
 ·rcases O J with h|rfl
  ·exact W.ne T h
  ·obtain⟨s,j,a,b⟩:=h1
   exact⟨s,j,by unfold J8;rw[a,decide_eq_true b];rfl⟩
 ·rcases O J with h|rfl
  ·exact W.sub T h s j q
  ·exact W.rs s j (U s q).1
 ·rcases W.cov s j q with h|⟨T,J,h⟩
  ·have:=h2 s j h
   by_cases z:g s=M
   ·exact .inr ⟨_,aT _ aA,by unfold J8;rw[h,decide_eq_true z];rfl⟩
   ·exact .inl (by unfold ZbF;rw[h,decide_eq_true (by omega)];rfl)
  ·exact .inr ⟨T,bN _ J,h⟩
 ·rw[ix]
  refine⟨W.dj,gS _ _,λT J T' m6 s j q Y=>?_⟩;rw[aM.mp m6] at Y;exact W.dr T J s j q (U s Y).1
 ·rcases O J with h|rfl
  ·exact W.dr T h s j q1 (lw s q2).1
  ·have a:=(U s q1).2
   have b:=(lw s q2).2;omega
 ·rcases O J with h|rfl
  ·exact W.eq T h s s' j m5 q Y
  ·rw[(U s q).2,(U s' Y).2]
theorem PtW.end {m:Nat}{S R:Nat->Bool}{g:Nat->Nat}{j:List (Nat->Bool)}(W:PtW m S g j R)(h:¬ ∃s,s<m/\R s=true):PtS m S g j:=
 ⟨W.ne,W.sub,λs J q=>by
  rcases W.cov s J q with z|z
  ·exact absurd ⟨s,J,z⟩ h
  ·exact z,W.dj,W.eq⟩
structure Xc (m:Nat)(w:Nat->Nat->Nat)(i:Nat)(Ss:List (Nat->Bool)):Prop where
 ne:∀T∈Ss,∃s,s<m/\T s=true
 cov:∀s,s<m->∃T∈Ss,T s=true
 dj:Ss.Pairwise λT T'=>∀s,s<m->T s=true->T' s=true->False
 eq:∀T∈Ss,∀s s',s<m->s'<m->T s=true->T s'=true->∀j,j<i->w s j=w s' j
theorem Xc.zero {m:Nat}(m1:1<=m)(w:Nat->Nat->Nat):Xc m w 0 [λ_=>true]:=
 ⟨λT q=>⟨0,m1,by rw[aM.mp q]⟩,λs _=>⟨_,aA,rfl⟩,gS _ _,λ_ _ _ _ _ _ _ _ j J=>by omega⟩
inductive FiS (m:Nat) (g:Nat->Nat):List (Nat->Bool)->List (Nat->Bool)->Prop
 |nil:FiS m g [] []
 |snoc {Ss Fs Ts:List (Nat->Bool)}{S:Nat->Bool}:FiS m g Ss Fs->PtS m S g Ts->FiS m g (Ss++[S]) (Fs++Ts)
theorem FiS.out {m:Nat}{g:Nat->Nat}{M O:List (Nat->Bool)}(h:FiS m g M O):(∀T∈O,(∃s,s<m/\T s=true)/\(∃S∈M,∀s,s<m->T s=true->S s=true)/\∀s s',s<m->s'<m->T s=true->T s'=true->g s=g s')/\(∀S∈M,∀s,s<m->S s=true->∃T∈O,T s=true):=by
 induction h with
 |nil=>exact⟨λ_ h=>(by cases h),λ_ h=>(by cases h)⟩
 |snoc h p U=>
  refine⟨λT j=>?_,λS J s Y q=>?_⟩
  ·rcases bu.mp j with j|j
   ·obtain⟨a,⟨S,J,b⟩,c⟩:=U.1 T j
    exact⟨a,⟨S,bN _ J,b⟩,c⟩
   ·exact⟨p.ne T j,⟨_,aT _ aA,p.sub T j⟩,p.eq T j⟩
  ·rcases bu.mp J with J|J
   ·obtain⟨T,j,z⟩:=U.2 S J s Y q
    exact⟨T,bN _ j,z⟩
   ·rw[aM.mp J] at q
    obtain⟨T,j,z⟩:=p.cov s Y q;exact⟨T,aT _ j,z⟩
theorem FiS.dj {m:Nat}{g:Nat->Nat}{U Y:List (Nat->Bool)}(h:FiS m g U Y)(J:U.Pairwise λT j=>∀s,s<m->T s=true->j s=true->False):Y.Pairwise λT j=>∀s,s<m->T s=true->j s=true->False:=by
 induction h with
 |nil=>exact .nil
 |snoc h p ih=>
  rw[ix] at J ⊢;refine⟨ih J.1,p.dj,λT hT j M s O q q'=>?_⟩;obtain⟨_,⟨S,hS,b⟩,_⟩:=h.out.1 T hT;exact J.2.2 S hS _ aA s O (b s O q) (p.sub j M s O q')
theorem Xc.step {m i:Nat}{w:Nat->Nat->Nat}{Ss Fs:List (Nat->Bool)}(A:Xc m w i Ss)(h:FiS m (λs=>w s i) Ss Fs):Xc m w (i+1) Fs:=by
 refine⟨λT O=>(h.out.1 T O).1,λs M=>?_,h.dj A.dj,λT O s U M J q q' j hj=>?_⟩
 ·obtain⟨S,Y,q⟩:=A.cov s M
  exact h.out.2 S Y s M q
 ·obtain⟨_,⟨S,Y,b⟩,c⟩:=h.out.1 T O
  by_cases z:j=i
  ·rw[z];exact c s U M J q q'
  ·exact A.eq S Y s U M J (b s M q) (b U J q') j (by omega)
def pkS (m:Nat)(T:Nat->Bool):Nat:=((ae m).find? T).getD 0
theorem Xe {m:Nat}{T:Nat->Bool}(h:∃s,s<m/\T s=true):pkS m T<m/\T (pkS m T)=true:=by
 obtain⟨s,j,q⟩:=h;unfold pkS;cases z:(ae m).find? T with
 |none=>
  have:=iU.mp z s (af.mpr j);exact absurd q this
 |some x=>exact⟨af.mp (gq z),jF z⟩
theorem Zas {m:Nat}:∀{J:List (Nat->Bool)},(∀T∈J,∃s,s<m/\T s=true)->(J.Pairwise λT j=>∀s,s<m->T s=true->j s=true->False)->(J.map (pkS m)).Nodup
 | [],_,_=>fZ
 |T::J,M,hd=>by
  rw[mj] at hd;rw[aB,bW];refine⟨λh=>?_,Zas (λj O=>M j (aE _ O)) hd.2⟩;obtain⟨j,q,z⟩:=az.mp h;have a:=Xe (M T aA);have b:=Xe (M j (aE _ q));rw[z] at b;exact hd.1 j q _ a.1 a.2 b.2
theorem Xc.len {m i:Nat}{w:Nat->Nat->Nat}{j:List (Nat->Bool)}(A:Xc m w i j):j.length<=m:=by
 have:=L2.Z3 (j.map (pkS m)) (ae m) (Zas A.ne A.dj) (λx q=>by
  obtain⟨T,J,rfl⟩:=az.mp q;exact af.mpr (Xe (A.ne T J)).1)
 rwa [Za,Zg] at this
theorem VQ {l:TY}{m:Nat}(nd:l.Nodup)(q:∀x∈l,x<m)(len:l.length=m):l.Perm (ae m):=by
 have J:∀x,x<m->x∈l:=λx M=>by
  refine aj λO=>?_;have:=L2.Z3 (x::l) (ae m) (bW.mpr ⟨O,nd⟩) (λy j=>by
   rcases aD.mp j with rfl|j
   ·exact af.mpr M
   ·exact af.mpr (q y j))
  rw[Zi,Zg] at this;omega
 exact (cG nd cU).mpr λx=>⟨λh=>af.mpr (q x h),λh=>J x (af.mp h)⟩
theorem ZoB {m:Nat}{J:List (Nat->Bool)}(hd:J.Pairwise λT j=>∀s,s<m->T s=true->j s=true->False){T j:Nat->Bool}(h:T∈J)(h':j∈J){s:Nat}(Y:s<m)(q:T s=true)(M:j s=true):T=j:=by
 induction hd with
 |nil=>cases h
 |cons a _ ih=>
  rcases aD.mp h with e1|h1
  ·rcases aD.mp h' with O|U
   ·rw[e1,O]
   ·rw[e1] at q
    exact (a _ U s Y q M).elim
  ·rcases aD.mp h' with O|U
   ·rw[O] at M
    exact (a _ h1 s Y M q).elim
   ·exact ih h1 U
theorem Xc.full {m i:Nat}{w:Nat->Nat->Nat}{J:List (Nat->Bool)}(A:Xc m w i J)(h:m<=J.length):∀T∈J,∀s s',s<m->s'<m->T s=true->T s'=true->s=s':=by
 have Y:(J.map (pkS m)).Perm (ae m):=VQ (Zas A.ne A.dj) (λx hx=>by
  obtain⟨T,j,rfl⟩:=az.mp hx;exact (Xe (A.ne T j)).1) (by rw[Za];have:=A.len;omega)
 have key:∀T∈J,∀s,s<m->T s=true->s=pkS m T:=λT j s O q=>by
  obtain⟨T',M,z⟩:=az.mp (Y.mem_iff.mpr (af.mpr O));have b:=Xe (A.ne T' M);rw[z] at b;rw[ZoB A.dj j M O q b.2,z]
 intro T j s s' O U q q';rw[key T j s O q,key T j s' U q']
theorem Xc.skip {m i:Nat}{w:Nat->Nat->Nat}{J:List (Nat->Bool)}(A:Xc m w i J)(h:m<=J.length):Xc m w (i+1) J:=
 ⟨A.ne,A.cov,A.dj,λT O s U Y M q q' j _=>by rw[A.full h T O s U Y M q q']⟩
theorem Xc.end {m:Nat}{w:Nat->Nat->Nat}{M:List (Nat->Bool)}(A:Xc m w m M)(O:∀s s',s<m->s'<m->(∀j,j<m->w s j=w s' j)->s=s'):(M.map (pkS m)).Perm (ae m)/\∀T∈M,∀s,s<m->T s=decide (s=pkS m T):=by
 have one:∀T∈M,∀s,s<m->T s=decide (s=pkS m T):=λT J s U=>by
  have a:=Xe (A.ne T J);cases q:T s with
  |true=>exact (decide_eq_true (O s _ U a.1 (A.eq T J s _ U a.1 q a.2))).symm
  |false=>
   refine (decide_eq_false λz=>?_).symm;rw[z,a.2] at q;cases q
 refine⟨?_,one⟩;refine (cG (Zas A.ne A.dj) cU).mpr λx=>⟨λh=>?_,λh=>?_⟩
 ·obtain⟨T,J,rfl⟩:=az.mp h
  exact af.mpr (Xe (A.ne T J)).1
 ·have Y:=af.mp h
  obtain⟨T,J,q⟩:=A.cov x Y;rw[one T J x Y] at q;rw[of_decide_eq_true q];exact az.mpr ⟨T,J,rfl⟩
def VH (count p:Nat):Bool:=decide (p*p<=4*count) || (ae (p-2)).any λk=>p % (k+2) == 0
structure Zo5 (n count p:Nat):Prop where
 st:∃J,p=(n+1)+J*n/\∀j,j<J->VH count ((n+1)+j*n)=true
 ok:VH count p=false
 p2:2<=p
 lt:p<=100000
structure ZoX (p z r:Nat):Prop where
 r1:1<=r
 rp:r<=p
 one:z ^ r % p=1
 nz:∀k,1<=k->k<r->z ^ k % p≠1
def RtP (n p j:Nat):Prop:=(j=1/\n=1)\/(2<=j/\j<p/\n≠1/\∃r:Nat->Nat,(∀z,2<=z->z<=j->ZoX p z (r z))/\(∀z,2<=z->z<j->r z≠n)/\r j=n)
structure TD (t:T9)(n p m:Nat)(e ω φ:Nat->Nat->Nat)(z:Nat)(dg:Nat->Nat):Prop where
 cd:CD t p m e ω φ
 n1:1<=n
 n60:n<=60
 all:∀a,a<t.length->it t a n=0
 mn:∀x,(∀a,a<t.length->it t a x=0)->x % n=0
 fit:Zo5 n t.length p
 rt:RtP n p z
 d1:∀s,s<m->1<=dg s
 dp:∀s,s<m->dg s<p
 dl:∀s,s<m->dg s<=1000
 dq:∀s,s<m->((dg s:Int)*(dg s:Int)-(e s 0:Int)*(t.length:Int)) % (p:Int)=0
 dm:∀s d',s<m->1<=d'->d'<dg s->((d':Int)*(d':Int)-(e s 0:Int)*(t.length:Int)) % (p:Int)≠0
structure Dt where
 n:Nat
 p:Nat
 z:Nat
 cl:TY
 rp:TY
 E:T9
 W:T9
 F:T9
 dg:TY
def VC (M:T9)(i j:Nat):Nat:=(M.getD i []).getD j 0
def fA (n:Nat)(f:Nat->Bool):Bool:=(ae n).all f
theorem YN {n:Nat}{f:Nat->Bool}(h:fA n f=true){i:Nat}(j:i<n):f i=true:=aR.mp h i (af.mpr j)
def fE (n:Nat)(f:Nat->Bool):Bool:=(ae n).any f
theorem Zfc {n:Nat}{f:Nat->Bool}(h:fE n f=true):∃i,i<n/\f i=true:=by
 obtain⟨i,hi,q⟩:=aZ.mp h;exact⟨i,af.mp hi,q⟩
def prB (p:Nat):Bool:=decide (2<=p) && (fA (p-1) λa=>fA (p-1) λb=>(a+1)*(b+1) % p != 0) && fA (p-1) λa=>fE (p-1) λb=>(b+1)*(a+1) % p == 1
theorem Zn9 {p:Nat}(h:prB p=true):PrM p:=by
 unfold prB at h;rw[ah,ah,decide_eq_true_eq] at h;obtain⟨⟨j,J⟩,M⟩:=h;refine⟨j,λa b O U Y bp=>?_,λa O U=>?_⟩
 ·have:=YN (YN J (i:=a-1) (by omega)) (i:=b-1) (by omega)
  rw[show a-1+1=a by omega,show b-1+1=b by omega] at this;simpa using this
 ·obtain⟨b,hb,q⟩:=Zfc (YN M (i:=a-1) (by omega))
  rw[show a-1+1=a by omega] at q;exact⟨b+1,by omega,by omega,eq_of_beq q⟩
def ZiB (n count p:Nat):Nat->Nat->Bool
 |0,q=>decide (q=p) && !VH count q
 |f+1,q=>if q=p then !VH count q else VH count q && ZiB n count p f (q+n)
theorem Zfb {n count p:Nat}:∀{f q:Nat},ZiB n count p f q=true->(∃J,p=q+J*n/\∀j,j<J->VH count (q+j*n)=true)/\VH count p=false
 |0,q,h=>by
  rw[ZiB,ah,decide_eq_true_eq] at h;obtain⟨e,h⟩:=h;subst e;exact⟨⟨0,by omega,λj M=>by omega⟩,by simpa using h⟩
 |f+1,q,h=>by
  rw[ZiB] at h;by_cases e:q=p
  ·rw[if_pos e] at h
   subst e;exact⟨⟨0,by omega,λj M=>by omega⟩,by simpa using h⟩
  ·rw[if_neg e,ah] at h
   obtain⟨⟨J,O,U⟩,Y⟩:=Zfb h.2;refine⟨⟨J+1,by rw[O,cg];omega,λj M=>?_⟩,Y⟩;cases j with
   |zero=>rw[fU,io];exact h.1
   |succ j=>
    have:=U j (by omega);rw[cg];rw[show q+(j*n+n)=q+n+j*n by omega];exact this
def Zmj (p z r:Nat):Bool:=decide (1<=r) && decide (r<=p) && (z ^ r % p == 1) && fA r λk=>k == 0 || z ^ k % p != 1
theorem Zj0 {p z r:Nat}(h:Zmj p z r=true):ZoX p z r:=by
 unfold Zmj at h;rw[ah,ah,ah,decide_eq_true_eq,decide_eq_true_eq] at h;obtain⟨⟨⟨j,J⟩,M⟩,O⟩:=h;refine⟨j,J,eq_of_beq M,λk Y U=>?_⟩;have:=YN O U;rw[bi] at this;rcases this with q|q
 ·have:=eq_of_beq q
  omega
 ·simpa using q
def rdZ (p z:Nat):Nat:=(((ae p).find? λr=>z ^ (r+1) % p == 1).getD 0)+1
def rtB (n p j:Nat):Bool:=(j == 1 && n == 1) || (decide (2<=j) && decide (j<p) && n != 1 && (fA (j+1) λz=>decide (z<2) || (Zmj p z (rdZ p z) && (z == j || rdZ p z != n))) && rdZ p j == n)
theorem Zn1 {n p j:Nat}(h:rtB n p j=true):RtP n p j:=by
 unfold rtB at h;rw[bi] at h;rcases h with h|h
 ·rw[ah] at h
  exact .inl ⟨eq_of_beq h.1,eq_of_beq h.2⟩
 ·rw[ah,ah,ah,ah,decide_eq_true_eq,decide_eq_true_eq] at h
  obtain⟨⟨⟨⟨M,O⟩,U⟩,J⟩,Y⟩:=h;refine .inr ⟨M,O,by simpa using U,rdZ p,λz z2 zz=>?_,λz z2 zz=>?_,eq_of_beq Y⟩
  ·have:=YN J (i:=z) (by omega)
   rw[decide_eq_false (by omega),gG,ah] at this;exact Zj0 this.1
  ·have:=YN J (i:=z) (by omega)
   rw[decide_eq_false (by omega),gG,ah,bi] at this;rcases this.2 with q|q
   ·have:=eq_of_beq q
    omega
   ·simpa using q
def itB (t:T9)(n:Nat):Bool:=(fA t.length λa=>it t a n == 0) && fA n λx=>x == 0 || fE t.length λa=>it t a x != 0
def ZkS (t:T9)(bs:TY):Bool:=fA t.length λa=>decide (bs.getD a 0<t.length) && ZP t a (bs.getD a 0) == 0
def tbL (t:T9)(bs:TY)(b x:Nat):Nat:=ZP t (ZP t x b) (bs.getD x 0)
def clB (t:T9)(bs:TY)(D:Dt):Bool:=
 (fA t.length λx=>decide (D.cl.getD x 0<D.rp.length) && ((D.cl.getD x 0 == 0) == (x == 0)) && (fA t.length λs=>D.cl.getD (tbL t bs x s) 0 == D.cl.getD x 0) && fE t.length λs=>tbL t bs (D.rp.getD (D.cl.getD x 0) 0) s == x) &&
 fA D.rp.length λk=>decide (D.rp.getD k 0<t.length) && D.cl.getD (D.rp.getD k 0) 0 == k
def ZpY (t:T9)(bs:TY)(D:Dt):Bool:=fA D.rp.length λs=>fA D.rp.length λi=>fA D.rp.length λc=>
 sm t.length (λx=>JP (decide (D.cl.getD x 0=i))*VC D.E s (D.cl.getD (ZP t (bs.getD x 0) (D.rp.getD c 0)) 0)) % D.p == VC D.W s i*VC D.E s c % D.p
noncomputable def tdB (t:T9)(bs:TY)(D:Dt):Bool:=
 prB D.p && decide (D.p<=1000) && decide (1<=D.rp.length) && decide (1<=D.n) && decide (D.n<=60) && itB t D.n && ZiB D.n t.length D.p 60 (D.n+1) && rtB D.n D.p D.z && ZkS t bs && clB t bs D && ZpY t bs D &&
 (fA D.rp.length λs=>fA D.rp.length λc=>decide (VC D.E s c<D.p) && decide (VC D.W s c<D.p)) &&
 (fA D.rp.length λc=>sm D.rp.length (λs=>VC D.E s c) % D.p == if c=0 then 1 else 0) &&
 (fA D.rp.length λs=>fA D.rp.length λj=>sm t.length (λx=>VC D.F s (D.cl.getD x 0)*VC D.E j (D.cl.getD x 0)) % D.p == if s=j then 1 else 0) &&
 (fA D.rp.length λs=>fA D.rp.length λj=>s == j || fE D.rp.length λi=>VC D.W s i != VC D.W j i) &&
 fA D.rp.length λs=>decide (1<=D.dg.getD s 0) && decide (D.dg.getD s 0<D.p) && (((D.dg.getD s 0:Int)*(D.dg.getD s 0:Int)-(VC D.E s 0:Int)*(t.length:Int)) % (D.p:Int) == 0) && fA (D.dg.getD s 0) λd=>d == 0 || ((d:Int)*(d:Int)-(VC D.E s 0:Int)*(t.length:Int)) % (D.p:Int) != 0
section
variable {t:T9}{bs:TY}{D:Dt}
def eD (D:Dt)(s x:Nat):Nat:=VC D.E s (D.cl.getD x 0)
def wD (D:Dt)(s x:Nat):Nat:=VC D.W s (D.cl.getD x 0)
def fD (D:Dt)(s x:Nat):Nat:=VC D.F s (D.cl.getD x 0)
theorem Zi0 (P:PW t)(h:ZkS t bs=true){a:Nat}(j:a<t.length):bs.getD a 0=YL t a:=by
 have:=YN h j;rw[ah,decide_eq_true_eq] at this;exact Xt P j this.1 (eq_of_beq this.2)
theorem ZgI (P:PW t)(h:ZkS t bs=true){b x:Nat}(j:x<t.length):tbL t bs b x=tb t b x:=by
 unfold tbL tb;rw[Zi0 P h j]
structure ClW (t:T9)(cl rp:Nat->Nat)(m:Nat):Prop where
 lt:∀x,x<t.length->cl x<m
 z:∀x,x<t.length->(cl x=0↔x=0)
 con:∀x s,x<t.length->s<t.length->cl (tb t x s)=cl x
 tr:∀x,x<t.length->∃s,s<t.length/\tb t (rp (cl x)) s=x
 rl:∀k,k<m->rp k<t.length
 rn:∀k,k<m->cl (rp k)=k
theorem Zm7 (P:PW t)(hb:ZkS t bs=true)(h:clB t bs D=true):ClW t (λx=>D.cl.getD x 0) (λk=>D.rp.getD k 0) D.rp.length:=by
 unfold clB at h;rw[ah] at h;have g:∀{x},x<t.length->D.cl.getD x 0<D.rp.length/\((D.cl.getD x 0 == 0) == (x == 0))=true/\(fA t.length λs=>D.cl.getD (tbL t bs x s) 0 == D.cl.getD x 0)=true/\(fE t.length λs=>tbL t bs (D.rp.getD (D.cl.getD x 0) 0) s == x)=true:=λ{x} j=>by
  have:=YN h.1 j;rw[ah,ah,ah,decide_eq_true_eq] at this;exact⟨this.1.1.1,this.1.1.2,this.1.2,this.2⟩
 have g2:∀{k},k<D.rp.length->D.rp.getD k 0<t.length/\D.cl.getD (D.rp.getD k 0) 0=k:=λ{k} J=>by
  have:=YN h.2 J;rw[ah,decide_eq_true_eq] at this;exact⟨this.1,eq_of_beq this.2⟩
 refine⟨λx j=>(g j).1,λx j=>?_,λx s j M=>?_,λx j=>?_,λk J=>(g2 J).1,λk J=>(g2 J).2⟩
 ·have:=eq_of_beq (g j).2.1
  constructor
  ·intro q
   have q:D.cl.getD x 0=0:=q;rw[q] at this;exact eq_of_beq this.symm
  ·intro q
   rw[q] at this ⊢;exact eq_of_beq this
 ·have:=eq_of_beq (YN (g j).2.2.1 M)
  rw[ZgI P hb M] at this;exact this
 ·obtain⟨s,M,q⟩:=Zfc (g j).2.2.2
  have:=eq_of_beq q;rw[ZgI P hb M] at this;exact⟨s,M,this⟩
variable {cl rp:Nat->Nat}{m:Nat}
theorem ClW.cj (P:PW t)(C:ClW t cl rp m){u x:Nat}(j:u<t.length)(J:x<t.length):cjB t u x=decide (cl x=cl u):=by
 by_cases h:cl x=cl u
 ·rw[decide_eq_true h]
  obtain⟨s1,h1,e1⟩:=C.tr u j;obtain⟨O,h2,U⟩:=C.tr x J;rw[h] at U;have M:=C.rl (cl u) (C.lt u j);have n1:=P.n1;have:tb t u 0=tb t (rp (cl u)) s1:=by rw[ZaV P j];exact e1.symm
  obtain⟨z,hz,ez⟩:=ZaW P j M n1 h1 this;have e3:tb t (rp (cl u)) O=tb t x 0:=by rw[ZaV P J];exact U
  have m1:u∈ZU t (rp (cl u)):=(Ya P M).mpr ⟨s1,h1,e1⟩;have m2:x∈ZU t (rp (cl u)):=(Ya P M).mpr ⟨O,h2,U⟩;have m3:rp (cl u)∈ZU t u:=(Ya P j).mpr ⟨z,hz,ez⟩;have m4:x∈ZU t u:=Yg P j J m3 (by
   have:tb t x 0=tb t (rp (cl u)) O:=e3.symm;obtain⟨z2,Y,m5⟩:=ZaW P J M n1 h2 this;exact (Ya P J).mpr ⟨z2,Y,m5⟩)
  exact Xs.mpr ((Ya P j).mp m4)
 ·rw[decide_eq_false h]
  cases q:cjB t u x with
  |false=>rfl
  |true=>
   obtain⟨y,hy,e⟩:=Xs.mp q;have:=C.con u y j hy;rw[e] at this;exact absurd this h
theorem Zbz {n:Nat}{f:Nat->Nat}(h:∀a b,a<n->b<n->f a=f b->a=b):((ae n).map f).Nodup:=by
 rw[jY,eY];exact fI (λ{a b} j hb ne e=>ne (h a b (af.mp j) (af.mp hb) e)) cU
theorem ClW.count (P:PW t)(C:ClW t cl rp m):m=(ZC t t.length).length:=by
 have U:=YU P;have q:∀x y,x<t.length->y<t.length->(cl x=cl y↔YW t x=YW t y):=λx y j O=>by
  have a:=C.cj P O j;rw[ZbZ P O j] at a;exact⟨λh=>by
   rw[decide_eq_true h] at a;exact of_decide_eq_true a,λh=>by
   rw[decide_eq_true h] at a;exact of_decide_eq_true a.symm⟩
 have Y:=L2.Z3 ((ae m).map λk=>YW t (rp k)) (ae (ZC t t.length).length) (by
  refine Zbz λa b J hb e=>?_;have:=(q _ _ (C.rl a J) (C.rl b hb)).mpr e;rw[C.rn a J,C.rn b hb] at this;exact this) (λx j=>by
  obtain⟨k,M,rfl⟩:=az.mp j;exact af.mpr (U.lt _ (C.rl k (af.mp M))))
 have l2:=L2.Z3 ((ae (ZC t t.length).length).map λk=>cl (ZM t k)) (ae m) (by
  refine Zbz λa b J hb e=>?_;have:=(q _ _ (U.rl a J) (U.rl b hb)).mp e;rw[U.rn a J,U.rn b hb] at this;exact this) (λx j=>by
  obtain⟨k,M,rfl⟩:=az.mp j;exact af.mpr (C.lt _ (U.rl k (af.mp M))))
 rw[Za,Zg,Zg] at Y l2;omega
theorem ClW.turn (P:PW t)(C:ClW t cl rp m)(E:Nat->Nat)(i:Nat){z y:Nat}(hz:z<t.length)(j:y<t.length):sm t.length (λx=>JP (decide (cl x=i))*E (cl (ZP t (YL t x) (tb t z y))))=sm t.length (λx=>JP (decide (cl x=i))*E (cl (ZP t (YL t x) z))):=by
 rw[<-Zjn P j (λx=>JP (decide (cl x=i))*E (cl (ZP t (YL t x) (tb t z y))))];refine Yt λx q=>?_;rw[C.con x y q j,ZlT P j q,<-Zdy P j (Yp P q).1 hz,C.con _ y (P.lt _ _ (Yp P q).1 hz) j]
theorem ZnD (P:PW t)(h:tdB t bs D=true):TD t D.n D.p D.rp.length (eD D) (wD D) (fD D) D.z (λs=>D.dg.getD s 0):=by
 unfold tdB at h;simp only[ah] at h;obtain⟨⟨⟨⟨⟨⟨⟨⟨⟨⟨⟨⟨⟨⟨⟨h1,h2⟩,h3⟩,h4⟩,h5⟩,h6⟩,h7⟩,h8⟩,h9⟩,m6⟩,m7⟩,m8⟩,m9⟩,n6⟩,n8⟩,n9⟩:=h;have o0:=of_decide_eq_true h2;have m1:=of_decide_eq_true h3;have n1:=of_decide_eq_true h4;have n60:=of_decide_eq_true h5;have C:=Zm7 P h9 m6;have N1:=P.n1;have pr:=Zn9 h1;have O:∀{s c},s<D.rp.length->c<D.rp.length->VC D.E s c<D.p/\VC D.W s c<D.p:=λ{s c} j hc=>by
  have:=YN (YN m8 j) hc;rw[ah,decide_eq_true_eq,decide_eq_true_eq] at this;exact this
 have o5:D.cl.getD 0 0=0:=(C.z 0 N1).mpr rfl;have M:∀{s},s<D.rp.length->1<=D.dg.getD s 0/\D.dg.getD s 0<D.p/\((D.dg.getD s 0:Int)*(D.dg.getD s 0:Int)-(VC D.E s 0:Int)*(t.length:Int)) % (D.p:Int)=0/\∀d,1<=d->d<D.dg.getD s 0->((d:Int)*(d:Int)-(VC D.E s 0:Int)*(t.length:Int)) % (D.p:Int)≠0:=λ{s} j=>by
  have:=YN n9 j;simp only[ah,decide_eq_true_eq] at this;obtain⟨⟨⟨a,b⟩,c⟩,d⟩:=this;refine⟨a,b,eq_of_beq c,λk k1 kd=>?_⟩;have:=YN d kd;rw[bi] at this;rcases this with q|q
  ·have:=eq_of_beq q
   omega
  ·simpa using q
 have e0:∀s,eD D s 0=VC D.E s 0:=λs=>by unfold eD;rw[o5]
 unfold itB at h6;rw[ah] at h6;have U:∀a,a<t.length->it t a D.n=0:=λa Y=>eq_of_beq (YN h6.1 Y);obtain⟨f1,f2⟩:=Zfb h7;refine⟨?_,n1,n60,U,λx J=>?_,⟨f1,f2,pr.p2,by omega⟩,Zn1 h8,λs j=>(M j).1,λs j=>(M j).2.1,λs j=>by have:=(M j).2.1;omega,λs j=>by rw[e0];exact (M j).2.2.1,λs d' j a b=>by rw[e0];exact (M j).2.2.2 d' a b⟩
 ·refine⟨pr,m1,C.count P,λs x y j J hy=>?_,λs x y j J hy=>?_,λs x j J=>(O j (C.lt x J)).1,λs x j J=>(O j (C.lt x J)).2,λs u z j hu hz=>?_,λx J=>?_,λs s' j m5=>?_,λs s' j m5 h=>?_⟩
  ·unfold eD
   have:=C.con x y J hy;rw[this]
  ·unfold wD
   have:=C.con x y J hy;rw[this]
  ·obtain⟨y,hy,ey⟩:=C.tr z hz
   have o6:=C.rl _ (C.lt z hz);have a1:sm t.length (λx=>JP (cjB t u x)*eD D s (ZP t (YL t x) z))=sm t.length (λx=>JP (decide (D.cl.getD x 0=D.cl.getD u 0))*VC D.E s (D.cl.getD (ZP t (YL t x) z) 0)):=Yt λx J=>by rw[C.cj P hu J];rfl
   have a2:=C.turn P (VC D.E s) (D.cl.getD u 0) o6 hy;rw[ey] at a2;rw[a1,a2];have a3:=eq_of_beq (YN (YN (YN m7 j) (C.lt u hu)) (C.lt z hz));have a4:sm t.length (λx=>JP (decide (D.cl.getD x 0=D.cl.getD u 0))*VC D.E s (D.cl.getD (ZP t (bs.getD x 0) (D.rp.getD (D.cl.getD z 0) 0)) 0))=sm t.length (λx=>JP (decide (D.cl.getD x 0=D.cl.getD u 0))*VC D.E s (D.cl.getD (ZP t (YL t x) (D.rp.getD (D.cl.getD z 0) 0)) 0)):=Yt λx J=>by rw[Zi0 P h9 J]
   rw[a4] at a3;exact a3
  ·have:=eq_of_beq (YN m9 (C.lt x J))
   have e1:sm D.rp.length (λs=>eD D s x)=sm D.rp.length (λs=>VC D.E s (D.cl.getD x 0)):=rfl;rw[e1,this];by_cases q:x=0
   ·rw[if_pos q,if_pos ((C.z x J).mpr q)]
   ·rw[if_neg q,if_neg (λzz=>q ((C.z x J).mp zz))]
  ·exact eq_of_beq (YN (YN n6 j) m5)
  ·have:=YN (YN n8 j) m5
   rw[bi] at this;rcases this with q|q
   ·exact eq_of_beq q
   ·obtain⟨i,hi,q⟩:=Zfc q
    have:=h (D.rp.getD i 0) (C.rl i hi);unfold wD at this;rw[C.rn i hi] at this;rw[this] at q;simp at q
 ·have o7:∀a,a<t.length->it t a (x % D.n)=0:=λa Y=>by
   obtain⟨r,R⟩:=P.rd a Y;have o8:x % r=0:=by
    have:=J a Y;rw[UD R] at this;apply aj;intro zz;exact R.nz _ (by omega) (bO _ R.r1) this
   have o9:D.n % r=0:=by
    have:=U a Y;rw[UD R] at this;apply aj;intro zz;exact R.nz _ (by omega) (bO _ R.r1) this
   rw[UD R,ZbA o8 o9];rfl
  apply aj;intro zz;have p4:=bO x (show 0<D.n by omega);have:=YN h6.2 p4;rw[bi] at this;rcases this with q|q
  ·exact zz (eq_of_beq q)
  ·obtain⟨a,Y,q⟩:=Zfc q
   rw[o7 a Y] at q;simp at q
end
section
variable {t:T9}{o:TY}
theorem Ug (P:PW t)(O:Ord t.length o){i j:Nat}(q:i<t.length)(J:j<t.length):o.getD (ZP (ren t o) i j) 0=ZP t (o.getD i 0) (o.getD j 0):=by
 rw[VR O q J];exact (Yb O (P.lt _ _ (Ym O q) (Ym O J))).2
theorem YF (O:Ord t.length o):(ren t o).length=t.length:=by rw[Zbp,O.len]
theorem Zcu (P:PW t)(O:Ord t.length o){a:Nat}(j:a<t.length):∀k,o.getD (it (ren t o) a k) 0=it t (o.getD a 0) k
 |0=>O.z
 |k+1=>by
  have q:=Wc P O;have:=WX q (a:=a) (by rw[YF O];exact j) k;rw[YF O] at this;rw[it,Ug P O this j,Zcu P O j k];rfl
theorem Zhs (P:PW t)(O:Ord t.length o){a:Nat}(j:a<t.length):o.getD (YL (ren t o) a) 0=YL t (o.getD a 0):=by
 have M:=Wc P O;have J:=YF O;obtain⟨q,U⟩:=Yp M (a:=a) (by rw[J];exact j);rw[J] at q;refine Xt P (Ym O j) (Ym O q) ?_;rw[<-Ug P O j q,U];exact O.z
theorem Zar (P:PW t)(O:Ord t.length o){b x:Nat}(hb:b<t.length)(j:x<t.length):o.getD (tb (ren t o) b x) 0=tb t (o.getD b 0) (o.getD x 0):=by
 have J:=Wc P O;have q:=YF O;have M:=(Yp J (a:=x) (by rw[q];exact j)).1;have U:=J.lt x b (by rw[q];exact j) (by rw[q];exact hb);rw[q] at M U;unfold tb;rw[Ug P O U M,Ug P O j hb,Zhs P O j]
theorem Zl6 (O:Ord t.length o){x:Nat}(j:x<t.length):pos o (o.getD x 0)=x:=by
 have h:=Yb O (Ym O j);exact inj O h.1 j h.2
theorem Zhq (O:Ord t.length o)(F:Nat->Nat):sm t.length (λx=>F (o.getD x 0))=sm t.length F:=
 Zbf (c:=λx=>o.getD x 0) (d:=λx=>pos o x) (λx j=>Ym O j) (λx j=>(Yb O j).1) (λx j=>Zl6 O j) (λx j=>(Yb O j).2) F
theorem Zhr (P:PW t)(O:Ord t.length o){u x:Nat}(M:u<t.length)(Y:x<t.length):cjB (ren t o) u x=cjB t (o.getD u 0) (o.getD x 0):=by
 have P':=Wc P O;have j:=YF O;rw[dF,Xs,Xs,j];constructor
 ·rintro⟨y,q,e⟩
  exact⟨o.getD y 0,Ym O q,by rw[<-Zar P O M q,e]⟩
 ·rintro⟨y,q,e⟩
  have J:=Yb O q;refine⟨pos o y,J.1,?_⟩;have U:=Vu P' (b:=u) (x:=pos o y) (by rw[j];exact M) (by rw[j];exact J.1);rw[j] at U;refine inj O U Y ?_;rw[Zar P O M J.1,J.2,e]
variable {n p m:Nat}{e ω φ:Nat->Nat->Nat}{z:Nat}{dg:Nat->Nat}
theorem Zl7 (P:PW t)(O:Ord t.length o):ClW (ren t o) (λx=>YW t (o.getD x 0)) (λk=>pos o (ZM t k)) (ZC t t.length).length:=by
 have P':=Wc P O;have q:=YF O;have U:=YU P;refine⟨λx j=>?_,λx j=>?_,λx s j M=>?_,λx j=>?_,λk Y=>?_,λk Y=>?_⟩
 ·rw[q] at j;exact U.lt _ (Ym O j)
 ·rw[q] at j
  rw[U.z _ (Ym O j)];constructor
  ·intro h
   exact inj O j P.n1 (h.trans O.z.symm)
  ·intro h
   rw[h];exact O.z
 ·rw[q] at j M
  show YW t (o.getD (tb (ren t o) x s) 0)=_;rw[Zar P O j M];exact U.con _ _ (Ym O j) (Ym O M)
 ·rw[q] at j ⊢
  have hc:=U.lt _ (Ym O j);have hr:=U.rl _ hc;obtain⟨s,M,es⟩:=U.tr (ZM t (YW t (o.getD x 0))) (o.getD x 0) hr (Ym O j) (U.rn _ hc);have hp:=Yb O M;have J:=Yb O hr;refine⟨pos o s,hp.1,?_⟩;have h1:=Vu P' (b:=pos o (ZM t (YW t (o.getD x 0)))) (x:=pos o s) (by rw[q];exact J.1) (by rw[q];exact hp.1);rw[q] at h1;refine inj O h1 j ?_;rw[Zar P O J.1 hp.1,hp.2,J.2,es]
 ·rw[q];exact (Yb O (U.rl k Y)).1
 ·show YW t (o.getD (pos o (ZM t k)) 0)=k
  rw[(Yb O (U.rl k Y)).2];exact U.rn k Y
theorem TD.ren (P:PW t)(O:Ord t.length o)(D:TD t n p m e ω φ z dg):TD (ren t o) n p m (λs x=>e s (o.getD x 0)) (λs x=>ω s (o.getD x 0)) (λs x=>φ s (o.getD x 0)) z dg:=by
 have P':=Wc P O;have M:=YF O;have C:=D.cd;have lt:∀{x},x<(Tb.ren t o).length->x<t.length:=λ{x} h=>by rw[M] at h;exact h
 have e0:∀s,e s (o.getD 0 0)=e s 0:=λs=>by rw[O.z]
 refine⟨⟨C.pr,C.m1,C.mc.trans ((Zl7 P O).count P'),λs x y J j hy=>?_,λs x y J j hy=>?_,λs x J j=>C.elt s _ J (Ym O (lt j)),λs x J j=>C.wlt s _ J (Ym O (lt j)),λs u z J hu hz=>?_,λx j=>?_,λs s' J U=>?_,λs s' J U h=>?_⟩,D.n1,D.n60,λa ha=>?_,λx j=>?_,by rw[M];exact D.fit,D.rt,D.d1,D.dp,D.dl,λs J=>by rw[M];show ((dg s:Int)*(dg s:Int)-(e s (o.getD 0 0):Int)*(t.length:Int)) % (p:Int)=0;rw[e0];exact D.dq s J,λs d' J a b=>by rw[M];show ((d':Int)*(d':Int)-(e s (o.getD 0 0):Int)*(t.length:Int)) % (p:Int)≠0;rw[e0];exact D.dm s d' J a b⟩
 ·show e s (o.getD (tb (Tb.ren t o) x y) 0)=_
  rw[Zar P O (lt j) (lt hy)];exact C.ec s _ _ J (Ym O (lt j)) (Ym O (lt hy))
 ·show ω s (o.getD (tb (Tb.ren t o) x y) 0)=_
  rw[Zar P O (lt j) (lt hy)];exact C.wc s _ _ J (Ym O (lt j)) (Ym O (lt hy))
 ·rw[M]
  have h1:sm t.length (λx=>JP (cjB (Tb.ren t o) u x)*e s (o.getD (ZP (Tb.ren t o) (YL (Tb.ren t o) x) z) 0))=sm t.length (λx=>(λy=>JP (cjB t (o.getD u 0) y)*e s (ZP t (YL t y) (o.getD z 0))) (o.getD x 0)):=Yt λx j=>by
   have hb:=(Yp P' (a:=x) (by rw[M];exact j)).1;rw[M] at hb;show _=JP (cjB t (o.getD u 0) (o.getD x 0))*e s (ZP t (YL t (o.getD x 0)) (o.getD z 0));rw[Zhr P O (lt hu) j,Ug P O hb (lt hz),Zhs P O j]
  rw[h1,Zhq O (λy=>JP (cjB t (o.getD u 0) y)*e s (ZP t (YL t y) (o.getD z 0)))];exact C.eig s _ _ J (Ym O (lt hu)) (Ym O (lt hz))
 ·have:=C.one _ (Ym O (lt j))
  rw[this];by_cases h:x=0
  ·rw[if_pos h,h,O.z,if_pos rfl]
  ·rw[if_neg h,if_neg]
   intro q;exact h (inj O (lt j) P.n1 (q.trans O.z.symm))
 ·rw[M,Zhq O (λy=>φ s y*e s' y)]
  exact C.du s s' J U
 ·refine C.sep s s' J U λu hu=>?_
  have Y:=Yb O hu;have:=h (pos o u) (by rw[M];exact Y.1);rw[Y.2] at this;exact this
 ·have hi:=WX P' ha n
  rw[M] at hi;refine inj O hi P.n1 ?_;rw[Zcu P O (lt ha),O.z];exact D.all _ (Ym O (lt ha))
 ·refine D.mn x λa ha=>?_
  have Y:=Yb O ha;have:=j (pos o a) (by rw[M];exact Y.1);have h2:=Zcu P O Y.1 x;rw[this,Y.2,O.z] at h2;exact h2.symm
end
end Tb
namespace L2
open PySem PySem.Spec PyProof.Rows
def ZD (K:aa)(x:Str)(st:Stmt):Prop:=
 ∃(f:Addr) (M:Value) (O U:Option Addr) (q:Array (Option Value)) (kV J Y j ct:Value),bd K mainGlobals x=some (some (.ref f))/\
  K.lookup f=some ⟨M,O,.func (cp x x (Ww st) (Wm st) (Z5 st) .none kV J Y U j ct),q⟩/\eP K j x=true/\dN K (.ref f)=true
theorem ZD.mk {K:aa}{x:Str}{st:Stmt}{f:Addr}{J:Value}{M an:Option Addr}{q:Array (Option Value)}{kV doc pm j ct:Value}(a:bd K mainGlobals x=some (some (.ref f)))
  (l:K.lookup f=some ⟨J,M,.func (cp x x (Ww st) (Wm st) (Z5 st) .none kV doc pm an j ct),q⟩) (c:eP K j x=true) (k:dN K (.ref f)=true):ZD K x st:=
 ⟨f,J,M,an,q,kV,doc,pm,j,ct,a,l,c,k⟩
theorem ZD.fn {P:Program}{w:World}{K:aa}{mg:TR}{base h:Heap}{CX:CXT}{k:Nat}{x:Str}{q:List Str}{sp:Sp}{st:Stmt}(D:ZD K x st)(X:K.In h)(G:h.Ns mainGlobals mg)
  (M:∀f J,Wu K x x st f J->Z2 P w K mg base CX k f J q sp)
  (hb:∀(kV doc pm:Value) (an:Option Addr) (j ct:Value) (us:List Value),us.length=q.length->bindArgs (cp x x (Ww st) (Wm st) (Z5 st) .none kV doc pm an j ct) ⟨us,[]⟩=pure (q.zip us)) :
  Fn P w K mg base CX k x q sp:=by
 obtain⟨f,U,Y,an,O,kV,doc,pm,j,ct,a,l,c,kp⟩:=D;exact Fn.mk X G a l c kp (λJ F=>M f J F) hb
theorem ZD.law {P:Program}{w:World}{K:aa}{mg:TR}{h:Heap}{CX:CXT}{k:Nat}{x:Str}{p:Str}{sp:Sp}{st:Stmt}{O:Addr}(D:ZD K x st)(X:K.In h)(G:h.Ns mainGlobals mg)(J:mg x=some (.ref O))
  (M:∀(base:Heap) f q,base.Ns mainGlobals mg->K.In base->Wu K x x st f q->Z2 P w K mg base CX k f q [p] sp)
  (hb:∀(kV doc pm:Value) (an:Option Addr) (j ct:Value) (s:Shared) (u:Value),ja s (cp x x (Ww st) (Wm st) (Z5 st) .none kV doc pm an j ct) ⟨[u],[]⟩ [(p,u)]) :
  ∃q:FuncData,(∀(s:Shared) (u:Value),ja s q ⟨[u],[]⟩ [(p,u)])/\∀base:Heap,K.In base->base.Ns mainGlobals mg->Z2 P w K mg base CX k O q [p] sp:=by
 obtain⟨f,oc,od,an,U,kV,doc,pm,j,ct,a,l,c,kp⟩:=D;have e:=J.symm.trans (mP X G a);cases e;exact⟨_,λs u=>hb kV doc pm an j ct s u,λbase Y nb=>M base _ _ nb Y (Zed l c kp)⟩
section
variable {X:Cx}
end
theorem gT {q:TE}{N:St->Hp->Prop}{J:St->V->Hp->Prop}{x:V}{O:TK}{cs:St}{H:Hp}(h:q (some x::cs) H (J (some x::cs))):Yc 0 x (O::cs) H λj U=>WF j U λb M=>if b=true then q j M (J j) else N j M:=by
 show if true=true then q (some x::cs) H (J (some x::cs)) else N (some x::cs) H
 rw[if_pos rfl];exact h
theorem UK {J:It}{own:List Str}{q:TY}{te:TE}{σ:St}{H:Hp}{Q:VK}{xs:TL}(G:Addr->Nat->TL->Hp->Prop)(cs:St)(m5:JG own q σ=none::cs)(hz:xs.length<=1000000)
  (S:∀D i ys j,H D=none->j D=some (.lst ys)->G D i ys j->(i<xs.length->J.go i j/\∀x O,J.yld i j x O->O=j/\xs[i]?=some x)/\(i=xs.length->J.stop i j))
  (h0:∀D,H D=none->G D 0 [] (upd H D (.lst [])))
  (hs:∀D (i:Nat) x ys j,H D=none->j D=some (.lst ys)->xs[i]?=some x->G D i ys j->∀R:VK,(∀v Y,Y D=some (.lst ys)->G D (i+1) (ys++[v]) (upd Y D (.lst (ys++[v])))->R v Y)->te (some x::cs) j R)
  (hd:∀D ys j,H D=none->j D=some (.lst ys)->ys.length=xs.length->G D xs.length ys j->Q (.ref D) j):W0 own q (Yc 0) WF te σ Q J H:=by
 intro D hD;refine⟨λi m U j=>m=xs.length-i/\i<=xs.length/\(∃v0,U=v0::cs)/\∃ys,j D=some (.lst ys)/\ys.length=i/\G D i ys j,⟨_,rfl,aU _,⟨none,m5⟩,[],Zu,rfl,h0 D hD⟩,?_⟩;rintro i m U j ⟨rfl,hi,⟨v0,rfl⟩,ys,hl,hy,g⟩;obtain⟨S1,S2⟩:=S D i ys j hD hl g;by_cases M:i<xs.length
 ·refine .inr ⟨(S1 M).1,_,λm6 O z=>z,λx O y=>?_⟩
  obtain⟨rfl,hx⟩:=(S1 M).2 x O y;refine gT ?_;refine hs D i x ys O hD hl hx g _ λv Y h5 g5=>⟨ys,h5,?_,xs.length-(i+1),by omega,rfl,M,⟨_,rfl⟩,ys++[v],Zu,by rw[Zd];simp[hy],g5⟩;have:(16777216:Nat)=sizeLine:=by decide
  omega
 ·have e:i=xs.length:=by omega
  exact .inl ⟨S2 e,hd D ys j hD hl (by omega) (e▸g)⟩
theorem Zg3 {X:Cx}(i:Nat)(J:List Str)(j:TY)(O:List Str){scope:cL}{elt iter U:Expr}{ifs:List Expr}{pos q py:Pos}{y:Str}{wi:TI}{g:TG}{tc:TT}{te:TE}(hc:X.calm=true)(hf:X.fn y=true)(hi:PI X U iter wi)
  (hg:∀M C s H ex,PG (Y5 X scope M O C s H ex) U g) (ht:∀M C s H ex,PIf (Y5 X scope M O C s H ex) ifs tc) (he:∀M C s H ex,PE (Y5 X scope M O C s H ex) elt te)
  (hS:ZbT X.N X.env.scope J j O scope=true:=by kernel_rfl) (hy:X.N[i]?=some y:=by rfl) (hN:WU X.N=true:=by kernel_rfl) (hx:ZaF X.env.scope y=true:=by kernel_rfl)
  (Y:swapsWith (.ListComp elt [⟨U,iter,ifs,0⟩] scope pos) (some (.Name y py)) q.line X.env=pure true:=by rfl) (hs:∀x,foldedSetIterable iter X.env x=pure x:=by intro _;rfl) :
  PS X (.Assign [.Name y py] (.ListComp elt [⟨U,iter,ifs,0⟩] scope pos) q) (ZdA (Zeq J j wi g tc te) (Yc i)):=ZdV rfl (.of hS) hc hi hg ht he (Z7 hN) hy (YV hx) (.inl hf) Y hs
end L2
namespace HT
open PySem PyProof.Rows
section
variable {prog:Program}{w:World}{A:Around}{E:TU}{s:Shared}
end
end HT
namespace L2
open PySem PySem.Spec PyProof.Rows
section
variable {X:Cx}{e:Expr}{te ts:TE}{st:Expr}{pos p2:Pos}
end
end L2
namespace HT
open PySem PyProof.Rows
section
variable {prog:Program}{w:World}{A:Around}{E:TU}{s:Shared}
end
end HT
namespace L2
open PySem PySem.Spec PyProof.Rows
section
variable {X:Cx}
end
end L2
namespace PyS
open PySem PySem.SetTable
def Vr (p:Array Nat):Prop:=p.toList.Pairwise (· < ·)
theorem Vr.lt {p:Array Nat}(h:Vr p){i j:Nat}{x y:Nat}(q:i<j)(J:p[i]?=some x)(M:p[j]?=some y):x<y:=by
 rw[<-cn] at J M;obtain⟨O,rfl⟩:=ac.mp J;obtain⟨U,rfl⟩:=ac.mp M;exact gh.mp h i j O U q
structure Zen (p:Array Nat)(j k:Nat):Prop where
 le:k<=p.size
 lo:∀i x,i<k->p[i]?=some x->x<j
 hi:∀i x,k<=i->p[i]?=some x->j<=x
theorem Zea {p:Array Nat}(h:Vr p)(j:Nat):∀(q lo hi:Nat),lo<=hi->hi<=p.size->hi-lo<=q->(∀i x,i<lo->p[i]?=some x->x<j)->(∀i x,hi<=i->p[i]?=some x->j<=x)->Zen p j (below.go p j q lo hi)
 |0,lo,hi,h1,O,h3,U,Y=>by
  have:lo=hi:=by omega
  subst this;exact⟨O,U,Y⟩
 |q+1,lo,hi,h1,O,h3,U,Y=>by
  unfold below.go;by_cases J:lo<hi
  ·rw[if_pos J]
   try dsimp only
   have hm:(lo+hi) / 2<p.size:=by omega
   have M:p[(lo+hi) / 2]?=some p[(lo+hi) / 2]:=aP hm;have eg:p.getD ((lo+hi) / 2) j=p[(lo+hi) / 2]:=by rw[cz,M];rfl
   rw[eg];by_cases hc:p[(lo+hi) / 2]<j
   ·rw[if_pos hc]
    refine Zea h j q _ _ (by omega) O (by omega) (λi x m5 e=>?_) Y;by_cases e1:i=(lo+hi) / 2
    ·subst e1
     rw[M] at e;cases e;exact hc
    ·exact jh (h.lt (by omega) e M) hc
   ·rw[if_neg hc]
    refine Zea h j q _ _ (by omega) (by omega) (by omega) U λi x m5 e=>?_;by_cases e1:i=(lo+hi) / 2
    ·subst e1
     rw[M] at e;cases e;omega
    ·have:=h.lt (by omega) M e
     omega
  ·rw[if_neg J]
   have:lo=hi:=by omega
   subst this;exact⟨O,U,Y⟩
theorem ZaQ {p:Array Nat}(h:Vr p)(j:Nat):Zen p j (below p j):=Zea h j _ _ _ (aU _) (Zq _) (by omega) (λi x q=>absurd q (eO _)) (λi x q e=>by
 rw[cy q] at e;cases e)
theorem Zen.uniq {p:Array Nat}{j k q:Nat}(a:Zen p j k)(b:Zen p j q):k=q:=by
 have J:∀{k q:Nat},Zen p j k->Zen p j q->¬k<q:=λ{k q} a b M=>by
  have O:k<p.size:=aF M b.le;have e:p[k]?=some p[k]:=aP O;have U:=b.lo k _ M e;have Y:=a.hi k _ (Zq _) e;omega
 have:=J a b;have:=J b a;omega
theorem Vr.insert {p:Array Nat}(h:Vr p){j:Nat}(M:p[below p j]?≠some j):Vr (insertAt p (below p j) j):=by
 have c:=ZaQ h j;generalize below p j=k at c M;unfold Vr;rw[toList_insertAt];have O:∀y∈p.toList.take k,y<j:=λy q=>by
  obtain⟨i,hi,rfl⟩:=List.mem_take_iff_getElem.mp q;have:i<p.size:=by rw[<-Zr];omega
  exact c.lo i _ (by omega) (by rw[aP this];simp)
 have U:∀y∈p.toList.drop k,j<y:=λy q=>by
  obtain⟨i,hi,rfl⟩:=List.mem_drop_iff_getElem.mp q;have J:k+i<p.size:=by rw[Zr] at hi;omega
  have h1:=c.hi (k+i) p[k+i] (by omega) (by rw[aP J]);have h2:p[k+i]≠j:=λz=>by
   by_cases e:i=0
   ·subst e
    exact M (by rw[<-z];exact aP (by simpa using J))
   ·have Y:k<p.size:=by omega
    have h3:=h.lt (i:=k) (j:=k+i) (by omega) (aP Y) (aP J);have h4:=c.hi k _ (Zq _) (aP Y);omega
  show j<p.toList[k+i];rw[Array.getElem_toList];omega
 rw[ix];refine⟨cR (jb k _) h,?_,λa ha b hb=>?_⟩
 ·rw[mj]
  exact⟨U,cR (List.drop_sublist k _) h⟩
 ·rcases aD.mp hb with hb|hb
  ·rw[hb];exact O a ha
  ·exact jh (O a ha) (U b hb)
theorem Vv {t:SetTable}(U:t.dummies=#[]){hashAt:Nat->Int}{h:Int}:∀(q:Nat) (p:Probe),p.dummy=none->∀{j:Nat}{d:Option Nat},probe.go t hashAt h q p=some (.empty j d)->t.slot j=.empty/\d=none
 |0,p,_,j,d,e=>by
  unfold probe.go at e;cases e
 |q+1,p,M,j,d,e=>by
  unfold probe.go at e;cases J:t.slot p.j with
  |empty=>
   rw[J] at e;dsimp only at e;have e:=ax e;injection e with Y e2;subst Y;exact⟨J,by rw[<-e2];exact M⟩
  |dummy=>
   exfalso;unfold mz at J;dsimp only at J;split at J
   ·cases J
   ·split at J
    ·rename_i O
     unfold has at O;rw[U] at O;simp at O
    ·cases J
  |live i=>
   rw[J] at e;dsimp only at e;split at e
   ·cases e
   ·refine Vv U q _ ?_ e
    unfold advance;split
    ·exact M
    ·exact M
theorem Zf4 {t:SetTable}(O:t.dummies=#[]){h:Int}{j:Nat}{b:Bool}(e:t.freeSlot h=some (j,b)):t.place[below t.place j]?≠some j:=by
 unfold SetTable.freeSlot at e;split at e
 ·rename_i U d' Y
  have e:=ax e;injection e with J e2;obtain⟨q,h2⟩:=Vv O _ _ rfl Y;subst h2;have J:U=j:=J;subst J;unfold mz at q;dsimp only at q;split at q
  ·cases q
  ·rename_i M
   intro z;exact M (by rw[z];simp)
 ·cases e
structure Wk (t:SetTable)(led:Bool):Prop where
 rise:Vr t.place
 dum:t.dummies=#[]
 led:t.led=led
theorem ZdS (n:Nat):Vr (Array.range n):=by
 unfold Vr;rw[Array.toList_range];exact eZ
theorem Wk.standIn {t:SetTable}{led:Bool}(h:t.led=led)(n:Nat):Wk (t.standIn n) led:=⟨ZdS n,rfl,h⟩
theorem Wk.lay {t:SetTable}{led:Bool}(W:Wk t led)(J:Array (Int×Value))(h:Int)(x:Value):Wk (layNew t J h x).2.1 led:=by
 unfold layNew;split
 ·rename_i slot M e
  try dsimp only
  have j:=Zf4 W.dum e;have q:Wk (t.put slot).1 led:=by
   unfold put
   try dsimp only
   refine⟨W.rise.insert j,?_,W.led⟩
   try dsimp only
   rw[W.dum];unfold has;simp
  unfold SetTable.orStandIn;split
  ·exact q
  ·exact .standIn q.led _
 ·exact .standIn W.led _
theorem ZjX {n:Nat}(g:Nat->Option Nat):(((ae n).filterMap λj=>(g j).map (j,·)).map (·.1)).Pairwise (· < ·):=by
 have e:∀l:TY,(l.filterMap λj=>(g j).map (j,·)).map (·.1)=l.filter λj=>(g j).isSome:=λl=>by
  induction l with
  |nil=>rfl
  |cons a l q=>
   rw[bS,mV];cases h:g a with
   |none=>rw[Option.map_none];dsimp only;rw[q];rfl
   |some b=>rw[de];dsimp only;rw[aB,q];rfl
 rw[e];exact cR l8 eZ
theorem Wk.relay {t:SetTable}{led:Bool}(W:Wk t led)(M:Array (Int×Value))(j:Nat):Wk (relayAll t M j).2.1 led:=by
 unfold relayAll;split
 ·rename_i Y q e
  try dsimp only
  split
  ·dsimp only
   unfold relaid laid at e;cases O:layClean (sizeAbove j-1) (M.map (·.1)) with
   |none=>rw[O] at e;cases e
   |some J=>
    rw[O] at e;have e:=ax e;injection e with U e2;subst U;refine⟨?_,rfl,W.led⟩;unfold Vr;exact ZjX _
  ·exact .standIn W.led _
 ·exact .standIn W.led _
theorem Wk.plain {t:SetTable}{led:Bool}(W:Wk t led)(b:Bool):Wk {t with plain:=b} led:=⟨W.rise,W.dum,W.led⟩
theorem Wk.fresh (led:Bool):Wk (SetTable.fresh 0 0 led) led:=⟨fF,rfl,rfl⟩
theorem ZeS {p:Array Nat}(h:Vr p){i:Nat}{slot:Nat}(M:i<=p.size)(J:(i=0/\slot=0)\/(∃j x,i=j+1/\p[j]?=some x/\slot=x+1)):below p slot=i:=by
 refine (ZaQ h slot).uniq ⟨M,λk x O e=>?_,λk x O e=>?_⟩
 ·rcases J with ⟨rfl,_⟩|⟨j,y,rfl,q,rfl⟩
  ·omega
  ·by_cases U:k=j
   ·subst U
    rw[q] at e;cases e;omega
   ·have:=h.lt (by omega) e q
    omega
 ·rcases J with ⟨_,rfl⟩|⟨j,y,rfl,q,rfl⟩
  ·omega
  ·have:=h.lt (by omega) q e
   omega
theorem JA {α:Type}:∀{l:List α}{i:Nat}{x:α},l[i]?=some x->bJ (x::l.eraseIdx i) l
 | [],i,x,e=>by cases e
 |a::l,0,x,e=>by cases e;exact cO _
 |a::l,i+1,x,e=>by
  rw[List.getElem?_cons_succ] at e;rw[List.eraseIdx_cons_succ];exact (List.Perm.swap a x _).trans ((JA e).cons a)
theorem Zat {α:Type}(next:Nat->Nat):∀(j k:Nat) (left:List α) (out:Array α),left.length<=j->bJ (jK next j k left out).toList (out.toList++left)
 |0,k,left,out,h=>by
  have:left=[]:=gX.mp (by omega);subst this;unfold jK;rw[ip]
 |j+1,k,left,out,h=>by
  unfold jK;split
  ·rename_i x e
   have q:=(ac.mp e).1;refine (Zat next j (k+1) _ _ (by rw[fz];split <;> omega)).trans ?_
   rw[mq,gx];refine List.Perm.append_left _ ?_;exact JA e
  ·rename_i e
   have:left=[]:=by
    rcases left with _|⟨a,l⟩
    ·rfl
    ·exfalso
     rw[cK] at e;have:=bO (next k) (show 0<(a::l).length by rw[Zi];omega);omega
   subst this;rw[ip]
theorem WT {α:Type}(next:Nat->Nat)(xs:Array α):bJ (pickOrder next xs).toList xs.toList:=by
 unfold pickOrder;have:=Zat next xs.size 0 xs.toList #[] (by rw[Zr];exact Zq _);simpa using this
end PyS
namespace PyS
open PySem
theorem Z4:Slot "set_iterator" "__next__" "set_iterator.__next__":=
 .of (owner:="set_iterator") (n:="__next__") (by rw[typeLookup_type,mO];kernel_rfl) (by decide +kernel) (by decide +kernel) (by decide +kernel)
  (by first|exact .inl (by decide +kernel)|exact .inr (by decide +kernel)) (by rw[gK];kernel_rfl)
theorem Wv:entryFor table "set_iterator.__next__"=some cB.«set_iterator.__next__»:=entryFor_of_tree (by kernel_rfl)
theorem ZcI:Manifest.owners.lookup (String.ofList ['r','o','t','a','r','e','t','i','_','t','e','s'].reverse)=some Manifest.sig_set_iterator:=by kernel_rfl
theorem WN (a:Value):argsOk "set_iterator.__next__" ⟨[a],[]⟩:=by
 unfold argsOk;rw[signature?_of (id:="set_iterator.__next__") (n:=['_','_','t','x','e','n','_','_']) (o:=['r','o','t','a','r','e','t','i','_','t','e','s']) (by kernel_rfl) ZcI];kernel_rfl
theorem XH:Slot "set_iterator" "__iter__" "set_iterator.__iter__":=
 .of (owner:="set_iterator") (n:="__iter__") (by rw[typeLookup_type,mO];kernel_rfl) (by decide +kernel) (by decide +kernel) (by decide +kernel)
  (by first|exact .inl (by decide +kernel)|exact .inr (by decide +kernel)) (by rw[gK];kernel_rfl)
theorem Zaa:entryFor table "set_iterator.__iter__"=some cB.«dict_keyiterator.__iter__»:=entryFor_alias (id':="dict_keyiterator.__iter__") (by kernel_rfl) rfl (by decide +kernel) (by kernel_rfl)
theorem Zb3 (a:Value):argsOk "set_iterator.__iter__" ⟨[a],[]⟩:=by
 unfold argsOk;rw[signature?_of (id:="set_iterator.__iter__") (n:=['_','_','r','e','t','i','_','_']) (o:=['r','o','t','a','r','e','t','i','_','t','e','s']) (by kernel_rfl) ZcI];kernel_rfl
theorem UG:entryFor table "set.__iter__"=some cB.«frozenset.__iter__»:=entryFor_alias (id':="frozenset.__iter__") (by kernel_rfl) rfl (by decide +kernel) (by kernel_rfl)
def JE (h:Heap)(a:Addr)(j:Array (Int×Value))(ep:Nat)(t:SetTable):Prop:=∃o,h.get? a=some o/\o.ExactSet/\o.data=.set j ep t/\t.fits j.size=true
def Y9 (h:Heap)(I:Addr)(first:Value)(i:Nat)(a:Addr)(n ep:Nat):Prop:=∃o,h.get? I=some o/\o.cls=.type "set_iterator"/\o.data=.fields #[first,.int i 0,.ref a,.int n 0,.int ep 0]
theorem JE.keep {h h':Heap}{a:Addr}{j:Array (Int×Value)}{ep:Nat}{t:SetTable}(S:JE h a j ep t)(k:∀o,h.get? a=some o->h'.get? a=some o):JE h' a j ep t:=let ⟨o,e,r⟩:=S;⟨o,k o e,r⟩
theorem Y9.keep {h h':Heap}{I:Addr}{first:Value}{i:Nat}{a:Addr}{n ep:Nat}(S:Y9 h I first i a n ep)(k:∀o,h.get? I=some o->h'.get? I=some o):Y9 h' I first i a n ep:=let ⟨o,e,r⟩:=S;⟨o,k o e,r⟩
section
variable {prog:Program}{w:World}{A:Around}{E:TU}{s:Shared}{I a:Addr}{es:Array (Int×Value)}{ep:Nat}{t:SetTable}{first:Value}{i n:Nat}
theorem Y9.typeIs (h:Y9 s.heap I first i a n ep):s.TypeIs (.ref I) "set_iterator":=let ⟨o,e,c,_⟩:=h;⟨o,e,c⟩
theorem JE.typeIs (h:JE s.heap a es ep t):s.TypeIs (.ref a) "set":=let ⟨o,e,c,_⟩:=h;⟨o,e,c.1⟩
theorem JE.state (h:JE s.heap a es ep t){Q:(Array (Int×Value)×Nat×SetTable)->Shared->Prop}(q:Q (es,ep,t) s):wpAny (model prog w) A (setState a) Q E s:=let ⟨_,e,_,d,f⟩:=h;wpAny_setState_of e d f q
theorem JE.entries (h:JE s.heap a es ep t){Q:Array (Int×Value)->Shared->Prop}(q:Q es s):wpAny (model prog w) A (setEntries a) Q E s:=by
 unfold setEntries;exact Zl (h.state (Zm q))
theorem JE.epoch (h:JE s.heap a es ep t){Q:Nat->Shared->Prop}(q:Q ep s):wpAny (model prog w) A (setEpoch a) Q E s:=by
 unfold setEpoch;exact Zl (h.state (Zm q))
theorem Zb2 {Q:Bool->Shared->Prop}(q:Q (w.params.followText "set-order") s):wpAny (model prog w) A setsByText Q E s:=by
 unfold setsByText;exact Zl (j4 (Zm q))
theorem Y9.turn {h:Heap}{o:Obj}(e:h.get? I=some o)(c:o.cls=.type "set_iterator")(d:o.data=.fields #[first,.int i 0,.ref a,.int n 0,.int ep 0])(next:Value) :
  Y9 ((h.update I (gO (·.setIfInBounds 0 next))).update I (gO (·.setIfInBounds 1 (rawInt ((i:Int)+1))))) I next (i+1) a n ep:=by
 have q:=br (gO (·.setIfInBounds 0 next)) e (cI (bn d _));have j:=bn d (·.setIfInBounds 0 next);refine⟨_,br _ q (cI (bn j _)),?_,?_⟩
 ·rw[gC,gC,c]
 ·rw[bn j]
  simp[rawInt]
theorem ZcQ {slot:Nat}{Q:Option Value->Shared->Prop}(j:Y9 s.heap I (.int slot 0) i a n ep)(M:JE s.heap a es ep t)(O:es.size=n){x:Value}{nx:Nat}
  (U:∀{R:Option (Value×Nat)->Shared->Prop}{Y:Around}{E':TU},R (some (x,nx)) s->wpAny (model prog w) Y (setNext a slot i ep) R E' s)
  (q:∀h',Y9 h' I (.int nx 0) (i+1) a n ep->be I s.heap h'->Q (some x) {s with heap:=h'}):wpAny (model prog w) A (pyNext (.ref I)) Q E s:=by
 obtain⟨o,e,c,d⟩:=id j;unfold pyNext;refine Zl (fQ (bP (name:=dY "__next__") j.typeIs Z4 (bm Z4 j.typeIs Wv ?_ (WN _))));unfold cB.«set_iterator.__next__»;refine Zl (Zm ?_);refine Zl (iV e d ?_);refine Zl (M.entries ?_);rw[O];rw[if_neg (by simp)];show wpAny _ _ (setNext a slot i ep >>= _) _ _ s;refine Zl (U ?_)
 try dsimp only
 refine Zl (dh e d (by simp) ?_);have h1:=br (gO (·.setIfInBounds 0 (rawInt nx))) e (cI (bn d _));have d1:=bn d (·.setIfInBounds 0 (rawInt nx));refine Zl (dh h1 d1 (by simp) ?_);exact Zm ⟨_,rfl,Zm (q _ (Y9.turn e c d _) ((bz ..).trans (bz ..)))⟩
theorem Zcd {h:Heap}{Q:Option Value->Shared->Prop}{F:Fin->Shared->Prop}(j:A.handled=none)(q:∀h',(∀b o,h.get? b=some o->h'.get? b=some o)->Q none {s with heap:=h'}) :
  wpAny (model prog w) A.in1 (do let x <-newExc (.type "StopIteration") [];raiseNew (α:=Fin) x) F (λe s'=>wpAny (model prog w) A (do let b <-isInstance e (.type "StopIteration");if b=true then pure none else throw e) Q E s') {s with heap:=h}:=by
 refine Zl ?_;unfold newExc newTuple;refine Zl (bA (Q:=_) ?_ (by size_fits));refine Zl (m:=firstArgMember _ _) (j8 (a:=bG) (by first|rfl|(unfold firstArgMember;rfl)) ?_)
 refine bA (Q:=_) ?_ (by size_fits);unfold raiseNew;refine Zl (wpAny_handled ?_);rw[show A.in1.handled=none from j];refine Zl (Zm (wpAny_throw ?_));refine Zl (j3 (T:="StopIteration") (b:=true) ⟨_,Zo _ rfl,rfl⟩ isSubtype_stop ?_);exact Zm (q _ λb o e=>Zn _ (Zn _ e))
theorem Zfe {slot:Nat}{Q:Option Value->Shared->Prop}(O:A.handled=none)(j:Y9 s.heap I (.int slot 0) i a n ep)(U:JE s.heap a es ep t)(Y:es.size=n)
  (hN:∀{R:Option (Value×Nat)->Shared->Prop}{A':Around}{E':TU},R none s->wpAny (model prog w) A' (setNext a slot i ep) R E' s)
  (q:∀h',(∀b o,b≠I->s.heap.get? b=some o->h'.get? b=some o)->Q none {s with heap:=h'}):wpAny (model prog w) A (pyNext (.ref I)) Q E s:=by
 obtain⟨o,e,c,d⟩:=id j;unfold pyNext;refine Zl (fQ (bP (name:=dY "__next__") j.typeIs Z4 (bm Z4 j.typeIs Wv ?_ (WN _))));unfold cB.«set_iterator.__next__»;refine Zl (Zm ?_);refine Zl (iV e d ?_);refine Zl (U.entries ?_);rw[Y];rw[if_neg (by simp)];show wpAny _ _ (setNext a slot i ep >>= _) _ _ s;refine Zl (hN ?_)
 try dsimp only
 refine Zl (dh e d (by simp) ?_);exact Zcd O λh' k=>q h' λb M hb e'=>k b M ((bz s.heap I _).extBut b M hb e')
theorem ZeR (j:w.params.followText "set-order"=true)(J:JE s.heap a es ep t){slot:Nat}{R:Option (Value×Nat)->Shared->Prop}
  (q:R (((pickOrder (w.params.setOrder a ep) es)[i]?).map λe=>(e.2,slot)) s):wpAny (model prog w) A (setNext a slot i ep) R E s:=by
 unfold setNext;refine Zl (J.state ?_)
 try dsimp only
 refine Zl (Zb2 ?_);rw[j,if_pos rfl,if_neg (by simp)];refine Zl ?_;unfold setWalk;refine Zl (J.state ?_)
 try dsimp only
 refine Zl (Zb2 ?_);rw[j,if_pos rfl];exact Zl (j4 (Zm (Zm q)))
theorem ZcK (J:w.params.followText "set-order"=false)(M:JE s.heap a es ep t)(hd:t.plain=true\/es.size<=1)(O:t.led=true){slot:Nat}{R:Option (Value×Nat)->Shared->Prop}
  (q:R (match es[mh t.place slot]?,t.place[mh t.place slot]? with|some (_,x),some j=>some (x,j+1)|_,_=>none) s):wpAny (model prog w) A (setNext a slot i ep) R E s:=by
 unfold setNext;refine Zl (M.state ?_)
 try dsimp only
 refine Zl (Zb2 ?_);rw[J,if_neg (by decide)];show wpAny _ _ (if (!t.plain && decide (es.size > 1))=true then _ else _) _ _ s
 rw[if_neg (by
  rcases hd with hd|hd
  ·rw[hd];simp
  ·rw[decide_eq_false (by omega),Bool.and_false];decide)]
 show wpAny _ _ ((if (!t.led && !es.isEmpty)=true then _ else _) >>= _) _ _ s
 rw[O];exact Zl (Zm (Zm q))
theorem Zd0 {T0:Addr}{J:Array Value}{pl:Nat}{Q:Option Value->Shared->Prop}(j:Y9 s.heap I (.ref T0) i a n ep)(U:∃o k,s.heap.get? T0=some o/\o.data=.seq J k)(M:JE s.heap a es ep t)(Y:es.size=n)(hp:J[i]?=some (.int pl 0)){h:Int}{x:Value}(hx:es[pl]?=some (h,x))
  (q:∀h',Y9 h' I (.ref T0) (i+1) a n ep->be I s.heap h'->Q (some x) {s with heap:=h'}):wpAny (model prog w) A (pyNext (.ref I)) Q E s:=by
 obtain⟨o,e,c,d⟩:=id j;obtain⟨ot,k,et,dt⟩:=U;unfold pyNext;refine Zl (fQ (bP (name:=dY "__next__") j.typeIs Z4 (bm Z4 j.typeIs Wv ?_ (WN _))));unfold cB.«set_iterator.__next__»;refine Zl (Zm ?_);refine Zl (iV e d ?_);refine Zl (M.entries ?_);rw[Y];rw[if_neg (by simp)];show wpAny _ _ (seqItems? (.ref T0) >>= _) _ _ s;refine Zl (gH et dt ?_)
 try dsimp only
 rw[Zj,hp];show wpAny _ _ (setNextDrawn a pl ep >>= _) _ _ s;refine Zl ?_;unfold setNextDrawn;refine Zl (M.state ?_)
 try dsimp only
 rw[if_neg (by simp),hx];refine Zm ?_;refine Zl (dh e d (by simp) ?_);refine Zm ⟨_,rfl,Zm (q _ ⟨_,br _ e (cI (bn d _)),?_,?_⟩ (bz ..))⟩
 ·rw[gC,c]
 ·rw[bn d]
  simp[rawInt]
theorem Zf8 {T0:Addr}{J:Array Value}{Q:Option Value->Shared->Prop}(U:A.handled=none)(j:Y9 s.heap I (.ref T0) i a n ep)(Y:∃o k,s.heap.get? T0=some o/\o.data=.seq J k)(hS:JE s.heap a es ep t)(hn:es.size=n)(hp:J[i]?=none)
  (q:∀h',(∀b o,b≠I->s.heap.get? b=some o->h'.get? b=some o)->Q none {s with heap:=h'}):wpAny (model prog w) A (pyNext (.ref I)) Q E s:=by
 obtain⟨o,e,c,d⟩:=id j;obtain⟨ot,k,et,dt⟩:=Y;unfold pyNext;refine Zl (fQ (bP (name:=dY "__next__") j.typeIs Z4 (bm Z4 j.typeIs Wv ?_ (WN _))));unfold cB.«set_iterator.__next__»;refine Zl (Zm ?_);refine Zl (iV e d ?_);refine Zl (hS.entries ?_);rw[hn];rw[if_neg (by simp)];show wpAny _ _ (seqItems? (.ref T0) >>= _) _ _ s;refine Zl (gH et dt ?_)
 try dsimp only
 rw[Zj,hp]
 try dsimp only
 refine Zl (dh e d (by simp) ?_);have h1:=br (gO (·.setIfInBounds 0 (rawInt 0))) e (cI (bn d _));have d1:=bn d (·.setIfInBounds 0 (rawInt 0));refine Zl (dh h1 d1 (by simp) ?_);exact Zcd U λh' k=>q h' λb O hb e'=>k b O (((bz s.heap I _).trans (bz _ I _)).extBut b O hb e')
theorem Zgj {src:Source}{m:Nat}{Q:Nat->Shared->Prop}(j:m≠0)(q:∀k J,k<m->Q k {s with drawn:=J}):wpAny (model prog w) A (choose src m) Q E s:=λ_ _ _=>⟨j,q _ _ (bO _ (by omega))⟩
theorem ZaH {α:Type}:∀(m:Nat) (xs:List α) {s:Shared}{Q:List α->Shared->Prop},xs.length<=m->(∀ys M,bJ ys xs->Q ys {s with drawn:=M})->wpAny (model prog w) A (drawOrder m xs) Q E s
 |0,xs,s,Q,h,q=>by
  have:xs=[]:=gX.mp (by omega);subst this;unfold drawOrder;exact Zm (q [] s.drawn (cO _))
 |m+1,[],s,Q,h,q=>by
  unfold drawOrder;exact Zm (q [] s.drawn (cO _))
 |m+1,x::xs,s,Q,h,q=>by
  unfold drawOrder;refine Zl (Zgj (by rw[Zi];omega) λk M j=>?_);rw[Zf j]
  try dsimp only
  refine Zl (ZaH m _ (by rw[fz,if_pos j];omega) λys J O=>Zm ?_);exact q _ J ((O.cons _).trans (JA (Zf j)))
end
section
variable {prog:Program}{w:World}{A:Around}{E:TU}{s:Shared}{I a:Addr}{es:Array (Int×Value)}{ep:Nat}{t:SetTable}{first:Value}{i n:Nat}
theorem Zbl {Q:TU}(j:Y9 s.heap I first i a n ep)(q:Q (.ref I) s):wpAny (model prog w) A (pyIter (.ref I)) Q E s:=by
 refine wpAny_pyIter_slot j.typeIs XH (bm XH j.typeIs Zaa ?_ (Zb3 _));show wpAny _ _ (ret (.ref I)) _ _ s;exact Zm ⟨_,rfl, "set_iterator",_,j.typeIs,Z4.lookup,q⟩
def Xz (es:Array (Int×Value)):List Value:=es.toList.map (·.2)
theorem Zfq (Y:A.handled=none)(O:w.params.followText "set-order"=true)(q:a≠I) :
  Walks prog w A I [I,a] [I] es.size (λi v=>((pickOrder (w.params.setOrder a ep) es).toList.map (·.2))[i]?=some v) (λi h=>Y9 h I (.int 0 0) i a es.size ep/\JE h a es ep t) where
 sub:=λb hb=>by simp at hb;simp[hb]
 frame:=λ_ _ _ st k=>⟨st.1.keep λo e=>k I (by simp) o e,st.2.keep λo e=>k a (by simp) o e⟩
 item:=λi s Q E hi st j=>by
  have J:=WT (w.params.setOrder a ep) es;have hl:(pickOrder (w.params.setOrder a ep) es).size=es.size:=by rw[<-Zr,J.length_eq,Zr]
  have e:(pickOrder (w.params.setOrder a ep) es)[i]?=some ((pickOrder (w.params.setOrder a ep) es)[i]'(by omega)):=aP (by omega);generalize (pickOrder (w.params.setOrder a ep) es)[i]'(by omega)=y at e;refine ZcQ (slot:=0) (x:=y.2) (nx:=0) st.1 st.2 rfl (λ{R A' E'} r=>ZeR O st.2 (by rw[e];exact r)) λM i' U=>?_;refine j y.2 M s.toks ?_ ⟨i',st.2.keep λo e=>U.extBut a o q e⟩ λb o hb e=>U.extBut b o (λz=>hb (by simp[z])) e;rw[Zc,cn,e];rfl
 done:=λs Q E st j=>by
  have J:=WT (w.params.setOrder a ep) es;have hl:(pickOrder (w.params.setOrder a ep) es).size=es.size:=by rw[<-Zr,J.length_eq,Zr]
  refine Zfe (slot:=0) Y st.1 st.2 rfl (λ{R A' E'} r=>ZeR O st.2 (by rw[cy (by omega)];exact r)) λM k=>j M s.toks λb o hb e=>k b o (λz=>hb (by simp[z])) e
 self:=λ_ _ _ _ st j=>Zbl st.1 j
theorem Zdt (hh:A.handled=none)(ht:w.params.followText "set-order"=false)(hd:t.plain=true\/es.size<=1)(W:Wk t true)(U:a≠I) :
  Walks prog w A I [I,a] [I] es.size (λi v=>(Xz es)[i]?=some v) (λi h=>∃slot:Nat,((i=0/\slot=0)\/(∃j x,i=j+1/\t.place[j]?=some x/\slot=x+1))/\Y9 h I (.int slot 0) i a es.size ep/\JE h a es ep t) where
 sub:=λb hb=>by simp at hb;simp[hb]
 frame:=λ_ _ _ st k=>by
  obtain⟨slot,M,J,q⟩:=st;exact⟨slot,M,J.keep λo e=>k I (by simp) o e,q.keep λo e=>k a (by simp) o e⟩
 item:=λi s Q E hi st O=>by
  obtain⟨slot,M,J,q⟩:=st;have hf:t.place.size=es.size:=by
   obtain⟨_,_,_,_,f⟩:=q;simp only[mB,ah,beq_iff_eq] at f;exact f.1
  have hb:=ZeS W.rise (i:=i) (slot:=slot) (by omega) M;have Y:es[i]?=some es[i]:=aP hi;have e2:t.place[i]?=some (t.place[i]'(by omega)):=aP (by omega);generalize es[i]=y at Y;generalize t.place[i]'(by omega)=j at e2;refine ZcQ (slot:=slot) (x:=y.2) (nx:=j+1) J q rfl (λ{R A' E'} r=>ZcK ht q hd W.led (by rw[hb,Y,e2];exact r)) λh' i' sb=>?_;refine O y.2 h' s.toks ?_ ⟨j+1,.inr ⟨i,j,rfl,e2,rfl⟩,i',q.keep λo e=>sb.extBut a o U e⟩ λb o hb e=>sb.extBut b o (λz=>hb (by simp[z])) e;show (es.toList.map (·.2))[i]?=some y.2;rw[Zc,cn,Y];rfl
 done:=λs Q E st O=>by
  obtain⟨slot,M,J,q⟩:=st;have hf:t.place.size=es.size:=by
   obtain⟨_,_,_,_,f⟩:=q;simp only[mB,ah,beq_iff_eq] at f;exact f.1
  have hb:=ZeS W.rise (i:=es.size) (slot:=slot) (by omega) M;refine Zfe (slot:=slot) hh J q rfl (λ{R A' E'} r=>ZcK ht q hd W.led (by rw[hb,cy (Zq _)];exact r)) λh' k=>O h' s.toks λb o hb e=>k b o (λz=>hb (by simp[z])) e
 self:=λ_ _ _ _ st O=>by
  obtain⟨slot,M,J,q⟩:=st;exact Zbl J O
theorem Zdu (hh:A.handled=none){T0:Addr}{j:TY}(M:bJ j (ae es.size))(m5:a≠I)(m6:T0≠I) :
  Walks prog w A I [I,a,T0] [I] es.size (λi v=>(j.filterMap λp=>(es[p]?).map (·.2))[i]?=some v) (λi h=>Y9 h I (.ref T0) i a es.size ep/\JE h a es ep t/\∃o k,h.get? T0=some o/\o.data=.seq (j.map λ(p:Nat)=>rawInt p).toArray k) where
 sub:=λb hb=>by simp at hb;simp[hb]
 frame:=λ_ _ _ st k=>by
  obtain⟨U,O,o,k0,J,h4⟩:=st;exact⟨U.keep λo e=>k I (by simp) o e,O.keep λo e=>k a (by simp) o e,o,k0,k T0 (by simp) o J,h4⟩
 item:=λi s Q E hi st Y=>by
  obtain⟨U,O,J⟩:=st;have hl:j.length=es.size:=by rw[M.length_eq,Zg]
  have e0:j[i]?=some (j[i]'(by omega)):=Zf (by omega);have hm:j[i]'(by omega)<es.size:=af.mp (M.mem_iff.mp (bh _));generalize j[i]'(by omega)=pl at e0 hm;have e1:es[pl]?=some es[pl]:=aP hm;generalize es[pl]=y at e1;obtain⟨hv,x⟩:=y;refine Zd0 (pl:=pl) U J O rfl (by simp[e0,rawInt]) e1 λh' i' sb=>?_;obtain⟨o,k0,J,h4⟩:=J;refine Y x h' s.toks ?_ ⟨i',O.keep λo e=>sb.extBut a o m5 e,o,k0,sb.extBut T0 o m6 J,h4⟩ λb o hb e=>sb.extBut b o (λz=>hb (by simp[z])) e;have all:∀(l:TY),(∀p∈l,p<es.size)->(l.filterMap λp=>(es[p]?).map (·.2))=l.map λp=>(es.getD p (0,.none)).2:=λl=>by
   induction l with
   |nil=>intro _;rfl
   |cons p l ih=>
    intro h;have M:=h p aA;rw[bS,aP M,de,aB,ih λq hq=>h q (aE _ hq)]
    try dsimp only
    rw[cz,aP M];rfl
  rw[all j λp hm=>af.mp (M.mem_iff.mp hm),Zc,e0,de,cz,e1];rfl
 done:=λs Q E st Y=>by
  obtain⟨U,O,J⟩:=st;have hl:j.length=es.size:=by rw[M.length_eq,Zg]
  refine Zf8 hh U J O rfl (by rw[cy (by simp[hl])]) λh' k=>Y h' s.toks λb o hb e=>k b o (λz=>hb (by simp[z])) e
 self:=λ_ _ _ _ st Y=>Zbl st.1 Y
theorem Zg4 (hz:es.size<=sizeLine)(M:JE s.heap a es ep t)(W:Wk t (!w.params.followText "set-order")){Q:TU}
  (q:∀(I:Addr) (fp:TN) (h':Heap) (dr:kS) (L:List Value) (St:Nat->Heap->Prop),s.heap.objs.size<=I->(∀b∈fp,b=a\/s.heap.objs.size<=b)->(∀b o,s.heap.get? b=some o->h'.get? b=some o)->bJ L (Xz es)->
   (∀A':Around,A'.handled=none->Walks prog w A' I fp [I] es.size (λi v=>L[i]?=some v) St)->St 0 h'->Q (.ref I) {s with heap:=h',drawn:=dr}) :
  wpAny (model prog w) A (pyIter (.ref a)) Q E s:=by
 have ha:a<s.heap.objs.size:=let ⟨o,e,_⟩:=M;Zp e;refine wpAny_pyIter_slot M.typeIs F.slot_set_iter (bm F.slot_set_iter M.typeIs UG ?_ (F.args_set_iter_1 _));unfold cB.«frozenset.__iter__»;show wpAny _ _ (pure a >>= _) _ _ s;refine Zl (Zm ?_);refine Zl ?_;unfold Builtin.Frozenset.sizeOf;refine Zl (M.entries (Zm ?_));refine Zl ?_;unfold setDrawn;refine Zl (M.state ?_)
 try dsimp only
 refine Zl (Zb2 (Zm ?_));show wpAny _ _ (if (!w.params.followText "set-order" && (!t.plain && decide (es.size > 1)))=true then _ else _) _ _ s
 by_cases J:(!w.params.followText "set-order" && (!t.plain && decide (es.size > 1)))=true
 ·rw[if_pos J]
  refine Zl (ZaH _ _ (by rw[Zg];exact Zq _) λO dr hp=>?_);have hl:O.length=es.size:=by rw[hp.length_eq,Zg]
  unfold newTuple;refine Zl (bA ?_ (by show (gU (λ(i:Nat)=>rawInt i) O).toArray.size<=sizeLine;rw[Zh,Za,hl];exact hz));have h1:(s.heap.push {cls:=.type "tuple",data:=.seq (gU (λ(i:Nat)=>rawInt i) O).toArray}).get? s.heap.objs.size=some {cls:=.type "tuple",data:=.seq (gU (λ(i:Nat)=>rawInt i) O).toArray}:=Zo _ rfl;have Y:∀b o,s.heap.get? b=some o->(s.heap.push {cls:=.type "tuple",data:=.seq (gU (λ(i:Nat)=>rawInt i) O).toArray}).get? b=some o:=λb o e=>Zn _ e;have m5:(s.heap.push {cls:=.type "tuple",data:=.seq (gU (λ(i:Nat)=>rawInt i) O).toArray}).objs.size=s.heap.objs.size+1:=bF ..;generalize s.heap.push {cls:=.type "tuple",data:=.seq (gU (λ(i:Nat)=>rawInt i) O).toArray}=g1 at h1 Y m5 ⊢;have m6:JE g1 a es ep t:=M.keep λo e=>Y a o e;refine Zl (JE.epoch (s:={s with heap:=g1,drawn:=dr}) m6 ?_);refine Zl ?_;unfold newFields;refine bA (Zm ⟨_,rfl, "set_iterator",_,⟨_,Zo _ rfl,rfl⟩,Z4.lookup,?_⟩) (by size_fits);refine q g1.objs.size [g1.objs.size,a,s.heap.objs.size] _ dr _ (λi h=>Y9 h g1.objs.size (.ref s.heap.objs.size) i a es.size ep/\JE h a es ep t/\∃o k,h.get? s.heap.objs.size=some o/\o.data=.seq (O.map λ(p:Nat)=>rawInt p).toArray k) (by omega) (λb hb=>?_) (λb o e=>Zn _ (Y b o e)) ?_
   (λA' hh=>Zdu hh hp (ar (by rw[m5];exact bI ha)) (ar (by rw[m5];exact cF _))) ⟨⟨_,Zo _ rfl,rfl,rfl⟩,m6.keep λo e=>Zn _ e,_,_,Zn _ h1,rfl⟩
  ·simp only[aD,cT,or_false] at hb
   rcases hb with rfl|rfl|rfl
   ·right;omega
   ·left;rfl
   ·right;omega
  ·refine (hp.filterMap _).trans ?_
   have e:((ae es.size).filterMap λp=>(es[p]?).map (·.2))=Xz es:=by
    unfold Xz;rw[<-filterMap_getElem?_range es,List.map_filterMap]
   rw[e]
 ·rw[if_neg J]
  refine Zl (Zm ?_);refine Zl (M.epoch ?_);refine Zl ?_;unfold newFields;refine bA (Zm ⟨_,rfl, "set_iterator",_,⟨_,Zo _ rfl,rfl⟩,Z4.lookup,?_⟩) (by size_fits);have U:∀b∈[s.heap.objs.size,a],b=a\/s.heap.objs.size<=b:=λb hb=>by
   simp only[aD,cT,or_false] at hb;rcases hb with rfl|rfl
   ·right;omega
   ·left;rfl
  cases ht:w.params.followText "set-order" with
  |true=>
   refine q s.heap.objs.size [s.heap.objs.size,a] _ s.drawn _ (λi h=>Y9 h s.heap.objs.size (.int 0 0) i a es.size ep/\JE h a es ep t) (Zq _) U (λb o e=>Zn _ e) ?_
    (λA' hh=>Zfq hh ht (ar ha)) ⟨⟨_,Zo _ rfl,rfl,rfl⟩,M.keep λo e=>Zn _ e⟩
   exact (WT _ es).map _
  |false=>
   rw[ht] at W J;refine q s.heap.objs.size [s.heap.objs.size,a] _ s.drawn _ (λi h=>∃slot:Nat,((i=0/\slot=0)\/(∃j x,i=j+1/\t.place[j]?=some x/\slot=x+1))/\Y9 h s.heap.objs.size (.int slot 0) i a es.size ep/\JE h a es ep t) (Zq _) U (λb o e=>Zn _ e) (cO _)
    (λA' hh=>Zdt hh ht ?_ W (ar ha)) ⟨0,.inl ⟨rfl,rfl⟩,⟨_,Zo _ rfl,rfl,rfl⟩,M.keep λo e=>Zn _ e⟩
   cases hp:t.plain with
   |true=>exact .inl rfl
   |false=>
    rw[hp] at J;right;by_cases h1:es.size > 1
    ·exfalso
     apply J;simp[h1]
    ·omega
end
end PyS
namespace PyS
open PySem PySem.W PyProof.Rows PySem.Calls PyProof.V PySem.Spec
section
variable {prog:Program}{w:World}{A:Around}{E:TU}{s:Shared}{a:Addr}{es:Array (Int×Value)}{ep:Nat}{t:SetTable}
theorem Ziu {r:Addr}{Q:Bool->Shared->Prop}(J:s.TypeIs (.ref r) "set")(h:Q false s):wpAny (model prog w) A (fm (.ref r)) Q E s:=by
 unfold fm;refine Zl (wpAny_specialOf J PySem.F.slot_set_len.lookup ?_);generalize q:("set.__len__":String)=M
 wp_delta
 rw[show splitId M=some ("set", "__len__") from by subst q;decide +kernel];subst q;refine Zl (j3 (T:="set") (b:=true) J (by rw[gK];kernel_rfl) ?_);refine ku (λj=>absurd j (by decide)) (λ_=>?_);refine ku (λ_=>?_) (λj=>absurd (by decide +kernel) j);refine Zl (iy J ?_);exact Zm h
theorem Zii {L:List Value}{ZJ:Array Value}{n:Nat}(q:L.length=n)(h:g9 (λi v=>L[i]?=some v) ZJ n):ZJ.toList=L:=by
 refine aY λi=>?_;by_cases j:i<n
 ·have e:ZJ[i]?=some (ZJ[i]'(by rw[h.1];exact j)):=aP _
  rw[cn,e];exact (h.2 i _ e).symm
 ·rw[ag (by rw[Zr,h.1];omega),ag (by omega)]
structure Src (prog:Program)(w:World)(T:String)(a d:Addr)(n:Nat)(Good:(Nat->Value->Prop)->Prop)(OK:Heap->Prop):Prop where
 type:∀s:Shared,OK s.heap->s.TypeIs (.ref a) T
 there:∀s:Shared,OK s.heap->d<s.heap.objs.size
 keep:∀h h':Heap,OK h->(∀b o,h.get? b=some o->h'.get? b=some o)->OK h'
 notList:(bX T == bX "list")=false
 notTuple:(bX T == bX "tuple")=false
 hint:∀(A:Around) (E:TU) (s:Shared) (Q:Bool->Shared->Prop),OK s.heap->Q false s->wpAny (model prog w) A (fm (.ref a)) Q E s
 iter:∀(A:Around) (E:TU) (s:Shared) (Q:TU),OK s.heap->
  (∀(I:Addr) (fp:TN) (h':Heap) (dr:kS) (P:Nat->Value->Prop) (St:Nat->Heap->Prop),s.heap.objs.size<=I->(∀b∈fp,b=a\/b=d\/s.heap.objs.size<=b)->(∀b o,s.heap.get? b=some o->h'.get? b=some o)->Good P->
   (∀A':Around,A'.handled=none->Walks prog w A' I fp [I] n P St)->St 0 h'->Q (.ref I) {s with heap:=h',drawn:=dr})->wpAny (model prog w) A (pyIter (.ref a)) Q E s
section
variable {T:String}{d:Addr}{n:Nat}{Good:(Nat->Value->Prop)->Prop}{OK:Heap->Prop}
theorem ZdC {R:Result->Shared->Prop}(C:Src prog w T a d n Good OK)(hh:A.handled=none)(hz:n<=sizeLine)(Y:OK s.heap)(S:Addr)(m6:S≠a)(n8:S≠d)(res:Value)(U:Nat)(hL:s.heap.get? S=some {cls:=.type "list",data:=.seq #[] U})
  (hR:∀h' dr tk (q:Array Value) c' P,(∀b o,b≠S->s.heap.get? b=some o->h'.get? b=some o)->h'.get? S=some {cls:=.type "list",dict:=none,data:=.seq q c',slots:=#[]}->Good P->g9 P q n->R (.ok (.ret res)) {s with heap:=h',drawn:=dr,toks:=tk}) :
  wpAny (model prog w) A.in1 (bT (.ref S) (.ref a) res)
   (λfin s'=>match fin with | .done f=>R (.ok f) s' | .again c'=>c'.quiet=true/\codeAny (model prog w) A c' R s') (λe s'=>R (.error e) s') s:=by
 have n9:S<s.heap.objs.size:=Zp hL;unfold bT;refine Zl (iy (T:=T) (C.type s Y) ?_);have h1:i9 (.ref S) (.ref a)=false:=by simp[i9,m6]
 simp only[h1,C.notList,C.notTuple,fu,df,if_false];refine Zl (C.iter _ _ _ _ Y λI fp h' dr P St hI o0 hk hp m7 st=>?_);have m8:S∉fp:=λz=>by
  rcases o0 S z with e|e|e
  ·exact m6 e
  ·exact n8 e
  ·exact absurd n9 (Nat.not_lt.mpr e)
 have key:∀(h:Heap) (J tk:Nat),St 0 h->(∀b o,b≠S->s.heap.get? b=some o->h.get? b=some o)->
   h.get? S=some {cls:=.type "list",data:=.seq #[] J}->codeAny (model prog w) A (.builtin "list.extend.loop" ⟨[.ref S,.ref I,res],[]⟩) R {s with heap:=h,drawn:=dr,toks:=tk}:=by
  intro h J tk o5 hk j;refine codeAny_extend_loopS (m7 A.in1 hh).toS hz S m8 res n 0 _ #[] J rfl (aU _) o5 j (ItemsOf.nil _) λs' q c' hm o6 m9=>?_;rw[Moved.eq_with hm];refine hR s'.heap dr s'.toks q c' P (λb o hb e=>hm.heap b o (λM=>?_) (hk b o hb e)) o6 hp m9;rcases aD.mp M with e'|M
  ·exact hb e'
  ·exact absurd (Zp e) (by rw[aM.mp M];exact Nat.not_lt.mpr hI)
 have j:=hk S _ hL;refine Zl (bZ (C.hint _ _ {s with heap:=h',drawn:=dr} _ (C.keep _ _ Y λb o e=>hk b o e) ?_));refine ku (λ_=>?_) (λ_=>Zm ⟨cW jC _,key _ U _ st (λb o _ e=>hk b o e) j⟩);refine Zl (fe ?_);refine Zl ?_;show wpAny _ _ (updateSeq S (·.push .none) >>= λ_=>updateSeq S (·.pop)) _ _ _;refine Zl (kq j rfl ?_);have O:=br (a7 (·.push bG)) j rfl;refine kq (hz:=by seq_fits) O rfl ?_;have m5:=br (a7 (·.pop)) O rfl;refine Zm ⟨cW jC _,key _ _ _ ?_ (λb o hb e=>?_) m5⟩
 ·refine (m7 A.in1 hh).frame 0 _ _ st λb hb o e=>?_
  have n6:b≠S:=λh=>m8 (h▸hb);exact (bQ _ _ (bE n6)).trans ((bQ _ _ (bE n6)).trans e)
 ·exact (bQ _ _ (bE hb)).trans ((bQ _ _ (bE hb)).trans (hk b o e))
theorem Zce {R:List Value->Shared->Prop}(C:Src prog w T a d n Good OK)(hh:A.handled=none)(hz:n<=sizeLine)(O:OK s.heap)
  (h:∀(h':Heap) (dr:kS) (tk:Nat) (ZJ:Array Value) (P:Nat->Value->Prop),s.heap.objs.size<h'.objs.size->(∀b o,s.heap.get? b=some o->h'.get? b=some o)->Good P->g9 P ZJ n->R ZJ.toList {s with heap:=h',drawn:=dr,toks:=tk}) :
  wpAny (model prog w) A (collect (.ref a)) R E s:=by
 have ha:a<s.heap.objs.size:=let ⟨o,e,_⟩:=C.type s O;Zp e;unfold collect;refine Zl (gI (bv entry_proto_collect' ?_));rw[bw jo _];show wpAny _ A.in1 (newList [] >>= λl=>again (.builtin "list.__iadd__" ⟨[l,.ref a],[]⟩)) _ _ s;refine Zl (bA ?_);refine Zm ⟨cW eC _,bv entry_list_iadd' ?_⟩;rw[bw eC _];have U:(s.heap.push {cls:=.type "list",data:=.seq ([]:List Value).toArray}).get? s.heap.objs.size=some {cls:=.type "list",data:=.seq #[]}:=Zo _ rfl;show wpAny _ A.in1 (bT (.ref s.heap.objs.size) (.ref a) (.ref s.heap.objs.size)) _ _ _;have m5:=ZdC (prog:=prog) (w:=w) (A:=A) (s:={s with heap:=s.heap.push {cls:=.type "list",data:=.seq ([]:List Value).toArray}})
  (R:=λ(q:Result) (s':Shared)=>∃(h':Heap) (dr:kS) (tk:Nat) (j:Array Value) (Y:Nat) (P:Nat->Value->Prop),q=.ok (.ret (.ref s.heap.objs.size))/\s'={s with heap:=h',drawn:=dr,toks:=tk}/\
   (∀b o,s.heap.get? b=some o->h'.get? b=some o)/\h'.get? s.heap.objs.size=some {cls:=.type "list",dict:=none,data:=.seq j Y,slots:=#[]}/\Good P/\g9 P j n)
  C hh hz (C.keep _ _ O λb o e=>Zn _ e) s.heap.objs.size (bj ha) (bj (C.there _ O)) (.ref s.heap.objs.size) 0 U
  (λh' dr tk j Y P hk M hg J=>⟨h',dr,tk,j,Y,P,rfl,rfl,λb o e=>hk b o (ar (Zp e)) (Zn _ e),M,hg,J⟩)
 refine cm m5 (λm6 s' x=>?_) λe s' x=>?_
 ·cases m6 with
  |done f=>
   obtain⟨h',dr,tk,j,Y,P,e,rfl,hk,M,hg,J⟩:=x;cases e;show wpAny _ A (load s.heap.objs.size >>= _) _ _ _;refine Zl (iB M ?_);exact Zm (h h' dr tk j P (Zp M) hk hg J)
  |again m7=>
   refine⟨x.1,dM x.2 λq m8 y=>?_⟩;obtain⟨h',dr,tk,j,Y,P,rfl,rfl,hk,M,hg,J⟩:=y;show wpAny _ A (load s.heap.objs.size >>= _) _ _ _;refine Zl (iB M ?_);exact Zm (h h' dr tk j P (Zp M) hk hg J)
 ·obtain⟨_,_,_,_,_,_,e',_⟩:=x
  cases e'
def ZdZ:Value->Int
 | .int k _=>k
 |_=>0
theorem Zir:∀{l:List Value}{ns:TV},bB l ns->ns=l.map ZdZ
 |_,_,.nil=>rfl
 |_,_,.cons n t r=>by rw[aB,<-Zir r];rfl
theorem Ziq:∀{l:List Value}{ns:TV},bB l ns->∀v∈l,∃k t,v=.int k t
 |_,_,.nil,v,h=>by cases h
 |_,_,.cons n t r,v,h=>by
  rcases aD.mp h with h|h
  ·exact⟨n,t,h⟩
  ·exact Ziq r v h
theorem Zip:∀{l:List Value},(∀v∈l,∃k t,v=.int k t)->bB l (l.map ZdZ)
 | [],_=>.nil
 |v::l,h=>by
  obtain⟨k,t,rfl⟩:=h v aA;exact .cons k t (Zip λu j=>h u (aE _ j))
theorem ZkA {l j:List Value}{ns:TV}(p:bJ j l)(h:bB l ns):bB j (j.map ZdZ)/\bJ (j.map ZdZ) ns:=
 ⟨Zip λv q=>Ziq h v (p.mem_iff.mp q),by rw[Zir h];exact p.map _⟩
theorem ZdB {Q:TU}(C:Src prog w T a d n Good OK)(hh:A.handled=none)(m7:n<64)(U:OK s.heap){ns:TV}(hi:∀P ZJ,Good P->g9 P ZJ n->bB ZJ.toList (ZJ.toList.map ZdZ)/\bJ (ZJ.toList.map ZdZ) ns)
    (q:∀(D:Addr) (h':Heap) (Y:kS) (tk:Nat) (out:List Value) (j:TV) (c:Nat),s.heap.objs.size<=D->(∀b o,s.heap.get? b=some o->h'.get? b=some o)->h'.get? D=some (seqObj "list" out.toArray c)->bB out j->bJ j ns->j.Pairwise (· ≤ ·)->Q (.ref D) {s with heap:=h',drawn:=Y,toks:=tk}) :
    wpAny (model prog w) A (call (.builtin "sorted") [.ref a]) Q E s:=by
  have hz : n ≤ sizeLine := by have:(16777216:Nat)=sizeLine:=by decide
                               omega
  refine eL kh jP jQ (jR _) ?_;unfold cB.«sorted»;refine Zl (m:=checkCount "sorted" 1 1 _) (Zm ?_);refine Zl (Zce (A:=A.in1) C hh hz U λh' Y tk ZJ P O hk hg J=>?_);obtain⟨i1,i2⟩:=hi P ZJ hg J;have hl:ZJ.toList.length=n:=by rw[Zr];exact J.1
  generalize ZJ.toList=M at i1 i2 hl ⊢;refine Zl (fP ?_ (by rw[hl];exact hz));have ho:(h'.push {cls:=.type "list",data:=.seq M.toArray}).get? h'.objs.size=some (seqObj "list" M.toArray 0):=Zo _ rfl;have m5:∀b o,s.heap.get? b=some o->(h'.push {cls:=.type "list",data:=.seq M.toArray}).get? b=some o:=λb o e=>Zn _ (hk b o e);refine Zl (bZ ?_);refine bm i6 ⟨_,ho,rfl⟩ iN (list_sort_tree (n:=0) (vs:=M) ho i1 (by omega) λout j hI m6 hP=>⟨.none,rfl,?_⟩) (i7 _);refine Zm ⟨_,rfl,?_⟩;have o1:=iM ho (λ_=>(#[]:Array Value));have o2:=Zn (seqObj "tuple" M.toArray 0) o1;have o3:=Zn (seqObj "list" #[] 0) o2;have o4:=iM o3 (λ_=>out);refine q h'.objs.size _ Y tk out.toList j _ (dw O) (λb o e=>?_) (by rw[lD];exact o4) hI (m6.trans i2) hP;have hb:b≠h'.objs.size:=ar (jh (Zp e) O);unfold sortedHeap;rw[bQ _ _ (bE hb)];refine Zn _ (Zn _ ?_);rw[bQ _ _ (bE hb)];exact m5 b o e
end
theorem Zjt (hz:es.size<=sizeLine)(W:Wk t (!w.params.followText "set-order")):Src prog w "set" a a es.size (λP=>∃L:List Value,bJ L (Xz es)/\P=λi v=>L[i]?=some v) (λh=>JE h a es ep t) where
 type:=λs h=>JE.typeIs h
 there:=λs S=>let ⟨o,e,_⟩:=JE.typeIs (s:=s) S;Zp e
 keep:=λh M S k=>S.keep (k a)
 notList:=by decide
 notTuple:=by decide
 hint:=λA E s Q S q=>Ziu (JE.typeIs S) q
 iter:=λA E s Q S q=>Zg4 hz S W λI O M U L St Y j hk hp J st=>q I O M U _ St Y (λb hb=>(j b hb).elim .inl λz=>.inr (.inr z)) hk ⟨L,hp,rfl⟩ J st
theorem ZdM {ns:TV}{Q:TU}(U:A.handled=none)(M:es.size<64)(Y:JE s.heap a es ep t)(W:Wk t (!w.params.followText "set-order"))(hi:bB (Xz es) ns)
    (q:∀(D:Addr) (h':Heap) (dr:kS) (tk:Nat) (out:List Value) (j:TV) (c:Nat),s.heap.objs.size<=D->(∀b o,s.heap.get? b=some o->h'.get? b=some o)->h'.get? D=some (seqObj "list" out.toArray c)->bB out j->bJ j ns->j.Pairwise (· ≤ ·)->Q (.ref D) {s with heap:=h',drawn:=dr,toks:=tk}) :
    wpAny (model prog w) A (call (.builtin "sorted") [.ref a]) Q E s:=by
  have hz : es.size ≤ sizeLine := by have:(16777216:Nat)=sizeLine:=by decide
                                     omega
  refine ZdB (Zjt (ep:=ep) hz W) U M Y (ns:=ns) (λP ZJ hg J=>?_) q;obtain⟨L,O,rfl⟩:=hg;rw[Zii (by rw[O.length_eq];unfold Xz;rw[Za,Zr]) J];exact ZkA O hi
section
variable {K:Type} [DecidableEq K]{knd:PySem.KeyKind prog w K}{kvs:List (K×Value)}
end
end
structure SX (prog:Program)(w:World)(h:Heap)(a:Addr)(es:Array (Int×Value))(ep:Nat)(t:SetTable)(S:Int->Bool)(n:Nat):Prop where
 at_:JE h a es ep t
 el:ElemsOf (intKind prog w) es.toList
 mem:∀k,S k=true↔∃e∈es.toList,(intKind prog w).is k e.2=true
 sb:es.size<scanBound
 sz:es.size=n
 wk:Wk t (!w.params.followText "set-order")
def X7 (prog:Program)(w:World)(h:Heap)(a:Addr)(S:Int->Bool)(n:Nat):Prop:=∃j q t,SX prog w h a j q t S n
section
variable {prog:Program}{w:World}{A:Around}{E:TU}{s:Shared}{a:Addr}
theorem X7.keep {h h':Heap}{S:Int->Bool}{n:Nat}(X:X7 prog w h a S n)(k:∀o,h.get? a=some o->h'.get? a=some o):X7 prog w h' a S n:=by
 obtain⟨j,q,t,X⟩:=X;exact⟨j,q,t,X.at_.keep k,X.el,X.mem,X.sb,X.sz,X.wk⟩
theorem X7.congr {h:Heap}{S j:Int->Bool}{n q:Nat}(X:X7 prog w h a S n)(e:∀k,S k=j k)(J:n=q):X7 prog w h a j q:=by
 have:S=j:=funext e;subst this;subst J;exact X
theorem stored {h:Heap}{q es':Array (Int×Value)}{ep:Nat}{t t':SetTable}(S:JE h a q ep t)(hf:t'.fits es'.size=true):JE (h.update a (iZ es' t')) a es' (ep+1) t':=by
 obtain⟨o,e,x,d,_⟩:=S;have j:=br (iZ es' t') e (by rw[putSet_of es' t' d];rfl);rw[putSet_of es' t' d] at j;exact⟨_,j,x,rfl,hf⟩
theorem Wx {j es':Array (Int×Value)}{ep:Nat}{t t':SetTable}{Q:Unit->Shared->Prop}(S:JE s.heap a j ep t)(hz:es'.size<=sizeLine)(q:Q () {s with heap:=s.heap.update a (iZ es' t')}):wpAny (model prog w) A (storeSet a es' t') Q E s:=by
 obtain⟨o,e,x,d,_⟩:=S;exact wpAny_storeSet_of e d q hz
theorem Zdn {g:Bool->Sem Unit}(hg:∀(b:Bool) (O:Shared) (Q':Unit->Shared->Prop),Q' () O->wpAny (model prog w) A (g b) Q' E O){es j:Array (Int×Value)}{ep:Nat}{t q:SetTable}{led:Bool}(S:JE s.heap a es ep t)(hz:j.size<=sizeLine)(f2:q.fits j.size=true)(w2:Wk q led)
  {U:Bool}{R:Option Bool->Shared->Prop} (fin:∀(h':Heap) (es':Array (Int×Value)) (m8:Nat) (t':SetTable),be a s.heap h'->JE h' a es' m8 t'->bJ es'.toList j.toList->Wk t' led->R (some true) {s with heap:=h'}) :
  wpAny (model prog w) A (do
    storeSet a j q
    if (!U && q.tooFull)=true then do
      g (relayAll q j (dI j.size)).2.2
      storeSet a (relayAll q j (dI j.size)).1 (relayAll q j (dI j.size)).2.1
      pure (some true)
     else pure (some true)) R E s:=by
 refine Zl (Wx S hz ?_);have S2:=stored S (es':=j) f2;have Y:=bz s.heap a (iZ j q);generalize s.heap.update a (iZ j q)=h2 at S2 Y ⊢;by_cases J:(!U && q.tooFull)=true
 ·rw[if_pos J]
  have M:=relayAll_perm q j (dI j.size);have m5:=relayAll_fits q j (dI j.size);have m6:=w2.relay j (dI j.size);generalize relayAll q j (dI j.size)=Rl at M m5 m6 ⊢;obtain⟨m7,t3,m9⟩:=Rl;dsimp only at M m5 m6 ⊢;have n6:m7.size=j.size:=by rw[<-Zr,M.length_eq,Zr]
  refine Zl (hg _ _ _ ?_);refine Zl (Wx (s:={s with heap:=h2}) S2 (by rw[n6];exact hz) ?_);exact Zm (fin _ m7 _ t3 (Y.trans (bz _ a _)) (stored S2 m5) M m6)
 ·rw[if_neg J]
  exact Zm (fin h2 j _ q Y S2 (cO _) w2)
theorem add_int {S:Int->Bool}{n:Nat}{k:Int}{x:Value}{Q:Bool->Shared->Prop}(m6:(intKind prog w).is k x=true)(n6:x.scannable=true)(X:X7 prog w s.heap a S n)(n8:n+1<scanBound)
  (q:∀b h',be a s.heap h'->X7 prog w h' a (λk'=>S k' || decide (k'=k)) (if S k then n else n+1)->Q b {s with heap:=h'}) :
  wpAny (model prog w) A (setAddHashed a x ((intKind prog w).hash k)) Q E s:=by
 obtain⟨es,ep,t,X⟩:=X;obtain⟨o,e1,e2,e3,e4⟩:=id X.at_;unfold setAddHashed setAddHashedIn;refine bZ (Zl (X.at_.state ?_))
 try dsimp only
 rw[byScan_of n6 X.sb X.el];simp only[↓reduceIte];unfold setAddByScan;refine Zl (Zl (fe (Zl (wpAny_setScan_of m6 e1 e3 e4 X.el ?_))));cases hr:List.findIdx? (λe=>(intKind prog w).is k e.2) es.toList with
 |some j=>
  obtain⟨hj,o8,_⟩:=List.findIdx?_eq_some_iff_getElem.mp hr;have m9:S k=true:=(X.mem k).mpr ⟨_,bh hj,o8⟩;refine Zm (Zm ?_);have:=q false s.heap (Heap.SameBut.refl a s.heap) ⟨es,ep,t,X.at_,X.el,λk'=>?_,X.sb,by rw[m9];exact X.sz,X.wk⟩
  ·exact this
  ·rw[bi,decide_eq_true_eq,<-X.mem k']
   exact⟨λh=>h.elim id λe=>by rw[e];exact m9,.inl⟩
 |none=>
  have m9:S k=false:=by
   cases hk:S k with
   |false=>rfl
   |true=>
    obtain⟨e,he,hp⟩:=(X.mem k).mp hk;have:=List.findIdx?_eq_none_iff.mp hr e he;rw[hp] at this;exact Bool.noConfusion this
  try dsimp only
  have J:=layNew_perm t es ((intKind prog w).hash k) x;have M:=layNew_fits t es ((intKind prog w).hash k) x;have m7:=X.wk.lay es ((intKind prog w).hash k) x;generalize layNew t es ((intKind prog w).hash k) x=L at J M m7 ⊢;obtain⟨m5,t1,p6,o0⟩:=L;dsimp only at J M m7 ⊢;rw[mq] at J;have o9:∀(b:Bool) {U:Shared}{Q':Unit->Shared->Prop},Q' () U->wpAny (model prog w) A (match b with|true=>rule "set.scan.the-table-gave-way" |false=>pure ()) Q' E U:=
   λb U Q' hq=>by cases b <;> first|exact Zm hq|exact fe hq
  have o5:m5.size=n+1:=by rw[<-Zr,J.length_eq,Zd,Zr,X.sz];rfl
  have p4:ElemsOf (intKind prog w) m5.toList:=(X.el.push m6 n6).perm J;have o6:∀k',(S k' || decide (k'=k))=true↔∃e∈m5.toList,(intKind prog w).is k' e.2=true:=mem_push_iff m6 X.mem J;have n9:m5.size<scanBound:=by rw[o5];exact n8
  have zl:∀m,m<scanBound->m<=sizeLine:=λm h=>fits_of_scanBound h;have o7:∀(h':Heap) (O:Array (Int×Value)) (Y:Nat) (t':SetTable),be a s.heap h'->JE h' a O Y t'->bJ O.toList m5.toList->Wk t' (!w.params.followText "set-order")->Q true {s with heap:=h'}:=λh' O Y t' sb at' hp m8=>by
   have hs:O.size=m5.size:=by rw[<-Zr,hp.length_eq,Zr]
   refine q true h' sb ⟨O,Y,t',at',p4.perm hp,λk'=>?_,by rw[hs];exact n9,by rw[m9,hs];exact o5,m8⟩;rw[o6 k'];exact⟨λ⟨e,he,r⟩=>⟨e,hp.mem_iff.mpr he,r⟩,λ⟨e,he,r⟩=>⟨e,hp.mem_iff.mp he,r⟩⟩
  refine Zl (o9 o0 ?_);split
  ·refine Zl ?_
   rw[hashByValue_scannable 8 n6];refine Zm ?_;refine Zdn (λb U Q' hq=>?_) X.at_ (zl _ n9) ?_ ?_ λh' O Y t' sb at' hp m8=>Zm (o7 h' O Y t' sb at' hp m8)
   ·cases b <;> first|exact Zm hq|exact fe hq
   ·split
    ·exact M
    ·exact SetTable.fits_plain_off M
   ·split
    ·exact m7
    ·exact m7.plain false
  ·refine Zl (Zm ?_)
   simp only[↓reduceIte];refine Zdn (λb U Q' hq=>?_) X.at_ (zl _ n9) M m7 λh' O Y t' sb at' hp m8=>Zm (o7 h' O Y t' sb at' hp m8);cases b <;> first|exact Zm hq|exact fe hq
end
section
variable {prog:Program}{w:World}{A:Around}{R:Result->Shared->Prop}{I:Addr}{fp wr:TN}{G:Array GenState->Array GenState->Prop}{n:Nat}{P:Nat->Value->Prop}{St:Nat->Shared->Prop}
theorem ZgB (W:WalksS prog w A.in1 I fp wr G n P St)(S:Addr)(O:S∉fp)(val:Nat->Int)(U:∀i v,P i v->∃t,v=.int (val i) t)(hb:n+1<scanBound) :
  ∀(k i:Nat) (s:Shared),n-i=k->i<=n->St i s->X7 prog w s.heap S (λM=>(firstMet val i).any (· == M)) (firstMet val i).length->
   (∀s',Moved (S::wr) G s s'->X7 prog w s'.heap S (λM=>(firstMet val n).any (· == M)) (firstMet val n).length->R (.ok (.ret .none)) s')->
   codeAny (model prog w) A (.builtin "set.update.loop" ⟨[.ref S,.ref I],[]⟩) R s:=by
 have Y:S∉wr:=λh=>O (W.sub _ h);have j:∀b∈wr,b∈S::wr:=λb hb=>aE _ hb;intro k;induction k with
 |zero=>
  intro i s hk hi q hS hR;have n6:i=n:=by omega
  subst n6;refine bv gD ?_;rw[bw dE _];show wpAny _ A.in1 (pyNext (.ref I) >>= _) _ _ s;refine Zl (W.done s _ _ q λs' hm=>?_);show wpAny _ A.in1 (ret bG) _ _ s';exact Zm (hR s' (hm.mono j) (hS.keep λo e=>hm.heap S o Y e))
 |succ k ih=>
  intro i s hk hi q hS hR;have m5:i<n:=by omega
  refine bv gD ?_;rw[bw dE _];show wpAny _ A.in1 (pyNext (.ref I) >>= _) _ _ s;refine Zl (W.item i s _ _ m5 q λv s' hP m6 hm=>?_);obtain⟨t,rfl⟩:=U i v hP;have n8:=hS.keep λo e=>hm.heap S o Y e;show wpAny _ A.in1 (holding [gN (val i) t] (setAdd S (.int (val i) t)) >>= _) _ _ s';refine Zl (bZ ?_);unfold setAdd;refine bZ ?_;refine Zl ((intKind prog w).pyHash (k:=val i) (intKind_is _ _ _ _) ?_);have J:(firstMet val i).length+1<scanBound:=by have:=gQ val i;omega
  refine add_int (s:={s' with toks:=s'.toks+1}) (intKind_is _ _ _ _) rfl n8 J λ_ h' m7 n9=>?_;have o0:X7 prog w h' S (λM=>(firstMet val (i+1)).any (· == M)) (firstMet val (i+1)).length:=
   n9.congr (λM=>by rw[l6,step_any]) (by rw[l6,step_length])
  refine Zm ⟨cW dE _,ih (i+1) _ (by omega) m5 (W.frame _ s' _ _ m6 (fH _) λb hb o e=>?_) o0 λo5 m8 m9=>?_⟩
  ·rw[m7.2 b (λh:b=S=>O (by rw[<-h];exact hb))];exact e
  ·refine hR o5 (Moved.trans W.gtrans ((hm.mono j).then_heap (fH _) λb o hb e=>?_) m8) m9
   rw[m7.2 b (λh:b=S=>hb (by rw[h];exact aA))];exact e
end
section
variable {prog:Program}{w:World}{A:Around}{E:TU}{s:Shared}
theorem Zjz (a:Value){Q₁:TU}
  (h:Q₁ (.ref s.heap.objs.size) {s with heap:=s.heap.push {cls:=.type "set",dict:=none,data:=.set #[] 0 (.fresh 0 0 (!w.params.followText "set-order"))}}) :
  codeAny (model prog w) A (.call (.builtin "set.__new__") ⟨[.type "set",a],[]⟩) (wants Q₁ E) s:=by
 refine iK ?_;show wpAny _ A.in1 (do checkBuiltinCall "set.__new__" ⟨[.type "set",a],[]⟩;again (.builtin "set.__new__" ⟨[.type "set",a],[]⟩)) _ _ s
 refine Zl (j8 (PySem.F.newCall_set_1 a) (Zm ⟨cW ke _,bv PySem.F.entry_set_new ?_⟩));rw[bw ke _];unfold cB.«set.__new__» Builtin.Frozenset.newClass;have j:=sub_set_self;obtain⟨q,g,d,tk,os⟩:=s
 try dsimp only
 wp_walk
 refine j4 (Zm ?_)
 try dsimp only
 simp only[newObj];refine Zl (wpAny_alloc (Zm ?_));exact Zm h
theorem ZkD {h:Heap}{a:Addr}(e:h.get? a=some {cls:=.type "set",dict:=none,data:=.set #[] 0 (.fresh 0 0 (!w.params.followText "set-order"))}):X7 prog w h a (λ_=>false) 0:=
 ⟨#[],0,_,⟨_,e,⟨rfl,rfl,rfl⟩,rfl,rfl⟩,λx j=>(by simp at j),λk=>(by simp),by unfold scanBound;decide,rfl,Wk.fresh _⟩
noncomputable abbrev Zfp (prog:Program)(w:World)(s:Shared)(ns:TV)(n:Nat)(h':Heap):Prop:=
 X7 prog w h' s.heap.objs.size (λj=>(L2.Yy ns n).any (· == j)) (L2.Yy ns n).length/\∀b o,b<s.heap.objs.size->s.heap.get? b=some o->h'.get? b=some o
theorem Zck {l:Addr}{items:Array Value}{ns:TV}{Q:TU}(hh:A.handled=none)(hl:s.heap.IsList l items)(hi:bB items.toList ns)(hb:items.size+1<scanBound)
  (h:∀(h':Heap) (tk:Nat),Zfp prog w s ns items.size h'->Q (.ref s.heap.objs.size) {s with heap:=h',toks:=tk}):wpAny (model prog w) A (call (.type "set") [.ref l]) Q E s:=by
 obtain⟨c,tl,p6⟩:=bc.mro;have n9:=bc.made;have p7:=bc.sub;refine wpAny_call (iK ?_);show wpAny _ _ (callAny (.type "set") _) _ _ _;refine Zm ⟨iQ _ (by decide +kernel),bv lI ?_⟩;rw[lK (mN "set" [.ref l] []) rfl];have h1:=bc.notType;have h2:=bc.canCreate;have r9:=lX (.ref l)
 repeat (any_goals (first|assumption|wp_step))
 let J:Obj:={cls:=.type "set",dict:=none,data:=.set #[] 0 (.fresh 0 0 (!w.params.followText "set-order"))}
 refine dM (Zjz (.ref l) (E:=E) (Q₁:=λm6 M=>m6=.ref s.heap.objs.size/\M={s with heap:=s.heap.push J}) ⟨rfl,rfl⟩) λr M hr=>?_;cases r with
 |error e=>exact hr
 |ok fl=>
  cases fl with
  |ret m6=>
   obtain⟨rfl,rfl⟩:=hr;have hS:(s.heap.push J).get? s.heap.objs.size=some J:=Zo _ rfl;have hT:Shared.TypeIs {s with heap:=s.heap.push J} (.ref s.heap.objs.size) "set":=⟨_,hS,rfl⟩;have t0:=bc.init.lookup;have t6:=bc.init.bind (.ref s.heap.objs.size)
   repeat (any_goals (first|assumption|wp_step))
   refine dM (codeAny_call_builtin (R:=wants (λr O=>r=.none/\∃h' tk,O={s with heap:=h',toks:=tk}/\Zfp prog w s ns items.size h') E) bc.init.plain lY (check_set_init_1 hT ?_)) λm7 O j=>?_
   ·obtain⟨ol,VU,m8,nl,m9⟩:=id hl
    obtain⟨p9,Y,o0,q⟩:=ol;simp only at m8 m9;subst m8;subst m9;have U:(s.heap.push J).get? l=some {cls:=.type "list",dict:=Y,data:=.seq items nl,slots:=q}:=Zn _ VU;have r6:=PySem.F.sub_list_set;have r8:=PySem.F.sub_list_frozenset;have t7:(bX "list" == bX "dict")=false:=by decide
    have o5:(s.heap.push J).IsList l items:=⟨_,U,rfl,nl,rfl⟩;unfold cB.«set.__init__» noKeywords im;generalize o6:pyIter=PI
    wp_walk
    subst o6;refine ft o5 ?_;refine Zl (gI ?_);have n6:l<s.heap.objs.size:=Zp VU;have n8:l≠(s.heap.push J).objs.size:=by rw[bF];exact ar (bI n6)
    have o7:s.heap.objs.size∉[(s.heap.push J).objs.size,l]:=by
     rw[bF];intro z;rcases aD.mp z with z|z
     ·exact absurd z (ar (cF _))
     ·exact absurd (aM.mp z) (bj n6)
    refine ZgB ((jL (A:=A.in1.in1.in1) (by simp[hh]) _ l n8 items).toS) s.heap.objs.size o7 (λi=>ns.getD i 0) (λi v hv=>mF hi i v (by rw[cn];exact hv)) hb (items.size-0) 0 _ (by omega) (aU _)
     ⟨⟨_,Zo _ rfl,rfl,rfl⟩,⟨_,Zn _ U,rfl,nl,rfl⟩⟩ ?hS0 ?hR
    case hS0=>exact (ZkD (Zn _ hS)).congr (λ_=>rfl) rfl
    case hR=>
     intro s' hm o8;obtain⟨h',g',d',o9,p4⟩:=s';obtain rfl:g'=s.gens:=hm.gens;obtain rfl:d'=s.drawn:=hm.drawn;obtain rfl:p4=s.os:=hm.os;show wpAny _ _ _ _ _ _;refine Zm ?_;show wpAny _ _ (ret bG) _ _ _;refine Zm ⟨rfl,h',o9,rfl,o8,λb o hb e=>hm.heap b o (λz=>?_) (Zn _ (Zn _ e))⟩;rcases aD.mp z with z|z
     ·exact absurd z (ar hb)
     ·refine absurd (aM.mp z) (ar ?_);rw[bF];exact bI hb
   ·cases m7 with
    |error e=>exact j
    |ok m5=>
     cases m5 with
     |ret r=>
      obtain⟨rfl,h',tk,rfl,he⟩:=j
      repeat (any_goals (first|assumption|wp_step))
      exact h _ _ he
     |_=>exact j.elim
  |_=>exact hr.elim
end
end PyS
namespace L2
open PySem PySem.Spec PyProof.Rows
theorem Vw:∀{M L:TV},M.Nodup->(∀x∈M,x∈L)->L.length=M.length->bJ L M
 | [],L,_,_,h=>by
  have:L=[]:=gX.mp (by simpa using h);subst this;exact cO _
 |x::M,L,j,J,h=>by
  have Y:=J x aA;have O:=List.perm_cons_erase Y;rw[bW] at j;refine O.trans ((Vw j.2 (λy U=>?_) ?_).cons x)
  ·have q:y≠x:=λz=>j.1 (z▸U)
   exact (fw q).mpr (J y (aE _ U))
  ·have:=O.length_eq
   rw[Zi] at this;rw[Zi] at h;omega
theorem ZaT:∀{out:List Value}{ns:TV},bB out ns->ZO (ns.map V.int) out
 |_,_,.nil=>.nil
 |_,_,.cons n t r=>.cons ⟨t,rfl⟩ (ZaT r)
def Zcl (prog:Program)(w:World)(a:Addr)(M:TV):HO:=.ext λh=>PyS.X7 prog w h a (λk=>M.any (· == k)) M.length
section
variable {X:Cx}{pins:List (Addr×Obj)}{σ:L2.St}{H:Hp}{s:Shared}
theorem Inv.drawn (I:Inv X pins σ H s)(d:kS):Inv X pins σ H {s with drawn:=d}:=⟨I.ok,I.os,I.bare,I.base,I.loc,I.cell,I.free,I.freeC,I.pin,I.hok,I.len⟩
inductive I_call_setL (K:aa) (P0:Program) (w0:World) (xs:TL) (H:Hp) (Q:VK):Prop
 |mk (a:Addr) (ns:TV):(xs=[.ref a])->(Wp K H a (ns.map V.int))->(ns.length<1000)->(∀p,H p=none->Q (.ref p) (upd H p (Zcl P0 w0 p (Yy ns ns.length))))->I_call_setL K P0 w0 xs H Q
theorem ZaL (U:X.calm=true):Yd X (.type "set") (_root_.L2.I_call_setL X.K X.prog X.w):=by
 intro pins s σ H xs us Q I r h;obtain⟨a,ns,rfl,Y,hn,q⟩:=h;obtain⟨u,rfl,ru⟩:=vals1 r;cases ru;obtain⟨j,M,p,hz⟩:=I.list Y;have O:j.toArray.size=ns.length:=by rw[Zh,<-M.length,Za]
 refine PyS.Zck (I.ok.hd U) p.isList (ns:=ns) (by simpa using VS M) (by rw[O];unfold scanBound;omega) λh' tk ⟨J,e2⟩=>?_;rw[O] at J;refine⟨.ref _,_,I.laid (a:=s.heap.objs.size) (o:=Zcl X.prog X.w s.heap.objs.size (Yy ns ns.length)) (t':=tk) (λb o e=>e2 b o (Zp e) e) (Zq _) ⟨J,?_,λh1 h2 x k=>x.keep k⟩,rfl,q _ (I.hok.fresh (Zq _))⟩;obtain⟨es,ep,t,⟨o,e,_⟩,_⟩:=J;exact⟨o,e⟩
inductive I_call_sortS (P0:Program) (w0:World) (xs:TL) (H:Hp) (Q:VK):Prop
 |mk (a:Addr) (M:TV):(xs=[.ref a])->(H a=some (Zcl P0 w0 a M))->(M.Nodup)->(M.length<64)->(∀l ns,H l=none->bJ ns M->ns.Pairwise (· ≤ ·)->Q (.ref l) (upd H l (.lst (ns.map V.int))))->I_call_sortS P0 w0 xs H Q
theorem UU (hc:X.calm=true):Yd X (.builtin "sorted") (_root_.L2.I_call_sortS X.prog X.w):=by
 intro pins s σ H xs us Q I r h;obtain⟨a,M,rfl,ha,hn,Y,q⟩:=h;obtain⟨u,rfl,ru⟩:=vals1 r;cases ru;obtain⟨J,_,_⟩:=(show Yk X.prog X.w H s.heap a (Zcl X.prog X.w a M) from I.hok a _ ha);obtain⟨es,ep,t,J⟩:=J;have O:∀v∈PyS.Xz es,∃k tk,v=.int k tk:=λv hv=>by
  obtain⟨e,he,rfl⟩:=az.mp hv;obtain⟨⟨k,hk,_⟩,_⟩:=J.el e he;obtain⟨tk,et⟩:=iX hk;exact⟨k,tk,et⟩
 have m5:=PyS.Zip O;have hp:bJ ((PyS.Xz es).map PyS.ZdZ) M:=by
  refine Vw hn (λx hx=>?_) ?_
  ·have hS:M.any (· == x)=true:=aZ.mpr ⟨x,hx,by simp⟩
   obtain⟨e,he,hk⟩:=(J.mem x).mp hS;obtain⟨tk,et⟩:=iX hk;refine az.mpr ⟨e.2,az.mpr ⟨e,he,rfl⟩,?_⟩;rw[et];rfl
  ·unfold PyS.Xz
   rw[Za,Za,Zr];exact J.sz
 refine PyS.ZdM (I.ok.hd hc) (by rw[J.sz];exact Y) J.at_ J.wk m5 λD h' dr tk out j c hD kp m6 hi U hP=>?_;have hl:ZO (j.map V.int) out:=ZaT hi;have sz:=Ja;have m7:j.length=M.length:=(U.trans hp).length_eq;refine⟨.ref D,_,(I.laid (a:=D) (o:=.lst (j.map V.int)) (t':=tk) kp hD ⟨by rw[Za];omega,out,c,hl,m6⟩).drawn dr,rfl,q _ j (I.hok.fresh hD) (U.trans hp) hP⟩
end
section
variable {X:Cx}{pins:List (Addr×Obj)}{σ:L2.St}{H:Hp}{s:Shared}
end
section
variable {X:Cx}
end
theorem Wd:∀ns:TV,ba (ns.map aI)=true
 | []=>rfl
 |n::ns=>by
  show (eV (.int n) && ba (ns.map aI))=true;rw[Wd ns];rfl
theorem UT (ns:TV):eV (.tuple (ns.map aI))=true:=Wd ns
theorem Wz:∀yss:TZ,ba (yss.map λns=>c6 (ns.map aI))=true
 | []=>rfl
 |y::yss=>by
  show (eV (.tuple (y.map aI)) && ba (yss.map λns=>c6 (ns.map aI)))=true;rw[Wz yss,UT];rfl
theorem UJ:∀ns:TV,aV (ns.map aI)<=1
 | []=>by decide
 |n::ns=>by
  have:=UJ ns;show max (bU (.int n)) (aV (ns.map aI))<=1;have e:bU (.int n)<=1:=by simp[bU]
  omega
end L2
namespace L2
open PySem
theorem Zf9 (ns:TV):bU (.tuple (ns.map aI))<=60:=by
 have:=UJ ns;show aV (ns.map aI)+1<=60;omega
end L2
namespace PyZ
open PySem
theorem U5 (l:Addr)(items:Array Value)(x:Value)(e:Value->Bool)(j:Nat)(hj:j<items.size)(J:e items[j]=true)(M:∀(m:Nat) (hm:m<items.size),m<j->e items[m]=false) :
  Meets (cB.«tuple.index» {pos:=[aK l,x]}) λA R s=>
   s.heap.IsTuple l items/\(∀(y:Value),y∈items->j5 A.in1 s y x (e y))/\
    R (Except.ok (Flow.ret (gN (↑j) s.toks))) {heap:=s.heap,gens:=s.gens,drawn:=s.drawn,toks:=s.toks+1,os:=s.os}:=by
 intro m6 w A R s h;obtain⟨hl,he,h⟩:=h;obtain⟨oa,ha,_,na,da⟩:=hl;unfold cB.«tuple.index»;refine Zl ?_;show wpAny _ _ (pure (aK l,[x])) _ _ s;refine Zm ?_;show wpAny _ _ (iP (aK l) >>= _) _ _ s;refine Zl ?_;unfold iP;refine Zl (gH ha da ?_);refine Zm ?_;show wpAny _ _ (pure 0 >>= _) _ _ s;refine Zl (Zm ?_);show wpAny _ _ (pure items.size >>= _) _ _ s;refine Zl (Zm ?_);refine Zl ?_;rw[lq,Std.Legacy.Range.forIn_eq_forIn_range'];have O:(c9 ([0:items.size]:iI).start ([0:items.size]:iI).size ([0:items.size]:iI).step)=c9 0 items.size:=by
  show c9 0 ((items.size-0+1-1) / 1) 1=_;rw[Nat.div_one,fg,dz]
 rw[O];refine wpAny_forIn_list _ (λrest b U=>U=s/\b=(none,())/\∃k,rest=c9 k (items.size-k)/\k<=j) _ ?_ ?_ _ _ ⟨rfl,rfl,0,rfl,aU _⟩
 ·rintro i rest b U ⟨rfl,rfl,k,q,hk⟩
  have hs:items.size-k=(items.size-(k+1))+1:=by omega
  rw[hs,dW] at q;obtain⟨rfl,rfl⟩:=List.cons.inj q;have Y:i<items.size:=by omega
  rw[aP Y];show wpAny _ _ (eqBool items[i] x >>= _) _ _ _;refine Zl (he items[i] (i8 Y) _ _ _ _ ?_);by_cases m5:i=j
  ·subst m5
   rw[J,if_pos rfl];refine Zl ?_;unfold retInt;refine Zl (wpAny_mkInt ?_);refine Zm ?_;refine Zm ?_;show wpAny _ _ (pure _) _ _ _;exact Zm h
  ·rw[M i Y (by omega),if_neg aH]
   refine Zm ?_;exact⟨rfl,rfl,i+1,rfl,by omega⟩
 ·rintro b U ⟨rfl,rfl,k,q,hk⟩
  have:items.size-k=0:=by
   have:=congrArg a6 q;rw[List.length_range'] at this;exact this.symm
  omega
end PyZ
namespace L2
open PySem PySem.Spec PyProof.Rows
section
variable {X:Cx}
inductive ZhB (K:aa) (x:V) (vs:TL) (H:Hp) (Q:VK):Prop
 |mk (p:_) (xs:_) (y:_) (j:Nat):(x=.ref p)->(vs=[y])->(Xw K H p xs)->(Vz y=true)->(xs.all Vz=true)->(j<xs.length)->((∀z,xs[j]?=some z->eqV z y=true))->((∀m z,m<j->xs[m]?=some z->eqV z y=false))->(Q (.int j) H)->ZhB K x vs H Q
theorem ZfR:MtR X "tuple.index" (ZhB X.K):=by
 intro n6 s σ H x vs v us Q I rx rv h;obtain⟨p,xs,y,j,rfl,rfl,hq,fy,fs,hj,h1,h2,q⟩:=h;cases rx;obtain⟨u,rfl,ru⟩:=rv.one;obtain⟨J,r,pl,hz⟩:=I.tuple hq;have hl:=r.length;have M:∀(m:Nat) (z:V),xs[m]?=some z->Vz z=true:=λm z hm=>aR.mp fs z (av hm);have eu:∀(m:Nat) (hm:m<J.toArray.size),∃z,xs[m]?=some z/\eqU y J.toArray[m]=eqV z y:=λm hm=>by
  have O:m<xs.length:=by rw[hl];simpa using hm
  obtain⟨w,hw,m6⟩:=r.get (Zf O);have m7:J.toArray[m]=w:=by
   have:=(ac.mp hw).2;simpa using this
  exact⟨_,Zf O,by rw[m7];exact ZiH m6 (M m _ (Zf O))⟩
 have m5:j<J.toArray.size:=by rw[Zh,<-hl];exact hj
 have m8:s.TypeIs (.ref p) "tuple":=mR pl;refine gL eQ m8 F.entry_tuple_index (F.args_tuple_index_2 _ _) (PyZ.U5 p J.toArray u (eqU y) j m5 ?_ ?_) ⟨pl,λw hw=>ZcT ru fy r fs w (by simpa using hw),?_⟩
 ·obtain⟨z,U,Y⟩:=eu j m5
  rw[Y];exact h1 z U
 ·intro m hm m9
  obtain⟨z,U,Y⟩:=eu m hm;rw[Y];exact h2 m z m9 U
 ·exact⟨.int j,H,I.kept (t':=s.toks+1) λb o e=>e,⟨_,rfl⟩,q⟩
inductive ZhE (K:aa) (x:V) (vs:TL) (H:Hp) (Q:VK):Prop
 |mk (p:_) (xs:_) (ds:_) (dy:_) (y:_) (j:Nat):(x=.ref p)->(vs=[y])->(H p=some (.lst xs))->(Wf K H xs ds)->(Vs K H y dy)->(ba ds=true)->(dy.canLay0=true)->(dy.depth<=60)->(j<ds.length)->((∀d,ds[j]?=some d->d.eqv dy=true))->((∀m d,m<j->ds[m]?=some d->d.eqv dy=false))->(Q (.int j) H)->ZhE K x vs H Q
theorem ZfS (hu:X.A.units+64<cLine):MtR X "list.index" (ZhE X.K):=by
 intro m6 s σ H x vs v us Q I rx rv h;obtain⟨p,xs,ds,dy,y,j,rfl,rfl,hp,hs,hd,c1,c2,dp,hj,h1,h2,q⟩:=h;cases rx;obtain⟨u,rfl,ru⟩:=rv.one;obtain⟨z,J,n,r,hl,e⟩:=I.lstM hp;obtain⟨bs,r1⟩:=I.reads hd ru;obtain⟨as,ra⟩:=I.readsAll hs r;have hm:=lW ds J as c1 ra;have hlen:J.length=ds.length:=by rw[<-hm,Za]
 have M:∀(m:Nat) (U:m<J.toArray.size),ds[m]?=some (iY s.heap J.toArray[m]):=λm U=>by
  have Y:m<J.length:=by simpa using U
  rw[<-hm,Zc,Zf Y];simp
 have O:j<J.toArray.size:=by rw[Zh,hlen];exact hj
 have sz:=Xp;refine gL ii ⟨_,e,rfl⟩ F.entry_list_index (F.args_list_index_2 _ _) (SeqAt.list_indexAt p J.toArray n none #[] u (λy=>(iY s.heap y).eqv dy) j O (by omega) (h1 _ (M j O)) λm U m5=>h2 m _ m5 (M m U)) ⟨e,mC (by simpa using ra) r1 c1 c2 (by omega),?_⟩;exact⟨.int j,H,I.kept (t':=s.toks+1) λb o e=>e,⟨_,rfl⟩,q⟩
theorem ZlQ (K:aa)(j:X.K=K:=by rfl):MtR X "tuple.index" (ZhB K):=j▸ZfR
theorem Zog (K:aa)(j:X.A.units+64<cLine)(q:X.K=K:=by rfl):MtR X "list.index" (ZhE K):=q▸ZfS j
end
end L2
namespace PyZ
open PySem PyProof PyProof.Rows
def VD (n:Nat)(cmp:Nat->Nat->Bool){α:Type}:jM α->Option α
 | .ret a=>some a
 | .ask i j k=>if i<n/\j<n then VD n cmp (k (cmp i j)) else none
theorem ZaC {α:Type}{n:Nat}{cmp:Nat->Nat->Bool}{ask:Nat->Nat->(Bool->Shared->Prop)->Shared->Prop}{s:Shared}(h:∀i j C,i<n->j<n->C (cmp i j) s->ask i j C s):∀(t:jM α) (a:α) (Q:α->Shared->Prop),VD n cmp t=some a->Q a s->W.KasT.kasWp ask t Q s
 | .ret b,a,Q,e,q=>by
  cases (ax e);exact q
 | .ask i j k,a,Q,e,q=>by
  rw[VD] at e;by_cases J:i<n/\j<n
  ·rw[if_pos J] at e
   exact h i j _ J.1 J.2 (ZaC h (k (cmp i j)) a Q e q)
  ·rw[if_neg J] at e
   cases e
def Zd5 (fin:Bool):TV->TV->Bool
 | [],_=>fin
 |_::_,[]=>fin
 |x::j,y::q=>if x=y then Zd5 fin j q else decide (x<y)
def ltB (xs ys:TV):Bool:=Zd5 (decide (xs.length<ys.length)) xs ys
section
variable {prog:Program}{w:World}{A:Around}{E:TU}{s:Shared}
def Zgd (h:Heap)(L:Addr):Heap:={h with objs:=h.objs.extract 0 L}
theorem X1 {h:Heap}{L b:Addr}(hb:b<L):(Zgd h L).get? b=h.get? b:=by
 unfold Zgd Heap.get?;have:(h.objs.extract 0 L)[b]?=h.objs[b]?:=by
  rw[Array.getElem?_extract];by_cases j:b<h.objs.size
  ·simp only[fg,jg]
   rw[if_pos (show b<min L h.objs.size from Nat.lt_min.mpr ⟨hb,j⟩)]
  ·rw[cy (jy j)]
   split <;> simp_all
 simp only[this]
theorem ZaI {h:Heap}{L b:Addr}(hb:L<=b):(Zgd h L).get? b=none:=by
 unfold Zgd Heap.get?;have:(h.objs.extract 0 L)[b]?=none:=by
  apply cy;rw[me];exact aW (by rw[fg];exact jS ..) hb
 simp only[this]
def Yo (h:Heap)(L:Addr):List (Addr×Obj):=(ae h.objs.size).filterMap λa=>if L<a then (h.get? a).map λo=>(a,o) else none
theorem Jy {h:Heap}{L:Addr}{p:Addr×Obj}:p∈Yo h L↔L<p.1/\h.get? p.1=some p.2:=by
 unfold Yo;rw[iR];constructor
 ·rintro⟨a,J,e⟩
  by_cases j:L<a
  ·rw[if_pos j] at e
   cases q:h.get? a with
   |none=>rw[q] at e;cases e
   |some o=>
    rw[q] at e;cases (ax e);exact⟨j,q⟩
  ·rw[if_neg j] at e
   cases e
 ·rintro⟨j,e⟩
  refine⟨p.1,af.mpr (Zp e),?_⟩;rw[if_pos j,e];rfl
end
end PyZ
namespace L2
open PySem PySem.Spec PyProof.Rows
theorem Yk.there {P:Program}{w:World}{H:Hp}{h:Heap}{a:Addr}{o:HO}(x:Yk P w H h a o):∃j,h.get? a=some j:=by
 cases o with
 |lst J=>obtain⟨_,_,_,_,e⟩:=x;exact⟨_,e⟩
 |tup J=>obtain⟨_,_,_,j,e,_⟩:=x;exact⟨_,e⟩
 |dK q=>obtain⟨_,_,_,_,o,_,_,e,_⟩:=x;exact⟨_,e⟩
 |dT q=>obtain⟨_,_,_,_,o,_,_,e,_⟩:=x;exact⟨_,e⟩
 |set S n=>obtain⟨o,_,_,_,e,_⟩:=x;exact⟨_,e⟩
 |ins C M fs=>obtain⟨_,_,_,e,_⟩:=x;exact⟨_,e⟩
 |own y=>obtain⟨_,e⟩:=x;exact⟨_,e⟩
 |xd fs=>obtain⟨_,⟨_,_,_,e,_⟩,_⟩:=x;exact⟨_,e⟩
 |rng lo O=>obtain⟨_,_,_,e⟩:=x;exact⟨_,e⟩
 |frz j u=>obtain⟨e,_⟩:=x;exact⟨_,e⟩
 |tbl U=>exact⟨_,(show h.get? a=some _ from x)⟩
 |met f y=>exact⟨_,(show h.get? a=some _ from x)⟩
 |ext Y=>obtain⟨_,⟨_,e⟩,_⟩:=x;exact⟨_,e⟩
section
variable {X:Cx}{pins:List (Addr×Obj)}{σ:St}{H:Hp}{s:Shared}
theorem Inv.newL {D:Addr}{c:Nat}{h':Heap}{m:TR}{ys:TL}{U:List Value}(I:Inv X pins σ H s)(hm:s.heap.Ns X.env.locals m)
  (hl:∀(i:Nat) (x:Str) (v:V),X.N[i]?=some x->σ[i]?=some (some v)->Vis X.env.scope x->∃u,RelV v u/\Look X.env s.heap m x u)
  (dn:s.heap.get? D=none) (dL:D≠X.env.locals) (kept:∀b o,b≠X.env.locals->s.heap.get? b=some o->h'.get? b=some o) (m8:h'.Ns X.env.locals m) (hz:ys.length<=sizeLine) (hv:ZO ys U) (hD:h'.get? D=some {cls:=.type "list",data:=.seq U.toArray c}) :
  Inv X pins σ (upd H D (.lst ys)) {s with heap:=h'}/\H D=none:=by
 have m5:H D=none:=by
  cases e:H D with
  |none=>rfl
  |some o=>
   obtain⟨ob,e2⟩:=(I.hok D o e).there;rw[dn] at e2;cases e2
 have Y:∀{b:Addr}{o:Obj},s.heap.get? b=some o->b≠D:=λ{b o} e z=>by rw[z,dn] at e;cases e
 have M:∀{b:Addr}{o:HO},H b=some o->b≠D:=λ{b o} e z=>by rw[z,m5] at e;cases e
 have m6:∀{b:Addr}{o:HO},H b=some o->b≠X.env.locals:=λ{b o} e z=>by rw[z,I.free] at e;cases e
 have bL:∀{b:Addr}{o:Obj},X.s₀.heap.get? b=some o->b≠X.env.locals:=λ{b o} e=>ar (aF (Zp e) I.ok.above);refine⟨⟨I.ok,I.os,I.bare,⟨λb o e n hb O=>?_,λb o e n hb O=>?_,λb o e n O=>?_,λb o e O=>?_,λb xs e=>?_,λb o u e=>?_,λb ps e=>?_⟩,⟨m,m8,λj y v e1 e2 e3=>?_⟩,λy J e=>?_,?_,λy J e=>?_,λp hp=>?_,λb ob e=>?_,I.len⟩,m5⟩
 ·exact kept b o (bL e) (I.base.keep b o e n hb O)
 ·obtain⟨sl,e1⟩:=I.base.slot b o e n hb O
  exact⟨sl,kept b _ (bL e) e1⟩
 ·obtain⟨o',e1⟩:=I.base.there b o e O
  rw[Zy (Y e1)];exact I.base.free b o e n O
 ·obtain⟨o',e1⟩:=I.base.there b o e O
  exact⟨o',kept b _ (bL e) e1⟩
 ·have:=I.base.tups b xs e
  rw[Zy (M this)];exact this
 ·have:=I.base.frzs b o u e
  rw[Zy (M this)];exact this
 ·obtain⟨m7,this⟩:=I.base.tbls b ps e
  exact⟨m7,by rw[Zy (M this)];exact this⟩
 ·obtain⟨u,r,q⟩:=hl j y v e1 e2 e3
  refine⟨u,r,?_⟩;rcases q with ⟨k,e⟩|⟨k,J,e,z⟩
  ·exact .inl ⟨k,e⟩
  ·obtain⟨o,g,rest⟩:=z
   exact .inr ⟨k,J,e,o,kept J o (I.cne y J e) g,rest⟩
 ·obtain⟨w',o,g,rest⟩:=I.cell y J e
  exact⟨w',o,kept J o (I.cne y J e) g,rest⟩
 ·rw[Zy (bE dL)]
  exact I.free
 ·obtain⟨w',o,g,rest⟩:=I.cell y J e
  rw[Zy (Y g)];exact I.freeC y J e
 ·obtain⟨e,n,ne,nf,d⟩:=I.pin p hp
  exact⟨kept p.1 _ ne e,by rw[Zy (Y e)];exact n,ne,nf,d⟩
 ·by_cases hb:b=D
  ·subst hb
   rw[Zu] at e;cases (ax e);exact⟨hz,U,c,hv,hD⟩
  ·rw[Zy hb] at e
   refine (I.hok b ob e).stay (λJ w' hc q=>kept J w' ?_ q) (λJ q=>?_) λJ xs q=>?_
   ·rcases hc with rfl|hc
    ·exact m6 e
    ·exact m6 hc
   ·rw[Zy (M q)]
    exact q
   ·rw[Zy (M q)]
    exact q
theorem JZ:∀{as:TN}{us:List Value},ZO (as.map V.ref) us->us=as.map aK
 | [],_,h=>by cases h;rfl
 |a::as,_,h=>by
  cases h with
  |cons r t=>rw[show _=aK a from r,JZ t];rfl
theorem V2:∀{ns:TV}{us:List Value},ZO (ns.map V.int) us->bB us ns
 | [],_,h=>by cases h;exact .nil
 |n::ns,_,h=>by
  cases h with
  |cons r t=>
   obtain⟨k,rfl⟩:=r;exact .cons n k (V2 t)
theorem Vd:∀as:TN,ZO (as.map V.ref) (as.map aK)
 | []=>.nil
 |a::as=>.cons rfl (Vd as)
end
section
variable {X:Cx}
def Tz (H:Hp)(a:Addr)(ys:TL):Prop:=∃o:Obj,H a=some (.frz o (.tup ys))/\o.cls=.type "tuple"/\o.dict=none
theorem Tz.sq {K:aa}{H:Hp}{a:Addr}{ys:TL}(h:Tz H a ys):Xw K H a ys:=by
 obtain⟨o,h,_⟩:=h;exact .inl (.inr ⟨o,h⟩)
theorem Tz.mono {H j:Hp}{a:Addr}{ys:TL}(s:Zw H j)(h:Tz H a ys):Tz j a ys:=by
 obtain⟨o,h,r⟩:=h;exact⟨o,s _ _ h,r⟩
inductive I_call_tupleZ (K:aa) (xs:TL) (H:Hp) (Q:VK):Prop
 |mk (p:_) (ys:_):(xs=[.ref p])->(Wp K H p ys)->(∀l H',H l=none->Zw H H'->Tz H' l ys->Q (.ref l) H')->I_call_tupleZ K xs H Q
theorem Zdk:Yd X (.type "tuple") (_root_.L2.I_call_tupleZ X.K):=by
 intro j s O H xs us Q I r h;obtain⟨p,ys,rfl,hq,q⟩:=h;obtain⟨u,rfl,rx⟩:=vals1 r;cases rx;obtain⟨J,U,pl,hz⟩:=I.list hq;have Y:=U.length;refine call_tuple_list pl.isList (λM kp=>?_) (by simp only[Zh] <;> omega)
 have I1:Inv X j O H {s with heap:=M}:=I.kept (t':=s.toks) kp;have hf:=I1.hok.fresh (Zq _);have I2:Inv X j O (upd H M.objs.size (.frz {cls:=.type "tuple",data:=.seq J.toArray} (.tup ys))) {s with heap:=M.push {cls:=.type "tuple",data:=.seq J.toArray}}:=
  I1.laid (t':=s.toks) (λb o e=>Zn _ e) (Zq _) ⟨Zo _ rfl,hz,J,U,ki _ _⟩
 exact⟨.ref M.objs.size,_,I2,rfl,q _ _ hf (Zw.upd hf) ⟨_,Zu,rfl,rfl⟩⟩
variable {o e:Expr}{es:List Expr}{to:TE}{t:TA}{name:Str}{apos cpos:Pos}{id:String}{r:V->TL->Hp->VK->Prop}
inductive Zop (r:V->TL->Hp->VK->Prop) (t:TA) (σ:St) (Q:VK) (x:V) (H:Hp):Prop
 |mk:(∃p ys,x=.ref p/\Tz H p ys)->(t σ H λxs H2=>r x xs H2 Q)->Zop r t σ Q x H
def ZpB (r:V->TL->Hp->VK->Prop)(to:TE)(t:TA):TE:=λj H Q=>to j H (Zop r t j Q)
theorem ZdX (pa:PlainAttrs "tuple")(slot:Slot "tuple" name id)(U:typeOf (.builtin id)=pure (.type "method_descriptor"))(hm:MtR X id r)(ho:PE X o to)(ha:PA X (e::es) t)
  (J:attributeBase o name X.env (eval o X.env)=eval o X.env:=by rfl)
  (O:((backTo cpos (starEach (e::es) X.env)).all (λx=>!x.1) && (backToKw cpos (keywordEach [] X.env)).all (λx=>x.1.isSome)
   && decide ((e::es).length+([]:List Keyword).length+(if ([]:List Keyword).isEmpty then 0 else 1)<30))=true:=by rfl)
  (M:(apos.endLine == cpos.line)=true:=by rfl) (hs:starEach (e::es) X.env=(false,eval e X.env)::starEach es X.env:=by rfl) (q:(backTo cpos (starEach es X.env)).any (·.1)=false:=by rfl) :
  PE X (.Call (.Attribute o name apos) (e::es) [] cpos) (ZpB r to t):=by
 intro j s Y H Q I h;refine mr J O M rfl (Yh (ho j s Y H _ I h) λv s1 ⟨x,H1,I1,r1,ty,q1⟩=>?_);obtain⟨p,ys,rfl,ob,m5,hc,hd⟩:=ty;cases r1;obtain⟨eo,_⟩:=I1.hok p _ m5;refine⟨"tuple",id,pa,slot,U,⟨ob,eo,hc⟩,λa e=>?_,?_⟩
 ·cases e
  exact⟨ob,eo,hd⟩
 have hA:=ha cpos j s1 Y H1 _ I1 q1;rw[hs] at hA ⊢;refine kB (by show (false || (backTo cpos (starEach es X.env)).any (·.1))=false;rw[q] <;> rfl) (kT ?_)
 exact Yh hA λus s2 ⟨vs,H2,I2,r2,q2⟩=>hm j s2 Y H2 (.ref p) vs (.ref p) us Q I2 rfl r2 q2
end
end L2
namespace PyZ
open PySem PySem.Spec PyProof.Rows
section
variable {prog:Program}{w:World}{A:Around}{E:TU}{s:Shared}
theorem Zab {R:List Value->Shared->Prop}{r:Addr}{a b c:Int}{t u v:Tok}{n:Nat}(hh:A.handled=none)(hr:IsRange s.heap r a b c t u v)(O:cq a b c=true)
  (hn:a9 a b c=n) (Y:n<=2 ^ 24)
  (h:∀(h':Heap) (tk:Nat) (ZJ:Array Value),(∀b o,s.heap.get? b=some o->h'.get? b=some o)->g9 (λi v=>∃t,v=.int (a+i*c) t) ZJ n->R ZJ.toList {s with heap:=h',toks:=tk}) :
  wpAny (model prog w) A (collect (.ref r)) R E s:=by
 unfold collect;refine Zl (gI (bv PySem.F.entry_proto_collect ?_));rw[bw jo _];show wpAny _ A.in1 (newList [] >>= λl=>again (.builtin "list.__iadd__" ⟨[l,.ref r],[]⟩)) _ _ s;refine Zl (bA ?_);refine Zm ⟨cW eC _,bv PySem.F.entry_list_iadd ?_⟩;rw[bw eC _];have U:(s.heap.push {cls:=.type "list",data:=.seq ([]:List Value).toArray}).get? s.heap.objs.size=some {cls:=.type "list",data:=.seq #[]}:=Zo _ rfl;show wpAny _ A.in1 (bT (.ref s.heap.objs.size) (.ref r) (.ref s.heap.objs.size)) _ _ _;have m5:=wpAny_extend_range (prog:=prog) (w:=w) (A:=A) (s:={s with heap:=s.heap.push {cls:=.type "list",data:=.seq ([]:List Value).toArray}})
  (R:=λ(q:Result) (s':Shared)=>∃(h':Heap) (tk:Nat) (j:Array Value) (c':Nat),q=.ok (.ret (.ref s.heap.objs.size))/\s'={s with heap:=h',toks:=tk}/\
   (∀b o,s.heap.get? b=some o->h'.get? b=some o)/\h'.get? s.heap.objs.size=some {cls:=.type "list",dict:=none,data:=.seq j c',slots:=#[]}/\g9 (λi v=>∃t,v=.int (a+i*c) t) j n)
  hh (Zn _ hr) O hn Y s.heap.objs.size (.ref s.heap.objs.size) 0 U
  (λh' tk j c' hk M J=>⟨h',tk,j,c',rfl,rfl,λb o e=>hk b o (ar (Zp e)) (Zn _ e),M,J⟩)
 refine cm m5 (λm6 s' x=>?_) λe s' x=>?_
 ·cases m6 with
  |done f=>
   obtain⟨h',tk,j,c',e,rfl,hk,M,J⟩:=x;cases e;show wpAny _ A (load s.heap.objs.size >>= _) _ _ _;refine Zl (iB M ?_);exact Zm (h h' tk j hk J)
  |again m7=>
   refine⟨x.1,dM x.2 λq m8 y=>?_⟩;obtain⟨h',tk,j,c',rfl,rfl,hk,M,J⟩:=y;show wpAny _ A (load s.heap.objs.size >>= _) _ _ _;refine Zl (iB M ?_);exact Zm (h h' tk j hk J)
 ·obtain⟨_,_,_,_,e',_⟩:=x
  cases e'
theorem JS {Q₁:TU}{r:Addr}{a b c:Int}{t u v:Tok}{n:Nat}(hh:A.handled=none)(Y:IsRange s.heap r a b c t u v)(j:cq a b c=true)
  (hn:a9 a b c=n) (J:n<=2 ^ 24)
  (h:∀(h':Heap) (tk:Nat) (ZJ:Array Value),(∀b o,s.heap.get? b=some o->h'.get? b=some o)->g9 (λi v=>∃t,v=.int (a+i*c) t) ZJ n->
   Q₁ (.ref h'.objs.size) {s with heap:=h'.push {cls:=.type "tuple",data:=.seq ZJ},toks:=tk}) :
  codeAny (model prog w) A (.call (.builtin "tuple.__new__") ⟨[.type "tuple",.ref r],[]⟩) (wants Q₁ E) s:=by
 refine iK ?_;show wpAny _ A.in1 (do checkBuiltinCall "tuple.__new__" ⟨[.type "tuple",.ref r],[]⟩;again (.builtin "tuple.__new__" ⟨[.type "tuple",.ref r],[]⟩)) _ _ s
 refine Zl (j8 (PySem.F.newCall_tuple_1 _) (Zm ⟨cW (show plainId "tuple.__new__"=true by decide +kernel) _,bv PySem.F.entry_tuple_new ?_⟩));rw[bw (show plainId "tuple.__new__"=true by decide +kernel) _];have m5:=sub_tuple_self;have M:=init_tuple_lookup;have m6:=madeHere_tuple;have O:s.TypeIs (.ref r) "range":=⟨_,Y,rfl⟩;have U:n<=sizeLine:=by
  have:(16777216:Nat)=sizeLine:=by decide
  omega
 wp_walk using iy O,Zab (A:=A.in1) hh Y j hn J
 intro h' tk ZJ hm q;show wpAny _ _ (i5 ZJ.toList.toArray >>= λv=>ret v) _ _ _;unfold i5;refine Zl (bA ?_ (by show ZJ.toList.toArray.size<=sizeLine;simp only[lD];rw[q.1];exact U));refine Zm ?_;have e:ZJ.toList.toArray=ZJ:=by simp
 rw[e];exact h h' tk ZJ hm q
theorem Vp {Q:TU}{r:Addr}{a b c:Int}{t u v:Tok}{n:Nat}(hh:A.handled=none)(hr:IsRange s.heap r a b c t u v)(J:cq a b c=true)
  (hn:a9 a b c=n) (O:n<=2 ^ 24)
  (h:∀(h':Heap) (tk:Nat) (ZJ:Array Value),(∀b o,s.heap.get? b=some o->h'.get? b=some o)->g9 (λi v=>∃t,v=.int (a+i*c) t) ZJ n->
   Q (.ref h'.objs.size) {s with heap:=h'.push {cls:=.type "tuple",data:=.seq ZJ},toks:=tk}) :
  wpAny (model prog w) A (call (.type "tuple") [.ref r]) Q E s:=by
 refine callType_codes (Q₁:=λM j=>j.TypeIs M "tuple"/\Q M j) ik (PySem.F.typeCall_tuple_1 _) PySem.F.entry_object_init
  (JS (A:=A.in1) hh hr J hn O λh' tk ZJ hk U=>⟨⟨_,Zo _ rfl,rfl⟩,h h' tk ZJ hk U⟩) λM j q=>?_
 exact⟨q.1,kx M _,object_init_meets ik.init.lookup ik.made (by decide) prog w A.in1 _ j ⟨q.1,rfl,q.2⟩⟩
end
end PyZ
namespace L2
open PySem PySem.Spec PyProof.Rows
section
variable {X:Cx}
end
end L2
namespace PyY
open PySem
open AutoSeq1 (wpAny_loadPart')
section
variable {prog:Program}{w:World}{A:Around}{E:TU}{s:Shared}
theorem Zd1 {j a:Addr}{k:Nat}{us:Array Value}{y:Value}{Q:TU}(c:s.heap.IsTupleIter j a k)(d:s.heap.IsTuple a us)(e:us[k]?=some y)
  (q:∀g,g.IsTupleIter j a (k+1)->be j s.heap g->Q y {s with heap:=g}):wpAny (model prog w) A (cY (.ref j)) Q E s:=by
 obtain⟨Y,J,cj,dj⟩:=id c;obtain⟨oa,O,_,na,U⟩:=d;unfold cY;refine Zl (bP (name:=dY "__next__") c.typeIs dZ (bm dZ c.typeIs kg ?_ (j6 _)));show wpAny _ _ (field (.ref j) 0 >>= _) _ _ s;refine Zl (dH J dj (x:=.ref a) rfl ?_);show wpAny _ _ (if (aK a == bG)=true then _ else _) _ _ s
 rw[if_neg (show ¬((aK a == bG)=true) from aH)];show wpAny _ _ (field (.ref j) 1 >>= _) _ _ s;refine Zl (dH J dj (x:=.int k 0) rfl ?_);show wpAny _ _ (seqItems? (.ref a) >>= _) _ _ s;refine Zl (gH O U ?_);simp only[Zj,e];refine Zl (dh J dj (by simp) (Zm ⟨y,rfl,Zm (q _ ?_ (bz ..))⟩));refine⟨_,br _ J (cI (bn dj _)),(gC ..).trans cj,?_⟩;rw[bn dj];simp[rawInt]
theorem ZfQ {j a:Addr}{k:Nat}{us:Array Value}{Q:TU}(U:A.handled=none)(c:s.heap.IsTupleIter j a k)(d:s.heap.IsTuple a us)(e:us[k]?=none)
  (q:∀g x,Heap.ExtBut j s.heap g->(∃o,g.get? x=some o/\o.cls=.type "StopIteration")->E (.ref x) {s with heap:=g}):wpAny (model prog w) A (cY (.ref j)) Q E s:=by
 obtain⟨oj,J,cj,dj⟩:=id c;obtain⟨oa,Y,_,na,da⟩:=d;unfold cY;refine Zl (bP (name:=dY "__next__") c.typeIs dZ (bm dZ c.typeIs kg ?_ (j6 _)));show wpAny _ _ (field (.ref j) 0 >>= _) _ _ s;refine Zl (dH J dj (x:=.ref a) rfl ?_);show wpAny _ _ (if (aK a == bG)=true then _ else _) _ _ s
 rw[if_neg (show ¬((aK a == bG)=true) from aH)];show wpAny _ _ (field (.ref j) 1 >>= _) _ _ s;refine Zl (dH J dj (x:=.int k 0) rfl ?_);show wpAny _ _ (seqItems? (.ref a) >>= _) _ _ s;refine Zl (gH Y da ?_);simp only[Zj,e];refine Zl (fe (Zl (dh J dj (by simp) ?_)));show wpAny _ _ (newExc (.type "StopIteration") [] >>= _) _ _ {s with heap:=_};refine Zl ?_;unfold newExc newTuple;refine Zl (bA (Q:=_) ?_ (by size_fits));refine Zl (m:=firstArgMember _ _) (j8 (a:=bG) (by first|rfl|(unfold firstArgMember;rfl)) ?_)
 refine bA (Q:=_) ?_ (by size_fits);unfold raiseNew;refine Zl (wpAny_handled ?_);have M:A.in1.handled=none:=U;rw[M];refine Zl (Zm (wpAny_throw (E:=E) ?_));exact q _ _ (((bz ..).extBut.push _).push _) ⟨_,Zo _ rfl,rfl⟩
theorem Zeg {n j a:Addr}{k:Nat}{us:Array Value}{y J:Value}{Q:Option Value->Shared->Prop}(b:gP s.heap n j k J)(c:s.heap.IsTupleIter j a k)(d:s.heap.IsTuple a us)(e:us[k]?=some y)(nj:n≠j)
  (q:∀g,IsEnumOut g n j ((k:Int)+1) y s.heap.objs.size->g.IsTupleIter j a (k+1)->g.get? s.heap.objs.size=some {cls:=.type "tuple",data:=.seq #[.int k s.toks,y]}->g.objs.size=s.heap.objs.size+1->
   (∀x o,x≠n->x≠j->s.heap.get? x=some o->g.get? x=some o)->Q (some (.ref s.heap.objs.size)) {s with heap:=g,toks:=s.toks+1}):wpAny (model prog w) A (pyNext (.ref n)) Q E s:=by
 have tn:s.TypeIs (.ref n) "enumerate":=⟨_,b,rfl⟩;unfold pyNext;refine Zl (fQ (bP (name:=dY "__next__") tn fv (bm fv tn lZ ?_ (lJ _))));obtain⟨M,O,dr,tk,os⟩:=s;show wpAny _ _ (field (.ref n) 2 >>= _) _ _ _;refine Zl (dH b rfl (x:=.ref j) rfl ?_);refine Zl (Zd1 c d e λU c1 s1=>?_);replace s1:be j M U:=s1;have b1:gP U n j k J:=(s1.2 n nj).trans b;show wpAny _ _ (field (.ref n) 3 >>= _) _ _ ⟨U,O,dr,tk,os⟩;refine Zl (dH b1 rfl (x:=rawInt k) rfl ?_);show wpAny _ _ (field (.ref n) 4 >>= _) _ _ ⟨U,O,dr,tk,os⟩;refine Zl (dH b1 rfl (x:=.none) rfl ?_);show wpAny _ _ (mkInt k >>= _) _ _ ⟨U,O,dr,tk,os⟩;refine Zl (wpAny_mkInt ?_);show wpAny _ _ (setField (.ref n) 3 (rawInt ((k:Int)+1)) >>= _) _ _ ⟨U,O,dr,tk+1,os⟩;refine Zl (fc b1 (by simp) λg2 b2 s2=>?_);replace s2:be n U g2:=s2;replace b2:gP g2 n j ((k:Int)+1) J:=b2;show wpAny _ _ (setField (.ref n) 4 .none >>= _) _ _ ⟨g2,O,dr,tk+1,os⟩;refine Zl (fc b2 (by simp) λY b3 s3=>?_);replace s3:be n g2 Y:=s3;replace b3:gP Y n j ((k:Int)+1) J:=b3;show wpAny _ _ (newTuple [.int k tk,y] >>= _) _ _ ⟨Y,O,dr,tk+1,os⟩;refine Zl (wpAny_newTuple ?_);have b4:gP (Y.push {cls:=.type "tuple",data:=.seq #[.int k tk,y]}) n j ((k:Int)+1) J:=Zn _ b3;generalize z4:Y.push {cls:=.type "tuple",data:=.seq #[.int k tk,y]}=g4 at b4;have sz:Y.objs.size=M.objs.size:=by rw[s3.1,s2.1,s1.1]
 have nl:n<M.objs.size:=Zp b;have t4:g4.get? M.objs.size=some {cls:=.type "tuple",data:=.seq #[.int k tk,y]}:=by
  rw[<-z4,<-sz];exact Zo _ rfl
 have w4:g4.objs.size=M.objs.size+1:=by
  rw[<-z4,bF,sz]
 have k4:∀x o,x≠n->x≠j->M.get? x=some o->g4.get? x=some o:=λx o xn xj hx=>by
  rw[<-z4];exact Zn _ (s3.extBut x o xn (s2.extBut x o xn (s1.extBut x o xj hx)))
 have c4:g4.IsTupleIter j a (k+1):=by
  obtain⟨o,ho,r⟩:=(c1.extBut s2.extBut (bE nj)).extBut s3.extBut (bE nj);rw[<-z4];exact⟨o,Zn _ ho,r⟩
 show wpAny _ _ (f9 (.ref n) >>= _) _ _ ⟨g4,O,dr,tk+1,os⟩;rw[sz];clear z4 b3 s3 b2 s2 b1 s1 c1 sz Y g2 U;refine Zl ?_;unfold f9;refine Zl (dH b4 rfl (x:=.none) rfl (Zm ?_));rw[if_pos rfl];refine Zl (fe (Zl (dH b4 rfl (x:=J) rfl ?_)));refine Zl (fc b4 (by simp) λg5 b5 s5=>?_);replace s5:be n g4 g5:=s5;replace b5:gP g5 n j ((k:Int)+1) y:=b5;show wpAny _ _ (fY (.ref n) (.ref M.objs.size) >>= _) _ _ ⟨g5,O,dr,tk+1,os⟩;refine Zl ?_;unfold fY;refine Zl (fc b5 (by simp) λg6 b6 s6=>?_);replace s6:be n g5 g6:=s6;replace b6:IsEnumOut g6 n j ((k:Int)+1) y M.objs.size:=b6;refine fc b6 (by simp) λg7 b7 s7=>?_;replace s7:be n g6 g7:=s7;replace b7:IsEnumOut g7 n j ((k:Int)+1) y M.objs.size:=b7;refine Zl (wpAny_letGo (Zm ⟨_,rfl,Zm (q g7 b7 ?_ ?_ ?_ ?_)⟩))
 ·exact ((c4.extBut s5.extBut (bE nj)).extBut s6.extBut (bE nj)).extBut s7.extBut (bE nj)
 ·exact s7.extBut _ _ (bj nl) (s6.extBut _ _ (bj nl) (s5.extBut _ _ (bj nl) t4))
 ·rw[s7.1,s6.1,s5.1,w4]
 ·exact λx o xn xj hx=>s7.extBut x o xn (s6.extBut x o xn (s5.extBut x o xn (k4 x o xn xj hx)))
theorem Zf7 {n j a:Addr}{k:Nat}{us:Array Value}{old:Value}{Q:Option Value->Shared->Prop}(O:A.handled=none)(b:gP s.heap n j k old)(c:s.heap.IsTupleIter j a k)(d:s.heap.IsTuple a us)(e:us[k]?=none)
  (q:∀g,Heap.ExtBut j s.heap g->Q none {s with heap:=g}):wpAny (model prog w) A (pyNext (.ref n)) Q E s:=by
 have J:s.TypeIs (.ref n) "enumerate":=⟨_,b,rfl⟩;unfold pyNext;refine Zl (fQ (bP (name:=dY "__next__") J fv (bm fv J lZ ?_ (lJ _))));show wpAny _ _ (field (.ref n) 2 >>= _) _ _ _;refine Zl (dH b rfl (x:=.ref j) rfl ?_);refine Zl (ZfQ O c d e λg x U Y=>?_);obtain⟨o,ho,hc⟩:=Y;refine Zl (j3 (T:="StopIteration") (b:=true) ⟨o,ho,hc⟩ isSubtype_stop ?_);exact Zm (q _ U)
theorem Zf6 (a:Addr)(q:Array Value)(n:Nat)(M:Option Addr)(O:Array (Option Value)) :
  Meets (cB.«enumerate.__new__» ⟨[.type "enumerate",.ref a],[]⟩) (λ_ R s=>s.heap.get? a=some {cls:=.type "tuple",dict:=M,data:=.seq q n,slots:=O}/\
   R (.ok (.ret (.ref (s.heap.push {cls:=.type "tuple_iterator",data:=.fields #[.ref a,.int 0 0]}).objs.size)))
    {s with heap:=(s.heap.push {cls:=.type "tuple_iterator",data:=.fields #[.ref a,.int 0 0]}).push {cls:=.type "enumerate",data:=.fields #[.none,.bool false,.ref s.heap.objs.size,rawInt 0,.none,.none]}}):=
 .of_wp λprog w A R s h=>by
  obtain⟨U,Y,dr,tk,os⟩:=s;obtain⟨j,h⟩:=h;have sub:=sub_enumerate;have J:Heap.IsTuple (Shared.heap ⟨U,Y,dr,tk,os⟩) a q:=⟨_,j,rfl,n,rfl⟩
  wp_walk using wpAny_loadPart' j
  refine wpAny_stack_any λst=>Zm ?_;split
  ·rename_i c1 _ _ _ _ _
   cases (c1 == bX "enumerate") <;> (wp_walk using wpAny_loadPart' j,gJ J) <;> exact⟨_,rfl,h⟩
  ·wp_walk using wpAny_loadPart' j,gJ J
   exact⟨_,rfl,h⟩
theorem UW {a:Addr}{us:Array Value}{Q:TU}(O:s.heap.IsTuple a us)
  (h:∀g,gP g (s.heap.objs.size+1) s.heap.objs.size 0 .none->g.IsTupleIter s.heap.objs.size a 0->g.objs.size=s.heap.objs.size+2->(∀b o,s.heap.get? b=some o->g.get? b=some o)->Q (.ref (s.heap.objs.size+1)) {s with heap:=g}) :
  wpAny (model prog w) A (call (.type "enumerate") [.ref a]) Q E s:=by
 obtain⟨⟨U,Y,dt,sl⟩,ha,hc,n,hd⟩:=O;have j:U=.type "tuple":=hc;have q:dt=.seq us n:=hd;subst j q;refine callType_new F.called_enumerate (by decide) (F.typeCall_enumerate_1 _) (F.newCall_enumerate_1 _) (λJ=>kx J _) F.entry_enumerate_new (Zf6 a us n Y sl) ⟨ha,?_⟩;have M:(s.heap.push {cls:=.type "tuple_iterator",data:=.fields #[.ref a,.int 0 0]}).objs.size=s.heap.objs.size+1:=bF ..;show _/\_;rw[M];have he:gP ((s.heap.push {cls:=.type "tuple_iterator",data:=.fields #[.ref a,.int 0 0]}).push {cls:=.type "enumerate",data:=.fields #[.none,.bool false,.ref s.heap.objs.size,rawInt 0,.none,.none]}) (s.heap.objs.size+1) s.heap.objs.size 0 .none:=by
  have z:=Zo (s.heap.push {cls:=.type "tuple_iterator",data:=.fields #[.ref a,.int 0 0]}) (o:={cls:=.type "enumerate",data:=.fields #[.none,.bool false,.ref s.heap.objs.size,rawInt 0,.none,.none]}) rfl;rw[M] at z;exact z
 exact⟨⟨_,he,rfl⟩,h _ he ⟨_,Zn _ (Zo _ rfl),rfl,rfl⟩ (by rw[bF,M]) λb o y=>Zn _ (Zn _ y)⟩
end
end PyY
namespace L2
open PySem PySem.Spec PyProof.Rows
section
variable {X:Cx}{pins:List (Addr×Obj)}{σ:St}{H:Hp}{s:Shared}{h':Heap}
theorem Inv.turnLay {t':Nat}{ts:TN}{T:Addr}{o:HO}(I:Inv X pins σ H s)(k:∀b u,b∉ts->s.heap.get? b=some u->h'.get? b=some u)(ht:∀b∈ts,∃u,h'.get? b=some u)(O:∀b∈ts,Zad X pins H b)(U:s.heap.objs.size<=T)
  (M:Yk X.prog X.w (upd H T o) h' T o):Inv X pins σ (upd H T o) {s with heap:=h',toks:=t'}:=by
 have j:H T=none:=I.hok.fresh U;have J:∀b u,H b=some u->b∉ts:=λb u e z=>by
  have:=(O b z).1;rw[e] at this;cases this
 refine I.call (ch:=ts) (g':=s.gens) (d':=s.drawn) ⟨λb u e _ _ nx=>k b u nx e,λb u e _ _ nx=>⟨u.slots,k b u nx e⟩,λb u e n _=>?_,λb u e nx=>⟨u,k b u nx e⟩,λb Y q=>?_,λb u v q=>?_,λb ps q=>⟨#[],?_⟩⟩
  (λb u e=>?_) I.bare λb hb=>?_
 ·rw[Zy (ar (aF (Zp e) U))]
  exact n
 ·rw[Zy (Yf q j)]
  exact q
 ·rw[Zy (Yf q j)]
  exact q
 ·rw[Zy (Yf q j),q]
  simp
 ·by_cases hb:b=T
  ·subst hb
   rw[Zu] at e;cases e;exact M
  ·rw[Zy hb] at e
   refine (I.hok b u e).stay (λc v hc q=>k c v ?_ q) (λc r=>by rw[Zy (Yf r j)];exact r) λc Y r=>by rw[Zy (Yf r j)];exact r
   rcases hc with z|z
   ·rw[z]
    exact J b u e
   ·exact J c _ z
 ·obtain⟨f0,f1,f2,f3,f4,f5⟩:=O b hb
  exact⟨f3,f1,f4,f5⟩
theorem Inv.turnedL {t':Nat}{ts:TN}(I:Inv X pins σ H s)(k:∀b u,b∉ts->s.heap.get? b=some u->h'.get? b=some u)(J:∀b∈ts,Zad X pins H b):Inv X pins σ H {s with heap:=h',toks:=t'}:=by
 have j:∀b u,H b=some u->b∉ts:=λb u e z=>by
  have:=(J b z).1;rw[e] at this;cases this
 refine I.call (ch:=ts) (g':=s.gens) (d':=s.drawn) ⟨λb u e _ _ nx=>k b u nx e,λb u e _ _ nx=>⟨u.slots,k b u nx e⟩,λb u e n _=>n,λb u e nx=>⟨u,k b u nx e⟩,λb M q=>q,λb u v q=>q,λb ps q=>⟨#[],by rw[q];simp⟩⟩
  (λb u e=>?_) I.bare λb hb=>?_
 ·refine (I.hok b u e).stay (λc v O q=>k c v ?_ q) (λc r=>r) λc M r=>r
  rcases O with z|z
  ·rw[z]
   exact j b u e
  ·exact j c _ z
 ·obtain⟨f0,f1,f2,U,Y,f5⟩:=J b hb
  exact⟨U,f1,Y,f5⟩
end
def ZkZ (K:aa)(a:Addr):It:=
 ⟨λi H=>∃j x,Wp K H a j/\j[i]?=some x,λi H x q=>∃T y,x=.ref T/\H T=none/\q=upd H T (.tup [.int i,y])/\∀j,Wp K H a j->j[i]?=some y,λi H=>∃j,Wp K H a j/\j.length<=i⟩
def Znp (K:aa)(a:Addr):It:=
 ⟨λi H=>∃j x,Xw K H a j/\j[i]?=some x,λi H x q=>∃T y,x=.ref T/\H T=none/\q=upd H T (.tup [.int i,y])/\∀j,Xw K H a j->j[i]?=some y,λi H=>∃j,Xw K H a j/\j.length<=i⟩
theorem V4 {P:Program}{w:World}{K:aa}{elts:List Expr}{x1}{pos:Pos}(a e it:Addr)(ne:e≠it) :
  Zac P w K (.Tuple elts x1 pos) (ZkZ K a) [e,it] e (λi h=>(∃j,gP h e it i j)/\h.IsListIter it a i) where
 mem:=by simp
 obj:=λi h st b hb=>by
  obtain⟨⟨j,J⟩,⟨o,U,c,d⟩⟩:=st;rcases aD.mp hb with rfl|hb
  ·exact⟨_,J,λv z=>by
    have z':gw _=fS v:=z;cases z'⟩
  ·have q:b=it:=by simpa using hb
   subst q;exact⟨o,U,λv z=>by rw[d] at z;cases z⟩
 keep:=λi h h' st k=>by
  obtain⟨⟨j,J⟩,M⟩:=st;exact⟨⟨j,k e (by simp) _ J⟩,M.at λo q=>k it (by simp) o q⟩
 item:=by
  intro X hP hw hK hc i Y s σ H E I hf st hg;subst hP hw hK;obtain⟨⟨j,J⟩,M⟩:=st;obtain⟨xs,x,hq,hx⟩:=hg;obtain⟨m7,rv,p,hz⟩:=I.list hq;obtain⟨u,hu,ru⟩:=rv.get hx;refine wpAny_pyNext_enum_item J M p.isList (x:=u) (by simpa using hu) ne λh1 ho m8 hT n9 hk=>?_;refine⟨_,rfl,kJ ho λh2 m9 n6=>?_⟩;have le:e<s.heap.objs.size:=Zp J;have O:be e h1 h2:=n6;have n8:h2.get? s.heap.objs.size=some {cls:=.type "tuple",data:=.seq #[.int i s.toks,u]}:=(O.2 _ (bj le)).trans hT;have m5:h2.IsListIter it a (i+1):=m8.at λo q=>(O.2 it (bE ne)).trans q;have m6:gP h2 e it ((i+1:Nat):Int) u:=by
   have:=m9;simpa using this
  have nT:H s.heap.objs.size=none:=I.hok.fresh (Zq _);have I2:=I.turnLay (t':=s.toks+1) (h':=h2) (ts:=[e,it]) (T:=s.heap.objs.size) (o:=.tup [.int i,x]) (λb v hb q=>?_) (λb hb=>?_) hf (Zq _) ⟨by show 2<=sizeLine;decide,[.int i s.toks,u],.cons ⟨_,rfl⟩ (.cons ru .nil),_,n8,rfl,0,rfl⟩
  ·refine⟨.ref s.heap.objs.size,_,I2,rfl,⟨_,x,rfl,nT,rfl,λys hy=>by rw[I.list_inj hy hq];exact hx⟩,⟨⟨u,m6⟩,m5⟩,λb hb=>?_⟩
   have fb:=(hf b hb).1;have lb:b<s.heap.objs.size:=by
    rcases aD.mp hb with rfl|hb
    ·exact le
    ·have q:b=it:=by simpa using hb
     subst q;obtain⟨o,U,_⟩:=M;exact Zp U
   rw[Zy (ar lb)];exact fb
  ·have q1:b≠e:=λz=>hb (by simp[z])
   have q2:b≠it:=λz=>hb (by simp[z]);exact (O.2 b q1).trans (hk b v q1 q2 q)
  ·rcases aD.mp hb with rfl|hb
   ·exact⟨_,m6⟩
   ·have q:b=it:=by simpa using hb
    subst q;obtain⟨o,U,_⟩:=m5;exact⟨o,U⟩
 done:=by
  intro X hP hw hK hc i Y s σ H E I hf st hg;subst hP hw hK;obtain⟨⟨j,J⟩,M⟩:=st;obtain⟨xs,hq,hx⟩:=hg;obtain⟨m7,rv,p,hz⟩:=I.list hq;have hl:=rv.length;exact wpAny_pyNext_enum_end (I.ok.hd hc) J M p.isList (by simp;omega) λh1 eb=>⟨rfl,I.turnedL (t':=s.toks) (ts:=[e,it]) (λb o hb q=>eb b o (λz=>hb (by simp[z])) q) hf⟩
 self:=λ_ _ _ _ _ st h=>by
  obtain⟨⟨j,J⟩,M⟩:=st;exact dU J h
theorem V3 {P:Program}{w:World}{K:aa}{elts:List Expr}{x1}{pos:Pos}(a e it:Addr)(ne:e≠it) :
  Zac P w K (.Tuple elts x1 pos) (Znp K a) [e,it] e (λi h=>(∃j,gP h e it i j)/\h.IsTupleIter it a i) where
 mem:=by simp
 obj:=λi h st b hb=>by
  obtain⟨⟨j,J⟩,⟨o,Y,c,d⟩⟩:=st;rcases aD.mp hb with rfl|hb
  ·exact⟨_,J,λv z=>by
    have z':gw _=fS v:=z;cases z'⟩
  ·have q:b=it:=by simpa using hb
   subst q;exact⟨o,Y,λv z=>by rw[d] at z;cases z⟩
 keep:=λi h h' st k=>by
  obtain⟨⟨j,J⟩,M⟩:=st;exact⟨⟨j,k e (by simp) _ J⟩,M.at λo q=>k it (by simp) o q⟩
 item:=by
  intro X hP hw hK hc i m5 s σ H E I hf st hg;subst hP hw hK;obtain⟨⟨j,J⟩,M⟩:=st;obtain⟨xs,x,hq,hx⟩:=hg;obtain⟨O,rv,p,hz⟩:=I.tuple hq;obtain⟨u,hu,ru⟩:=rv.get hx;refine PyY.Zeg J M (show s.heap.IsTuple a O.toArray from p) (y:=u) (by simpa using hu) ne λh1 ho m8 hT n9 hk=>?_;refine⟨_,rfl,kJ ho λh2 m9 n6=>?_⟩;have le:e<s.heap.objs.size:=Zp J;have U:be e h1 h2:=n6;have n8:h2.get? s.heap.objs.size=some {cls:=.type "tuple",data:=.seq #[.int i s.toks,u]}:=(U.2 _ (bj le)).trans hT;have m6:h2.IsTupleIter it a (i+1):=m8.at λo q=>(U.2 it (bE ne)).trans q;have m7:gP h2 e it ((i+1:Nat):Int) u:=by
   have:=m9;simpa using this
  have nT:H s.heap.objs.size=none:=I.hok.fresh (Zq _);have I2:=I.turnLay (t':=s.toks+1) (h':=h2) (ts:=[e,it]) (T:=s.heap.objs.size) (o:=.tup [.int i,x]) (λb v hb q=>?_) (λb hb=>?_) hf (Zq _) ⟨by show 2<=sizeLine;decide,[.int i s.toks,u],.cons ⟨_,rfl⟩ (.cons ru .nil),_,n8,rfl,0,rfl⟩
  ·refine⟨.ref s.heap.objs.size,_,I2,rfl,⟨_,x,rfl,nT,rfl,λys hy=>by rw[I.tuple_inj hy hq];exact hx⟩,⟨⟨u,m7⟩,m6⟩,λb hb=>?_⟩
   have fb:=(hf b hb).1;have lb:b<s.heap.objs.size:=by
    rcases aD.mp hb with rfl|hb
    ·exact le
    ·have q:b=it:=by simpa using hb
     subst q;obtain⟨o,Y,_⟩:=M;exact Zp Y
   rw[Zy (ar lb)];exact fb
  ·have q1:b≠e:=λz=>hb (by simp[z])
   have q2:b≠it:=λz=>hb (by simp[z]);exact (U.2 b q1).trans (hk b v q1 q2 q)
  ·rcases aD.mp hb with rfl|hb
   ·exact⟨_,m7⟩
   ·have q:b=it:=by simpa using hb
    subst q;obtain⟨o,Y,_⟩:=m6;exact⟨o,Y⟩
 done:=by
  intro X hP hw hK hc i m5 s σ H E I hf st hg;subst hP hw hK;obtain⟨⟨j,J⟩,M⟩:=st;obtain⟨xs,hq,hx⟩:=hg;obtain⟨O,rv,p,hz⟩:=I.tuple hq;have hl:=rv.length;exact PyY.Zf7 (I.ok.hd hc) J M (show s.heap.IsTuple a O.toArray from p) (by simp;omega) λh1 eb=>⟨rfl,I.turnedL (t':=s.toks) (ts:=[e,it]) (λb o hb q=>eb b o (λz=>hb (by simp[z])) q) hf⟩
 self:=λ_ _ _ _ _ st h=>by
  obtain⟨⟨j,J⟩,M⟩:=st;exact dU J h
section
variable {X:Cx}
def Zlr (K:aa)(J:TA):TI:=λM H R=>J M H λO j=>∃a,O=[.ref a]/\(((∃q,Wp K j a q)/\R (ZkZ K a) j)\/((∃q,Xw K j a q)/\R (Znp K a) j))
theorem Zoy {elts:List Expr}{x1}{pt:Pos}{l:Expr}{ta:TA}{p pos:Pos}(hm:X.mg "enumerate"=none)(ha:PA X [l] ta)(hg:Y3 X.env.scope "enumerate"=true:=by kernel_rfl)(hs:starEach [l] X.env=[(false,eval l X.env)]:=by rfl) :
  PI X (.Tuple elts x1 pt) (.Call (.Name "enumerate" p) [l] [] pos) (Zlr X.K ta):=by
 intro J s σ H R I h;refine Call_ (Je I (JQ hg) hm (show bootBuiltins "enumerate"=some (.type "enumerate") by kernel_rfl) (bg (Yh (ha pos J s σ H _ I h) λus s1 ⟨vs,H1,j,r1,q1⟩=>?_) hs rfl));obtain⟨a,e,q⟩:=q1;subst e;cases r1 with
 |cons r rr=>
  cases rr;cases (show _=aK a from r);have sz:∀b,b∈[s1.heap.objs.size+1,s1.heap.objs.size]->s1.heap.objs.size<=b:=λb hb=>by
   rcases aD.mp hb with rfl|hb
   ·exact fH _
   ·have:b=s1.heap.objs.size:=by simpa using hb
    rw[this];exact Zq _
  rcases q with ⟨⟨xs,O⟩,q⟩|⟨⟨xs,O⟩,q⟩
  ·obtain⟨M,rv,p,hz⟩:=j.list O
   refine call_enumerate_list p.isList λg ge U gs Y=>?_;refine dU ge ?_;exact⟨_,[s1.heap.objs.size+1,s1.heap.objs.size],_,_,H1,rfl,j.kept (t':=s1.toks) Y,V4 a _ _ (bj (cF _)),⟨⟨_,ge⟩,U⟩,λb hb=>j.fpOk (sz b hb) (j.hok.fresh (sz b hb)),q⟩
  ·obtain⟨M,rv,p,hz⟩:=j.tuple O
   refine PyY.UW (show s1.heap.IsTuple a M.toArray from p) λg ge U gs Y=>?_;refine dU ge ?_;exact⟨_,[s1.heap.objs.size+1,s1.heap.objs.size],_,_,H1,rfl,j.kept (t':=s1.toks) Y,V3 a _ _ (bj (cF _)),⟨⟨_,ge⟩,U⟩,λb hb=>j.fpOk (sz b hb) (j.hok.fresh (sz b hb)),q⟩
theorem UF (K:aa){elts:List Expr}{q}{pt:Pos}{l:Expr}{j:TA}{p pos:Pos}(J:X.mg "enumerate"=none)(M:PA X [l] j)(O:X.K=K:=by rfl)(U:Y3 X.env.scope "enumerate"=true:=by kernel_rfl)(Y:starEach [l] X.env=[(false,eval l X.env)]:=by rfl) :
  PI X (.Tuple elts q pt) (.Call (.Name "enumerate" p) [l] [] pos) (Zlr K j):=O▸Zoy J M U Y
end
structure Zjd (J:It)(At:Hp->Prop)(xs:TL):Prop where
 go:∀i H,At H->i<xs.length->J.go i H
 yld:∀i H x H2,At H->J.yld i H x H2->∃T y,x=.ref T/\H T=none/\H2=upd H T (.tup [.int i,y])/\xs[i]?=some y
 stop:∀i H,At H->xs.length<=i->J.stop i H
theorem UH {K:aa}{a:Addr}{xs:TL}:Zjd (ZkZ K a) (λH=>Wp K H a xs) xs:=
 ⟨λi H h hi=>⟨xs,xs[i],h,by simp[hi]⟩,λi H x O h j=>by
  obtain⟨T,y,e,J,M,q⟩:=j;exact⟨T,y,e,J,M,q xs h⟩,λi H h hi=>⟨xs,h,hi⟩⟩
theorem ZbQ {K:aa}{a:Addr}{xs:TL}:Zjd (Znp K a) (λH=>Xw K H a xs) xs:=
 ⟨λi H h hi=>⟨xs,xs[i],h,by simp[hi]⟩,λi H x O h j=>by
  obtain⟨T,y,e,J,M,q⟩:=j;exact⟨T,y,e,J,M,q xs h⟩,λi H h hi=>⟨xs,h,hi⟩⟩
theorem WY {J:It}{g:TG}{tb:TS}{D:WO}{σ:St}{H:Hp}{Y:Hp->Prop}{xs:TL}(S:Zjd J Y xs)(Pv:Nat->St->Hp->Prop)(h0:Pv 0 σ H)(hS:∀i σ H,Pv i σ H->Y H)
  (hs:∀(i:Nat) y σ H T,xs[i]?=some y->Pv i σ H->H T=none->g (.ref T) σ (upd H T (.tup [.int i,y])) λq U=>tb (D.lp (Pv (i+1))) q U) (hd:∀ σ H,Pv xs.length σ H->D.nx σ H) :
  ∃W:Nat->Nat->St->Hp->Prop,(∃m,W 0 m σ H)/\∀i m σ H,W i m σ H->
   (J.stop i H/\D.nx σ H)\/(J.go i H/\∃N:St->Hp->Prop,(∀ M j,N M j->∃m',m'<m/\W (i+1) m' M j)/\∀x j,J.yld i H x j->g x σ j λq U=>tb (D.lp N) q U):=by
 refine⟨λi m σ H=>m=xs.length-i/\i<=xs.length/\Pv i σ H,⟨_,rfl,aU _,h0⟩,?_⟩;rintro i m σ H ⟨rfl,hi,p⟩;have s:=hS i σ H p;by_cases O:i<xs.length
 ·refine .inr ⟨S.go i H s O,Pv (i+1),λM j p'=>⟨xs.length-(i+1),by omega,rfl,O,p'⟩,λx j hy=>?_⟩
  obtain⟨T,y,rfl,hT,rfl,hx⟩:=S.yld i H x j s hy;exact hs i y σ H T hx p hT
 ·have e:i=xs.length:=by omega
  subst e;exact .inl ⟨S.stop _ H s (Zq _),hd σ H p⟩
def Itd (lo:Int)(n:Nat):It:=⟨λi _=>i<n,λi H x j=>j=H/\x=.int (lo-i),λi _=>n<=i⟩
theorem Zfu {P:Program}{w:World}{K:aa}{tg:Expr}(it:Addr)(lo:Int)(n:Nat):Zac P w K tg (Itd lo n) [it] it (λi h=>hG h it (lo+(i:Nat)*(-1)) ((n:Int)-(i:Nat)) (-1)) where
 mem:=by simp
 obj:=λi h st b hb=>by
  have e:b=it:=by simpa using hb
  subst e;exact⟨_,st,λv z=>by
   have z':gw _=fS v:=z;cases z'⟩
 keep:=λi h J st k=>k it (by simp) _ st
 item:=by
  intro X O U Y hc i j s σ H E I M st hg;subst O U Y;obtain⟨f0,f1,f2,f3,f4,f5⟩:=M it (by simp);have W:=kK (prog:=X.prog) (w:=X.w) (I.ok.hd hc) it lo (-1) n;refine W.item i s _ _ hg st λv J tk hv q kk=>?_;obtain⟨t,rfl⟩:=hv;have I1:Inv X j σ H {s with heap:=J,toks:=tk}:=I.turned (λb o hb e=>kk b o (by simpa using hb) e) f0 f1 f3 f4 f5;refine⟨_,rfl,Zc5 (s:={s with heap:=J,toks:=tk}) (n:="range_iterator") q rfl rfl (by decide) ⟨.int (lo-i),H,I1,⟨t,?_⟩,⟨rfl,rfl⟩,q,λb hb=>(M b hb).1⟩⟩;rw[show lo-(i:Int)=lo+(i:Int)*(-1) by omega]
 done:=by
  intro X O U Y hc i j s σ H E I M st hg;subst O U Y;obtain⟨f0,f1,f2,f3,f4,f5⟩:=M it (by simp);exact iz (I.ok.hd hc) st (by have:n<=i:=hg;omega) λJ eb=>⟨rfl,I.turned (t':=s.toks) (λb o hb e=>eb b o hb e) f0 f1 f3 f4 f5⟩
 self:=λ_ _ _ _ _ st h=>iA st h
theorem rangeSize_down (a b:Int):a9 a b (-1)=if b<a then a-b else 0:=by
 unfold a9;rw[if_neg (by decide),Int.neg_neg,Int.ediv_one];by_cases h:b<a
 ·rw[if_pos h,if_pos h]
  omega
 ·rw[if_neg h,if_neg h]
theorem small_down {a b:Int}(j:-(2 ^ 62)<=a)(q:a<2 ^ 62)(J:-(2 ^ 62)<=b)(M:b<2 ^ 62):cq a b (-1)=true:=by
 unfold cq;rw[rangeSize_down];simp only[iL,ah,bi,decide_eq_true_eq,beq_iff_eq,show ¬((-1:Int) > 0) by decide,if_false];split <;> omega
def Zoo (q:TA):TI:=λJ H R=>q J H λM O=>∃i j:Int,M=[.int i,.int j,.int (-1)]/\(-(2 ^ 62)<=i/\i<2 ^ 62/\-(2 ^ 62)<=j/\j<2 ^ 62)/\R (Itd i (i-j).toNat) O
theorem Zn3 {X:Cx}{tg a b c:Expr}{ta:TA}{p pos:Pos}(hm:X.mg "range"=none)(ha:PA X [a,b,c] ta)(hg:Y3 X.env.scope "range"=true:=by kernel_rfl)(hs:starEach [a,b,c] X.env=(false,eval a X.env)::starEach [b,c] X.env:=by rfl)(Y:(backTo pos (starEach [b,c] X.env)).any (·.1)=false:=by rfl) :
  PI X tg (.Call (.Name "range" p) [a,b,c] [] pos) (Zoo ta):=by
 intro M s σ H R I h;refine Call_ (Je I (JQ hg) hm kW (bg (Yh (ha pos M s σ H _ I h) λus s1 ⟨vs,H1,I1,r1,q1⟩=>?_) hs Y));obtain⟨i,j,e,⟨q1,q2,q3,q4⟩,q⟩:=q1;subst e;cases r1 with
 |cons r O=>
  cases O with
  |cons r' O=>
   cases O with
   |cons m5 O=>
    cases O;obtain⟨t,rfl⟩:=r;obtain⟨U,rfl⟩:=r';obtain⟨J,rfl⟩:=m5;refine call_range_3 (by decide) ?_ (Or.inl (j7 (by decide)));refine jq (kw ..) (small_down q1 q2 q3 q4) ?_;have I2:Inv X M σ H1 {s1 with heap:=s1.heap.push {cls:=.type "range",data:=.fields #[.int i t,.int j U,.int (-1) J]},toks:=s1.toks}:=I1.kept λb o e=>Zn _ e;refine⟨(s1.heap.push {cls:=.type "range",data:=.fields #[.int i t,.int j U,.int (-1) J]}).objs.size,[(s1.heap.push {cls:=.type "range",data:=.fields #[.int i t,.int j U,.int (-1) J]}).objs.size],_,_,H1,rfl,
     I2.kept (t':=s1.toks) λb o e=>Zn _ e,Zfu _ i (i-j).toNat,?_,λb hb=>?_,q⟩
    ·have e1:i+((0:Nat):Int)*(-1)=i:=by simp
     have e2:(((i-j).toNat:Nat):Int)-((0:Nat):Int)=a9 i j (-1):=by rw[rangeSize_down];split <;> omega
     show hG _ _ (i+((0:Nat):Int)*(-1)) ((((i-j).toNat:Nat):Int)-((0:Nat):Int)) (-1);rw[e1,e2];exact Zo _ rfl
    ·have e:b=(s1.heap.push {cls:=.type "range",data:=.fields #[.int i t,.int j U,.int (-1) J]}).objs.size:=by simpa using hb
     subst e;exact I2.fpOk (Zq _) (I2.hok.fresh (Zq _))
theorem Zc6 {lo:Int}{n:Nat}{g:TG}{tb:TS}{D:WO}{σ:St}{H:Hp}(Pv:Nat->St->Hp->Prop)(h0:Pv 0 σ H)
  (Y:∀i σ H,i<n->Pv i σ H->g (.int (lo-i)) σ H λj O=>tb (D.lp (Pv (i+1))) j O) (hd:∀ σ H,Pv n σ H->D.nx σ H) :
  ∃W:Nat->Nat->St->Hp->Prop,(∃m,W 0 m σ H)/\∀i m σ H,W i m σ H->
   ((Itd lo n).stop i H/\D.nx σ H)\/((Itd lo n).go i H/\∃N:St->Hp->Prop,(∀ q J,N q J->∃U,U<m/\W (i+1) U q J)/\∀x J,(Itd lo n).yld i H x J->g x σ J λj O=>tb (D.lp N) j O):=by
 refine⟨λi m σ H=>m=n-i/\i<=n/\Pv i σ H,⟨n,by simp,aU _,h0⟩,?_⟩;rintro i m σ H ⟨rfl,hi,p⟩;by_cases M:i<n
 ·refine .inr ⟨M,Pv (i+1),λq J p'=>⟨n-(i+1),by omega,rfl,M,p'⟩,λx J hy=>?_⟩
  obtain⟨e,rfl⟩:=hy;subst e;exact Y i σ _ M p
 ·have e:i=n:=by omega
  subst e;exact .inl ⟨Zq _,hd σ H p⟩
theorem g2 (K:aa)(i j:Nat){X:Cx}{x y:Str}{k}{q J pos:Pos}(O:X.calm=true)(U:PG X (.Name x q) (Yc i))(Y:PG X (.Name y J) (Yc j))(hK:X.K=K:=by rfl)
  (hn:(assignEach [.Name x q,.Name y J] X.env).length=2:=by rfl) (M:(assignEach [.Name x q,.Name y J] X.env).findIdx? (·.1)=none:=by rfl) :
  PG X (.Tuple [.Name x q,.Name y J] k pos) (Zf2 K 2 (JD (Yc i) (JD (Yc j) Zf3))):=hK▸Zbu O (YJ U (YJ Y XS)) hn M
theorem ZhM {X:Cx}(K:aa){o e:Expr}{M:List Expr}{to:TE}{t:TA}{name:Str}{J j:Pos}{T id:String}{r:V->TL->Hp->VK->Prop}(pa:PlainAttrs T)(slot:Slot T name id)(m5:typeOf (.builtin id)=pure (.type "method_descriptor"))(hm:MtR X id r)(ho:PE X o to)(ha:PA X (e::M) t)
  (hK:X.K=K:=by rfl) (O:attributeBase o name X.env (eval o X.env)=eval o X.env:=by rfl)
  (Y:((backTo j (starEach (e::M) X.env)).all (λx=>!x.1) && (backToKw j (keywordEach [] X.env)).all (λx=>x.1.isSome)
   && decide ((e::M).length+([]:List Keyword).length+(if ([]:List Keyword).isEmpty then 0 else 1)<30))=true:=by rfl)
  (U:(J.endLine == j.line)=true:=by rfl) (hs:starEach (e::M) X.env=(false,eval e X.env)::starEach M X.env:=by rfl) (q:(backTo j (starEach M X.env)).any (·.1)=false:=by rfl) :
  PE X (.Call (.Attribute o name J) (e::M) [] j) (tBM K T r to t):=hK▸Wh pa slot m5 hm ho ha O Y U hs q
structure V0 (k b:Nat)(d:cP):Prop where
 sh:d.showable=true
 nd:d.hasDict=false
 dp:d.depth<=k
 lv:d.leavesShort 300=true
 bl:d.bulk<=b
theorem V0.all {k b:Nat}:∀{ds:List cP},(∀d∈ds,V0 k b d)->eB ds=true/\f6 ds=false/\aV ds<=k/\dD 300 ds=true/\iu ds<=ds.length*(b+1)
 | [],_=>⟨rfl,rfl,aU _,rfl,aU _⟩
 |d::ds,h=>by
  obtain⟨j,q,J,M,U⟩:=V0.all (ds:=ds) λe O=>h e (aE _ O);have hd:=h d aA;refine⟨?_,?_,?_,?_,?_⟩
  ·simp only[eB,hd.sh,j,Bool.and_self]
  ·simp only[f6,hd.nd,q,Bool.or_self]
  ·simp only[aV]
   exact Nat.max_le.mpr ⟨hd.dp,J⟩
  ·simp only[dD,hd.lv,M,Bool.and_self]
  ·simp only[iu,Zi]
   have:=hd.bl;rw[cg];omega
theorem V0.fit {k b:Nat}{d:cP}(h:V0 k b d)(j:k<=60)(hb:b<=50000):Zjc d:=by
 refine⟨h.sh,h.nd,aW h.dp j,?_⟩;have:=PyData.shown_le_bulk 300 (by decide) d h.lv;have q:=h.bl;have e:=Ja;omega
theorem V0.tup {k b n:Nat}{ds:List cP}(j:ds.length<=n)(h:∀d∈ds,V0 k b d):V0 (k+1) (n*(b+1)) (.tuple ds):=by
 obtain⟨q,J,U,M,O⟩:=V0.all h;refine⟨by simp only[jm];exact q,by simp only[mQ];exact J,by simp only[bU];omega,by simp only[lG];exact M,?_⟩;simp only[PyData.bulk];exact aW O (cw _ j)
end L2
namespace Pm
open PySem L2 PySem.Spec PyProof.Rows
open Tb
def nV (k:Nat):V:=.int (k:Int)
def GT (H:Hp)(g:Addr)(t:T9):Prop:=∃rs:TN,H g=some (.tup (rs.map V.ref))/\rs.length=t.length/\∀(i:Nat) r,rs[i]?=some r->Tz H r ((t.getD i []).map nV)
theorem GT.mono {H j:Hp}{g:Addr}{t:T9}(s:Zw H j)(G:GT H g t):GT j g t:=by
 obtain⟨q,J,M,O⟩:=G;exact⟨q,s _ _ J,M,λi r U=>(O i r U).mono s⟩
theorem XM {t:T9}(P:PW t){a:Nat}(j:a<t.length):(t.getD a []).length=t.length:=by
 refine P.len _ ?_;rw[Zb,Zf j];exact bh j
theorem Vb {t:T9}(P:PW t){a b:Nat}(j:a<t.length)(hb:b<t.length):((t.getD a []).map nV)[b]?=some (.int (ZP t a b:Nat)):=by
 have q:=XM P j;unfold ZP;generalize t.getD a []=row at *;rw[Zc,Zf (show b<row.length by omega),Zb,Zf (show b<row.length by omega)];rfl
theorem GT.at {H:Hp}{g:Addr}{t:T9}(G:GT H g t)(P:PW t){a:Nat}(J:a<t.length):∃(j:TN) (r:Addr),H g=some (.tup (j.map V.ref))/\j.length=t.length/\Xu (j.map V.ref) (a:Int)=some (.ref r)/\Tz H r ((t.getD a []).map nV)/\∀b,b<t.length->Xu ((t.getD a []).map nV) (b:Int)=some (.int (ZP t a b:Nat)):=by
 obtain⟨j,M,O,U⟩:=G;have q:j[a]?=some (j[a]'(by omega)):=Zf (by omega);exact⟨j,_,M,O,ZA (by rw[Zc,q];rfl),U a _ q,λb hb=>ZA (Vb P J hb)⟩
def Zi8 (H:Hp)(L:Addr)(rs:TN)(f:Nat->TY):Prop:=H L=some (.lst (rs.map V.ref))/\∀(i:Nat) r,rs[i]?=some r->Tz H r ((f i).map nV)
theorem Zo3 {H j:Hp}{L g:Addr}{rs:TN}{f:Nat->TY}{n:Nat}(R:Zi8 H L rs f)(q:rs.length=n)(s:Zw H j)(M:j g=some (.tup (rs.map V.ref))):GT j g ((ae n).map f):=by
 refine⟨rs,M,by rw[q,Za,Zg],λi r J=>?_⟩;have O:i<n:=by rw[<-q];exact (ac.mp J).1
 rw[Zb,Zc,ai O];exact (R.2 i r J).mono s
theorem VX (i j:Int):c7 (.int i) (.int j)=decide (i=j):=by
 first|rfl|simp[c7]
theorem Wy {n i:Nat}(h:i<n):ixN n (i:Int)=some i:=by
 unfold ixN;rw[if_pos (dB _),if_pos (by omega),Zj]
theorem Uu {xs:TY}{i:Nat}{y:V}(h:(xs.map nV)[i]?=some y):∃k,xs[i]?=some k/\y=.int (k:Nat):=by
 rw[Zc] at h;cases e:xs[i]? with
 |none=>rw[e] at h;cases h
 |some k=>rw[e] at h;exact⟨k,rfl,(ax h).symm⟩
def nI (xs:TY):TV:=xs.map λk:Nat=>((k:Nat):Int)
def TupsAt (H:Hp)(L:Addr)(bs:TN)(yss:T9):Prop:=H L=some (.lst (bs.map V.ref))/\bs.length=yss.length/\∀(i:Nat) b,bs[i]?=some b->H b=some (.tup ((yss.getD i []).map nV))
theorem TupsAt.mono {H j:Hp}{L:Addr}{bs:TN}{yss:T9}(s:Zw H j)(R:TupsAt H L bs yss):TupsAt j L bs yss:=⟨s _ _ R.1,R.2.1,λi b hb=>s _ _ (R.2.2 i b hb)⟩
theorem TupsAt.push {H:Hp}{L:Addr}{bs:TN}{yss:T9}{b:Addr}{ys:TY}(R:TupsAt H L bs yss)(h:H b=some (.tup (ys.map nV))):TupsAt (upd H L (.lst (bs.map V.ref++[.ref b]))) L (bs++[b]) (yss++[ys]):=by
 have ne:∀{b ys},H b=some (.tup ys)->upd H L (.lst (bs.map V.ref++[.ref b])) b=some (.tup ys):=λ{b ys} hb=>by
  rw[Zy (λz=>by rw[z,R.1] at hb;cases hb)];exact hb
 refine⟨by rw[Zu,aN];rfl,by rw[Zd,Zd,R.2.1];rfl,λi c j=>?_⟩;have q:c≠L->upd H L (.lst (bs.map V.ref++[.ref b])) c=H c:=λz=>Zy z;by_cases J:i<bs.length
 ·rw[ak J] at j
  have:=R.2.2 i c j;rw[q (λz=>by rw[z,R.1] at this;cases this),Zb,ak (by rw[<-R.2.1];exact J),<-Zb];exact this
 ·rw[aq (by omega)] at j
  have M:i-bs.length=0:=by
   apply aj;intro z;rw[ag (by rw[Zk];omega)] at j;cases j
  rw[M] at j;cases j;have:i=yss.length:=by rw[<-R.2.1];omega
  rw[q (λz=>by rw[z,R.1] at h;cases h),this,Zb,aq (Zq _),cr];exact h
theorem ZmC {a b:TY}:nI a=nI b↔a=b:=by
 constructor
 ·intro h
  unfold nI at h;exact (List.map_inj_right (λx y e=>by exact Int.ofNat.inj e)).mp h
 ·intro h;rw[h]
theorem Zov (a b:TY):c7 (.tuple ((nI a).map aI)) (.tuple ((nI b).map aI))=decide (a=b):=by
 have:c7 (.tuple ((nI a).map aI)) (.tuple ((nI b).map aI))=decide (nI a=nI b):=by
  show di _ _=_;exact iC _ _
 rw[this,decide_eq_decide];exact ZmC
theorem TupsAt.get {H:Hp}{L:Addr}{bs:TN}{yss:T9}(R:TupsAt H L bs yss){i:Nat}(j:i<yss.length):∃b,bs[i]?=some b/\Xu (bs.map V.ref) (i:Int)=some (.ref b)/\H b=some (.tup ((yss.getD i []).map nV)):=by
 have hb:i<bs.length:=by rw[R.2.1];exact j
 have e:bs[i]?=some bs[i]:=Zf hb;exact⟨_,e,ZA (by rw[Zc,e];rfl),R.2.2 i _ e⟩
theorem getL {yss:T9}{i:Nat}(h:i<yss.length):yss[i]?=some (yss.getD i []):=by
 rw[Zb,Zf h];rfl
theorem ZmD {yss:T9}{i:Nat}(h:i<yss.length):yss.getD i []∈yss:=av (getL h)
def ZeT:T9->Hp->(TL->Hp->Prop)->Prop
 | [],H,Q=>Q [] H
 |x::r,H,Q=>iTu (λv j=>ZeT r j λq J=>Q (v::q) J) (x.map nV) H
theorem Vx:∀(j:T9) (H:Hp) (Q:TL->Hp->Prop),(∀x∈j,x.length<=1000)->
  (∀(bs:TN) (J:Hp),Zw H J->bs.length=j.length->(∀(i:Nat) b,bs[i]?=some b->J b=some (.tup ((j.getD i []).map nV)))->Q (bs.map V.ref) J)->ZeT j H Q
 | [],H,Q,_,q=>q [] H (Zw.refl _) rfl λi b hb=>by cases hb
 |x::r,H,Q,O,q=>by
  have sz:=Ja;refine⟨?_,λp Y=>Vx r _ _ (λy hy=>O y (aE _ hy)) λbs J U hb hi=>?_⟩
  ·have:=O x aA
   rw[Za];omega
  ·refine q (p::bs) J ((Zw.upd Y).trans U) (by rw[Zi,Zi,hb]) λi b M=>?_
   cases i with
   |zero=>
    cases M;exact U _ _ Zu
   |succ i=>exact hi i b M
section
variable {X:Cx}
def teT (x:TY):TE:=λ_ H Q=>iTu Q (x.map nV) H
theorem ZjQ (x:TY){j:List Expr}{t:TA}{q}{pos:Pos}(h:PA X j t)(e:t=λ_ H Q=>Q (x.map nV) H):PE X (.Tuple j q pos) (teT x):=by
 subst e;exact WC h
def taN (j:T9):TA:=λ_ H Q=>ZeT j H Q
theorem ZjW:PA X [] (taN []):=Zs
theorem pan {e:Expr}{q:List Expr}{x:TY}{j:T9}(h:PE X e (teT x))(r:PA X q (taN j))(J:Jv e=true:=by rfl):PA X (e::q) (taN (x::j)):=pc h r J
def teL (j:T9):TE:=λ_ H Q=>ZeT j H (iLs Q)
theorem ZjR {q:List Expr}{j:T9}{pos:Pos}(h:PA X q (taN j)):PE X (.List q pos) (teL j):=ZK h
structure QE (X:Cx)(e:Expr)(t:TE):Prop where
 h:PE X e t
structure QA (X:Cx)(es:List Expr)(t:TA):Prop where
 h:PA X es t
structure QS (X:Cx)(st:Stmt)(t:TS):Prop where
 h:PS X st t
structure QSs (X:Cx)(sts:List Stmt)(t:TS):Prop where
 h:PSs X sts t
theorem qi {i:Int}{j}{pos:Pos}:QE X (.Constant (.int i) j pos) (tC (.int i)):=⟨Zv⟩
theorem ZW:QA X [] ZnJ:=⟨Zs⟩
theorem qa {e:Expr}{j:List Expr}{q:TE}{t:TA}(h:QE X e q)(r:QA X j t)(J:Jv e=true:=by rfl):QA X (e::j) (ZgL q t):=⟨pc h.h r.h J⟩
theorem Yj (x:TY){j:List Expr}{t:TA}{q}{pos:Pos}(h:QA X j t)(e:t=λ_ H Q=>Q (x.map nV) H):QE X (.Tuple j q pos) (teT x):=⟨ZjQ x h.h e⟩
theorem XQ:QA X [] (taN []):=⟨ZjW⟩
theorem Xd {e:Expr}{q:List Expr}{x:TY}{j:T9}(h:QE X e (teT x))(r:QA X q (taN j))(J:Jv e=true:=by rfl):QA X (e::q) (taN (x::j)):=⟨pan h.h r.h J⟩
theorem ZcB {q:List Expr}{j:T9}{pos:Pos}(h:QA X q (taN j)):QE X (.List q pos) (teL j):=⟨ZjR h.h⟩
theorem ZcC (i:Nat){x:Str}{e:Expr}{q:TE}{pos j:Pos}(J:X.fn x=true)(M:QE X e q)(O:X.N[i]?=some x:=by rfl)(U:WU X.N=true:=by kernel_rfl)(Y:ZaF X.env.scope x=true:=by kernel_rfl)
  (hs:swapsWith e (some (.Name x j)) pos.line X.env=pure false:=by rfl):QS X (.Assign [.Name x j] e pos) (ZdA q (Yc i)):=⟨ZG i J M.h O U Y hs⟩
theorem Xl {st:Stmt}{rest:List Stmt}{t u:TS}(j:QS X st t)(q:QSs X rest u):QSs X (st::rest) (ZlW t u):=⟨Zt j.h q.h⟩
theorem XL {j:TE}{g:TG}{u:TS}{D:WO}{σ:L2.St}{H:Hp}(h:j σ H λx q=>g x σ q (u D)):ZlW (ZdA j g) u D σ H:=h
theorem JI (j:T9){σ:L2.St}{H:Hp}{Q:VK}(M:∀x∈j,x.length<=1000)(hk:j.length<=1000)
  (q:∀(bs:TN) (J:Hp),Zw H J->bs.length=j.length->(∀(i:Nat) b,bs[i]?=some b->J b=some (.tup ((j.getD i []).map nV)))->∀S,J S=none->Q (.ref S) (upd J S (.lst (bs.map V.ref)))):teL j σ H Q:=by
 have sz:=Ja;exact Vx j H _ M λbs J O U Y=>⟨by rw[Za];omega,q bs J O U Y⟩
end
def CT (H:Hp)(c:Addr)(j:T9):Prop:=∃rs:TN,H c=some (.tup (rs.map V.ref))/\rs.length=j.length/\∀(i:Nat) r,rs[i]?=some r->H r=some (.tup ((j.getD i []).map nV))
theorem CT.mono {H q:Hp}{c:Addr}{j:T9}(s:Zw H q)(h:CT H c j):CT q c j:=by
 obtain⟨J,M,O,U⟩:=h;exact⟨J,s _ _ M,O,λi r Y=>s _ _ (U i r Y)⟩
def Yl (n:Nat)(f:Nat->Nat):TY:=(ae n).map f
theorem Zct (n:Nat)(f:Nat->Nat):(Yl n f).length=n:=by unfold Yl;rw[Za,Zg]
theorem Zcs {n a k:Nat}(f:Nat->Nat)(j:a<n):((Yl n f).map nV).set a (nV k)=(Yl n λb=>if b=a then k else f b).map nV:=by
 unfold Yl;refine aY λi=>?_;rw[jc];by_cases q:i<n
 ·by_cases e:a=i
  ·subst e
   rw[if_pos rfl,if_pos (by rw[Za,Za,Zg];exact j),Zc,Zc,ai j];show some (nV k)=some (nV (if a=a then k else f a))
   rw[if_pos rfl]
  ·rw[if_neg e,Zc,Zc,ai q,Zc,Zc,ai q]
   show some (nV (f i))=some (nV (if i=a then k else f i))
   rw[if_neg (λz=>e z.symm)]
 ·have J:a≠i:=by omega
  rw[if_neg J,ag (by rw[Za,Za,Zg];omega),ag (by rw[Za,Za,Zg];omega)]
theorem Ws {n:Nat}{f g:Nat->Nat}(h:∀a,a<n->f a=g a):Yl n f=Yl n g:=aQ λa j=>h a (af.mp j)
theorem CT.row {H:Hp}{c:Addr}{j:T9}(h:CT H c j):∃q:TN,H c=some (.tup (q.map V.ref))/\q.length=j.length/\∀(i:Nat) y,(q.map V.ref)[i]?=some y->∃r,y=.ref r/\i<j.length/\H r=some (.tup ((j.getD i []).map nV)):=by
 obtain⟨q,U,O,Y⟩:=h;refine⟨q,U,O,λi y J=>?_⟩;rw[Zc] at J;cases M:q[i]? with
 |none=>rw[M] at J;cases J
 |some r=>
  rw[M] at J;cases J;exact⟨r,rfl,by rw[<-O];exact (ac.mp M).1,Y i r M⟩
theorem ZeE {j:T9}{k:Nat}(q:k<j.length):j.getD k []∈j:=by
 rw[Zb,Zf q];exact bh q
theorem Zbo {n:Nat}{f:Nat->Nat}{a:Nat}(j:a<n):Xu ((Yl n f).map nV) (a:Int)=some (.int (f a:Nat)):=ZA (by
 unfold Yl;rw[Zc,Zc,ai j];rfl)
theorem tupK {X:Cx}(K:aa)(j:X.K=K:=by rfl):Yd X (.type "tuple") (_root_.L2.I_call_tuple_of K):=j▸ZL
theorem Zcx {m i:Nat}{a:Nat->Addr}(j:i<m):Xu ((ae m).map λi=>V.ref (a i)) (i:Int)=some (.ref (a i)):=ZA (by rw[Zc,ai j];rfl)
theorem Zcw {m i:Nat}{a:Nat->Addr}{y:V}(h:((ae m).map λi=>V.ref (a i))[i]?=some y):i<m/\y=.ref (a i):=by
 have j:i<m:=by
  have:=(ac.mp h).1;rw[Za,Zg] at this;exact this
 rw[Zc,ai j] at h;exact⟨j,(ax h).symm⟩
theorem Zia {m i:Nat}{f:Nat->Nat}(j:i<m):((Yl m f).map nV)[i]?=some (.int (f i:Nat)):=by
 unfold Yl;rw[Zc,Zc,ai j];rfl
theorem ZjD (m:Nat):(YC 0 m).map V.int=(ae m).map nV:=by
 unfold YC;rw[aC];refine aQ λi _=>?_;show V.int (0+(i:Int))=nV i;rw[dA];rfl
theorem XN {m i:Nat}{y:V}(h:((YC 0 m).map V.int)[i]?=some y):i<m/\y=.int (i:Nat):=by
 rw[ZjD] at h;have j:i<m:=by
  have:=(ac.mp h).1;rw[Za,Zg] at this;exact this
 rw[Zc,ai j] at h;exact⟨j,(ax h).symm⟩
def Vl (row:TY):cP:=.tuple (row.map λk:Nat=>aI (k:Int))
def dCs (j:T9):cP:=.tuple (j.map Vl)
theorem Zcy {K:aa}{H:Hp}:∀row:TY,Wf K H (row.map nV) (row.map λk:Nat=>aI (k:Int))
 | []=>.nil
 |k::r=>.cons (.int _) (Zcy r)
theorem Zhy {K:aa}{H:Hp}{a:Addr}{row:TY}(h:H a=some (.tup (row.map nV))):Vs K H (.ref a) (Vl row):=.tup (.of h) (Zcy row)
end Pm
namespace C55
open PySem L2 PySem.Spec PyProof.Rows
open Tb Pm
noncomputable def top (i:Nat):Stmt:=fX.main.body.getD i (.Pass ⟨0,0,0,0⟩)
noncomputable abbrev Zld:Stmt:=top 39
noncomputable abbrev Zhm:Stmt:=top 40
structure BlB (mg:TR):Prop where
 list:mg "list"=none
 len:mg "len"=none
 range:mg "range"=none
 tuple:mg "tuple"=none
 sorted:mg "sorted"=none
theorem neC {X:Cx}(K:aa)(j:X.A.units+64<cLine)(q:X.K=K:=by rfl):X8 X (compareOp .NotEq) (_root_.L2.I_op_neD K):=q▸Zml j
def fdK (q:Addr)(a l:Int):List (YQ×V):=[(.inr "cells",.ref q),(.inr "at",.int a),(.inr "left",.int l)]
def Y0 (H:Hp)(p q:Addr)(b:Nat):Prop:=∃(j:TV) (a l:Int),H p=some (.dK (fdK q a l))/\H q=some (.lst (j.map V.int))/\j.length<=63/\0<=l/\0<=a/\a<=b
theorem Y0.mono {H j:Hp}{p q:Addr}{b:Nat}(s:Zw H j)(h:Y0 H p q b):Y0 j p q b:=by
 obtain⟨J,a,l,M,O,U⟩:=h;exact⟨J,a,l,s _ _ M,s _ _ O,U⟩
theorem Y0.le {H:Hp}{p q:Addr}{b j:Nat}(h:Y0 H p q b)(hb:b<=j):Y0 H p q j:=by
 obtain⟨J,a,l,M,O,U,Y,h5,h6⟩:=h;exact⟨J,a,l,M,O,U,Y,h5,by omega⟩
theorem ZkC {H:Hp}{p q:Addr}{a l:Int}(h:H p=some (.dK (fdK q a l))):Xb H p (.str "cells") (some (.ref q)):=Xb.k (k:=.inr "cells") h
theorem ZpU {H:Hp}{p q:Addr}{a l:Int}(h:H p=some (.dK (fdK q a l))):Xb H p (.str "at") (some (.int a)):=Xb.k (k:=.inr "at") h
theorem Zec {H:Hp}{p q:Addr}{a l:Int}(h:H p=some (.dK (fdK q a l))):Xb H p (.str "left") (some (.int l)):=Xb.k (k:=.inr "left") h
theorem ZpK {H:Hp}{p q:Addr}{a l j:Int}(h:H p=some (.dK (fdK q a l))):Zae H p (.str "at") (.int j) (upd H p (.dK (fdK q j l))):=Zae.k (k:=.inr "at") h (by rw[iW];show 3<_;omega)
theorem ZhN {H:Hp}{p q:Addr}{a l j:Int}(h:H p=some (.dK (fdK q a l))):Zae H p (.str "left") (.int j) (upd H p (.dK (fdK q a j))):=Zae.k (k:=.inr "left") h (by rw[iW];show 3<_;omega)
def Tk (p:Addr)(H j:Hp):Prop:=∀b o,H b=some o->b≠p->j b=some o
theorem Tk.of {p:Addr}{H j:Hp}(s:Zw H j):Tk p H j:=λb o e _=>s b o e
theorem Tk.trans {p:Addr}{H j q:Hp}(a:Tk p H j)(b:Tk p j q):Tk p H q:=λc o e n=>b c o (a c o e n) n
theorem Tk.refl {p:Addr}{H:Hp}:Tk p H H:=λ_ _ e _=>e
theorem Y0.ne {H:Hp}{p q a:Addr}{b:Nat}{o:HO}(h:Y0 H p q b)(e:H a=some o)(J:∀j,o≠.dK j):a≠p:=λz=>by
 obtain⟨O,c,l,M,_⟩:=h;rw[z,M] at e;exact J _ (ax e).symm
theorem Y0.neN {H:Hp}{p q a:Addr}{b:Nat}(h:Y0 H p q b)(e:H a=none):a≠p/\a≠q:=by
 obtain⟨M,c,l,j,J,_⟩:=h;exact⟨λz=>(by rw[z,j] at e;cases e),λz=>(by rw[z,J] at e;cases e)⟩
theorem Y0.put {H:Hp}{p q L:Addr}{b:Nat}{o:HO}(h:Y0 H p q b)(j:L≠p)(J:L≠q):Y0 (upd H L o) p q b:=by
 obtain⟨M,c,l,O,U,Y⟩:=h;exact⟨M,c,l,by rw[Zy (bE j)];exact O,by rw[Zy (bE J)];exact U,Y⟩
theorem Tk.tup {p q a:Addr}{H j:Hp}{b:Nat}{xs:TL}(d:Tk p H j)(T:Y0 H p q b)(h:H a=some (.tup xs)):j a=some (.tup xs):=d a _ h (T.ne h λ_ z=>by cases z)
theorem Tk.lst {p q a:Addr}{H j:Hp}{b:Nat}{xs:TL}(d:Tk p H j)(T:Y0 H p q b)(h:H a=some (.lst xs)):j a=some (.lst xs):=d a _ h (T.ne h λ_ z=>by cases z)
theorem GT.tk {H j:Hp}{p q g:Addr}{b:Nat}{t:T9}(T:Y0 H p q b)(d:Tk p H j)(G:GT H g t):GT j g t:=by
 obtain⟨M,O,U,Y⟩:=G;refine⟨M,d.tup T O,U,λi r hr=>?_⟩;obtain⟨o,J,e2⟩:=Y i r hr;exact⟨o,d _ _ J (T.ne J λ_ z=>by cases z),e2⟩
theorem Zg2 (ns:TV):bq (.list (ns.map aI))=true:=by
 unfold bq;have j:eV (.list (ns.map aI))=true:=UT ns;have q:bU (.list (ns.map aI))<=60:=Zf9 ns;simp only[j,dG,bV,decide_eq_true_eq];omega
inductive ZdI (K:aa) (vs:TL) (H:Hp) (Q:VK) (E03:XK):Prop
 |mk (a:Addr) (ns:TV):(vs=[.ref a])->(Wp K H a (ns.map V.int))->(∀p q H',Zw H H'->H p=none->Y0 H' p q 0->Q (.ref p) H')->ZdI K vs H Q E03
inductive Va (vs:TL) (H:Hp) (Q:VK) (E03:XK):Prop
 |mk (p q:Addr) (m:Int) (b:Nat):(vs=[.ref p,.int m])->(Y0 H p q b)->(b<2 ^ 60)->(0<m)->(m<1073741824)->(∀r H',0<=r->r<m->Tk p H H'->Y0 H' p q (b+1)->Q (.int r) H')->Va vs H Q E03
theorem ZiM (ns:TV)(lo hi:Option Int):∃j:TV,ZbS (ns.map V.int) lo hi=j.map V.int/\(∀k:Nat,hi=some (k:Int)->j.length<=k):=by
 refine⟨(ns.drop (HT.sIx ns.length 0 lo)).take (HT.sIx ns.length ns.length hi-HT.sIx ns.length 0 lo),?_,λk e=>?_⟩
 ·unfold ZbS;rw[Za,ko,List.map_drop]
 ·subst e
  rw[b8,HT.ZeA];omega
section
variable {P:Program}{w:World}{K:aa}{mg:TR}{base:Heap}
theorem Zka {f:Addr}{fd:FuncData}(F:Wu K "_law_feed" "_law_feed" Zld f fd)(T:BlB mg):Z2 P w K mg base Z9 1 f fd ["_law_script"] (ZdI K):=by
 refine F.ok (FS (N:=["_law_script"])) (λvs H Q E h=>?_) (λm7 A Y s H vs Q E hr h=>?_)
 ·obtain⟨a,ns,rfl,_⟩:=h;rfl
 ·obtain⟨a,ns,rfl,hS,k⟩:=h
  refine⟨_,Zx (ZE (ZjS (Ul WD (ct JC T.list (pc (Uq Zbj (vn 0) Zbt (Zbs Zv)) Zs)) (Ul WD Zv (Ul WD Zv ZjN))) rfl rfl (by simp) (by decide))),?_⟩;intro p np;obtain⟨J,e,hl⟩:=ZiM ns none (some 63);have s0:=Zw.upd (H:=H) (o:=.dK []) np;refine⟨_,rfl,_,rfl,a,_,rfl,s0.seq hS,λp1 h1=>⟨p1,_,rfl,.inl (.of Zu),λq U=>?_⟩⟩;rw[e] at U ⊢;have O:upd H p (.dK []) p=some (.dK []):=Zu;generalize upd H p (.dK [])=H1 at s0 h1 U O ⊢;have s1:=Zw.upd (H:=H1) (o:=.lst (J.map V.int)) h1;generalize upd H1 p1 (.lst (J.map V.int))=H2 at s1 U ⊢;have s2:=Zw.upd (H:=H2) (o:=.lst (J.map V.int)) U;have j:upd H2 q (.lst (J.map V.int)) q=some (.lst (J.map V.int)):=Zu;have M:=s2 _ _ (s1 _ _ O);generalize upd H2 q (.lst (J.map V.int))=H3 at s2 j M ⊢;have m5:q≠p:=λz=>by rw[z,M] at j;cases j
  refine⟨M,fdK q 0 0,rfl,(by show 3<=15;decide),?_⟩;refine k p q _ (λb o hb=>?_) np ⟨J,0,0,Zu,by rw[Zy m5];exact j,hl 63 rfl,by decide,by decide,by decide⟩;have m6:b≠p:=λz=>by rw[z,np] at hb;cases hb
  rw[Zy m6];exact s2 _ _ (s1 _ _ (s0 _ _ hb))
theorem Zkb {f:Addr}{fd:FuncData}(F:Wu K "_law_draw" "_law_draw" Zhm f fd)(T:BlB mg):Z2 P w K mg base Z9 1 f fd ["_law_feed_here", "_law_many"] Va:=by
 refine F.ok (FS (N:=["_law_feed_here", "_law_many", "_law_found", "_law_at", "_law_cells", "_law_cell", "_law_number"])) (λvs H Q E h=>?_) (λm9 A n6 s H vs Q E hr h=>?_)
 ·obtain⟨p,q,m,b,rfl,_⟩:=h;rfl
 ·obtain⟨p,q,m,b,rfl,⟨M,a,l,Y,h2,O,l0,a0,ab⟩,hb,m0,m1,k⟩:=h
  have U:(A.deeper (envOfC "_law_draw" (Z5 Zhm) s.heap.objs.size f m9)).units+1<cLine:=by have:=hr.un;omega
  refine⟨_,Zt (Yx (ZH Zlk (J1 U (vn 0) WD (λ_ _=>rfl)) Zv (ZI _)) (Zt (ZG 2 rfl (Zz ZX (J1 U (vn 0) WD (λ_ _=>rfl)) (vn 1)))
   (Zt (XR U (vn 0) WD (Zz Wi (J1 U (vn 0) WD (λ_ _=>rfl)) (vn 1)) (by rfl))
   (Zx (ZE (vn 2))))) ZT)
   (Zt (ZG 3 rfl (J1 U (vn 0) WD (λ_ _=>rfl)))
   (Zt (XR U (vn 0) WD (Zz YG (vn 3) Zv) (by rfl))
   (Zt (ZG 4 rfl (J1 U (vn 0) WD (λ_ _=>rfl)))
   (Zt (ZG 5 rfl (ZcG (ZH (neC K hr.units) (vn 4) (ZK Zs) (ZI _)) (ZB (WB K) (vn 4) (Zz ZX (vn 3) (cb (Yr K) T.len (pc (vn 4) Zs))) (λ_ _=>rfl)) (Zz ZS (vn 3) (vn 3))))
   (Zt (Yx (Zmb (ZH Zoc (vn 5) (Zz Zmk Zv Zv) (ZI _)) (ZjK (ZH Zav (vn 3) (cb (Yr K) T.len (pc (vn 4) Zs)) (ZI _)))).pt (Zt (XR U (vn 0) WD (Zz Wi (vn 5) (vn 1)) (by rfl))
   (Zx (ZE (Zz ZX (vn 5) (vn 1))))) ZT)
   (Zt (ZG 6 rfl (Zz ZX (Zz ZS (Zz YG (Zz ZX (vn 5) Zv) Zv) (Zz YG Zv (Zz ZS Zv (vn 3)))) Zv))
   (Zx (ZE (Zz ZX (Zz Wi (Zz ZX (Zz YG (Zz ZS (vn 6) Zv) (Zz ZS (Zz ZS (vn 3) (vn 3)) Zv)) Zv) Zv) (vn 1)))))))))),?_⟩
  have m5:q≠p:=λz=>by rw[z,Y] at h2;cases h2
  refine⟨_,rfl,p,_,rfl,Zec Y,_,_,rfl,rfl,_,rfl,?_⟩;refine Z1 (λh=>?_) (λh=>?_)
  ·refine⟨_,rfl,p,_,rfl,Zec Y,_,rfl,_,_,rfl,rfl,m0,?_⟩
   refine⟨_,rfl,p,_,rfl,Zec Y,_,rfl,_,_,rfl,rfl,⟨m0,m1⟩,_,rfl,p,_,rfl,ZhN Y,?_⟩;exact⟨_,rfl,k _ _ (bY _ (by omega)) (bD _ m0) (λb o e hb=>by rw[Zy hb];exact e) ⟨M,a,l / m,Zu,by rw[Zy m5];exact h2,O,jU l0 (by omega),a0,by omega⟩⟩
  ·refine⟨_,rfl,p,_,rfl,ZpU Y,?_⟩
   refine⟨_,rfl,_,_,rfl,rfl,_,rfl,p,_,rfl,ZpK Y,?_⟩;have h3:upd H p (.dK (fdK q (a+1) l)) p=some (.dK (fdK q (a+1) l)):=Zu;have m6:upd H p (.dK (fdK q (a+1) l)) q=some (.lst (M.map V.int)):=by rw[Zy m5];exact h2
   have k3:Tk p H (upd H p (.dK (fdK q (a+1) l))):=λb o e hb=>by rw[Zy hb];exact e
   generalize upd H p (.dK (fdK q (a+1) l))=H3 at h3 m6 k3 ⊢;refine⟨_,rfl,p,_,rfl,ZkC h3,?_⟩;refine⟨_,rfl,WK,λe0 n8=>?_⟩;have s4:=Zw.upd (H:=H3) (o:=.lst []) n8;have k4:=k3.trans (Tk.of s4);have h4:=s4 _ _ h3;have J:=s4 _ _ m6;have m7:upd H3 e0 (.lst []) e0=some (.lst []):=Zu;generalize upd H3 e0 (.lst [])=H4 at s4 k4 h4 J m7 ⊢;refine⟨_,_,.lst (.of J) (Wf.ints M),.lst (.of m7) .nil,Zg2 M,rfl,_,rfl,?_⟩;have len:(M.map V.int).length=M.length:=fN ..;have T4:∀l',0<=l'->Y0 (upd H4 p (.dK (fdK q (a+1) l'))) p q (b+1):=λl' n9=>⟨M,a+1,l',Zu,by rw[Zy m5];exact J,O,n9,by omega,by omega⟩;refine Z1 (λm8=>?ca) (λm8=>?cb)
   case' ca=>
    have hn:(0:Int)<M.length:=by
     cases M with
     |nil=>exact absurd m8 (by decide)
     |cons x r=>simp only[Zi];omega
    have r0:=bY a (show (M.length:Int)≠0 by omega);have r1:=bD a hn;obtain⟨j,ej⟩:=bM r0;have hj:j<M.length:=by omega
    refine⟨_,rfl,_,rfl,_,rfl,q,_,rfl,.inl (.of J),?_⟩;rw[len];refine⟨_,_,rfl,rfl,hn,?_⟩
    try dsimp only
    rw[ej];refine⟨q,_,_,_,rfl,rfl,.of J,ZA (j:=j) (by rw[Zc,Zf hj];rfl),?_⟩;generalize M[j]=c
   case' cb=>
    refine⟨_,rfl,_,rfl,_,_,rfl,rfl,.inr ⟨by omega,by omega⟩,?_⟩
    try dsimp only
    generalize a*a=c
   all_goals
    refine⟨_,rfl,_,_,rfl,rfl,⟨by decide,by decide,by decide⟩,_,_,rfl,rfl,_,rfl,?_⟩;refine Z1 (λhA=>?_) (λhA=>?_)
    ·refine⟨_,rfl,_,rfl,q,_,rfl,.inl (.of J),?_⟩
     rw[len];refine⟨_,_,rfl,rfl,_,rfl,?_⟩;refine Z1 (λhB=>?_) (λhB=>?_)
     ·have hc:0<=c:=by
       have:=of_decide_eq_true hA;have o0:(10:Int) ^ (18:Int).toNat=1000000000000000000:=by decide
       omega
      refine⟨_,rfl,_,rfl,_,_,rfl,rfl,⟨m0,m1⟩,_,rfl,p,_,rfl,ZhN h4,?_⟩;refine⟨_,rfl,_,rfl,_,_,rfl,rfl,m0,?_⟩;exact k _ _ (bY _ (by omega)) (bD _ m0) (k4.trans λb o e hb=>by rw[Zy hb];exact e) (T4 _ (jU hc (by omega)))
     ·refine⟨_,rfl,_,_,rfl,rfl,(by show (0:Int)<_;decide),_,_,rfl,rfl,_,rfl,_,_,rfl,rfl,.inl ⟨by decide,by decide⟩,_,_,rfl,rfl,_,_,rfl,rfl,.inl ⟨by have:=bY c (show (2147483629:Int)≠0 by decide);omega,by have:=bD c (show (0:Int)<2147483629 by decide);omega⟩,_,_,rfl,rfl,(by show (0:Int)<_;decide),?_⟩
      refine⟨_,rfl,_,_,rfl,rfl,.inr ⟨by decide,by decide⟩,_,rfl,_,rfl,_,_,rfl,rfl,.inr ⟨by omega,by omega⟩,_,_,rfl,rfl,.inr ⟨by decide,by decide⟩,_,_,rfl,rfl,_,_,rfl,rfl,(by show (0:Int)<_;decide),_,_,rfl,rfl,⟨by decide,by decide⟩,_,rfl,_,_,rfl,rfl,m0,?_⟩;exact k _ _ (bY _ (by omega)) (bD _ m0) k4 ⟨M,a+1,l,h4,J,O,l0,by omega,by omega⟩
    ·refine⟨_,rfl,_,_,rfl,rfl,(by show (0:Int)<_;decide),_,_,rfl,rfl,_,rfl,_,_,rfl,rfl,.inl ⟨by decide,by decide⟩,_,_,rfl,rfl,_,_,rfl,rfl,.inl ⟨by have:=bY c (show (2147483629:Int)≠0 by decide);omega,by have:=bD c (show (0:Int)<2147483629 by decide);omega⟩,_,_,rfl,rfl,(by show (0:Int)<_;decide),?_⟩
     refine⟨_,rfl,_,_,rfl,rfl,.inr ⟨by decide,by decide⟩,_,rfl,_,rfl,_,_,rfl,rfl,.inr ⟨by omega,by omega⟩,_,_,rfl,rfl,.inr ⟨by decide,by decide⟩,_,_,rfl,rfl,_,_,rfl,rfl,(by show (0:Int)<_;decide),_,_,rfl,rfl,⟨by decide,by decide⟩,_,rfl,_,_,rfl,rfl,m0,?_⟩;exact k _ _ (bY _ (by omega)) (bD _ m0) k4 ⟨M,a+1,l,h4,J,O,l0,by omega,by omega⟩
end
end C55
namespace Pm
open PySem L2 PySem.Spec PyProof.Rows
open Tb
theorem Y7 {W:Type}(m7:W->Addr)(Pr:Nat->W->Hp->Prop)(U:W->Hp->Prop){J:It}{own:List Str}{m6:TY}{te:TE}{σ:L2.St}{H:Hp}{Q:VK}{xs:TL}(S:WA J H xs)(cs:L2.St)(n6:JG own m6 σ=none::cs)(hn:xs.length<=1000)
  (mono:∀i w H q,Zw H q->Pr i w H->Pr i w q) (m9:∀w H q,Zw H q->U w q->U w H) (hu:∀i w H0 H1 D o ys n8,Pr i w H1->U w H0->H0 D=some (.lst o)->H1 D=some (.lst ys)->Pr i w (upd H1 D (.lst n8)))
  (hs:∀(i:Nat) y,xs[i]?=some y->∀q,Zw H q->∀R:VK,(∀w Y,Zw q Y->Pr i w Y->U w q->R (.ref (m7 w)) Y)->te (some y::cs) q R)
  (hd:∀D (M:List W) q,H D=none->Zw H q->q D=some (.lst (M.map λw=>V.ref (m7 w)))->M.length=xs.length->(∀(i:Nat) w,M[i]?=some w->Pr i w q/\U w H)->(∀(i j:Nat) w w',i<j->M[i]?=some w->M[j]?=some w'->∃Hm,Pr i w Hm/\U w' Hm)->Q (.ref D) q):W0 own m6 (Yc 0) WF te σ Q J H:=by
 refine UK (xs:=xs) (λD i ys q=>Zw H q/\∃M:List W,ys=M.map (λw=>V.ref (m7 w))/\M.length=i/\(∀(i:Nat) w,M[i]?=some w->Pr i w q/\U w H/\∃H0 o,H0 D=some (.lst o)/\U w H0)/\(∀(i j:Nat) w w',i<j->M[i]?=some w->M[j]?=some w'->∃Hm,Pr i w Hm/\U w' Hm)) cs n6 (by omega) ?_ ?_ ?_ ?_
 ·intro D i ys q hD O p
  have S':=S.mono p.1;exact⟨λhi=>⟨S'.go i q (Zw.refl _) hi,λx H3 y=>S'.yld i q x H3 (Zw.refl _) hi y⟩,λe=>e▸S'.stop q (Zw.refl _)⟩
 ·intro D hD
  exact⟨Zw.upd hD,[],rfl,rfl,(λi w hw=>by cases hw),(λi j w w' _ h=>by cases h)⟩
 ·rintro D i y ys q hD O hy ⟨sm,M,rfl,wl,hw,hp⟩ R k
  refine hs i y hy q sm R λw Y s5 p5 n5=>?_;have m8:=s5 _ _ O;have lst:∀(b:Nat) v,(M++[w])[b]?=some v->(b<M.length/\M[b]?=some v)\/(b=M.length/\v=w):=λb v hb=>by
   by_cases m5:b<M.length
   ·rw[ak m5] at hb
    exact .inl ⟨m5,hb⟩
   ·rw[aq (by omega)] at hb
    have n9:b-M.length=0:=by
     apply aj;intro z;rw[ag (by rw[Zk];omega)] at hb;cases hb
    rw[n9] at hb;cases hb;exact .inr ⟨by omega,rfl⟩
  refine k _ Y m8 ⟨(sm.trans s5).updr hD,M++[w],by rw[aN];rfl,by rw[Zd,wl];rfl,λb v hv=>?_,λa b v v' o0 ha hb=>?_⟩
  ·rcases lst b v hv with ⟨_,hv⟩|⟨hb,hv⟩
   ·obtain⟨h1,h2,H0,o,h3,h4⟩:=hw b v hv
    exact⟨hu b v H0 Y D o _ _ (mono b v _ _ s5 h1) h4 h3 m8,h2,H0,o,h3,h4⟩
   ·subst hv
    subst hb;rw[<-wl] at p5;exact⟨hu _ v q Y D _ _ _ p5 n5 O m8,m9 v _ _ sm n5,q,_,O,n5⟩
  ·rcases lst b v' hb with ⟨m5,hb⟩|⟨m5,hb⟩
   ·rw[ak (by omega)] at ha
    exact hp a b v v' o0 ha hb
   ·subst hb
    rw[ak (by omega)] at ha;exact⟨q,(hw a v ha).1,n5⟩
 ·rintro D ys Y hD O o5 ⟨sm,M,rfl,wl,hw,hp⟩
  exact hd D M Y hD sm O wl (λi w h=>⟨(hw i w h).1,(hw i w h).2.1⟩) hp
theorem Y8 {J:It}{own:List Str}{M:TY}{te:TE}{σ:L2.St}{H:Hp}{Q:VK}{xs:TL}(S:WA J H xs)(cs:L2.St)(m5:JG own M σ=none::cs)(F:Nat->V)(hz:xs.length<=1000)
  (hs:∀(i:Nat) y,xs[i]?=some y->∀j,Zw H j->∀R:VK,(∀O,Zw j O->R (F i) O)->te (some y::cs) j R)
  (hd:∀D j,H D=none->Zw H j->j D=some (.lst ((ae xs.length).map F))->Q (.ref D) j):W0 own M (Yc 0) WF te σ Q J H:=by
 refine UK (xs:=xs) (λD i Y j=>Zw H j/\Y=(ae i).map F) cs m5 (by omega) ?_ ?_ ?_ ?_
 ·intro D i Y j U q p
  have S':=S.mono p.1;exact⟨λhi=>⟨S'.go i j (Zw.refl _) hi,λx H3 y=>S'.yld i j x H3 (Zw.refl _) hi y⟩,λe=>e▸S'.stop j (Zw.refl _)⟩
 ·intro D U
  exact⟨Zw.upd U,rfl⟩
 ·rintro D i y Y j U q hy ⟨sm,rfl⟩ R k
  refine hs i y hy j sm R λO s5=>k _ O (s5 _ _ q) ⟨(sm.trans s5).updr U,?_⟩;rw[ck,aN];rfl
 ·rintro D Y O U q m6 ⟨sm,rfl⟩
  exact hd D O U sm q
theorem XC {X:Cx}(K:aa)(j:X.K=K:=by rfl):Yd X (.type "tuple") (_root_.L2.I_call_tupleZ K):=j▸Zdk
theorem Tz.updL {H:Hp}{a D:Addr}{ys q:TL}{o:HO}(h:Tz H a ys)(J:H D=some (.lst q)):Tz (upd H D o) a ys:=by
 obtain⟨u,j,M⟩:=h;exact⟨u,by rw[Zy (λz=>by rw[z,J] at j;cases j)];exact j,M⟩
section
variable {fd:T9}{os:TY}
end
end Pm
namespace Tb
def trn (m r:Nat):Nat->Nat
 |0=>1
 |s+1=>trn m r s*r % m
theorem ZgH {m:Nat}(j:m<=60)(q:1<=m)(r:Nat):∀s,trn m r s<=60
 |0=>by show 1<=60;omega
 |s+1=>by
  have:=bO (trn m r s*r) (show 0<m by omega);rw[trn];omega
def twV (m k r c a b:Nat):Nat:=(a / k+trn m r (a % k)*(b / k)+c*((a % k+b % k) / k)) % m*k+(a % k+b % k) % k
def twT (m k r c:Nat):T9:=(ae (m*k)).map λa=>(ae (m*k)).map λb=>twV m k r c a b
end Tb
namespace C55
open PySem L2 PySem.Spec PyProof.Rows
open Tb Pm
noncomputable abbrev Zg7:Stmt:=top 41
inductive VL (vs:TL) (H:Hp) (Q:VK) (E03:XK):Prop
 |mk (m k r c:Nat):(vs=[.int m,.int k,.int r,.int c])->(1<=m)->(1<=k)->(m<=60)->(k<=60)->(m*k<=60)->(r<=60)->(c<=60)->(∀g H',Zw H H'->GT H' g (twT m k r c)->Q (.ref g) H')->VL vs H Q E03
theorem Zks (f:Nat->V)(s:Nat):Xu ((ae (s+1)).map f) (-1)=some (f s):=by
 rw[ck,aN];exact UX _ _
section
variable {P:Program}{w:World}{K:aa}{mg:TR}{base:Heap}
theorem ZhR {f:Addr}{fd:FuncData}(F:Wu K "_law_twisted" "_law_twisted" Zg7 f fd)(T:BlB mg):Z2 P w K mg base Z9 1 f fd ["_law_m", "_law_k", "_law_r", "_law_c"] VL:=by
 refine F.ok (FS (N:=["_law_m", "_law_k", "_law_r", "_law_c", "_law_turns", "_law_s", "_law_rows", "_law_a", "_law_i", "_law_line", "_law_b", "_law_t", "_law_first"])) (λvs H Q E h=>?_) (λo9 A o6 s H vs Q E hr h=>?_)
 ·obtain⟨m,k,r,c,rfl,_⟩:=h;rfl
 ·obtain⟨m,k,r,c,rfl,m1,k1,m9,p4,o8,p6,p7,q⟩:=h
  refine⟨_,Zt (ZG 4 rfl (ZK (pc Zv Zs)))
   (Zt (ZV ao rfl (J9 T.range (pc (vn 1) Zs)) (gn 5)
   (Zx (Yq (Wh aG aO aS ZZ (vn 4) (pc (Zz ZX (Zz ZS (ZB (WB K) (vn 4) (Xf W9 Zv) (λ_ _=>rfl)) (vn 2)) (vn 0)) Zs)))))
   (Zt (ZG 6 rfl (ZK Zs))
   (Zt (ZV ao rfl (J9 T.range (pc (Zz ZS (vn 0) (vn 1)) Zs)) (gn 7)
   (Zt (ZG 8 rfl (Zz Wi (vn 7) (vn 1)))
   (Zt (ZG 5 rfl (Zz ZX (vn 7) (vn 1)))
   (Zt (ZG 9 rfl (ZK Zs))
   (Zt (ZV ao rfl (J9 T.range (pc (Zz ZS (vn 0) (vn 1)) Zs)) (gn 10)
   (Zt (ZG 11 rfl (Zz YG (vn 5) (Zz ZX (vn 10) (vn 1))))
   (Zt (ZG 12 rfl (Zz YG (Zz YG (vn 8) (Zz ZS (ZB (WB K) (vn 4) (vn 5) (λ_ _=>rfl)) (Zz Wi (vn 10) (vn 1)))) (Zz ZS (vn 3) (Zz Wi (vn 11) (vn 1)))))
   (Zx (Yq (Wh aG aO aS ZZ (vn 9) (pc (Zz YG (Zz ZS (Zz ZX (vn 12) (vn 0)) (vn 1)) (Zz ZX (vn 11) (vn 1))) Zs)))))))
   (Zx (Yq (Wh aG aO aS ZZ (vn 6) (pc (ct (XC K) T.tuple (pc (vn 9) Zs)) Zs)))))))))
   (Zx (ZE (ct ZL T.tuple (pc (vn 6) Zs))))))),?_⟩
  have sz:=Ja;refine⟨WK,λY n6=>?_⟩;have s1:=Zw.upd (H:=H) (o:=.lst [.int 1]) n6;have h1:upd H Y (.lst [.int 1]) Y=some (.lst ((ae (0+1)).map λi=>V.int ((trn m r i:Nat):Int))):=Zu;generalize upd H Y (.lst [.int 1])=H1 at s1 h1 ⊢;refine⟨_,rfl,_,rfl,by omega,by omega,?_⟩;rw[Zj];refine YD (λi J H'=>∃v5 v6 v7 v8 v9 M O U:TK,J=[some (.int (m:Nat)),some (.int (k:Nat)),some (.int (r:Nat)),some (.int (c:Nat)),some (.ref Y),v5,v6,v7,v8,v9,M,O,U]/\Zw H H'/\H' Y=some (.lst ((ae (i+1)).map λi=>V.int ((trn m r i:Nat):Int)))) ⟨_,_,_,_,_,_,_,_,rfl,s1,h1⟩ ?_ ?_
  ·rintro i J H2 hi ⟨v5,v6,v7,v8,v9,M,O,U,rfl,s2,h2⟩
   have tl:=ZgH m9 m1 r i;refine⟨_,rfl,.inl ⟨rfl,_,.of h2⟩,_,rfl,_,rfl,Y,_,_,_,rfl,rfl,.of h2,Zks _ i,_,rfl,_,_,rfl,rfl,.inr ⟨by omega,by omega⟩,_,rfl,_,_,rfl,rfl,(by show (0:Int)<(m:Int);omega),Y,_,_,rfl,rfl,h2,by rw[Za,Zg];omega,?_⟩;refine⟨_,_,_,_,_,_,_,_,rfl,s2.updr n6,?_⟩;rw[Zu,ck (n:=i+1),aN];rfl
  ·rintro J H2 ⟨v5,v6,v7,v8,v9,M,O,U,rfl,s2,h2⟩
   refine⟨WK,λLr m5=>?_⟩;have s3:=s2.trans (Zw.upd (H:=H2) (o:=.lst []) m5);have h3:upd H2 Lr (.lst []) Lr=some (.lst ([]:TL)):=Zu;have n8:=(Zw.upd (H:=H2) (o:=.lst []) m5) _ _ h2;have n9:H Lr=none:=s2.free m5;have o0:Y≠Lr:=λz=>by rw[z,m5] at h2;cases h2
   generalize upd H2 Lr (.lst [])=H3 at s3 h3 n8 ⊢;refine⟨_,rfl,_,rfl,_,_,rfl,rfl,.inr ⟨by omega,by omega⟩,_,rfl,?_,?_,?_⟩
   ·rw[<-aJ];omega
   ·rw[<-aJ];omega
   rw[<-aJ,Zj];refine YD (λa J H'=>∃(rs:TN) (v5 v7 v8 v9 M O U:TK),J=[some (.int (m:Nat)),some (.int (k:Nat)),some (.int (r:Nat)),some (.int (c:Nat)),some (.ref Y),v5,some (.ref Lr),v7,v8,v9,M,O,U]/\Zw H H'/\H' Y=some (.lst ((ae (k+1)).map λi=>V.int ((trn m r i:Nat):Int)))/\H' Lr=some (.lst (rs.map V.ref))/\rs.length=a/\∀(i:Nat) x,rs[i]?=some x->Tz H' x (((ae (m*k)).map λb=>twV m k r c i b).map nV)) ⟨[],_,_,_,_,_,_,_,rfl,s3,n8,h3,rfl,λi x h=>by cases h⟩ ?_ ?_
   ·rintro a J H4 ha ⟨rs,v5,v7,v8,v9,M,O,U,rfl,s4,m7,h4,rl,m8⟩
    rw[show (0:Int)+(a:Int)=(a:Int) by omega];refine⟨_,rfl,_,rfl,_,_,rfl,rfl,⟨by omega,by omega⟩,?_⟩;refine⟨_,rfl,_,rfl,_,_,rfl,rfl,(by show (0:Int)<(k:Int);omega),?_⟩;refine⟨WK,λLn o5=>?_⟩;have s5:=Zw.upd (H:=H4) (o:=.lst []) o5;have h5:upd H4 Ln (.lst []) Ln=some (.lst ((ae 0).map λb=>nV (twV m k r c a b))):=Zu;generalize upd H4 Ln (.lst [])=H5 at s5 h5 ⊢;refine⟨_,rfl,_,rfl,_,_,rfl,rfl,.inr ⟨by omega,by omega⟩,_,rfl,?_,?_,?_⟩
    ·rw[<-aJ];omega
    ·rw[<-aJ];omega
    rw[<-aJ,Zj];have ed:(a:Int) / (k:Int)=((a / k:Nat):Int):=(eh a k).symm;have em:(a:Int) % (k:Int)=((a % k:Nat):Int):=(a5 a k).symm;refine YD (λb J H'=>∃(M O U:TK),J=[some (.int (m:Nat)),some (.int (k:Nat)),some (.int (r:Nat)),some (.int (c:Nat)),some (.ref Y),some (.int ((a % k:Nat):Int)),some (.ref Lr),some (.int (a:Nat)),some (.int ((a / k:Nat):Int)),some (.ref Ln),M,O,U]/\Zw H4 H'/\H' Ln=some (.lst ((ae b).map λb=>nV (twV m k r c a b)))) ⟨_,_,_,by rw[<-ed,<-em];rfl,s5,h5⟩ ?_ ?_
    ·rintro b J H6 hb ⟨M,O,U,rfl,s6,h6⟩
     rw[show (0:Int)+(b:Int)=(b:Int) by omega];have p8:a % k<k:=bO _ (by omega);have tl:=ZgH m9 m1 r (a % k);have bk:b / k<=60:=aW (jT _ _) (by omega);have tk:(a % k+b % k) / k<=120:=by
      have:=bO b (show 0<k by omega);exact aW (jT _ _) (by omega)
     refine⟨_,rfl,_,rfl,_,rfl,_,_,rfl,rfl,(by show (0:Int)<(k:Int);omega),_,_,rfl,rfl,?_⟩
     try dsimp only
     rw[<-a5,<-fO];refine⟨_,rfl,_,rfl,_,rfl,Y,_,_,_,rfl,rfl,.of (s6 _ _ m7),ZA (j:=a % k) (by rw[Zc,ai (by omega)];rfl),_,rfl,_,rfl,_,_,rfl,rfl,⟨by omega,by omega⟩,?_⟩
     try dsimp only
     rw[<-eh];refine⟨_,_,rfl,rfl,.inr ⟨mJ (by decide) (dB _),mK (Int.ofNat_le.mpr bk) (by decide)⟩,_,_,rfl,rfl,_,rfl,_,rfl,_,rfl,_,_,rfl,rfl,⟨by omega,by omega⟩,?_⟩
     try dsimp only
     rw[<-eh];refine⟨_,_,rfl,rfl,.inr ⟨mJ (by decide) (dB _),mK (Int.ofNat_le.mpr tk) (by decide)⟩,_,_,rfl,rfl,?_⟩
     try dsimp only
     rw[<-aJ,<-aJ,<-fO,<-fO];refine⟨_,rfl,.inl ⟨rfl,_,.of h6⟩,_,rfl,_,rfl,_,_,rfl,rfl,(by show (0:Int)<(m:Int);omega),_,rfl,_,_,rfl,rfl,.inr ⟨by omega,by omega⟩,_,rfl,_,rfl,_,_,rfl,rfl,(by show (0:Int)<(k:Int);omega),_,_,rfl,rfl,Ln,_,_,rfl,rfl,h6,by rw[Za,Zg];omega,?_⟩;refine⟨_,_,_,rfl,s6.updr o5,?_⟩;rw[Zu,ck,aN]
     try dsimp only
     rw[<-a5,<-aJ,<-a5,<-fO];rfl
    ·rintro J H6 ⟨M,O,U,rfl,s6,h6⟩
     have o7:=s6 _ _ h4;refine⟨_,rfl,.inl ⟨rfl,_,.of o7⟩,_,rfl,Ln,_,rfl,.of h6,λl H7 nl s7 hz=>?_⟩;have m6:=s6.trans s7;have h7:=m6 _ _ h4;refine⟨Lr,_,_,rfl,rfl,h7,by rw[Za,rl];omega,?_⟩;have ez:((ae (m*k)).map λb=>nV (twV m k r c a b))=((ae (m*k)).map λb=>twV m k r c a b).map nV:=by rw[aC];rfl
     rw[ez] at hz;refine⟨rs++[l],_,_,_,_,_,_,_,rfl,(s4.trans m6).updr n9,by rw[Zy o0];exact m6 _ _ m7,by rw[Zu,aN];rfl,by rw[Zd,rl];rfl,λi x hx=>?_⟩;by_cases hi:i<rs.length
     ·rw[ak hi] at hx
      exact Tz.updL ((m8 i x hx).mono m6) h7
     ·have hl:=(ac.mp hx).1
      rw[Zd,Zk] at hl;have ei:i=rs.length:=by omega
      rw[aq (by omega),ei,cr] at hx;cases hx;rw[ei,rl];exact Tz.updL hz h7
   ·rintro J H4 ⟨rs,v5,v7,v8,v9,M,O,U,rfl,s4,m7,h4,rl,m8⟩
    refine⟨_,rfl,Lr,_,rfl,.inl ⟨.of h4,λg ng=>?_⟩⟩;have s5:=Zw.upd (H:=H4) (o:=.tup (rs.map V.ref)) ng;refine q g _ (s4.trans s5) ⟨rs,Zu,by unfold twT;rw[Za,Zg,rl],λi x hx=>?_⟩;have hi:i<m*k:=by rw[<-rl];exact (ac.mp hx).1
    have er:(twT m k r c).getD i []=(ae (m*k)).map λb=>twV m k r c i b:=by unfold twT;rw[Zb,Zc,ai hi];rfl
    rw[er];exact (m8 i x hx).mono s5
end
end C55
namespace Tb
def Zm1:Nat->Nat->TY
 |0,_=>[]
 |k+1,x=>x % 64::Zm1 k (x / 64)
def rwL {α:Type}(k:Nat):Nat->List α->List (List α)
 |0,_=>[]
 |r+1,l=>l.take k::rwL k r (l.drop k)
end Tb
namespace Pm
open Tb
def sm1:T9:=[[3,2,2,0],[4,2,3,2],[4,1,1,0],[5,1,1,0],[2,2,1,0],[5,2,4,0],[4,2,3,0]]
def sm2:T9:=[[3,4,2,0],[7,3,2,0],[1,1,1,0],[3,1,1,0],[2,1,1,0],[6,1,1,0],[5,4,2,0]]
def sm3:T9:=[[6,2,5,0],[3,3,1,0],[7,2,6,0],[8,2,3,0],[8,2,7,4],[8,2,7,0],[7,1,1,0]]
def sm4:T9:=[[4,2,1,0],[8,1,1,0],[8,2,5,0],[9,2,8,0],[9,1,1,0],[4,4,3,0]]
def smC:T9:=sm1++sm2++sm3++sm4
def twX (x:TY):T9:=twT (x.getD 0 0) (x.getD 1 0) (x.getD 2 0) (x.getD 3 0)
def tgT (t u:T9):T9:=(ae (t.length*u.length)).map λa=>(ae (t.length*u.length)).map λb=>ZP t (a / u.length) (b / u.length)*u.length+ZP u (a % u.length) (b % u.length)
def ZaU:T9:=[[0,1],[1,0]]
def tbC:Y4:=smC.map twX++[tgT (twX [4,2,3,0]) ZaU,tgT (twX [4,2,3,2]) ZaU]
def ivM (p x:Nat):Nat:=((ae p).find? λy=>y*x % p == 1).getD 0
def ZoD (N p:Nat)(bs J j q:TY)(E:T9):T9:=(ae j.length).map λs=>(ae j.length).map λc=>N*VC E s (J.getD (bs.getD (j.getD c 0) 0) 0)*ivM p (q.getD s 0*q.getD s 0 % p) % p
def ZpZ (p:Nat)(j:TY)(F:T9):T9:=F.map λr=>(ae r.length).map λc=>r.getD c 0*(j.filter (· == c)).length % p
def Zp1 (N n p z:Nat)(bs cl rp dg:TY)(E:T9):TY×Dt:=(bs,⟨n,p,z,cl,rp,E,ZpZ p cl (ZoD N p bs cl rp dg E),ZoD N p bs cl rp dg E,dg⟩)
def Zp0 (x:Nat):TY×Dt:=match Zm1 5 x with
 | [N,m,n,p,z]=>let r:=Zm1 (2*N+2*m+m*m) (x / 1073741824);Zp1 N n p z (r.take N) ((r.drop N).take N) ((r.drop (2*N)).take m) (r.drop (2*N+m+m*m)) (rwL m m (r.drop (2*N+m)))
 |_=>([],⟨0,0,0,[],[],[],[],[],[]⟩)
noncomputable def Zga:List (TY×Dt):=[
 0x810420031861860460810010810810050831010031c60c6,
 0x81041046000007145145145208145148148145148205103081003081103081003081107185005344148,
 0x1041044104103042102043101101103081003081001083002144104,
 0x410410492492491440432430441490450c42440c50491030810040c20400420c40032c5145,
 0x1041044104101044101101104041103081003081003081004142104,
 0x20810481401c52001ca28a28a2812840810010810c10c10810090871051832010022ca10a,
 0x81041046000007145145145208145148148145148205103081003081103081007085103181005344148,
 0x208104104208024024b08010024130804530c30c30c30c30130130130504830610308100314110314110308100918b10528720108300234c18c,
 0xc3041055700019715000669a69a69a6939fa69a5f3a92430810020440811020430811020430810c20401ce0cd1464d124420c2943d02d2042009ad5155,
 0x410000010c1041,
 0x410451450c61460c50810020400420021c30c3,
 0x10420810810010010020c2082,
 0x10410410461861861850c61431841410c21831460c51820c11441811811811851030810051030810010831050031c6186,
 0x1010410480000099d70929e79e79e79c29c29e74825e710308100308110308110308110308110308100948f11138720529330d18b401083002a54154,
 0x20810410420401801450400401430c30c30c40c41030c30c40c40c40c31040c610308100308110314110308100b0891071852032810031c618c,
 0x410410410410441041041041040410420821041020820410441040421010840421021011010810841010821010421020440811020441020411020811011021020420442071851030810081c61440c20401050c72060420021c3249,
 0x8208104f05101544f04054144f0156db6db6db6db09b1840810010810c11011010c108100d08b10918720528330100474e14e,
 0x8208104104034400000d0c400038034e10000300d41041041040141004141041040140140141040105028810308100318110318114308110308100708d10318920f28530b3810024481d0,
 0x8208104104d00400000d10c00014034414000c00d41041041041005004141041040140141005040105020610308100308110314118314110308100708510318120f28d30b3890024481d0,
 0x8208104104d00400000d10c00014034414000c00d41041041041005004141041040140141005040105020610308100308110314118314110308100f08d10b1892072853033810024481d0,
 0x410410410596596596590475185d06575014181d91d84015176580571d05195101d70586505d85070591851030810061440c20400420c41460077471c7,
 0x104104104104514514514514c30820104514104820c30514820514820514814814814814130520c04814c045201308145208145208147185103081007185103081003085107181005344208,
 0x104104104104f3cf3cf3cf3cd2410842103c90883c90883c120d0902443d020408124d3c80893c80893c425008d2013c23c23c23c23c7185103081007185103081001083105187002448208,
 0x208104104104104110000040000035010000004000035041041041041040140d34104411040140410104d35041040105040105041040140140140140140435004d10140140d11004434141041004141004140c20718510308100718524308120718510308100b08510f18920328d307381002448290,
 0x20820810410853403cd0811403c508d0403c23c20803d24924924924924814881840810010810c11011411411010c108101108f10d18b2092873053834010024d2192,
 0x410410410410514514514514512c61411101c94491d01011462d11c414b2500464454111504454110491471902c44501514054501511814092c51074442d01871490512071851030810081c61440c20400420c41461c80044c9249,
 0x20810410410410430c000000028028a0c00000000c028924924924924924924410410924924424710624710624424624710710624424610724610724424724610610724924424424424424924910910424424a20718510308100718510324120718510308100d18f10928b205387301083005344290,
 0x20410410810410430c000000000a28924924924924924924410410924924924410924410924924924410410924a0c000000000328424424424424424424910910424424424910424910424424424910910424920718510308100718510308920718510308100f38510b28920718d303081005344290,
 0x20410410810410430c000000000a28924924924924924924410410924924924410924410924924924410410924a0c000000000328424424424424424424910910424424424910424910424424424910910424920718510308100718510308920718510308100718510308920f38d30b281005344290].map Zp0
def d0:TY×Dt:=([],⟨0,0,0,[],[],[],[],[],[]⟩)
noncomputable def okB (i:Nat):Bool:=pwB (tbC.getD i []) && tdB (tbC.getD i []) (Zga.getD i d0).1 (Zga.getD i d0).2
theorem okC:∀i,i<29->okB i=true
 |0,_=>by decide +kernel
 |1,_=>by decide +kernel
 |2,_=>by decide +kernel
 |3,_=>by decide +kernel
 |4,_=>by decide +kernel
 |5,_=>by decide +kernel
 |6,_=>by decide +kernel
 |7,_=>by decide +kernel
 |8,_=>by decide +kernel
 |9,_=>by decide +kernel
 |10,_=>by decide +kernel
 |11,_=>by decide +kernel
 |12,_=>by decide +kernel
 |13,_=>by decide +kernel
 |14,_=>by decide +kernel
 |15,_=>by decide +kernel
 |16,_=>by decide +kernel
 |17,_=>by decide +kernel
 |18,_=>by decide +kernel
 |19,_=>by decide +kernel
 |20,_=>by decide +kernel
 |21,_=>by decide +kernel
 |22,_=>by decide +kernel
 |23,_=>by decide +kernel
 |24,_=>by decide +kernel
 |25,_=>by decide +kernel
 |26,_=>by decide +kernel
 |27,_=>by decide +kernel
 |28,_=>by decide +kernel
 |n+29,h=>by omega
def MkC (t:T9):Prop:=t∈tbC
end Pm
namespace Pm
open PySem L2 PySem.Spec PyProof.Rows
open Tb
section
variable {X:Cx}
theorem ZhF {op:kO}{r:R2}{a b:Expr}{j tb:TE}{pos:Pos}(q:X8 X (binaryOp op) r)(J:PE X a j)(hb:QE X b tb):QE X (.BinOp a op b pos) (tOp r j tb):=⟨Zz q J hb.h⟩
theorem g4 (K:aa)(i j k l:Nat){X:Cx}{x y z u:Str}{n}{q J M O pos:Pos}(Y:X.calm=true)(hx:PG X (.Name x q) (Yc i))(hy:PG X (.Name y J) (Yc j))(hz:PG X (.Name z M) (Yc k))(hu:PG X (.Name u O) (Yc l))(hK:X.K=K:=by rfl)
  (hn:(assignEach [.Name x q,.Name y J,.Name z M,.Name u O] X.env).length=4:=by rfl) (U:(assignEach [.Name x q,.Name y J,.Name z M,.Name u O] X.env).findIdx? (·.1)=none:=by rfl) :
  PG X (.Tuple [.Name x q,.Name y J,.Name z M,.Name u O] n pos) (Zf2 K 4 (JD (Yc i) (JD (Yc j) (JD (Yc k) (JD (Yc l) Zf3))))):=hK▸Zbu Y (YJ hx (YJ hy (YJ hz (YJ hu XS)))) hn U
end
theorem TupsAt.cat {H:Hp}{Y L2 N:Addr}{j J:TN}{M O:T9}(q:TupsAt H Y j M)(R2:TupsAt H L2 J O)(nN:H N=none):TupsAt (upd H N (.lst (j.map V.ref++J.map V.ref))) N (j++J) (M++O):=by
 have s:=Zw.upd (H:=H) (o:=.lst (j.map V.ref++J.map V.ref)) nN;refine⟨by rw[Zu,aN],by rw[Zd,Zd,q.2.1,R2.2.1],λi b hb=>?_⟩;by_cases U:i<j.length
 ·rw[ak U] at hb
  rw[Zb,ak (by rw[<-q.2.1];exact U),<-Zb];exact s _ _ (q.2.2 i b hb)
 ·rw[aq (by omega)] at hb
  rw[Zb,aq (by rw[<-q.2.1];omega),<-Zb,<-q.2.1];exact s _ _ (R2.2.2 _ b hb)
theorem Uv {t:T9}(h:MkC t):PW t:=by
 obtain⟨i,hi⟩:=bx h;have J:=(ac.mp hi).1;have j:tbC.length=29:=by decide +kernel
 have:=okC i (by omega);unfold okB at this;have q:tbC.getD i []=t:=by rw[Zb,hi];rfl
 rw[q,ah] at this;exact Zmc this.1
end Pm
namespace C55
open PySem L2 PySem.Spec PyProof.Rows
open Tb Pm
def smB (x:TY):Bool:=decide (x.length=4) && decide (1<=x.getD 0 0) && decide (1<=x.getD 1 0) && decide (x.getD 0 0<=60) && decide (x.getD 1 0<=60) && decide (x.getD 0 0*x.getD 1 0<=60) && decide (x.getD 2 0<=60) && decide (x.getD 3 0<=60)
theorem Zl2:smC.all smB=true:=by decide +kernel
theorem Zos {x:TY}(h:x.length=4):x.map nV=[.int (x.getD 0 0:Nat),.int (x.getD 1 0:Nat),.int (x.getD 2 0:Nat),.int (x.getD 3 0:Nat)]:=by
 match x,h with
 | [a,b,c,d],_=>rfl
noncomputable abbrev Zhj:Stmt:=top 44
inductive Ua (vs:TL) (H:Hp) (Q:VK) (E03:XK):Prop
 |mk (p q:Addr) (b:Nat) (ms:Nat):(vs=[.ref p,.int ms])->(Y0 H p q b)->(b<2 ^ 60)->(1<=ms)->(ms<=27)->(∀g t H',Tk p H H'->Y0 H' p q (b+1)->GT H' g t->MkC t->Q (.ref g) H')->Ua vs H Q E03
section
variable {P:Program}{w:World}{K:aa}{mg:TR}{base:Heap}
structure Wl (p:Prop):Prop where
 h:p
theorem Zfl {X:Cx}{j:List Stmt}{D:WO}{σ:L2.St}{H:Hp}{t:TS}(h:QSs X j t)(k:Wl (t D σ H)):∃t,PSs X j t/\t D σ H:=⟨t,h.h,k.h⟩
theorem ZfM {f:Addr}{fd:FuncData}(F:Wu K "_law_group" "_law_group" Zhj f fd)(T:BlB mg)(GD:Fn P w K mg base Z9 1 "_law_draw" ["_law_feed_here", "_law_many"] Va)(n6:Fn P w K mg base Z9 1 "_law_twisted" ["_law_m", "_law_k", "_law_r", "_law_c"] VL):Z2 P w K mg base Z9 2 f fd ["_law_feed_here", "_law_most"] Ua:=by
 refine F.ok (FS (N:=["_law_feed_here", "_law_most", "_law_some", "_law_at", "_law_m", "_law_k", "_law_r", "_law_c", "_law_perms"])) (λvs H Q E h=>?_) (λo5 A n8 s H vs Q E hr h=>?_)
 ·obtain⟨p,q,b,ms,rfl,_⟩:=h;rfl
 ·obtain⟨p,q,b,ms,rfl,T0,hb,m1,o6,k⟩:=h
  refine Zfl (Xl (ZcC 2 rfl (ZcB (Xd (Yj [3,2,2,0] (qa qi (qa qi (qa qi (qa qi ZW)))) (by rfl)) (Xd (Yj [4,2,3,2] (qa qi (qa qi (qa qi (qa qi ZW)))) (by rfl)) (Xd (Yj [4,1,1,0] (qa qi (qa qi (qa qi (qa qi ZW)))) (by rfl)) (Xd (Yj [5,1,1,0] (qa qi (qa qi (qa qi (qa qi ZW)))) (by rfl)) (Xd (Yj [2,2,1,0] (qa qi (qa qi (qa qi (qa qi ZW)))) (by rfl)) (Xd (Yj [5,2,4,0] (qa qi (qa qi (qa qi (qa qi ZW)))) (by rfl)) (Xd (Yj [4,2,3,0] (qa qi (qa qi (qa qi (qa qi ZW)))) (by rfl)) XQ)))))))))
   (Xl (ZcC 2 rfl (ZhF Ut (vn 2) (ZcB (Xd (Yj [3,4,2,0] (qa qi (qa qi (qa qi (qa qi ZW)))) (by rfl)) (Xd (Yj [7,3,2,0] (qa qi (qa qi (qa qi (qa qi ZW)))) (by rfl)) (Xd (Yj [1,1,1,0] (qa qi (qa qi (qa qi (qa qi ZW)))) (by rfl)) (Xd (Yj [3,1,1,0] (qa qi (qa qi (qa qi (qa qi ZW)))) (by rfl)) (Xd (Yj [2,1,1,0] (qa qi (qa qi (qa qi (qa qi ZW)))) (by rfl)) (Xd (Yj [6,1,1,0] (qa qi (qa qi (qa qi (qa qi ZW)))) (by rfl)) (Xd (Yj [5,4,2,0] (qa qi (qa qi (qa qi (qa qi ZW)))) (by rfl)) XQ))))))))))
   (Xl (ZcC 2 rfl (ZhF Ut (vn 2) (ZcB (Xd (Yj [6,2,5,0] (qa qi (qa qi (qa qi (qa qi ZW)))) (by rfl)) (Xd (Yj [3,3,1,0] (qa qi (qa qi (qa qi (qa qi ZW)))) (by rfl)) (Xd (Yj [7,2,6,0] (qa qi (qa qi (qa qi (qa qi ZW)))) (by rfl)) (Xd (Yj [8,2,3,0] (qa qi (qa qi (qa qi (qa qi ZW)))) (by rfl)) (Xd (Yj [8,2,7,4] (qa qi (qa qi (qa qi (qa qi ZW)))) (by rfl)) (Xd (Yj [8,2,7,0] (qa qi (qa qi (qa qi (qa qi ZW)))) (by rfl)) (Xd (Yj [7,1,1,0] (qa qi (qa qi (qa qi (qa qi ZW)))) (by rfl)) XQ))))))))))
   (Xl (ZcC 2 rfl (ZhF Ut (vn 2) (ZcB (Xd (Yj [4,2,1,0] (qa qi (qa qi (qa qi (qa qi ZW)))) (by rfl)) (Xd (Yj [8,1,1,0] (qa qi (qa qi (qa qi (qa qi ZW)))) (by rfl)) (Xd (Yj [8,2,5,0] (qa qi (qa qi (qa qi (qa qi ZW)))) (by rfl)) (Xd (Yj [9,2,8,0] (qa qi (qa qi (qa qi (qa qi ZW)))) (by rfl)) (Xd (Yj [9,1,1,0] (qa qi (qa qi (qa qi (qa qi ZW)))) (by rfl)) (Xd (Yj [4,4,3,0] (qa qi (qa qi (qa qi (qa qi ZW)))) (by rfl)) XQ)))))))))
   (Xl ⟨ZG 3 rfl (Yz GD hr ZF (pc (vn 0) (pc (vn 1) Zs)))⟩
   (Xl ⟨Yx (ZH Zav (vn 3) (cb (Yr K) T.len (pc (vn 2) Zs)) (ZI _))
    (Zt (Js (ZB (WB K) (vn 2) (vn 3) (λ_ _=>rfl)) (g4 K 4 5 6 7 rfl (gn 4) (gn 5) (gn 6) (gn 7)))
    (Zx (ZE (Yz n6 hr ZF (pc (vn 4) (pc (vn 5) (pc (vn 6) (pc (vn 7) Zs)))))))) ZT⟩
   ⟨ZfB⟩)))))) ?_
  refine⟨?_⟩;have sz:=Ja;refine XL (JI sm1 (by decide) (by decide) λJ H1 s1 l1 i1 S1 n1=>?_);have t1:=s1.trans (Zw.upd (o:=.lst (J.map V.ref)) n1);have R1:TupsAt (upd H1 S1 (.lst (J.map V.ref))) S1 J sm1:=⟨Zu,l1,λi b hb=>Zw.upd (o:=.lst (J.map V.ref)) n1 _ _ (i1 i b hb)⟩;generalize upd H1 S1 (.lst (J.map V.ref))=G1 at t1 R1 ⊢;refine XL ⟨_,rfl,JI sm2 (by decide) (by decide) λM H2 s2 l2 i2 S2 n2=>?_⟩;have t2:=s2.trans (Zw.upd (o:=.lst (M.map V.ref)) n2);have R2:TupsAt (upd H2 S2 (.lst (M.map V.ref))) S2 M sm2:=⟨Zu,l2,λi b hb=>Zw.upd (o:=.lst (M.map V.ref)) n2 _ _ (i2 i b hb)⟩;generalize upd H2 S2 (.lst (M.map V.ref))=G2 at t2 R2 ⊢;have Y:=R1.mono t2;refine⟨S1,S2,_,_,rfl,rfl,Y.1,R2.1,by rw[Za,Za,Y.2.1,R2.2.1];decide,λN2 m2=>?_⟩;have u2:=(t1.trans t2).trans (Zw.upd (o:=.lst (J.map V.ref++M.map V.ref)) m2);have Q2:=Y.cat R2 m2;generalize upd G2 N2 (.lst (J.map V.ref++M.map V.ref))=J2 at u2 Q2 ⊢;refine XL ⟨_,rfl,JI sm3 (by decide) (by decide) λO H3 s3 l3 i3 S3 n3=>?_⟩;have t3:=s3.trans (Zw.upd (o:=.lst (O.map V.ref)) n3);have R3:TupsAt (upd H3 S3 (.lst (O.map V.ref))) S3 O sm3:=⟨Zu,l3,λi b hb=>Zw.upd (o:=.lst (O.map V.ref)) n3 _ _ (i3 i b hb)⟩;generalize upd H3 S3 (.lst (O.map V.ref))=G3 at t3 R3 ⊢;have m5:=Q2.mono t3;refine⟨N2,S3,_,_,rfl,rfl,m5.1,R3.1,by rw[Za,Za,m5.2.1,R3.2.1];decide,λN3 m3=>?_⟩;have u3:=(u2.trans t3).trans (Zw.upd (o:=.lst ((J++M).map V.ref++O.map V.ref)) m3);have Q3:=m5.cat R3 m3;generalize upd G3 N3 (.lst ((J++M).map V.ref++O.map V.ref))=J3 at u3 Q3 ⊢;refine XL ⟨_,rfl,JI sm4 (by decide) (by decide) λU H4 s4 l4 i4 S4 n4=>?_⟩;have t4:=s4.trans (Zw.upd (o:=.lst (U.map V.ref)) n4);have R4:TupsAt (upd H4 S4 (.lst (U.map V.ref))) S4 U sm4:=⟨Zu,l4,λi b hb=>Zw.upd (o:=.lst (U.map V.ref)) n4 _ _ (i4 i b hb)⟩;generalize upd H4 S4 (.lst (U.map V.ref))=G4 at t4 R4 ⊢;have m6:=Q3.mono t4;refine⟨N3,S4,_,_,rfl,rfl,m6.1,R4.1,by rw[Za,Za,m6.2.1,R4.2.1];decide,λN4 m4=>?_⟩;have u4:=(u3.trans t4).trans (Zw.upd (o:=.lst ((J++M++O).map V.ref++U.map V.ref)) m4);have Q4:TupsAt _ N4 (J++M++O++U) smC:=m6.cat R4 m4;generalize upd G4 N4 (.lst ((J++M++O).map V.ref++U.map V.ref))=J4 at u4 Q4 ⊢;generalize J++M++O++U=bs at Q4;have T4:=T0.mono u4;have n9:smC.length=27:=by decide
  refine⟨_,rfl,_,rfl,p,q,_,b,rfl,T4,hb,by omega,by omega,λr H5 r0 r1 k5 T5=>?_⟩;obtain⟨j,rfl⟩:=bM r0;have Q5:TupsAt H5 N4 bs smC:=⟨k5.lst T4 Q4.1,Q4.2.1,λi b hb=>k5.tup T4 (Q4.2.2 i b hb)⟩;have kk:=(Tk.of u4).trans k5;have bl:(bs.map V.ref).length=27:=by rw[Za,Q5.2.1,n9]
  refine⟨_,rfl,_,rfl,N4,_,rfl,.inl (.of Q5.1),_,_,rfl,rfl,_,rfl,?_⟩;rw[bl];refine Z1 (λhl=>?_) (λhl=>?_)
  ·have hj:j<27:=by
    have:=of_decide_eq_true hl;omega
   have m8:j<smC.length:=by omega
   obtain⟨a,ha,o0,m7⟩:=Q5.get m8;have hm:smC.getD j []∈smC:=ZmD m8;have hs:=aR.mp Zl2 _ hm;unfold smB at hs;simp only[ah,decide_eq_true_eq] at hs;obtain⟨⟨⟨⟨⟨⟨⟨x1,x2⟩,x3⟩,x4⟩,x5⟩,x6⟩,x7⟩,x8⟩:=hs;have m9:MkC (twX (smC.getD j [])):=bN _ (az.mpr ⟨_,hm,rfl⟩);generalize smC.getD j []=x at m7 hm x1 x2 x3 x4 x5 x6 x7 x8 m9;rw[Zos x1] at m7;refine⟨_,rfl,_,rfl,N4,_,_,_,rfl,rfl,.of Q5.1,o0,a,_,rfl,.of m7,rfl,_,_,rfl,_,_,rfl,_,_,rfl,_,_,rfl,rfl,?_⟩;refine⟨_,rfl,_,rfl,_,rfl,_,rfl,x.getD 0 0,x.getD 1 0,x.getD 2 0,x.getD 3 0,rfl,x2,x3,x4,x5,x6,x7,x8,λg H6 s6 G6=>?_⟩;exact k g _ H6 (kk.trans (Tk.of s6)) (T5.mono s6) G6 m9
  ·have hj:27<=j:=by
    have:¬((j:Int)<((27:Nat):Int)):=λz=>hl (decide_eq_true z);omega
   show False;omega
end
end C55
namespace Tb
theorem ZjZ {n:Nat}{o:TY}{k a:Nat}(O:Ord n o)(k1:1<=k)(M:k<n)(a1:1<=a)(U:a<n):Ord n ((o.set k (o.getD a 0)).set a (o.getD k 0)):=by
 have j:k<o.length:=by rw[O.len];exact M
 have q:a<o.length:=by rw[O.len];exact U
 have Y:o.getD k 0=o[k]:=by rw[Zb,Zf j];rfl
 have ea:o.getD a 0=o[a]:=by rw[Zb,Zf q];rfl
 have pm:((o.set k (o.getD a 0)).set a (o.getD k 0)).Perm o:=by rw[Y,ea];exact List.set_set_perm j q
 refine⟨by rw[aX,aX,O.len],pm.nodup_iff.mpr O.nd,λv J=>pm.mem_iff.mpr (O.all v J),λv J=>O.lt v (pm.mem_iff.mp J),?_⟩;have z:=O.z;rw[Zb] at z ⊢;rw[fC (by omega),fC (by omega)];exact z
theorem ZfG {n:Nat}(q:1<=n):Ord n (ae n):=⟨Zg,cU,λv j=>af.mpr j,λv j=>af.mp j,by rw[Zb,ai (by omega)];rfl⟩
end Tb
namespace C55
open PySem L2 PySem.Spec PyProof.Rows
open Tb Pm
noncomputable abbrev Zhe:Stmt:=top 45
inductive XF (vs:TL) (H:Hp) (Q:VK) (E03:XK):Prop
 |mk (p q:Addr) (b n:Nat):(vs=[.ref p,.int (n:Nat)])->(Y0 H p q b)->(b+60<2 ^ 60)->(1<=n)->(n<=60)->(∀L os H',Tk p H H'->Y0 H' p q (b+n)->Ord n os->H L=none->H' L=some (.lst (os.map nV))->Q (.ref L) H')->XF vs H Q E03
theorem Tk.updN {p l:Addr}{H j:Hp}{o:HO}(a:Tk p H j)(h:H l=none):Tk p H (upd j l o):=λc u e n=>by
 rw[Zy (λz=>by rw[z,h] at e;cases e)];exact a c u e n
section
variable {P:Program}{w:World}{K:aa}{mg:TR}{base:Heap}
theorem ZfL {f:Addr}{fd:FuncData}(F:Wu K "_law_order" "_law_order" Zhe f fd)(T:BlB mg)(GD:Fn P w K mg base Z9 1 "_law_draw" ["_law_feed_here", "_law_many"] Va):Z2 P w K mg base Z9 2 f fd ["_law_feed_here", "_law_many"] XF:=by
 refine F.ok (FS (N:=["_law_feed_here", "_law_many", "_law_order_here", "_law_k", "_law_at"])) (λvs H Q E h=>?_) (λm8 A m5 s H vs Q E hr h=>?_)
 ·obtain⟨p,q,b,n,rfl,_⟩:=h;rfl
 ·obtain⟨p,q,b,n,rfl,T0,hb,n1,n60,k⟩:=h
  refine⟨_,Zt (ZG 2 rfl (ct (Xj rfl) T.list (pc (ct JU T.range (pc (vn 1) Zs)) Zs)))
   (Zt (ZV ao rfl (Zn4 T.range (pc Zv (pc (vn 1) Zs))) (gn 3)
    (Zt (ZG 4 rfl (Zz YG Zv (Yz GD hr ZF (pc (vn 0) (pc (Zz Wt (vn 1) Zv) Zs)))))
    (Zx (Js (WC (pc (ZB (WB K) (vn 2) (vn 4) (λ_ _=>rfl)) (pc (ZB (WB K) (vn 2) (vn 3) (λ_ _=>rfl)) Zs))) (Zbu rfl (YJ (Jt (vn 2) (vn 3) YB) (YJ (Jt (vn 2) (vn 4) YB) XS)))))))
   (Zx (ZE (vn 2)))),?_⟩
  have sz:=Ja;refine⟨_,rfl,_,rfl,λr0 m6=>⟨r0,0,_,rfl,Zu,⟨by omega,by omega,by omega,by omega⟩,by omega,λl O=>?_⟩⟩;rw[show ((n:Int)-0).toNat=n by omega];have s1:Zw H (upd H r0 (.rng 0 (n:Int))):=Zw.upd m6;have nl:H l=none:=s1.free O;have s2:=s1.trans (Zw.upd (o:=.lst ((YC 0 n).map V.int)) O);have h2:upd (upd H r0 (.rng 0 (n:Int))) l (.lst ((YC 0 n).map V.int)) l=some (.lst ((ae n).map nV)):=by rw[Zu,ZjD]
  have np:=T0.neN nl;generalize upd (upd H r0 (.rng 0 (n:Int))) l (.lst ((YC 0 n).map V.int))=H2 at s2 h2 ⊢;refine⟨_,rfl,_,_,rfl,⟨by omega,by omega,by omega,by omega⟩,?_⟩;rw[show ((n:Int)-1).toNat=n-1 by omega];refine YD (λi J H'=>∃(v w:TK) (os:TY),J=[some (.ref p),some (.int (n:Nat)),some (.ref l),v,w]/\Tk p H H'/\Y0 H' p q (b+i)/\Ord n os/\H' l=some (.lst (os.map nV))) ⟨_,_,_,rfl,Tk.of s2,T0.mono s2,ZfG n1,h2⟩ ?_ ?_
  ·rintro i J H3 hi ⟨v,w,os,rfl,d3,T3,M,h3⟩
   refine⟨_,rfl,_,rfl,_,_,rfl,rfl,p,q,_,b+i,rfl,T3,by omega,by omega,by omega,λr H4 m7 m9 d4 T4=>?_⟩;obtain⟨j,rfl⟩:=bM m7;have h4:=d4.lst T3 h3;have hj:1+j<n:=by omega
   have U:1+i<n:=by omega
   have ej:(1:Int)+(j:Int)=((1+j:Nat):Int):=by omega
   have ei:(1:Int)+(i:Int)=((1+i:Nat):Int):=by omega
   have gj:(os.map nV)[1+j]?=some (nV (os.getD (1+j) 0)):=by rw[Zc,ZR (by rw[M.len];exact hj)];rfl
   have gi:(os.map nV)[1+i]?=some (nV (os.getD (1+i) 0)):=by rw[Zc,ZR (by rw[M.len];exact U)];rfl
   have lm:(os.map nV).length=n:=by rw[Za,M.len]
   refine⟨_,_,rfl,rfl,_,rfl,_,rfl,l,_,_,_,rfl,rfl,.of h4,by rw[ej];exact ZA gj,_,rfl,_,rfl,l,_,_,_,rfl,rfl,.of h4,by rw[ei];exact ZA gi,WK,λc nc=>?_⟩;have s5:=Zw.upd (H:=H4) (o:=.tup [nV (os.getD (1+j) 0),nV (os.getD (1+i) 0)]) nc;have h5:=s5 _ _ h4;have Y:upd H4 c (.tup [nV (os.getD (1+j) 0),nV (os.getD (1+i) 0)]) c=some (.tup [nV (os.getD (1+j) 0),nV (os.getD (1+i) 0)]):=Zu;have T5:=T4.mono s5;have d5:=(d3.trans d4).trans (Tk.of s5);generalize upd H4 c (.tup [nV (os.getD (1+j) 0),nV (os.getD (1+i) 0)])=H5 at s5 h5 Y T5 d5 ⊢;refine⟨c,_,rfl,.of Y,rfl,_,_,rfl,_,rfl,_,rfl,l,_,_,1+i,rfl,rfl,h5,by rw[ei];exact Wy (by omega),_,_,rfl,_,rfl,_,rfl,l,_,_,1+j,rfl,rfl,Zu,by rw[ej];exact Wy (by rw[aX];omega),rfl,?_⟩;refine⟨_,_,_,rfl,(d5.updN nl).updN nl,?_,ZjZ M (by omega) U (by omega) hj,?_⟩
   ·have:=(T5.put (o:=.lst ((os.map nV).set (1+i) (nV (os.getD (1+j) 0)))) np.1 np.2).put (o:=.lst (((os.map nV).set (1+i) (nV (os.getD (1+j) 0))).set (1+j) (nV (os.getD (1+i) 0)))) np.1 np.2
    rw[show b+(i+1)=b+i+1 by omega];exact this
   ·rw[Zu,kF,kF]
  ·rintro J H3 ⟨v,w,os,rfl,d3,T3,M,h3⟩
   exact⟨_,rfl,k l os H3 d3 (T3.le (by omega)) M nl h3⟩
end
noncomputable abbrev Zhc:Stmt:=top 46
inductive Za3 (vs:TL) (H:Hp) (Q:VK) (E03:XK):Prop
 |mk (L g:Addr) (t:T9) (os:TY):(vs=[.ref L,.ref g])->(H L=some (.lst (os.map nV)))->(GT H g t)->(PW t)->(Ord t.length os)->(∀g' H',Zw H H'->GT H' g' (ren t os)->Q (.ref g') H')->Za3 vs H Q E03
def ZmU (t:T9)(os:TY)(a:Nat):V->V
 | .int z=>.int (pos os (ZP t a z.toNat):Nat)
 |y=>y
theorem ZiF (t:T9)(os:TY)(a:Nat):(os.map nV).map (ZmU t os a)=(os.map λb=>pos os (ZP t a b)).map nV:=by
 rw[aC,aC];refine aQ λb _=>?_;show V.int (pos os (ZP t a (b:Int).toNat):Nat)=nV (pos os (ZP t a b));rw[Zj];rfl
def ZmT (os:TY):V->V
 | .int z=>.int (pos os z.toNat:Nat)
 |y=>y
section
variable {P:Program}{w:World}{K:aa}{mg:TR}{base:Heap}
theorem ZhW {f:Addr}{fd:FuncData}(F:Wu K "_law_renamed_by" "_law_renamed_by" Zhc f fd)(T:BlB mg):Z2 P w K mg base Z9 1 f fd ["_law_order_here", "_law_group_here"] Za3:=by
 refine F.ok (FS (N:=["_law_order_here", "_law_group_here", "_law_spots"])) (λvs H Q E h=>?_) (λo9 A o0 s H vs Q E hr h=>?_)
 ·obtain⟨L,g,t,os,rfl,_⟩:=h;rfl
 ·obtain⟨L,g,t,os,rfl,hL,G0,Pt,O,k⟩:=h
  refine⟨_,Zt (ZG 2 rfl (cmp ["_law_a"] [0] ["_law_a", "_law_order_here"] rfl (J9 T.range (pc (cb (Yr K) T.len (pc (vn 1) Zs)) Zs)) (λ_ _ _ _ _=>gn 0) (λ_ _ _ _ _=>ZQ) (λ_ _ _ _ _=>ZhM K aG ii jX (Zog K hr.units) (vn 1) (pc (vn 0) Zs))))
   (Zx (ZE (ct ZL T.tuple (pc (cmp ["_law_a"] [0,2,1] ["_law_a", "_law_order_here", "_law_spots", "_law_group_here"] rfl (itL K (vn 0)) (λ_ _ _ _ _=>gnf 0 rfl) (λ_ _ _ _ _=>ZQ) (λ_ _ _ _ _=>ct (XC K) (by exact T.tuple) (pc (cmp ["_law_b"] [2,3,0] ["_law_b", "_law_spots", "_law_group_here", "_law_a"] rfl (itL K (vn 1)) (λ_ _ _ _ _=>gn 0) (λ_ _ _ _ _=>ZQ) (λ_ _ _ _ _=>ZB (WB K) (vn 1) (ZB (Wa K) (ZB (Wa K) (vn 2) (vn 3) (λ_ _=>rfl)) (vn 0) (λ_ _=>rfl)) (λ_ _=>rfl))) Zs))) Zs)))),?_⟩
  have sz:=Ja;have n1:=Pt.n1;have p4:=Pt.n60;obtain⟨gs,u1,u2,_⟩:=id G0;have el:(gs.map V.ref).length=t.length:=by rw[Za,u2]
  refine⟨_,rfl,g,_,rfl,.inr (.of u1),_,rfl,by rw[el];omega,by rw[el];omega,?_⟩;rw[el,Zj];refine Jn (Jr 0 t.length) [some (.ref L)] rfl (ZmT os) (by rw[Za,Z8];omega) (λj x U hx s' R' Y=>?_) (λD H3 nD s3 hD=>?_)
  ·obtain⟨a,ha,rfl⟩:∃a,a<t.length/\x=.int (a:Nat):=⟨j,XN hx⟩
   obtain⟨pl,pv⟩:=Yb O ha;have m5:=s' _ _ hL;have eo:os.map nV=(os.map λk:Nat=>((k:Nat):Int)).map V.int:=by rw[aC];rfl
   refine⟨_,rfl,.inl ⟨rfl,_,.of m5⟩,_,rfl,?_⟩;refine⟨L,(os.map λk:Nat=>((k:Nat):Int)).map V.int,(os.map λk:Nat=>((k:Nat):Int)).map aI,.int (a:Nat),.int (a:Nat),pos os a,rfl,rfl,by rw[<-eo];exact m5,Wf.ints _,.int _,Wd _,rfl,by simp[bU],by rw[Za,Za,O.len];exact pl,λd q=>?_,λm d hm q=>?_,?_⟩
   ·have ho:=ZR (o:=os) (i:=pos os a) (by rw[O.len];exact pl)
    rw[Zc,Zc,ho,pv] at q;cases q;rw[VX];exact decide_eq_true rfl
   ·have m6:m<os.length:=by rw[O.len];omega
    have ho:=ZR (o:=os) m6;rw[Zc,Zc,ho] at q;cases q;rw[VX];refine decide_eq_false λz=>?_;have m7:=kE (p:=(· == a)) (xs:=os) hm;have J:os[m]=os.getD m 0:=by
     rw[Zf m6] at ho;exact ax ho
    rw[J,beq_eq_false_iff_ne] at m7;have z:((os.getD m 0:Nat):Int)=((a:Nat):Int):=z;exact m7 (by omega)
   ·have:=Y U (Zw.refl _)
    show R' (.int (pos os a:Nat)) U;have e:ZmT os (.int (a:Nat))=V.int (pos os a:Nat):=by
     show V.int (pos os (a:Int).toNat:Nat)=_;rw[Zj]
    rw[e] at this;exact this
  ·have eD:((YC 0 t.length).map V.int).map (ZmT os)=(ae t.length).map λa=>nV (pos os a):=by
    rw[ZjD,aC];refine aQ λa _=>?_;show V.int (pos os (a:Int).toNat:Nat)=_;rw[Zj];rfl
   rw[eD] at hD;have M:=s3 _ _ hL;have G3:=G0.mono s3;refine⟨_,rfl,L,rfl,⟨_,.of M⟩,?_⟩;refine Y7 (W:=Addr) id (λi w H=>Tz H w ((os.map λb=>pos os (ZP t (os.getD i 0) b)).map nV)) (λ_ _=>True) (YY (K:=K) (.of M)) [some (.ref L),some (.ref D),some (.ref g)] rfl (by rw[Za,O.len];omega) (λi w H U s h=>h.mono s) (λw H U s h=>trivial) (λi w H0 H1 D o ys p6 h h0 h1 h2=>Tz.updL h h2) (λi y hy H4 s4 R kR=>?_) (λD2 ws H4 p7 s4 o5 wl hw _=>?_)
   ·obtain⟨a,ha,rfl⟩:=Uu hy
    have m8:a<t.length:=O.lt a (av ha);have hd:os.getD i 0=a:=by rw[Zb,ha];rfl
    have m9:=s4 _ _ M;refine⟨_,rfl,L,rfl,⟨_,.of m9⟩,?_⟩;refine Jn (YY (K:=K) (.of m9)) [some (.ref D),some (.ref g),some (.int (a:Nat))] rfl (ZmU t os a) (by rw[Za,O.len];omega) (λj x U hx s' R' Y=>?_) (λD5 H5 p8 s5 n6=>?_)
    ·obtain⟨b,hb,rfl⟩:=Uu hx
     have n8:b<t.length:=O.lt b (av hb);obtain⟨q1,q2,q3,_,q4,q5,q6⟩:=(G3.mono (s4.trans s')).at Pt m8;have o6:=Pt.lt a b m8 n8;have o7:=(s4.trans s') _ _ hD;have o8:((ae t.length).map λa=>nV (pos os a))[ZP t a b]?=some (nV (pos os (ZP t a b))):=by rw[Zc,ai o6];rfl
     refine⟨_,rfl,_,rfl,_,rfl,g,_,_,_,rfl,rfl,.of q3,q4,_,rfl,q2,_,_,_,rfl,rfl,q5.sq,q6 b n8,D,_,_,_,rfl,rfl,.of o7,ZA o8,?_⟩;have:=Y U (Zw.refl _);have e:ZmU t os a (.int (b:Nat))=V.int (pos os (ZP t a b):Nat):=by
      show V.int (pos os (ZP t a (b:Int).toNat):Nat)=_;rw[Zj]
     rw[e] at this;exact this
    ·rw[ZiF] at n6
     refine⟨D5,_,rfl,.of n6,λtr H6 nt s6 hz=>?_⟩;exact kR tr H6 (s5.trans s6) (by rw[hd];exact hz) trivial
   ·rw[Za] at wl
    have R:Zi8 H4 D2 ws (λi=>os.map λb=>pos os (ZP t (os.getD i 0) b)):=⟨o5,λi r hr=>(hw i r hr).1⟩;refine⟨D2,_,rfl,.inl ⟨.of R.1,λY n9=>?_⟩⟩;have GG:=Zo3 R wl (Zw.upd n9) Zu;have er:((ae os.length).map λi=>os.map λb=>pos os (ZP t (os.getD i 0) b))=ren t os:=by
     unfold ren;refine aY λi=>?_;rw[Zc,Zc];by_cases hi:i<os.length
     ·rw[ai hi,ZR hi]
      rfl
     ·rw[ag (by rw[Zg];omega),ag (by omega)]
      rfl
    rw[er] at GG;exact k Y _ ((s3.trans s4).trans (Zw.upd n9)) GG
end
end C55
namespace Tb
section
variable {t:T9}
def UE (t:T9)(i a:Nat):Option Nat:=if Yu (ZC t i) a then some ((ZC t i).findIdx (·.contains a)) else none
theorem Zdh {i:Nat}(h:Yu (ZC t i) i=false):ZC t (i+1)=ZC t i++[ZU t i]:=by
 rw[ZC,if_neg (by unfold Yu at h;rw[h];decide)]
theorem Zdg {i:Nat}(h:Yu (ZC t i) i=true):ZC t (i+1)=ZC t i:=by
 rw[ZC,if_pos (by unfold Yu at h;rw[h])]
theorem Zky (P:PW t){i:Nat}(hi:i<t.length)(h:Yu (ZC t i) i=false)(a:Nat):UE t (i+1) a=if a∈ZU t i then some (ZC t i).length else UE t i a:=by
 have M:=Zdh h;unfold UE;rw[M,List.findIdx_append];by_cases q:a∈ZU t i
 ·have ns:¬ ∃c∈ZC t i,c.contains a=true:=by
   rintro⟨c,O,U⟩;obtain⟨j,hj⟩:=bx O;have jl:=(ac.mp hj).1;have:=X4 P (i+1) (by omega) j (ZC t i).length c (ZU t i) a (by rw[M,ak jl];exact hj) (by rw[M,aq (Zq _),cr];rfl) (ay.mp U) q;omega
  have Y:Yu (ZC t i++[ZU t i]) a=true:=by
   unfold Yu;rw[iq,eE,ay.mpr q];simp
  rw[if_pos Y,if_pos q,if_neg (λz=>ns (e8.mp z)),List.findIdx_cons,ay.mpr q];simp
 ·have O:(ZU t i).contains a=false:=by
   cases e:(ZU t i).contains a with
   |false=>rfl
   |true=>exact absurd (ay.mp e) q
  have Y:Yu (ZC t i++[ZU t i]) a=Yu (ZC t i) a:=by
   unfold Yu;rw[iq,eE,kH,O,fu,fu]
  rw[Y,if_neg q];by_cases J:Yu (ZC t i) a=true
  ·rw[if_pos J,if_pos J,if_pos (e8.mpr (by
    obtain⟨c,h1,h2⟩:=aZ.mp J;exact⟨c,h1,h2⟩))]
  ·rw[if_neg J,if_neg J]
theorem Zkx {i:Nat}(h:Yu (ZC t i) i=true)(a:Nat):UE t (i+1) a=UE t i a:=by
 unfold UE;rw[Zdg h]
theorem Zkz (P:PW t){a:Nat}(j:a<t.length):UE t t.length a=some (YW t a):=by
 unfold UE YW;rw[if_pos (WZ P t.length (Zq _) a j)]
end
end Tb
namespace C55
open PySem L2 PySem.Spec PyProof.Rows
open Tb Pm
theorem ZgX {ns M:TV}{c:TY}(J:bJ ns M)(O:ns.Pairwise (· ≤ ·))(U:M.Nodup)(Y:∀k:Int,k∈M↔∃a∈c,k=(a:Int))(q:c.Pairwise (· < ·)):ns.map V.int=c.map nV:=by
 have e:ns=c.map λa:Nat=>(a:Int):=by
  refine lU (J.trans ?_) O ?_
  ·refine (cG U ?_).mpr λk=>?_
   ·refine fG _ (λa b (h:a<b)=>?_) q
    omega
   ·rw[Y k,az]
    exact⟨λ⟨a,j,e⟩=>⟨a,j,e.symm⟩,λ⟨a,j,e⟩=>⟨a,j,e.symm⟩⟩
  ·refine fG _ (λa b (h:a<b)=>?_) q
   omega
 rw[e,aC];rfl
def LsC (H:Hp)(L:Addr)(bs:TN)(j:T9):Prop:=H L=some (.lst (bs.map V.ref))/\bs.length=j.length/\∀(i:Nat) b,bs[i]?=some b->b≠L/\H b=some (.lst ((j.getD i []).map nV))
theorem LsC.mono {H q:Hp}{L:Addr}{bs:TN}{j:T9}(s:Zw H q)(h:LsC H L bs j):LsC q L bs j:=⟨s _ _ h.1,h.2.1,λi b hb=>⟨(h.2.2 i b hb).1,s _ _ (h.2.2 i b hb).2⟩⟩
theorem LsC.updD {H:Hp}{L D:Addr}{bs:TN}{j:T9}{q:List (YQ×V)}{o:HO}(h:LsC H L bs j)(J:H D=some (.dK q)):LsC (upd H D o) L bs j:=
 ⟨by rw[Zy (λz=>by have:=h.1;rw[z,J] at this;cases this)];exact h.1,h.2.1,λi b hb=>⟨(h.2.2 i b hb).1,by
  have:=(h.2.2 i b hb).2;rw[Zy (λz=>by rw[z,J] at this;cases this)];exact this⟩⟩
theorem LsC.push {H:Hp}{L b:Addr}{bs:TN}{q:T9}{c:TY}(h:LsC H L bs q)(hb:H b=some (.lst (c.map nV)))(ne:b≠L):LsC (upd H L (.lst (bs.map V.ref++[.ref b]))) L (bs++[b]) (q++[c]):=by
 refine⟨by rw[Zu,aN];rfl,by rw[Zd,Zd,h.2.1];rfl,λi d j=>?_⟩;by_cases M:i<bs.length
 ·rw[ak M] at j
  obtain⟨O,U⟩:=h.2.2 i d j;rw[Zy O,Zb,ak (by rw[<-h.2.1];exact M),<-Zb];exact⟨O,U⟩
 ·rw[aq (by omega)] at j
  cases J:i-bs.length with
  |zero=>
   rw[J] at j;cases j;rw[Zy ne,Zb,aq (by rw[<-h.2.1];omega),<-h.2.1,J];exact⟨ne,hb⟩
  |succ k=>rw[J] at j;cases j
noncomputable abbrev Zco:Stmt:=top 47
def vI:Option Nat->TK:=Option.map λn=>V.int (n:Nat)
inductive ZdJ (vs:TL) (H:Hp) (Q:VK) (E03:XK):Prop
 |mk (g:Addr) (t:T9):(vs=[.ref g])->(GT H g t)->(PW t)->(∀r L D bs kvs H',Zw H H'->H' r=some (.tup [.ref L,.ref D])->LsC H' L bs (ZC t t.length)->H' D=some (.dK kvs)->(∀a:Nat,a<t.length->Wg kvs (.inl (a:Int))=some (.int (YW t a:Nat)))->Q (.ref r) H')->ZdJ vs H Q E03
section
variable {P:Program}{w:World}{K:aa}{mg:TR}{base:Heap}
theorem Zkc {f:Addr}{fd:FuncData}(F:Wu K "_law_classes" "_law_classes" Zco f fd)(T:BlB mg)(TS:mg "set"=none):Z2 P w K mg base Z9 1 f fd ["_law_group_here"] ZdJ:=by
 refine F.ok (FS (N:=["_law_group_here", "_law_backs", "_law_found", "_law_met", "_law_thing", "_law_here", "_law_one"])) (λvs H Q E h=>?_) (λo0 A m8 s H vs Q E hr h=>?_)
 ·obtain⟨g,t,rfl,_⟩:=h;rfl
 ·obtain⟨g,t,rfl,G0,M,k⟩:=h
  have hu:(A.deeper (envOfC "_law_classes" (Z5 Zco) s.heap.objs.size f o0)).units+1<cLine:=by have:=hr.un;omega
  refine⟨_,Zt (ZG 1 rfl (cmp ["_law_row"] [] ["_law_row"] rfl (itT K (vn 0)) (λ_ _ _ _ _=>gn 0) (λ_ _ _ _ _=>ZQ) (λ_ _ _ _ _=>ZdX f8 eQ f7 (ZlQ K) (vn 0) (pc Zv Zs))))
   (Zt (ZG 2 rfl (ZK Zs))
   (Zt (ZG 3 rfl ZcH)
   (Zt (ZV ao rfl (J9 T.range (pc (cb (Yr K) T.len (pc (vn 0) Zs)) Zs)) (gnf 4 rfl)
   (Zx (Yx (ZhI (Zau hu (vn 4) (vn 3))) (Zt (Zg3 5 ["_law_t"] [0,4,1] ["_law_t", "_law_group_here", "_law_thing", "_law_backs"] rfl rfl (J9 T.range (pc (cb (Yr K) T.len (pc (vn 0) Zs)) Zs)) (λ_ _ _ _ _=>gn 0) (λ_ _ _ _ _=>ZQ) (λ_ _ _ _ _=>ZB (Wa K) (ZB (Wa K) (vn 1) (ZB (Wa K) (ZB (Wa K) (vn 1) (vn 0) (λ_ _=>rfl)) (vn 2) (λ_ _=>rfl)) (λ_ _=>rfl)) (ZB (WB K) (vn 3) (vn 0) (λ_ _=>rfl)) (λ_ _=>rfl)))
   (Zt (ZG 5 rfl (cb (UU rfl) T.sorted (pc (ct (ZaL rfl) TS (pc (vn 5) Zs)) Zs)))
   (Zt (ZV ao rfl (itL K (vn 5)) (gn 6)
   (Zx (XR hu (vn 3) (vn 6) (cb (Yr K) T.len (pc (vn 2) Zs)) (by rfl))))
   (Zx (Yq (Wh aG aO aS ZZ (vn 2) (pc (vn 5) Zs))))))) ZT)))
   (Zx (ZE (WC (pc (vn 2) (pc (vn 3) Zs)))))))),?_⟩
  have sz:=Ja;have n1:=M.n1;have y8:=M.n60;obtain⟨gs,u1,u2,u3⟩:=id G0;have el:(gs.map V.ref).length=t.length:=by rw[Za,u2]
  refine⟨_,rfl,g,rfl,⟨_,.of u1⟩,?_⟩;refine Y8 (YM (K:=K) (.of u1)) [] rfl (λa=>nV (YL t a)) (by rw[el];omega) (λi y hy O s' R' kk=>?_) (λB H1 nB s1 hB=>?_)
  ·obtain⟨r,o9,rfl⟩:=Ve hy
   have hi:i<t.length:=by rw[<-u2];exact (ac.mp o9).1
   have hz:=(u3 i r o9).mono s';obtain⟨b1,b2⟩:=Yp M hi;have hl:=XM M hi;refine⟨_,rfl,⟨_,_,rfl,hz⟩,r,_,.int 0,YL t i,rfl,rfl,hz.sq,rfl,?_,by rw[Za,hl];exact b1,λz U=>?_,λm z hm U=>?_,kk O (Zw.refl _)⟩
   ·rw[aR]
    intro z U;obtain⟨k,_,rfl⟩:=az.mp U;rfl
   ·rw[Vb M hi b1,b2] at U
    cases U;decide
   ·have p4:m<t.length:=by omega
    rw[Vb M hi p4] at U;cases U;have:ZP t i m≠0:=λz=>by
     have:=Xt M hi p4 z;omega
    show decide ((ZP t i m:Int)=0)=false;exact decide_eq_false (by omega)
  ·rw[el] at hB
   refine⟨WK,λL nL=>λD nD=>?_⟩;have s2:=s1.trans (Zw.upd (H:=H1) (o:=.lst []) nL);have s3:=s2.trans (Zw.upd (o:=.dK []) nD);have r9:H L=none:=s1.free nL;have t0:H D=none:=s2.free nD;have p6:=(Zw.upd (o:=.dK []) nD) _ _ ((Zw.upd (H:=H1) (o:=.lst []) nL) _ _ hB);have p7:=(Zw.upd (o:=.dK []) nD) _ _ (Zu (H:=H1) (a:=L) (o:=.lst []));have p8:=Zu (H:=upd H1 L (.lst [])) (a:=D) (o:=.dK []);have t6:B≠L:=λz=>by rw[z,nL] at hB;cases hB
   generalize upd (upd H1 L (.lst [])) D (.dK [])=H3 at s3 p6 p7 p8 ⊢;refine⟨_,rfl,g,_,rfl,.inr (.of (s3 _ _ u1)),_,rfl,by rw[el];omega,by rw[el];omega,?_⟩;rw[el,Zj];refine YD (λi J O=>∃(w4 w5 w6:TK) (bs:TN) (q:List (YQ×V)),J=[some (.ref g),some (.ref B),some (.ref L),some (.ref D),w4,w5,w6]/\Zw H O/\O B=some (.lst ((ae t.length).map λa=>nV (YL t a)))/\LsC O L bs (ZC t i)/\O D=some (.dK q)/\(∀a:Nat,Wg q (.inl (a:Int))=vI (UE t i a))/\q.length<=60*i)
    ⟨_,_,_,[],[],rfl,s3,p6,⟨p7,rfl,λi b hb=>by cases hb⟩,p8,λa=>rfl,Zq _⟩ ?_ ?_
   ·rintro i J H4 hi ⟨w4,w5,w6,bs,q,rfl,s4,m5,R4,m6,hv,kl⟩
    rw[show (0:Int)+(i:Int)=(i:Int) by omega];refine⟨_,rfl,_,rfl,D,_,rfl,Xb.k (k:=.inl (i:Int)) m6,_,rfl,?_⟩;have o5:(Wg q (.inl (i:Int))).isSome=Yu (ZC t i) i:=by
     rw[hv i];unfold UE vI;cases Yu (ZC t i) i <;> rfl
    rw[o5];refine Z1 (λh=>?_) (λh=>?_)
    ·have h:Yu (ZC t i) i=false:=by simpa using h
     have eU:=Zdh h;refine⟨_,rfl,g,_,rfl,.inr (.of (s4 _ _ u1)),_,rfl,by rw[el];omega,by rw[el];omega,?_⟩;rw[el,Zj];refine Y8 (Jr 0 t.length) [some (.ref g),some (.int (i:Nat)),some (.ref B)] rfl (λx=>nV (tb t i x)) (by rw[Za,Z8];omega) (λj y hy O s' R' kk=>?_) (λEh H5 nE s5 hE=>?_)
     ·obtain⟨hj,rfl⟩:=XN hy
      have G':=G0.mono (s4.trans s');obtain⟨rs,r,h1,_,h2,h3,h4⟩:=G'.at M hj;have m1:=M.lt j i hj hi;obtain⟨y9,r',t7,_,t8,t9,u5⟩:=G'.at M m1;have u9:=s' _ _ m5;have gB:((ae t.length).map λa=>nV (YL t a))[j]?=some (nV (YL t j)):=by rw[Zc,ai hj];rfl
      refine⟨_,rfl,_,rfl,_,rfl,g,_,_,_,rfl,rfl,.of h1,h2,_,rfl,r,_,_,_,rfl,rfl,h3.sq,h4 i hi,g,_,_,_,rfl,rfl,.of t7,t8,_,rfl,_,rfl,B,_,_,_,rfl,rfl,.of u9,ZA gB,r',_,_,_,rfl,rfl,t9.sq,u5 _ (Yp M hj).1,?_⟩;exact kk O (Zw.refl _)
     ·rw[Za,Z8] at hE
      have eN:((ae t.length).map λx=>nV (tb t i x))=((ae t.length).map λx=>((tb t i x:Nat):Int)).map V.int:=by rw[aC];rfl
      rw[eN] at hE;generalize hN:((ae t.length).map λx=>((tb t i x:Nat):Int))=N at hE;have nl:N.length=t.length:=by rw[<-hN,Za,Zg]
      refine⟨_,rfl,Eh,N,rfl,.of hE,by omega,λp1 w8=>?_⟩;have s6:=Zw.upd (o:=Zcl P w p1 (Yy N N.length)) w8;have ml:(Yy N N.length).length<=N.length:=gQ _ _;refine⟨p1,Yy N N.length,rfl,Zu,WQ _ _,by omega,λl ns o6 hp hs=>?_⟩;rw[show (Zdc Z9 P w K mg base ["_law_group_here", "_law_backs", "_law_found", "_law_met", "_law_thing", "_law_here", "_law_one"] "_law_classes" (Z5 Zco) f o0 A m8 s H E).nox.prog=P from rfl,show (Zdc Z9 P w K mg base ["_law_group_here", "_law_backs", "_law_found", "_law_met", "_law_thing", "_law_here", "_law_one"] "_law_classes" (Z5 Zco) f o0 A m8 s H E).nox.w=w from rfl] at o6 ⊢;have s7:=Zw.upd (o:=.lst (ns.map V.int)) o6;have e:=ZgX (c:=ZU t i) hp hs (WQ _ _) (λk=>?_) (Zdf i)
      ·rw[e] at s7 ⊢
       have m9:=Zu (H:=upd H5 p1 (Zcl P w p1 (Yy N N.length))) (a:=l) (o:=.lst ((ZU t i).map nV));have n6:=(s5.trans s6).trans s7;have w9:l≠L:=λz=>by
        have:=(s5.trans s6) _ _ R4.1;rw[<-z,o6] at this;cases this
       generalize upd (upd H5 p1 (Zcl P w p1 (Yy N N.length))) l (.lst ((ZU t i).map nV))=H7 at s7 m9 n6 ⊢;have p9:=n6 _ _ m6;have x0:l≠D:=λz=>by rw[z,p9] at m9;cases m9
       have x9:B≠D:=λz=>by rw[z,m6] at m5;cases m5
       have cl:=ZbY (t:=t) i;refine⟨_,rfl,l,rfl,⟨_,.of m9⟩,?_⟩;refine Ziz (K:=K) (a:=l) (xs:=(ZU t i).map nV) (λj J O=>∃(w6:TK) (Y:List (YQ×V)),J=[some (.ref g),some (.ref B),some (.ref L),some (.ref D),some (.int (i:Nat)),some (.ref l),w6]/\Zw H O/\O l=some (.lst ((ZU t i).map nV))/\O B=some (.lst ((ae t.length).map λa=>nV (YL t a)))/\LsC O L bs (ZC t i)/\O D=some (.dK Y)/\(∀a:Nat,Wg Y (.inl (a:Int))=if a∈(ZU t i).take j then some (.int ((ZC t i).length:Nat)) else vI (UE t i a))/\Y.length<=60*i+j)
        ⟨_,q,rfl,s4.trans n6,m9,n6 _ _ m5,R4.mono n6,p9,λa=>by rw[hv a,eX,if_neg (by simp)],kl⟩ (λj J O _ h=>by
         obtain⟨_,_,_,_,y4,_⟩:=h;exact .of y4) ?_ ?_
       ·rintro j y J H8 hy ⟨y6,Y,rfl,s8,o7,o8,R8,m7,n8,r6⟩
        obtain⟨c,hc,rfl⟩:=Uu hy;have hj:j<(ZU t i).length:=(ac.mp hc).1;have nLD:L≠D:=λz=>by have:=R8.1;rw[z,m7] at this;cases this
        have bl:=R8.2.1;refine⟨_,rfl,L,_,rfl,.inl (.of R8.1),_,rfl,_,rfl,D,_,rfl,Zae.k (k:=.inl (c:Int)) m7 (by omega),?_⟩;refine⟨_,_,rfl,s8.updr t0,by rw[Zy x0];exact o7,by rw[Zy x9];exact o8,R8.updD m7,Zu,λa=>?_,?_⟩
        ·rw[ZgA,n8 a,cx,hc]
         by_cases n9:a=c
         ·rw[if_pos (by rw[n9]),if_pos (by rw[n9];simp),Za,bl]
         ·rw[if_neg (λz=>n9 (by have:=Sum.inl.inj z;omega))]
          by_cases ha:a∈(ZU t i).take j
          ·rw[if_pos ha,if_pos (bN _ ha)]
          ·rw[if_neg ha,if_neg]
           intro z;rcases bu.mp z with z|z
           ·exact ha z
           ·exact n9 (aM.mp z)
        ·have:=W3 Y (.inl (c:Int)) (.int ((bs.map V.ref).length:Nat))
         omega
       ·rintro J H8 ⟨y6,Y,rfl,s8,o7,o8,R8,m7,n8,r6⟩
        rw[Za] at n8 r6;have bl:=R8.2.1;have ul:=Wn (t:=t) i;refine⟨_,rfl,.inl ⟨rfl,_,.of R8.1⟩,_,rfl,L,_,_,rfl,rfl,R8.1,by rw[Za];omega,?_⟩;refine⟨_,_,_,bs++[l],Y,rfl,s8.updr r9,by rw[Zy t6];exact o8,by rw[eU];exact R8.push o7 w9,?_,λa=>?_,by omega⟩
        ·rw[Zy (λz=>by have:=R8.1;rw[<-z,m7] at this;cases this)]
         exact m7
        ·rw[n8 a,cD,Zky M hi h]
         by_cases ha:a∈ZU t i
         ·rw[if_pos ha,if_pos ha];rfl
         ·rw[if_neg ha,if_neg ha]
      ·rw[ZbB]
       constructor
       ·rintro⟨j,hj,e⟩
        have r8:j<t.length:=by omega
        refine⟨tb t i j,(Ya M hi).mpr ⟨j,r8,rfl⟩,?_⟩;rw[<-e,<-hN,Zb,Zc,ai r8];rfl
       ·rintro⟨a,ha,rfl⟩
        obtain⟨x,hx,e⟩:=(Ya M hi).mp ha;refine⟨x,by omega,?_⟩;rw[<-e,<-hN,Zb,Zc,ai hx];rfl
    ·have h:Yu (ZC t i) i=true:=by simpa using h
     exact⟨_,_,_,bs,q,rfl,s4,m5,by rw[Zdg h];exact R4,m6,λa=>by rw[Zkx h];exact hv a,by omega⟩
   ·rintro J H4 ⟨w4,w5,w6,bs,q,rfl,s4,m5,R4,m6,hv,kl⟩
    refine⟨_,rfl,_,rfl,WK,λr nr=>?_⟩;exact k r L D bs q _ (s4.trans (Zw.upd nr)) Zu (R4.mono (Zw.upd nr)) (Zw.upd nr _ _ m6) λa ha=>by rw[hv a,Zkz M ha];rfl
end
noncomputable abbrev Zey:Stmt:=top 48
inductive V8 (vs:TL) (H:Hp) (Q:VK) (E03:XK):Prop
 |mk (g:Addr) (t:T9) (rs:Nat->Nat):(vs=[.ref g])->(GT H g t)->(PW t)->((∀a,a<t.length->Rd t a (rs a)))->(∀(f:Nat) H',Zw H H'->Lc rs t.length f->Q (.int f) H')->V8 vs H Q E03
section
variable {P:Program}{w:World}{K:aa}{mg:TR}{base:Heap}
theorem ZfJ {f:Addr}{fd:FuncData}(F:Wu K "_law_round" "_law_round" Zey f fd)(T:BlB mg):Z2 P w K mg base Z9 1 f fd ["_law_group_here"] V8:=by
 refine F.ok (FS (N:=["_law_group_here", "_law_found", "_law_thing", "_law_many", "_law_here", "_law_lead"])) (λvs H Q E h=>?_) (λn9 A m6 s H vs Q E hr h=>?_)
 ·obtain⟨g,t,rs,rfl,_⟩:=h;rfl
 ·obtain⟨g,t,rs,rfl,G,Pt,R,q⟩:=h
  refine⟨_,Zt (ZG 1 rfl Zv) (Zt (ZV ao rfl (J9 T.range (pc (cb (Yr K) T.len (pc (vn 0) Zs)) Zs)) (gn 2)
    (Zt (ZG 3 rfl Zv)
    (Zt (ZG 4 rfl (vn 2))
    (Zt (Yv ao (ZH WG (vn 4) Zv (ZI _))
     (Zt (ZG 4 rfl (ZB (Wa K) (ZB (Wa K) (vn 0) (vn 4) (λ_ _=>rfl)) (vn 2) (λ_ _=>rfl)))
     (Zx (ZG 3 rfl (Zz YG (vn 3) Zv)))))
    (Zt (ZG 5 rfl (vn 1))
    (Zt (Yv ao (ZH WG (Zz ZX (vn 5) (vn 3)) Zv (ZI _)) (Zx (ZG 5 rfl (Zz YG (vn 5) (vn 1)))))
    (Zx (ZG 1 rfl (vn 5)))))))))
   (Zx (ZE (vn 1)))),?_⟩
  have n1:=Pt.n1;have o0:=Pt.n60;obtain⟨gs,g1,g2,_⟩:=id G;have el:(gs.map V.ref).length=t.length:=by rw[Za,g2]
  refine⟨_,rfl,g,_,rfl,.inr (.of g1),_,rfl,by omega,by rw[el];omega,?_⟩;rw[Zj,el];refine YD (λi Y H'=>∃(f:Nat) (v2 v3 v4 v5:TK),Y=[some (.ref g),some (.int f),v2,v3,v4,v5]/\Zw H H'/\Lc rs i f) ⟨1,_,_,_,_,rfl,Zw.refl _,⟨Zq _,λa ha=>absurd ha (eO _),λx _=>Nat.mod_one x⟩⟩ ?_ ?_
  ·rintro i Y H' hi ⟨f,v2,v3,v4,v5,rfl,sm,L⟩
   rw[show (0:Int)+(i:Int)=(i:Int) by omega];have Ri:=R i hi;have m7:=Ri.r1;have L2:Lc rs (i+1) (upTo (rs i) f 61 f):=L.step (B:=t.length) n1 (λa ha=>(R a (by omega)).dv) (by omega);have m5:=L2.dv i (by omega);have Gm:=G.mono sm;refine⟨_,rfl,?_⟩;refine Yn (λm j M=>∃k:Nat,j=[some (.ref g),some (.int f),some (.int i),some (.int k),some (.int (it t i k:Nat)),v5]/\M=H'/\1<=k/\k<=rs i/\m=rs i-k)
    (λj M=>∃w4:TK,j=[some (.ref g),some (.int f),some (.int i),some (.int (rs i:Nat)),w4,v5]/\M=H') ?hend1 ⟨rs i-1,1,by rw[Zd9 Pt hi];rfl,rfl,Zq _,m7,rfl⟩ ?turn1
   case turn1=>
    rintro O m j M ⟨k,rfl,rfl,k1,kr,hm⟩;refine⟨_,rfl,rfl,_,rfl,?_⟩;refine Z1 (λJ=>?_) (λJ=>?_)
    ·have J:it t i k≠0:=λz=>by
      rw[Yi,z] at J;simp at J
     have o5:k<rs i:=dk kr λz=>J (z▸Ri.z);obtain⟨o6,r2,m9,_,n6,g3,g4⟩:=Gm.at Pt (WX Pt hi k);refine⟨_,λ_ _ z=>z,_,rfl,_,rfl,g,_,_,_,rfl,rfl,.of m9,n6,_,rfl,r2,_,_,_,rfl,rfl,g3.sq,g4 i hi,_,rfl,_,_,rfl,rfl,rs i-(k+1),by omega,k+1,?_,rfl,by omega,by omega,rfl⟩;rfl
    ·have J:it t i k=0:=by
      apply aj;intro z;apply J;rw[Yi];simp[z]
     have:k=rs i:=by
      apply aj;intro z;exact Ri.nz k k1 (by omega) J
     exact O _ _ ⟨_,by rw[this],rfl⟩
   case hend1=>
    rintro j M ⟨w4,rfl,rfl⟩;refine⟨_,rfl,?_⟩;refine Yn (λm j H3=>∃x:Nat,j=[some (.ref g),some (.int f),some (.int i),some (.int (rs i:Nat)),w4,some (.int x)]/\H3=M/\upTo (rs i) f m x=upTo (rs i) f 61 f)
     (λj H3=>j=[some (.ref g),some (.int f),some (.int i),some (.int (rs i:Nat)),w4,some (.int (upTo (rs i) f 61 f:Nat))]/\H3=M) ?hend ⟨61,f,rfl,rfl,rfl⟩ ?turn
    case hend=>
     rintro j H3 ⟨rfl,rfl⟩;exact⟨_,rfl,_,_,_,_,_,rfl,sm,L2⟩
    case turn=>
     rintro O m j H3 ⟨x,rfl,rfl,U⟩;have eT:(x:Int) % ((rs i:Nat):Int)=((x % rs i:Nat):Int):=by push_cast;rfl
     refine⟨_,rfl,_,rfl,_,_,rfl,rfl,(by show (0:Int)<(rs i:Nat);omega),rfl,_,rfl,?_⟩;refine Z1 (λJ=>?_) (λJ=>?_)
     ·have J:x % rs i≠0:=λz=>by
       rw[Yi,eT,z] at J;simp at J
      cases m with
      |zero=>
       have U:x=upTo (rs i) f 61 f:=U;rw[<-U] at m5;exact absurd m5 J
      |succ m=>
       rw[Tb.upTo,if_neg J] at U;exact⟨_,λ_ _ z=>z,_,rfl,_,rfl,_,_,rfl,rfl,m,by omega,x+f,rfl,rfl,U⟩
     ·have J:x % rs i=0:=by
       apply aj;intro z;apply J;rw[Yi,eT];simp;omega
      have:x=upTo (rs i) f 61 f:=by
       cases m with
       |zero=>exact U
       |succ m=>rw[Tb.upTo,if_pos J] at U;exact U
      exact O _ _ ⟨by rw[this],rfl⟩
  ·rintro Y H' ⟨f,v2,v3,v4,v5,rfl,sm,L⟩
   exact⟨_,rfl,q f H' sm L⟩
end
structure Bl (mg:TR):Prop where
 list:mg "list"=none
 len:mg "len"=none
 abs:mg "abs"=none
 range:mg "range"=none
 tuple:mg "tuple"=none
 isi:mg "isinstance"=none
 all:mg "all"=none
 set:mg "set"=none
 repr:mg "repr"=none
 any:mg "any"=none
 int:mg "int"=none
 bool:mg "bool"=none
noncomputable abbrev Zlf:Stmt:=top 6
inductive ZdL (K:aa) (vs:TL) (H:Hp) (Q:VK) (E03:XK):Prop
 |mk (g:Addr) (t:T9) (a r:Nat):(vs=[.ref g,.int a])->(GT H g t)->(PW t)->(a<t.length)->(Rd t a r)->(Q (.int (it t a (r-1):Nat)) H)->ZdL K vs H Q E03
section
variable {P:Program}{w:World}{K:aa}{mg:TR}{base:Heap}
theorem Zke {f:Addr}{fd:FuncData}(F:Wu K "back" "back" Zlf f fd):Z2 P w K mg base Z9 1 f fd ["group", "a"] (ZdL K):=by
 refine F.ok (FS (N:=["group", "a"])) (λvs H Q E h=>?_) (λm5 A U s H vs Q E hr h=>?_)
 ·obtain⟨g,t,a,r,rfl,_⟩:=h;rfl
 ·obtain⟨g,t,a,r,rfl,G,J,M,R,q⟩:=h
  refine⟨_,Zx (ZE (ZdX f8 eQ f7 (ZlQ K) (ZB (Wa K) (vn 0) (vn 1) (λ_ _=>rfl)) (pc Zv Zs))),?_⟩;obtain⟨rs,r1,h1,_,h2,Y,h4⟩:=G.at J M;have hl:=XM J M;have il:=WX J M (r-1);refine⟨_,rfl,_,rfl,g,_,_,_,rfl,rfl,.of h1,h2,⟨_,_,rfl,Y⟩,r1,_,.int 0,it t a (r-1),rfl,rfl,Y.sq,rfl,?_,by rw[Za,hl];exact il,λz j=>?_,λm z hm j=>?_,q⟩
  ·rw[aR]
   intro z j;obtain⟨k,_,rfl⟩:=az.mp j;rfl
  ·rw[Vb J M il,R.bk] at j
   cases j;decide
  ·have O:m<t.length:=by omega
   rw[Vb J M O] at j;cases j;have:ZP t a m≠0:=λz=>by
    have:=R.un m O z;omega
   show decide ((ZP t a m:Int)=0)=false;exact decide_eq_false (by omega)
end
noncomputable abbrev Zex:Stmt:=top 10
noncomputable abbrev Zao:Stmt:=top 11
noncomputable abbrev Uc:Stmt:=top 12
noncomputable abbrev Zg9:Stmt:=top 14
noncomputable abbrev Zl3:Stmt:=top 55
structure Zaf (mg:TR):Prop where
 sorted:mg "sorted"=none
 enumerate:mg "enumerate"=none
theorem Zjv {ns M:TV}{c:TY}(J:bJ ns M)(O:ns.Pairwise (· ≤ ·))(U:M.Nodup)(Y:∀k:Int,k∈M↔∃a∈c,k=(a:Int))(q:c.Pairwise (· < ·)):ns.map V.int=c.map nV:=by
 have e:ns=c.map λa:Nat=>(a:Int):=by
  refine lU (J.trans ?_) O ?_
  ·refine (cG U ?_).mpr λk=>?_
   ·refine fG _ (λa b (h:a<b)=>?_) q
    omega
   ·rw[Y k,az]
    exact⟨λ⟨a,j,e⟩=>⟨a,j,e.symm⟩,λ⟨a,j,e⟩=>⟨a,j,e.symm⟩⟩
  ·refine fG _ (λa b (h:a<b)=>?_) q
   omega
 rw[e,aC];rfl
inductive V7 (vs:TL) (H:Hp) (Q:VK) (E03:XK):Prop
 |mk (g:Addr) (t:T9) (b x:Nat):(vs=[.ref g,.int b,.int x])->(GT H g t)->(PW t)->(b<t.length)->(x<t.length)->(Q (.int (tb t b x:Nat)) H)->V7 vs H Q E03
inductive Xk (vs:TL) (H:Hp) (Q:VK) (E03:XK):Prop
 |mk (g:Addr) (t:T9) (b:Nat):(vs=[.ref g,.int b])->(GT H g t)->(PW t)->(b<t.length)->(∀r H',Zw H H'->H' r=some (.tup ((ZU t b).map nV))->Q (.ref r) H')->Xk vs H Q E03
section
variable {P:Program}{w:World}{K:aa}{mg:TR}{base:Heap}
theorem ZfI {f:Addr}{fd:FuncData}(F:Wu K "turned_by" "turned_by" Zex f fd)(O:Fn P w K mg base Z9 1 "back" ["group", "a"] (ZdL K)):Z2 P w K mg base Z9 2 f fd ["group", "b", "t"] V7:=by
 refine F.ok (FS (N:=["group", "b", "t"])) (λU H Q E h=>?_) (λY A M s H U Q E hr h=>?_)
 ·obtain⟨g,t,b,x,rfl,_⟩:=h;rfl
 ·obtain⟨g,t,b,x,rfl,G,j,hb,J,q⟩:=h
  refine⟨_,Zx (ZE (ZB (Wa K) (ZB (Wa K) (vn 0) (ZB (Wa K) (ZB (Wa K) (vn 0) (vn 2) (λ_ _=>rfl)) (vn 1) (λ_ _=>rfl)) (λ_ _=>rfl)) (Yz O hr ZF (pc (vn 0) (pc (vn 2) Zs))) (λ_ _=>rfl))),?_⟩;obtain⟨r,R⟩:=j.rd x J;obtain⟨rs,r1,h1,_,h2,h3,h4⟩:=G.at j J;have ml:=j.lt _ _ J hb;obtain⟨m5,r2,g1,_,g2,g3,g4⟩:=G.at j ml;have q':Q (.int (ZP t (ZP t x b) (it t x (r-1)):Nat)) H:=by rw[Zi2 j J R];exact q
  exact⟨_,rfl,_,rfl,_,rfl,g,_,_,_,rfl,rfl,.of h1,h2,_,rfl,r1,_,_,_,rfl,rfl,h3.sq,h4 b hb,g,_,_,_,rfl,rfl,.of g1,g2,_,rfl,_,rfl,g,t,x,r,rfl,G,j,J,R,r2,_,_,_,rfl,rfl,g3.sq,g4 _ (WX j J (r-1)),q'⟩
def fTb (t:T9)(b:Nat):V->V
 | .int z=>nV (tb t b z.toNat)
 |y=>y
theorem ZcJ {f:Addr}{fd:FuncData}(F:Wu K "turnings" "turnings" Zao f fd)(T:Bl mg)(T2:Zaf mg)(Y:Fn P w K mg base Z9 2 "turned_by" ["group", "b", "t"] V7):Z2 P w K mg base Z9 3 f fd ["group", "b"] Xk:=by
 refine F.ok (FS (N:=["group", "b"])) (λvs H Q E h=>?_) (λm6 A m5 s H vs Q E hr h=>?_)
 ·obtain⟨g,t,b,rfl,_⟩:=h;rfl
 ·obtain⟨g,t,b,rfl,G,U,hb,q⟩:=h
  refine⟨_,Zx (ZE (ct ZL T.tuple (pc (cb (UU rfl) T2.sorted (pc (ct (ZaL rfl) T.set (pc (cmp ["t"] [0,1] ["t", "group", "b"] rfl (J9 T.range (pc (cb (Yr K) T.len (pc (vn 0) Zs)) Zs)) (λ_ _ _ _ _=>gn 0) (λ_ _ _ _ _=>ZQ)
   (λ_ _ _ _ _=>Yz Y hr ZF (pc (vn 1) (pc (vn 2) (pc (vn 0) Zs))))) Zs)) Zs)) Zs))),?_⟩
  have m7:=U.n60;obtain⟨gs,u1,u2,_⟩:=id G;have el:(gs.map V.ref).length=t.length:=by rw[Za,u2]
  refine⟨_,rfl,g,_,rfl,.inr (.of u1),_,rfl,by rw[el];omega,by rw[el];omega,?_⟩;rw[el,Zj];refine Jn (Jr 0 t.length) [some (.ref g),some (.int b)] rfl (fTb t b) (by rw[Za,Z8];omega) (λi x H' J sm R gg=>?_) (λD H' hD sm M=>?_)
  ·have hi:i<t.length:=by
    have:=(ac.mp J).1;rw[Za,Z8] at this;exact this
   rw[Zc,Zcr hi] at J;have J:x=.int (i:Int):=by
    have:=ax J;rw[<-this,dA]
   subst J;have fin:=gg H' (Zw.refl _);exact⟨_,rfl,_,rfl,_,rfl,g,t,b,i,rfl,G.mono sm,U,hb,hi,fin⟩
  ·have e1:((YC 0 t.length).map V.int).map (fTb t b)=((ae t.length).map λx=>((tb t b x:Nat):Int)).map V.int:=by
    unfold YC;rw[aC,aC,aC];refine aQ λi _=>?_;show nV (tb t b ((0:Int)+(i:Int)).toNat)=V.int _;rw[dA,Zj];rfl
   rw[e1] at M;generalize hN:((ae t.length).map λx=>((tb t b x:Nat):Int))=N at M;have nl:N.length=t.length:=by rw[<-hN,Za,Zg]
   refine⟨D,N,rfl,.of M,by omega,λp1 h1=>?_⟩;have s1:=Zw.upd (o:=Zcl P w p1 (Yy N N.length)) h1;have ml:(Yy N N.length).length<=N.length:=gQ _ _;refine⟨p1,Yy N N.length,rfl,Zu,WQ _ _,by omega,λl ns h2 hp hs=>?_⟩;have s2:=Zw.upd (o:=.lst (ns.map V.int)) h2;have e:=Zjv (c:=ZU t b) hp hs (WQ _ _) (λk=>?_) (Zdf b)
   ·refine⟨l,_,rfl,.inl ⟨.of Zu,λr nr=>?_⟩⟩
    exact q r _ (((sm.trans s1).trans s2).trans (Zw.upd nr)) (by rw[<-e];exact Zu)
   ·rw[ZbB]
    constructor
    ·rintro⟨j,hj,e⟩
     have O:j<t.length:=by omega
     refine⟨tb t b j,(Ya U hb).mpr ⟨j,O,rfl⟩,?_⟩;rw[<-e,<-hN,Zb,Zc,ai O];rfl
    ·rintro⟨a,ha,rfl⟩
     obtain⟨x,J,e⟩:=(Ya U hb).mp ha;refine⟨x,by omega,?_⟩;rw[<-e,<-hN,Zb,Zc,ai J];rfl
end
end C55
namespace L2
open PySem PySem.Spec PyProof.Rows
section
variable {X:Cx}
inductive I_call_sumL (K:aa) (xs:TL) (H:Hp) (Q:VK):Prop
 |mk (a:Addr) (ns:TV):(xs=[.ref a])->(Wp K H a (ns.map V.int))->(Q (.int ns.sum) H)->I_call_sumL K xs H Q
theorem Zgm (hc:X.calm=true):Yd X (.builtin "sum") (_root_.L2.I_call_sumL X.K):=by
 intro O s σ H j us Q I r h;obtain⟨a,ns,rfl,hq,q⟩:=h;obtain⟨u,rfl,ru⟩:=vals1 r;cases ru;obtain⟨J,rv,p,hz⟩:=I.list hq;have U:bB J ns:=intsAre_of rv;obtain⟨j,Y⟩:=U.allInts.items;have M:s.heap.IsList a (intItems j):=Y▸p.isList;refine sum_intListG (I.ok.hd hc) M λh' tk t' hk=>?_;have e1:ns=j.toList.map (·.1):=by
  rw[<-nums_intItems,<-Y];exact (show numsOf J.toArray.toList=ns from U.numsOf).symm
 have e2:preSum (numAt j) j.size=ns.sum:=by
  rw[preSum_eq,List.take_of_length_le (by simp),e1]
 rw[e2];exact⟨.int _,H,I.kept (t':=tk) hk,⟨_,rfl⟩,q⟩
theorem sumK (K:aa)(j:X.calm=true)(q:X.K=K:=by rfl):Yd X (.builtin "sum") (_root_.L2.I_call_sumL K):=q▸Zgm j
end
section
variable {X:Cx}
theorem ZlP {prog:Program}{w:World}{A:Around}{j:List Value}{ns:TV}(r:ZO (ns.map V.int) j):TruthOf prog w A (λi v=>j.toArray[i]?=some v) (λi=>ns.getD i 0 != 0):=by
 intro i v s Q E q M;rw[lx] at q;have Y:i<j.length:=(ac.mp q).1;have O:=r.length;rw[Za] at O;have hb:(ns.map V.int)[i]?=some (.int (ns.getD i 0)):=by
  rw[Zc,Zb,Zf (by omega)];rfl
 obtain⟨u,J,U⟩:=r.get hb;rw[q] at J;cases J;obtain⟨t,rfl⟩:=U;exact truthy_int M
theorem ZdT {ns:TV}:((ae ns.length).any λi=>ns.getD i 0 != 0)=ns.any (· != 0):=by
 have:(ae ns.length).map (λi=>ns.getD i 0)=ns:=by
  apply jp
  ·simp
  ·intro i j q;simp at j;simp[j]
 conv=>rhs;rw[<-this,ic]
 rfl
inductive I_call_anyI (K:aa) (xs:TL) (H:Hp) (Q:VK):Prop
 |mk (a:Addr) (ns:TV):(xs=[.ref a])->(Wp K H a (ns.map V.int))->(Q (.bl (ns.any (· != 0))) H)->I_call_anyI K xs H Q
theorem Zgq (Y:X.calm=true):Yd X (.builtin "any") (_root_.L2.I_call_anyI X.K):=by
 intro M s σ H xs us Q I r h;obtain⟨a,ns,rfl,hq,q⟩:=h;obtain⟨u,rfl,ru⟩:=vals1 r;cases ru;obtain⟨j,O,p,hz⟩:=I.list hq;have U:=O.length;rw[Za] at U;refine call_any_walk (ft p.isList ?_);have J:a≠s.heap.objs.size:=by obtain⟨o,n,e,_⟩:=p;exact ar (Zp e)
 refine⟨s.heap.objs.size,_,_,_,_,_,(λi=>ns.getD i 0 != 0),rfl,jL (A:=X.A.in1) (I.ok.hd Y) _ a J j.toArray,⟨⟨_,Zo _ rfl,rfl,rfl⟩,p.isList.push _⟩,ZlP O,λh' tk k=>?_⟩;rw[Zh,<-U,ZdT];refine⟨.bl _,H,I.kept (t':=tk) λb o e=>k b o ?_ (Zn _ e),rfl,q⟩;simpa using ar (Zp e)
theorem ZoS (K:aa)(j:X.calm=true)(q:X.K=K:=by rfl):Yd X (.builtin "any") (_root_.L2.I_call_anyI K):=q▸Zgq j
end
def Its (lo st:Int)(n:Nat):It:=⟨λi _=>i<n,λi H x j=>j=H/\x=.int (lo+(i:Int)*st),λi _=>n<=i⟩
theorem Zfs {P:Program}{w:World}{K:aa}{tg:Expr}(it:Addr)(lo st:Int)(n:Nat):Zac P w K tg (Its lo st n) [it] it (λi h=>hG h it (lo+(i:Nat)*st) ((n:Int)-(i:Nat)) st) where
 mem:=by simp
 obj:=λi h st b hb=>by
  have e:b=it:=by simpa using hb
  subst e;exact⟨_,st,λv z=>by
   have z':gw _=fS v:=z;cases z'⟩
 keep:=λi h M st k=>k it (by simp) _ st
 item:=by
  intro X U Y hK hc i q s σ H E I O j hg;subst U Y hK;obtain⟨f0,f1,f2,f3,f4,f5⟩:=O it (by simp);have W:=kK (prog:=X.prog) (w:=X.w) (I.ok.hd hc) it lo st n;refine W.item i s _ _ hg j λv M tk hv J kk=>?_;obtain⟨t,rfl⟩:=hv;have I1:Inv X q σ H {s with heap:=M,toks:=tk}:=I.turned (λb o hb e=>kk b o (by simpa using hb) e) f0 f1 f3 f4 f5;refine⟨_,rfl,Zc5 (s:={s with heap:=M,toks:=tk}) (n:="range_iterator") J rfl rfl (by decide) ⟨.int (lo+(i:Int)*st),H,I1,⟨t,rfl⟩,⟨rfl,rfl⟩,J,λb hb=>(O b hb).1⟩⟩
 done:=by
  intro X U Y hK hc i q s σ H E I O j hg;subst U Y hK;obtain⟨f0,f1,f2,f3,f4,f5⟩:=O it (by simp);exact iz (I.ok.hd hc) j (by have:n<=i:=hg;omega) λM eb=>⟨rfl,I.turned (t':=s.toks) (λb o hb e=>eb b o hb e) f0 f1 f3 f4 f5⟩
 self:=λ_ _ _ _ _ j h=>iA j h
def WS (n st:Nat):Nat:=(n+st-1) / st
theorem JL (n st:Nat)(J:1<=st):a9 0 (n:Int) (st:Int)=(WS n st:Nat):=by
  unfold a9 WS;rw[if_pos (by omega)];by_cases h:(0:Int)<(n:Int)
  · rw[if_pos h]
    have:((n+st-1:Nat):Int)=(n:Int)-0-1+(st:Int):=by omega
    first
    |(rw[eh,this];congr 1;omega)
    | (have j:(n+st-1) / st=(n-1) / st+1:=by
         rw[show n+st-1=(n-1)+st by omega,Nat.add_div_right _ (by omega)]
       rw[j];have q:(n:Int)-0-1=((n-1:Nat):Int):=by omega
       first
       |(rw[q,<-eh];omega)
       |(rw[show (n:Int)-1-0=((n-1:Nat):Int) by omega,<-eh];omega))
  · rw[if_neg h]
    have:n=0:=by omega
    subst this;rw[show 0+st-1=st-1 by omega,Nat.div_eq_of_lt (by omega)];rfl
theorem ZgM (n st:Nat)(j:1<=st):WS n st<=n:=by
 unfold WS;by_cases h:n=0
 ·subst h
  rw[show 0+st-1=st-1 by omega,Nat.div_eq_of_lt (by omega)];exact Zq _
 ·rw[Nat.div_le_iff_le_mul_add_pred (by omega)]
  have:n<=st*n:=Nat.le_mul_of_pos_left n (by omega);omega
theorem ZdP {n st:Nat}(q:1<=st)(J:n<=1000)(j:st<=1000):cq 0 (n:Int) (st:Int)=true:=by
 unfold cq;rw[JL n st q];have:=ZgM n st q;have M:((WS n st:Nat):Int)*(st:Int)<=1000000:=by
  have:WS n st*st<=1000*1000:=iF (by omega) j;rw[<-aJ];omega
 have O:0<=((WS n st:Nat):Int)*(st:Int):=by
  rw[<-aJ];omega
 simp only[iL,ah,bi,decide_eq_true_eq,beq_iff_eq];refine⟨by omega,.inr ?_⟩;rw[if_pos (by omega),ah,decide_eq_true_eq,decide_eq_true_eq];omega
def Zon (j:TA):TI:=λq H R=>j q H λJ M=>∃n st:Nat,J=[.int 0,.int n,.int st]/\1<=st/\n<=1000/\st<=1000/\R (Its 0 st (WS n st)) M
theorem ZpF {X:Cx}{tg a b c:Expr}{ta:TA}{p pos:Pos}(hm:X.mg "range"=none)(ha:PA X [a,b,c] ta)(hg:Y3 X.env.scope "range"=true:=by kernel_rfl)(hs:starEach [a,b,c] X.env=(false,eval a X.env)::starEach [b,c] X.env:=by rfl)(Y:(backTo pos (starEach [b,c] X.env)).any (·.1)=false:=by rfl) :
  PI X tg (.Call (.Name "range" p) [a,b,c] [] pos) (Zon ta):=by
 intro J s σ H R I h;refine Call_ (Je I (JQ hg) hm kW (bg (Yh (ha pos J s σ H _ I h) λus s1 ⟨vs,H1,I1,r1,q1⟩=>?_) hs Y));obtain⟨n,st,e,M,hn,m5,q⟩:=q1;subst e;cases r1 with
 |cons r O=>
  cases O with
  |cons r' O=>
   cases O with
   |cons m6 O=>
    cases O;obtain⟨t,rfl⟩:=r;obtain⟨U,rfl⟩:=r';obtain⟨j,rfl⟩:=m6;have lg:((st:Int)).natAbs.log2<9000:=by
     rw[Int.natAbs_natCast];have h1:st.log2<=st:=Nat.log2_le_self st;omega
    refine call_range_3 (by omega) ?_ (Or.inl (PyProof.noPylong_of_log2 lg));refine jq (kw ..) (ZdP M hn m5) ?_;have I2:Inv X J σ H1 {s1 with heap:=s1.heap.push {cls:=.type "range",data:=.fields #[.int 0 t,.int (n:Int) U,.int (st:Int) j]},toks:=s1.toks}:=I1.kept λb o e=>Zn _ e;refine⟨(s1.heap.push {cls:=.type "range",data:=.fields #[.int 0 t,.int (n:Int) U,.int (st:Int) j]}).objs.size,[(s1.heap.push {cls:=.type "range",data:=.fields #[.int 0 t,.int (n:Int) U,.int (st:Int) j]}).objs.size],_,_,H1,rfl,
     I2.kept (t':=s1.toks) λb o e=>Zn _ e,Zfs _ 0 (st:Int) (WS n st),?_,λb hb=>?_,q⟩
    ·have e1:(0:Int)+((0:Nat):Int)*(st:Int)=0:=by simp
     have e2:((WS n st:Nat):Int)-((0:Nat):Int)=a9 0 (n:Int) (st:Int):=by rw[JL n st M];omega
     show hG _ _ ((0:Int)+((0:Nat):Int)*(st:Int)) (((WS n st:Nat):Int)-((0:Nat):Int)) (st:Int);rw[e1,e2];exact Zo _ rfl
    ·have e:b=(s1.heap.push {cls:=.type "range",data:=.fields #[.int 0 t,.int (n:Int) U,.int (st:Int) j]}).objs.size:=by simpa using hb
     subst e;exact I2.fpOk (Zq _) (I2.hok.fresh (Zq _))
theorem Ziy {lo st:Int}{n:Nat}{g:TG}{tb:TS}{D:WO}{σ:St}{H:Hp}(Pv:Nat->St->Hp->Prop)(h0:Pv 0 σ H)
  (Y:∀i σ H,i<n->Pv i σ H->g (.int (lo+(i:Int)*st)) σ H λj O=>tb (D.lp (Pv (i+1))) j O) (hd:∀ σ H,Pv n σ H->D.nx σ H) :
  ∃W:Nat->Nat->St->Hp->Prop,(∃m,W 0 m σ H)/\∀i m σ H,W i m σ H->
   ((Its lo st n).stop i H/\D.nx σ H)\/((Its lo st n).go i H/\∃N:St->Hp->Prop,(∀ q J,N q J->∃U,U<m/\W (i+1) U q J)/\∀x J,(Its lo st n).yld i H x J->g x σ J λj O=>tb (D.lp N) j O):=by
 refine⟨λi m σ H=>m=n-i/\i<=n/\Pv i σ H,⟨n,by simp,aU _,h0⟩,?_⟩;rintro i m σ H ⟨rfl,hi,p⟩;by_cases M:i<n
 ·refine .inr ⟨M,Pv (i+1),λq J p'=>⟨n-(i+1),by omega,rfl,M,p'⟩,λx J hy=>?_⟩
  obtain⟨e,rfl⟩:=hy;subst e;exact Y i σ _ M p
 ·have e:i=n:=by omega
  subst e;exact .inl ⟨Zq _,hd σ H p⟩
end L2
namespace C55
open PySem L2 PySem.Spec PyProof.Rows
open Tb Pm
noncomputable abbrev ZnZ:Stmt:=top 28
noncomputable abbrev Zhb:Stmt:=top 29
noncomputable abbrev ZeC:Stmt:=top 30
noncomputable abbrev Zhl:Stmt:=top 36
structure BlT (mg:TR):Prop where
 zip:mg "zip"=none
 sum:mg "sum"=none
inductive JJ (vs:TL) (H:Hp) (Q:VK) (E03:XK):Prop
 |mk (p:Nat) (x:Int):(vs=[.int p,.int x])->(2<=p)->(p<=100000)->((∃y:Nat,1<=y/\y<p/\(y:Int)*x % (p:Int)=1))->(∀y:Nat,1<=y->y<p->(y:Int)*x % (p:Int)=1->Q (.int (y:Nat)) H)->JJ vs H Q E03
inductive Zbb (K:aa) (vs:TL) (H:Hp) (Q:VK) (E03:XK):Prop
 |mk (a:Addr) (xs:TV) (e N p d:Nat):(vs=[.ref a,.int N,.int p])->(Wp K H a (xs.map V.int))->(xs[0]?=some (e:Int))->(e<=100000)->(N<=60)->(2<=p)->(p<=100000)->(1<=d)->(d<=1000)->(((d:Int)*d-e*N) % (p:Int)=0)->((∀d':Nat,1<=d'->d'<d->((d':Int)*d'-e*N) % (p:Int)≠0))->(Q (.int (d:Nat)) H)->Zbb K vs H Q E03
inductive ZgV (vs:TL) (H:Hp) (Q:VK) (E03:XK):Prop
 |mk (n count p:Nat):(vs=[.int n,.int count])->(1<=n)->(n<=60)->(count<=4000)->(Zo5 n count p)->(∀H',Zw H H'->Q (.int p) H')->ZgV vs H Q E03
theorem Zhp {lo:Int}{n i:Nat}{y:V}(h:((YC lo n).map V.int)[i]?=some y):i<n/\y=.int (lo+(i:Int)):=by
 unfold YC at h;rw[Zc,Zc] at h;by_cases j:i<n
 ·rw[ai j] at h
  exact⟨j,(ax h).symm⟩
 ·rw[ag (by rw[Zg];omega)] at h
  cases h
section
variable {P:Program}{w:World}{K:aa}{mg:TR}{base:Heap}
theorem ZfO {f:Addr}{fd:FuncData}(F:Wu K "back_by" "back_by" ZeC f fd):Z2 P w K mg base Z9 1 f fd ["p", "x"] JJ:=by
 refine F.ok (FS (N:=["p", "x", "found"])) (λvs H Q E h=>?_) (λm5 A U s H vs Q E hr h=>?_)
 ·obtain⟨p,x,rfl,_⟩:=h;rfl
 ·obtain⟨p,x,rfl,p2,pl,⟨y,y1,yp,hy⟩,q⟩:=h
  refine⟨_,Zt (ZG 2 rfl Zv)
   (Zt (Yv ao (ZH WG (Zz ZX (Zz ZS (vn 2) (vn 1)) (vn 0)) Zv (ZI _)) (Zx (JN (i:=2) (Z7 (by kernel_rfl)) rfl (YV (by kernel_rfl)) Zv Jg (.inl rfl))))
   (Zx (ZE (vn 2)))),?_⟩
  refine Yn (λm j O=>∃k:Nat,j=[some (.int p),some (.int x),some (.int (k:Nat))]/\O=H/\1<=k/\k<=y/\m=y-k)
   (λj O=>∃k:Nat,j=[some (.int p),some (.int x),some (.int (k:Nat))]/\O=H/\1<=k/\k<p/\(k:Int)*x % (p:Int)=1) ?hend ⟨y-1,1,rfl,rfl,Zq _,y1,rfl⟩ ?turn
  case hend=>
   rintro j O ⟨k,rfl,rfl,Y,kp,hk⟩;exact⟨_,rfl,q k Y kp hk⟩
  case turn=>
   rintro M m j O ⟨k,rfl,rfl,Y,ky,rfl⟩;refine⟨_,rfl,_,rfl,_,_,rfl,rfl,.inl ⟨by omega,by omega⟩,_,rfl,_,_,rfl,rfl,(by show (0:Int)<(p:Int);omega),rfl,_,rfl,?_⟩;refine Z1 (λJ=>?_) (λJ=>?_)
   ·have J:(k:Int)*x % (p:Int)≠1:=λz=>by
     rw[Yi,z] at J;simp at J
    have:k≠y:=λz=>by rw[z] at J;exact J hy
    exact⟨_,λ_ _ z=>z,_,rfl,_,_,rfl,rfl,y-(k+1),by omega,k+1,rfl,rfl,by omega,by omega,rfl⟩
   ·have J:(k:Int)*x % (p:Int)=1:=by
     apply aj;intro z;apply J;rw[Yi];simpa using z
    exact M _ _ ⟨k,rfl,rfl,Y,by omega,J⟩
theorem Zh3 {f:Addr}{fd:FuncData}(F:Wu K "first_of" "first_of" Zhl f fd):Z2 P w K mg base Z9 1 f fd ["one", "count", "p"] (Zbb K):=by
 refine F.ok (FS (N:=["one", "count", "p", "d"])) (λvs H Q E h=>?_) (λm6 A Y s H vs Q E hr h=>?_)
 ·obtain⟨a,xs,e,N,p,d,rfl,_⟩:=h;rfl
 ·obtain⟨a,xs,e,N,p,d,rfl,ha,he,e5,m7,p2,pl,d1,dl,hd,hm,q⟩:=h
  refine⟨_,Zt (ZG 3 rfl Zv)
   (Zt (Yv ao (ZH WG (Zz ZX (Zz Wt (Zz ZS (vn 3) (vn 3)) (Zz ZS (ZB (WB K) (vn 0) Zv (λ_ _=>rfl)) (vn 1))) (vn 2)) Zv (ZI _)) (Zx (JN (i:=3) (Z7 (by kernel_rfl)) rfl (YV (by kernel_rfl)) Zv Jg (.inl rfl))))
   (Zx (ZE (vn 3)))),?_⟩
  have h0:(xs.map V.int)[0]?=some (.int (e:Int)):=by rw[Zc,he];rfl
  have m5:Xu (xs.map V.int) 0=some (.int (e:Int)):=by
   show Xu (xs.map V.int) ((0:Nat):Int)=_
   first
   |(rw[O];exact h0)
   |(rw[ZA];exact h0)
   |simpa [Xu] using h0
  refine Yn (λm j U=>∃k:Nat,j=[some (.ref a),some (.int (N:Nat)),some (.int (p:Nat)),some (.int (k:Nat))]/\U=H/\1<=k/\k<=d/\m=d-k)
   (λj U=>j=[some (.ref a),some (.int (N:Nat)),some (.int (p:Nat)),some (.int (d:Nat))]/\U=H) ?hend ⟨d-1,1,rfl,rfl,Zq _,d1,rfl⟩ ?turn
  case hend=>
   rintro j U ⟨rfl,rfl⟩;exact⟨_,rfl,q⟩
  case turn=>
   rintro M m j U ⟨k,rfl,rfl,k1,ky,rfl⟩;refine⟨_,rfl,_,rfl,_,_,rfl,rfl,.inl ⟨by omega,by omega⟩,_,rfl,a,_,_,_,rfl,rfl,ha,m5,_,rfl,_,_,rfl,rfl,.inl ⟨by omega,by omega⟩,_,_,rfl,rfl,_,rfl,_,_,rfl,rfl,(by show (0:Int)<(p:Int);omega),rfl,_,rfl,?_⟩;refine Z1 (λJ=>?_) (λJ=>?_)
   ·have J:((k:Int)*k-e*N) % (p:Int)≠0:=λz=>by
     rw[Yi,z] at J;simp at J
    have:k≠d:=λz=>by rw[z] at J;exact J hd
    exact⟨_,λ_ _ z=>z,_,rfl,_,_,rfl,rfl,d-(k+1),by omega,k+1,rfl,rfl,by omega,by omega,rfl⟩
   ·have J:((k:Int)*k-e*N) % (p:Int)=0:=by
     apply aj;intro z;apply J;rw[Yi];simpa using z
    have:k=d:=by
     apply aj;intro z;exact hm k k1 (by omega) J
    subst this;exact M _ _ ⟨rfl,rfl⟩
theorem Zmw {f:Addr}{fd:FuncData}(F:Wu K "fit_prime" "fit_prime" ZnZ f fd)(T:Bl mg):Z2 P w K mg base Z9 1 f fd ["n", "count"] ZgV:=by
 refine F.ok (FS (N:=["n", "count", "p"])) (λvs H Q E h=>?_) (λn6 A m7 s H vs Q E hr h=>?_)
 ·obtain⟨n,count,p,rfl,_⟩:=h;rfl
 ·obtain⟨n,count,p,rfl,n1,n60,cl,Fp,q⟩:=h
  refine⟨_,Zt (ZG 2 rfl (Zz YG (vn 0) Zv))
   (Zt (Yv ao (Uk (ZH Zlj (Zz ZS (vn 2) (vn 2)) (Zz ZS Zv (vn 1)) (ZI _)) (Uj (JM (cb (ZiY rfl) T.any (pc (cmp ["k"] [2] ["k", "p"] rfl (Zn4 T.range (pc Zv (pc (vn 2) Zs))) (λ_ _ _ _ _=>gn 0) (λ_ _ _ _ _=>ZQ) (λ_ _ _ _ _=>W1 WH (Zz ZX (vn 1) (vn 0)) Zv (ZI _))) Zs))))).pt
    (Zx (JN (i:=2) (Z7 (by kernel_rfl)) rfl (YV (by kernel_rfl)) (vn 0) Jg (.inl rfl))))
   (Zx (ZE (vn 2)))),?_⟩
  obtain⟨J,eJ,hJ⟩:=Fp.st;have pl:=Fp.lt;have p2:=Fp.p2;refine⟨_,rfl,_,_,rfl,rfl,?_⟩;refine Yn (λm M H'=>∃j:Nat,M=[some (.int (n:Nat)),some (.int (count:Nat)),some (.int (((n+1)+j*n:Nat):Int))]/\Zw H H'/\j<=J/\m=J-j)
   (λM H'=>M=[some (.int (n:Nat)),some (.int (count:Nat)),some (.int (p:Nat))]/\Zw H H') ?hend ⟨J,0,by rw[fU,io];rfl,Zw.refl _,aU _,rfl⟩ ?turn
  case hend=>
   rintro M H' ⟨rfl,sm⟩;exact⟨_,rfl,q H' sm⟩
  case turn=>
   rintro O m M H' ⟨j,rfl,sm,jJ,rfl⟩;have jn:(n+1)+j*n<=p:=by rw[eJ];have:=cw n jJ;omega
   have m8:VH count ((n+1)+j*n)=true\/(n+1)+j*n=p:=by
    by_cases z:j=J
    ·exact .inr (by rw[eJ,z])
    ·exact .inl (hJ j (by omega))
   have ok:=Fp.ok;have n8:2<=(n+1)+j*n:=by omega
   have U:(n+1)+j*n≠p->j<J:=λz=>by
    by_cases e:j=J
    ·exact absurd (by rw[eJ,e]) z
    ·omega
   have m5:(((n+1)+j*n:Nat):Int)+(n:Int)=(((n+1)+(j+1)*n:Nat):Int):=by
    rw[cg];omega
   generalize hx:(n+1)+j*n=x at *;refine⟨_,rfl,_,rfl,_,_,rfl,rfl,.inl ⟨by omega,by omega⟩,_,rfl,_,_,rfl,rfl,.inl ⟨by omega,by omega⟩,_,_,rfl,rfl,_,rfl,?_⟩;refine Z1 (λY=>?_) (λY=>?_)
   ·have Y:x*x<=4*count:=by have:=of_decide_eq_true Y;rw[<-aJ] at this;omega
    have hb:VH count x=true:=by unfold VH;rw[decide_eq_true Y];rfl
    have:=U (λz=>by rw[z,ok] at hb;cases hb);refine (Z1 (λ_=>?_) (λh=>absurd rfl h));exact⟨_,λ_ _ z=>z,_,rfl,_,rfl,_,_,rfl,rfl,J-(j+1),by omega,j+1,by rw[<-m5];rfl,sm,by omega,rfl⟩
   ·have Y:¬x*x<=4*count:=λz=>Y (decide_eq_true (by rw[<-aJ];omega))
    refine⟨_,rfl,_,_,rfl,⟨by omega,by omega,by omega,by omega⟩,?_⟩;rw[show ((x:Nat):Int)-2=((x-2:Nat):Int) by omega,Zj];refine Jn (Jr 2 (x-2)) [some (.int (x:Nat))] rfl (λy=>match y with | .int z=>.bl ((x:Int) % z == 0)|y=>y) (by rw[Za,Z8];omega) (λi y H2 hy s2 R gg=>?_) (λD H2 hD s2 m9=>?_)
    ·obtain⟨hi,rfl⟩:=Zhp hy
     have m6:=gg H2 (Zw.refl _);dsimp only at m6;refine⟨_,rfl,_,rfl,_,_,rfl,rfl,(by show (0:Int)<2+(i:Int);omega),rfl,?_⟩;have e:decide (V.int ((x:Int) % (2+(i:Int)))=V.int 0)=((x:Int) % (2+(i:Int)) == 0):=by
      by_cases h:(x:Int) % (2+(i:Int))=0
      ·rw[h];rfl
      ·rw[decide_eq_false (λz=>h (by injection z)),beq_eq_false_iff_ne.mpr h]
     rw[e];exact m6
    ·refine⟨D,(ae (x-2)).map λk=>x % (k+2) == 0,rfl,.of ?_,?_⟩
     ·rw[m9]
      unfold YC;rw[aC,aC,aC];congr 2;refine aQ λi _=>?_;show V.bl ((x:Int) % (2+(i:Int)) == 0)=V.bl (x % (i+2) == 0);congr 1;have:(x:Int) % (2+(i:Int))=((x % (i+2):Nat):Int):=by
       rw[show (2:Int)+(i:Int)=((i+2:Nat):Int) by omega];rfl
      rw[this];cases hq:(x % (i+2) == 0) with
      |true=>rw[eq_of_beq hq];rfl
      |false=>
       have:=ne_of_beq_false hq;exact beq_eq_false_iff_ne.mpr (by omega)
     ·have ea:((ae (x-2)).map λk=>x % (k+2) == 0).any id=(ae (x-2)).any λk=>x % (k+2) == 0:=by rw[ic];rfl
      rw[ea];have eb:VH count x=((ae (x-2)).any λk=>x % (k+2) == 0):=by unfold VH;rw[decide_eq_false Y,gG]
      rw[<-eb];have sm2:=sm.trans s2;refine⟨_,rfl,Z1 (λh2=>?_) (λh2=>?_)⟩
      ·have:=U (λz=>by rw[z,ok] at h2;cases h2)
       exact⟨_,λ_ _ z=>z,_,rfl,_,rfl,_,_,rfl,rfl,J-(j+1),by omega,j+1,by rw[<-m5];rfl,sm2,by omega,rfl⟩
      ·have:x=p:=by
        rcases m8 with z|z
        ·exact absurd z h2
        ·exact z
       subst this;exact O _ _ ⟨rfl,sm2⟩
end
theorem ZpM {a b:Int}(h:(!decide (V.int a=V.int b))=true):a≠b:=λe=>by rw[e,decide_eq_true rfl] at h;cases h
theorem ZpN {a b:Int}(h:¬(!decide (V.int a=V.int b))=true):a=b:=by
 apply aj;intro e;exact h (by rw[decide_eq_false (λz=>e (by injection z))];rfl)
def Jb (p z n:Nat):TL:=(ae n).map λj=>V.int ((z ^ j % p:Nat):Int)
theorem ZcD (p z n:Nat):Jb p z (n+1)=Jb p z n++[V.int ((z ^ n % p:Nat):Int)]:=by
 unfold Jb;rw[ck,aN];rfl
theorem VO (p z n:Nat):(Jb p z n).length=n:=by unfold Jb;rw[Za,Zg]
theorem ZjJ (p z k:Nat):((z ^ k % p:Nat):Int)*(z:Int) % (p:Int)=((z ^ (k+1) % p:Nat):Int):=by
 rw[<-aJ,<-a5,Nat.pow_succ,Nat.mod_mul_mod]
inductive Za2 (vs:TL) (H:Hp) (Q:VK) (E03:XK):Prop
 |mk (n p z0:Nat):(vs=[.int n,.int p])->(1<=n)->(n<=60)->(2<=p)->(p<=100000)->(RtP n p z0)->(∀L H',H L=none->Zw H H'->H' L=some (.lst (Jb p z0 n))->Q (.ref L) H')->Za2 vs H Q E03
section
variable {P:Program}{w:World}{K:aa}{mg:TR}{base:Heap}
theorem ZhV {f:Addr}{fd:FuncData}(F:Wu K "root_powers" "root_powers" Zhb f fd)(T:Bl mg):Z2 P w K mg base Z9 1 f fd ["n", "p"] Za2:=by
 refine F.ok (FS (N:=["n", "p", "z", "powers"])) (λvs H Q E h=>?_) (λo9 A n9 s H vs Q E hr h=>?_)
 ·obtain⟨n,p,z0,rfl,_⟩:=h;rfl
 ·obtain⟨n,p,z0,rfl,n1,n60,p2,pl,R,q⟩:=h
  refine⟨_,Zt (ZG 2 rfl Zv)
   (Zt (ZG 3 rfl (ZK (pc Zv Zs)))
   (Zt (Yv ao (ZH WG (cb (Yr K) T.len (pc (vn 3) Zs)) (vn 0) (ZI _))
    (Zt (JN (i:=2) (Z7 (by kernel_rfl)) rfl (YV (by kernel_rfl)) Zv Jg (.inl rfl))
    (Zt (ZG 3 rfl (ZK (pc Zv Zs)))
    (Zx (Yv ao (ZH WG (Zz ZX (Zz ZS (ZB (WB K) (vn 3) (Xf W9 Zv) (λ_ _=>rfl)) (vn 2)) (vn 1)) Zv (ZI _))
     (Zx (Yq (Wh aG aO aS ZZ (vn 3) (pc (Zz ZX (Zz ZS (ZB (WB K) (vn 3) (Xf W9 Zv) (λ_ _=>rfl)) (vn 2)) (vn 1)) Zs)))))))))
   (Zx (ZE (vn 3))))),?_⟩
  have o8:(1:Int)=((1 ^ 0 % p:Nat):Int):=by rw[Nat.pow_zero,bH (by omega)];rfl
  have m5:∀z:Nat,V.int 1=V.int ((z ^ 0 % p:Nat):Int):=λz=>by rw[Nat.pow_zero,bH (by omega)];rfl
  have sz:=Ja;refine⟨WK,λL0 m8=>?_⟩;have s0:=Zw.upd (H:=H) (o:=.lst [.int 1]) m8;have h0:upd H L0 (.lst [.int 1]) L0=some (.lst (Jb p 1 1)):=by
   rw[Zu];show some (HO.lst [V.int 1])=some (HO.lst [V.int ((1 ^ 0 % p:Nat):Int)]);rw[m5 1]
  generalize upd H L0 (.lst [.int 1])=H0 at s0 h0 ⊢;refine Yn (λm j J=>∃(z k:Nat) (L:Addr),j=[some (.int (n:Nat)),some (.int (p:Nat)),some (.int (z:Nat)),some (.ref L)]/\Zw H J/\H L=none/\J L=some (.lst (Jb p z k))/\1<=z/\k<=p/\z<=z0/\m=z0-z/\(k=n->z=z0)/\(k≠n->z<z0))
   (λj J=>∃(L:Addr),j=[some (.int (n:Nat)),some (.int (p:Nat)),some (.int (z0:Nat)),some (.ref L)]/\Zw H J/\H L=none/\J L=some (.lst (Jb p z0 n))) ?hend ⟨z0-1,1,1,L0,rfl,s0,m8,h0,Zq _,by omega,?_,rfl,?_,?_⟩ ?turn
  case hend=>
   rintro j J ⟨L,rfl,sm,nL,hL⟩;exact⟨_,rfl,q L J nL sm hL⟩
  ·rcases R with ⟨a,b⟩|⟨a,_⟩ <;> omega
  ·rcases R with ⟨a,b⟩|⟨a,_,b,_⟩ <;> omega
  ·rcases R with ⟨a,b⟩|⟨a,_,b,_⟩ <;> omega
  case turn=>
   rintro m6 m j J ⟨z,k,L,rfl,sm,nL,hL,z1,kp,zz,rfl,c1,c2⟩;refine⟨_,rfl,L,_,rfl,.inl (.of hL),_,rfl,rfl,_,rfl,?_⟩;rw[VO];refine Z1 (λh1=>?_) (λh1=>?_)
   ·have h1:k≠n:=λe=>by
     rw[e,Yi] at h1;simp at h1
    have zl:=c2 h1;rcases R with ⟨a,b⟩|⟨a,ap,b,r,o0,o5,o6⟩
    ·omega
    ·have O:=o0 (z+1) (by omega) (by omega)
     have r1:=O.r1;have rp:=O.rp;refine⟨_,λ_ _ z=>z,_,rfl,_,_,rfl,rfl,WK,λU m9=>?_⟩;have s1:=Zw.upd (H:=J) (o:=.lst [.int 1]) m9;have n6:upd J U (.lst [.int 1]) U=some (.lst (Jb p (z+1) 1)):=by
      rw[Zu];show some (HO.lst [V.int 1])=some (HO.lst [V.int (((z+1) ^ 0 % p:Nat):Int)]);rw[m5 (z+1)]
     have m7:H U=none:=sm.free m9;have sm1:=sm.trans s1;generalize upd J U (.lst [.int 1])=H1 at s1 n6 sm1 ⊢;have ez:(z:Int)+1=((z+1:Nat):Int):=by omega
     refine Yn (λm j J=>∃k:Nat,j=[some (.int (n:Nat)),some (.int (p:Nat)),some (.int ((z+1:Nat):Int)),some (.ref U)]/\Zw H J/\J U=some (.lst (Jb p (z+1) k))/\1<=k/\k<=r (z+1)/\m=r (z+1)-k)
      (λj J=>j=[some (.int (n:Nat)),some (.int (p:Nat)),some (.int ((z+1:Nat):Int)),some (.ref U)]/\Zw H J/\J U=some (.lst (Jb p (z+1) (r (z+1))))) ?hend2 ⟨r (z+1)-1,1,by rw[<-ez];rfl,sm1,n6,Zq _,r1,rfl⟩ ?turn2
     case hend2=>
      rintro j H2 ⟨rfl,sm2,h2⟩;refine⟨z0-(z+1),by omega,z+1,r (z+1),U,rfl,sm2,m7,h2,by omega,rp,by omega,rfl,λe=>?_,λe=>?_⟩
      ·apply aj
       intro ne;exact o5 (z+1) (by omega) (by omega) e
      ·apply aj
       intro ne;have:z+1=z0:=by omega
       rw[this] at e;exact e o6
     case turn2=>
      rintro Y m j H2 ⟨k,rfl,sm2,h2,k1,kr,rfl⟩;obtain⟨M,rfl⟩:∃M,k=M+1:=⟨k-1,by omega⟩;have n8:Xu (Jb p (z+1) (M+1)) (-1)=some (V.int (((z+1) ^ M % p:Nat):Int)):=by rw[ZcD];exact UX _ _
      have nx:=ZjJ p (z+1) M;refine⟨_,rfl,_,rfl,U,_,_,_,rfl,rfl,.of h2,n8,_,rfl,_,_,rfl,rfl,.inr ⟨by omega,by omega⟩,_,rfl,_,_,rfl,rfl,(by show (0:Int)<(p:Int);omega),rfl,_,rfl,?_⟩;refine Z1 (λh3=>?_) (λh3=>?_)
      ·have h3:(z+1) ^ (M+1) % p≠1:=λe=>by
        rw[Yi,nx,e] at h3;simp at h3
       have:M+1≠r (z+1):=λe=>by rw[e] at h3;exact h3 O.one
       refine⟨_,λ_ _ z=>z,_,rfl,.inl ⟨rfl,_,.of h2⟩,_,rfl,_,rfl,U,_,_,_,rfl,rfl,.of h2,n8,_,rfl,_,_,rfl,rfl,.inr ⟨by omega,by omega⟩,_,rfl,_,_,rfl,rfl,(by show (0:Int)<(p:Int);omega),U,_,_,rfl,rfl,h2,by rw[VO];omega,?_⟩;have e5:Jb p (z+1) (M+1)++[V.int (((((z+1) ^ M % p:Nat):Int))*((z+1:Nat):Int) % (p:Int))]=Jb p (z+1) (M+2):=by rw[nx,ZcD p (z+1) (M+1)]
       rw[e5];exact⟨r (z+1)-(M+2),by omega,M+2,rfl,sm2.updr m7,Zu,by omega,by omega,rfl⟩
      ·have h3:(z+1) ^ (M+1) % p=1:=by
        apply aj;intro e;apply h3;rw[Yi,nx,beq_eq_false_iff_ne.mpr (λq=>e (by exact_mod_cast q))];rfl
       have:M+1=r (z+1):=by
        apply aj;intro e;exact O.nz (M+1) (by omega) (by omega) h3
       rw[this] at h2;exact Y _ _ ⟨rfl,sm2,h2⟩
   ·have h1:k=n:=by
     apply aj;intro e;apply h1;rw[Yi];simp;omega
    subst h1;rw[c1 rfl] at hL ⊢;exact m6 _ _ ⟨L,rfl,sm,nL,hL⟩
end
end C55
namespace L2
open PySem PySem.Spec PyProof.Rows
def SqB (b:Bool)(K:aa)(H:Hp)(a:Addr)(xs:TL):Prop:=match b with
 |true=>False
 |false=>Wp K H a xs
theorem SqB.lst {K:aa}{H:Hp}{a:Addr}{xs:TL}(h:Wp K H a xs):SqB false K H a xs:=h
section
variable {X:Cx}{pins:List (Addr×Obj)}{σ:St}{H:Hp}{s:Shared}
theorem Inv.sqB {a:Addr}{xs:TL}(I:Inv X pins σ H s)(h:Wp X.K H a xs):∃j,ZO xs j/\s.heap.IsList a j.toArray:=by
 obtain⟨j,q,p,_⟩:=I.list h;exact⟨j,q,p.isList⟩
theorem Vj {h:Heap}{j a:Addr}{k:Nat}(x:h.IsListIter j a k):∃o,h.get? j=some o/\∀v,o.data≠.cell v:=by
 obtain⟨o,J,M,q⟩:=x;exact⟨o,J,λv z=>by rw[z] at q;cases q⟩
end
def Itz (K:aa)(a b:Addr):It:=
  ⟨λi H=>∃j q x y,Wp K H a j/\Wp K H b q/\j[i]?=some x/\q[i]?=some y,
   λi H x O=>∃T J M,x=.ref T/\H T=none/\O=upd H T (.tup [J,M])/\(∀j,Wp K H a j->j[i]?=some J)/\∀q,Wp K H b q->q[i]?=some M,
   λi H=>∃j q,Wp K H a j/\Wp K H b q/\(j.length<=i\/q.length<=i)⟩
theorem ZgD {P:Program}{w:World}{K:aa}{elts:List Expr}{x1}{pos:Pos}(a b z p r i j:Addr)(D:ZipApart z p r i j a b) :
  Zac P w K (.Tuple elts x1 pos) (Itz K a b) [z,p,r,i,j] z (λk h=>IsZip h z p r .none/\IsPair h p (.ref i) (.ref j)/\(∃o1 o2,IsPair h r o1 o2)/\h.IsListIter i a k/\h.IsListIter j b k) where
 mem:=by simp
 obj:=λk h st c hc=>by
  obtain⟨O,M,⟨o1,o2,U⟩,hi,Y⟩:=st;simp only[aD,cT,or_false] at hc;rcases hc with rfl|rfl|rfl|rfl|rfl
  ·exact⟨_,O,λv z=>by
    have z':gw _=fS v:=z;cases z'⟩
  ·exact⟨_,M,λv z=>by
    have z':Data.seq _ _=fS v:=z;cases z'⟩
  ·exact⟨_,U,λv z=>by
    have z':Data.seq _ _=fS v:=z;cases z'⟩
  ·exact Vj hi
  ·exact Vj Y
 keep:=λk h h' st kk=>by
  obtain⟨O,M,⟨o1,o2,U⟩,hi,Y⟩:=st;exact⟨kk z (by simp) _ O,kk p (by simp) _ M,⟨o1,o2,kk r (by simp) _ U⟩,Heap.IsListIter.at hi λo q=>kk i (by simp) o q,Heap.IsListIter.at Y λo q=>kk j (by simp) o q⟩
 item:=by
  intro X hP hw hK hc k m7 s σ H E I hf st hg;subst hP hw hK;obtain⟨O,M,⟨o1,o2,U⟩,hi,Y⟩:=st;obtain⟨xs,ys,x,y,hA,hB,hx,hy⟩:=hg;obtain⟨m8,rv,pa⟩:=I.sqB hA;obtain⟨m9,m5,pb⟩:=I.sqB hB;obtain⟨ux,n6,n8⟩:=rv.get hx;obtain⟨uy,n9,o0⟩:=m5.get hy;refine wpAny_pyNext_zip_item D O M U hi Y pa pb (x:=ux) (y:=uy) (by simpa using n6) (by simpa using n9) λh1 z1 r1 i1 j1 t1 o5 k1=>?_;refine⟨_,rfl,wpAny_letOwnedTupleGo_zip z1 λh2 z2 s2=>?_⟩;have lt:∀c∈[z,p,r,i,j],c<s.heap.objs.size:=λc J=>by
   simp only[aD,cT,or_false] at J;rcases J with rfl|rfl|rfl|rfl|rfl
   ·exact Zp O
   ·exact Zp M
   ·exact Zp U
   ·obtain⟨o,e,_⟩:=Vj hi;exact Zp e
   ·obtain⟨o,e,_⟩:=Vj Y;exact Zp e
  have s3:be z h1 h2:=s2;have t2:IsPair h2 s.heap.objs.size ux uy:=(s3.2 _ (bj (lt z (by simp)))).trans t1;have nT:H s.heap.objs.size=none:=I.hok.fresh (Zq _);have p2:IsPair h2 p (.ref i) (.ref j):=(s3.2 _ D.TIz).trans (k1 _ _ D.TIz D.TITO D.TIi1 D.TIi2 M);have r2:IsPair h2 r ux uy:=(s3.2 _ D.TOz).trans r1;have i2:=i0 i1 s3.extBut D.i1z;have j2:=i0 j1 s3.extBut D.i2z;have I2:=I.turnLay (t':=s.toks) (h':=h2) (ts:=[z,p,r,i,j]) (T:=s.heap.objs.size) (o:=.tup [x,y]) (λc o J q=>?_) (λc J=>?_) hf (Zq _) ⟨by show 2<=sizeLine;decide,[ux,uy],.cons n8 (.cons o0 .nil),_,t2,rfl,0,rfl⟩
  ·refine⟨.ref s.heap.objs.size,_,I2,rfl,⟨_,x,y,rfl,nT,rfl,λzs m6=>by rw[I.list_inj m6 hA];exact hx,λzs m6=>by rw[I.list_inj m6 hB];exact hy⟩,⟨z2,p2,⟨_,_,r2⟩,i2,j2⟩,λc J=>?_⟩
   rw[Zy (ar (lt c J))];exact (hf c J).1
  ·have q1:c≠z:=λe=>J (by simp[e])
   have q2:c≠r:=λe=>J (by simp[e]);have q3:c≠i:=λe=>J (by simp[e]);have q4:c≠j:=λe=>J (by simp[e]);exact (s3.2 c q1).trans (k1 c o q1 q2 q3 q4 q)
  ·simp only[aD,cT,or_false] at J
   rcases J with rfl|rfl|rfl|rfl|rfl
   ·exact⟨_,z2⟩
   ·exact⟨_,p2⟩
   ·exact⟨_,r2⟩
   ·obtain⟨o,e,_⟩:=Vj i2;exact⟨o,e⟩
   ·obtain⟨o,e,_⟩:=Vj j2;exact⟨o,e⟩
 done:=by
  intro X hP hw hK hc k m7 s σ H E I hf st hg;subst hP hw hK;obtain⟨O,M,⟨o1,o2,U⟩,hi,Y⟩:=st;obtain⟨xs,ys,hA,hB,hl⟩:=hg;obtain⟨m8,rv,pa⟩:=I.sqB hA;obtain⟨m9,m5,pb⟩:=I.sqB hB;have l1:=rv.length;have l2:=m5.length;refine wpAny_pyNext_zip_end (I.ok.hd hc) D O M U hi Y pa pb ?_ λh1 k1=>⟨rfl,I.turnedL (t':=s.toks) (ts:=[z,p,r,i,j]) (λc o J q=>?_) hf⟩
  ·rcases hl with h|h
   ·exact .inl (by simp;omega)
   ·exact .inr (by simp;omega)
  ·exact k1 c o (λe=>J (by simp[e])) (λe=>J (by simp[e])) (λe=>J (by simp[e])) (λe=>J (by simp[e])) q
 self:=λ_ _ _ _ _ st h=>wpAny_pyIter_zip st.1 h
structure Zek (J:It)(At:Hp->Prop)(ps:List (V×V)):Prop where
 go:∀i H,At H->i<ps.length->J.go i H
 yld:∀i H x H2,At H->J.yld i H x H2->∃T y z,x=.ref T/\H T=none/\H2=upd H T (.tup [y,z])/\ps[i]?=some (y,z)
 stop:∀i H,At H->ps.length<=i->J.stop i H
theorem ZnB {K:aa}{a b:Addr}{xs ys:TL}:Zek (Itz K a b) (λH=>Wp K H a xs/\Wp K H b ys) (xs.zip ys) where
 go:=λi H h j=>by
  rw[eF] at j;exact⟨xs,ys,xs[i]'(by omega),ys[i]'(by omega),h.1,h.2,by simp,by simp⟩
 yld:=λi H x Y h q=>by
  obtain⟨T,y,z,e,J,M,O,U⟩:=q;refine⟨T,y,z,e,J,M,?_⟩;rw[gu];exact⟨O xs h.1,U ys h.2⟩
 stop:=λi H h j=>by
  rw[eF] at j;exact⟨xs,ys,h.1,h.2,by omega⟩
def Zol (K:aa)(ta:TA):TI:=λσ H R=>ta σ H λvs q=>∃a b u v M O j,vs=[.ref a,.ref b]/\SqB u K j a M/\SqB v K j b O/\Zw j q/\∀J U,Zek J U (M.zip O)->(∀Y,Zw j Y->U Y)->R J q
theorem Zpq {X:Cx}{elts:List Expr}{x1}{pt:Pos}{l m:Expr}{ta:TA}{p pos:Pos}(hm:X.mg "zip"=none)(ha:PA X [l,m] ta)(hg:Y3 X.env.scope "zip"=true:=by kernel_rfl)(hs:starEach [l,m] X.env=(false,eval l X.env)::starEach [m] X.env:=by rfl)(Y:(backTo pos (starEach [m] X.env)).any (·.1)=false:=by rfl) :
  PI X (.Tuple elts x1 pt) (.Call (.Name "zip" p) [l,m] [] pos) (Zol X.K ta):=by
 intro j s σ H R I h;refine Call_ (Je I (JQ hg) hm (show bootBuiltins "zip"=some (.type "zip") by kernel_rfl) (bg (Yh (ha pos j s σ H _ I h) λus s1 ⟨vs,H1,J,r1,q1⟩=>?_) hs Y));obtain⟨a,b,u,v,xs,ys,Hx,e,M,O,sm,q⟩:=q1;subst e;cases u with
 |true=>cases M
 |false=>
 cases v with
 |true=>cases O
 |false=>
 replace M:Wp X.K Hx a xs:=M;replace O:Wp X.K Hx b ys:=O;cases r1 with
 |cons r rr=>
  cases rr with
  |cons r' rr=>
   cases rr;cases (show _=aK a from r);cases (show _=aK b from r');obtain⟨m5,rv,pa⟩:=J.sqB (sm.seq M);obtain⟨m6,m7,pb⟩:=J.sqB (sm.seq O);have la:a<s1.heap.objs.size:=by obtain⟨o,e,_⟩:=pa;exact Zp e
   have lb:b<s1.heap.objs.size:=by obtain⟨o,e,_⟩:=pb;exact Zp e
   have nn:∀{c d:Nat},c<d->(c:Addr)≠d:=λh=>ar h;have D:ZipApart (s1.heap.objs.size+4) (s1.heap.objs.size+2) (s1.heap.objs.size+3) s1.heap.objs.size (s1.heap.objs.size+1) a b:=by
    have m8:(a:Nat)<s1.heap.objs.size:=la;have m9:(b:Nat)<s1.heap.objs.size:=lb;constructor <;> first|exact ar (aF la (ef _ _))|exact ar (aF lb (ef _ _))|exact ar la|exact ar lb|exact ar (by omega)|exact bj (by omega)
   refine call_zip_2 pa pb λg gz gp gr gi gj _ gk=>wpAny_pyIter_zip gz ?_;have sz:∀c∈[s1.heap.objs.size+4,s1.heap.objs.size+2,s1.heap.objs.size+3,s1.heap.objs.size,s1.heap.objs.size+1],s1.heap.objs.size<=c:=λc U=>by
    simp only[aD,cT,or_false] at U;rcases U with rfl|rfl|rfl|rfl|rfl
    ·exact ef _ _
    ·exact ef _ _
    ·exact ef _ _
    ·exact Zq _
    ·exact ef _ _
   exact⟨_,[s1.heap.objs.size+4,s1.heap.objs.size+2,s1.heap.objs.size+3,s1.heap.objs.size,s1.heap.objs.size+1],_,_,H1,rfl,J.kept (t':=s1.toks) gk,ZgD a b _ _ _ _ _ D,⟨gz,gp,⟨_,_,gr⟩,gi,gj⟩,λc U=>J.fpOk (sz c U) (J.hok.fresh (sz c U)),q _ _ ZnB λH' s'=>⟨s'.seq M,s'.seq O⟩⟩
theorem ZlI (K:aa){X:Cx}{elts:List Expr}{J}{pt:Pos}{l m:Expr}{q:TA}{p pos:Pos}(M:X.mg "zip"=none)(O:PA X [l,m] q)(U:X.K=K:=by rfl)(Y:Y3 X.env.scope "zip"=true:=by kernel_rfl)(hs:starEach [l,m] X.env=(false,eval l X.env)::starEach [m] X.env:=by rfl)(j:(backTo pos (starEach [m] X.env)).any (·.1)=false:=by rfl) :
  PI X (.Tuple elts J pt) (.Call (.Name "zip" p) [l,m] [] pos) (Zol K q):=U▸Zpq M O Y hs j
theorem ZiO {K:aa}{J:It}{At:Hp->Prop}{own:List Str}{M:TY}{te:TE}{σ:St}{H Hx:Hp}{Q:VK}{q:List (V×V)}(S:Zek J At q)(m8:∀j,Zw Hx j->At j)(sx:Zw Hx H)(O:St)(m9:JG own M σ=none::none::O)(f:V->V->V)(hz:q.length<=1000000)
  (hs:∀(i:Nat) x y j,q[i]?=some (x,y)->Zw H j->∀R:VK,(∀U,Zw j U->R (f x y) U)->te (some x::some y::O) j R)
  (hd:∀D j,H D=none->Zw H j->j D=some (.lst (q.map λp=>f p.1 p.2))->Q (.ref D) j):W0 own M (Zf2 K 2 (JD (Yc 0) (JD (Yc 1) Zf3))) WF te σ Q J H:=by
 intro D hD;refine⟨λi m m5 j=>m=q.length-i/\i<=q.length/\(∃v0 v1,m5=v0::v1::O)/\Zw H j/\j D=some (.lst ((q.take i).map λp=>f p.1 p.2)),⟨_,rfl,aU _,⟨none,none,m9⟩,Zw.upd hD,by rw[Zu,eX];rfl⟩,?_⟩;rintro i m m5 j ⟨rfl,hi,⟨v0,v1,rfl⟩,s,hl⟩;have Y:=m8 j (sx.trans s);by_cases m6:i<q.length
 ·refine .inr ⟨S.go i j Y m6,λm7 H2=>(∃v0 v1,m7=v0::v1::O)/\Zw H H2/\H2 D=some (.lst ((q.take (i+1)).map λp=>f p.1 p.2)),λm7 H2 z=>⟨q.length-(i+1),by omega,rfl,m6,z.1,z.2.1,z.2.2⟩,λx H2 hy=>?_⟩
  obtain⟨T,y,z,rfl,hT,rfl,hx⟩:=S.yld i j x H2 Y hy;have ht:q.take (i+1)=q.take i++[(y,z)]:=by rw[cx,hx];rfl
  refine⟨T,_,rfl,.of Zu,rfl,_,_,rfl,_,_,rfl,rfl,?_⟩;refine tT (A:=λH4=>te (some y::some z::O) H4 λv U=>∃xs,U D=some (.lst xs)/\xs.length<sizeLine/\(∃v0 v1,(some y::some z::O:St)=v0::v1::O)/\Zw H (upd U D (.lst (xs++[v])))/\(upd U D (.lst (xs++[v]))) D=some (.lst ((q.take (i+1)).map λp=>f p.1 p.2))) ?_;refine hs i y z _ hx (s.trans (Zw.upd hT)) _ λU s5=>⟨_,s5 _ _ (Zw.upd hT _ _ hl),?_,⟨_,_,rfl⟩,((s.trans (Zw.upd hT)).trans s5).updr hD,?_⟩
  ·rw[Za,b8]
   have:(16777216:Nat)=sizeLine:=by decide
   omega
  ·rw[Zu,ht,aN]
   rfl
 ·have e:i=q.length:=by omega
  subst e;refine .inl ⟨S.stop _ j Y (Zq _),hd D j hD s ?_⟩;rw[hl,cD]
end L2
namespace C55
open PySem L2 PySem.Spec PyProof.Rows
open Tb Pm
noncomputable abbrev Zhd:Stmt:=top 33
noncomputable abbrev Zk9:Stmt:=top 34
noncomputable abbrev Zk8:Stmt:=top 35
def ZN (m:Nat)(v:Nat->Int):TL:=(ae m).map λc=>V.int (v c)
theorem Ys (m:Nat)(v:Nat->Int):(ZN m v).length=m:=by unfold ZN;rw[Za,Zg]
theorem JY {m c:Nat}(v:Nat->Int)(h:c<m):(ZN m v)[c]?=some (V.int (v c)):=by
 unfold ZN;rw[Zc,ai h];rfl
theorem Wq {m:Nat}{v u:Nat->Int}(h:∀c,c<m->v c=u c):ZN m v=ZN m u:=by
 unfold ZN;exact aQ λc j=>by rw[h c (af.mp j)]
theorem Ji (m:Nat)(v:Nat->Int):ZN m v=((ae m).map v).map V.int:=by
 unfold ZN;rw[aC];rfl
theorem Zb7 (m:Nat)(v:Nat->Int):ZN (m+1) v=ZN m v++[V.int (v m)]:=by
 unfold ZN;rw[ck,aN];rfl
theorem VI (m:Nat)(v:Nat->Int):((ae m).map v).any (· != 0)=true↔∃c,c<m/\v c≠0:=by
 rw[aZ];constructor
 ·rintro⟨x,q,h⟩
  obtain⟨c,j,rfl⟩:=az.mp q;exact⟨c,af.mp j,by simpa using h⟩
 ·rintro⟨c,j,h⟩
  exact⟨v c,az.mpr ⟨c,af.mpr j,rfl⟩,by simpa using h⟩
def fI2 (g:Int->Int->Int):V->V->V:=λx y=>match x,y with
 | .int a,.int b=>.int (g a b)
 |_,_=>.non
theorem Zeo {m:Nat}{v u:Nat->Int}:(ZN m v).zip (ZN m u)=(ae m).map λc=>(V.int (v c),V.int (u c)):=by
 unfold ZN;rw[List.zip_map']
theorem Vm {K:aa}{J:It}{At:Hp->Prop}{own:List Str}{M:TY}{te:TE}{σ:L2.St}{H Hx:Hp}{Q:VK}{m:Nat}{v u:Nat->Int}(S:Zek J At ((ZN m v).zip (ZN m u)))(O:∀j,Zw Hx j->At j)(sx:Zw Hx H)(U:L2.St)(Y:JG own M σ=none::none::U)(g:Int->Int->Int)(hz:m<=1000)
  (hs:∀(i:Nat) j,i<m->Zw H j->∀R:VK,R (.int (g (v i) (u i))) j->te (some (.int (v i))::some (.int (u i))::U) j R)
  (hd:∀D j,H D=none->Zw H j->j D=some (.lst (ZN m λi=>g (v i) (u i)))->Q (.ref D) j):W0 own M (Zf2 K 2 (JD (Yc 0) (JD (Yc 1) Zf3))) WF te σ Q J H:=by
 refine ZiO S O sx U Y (fI2 g) (by rw[eF,Ys,Ys];omega) (λi x y j q s R gg=>?_) (λD j nD s hD=>hd D j nD s ?_)
 ·rw[Zeo] at q
  have hi:i<m:=by
   have:=(ac.mp q).1;rw[Za,Zg] at this;exact this
  rw[Zc,ai hi] at q;cases q;exact hs i j hi s R (gg j (Zw.refl _))
 ·rw[hD,Zeo,aC]
  rfl
def LLs (H:Hp)(a:Addr)(m:Nat)(F:Nat->Nat->Int):Prop:=∃cs:TN,H a=some (.lst (cs.map V.ref))/\cs.length=m/\∀(c:Nat) b,cs[c]?=some b->H b=some (.lst (ZN m (F c)))
theorem LLs.mono {H j:Hp}{a:Addr}{m:Nat}{F:Nat->Nat->Int}(h:LLs H a m F)(s:Zw H j):LLs j a m F:=by
 obtain⟨q,J,M,O⟩:=h;exact⟨q,s _ _ J,M,λc b hb=>s _ _ (O c b hb)⟩
def UB (m p:Nat)(F:Nat->Nat->Int)(v:Nat->Int)(k:Int)(c:Nat):Int:=(We m (λj=>v j*F c j)-k*v c) % (p:Int)
structure Zi4 (m p:Nat)(v:Nat->Int):Prop where
 ge:∀c,c<m->0<=v c
 lt:∀c,c<m->v c<(p:Int)
inductive ZdE (vs:TL) (H:Hp) (Q:VK) (E03:XK):Prop
 |mk (ca oa:Addr) (m k p:Nat) (F:Nat->Nat->Int) (v:Nat->Int):(vs=[.ref ca,.ref oa,.int k,.int p])->(LLs H ca m F)->(H oa=some (.lst (ZN m v)))->(2<=p)->(p<=100000)->(m<=60)->(k<=100000)->(Zi4 m p v)->(∀L H',H L=none->Zw H H'->H' L=some (.lst (ZN m (UB m p F v k)))->Q (.ref L) H')->ZdE vs H Q E03
section
variable {P:Program}{w:World}{K:aa}{mg:TR}{base:Heap}
theorem ZkE {J:It}{g:TG}{tb:TS}{D:WO}{σ:L2.St}{H:Hp}{At:Hp->Prop}{j:List (V×V)}(S:Zek J At j)(Pv:Nat->L2.St->Hp->Prop)(h0:Pv 0 σ H)(hS:∀i σ H,Pv i σ H->At H)
  (hs:∀(i:Nat) y z σ H T,j[i]?=some (y,z)->Pv i σ H->H T=none->g (.ref T) σ (upd H T (.tup [y,z])) λM Y=>tb (D.lp (Pv (i+1))) M Y) (hd:∀ σ H,Pv j.length σ H->D.nx σ H) :
  ∃W:Nat->Nat->L2.St->Hp->Prop,(∃m,W 0 m σ H)/\∀i m σ H,W i m σ H->
   (J.stop i H/\D.nx σ H)\/(J.go i H/\∃N:L2.St->Hp->Prop,(∀ O q,N O q->∃m',m'<m/\W (i+1) m' O q)/\∀x q,J.yld i H x q->g x σ q λM Y=>tb (D.lp N) M Y):=by
 refine⟨λi m σ H=>m=j.length-i/\i<=j.length/\Pv i σ H,⟨_,rfl,aU _,h0⟩,?_⟩;rintro i m σ H ⟨rfl,hi,p⟩;have s:=hS i σ H p;by_cases U:i<j.length
 ·refine .inr ⟨S.go i H s U,Pv (i+1),λO q p'=>⟨j.length-(i+1),by omega,rfl,U,p'⟩,λx q hy=>?_⟩
  obtain⟨T,y,z,rfl,hT,rfl,hx⟩:=S.yld i H x q s hy;exact hs i y z σ H T hx p hT
 ·have e:i=j.length:=by omega
  subst e;exact .inl ⟨S.stop _ H s (Zq _),hd σ H p⟩
theorem Zj5 {f:Addr}{fd:FuncData}(F:Wu K "less_often" "less_often" Zk8 f fd)(T5:BlT mg):Z2 P w K mg base Z9 1 f fd ["columns", "one", "k", "p"] ZdE:=by
 refine F.ok (FS (N:=["columns", "one", "k", "p", "found", "column", "x"])) (λvs H Q E h=>?_) (λm8 A m5 s H vs Q E hr h=>?_)
 ·obtain⟨ca,oa,m,k,p,G,v,rfl,_⟩:=h;rfl
 ·obtain⟨ca,oa,m,k,p,G,v,rfl,hC,hO,p2,pl,m9,kl,vo,q⟩:=h
  refine⟨_,Zt (ZG 4 rfl (ZK Zs))
   (Zt (ZV ao rfl (ZlI K T5.zip (pc (vn 0) (pc (vn 1) Zs))) (g2 K 5 6 rfl (gn 5) (gn 6))
    (Zx (Yq (Wh aG aO aS ZZ (vn 4)
     (pc (Zz ZX (Zz Wt (cb (sumK K rfl) T5.sum (pc (cmp ["y", "often"] [] ["y", "often"] rfl (ZlI K T5.zip (pc (vn 1) (pc (vn 5) Zs))) (λ_ _ _ _ _=>g2 K 0 1 rfl (gn 0) (gn 1)) (λ_ _ _ _ _=>ZQ)
      (λ_ _ _ _ _=>Zz ZS (vn 0) (vn 1))) Zs)) (Zz ZS (vn 2) (vn 6))) (vn 3)) Zs)))))
   (Zx (ZE (vn 4)))),?_⟩
  have sz:=Ja;obtain⟨cs,c1,c2,c3⟩:=id hC;refine⟨WK,λL nL=>?_⟩;have s0:=Zw.upd (H:=H) (o:=.lst []) nL;have h0:upd H L (.lst []) L=some (.lst (ZN 0 (UB m p G v k))):=Zu;generalize upd H L (.lst [])=H0 at s0 h0 ⊢;refine⟨_,rfl,_,rfl,ca,oa,false,false,_,_,H,rfl,.lst (.of c1),.lst (.of hO),s0,λJ At S m6=>?_⟩;have m7:((cs.map V.ref).zip (ZN m v)).length=m:=by rw[eF,Za,Ys,c2];omega
  refine ZkE S (λi M H'=>∃(v5 v6:TK),M=[some (.ref ca),some (.ref oa),some (.int (k:Nat)),some (.int (p:Nat)),some (.ref L),v5,v6]/\Zw H H'/\H' L=some (.lst (ZN i (UB m p G v k))))
   ⟨_,_,rfl,s0,h0⟩ (λi M H' h=>?_) ?_ ?_
  ·obtain⟨_,_,_,sm,_⟩:=h
   exact m6 H' sm
  ·rintro i y z M H1 T' U ⟨v5,v6,rfl,s1,h1⟩ nT
   have hi:i<m:=by
    have:=(ac.mp U).1;omega
   rw[gu,JY v hi,Zc,Zf (by omega)] at U;obtain⟨e1,e2⟩:=U;cases e1;cases e2;have hb:=c3 i (cs[i]'(by omega)) (Zf (by omega));generalize cs[i]'(by omega)=b at hb ⊢;have s2:=Zw.upd (H:=H1) (o:=.tup [.ref b,.int (v i)]) nT;refine⟨T',_,rfl,.of Zu,rfl,_,_,rfl,_,_,rfl,rfl,?_⟩;have O:=s1.trans s2;have h2:=s2 _ _ h1;generalize upd H1 T' (.tup [.ref b,.int (v i)])=H2 at O h2 ⊢;refine⟨_,rfl,.inl ⟨rfl,_,.of h2⟩,_,rfl,_,rfl,oa,b,false,false,_,_,H,rfl,.lst (.of hO),.lst (.of hb),O,λJ' n6 S' Y=>?_⟩;refine Vm S' Y O [] rfl (λx y=>x*y) (by omega) (λj H3 hj s3 R g=>?_) (λD H3 nD s3 hD=>?_)
   ·have a1:=vo.ge j hj
    have a2:=vo.lt j hj;exact⟨_,rfl,_,rfl,_,_,rfl,rfl,.inl ⟨by omega,by omega⟩,g⟩
   ·rw[Ji] at hD
    refine⟨D,_,rfl,.of hD,_,rfl,_,rfl,_,_,rfl,rfl,.inl ⟨by omega,by omega⟩,_,_,rfl,rfl,_,rfl,_,_,rfl,rfl,(by show (0:Int)<(p:Int);omega),L,_,_,rfl,rfl,s3 _ _ h2,by rw[Ys];omega,?_⟩;have e5:ZN i (UB m p G v k)++[V.int ((((ae m).map λj=>v j*G i j).sum-(k:Int)*v i) % (p:Int))]=ZN (i+1) (UB m p G v k):=by
     rw[Zb7];rfl
    rw[e5];exact⟨_,_,rfl,(O.trans s3).updr nL,Zu⟩
  ·rintro M H1 ⟨v5,v6,rfl,s1,h1⟩
   rw[m7] at h1;exact⟨_,rfl,q L H1 nL s1 h1⟩
end
def VF (t:T9)(i c j:Nat):Int:=(cnA t (YW t) i j (ZM t c):Nat)
def gW (t:T9)(j:Nat->Nat->Nat)(i s:Nat):Nat:=j s (ZM t i)
section
variable {t:T9}{p m:Nat}{e ω φ:Nat->Nat->Nat}
theorem Zk2 (C:CD t p m e ω φ)(α:Nat->Int):Zi4 m p (Vc t p m e α):=
 ⟨λc _=>bY _ C.p0,λc _=>bD _ (by have:=C.pr.p2;omega)⟩
theorem Ze2 (C:CD t p m e ω φ)(j:PW t){i:Nat}(q:i<m)(S:Nat->Bool)(k:Nat):ZN m (UB m p (VF t i) (Vc t p m e (lpA S (gW t ω i) k)) (k:Int))=ZN m (Vc t p m e (lpA S (gW t ω i) (k+1))):=by
 refine Wq λc J=>?_;unfold UB VF;rw[ZkV C j q J,<-Zkn];rfl
theorem Zlu (C:CD t p m e ω φ)(j:PW t){i:Nat}(J:i<m):∀s,s<m->gW t ω i s<p:=λs q=>C.wlt s _ q ((YU j).rl i (by have:=C.mc;omega))
theorem ZkG (C:CD t p m e ω φ){M:Nat}(O:M<p):∃y:Nat,1<=y/\y<p/\(y:Int)*fcI p M % (p:Int)=1:=by
 have U:=C.pr.p2;obtain⟨j,q⟩:=Zlx U M;have J:=ZiC C.pr O (Zq M);rw[<-ZiD,fk j q] at J;obtain⟨a,Y⟩:=bM j;rw[Y] at J q ⊢;obtain⟨b,b1,b2,b3⟩:=C.pr.iv a (by omega) (by omega);exact⟨b,b1,b2,by rw[<-aJ,<-a5,b3];rfl⟩
end
inductive ZdF (vs:TL) (H:Hp) (Q:VK) (E03:XK):Prop
 |mk (ca oa:Addr) (t:T9) (p m:Nat) (e ω φ:Nat->Nat->Nat) (S:Nat->Bool) (i:Nat):(vs=[.ref ca,.ref oa,.int p])->(CD t p m e ω φ)->(PW t)->(i<m)->(p<=100000)->(LLs H ca m (VF t i))->(H oa=some (.lst (ZN m (Vc t p m e (Xa S)))))->((∃s,s<m/\S s=true))->(∀L M H',H L=none->Zw H H'->(∃s,s<m/\S s=true/\gW t ω i s=M)->(∀s,s<m->S s=true->gW t ω i s<=M)->H' L=some (.lst (ZN m (Vc t p m e (Xa (J8 S (gW t ω i) M)))))->Q (.ref L) H')->ZdF vs H Q E03
section
variable {P:Program}{w:World}{K:aa}{mg:TR}{base:Heap}
theorem ZkR {t:T9}{p m:Nat}{e j q:Nat->Nat->Nat}(C:CD t p m e j q)(J:PW t):m<=60:=by
 have M:=C.mc;have O:=Wn (t:=t) t.length;have U:=J.n60;omega
theorem Zj6 {f:Addr}{fd:FuncData}(F:Wu K "last_part" "last_part" Zk9 f fd)(T:Bl mg)(GL:Fn P w K mg base Z9 1 "less_often" ["columns", "one", "k", "p"] ZdE)(GB:Fn P w K mg base Z9 1 "back_by" ["p", "x"] JJ):Z2 P w K mg base Z9 2 f fd ["columns", "one", "p"] ZdF:=by
 refine F.ok (FS (N:=["columns", "one", "p", "k", "factor", "left", "after", "undo"])) (λvs H Q E h=>?_) (λo0 A n8 s H vs Q E hr h=>?_)
 ·obtain⟨ca,oa,t,p,m,e,ω,φ,S,i,rfl,_⟩:=h;rfl
 ·obtain⟨ca,oa,t,p,m,e,ω,φ,S,i,rfl,C,Pt,hi,pl,hC,hO,hS,q⟩:=h
  refine⟨_,Zt (ZG 3 rfl Zv)
   (Zt (ZG 4 rfl Zv)
   (Zt (ZG 5 rfl (vn 1))
   (Zt (ZG 6 rfl (Yz GL hr ZF (pc (vn 0) (pc (vn 5) (pc (vn 3) (pc (vn 2) Zs))))))
   (Zt (Yv ao (JM (cb (ZoS K rfl) T.any (pc (vn 6) Zs)))
    (Zt (ZG 5 rfl (vn 6))
    (Zt (JN (i:=3) (Z7 (by kernel_rfl)) rfl (YV (by kernel_rfl)) Zv Jg (.inl rfl))
    (Zt (ZG 4 rfl (Zz ZX (Zz ZS (vn 4) (vn 3)) (vn 2)))
    (Zx (ZG 6 rfl (Yz GL hr ZF (pc (vn 0) (pc (vn 5) (pc (vn 3) (pc (vn 2) Zs)))))))))))
   (Zt (ZG 7 rfl (Yz GB hr ZF (pc (vn 2) (pc (vn 4) Zs))))
   (Zx (ZE (cmp ["x"] [7,2] ["x", "undo", "p"] rfl (itL K (vn 5)) (λ_ _ _ _ _=>gn 0) (λ_ _ _ _ _=>ZQ) (λ_ _ _ _ _=>Zz ZX (Zz ZS (vn 0) (vn 1)) (vn 2)))))))))),?_⟩
  have p2:=C.pr.p2;have m5:=ZkR C Pt;obtain⟨M,U,Y⟩:=ZmE (g:=gW t ω i) hS;have m6:=Zlu C Pt hi;have Mp:M<p:=by obtain⟨s',n9,_,e'⟩:=U;rw[<-e'];exact m6 s' n9
  have any:=ZmG C Pt m6 U Y;have m7:H oa=some (.lst (ZN m (Vc t p m e (lpA S (gW t ω i) 0)))):=by rw[Zkm];exact hO
  refine⟨_,rfl,_,rfl,_,rfl,_,rfl,_,rfl,ca,oa,m,0,p,VF t i,_,rfl,hC,m7,p2,pl,m5,by omega,Zk2 C _,λL1 H1 o5 s1 h1=>?_⟩;rw[Ze2 C Pt hi] at h1;refine Yn (λx j J=>∃(k:Nat) (l a:Addr),j=[some (.ref ca),some (.ref oa),some (.int (p:Nat)),some (.int (k:Nat)),some (.int (fcI p k)),some (.ref l),some (.ref a),none]/\Zw H J/\J l=some (.lst (ZN m (Vc t p m e (lpA S (gW t ω i) k))))/\J a=some (.lst (ZN m (Vc t p m e (lpA S (gW t ω i) (k+1)))))/\k<=M/\x=M-k)
   (λj J=>∃(l a:Addr),j=[some (.ref ca),some (.ref oa),some (.int (p:Nat)),some (.int (M:Nat)),some (.int (fcI p M)),some (.ref l),some (.ref a),none]/\Zw H J/\J l=some (.lst (ZN m (Vc t p m e (lpA S (gW t ω i) M))))) ?hend ⟨M,0,oa,L1,rfl,s1,s1 _ _ m7,h1,aU _,rfl⟩ ?turn
  case hend=>
   rintro j J ⟨l,a,rfl,sm,hl⟩;obtain⟨y0,y1,y2,y3⟩:=ZkG C Mp;refine⟨_,rfl,_,rfl,p,_,rfl,p2,pl,⟨y0,y1,y2,y3⟩,λy a1 a2 a3=>?_⟩;refine⟨_,rfl,l,rfl,⟨_,.of hl⟩,?_⟩;refine Y8 (YY (K:=K) (.of hl)) [some (.int (y:Nat)),some (.int (p:Nat))] rfl (λc=>V.int (Vc t p m e (Xa (J8 S (gW t ω i) M)) c)) (by rw[Ys];omega) (λc z hz H2 s2 R k2=>?_) (λD H2 nD s2 hD=>?_)
   ·have hc:c<m:=by
     have:=(ac.mp hz).1;rw[Ys] at this;exact this
    rw[JY _ hc] at hz;cases hz;refine⟨_,rfl,_,rfl,_,_,rfl,rfl,.inr ⟨by omega,by omega⟩,_,rfl,_,_,rfl,rfl,(by show (0:Int)<(p:Int);omega),?_⟩;have m8:=k2 H2 (Zw.refl _);rw[<-ZmF C Y a3 c] at m8;exact m8
   ·rw[Ys] at hD
    exact q D M H2 (sm.free nD) (sm.trans s2) U Y hD
  case turn=>
   rintro O x j J ⟨k,l,a,rfl,sm,hl,ha,kM,rfl⟩;have m9:=ha;rw[Ji] at m9;refine⟨_,rfl,a,_,rfl,.of m9,_,rfl,?_⟩;refine Z1 (λh2=>?_) (λh2=>?_)
   ·have:k+1<=M:=(any (k+1)).mp ((VI _ _).mp h2)
    have ek:(k:Int)+1=((k+1:Nat):Int):=by omega
    obtain⟨f0,f1⟩:=Zlx p2 k;refine⟨_,λ_ _ z=>z,_,rfl,_,rfl,_,_,rfl,rfl,_,rfl,_,rfl,_,_,rfl,rfl,.inl ⟨by omega,by omega⟩,_,rfl,_,_,rfl,rfl,(by show (0:Int)<(p:Int);omega),_,rfl,_,rfl,_,rfl,_,rfl,ca,a,m,k+1,p,VF t i,_,by rw[<-ek];rfl,hC.mono sm,ha,p2,pl,m5,by omega,Zk2 C _,λL2 H2 o6 s2 n6=>?_⟩;rw[Ze2 C Pt hi] at n6;exact⟨M-(k+1),by omega,k+1,a,L2,by rw[<-ek];rfl,sm.trans s2,s2 _ _ ha,n6,this,rfl⟩
   ·have:¬k+1<=M:=λz=>h2 ((VI _ _).mpr ((any (k+1)).mpr z))
    have e2:k=M:=by omega
    subst e2;exact O _ _ ⟨l,a,rfl,sm,hl⟩
end
def WJ (H:Hp)(a:Addr)(t:T9)(p m:Nat)(e:Nat->Nat->Nat)(cs:TN)(q:List (Nat->Bool)):Prop:=H a=some (.lst (cs.map V.ref))/\cs.length=q.length/\∀(j:Nat) b,cs[j]?=some b->∃S,q[j]?=some S/\H b=some (.lst (ZN m (Vc t p m e (Xa S))))
section
variable {t:T9}{p m:Nat}{e ω φ:Nat->Nat->Nat}
theorem WJ.mono {H q:Hp}{a:Addr}{cs:TN}{J:List (Nat->Bool)}(h:WJ H a t p m e cs J)(s:Zw H q):WJ q a t p m e cs J:=
 ⟨s _ _ h.1,h.2.1,λj b hb=>by
  obtain⟨S,M,O⟩:=h.2.2 j b hb;exact⟨S,M,s _ _ O⟩⟩
theorem WJ.push {H:Hp}{a c:Addr}{cs:TN}{q:List (Nat->Bool)}{S:Nat->Bool}(h:WJ H a t p m e cs q)(U:H c=some (.lst (ZN m (Vc t p m e (Xa S)))))(Y:∀(j:Nat) b,(cs++[c])[j]?=some b->b≠a):WJ (upd H a (.lst (cs.map V.ref++[.ref c]))) a t p m e (cs++[c]) (q++[S]):=by
 refine⟨by rw[Zu,aN];rfl,by rw[Zd,Zd,h.2.1];rfl,λj b hb=>?_⟩;have J:=Y j b hb;by_cases M:j<cs.length
 ·rw[ak M] at hb
  obtain⟨S',h1,h2⟩:=h.2.2 j b hb;exact⟨S',by rw[ak (by rw[<-h.2.1];exact M)];exact h1,by rw[Zy J];exact h2⟩
 ·have hl:=(ac.mp hb).1
  rw[Zd,Zk] at hl;have O:j=cs.length:=by omega
  rw[aq (by omega),O,cr] at hb;cases hb;refine⟨S,?_,by rw[Zy J];exact U⟩;rw[O,h.2.1,aq (Zq _),cr];rfl
end
theorem Zby {H:Hp}{a b:Addr}{xs:TL}{ys:TL}(j:H a=some (.lst xs))(q:H b=some (.lst ys))(h:xs≠ys):a≠b:=λz=>by
 rw[z,q] at j;injection j with j;injection j with j;exact h j.symm
theorem Uh {cs:TN}{m:Nat}{v:Nat->Int}(q:1<=m):cs.map V.ref≠ZN m v:=λz=>by
 have h:=congrArg (λl=>l[0]?) z;simp only[JY v (show 0<m by omega),Zc] at h;cases j:cs[0]? with
 |none=>rw[j] at h;cases h
 |some c=>rw[j] at h;cases h
inductive Za4 (vs:TL) (H:Hp) (Q:VK) (E03:XK):Prop
 |mk (ca oa:Addr) (t:T9) (p m:Nat) (e ω φ:Nat->Nat->Nat) (S:Nat->Bool) (i:Nat):(vs=[.ref ca,.ref oa,.int p])->(CD t p m e ω φ)->(PW t)->(i<m)->(p<=100000)->(LLs H ca m (VF t i))->(H oa=some (.lst (ZN m (Vc t p m e (Xa S)))))->(∀L cs Ss H',H L=none->Zw H H'->PtS m S (gW t ω i) Ss->WJ H' L t p m e cs Ss->Q (.ref L) H')->Za4 vs H Q E03
theorem Zjm {m:Nat}{S:Nat->Bool}{g:Nat->Nat}{j:List (Nat->Bool)}{R:Nat->Bool}(W:PtW m S g j R):j.length<=m:=by
 have:=L2.Z3 (j.map (pkS m)) (ae m) (Zas W.ne W.dj) (λx q=>by
  obtain⟨T,J,rfl⟩:=az.mp q;exact af.mpr (Xe (W.ne T J)).1)
 rwa [Za,Zg] at this
section
variable {P:Program}{w:World}{K:aa}{mg:TR}{base:Heap}
theorem ZhX {f:Addr}{fd:FuncData}(F:Wu K "parts_by" "parts_by" Zhd f fd)(T:Bl mg)(T5:BlT mg)(GL:Fn P w K mg base Z9 2 "last_part" ["columns", "one", "p"] ZdF):Z2 P w K mg base Z9 3 f fd ["columns", "one", "p"] Za4:=by
 refine F.ok (FS (N:=["columns", "one", "p", "parts", "rest", "part"])) (λvs H Q E h=>?_) (λp8 A o6 s H vs Q E hr h=>?_)
 ·obtain⟨ca,oa,t,p,m,e,ω,φ,S,i,rfl,_⟩:=h;rfl
 ·obtain⟨ca,oa,t,p,m,e,ω,φ,S,i,rfl,C,Pt,hi,pl,hC,hO,q⟩:=h
  refine⟨_,Zt (ZG 3 rfl (ZK Zs))
   (Zt (ZG 4 rfl (vn 1))
   (Zt (Yv ao (JM (cb (ZoS K rfl) T.any (pc (vn 4) Zs)))
    (Zt (ZG 5 rfl (Yz GL hr ZF (pc (vn 0) (pc (vn 4) (pc (vn 2) Zs)))))
    (Zt (Yq (Wh aG aO aS ZZ (vn 3) (pc (vn 5) Zs)))
    (Zx (Zg3 4 ["x", "y"] [2] ["x", "y", "p"] rfl rfl (ZlI K T5.zip (pc (vn 4) (pc (vn 5) Zs))) (λ_ _ _ _ _=>g2 K 0 1 rfl (gn 0) (gn 1)) (λ_ _ _ _ _=>ZQ) (λ_ _ _ _ _=>Zz ZX (Zz Wt (vn 0) (vn 1)) (vn 2)))))))
   (Zx (ZE (vn 3))))),?_⟩
  have p2:=C.pr.p2;have p9:=ZkR C Pt;have m1:=C.m1;have sz:=Ja;have o7:=Zlu C Pt hi;refine⟨WK,λL nL=>?_⟩;have s0:=Zw.upd (H:=H) (o:=.lst []) nL;have h0:upd H L (.lst []) L=some (.lst ([]:TL)):=Zu;generalize upd H L (.lst [])=H0 at s0 h0 ⊢;refine⟨_,rfl,?_⟩;refine Yn (λx U H'=>∃(cs:TN) (Y:List (Nat->Bool)) (R:Nat->Bool) (r:Addr) (v5:TK),U=[some (.ref ca),some (.ref oa),some (.int (p:Nat)),some (.ref L),some (.ref r),v5]/\Zw H H'/\WJ H' L t p m e cs Y/\PtW m S (gW t ω i) Y R/\H' r=some (.lst (ZN m (Vc t p m e (Xa R))))/\∀s,s<m->R s=true->gW t ω i s<x)
   (λU H'=>∃(cs:TN) (Y:List (Nat->Bool)) (r:Addr) (v5:TK),U=[some (.ref ca),some (.ref oa),some (.int (p:Nat)),some (.ref L),some (.ref r),v5]/\Zw H H'/\WJ H' L t p m e cs Y/\PtS m S (gW t ω i) Y) ?hend
   ⟨p,[],[],S,oa,none,rfl,s0,⟨h0,rfl,λj b hb=>by simp at hb⟩,.zero,s0 _ _ hO,λs hs _=>o7 s hs⟩ ?turn
  case hend=>
   rintro U H' ⟨cs,Y,r,v5,rfl,sm,hP,hS⟩;exact⟨_,rfl,q L cs Y H' nL sm hS hP⟩
  case turn=>
   rintro m7 x U H' ⟨cs,Y,R,r,v5,rfl,sm,hP,hW,hR,hx⟩;have m8:=hR;rw[Ji] at m8;refine⟨_,rfl,r,_,rfl,.of m8,_,rfl,?_⟩;refine Z1 (λh2=>?_) (λh2=>?_)
   ·have o8:=(Zfo C Pt R).mp ((VI _ _).mp h2)
    refine⟨_,λ_ _ z=>z,_,rfl,_,rfl,_,rfl,ca,r,t,p,m,e,ω,φ,R,i,rfl,C,Pt,hi,pl,hC.mono sm,hR,o8,λL2 M H2 r6 s2 g1 m9 m5=>?_⟩;have O:=hP.mono s2;have n6:=s2 _ _ hR;have sl:=Zjm hW;have m6:∀{b:Addr}{v:Nat->Int},H2 b=some (.lst (ZN m v))->b≠L:=λ{b v} hb=>Zby hb O.1 (Uh m1).symm;have n8:=O.push m5 (λj b hb=>by
     rcases bu.mp (av hb) with z|z
     ·obtain⟨j',o9⟩:=bx z
      obtain⟨S',_,p4⟩:=O.2.2 j' b o9;exact m6 p4
     ·rw[aM.mp z]
      exact m6 m5)
    refine⟨_,rfl,.inl ⟨rfl,_,.of O.1⟩,_,rfl,L,_,_,rfl,rfl,O.1,by rw[Za,O.2.1];omega,?_⟩;have sm3:Zw H (upd H2 L (.lst (cs.map V.ref++[.ref L2]))):=(sm.trans s2).updr nL;have n9:upd H2 L (.lst (cs.map V.ref++[.ref L2])) r=some (.lst (ZN m (Vc t p m e (Xa R)))):=by rw[Zy (m6 n6)];exact n6
    have o0:upd H2 L (.lst (cs.map V.ref++[.ref L2])) L2=some (.lst (ZN m (Vc t p m e (Xa (J8 R (gW t ω i) M))))):=by rw[Zy (m6 m5)];exact m5
    generalize upd H2 L (.lst (cs.map V.ref++[.ref L2]))=H3 at n8 sm3 n9 o0 ⊢;refine⟨_,rfl,_,rfl,r,L2,false,false,_,_,H3,rfl,.lst (.of n9),.lst (.of o0),Zw.refl _,λJ At S' p6=>?_⟩;refine Vm S' p6 (Zw.refl _) [some (.int (p:Nat))] rfl (λa b=>(a-b) % (p:Int)) (by omega) (λj H4 hj s4 R' g=>?_) (λD H4 nD s4 hD=>?_)
    ·exact⟨_,rfl,_,rfl,_,_,rfl,rfl,_,rfl,_,_,rfl,rfl,(by show (0:Int)<(p:Int);omega),g⟩
    ·have e5:(ZN m λj=>(Vc t p m e (Xa R) j-Vc t p m e (Xa (J8 R (gW t ω i) M)) j) % (p:Int))=ZN m (Vc t p m e (Xa (ZbF R (gW t ω i) M))):=Wq λc _=>ZmH m9 c
     rw[e5] at hD;refine⟨M,?_,cs++[L2],Y++[J8 R (gW t ω i) M],ZbF R (gW t ω i) M,D,_,rfl,sm3.trans s4,n8.mono s4,hW.step g1 m9,hD,λs' o5 q'=>?_⟩
     ·obtain⟨s',o5,a,b⟩:=g1
      rw[<-b];exact hx s' o5 a
     ·unfold ZbF at q'
      rw[ah,decide_eq_true_eq] at q';exact q'.2
   ·have p7:¬ ∃s,s<m/\R s=true:=λz=>h2 ((VI _ _).mpr ((Zfo C Pt R).mpr z))
    exact m7 _ _ ⟨cs,Y,r,v5,rfl,sm,hP,hW.end p7⟩
end
structure KS (kvs:List (YQ×V))(ks:TY):Prop where
 keys:kvs.map (·.1)=ks.map λa:Nat=>(iH (a:Int):YQ)
 nd:ks.Nodup
theorem KS.nil:KS [] []:=⟨rfl,fZ⟩
theorem KS.len {j:List (YQ×V)}{q:TY}(h:KS j q):j.length=q.length:=by
 have:=congrArg a6 h.keys;rwa [Za,Za] at this
theorem KS.some {j:List (YQ×V)}{q:TY}(h:KS j q)(a:Nat):(Wg j (.inl (a:Int))).isSome=q.contains a:=by
 rw[<-WR];have e:(j.any λM=>decide (M.1=(.inl (a:Int):YQ)))=(j.map (·.1)).any λk=>decide (k=(.inl (a:Int):YQ)):=by rw[ic];rfl
 rw[e,h.keys,ic];by_cases hm:a∈q
 ·rw[ay.mpr hm,aZ]
  exact⟨a,hm,by simp⟩
 ·have J:q.contains a=false:=by
   cases J:q.contains a with
   |false=>rfl
   |true=>exact absurd (ay.mp J) hm
  rw[J,mI];intro b hb z;have z:=of_decide_eq_true z;injection z with z;have:b=a:=by omega
  exact hm (this▸hb)
theorem KS.put {j:List (YQ×V)}{q:TY}(h:KS j q)(a:Nat)(v:V):KS (Jc j (.inl (a:Int)) v) (if q.contains a then q else q++[a]):=by
 have M:=h.some a;by_cases J:q.contains a=true
 ·rw[if_pos J]
  rw[J] at M;refine⟨?_,h.nd⟩;unfold Jc;rw[if_pos (by rw[WR];exact M),aC,<-h.keys];refine aQ λO _=>?_;show (if O.1=_ then (O.1,v) else O).1=O.1
  split <;> rfl
 ·rw[if_neg J]
  have U:Wg j (.inl (a:Int))=none:=by
   cases Y:Wg j (.inl (a:Int)) with
   |none=>rfl
   |some x=>rw[Y] at M;exact absurd M.symm J
  rw[ZhH v U];refine⟨by rw[aN,aN,h.keys];rfl,?_⟩;rw[mH];refine⟨h.nd,by simp,λb hb c hc z=>J ?_⟩;rw[aM.mp hc] at z;exact ay.mpr (z▸hb)
theorem ZjL {j:TY}{a b:Nat}:b∈(if j.contains a then j else j++[a])↔b∈j\/b=a:=by
 split
 ·rename_i h
  exact⟨.inl,λz=>z.elim id λe=>by rw[e];exact ay.mp h⟩
 ·rw[bu,aM]
theorem ZjM (j:TY)(a:Nat):(if j.contains a then j else j++[a]).length<=j.length+1:=by
 split
 ·omega
 ·rw[Zd,Zk];exact Zq _
inductive WP (vs:TL) (H:Hp) (Q:VK) (E03:XK):Prop
 |mk (g:Addr) (t:T9):(vs=[.ref g])->(GT H g t)->(PW t)->(∀c H',Zw H H'->CT H' c (ZC t t.length)->Q (.ref c) H')->WP vs H Q E03
theorem _root_.Pm.TupsAt.updD {H:Hp}{L D:Addr}{bs:TN}{yss:T9}{j:List (YQ×V)}{o:HO}(q:H D=some (.dK j))(R:TupsAt H L bs yss):TupsAt (upd H D o) L bs yss:=by
 refine⟨?_,R.2.1,λi b hb=>?_⟩
 ·rw[Zy λz=>by have:=R.1;rw[z,q] at this;cases this]
  exact R.1
 ·rw[Zy λz=>by have:=R.2.2 i b hb;rw[z,q] at this;cases this]
  exact R.2.2 i b hb
theorem _root_.Pm.TupsAt.last {H:Hp}{L r:Addr}{bs:TN}{yss:T9}{ys:TY}(R:TupsAt H L (bs++[r]) (yss++[ys])):H r=some (.tup (ys.map nV)):=by
 have j:=R.2.1;rw[Zd,Zd,Zk,Zk] at j;have:=R.2.2 bs.length r (by rw[aq (Zq _),cr];rfl);rw[Zb,aq (by omega),show bs.length-yss.length=0 by omega] at this;exact this
theorem ZoF {H:Hp}{L c:Addr}{bs:TN}{yss:T9}(R:TupsAt H L bs yss)(j:H c=none):CT (upd H c (.tup (bs.map V.ref))) c yss:=⟨bs,Zu,R.2.1,λi r q=>Zw.upd j _ _ (R.2.2 i r q)⟩
section
variable {P:Program}{w:World}{K:aa}{mg:TR}{base:Heap}
theorem ZdY {f:Addr}{fd:FuncData}(F:Wu K "classes_of" "classes_of" Uc f fd)(T:Bl mg)(GN:Fn P w K mg base Z9 3 "turnings" ["group", "b"] Xk):Z2 P w K mg base Z9 4 f fd ["group"] WP:=by
 refine F.ok (FS (N:=["group", "found", "seen", "b", "a"])) (λvs H Q E h=>?_) (λn8 A n9 s H vs Q E hr h=>?_)
 ·obtain⟨g,t,rfl,_⟩:=h;rfl
 ·obtain⟨g,t,rfl,G,Pt,q⟩:=h
  have hu:(A.deeper (envOfC "classes_of" (Z5 Uc) s.heap.objs.size f n8)).units+1<cLine:=by have:=hr.un;omega
  refine⟨_,Zt (ZG 1 rfl (ZK Zs))
   (Zt (ZG 2 rfl ZcH)
   (Zt (ZV ao rfl (J9 T.range (pc (cb (Yr K) T.len (pc (vn 0) Zs)) Zs)) (gn 3)
    (Zx (Yx (ZhI (Zau hu (vn 3) (vn 2)))
     (Zt (Yq (Wh aG aO aS ZZ (vn 1) (pc (Yz GN hr ZF (pc (vn 0) (pc (vn 3) Zs))) Zs)))
     (Zx (ZV ao rfl (itT K (ZB (WB K) (vn 1) (Xf W9 Zv) (λ_ _=>rfl))) (gn 4) (Zx (XR hu (vn 2) (vn 4) Jk (by rfl)))))) ZT)))
   (Zx (ZE (ct ZL T.tuple (pc (vn 1) Zs)))))),?_⟩
  have sz:=Ja;have o8:=Pt.n60;refine⟨WK,λL nL=>λD nD=>?_⟩;have s1:=Zw.upd (H:=H) (o:=.lst []) nL;have s2:=s1.trans (Zw.upd (o:=.dK []) nD);have o0:H D=none:=s1.free nD;obtain⟨gs,u1,u2,_⟩:=id (G.mono s2);have el:(gs.map V.ref).length=t.length:=by rw[Za,u2]
  refine⟨_,rfl,g,_,rfl,.inr (.of u1),_,rfl,by rw[el];omega,by rw[el];omega,?_⟩;rw[el,Zj];refine YD (λi M H'=>∃(w3 w4:TK) (bs:TN) (J:List (YQ×V)) (ks:TY),M=[some (.ref g),some (.ref L),some (.ref D),w3,w4]/\Zw H H'/\TupsAt H' L bs (ZC t i)/\H' D=some (.dK J)/\KS J ks/\(∀a,a∈ks↔Yu (ZC t i) a=true)/\ks.length<=60*i)
   ⟨_,_,[],[],[],rfl,s2,⟨Zw.upd nD _ _ Zu,rfl,λi b hb=>by cases hb⟩,Zu,.nil,λa=>⟨λz=>(by cases z),λz=>(by cases z)⟩,Zq _⟩ ?_ ?_
  ·rintro i M H3 hi ⟨w3,w4,bs,J,ks,rfl,s3,R,hD,hK,Y,kl⟩
   rw[show (0:Int)+(i:Int)=(i:Int) by omega];refine⟨_,rfl,_,rfl,D,_,rfl,Xb.k (k:=.inl (i:Int)) hD,_,rfl,?_⟩;have m8:(Wg J (.inl (i:Int))).isSome=Yu (ZC t i) i:=by
    rw[hK.some];cases hc:Yu (ZC t i) i with
    |true=>exact ay.mpr ((Y i).mpr hc)
    |false=>
     cases o5:ks.contains i with
     |false=>rfl
     |true=>rw[(Y i).mp (ay.mp o5)] at hc;cases hc
   rw[m8];refine Z1 (λh=>?_) (λh=>?_)
   ·have h:Yu (ZC t i) i=false:=by simpa using h
    have eU:ZC t (i+1)=ZC t i++[ZU t i]:=by
     rw[ZC,if_neg (by unfold Yu at h;rw[h];decide)]
    refine⟨_,rfl,.inl ⟨rfl,_,.of R.1⟩,_,rfl,_,rfl,g,t,i,rfl,G.mono s3,Pt,hi,λr H4 s4 o6=>?_⟩;have R4:=R.mono s4;have bl:=R4.2.1;have ul:=Wn (t:=t) i;refine⟨L,_,_,rfl,rfl,R4.1,by rw[Za];omega,?_⟩;have R5:=R4.push o6;have m9:upd H4 L (.lst (bs.map V.ref++[.ref r])) D=some (.dK J):=by
     rw[Zy λz=>by have:=s4 _ _ hD;rw[z,R4.1] at this;cases this];exact s4 _ _ hD
    have s5:Zw H (upd H4 L (.lst (bs.map V.ref++[.ref r]))):=(s3.trans s4).updr nL;refine⟨_,rfl,_,rfl,L,_,_,_,rfl,rfl,.of Zu,UX _ _,r,rfl,⟨_,.of R5.last⟩,?_⟩;generalize upd H4 L (.lst (bs.map V.ref++[.ref r]))=H5 at R5 m9 s5 ⊢;have cl:=ZbY (t:=t) i;refine Ze9 (K:=K) (a:=r) (xs:=(ZU t i).map nV) (λj M H'=>∃(w4:TK) (J:List (YQ×V)) (O:TY),M=[some (.ref g),some (.ref L),some (.ref D),some (.int (i:Nat)),w4]/\Zw H H'/\TupsAt H' L (bs++[r]) (ZC t i++[ZU t i])/\H' D=some (.dK J)/\KS J O/\(∀a,a∈O↔a∈ks\/a∈(ZU t i).take j)/\O.length<=60*i+j)
     ⟨_,J,ks,rfl,s5,R5,m9,hK,λa=>⟨.inl,λz=>z.elim id λz=>by rw[eX] at z;cases z⟩,kl⟩ (λj M H' _ h=>by
      obtain⟨_,_,_,_,_,R',_⟩:=h;exact .of R'.last) ?_ ?_
    ·rintro j y M H6 hy ⟨o7,m7,O,rfl,s6,R6,m5,m6,U,n6⟩
     obtain⟨k,hk,rfl⟩:=Uu hy;have hj:j<(ZU t i).length:=(ac.mp hk).1;refine⟨_,rfl,_,rfl,D,_,rfl,Zae.k (k:=.inl (k:Int)) m5 (by rw[m6.len];omega),?_⟩;refine⟨_,_,_,rfl,s6.updr o0,R6.updD m5,Zu,m6.put k (.bl true),λa=>?_,?_⟩
     ·rw[ZjL,U,cx,hk,bu]
      show _↔a∈ks\/a∈(ZU t i).take j\/a∈[k];rw[aM];exact⟨λz=>z.elim (λz=>z.elim .inl λz=>.inr (.inl z)) λz=>.inr (.inr z),λz=>z.elim (λz=>.inl (.inl z)) λz=>z.elim (λz=>.inl (.inr z)) .inr⟩
     ·have:=ZjM O k
      omega
    ·rintro M H6 ⟨o7,m7,O,rfl,s6,R6,m5,m6,U,n6⟩
     rw[Za] at U n6;refine⟨_,_,bs++[r],m7,O,rfl,s6,by rw[eU];exact R6,m5,m6,λa=>?_,by omega⟩;rw[U,cD,Y a,eU];unfold Yu;rw[iq,bi,eE,kH,fu,ay]
   ·have h:Yu (ZC t i) i=true:=by simpa using h
    have eU:ZC t (i+1)=ZC t i:=by
     rw[ZC,if_pos (by unfold Yu at h;rw[h])]
    exact⟨_,_,bs,J,ks,rfl,s3,by rw[eU];exact R,hD,hK,λa=>by rw[eU];exact Y a,by omega⟩
  ·rintro M H3 ⟨w3,w4,bs,J,ks,rfl,s3,R,hD,hK,Y,kl⟩
   exact⟨_,rfl,L,_,rfl,.inl ⟨.of R.1,λc nc=>q c _ (s3.trans (Zw.upd nc)) (ZoF R nc)⟩⟩
end
noncomputable abbrev Zlb:Stmt:=top 4
noncomputable abbrev Zcn:Stmt:=top 13
def VU (j:T9):Nat->Nat->Nat
 |0,_=>0
 |k+1,a=>if (j.getD k []).contains a then k else VU j k a
inductive ZdH (vs:TL) (H:Hp) (Q:VK) (E03:XK):Prop
 |mk (c:Addr) (css:T9) (n:Nat):(vs=[.ref c,.int n])->(CT H c css)->((∀row∈css,∀a∈row,a<n))->(n<=60)->(css.length<=60)->(∀r H',Zw H H'->H' r=some (.tup ((Yl n (VU css css.length)).map nV))->Q (.ref r) H')->ZdH vs H Q E03
inductive Za5 (vs:TL) (H:Hp) (Q:VK) (E03:XK):Prop
 |mk (g:Addr) (t:T9):(vs=[.ref g])->(GT H g t)->(PW t)->(∀r H',Zw H H'->H' r=some (.tup ((Yl t.length (VU (ZC t t.length) (ZC t t.length).length)).map nV))->Q (.ref r) H')->Za5 vs H Q E03
inductive Za0 (vs:TL) (H:Hp) (Q:VK) (E03:XK):Prop
 |mk (g:Addr) (t:T9):(vs=[.ref g])->(GT H g t)->(PW t)->(∀r H',Zw H H'->H' r=some (.tup (((ZC t t.length).map a6).map nV))->Q (.ref r) H')->Za0 vs H Q E03
def Zc0 (H:Hp):V->V
 | .ref r=>match H r with
  |some (.tup j)=>.int (j.length:Nat)
  |_=>.non
 |_=>.non
section
variable {P:Program}{w:World}{K:aa}{mg:TR}{base:Heap}
theorem Zj8 {f:Addr}{fd:FuncData}(F:Wu K "holders" "holders" Zlb f fd)(T:Bl mg)(T2:Zaf mg):Z2 P w K mg base Z9 1 f fd ["bundles", "count"] ZdH:=by
 refine F.ok (FS (N:=["bundles", "count", "numbers", "k", "members", "a"])) (λvs H Q E h=>?_) (λo5 A m9 s H vs Q E hr h=>?_)
 ·obtain⟨c,J,n,rfl,_⟩:=h;rfl
 ·obtain⟨c,J,n,rfl,C,n6,n60,o6,q⟩:=h
  refine⟨_,Zt (ZG 2 rfl (Zz Xn (ZK (pc Zv Zs)) (vn 1)))
   (Zt (ZV ao rfl (UF K T2.enumerate (pc (vn 0) Zs)) (g2 K 3 4 rfl (gn 3) (gn 4))
    (Zx (ZV ao rfl (itT K (vn 4)) (gn 5) (Zx (Js (vn 3) (Jt (vn 2) (vn 5) YB))))))
   (Zx (ZE (ct ZL T.tuple (pc (vn 2) Zs))))),?_⟩
  have sz:=Ja;obtain⟨rs,c1,c2,c3⟩:=C.row;refine⟨WK,λl0 n8=>⟨_,rfl,l0,_,_,rfl,rfl,Zu,by omega,by omega,by show 1*((n:Int)).toNat<=sizeLine;omega,λL nL=>?_⟩⟩;rw[Zj];have s1:=Zw.upd (H:=H) (o:=.lst [.int 0]) n8;have n9:H L=none:=s1.free nL;have e0:(aw n [V.int 0]).flatten=(Yl n (VU J 0)).map nV:=by
   unfold Yl;rw[aC];have:∀m k,(aw m [V.int 0]).flatten=(c9 k m).map λ_=>nV 0:=λm=>by
    induction m with
    |zero=>intro k;rfl
    |succ m ih=>intro k;rw[bf,ce,ih (k+1),dW,aB];rfl
   rw[this n 0,<-dS];rfl
  rw[e0];have s2:=s1.trans (Zw.upd (o:=.lst ((Yl n (VU J 0)).map nV)) nL);refine⟨_,rfl,c,rfl,.inr ⟨⟨_,.of (s2 _ _ c1)⟩,?_⟩⟩;refine WY (ZbQ (K:=K) (xs:=rs.map V.ref)) (λi M H'=>∃v3 v4 v5:TK,M=[some (.ref c),some (.int (n:Nat)),some (.ref L),v3,v4,v5]/\Zw H H'/\H' L=some (.lst ((Yl n (VU J i)).map nV)))
   ⟨_,_,_,rfl,s2,Zu⟩ (λi M H' h=>by
    obtain⟨_,_,_,_,sm,_⟩:=h;exact sm.tup (.of c1)) ?_ ?_
  ·rintro i y M H3 T' hy ⟨v3,v4,v5,rfl,s3,O⟩ nT
   obtain⟨r,rfl,hi,U⟩:=c3 i y hy;have s4:=Zw.upd (H:=H3) (o:=.tup [.int (i:Nat),.ref r]) nT;refine⟨T',_,rfl,.of Zu,rfl,_,_,rfl,_,_,rfl,rfl,?_⟩;generalize upd H3 T' (.tup [.int (i:Nat),.ref r])=H4 at s4 ⊢;have m6:=(s3.trans s4) _ _ U;have hm:J.getD i []∈J:=by
    rw[Zb,Zf hi];exact bh hi
   have m5:=n6 _ hm;generalize m7:J.getD i []=row at U m6 m5;refine⟨_,rfl,r,rfl,⟨_,.of m6⟩,?_⟩;refine Ze9 (K:=K) (a:=r) (xs:=row.map nV) (λj M H'=>∃v5:TK,M=[some (.ref c),some (.int (n:Nat)),some (.ref L),some (.int (i:Nat)),some (.ref r),v5]/\Zw H H'/\H' L=some (.lst ((Yl n λa=>if (row.take j).contains a then i else VU J i a).map nV)))
    ⟨_,rfl,s3.trans s4,by
     have e:(Yl n λa=>if ((row.take 0).contains a)=true then i else VU J i a)=Yl n (VU J i):=Ws λa _=>by rw[eX];rfl
     rw[e];exact s4 _ _ O⟩ (λj M H' _ h=>by
     obtain⟨_,_,sm,_⟩:=h;exact .of (sm _ _ (by rw[<-m7] at U ⊢;exact U))) ?_ ?_
   ·rintro j y M H5 hy ⟨o0,rfl,s5,Y⟩
    obtain⟨k,hk,rfl⟩:=Uu hy;have m8:k<n:=m5 k (av hk);refine⟨_,rfl,_,rfl,_,rfl,L,_,_,k,rfl,rfl,Y,Wy (by rw[Za,Zct];exact m8),?_⟩;refine⟨_,rfl,s5.updr n9,?_⟩;rw[Zu];have e:=Zcs (k:=i) (λa=>if ((row.take j).contains a)=true then i else VU J i a) m8
    have e2:(Yl n λb=>if b=k then i else if ((row.take j).contains b)=true then i else VU J i b)=Yl n λa=>if ((row.take (j+1)).contains a)=true then i else VU J i a:=Ws λa _=>by
     rw[cx,hk];by_cases h1:a=k
     ·subst h1
      rw[if_pos rfl,if_pos (ay.mpr (aT _ (by simp)))]
     ·rw[if_neg h1]
      by_cases h2:a∈row.take j
      ·rw[if_pos (ay.mpr h2),if_pos (ay.mpr (bN _ h2))]
      ·rw[if_neg (λz=>h2 (ay.mp z)),if_neg (λz=>?_)]
       rcases bu.mp (ay.mp z) with z|z
       ·exact h2 z
       ·exact h1 (by simpa using z)
    rw[e2] at e;exact congrArg (λxs=>some (HO.lst xs)) e
   ·rintro M H5 ⟨o0,rfl,s5,Y⟩
    refine⟨_,_,_,rfl,s5,?_⟩;rw[Za] at Y;rw[Y];have e:(Yl n λa=>if ((row.take row.length).contains a)=true then i else VU J i a)=Yl n (VU J (i+1)):=Ws λa _=>by
     rw[cD,VU,m7]
    rw[e]
  ·rintro M H3 ⟨v3,v4,v5,rfl,s3,O⟩
   rw[Za,c2] at O;exact⟨_,rfl,L,_,rfl,.inl ⟨.of O,λr nr=>q r _ (s3.trans (Zw.upd nr)) Zu⟩⟩
theorem ZkQ {t:T9}(j:PW t):∀row∈ZC t t.length,∀a∈row,a<t.length:=λrow q a J=>by
 obtain⟨b,_,rfl⟩:=W6 j t.length (Zq _) row q;exact Xq J
theorem Zj4 {f:Addr}{fd:FuncData}(F:Wu K "class_numbers" "class_numbers" Zcn f fd)(T:Bl mg)(Y:Fn P w K mg base Z9 4 "classes_of" ["group"] WP)(GH:Fn P w K mg base Z9 1 "holders" ["bundles", "count"] ZdH):Z2 P w K mg base Z9 5 f fd ["group"] Za5:=by
 refine F.ok (FS (N:=["group"])) (λvs H Q E h=>?_) (λm5 A j s H vs Q E O h=>?_)
 ·obtain⟨g,t,rfl,_⟩:=h;rfl
 ·obtain⟨g,t,rfl,G,J,q⟩:=h
  refine⟨_,Zx (ZE (Yz GH O ZF (pc (Yz Y O ZF (pc (vn 0) Zs)) (pc (cb (Yr K) T.len (pc (vn 0) Zs)) Zs)))),?_⟩;have n60:=J.n60;refine⟨_,rfl,g,t,rfl,G,J,λc H' U C=>?_⟩;obtain⟨gs,u1,u2,_⟩:=id (G.mono U);have el:(gs.map V.ref).length=t.length:=by rw[Za,u2]
  refine⟨_,rfl,g,_,rfl,.inr (.of u1),?_⟩;rw[el];exact⟨c,_,t.length,rfl,C,ZkQ J,n60,aW (Wn _) n60,λr H2 s2 M=>q r H2 (U.trans s2) M⟩
theorem Zkp {H:Hp}{rs:TN}{j:T9}(O:rs.length=j.length)(h:∀(i:Nat) y,(rs.map V.ref)[i]?=some y->∃r,y=.ref r/\i<j.length/\H r=some (.tup ((j.getD i []).map nV))):(rs.map V.ref).map (Zc0 H)=(j.map a6).map nV:=by
 refine aY λi=>?_;rw[Zc];by_cases q:i<j.length
 ·obtain⟨r,J,_,M⟩:=h i _ (Zf (show i<(rs.map V.ref).length by rw[Za];omega))
  rw[Zf (show i<(rs.map V.ref).length by rw[Za];omega),J,Zc,Zc,Zf q];show some (Zc0 H (.ref r))=some (nV j[i].length);unfold Zc0
  try dsimp only
  rw[M]
  try dsimp only
  rw[Za,Zb,Zf q];rfl
 ·rw[ag (by rw[Za];omega),ag (by rw[Za,Za];omega)]
  rfl
end
end C55
namespace Tb
def rdT (t:T9)(a:Nat):Nat:=(((ae t.length).find? λr=>it t a (r+1) == 0).getD 0)+1
theorem Zbq {t:T9}{a r:Nat}(R:Rd t a r):rdT t a=r:=by
 have q:=R.r1;have:(ae t.length).find? (λr=>it t a (r+1) == 0)=some (r-1):=by
  rw[List.find?_range_eq_some];refine⟨by rw[show r-1+1=r by omega,R.z];rfl,af.mpr (by have:=R.rn;omega),λj J=>?_⟩;have:=R.nz (j+1) (by omega) (by omega);simpa using this
 unfold rdT;rw[this];show r-1+1=r;omega
section
variable {t:T9}
theorem Zij (P:PW t){a s:Nat}(j:a<t.length)(q:s<t.length):∀k,it t (tb t a s) k=tb t (it t a k) s
 |0=>(J0 P q).symm
 |k+1=>by
  rw[it,it,Zij P j q k,Zdy P q (WX P j k) j]
theorem Zpt (P:PW t){x s:Nat}(J:x<t.length)(j:s<t.length):tb t x s=0↔x=0:=by
 have M:=P.n1;constructor
 ·intro h
  have q:=VJ P J j;rw[h,P.oneR _ (Yp P j).1,ZaR P j] at q;exact q.symm
 ·rintro rfl
  exact J0 P j
theorem Zl8 (P:PW t){a s:Nat}(q:a<t.length)(J:s<t.length):rdT t (tb t a s)=rdT t a:=by
 unfold rdT;have j:(λr=>it t (tb t a s) (r+1) == 0)=λr=>it t a (r+1) == 0:=funext λr=>?_
 ·rw[j]
 have h:=Zij P q J (r+1);have M:=Zpt P (WX P q (r+1)) J;rw[h];cases O:(it t a (r+1) == 0) with
 |true=>
  have:it t a (r+1)=0:=by simpa using O
  simpa using M.mpr this
 |false=>
  have:it t a (r+1)≠0:=by simpa using O
  have:tb t (it t a (r+1)) s≠0:=λz=>this (M.mp z);simpa using this
end
end Tb
namespace C55
open PySem L2 PySem.Spec PyProof.Rows
open Tb Pm
theorem Zit {j:T9}{a q:Nat}(M:(j.getD q []).contains a=true)(O:∀k,k<j.length->(j.getD k []).contains a=true->k=q):∀m,m<=j.length->q<m->VU j m a=q
 |0,_,h=>by omega
 |m+1,hm,h=>by
  unfold VU;split
  ·rename_i J
   exact O m (by omega) J
  ·rename_i J
   refine Zit M O m (by omega) ?_;by_cases e:q=m
   ·subst e;exact absurd M J
   ·omega
theorem ZiT {t:T9}(U:PW t){a:Nat}(Y:a<t.length):∃j,j<(ZC t t.length).length/\((ZC t t.length).getD j []).contains a=true/\∀k,k<(ZC t t.length).length->((ZC t t.length).getD k []).contains a=true->k=j:=by
 have h:=WZ U t.length (Zq _) a Y;unfold Yu at h;obtain⟨c,hc,q⟩:=aZ.mp h;obtain⟨j,J⟩:=bx hc;have hl:=(ac.mp J).1;have e:(ZC t t.length).getD j []=c:=by rw[Zb,J];rfl
 refine⟨j,hl,by rw[e];exact q,λk M O=>?_⟩;have e2:(ZC t t.length)[k]?=some ((ZC t t.length).getD k []):=by rw[Zb,Zf M];rfl
 exact X4 U t.length (Zq _) k j _ c a e2 J (ay.mp O) (ay.mp q)
noncomputable abbrev ZeB:Stmt:=top 15
def JO (t:T9)(a:Nat):Nat:=VU (ZC t t.length) (ZC t t.length).length a
theorem Vf {t:T9}(M:PW t){a:Nat}(O:a<t.length):JO t a<(ZC t t.length).length/\a∈(ZC t t.length).getD (JO t a) []/\∀k,k<(ZC t t.length).length->a∈(ZC t t.length).getD k []->k=JO t a:=by
 obtain⟨U,j,q,J⟩:=ZiT M O;have e:JO t a=U:=Zit q J _ (Zq _) j;rw[e];exact⟨j,ay.mp q,λk Y hm=>J k Y (ay.mpr hm)⟩
theorem ZjC {t:T9}(J:PW t){k a:Nat}(U:k<(ZC t t.length).length)(M:a∈(ZC t t.length).getD k []):a<t.length/\JO t a=k/\∀x,x∈(ZC t t.length).getD k []↔x∈ZU t a:=by
 obtain⟨b,hb,e⟩:=W6 J t.length (Zq _) _ (ZeE U);rw[e] at M ⊢;have q:=Xq M;refine⟨q,((Vf J q).2.2 k U (by rw[e];exact M)).symm,λx=>⟨λO=>?_,λO=>?_⟩⟩
 ·have j:=Xq O
  exact Yg J q j (Yg J q hb (YE J q) M) (Yg J j hb (YE J j) O)
 ·have j:=Xq O
  exact Yg J hb j M (Yg J j q (YE J j) O)
theorem Zho {t:T9}(j:PW t){k:Nat}(J:k<(ZC t t.length).length):∃a r,(ZC t t.length).getD k []=a::r:=by
 obtain⟨b,hb,e⟩:=W6 j t.length (Zq _) _ (ZeE J);have q:=YE j hb;rw[e];cases h:ZU t b with
 |nil=>rw[h] at q;cases q
 |cons a r=>exact⟨a,r,rfl⟩
end C55
namespace C55
open PySem L2 PySem.Spec PyProof.Rows
open Tb
open Pm
theorem Ziw {X:Cx}:Znk X (λx y H Q=>∃(p:Addr) (xs:TL) (i:Nat) (v:V),x=.ref p/\y=.int i/\H p=some (.lst xs)/\xs[i]?=some v/\Q v H):=by
 intro J s σ H x y O iv Q I U Y h;obtain⟨p,xs,i,v,rfl,rfl,hp,M,q⟩:=h;cases (show O=aK p from U);obtain⟨t,rfl⟩:=Y;obtain⟨m5,r,pl,hz⟩:=I.list (.of hp);obtain⟨w,ew,j⟩:=r.get M;have hl:=r.length;have hn:=Xp;have hi:i<xs.length:=(ac.mp M).1;exact wpAny_getItem_list pl.isList (dB _) (by omega) (by simpa using ew) ⟨v,H,I,j,q⟩
theorem Y7 {W:Type}(m7:W->Addr)(Pr:Nat->W->Hp->Prop)(U:W->Hp->Prop){J:It}{own:List Str}{m6:TY}{te:TE}{σ:L2.St}{H:Hp}{Q:VK}{xs:TL}(S:WA J H xs)(cs:L2.St)(n6:JG own m6 σ=none::cs)(hn:xs.length<=1000)
  (mono:∀i w H q,Zw H q->Pr i w H->Pr i w q) (m9:∀w H q,Zw H q->U w q->U w H) (hu:∀i w H0 H1 D o ys n8,Pr i w H1->U w H0->H0 D=some (.lst o)->H1 D=some (.lst ys)->Pr i w (upd H1 D (.lst n8)))
  (hs:∀(i:Nat) y,xs[i]?=some y->∀q,Zw H q->∀R:VK,(∀w Y,Zw q Y->Pr i w Y->U w q->R (.ref (m7 w)) Y)->te (some y::cs) q R)
  (hd:∀D (M:List W) q,H D=none->Zw H q->q D=some (.lst (M.map λw=>V.ref (m7 w)))->M.length=xs.length->(∀(i:Nat) w,M[i]?=some w->Pr i w q/\U w H)->(∀(i j:Nat) w w',i<j->M[i]?=some w->M[j]?=some w'->∃Hm,Pr i w Hm/\U w' Hm)->Q (.ref D) q):W0 own m6 (Yc 0) WF te σ Q J H:=by
 refine UK (xs:=xs) (λD i ys q=>Zw H q/\∃M:List W,ys=M.map (λw=>V.ref (m7 w))/\M.length=i/\(∀(i:Nat) w,M[i]?=some w->Pr i w q/\U w H/\∃H0 o,H0 D=some (.lst o)/\U w H0)/\(∀(i j:Nat) w w',i<j->M[i]?=some w->M[j]?=some w'->∃Hm,Pr i w Hm/\U w' Hm)) cs n6 (by omega) ?_ ?_ ?_ ?_
 ·intro D i ys q hD O p
  have S':=S.mono p.1;exact⟨λhi=>⟨S'.go i q (Zw.refl _) hi,λx H3 y=>S'.yld i q x H3 (Zw.refl _) hi y⟩,λe=>e▸S'.stop q (Zw.refl _)⟩
 ·intro D hD
  exact⟨Zw.upd hD,[],rfl,rfl,(λi w hw=>by cases hw),(λi j w w' _ h=>by cases h)⟩
 ·rintro D i y ys q hD O hy ⟨sm,M,rfl,wl,hw,hp⟩ R k
  refine hs i y hy q sm R λw Y s5 p5 n5=>?_;have m8:=s5 _ _ O;have lst:∀(b:Nat) v,(M++[w])[b]?=some v->(b<M.length/\M[b]?=some v)\/(b=M.length/\v=w):=λb v hb=>by
   by_cases m5:b<M.length
   ·rw[ak m5] at hb
    exact .inl ⟨m5,hb⟩
   ·rw[aq (by omega)] at hb
    have n9:b-M.length=0:=by
     apply aj;intro z;rw[ag (by rw[Zk];omega)] at hb;cases hb
    rw[n9] at hb;cases hb;exact .inr ⟨by omega,rfl⟩
  refine k _ Y m8 ⟨(sm.trans s5).updr hD,M++[w],by rw[aN];rfl,by rw[Zd,wl];rfl,λb v hv=>?_,λa b v v' o0 ha hb=>?_⟩
  ·rcases lst b v hv with ⟨_,hv⟩|⟨hb,hv⟩
   ·obtain⟨h1,h2,H0,o,h3,h4⟩:=hw b v hv
    exact⟨hu b v H0 Y D o _ _ (mono b v _ _ s5 h1) h4 h3 m8,h2,H0,o,h3,h4⟩
   ·subst hv
    subst hb;rw[<-wl] at p5;exact⟨hu _ v q Y D _ _ _ p5 n5 O m8,m9 v _ _ sm n5,q,_,O,n5⟩
  ·rcases lst b v' hb with ⟨m5,hb⟩|⟨m5,hb⟩
   ·rw[ak (by omega)] at ha
    exact hp a b v v' o0 ha hb
   ·subst hb
    rw[ak (by omega)] at ha;exact⟨q,(hw a v ha).1,n5⟩
 ·rintro D ys Y hD O o5 ⟨sm,M,rfl,wl,hw,hp⟩
  exact hd D M Y hD sm O wl (λi w h=>⟨(hw i w h).1,(hw i w h).2.1⟩) hp
structure N3 (Hb H:Hp)(L:Addr)(m:Nat)(A:Nat->Addr)(B:Nat->Nat->Addr)(f:Nat->Nat->Nat->Nat):Prop where
 sm:Zw Hb H
 m1:1<=m
 top:H L=some (.lst ((ae m).map λi=>V.ref (A i)))
 mid:∀i,i<m->H (A i)=some (.lst ((ae m).map λj=>V.ref (B i j)))
 low:∀i j,i<m->j<m->H (B i j)=some (.lst ((Yl m (f i j)).map nV))
 inj:∀i j i' j',i<m->j<m->i'<m->j'<m->B i j=B i' j'->i=i'/\j=j'
 nw:∀i j,i<m->j<m->Hb (B i j)=none
section
variable {Hb H H':Hp}{L:Addr}{m:Nat}{A:Nat->Addr}{B:Nat->Nat->Addr}{f:Nat->Nat->Nat->Nat}
theorem N3.mono (N:N3 Hb H L m A B f)(s:Zw H H'):N3 Hb H' L m A B f:=⟨N.sm.trans s,N.m1,s _ _ N.top,λi q=>s _ _ (N.mid i q),λi j q J=>s _ _ (N.low i j q J),N.inj,N.nw⟩
theorem ZeK {m:Nat}(q:1<=m){a:Nat->Addr}{f:Nat->Nat}:(HO.lst ((ae m).map λi=>V.ref (a i)))≠.lst ((Yl m f).map nV):=λz=>by
 injection z with z;have:=congrArg (λj:TL=>j[0]?) z;unfold Yl at this;rw[Zc,Zc,Zc,ai (show 0<m by omega)] at this;cases this
theorem N3.put (N:N3 Hb H L m A B f){i j k v:Nat}(Y:i<m)(hj:j<m)(hk:k<m):N3 Hb (upd H (B i j) (.lst (((Yl m (f i j)).map nV).set k (nV v)))) L m A B (λq M O=>if q=i/\M=j/\O=k then v else f q M O):=by
 have nL:L≠B i j:=Zh9 N.top (N.low i j Y hj) (ZeK N.m1);have nA:∀q,q<m->A q≠B i j:=λq J=>Zh9 (N.mid q J) (N.low i j Y hj) (ZeK N.m1);refine⟨N.sm.updr (N.nw i j Y hj),N.m1,by rw[Zy nL];exact N.top,λq J=>by rw[Zy (nA q J)];exact N.mid q J,λq M J U=>?_,N.inj,N.nw⟩;by_cases e:q=i/\M=j
 ·obtain⟨rfl,rfl⟩:=e
  rw[Zu,Zcs _ hk];have:(Yl m λb=>if b=k then v else f q M b)=Yl m λO=>if q=q/\M=M/\O=k then v else f q M O:=Ws λb _=>by
   by_cases h:b=k
   ·rw[if_pos h,if_pos ⟨rfl,rfl,h⟩]
   ·rw[if_neg h,if_neg (λz=>h z.2.2)]
  rw[this]
 ·rw[Zy λz=>e (N.inj q M i j J U Y hj z),N.low q M J U]
  have:(Yl m (f q M))=Yl m λO=>if q=i/\M=j/\O=k then v else f q M O:=Ws λb _=>by rw[if_neg (λz=>e ⟨z.1,z.2.1⟩)]
  rw[<-this]
theorem N3.congr (N:N3 Hb H L m A B f){g:Nat->Nat->Nat->Nat}(h:∀i j k,i<m->j<m->k<m->f i j k=g i j k):N3 Hb H L m A B g:=⟨N.sm,N.m1,N.top,N.mid,λi j q J=>by rw[N.low i j q J,Ws λk M=>h i j k q J M],N.inj,N.nw⟩
end
def ZkY (m:Nat)(b:Addr)(H:Hp):Prop:=H b=some (.lst ((Yl m λ_=>0).map nV))
structure Znn (m:Nat)(w:Addr×TN)(H:Hp):Prop where
 top:H w.1=some (.lst (w.2.map V.ref))
 len:w.2.length=m
 low:∀b∈w.2,ZkY m b H
 nd:∀(i j:Nat) b b',i<j->w.2[i]?=some b->w.2[j]?=some b'->b≠b'
def NwM (w:Addr×TN)(H:Hp):Prop:=H w.1=none/\∀b∈w.2,H b=none
theorem Zgg {m:Nat}{J:It}{own:List Str}{M:TY}{te:TE}{σ:L2.St}{H:Hp}{Q:VK}{xs:TL}(S:WA J H xs)(U:L2.St)(Y:JG own M σ=none::U)(hn:xs.length<=1000)(hm:xs.length=m)
  (hs:∀(i:Nat) y,xs[i]?=some y->∀q,Zw H q->∀R:VK,(∀b H5,Zw q H5->ZkY m b H5->q b=none->R (.ref b) H5)->te (some y::U) q R)
  (hd:∀w q,Zw H q->Znn m w q->NwM w H->Q (.ref w.1) q):W0 own M (Yc 0) WF te σ Q J H:=by
 refine Y7 (W:=Addr) id (λ_ b H=>ZkY m b H) (λb H=>H b=none) S U Y hn (λi w H q s h=>s _ _ h) (λw H q s h=>s.free h) (λi w H0 H1 D o ys m6 h h0 O _=>?_) (λi y hy q s R k=>hs i y hy q s R k) (λD ws q nD s hD wl hw hp=>?_)
 ·have:w≠D:=λz=>by rw[z,O] at h0;cases h0
  show upd H1 D _ w=_;rw[Zy this];exact h
 ·refine hd (D,ws) q s ⟨hD,by rw[<-hm];exact wl,λb hb=>?_,λi j b b' m5 hi hj z=>?_⟩ ⟨nD,λb hb=>?_⟩
  ·obtain⟨i,hi⟩:=bx hb
   exact (hw i b hi).1
  ·obtain⟨Hm,O,h2⟩:=hp i j b b' m5 hi hj
   have O:Hm b=some _:=O;rw[z,h2] at O;cases O
  ·obtain⟨i,hi⟩:=bx hb
   exact (hw i b hi).2
theorem Zgf {m:Nat}{J:It}{own:List Str}{m7:TY}{te:TE}{σ:L2.St}{H:Hp}{Q:VK}{xs:TL}(S:WA J H xs)(cs:L2.St)(m9:JG own m7 σ=none::cs)(hn:xs.length<=1000)(hm:xs.length=m)(m1:1<=m)
  (hs:∀(i:Nat) y,xs[i]?=some y->∀Y,Zw H Y->∀R:VK,(∀w H5,Zw Y H5->Znn m w H5->NwM w Y->R (.ref w.1) H5)->te (some y::cs) Y R)
  (hd:∀D A B Y,H D=none->N3 H Y D m A B (λ_ _ _=>0)->Q (.ref D) Y):W0 own m7 (Yc 0) WF te σ Q J H:=by
 refine Y7 (W:=Addr×TN) lL (λ_ w H=>Znn m w H) NwM S cs m9 hn (λi w H Y s h=>⟨s _ _ h.top,h.len,λb hb=>s _ _ (h.low b hb),h.nd⟩) (λw H Y s h=>⟨s.free h.1,λb hb=>s.free (h.2 b hb)⟩) (λi w H0 H1 D o ys n8 h h0 h1 _=>?_) (λi y hy Y s R k=>hs i y hy Y s R k) (λD ws Y nD s hD wl hw hp=>?_)
 ·have n1:w.1≠D:=λz=>by have:=h0.1;rw[z,h1] at this;cases this
  have n2:∀b∈w.2,b≠D:=λb hb z=>by have:=h0.2 b hb;rw[z,h1] at this;cases this
  exact⟨by rw[Zy n1];exact h.top,h.len,λb hb=>by show upd H1 D _ b=_;rw[Zy (n2 b hb)];exact h.low b hb,h.nd⟩
 ·rw[hm] at wl
  have wat:∀i,i<m->ws[i]?=some (ws.getD i (0,[])):=λi q=>by rw[Zb,Zf (by omega)];rfl
  have O:∀i j,i<m->j<m->(ws.getD i (0,[])).2[j]?=some ((ws.getD i (0,[])).2.getD j 0):=λi j q U=>by
   have:=(hw i _ (wat i q)).1.len;rw[Zb (l:=(ws.getD i (0,[])).2),Zf (by omega)];rfl
  refine hd D (λi=>(ws.getD i (0,[])).1) (λi j=>(ws.getD i (0,[])).2.getD j 0) Y nD ⟨s,m1,?_,λi q=>?_,λi j q U=>?_,λi j i' j' q U m6 m5 z=>?_,λi j q U=>?_⟩
  ·rw[hD]
   congr 2;refine aY λi=>?_;rw[Zc,Zc];by_cases q:i<m
   ·rw[wat i q,ai q]
    rfl
   ·rw[ag (by omega),ag (by rw[Zg];omega)]
    rfl
  ·have M:=(hw i _ (wat i q)).1
   have ml:=M.len;rw[M.top];congr 2;refine aY λj=>?_;rw[Zc,Zc];by_cases U:j<m
   ·rw[O i j q U,ai U]
    rfl
   ·rw[ag (by omega),ag (by rw[Zg];omega)]
    rfl
  ·exact (hw i _ (wat i q)).1.low _ (av (O i j q U))
  ·have m8:∀i j i' j',i<m->j<m->i'<m->j'<m->i<i'->(ws.getD i (0,[])).2.getD j 0≠(ws.getD i' (0,[])).2.getD j' 0:=λi j i' j' q U m6 m5 n6 z=>by
    obtain⟨Hm,h1,h2⟩:=hp i i' _ _ n6 (wat i q) (wat i' m6);have a1:=h1.low _ (av (O i j q U));have a2:=h2.2 _ (av (O i' j' m6 m5));unfold ZkY at a1;rw[z,a2] at a1;cases a1
   have ei:i=i':=by
    rcases mS i i' with h|h|h
    ·exact absurd z (m8 i j i' j' q U m6 m5 h)
    ·exact h
    ·exact absurd z.symm (m8 i' j' i j m6 m5 q U h)
   subst ei;refine⟨rfl,?_⟩;have nd:=(hw i _ (wat i q)).1.nd;rcases mS j j' with h|h|h
   ·exact absurd z (nd j j' _ _ h (O i j q U) (O i j' q m5))
   ·exact h
   ·exact absurd z.symm (nd j' j _ _ h (O i j' q m5) (O i j q U))
  ·exact (hw i _ (wat i q)).2.2 _ (av (O i j q U))
def C3 (H:Hp)(r:Addr)(m:Nat)(F:Nat->Nat->Nat->Nat):Prop:=∃cs:TN,H r=some (.tup (cs.map V.ref))/\cs.length=m/\∀(i:Nat) c,cs[i]?=some c->CT H c ((ae m).map λj=>Yl m (F i j))
def PrT (m:Nat)(F:Nat->Nat->Nat)(w:Addr×TN)(H:Hp):Prop:=H w.1=some (.tup (w.2.map V.ref))/\w.2.length=m/\∀(j:Nat) r,w.2[j]?=some r->H r=some (.tup ((Yl m (F j)).map nV))
theorem PrT.mono {m:Nat}{F:Nat->Nat->Nat}{w:Addr×TN}{H q:Hp}(h:PrT m F w H)(s:Zw H q):PrT m F w q:=⟨s _ _ h.1,h.2.1,λj r J=>s _ _ (h.2.2 j r J)⟩
theorem PrT.upd {m:Nat}{F:Nat->Nat->Nat}{w:Addr×TN}{H:Hp}{D:Addr}{ys:TL}{o:HO}(h:PrT m F w H)(q:H D=some (.lst ys)):PrT m F w (upd H D o):=
 ⟨by rw[Zy λz=>by have:=h.1;rw[z,q] at this;cases this];exact h.1,h.2.1,λj r J=>by rw[Zy λz=>by have:=h.2.2 j r J;rw[z,q] at this;cases this];exact h.2.2 j r J⟩
theorem PrT.ct {m:Nat}{F:Nat->Nat->Nat}{w:Addr×TN}{H:Hp}(h:PrT m F w H):CT H w.1 ((ae m).map λj=>Yl m (F j)):=by
 refine⟨w.2,h.1,by rw[Za,Zg];exact h.2.1,λi r q=>?_⟩;have J:i<m:=by rw[<-h.2.1];exact (ac.mp q).1
 rw[h.2.2 i r q,Zb,Zc,ai J];rfl
theorem Zge {m:Nat}{F:Nat->Nat->Nat}{J:It}{own:List Str}{M:TY}{te:TE}{σ:L2.St}{H:Hp}{Q:VK}{xs:TL}(S:WA J H xs)(Y:L2.St)(m5:JG own M σ=none::Y)(hn:xs.length<=1000)(hm:xs.length=m)
  (hs:∀(i:Nat) y,xs[i]?=some y->∀q,Zw H q->∀R:VK,(∀b O,Zw q O->O b=some (.tup ((Yl m (F i)).map nV))->R (.ref b) O)->te (some y::Y) q R)
  (hd:∀D (rs:TN) q,H D=none->Zw H q->q D=some (.lst (rs.map V.ref))->(∀r U,U r=some (.tup (rs.map V.ref))->Zw q U->PrT m F (r,rs) U)->Q (.ref D) q):W0 own M (Yc 0) WF te σ Q J H:=by
 refine Y7 (W:=Addr) id (λi b H=>H b=some (.tup ((Yl m (F i)).map nV))) (λ_ _=>True) S Y m5 hn (λi w H q s h=>s _ _ h) (λw H q s h=>trivial) (λi w H0 H1 D o ys m6 h h0 h1 h2=>?_) (λi y hy q s R k=>hs i y hy q s R λb O s5 h5=>k b O s5 h5 trivial) (λD ws q nD s hD wl hw hp=>?_)
 ·rw[Zy λz=>by rw[z,h2] at h;cases h]
  exact h
 ·exact hd D ws q nD s hD λr U hr s2=>⟨hr,by rw[<-hm];exact wl,λj b hb=>s2 _ _ (hw j b hb).1⟩
theorem ZkM {m:Nat}{F:Nat->Nat->Nat->Nat}{J:It}{own:List Str}{q:TY}{te:TE}{σ:L2.St}{H:Hp}{Q:VK}{xs:TL}(S:WA J H xs)(Y:L2.St)(m5:JG own q σ=none::Y)(hn:xs.length<=1000)(hm:xs.length=m)
  (hs:∀(i:Nat) y,xs[i]?=some y->∀j,Zw H j->∀R:VK,(∀w M,Zw j M->PrT m (F i) w M->R (.ref w.1) M)->te (some y::Y) j R)
  (hd:∀D (ys:TL) j,H D=none->Zw H j->j D=some (.lst ys)->(∀r U,U r=some (.tup ys)->Zw j U->C3 U r m F)->Q (.ref D) j):W0 own q (Yc 0) WF te σ Q J H:=by
 refine Y7 (W:=Addr×TN) lL (λi w H=>PrT m (F i) w H) (λ_ _=>True) S Y m5 hn (λi w H j s h=>h.mono s) (λw H j s h=>trivial) (λi w H0 H1 D o ys m6 h h0 h1 h2=>h.upd h2) (λi y hy j s R k=>hs i y hy j s R λb M s5 h5=>k b M s5 h5 trivial) (λD ws j nD s hD wl hw hp=>?_);refine hd D _ j nD s hD λr U hr s2=>⟨ws.map lL,by rw[hr,aC];rfl,by rw[Za,<-hm];exact wl,λi c O=>?_⟩;rw[Zc] at O;cases hx:ws[i]? with
 |none=>rw[hx] at O;cases O
 |some w=>
  rw[hx] at O;cases O;exact ((hw i w hx).1.mono s2).ct
def one (q:Nat->Nat)(C:Nat->Nat->Nat->Bool)(i j k x y:Nat):Nat:=JP (decide (q x=i))*(JP (decide (q y=j))*JP (C x y k))
def ZJ (n:Nat)(q:Nat->Nat)(C:Nat->Nat->Nat->Bool)(X Y i j k:Nat):Nat:=sm X (λx=>sm n λy=>one q C i j k x y)+sm Y λy=>one q C i j k X y
theorem acc_zero (n:Nat)(q:Nat->Nat)(C:Nat->Nat->Nat->Bool)(i j k:Nat):ZJ n q C 0 0 i j k=0:=rfl
theorem ZkU (n:Nat)(q:Nat->Nat)(C:Nat->Nat->Nat->Bool)(X i j k:Nat):ZJ n q C X n i j k=ZJ n q C (X+1) 0 i j k:=by
 unfold ZJ;rw[YX];rfl
theorem acc_step (n:Nat)(q:Nat->Nat)(C:Nat->Nat->Nat->Bool)(X Y i j k:Nat):ZJ n q C X (Y+1) i j k=ZJ n q C X Y i j k+one q C i j k X Y:=by
 unfold ZJ;rw[YX];omega
def hdT (t:T9)(k:Nat):Nat:=((ZC t t.length).getD k []).getD 0 0
theorem ZbK {t:T9}(j:PW t){k:Nat}(q:k<(ZC t t.length).length):hdT t k<t.length/\JO t (hdT t k)=k/\((ZC t t.length).getD k [])[0]?=some (hdT t k):=by
 obtain⟨a,r,e⟩:=Zho j q;have J:hdT t k=a:=by unfold hdT;rw[e];rfl
 have h:=ZjC j q (by rw[e];exact aA);rw[J,e];exact⟨h.1,h.2.1,rfl⟩
def Cg (t:T9)(x y k:Nat):Bool:=decide (ZP t x y=hdT t k)
def cnG (t:T9):Nat->Nat->Nat->Nat:=ZJ t.length (JO t) (Cg t) t.length 0
theorem ZhP (q:Nat->Nat)(C:Nat->Nat->Nat->Bool)(i j k x y:Nat):one q C i j k x y=if i=q x/\j=q y/\C x y k=true then 1 else 0:=by
 unfold one;by_cases J:q x=i
 ·rw[decide_eq_true J]
  by_cases M:q y=j
  ·rw[decide_eq_true M]
   cases O:C x y k with
   |true=>rw[if_pos ⟨J.symm,M.symm,rfl⟩];rfl
   |false=>rw[if_neg (λz=>by cases z.2.2)];rfl
  ·rw[decide_eq_false M,if_neg (λz=>M z.2.1.symm)]
   show 1*(0*_)=0;omega
 ·rw[decide_eq_false J,if_neg (λz=>J z.1.symm)]
  show 0*_=0;omega
inductive Ub (vs:TL) (H:Hp) (Q:VK) (E03:XK):Prop
 |mk (g:Addr) (t:T9):(vs=[.ref g])->(GT H g t)->(PW t)->(∀r H',Zw H H'->C3 H' r (ZC t t.length).length (cnG t)->Q (.ref r) H')->Ub vs H Q E03
section
variable {P:Program}{w:World}{K:aa}{mg:TR}{base:Heap}
theorem ZfN {f:Addr}{fd:FuncData}(F:Wu K "counts_of" "counts_of" ZeB f fd)(T:Bl mg)(T2:Zaf mg)(GC:Fn P w K mg base Z9 4 "classes_of" ["group"] WP)(GN:Fn P w K mg base Z9 5 "class_numbers" ["group"] Za5):Z2 P w K mg base Z9 6 f fd ["group"] Ub:=by
 refine F.ok (FS (N:=["group", "classes", "numbers", "counts", "x", "row", "y", "z", "k"])) (λvs H Q E h=>?_) (λp9 A n9 s H vs Q E hr h=>?_)
 ·obtain⟨g,t,rfl,_⟩:=h;rfl
 ·obtain⟨g,t,rfl,G,O,q⟩:=h
  refine⟨_,Zt (ZG 1 rfl (Yz GC hr ZF (pc (vn 0) Zs)))
   (Zt (ZG 2 rfl (Yz GN hr ZF (pc (vn 0) Zs)))
   (Zt (Zg3 3 ["i"] [1] ["i", "classes"] rfl rfl (itT K (vn 1)) (λ_ _ _ _ _=>gn 0) (λ_ _ _ _ _=>ZQ)
    (λ_ _ _ _ _=>cmp ["j"] [1] ["j", "classes"] rfl (itT K (vn 1)) (λ_ _ _ _ _=>gn 0) (λ_ _ _ _ _=>ZQ)
     (λ_ _ _ _ _=>Zz Xn (ZK (pc Zv Zs)) (cb (Yr K) (by exact T.len) (pc (vn 1) Zs)))))
   (Zt (ZV ao rfl (UF K T2.enumerate (pc (vn 0) Zs)) (g2 K 4 5 rfl (gn 4) (gn 5))
    (Zx (ZV ao rfl (UF K T2.enumerate (pc (vn 5) Zs)) (g2 K 6 7 rfl (gn 6) (gn 7))
     (Zt (ZG 8 rfl (ZB (Wa K) (vn 2) (vn 7) (λ_ _=>rfl)))
     (Zx (Yx (ZH WH (ZB (Wa K) (ZB (Wa K) (vn 1) (vn 8) (λ_ _=>rfl)) Zv (λ_ _=>rfl)) (vn 7) (ZI _))
      (Zx (VP (ZB (WB K) (ZB (WB K) (vn 3) (ZB (Wa K) (vn 2) (vn 4) (λ_ _=>rfl)) (λ_ _=>rfl)) (ZB (Wa K) (vn 2) (vn 6) (λ_ _=>rfl)) (λ_ _=>rfl)) (vn 8) Ziw Zv Jg YB)) ZT))))))
   (Zx (ZE (ct ZL T.tuple (pc (cmp ["seconds"] [] ["seconds"] rfl (itL K (vn 3)) (λ_ _ _ _ _=>gn 0) (λ_ _ _ _ _=>ZQ)
    (λ_ _ _ _ _=>ct (tupK K) (by exact T.tuple) (pc (cmp ["ends"] [] ["ends"] rfl (itL K (vn 0)) (λ_ _ _ _ _=>gn 0) (λ_ _ _ _ _=>ZQ)
     (λ_ _ _ _ _=>ct (tupK K) (by exact T.tuple) (pc (vn 0) Zs))) Zs))) Zs))))))),?_⟩
  have sz:=Ja;have r6:=O.n60;have ul:=Wn (t:=t) t.length;have m1:1<=(ZC t t.length).length:=by
   have:=(Vf O (show 0<t.length from O.n1)).1;omega
  refine⟨_,rfl,g,t,rfl,G,O,λc H1 s1 C1=>?_⟩;refine⟨_,rfl,g,t,rfl,G.mono s1,O,λr0 H2 s2 m5=>?_⟩;have C2:=C1.mono s2;obtain⟨rs,c1,c2,c3⟩:=C2.row;have cl:(rs.map V.ref).length=(ZC t t.length).length:=by rw[Za,c2]
  replace m5:H2 r0=some (.tup ((Yl t.length (JO t)).map nV)):=m5;generalize hm:(ZC t t.length).length=m at *;refine⟨_,rfl,c,rfl,⟨_,.of c1⟩,?_⟩;refine Zgf (YM (K:=K) (.of c1)) [some (.ref c)] rfl (by omega) cl m1 (λi y hy H3 s3 R k=>?_) (λL A B H3 nL N=>?_)
  ·have m6:=s3 _ _ c1
   refine⟨_,rfl,c,rfl,⟨_,.of m6⟩,?_⟩;refine Zgg (YM (K:=K) (.of m6)) [some (.ref c)] rfl (by omega) cl (λj y' m8 H4 s4 R' k'=>?_) (λw' H4 s4 M o0=>k w' H4 s4 M o0);refine⟨WK,λl0 o5=>?_⟩;have U:=Zw.upd (H:=H4) (o:=.lst [.int 0]) o5;refine⟨_,rfl,c,_,rfl,.inr (.of (U _ _ (s4 _ _ m6))),l0,_,_,rfl,rfl,Zu,by rw[cl];omega,by rw[cl];omega,by rw[cl];show 1*((m:Int)).toNat<=sizeLine;omega,λb nb=>?_⟩;rw[cl,Zj];have e0:(aw m [V.int 0]).flatten=(Yl m λ_=>0).map nV:=by
    unfold Yl;rw[aC];have:∀m k,(aw m [V.int 0]).flatten=(c9 k m).map λ_=>nV 0:=λm=>by
     induction m with
     |zero=>intro k;rfl
     |succ m ih=>intro k;rw[bf,ce,ih (k+1),dW,aB];rfl
    rw[this m 0,<-dS];rfl
   rw[e0];exact k' b _ (U.trans (Zw.upd nb)) Zu (U.free nb)
  have G2:=G.mono (s1.trans s2);obtain⟨gs,u1,u2,u3⟩:=id G2;have el:(gs.map V.ref).length=t.length:=by rw[Za,u2]
  refine⟨_,rfl,g,rfl,.inr ⟨⟨_,.of (N.sm _ _ u1)⟩,?_⟩⟩;refine WY (ZbQ (K:=K) (xs:=gs.map V.ref)) (λX J H'=>∃v4 v5 v6 v7 v8:TK,J=[some (.ref g),some (.ref c),some (.ref r0),some (.ref L),v4,v5,v6,v7,v8]/\N3 H2 H' L m A B (ZJ t.length (JO t) (Cg t) X 0))
   ⟨_,_,_,_,_,rfl,N.congr λi j k _ _ _=>(acc_zero _ _ _ _ _ _).symm⟩ (λi J H' h=>by
    obtain⟨_,_,_,_,_,_,N'⟩:=h;exact N'.sm.tup (.of u1)) ?_ ?_
  ·rintro X y J H4 T' hy ⟨v4,v5,v6,v7,v8,rfl,N4⟩ nT
   have hX:X<t.length:=by
    have:=(ac.mp hy).1;rw[el] at this;exact this
   have m9:gs[X]?=some (gs[X]'(by omega)):=Zf (by omega);rw[Zc,m9] at hy;cases hy;have row:=u3 X _ m9;generalize gs[X]'(by omega)=r at row;have U:=Zw.upd (H:=H4) (o:=.tup [.int (X:Nat),.ref r]) nT;refine⟨T',_,rfl,.of Zu,rfl,_,_,rfl,_,_,rfl,rfl,?_⟩;have N5:=N4.mono U;generalize upd H4 T' (.tup [.int (X:Nat),.ref r])=H5 at U N5 ⊢;refine⟨_,rfl,r,rfl,.inr ⟨⟨_,(row.mono N5.sm).sq⟩,?_⟩⟩;refine WY (ZbQ (K:=K) (xs:=(t.getD X []).map nV)) (λY J H'=>∃v6 v7 v8:TK,J=[some (.ref g),some (.ref c),some (.ref r0),some (.ref L),some (.int (X:Nat)),some (.ref r),v6,v7,v8]/\N3 H2 H' L m A B (ZJ t.length (JO t) (Cg t) X Y))
    ⟨_,_,_,rfl,N5⟩ (λi J H' h=>by
     obtain⟨_,_,_,_,N'⟩:=h;exact (row.mono N'.sm).sq) ?_ ?_
   ·rintro Y y J H6 n6 hy ⟨o6,o7,o8,rfl,N6⟩ o9
    have hY:Y<t.length:=by
     have:=(ac.mp hy).1;rw[Za,XM O hX] at this;exact this
    rw[Vb O hX hY] at hy;cases hy;have s7:=Zw.upd (H:=H6) (o:=.tup [.int (Y:Nat),.int (ZP t X Y:Nat)]) o9;refine⟨n6,_,rfl,.of Zu,rfl,_,_,rfl,_,_,rfl,rfl,?_⟩;have N7:=N6.mono s7;generalize upd H6 n6 (.tup [.int (Y:Nat),.int (ZP t X Y:Nat)])=H7 at s7 N7 ⊢;have hz:ZP t X Y<t.length:=O.lt _ _ hX hY;obtain⟨kz,r8,p4⟩:=Vf O hz;rw[hm] at kz p4;have kX:=(Vf O hX).1;have kY:=(Vf O hY).1;rw[hm] at kX kY;have m7:=N7.sm _ _ m5;have p6:=N7.sm _ _ c1;obtain⟨h1,h2,h3⟩:=ZbK O (by rw[hm];exact kz);have n8:JO t (ZP t X Y)<(rs.map V.ref).length:=by omega
    obtain⟨rk,e1,_,e2⟩:=c3 _ _ (Zf n8);have p7:Xu (rs.map V.ref) (JO t (ZP t X Y):Int)=some (.ref rk):=ZA (by rw[Zf n8,e1]);refine⟨_,rfl,_,rfl,r0,_,_,_,rfl,rfl,.of m7,Zbo hz,?_⟩;refine⟨_,rfl,_,rfl,c,_,_,_,rfl,rfl,.of p6,p7,rk,_,_,_,rfl,rfl,.of (N7.sm _ _ e2),ZA (j:=0) (by rw[Zc,h3];rfl),_,rfl,rfl,_,rfl,?_⟩;refine Z1 (λh=>?_) (λh=>?_)
    ·have he:hdT t (JO t (ZP t X Y))=ZP t X Y:=by
      have h:V.int (hdT t (JO t (ZP t X Y)):Nat)=V.int (ZP t X Y:Nat):=of_decide_eq_true h;injection h with h;omega
     refine⟨_,rfl,_,rfl,_,rfl,r0,_,_,_,rfl,rfl,.of m7,Zbo hX,L,_,_,_,rfl,rfl,.of N7.top,Zcx kX,_,rfl,_,rfl,r0,_,_,_,rfl,rfl,.of m7,Zbo hY,A (JO t X),_,_,_,rfl,rfl,.of (N7.mid _ kX),Zcx kY,_,rfl,B (JO t X) (JO t Y),_,JO t (ZP t X Y),_,rfl,rfl,N7.low _ _ kX kY,Zia kz,_,_,rfl,rfl,B (JO t X) (JO t Y),_,_,JO t (ZP t X Y),rfl,rfl,N7.low _ _ kX kY,Wy (by rw[Za,Zct];exact kz),?_⟩;refine⟨_,_,_,rfl,(N7.put (v:=ZJ t.length (JO t) (Cg t) X Y (JO t X) (JO t Y) (JO t (ZP t X Y))+1) kX kY kz).congr λi j k hi hj hk=>?_⟩;rw[acc_step,ZhP];by_cases e:i=JO t X/\j=JO t Y/\k=JO t (ZP t X Y)
     ·obtain⟨rfl,rfl,rfl⟩:=e
      rw[if_pos ⟨rfl,rfl,rfl⟩,if_pos ⟨rfl,rfl,decide_eq_true he.symm⟩]
     ·rw[if_neg e,if_neg,io]
      rintro⟨z1,z2,z3⟩;have z3:ZP t X Y=hdT t k:=of_decide_eq_true z3;refine e ⟨z1,z2,?_⟩;rw[z3];exact (ZbK O (by rw[hm];exact hk)).2.1.symm
    ·have he:hdT t (JO t (ZP t X Y))≠ZP t X Y:=λz=>h (by rw[z];exact decide_eq_true rfl)
     refine⟨_,_,_,rfl,N7.congr λi j k hi hj hk=>?_⟩;rw[acc_step,ZhP,if_neg,io];rintro⟨z1,z2,z3⟩;have z3:ZP t X Y=hdT t k:=of_decide_eq_true z3;have:=(ZbK O (by rw[hm];exact hk)).2.1;rw[<-z3] at this;rw[this] at he;exact he z3.symm
   ·rintro J H6 ⟨o6,o7,o8,rfl,N6⟩
    rw[Za,XM O hX] at N6;exact⟨_,_,_,_,_,rfl,N6.congr λi j k _ _ _=>ZkU _ _ _ _ _ _ _⟩
  ·rintro J H4 ⟨v4,v5,v6,v7,v8,rfl,N4⟩
   rw[el] at N4;have tl:((ae m).map λi=>V.ref (A i)).length=m:=by rw[Za,Zg]
   refine⟨_,rfl,L,rfl,⟨_,.of N4.top⟩,?_⟩;refine ZkM (m:=m) (F:=cnG t) (YY (K:=K) (.of N4.top)) [] rfl (by rw[tl];omega) tl (λi y hy H5 U R k=>?_) (λD ys H5 nD U hD k=>?_)
   ·obtain⟨hi,rfl⟩:=Zcw hy
    have ml:((ae m).map λj=>V.ref (B i j)).length=m:=by rw[Za,Zg]
    have hA:=U _ _ (N4.mid i hi);refine⟨_,rfl,A i,rfl,⟨_,.of hA⟩,?_⟩;refine Zge (m:=m) (F:=cnG t i) (YY (K:=K) (.of hA)) [] rfl (by rw[ml];omega) ml (λj y' m8 H6 s6 R' k'=>?_) (λD p8 H6 nD s6 hD k'=>?_)
    ·obtain⟨hj,rfl⟩:=Zcw m8
     refine⟨_,rfl,B i j,_,rfl,.inl ⟨.of ((U.trans s6) _ _ (N4.low i j hi hj)),λb nb=>?_⟩⟩;exact k' b _ (Zw.upd nb) Zu
    ·refine⟨D,_,rfl,.inl ⟨.of hD,λr nr=>?_⟩⟩
     exact k (r,p8) _ (s6.trans (Zw.upd nr)) (k' r _ Zu (Zw.upd nr))
   ·refine⟨D,_,rfl,.inl ⟨.of hD,λr nr=>?_⟩⟩
    exact q r _ ((((s1.trans s2).trans N4.sm).trans U).trans (Zw.upd nr)) (k r _ Zu (Zw.upd nr))
end
end C55
namespace C55
open PySem L2 PySem.Spec PyProof.Rows
open Tb Pm
noncomputable abbrev Zhn:Stmt:=top 32
section
variable {t:T9}{p m:Nat}{e ω φ:Nat->Nat->Nat}
theorem Zbx (P:PW t){x:Nat}(j:x<t.length):JO t x=YW t x:=by
 obtain⟨q,J,M⟩:=Vf P j;exact (ZbW P j q J).symm
theorem Zm5 (P:PW t){i j k:Nat}(M:k<(ZC t t.length).length):cnG t i j k=cnA t (YW t) i j (ZM t k):=by
 have q:ZM t k<t.length:=(YU P).rl k M;have O:cnG t i j k=cnA t (JO t) i j (ZM t k):=by
  rw[<-Zgi P q];show ZJ t.length (JO t) (Cg t) t.length 0 i j k=_;unfold ZJ one Cg;rfl
 rw[O];unfold cnA;refine Yt λx J=>?_;rw[Zbx P J,Zbx P (P.lt _ _ (Yp P J).1 q)]
theorem WJ.ext {H:Hp}{a b:Addr}{cs ds:TN}{U Y:List (Nat->Bool)}(m1:1<=m)(h:WJ H a t p m e cs U)(g:WJ H b t p m e ds Y):WJ (upd H a (.lst (cs.map V.ref++ds.map V.ref))) a t p m e (cs++ds) (U++Y):=by
 have ne:∀{x:Addr}{v:Nat->Int},H x=some (.lst (ZN m v))->x≠a:=λ{x v} q=>Zby q h.1 (Uh m1).symm;refine⟨by rw[Zu,aN],by rw[Zd,Zd,h.2.1,g.2.1],λj x q=>?_⟩;by_cases hj:j<cs.length
 ·rw[ak hj] at q
  obtain⟨M,O,J⟩:=h.2.2 j x q;exact⟨M,by rw[ak (by rw[<-h.2.1];exact hj)];exact O,by rw[Zy (ne J)];exact J⟩
 ·rw[aq (by omega)] at q
  obtain⟨M,O,J⟩:=g.2.2 _ x q;exact⟨M,by rw[aq (by rw[<-h.2.1];omega),<-h.2.1];exact O,by rw[Zy (ne J)];exact J⟩
end
theorem Zep {t:T9}{p m:Nat}{e j q:Nat->Nat->Nat}(C:CD t p m e j q)(J:PW t):[V.int 1]++(aw (m-1) [V.int 0]).flatten=ZN m (Vc t p m e (Xa λ_=>true)):=by
 have Y:=C.m1;have M:ZN m (Vc t p m e (Xa λ_=>true))=ZN m (λc=>if c=0 then 1 else 0):=Wq λc O=>Zng C J O
 rw[M];obtain⟨k,rfl⟩:∃k,m=k+1:=⟨m-1,by omega⟩;unfold ZN;rw[List.range_succ_eq_map,aB,aC,dz];have:∀k a,(aw k [V.int 0]).flatten=(c9 a k).map λ_=>V.int 0:=λk=>by
  induction k with
  |zero=>intro a;rfl
  |succ k U=>intro a;rw[bf,ce,U (a+1),dW,aB];rfl
 rw[this k 0,<-dS];rfl
structure Zp9 (H:Hp)(L:Addr)(t:T9)(m:Nat)(e:Nat->Nat->Nat)(cs:TN)(ss:TY):Prop where
 at':H L=some (.lst (cs.map V.ref))
 len:cs.length=ss.length
 pm:ss.Perm (ae m)
 it:∀(j:Nat) b,cs[j]?=some b->H b=some (.lst (ZN m λc=>(EC t e (ss.getD j 0) c:Int)))
inductive Zbc (vs:TL) (H:Hp) (Q:VK) (E03:XK):Prop
 |mk (ra:Addr) (t:T9) (p m:Nat) (e ω φ:Nat->Nat->Nat):(vs=[.ref ra,.int p])->(CD t p m e ω φ)->(PW t)->(p<=100000)->(C3 H ra m (cnG t))->(∀L cs ss H',Zw H H'->Zp9 H' L t m e cs ss->Q (.ref L) H')->Zbc vs H Q E03
section
variable {P:Program}{w:World}{K:aa}{mg:TR}{base:Heap}
theorem Zh4 {f:Addr}{fd:FuncData}(F:Wu K "taken_apart" "taken_apart" Zhn f fd)(T:Bl mg)(GP:Fn P w K mg base Z9 3 "parts_by" ["columns", "one", "p"] Za4):Z2 P w K mg base Z9 4 f fd ["counts", "p"] Zbc:=by
 refine F.ok (FS (N:=["counts", "p", "found", "seconds", "columns", "finer", "one"])) (λvs H Q E h=>?_) (λr9 A o8 s H vs Q E hr h=>?_)
 ·obtain⟨ra,t,p,m,e,ω,φ,rfl,_⟩:=h;rfl
 ·obtain⟨ra,t,p,m,e,ω,φ,rfl,C,Y,pl,o9,q⟩:=h
  refine⟨_,Zt (ZG 2 rfl (ZK (pc (Zz Ut (ZK (pc Zv Zs)) (Zz Xn (ZK (pc Zv Zs)) (Zz Wt (cb (Yr K) T.len (pc (vn 0) Zs)) Zv))) Zs)))
   (Zt (ZV ao rfl (itT K (vn 0)) (gnf 3 rfl)
    (Zx (Yx (ZH Zav (cb (Yr K) T.len (pc (vn 2) Zs)) (cb (Yr K) T.len (pc (vn 0) Zs)) (ZI _))
     (Zt (Zg3 4 ["k"] [3] ["k", "seconds"] rfl rfl (J9 T.range (pc (cb (Yr K) T.len (pc (vn 0) Zs)) Zs)) (λ_ _ _ _ _=>gnf 0 rfl) (λ_ _ _ _ _=>ZQ)
      (λ_ _ _ _ _=>cmp ["ends"] [0] ["ends", "k"] rfl (itT K (vn 1)) (λ_ _ _ _ _=>gn 0) (λ_ _ _ _ _=>ZQ) (λ_ _ _ _ _=>ZB (Wa K) (vn 0) (vn 1) (λ_ _=>rfl))))
     (Zt (ZG 5 rfl (ZK Zs))
     (Zt (ZV ao rfl (itL K (vn 2)) (gn 6)
      (Zx (Yq (Wh aG kQ PySem.F.type_list_extend ZfT (vn 5) (pc (Yz GP hr ZF (pc (vn 4) (pc (vn 6) (pc (vn 1) Zs)))) Zs)))))
     (Zx (ZG 2 rfl (vn 5)))))) ZT)))
   (Zx (ZE (vn 2)))),?_⟩
  have p2:=C.pr.p2;have t0:=ZkR C Y;have m1:=C.m1;have mc:=C.mc;have sz:=Ja;obtain⟨rs,c1,c2,c3⟩:=id o9;have cl:(rs.map V.ref).length=m:=by rw[Za,c2]
  refine⟨WK,λa1 p4=>(?_:_)⟩;have s1:=Zw.upd (H:=H) (o:=.lst [.int 1]) p4;have h1:upd H a1 (.lst [.int 1]) a1=some (.lst [.int 1]):=Zu;generalize upd H a1 (.lst [.int 1])=H1 at s1 h1 ⊢;refine⟨WK,λa2 p6=>?_⟩;have s2:=Zw.upd (H:=H1) (o:=.lst [.int 0]) p6;have h2:upd H1 a2 (.lst [.int 0]) a2=some (.lst [.int 0]):=Zu;generalize upd H1 a2 (.lst [.int 0])=H2 at s2 h2 ⊢;have m9:=s1.trans s2;refine⟨_,rfl,ra,_,rfl,.inr (.of (m9 _ _ c1)),_,_,rfl,rfl,a2,_,_,rfl,rfl,h2,by rw[cl];omega,by rw[cl];omega,by rw[cl];show 1*((m:Int)-1).toNat<=sizeLine;omega,λa3 p7=>?_⟩;have et:(((rs.map V.ref).length:Int)-1).toNat=m-1:=by rw[cl];omega
  rw[et];have s3:=Zw.upd (H:=H2) (o:=.lst (aw (m-1) [V.int 0]).flatten) p7;have h3:upd H2 a3 (.lst (aw (m-1) [V.int 0]).flatten) a3=some (.lst (aw (m-1) [V.int 0]).flatten):=Zu;generalize upd H2 a3 (.lst (aw (m-1) [V.int 0]).flatten)=H3 at s3 h3 ⊢;have fl:(aw (m-1) [V.int 0]).flatten.length<=60:=by
   have:=congrArg a6 (Zep C Y);rw[Ys,Zd] at this;omega
  refine⟨a1,a3,_,_,rfl,rfl,(s2.trans s3) _ _ h1,h3,by show 1+_<=sizeLine;omega,λa4 p8=>?_⟩;rw[Zep C Y];have s4:=Zw.upd (H:=H3) (o:=.lst (ZN m (Vc t p m e (Xa λ_=>true)))) p8;have h4:upd H3 a4 (.lst (ZN m (Vc t p m e (Xa λ_=>true)))) a4=some (.lst (ZN m (Vc t p m e (Xa λ_=>true)))):=Zu;generalize upd H3 a4 (.lst (ZN m (Vc t p m e (Xa λ_=>true))))=H4 at s4 h4 ⊢;refine⟨WK,λL nL=>?_⟩;have s5:=Zw.upd (H:=H4) (o:=.lst [.ref a4]) nL;have h5:upd H4 L (.lst [.ref a4]) L=some (.lst [.ref a4]):=Zu;generalize upd H4 L (.lst [.ref a4])=H5 at s5 h5 ⊢;have n6:Zw H H5:=((m9.trans s3).trans s4).trans s5;have P5:WJ H5 L t p m e [a4] [λ_=>true]:=⟨h5,rfl,λj b hb=>by
   cases j with
   |zero=>cases hb;exact⟨_,rfl,s5 _ _ h4⟩
   |succ j=>cases hb⟩
  refine⟨_,rfl,ra,rfl,⟨_,.of (n6 _ _ c1)⟩,?_⟩;have wj:∀s s',s<m->s'<m->(∀j,j<m->gW t ω j s=gW t ω j s')->s=s':=λs s' hs n8 h=>C.sep s s' hs n8 λu hu=>by
   have hc:=(YU Y).lt u hu;rw[C.wat Y hs hu,C.wat Y n8 hu];exact h (YW t u) (by omega)
  refine W5 (H0:=H) (YM (K:=K) (.of c1)) (λi J H'=>∃(l:Addr) (cs:TN) (M:List (Nat->Bool)) (v3 v4 v5 v6:TK),J=[some (.ref ra),some (.int (p:Nat)),some (.ref l),v3,v4,v5,v6]/\Zw H H'/\WJ H' l t p m e cs M/\Xc m (λs j=>gW t ω j s) i M)
   ⟨L,_,_,_,_,_,_,rfl,n6,P5,Xc.zero m1 _⟩ (λi J H' h=>by
    obtain⟨_,_,_,_,_,_,_,_,sm,_⟩:=h;exact sm) ?_ ?_
  ·rintro i y J H6 hy ⟨l,cs,M,v3,v4,v5,v6,rfl,s6,O,A6⟩
   have hi:i<m:=by
    have:=(ac.mp hy).1;rw[cl] at this;exact this
   rw[Zc,Zf (show i<rs.length by omega)] at hy;cases hy;obtain⟨es,e1,e2,e3⟩:=c3 i _ (Zf (show i<rs.length by omega));generalize rs[i]'(by omega)=sa at e1 ⊢;rw[Za,Zg] at e2;have el:(es.map V.ref).length=m:=by rw[Za,e2]
   have m6:(cs.map V.ref).length=M.length:=by rw[Za,O.2.1]
   refine⟨_,rfl,l,_,rfl,.inl (.of O.1),_,rfl,ra,_,rfl,.inr (.of (s6 _ _ c1)),_,_,rfl,rfl,_,rfl,?_⟩;rw[m6,cl];refine Z1 (λn9=>?_) (λn9=>?_)
   ·refine⟨_,rfl,ra,_,rfl,.inr (.of (s6 _ _ c1)),_,rfl,by rw[cl];omega,by rw[cl];omega,?_⟩
    rw[cl,Zj];refine Pm.Y7 (W:=Addr) id (λk a H=>H a=some (.lst (ZN m (VF t i k)))) (λa H=>H a=none) (Jr 0 m) [some (.ref sa)] rfl (by rw[Za,Z8];omega) (λk a H H' sm h=>sm _ _ h) (λa H H' sm h=>sm.free h) (λk a t6 t7 D o ys t8 h1 h2 h3 h4=>by rw[Zy (λz=>by rw[z,h3] at h2;cases h2)];exact h1) (λk y hy H7 s7 R k7=>?_) (λD ws H7 nD s7 hD wl hw _=>?_)
    ·obtain⟨hk,rfl⟩:=XN hy
     have U:=s6.trans s7;refine⟨_,rfl,sa,rfl,⟨_,.of (U _ _ e1)⟩,?_⟩;refine Pm.Y8 (YM (K:=K) (.of (U _ _ e1))) [some (.int (k:Nat))] rfl (λj=>V.int (VF t i k j)) (by rw[el];omega) (λj z hz H8 s8 R' k8=>?_) (λD8 H8 p9 s8 o0=>?_)
     ·have hj:j<m:=by
       have:=(ac.mp hz).1;rw[el] at this;exact this
      rw[Zc,Zf (show j<es.length by omega)] at hz;cases hz;have hE:=e3 j _ (Zf (show j<es.length by omega));generalize es[j]'(by omega)=ea at hE ⊢;have row:((ae m).map λj=>Yl m (cnG t i j)).getD j []=Yl m (cnG t i j):=by rw[Zb,Zc,ai hj];rfl
      rw[row] at hE;have r6:Xu ((Yl m (cnG t i j)).map nV) (k:Int)=some (V.int (VF t i k j)):=by
       refine ZA ?_;unfold Yl;rw[Zc,Zc,ai hk];show some (V.int ((cnG t i j k:Nat):Int))=some (V.int (VF t i k j));unfold VF;rw[Zm5 Y (by omega)]
      exact⟨_,rfl,_,rfl,ea,_,_,_,rfl,rfl,.of ((U.trans s8) _ _ hE),r6,k8 H8 (Zw.refl _)⟩
     ·rw[el] at o0
      exact k7 D8 H8 s8 o0 p9
    ·have hL:LLs H7 D m (VF t i):=⟨ws,hD,by rw[wl,Za,Z8],λc b hb=>(hw c b hb).1⟩
     have U:=s6.trans s7;have P7:=O.mono s7;refine⟨WK,λFn o5=>?_⟩;have s8:=Zw.upd (H:=H7) (o:=.lst []) o5;have h8:upd H7 Fn (.lst []) Fn=some (.lst ([]:TL)):=Zu;generalize upd H7 Fn (.lst [])=H8 at s8 h8 ⊢;have P8:=P7.mono s8;refine⟨_,rfl,l,rfl,⟨_,.of P8.1⟩,?_⟩;refine W5 (H0:=H7) (YY (K:=K) (.of P7.1)) (λj J H'=>∃(ds:TN) (Fs:List (Nat->Bool)) (v6:TK),J=[some (.ref ra),some (.int (p:Nat)),some (.ref l),some (.ref sa),some (.ref D),some (.ref Fn),v6]/\Zw H7 H'/\WJ H' Fn t p m e ds Fs/\FiS m (gW t ω i) (M.take j) Fs)
      ⟨[],[],_,rfl,s8,⟨h8,rfl,λj b hb=>by simp at hb⟩,by rw[eX];exact .nil⟩ (λj J H' h=>by
       obtain⟨_,_,_,_,sm,_⟩:=h;exact sm) ?_ ?_
     ·rintro j y J H9 hy ⟨ds,Fs,v6,rfl,s9,P9,F9⟩
      have hj:j<M.length:=by
       have:=(ac.mp hy).1;rw[m6] at this;exact this
      rw[Zc,Zf (show j<cs.length by rw[O.2.1];exact hj)] at hy;cases hy;obtain⟨S,hS,hb⟩:=P7.2.2 j _ (Zf (show j<cs.length by rw[O.2.1];exact hj));generalize cs[j]'(by rw[O.2.1];exact hj)=b at hb ⊢;refine⟨_,rfl,.inl ⟨rfl,_,.of P9.1⟩,_,rfl,_,rfl,_,rfl,D,b,t,p,m,e,ω,φ,S,i,rfl,C,Y,hi,pl,hL.mono s9,s9 _ _ hb,λB bs Ts t9 nB o6 pS pA=>?_⟩;have m7:=P9.mono o6;have m5:FiS m (gW t ω i) (M.take (j+1)) (Fs++Ts):=by
       rw[cx,hS];exact .snoc F9 pS
      have u5:Fs.length+Ts.length<=m:=by
       have hd:=m5.dj (cR (jb _ _) A6.dj);have:=L2.Z3 ((Fs++Ts).map (pkS m)) (ae m) (Zas (λT' m8=>(m5.out.1 T' m8).1) hd) (λx hx=>by
        obtain⟨T',m8,rfl⟩:=az.mp hx;exact af.mpr (Xe (m5.out.1 T' m8).1).1)
       rwa [Za,Zd,Zg] at this
      refine⟨Fn,B,_,_,rfl,rfl,m7.1,pA.1,by rw[Za,Za,m7.2.1,pA.2.1];omega,?_⟩;refine⟨ds++bs,Fs++Ts,_,rfl,(s9.trans o6).updr o5,?_,m5⟩;exact m7.ext m1 pA
     ·rintro J H9 ⟨ds,Fs,v6,rfl,s9,P9,F9⟩
      rw[m6,cD] at F9;exact⟨_,rfl,Fn,ds,Fs,_,_,_,_,rfl,U.trans s9,P9,A6.step F9⟩
   ·have r8:m<=M.length:=by
     apply aj;intro z;exact n9 (decide_eq_true (by omega))
    exact⟨l,cs,M,_,_,_,_,rfl,s6,O,A6.skip r8⟩
  ·rintro J H6 ⟨l,cs,M,v3,v4,v5,v6,rfl,s6,O,A6⟩
   rw[cl] at A6;obtain⟨hp,o7⟩:=A6.end wj;refine⟨_,rfl,q l cs (M.map (pkS m)) H6 s6 ⟨O.1,by rw[Za];exact O.2.1,hp,λj b hb=>?_⟩⟩;obtain⟨S,h1,h2⟩:=O.2.2 j b hb;rw[h2];congr 2;have hS:S∈M:=av h1;have e6:(M.map (pkS m)).getD j 0=pkS m S:=by rw[Zb,Zc,h1];rfl
   have pk:=(Xe (A6.ne S hS)).1;refine Wq λc hc=>?_;rw[e6,<-ZoU C Y pk hc];refine JV (λs hs=>?_) c;unfold Xa;rw[o7 S hS s hs];by_cases z:s=pkS m S
   ·rw[if_pos z,if_pos (decide_eq_true z)]
   ·rw[if_neg z,if_neg (by rw[decide_eq_false z];decide)]
end
noncomputable abbrev Zg6:Stmt:=top 31
def wkF (t:T9)(a k:Nat):Int:=(YW t (it t a k):Nat)
structure ZoT (H:Hp)(L:Addr)(t:T9)(n:Nat)(cs:TN):Prop where
 at':H L=some (.lst (cs.map V.ref))
 len:cs.length=n
 it:∀(c:Nat) b,cs[c]?=some b->H b=some (.lst (ZN (rdT t (ZM t c)) (wkF t (ZM t c))))
inductive ZaY (vs:TL) (H:Hp) (Q:VK) (E03:XK):Prop
 |mk (g:Addr) (t:T9):(vs=[.ref g])->(GT H g t)->(PW t)->(∀L cs H',Zw H H'->ZoT H' L t (ZC t t.length).length cs->Q (.ref L) H')->ZaY vs H Q E03
def but (H:Hp)(W:Addr):Hp:=λb=>if b=W then none else H b
theorem Vq {H:Hp}{W b:Addr}{o:HO}(h:H b=some o)(hb:b≠W):but H W b=some o:=by unfold but;rw[if_neg hb];exact h
theorem Zbw {H:Hp}{W b:Addr}{o:HO}(h:but H W b=some o):b≠W/\H b=some o:=by
 unfold but at h;by_cases z:b=W
 ·rw[if_pos z] at h;cases h
 ·rw[if_neg z] at h;exact⟨z,h⟩
theorem Zb8 {cs:TN}{m:Nat}{v:Nat->Int}(j:1<=m):ZN m v≠cs.map V.ref:=(Uh j).symm
section
variable {P:Program}{w:World}{K:aa}{mg:TR}{base:Heap}
theorem ZhQ {f:Addr}{fd:FuncData}(F:Wu K "power_walks" "power_walks" Zg6 f fd)(GN:Fn P w K mg base Z9 5 "class_numbers" ["group"] Za5)(GC:Fn P w K mg base Z9 4 "classes_of" ["group"] WP):Z2 P w K mg base Z9 6 f fd ["group"] ZaY:=by
 refine F.ok (FS (N:=["group", "numbers", "walks", "members", "walk", "a"])) (λvs H Q E h=>?_) (λt9 A p4 s H vs Q E hr h=>?_)
 ·obtain⟨g,t,rfl,_⟩:=h;rfl
 ·obtain⟨g,t,rfl,G,M,q⟩:=h
  refine⟨_,Zt (ZG 1 rfl (Yz GN hr ZF (pc (vn 0) Zs)))
   (Zt (ZG 2 rfl (ZK Zs))
   (Zt (ZV ao rfl (itT K (Yz GC hr ZF (pc (vn 0) Zs))) (gn 3)
    (Zt (ZG 4 rfl (ZK (pc Zv Zs)))
    (Zt (ZG 5 rfl (ZB (Wa K) (vn 3) Zv (λ_ _=>rfl)))
    (Zt (Yv ao (ZH WG (vn 5) Zv (ZI _))
     (Zt (Yq (Wh aG aO aS ZZ (vn 4) (pc (ZB (Wa K) (vn 1) (vn 5) (λ_ _=>rfl)) Zs)))
     (Zx (ZG 5 rfl (ZB (Wa K) (ZB (Wa K) (vn 0) (vn 5) (λ_ _=>rfl)) (ZB (Wa K) (vn 3) Zv (λ_ _=>rfl)) (λ_ _=>rfl))))))
    (Zx (Yq (Wh aG aO aS ZZ (vn 2) (pc (vn 4) Zs))))))))
   (Zx (ZE (vn 2))))),?_⟩
  have sz:=Ja;have u5:=M.n60;have ul:=Wn (t:=t) t.length;have U:=YU M;refine⟨_,rfl,g,t,rfl,G,M,λr0 H1 s1 m8=>?_⟩;replace m8:H1 r0=some (.tup ((Yl t.length (JO t)).map nV)):=m8;refine⟨WK,λW nW=>?_⟩;have s2:=Zw.upd (H:=H1) (o:=.lst []) nW;have h2:upd H1 W (.lst []) W=some (.lst ([]:TL)):=Zu;generalize upd H1 W (.lst [])=H2 at s2 h2 ⊢;have n9:=s1.trans s2;refine⟨_,rfl,g,t,rfl,G.mono n9,M,λc H3 s3 p6=>?_⟩;have o0:=n9.trans s3;have p7:H W=none:=s1.free nW;obtain⟨rs,c1,c2,c3⟩:=p6.row;have cl:(rs.map V.ref).length=(ZC t t.length).length:=by rw[Za,c2]
  have h3:=s3 _ _ h2;have m9:=(s2.trans s3) _ _ m8;generalize hm:(ZC t t.length).length=m at *;refine⟨c,rfl,⟨_,.of c1⟩,?_⟩;refine W5 (H0:=but H3 W) (YM (K:=K) (.of (Vq c1 (λz=>by rw[z,h3] at c1;cases c1)))) (λi J H'=>∃(cs:TN) (v3 v4 v5:TK),J=[some (.ref g),some (.ref r0),some (.ref W),v3,v4,v5]/\Zw (but H3 W) H'/\ZoT H' W t i cs)
   ⟨[],_,_,_,rfl,λb o hb=>(Zbw hb).2,h3,rfl,λc b hb=>by simp at hb⟩ (λi J H' h=>by
    obtain⟨_,_,_,_,_,sm,_⟩:=h;exact sm) ?_ ?_
  ·rintro i y J O hy ⟨cs,v3,v4,v5,rfl,s4,W4⟩
   obtain⟨r,rfl,hi,Y⟩:=c3 i y hy;have k4:∀{b:Addr}{o:HO},H3 b=some o->b≠W->O b=some o:=λ{b o} hb z=>s4 b o (Vq hb z);have hR:=U.rl i (by omega);obtain⟨m5,p8,o5⟩:=ZbK M (k:=i) (by omega);have p9:hdT t i=ZM t i:=rfl;rw[p9] at m5 p8 o5;generalize ha:ZM t i=a at *;obtain⟨rd,R⟩:=M.rd a m5;have r6:=Zbq R;have r1:=R.r1;have rn:=R.rn;have o6:=k4 Y (λz=>by rw[z,h3] at Y;cases Y);have r8:=k4 m9 (λz=>by rw[z,h3] at m9;cases m9);have G3:=G.mono o0;have G4:GT O g t:=by
    obtain⟨gs,g1,g2,g3⟩:=G3;refine⟨gs,k4 g1 (λz=>by rw[z,h3] at g1;cases g1),g2,λj b hb=>?_⟩;obtain⟨o,ho,r9⟩:=g3 j b hb;exact⟨o,k4 ho (λz=>by rw[z,h3] at ho;cases ho),r9⟩
   refine⟨WK,λwk n6=>?_⟩;have s5:=Zw.upd (H:=O) (o:=.lst [.int 0]) n6;have h5:upd O wk (.lst [.int 0]) wk=some (.lst (ZN 1 (wkF t a))):=by
    rw[Zu];show some (HO.lst [V.int 0])=some (HO.lst [V.int ((YW t (it t a 0):Nat):Int)]);rw[show it t a 0=0 from rfl,UO M];rfl
   generalize upd O wk (.lst [.int 0])=H5 at s5 h5 ⊢;have m6:Xu (((ZC t t.length).getD i []).map nV) 0=some (V.int (a:Nat)):=by
    refine ZA (j:=0) ?_;rw[Zc,o5];rfl
   have t0:=s5 _ _ o6;refine⟨_,rfl,r,_,_,_,rfl,rfl,.of t0,m6,?_⟩;have t8:∀{b:Addr}{o:HO},O b=some o->b≠wk:=λ{b o} hb z=>by rw[z,n6] at hb;cases hb
   refine Yn (λx J H'=>∃k:Nat,J=[some (.ref g),some (.ref r0),some (.ref W),some (.ref r),some (.ref wk),some (.int ((it t a k:Nat):Int))]/\Zw O H'/\H' wk=some (.lst (ZN k (wkF t a)))/\1<=k/\k<=rd/\x=rd-k)
    (λJ H'=>∃v5:TK,J=[some (.ref g),some (.ref r0),some (.ref W),some (.ref r),some (.ref wk),v5]/\Zw O H'/\H' wk=some (.lst (ZN rd (wkF t a)))) ?hend ⟨rd-1,1,by rw[Zd9 M m5];rfl,s5,h5,Zq _,r1,rfl⟩ ?turn
   case hend=>
    rintro J H6 ⟨u9,rfl,s6,h6⟩;have n8:=s6 _ _ W4.at';have o7:∀{b:Addr}{v:Nat->Int}{n:Nat},1<=n->H6 b=some (.lst (ZN n v))->b≠W:=λ{b v n} hn hb=>Zby hb n8 (Zb8 hn);refine⟨_,rfl,.inl ⟨rfl,_,.of n8⟩,_,rfl,W,_,_,rfl,rfl,n8,by rw[Za,W4.len];omega,?_⟩;refine⟨cs++[wk],_,_,_,rfl,λb o hb=>?_,⟨by rw[Zu,aN];rfl,by rw[Zd,W4.len];rfl,λc' b hb=>?_⟩⟩
    ·rw[Zy (Zbw hb).1]
     exact (s4.trans s6) b o hb
    ·by_cases t6:c'<cs.length
     ·rw[ak t6] at hb
      have o8:=s6 _ _ (W4.it c' b hb);obtain⟨w8,R'⟩:=M.rd (ZM t c') (U.rl c' (by have:=W4.len;omega));rw[Zy (o7 (by rw[Zbq R'];exact R'.r1) o8)];exact o8
     ·have hl:=(ac.mp hb).1
      rw[Zd,Zk] at hl;have ec:c'=cs.length:=by omega
      rw[aq (by omega),ec,cr] at hb;cases hb;rw[ec,W4.len,ha,r6,Zy (o7 r1 h6)];exact h6
   case turn=>
    rintro m7 x J H6 ⟨k,rfl,s6,h6,k1,kr,rfl⟩;have il:=WX M m5 k;refine⟨_,rfl,rfl,_,rfl,?_⟩;refine Z1 (λq1=>?_) (λq1=>?_)
    ·have q1:=ZpM q1
     have kn:k≠rd:=λz=>by rw[z,R.z] at q1;exact q1 rfl
     have t7:=s6 _ _ r8;have o9:Xu ((Yl t.length (JO t)).map nV) ((it t a k:Nat):Int)=some (V.int (wkF t a k)):=by
      refine ZA ?_;unfold Yl;rw[Zc,Zc,ai il];show some (V.int ((JO t (it t a k):Nat):Int))=_;rw[Zbx M il];rfl
     refine⟨_,λ_ _ z=>z,_,rfl,.inl ⟨rfl,_,.of h6⟩,_,rfl,_,rfl,r0,_,_,_,rfl,rfl,.of t7,o9,wk,_,_,rfl,rfl,h6,by rw[Ys];omega,?_⟩;rw[<-Zb7];have s7:Zw O (upd H6 wk (.lst (ZN (k+1) (wkF t a)))):=s6.updr n6;have h7:upd H6 wk (.lst (ZN (k+1) (wkF t a))) wk=some (.lst (ZN (k+1) (wkF t a))):=Zu;generalize upd H6 wk (.lst (ZN (k+1) (wkF t a)))=H7 at s7 h7 ⊢;obtain⟨gr,ga,u1,_,u2,u3,u4⟩:=(G4.mono s7).at M il;refine⟨_,rfl,_,rfl,g,_,_,_,rfl,rfl,.of u1,u2,_,rfl,r,_,_,_,rfl,rfl,.of (s7 _ _ o6),m6,ga,_,_,_,rfl,rfl,u3.sq,u4 a m5,?_⟩;exact⟨rd-(k+1),by omega,k+1,rfl,s7,h7,by omega,by omega,rfl⟩
    ·have q1:=ZpN q1
     have:k=rd:=by
      apply aj;intro z;exact R.nz k k1 (by omega) (by omega)
     rw[this] at h6;exact m7 _ _ ⟨_,rfl,s6,h6⟩
  ·rintro J O ⟨cs,v3,v4,v5,rfl,s4,W4⟩
   rw[cl] at W4;exact⟨_,rfl,q W cs O (λb o hb=>s4 b o (Vq (o0 _ _ hb) (λz=>by rw[z,p7] at hb;cases hb))) W4⟩
end
end C55
namespace N55
open PySem L2 PySem.Spec PyProof.Rows
def top (i:Nat):Stmt:=fX.main.body.getD i (.Pass ⟨0,0,0,0⟩)
structure Bl (mg:TR):Prop where
 list:mg "list"=none
 len:mg "len"=none
 abs:mg "abs"=none
 range:mg "range"=none
 tuple:mg "tuple"=none
 isi:mg "isinstance"=none
 all:mg "all"=none
 set:mg "set"=none
 repr:mg "repr"=none
 any:mg "any"=none
 int:mg "int"=none
 bool:mg "bool"=none
section
variable {P:Program}{w:World}{K:aa}{mg:TR}{base:Heap}
end
section
variable {P:Program}{w:World}{K:aa}{mg:TR}{base:Heap}
end
noncomputable abbrev Zez:Stmt:=top 21
def strip:Nat->Int->Int->Int
 |0,r,_=>r
 |g+1,r,p=>if r % p=0 then strip g (r / p) p else r
def pr:Nat->Int->Int->TV->TV
 |0,_,_,ZJ=>ZJ
 |f+1,r,p,ZJ=>if 1<r then pr f (strip 6 r p) (p+1) (if r % p=0 then ZJ++[p] else ZJ) else ZJ
def Zeh:Nat->Int->Int->Bool
 |0,r,_=>decide (r<=1)
 |f+1,r,p=>if 1<r then Zeh f (strip 6 r p) (p+1) else true
def YA (n:Int):TV:=pr 100 n 2 []
def ZcE (n:Int):Int:=(YA n).foldl (λf p=>f / p*(p-1)) n
def Zoq:Nat->Int->Int->Int
 |0,a,_=>a
 |f+1,a,b=>if 0<b then Zoq f b (a % b) else a
def ZpT (a b:Int):Int:=Zoq 100 a b
def Zln (n:Int):Int:=(((YC 1 n.toNat).filter λk=>decide (ZpT k n=1)).length:Nat)
def okN (n:Nat):Bool:=Zeh 100 n 2 && (YA n).all (λp=>decide (2<=p) && decide (p<=60)) && decide (ZcE n=Zln n) && decide (1<=ZcE n) && decide (ZcE n<=60)
theorem Zkf:((ae 61).all λn=>n == 0 || okN n)=true:=by decide +kernel
theorem Zmy {n:Nat}(q:1<=n)(J:n<=60):Zeh 100 n 2=true/\(∀p∈YA n,2<=p/\p<=60)/\ZcE n=Zln n/\1<=ZcE n/\ZcE n<=60:=by
 have h:=aR.mp Zkf n (af.mpr (by omega));have j:(n == 0)=false:=by simp;omega
 rw[j,gG] at h;unfold okN at h;simp only[ah,decide_eq_true_eq,aR] at h;exact⟨h.1.1.1.1,h.1.1.1.2,h.1.1.2,h.1.2,h.2⟩
theorem UI {r p:Int}(J:1<=r)(j:2<=p)(h:r % p=0):1<=r / p/\2*(r / p)<=r:=by
 have e:p*(r / p)=r:=Int.mul_ediv_cancel' (Int.dvd_of_emod_eq_zero h);generalize r / p=q at e;have M:1<=q:=by
  apply aj;intro O;have:p*q<=p*0:=Int.mul_le_mul_of_nonneg_left (by omega) (by omega);omega
 have:2*q<=p*q:=cZ j (by omega);omega
theorem XE:∀(g:Nat) {r p:Int},1<=r->2<=p->1<=strip g r p/\strip g r p<=r
 |0,r,p,j,_=>⟨j,Int.le_refl _⟩
 |g+1,r,p,j,q=>by
  unfold strip;by_cases h:r % p=0
  ·rw[if_pos h]
   obtain⟨a,b⟩:=UI j q h;have:=XE g (r:=r / p) (p:=p) a q;omega
  ·rw[if_neg h];omega
theorem V5 {g:Nat}{r p:Int}(h:¬r % p=0):strip g r p=r:=by
 cases g with
 |zero=>rfl
 |succ g=>unfold strip;rw[if_neg h]
inductive V9 (vs:TL) (H:Hp) (Q:VK) (E03:XK):Prop
 |mk (n:Nat):(vs=[.int n])->(1<=n)->(n<=60)->(∀l H',Zw H H'->H' l=some (.lst ((YA n).map V.int))->Q (.ref l) H')->V9 vs H Q E03
section
variable {P:Program}{w:World}{K:aa}{mg:TR}{base:Heap}
theorem ZfK {f:Addr}{fd:FuncData}(F:Wu K "primes_of" "primes_of" Zez f fd)(T:Bl mg):Z2 P w K mg base Z9 1 f fd ["n"] V9:=by
 refine F.ok (FS (N:=["n", "primes", "rest", "p"])) (λvs H Q E h=>?_) (λo6 A n6 s H vs Q E hr h=>?_)
 ·obtain⟨n,rfl,_⟩:=h;rfl
 ·obtain⟨n,rfl,n1,n60,q⟩:=h
  obtain⟨m8,o7,_⟩:=Zmy n1 n60;refine⟨_,Zt (ZG 1 rfl (ZK Zs)) (Zt (ZG 2 rfl (vn 0)) (Zt (ZG 3 rfl Zv)
   (Zt (Yv ao (ZH Zlk (vn 2) Zv (ZI _))
    (Zt (Yx (ZH WH (Zz ZX (vn 2) (vn 3)) Zv (ZI _)) (Zx (Yq (Wh aG aO aS ZZ (vn 1) (pc (vn 3) Zs)))) ZT)
    (Zt (Yv ao (ZH WH (Zz ZX (vn 2) (vn 3)) Zv (ZI _)) (Zx (ZG 2 rfl (Zz Wi (vn 2) (vn 3)))))
    (Zx (JN (i:=3) (Z7 (by kernel_rfl)) rfl (YV (by kernel_rfl)) Zv Jg (.inl rfl))))))
   (Zx (ZE (vn 1)))))),?_⟩
  refine⟨by decide,λl hl=>⟨_,rfl,?_⟩⟩;have s1:Zw H (upd H l (.lst [])):=Zw.upd hl;refine Yn (λf O H'=>∃(r p:Int) (ZJ:TV),O=[some (.int n),some (.ref l),some (.int r),some (.int p)]/\H'=upd H l (.lst (ZJ.map V.int))/\1<=r/\r<=60/\2<=p/\p+f=102/\ZJ.length+f<=100/\Zeh f r p=true/\pr f r p ZJ=YA n)
   (λO H'=>∃r p:TK,O=[some (.int n),some (.ref l),r,p]/\H'=upd H l (.lst ((YA n).map V.int))) ?hend ⟨100,n,2,[],rfl,rfl,by omega,by omega,by omega,by omega,by decide,m8,rfl⟩ ?turn
  case hend=>
   rintro O H' ⟨r,p,rfl,rfl⟩;exact⟨_,rfl,q l _ (Zw.upd hl) Zu⟩
  case turn=>
   rintro m6 f O H' ⟨r,p,ZJ,rfl,rfl,r1,n8,p2,pf,al,he,hp⟩;refine⟨_,rfl,_,_,rfl,rfl,_,rfl,?_⟩;refine Z1 (λh1=>?_) (λh1=>?_)
   rotate_left
   ·have h1:¬ 1<r:=λz=>h1 (decide_eq_true z)
    refine m6 _ _ ⟨_,_,rfl,?_⟩;have:pr f r p ZJ=ZJ:=by cases f with|zero=>rfl|succ f=>unfold pr;rw[if_neg h1]
    rw[<-hp,this]
   have h1:1<r:=of_decide_eq_true h1;obtain⟨g,rfl⟩:∃g,f=g+1:=by
    cases f with
    |zero=>unfold Zeh at he;have:=of_decide_eq_true he;omega
    |succ g=>exact⟨g,rfl⟩
   refine⟨_,λ_ _ z=>z,?_⟩;unfold Zeh at he;unfold pr at hp;rw[if_pos h1] at he hp;have sz:=Ja;refine⟨_,rfl,_,rfl,_,_,rfl,rfl,(by show (0:Int)<p;omega),rfl,_,rfl,?_⟩;obtain⟨j,m7,m9,hA⟩:∃j:TV,j=(if r % p=0 then ZJ++[p] else ZJ)/\pr g (strip 6 r p) (p+1) j=YA n/\j.length<=ZJ.length+1:=⟨_,rfl,hp,by split <;> simp⟩
   obtain⟨n9,o8⟩:=XE 6 (r:=r) (p:=p) r1 p2;refine Z1 (λh2=>?_) (λh2=>?_)
   ·have h2:r % p=0:=V.int.inj (of_decide_eq_true h2)
    refine⟨_,rfl,.inl ⟨rfl,_,.of Zu⟩,_,rfl,l,_,_,rfl,rfl,Zu,by rw[Za];omega,?_⟩;have e1:upd (upd H l (.lst (ZJ.map V.int))) l (.lst (ZJ.map V.int++[.int p]))=upd H l (.lst (j.map V.int)):=by
     rw[Zjl,m7,if_pos h2,aN];rfl
    rw[e1];refine Yn (λm J M=>∃(U:Int) (g':Nat),J=[some (.int n),some (.ref l),some (.int U),some (.int p)]/\M=upd H l (.lst (j.map V.int))/\1<=U/\U<=60/\U<2 ^ g'/\strip g' U p=strip 6 r p/\m=U.toNat)
     (λJ M=>J=[some (.int n),some (.ref l),some (.int (strip 6 r p)),some (.int p)]/\M=upd H l (.lst (j.map V.int))) ?hend2 ⟨_,r,6,rfl,rfl,r1,n8,by omega,rfl,rfl⟩ ?turn2
    case hend2=>
     rintro J M ⟨rfl,rfl⟩;exact⟨_,rfl,_,_,rfl,rfl,g,by omega,strip 6 r p,p+1,j,rfl,rfl,n9,by omega,by omega,by omega,by omega,he,m9⟩
    case turn2=>
     rintro Y m J M ⟨U,g',rfl,rfl,a1,a2,a3,a4,rfl⟩;refine⟨_,rfl,_,rfl,_,_,rfl,rfl,(by show (0:Int)<p;omega),rfl,_,rfl,?_⟩;refine Z1 (λh3=>?_) (λh3=>?_)
     ·have h3:U % p=0:=V.int.inj (of_decide_eq_true h3)
      obtain⟨b1,b2⟩:=UI a1 p2 h3;obtain⟨g2,rfl⟩:∃g2,g'=g2+1:=by
       cases g' with
       |zero=>simp at a3;omega
       |succ g2=>exact⟨g2,rfl⟩
      unfold strip at a4;rw[if_pos h3] at a4;refine⟨_,λ_ _ z=>z,_,rfl,_,rfl,_,_,rfl,rfl,⟨by omega,by omega⟩,(U / p).toNat,by omega,U / p,g2,rfl,rfl,b1,by omega,?_,a4,rfl⟩;rw[Int.pow_succ] at a3;omega
     ·have h3:¬U % p=0:=λz=>h3 (decide_eq_true (congrArg V.int z))
      rw[V5 h3] at a4;exact Y _ _ ⟨by rw[a4],rfl⟩
   ·have h2:¬r % p=0:=λz=>h2 (decide_eq_true (congrArg V.int z))
    have e1:upd H l (.lst (ZJ.map V.int))=upd H l (.lst (j.map V.int)):=by rw[m7,if_neg h2]
    rw[e1];have e2:strip 6 r p=r:=V5 h2;refine Yn (λm J M=>J=[some (.int n),some (.ref l),some (.int r),some (.int p)]/\M=upd H l (.lst (j.map V.int)))
     (λJ M=>J=[some (.int n),some (.ref l),some (.int r),some (.int p)]/\M=upd H l (.lst (j.map V.int))) ?hend3 ⟨0,rfl,rfl⟩ ?turn3
    case hend3=>
     rintro J M ⟨rfl,rfl⟩;exact⟨_,rfl,_,_,rfl,rfl,g,by omega,r,p+1,j,rfl,rfl,r1,by omega,by omega,by omega,by omega,e2▸he,e2▸m9⟩
    case turn3=>
     rintro m5 m J M ⟨rfl,rfl⟩;refine⟨_,rfl,_,rfl,_,_,rfl,rfl,(by show (0:Int)<p;omega),rfl,_,rfl,?_⟩;exact Zd8 (λz=>h2 (V.int.inj (of_decide_eq_true z))) (m5 _ _ ⟨rfl,rfl⟩)
end
section
variable {P:Program}{w:World}{K:aa}{mg:TR}{base:Heap}
theorem Zhu (m:Nat):(aw m [V.int 0]).flatten=(aw m (0:Int)).map V.int:=by
 induction m with
 |zero=>rfl
 |succ m j=>rw[bf,ce,j,bf];rfl
end
section
variable {P:Program}{w:World}{K:aa}{mg:TR}{base:Heap}
end
end N55
namespace L2
open PySem PySem.Spec PyProof.Rows
end L2
namespace N55
open PySem L2 PySem.Spec PyProof.Rows
section
variable {P:Program}{w:World}{K:aa}{mg:TR}{base:Heap}
end
end N55
set_option maxHeartbeats 1000000
namespace Num
def co (a:TV)(i:Nat):Int:=a.getD i 0
theorem Y6 (i:Nat):co [] i=0:=by simp[co]
theorem YZ (x:Int)(r:TV):co (x::r) 0=x:=by simp[co]
theorem WL (x:Int)(r:TV)(i:Nat):co (x::r) (i+1)=co r i:=by simp[co]
theorem Xi {a:TV}{i:Nat}(h:a.length<=i):co a i=0:=by
 unfold co;rw[Zb,ag h];rfl
theorem WE {a:TV}{i:Nat}(h:i<a.length):a[i]?=some (co a i):=by
 unfold co;rw[Zb,Zf h];rfl
def U4:TV->TV->TV
 | [],b=>b
 |a,[]=>a
 |x::a,y::b=>(x+y)::U4 a b
def vsc (c:Int)(a:TV):TV:=a.map (c * ·)
theorem X2:∀(a b:TV) (i:Nat),co (U4 a b) i=co a i+co b i
 | [],b,i=>by rw[U4,Y6,dA]
 |x::a,[],i=>by rw[U4,Y6,cC];intro z;cases z
 |x::a,y::b,0=>by rw[U4,YZ,YZ,YZ]
 |x::a,y::b,i+1=>by rw[U4,WL,WL,WL,X2 a b i]
theorem Zei (c:Int):∀(a:TV) (i:Nat),co (vsc c a) i=c*co a i
 | [],i=>by unfold vsc;rw[e7,Y6,cu]
 |x::a,0=>by unfold vsc;rw[aB,YZ,YZ]
 |x::a,i+1=>by
  have:=Zei c a i;unfold vsc at this ⊢;rw[aB,WL,WL,this]
def Jh:TV->TZ->TV
 |_,[]=>[]
 |a,r::j=>U4 (vsc (co a 0) r) (Jh a.tail j)
theorem ZkN (a:TV)(i:Nat):co a.tail i=co a (i+1):=by
 cases a with
 |nil=>rw[List.tail_nil,Y6,Y6]
 |cons x r=>rw[cS,WL]
theorem Z0 (a:TV)(r:TV)(q:TZ)(j:Nat):co (Jh a (r::q)) j=co a 0*co r j+co (Jh a.tail q) j:=by
 rw[Jh,X2,Zei]
def ro (R:TZ)(i:Nat):TV:=R.getD i []
theorem Zbm (r:TV)(j:TZ):ro (r::j) 0=r:=by simp[ro]
theorem Zbn (r:TV)(j:TZ)(i:Nat):ro (r::j) (i+1)=ro j i:=by simp[ro]
theorem Zl5 (i:Nat):ro [] i=[]:=by simp[ro]
theorem ZbG (j:Nat)(v:Int):∀(a:TV) (i:Nat) (R:TZ),i<a.length->co (Jh (a.set i v) R) j=co (Jh a R) j+(v-co a i)*co (ro R i) j
 |a,i,[],h=>by rw[Zl5,Y6,cu,cC];unfold Jh;rfl
 | [],i,r::q,h=>by cases h
 |x::a,0,r::q,h=>by
  rw[List.set_cons_zero,Z0,Z0,YZ,YZ,Zbm,cS,cS,l9];omega
 |x::a,i+1,r::q,h=>by
  rw[List.set_cons_succ,Z0,Z0,YZ,YZ,WL,Zbn,cS,cS,ZbG j v a i q (fj h)];omega
theorem XW:∀(R:TZ) (j:Nat),co (Jh [] R) j=0
 | [],j=>by unfold Jh;exact Y6 j
 |r::q,j=>by rw[Z0,Y6,List.tail_nil,XW q j,ci,cC]
theorem Zaz:∀(m:Nat) (R:TZ) (j:Nat),co (Jh (aw m 0) R) j=0
 |0,R,j=>XW R j
 |m+1,[],j=>by unfold Jh;exact Y6 j
 |m+1,r::q,j=>by rw[Z0,bf,YZ,cS,Zaz m q j,ci,cC]
def sig (n:Nat)(R:TZ)(j:Nat):TV->Nat->Int
 | [],_=>0
 |x::q,k=>x*co (ro R (k % n)) j+sig n R j q (k+1)
def Vy (n:Nat):TV->Nat->TV->TV
 | [],_,ZJ=>ZJ
 |x::j,k,ZJ=>Vy n j (k+1) (ZJ.set (k % n) (co ZJ (k % n)+x))
def Zc7 (n:Nat)(j:TV):TV:=Vy n j 0 (aw n 0)
theorem ZcZ (n:Nat)(q:0<n)(R:TZ)(j:Nat):∀(J:TV) (k:Nat) (ZJ:TV),ZJ.length=n->co (Jh (Vy n J k ZJ) R) j=co (Jh ZJ R) j+sig n R j J k
 | [],k,ZJ,h=>by rw[Vy,sig,cC]
 |x::M,k,ZJ,h=>by
  rw[Vy,ZcZ n q R j M (k+1) _ (by rw[aX,h]),ZbG j _ ZJ (k % n) R (by rw[h];exact bO _ q),sig];have e:co ZJ (k % n)+x-co ZJ (k % n)=x:=by omega
  rw[e];omega
theorem ZfV (n:Nat)(J:0<n)(R:TZ)(q:TV)(j:Nat):co (Jh (Zc7 n q) R) j=sig n R j q 0:=by
 unfold Zc7;rw[ZcZ n J R j q 0 _ (dJ ..),Zaz,dA]
theorem Zan (n:Nat)(R:TZ)(j:Nat)(B M:Nat)(hR:∀i,(co (ro R i) j).natAbs<=M):∀(a:TV) (k:Nat),(∀x∈a,x.natAbs<=B)->(sig n R j a k).natAbs<=a.length*(B*M)
 | [],k,h=>by simp[sig]
 |x::a,k,h=>by
  rw[sig,Zi,cg];have J:=Zan n R j B M hR a (k+1) λy q=>h y (aE _ q);have O:(x*co (ro R (k % n)) j).natAbs<=B*M:=by
   rw[Int.natAbs_mul];exact iF (h x aA) (hR _)
  have U:=Int.natAbs_add_le (x*co (ro R (k % n)) j) (sig n R j a (k+1));omega
def lk (n:Nat)(s:Nat)(g:Nat->Int):Nat->Int:=λk=>g k-g ((k+(n-s)) % n)
def U2 (n:Nat)(j:TY)(g:Nat->Int):Nat->Int:=j.foldl (λg s=>lk n s g) g
theorem ZeY (n:Nat):∀(j:TY) (g h:Nat->Int) (k:Nat),U2 n j (λt=>g t+h t) k=U2 n j g k+U2 n j h k
 | [],g,h,k=>rfl
 |s::j,g,h,k=>by
  show U2 n j (lk n s λt=>g t+h t) k=U2 n j (lk n s g) k+U2 n j (lk n s h) k;rw[<-ZeY n j (lk n s g) (lk n s h) k];congr 1;funext t;unfold lk;show g t+h t-(g ((t+(n-s)) % n)+h ((t+(n-s)) % n))=_;omega
theorem Zic (n:Nat)(c:Int):∀(j:TY) (g:Nat->Int) (k:Nat),U2 n j (λt=>c*g t) k=c*U2 n j g k
 | [],g,k=>rfl
 |s::j,g,k=>by
  show U2 n j (lk n s λt=>c*g t) k=c*U2 n j (lk n s g) k;rw[<-Zic n c j (lk n s g) k];congr 1;funext t;unfold lk;rw[jH]
theorem ZcX (n:Nat):∀(j:TY) (k:Nat),U2 n j (λ_=>0) k=0
 | [],k=>rfl
 |s::j,k=>by
  show U2 n j (lk n s λ_=>0) k=0;have:(lk n s λ_=>(0:Int))=λ_=>0:=by funext t;unfold lk;rfl
  rw[this];exact ZcX n j k
theorem Jm (n:Nat)(J:0<n):∀(j:TY) (g h:Nat->Int),(∀t,t<n->g t=h t)->∀k,k<n->U2 n j g k=U2 n j h k
 | [],g,h,e,k,q=>e k q
 |s::j,g,h,e,k,q=>by
  refine Jm n J j (lk n s g) (lk n s h) (λt M=>?_) k q;unfold lk;rw[e t M,e _ (bO _ J)]
def lkL (n s:Nat)(a:TV):TV:=List.zipWith (· - ·) a (a.drop s++a.take s)
theorem ZeZ {n s:Nat}{a:TV}(h:a.length=n):(lkL n s a).length=n:=by
 unfold lkL;rw[List.length_zipWith,Zd,dX,b8];omega
theorem Zm4 {n s k:Nat}{a:TV}(h:a.length=n)(Y:s<=n)(J:k<n):co (lkL n s a) k=co a k-co a ((k+s) % n):=by
 have hl:(a.drop s++a.take s).length=n:=by
  rw[Zd,dX,b8];omega
 have M:(lkL n s a)[k]?=some (a[k]'(by omega)-(a.drop s++a.take s)[k]'(by omega)):=by
  unfold lkL;rw[List.getElem?_zipWith,Zf (by omega),Zf (by omega)]
 have g2:=WE (a:=lkL n s a) (i:=k) (by rw[ZeZ h];exact J);rw[M] at g2;have O:co a k=a[k]'(by omega):=by
  have:=WE (a:=a) (i:=k) (by omega);rw[Zf (by omega)] at this;exact (ax this).symm
 have U:co a ((k+s) % n)=(a.drop s++a.take s)[k]'(by omega):=by
  have j:(k+s) % n<a.length:=by rw[h];exact bO _ (by omega)
  have:=WE (a:=a) j;rw[Zf j] at this;rw[<-ax this];by_cases hc:k<n-s
  ·have q:(k+s) % n=k+s:=bH (by omega)
   rw[List.getElem_append_left (by rw[dX];omega),List.getElem_drop];congr 1;omega
  ·have q:(k+s) % n=k+s-n:=by
    rw[mG (by omega),bH (by omega)]
   rw[List.getElem_append_right (by rw[dX];omega),List.getElem_take];congr 1;rw[dX];omega
 rw[O,U];exact (ax g2).symm
def ZmI (n:Nat)(j:TY)(a:TV):TV:=j.foldl (λa s=>lkL n (n-s) a) a
theorem Zfj {n:Nat}:∀(j:TY) (a:TV),a.length=n->∀k,k<n->co (ZmI n j a) k=U2 n j (co a) k
 | [],a,h,k,q=>rfl
 |s::j,a,h,k,q=>by
  show co (ZmI n j (lkL n (n-s) a)) k=U2 n j (lk n s (co a)) k;rw[Zfj j _ (ZeZ h) k q];exact Jm n (by omega) j _ _ (λt J=>Zm4 h (Nat.sub_le _ _) J) k q
def YT:Nat->(Nat->Int)->Int
 |0,_=>0
 |n+1,f=>f 0+YT n λt=>f (t+1)
theorem Wr:∀(n:Nat) (f g:Nat->Int),(∀t,t<n->f t=g t)->YT n f=YT n g
 |0,f,g,h=>rfl
 |n+1,f,g,h=>by rw[YT,YT,h 0 (lh _),Wr n _ _ λt j=>h (t+1) (gZ j)]
theorem X9:∀(n:Nat) (f:Nat->Int),(∀t,t<n->f t=0)->YT n f=0
 |0,f,h=>rfl
 |n+1,f,h=>by rw[YT,h 0 (lh _),X9 n _ λt j=>h (t+1) (gZ j),cC]
theorem Zcc:∀(n j:Nat) (f:Nat->Int),j<n->(∀t,t<n->t≠j->f t=0)->YT n f=f j
 |0,j,f,q,h=>absurd q (eO _)
 |n+1,0,f,q,h=>by rw[YT,X9 n _ λt J=>h (t+1) (gZ J) (jx _),cC]
 |n+1,j+1,f,q,h=>by
  rw[YT,h 0 (lh _) (jx _).symm,dA];exact Zcc n j (λt=>f (t+1)) (fj q) λt J M=>h (t+1) (gZ J) λz=>M (cJ z)
theorem Ze0 (j:Nat):∀(R:TZ) (a:TV),co (Jh a R) j=YT R.length λt=>co a t*co (ro R t) j
 | [],a=>by rw[Jh,Y6];rfl
 |r::q,a=>by
  rw[Z0,Ze0 j q a.tail,Zi,YT,Zbm];congr 1;refine Wr _ _ _ λt J=>?_;rw[ZkN,Zbn]
def YO (n k:Nat):TV:=(ae n).map λt=>if t=k then 1 else 0
theorem ZbU {n k t:Nat}(h:t<n):co (YO n k) t=if t=k then 1 else 0:=by
 unfold YO co;rw[Zb,Zc,ai h];rfl
def stN (step:Nat):TV->Nat->TV->TV
 | [],_,ZJ=>ZJ
 |x::j,k,ZJ=>stN step j (k+1) (ZJ.set (k*step) x)
def stM (j:TV)(step:Nat):TV:=stN step j 0 (aw ((j.length-1)*step+1) 0)
theorem Zes (step:Nat):∀(j:TV) (k:Nat) (ZJ:TV),(stN step j k ZJ).length=ZJ.length
 | [],k,ZJ=>rfl
 |x::q,k,ZJ=>by rw[stN,Zes step q,aX]
theorem Zet (j:TV)(step:Nat):(stM j step).length=(j.length-1)*step+1:=by unfold stM;rw[Zes,Ze]
def U1:TV->Nat->Int->TV->TV
 | [],_,_,rest=>rest
 |d::j,b,c,rest=>U1 j (b+1) c (rest.set b (co rest b-c*d))
theorem ZeP:∀(ds:TV) (b:Nat) (c:Int) (rest:TV),(U1 ds b c rest).length=rest.length
 | [],b,c,rest=>rfl
 |d::ds,b,c,rest=>by rw[U1,ZeP ds,aX]
def ZhG (ds:TV)(top:Nat):Nat->TV->TV->TV
 |0,found,_=>found
 |k+1,found,rest=>ZhG ds top k (found.set k (co rest (k+top))) (U1 ds k (co rest (k+top)) rest)
def ZeO (j ds:TV):TV:=ZhG ds (ds.length-1) (j.length-(ds.length-1)) (aw (j.length-(ds.length-1)) 0) j
theorem ZiP {a:TV}{i k:Nat}{v:Int}:co (a.set i v) k=if i=k/\i<a.length then v else co a k:=by
 unfold co;rw[Zb,jc,Zb];by_cases h:i=k
 ·subst h
  by_cases j:i<a.length
  ·rw[if_pos rfl,if_pos j,if_pos ⟨rfl,j⟩];rfl
  ·rw[if_pos rfl,if_neg j,if_neg λz=>j z.2,ag (by omega)]
 ·rw[if_neg h,if_neg λz=>h z.1]
theorem ZdU (c:Int):∀(ds:TV) (b:Nat) (rest:TV) (i:Nat),b+ds.length<=rest.length->co (U1 ds b c rest) i=if b<=i/\i<b+ds.length then co rest i-c*co ds (i-b) else co rest i
 | [],b,rest,i,h=>by rw[U1,if_neg (by rw[eG];omega)]
 |d::ds,b,rest,i,h=>by
  rw[Zi] at h ⊢;rw[U1,ZdU c ds (b+1) _ i (by rw[aX];omega),ZiP];by_cases j:i=b
  ·subst j
   rw[if_neg (by omega),if_pos ⟨rfl,by omega⟩,if_pos ⟨Zq _,by omega⟩,cr,YZ]
  ·rw[if_neg (show ¬(b=i/\b<rest.length) from λz=>j z.1.symm)]
   by_cases q:b+1<=i/\i<b+1+ds.length
   ·rw[if_pos q,if_pos ⟨by omega,by omega⟩,show i-b=(i-(b+1))+1 by omega,WL]
   ·rw[if_neg q,if_neg (by omega)]
theorem Zid (d:Int)(ds:TV)(R:TZ)(b j:Nat):co (Jh (d::ds) (R.drop b)) j=d*co (ro R b) j+co (Jh ds (R.drop (b+1))) j:=by
 by_cases h:b<R.length
 ·rw[bR h,Z0,YZ,cS]
  congr 2;unfold ro;rw[Zb,Zf h];rfl
 ·rw[e9 (by omega),e9 (by omega)]
  unfold ro;rw[Zb,ag (by omega)];show co (Jh (d::ds) []) j=d*co [] j+co (Jh ds []) j;rw[Jh,Jh,Y6,cu,cC]
theorem Ze1 (c:Int)(R:TZ)(j:Nat):∀(ds:TV) (b:Nat) (rest:TV),b+ds.length<=rest.length->co (Jh (U1 ds b c rest) R) j=co (Jh rest R) j-c*co (Jh ds (R.drop b)) j
 | [],b,rest,h=>by rw[U1,XW,cu,lC]
 |d::ds,b,rest,h=>by
  rw[Zi] at h;rw[U1,Ze1 c R j ds (b+1) _ (by rw[aX];omega),ZbG j _ rest b R (by omega),Zid,Int.mul_add];have e:(co rest b-c*d-co rest b)*co (ro R b) j=- (c*(d*co (ro R b) j)):=by
   rw[show co rest b-c*d-co rest b=-(c*d) by omega,gF,cf]
  rw[e];omega
def Xo (s:TV×Int)(p:Int):TV×Int:=(ZeO (stM s.1 p.toNat) s.1,s.2*p)
def Jd (n:Nat)(j:TV):TV:=stM (j.foldl Xo ([-1,1],1)).1 ((n:Int) / (j.foldl Xo ([-1,1],1)).2).toNat
def small (a:TV):Bool:=a.all λx=>decide (x.natAbs<=100)
def Zkl (s:TV×Int):Bool:=small s.1 && decide (2<=s.1.length) && decide (s.1.length<=61) && decide (1<=s.2) && decide (s.2<=60)
def XV (s:TV×Int):TV->Bool
 | []=>Zkl s
 |p::j=>Zkl s && decide (2<=p) && decide (p<=60) && XV (Xo s p) j
def WV (j:TV)(top:Nat)(r:TV):TV:=U4 (0::r.take (top-1)) (vsc (- co r (top-1)) (j.take top))
def Ye (j:TV)(top:Nat):Nat->TV->TZ
 |0,_=>[]
 |m+1,r=>r::Ye j top m (WV j top r)
def RT (n:Nat)(j:TV):TZ:=Ye (Jd n j) ((Jd n j).length-1) n (YO ((Jd n j).length-1) 0)
def ZkT (a:TV):Bool:=a.all λx=>x == 0
def V6 (n:Nat)(j:TV):TY:=j.map λp=>n / p.toNat
def XD (n:Nat)(R:TZ)(j s:Nat):Nat->TV
 |0=>[]
 |m+1=>U4 (XD n R j s m) (ro R ((j+m*s) % n))
theorem ZbV {a:TV}(h:ZkT a=true)(i:Nat):co a i=0:=by
 by_cases j:i<a.length
 ·have:=WE j
  have q:=aR.mp h _ (av this);simpa using q
 ·exact Xi (by omega)
theorem UN {a:TV}(h:small a=true)(i:Nat):(co a i).natAbs<=100:=by
 by_cases j:i<a.length
 ·have:=WE j
  have q:=aR.mp h _ (av this);simpa using q
 ·rw[Xi (by omega)];decide
structure Good (n:Nat)(ps least:TV)(top:Nat)(R:TZ):Prop where
 n1:1<=n
 ls:XV ([-1,1],1) ps=true
 l2:least.length=top+1
 t1:1<=top
 tn:top<=n
 sm:small least=true
 mon:co least top=1
 len:R.length=n
 rsm:∀i j,(co (ro R i) j).natAbs<=100
 rlen:∀i,i<n->(ro R i).length=top
 un:∀k,k<top->ro R k=YO top k
 tails:∀m,m<n-top->∀j,co (Jh least (R.drop m)) j=0
 look:∀k,k<n->∀t,t<n->U2 n (V6 n ps) (λt=>co (ro R k) t-if t=k then 1 else 0) t=0
 row:∀p∈ps,∀a,a<n->∀j,co (XD n R a (n / p.toNat) p.toNat) j=0
 nz:∀k,k<n->∃j,j<top/\co (ro R k) j≠0
 div:∀p∈ps,p.toNat*(n / p.toNat)=n
theorem Zn2 {R:TZ}{i:Nat}(h:R.length<=i):ro R i=[]:=by
 unfold ro;rw[Zb,ag h];rfl
def Zou {β:Type}(x:Int)(k:Int->β):β:=match x with
 | .ofNat m=>(match m with
  |0=>k (.ofNat 0)
  |m+1=>k (.ofNat (m+1)))
 | .negSucc m=>(match m with
  |0=>k (.negSucc 0)
  |m+1=>k (.negSucc (m+1)))
theorem ZkH {β:Type}(x:Int)(k:Int->β):Zou x k=k x:=by
 cases x with
 |ofNat m=>cases m <;> rfl
 |negSucc m=>cases m <;> rfl
def fL {β:Type}:TV->(TV->β)->β
 | [],k=>k []
 |x::j,k=>Zou x λy=>fL j λq=>k (y::q)
theorem Zc9 {β:Type}:∀(a:TV) (k:TV->β),fL a k=k a
 | [],k=>rfl
 |x::j,k=>by rw[fL,ZkH,Zc9 j]
def nx (j:TV)(top:Nat):Nat->TV->TV
 |0,r=>r
 |m+1,r=>nx j top m (WV j top r)
def nxB (j:TV)(top:Nat):Nat->TV->(TV->Bool)->Bool
 |0,r,k=>k r
 |m+1,r,k=>fL (WV j top r) λq=>nxB j top m q k
theorem Zh7 (j:TV)(top:Nat):∀(m:Nat) (r:TV) (k:TV->Bool),nxB j top m r k=k (nx j top m r)
 |0,r,k=>rfl
 |m+1,r,k=>by rw[nxB,Zc9,Zh7 j top m,nx]
def ZeD (j:TV)(top:Nat):Nat->Nat->TV->Bool
 |0,_,r=>decide (r=YO top 0)
 |m+1,k,r=>small r && decide (r.length=top) && (decide (top<=k) || decide (r=YO top k)) && fL (WV j top r) (ZeD j top m (k+1))
def Zjq (q:TV)(top s:Nat):Nat->TV->TV->Bool
 |0,_,ZJ=>ZkT ZJ
 |j+1,r,ZJ=>fL (U4 ZJ r) λJ=>nxB q top s r λM=>Zjq q top s j M J
def ZoQ (n:Nat)(q:TV)(j:TV)(top:Nat):Bool:=
 decide (2<=j.length) && decide (top+1<=n\/(n=1/\top=1)) && small j && decide (co j top=1) && ZeD j top n 0 (YO top 0) && ZkT (Jh j (Ye j top (top+1) (YO top 0))) &&
  (decide (n=1) || ZkT (ZmI n (V6 n q) (j++aw (n-(top+1)) 0))) && q.all (λp=>decide (p.toNat*(n / p.toNat)=n) && Zjq j top (n / p.toNat) p.toNat (YO top 0) [])
def chk (n:Nat)(q:TV):Bool:=XV ([-1,1],1) q && fL (Jd n q) λj=>ZoQ n q j (j.length-1)
theorem Ue (j:TV)(top:Nat):∀(m:Nat) (r:TV),(Ye j top m r).length=m
 |0,r=>rfl
 |m+1,r=>by rw[Ye,Zi,Ue j top m]
theorem Ju (j:TV)(top:Nat):∀(m:Nat) (r:TV),nx j top (m+1) r=WV j top (nx j top m r)
 |0,r=>rfl
 |m+1,r=>by rw[nx,Ju j top m (WV j top r),nx]
theorem Zh6 (j:TV)(top a:Nat):∀(b:Nat) (r:TV),nx j top (a+b) r=nx j top b (nx j top a r)
 |0,r=>rfl
 |b+1,r=>by rw[Nat.add_succ,Ju,Ju,Zh6 j top a b r]
theorem ZeG (j:TV)(top:Nat):∀(m:Nat) (r:TV) (k:Nat),k<m->ro (Ye j top m r) k=nx j top k r
 |0,r,k,h=>absurd h (eO _)
 |m+1,r,0,h=>by rw[Ye,Zbm,nx]
 |m+1,r,k+1,h=>by rw[Ye,Zbn,ZeG j top m _ k (fj h),nx]
theorem Zcq (j:TV)(top:Nat):∀(m k:Nat) (r:TV),ZeD j top m k r=true->
  nx j top m r=YO top 0/\∀i,i<m->small (nx j top i r)=true/\(nx j top i r).length=top/\(k+i<top->nx j top i r=YO top (k+i))
 |0,k,r,h=>⟨of_decide_eq_true h,λi J=>absurd J (eO _)⟩
 |m+1,k,r,h=>by
  rw[ZeD,Zc9] at h;simp only[ah,decide_eq_true_eq,bi] at h;obtain⟨⟨⟨M,O⟩,q⟩,U⟩:=h;obtain⟨Y,g2⟩:=Zcq j top m (k+1) _ U;refine⟨by rw[nx];exact Y,λi J=>?_⟩;cases i with
  |zero=>
   refine⟨M,O,λz=>?_⟩;rcases q with q|q
   ·omega
   ·exact q
  |succ i=>
   obtain⟨q1,q2,q3⟩:=g2 i (fj J);rw[nx];exact⟨q1,q2,λz=>by rw[q3 (by omega)];congr 1;omega⟩
theorem J6 (j:TV)(top:Nat)(r:TV)(i:Nat):co (WV j top r) i=(if i=0\/top<=i then 0 else co r (i-1))-co r (top-1)*co (j.take top) i:=by
 have e:co (0::r.take (top-1)) i=if i=0\/top<=i then 0 else co r (i-1):=by
  cases i with
  |zero=>rw[YZ,if_pos (.inl rfl)]
  |succ i=>
   rw[WL,dz];by_cases h:i<top-1
   ·rw[if_neg (by omega)]
    unfold co;rw[Zb,Zb,iT,if_pos h]
   ·rw[if_pos (by omega)]
    exact Xi (by rw[b8];omega)
 unfold WV;rw[X2,Zei,e,gF];omega
theorem Vg (j:TV)(top:Nat){r:TV}(h:∀i,co r i=0)(i:Nat):co (WV j top r) i=0:=by
 rw[J6,h,h,ci];split <;> rfl
theorem ZcP (j:TV)(top:Nat)(i:Nat):∀(Q:TZ) (a:TV),co (WV j top (Jh a Q)) i=co (Jh a (Q.map (WV j top))) i
 | [],a=>by
  rw[e7];refine (Vg j top (λt=>?_) i).trans ?_
  ·rw[Jh];exact Y6 t
  ·rw[Jh];exact (Y6 i).symm
 |q::J,a=>by
  rw[aB,Z0,<-ZcP j top i J a.tail,J6,J6,J6,Z0,Z0];by_cases h:i=0\/top<=i
  ·rw[if_pos h,if_pos h,if_pos h,md,jH,cf]
   omega
  ·rw[if_neg h,if_neg h,if_neg h,md,jH,cf]
   omega
theorem Zcp (j:TV)(top:Nat):∀(m:Nat) (r:TV),(Ye j top m r).map (WV j top)=Ye j top m (WV j top r)
 |0,r=>rfl
 |m+1,r=>by rw[Ye,aB,Zcp j top m,Ye]
theorem ZcY (q:TV)(top j:Nat):∀(a:TV) (m:Nat) (r:TV),a.length<=m->co (Jh a (Ye q top m r)) j=co (Jh a (Ye q top a.length r)) j
 | [],m,r,h=>by rw[XW,XW]
 |x::a,0,r,h=>absurd h (Nat.not_succ_le_zero _)
 |x::a,m+1,r,h=>by
  rw[Zi,Ye,Ye,Z0,Z0,cS,ZcY q top j a m _ (Nat.le_of_succ_le_succ h)]
theorem ZaG (j:TV)(top:Nat):∀(b m:Nat) (r:TV),(Ye j top m r).drop b=Ye j top (m-b) (nx j top b r)
 |0,m,r=>by rw[List.drop_zero,fg,nx]
 |b+1,0,r=>by rw[Nat.zero_sub,Ye,Ye,List.drop_nil]
 |b+1,m+1,r=>by rw[Ye,List.drop_succ_cons,ZaG j top b m,nx,Nat.add_sub_add_right]
theorem Zca (q:TV)(top:Nat){r:TV}(h:∀j,co (Jh q (Ye q top q.length r)) j=0):∀(m j:Nat),co (Jh q (Ye q top q.length (nx q top m r))) j=0
 |0,j=>h j
 |m+1,j=>by
  rw[Ju,<-Zcp,<-ZcP];exact Vg q top (λi=>Zca q top h m i) j
theorem Zer (q:TV)(top s:Nat):∀(j:Nat) (r ZJ:TV),Zjq q top s j r ZJ=true->∀i,co ZJ i+YT j (λt=>co (nx q top (t*s) r) i)=0
 |0,r,ZJ,h,i=>by rw[YT,cC];exact ZbV h i
 |j+1,r,ZJ,h,i=>by
  rw[Zjq,Zc9,Zh7] at h;have:=Zer q top s j _ _ h i;rw[X2] at this;rw[YT,fU,nx];have e:(YT j λt=>co (nx q top ((t+1)*s) r) i)=YT j λt=>co (nx q top (t*s) (nx q top s r)) i:=by
   refine Wr _ _ _ λt _=>?_;rw[<-Zh6,cg,Nat.add_comm]
  rw[e];omega
theorem UM (n:Nat)(R:TZ)(a s i:Nat):∀m:Nat,co (XD n R a s m) i=YT m λt=>co (ro R ((a+t*s) % n)) i
 |0=>by rw[XD,Y6];rfl
 |m+1=>by
  have j:∀(m:Nat) (f:Nat->Int),YT (m+1) f=YT m f+f m:=by
   intro m;induction m with
   |zero=>intro f;rw[YT,YT,YT];omega
   |succ m q=>
    intro f;rw[YT,q,YT];omega
  rw[XD,X2,UM n R a s i m,j]
theorem ZmJ (n s:Nat)(j:0<n)(g:Nat->Int)(t:Nat):lk n s (λt=>g ((t+(n-1)) % n)) t=lk n s g ((t+(n-1)) % n):=by
 unfold lk;have e:((t+(n-s)) % n+(n-1)) % n=((t+(n-1)) % n+(n-s)) % n:=by
  rw[iw,iw];congr 1;omega
 show g ((t+(n-1)) % n)-g (((t+(n-s)) % n+(n-1)) % n)=_;rw[e]
theorem ZeX (n:Nat)(q:0<n):∀(j:TY) (g:Nat->Int) (t:Nat),U2 n j (λt=>g ((t+(n-1)) % n)) t=U2 n j g ((t+(n-1)) % n)
 | [],g,t=>rfl
 |s::j,g,t=>by
  show U2 n j (lk n s λt=>g ((t+(n-1)) % n)) t=U2 n j (lk n s g) ((t+(n-1)) % n);rw[<-ZeX n q j (lk n s g) t];congr 1;funext u;exact ZmJ n s q g u
theorem ZkB {n:Nat}{U:TV}(n1:1<=n)(h:chk n U=true):Good n U (Jd n U) ((Jd n U).length-1) (RT n U):=by
 unfold chk at h;rw[ah,Zc9] at h;obtain⟨a1,h⟩:=h;unfold RT;generalize Jd n U=q at h ⊢;generalize M:q.length-1=top at h ⊢;unfold ZoQ at h;simp only[ah,bi,decide_eq_true_eq,aR] at h;obtain⟨⟨⟨⟨⟨⟨⟨h1,h2⟩,h3⟩,h4⟩,h5⟩,h6⟩,h7⟩,h8⟩:=h;have ll:q.length=top+1:=by omega
 obtain⟨m5,rr⟩:=Zcq q top n 0 _ h5;have J:∀k,k<n->ro (Ye q top n (YO top 0)) k=nx q top k (YO top 0):=λk O=>ZeG q top n _ k O;have tl:∀m j,co (Jh q (Ye q top q.length (nx q top m (YO top 0)))) j=0:=λm j=>Zca q top (λj=>by rw[ll];exact ZbV h6 j) m j;have t1:1<=top:=by omega
 have tn:top<=n:=by omega
 have u0:∀i,co (YO top 0) i=if i=0 then 1 else 0:=λi=>by
  by_cases Y:i<top
  ·exact ZbU Y
  ·rw[Xi (by unfold YO;rw[Za,Zg];omega),if_neg (by omega)]
 have m9:∀k,nx q top ((k+1) % n) (YO top 0)=WV q top (nx q top (k % n) (YO top 0)):=λk=>by
  rw[<-Ju];have O:=bO k (show n > 0 by omega);by_cases hc:k % n+1<n
  ·rw[<-iw,bH hc]
  ·have e:k % n+1=n:=by omega
   rw[<-iw,e,Nat.mod_self,m5,nx]
 refine⟨n1,a1,ll,t1,tn,h3,h4,Ue ..,λi j=>?_,λi Y=>by rw[J i Y];exact (rr i Y).2.1,λk O=>?_,λm hm j=>?_,?_,λp hp a ha j=>?_,λk O=>?_,λp hp=>(h8 p hp).1⟩
 ·by_cases Y:i<n
  ·rw[J i Y]
   exact UN (rr i Y).1 j
  ·rw[Zn2 (by rw[Ue];omega),Y6];decide
 ·rw[J k (by omega)]
  have:=(rr k (by omega)).2.2 (by omega);rw[this,jg]
 ·rw[ZaG,ZcY q top j q _ _ (by omega)]
  exact tl m j
 ·
  have base:∀t,t<n->top+1<=n->U2 n (V6 n U) (co q) t=0:=λt M h2=>by
   have h7:=h7.resolve_left (by omega);have e:=Zfj (n:=n) (V6 n U) (q++aw (n-(top+1)) 0) (by rw[Zd,Ze];omega) t M;rw[ZbV h7 t] at e;refine Eq.trans (Jm n (by omega) _ _ _ (λs hs=>?_) t M) e.symm;unfold co;rw[Zb,Zb,List.getElem?_append];by_cases m6:s<q.length
   ·rw[if_pos m6]
   ·rw[if_neg m6,ag (by omega),eS]
    split <;> rfl
  intro k;induction k with
  |zero=>
   intro O t M;refine Eq.trans (Jm n (by omega) _ _ (λ_=>0) (λs hs=>?_) t M) (ZcX n _ t);rw[J 0 O,nx,u0];split <;> rfl
  |succ k ih=>
   intro O t M;have n6:top+1<=n:=by omega
   have n8:=ih (by omega);have hl:(nx q top k (YO top 0)).length=top:=(rr k (by omega)).2.1;have e:∀s,s<n->co (ro (Ye q top n (YO top 0)) (k+1)) s-(if s=k+1 then 1 else 0) =
     (λs=>(λt=>co (ro (Ye q top n (YO top 0)) k) t-if t=k then 1 else 0) ((s+(n-1)) % n)) s+(- co (nx q top k (YO top 0)) (top-1))*co q s:=λs hs=>by
    rw[J (k+1) O,J k (by omega),Ju,J6];have ct:co (q.take top) s=if s<top then co q s else 0:=by
     by_cases h:s<top
     ·rw[if_pos h]
      unfold co;rw[Zb,Zb,iT,if_pos h]
     ·rw[if_neg h]
      exact Xi (by rw[b8];omega)
    rw[ct];show _=co (nx q top k (YO top 0)) ((s+(n-1)) % n)-(if (s+(n-1)) % n=k then 1 else 0)+(- co (nx q top k (YO top 0)) (top-1))*co q s
    cases s with
    |zero=>
     have e0:(0+(n-1)) % n=n-1:=by rw[jg];exact bH (by omega)
     have c1:¬(0=k+1):=by omega
     have c2:¬(n-1=k):=by omega
     have c3:0<top:=t1;rw[e0,if_pos (.inl rfl),if_pos c3,if_neg c1,if_neg c2,Xi (a:=nx q top k (YO top 0)) (i:=n-1) (by omega),gF];omega
    |succ s=>
     have e1:(s+1+(n-1)) % n=s:=by
      rw[show s+1+(n-1)=s+n by omega,mT,bH (by omega)]
     rw[e1,dz];have ei:(if s+1=k+1 then (1:Int) else 0)=if s=k then 1 else 0:=by
      by_cases z:s=k
      ·rw[if_pos z,if_pos (by omega)]
      ·rw[if_neg z,if_neg (by omega)]
     rw[ei,gF];by_cases c1:s+1<top
     ·rw[if_neg (by omega),if_pos c1]
      omega
     ·rw[if_pos (.inr (by omega)),if_neg c1,cu]
      by_cases c2:s+1=top
      ·have:co q (s+1)=1:=by rw[c2];exact h4
       rw[this,show top-1=s by omega,iG];omega
      ·rw[Xi (a:=q) (by omega),Xi (a:=nx q top k (YO top 0)) (i:=s) (by omega),cu]
       omega
   rw[Jm n (by omega) _ _ _ e t M,ZeY n _ (λs=>(λt=>co (ro (Ye q top n (YO top 0)) k) t-if t=k then 1 else 0) ((s+(n-1)) % n)) (λs=>(- co (nx q top k (YO top 0)) (top-1))*co q s) t,ZeX n (by omega) _ (λt=>co (ro (Ye q top n (YO top 0)) k) t-if t=k then 1 else 0) t,Zic,base t M n6,
    n8 _ (bO _ (by omega)),cu,cC]
 ·
  rw[UM];have hb:=Zer q top (n / p.toNat) p.toNat _ _ (h8 p hp).2;have hd:=(h8 p hp).1;have n9:∀a,a<n->∀i,(YT p.toNat λt=>co (nx q top ((a+t*(n / p.toNat)) % n) (YO top 0)) i)=0:=by
   intro a;induction a with
   |zero=>
    intro _ i;have:=hb i;rw[Y6,dA] at this;rw[<-this];refine Wr _ _ _ λt M=>?_;have:t*(n / p.toNat)<n:=by
     have:t*(n / p.toNat)+(n / p.toNat)<=p.toNat*(n / p.toNat):=by
      rw[<-cg];exact cw _ M
     have o5:0<n / p.toNat:=by
      rcases Nat.eq_zero_or_pos (n / p.toNat) with z|z
      ·rw[z,Nat.mul_zero] at hd;omega
      ·exact z
     omega
    rw[jg,bH this]
   |succ a ih=>
    intro ha i;have m7:=ih (by omega);have e:(YT p.toNat λt=>co (nx q top ((a+1+t*(n / p.toNat)) % n) (YO top 0)) i)=YT p.toNat λt=>co (WV q top (nx q top ((a+t*(n / p.toNat)) % n) (YO top 0))) i:=by
     refine Wr _ _ _ λt _=>?_;rw[show a+1+t*(n / p.toNat)=a+t*(n / p.toNat)+1 by omega,m9]
    have m8:∀(m:Nat) (f g:Nat->Int) (c:Int),YT m (λt=>f t-g t*c)=YT m f-YT m g*c:=by
     intro m;induction m with
     |zero=>intro f g c;simp[YT]
     |succ m ih=>intro f g c;rw[YT,YT,YT,ih (λt=>f (t+1)) (λt=>g (t+1)) c,md];omega
    rw[e];simp only[J6];rw[m8 _ (λt=>if i=0\/top<=i then 0 else co (nx q top ((a+t*(n / p.toNat)) % n) (YO top 0)) (i-1)) (λt=>co (nx q top ((a+t*(n / p.toNat)) % n) (YO top 0)) (top-1)),m7 (top-1),ci,lC]
    by_cases hc:i=0\/top<=i
    ·simp only[if_pos hc]
     exact X9 _ _ λ_ _=>rfl
    ·simp only[if_neg hc]
     exact m7 (i-1)
  rw[<-n9 a ha j];refine Wr _ _ _ λt M=>?_;rw[J _ (bO _ (by omega))]
 ·
  apply aj;intro hz;have z0:∀j,co (nx q top k (YO top 0)) j=0:=λj=>by
   by_cases hj:j<top
   ·apply aj
    intro o0;exact hz ⟨j,hj,by rw[J k O];exact o0⟩
   ·exact Xi (by rw[(rr k O).2.1];omega)
  have all:∀d j,co (nx q top (k+d) (YO top 0)) j=0:=by
   intro d;induction d with
   |zero=>exact z0
   |succ d ih=>intro j;rw[<-Nat.add_assoc,Ju];exact Vg q top ih j
  have:=all (n-k) 0;rw[show k+(n-k)=n by omega,m5,u0,if_pos rfl] at this;cases this
def ZcM (n top:Nat)(R:TZ)(q:TV):TV:=(ae top).map λj=>sig n R j q 0
theorem ZcL (n top:Nat)(R:TZ)(j:TV):(ZcM n top R j).length=top:=by unfold ZcM;rw[Za,Zg]
theorem ZkO {n top:Nat}{R:TZ}{q:TV}{j:Nat}(h:j<top):co (ZcM n top R q) j=sig n R j q 0:=by
 unfold ZcM co;rw[Zb,Zc,ai h];rfl
theorem ZmV {a b:TV}(h:a.length=b.length)(e:∀j,j<a.length->co a j=co b j):a=b:=by
 refine aY λi=>?_;by_cases q:i<a.length
 ·rw[WE q,WE (by omega),e i q]
 ·rw[ag (by omega),ag (by omega)]
section
variable {n:Nat}{ps least:TV}{top:Nat}{R:TZ}(G:Good n ps least top R)
include G
theorem Zhw {cur:TV}{k:Nat}(q:cur.length=n)(J:k<n)(M:top<=k):(U1 least (k-top) (co cur k) cur).length=n/\(∀j,co (Jh (U1 least (k-top) (co cur k) cur) R) j=co (Jh cur R) j)/\
  co (U1 least (k-top) (co cur k) cur) k=0/\∀t,k<t->co (U1 least (k-top) (co cur k) cur) t=co cur t:=by
 have hb:k-top+least.length<=cur.length:=by rw[G.l2,q];omega
 have O:=G.l2;refine⟨by rw[ZeP,q],λj=>?_,?_,λt U=>?_⟩
 ·rw[Ze1 _ _ _ _ _ _ hb,G.tails (k-top) (by omega) j,cu,lC]
 ·rw[ZdU _ _ _ _ _ hb,if_pos ⟨by omega,by omega⟩,show k-(k-top)=top by omega,G.mon,iG,Int.sub_self]
 ·rw[ZdU _ _ _ _ _ hb,if_neg (by omega)]
theorem ZjE {cur f:TV}(hl:cur.length=n)(hz:∀t,top<=t->co cur t=0)(hP:∀j,co (Jh cur R) j=co (Jh f R) j)(Y:TV)(hf:f=Zc7 n Y):cur.take top=ZcM n top R Y:=by
 have q:(cur.take top).length=top:=by rw[b8,hl];have:=G.tn;omega
 refine ZmV (by rw[q,ZcL]) λj J=>?_;rw[q] at J;have M:0<n:=G.n1;rw[ZkO J,<-ZfV n M,<-hf,<-hP j,Ze0];have O:j<n:=aF J G.tn;rw[Zcc _ j _ (by rw[G.len];exact O) λt ht U=>?_]
 ·rw[G.un j J,ZbU J,if_pos rfl,iG]
  unfold co;rw[Zb,Zb,iT,if_pos J]
 ·by_cases h:t<top
  ·rw[G.un t h,ZbU J,if_neg (bE U),cu]
  ·rw[hz t (by omega),ci]
end
section
variable {n:Nat}{ps least:TV}{top:Nat}{R:TZ}(G:Good n ps least top R)
include G
end
end Num
set_option maxHeartbeats 4000000
namespace N55
open PySem L2 PySem.Spec PyProof.Rows
open Num
noncomputable abbrev ZnU:Stmt:=top 22
noncomputable abbrev ZnV:Stmt:=top 23
noncomputable abbrev Zhh:Stmt:=top 24
noncomputable abbrev Zhf:Stmt:=top 25
structure Bl2 (mg:TR):Prop where
 enumerate:mg "enumerate"=none
 max:mg "max"=none
theorem ZbL {a:TV}{i:Nat}(h:i<a.length):Xu (a.map V.int) (i:Int)=some (.int (co a i)):=ZA (by rw[Zc,WE h];rfl)
theorem XJ (a:TV)(i:Nat)(v:Int):(a.map V.int).set i (V.int v)=(a.set i v).map V.int:=by rw[kF]
theorem XU {a:TV}{i:Nat}{y:V}(h:(a.map V.int)[i]?=some y):i<a.length/\y=.int (co a i):=by
 rw[Zc] at h;by_cases j:i<a.length
 ·rw[WE j] at h
  exact⟨j,(ax h).symm⟩
 ·rw[ag (by omega)] at h
  cases h
theorem XY {n i:Nat}(h:i<n):ixN n (i:Int)=some i:=by
 unfold ixN;rw[if_pos (dB _),if_pos (by omega),Zj]
theorem Zhv (m:Nat):(aw m [V.int 0]).flatten=(aw m (0:Int)).map V.int:=Zhu m
theorem ZbM {X:Cx}:Znk X (λx y H Q=>∃(p:Addr) (xs:TL) (i:Nat) (v:V),x=.ref p/\y=.int i/\H p=some (.lst xs)/\xs[i]?=some v/\Q v H):=by
 intro J s σ H x y O iv Q I U Y h;obtain⟨p,xs,i,v,rfl,rfl,hp,M,q⟩:=h;cases (show O=aK p from U);obtain⟨t,rfl⟩:=Y;obtain⟨m5,r,pl,hz⟩:=I.list (.of hp);obtain⟨w,ew,j⟩:=r.get M;have hl:=r.length;have hn:=Xp;have hi:i<xs.length:=(ac.mp M).1;exact wpAny_getItem_list pl.isList (dB _) (by omega) (by simpa using ew) ⟨v,H,I,j,q⟩
inductive ZgP (K:aa) (vs:TL) (H:Hp) (Q:VK) (E03:XK):Prop
 |mk (a:Addr) (ps:TV) (st:Nat):(vs=[.ref a,.int st])->(Wp K H a (ps.map V.int))->(1<=ps.length)->((ps.length-1)*st<=100000)->(ps.length<=1000)->(st<=1000)->(∀l H',Zw H H'->H' l=some (.lst ((stM ps st).map V.int))->Q (.ref l) H')->ZgP K vs H Q E03
section
variable {P:Program}{w:World}{K:aa}{mg:TR}{base:Heap}
theorem Zmq {f:Addr}{fd:FuncData}(F:Wu K "stretched" "stretched" ZnU f fd)(T:Bl mg)(T2:Bl2 mg):Z2 P w K mg base Z9 1 f fd ["powers", "step"] (ZgP K):=by
 refine F.ok (FS (N:=["powers", "step", "wide", "k", "x"])) (λvs H Q E h=>?_) (λm7 A m5 s H vs Q E hr h=>?_)
 ·obtain⟨a,j,st,rfl,_⟩:=h;rfl
 ·obtain⟨a,j,st,rfl,hS,hl,hb,m8,m9,q⟩:=h
  refine⟨_,Zt (ZG 2 rfl (Zz Xn (ZK (pc Zv Zs)) (Zz YG (Zz ZS (Zz Wt (cb (Yr K) T.len (pc (vn 0) Zs)) Zv) (vn 1)) Zv)))
   (Zt (ZV ao rfl (UF K T2.enumerate (pc (vn 0) Zs)) (g2 K 3 4 rfl (gn 3) (gn 4))
    (Zx (Js (vn 4) (Jt (vn 2) (Zz ZS (vn 3) (vn 1)) YB))))
   (Zx (ZE (vn 2)))),?_⟩
  refine⟨WK,λl0 n0=>?_⟩;have s0:Zw H (upd H l0 (.lst [.int 0])):=Zw.upd n0;refine⟨_,rfl,a,_,rfl,.inl (s0.seq hS),_,_,rfl,rfl,_,rfl,_,_,rfl,rfl,.inl ⟨?_,?_⟩,_,_,rfl,rfl,l0,_,_,rfl,rfl,Zu,?_,?_,?_,λl nl=>?_⟩
  ·rw[Za];omega
  ·rw[Za];omega
  ·rw[Za];have:(0:Int)<=((j.length:Int)-1)*st:=Int.mul_nonneg (by omega) (by omega);omega
  ·rw[Za]
   have:((j.length:Int)-1)*st=(((j.length-1)*st:Nat):Int):=by rw[aJ];congr 1;omega
   omega
  ·rw[Za]
   have:((j.length:Int)-1)*st=(((j.length-1)*st:Nat):Int):=by rw[aJ];congr 1;omega
   rw[this];show 1*_<=sizeLine;have e:=Ja;omega
  have eN:(((j.map V.int).length:Int)-1)*st+1=(((j.length-1)*st+1:Nat):Int):=by
   rw[Za,fO,aJ];congr 2;omega
  rw[eN,Zj,Zhv];have m6:H l=none:=s0.free nl;have s1:=s0.trans (Zw.upd (o:=.lst ((aw ((j.length-1)*st+1) (0:Int)).map V.int)) nl);refine⟨_,rfl,a,rfl,.inl ⟨⟨_,s1.seq hS⟩,?_⟩⟩;refine WY UH (λi O Y=>∃(J:TV) (v3 v4:TK),O=[some (.ref a),some (.int st),some (.ref l),v3,v4]/\Zw H Y/\Y l=some (.lst (J.map V.int))/\J.length=(j.length-1)*st+1/\stN st (j.drop i) i J=stM j st)
   ⟨_,_,_,rfl,s1,Zu,dJ ..,rfl⟩ (λi O Y h=>h.choose_spec.choose_spec.choose_spec.2.1.seq hS) ?_ ?_
  ·rintro i y O Y T' hy ⟨J,v3,v4,rfl,sm,U,hlen,M⟩ nT
   obtain⟨hi,rfl⟩:=XU hy;refine⟨T',_,rfl,.of Zu,rfl,_,_,rfl,_,_,rfl,rfl,_,rfl,_,rfl,_,rfl,_,rfl,_,_,rfl,rfl,.inl ⟨by omega,by omega⟩,l,_,_,i*st,rfl,rfl,Zw.upd nT _ _ U,?_,?_⟩
   rotate_left
   ·have n6:i*st<J.length:=by
     rw[hlen];have:i*st<=(j.length-1)*st:=cw _ (by omega);omega
    refine⟨J.set (i*st) (co j i),_,_,rfl,(sm.trans (Zw.upd nT)).updr m6,?_,?_,?_⟩
    ·rw[Zu,XJ]
    ·rw[aX];exact hlen
    ·rw[<-M]
     have:j.drop i=co j i::j.drop (i+1):=by
      rw[bR hi];congr 1;have:=WE hi;rw[Zf hi] at this;exact ax this
     rw[this,Num.stN]
   ·rw[Za]
    have:((i:Int)*(st:Int))=((i*st:Nat):Int):=by rw[aJ]
    rw[this];refine XY ?_;rw[hlen];have:i*st<=(j.length-1)*st:=cw _ (by omega);omega
  ·rintro O Y ⟨J,v3,v4,rfl,sm,U,hlen,M⟩
   rw[Za,fq,Num.stN] at M;rw[M] at U;exact⟨_,rfl,q l Y sm U⟩
end
inductive ZgQ (K:aa) (vs:TL) (H:Hp) (Q:VK) (E03:XK):Prop
 |mk (a b:Addr) (ps ds:TV):(vs=[.ref a,.ref b])->(Wp K H a (ps.map V.int))->(Wp K H b (ds.map V.int))->(1<=ds.length)->(ds.length<=ps.length)->(ps.length<=100000)->(small ds=true)->(∀l H',Zw H H'->H' l=some (.lst ((ZeO ps ds).map V.int))->Q (.ref l) H')->ZgQ K vs H Q E03
theorem VY {j:TV}{i:Nat}(q:i<j.length):j.drop i=co j i::j.drop (i+1):=by
 rw[bR q];congr 1;have:=WE q;rw[Zf q] at this;exact ax this
theorem Zeb {a:TV}{i:Nat}(h:i<a.length):(a.map V.int)[i]?=some (.int (co a i)):=by rw[Zc,WE h];rfl
section
variable {P:Program}{w:World}{K:aa}{mg:TR}{base:Heap}
theorem Zmr {f:Addr}{fd:FuncData}(F:Wu K "quotient" "quotient" ZnV f fd)(T:Bl mg)(T2:Bl2 mg):Z2 P w K mg base Z9 1 f fd ["powers", "divisor"] (ZgQ K):=by
 refine F.ok (FS (N:=["powers", "divisor", "rest", "top", "found", "k", "j", "x"])) (λvs H Q E h=>?_) (λr8 A o8 s H vs Q E hr h=>?_)
 ·obtain⟨a,b,U,ds,rfl,_⟩:=h;rfl
 ·obtain⟨a,b,U,ds,rfl,hA,hB,r9,t0,t6,o9,q⟩:=h
  refine⟨_,Zt (ZG 2 rfl (ct JC T.list (pc (vn 0) Zs)))
   (Zt (ZG 3 rfl (Zz Wt (cb (Yr K) T.len (pc (vn 1) Zs)) Zv))
   (Zt (ZG 4 rfl (Zz Xn (ZK (pc Zv Zs)) (Zz Wt (cb (Yr K) T.len (pc (vn 2) Zs)) (vn 3))))
   (Zt (ZV ao rfl (Zn3 T.range (pc (Zz Wt (cb (Yr K) T.len (pc (vn 4) Zs)) Zv) (pc (Xf W9 Zv) (pc (Xf W9 Zv) Zs)))) (gn 5)
    (Zt (Js (ZB (WB K) (vn 2) (Zz YG (vn 5) (vn 3)) (λ_ _=>rfl)) (Jt (vn 4) (vn 5) YB))
    (Zx (ZV ao rfl (UF K T2.enumerate (pc (vn 1) Zs)) (g2 K 6 7 rfl (gn 6) (gn 7))
     (Zx (VP (vn 2) (Zz YG (vn 5) (vn 6)) ZbM (Zz ZS (ZB (WB K) (vn 4) (vn 5) (λ_ _=>rfl)) (vn 7)) Zio YB))))))
   (Zx (ZE (vn 4)))))),?_⟩
  refine⟨_,rfl,a,_,rfl,.inl hA,λr nr=>?_⟩;have s1:Zw H (upd H r (.lst (U.map V.int))):=Zw.upd nr;refine⟨_,rfl,b,_,rfl,.inl (s1.seq hB),_,_,rfl,rfl,?_⟩;refine⟨WK,λl0 n0=>?_⟩;have s2:=s1.trans (Zw.upd (o:=.lst [.int 0]) n0);refine⟨_,rfl,r,_,rfl,.inl (.of (Zw.upd n0 _ _ Zu)),_,rfl,_,_,rfl,rfl,l0,_,_,rfl,rfl,Zu,?_,?_,?_,λl nl=>?_⟩
  ·rw[Za,Za];omega
  ·rw[Za,Za];omega
  ·rw[Za,Za]
   show 1*_<=sizeLine;have e:=Ja;omega
  have eN:(((U.map V.int).length:Int)-(((ds.map V.int).length:Int)-1)).toNat=U.length-(ds.length-1):=by rw[Za,Za];omega
  rw[eN,Zhv];have p4:H r=none:=nr;have p6:H l=none:=s2.free nl;have n8:l≠r:=λz=>by
   rw[z,Zy (λz2=>by rw[z2,Zu] at n0;cases n0),Zu] at nl;cases nl
  have s3:=s2.trans (Zw.upd (o:=.lst ((aw (U.length-(ds.length-1)) (0:Int)).map V.int)) nl);generalize hN:U.length-(ds.length-1)=N at *;have p7:(upd (upd (upd H r (.lst (U.map V.int))) l0 (.lst [.int 0])) l (.lst ((aw N (0:Int)).map V.int))) r=some (.lst (U.map V.int)):=Zw.upd nl _ _ (Zw.upd n0 _ _ Zu);refine⟨_,rfl,l,_,rfl,.inl (.of Zu),_,_,rfl,rfl,_,rfl,_,rfl,_,_,rfl,⟨by rw[Za,Ze];omega,by rw[Za,Ze];omega,by decide,by decide⟩,?_⟩;rw[Za,Za,Ze];have e2:(((N:Int)-1)-(-1)).toNat=N:=by omega
  rw[e2];refine Zc6 (λi m7 H'=>∃(J rest:TV) (v5 v6 v7:TK),m7=[some (.ref a),some (.ref b),some (.ref r),some (.int ((ds.length:Int)-1)),some (.ref l),v5,v6,v7]/\Zw H H'/\H' l=some (.lst (J.map V.int))/\H' r=some (.lst (rest.map V.int))/\
    J.length=N/\rest.length=U.length/\ZhG ds (ds.length-1) (N-i) J rest=ZeO U ds)
   ⟨_,_,_,_,_,rfl,s3,Zu,p7,dJ ..,rfl,by rw[fg,ZeO,hN]⟩ ?_ ?_
  ·rintro i m7 H' hi ⟨J,rest,v5,v6,v7,rfl,sm,m5,m8,n9,o0,hq⟩
   generalize hk:N-1-i=k;have ek:(N:Int)-1-(i:Int)=(k:Int):=by omega
   rw[ek];have t7:k<N:=by omega
   have p8:N-i=k+1:=by omega
   rw[p8,ZhG] at hq;have o5:k+(ds.length-1)<rest.length:=by omega
   refine⟨_,rfl,_,rfl,_,rfl,_,_,rfl,rfl,r,_,_,.int (co rest (k+(ds.length-1))),rfl,rfl,.of m8,?_,_,rfl,_,rfl,l,_,_,k,rfl,rfl,m5,?_,?_⟩
   ·have:(k:Int)+((ds.length:Int)-1)=((k+(ds.length-1):Nat):Int):=by omega
    rw[this];exact ZbL o5
   ·rw[Za];exact XY (by omega)
   generalize hc:co rest (k+(ds.length-1))=c at hq ⊢;rw[XJ];have sm1:Zw H (upd H' l (.lst ((J.set k c).map V.int))):=sm.updr p6;have p9:(upd H' l (.lst ((J.set k c).map V.int))) r=some (.lst (rest.map V.int)):=by rw[Zy (bE n8)];exact m8
   have r6:co (J.set k c) k=c:=by rw[ZiP,if_pos ⟨rfl,by omega⟩]
   refine⟨_,rfl,b,rfl,.inl ⟨⟨_,sm1.seq hB⟩,?_⟩⟩;refine WY UH (λj M O=>∃(cur:TV) (u6 u7:TK),M=[some (.ref a),some (.ref b),some (.ref r),some (.int ((ds.length:Int)-1)),some (.ref l),some (.int k),u6,u7]/\Zw H O/\O l=some (.lst ((J.set k c).map V.int))/\O r=some (.lst (cur.map V.int))/\
     cur.length=U.length/\U1 (ds.drop j) (k+j) c cur=U1 ds k c rest)
    ⟨_,_,_,rfl,sm1,Zu,p9,o0,rfl⟩ (λj M O h=>h.choose_spec.choose_spec.choose_spec.2.1.seq hB) ?_ ?_
   ·rintro j y M O T' hy ⟨cur,u6,u7,rfl,sm2,Y,m9,n6,m6⟩ nT
    obtain⟨hj,rfl⟩:=XU hy;have kj:k+j<cur.length:=by omega
    have o6:=Zw.upd (o:=.tup [.int j,.int (co ds j)]) nT _ _ m9;have o7:=Zw.upd (o:=.tup [.int j,.int (co ds j)]) nT _ _ Y;have cb:=UN o9 j;refine⟨T',_,rfl,.of Zu,rfl,_,_,rfl,_,_,rfl,rfl,_,rfl,_,rfl,_,rfl,_,_,rfl,rfl,r,_,k+j,.int (co cur (k+j)),rfl,congrArg V.int (by omega),o6,Zeb kj,
     _,rfl,_,rfl,l,_,_,.int c,rfl,rfl,.of o7,?_,_,rfl,_,_,rfl,rfl,.inr ⟨by omega,by omega⟩,_,_,rfl,rfl,r,_,_,k+j,rfl,congrArg V.int (show (k:Int)+(j:Int)=((k+j:Nat):Int) by omega),o6,?_,?_⟩
    ·have:=ZbL (a:=J.set k c) (i:=k) (by rw[aX];omega)
     rw[r6] at this;exact this
    ·rw[Za];exact XY kj
    ·refine⟨cur.set (k+j) (co cur (k+j)-c*co ds j),_,_,rfl,(sm2.trans (Zw.upd nT)).updr p4,?_,?_,?_,?_⟩
     ·rw[Zy n8];exact o7
     ·rw[Zu,XJ]
     ·rw[aX];exact n6
     ·rw[<-m6,VY hj,Num.U1]
      rfl
   ·rintro M O ⟨cur,u6,u7,rfl,sm2,Y,m9,n6,m6⟩
    rw[Za,fq,Num.U1] at m6;refine⟨J.set k c,cur,_,_,_,rfl,sm2,Y,m9,by rw[aX];exact n9,n6,?_⟩;rw[show N-(i+1)=k by omega,m6];exact hq
  ·rintro m7 H' ⟨J,rest,v5,v6,v7,rfl,sm,m5,m8,n9,o0,hq⟩
   rw[cr,Num.ZhG] at hq;rw[hq] at m5;exact⟨_,rfl,q l H' sm m5⟩
end
end N55
namespace L2
open PySem PySem.Spec PyProof.Rows
section
variable {X:Cx}
def Zis (K:aa)(Y:TA):TI:=λσ H R=>Y σ H λvs M=>∃a q j,vs=[.ref a]/\(Wp K j a q\/Xw K j a q)/\Zw j M/\∀J O,Zjd J O q->(∀U,Zw j U->O U)->R J M
theorem ZmY {elts:List Expr}{x1}{pt:Pos}{l:Expr}{ta:TA}{p pos:Pos}(hm:X.mg "enumerate"=none)(ha:PA X [l] ta)(hg:Y3 X.env.scope "enumerate"=true:=by kernel_rfl)(hs:starEach [l] X.env=[(false,eval l X.env)]:=by rfl) :
  PI X (.Tuple elts x1 pt) (.Call (.Name "enumerate" p) [l] [] pos) (Zis X.K ta):=by
 intro M s σ H R I h;refine Call_ (Je I (JQ hg) hm (show bootBuiltins "enumerate"=some (.type "enumerate") by kernel_rfl) (bg (Yh (ha pos M s σ H _ I h) λus s1 ⟨vs,H1,j,r1,q1⟩=>?_) hs rfl));obtain⟨a,xs,Hx,e,J,sm,q⟩:=q1;subst e;cases r1 with
 |cons r rr=>
  cases rr;cases (show _=aK a from r);have sz:∀b,b∈[s1.heap.objs.size+1,s1.heap.objs.size]->s1.heap.objs.size<=b:=λb hb=>by
   rcases aD.mp hb with rfl|hb
   ·exact fH _
   ·have:b=s1.heap.objs.size:=by simpa using hb
    rw[this];exact Zq _
  rcases J with J|J
  ·obtain⟨O,rv,p,hz⟩:=j.list (sm.seq J)
   refine call_enumerate_list p.isList λg ge U gs Y=>dU ge ?_;exact⟨_,[s1.heap.objs.size+1,s1.heap.objs.size],_,_,H1,rfl,j.kept (t':=s1.toks) Y,V4 a _ _ (bj (cF _)),⟨⟨_,ge⟩,U⟩,λb hb=>j.fpOk (sz b hb) (j.hok.fresh (sz b hb)),q _ _ UH λH' s'=>s'.seq J⟩
  ·obtain⟨O,rv,p,hz⟩:=j.tuple (sm.tup J)
   refine PyY.UW (show s1.heap.IsTuple a O.toArray from p) λg ge U gs Y=>dU ge ?_;exact⟨_,[s1.heap.objs.size+1,s1.heap.objs.size],_,_,H1,rfl,j.kept (t':=s1.toks) Y,V3 a _ _ (bj (cF _)),⟨⟨_,ge⟩,U⟩,λb hb=>j.fpOk (sz b hb) (j.hok.fresh (sz b hb)),q _ _ ZbQ λH' s'=>s'.tup J⟩
theorem ZmZ (K:aa){elts:List Expr}{q}{pt:Pos}{l:Expr}{j:TA}{p pos:Pos}(J:X.mg "enumerate"=none)(M:PA X [l] j)(O:X.K=K:=by rfl)(U:Y3 X.env.scope "enumerate"=true:=by kernel_rfl)(Y:starEach [l] X.env=[(false,eval l X.env)]:=by rfl) :
  PI X (.Tuple elts q pt) (.Call (.Name "enumerate" p) [l] [] pos) (Zis K j):=O▸ZmY J M U Y
end
end L2
namespace N55
open PySem L2 PySem.Spec PyProof.Rows
open Num
def lsN (n:Nat):TV:=Jd n (YA n)
def JF (n:Nat):Nat:=(lsN n).length-1
def RN (n:Nat):TZ:=RT n (YA n)
def X5 (n:Nat):Bool:=Num.chk n (YA n) && decide (((Num.Jd n (YA n)).length:Int)=ZcE n+1)
theorem ZoP:([1,2,3,4,5,6,7,8,9,10,11,12,13,14,15,16].all X5)=true:=by decide +kernel
theorem ZoO:([17,18,19,20,21,22,23,24].all X5)=true:=by decide +kernel
theorem ZoN:([25,26,27,28,29,30].all X5)=true:=by decide +kernel
theorem ZoM:([31,32,33,34,35].all X5)=true:=by decide +kernel
theorem ZoL:([36,37,38,39,40].all X5)=true:=by decide +kernel
theorem ZoK:([41,42,43,44].all X5)=true:=by decide +kernel
theorem ZoJ:([45,46,47].all X5)=true:=by decide +kernel
theorem ZoI:([48,49,50].all X5)=true:=by decide +kernel
theorem ZoH:([51,52,53].all X5)=true:=by decide +kernel
theorem ZoG:([54,55,56].all X5)=true:=by decide +kernel
theorem Zna:([57,58].all X5)=true:=by decide +kernel
theorem Zm9:([59,60].all X5)=true:=by decide +kernel
theorem all2 {p:Nat->Bool}{a b:TY}(h:a.all p=true)(g:b.all p=true):(a++b).all p=true:=by rw[List.all_append,h,g];rfl
theorem Zm8 {n:Nat}(j:1<=n)(q:n<=60):X5 n=true:=aR.mp (all2 ZoP (all2 ZoO (all2 ZoN (all2 ZoM (all2 ZoL (all2 ZoK (all2 ZoJ (all2 ZoI (all2 ZoH (all2 ZoG (all2 Zna Zm9))))))))))) n (by
 show n∈c9 1 60;exact List.mem_range'_1.mpr ⟨j,by omega⟩)
theorem Ze7 {n:Nat}(j:1<=n)(q:n<=60):Good n (YA n) (lsN n) (JF n) (RN n)/\(JF n:Int)=ZcE n:=by
 have h:=Zm8 j q;unfold X5 at h;rw[ah] at h;have g:=ZkB j h.1;refine⟨g,?_⟩;have e:=of_decide_eq_true h.2;have:=g.l2;unfold JF lsN;omega
inductive Za8 (vs:TL) (H:Hp) (Q:VK) (E03:XK):Prop
 |mk (n:Nat):(vs=[.int n])->(1<=n)->(n<=60)->(∀l H',Zw H H'->H' l=some (.lst ((lsN n).map V.int))->Q (.ref l) H')->Za8 vs H Q E03
inductive Za6 (K:aa) (vs:TL) (H:Hp) (Q:VK) (E03:XK):Prop
 |mk (n:Nat) (a:Addr) (ws:TV):(vs=[.int n,.ref a])->(1<=n)->(n<=60)->((Wp K H a (ws.map V.int)\/Xw K H a (ws.map V.int)))->(ws.length<=100000)->(∀q H',Zw H H'->H' q=some (.tup ((ZcM n (JF n) (RN n) ws).map V.int))->Q (.ref q) H')->Za6 K vs H Q E03
theorem ZiL (xs:TL){k:Nat}(h:k<=xs.length):ZbS xs none (some (k:Int))=xs.take k:=by
 unfold ZbS;rw[HT.ZeA];have e:HT.sIx xs.length 0 none=0:=rfl;rw[e,List.drop_zero,fg,Nat.min_eq_left h]
theorem UA {s:TV×Int}{j:TV}(h:XV s j=true):small s.1=true/\2<=s.1.length/\s.1.length<=61/\1<=s.2/\s.2<=60:=by
 have g:Zkl s=true:=by
  cases j with
  |nil=>exact h
  |cons p j=>
   rw[Num.XV] at h;simp only[ah] at h;exact h.1.1.1
 unfold Zkl at g;simp only[ah,decide_eq_true_eq] at g;exact⟨g.1.1.1.1,g.1.1.1.2,g.1.1.2,g.1.2,g.2⟩
theorem Zd4 {s:TV×Int}{p:Int}{j:TV}(h:XV s (p::j)=true):2<=p/\p<=60/\XV (Xo s p) j=true:=by
 rw[Num.XV] at h;simp only[ah,decide_eq_true_eq] at h;exact⟨h.1.1.2,h.1.2,h.2⟩
section
variable {P:Program}{w:World}{K:aa}{mg:TR}{base:Heap}
theorem Zh0 {f:Addr}{fd:FuncData}(F:Wu K "least_sum" "least_sum" Zhh f fd)(GP:Fn P w K mg base Z9 1 "primes_of" ["n"] V9)(GS:Fn P w K mg base Z9 1 "stretched" ["powers", "step"] (ZgP K))(GQ:Fn P w K mg base Z9 1 "quotient" ["powers", "divisor"] (ZgQ K)) :
  Z2 P w K mg base Z9 2 f fd ["n"] Za8:=by
 refine F.ok (FS (N:=["n", "found", "built", "p"])) (λvs H Q E h=>?_) (λm7 A m6 s H vs Q E hr h=>?_)
 ·obtain⟨n,rfl,_⟩:=h;rfl
 ·obtain⟨n,rfl,n1,n60,q⟩:=h
  obtain⟨G,_⟩:=Ze7 n1 n60;refine⟨_,Zt (ZG 1 rfl (ZK (pc (Xf W9 Zv) (pc Zv Zs))))
   (Zt (ZG 2 rfl Zv)
   (Zt (ZV ao rfl (itL K (Yz GP hr ZF (pc (vn 0) Zs))) (gn 3)
    (Zt (ZG 1 rfl (Yz GQ hr ZF (pc (Yz GS hr ZF (pc (vn 1) (pc (vn 3) Zs))) (pc (vn 1) Zs))))
    (Zx (ZG 2 rfl (Zz ZS (vn 2) (vn 3))))))
   (Zx (ZE (Yz GS hr ZF (pc (vn 1) (pc (Zz Wi (vn 0) (vn 2)) Zs))))))),?_⟩
  refine⟨_,rfl,WK,λl0 n0=>?_⟩;have s0:Zw H (upd H l0 (.lst [.int (-1),.int 1])):=Zw.upd n0;refine⟨_,rfl,n,rfl,n1,n60,λlp H1 s1 hp=>⟨lp,rfl,⟨_,.of hp⟩,?_⟩⟩;refine W5 (YY (K:=K) (.of hp)) (λi M U=>∃(st:TV×Int) (O:Addr) (v3:TK),M=[some (.int n),some (.ref O),some (.int st.2),v3]/\Zw H1 U/\U O=some (.lst (st.1.map V.int))/\XV st ((YA n).drop i)=true/\
    ((YA n).drop i).foldl Xo st=(YA n).foldl Xo ([-1,1],1))
   ⟨([-1,1],1),l0,_,rfl,Zw.refl _,s1 _ _ Zu,G.ls,rfl⟩ (λi M U h=>h.choose_spec.choose_spec.choose_spec.2.1) ?_ ?_
  ·rintro i x M U hx ⟨st,O,v3,rfl,sm,hf,J,j⟩
   obtain⟨hi,rfl⟩:=XU hx;rw[VY hi] at J j;obtain⟨p2,m8,Y⟩:=Zd4 J;obtain⟨c1,c2,c3,c4,c5⟩:=UA J;generalize m9:co (YA n) i=p at *;have ep:(p.toNat:Int)=p:=by omega
   have m5:(st.1.length-1)*p.toNat<=60*60:=iF (by omega) (by omega);refine⟨_,rfl,_,rfl,O,st.1,p.toNat,by rw[ep];rfl,.of hf,by omega,by omega,by omega,by omega,λl2 H2 s2 h2=>?_⟩;have n6:st.1.length-1<=(st.1.length-1)*p.toNat:=Nat.le_mul_of_pos_right _ (by omega);refine⟨_,rfl,l2,O,_,_,rfl,.of h2,.of (s2 _ _ hf),by omega,by rw[Zet];omega,by rw[Zet];omega,c1,λl3 H3 s3 h3=>?_⟩;refine⟨_,rfl,_,rfl,_,_,rfl,rfl,.inl ⟨by omega,by omega⟩,?_⟩;exact⟨Xo st p,l3,_,rfl,(sm.trans s2).trans s3,h3,Y,j⟩
  ·rintro M U ⟨st,O,v3,rfl,sm,hf,J,j⟩
   rw[Za,fq] at J j;obtain⟨c1,c2,c3,c4,c5⟩:=UA J;have hd:0<=(n:Int) / st.2/\(n:Int) / st.2<=n:=⟨jU (by omega) (by omega),Int.ediv_le_self _ (by omega)⟩;have m5:(st.1.length-1)*((n:Int) / st.2).toNat<=60*60:=iF (by omega) (by omega);refine⟨_,rfl,_,rfl,_,rfl,_,_,rfl,rfl,⟨by omega,by omega⟩,O,st.1,((n:Int) / st.2).toNat,by rw[Int.toNat_of_nonneg hd.1];rfl,.of hf,by omega,by omega,by omega,by omega,λl4 H4 s4 h4=>?_⟩;refine q l4 H4 (((s0.trans s1).trans sm).trans s4) ?_;rw[h4];unfold lsN Jd;rw[<-j];rfl
theorem ZhY {f:Addr}{fd:FuncData}(F:Wu K "number_of" "number_of" Zhf f fd)(T:Bl mg)(T2:Bl2 mg)(GL:Fn P w K mg base Z9 2 "least_sum" ["n"] Za8):Z2 P w K mg base Z9 3 f fd ["n", "powers"] (Za6 K):=by
 refine F.ok (FS (N:=["n", "powers", "least", "top", "rest", "k", "x", "high", "j"])) (λvs H Q E h=>?_) (λt9 A p7 s H vs Q E hr h=>?_)
 ·obtain⟨n,a,ws,rfl,_⟩:=h;rfl
 ·obtain⟨n,a,ws,rfl,n1,n60,hS,u5,q⟩:=h
  obtain⟨G,_⟩:=Ze7 n1 n60;refine⟨_,Zt (ZG 2 rfl (Yz GL hr ZF (pc (vn 0) Zs)))
   (Zt (ZG 3 rfl (Zz Wt (cb (Yr K) T.len (pc (vn 2) Zs)) Zv))
   (Zt (ZG 4 rfl (Zz Xn (ZK (pc Zv Zs)) (vn 0)))
   (Zt (ZV ao rfl (ZmZ K T2.enumerate (pc (vn 1) Zs)) (g2 K 5 6 rfl (gn 5) (gn 6))
    (Zx (VP (vn 4) (Zz ZX (vn 5) (vn 0)) ZbM (vn 6) Jg YB)))
   (Zt (ZV ao rfl (Zn3 T.range (pc (Zz Wt (vn 0) Zv) (pc (Zz Wt (vn 3) Zv) (pc (Xf W9 Zv) Zs)))) (gn 5)
    (Zt (ZG 7 rfl (ZB (WB K) (vn 4) (vn 5) (λ_ _=>rfl)))
    (Zx (Yx (ZH WG (vn 7) Zv (ZI _))
     (Zx (ZV ao rfl (UF K T2.enumerate (pc (vn 2) Zs)) (g2 K 8 6 rfl (gn 8) (gn 6))
      (Zx (VP (vn 4) (Zz YG (Zz Wt (vn 5) (vn 3)) (vn 8)) ZbM (Zz ZS (vn 7) (vn 6)) Zio YB)))) ZT))))
   (Zx (ZE (ct ZL T.tuple (pc (Uq Zbj (vn 4) Zbt (Zbs (vn 3))) Zs)))))))),?_⟩
  refine⟨_,rfl,n,rfl,n1,n60,λll H1 s1 m9=>?_⟩;have n9:(((lsN n).map V.int).length:Int)-1=(JF n:Int):=by
   rw[Za,G.l2];omega
  have tn:=G.tn;have t1:=G.t1;refine⟨_,rfl,ll,_,rfl,.inl (.of m9),_,_,rfl,rfl,?_⟩;refine⟨WK,λl0 n0=>?_⟩;have s2:=s1.trans (Zw.upd (o:=.lst [.int 0]) n0);refine⟨_,rfl,l0,_,_,rfl,rfl,Zu,by omega,by omega,?_,λl nl=>?_⟩
  ·rw[Zj]
   show 1*n<=sizeLine;have e:=Ja;omega
  rw[Zj,Zhv];have o0:H l=none:=s2.free nl;have o5:=Zw.upd (o:=.lst ((aw n (0:Int)).map V.int)) nl _ _ (Zw.upd (o:=.lst [.int 0]) n0 _ _ m9);have o6:l≠ll:=λz=>by
   rw[z,Zw.upd (o:=.lst [.int 0]) n0 _ _ m9] at nl;cases nl
  have s3:=s2.trans (Zw.upd (o:=.lst ((aw n (0:Int)).map V.int)) nl);refine⟨_,rfl,a,_,H,rfl,hS,s3,λJ At S p8=>?_⟩;refine WY S (λi m5 H'=>∃(M:TV) (v5 v6:TK),m5=[some (.int n),some (.ref a),some (.ref ll),some (.int ((((lsN n).map V.int).length:Int)-1)),some (.ref l),v5,v6,none,none]/\Zw H H'/\H' ll=some (.lst ((lsN n).map V.int))/\H' l=some (.lst (M.map V.int))/\M.length=n/\
    Vy n (ws.drop i) i M=Zc7 n ws)
   ⟨_,_,_,rfl,s3,o5,Zu,dJ ..,rfl⟩ (λi m5 H' h=>p8 _ h.choose_spec.choose_spec.choose_spec.2.1) ?_ ?_
  ·rintro i y m5 H' T' hy ⟨M,v5,v6,rfl,sm,n6,n8,m6,m7⟩ nT
   obtain⟨hi,rfl⟩:=XU hy;have o7:i % n<M.length:=by rw[m6];exact bO _ n1
   have eM:V.int ((i:Int) % (n:Int))=V.int ((i % n:Nat):Int):=congrArg V.int (by omega);have o8:=Zw.upd (o:=.tup [.int i,.int (co ws i)]) nT _ _ n8;refine⟨T',_,rfl,.of Zu,rfl,_,_,rfl,_,_,rfl,rfl,_,rfl,_,rfl,_,rfl,_,_,rfl,rfl,(by show (0:Int)<n;omega),l,_,i % n,.int (co M (i % n)),rfl,eM,o8,Zeb o7,_,rfl,_,_,rfl,rfl,l,_,_,i % n,rfl,eM,o8,?_,?_⟩
   ·rw[Za];exact XY o7
   ·refine⟨M.set (i % n) (co M (i % n)+co ws i),_,_,rfl,(sm.trans (Zw.upd nT)).updr o0,?_,?_,?_,?_⟩
    ·rw[Zy (bE o6)];exact Zw.upd nT _ _ n6
    ·rw[Zu,XJ]
    ·rw[aX];exact m6
    ·rw[<-m7,VY hi,Num.Vy]
  ·rintro m5 H' ⟨M,v5,v6,rfl,sm,n6,n8,m6,m7⟩
   rw[Za,fq,Num.Vy] at m7;refine⟨_,rfl,_,_,rfl,rfl,_,rfl,_,_,rfl,rfl,_,rfl,_,_,rfl,⟨by omega,by omega,by omega,by omega⟩,?_⟩;rw[show (((n:Int)-1)-((((lsN n).map V.int).length:Int)-1-1)).toNat=n-JF n by omega];refine Zc6 (λi m5 H'=>∃(M:TV) (v5 v6 v7 v8:TK),m5=[some (.int n),some (.ref a),some (.ref ll),some (.int ((((lsN n).map V.int).length:Int)-1)),some (.ref l),v5,v6,v7,v8]/\Zw H H'/\H' ll=some (.lst ((lsN n).map V.int))/\H' l=some (.lst (M.map V.int))/\M.length=n/\
     (∀j,co (Jh M (RN n)) j=co (Jh (Zc7 n ws) (RN n)) j)/\∀t,n-i<=t->co M t=0)
    ⟨M,_,_,_,_,rfl,sm,n6,n8,m6,λj=>by rw[m7],λt ht=>Xi (by omega)⟩ ?_ ?_
   ·rintro i o9 p9 hi ⟨c2,r6,r8,r9,t0,rfl,sm2,Y,O,U,hP,hz⟩
    generalize hk:n-1-i=k;have ek:(n:Int)-1-(i:Int)=(k:Int):=by omega
    rw[ek];have t6:k<n:=by omega
    have t7:JF n<=k:=by omega
    refine⟨_,rfl,_,rfl,l,_,_,.int (co c2 k),rfl,rfl,.of O,ZbL (by omega),?_⟩;refine⟨_,rfl,rfl,_,rfl,Z1 (λhh=>?_) (λhh=>?_)⟩
    ·refine⟨_,rfl,ll,rfl,.inl ⟨⟨_,.of Y⟩,?_⟩⟩
     obtain⟨r1,r2,r3,r4⟩:=Zhw G U t6 t7;refine WY UH (λj m8 H3=>∃(c3:TV) (u6 u8:TK),m8=[some (.int n),some (.ref a),some (.ref ll),some (.int ((((lsN n).map V.int).length:Int)-1)),some (.ref l),some (.int k),u6,some (.int (co c2 k)),u8]/\Zw H H3/\H3 ll=some (.lst ((lsN n).map V.int))/\H3 l=some (.lst (c3.map V.int))/\c3.length=n/\
       U1 ((lsN n).drop j) (k-JF n+j) (co c2 k) c3=U1 (lsN n) (k-JF n) (co c2 k) c2)
      ⟨c2,_,_,rfl,sm2,Y,O,U,rfl⟩ (λj m8 H3 h=>.of h.choose_spec.choose_spec.choose_spec.2.2.1) ?_ ?_
     ·rintro j y m8 H3 T' hy ⟨c3,u6,u8,rfl,sm3,g1,g2,g3,g4⟩ nT
      obtain⟨hj,rfl⟩:=XU hy;have u9:=G.l2;have kj:k-JF n+j<c3.length:=by omega
      have eI:V.int ((k:Int)-((((lsN n).map V.int).length:Int)-1)+(j:Int))=V.int ((k-JF n+j:Nat):Int):=congrArg V.int (by omega);have p4:=Zw.upd (o:=.tup [.int j,.int (co (lsN n) j)]) nT _ _ g2;have cb:=UN G.sm j;refine⟨T',_,rfl,.of Zu,rfl,_,_,rfl,_,_,rfl,rfl,_,rfl,_,rfl,_,rfl,_,_,rfl,rfl,_,rfl,_,_,rfl,rfl,l,_,k-JF n+j,.int (co c3 (k-JF n+j)),rfl,eI,p4,Zeb kj,_,rfl,_,rfl,_,_,rfl,rfl,.inr ⟨by omega,by omega⟩,_,_,rfl,rfl,l,_,_,k-JF n+j,rfl,eI,p4,?_,?_⟩
      ·rw[Za];exact XY kj
      ·refine⟨c3.set (k-JF n+j) (co c3 (k-JF n+j)-co c2 k*co (lsN n) j),_,_,rfl,(sm3.trans (Zw.upd nT)).updr o0,?_,?_,?_,?_⟩
       ·rw[Zy (bE o6)];exact Zw.upd nT _ _ g1
       ·rw[Zu,XJ]
       ·rw[aX];exact g3
       ·rw[<-g4,VY hj,Num.U1]
        rfl
     ·rintro m8 H3 ⟨c3,u6,u8,rfl,sm3,g1,g2,g3,g4⟩
      rw[Za,fq,Num.U1] at g4;refine⟨c3,_,_,_,_,rfl,sm3,g1,g2,g3,λj=>?_,λt ht=>?_⟩
      ·rw[g4,r2 j];exact hP j
      ·rw[g4]
       by_cases e:t=k
       ·rw[e];exact r3
       ·rw[r4 t (by omega)];exact hz t (by omega)
    ·have h0:co c2 k=0:=by
      apply aj;intro t8;apply hh;rw[Yi];simp[t8]
     refine⟨c2,_,_,_,_,rfl,sm2,Y,O,U,hP,λt ht=>?_⟩;by_cases e:t=k
     ·rw[e];exact h0
     ·exact hz t (by omega)
   ·rintro o9 p9 ⟨c2,r6,r8,r9,t0,rfl,sm2,Y,O,U,hP,hz⟩
    refine⟨_,rfl,_,rfl,_,rfl,l,_,rfl,.of O,λp1 h1=>⟨p1,_,rfl,.inl ⟨.of Zu,λqq p6=>?_⟩⟩⟩;rw[n9,ZiL _ (by rw[Za];omega),<-ko] at p6 ⊢;refine q qq _ ((sm2.trans (Zw.upd h1)).trans (Zw.upd p6)) ?_;rw[Zu,ZjE G U (λt ht=>hz t (by omega)) hP ws rfl]
end
end N55
namespace C55
open PySem L2 PySem.Spec PyProof.Rows
open Tb Pm
noncomputable abbrev Zhg:Stmt:=top 37
def bkM (p x:Nat):Nat:=((ae p).find? λy=>y*x % p == 1).getD 0
theorem ZoR {p x y j:Nat}(M:y<p)(q:j<p)(h:y*x % p=1)(h':j*x % p=1):y=j:=by
 have J:y*(j*x) % p=y % p:=by rw[<-Nat.mul_mod_mod,h',iE]
 have O:j*(y*x) % p=j % p:=by rw[<-Nat.mul_mod_mod,h,iE]
 have U:y*(j*x)=j*(y*x):=by rw[<-kC,fh y j,kC]
 rw[U,O,bH M,bH q] at J;exact J.symm
theorem Zlz {p x y:Nat}(j:y<p)(h:y*x % p=1):bkM p x=y:=by
 unfold bkM;cases q:(ae p).find? λy=>y*x % p == 1 with
 |none=>
  have:=iU.mp q y (af.mpr j);rw[h] at this;exact absurd rfl this
 |some z=>
  have J:=af.mp (gq q);have M:z*x % p=1:=eq_of_beq (jF (p:=λy=>y*x % p == 1) q);exact ZoR J j M h
def ofF (n r p:Nat)(share:Int)(z:Nat)(o:Nat->Int)(j:Nat):Int:=if j % (n / r)=0 then share*(bkM p r:Int)*We r (λk=>o k*((z ^ (j*k % n) % p:Nat):Int)) % (p:Int) else 0
def Zh8 (n:Nat)(v:Nat->Int):TV:=Num.ZcM n (N55.JF n) (N55.RN n) ((ae n).map v)
inductive Za7 (vs:TL) (H:Hp) (Q:VK) (E03:XK):Prop
 |mk (wa oa ra:Addr) (r m n p z:Nat) (share:Int) (wk one:Nat->Int):(vs=[.ref wa,.ref oa,.int share,.ref ra,.int p])->(H wa=some (.lst (ZN r wk)))->(H oa=some (.lst (ZN m one)))->(H ra=some (.lst (Jb p z n)))->(1<=n)->(n<=60)->(m<=60)->(1<=r)->(r<=n)->(r<p)->(p<=100000)->(PrM p)->(Zi4 m p one)->((∀k,k<r->∃c:Nat,c<m/\wk k=(c:Int)))->(-(2 ^ 40)<share)->(share<2 ^ 40)->(∀q H',Zw H H'->H' q=some (.tup ((Zh8 n (ofF n r p share z λk=>one (wk k).toNat)).map V.int))->Q (.ref q) H')->Za7 vs H Q E03
theorem Zoz {J:It}{q:Hp->Prop}{xs:TL}(S:Zjd J q xs):Zek J q (((ae xs.length).map nV).zip xs) where
 go:=λi H h j=>S.go i H h (by rw[eF,Za,Zg,lq] at j;exact j)
 yld:=λi H x M h O=>by
  obtain⟨T,y,rfl,U,rfl,e⟩:=S.yld i H x M h O;have j:=(ac.mp e).1;refine⟨T,.int i,y,rfl,U,rfl,?_⟩;rw[gu,Zc,ai j];exact⟨rfl,e⟩
 stop:=λi H h j=>S.stop i H h (by rw[eF,Za,Zg,lq] at j;exact j)
theorem ZjI {p z n k:Nat}(h:k<n):Xu (Jb p z n) (k:Int)=some (V.int ((z ^ k % p:Nat):Int)):=by
 refine ZA ?_;unfold Jb;rw[Zc,ai h];rfl
theorem Zjk {n j:Nat}(v:Nat->Int)(x:Int)(h:j<n):(ZN n v).set j (V.int x)=ZN n λi=>if i=j then x else v i:=by
 refine aY λi=>?_;by_cases q:i<n
 ·rw[JY _ q,jc]
  by_cases e:j=i
  ·subst e
   rw[if_pos rfl,if_pos (by rw[Ys];exact q),if_pos rfl]
  ·rw[if_neg e,JY _ q,if_neg (λz=>e z.symm)]
 ·rw[ag (by rw[aX,Ys];omega),ag (by rw[Ys];omega)]
theorem Zdv (n:Nat):(aw n [V.int 0]).flatten=ZN n λ_=>0:=by
 have:∀k a,(aw k [V.int 0]).flatten=(c9 a k).map λ_=>V.int 0:=λk=>by
  induction k with
  |zero=>intro a;rfl
  |succ k j=>intro a;rw[bf,ce,j (a+1),dW,aB];rfl
 unfold ZN;rw[this n 0,<-dS]
section
variable {P:Program}{w:World}{K:aa}{mg:TR}{base:Heap}
theorem ZhZ {f:Addr}{fd:FuncData}(F:Wu K "number_at" "number_at" Zhg f fd)(T:Bl mg)(T2:Zaf mg)(T5:BlT mg)(GB:Fn P w K mg base Z9 1 "back_by" ["p", "x"] JJ)(GN:Fn P w K mg base Z9 3 "number_of" ["n", "powers"] (N55.Za6 K)):Z2 P w K mg base Z9 4 f fd ["walk", "one", "share", "roots", "p"] Za7:=by
 refine F.ok (FS (N:=["walk", "one", "share", "roots", "p", "n", "step", "part", "often", "j"])) (λvs H Q E h=>?_) (λo5 A m8 s H vs Q E hr h=>?_)
 ·obtain⟨M,oa,ra,r,m,n,p,z,share,wk,one,rfl,_⟩:=h;rfl
 ·obtain⟨M,oa,ra,r,m,n,p,z,share,wk,one,rfl,hW,hO,hR,n1,n60,o6,r1,rn,rp,pl,pr,vo,m9,o7,o8,q⟩:=h
  refine⟨_,Zt (ZG 5 rfl (cb (Yr K) T.len (pc (vn 3) Zs)))
   (Zt (ZG 6 rfl (Zz Wi (vn 5) (cb (Yr K) T.len (pc (vn 0) Zs))))
   (Zt (ZG 7 rfl (Zz ZS (vn 2) (Yz GB hr ZF (pc (vn 4) (pc (cb (Yr K) T.len (pc (vn 0) Zs)) Zs)))))
   (Zt (ZG 8 rfl (Zz Xn (ZK (pc Zv Zs)) (vn 5)))
   (Zt (ZV ao rfl (ZpF T.range (pc Zv (pc (vn 5) (pc (vn 6) Zs)))) (gnf 9 rfl)
    (Zx (Js (Zz ZX (Zz ZS (vn 7) (cb (sumK K rfl) T5.sum (pc (cmp ["k", "c"] [1,3,9,5] ["k", "c", "one", "roots", "j", "n"] rfl (UF K T2.enumerate (pc (vn 0) Zs)) (λ_ _ _ _ _=>g2 K 0 1 rfl (gn 0) (gn 1)) (λ_ _ _ _ _=>ZQ)
     (λ_ _ _ _ _=>Zz ZS (ZB (WB K) (vn 2) (vn 1) (λ_ _=>rfl)) (ZB (WB K) (vn 3) (Zz ZX (Zz ZS (vn 4) (vn 0)) (vn 5)) (λ_ _=>rfl)))) Zs))) (vn 4)) (Jt (vn 8) (vn 9) YB))))
   (Zx (ZE (Yz GN hr ZF (pc (vn 5) (pc (vn 8) Zs))))))))),?_⟩
  have p2:=pr.p2;have sz:=Ja;have n6:1<=n / r:=Nat.div_pos rn (by omega);have o9:n / r<=n:=jT _ _;have p4:((n:Nat):Int) / ((r:Nat):Int)=((n / r:Nat):Int):=rfl;refine⟨_,rfl,ra,_,rfl,.inl (.of hR),?_⟩;rw[VO];refine⟨_,rfl,_,rfl,M,_,rfl,.inl (.of hW),?_⟩;rw[Ys];refine⟨_,_,rfl,rfl,⟨by omega,by omega⟩,_,rfl,_,rfl,_,rfl,M,_,rfl,.inl (.of hW),?_⟩;rw[Ys];obtain⟨y0,y1,y2,y3⟩:=pr.iv r (by omega) rp;refine⟨p,_,rfl,p2,pl,⟨y0,y1,y2,by rw[<-aJ,<-a5,y3];rfl⟩,λy a1 a2 a3=>?_⟩;have hy:y*r % p=1:=by
   have:((y*r % p:Nat):Int)=1:=by rw[a5,aJ];exact a3
   omega
  have eb:=Zlz a2 hy;refine⟨_,_,rfl,rfl,.inl ⟨by omega,by omega⟩,?_⟩;refine⟨WK,λl0 n8=>⟨_,rfl,l0,_,_,rfl,rfl,Zu,by omega,by omega,by show 1*((n:Int)).toNat<=sizeLine;omega,λL nL=>?_⟩⟩;rw[Zj,Zdv];have s1:=Zw.upd (H:=H) (o:=.lst [.int 0]) n8;have n9:H L=none:=s1.free nL;have s2:=s1.trans (Zw.upd (o:=.lst (ZN n λ_=>0)) nL);have h2:upd (upd H l0 (.lst [.int 0])) L (.lst (ZN n λ_=>0)) L=some (.lst (ZN n λ_=>0)):=Zu;generalize upd (upd H l0 (.lst [.int 0])) L (.lst (ZN n λ_=>0))=H2 at s2 h2 ⊢;refine⟨_,rfl,_,rfl,n,n / r,rfl,n6,by omega,by omega,?_⟩;refine Ziy (λi Y H'=>∃v9:TK,Y=[some (.ref M),some (.ref oa),some (.int share),some (.ref ra),some (.int (p:Nat)),some (.int (n:Nat)),some (.int ((n / r:Nat):Int)),some (.int (share*(y:Int))),some (.ref L),v9]/\Zw H H'/\H' L=some (.lst (ZN n λj=>if j<i*(n / r) then ofF n r p share z (λk=>one (wk k).toNat) j else 0)))
   ⟨_,rfl,s2,by rw[h2];congr 2;exact Wq λj _=>by rw[if_neg (by omega)]⟩ ?_ ?_
  ·rintro i Y H3 hi ⟨v9,rfl,s3,h3⟩
   have hj:i*(n / r)<n:=by
    unfold WS at hi;have:(i+1)*(n / r)<=n+n / r-1:=aW (cw _ hi) (Nat.div_mul_le_self _ _);rw[cg] at this;omega
   have ej:(0:Int)+(i:Int)*((n / r:Nat):Int)=((i*(n / r):Nat):Int):=by rw[aJ];omega
   rw[ej];generalize O:i*(n / r)=j at hj;have m5:=s3 _ _ hW;refine⟨_,rfl,_,rfl,M,rfl,.inl ⟨⟨_,.of m5⟩,?_⟩⟩;have zi:Zek (ZkZ K M) (λH=>Wp K H M (ZN r wk)) ((ZN r λk=>(k:Int)).zip (ZN r wk)):=by
    have:=Zoz (UH (K:=K) (a:=M) (xs:=ZN r wk));rw[Ys] at this;exact this
   refine Vm zi (λH' sm=>.of (sm _ _ m5)) (Zw.refl H3) [some (.ref oa),some (.ref ra),some (.int (j:Nat)),some (.int (n:Nat))] rfl (λk c=>one c.toNat*((z ^ (j*k.toNat % n) % p:Nat):Int)) (by omega) (λk H4 hk s4 R g=>?_) (λD H4 nD s4 hD=>?_)
   ·obtain⟨c,hc,ec⟩:=m9 k hk
    have J:=s3.trans s4;have g1:=vo.ge c hc;have p6:=vo.lt c hc;rw[ec] at g ⊢;rw[Zj,Zj] at g;have m6:((j:Nat):Int)*((k:Nat):Int) % ((n:Nat):Int)=((j*k % n:Nat):Int):=by rw[a5,aJ]
    have o0:Xu (Jb p z n) (((j:Nat):Int)*((k:Nat):Int) % ((n:Nat):Int))=some (V.int ((z ^ (j*k % n) % p:Nat):Int)):=by
     rw[m6];exact ZjI (bO _ (by omega))
    refine⟨_,rfl,_,rfl,oa,_,_,_,rfl,rfl,.of (J _ _ hO),ZA (JY one hc),_,rfl,_,rfl,_,rfl,_,_,rfl,rfl,.inl ⟨by omega,by omega⟩,_,rfl,_,_,rfl,rfl,(by show (0:Int)<(n:Int);omega),ra,_,_,_,rfl,rfl,.of (J _ _ hR),o0,_,_,rfl,rfl,.inl ⟨by omega,by omega⟩,g⟩
   ·rw[Ji] at hD
    have yb:(y:Int)<100000:=by omega
    have mb:-(2 ^ 64)<share*(y:Int)/\share*(y:Int)<2 ^ 64:=by
     have h1:(y:Int) ≥ 1:=by omega
     constructor
     ·have:share*(y:Int) ≥ -(2 ^ 40)*100000:=by
       have a:share*(y:Int) ≥ (-(2 ^ 40))*(y:Int):=cZ (by omega) (by omega);have b:(-(2 ^ 40):Int)*(y:Int) ≥ -(2 ^ 40)*100000:=by omega
       omega
      omega
     ·have:share*(y:Int)<=(2 ^ 40)*(y:Int):=cZ (by omega) (by omega)
      omega
    have J:=s3.trans s4;refine⟨D,_,rfl,.of hD,_,_,rfl,rfl,.inl mb,_,rfl,_,_,rfl,rfl,(by show (0:Int)<(p:Int);omega),_,rfl,_,rfl,L,_,_,j,rfl,rfl,s4 _ _ h3,Wy (by rw[Ys];exact hj),?_⟩;refine⟨_,rfl,J.updr n9,?_⟩;rw[Zu,Zjk _ _ hj];congr 2;refine Wq λa ha=>?_;have U:j % (n / r)=0:=by rw[<-O];exact Nat.mul_mod_left _ _
    by_cases e1:a=j
    ·rw[if_pos e1,if_pos (by rw[e1,<-O,cg];omega),e1]
     unfold ofF;rw[if_pos U,eb];rfl
    ·rw[if_neg e1]
     by_cases e2:a<j
     ·rw[if_pos (by rw[O];exact e2),if_pos (by rw[cg,O];omega)]
     ·rw[if_neg (by rw[O];exact e2)]
      by_cases e3:a<(i+1)*(n / r)
      ·rw[if_pos e3]
       unfold ofF;rw[if_neg];intro hz;rw[cg,O] at e3;obtain⟨q1,m7⟩:=a8 hz;obtain⟨q2,p7⟩:=a8 U;have:i<q1:=by
        apply aj;intro zz;have h4:(n / r)*q1<=(n / r)*i:=fR _ (by omega);rw[<-m7,fh,O] at h4;omega
       have h5:(n / r)*(i+1)<=(n / r)*q1:=fR _ (by omega);rw[<-m7,jD,iE,fh,O] at h5;omega
      ·rw[if_neg e3]
  ·rintro Y H3 ⟨v9,rfl,s3,h3⟩
   have big:n<=WS n (n / r)*(n / r):=by
    unfold WS;have h1:=Nat.div_add_mod (n+n / r-1) (n / r);have h2:=bO (n+n / r-1) (show 0<n / r by omega);rw[fh] at h1;omega
   have e3:(ZN n λj=>if j<WS n (n / r)*(n / r) then ofF n r p share z (λk=>one (wk k).toNat) j else 0)=ZN n (ofF n r p share z λk=>one (wk k).toNat):=Wq λj hj=>if_pos (by omega)
   rw[e3,Ji] at h3;refine⟨_,rfl,_,rfl,n,L,_,rfl,n1,n60,.inl (.of h3),by rw[Za,Zg];omega,λq' H4 s4 h4=>?_⟩;exact q q' H4 (s3.trans s4) h4
end
noncomputable abbrev Zha:Stmt:=top 7
noncomputable abbrev Zlc:Stmt:=top 8
inductive Za1 (vs:TL) (H:Hp) (Q:VK) (E03:XK):Prop
 |mk (g:Addr) (t:T9) (a r:Nat):(vs=[.ref g,.int a])->(GT H g t)->(PW t)->(a<t.length)->(Rd t a r)->(Q (.int r) H)->Za1 vs H Q E03
inductive Za9 (vs:TL) (H:Hp) (Q:VK) (E03:XK):Prop
 |mk (g:Addr) (t:T9) (rs:Nat->Nat):(vs=[.ref g])->(GT H g t)->(PW t)->((∀a,a<t.length->Rd t a (rs a)))->(∀(f:Nat) H',Zw H H'->Lc rs t.length f->Q (.int f) H')->Za9 vs H Q E03
section
variable {P:Program}{w:World}{K:aa}{mg:TR}{base:Heap}
theorem ZhU {f:Addr}{fd:FuncData}(F:Wu K "round_of" "round_of" Zha f fd):Z2 P w K mg base Z9 1 f fd ["group", "a"] Za1:=by
 refine F.ok (FS (N:=["group", "a", "k", "found"])) (λvs H Q E h=>?_) (λm5 A U s H vs Q E hr h=>?_)
 ·obtain⟨g,t,a,r,rfl,_⟩:=h;rfl
 ·obtain⟨g,t,a,r,rfl,G,Y,ha,R,q⟩:=h
  refine⟨_,Zt (ZG 2 rfl Zv) (Zt (ZG 3 rfl (vn 1))
   (Zt (Yv ao (ZH WG (vn 3) Zv (ZI _))
    (Zt (ZG 3 rfl (ZB (Wa K) (ZB (Wa K) (vn 0) (vn 3) (λ_ _=>rfl)) (vn 1) (λ_ _=>rfl)))
    (Zx (JN (i:=2) (Z7 (by kernel_rfl)) rfl (YV (by kernel_rfl)) Zv Jg (.inl rfl)))))
   (Zx (ZE (vn 2))))),?_⟩
  have r1:=R.r1;refine⟨_,rfl,?_⟩;refine Yn (λm j O=>∃k:Nat,j=[some (.ref g),some (.int a),some (.int k),some (.int (it t a k:Nat))]/\O=H/\1<=k/\k<=r/\m=r-k)
   (λj O=>∃v3:TK,j=[some (.ref g),some (.int a),some (.int r),v3]/\O=H) ?hend ⟨r-1,1,by rw[Zd9 Y ha];rfl,rfl,Zq _,r1,rfl⟩ ?turn
  case hend=>
   rintro j O ⟨v3,rfl,rfl⟩;exact⟨_,rfl,q⟩
  case turn=>
   rintro J m j O ⟨k,rfl,rfl,k1,kr,hm⟩;refine⟨_,rfl,rfl,_,rfl,?_⟩;refine Z1 (λM=>?_) (λM=>?_)
   ·have M:it t a k≠0:=λz=>by
     rw[Yi,z] at M;simp at M
    have m6:k<r:=dk kr λz=>M (z▸R.z);obtain⟨rs,r2,g1,_,g2,g3,g4⟩:=G.at Y (WX Y ha k);refine⟨_,λ_ _ z=>z,_,rfl,_,rfl,g,_,_,_,rfl,rfl,.of g1,g2,_,rfl,r2,_,_,_,rfl,rfl,g3.sq,g4 a ha,_,rfl,_,_,rfl,rfl,r-(k+1),by omega,k+1,?_,rfl,by omega,by omega,rfl⟩;rfl
   ·have M:it t a k=0:=by
     apply aj;intro z;apply M;rw[Yi];simp[z]
    have:k=r:=by
     apply aj;intro z;exact R.nz k k1 (by omega) M
    exact J _ _ ⟨_,by rw[this],rfl⟩
theorem Zj9 {f:Addr}{fd:FuncData}(F:Wu K "full_round" "full_round" Zlc f fd)(T:Bl mg)(GR:Fn P w K mg base Z9 1 "round_of" ["group", "a"] Za1):Z2 P w K mg base Z9 2 f fd ["group"] Za9:=by
 refine F.ok (FS (N:=["group", "found", "a", "step"])) (λvs H Q E h=>?_) (λm7 A m6 s H vs Q E hr h=>?_)
 ·obtain⟨g,t,rs,rfl,_⟩:=h;rfl
 ·obtain⟨g,t,rs,rfl,G,Pt,R,q⟩:=h
  refine⟨_,Zt (ZG 1 rfl Zv) (Zt (ZV ao rfl (J9 T.range (pc (cb (Yr K) T.len (pc (vn 0) Zs)) Zs)) (gn 2)
    (Zt (ZG 3 rfl (vn 1))
    (Zx (Yv ao (ZH WG (Zz ZX (vn 1) (Yz GR hr ZF (pc (vn 0) (pc (vn 2) Zs)))) Zv (ZI _)) (Zx (JN (i:=1) (Z7 (by kernel_rfl)) rfl (YV (by kernel_rfl)) (vn 3) Jg (.inl rfl)))))))
   (Zx (ZE (vn 1)))),?_⟩
  have n1:=Pt.n1;have m8:=Pt.n60;obtain⟨gs,g1,g2,_⟩:=id G;have el:(gs.map V.ref).length=t.length:=by rw[Za,g2]
  refine⟨_,rfl,g,_,rfl,.inr (.of g1),_,rfl,by omega,by rw[el];omega,?_⟩;rw[Zj,el];refine YD (λi Y H'=>∃(f:Nat) (v2 v3:TK),Y=[some (.ref g),some (.int f),v2,v3]/\Zw H H'/\Lc rs i f) ⟨1,_,_,rfl,Zw.refl _,⟨Zq _,λa ha=>absurd ha (eO _),λx _=>Nat.mod_one x⟩⟩ ?_ ?_
  ·rintro i Y H' hi ⟨f,v2,v3,rfl,sm,L⟩
   rw[show (0:Int)+(i:Int)=(i:Int) by omega];have Ri:=R i hi;have m9:=Ri.r1;have L2:Lc rs (i+1) (upTo (rs i) f 61 f):=L.step (B:=t.length) n1 (λa ha=>(R a (by omega)).dv) (by omega);have m5:=L2.dv i (by omega);refine⟨_,rfl,?_⟩;refine Yn (λm j J=>∃x:Nat,j=[some (.ref g),some (.int x),some (.int i),some (.int f)]/\J=H'/\upTo (rs i) f m x=upTo (rs i) f 61 f)
    (λj J=>j=[some (.ref g),some (.int (upTo (rs i) f 61 f:Nat)),some (.int i),some (.int f)]/\J=H') ?hend ⟨61,f,rfl,rfl,rfl⟩ ?turn
   case hend=>
    rintro j J ⟨rfl,rfl⟩;exact⟨_,_,_,rfl,sm,L2⟩
   case turn=>
    rintro O m j J ⟨x,rfl,rfl,U⟩;have eT:(x:Int) % ((rs i:Nat):Int)=((x % rs i:Nat):Int):=by push_cast;rfl
    refine⟨_,rfl,_,rfl,_,rfl,g,t,i,rs i,rfl,G.mono sm,Pt,hi,Ri,_,_,rfl,rfl,(by show (0:Int)<(rs i:Nat);omega),rfl,_,rfl,?_⟩;refine Z1 (λM=>?_) (λM=>?_)
    ·have M:x % rs i≠0:=λz=>by
      rw[Yi,eT,z] at M;simp at M
     cases m with
     |zero=>
      have U:x=upTo (rs i) f 61 f:=U;rw[<-U] at m5;exact absurd m5 M
     |succ m=>
      rw[Tb.upTo,if_neg M] at U;exact⟨_,λ_ _ z=>z,_,rfl,_,rfl,_,_,rfl,rfl,m,by omega,x+f,rfl,rfl,U⟩
    ·have M:x % rs i=0:=by
      apply aj;intro z;apply M;rw[Yi,eT];simp;omega
     have:x=upTo (rs i) f 61 f:=by
      cases m with
      |zero=>exact U
      |succ m=>rw[Tb.upTo,if_pos M] at U;exact U
     exact O _ _ ⟨by rw[this],rfl⟩
  ·rintro Y H' ⟨f,v2,v3,rfl,sm,L⟩
   exact⟨_,rfl,q f H' sm L⟩
end
end C55
namespace PyZ
open PySem PyProof PyProof.Rows
def Runs (n:Nat)(cmp:Nat->Nat->Bool){α:Type}:jM α->(α->Prop)->Prop
 | .ret a,Q=>Q a
 | .ask i j k,Q=>i<n/\j<n/\Runs n cmp (k (cmp i j)) Q
theorem Runs.run {n:Nat}{cmp:Nat->Nat->Bool}{α:Type}{Q:α->Prop}:∀{t:jM α},Runs n cmp t Q->∃a,VD n cmp t=some a/\Q a
 | .ret a,h=>⟨a,rfl,h⟩
 | .ask i j k,h=>by
  obtain⟨J,M,O⟩:=h;obtain⟨a,e,q⟩:=O.run;exact⟨a,by rw[VD,if_pos ⟨J,M⟩];exact e,q⟩
theorem Runs.bind {n:Nat}{cmp:Nat->Nat->Bool}{α q:Type}{f:α->jM q}{Q:q->Prop}:∀{t:jM α},Runs n cmp t (λa=>Runs n cmp (f a) Q)->Runs n cmp (t.bind f) Q
 | .ret a,h=>h
 | .ask i j k,h=>⟨h.1,h.2.1,h.2.2.bind⟩
theorem Runs.mono {n:Nat}{cmp:Nat->Nat->Bool}{α:Type}{Q q:α->Prop}(J:∀a,Q a->q a):∀{t:jM α},Runs n cmp t Q->Runs n cmp t q
 | .ret a,h=>J a h
 | .ask i j k,h=>⟨h.1,h.2.1,h.2.2.mono J⟩
section
variable {n:Nat}{rank:Nat->Nat}
noncomputable abbrev WM (rank:Nat->Nat):Nat->Nat->Bool:=λi j=>decide (rank i<rank j)
def RK (rank:Nat->Nat)(p:Array Nat)(i:Nat):Nat:=rank (p.getD i 0)
structure U0 (n:Nat)(p:Array Nat):Prop where
 pm:p.Perm (ae n).toArray
theorem U0.size {p:Array Nat}(h:U0 n p):p.size=n:=by
 have:=h.pm.size_eq;simpa using this
theorem U0.lt {p:Array Nat}(h:U0 n p){i:Nat}(hi:i<n):p.getD i 0<n:=by
 have j:=h.size;have q:p.toList.Perm (ae n):=by have:=h.pm;rw[jV] at this;simpa using this
 have e:p.getD i 0=p[i]'(by omega):=by simp[mf,j,hi]
 rw[e];have J:p[i]'(by omega)∈p.toList:=by simp
 exact af.mp (q.mem_iff.mp J)
theorem JX {p q:Array Nat}{i j:Nat}(h:p[i]?=q[j]?):RK rank p i=RK rank q j:=by
 unfold RK;rw[cz,cz,h]
theorem Zgs {xs:Array Nat}{src d:Nat}(J:src<xs.size)(M:d<=src)(k:Nat) :
  RK rank (bubble xs src d) k=if k=src-d then RK rank xs src else if src-d<k/\k<=src then RK rank xs (k-1) else RK rank xs k:=by
 have e:=getElem?_bubble J d M k;by_cases j:k=src-d
 ·rw[if_pos j] at e ⊢;exact JX e
 ·rw[if_neg j] at e ⊢
  by_cases q:src-d<k/\k<=src
  ·rw[if_pos q] at e ⊢;exact JX e
  ·rw[if_neg q] at e ⊢;exact JX e
theorem Zel {xs:Array Nat}{i j:Nat}(J:j<=xs.size)(k:Nat):RK rank (eW xs i j) k=if i<=k/\k<j then RK rank xs (i+j-1-k) else RK rank xs k:=by
 have e:=getElem?_mirror_all (i:=i) J k;unfold eW;by_cases q:i<=k/\k<j
 ·rw[if_pos q] at e ⊢;exact JX e
 ·rw[if_neg q] at e ⊢;exact JX e
theorem Vt {xs:Array Nat}{i j:Nat}(q:j<=xs.size)(heq:∀k,i<=k->k<j->RK rank xs k=RK rank xs (j-1))(k:Nat):RK rank (eW xs i j) k=RK rank xs k:=by
 rw[Zel q];split
 ·rw[heq _ (by omega) (by omega),heq k (by omega) (by omega)]
 ·rfl
theorem U0.rev {p:Array Nat}(h:U0 n p)(i j:Nat):U0 n (eW p i j):=⟨(mirror_perm p i j _).trans h.pm⟩
theorem U0.bub {p:Array Nat}(h:U0 n p)(k d:Nat):U0 n (bubble p k d):=⟨(bubble_perm p k d).trans h.pm⟩
def Up (rank:Nat->Nat)(p:Array Nat)(k:Nat):Prop:=∀i j,i<=j->j<k->RK rank p i<=RK rank p j
def Dn (rank:Nat->Nat)(p:Array Nat)(k:Nat):Prop:=∀i j,i<=j->j<k->RK rank p j<=RK rank p i
theorem Up.snoc {p:Array Nat}{k:Nat}(O:1<=k)(h:Up rank p k)(J:RK rank p (k-1)<=RK rank p k):Up rank p (k+1):=λi j q U=>by
 by_cases e:j=k
 ·subst e
  by_cases M:i=j
  ·rw[M];exact Zq _
  ·exact aW (h i (j-1) (by omega) (by omega)) J
 ·exact h i j q (by omega)
theorem Dn.snoc {p:Array Nat}{k:Nat}(O:1<=k)(h:Dn rank p k)(J:RK rank p k<=RK rank p (k-1)):Dn rank p (k+1):=λi j q U=>by
 by_cases e:j=k
 ·subst e
  by_cases M:i=j
  ·rw[M];exact Zq _
  ·exact aW J (h i (j-1) (by omega) (by omega))
 ·exact h i j q (by omega)
theorem Zej {p:Array Nat}(q:U0 n p):∀(f k:Nat),1<=k->k+f<=n->Up rank p k->Runs n (WM rank) (W.kas_asc p f k) λm=>k<=m/\m<=k+f/\Up rank p m/\(m<k+f->RK rank p m<RK rank p (m-1))
 |0,k,J,M,j=>⟨Zq _,Zq _,j,λz=>absurd z (by omega)⟩
 |f+1,k,J,M,j=>by
  refine⟨q.lt (by omega),q.lt (by omega),?_⟩;by_cases c:rank (p.getD k 0)<rank (p.getD (k-1) 0)
  ·rw[show WM rank _ _=true from decide_eq_true c]
   exact⟨Zq _,by omega,j,λ_=>c⟩
  ·rw[show WM rank _ _=false from decide_eq_false c]
   refine (Zej q f (k+1) (by omega) (by omega) (j.snoc J (by unfold RK;omega))).mono λm ⟨a,b,u,d⟩=>⟨by omega,by omega,u,λz=>d (by omega)⟩
theorem VZ:∀(f:Nat) (p:Array Nat) (k q:Nat),U0 n p->1<=k->k+f<=n->q+1<=k->Dn rank p k->(∀j,k-1-q<=j->j<k->RK rank p j=RK rank p (k-1))->
  Runs n (WM rank) (W.kas_desc f p k q) λr=>U0 n r.1/\1<=r.2.1/\r.2.1<=k+f/\r.2.2+1<=r.2.1/\Dn rank r.1 r.2.1/\∀j,r.2.1-1-r.2.2<=j->j<r.2.1->RK rank r.1 j=RK rank r.1 (r.2.1-1)
 |0,p,k,q,J,M,hk,U,hd,he=>⟨J,M,Zq _,U,hd,he⟩
 |f+1,p,k,q,J,M,hk,U,hd,he=>by
  refine⟨J.lt (by omega),J.lt (by omega),?_⟩;by_cases c:rank (p.getD k 0)<rank (p.getD (k-1) 0)
  ·rw[show WM rank _ _=true from decide_eq_true c]
   show Runs n (WM rank) (if q > 0 then W.kas_desc f (eW p (k-(q+1)) k) (k+1) 0 else W.kas_desc f p (k+1) 0) _
   have O:=hd.snoc M (dw c);have sz:=J.size;split
   ·have Y:∀j,RK rank (eW p (k-(q+1)) k) j=RK rank p j:=λj=>Vt (by omega) (λi a b=>he i (by omega) b) j
    refine (VZ f _ (k+1) 0 (J.rev _ _) (by omega) (by omega) (by omega) (λi j a b=>?_) (λj a b=>?_)).mono λr ⟨a,b,c,d⟩=>⟨a,b,by omega,d⟩
    ·rw[Y,Y];exact O i j a b
    ·rw[show j=k+1-1 by omega]
   ·refine (VZ f _ (k+1) 0 J (by omega) (by omega) (by omega) O (λj a b=>?_)).mono λr ⟨a,b,c,d⟩=>⟨a,b,by omega,d⟩
    rw[show j=k+1-1 by omega]
  ·rw[show WM rank _ _=false from decide_eq_false c]
   refine⟨J.lt (by omega),J.lt (by omega),?_⟩;by_cases d:rank (p.getD (k-1) 0)<rank (p.getD k 0)
   ·rw[show WM rank _ _=true from decide_eq_true d]
    exact⟨J,M,(show k<=k+(f+1) by omega),U,hd,he⟩
   ·rw[show WM rank _ _=false from decide_eq_false d]
    have e:RK rank p k=RK rank p (k-1):=by unfold RK;omega
    refine (VZ f _ (k+1) (q+1) J (by omega) (by omega) (by omega) (hd.snoc M (by omega)) (λj a b=>?_)).mono λr ⟨a,b,c,d⟩=>⟨a,b,by omega,d⟩;rw[show k+1-1=k by omega];by_cases ej:j=k
    ·rw[ej]
    ·rw[he j (by omega) (by omega),e]
theorem Zcb {p:Array Nat}{k:Nat}(q:U0 n p)(J:1<=k)(U:k<=n)(M:Dn rank p k):Runs n (WM rank) (mv k n p) λr=>1<=r.1/\r.1<=n/\U0 n r.2/\Up rank r.2 r.1:=by
 have sz:=q.size;have O:Up rank (eW p 0 k) k:=λi j a b=>by
  rw[Zel (by omega),Zel (by omega),if_pos ⟨aU _,by omega⟩,if_pos ⟨aU _,b⟩];exact M _ _ (by omega) (by omega)
 exact Runs.bind ((Zej (q.rev 0 k) (n-k) k J (by omega) O).mono λm ⟨a,b,c,_⟩=>⟨aW J a,by show m<=n;omega,q.rev 0 k,c⟩)
theorem VA {p:Array Nat}{k:Nat}(J:U0 n p)(O:k+1<=n)(M:Dn rank p (k+1)):Runs n (WM rank) (W.kas_descPart k n p) λr=>1<=r.1/\r.1<=n/\U0 n r.2/\Up rank r.2 r.1:=by
 refine Runs.bind ((VZ (n-(k+1)) p (k+1) 0 J (by omega) (by omega) (by omega) M (λj a b=>by rw[show j=k+1-1 by omega])).mono λr ⟨a,b,c,d,e,g⟩=>?_);have sz:=a.size;show Runs n (WM rank) (if r.2.2 > 0 then mv r.2.1 n (eW r.1 (r.2.1-(r.2.2+1)) r.2.1) else mv r.2.1 n r.1) _
 split
 ·have q:∀j,RK rank (eW r.1 (r.2.1-(r.2.2+1)) r.2.1) j=RK rank r.1 j:=λj=>Vt (by omega) (λi x y=>g i (by omega) y) j
  exact Zcb (a.rev _ _) b (by omega) λi j x y=>by rw[q,q];exact e i j x y
 ·exact Zcb a b (by omega) e
theorem ZiN {p:Array Nat}(q:U0 n p)(h1:1<=n):Runs n (WM rank) (W.kas_count n p) λr=>1<=r.1/\r.1<=n/\U0 n r.2/\Up rank r.2 r.1:=by
 refine Runs.bind ((Zej q (n-1) 1 (Zq _) (by omega) (λi j a b=>by rw[show i=0 by omega,show j=0 by omega];exact Zq _)).mono λm ⟨a,b,c,d⟩=>?_);have sz:=q.size;show Runs n (WM rank) (if (m == n)=true then _ else _) _
 by_cases e:m=n
 ·rw[if_pos (by rw[e];exact beq_self_eq_true n)]
  exact⟨a,by show m<=n;omega,q,c⟩
 ·rw[if_neg (by simpa using e)]
  have O:=d (by omega);have J:Dn rank p m->Dn rank p (m+1):=λh=>h.snoc a (dw O);split
  ·refine⟨q.lt (by omega),q.lt (by omega),?_⟩
   by_cases g:rank (p.getD 0 0)<rank (p.getD (m-1) 0)
   ·rw[show WM rank _ _=true from decide_eq_true g]
    exact⟨a,by show m<=n;omega,q,c⟩
   ·rw[show WM rank _ _=false from decide_eq_false g]
    have all:∀j,j<m->RK rank p j=RK rank p (m-1):=λj U=>by
     have x:=c 0 j (by omega) U;have y:=c j (m-1) (by omega) (by omega);unfold RK at x y ⊢;omega
    have M:∀j,RK rank (eW p 0 m) j=RK rank p j:=λj=>Vt (by omega) (λi _ y=>all i y) j;refine VA (q.rev 0 m) (by omega) λi j x y=>?_;rw[M,M];exact J (λi j x y=>by rw[all i (by omega),all j y];exact Zq _) i j x y
  ·have Y:m=1:=by omega
   subst Y;exact VA q (by omega) (J λi j x y=>by rw[show i=0 by omega,show j=0 by omega];exact Zq _)
theorem Um {p:Array Nat}{k:Nat}(j:U0 n p)(U:k<n)(q:Up rank p k):∀(f l r:Nat),r-l<=f->l<=r->r<=k->(∀i,i<l->RK rank p i<=RK rank p k)->(∀i,r<=i->i<k->RK rank p k<RK rank p i)->
  Runs n (WM rank) (W.kas_place p k f l r) λm=>m<=k/\(∀i,i<m->RK rank p i<=RK rank p k)/\∀i,m<=i->i<k->RK rank p k<RK rank p i
 |0,l,r,hf,Y,J,M,O=>by
  have e:l=r:=by omega
  subst e;exact⟨J,M,O⟩
 |f+1,l,r,hf,Y,J,M,O=>by
  show Runs n (WM rank) (if l ≥ r then _ else _) _
  split
  ·have e:l=r:=by omega
   subst e;exact⟨J,M,O⟩
  ·refine⟨j.lt U,j.lt (by omega),?_⟩
   by_cases c:rank (p.getD k 0)<rank (p.getD ((l+r) / 2) 0)
   ·rw[show WM rank _ _=true from decide_eq_true c]
    refine Um j U q f l ((l+r) / 2) (by omega) (by omega) (by omega) M λi a b=>?_;exact aF c (q _ _ a b)
   ·rw[show WM rank _ _=false from decide_eq_false c]
    refine Um j U q f ((l+r) / 2+1) r (by omega) (by omega) J (λi a=>?_) O;have:=q i ((l+r) / 2) (by omega) (by omega);unfold RK at this ⊢;omega
theorem Zi1:∀(f:Nat) (p:Array Nat) (k:Nat),U0 n p->k+f=n->Up rank p k->Runs n (WM rank) (W.kas_bin f p k) λr=>U0 n r/\Up rank r n
 |0,p,k,J,U,q=>⟨J,by rw[<-U];exact q⟩
 |f+1,p,k,J,U,q=>by
  have sz:=J.size;refine Runs.bind ((Um J (by omega) q k 0 k (by omega) (by omega) (Zq _) (λi h=>by omega) (λi a b=>by omega)).mono λl ⟨a,b,c⟩=>?_);refine Zi1 f _ (k+1) (J.bub _ _) (by omega) λi j O hj=>?_;have hb:=λx=>Zgs (rank:=rank) (xs:=p) (src:=k) (d:=k-l) (by omega) (by omega) x;rw[hb i,hb j];have el:k-(k-l)=l:=by omega
  rw[el];have m6:=q;by_cases Y:i=l
  ·rw[if_pos Y]
   by_cases M:j=l
   ·rw[if_pos M];exact Zq _
   ·rw[if_neg M,if_pos ⟨by omega,by omega⟩]
    exact dw (c (j-1) (by omega) (by omega))
  ·rw[if_neg Y]
   by_cases i2:l<i/\i<=k
   ·rw[if_pos i2,if_neg (by omega),if_pos ⟨by omega,by omega⟩]
    exact q _ _ (by omega) (by omega)
   ·rw[if_neg i2]
    have il:i<l:=by omega
    by_cases M:j=l
    ·rw[if_pos M];exact b i il
    ·rw[if_neg M]
     by_cases j2:l<j/\j<=k
     ·rw[if_pos j2];exact q _ _ (by omega) (by omega)
     ·rw[if_neg j2];exact q _ _ O (by omega)
theorem Zju (O:1<=n)(rank:Nat->Nat):∃p,VD n (WM rank) (je n)=some p/\p.toList.Perm (ae n)/\(p.toList.map rank).Pairwise (· ≤ ·):=by
 have:Runs n (WM rank) (je n) λp=>U0 n p/\Up rank p n:=by
  refine Runs.bind ((ZiN (rank:=rank) ⟨Array.Perm.refl _⟩ O).mono λr ⟨a,b,c,d⟩=>?_);show Runs n (WM rank) (if r.1<n then _ else _) _
  split
  ·have e:max r.1 1=r.1:=by omega
   rw[e];exact Zi1 _ _ _ c (by omega) d
  ·exact⟨c,by rw[show n=r.1 by omega];exact d⟩
 obtain⟨p,e,M,U⟩:=this.run;refine⟨p,e,?_,?_⟩
 ·have:=M.pm
  rw[jV] at this;simpa using this
 ·have sz:=M.size
  rw[gh];intro i j q J Y;rw[Za] at q J;have li:i<p.size:=by simpa using q
  have lj:j<p.size:=by simpa using J
  have:=U i j (by omega) (by omega);unfold RK at this;rw[mU,mU];have ei:p.getD i 0=p.toList[i]'q:=by simp[mf,li]
  have ej:p.getD j 0=p.toList[j]'J:=by simp[mf,lj]
  rw[ei,ej] at this;exact this
end
end PyZ
namespace PyZ
open PySem PyProof PyProof.Rows SeqAt
open AutoSeq1 (wpAny_loadPart')
theorem VT {vs:List Value}{ns:TV}(h:bB vs ns):∀{i:Nat}{v:Value},vs[i]?=some v->∃n t,ns[i]?=some n/\v=.int n t:=by
 induction h with
 |nil=>intro i v e;simp at e
 |cons n t _ j=>
  intro i v e
  match i,e with
  |0,e=>cases e;exact⟨_,_,rfl,rfl⟩
  |i+1,e=>exact j (i:=i) (by simpa using e)
theorem XZ {vs:List Value}{ns:TV}(h:bB vs ns):vs.length=ns.length:=by
 induction h with
 |nil=>rfl
 |cons _ _ _ j=>rw[Zi,Zi,j]
theorem ZfW {fin:Bool}{xs ys:TV}{i:Nat}{x y:Int}(j:xs[i]?=some x)(q:ys[i]?=some y):Zd5 fin (xs.drop i) (ys.drop i)=if x=y then Zd5 fin (xs.drop (i+1)) (ys.drop (i+1)) else decide (x<y):=by
 have J:=(ac.mp j);have M:=(ac.mp q);obtain⟨O,U⟩:=J;obtain⟨Y,e2⟩:=M;rw[bR O,bR Y,U,e2];rfl
theorem Zif {fin:Bool}{xs ys:TV}{i:Nat}(h:xs[i]?=none\/ys[i]?=none):Zd5 fin (xs.drop i) (ys.drop i)=fin:=by
 rcases h with h|h
 ·rw[e9 (cK.mp h)]
  rfl
 ·rw[e9 (as:=ys) (cK.mp h)]
  cases xs.drop i with
  |nil=>rfl
  |cons _ _=>rfl
section
variable {prog:Program}{w:World}{A:Around}{E:TU}{s:Shared}
end
end PyZ
namespace PyZ
open PySem PyProof PyProof.Rows
theorem ZbE (ys:TV):ltB [] ys=decide (0<ys.length):=rfl
theorem ZcV (xs:TV):ltB xs []=false:=by
 cases xs with
 |nil=>rfl
 |cons x xs=>
  show decide ((x::xs).length<([]:TV).length)=false;exact decide_eq_false (by simp)
theorem Uz (x y:Int)(xs ys:TV):ltB (x::xs) (y::ys)=if x=y then ltB xs ys else decide (x<y):=by
 unfold ltB;show (if x=y then Zd5 _ xs ys else _)=_
 have e:decide ((x::xs).length<(y::ys).length)=decide (xs.length<ys.length):=by
  simp only[Zi,kD]
 rw[e]
theorem ZeW:∀xs:TV,ltB xs xs=false
 | []=>rfl
 |x::xs=>by rw[Uz,if_pos rfl];exact ZeW xs
theorem ZeV:∀{xs ys:TV},ltB xs ys=false->ltB ys xs=false->xs=ys
 | [],[],_,_=>rfl
 | [],_::_,h,_=>by rw[ZbE] at h;simp at h
 |_::_,[],_,h=>by rw[ZbE] at h;simp at h
 |x::xs,y::ys,j,q=>by
  rw[Uz] at j q;by_cases e:x=y
  ·rw[if_pos e] at j
   rw[if_pos e.symm] at q;rw[e,ZeV j q]
  ·rw[if_neg e] at j
   rw[if_neg (bE e)] at q;have a:=of_decide_eq_false j;have b:=of_decide_eq_false q;omega
theorem Zay:∀{xs ys q:TV},ltB xs ys=true->ltB ys q=true->ltB xs q=true
 |xs,ys,[],_,h=>by rw[ZcV] at h;cases h
 |xs,[],z::q,h,_=>by rw[ZcV] at h;cases h
 | [],y::ys,z::q,_,_=>by rw[ZbE];exact decide_eq_true (by simp)
 |x::xs,y::ys,z::q,J,j=>by
  rw[Uz] at J j ⊢;by_cases O:x=y
  ·rw[if_pos O] at J
   by_cases M:y=z
   ·rw[if_pos M] at j
    rw[if_pos (O.trans M)];exact Zay J j
   ·rw[if_neg M] at j
    have:=of_decide_eq_true j;rw[if_neg (by omega)];exact decide_eq_true (by omega)
  ·rw[if_neg O] at J
   have a:=of_decide_eq_true J;by_cases M:y=z
   ·rw[if_neg (by omega)]
    exact decide_eq_true (by omega)
   ·rw[if_neg M] at j
    have:=of_decide_eq_true j;rw[if_neg (by omega)];exact decide_eq_true (by omega)
theorem Ud {n:Nat}{cmp q:Nat->Nat->Bool}(h:∀i j,i<n->j<n->cmp i j=q i j){α:Type}:∀t:jM α,VD n cmp t=VD n q t
 | .ret a=>rfl
 | .ask i j k=>by
  rw[VD,VD];by_cases J:i<n/\j<n
  ·rw[if_pos J,if_pos J,h i j J.1 J.2]
   exact Ud h _
  ·rw[if_neg J,if_neg J]
theorem ZaJ {α:Type}{p q:α->Bool}:∀{l:List α},(∀x∈l,p x=true->q x=true)->(∃x∈l,p x=false/\q x=true)->l.countP p<l.countP q
 | [],_,⟨x,j,_⟩=>by cases j
 |y::l,h,⟨x,j,J,M⟩=>by
  have le:∀{l:List α},(∀x∈l,p x=true->q x=true)->l.countP p<=l.countP q:=λ{l} h=>List.countP_mono_left h;rw[mW,mW];have O:∀x∈l,p x=true->q x=true:=λz U=>h z (aE _ U);rcases aD.mp j with e|j
  ·rw[<-e,J,M]
   have:=le O;simp only[df,if_false,if_true];omega
  ·have:=ZaJ O ⟨x,j,J,M⟩
   have Y:=h y aA;cases e1:p y with
   |true=>rw[Y e1];omega
   |false=>
    simp only[df,if_false];split <;> omega
section
variable {prog:Program}{w:World}{A:Around}{E:TU}{s:Shared}
theorem Zjj (vs:List Value)(h:vs.length<2):(vs.toArray.zip vs.toArray).map (·.2)=vs.toArray:=by
 cases vs with
 |nil=>simp
 |cons v r=>
  cases r with
  |nil=>simp
  |cons a b=>exact absurd h (by rw[Zi,Zi];omega)
theorem ZdN {a:Addr}{vs:List Value}{n:Nat}{P:Fin->Shared->Prop}(M:s.heap.get? a=some (seqObj "list" vs.toArray n))(h2:vs.length<2)
  (h:P (.done (.ret .none)) {s with heap:=sortedHeap s.heap a vs vs.toArray}):wpAny (model prog w) A (cB.«list.sort» ⟨[.ref a],[]⟩) P E s:=by
 rw[list_sort_plain];have U:a<s.heap.objs.size:=Zp M;refine Zl (mE M rfl ?_);refine Zl (l5 M rfl ?_);obtain⟨O,j⟩:∃O,(s.heap.update a (a7 λ_=>#[])).get? a=some (seqObj "list" #[] O):=⟨_,iM M (λ_=>#[])⟩;refine Zl (seqEpoch_at j rfl ?_);refine Zl (wpAny_newTuple ?_);refine Zl (fP ?_);refine bZ ?_;have q:(((s.heap.update a (a7 λ_=>#[])).push (seqObj "tuple" vs.toArray 0)).push (seqObj "list" #[] 0)).get? a=some (seqObj "list" #[] O):=by
  rw[gv _ _ _ (by rw[kU,fo];exact ar (bI U)),gv _ _ _ (by rw[fo];exact ar U)];exact j
 show wpAny (model prog w) A _ P E {s with heap:=((s.heap.update a (a7 λ_=>#[])).push (seqObj "tuple" vs.toArray 0)).push (seqObj "list" #[] 0)}
 try dsimp only
 have m5:vs.toArray.size=vs.length:=by simp
 have J:vs.toArray.size<2:=by omega
 rw[if_pos J,if_pos J];refine Zl (Zm ?_);rw[StateT.run_pure];refine Zl (Zm ?_)
 try dsimp only
 have eo:(arrOf (SortSt.mk' general' (vs.toArray.zip vs.toArray) #[] 7 none)).map (·.2)=vs.toArray:=by
  exact Zjj _ h2
 refine Zl (seqEpoch_at q rfl ?_);refine Zl (l5 q rfl ?_ (hsz2:=by rw[Array.size_map];show (pairsOf vs).size<=_;rw[pairsOf_size,iW];omega));simp only[bne_self_eq_false,df,if_false];refine Zm ?_;rw[eo];exact h
end
section
variable {prog:Program}{w:World}{A:Around}{E:TU}{s:Shared}
end
end PyZ
namespace L2
open PySem PySem.Spec PyProof.Rows
section
variable {X:Cx}{pins:List (Addr×Obj)}{σ:St}{H:Hp}{s:Shared}
theorem Zj2:∀{as:TN},as.length<2->((ae as.length).map λi=>as.getD i 0)=as
 | [],_=>rfl
 | [_],_=>rfl
theorem Zmn {β:Type}:∀{n:Nat},n<2->∀(f:Nat->β) (R:β->β->Prop),((ae n).map f).Pairwise R
 |0,_,_,_=>fF
 |1,_,_,_=>gS _ _
end
end L2
namespace PyZ
open PySem PyProof PyProof.Rows SeqAt
open AutoSeq1 (wpAny_loadPart')
theorem ZgE (l b:Addr)(items j:Array Value)(n n2:Nat)(dd m8:Option Addr)(sl m9:Array (Option Value)){xs ys:TV}(hx:bB items.toList xs)(hy:bB j.toList ys) :
  Meets (cB.«tuple.__lt__» ⟨[.ref l,.ref b],[]⟩)
   (λA R s=>s.heap.get? l=some {cls:=.type "tuple",dict:=dd,data:=.seq items n,slots:=sl}/\s.heap.get? b=some {cls:=.type "tuple",dict:=m8,data:=.seq j n2,slots:=m9}/\
    R (.ok (.ret (.bool (ltB xs ys)))) s):=
 .of_wp λm5 w A R s h=>by
  obtain⟨hp,g,d,tk,os⟩:=s;obtain⟨hl,hb,h⟩:=h;have f2:=AutoSeq1.sub_tuple_tuple;have sx:items.size=xs.length:=by rw[<-XZ hx,Zr]
  have sy:j.size=ys.length:=by rw[<-XZ hy,Zr]
  have hZ:(items.toList.zip j.toList).length=min items.size j.size:=by simp
  wp_walk using wpAny_loadPart' hl,wpAny_loadPart' hb,wpAny_forIn_list _ (λrest b s'=>b.1=none/\s'=⟨hp,g,d,tk,os⟩/\∃i,rest=(items.toList.zip j.toList).drop i/\
   R (.ok (.ret (.bool (Zd5 (decide (xs.length<ys.length)) (xs.drop i) (ys.drop i))))) ⟨hp,g,d,tk,os⟩) _
  case turn=>
   rintro⟨y,x⟩ rest b s' ⟨M,rfl,i,O,J⟩;have m6:i<(items.toList.zip j.toList).length:=by
    rcases fV i (items.toList.zip j.toList).length with U|U
    ·exact U
    ·rw[List.drop_of_length_le U] at O;cases O
   have hm:i<min items.size j.size:=hZ▸m6;have h1:i<items.size:=aF hm (jS _ _);have h2:i<j.size:=aF hm (Nat.min_le_right _ _);rw[bR m6] at O;injection O with m7 Y;have n6:y=items[i]:=by have:=congrArg lL m7;simpa using this
   have n8:x=j[i]:=by have:=congrArg Prod.snd m7;simpa using this
   subst n6 n8;obtain⟨a,ta,ex,vx⟩:=VT hx (i:=i) (v:=items[i]) (by simp[h1]);obtain⟨c,tc,ey,vy⟩:=VT hy (i:=i) (v:=j[i]) (by simp[h2]);rw[ZfW ex ey] at J;rw[vx,vy];refine Zl (jA _ _ _ _ m5 w _ _ ?_);by_cases e:a=c
   ·rw[if_pos e] at J
    rw[show (a == c)=true from beq_iff_eq.mpr e]
    wp_walk
    exact⟨rfl,rfl,i+1,Y,J⟩
   ·rw[if_neg e] at J
    rw[show (a == c)=false from beq_eq_false_iff_ne.mpr e];simp only[Bool.not_false,if_true];refine Zl (fe ?_);refine Zl (show wpAny _ _ (compareOp .Lt (.int a ta) (.int c tc)) _ _ _ from lt_int ?_)
    wp_walk
    exact⟨_,rfl,J⟩
  case fin=>
   rintro⟨b1,b2⟩ s' ⟨M,rfl,i,O,J⟩;simp only at M;subst M;have o0:min items.size j.size<=i:=by
    rcases fV i (items.toList.zip j.toList).length with U|U
    ·rw[bR U] at O;cases O
    ·exact hZ▸U
   rw[Zif (by
    rcases fV i xs.length with q|q
    ·exact .inr (ag (by omega))
    ·exact .inl (ag q))] at J
   wp_walk
   refine⟨_,rfl,?_⟩;rw[sx,sy];exact J
  case h=>
   exact⟨rfl,rfl,0,rfl,h⟩
def Zie (fin:Bool):TZ->TZ->Bool
 | [],_=>fin
 |_::_,[]=>fin
 |x::j,y::q=>if x=y then Zie fin j q else ltB x y
def Xx (xs ys:TZ):Bool:=Zie (decide (xs.length<ys.length)) xs ys
def JW (h:Heap):List Value->TZ->Prop
 | [],[]=>True
 |v::q,x::J=>(∃a j,v=.ref a/\h.IsTuple a j/\bB j.toList x)/\JW h q J
 |_,_=>False
section
variable {prog:Program}{w:World}{A:Around}{E:TU}{s:Shared}
theorem Zkv {us vs:List Value}{xs ys:TV}(q:bB us xs)(j:bB vs ys)(h:us=vs):xs=ys:=by
 subst h;induction q generalizing ys with
 |nil=>cases j;rfl
 |cons _ _ _ J=>cases j with|cons _ _ r=>rw[J r]
theorem Znd {xs ys:TV}:((ae (min xs.length ys.length)).all (λj=>xs.getD j 0 == ys.getD j 0) && xs.length == ys.length)=decide (xs=ys):=by
 by_cases e:xs=ys
 ·subst e
  rw[decide_eq_true rfl,beq_self_eq_true,bV,aR];intro j _;exact beq_self_eq_true _
 ·rw[decide_eq_false e]
  cases q:((ae (min xs.length ys.length)).all (λj=>xs.getD j 0 == ys.getD j 0) && xs.length == ys.length) with
  |false=>rfl
  |true=>
   refine absurd ?_ e;rw[ah,aR] at q;have M:xs.length=ys.length:=eq_of_beq q.2;refine aY λi=>?_;by_cases J:i<xs.length
   ·have:=eq_of_beq (q.1 i (af.mpr (by omega)))
    rw[Zf J,Zf (by omega)];rw[Zb,Zb,Zf J,Zf (by omega)] at this;exact congrArg some this
   ·rw[ag (by omega),ag (by omega)]
theorem Zgt {a b:Addr}{us vs:Array Value}{xs ys:TV}(Y:A.units<cLine)(O:s.heap.IsTuple a us)(hb:s.heap.IsTuple b vs)(J:bB us.toList xs)(M:bB vs.toList ys):j5 A s (.ref a) (.ref b) (decide (xs=ys)):=by
 by_cases e:a=b
 ·subst e
  obtain⟨o,g1,_,n1,d1⟩:=O;obtain⟨o2,U,_,n2,q⟩:=hb;rw[g1] at U;cases U;rw[d1] at q;injection q with q _;subst q;rw[Zkv J M rfl,decide_eq_true rfl];exact EqAt.same _
 ·have sx:us.size=xs.length:=by rw[<-XZ J,Zr]
  have sy:vs.size=ys.length:=by rw[<-XZ M,Zr]
  have:=RcAt.tuples (A:=A) (s:=s) (e:=λj=>xs.getD j 0 == ys.getD j 0) O hb Y (λj h1 h2=>by
   obtain⟨x,tx,ex,vx⟩:=VT J (i:=j) (v:=us[j]) (by simp[h1]);obtain⟨y,ty,ey,vy⟩:=VT M (i:=j) (v:=vs[j]) (by simp[h2]);rw[vx,vy,Zb,Zb,ex,ey];exact jA _ _ _ _)
  rw[sx,sy,Znd] at this;exact EqAt.of_refs e this
theorem Zkk {a b:Addr}{us vs:Array Value}{xs ys:TV}{Q:TU}(hu:A.units<cLine)(ha:s.heap.IsTuple a us)(hb:s.heap.IsTuple b vs)(hx:bB us.toList xs)(hy:bB vs.toList ys)(h:Q (.bool (ltB xs ys)) s):wpAny (model prog w) A (compareOp .Lt (.ref a) (.ref b)) Q E s:=by
 obtain⟨⟨m6,dd,data,sl⟩,U,Y,n,hd⟩:=id ha;obtain⟨⟨m5,M,data2,O⟩,j,q,n2,J⟩:=id hb;simp only at Y hd q J;subst Y hd q J;exact richCompare_meets_room (op:=.Lt) ⟨_,U,rfl⟩ ⟨_,j,rfl⟩ F.slot_tuple_lt F.entry_tuple_lt (F.args_tuple_lt_2 _ _) (ZgE a b us vs n n2 dd M sl O hx hy)
  ⟨U,j,show gY (ltB xs ys)≠Value.notImplemented/\Q (.bool (ltB xs ys)) s from ⟨(λx=>nomatch x),h⟩⟩ hu
theorem Ze3 {fin:Bool}{Q:Bool->Shared->Prop}(O:A.units<cLine):∀(M vs:List Value) (xs ys:TZ) (i:Nat),JW s.heap M xs->JW s.heap vs ys->Q (Zie fin xs ys) s->W.KatLex prog w A false fin Q (M.zip vs) i s
 | [],vs,xs,ys,i,j,J,q=>by
  cases xs with
  |nil=>exact W.kat_nil q
  |cons _ _=>exact j.elim
 |_::_,[],xs,ys,i,j,J,q=>by
  cases ys with
  |cons _ _=>exact J.elim
  |nil=>
   cases xs with
   |nil=>exact W.kat_nil q
   |cons x xs=>exact W.kat_nil q
 |u::M,v::vs,xs,ys,i,j,J,q=>by
  cases xs with
  |nil=>exact j.elim
  |cons x xs=>
   cases ys with
   |nil=>exact J.elim
   |cons y ys=>
    obtain⟨⟨a,ua,rfl,U,Y⟩,r1⟩:=j;obtain⟨⟨b,ub,rfl,tb,ib⟩,r2⟩:=J;rw[List.zip_cons_cons];refine W.kat_cons ?_;refine Zgt O U tb Y ib prog w _ _ ?_;rw[Zie] at q;by_cases e:x=y
    ·rw[if_pos e] at q
     rw[decide_eq_true e];exact W.kat_yes (Ze3 O M vs xs ys (i+1) r1 r2 q)
    ·rw[if_neg e] at q
     rw[decide_eq_false e];refine W.kat_no ?_;rw[jZ];exact W.kat_one _ _ (Zkk O U tb Y ib q)
end
end PyZ
namespace PyZ
open PySem PySem.Spec PyProof.Rows
variable {prog:Program}{w:World}{A:Around}{E:TU}{s:Shared}
theorem JR {l:Addr}{vs:List Value}{Q:List Value->Shared->Prop}(q:lf s.heap l vs.toArray)(hsz:vs.length<=sizeLine)
  (h:Q vs {s with heap:=(s.heap.push (seqObj "list" #[] 0)).update s.heap.objs.size (a7 (· ++ vs.toArray))}):wpAny (model prog w) A (collect (.ref l)) Q E s:=by
 obtain⟨o,J,M,n,hd⟩:=q;have j:(s.heap.push (seqObj "list" #[] 0)).get? l=some o:=Zn _ J;unfold collect;refine Zl (gI (bv entry_proto_collect' ?_));show wpAny _ _ (do again (.builtin "list.__iadd__" ⟨[<-newList [],.ref l],[]⟩)) _ _ s
 refine Zl (fP (Zm ⟨iQ _ (by decide +kernel),bv entry_list_iadd' ?_⟩));show wpAny _ _ (bT (.ref s.heap.objs.size) (.ref l) (.ref s.heap.objs.size)) _ _ {s with heap:=s.heap.push (seqObj "list" #[] 0)};unfold bT;refine Zl (iy (T:="tuple") ⟨o,j,M⟩ ?_);have O:(bX "tuple" == bX "tuple")=true:=by rfl
 rw[if_pos (by rw[O];simp)];refine Zl (mE j hd ?_);refine Zl (mE (xs:=#[]) (n:=0) (Zo _ rfl) rfl ?_);rw[if_neg (by simp)];refine Zl (l5 (xs:=#[]) (n:=0) (Zo _ rfl) rfl ?_ (aU _) (by show (#[]++vs.toArray).size<=sizeLine+1;simp only[Array.size_append,Zh,eG];omega));refine Zm ?_;show wpAny (model prog w) A (load s.heap.objs.size >>= _) Q E {s with heap:=(s.heap.push (seqObj "list" #[] 0)).update s.heap.objs.size (a7 (· ++ vs.toArray))};refine Zl (iB (iM (Zo _ rfl) _) ?_);show wpAny _ _ (pure ((#[]:Array Value)++vs.toArray).toList) Q E _;rw[show ((#[]:Array Value)++vs.toArray).toList=vs by simp];exact Zm h
end PyZ
namespace PyZ
open PySem PyProof PyProof.Rows SeqAt
theorem ZbD (ys:TZ):Xx [] ys=decide (0<ys.length):=rfl
theorem ZcU (xs:TZ):Xx xs []=false:=by
 cases xs with
 |nil=>rfl
 |cons x xs=>
  show decide ((x::xs).length<([]:TZ).length)=false;exact decide_eq_false (by simp)
theorem Uy (x y:TV)(xs ys:TZ):Xx (x::xs) (y::ys)=if x=y then Xx xs ys else ltB x y:=by
 unfold Xx;show (if x=y then Zie _ xs ys else _)=_
 have e:decide ((x::xs).length<(y::ys).length)=decide (xs.length<ys.length):=by
  simp only[Zi,kD]
 rw[e]
theorem ZeU:∀xs:TZ,Xx xs xs=false
 | []=>rfl
 |x::xs=>by rw[Uy,if_pos rfl];exact ZeU xs
theorem ZbC:∀{xs ys:TZ},Xx xs ys=false->Xx ys xs=false->xs=ys
 | [],[],_,_=>rfl
 | [],_::_,h,_=>by rw[ZbD] at h;simp at h
 |_::_,[],_,h=>by rw[ZbD] at h;simp at h
 |x::xs,y::ys,j,q=>by
  rw[Uy] at j q;by_cases e:x=y
  ·rw[if_pos e] at j
   rw[if_pos e.symm] at q;rw[e,ZbC j q]
  ·rw[if_neg e] at j
   rw[if_neg (bE e)] at q;exact absurd (ZeV j q) e
theorem Zax:∀{xs ys O:TZ},Xx xs ys=true->Xx ys O=true->Xx xs O=true
 |xs,ys,[],_,h=>by rw[ZcU] at h;cases h
 |xs,[],z::O,h,_=>by rw[ZcU] at h;cases h
 | [],y::ys,z::O,_,_=>by rw[ZbD];exact decide_eq_true (by simp)
 |x::xs,y::ys,z::O,J,q=>by
  rw[Uy] at J q ⊢;by_cases M:x=y
  ·rw[if_pos M] at J
   by_cases j:y=z
   ·rw[if_pos j] at q
    rw[if_pos (M.trans j)];exact Zax J q
   ·rw[if_neg j] at q
    rw[if_neg (by rw[M];exact j),M];exact q
  ·rw[if_neg M] at J
   by_cases j:y=z
   ·rw[if_neg (by rw[<-j];exact M),<-j]
    exact J
   ·rw[if_neg j] at q
    have U:=Zay J q;rw[if_neg (λe=>by rw[e,ZeW] at U;cases U)];exact U
def rkR (yss:X0)(i:Nat):Nat:=(ae yss.length).countP λk=>Xx (yss.getD k []) (yss.getD i [])
theorem ZeH {yss:X0}{i j:Nat}(q:i<yss.length)(O:j<yss.length):Xx (yss.getD i []) (yss.getD j [])=decide (rkR yss i<rkR yss j):=by
 have J:∀{i j:Nat},i<yss.length->Xx (yss.getD i []) (yss.getD j [])=true->rkR yss i<rkR yss j:=λ{i j} q h=>by
  refine ZaJ (λk _ U=>Zax U h) ⟨i,af.mpr q,ZeU _,h⟩
 cases e:Xx (yss.getD i []) (yss.getD j []) with
 |true=>rw[decide_eq_true (J q e)]
 |false=>
  cases M:Xx (yss.getD j []) (yss.getD i []) with
  |true=>
   have:=J O M;rw[decide_eq_false (by omega)]
  |false=>
   have:=ZbC e M;unfold rkR;rw[this];exact (decide_eq_false (by omega)).symm
theorem ZdO {yss:X0}(M:1<=yss.length):∃p,VD yss.length (λi j=>Xx (yss.getD i []) (yss.getD j [])) (je yss.length)=some p/\p.toList.Perm (ae yss.length)/\(p.toList.map λi=>yss.getD i []).Pairwise λa b=>Xx b a=false:=by
 obtain⟨p,e,q,J⟩:=Zju M (rkR yss);refine⟨p,(Ud (λi j O U=>ZeH O U) _).trans e,q,?_⟩;rw[eY] at J ⊢;refine fI (λ{a b} Y hb m5=>?_) J;have la:=af.mp (q.mem_iff.mp Y);have lb:=af.mp (q.mem_iff.mp hb);rw[ZeH lb la];exact decide_eq_false (by omega)
theorem JW.len {h:Heap}:∀{us:List Value}{xs:TZ},JW h us xs->us.length=xs.length
 | [],[],_=>rfl
 | [],_::_,h=>h.elim
 |_::_,[],h=>h.elim
 |_::_,_::_,h=>by rw[Zi,Zi,h.2.len]
theorem Zc1 {h:Heap}:∀(as:TN) (yss:X0),as.length=yss.length->(∀(i:Nat) a,as[i]?=some a->∃(j:List Value) (ys:TZ),yss[i]?=some ys/\h.IsTuple a j.toArray/\JW h j ys/\ys≠[])->
  ∃fs:List Value,W.KatTups h (as.map aK) fs/\fs.length=as.length/\∀v∈fs,∃a j,v=aK a/\h.IsTuple a j
 | [],[],_,_=>⟨[],W.KatTups.nil,rfl,λv q=>by cases q⟩
 | [],_::_,h,_=>by cases h
 |_::_,[],h,_=>by cases h
 |a::as,ys::yss,M,g=>by
  obtain⟨j,O,e,⟨o,U,c,n,d⟩,J,ne⟩:=g 0 a rfl;cases e;obtain⟨fs,k,l,f⟩:=Zc1 as yss (cJ M) λi Y hi=>g (i+1) Y hi
  match j,ys,J,ne with
  |_,[],_,ne=>exact absurd rfl ne
  | [],_::_,J,_=>exact J.elim
  |u::j,y::ys,J,_=>
   obtain⟨⟨b,ub,rfl,tb,_⟩,_⟩:=J;refine⟨aK b::fs,W.KatTups.cons U c d (by simp) k,by rw[Zi,Zi,l],λv q=>?_⟩;rcases aD.mp q with rfl|q
   ·exact⟨b,ub,rfl,tb⟩
   ·exact f v q
section
variable {prog:Program}{w:World}{A:Around}{E:TU}{s:Shared}
theorem Zde {l:Addr}{vs:List Value}{Q:List Value->Shared->Prop}(j:s.heap.IsList l vs.toArray\/lf s.heap l vs.toArray)(hsz:vs.length<=sizeLine)
  (h:Q vs {s with heap:=(s.heap.push (seqObj "list" #[] 0)).update s.heap.objs.size (a7 (· ++ vs.toArray))}):wpAny (model prog w) A (collect (.ref l)) Q E s:=j.elim (λj=>collect_list j h hsz) λj=>JR j hsz h
theorem Zfw {l:Addr}{vs:List Value}{Q:TU}(J:s.heap.IsList l vs.toArray\/lf s.heap l vs.toArray)(M:vs.length<2)(h:Q (.ref (s.heap.objs.size+1)) {s with heap:=sortedAll s.heap vs vs.toArray}):wpAny (model prog w) A (call (.builtin "sorted") [.ref l]) Q E s:=by
 have O:sizeLine=16777216:=by decide
 refine eL kh jP jQ (jR _) ?_;unfold cB.«sorted»;refine Zl (m:=checkCount "sorted" 1 1 _) (Zm (Zl (Zde J (by omega) (Zl (fP ?_ (by omega))))));have j:((s.heap.push (seqObj "list" #[] 0)).update s.heap.objs.size (a7 (· ++ vs.toArray))).objs.size=s.heap.objs.size+1:=by rw[fo,kU]
 show wpAny _ _ _ _ _ {s with heap:=((s.heap.push (seqObj "list" #[] 0)).update s.heap.objs.size (a7 (· ++ vs.toArray))).push (seqObj "list" vs.toArray 0)};rw[j];have q:(((s.heap.push (seqObj "list" #[] 0)).update s.heap.objs.size (a7 (· ++ vs.toArray))).push (seqObj "list" vs.toArray 0)).get? (s.heap.objs.size+1)=some (seqObj "list" vs.toArray 0):=j▸Zo _ rfl;refine Zl (bZ (bm i6 ⟨_,q,rfl⟩ iN (ZdN q M ⟨_,rfl,Zm ⟨_,rfl,h⟩⟩) (i7 _)))
theorem Zjs {h₀:Heap}{L:Addr}{m:TR}{news:List (Addr×Obj)}{l:Addr}{vs:List Value}{Q:TU}(F:Fr h₀ L s.heap m)(N:News h₀ L s.heap news)(j:s.heap.IsList l vs.toArray\/lf s.heap l vs.toArray)(h2:2<=vs.length)(J:vs.length<64)
  (h:∀D O h',Fr h₀ L h' m->News h₀ L h' ((D,seqObj "list" #[] O)::news)->(∀q∈news,q.1<D)->
   wpAny (model prog w) A.in1.in1 (keyKind' vs.toArray) (λκ s'=>(je vs.length).kasWp (W.kas_ask prog w A.in1.in1 κ vs) (λp M=>W.KasFin h₀ L m D O (p.toList.map λi=>vs.getD i bG) (λs3=>Q (.ref D) s3) M) s') (λ_ _=>False) {s with heap:=h'}):wpAny (model prog w) A (call (.builtin "sorted") [.ref l]) Q E s:=by
 rcases j with j|j
 ·exact W.kat_sorted F N j h2 J h
 have sl:sizeLine=16777216:=by decide
 refine eL kh jP jQ (jR _) ?_;unfold cB.«sorted»;refine Zl (m:=checkCount "sorted" 1 1 _) (Zm (Zl (JR j (by omega) (Zl (fP ?_ (by omega))))));have U:((s.heap.push (seqObj "list" #[] 0)).update s.heap.objs.size (a7 (· ++ vs.toArray))).objs.size=s.heap.objs.size+1:=by rw[fo,kU]
 have keep:∀b o,s.heap.get? b=some o->(((s.heap.push (seqObj "list" #[] 0)).update s.heap.objs.size (a7 (· ++ vs.toArray))).push (seqObj "list" vs.toArray 0)).get? b=some o:=λb o q=>by
  have hb:=Zp q;rw[gv _ _ _ (U▸ar (bI hb)),Heap.get?_update_ne _ _ _ _ (ar hb),gv _ _ _ (ar hb),q]
 show wpAny _ _ _ _ _ {s with heap:=((s.heap.push (seqObj "list" #[] 0)).update s.heap.objs.size (a7 (· ++ vs.toArray))).push (seqObj "list" vs.toArray 0)};rw[U];have Y:(((s.heap.push (seqObj "list" #[] 0)).update s.heap.objs.size (a7 (· ++ vs.toArray))).push (seqObj "list" vs.toArray 0)).get? (s.heap.objs.size+1)=some (seqObj "list" vs.toArray 0):=U▸Zo _ rfl;have hL:=bI F.ns.lt;generalize ((s.heap.push (seqObj "list" #[] 0)).update s.heap.objs.size (a7 (· ++ vs.toArray))).push (seqObj "list" vs.toArray 0)=hh at Y keep ⊢;refine Zl (bZ (bm i6 ⟨_,Y,rfl⟩ iN (W.kat_list_sort (s:={s with heap:=hh}) (F.kept keep) (N.grown keep) Y (bj hL) (lH (aW F.above (dw hL))) (λp hp=>ar (bI (Zp (N p hp).1))) h2 J λO h' F' N'=>?_) (i7 _)));refine cm (h _ O h' F' N' λq hq=>bI (Zp (N q hq).1)) (λκ s' hk=>?_) λ_ _ x=>x;rw[W.kat_ask_eq rfl] at hk ⊢;exact W.kas_wp_mono hk λp M m5=>m5.mono λs3 hq=>⟨_,rfl,Zm ⟨_,rfl,hq⟩⟩
theorem Zbd {l L:Addr}{m:TR}{as:TN}{yss:X0}{p:Array Nat}{Q:TU}(hu:A.units+2<cLine)(m8:s.heap.Ns L m)(hl:s.heap.IsList l (as.map aK).toArray\/lf s.heap l (as.map aK).toArray)(n2:2<=as.length)(m9:as.length<64)(hy:as.length=yss.length)
  (ht:∀h':Heap,(∀b o,b≠L->s.heap.get? b=some o->h'.get? b=some o)->∀(i:Nat) a,as[i]?=some a->∃(us:List Value) (ys:TZ),yss[i]?=some ys/\h'.IsTuple a us.toArray/\JW h' us ys/\ys≠[])
  (hp:VD as.length (λi j=>Xx (yss.getD i []) (yss.getD j [])) (je as.length)=some p)
  (q:∀D c h',s.heap.get? D=none->D≠L->(∀b o,b≠L->s.heap.get? b=some o->h'.get? b=some o)->h'.Ns L m->h'.get? D=some (W.listOf (p.toList.map λi=>(as.map aK).getD i bG).toArray c)->Q (.ref D) {s with heap:=h'}) :
  wpAny (model prog w) A (call (.builtin "sorted") [.ref l]) Q E s:=by
 have fr:Fr (Zgd s.heap L) L s.heap m:=by
  refine⟨m8,λb o e=>?_,?_⟩
  ·by_cases hb:b<L
   ·rw[X1 hb] at e;exact e
   ·rw[ZaI (jy hb)] at e
    cases e
  ·show (s.heap.objs.extract 0 L).size<=L
   rw[me,fg];exact jS ..
 have nw:News (Zgd s.heap L) L s.heap (Yo s.heap L):=λx hx=>by
  obtain⟨J,h2⟩:=Jy.mp hx;exact⟨h2,bj J,ZaI (dw J)⟩
 have lv:(as.map aK).length=as.length:=fN ..;refine Zjs fr nw hl (by rw[lv];exact n2) (by rw[lv];exact m9) λD e1 h' m5 M big=>?_;have kept:∀b o,b≠L->s.heap.get? b=some o->h'.get? b=some o:=λb o hb e=>by
  rcases fV b L with J|J
  ·exact m5.keep b o (by rw[X1 J];exact e)
  ·exact (M (b,o) (aE _ (Jy.mpr ⟨dk J (bE hb),e⟩))).1
 have dn:s.heap.get? D=none:=by
  cases e:s.heap.get? D with
  |none=>rfl
  |some o=>
   obtain⟨_,dL,dc⟩:=M _ (aA ..);rcases fV D L with J|J
   ·rw[X1 J] at dc
    rw[dc] at e;cases e
   ·exact absurd (big (D,o) (Jy.mpr ⟨dk J (bE dL),e⟩)) (b9 _)
 have dL:D≠L:=(M _ (aA ..)).2.1;have Y:=ht h' kept;obtain⟨fs,kt,fl,fi⟩:=Zc1 as yss hy Y;refine W.kat_kind (T:=bX "tuple") kt (by omega) (λv hv=>?_) (by decide +kernel) ?_
 ·obtain⟨a,us,rfl,⟨o,g1,g2,_⟩⟩:=fi v hv
  intro A Q E s' hk q;refine iy (T:="tuple") ⟨o,hk _ _ g1,g2⟩ q
 ·rw[lv]
  have kb:(bX "tuple" != bX "tuple")=false:=by decide +kernel
  rw[kb];refine ZaC (cmp:=λi j=>Xx (yss.getD i []) (yss.getD j [])) (λi j C hi hj c=>?_) _ p _ hp ?_
  ·unfold W.kas_ask
   obtain⟨us,ys,e,⟨o,g1,g2,n1,g3⟩,ia,_⟩:=Y i as[i] (Zf hi);obtain⟨n6,m6,e2,⟨o2,k1,k2,n9,k3⟩,m7,_⟩:=Y j as[j] (Zf hj);have v1:(as.map aK).getD i bG=.ref as[i]:=by
    rw[Zb,Zc,Zf hi];rfl
   have v2:(as.map aK).getD j bG=.ref as[j]:=by
    rw[Zb,Zc,Zf hj];rfl
   have w1:yss.getD i []=ys:=by rw[Zb,e];rfl
   have w2:yss.getD j []=m6:=by rw[Zb,e2];rfl
   rw[v1,v2];refine W.kat_lt g1 g3 k1 k3 ?_;refine Ze3 (by show A.units+1+1<cLine;omega) us n6 ys m6 0 ia m7 ?_;rw[w1,w2] at c;unfold Xx at c;rw[Zh,Zh,ia.len,m7.len];exact c
  ·refine⟨_,_,m5,M,W.UpdF.head (λx hx=>ar (big x hx)),λn8 c O U=>?_⟩
   refine q D c n8 dn dL (λb o hb e=>?_) O.ns (U _ (aA ..)).1;rcases fV b L with J|J
   ·exact O.keep b o (by rw[X1 J];exact e)
   ·exact (U (b,o) (aE _ (Jy.mpr ⟨dk J (bE hb),e⟩))).1
end
end PyZ
namespace L2
open PySem PySem.Spec PyProof.Rows
def RowT (H:Hp)(a:Addr)(ys:TZ):Prop:=∃cs:TN,H a=some (.tup (cs.map V.ref))/\cs.length=ys.length/\∀(i:Nat) c,cs[i]?=some c->∃y,ys[i]?=some y/\H c=some (.tup (y.map V.int))
section
variable {X:Cx}{pins:List (Addr×Obj)}{σ:St}{H:Hp}{s:Shared}
inductive ZhC (xs:TL) (H:Hp) (Q:VK):Prop
 |mk (l:Addr) (as:TN) (yss:X0):(xs=[.ref l])->((H l=some (.lst (as.map V.ref))\/H l=some (.tup (as.map V.ref))))->(as.length=yss.length)->(as.length<64)->((∀(i:Nat) a,as[i]?=some a->∃ys,yss[i]?=some ys/\ys≠[]/\RowT H a ys))->(∀D js,H D=none->bJ js (ae as.length)->(js.map λi=>yss.getD i []).Pairwise (λa b=>PyZ.Xx b a=false)->Q (.ref D) (upd H D (.lst ((js.map λi=>as.getD i 0).map V.ref))))->ZhC xs H Q
theorem Zak (I:Inv X pins σ H s){h':Heap}(kept:∀b o,b≠X.env.locals->s.heap.get? b=some o->h'.get? b=some o):∀(cs:TN) (ys:TZ),cs.length=ys.length->(∀(i:Nat) c,cs[i]?=some c->∃y,ys[i]?=some y/\H c=some (.tup (y.map V.int)))->PyZ.JW h' (cs.map aK) ys
 | [],[],_,_=>trivial
 | [],_::_,h,_=>by cases h
 |_::_,[],h,_=>by cases h
 |c::cs,y::ys,J,g=>by
  obtain⟨y',e,j⟩:=g 0 c rfl;cases e;obtain⟨us,M,⟨o,O,g2⟩,_⟩:=I.tuple (.of j);have q:c≠X.env.locals:=λz=>by rw[z,I.free] at j;cases j
  exact⟨⟨c,us.toArray,rfl,⟨o,kept c o q O,g2⟩,by simpa using V2 M⟩,Zak I kept cs ys (cJ J) λi U Y=>g (i+1) U Y⟩
theorem UV (hu:X.A.units+64<cLine):Yd X (.builtin "sorted") ZhC:=by
 intro pins s σ H xs us Q I r h;obtain⟨l,j,J,rfl,hl,hy,m8,ht,q⟩:=h;obtain⟨u,rfl,ru⟩:=r.one;cases ru;obtain⟨m,hm,m9⟩:=id I.loc;have m5:s.heap.IsList l (j.map aK).toArray\/lf s.heap l (j.map aK).toArray:=hl.elim (λhl=>.inl <| by
   obtain⟨m6,M,Y,_⟩:=I.list (.of hl);rw[JZ M] at Y;exact Y.isList) λhl=>.inr <| by
   obtain⟨m6,M,Y,_⟩:=I.tuple (.of hl);rw[JZ M] at Y;exact Y
 have Ja:=Ja;have n6:∀{a:Addr}{o:HO},H a=some o->a≠X.env.locals:=λ{a o} e z=>by rw[z,I.free] at e;cases e
 by_cases n2:j.length<2
 ·refine PyZ.Zfw m5 (by rw[Za];exact n2) ?_
  obtain⟨e1,he⟩:=sortedAll_at s.heap (j.map aK) (j.map aK).toArray;have m7:∀b o,s.heap.get? b=some o->(sortedAll s.heap (j.map aK) (j.map aK).toArray).get? b=some o:=λb o e=>sortedAll_old e;generalize sortedAll s.heap (j.map aK) (j.map aK).toArray=h' at he m7 ⊢;have U:s.heap.objs.size<=s.heap.objs.size+1:=fH _;generalize s.heap.objs.size+1=D at he U ⊢;have em:=Zj2 n2;have n8:=Zmn n2 (λi=>J.getD i []) λa b=>PyZ.Xx b a=false;have fin:=q D (ae j.length) (I.hok.fresh U) (cO _) n8;rw[em] at fin;have I':Inv X pins σ (upd H D (.lst (j.map V.ref))) {s with heap:=h',toks:=s.toks}:=I.laid (a:=D) (o:=.lst (j.map V.ref)) (t':=s.toks) m7 U ⟨by rw[Za];omega,j.map aK,e1,Vd j,he⟩;exact⟨.ref D,_,I',rfl,fin⟩
 ·obtain⟨p,hp,O,n9⟩:=PyZ.ZdO (yss:=J) (by omega)
  rw[<-hy] at hp O;have o0:∀i∈p.toList,i<j.length:=λi hi=>af.mp (O.mem_iff.mp hi);have Y:p.toList.length=j.length:=by rw[O.length_eq,Zg]
  have es:(p.toList.map λi=>(j.map aK).getD i bG)=(p.toList.map λi=>j.getD i 0).map aK:=by
   rw[aC];refine aQ λi hi=>?_;have:=o0 i hi;show (j.map aK).getD i bG=aK (j.getD i 0);rw[Zb,Zc,Zf this,Zb,Zf this];rfl
  refine PyZ.Zbd (yss:=J) (p:=p) (by omega) hm m5 (by omega) m8 hy (λh' kept i a hi=>?_) hp (λD c h' dn dL kept o5 hD=>?_)
  ·obtain⟨ys,e1,ne,cs,ha,cl,hc⟩:=ht i a hi
   obtain⟨us,M,⟨o,g1,g2⟩,_⟩:=I.tuple (.of ha);have eu:=JZ M;subst eu;exact⟨_,ys,e1,⟨o,kept a o (n6 ha) g1,g2⟩,Zak I kept cs ys cl hc,ne⟩
  ·rw[es] at hD
   obtain⟨I',hH⟩:=I.newL (ys:=(p.toList.map λi=>j.getD i 0).map V.ref) hm m9 dn dL kept o5 (by rw[Za,Za];omega) (Vd _) hD;exact⟨.ref D,_,I',rfl,q D _ hH O n9⟩
end
end L2
namespace C55
open PySem L2 PySem.Spec PyProof.Rows
open Tb Pm
noncomputable abbrev Zg8:Stmt:=top 27
def Xv (t:T9)(n p:Nat)(e:Nat->Nat->Nat)(z:Nat)(j:Nat->Nat)(s x:Nat):TV:=Zh8 n (ofF n (rdT t x) p ((t.length:Int)*(bkM p (j s):Int)) z λk=>(e s (it t x k):Int))
def Wb (t:T9)(n p m:Nat)(e:Nat->Nat->Nat)(z:Nat)(j:Nat->Nat)(s:Nat):TZ:=(ae m).map λc=>Xv t n p e z j s (ZM t c)
def Zdo (H:Hp)(r:Addr)(yss:X0):Prop:=∃cs:TN,H r=some (.tup (cs.map V.ref))/\cs.length=yss.length/\∀(i:Nat) c,cs[i]?=some c->∃j,yss[i]?=some j/\RowT H c j
inductive ZaZ (vs:TL) (H:Hp) (Q:VK) (E03:XK):Prop
 |mk (g:Addr) (t:T9) (n p m:Nat) (e ω φ:Nat->Nat->Nat) (z:Nat) (dg:Nat->Nat):(vs=[.ref g])->(GT H g t)->(PW t)->(TD t n p m e ω φ z dg)->(∀r yss H',Zw H H'->Zdo H' r yss->yss.Perm ((ae m).map (Wb t n p m e z dg))->yss.Pairwise (λa b=>PyZ.Xx b a=false)->Q (.ref r) H')->ZaZ vs H Q E03
theorem _root_.L2.RowT.mono {H j:Hp}{a:Addr}{ys:TZ}(h:RowT H a ys)(s:Zw H j):RowT j a ys:=by
 obtain⟨q,J,M,O⟩:=h;refine⟨q,s _ _ J,M,λi c U=>?_⟩;obtain⟨y,Y,g2⟩:=O i c U;exact⟨y,Y,s _ _ g2⟩
section
variable {t:T9}{n p m:Nat}{e ω φ:Nat->Nat->Nat}{z:Nat}{dg:Nat->Nat}
theorem Zhz {a r:Nat}(R:Rd t a r){x:Nat}(h:it t a x=0):x % r=0:=by
 rw[UD R] at h;apply aj;intro z;exact R.nz (x % r) (by omega) (bO _ R.r1) h
theorem Zm0 {a r:Nat}(R:Rd t a r){x:Nat}(h:x % r=0):it t a x=0:=by
 rw[UD R,h];rfl
theorem _root_.Tb.TD.round (D:TD t n p m e ω φ z dg){rs:Nat->Nat}(R:∀a,a<t.length->Rd t a (rs a)){f:Nat}(L:Lc rs t.length f):f=n:=by
 have q:n % f=0:=L.mn n λa j=>Zhz (R a j) (D.all a j);have J:f % n=0:=D.mn f λa j=>Zm0 (R a j) (L.dv a j);have M:=L.f1;have O:=D.n1;have U:=gR (by omega) (a8 q);have Y:=gR (by omega) (a8 J);omega
theorem _root_.Tb.TD.rd (D:TD t n p m e ω φ z dg){a r:Nat}(j:a<t.length)(R:Rd t a r):r<=n/\r<p:=by
 have h:=Zhz R (D.all a j);have M:=D.n1;have q:=gR (by omega) (a8 h);obtain⟨J,O,_⟩:=D.fit.st;exact⟨q,by omega⟩
end
section
variable {P:Program}{w:World}{K:aa}{mg:TR}{base:Heap}
theorem ZhS {f:Addr}{fd:FuncData}(F:Wu K "table_of" "table_of" Zg8 f fd)(T:Bl mg)(T2:Zaf mg)(GR:Fn P w K mg base Z9 2 "full_round" ["group"] Za9)(GF:Fn P w K mg base Z9 1 "fit_prime" ["n", "count"] ZgV)(t7:Fn P w K mg base Z9 1 "root_powers" ["n", "p"] Za2)(GW:Fn P w K mg base Z9 6 "power_walks" ["group"] ZaY)(GC:Fn P w K mg base Z9 6 "counts_of" ["group"] Ub)(GA:Fn P w K mg base Z9 4 "taken_apart" ["counts", "p"] Zbc)(GB:Fn P w K mg base Z9 1 "back_by" ["p", "x"] JJ)(G1:Fn P w K mg base Z9 1 "first_of" ["one", "count", "p"] (Zbb K))(GN:Fn P w K mg base Z9 4 "number_at" ["walk", "one", "share", "roots", "p"] Za7):Z2 P w K mg base Z9 7 f fd ["group"] ZaZ:=by
 refine F.ok (FS (N:=["group", "n", "p", "roots", "walks", "rows", "one", "share"])) (λvs H Q E h=>?_) (λcdv A t8 s H vs Q E hr h=>?_)
 ·obtain⟨g,t,n,p,m,e,ω,φ,z,dg,rfl,_⟩:=h;rfl
 ·obtain⟨g,t,n,p,m,e,ω,φ,z,dg,rfl,G,Pt,D,q⟩:=h
  refine⟨_,Zt (ZG 1 rfl (Yz GR hr ZF (pc (vn 0) Zs)))
   (Zt (ZG 2 rfl (Yz GF hr ZF (pc (vn 1) (pc (cb (Yr K) T.len (pc (vn 0) Zs)) Zs))))
   (Zt (ZG 3 rfl (Yz t7 hr ZF (pc (vn 1) (pc (vn 2) Zs))))
   (Zt (ZG 4 rfl (Yz GW hr ZF (pc (vn 0) Zs)))
   (Zt (ZG 5 rfl (ZK Zs))
   (Zt (ZV ao rfl (itL K (Yz GA hr ZF (pc (Yz GC hr ZF (pc (vn 0) Zs)) (pc (vn 2) Zs)))) (gnf 6 rfl)
    (Zt (ZG 7 rfl (Zz ZS (cb (Yr K) T.len (pc (vn 0) Zs)) (Yz GB hr ZF (pc (vn 2) (pc (Yz G1 hr ZF (pc (vn 6) (pc (cb (Yr K) T.len (pc (vn 0) Zs)) (pc (vn 2) Zs)))) Zs)))))
    (Zx (Yq (Wh aG aO aS ZZ (vn 5)
     (pc (ct ZL T.tuple (pc (cmp ["walk"] [6,7,3,2] ["walk", "one", "share", "roots", "p"] rfl (itL K (vn 4)) (λ_ _ _ _ _=>gn 0) (λ_ _ _ _ _=>ZQ)
      (λ_ _ _ _ _=>Yz GN hr ZF (pc (vn 0) (pc (vn 1) (pc (vn 2) (pc (vn 3) (pc (vn 4) Zs))))))) Zs)) Zs))))))
   (Zx (ZE (ct ZL T.tuple (pc (cb (UV hr.units) T2.sorted (pc (vn 5) Zs)) Zs))))))))),?_⟩
  have sz:=Ja;have n60:=D.n60;have t9:=Pt.n60;have N1:=Pt.n1;have C:=D.cd;have p2:=C.pr.p2;have pl:=D.fit.lt;have m1:=C.m1;have u5:=ZkR C Pt;have mc:=C.mc;have U:=YU Pt;obtain⟨gs,u1,u2,_⟩:=id G;have el:(gs.map V.ref).length=t.length:=by rw[Za,u2]
  have o8:∀a,a<t.length->Rd t a (rdT t a):=λa ha=>by
   obtain⟨r,R⟩:=Pt.rd a ha;rw[Zbq R];exact R
  refine⟨_,rfl,g,t,rdT t,rfl,G,Pt,o8,λfr H1 s1 L=>?_⟩;have u9:=D.round o8 L;subst u9;refine⟨_,rfl,_,rfl,g,_,rfl,.inr (.of (s1 _ _ u1)),fr,t.length,p,by rw[el];rfl,D.n1,n60,by omega,D.fit,λH2 s2=>?_⟩;refine⟨_,rfl,_,rfl,fr,p,z,rfl,D.n1,n60,p2,pl,D.rt,λRo H3 nRo s3 w8=>?_⟩;have o9:=(s1.trans s2).trans s3;refine⟨_,rfl,g,t,rfl,G.mono o9,Pt,λWk ws H4 s4 W4=>?_⟩;rw[<-mc] at W4;refine⟨WK,λL nL=>?_⟩;have s5:=Zw.upd (H:=H4) (o:=.lst []) nL;have h5:upd H4 L (.lst []) L=some (.lst ([]:TL)):=Zu;generalize upd H4 L (.lst [])=H5 at s5 h5 ⊢;have p8:=(o9.trans s4).trans s5;have w9:H L=none:=(o9.trans s4).free nL;refine⟨_,rfl,g,t,rfl,G.mono p8,Pt,λCn H6 s6 C6=>?_⟩;rw[<-mc] at C6;refine⟨_,rfl,Cn,t,p,m,e,ω,φ,rfl,C,Pt,pl,C6,λSm cs ss H7 s7 S7=>?_⟩;have p4:=(p8.trans s6).trans s7;have h7:=(s6.trans s7) _ _ h5;obtain⟨S1,S2,S3,S4⟩:=S7;have n8:ss.length=m:=by rw[S3.length_eq,Zg]
  have m6:∀{b:Addr}{xs:TL},xs≠[]->H7 b=some (.lst xs)->b≠L:=λ{b xs} hx hb=>Zby hb h7 hx;have neT:∀{b:Addr}{xs:TL},H7 b=some (.tup xs)->b≠L:=λ{b xs} hb z=>by rw[z,h7] at hb;cases hb
  have p9:cs.map V.ref≠[]:=λz=>by
   have:=congrArg a6 z;rw[Za,S2,n8] at this;simp at this;omega
  have r6:∀{k:Nat}{v:Nat->Int},1<=k->ZN k v≠[]:=λ{k v} hk z=>by
   have:=congrArg a6 z;rw[Ys] at this;simp at this;omega
  have x0:=Vq S1 (m6 p9 S1);refine⟨Sm,rfl,⟨_,.of S1⟩,?_⟩;have W7:H7 Wk=some (.lst (ws.map V.ref)):=(s5.trans (s6.trans s7)) _ _ W4.at';have R7:H7 Ro=some (.lst (Jb p z fr)):=(s4.trans (s5.trans (s6.trans s7))) _ _ w8;have m7:(ws.map V.ref).length=m:=by rw[Za,W4.len]
  refine W5 (H0:=but H7 L) (YY (K:=K) (.of x0)) (λi n9 H'=>∃(rs:TN) (v6 v7:TK),n9=[some (.ref g),some (.int (fr:Nat)),some (.int (p:Nat)),some (.ref Ro),some (.ref Wk),some (.ref L),v6,v7]/\Zw (but H7 L) H'/\H' L=some (.lst (rs.map V.ref))/\rs.length=i/\∀(j:Nat) c,rs[j]?=some c->RowT H' c (Wb t fr p m e z dg (ss.getD j 0)))
   ⟨[],_,_,rfl,λb o hb=>(Zbw hb).2,h7,rfl,λj c O=>by simp at O⟩ (λi n9 H' h=>by
    obtain⟨_,_,_,_,sm,_⟩:=h;exact sm) ?_ ?_
  ·rintro i y n9 H8 hy ⟨rs,v6,v7,rfl,s8,h8,rl,o0⟩
   have hi:i<m:=by
    have:=(ac.mp hy).1;rw[Za,S2,n8] at this;exact this
   rw[Zc,Zf (show i<cs.length by omega)] at hy;cases hy;have ho:=S4 i _ (Zf (show i<cs.length by omega));generalize cs[i]'(by omega)=oa at ho ⊢;have J:ss.getD i 0<m:=by
    have:ss.getD i 0∈ss:=by rw[Zb,Zf (by omega)];exact bh _
    exact af.mp (S3.mem_iff.mp this)
   generalize x9:ss.getD i 0=M at ho J;have k8:∀{b:Addr}{o:HO},H7 b=some o->b≠L->H8 b=some o:=λ{b o} hb Y=>s8 b o (Vq hb Y);have r8:=k8 ho (m6 (r6 m1) ho);have u8:=k8 (p4 _ _ u1) (neT (p4 _ _ u1));have W8:=k8 W7 (m6 (λY=>by rw[Y] at m7;simp at m7;omega) W7);have r9:Jb p z fr≠[]:=λY=>by
    have:=congrArg a6 Y;rw[VO] at this;have:=D.n1;simp at *;omega
   have R8:=k8 R7 (m6 r9 R7);have Zhv:ZM t 0=0:=by
    have h0:0<(ZC t t.length).length:=by omega
    exact ((U.z _ (U.rl 0 h0)).mp (U.rn 0 h0))
   have e0:EC t e M 0=e M 0:=by unfold EC;rw[Zhv]
   have elt:=C.elt M 0 J (by omega);refine⟨_,rfl,g,_,rfl,.inr (.of u8),_,rfl,_,rfl,_,rfl,g,_,rfl,.inr (.of u8),_,rfl,oa,(ae m).map λc=>((EC t e M c:Nat):Int),e M 0,t.length,p,dg M,by rw[el];rfl,.of (by rw[r8,Ji]),?_,by omega,t9,p2,pl,D.d1 M J,D.dl M J,D.dq M J,λd' a b=>D.dm M d' J a b,?_⟩
   ·rw[Zc,ai (by omega)]
    show some ((EC t e M 0:Nat):Int)=_;rw[e0]
   have y4:=D.dp M J;have dg1:=D.d1 M J;obtain⟨y0,y1,y2,y3⟩:=C.pr.iv (dg M) (by omega) y4;refine⟨p,_,rfl,p2,pl,⟨y0,y1,y2,by rw[<-aJ,<-a5,y3];rfl⟩,λy a1 a2 a3=>?_⟩;have hy:y*dg M % p=1:=by
    have:((y*dg M % p:Nat):Int)=1:=by rw[a5,aJ];exact a3
    omega
   have eb:=Zlz a2 hy;refine⟨_,_,rfl,rfl,.inr ⟨by omega,by omega⟩,?_⟩;rw[el];refine⟨_,rfl,.inl ⟨rfl,_,.of h8⟩,_,rfl,Wk,rfl,⟨_,.of W8⟩,?_⟩;refine Pm.Y7 (W:=Addr) id (λc a H=>H a=some (.tup ((Xv t fr p e z dg M (ZM t c)).map V.int))) (λ_ _=>True) (YY (K:=K) (.of W8)) [some (.ref oa),some (.int ((t.length:Int)*(y:Int))),some (.ref Ro),some (.int (p:Nat))] rfl (by rw[m7];omega) (λk a H H' sm h=>sm _ _ h) (λa H H' sm h=>trivial) (λk a H0' H1' D' o ys ys' h1 h2 h3 h4=>by rw[Zy (λY=>by rw[Y,h4] at h1;cases h1)];exact h1) (λc x hx H9 s9 R k9=>?_) (λD9 as H9 nD9 s9 y6 t0 has _=>?_)
   ·have O:c<m:=by
     have:=(ac.mp hx).1;rw[m7] at this;exact this
    rw[Zc,Zf (show c<ws.length by have:=W4.len;omega)] at hx;cases hx;have hw:=W4.it c _ (Zf (show c<ws.length by have:=W4.len;omega));generalize ws[c]'(by have:=W4.len;omega)=wa at hw ⊢;have o5:=U.rl c (by omega);have Rr:=o8 _ o5;have rr:=D.rd o5 Rr;have t6:=(s5.trans (s6.trans s7)) _ _ hw;have y8:=k8 t6 (m6 (r6 Rr.r1) t6);have tl:(t.length:Int)<=60:=by omega
    have y9:(t.length:Int)*(y:Int)<2 ^ 40:=by
     have:(t.length:Int)*(y:Int)<=60*(y:Int):=cZ tl (by omega);omega
    have sha:0<=(t.length:Int)*(y:Int):=Int.mul_nonneg (by omega) (by omega);refine⟨_,rfl,_,rfl,_,rfl,_,rfl,_,rfl,wa,oa,Ro,rdT t (ZM t c),m,fr,p,z,_,_,_,rfl,s9 _ _ y8,s9 _ _ r8,s9 _ _ R8,D.n1,n60,u5,Rr.r1,rr.1,rr.2,pl,C.pr,⟨λc _=>by omega,λc O=>?_⟩,λk hk=>?_,by omega,y9,λq' m5 m8 o6=>?_⟩
    ·have:=C.elt M (ZM t c) J (U.rl c (by omega))
     show ((e M (ZM t c):Nat):Int)<(p:Int);omega
    ·exact⟨YW t (it t (ZM t c) k),by have:=U.lt _ (WX Pt o5 k);omega,rfl⟩
    ·refine k9 q' m5 m8 ?_ trivial
     rw[o6];show some (HO.tup ((Zh8 fr (ofF fr (rdT t (ZM t c)) p ((t.length:Int)*(y:Int)) z λk=>((EC t e M (wkF t (ZM t c) k).toNat:Nat):Int))).map V.int))=_;unfold Xv;rw[eb];congr 3;congr 2;funext k;unfold wkF;rw[Zj,<-C.at Pt J (WX Pt o5 k)]
   ·refine⟨D9,_,rfl,.inl ⟨.of y6,λtp p6=>?_⟩⟩
    have m8:=Zw.upd (H:=H9) (o:=.tup (as.map λw=>V.ref (id w))) p6;have hT:upd H9 tp (.tup (as.map λw=>V.ref (id w))) tp=some (.tup (as.map V.ref)):=Zu;generalize upd H9 tp (.tup (as.map λw=>V.ref (id w)))=m5 at m8 hT ⊢;have m9:=s9.trans m8;have o6:=m9 _ _ h8;refine⟨L,_,_,rfl,rfl,o6,by rw[Za,rl];omega,?_⟩;have keep:∀{b:Addr}{xs:TL},m5 b=some (.tup xs)->upd m5 L (.lst (rs.map V.ref++[.ref tp])) b=some (.tup xs):=λ{b xs} hb=>by
     rw[Zy (λY=>by rw[Y,o6] at hb;cases hb)];exact hb
    have n6:∀{b:Addr}{ys:TZ},RowT m5 b ys->RowT (upd m5 L (.lst (rs.map V.ref++[.ref tp]))) b ys:=λ{b ys} hb=>by
     obtain⟨bs,b1,b2,b3⟩:=hb;refine⟨bs,keep b1,b2,λj c O=>?_⟩;obtain⟨yy,c1,c2⟩:=b3 j c O;exact⟨yy,c1,keep c2⟩
    rw[m7] at t0;refine⟨rs++[tp],_,_,rfl,λb o hb=>?_,by rw[Zu,aN];rfl,by rw[Zd,rl];rfl,λj c O=>?_⟩
    ·rw[Zy (Zbw hb).1]
     exact (s8.trans m9) b o hb
    ·by_cases hj:j<rs.length
     ·rw[ak hj] at O
      exact n6 ((o0 j c O).mono m9)
     ·have hl:=(ac.mp O).1
      rw[Zd,Zk] at hl;have ec:j=rs.length:=by omega
      rw[aq (by omega),ec,cr] at O;cases O;rw[ec,rl,x9];refine n6 ⟨as,hT,by unfold Wb;rw[Za,Zg,t0],λc a ha=>?_⟩;have hcm:c<m:=by
       have:=(ac.mp ha).1;omega
      refine⟨Xv t fr p e z dg M (ZM t c),by unfold Wb;rw[Zc,ai hcm];rfl,m8 _ _ (has c a ha).1⟩
  ·rintro n9 H8 ⟨rs,v6,v7,rfl,s8,h8,rl,o0⟩
   rw[Za,S2,n8] at rl;have yl:(ss.map (Wb t fr p m e z dg)).length=m:=by rw[Za,n8]
   have o7:∀j,j<m->(ss.map (Wb t fr p m e z dg))[j]?=some (Wb t fr p m e z dg (ss.getD j 0)):=λj hj=>by
    rw[Zc,Zf (by omega),Zb,Zf (by omega)];rfl
   refine⟨_,rfl,L,rs,ss.map (Wb t fr p m e z dg),rfl,.inl h8,by omega,by omega,λj a ha=>?_,λLs js nLs pm pw=>?_⟩
   ·have hj:j<m:=by
     have:=(ac.mp ha).1;omega
    exact⟨_,o7 j hj,λY=>by
     have:=congrArg a6 Y;unfold Wb at this;rw[Za,Zg] at this;simp at this;omega,o0 j a ha⟩
   ·refine⟨Ls,_,rfl,.inl ⟨.of Zu,λtp p6=>?_⟩⟩
    have sA:=Zw.upd (H:=H8) (o:=.lst ((js.map λi=>rs.getD i 0).map V.ref)) nLs;have sB:=Zw.upd (H:=upd H8 Ls (.lst ((js.map λi=>rs.getD i 0).map V.ref))) (o:=.tup ((js.map λi=>rs.getD i 0).map V.ref)) p6;have p7:=sA.trans sB;have hT:upd (upd H8 Ls (.lst ((js.map λi=>rs.getD i 0).map V.ref))) tp (.tup ((js.map λi=>rs.getD i 0).map V.ref)) tp=some (.tup ((js.map λi=>rs.getD i 0).map V.ref)):=Zu;generalize upd (upd H8 Ls (.lst ((js.map λi=>rs.getD i 0).map V.ref))) tp (.tup ((js.map λi=>rs.getD i 0).map V.ref))=H9 at p7 hT ⊢;rw[rl] at pm;have jl:js.length=m:=by rw[pm.length_eq,Zg]
    refine q tp (js.map λi=>(ss.map (Wb t fr p m e z dg)).getD i []) H9 (λb o hb=>p7 _ _ (s8 b o (Vq (p4 _ _ hb) (λY=>by rw[Y,w9] at hb;cases hb)))) ⟨js.map λi=>rs.getD i 0,hT,by rw[Za,Za],λi c O=>?_⟩ ?_ pw
    ·rw[Zc] at O
     cases hj:js[i]? with
     |none=>rw[hj] at O;cases O
     |some j=>
      rw[hj] at O;have hjm:j<m:=af.mp (pm.mem_iff.mp (av hj));have ec:c=rs.getD j 0:=(ax O).symm;have hrj:rs[j]?=some c:=by rw[ec,Zb,Zf (by omega)];rfl
      refine⟨_,by rw[Zc,hj];rfl,?_⟩;have:=(o0 j c hrj).mono p7;show RowT H9 c ((ss.map (Wb t fr p m e z dg)).getD j []);rw[Zb,o7 j hjm];exact this
    ·have h1:(js.map λi=>(ss.map (Wb t fr p m e z dg)).getD i []).Perm ((ae m).map λi=>(ss.map (Wb t fr p m e z dg)).getD i []):=pm.map _
     have h2:((ae m).map λi=>(ss.map (Wb t fr p m e z dg)).getD i [])=ss.map (Wb t fr p m e z dg):=by
      refine aY λj=>?_;by_cases hj:j<m
      ·rw[o7 j hj,Zc,ai hj]
       show some ((ss.map (Wb t fr p m e z dg)).getD j [])=_;rw[Zb,o7 j hj];rfl
      ·rw[ag (by rw[Za,Zg];omega),ag (by omega)]
     rw[h2] at h1;exact h1.trans (S3.map _)
end
section
variable {P:Program}{w:World}{K:aa}{mg:TR}{base:Heap}
theorem ZhT {f:Addr}{fd:FuncData}(F:Wu K "sizes_of" "sizes_of" Zg9 f fd)(T:Bl mg)(GC:Fn P w K mg base Z9 4 "classes_of" ["group"] WP):Z2 P w K mg base Z9 5 f fd ["group"] Za0:=by
 refine F.ok (FS (N:=["group"])) (λvs H Q E h=>?_) (λm5 A J s H vs Q E hr h=>?_)
 ·obtain⟨g,t,rfl,_⟩:=h;rfl
 ·obtain⟨g,t,rfl,G,M,q⟩:=h
  refine⟨_,Zx (ZE (ct ZL T.tuple (pc (cmp ["members"] [] ["members"] rfl (itT K (Yz GC hr ZF (pc (vn 0) Zs))) (λ_ _ _ _ _=>gn 0) (λ_ _ _ _ _=>ZQ) (λ_ _ _ _ _=>cb (Yr K) T.len (pc (vn 0) Zs))) Zs))),?_⟩;have m6:=M.n60;refine⟨_,rfl,g,t,rfl,G,M,λc O s' C=>?_⟩;obtain⟨rs,U,c2,Y⟩:=C.row;have ul:=Wn (t:=t) t.length;refine⟨c,rfl,⟨_,.of U⟩,?_⟩;refine Jn (YM (K:=K) (.of U)) [] rfl (Zc0 O) (by rw[Za];omega) (λi x HC hx sC R gg=>?_) (λD HD nD sD hD=>?_)
  ·obtain⟨r,rfl,hi,j⟩:=Y i x hx
   have fin:=gg HC (Zw.refl _);have e:Zc0 O (.ref r)=.int (((((ZC t t.length).getD i []).map nV).length:Nat)):=by
    unfold Zc0
    try dsimp only
    rw[j]
   rw[e] at fin;exact⟨_,rfl,r,_,rfl,.inr (.of (sC _ _ j)),fin⟩
  ·rw[Zkp c2 Y] at hD
   exact⟨D,_,rfl,.inl ⟨.of hD,λr nr=>q r _ ((s'.trans sD).trans (Zw.upd nr)) Zu⟩⟩
end
noncomputable abbrev Zhk:Stmt:=top 17
inductive Zba (vs:TL) (H:Hp) (Q:VK) (E03:XK):Prop
 |mk (g:Addr) (x:V) (t:T9) (rs:Nat->Nat):(vs=[.ref g,x])->(GT H g t)->(PW t)->((∀a,a<t.length->Rd t a (rs a)))->(∀(f:Nat) r c H',Zw H H'->Lc rs t.length f->H' c=some (.tup (((ZC t t.length).map a6).map nV))->H' r=some (.tup [.int f,.ref c,x])->Q (.ref r) H')->Zba vs H Q E03
section
variable {P:Program}{w:World}{K:aa}{mg:TR}{base:Heap}
theorem Zh2 {f:Addr}{fd:FuncData}(F:Wu K "frame_of" "frame_of" Zhk f fd)(Y:Fn P w K mg base Z9 2 "full_round" ["group"] Za9)(GS:Fn P w K mg base Z9 5 "sizes_of" ["group"] Za0):Z2 P w K mg base Z9 6 f fd ["group", "table"] Zba:=by
 refine F.ok (FS (N:=["group", "table"])) (λvs H Q E h=>?_) (λm5 A j s H vs Q E J h=>?_)
 ·obtain⟨g,x,t,rs,rfl,_⟩:=h;rfl
 ·obtain⟨g,x,t,rs,rfl,G,M,R,q⟩:=h
  refine⟨_,Zx (ZE (WC (pc (Yz Y J ZF (pc (vn 0) Zs)) (pc (Yz GS J ZF (pc (vn 0) Zs)) (pc (vn 1) Zs))))),?_⟩;refine⟨_,rfl,g,t,rs,rfl,G,M,R,λn H1 O L1=>?_⟩;refine⟨_,rfl,g,t,rfl,G.mono O,M,λc H2 s2 h2=>?_⟩;refine⟨_,rfl,WK,λr U=>?_⟩;exact q n r c _ ((O.trans s2).trans (Zw.upd U)) L1 (Zw.upd U _ _ h2) Zu
end
section
variable {t:T9}{n p m:Nat}{e ω φ:Nat->Nat->Nat}{z:Nat}{dg:Nat->Nat}{o:TY}
theorem Zgy (P:PW t){s x y:Nat}(ec:∀x y,x<t.length->y<t.length->e s (tb t x y)=e s x)(j:x<t.length)(q:y<t.length):Xv t n p e z dg s (tb t x y)=Xv t n p e z dg s x:=by
 unfold Xv;rw[Zl8 P j q];congr 2;funext k;rw[Zij P j q,ec _ _ (WX P j k) q]
theorem ZjF (P:PW t)(O:Ord t.length o){x:Nat}(J:x<t.length):rdT (ren t o) x=rdT t (o.getD x 0):=by
 unfold rdT;rw[YF O];have j:(λr=>it (ren t o) x (r+1) == 0)=λr=>it t (o.getD x 0) (r+1) == 0:=funext λr=>by
  have U:=Zcu P O J (r+1);have M:=WX (Wc P O) (a:=x) (by rw[YF O];exact J) (r+1);rw[YF O] at M;rw[<-U];by_cases q:it (ren t o) x (r+1)=0
  ·rw[q,O.z]
  ·have Y:o.getD (it (ren t o) x (r+1)) 0≠0:=λw=>q (inj O M P.n1 (w.trans O.z.symm))
   rw[beq_eq_false_iff_ne.mpr q,beq_eq_false_iff_ne.mpr Y]
 rw[j]
theorem ZlK (P:PW t)(O:Ord t.length o){s x:Nat}(j:x<t.length):Xv (ren t o) n p (λs x=>e s (o.getD x 0)) z dg s x=Xv t n p e z dg s (o.getD x 0):=by
 unfold Xv;rw[ZjF P O j,YF O];congr 2;funext k;show ((e s (o.getD (it (ren t o) x k) 0):Nat):Int)=_;rw[Zcu P O j]
end
section
variable {t:T9}{o:TY}{n p m:Nat}{e ω φ:Nat->Nat->Nat}{z:Nat}{dg:Nat->Nat}
theorem ZlJ (P:PW t)(D:TD t n p m e ω φ z dg){s y:Nat}(hs:s<m)(J:y<t.length):YW t y<m/\Xv t n p e z dg s (ZM t (YW t y))=Xv t n p e z dg s y:=by
 have se:=WZ P t.length (Zq _) y J;have j:YW t y<(ZC t t.length).length:=e8.mpr (by
  obtain⟨c,q,M⟩:=aZ.mp se;exact⟨c,q,M⟩)
 have mc:=D.cd.mc;refine⟨by rw[mc];exact j,?_⟩;obtain⟨q,M⟩:=X3 P j;obtain⟨b,hb,O⟩:=UQ P j;have U:y∈ZU t b:=by
  rw[<-O];have this:=cN (xs:=ZC t t.length) (p:=λc:TY=>c.contains y) (w:=j);rw[Zb,Zf j];exact ay.mp this
 rw[O] at q M;have e1:ZM t (YW t y)=(ZU t b).getD 0 0:=by unfold ZM;rw[O]
 rw[e1];obtain⟨u,hu,eu⟩:=(Ya P hb).mp q;obtain⟨v,hv,ev⟩:=(Ya P hb).mp U;have Y:=λx y hx J=>D.cd.ec s x y hs hx J;rw[<-eu,<-ev,Zgy P Y hb hu,Zgy P Y hb hv]
def Wo (t:T9)(o:TY)(c:Nat):Nat:=YW t (o.getD (ZM (ren t o) c) 0)
theorem ZjA (P:PW t)(O:Ord t.length o)(D:TD t n p m e ω φ z dg){s:Nat}(M:s<m):Wb (ren t o) n p m (λs x=>e s (o.getD x 0)) z dg s=(ae m).map λc=>(Wb t n p m e z dg s).getD (Wo t o c) []:=by
 have len:(ren t o).length=t.length:=YF O;have U:=Wc P O;have Y:=D.ren P O;unfold Wb;refine aQ λc j=>?_;have j:=af.mp j;have q:c<(ZC (ren t o) (ren t o).length).length:=by rw[<-Y.cd.mc];exact j
 have J:ZM (ren t o) c<t.length:=by
  have:=(X3 U q).2;rw[len] at this;unfold ZM;rw[len];exact this
 have ho:=Ym O J;rw[ZlK P O J];obtain⟨h1,h2⟩:=ZlJ P D M ho;have e1:((ae m).map λc=>Xv t n p e z dg s (ZM t c)).getD (Wo t o c) []=Xv t n p e z dg s (ZM t (Wo t o c)):=by
  rw[Zb,Zc,ai (show Wo t o c<m from h1)];rfl
 rw[e1];exact h2.symm
theorem ZgJ {j yss:X0}(q:j.Perm yss)(J:j.Pairwise λa b=>PyZ.Xx b a=false)(M:yss.Pairwise λa b=>PyZ.Xx b a=false):j=yss:=
 jz (le:=λa b=>PyZ.Xx b a=false) (λa b _ _ x y=>PyZ.ZbC y x) J M q
end
section
variable {t:T9}{o:TY}
theorem Xh (p:Nat->Bool):∀n,((ae n).filter p).length=sm n λw=>JP (p w)
 |0=>rfl
 |n+1=>by
  rw[ck,List.filter_append,Zd,Xh p n,YX];congr 1;cases h:p n with
  |true=>rw[List.filter_cons_of_pos h];rfl
  |false=>rw[List.filter_cons_of_neg (by rw[h];decide)];rfl
theorem ZiU (b:Nat):(ZU t b).length=sm t.length λa=>JP (cjB t b a):=Xh _ _
theorem Ux {b a:Nat}(P:PW t)(hb:b<t.length):cjB t b a=true↔a∈ZU t b:=by rw[Xs,Ya P hb]
theorem ZiS (P:PW t){b y:Nat}(hb:b<t.length)(J:y∈ZU t b):ZU t y=ZU t b:=by
 have q:=Xq J;refine List.filter_congr λa M=>?_;have j:=af.mp M;show cjB t y a=cjB t b a;rw[dF,Ux P q,Ux P hb];constructor
 ·intro h
  exact Yg P hb j J (Yg P j q (YE P j) h)
 ·intro h
  exact Yg P q j (Yg P q hb (YE P q) J) (Yg P j hb (YE P j) h)
theorem ZiR (P:PW t){c:Nat}(j:c<(ZC t t.length).length):(ZC t t.length).getD c []=ZU t (ZM t c):=by
 obtain⟨b,hb,J⟩:=UQ P j;have q:=(X3 P j).1;unfold ZM;rw[J] at q ⊢;exact (ZiS P hb q).symm
theorem Zm6 (P:PW t){y:Nat}(M:y<t.length):YW t y<(ZC t t.length).length/\(ZC t t.length).getD (YW t y) []=ZU t y:=by
 have O:=WZ P t.length (Zq _) y M;have j:YW t y<(ZC t t.length).length:=e8.mpr (by
  obtain⟨c,U,Y⟩:=aZ.mp O;exact⟨c,U,Y⟩)
 refine⟨j,?_⟩;obtain⟨b,hb,J⟩:=UQ P j;have q:y∈ZU t b:=by
  rw[<-J];have this:=cN (xs:=ZC t t.length) (p:=λc:TY=>c.contains y) (w:=j);rw[Zb,Zf j];exact ay.mp this
 rw[J];exact (ZiS P hb q).symm
theorem Zg0 (P:PW t)(O:Ord t.length o){c:Nat}(j:c<(ZC (ren t o) (ren t o).length).length):((ZC (ren t o) (ren t o).length).getD c []).length=((ZC t t.length).getD (Wo t o c) []).length:=by
 have q:=Wc P O;have len:(ren t o).length=t.length:=YF O;have J:ZM (ren t o) c<t.length:=by
  have:=(X3 q j).2;rw[len] at this;unfold ZM;rw[len];exact this
 unfold Wo;rw[ZiR q j,ZiU,(Zm6 P (Ym O J)).2,ZiU,len,<-Zhq O λa=>JP (cjB t (o.getD (ZM (ren t o) c) 0) a)];exact Yt λa M=>by rw[Zhr P O J M]
end
def dTI (j:TZ):cP:=.tuple (j.map λq=>c6 (q.map aI))
theorem VN {K:aa}{H:Hp}:∀(rs:TN) (q:TZ),rs.length=q.length->(∀(i:Nat) b,rs[i]?=some b->∃y,q[i]?=some y/\H b=some (.tup (y.map V.int)))->Wf K H (rs.map V.ref) (q.map λxs=>c6 (xs.map aI))
 | [],[],_,_=>.nil
 | [],_::_,h,_=>by cases h
 |_::_,[],h,_=>by cases h
 |b::bs,y::J,h,g=>by
  obtain⟨Y,M,O⟩:=g 0 b rfl;cases M;exact .cons (.tup (.of O) (Wf.ints _)) (VN bs J (cJ h) λj c U=>g (j+1) c U)
theorem ZeF {K:aa}{H:Hp}{r:Addr}{j:TZ}(h:RowT H r j):Vs K H (.ref r) (dTI j):=by
 obtain⟨q,J,M,O⟩:=h;exact .tup (.of J) (VN q j M O)
def dTb (yss:X0):cP:=.tuple (yss.map dTI)
theorem Ui {K:aa}{H:Hp}:∀(rs:TN) (yss:X0),rs.length=yss.length->(∀(i:Nat) b,rs[i]?=some b->∃y,yss[i]?=some y/\RowT H b y)->Wf K H (rs.map V.ref) (yss.map dTI)
 | [],[],_,_=>.nil
 | [],_::_,h,_=>by cases h
 |_::_,[],h,_=>by cases h
 |b::bs,y::yss,h,g=>by
  obtain⟨O,q,J⟩:=g 0 b rfl;cases q;exact .cons (ZeF J) (Ui bs yss (cJ h) λj c M=>g (j+1) c M)
theorem ZaX {K:aa}{H:Hp}{r:Addr}{yss:X0}(h:Zdo H r yss):Vs K H (.ref r) (dTb yss):=by
 obtain⟨j,q,J,M⟩:=h;exact .tup (.of q) (Ui j yss J M)
theorem Zeu {z:Int}(h:z.natAbs<2 ^ 200):V0 0 0 (.int z):=by
 obtain⟨j,_,_,q,_,_⟩:=XI (ns:=[z]) (λn J=>by
  rw[aM.mp J];exact h)
 simp only[aB,e7,eB,dD,bV] at j q;exact⟨j,rfl,aU _,q,aU _⟩
theorem ZkF {yss:X0}(O:yss.length<=10)(U:∀ys∈yss,ys.length<=10)(J:∀ys∈yss,∀y∈ys,y.length<=60/\∀z∈y,z.natAbs<2 ^ 200):V0 3 (10*(10*(60*1+1)+1)) (dTb yss):=by
 refine V0.tup (by rw[Za];exact O) λd q=>?_;obtain⟨ys,j,rfl⟩:=az.mp q;refine V0.tup (by rw[Za];exact U ys j) λd q=>?_;obtain⟨y,M,rfl⟩:=az.mp q;refine V0.tup (b:=0) (by rw[Za];exact (J ys j y M).1) λd q=>?_;obtain⟨z,Y,rfl⟩:=az.mp q;exact Zeu ((J ys j y M).2 z Y)
variable {t:T9}{n p m z:Nat}{e ω φ:Nat->Nat->Nat}{dg:Nat->Nat}
theorem Zmz {n r p:Nat}{share:Int}{z:Nat}{o:Nat->Int}{j:Nat}(q:1<=p):(ofF n r p share z o j).natAbs<=p:=by
 unfold ofF;split
 ·have J:=bY (share*(bkM p r:Int)*We r (λk=>o k*((z ^ (j*k % n) % p:Nat):Int))) (show (p:Int)≠0 by omega)
  have M:=bD (share*(bkM p r:Int)*We r (λk=>o k*((z ^ (j*k % n) % p:Nat):Int))) (show (0:Int)<p by omega);omega
 ·exact aU _
theorem Zgx (D:TD t n p m e ω φ z dg){s x:Nat}{q:Int}(O:q∈Xv t n p e z dg s x):q.natAbs<2 ^ 200:=by
 have J:=D.n60;have Y:=D.fit.p2;have pl:=D.fit.lt;unfold Xv Zh8 Num.ZcM at O;obtain⟨j,_,rfl⟩:=az.mp O;have:=Num.Zan n (N55.RN n) j 100000 100 (λi=>(N55.Ze7 D.n1 J).1.rsm i j) ((ae n).map (ofF n (rdT t x) p ((t.length:Int)*(bkM p (dg s):Int)) z λk=>(e s (it t x k):Int))) 0 (λy U=>by
  obtain⟨i,_,rfl⟩:=az.mp U;have:=Zmz (n:=n) (r:=rdT t x) (p:=p) (share:=(t.length:Int)*(bkM p (dg s):Int)) (z:=z) (o:=λk=>(e s (it t x k):Int)) (j:=i) (by omega);omega)
 rw[Za,Zg] at this;have h2:n*(100000*100)<=60*(100000*100):=cw _ J;have h3:(600000000:Nat)<2 ^ 200:=by decide
 omega
theorem ZlL {t:T9}{n p:Nat}{e:Nat->Nat->Nat}{z:Nat}{dg:Nat->Nat}(s x:Nat):(Xv t n p e z dg s x).length=N55.JF n:=by unfold Xv Zh8;exact Num.ZcL _ _ _ _
theorem ZjB (D:TD t n p m e ω φ z dg)(M:m<=10){yss:X0}(h:yss.Perm ((ae m).map (Wb t n p m e z dg))):V0 3 (10*(10*(60*1+1)+1)) (dTb yss):=by
 refine ZkF (by rw[h.length_eq,Za,Zg];exact M) (λO J=>?_) λO J y j=>?_
 ·obtain⟨s,_,rfl⟩:=az.mp (h.mem_iff.mp J)
  unfold Wb;rw[Za,Zg];exact M
 ·obtain⟨s,_,rfl⟩:=az.mp (h.mem_iff.mp J)
  unfold Wb at j;obtain⟨c,_,rfl⟩:=az.mp j;refine⟨?_,λq U=>Zgx D U⟩;rw[ZlL];have:=(N55.Ze7 D.n1 D.n60).1.tn;have:=D.n60;omega
theorem ZoE:∀x∈Zga,x.2.rp.length<=10:=by
 have:(Zga.all λx=>decide (x.2.rp.length<=10))=true:=by decide +kernel
 exact λx j=>of_decide_eq_true (aR.mp this x j)
theorem Zkj {t:T9}(h:MkC t):∃(n p m:Nat) (e ω φ:Nat->Nat->Nat) (z:Nat) (dg:Nat->Nat),m<=10/\TD t n p m e ω φ z dg:=by
 have P:=Uv h;obtain⟨i,hi⟩:=bx h;have M:=(ac.mp hi).1;have j:tbC.length=29:=by decide +kernel
 have:=okC i (by omega);unfold okB at this;have q:tbC.getD i []=t:=by rw[Zb,hi];rfl
 rw[q,ah] at this;have J:Zga.length=29:=by decide +kernel
 exact⟨_,_,_,_,_,_,_,_,ZoE (Zga.getD i d0) (by rw[Zb,Zf (by omega)];exact bh _),ZnD P this.2⟩
theorem Zdo.mono {H j:Hp}{r:Addr}{yss:X0}(h:Zdo H r yss)(s:Zw H j):Zdo j r yss:=by
 obtain⟨q,J,M,O⟩:=h;exact⟨q,s _ _ J,M,λi c U=>let ⟨Y,a,b⟩:=O i c U;⟨Y,a,b.mono s⟩⟩
theorem V0.le {k b j q:Nat}{d:cP}(h:V0 k b d)(J:k<=j)(hb:b<=q):V0 j q d:=⟨h.sh,h.nd,aW h.dp J,h.lv,aW h.bl hb⟩
def dFr (n:Nat)(j:TY)(yss:X0):cP:=.tuple [.int n,.tuple (j.map λx=>aI (x:Nat)),dTb yss]
theorem Zlv {K:aa}{H:Hp}{r c q:Addr}{n:Nat}{zs:TY}{yss:X0}(j:H r=some (.tup [.int n,.ref c,.ref q]))(J:H c=some (.tup (zs.map nV)))(M:Zdo H q yss):Vs K H (.ref r) (dFr n zs yss):=by
 refine .tup (.of j) (.cons (.int _) (.cons ?_ (.cons (ZaX M) .nil)));have:=Wf.ints (K:=K) (H:=H) (zs.map λx:Nat=>(x:Int));rw[aC,aC] at this;exact .tup (.of J) this
theorem ZmR {n:Nat}{zs:TY}{yss:X0}(q:n<=60)(J:zs.length<=10)(M:∀x∈zs,x<=60)(O:V0 3 (10*(10*(60*1+1)+1)) (dTb yss)):Zjc (dFr n zs yss):=by
 have b:∀x:Nat,x<=60->V0 0 0 (.int (x:Nat)):=λx j=>Zeu (by
  have:(60:Nat)<2 ^ 200:=by decide
  omega)
 refine (V0.tup (k:=3) (b:=10*(10*(60*1+1)+1)) (n:=3) (by simp) λd hd=>?_).fit (by decide) (by decide);rcases aD.mp hd with rfl|hd
 ·exact V0.le (b n q) (by decide) (by decide)
 rcases aD.mp hd with rfl|hd
 ·refine V0.le (V0.tup (k:=0) (b:=0) (n:=10) (by rw[Za];exact J) λd hd=>?_) (by decide) (by decide)
  obtain⟨x,j,rfl⟩:=az.mp hd;exact b x (M x j)
 ·rw[aM.mp hd]
  exact O
end C55
namespace L2
open PySem PySem.Spec PyProof.Rows
section
variable {X:Cx}
inductive I_call_tuple_rngZ (xs:TL) (H:Hp) (Q:VK):Prop
 |mk (a:Addr) (lo hi:Int):(xs=[.ref a])->(H a=some (.rng lo hi))->((-(2 ^ 62)<=lo/\lo<2 ^ 62/\-(2 ^ 62)<=hi/\hi<2 ^ 62))->((hi-lo).toNat<=sizeLine)->(∀l H',H l=none->Zw H H'->Tz H' l ((YC lo (hi-lo).toNat).map V.int)->Q (.ref l) H')->I_call_tuple_rngZ xs H Q
theorem VG (hc:X.calm=true):Yd X (.type "tuple") _root_.L2.I_call_tuple_rngZ:=by
 intro j s O H xs us Q I r h;obtain⟨a,lo,hi,rfl,ha,⟨b1,b2,b3,b4⟩,U,q⟩:=h;obtain⟨u,rfl,ru⟩:=vals1 r;cases ru;obtain⟨t,u,v,e⟩:=(show ∃t u v,s.heap.get? a=some {cls:=.type "range",data:=.fields #[.int lo t,.int hi u,.int 1 v]} from I.hok a _ ha);refine PyZ.Vp (n:=(hi-lo).toNat) (I.ok.hd hc) e (small_one b1 b2 b3 b4) (by rw[lQ];split <;> omega) U λJ tk ZJ hk M=>?_
 have Y:Inv X j O H {s with heap:=J,toks:=tk}:=I.kept (t':=tk) hk;have hf:=Y.hok.fresh (Zq _);have I2:Inv X j O (upd H J.objs.size (.frz {cls:=.type "tuple",data:=.seq ZJ} (.tup ((YC lo (hi-lo).toNat).map V.int)))) {s with heap:=J.push {cls:=.type "tuple",data:=.seq ZJ},toks:=tk}:=
  Y.laid (t':=tk) (λb o e=>Zn _ e) (Zq _) ⟨Zo _ rfl,by rw[Za,Z8];exact U,ZJ.toList,Zag M,by simpa using ki _ _⟩
 exact⟨.ref J.objs.size,_,I2,rfl,q _ _ hf (Zw.upd hf) ⟨_,Zu,rfl,rfl⟩⟩
end
def TT2 (H:Hp)(a:Addr)(ys:TL):Prop:=H a=some (.tup ys)\/Tz H a ys
theorem TT2.sq {K:aa}{H:Hp}{a:Addr}{ys:TL}(h:TT2 H a ys):Xw K H a ys:=h.elim (λh=>.of h) λh=>h.sq
theorem TT2.mono {H j:Hp}{a:Addr}{ys:TL}(s:Zw H j)(h:TT2 H a ys):TT2 j a ys:=h.elim (λh=>.inl (s _ _ h)) λh=>.inr (h.mono s)
inductive I_isaZ (xs:TL) (H:Hp) (Q:VK):Prop
 |mk (a:_) (ys:_):(xs=[.ref a,.ty "tuple"])->(TT2 H a ys)->(Q (.bl true) H)->I_isaZ xs H Q
theorem ZpQ {X:Cx}(K:aa)(hK:X.K=K:=by rfl):Yd X (.builtin "isinstance") _root_.L2.I_isaZ:=by
 intro j s σ H xs us Q I r h;obtain⟨a,J,rfl,h,q⟩:=h;cases r with
 |cons M r=>
  cases r with
  |cons O r=>
   cases r
   rename_i U Y
   cases (show Y=bX "tuple" from O);cases (show U=aK a from M);have e:ig X.K (.type "tuple") (.type "tuple")=some true:=Zoi (by decide) (by decide);rcases h with h|⟨o,h,hc,_⟩
   ·exact ZaE (x:=.ref a) I rfl (.tup h) e λtk=>⟨.bl true,H,I.tok _,rfl,q⟩
   ·obtain⟨h1,_⟩:=(show Yk X.prog X.w H s.heap a (.frz o (.tup J)) from I.hok a _ h)
    exact bK kL I.kIn ⟨o,h1,hc⟩ e (λz=>nomatch z) λtk=>⟨.bl true,H,I.tok _,rfl,q⟩
section
variable {X:Cx}
def ZpH (K:aa):TL->Hp->VK->Prop:=λxs H Q=>(∃a j,xs=[.ref a,.ty "tuple"]/\TT2 H a j/\Q (.bl true) H)\/ZjG K "tuple" xs H Q
theorem Zoj (K:aa)(q:X.K=K:=by rfl):Yd X (.builtin "isinstance") (ZpH K):=λj s J H M O Q I r h=>h.elim (λ⟨a,U,Y,e2,e3⟩=>ZpQ K q j s J H M O Q I r ⟨a,U,Y,e2,e3⟩) (Zik K "tuple" (by decide) q j s J H M O Q I r)
theorem lstK (K:aa)(j:X.K=K:=by rfl):Yd X (.type "list") (_root_.L2.I_call_list_of K):=j▸JC
inductive I_op_isnotB (x:V) (y:V) (H:Hp) (Q:VK):Prop
 |mk (a:_) (b:_):(x=.bl a)->(y=.bl b)->(Q (.bl (!decide (a=b))) H)->I_op_isnotB x y H Q
theorem ZfH:X8 X (compareOp .IsNot) _root_.L2.I_op_isnotB:=by
 intro j s O H x y v u Q I J M h;obtain⟨a,b,rfl,rfl,q⟩:=h;cases J;cases M;exact isnot_bool (ZY I q (by cases a <;> cases b <;> rfl))
end
end L2
namespace C55
open PySem L2 PySem.Spec PyProof.Rows
open Tb Pm
noncomputable abbrev Zg5:Stmt:=top 1
noncomputable abbrev Zlg:Stmt:=top 2
noncomputable abbrev Zhi:Stmt:=top 3
def ItV (H:Hp)(y:V):Prop:=(∃z:Int,y=.int z/\z.natAbs<2 ^ 200)\/(∃b,y=.bl b)\/y=.non\/y=.str "0"\/∃r,y=.ref r/\H r=some (.tup [.int 0])
theorem ItV.mono {H j:Hp}{y:V}(s:Zw H j)(h:ItV H y):ItV j y:=by
 rcases h with h|h|h|h|⟨r,e,h⟩
 ·exact .inl h
 ·exact .inr (.inl h)
 ·exact .inr (.inr (.inl h))
 ·exact .inr (.inr (.inr (.inl h)))
 ·exact .inr (.inr (.inr (.inr ⟨r,e,s _ _ h⟩)))
def isN:V->Bool
 | .int _=>true
 |_=>false
def elZ (c:Nat):V->Bool
 | .int z=>decide (0<=z) && decide (z<(c:Int))
 |_=>false
theorem ItV.kd {K:aa}{H:Hp}{y:V}(h:ItV H y):∃n,Kd K H y n/\(U9 n "int" && !U9 n "bool")=isN y:=by
 rcases h with ⟨z,rfl,_⟩|⟨b,rfl⟩|rfl|rfl|⟨r,rfl,h⟩
 ·exact⟨"int",⟨.int z,by decide⟩,rfl⟩
 ·exact⟨"bool",⟨.bl b,by decide⟩,rfl⟩
 ·exact⟨"NoneType",⟨.non,by decide⟩,rfl⟩
 ·exact⟨"str",⟨.str _,by decide⟩,rfl⟩
 ·exact⟨"tuple",⟨.tup h,by decide⟩,rfl⟩
def Tg (H:Hp)(x:V):Option TL->Prop
 |some j=>∃a,x=.ref a/\TT2 H a j/\j.length<=300/\∀y∈j,ItV H y
 |none=>x=.non\/(∃(a:Addr) (q:TY),x=.ref a/\H a=some (.lst (q.map nV))/\q.length<=60/\∀k∈q,k<=1000)\/x=.int 0\/x=.str "alike"
theorem Tg.mono {H j:Hp}{x:V}{o:Option TL}(s:Zw H j)(h:Tg H x o):Tg j x o:=by
 cases o with
 |some J=>
  obtain⟨a,e,h,l,he⟩:=h;exact⟨a,e,h.mono s,l,λy q=>(he y q).mono s⟩
 |none=>
  rcases h with h|⟨a,ns,e,h,hb⟩|h
  ·exact .inl h
  ·exact .inr (.inl ⟨a,ns,e,s _ _ h,hb⟩)
  ·exact .inr (.inr h)
theorem Tg.kd {K:aa}{H:Hp}{x:V}(h:Tg H x none):∃n,Kd K H x n/\U9 n "tuple"=false:=by
 rcases h with rfl|⟨a,ns,rfl,h,_⟩|rfl|rfl
 ·exact⟨"NoneType",⟨.non,by decide⟩,by decide⟩
 ·exact⟨"list",⟨.lst h,by decide⟩,by decide⟩
 ·exact⟨"int",⟨.int 0,by decide⟩,by decide⟩
 ·exact⟨"str",⟨.str _,by decide⟩,by decide⟩
def arB (c:Nat):Option TL->Bool
 |none=>false
 |some j=>j.all (elZ c)
theorem Zi3 {c:Nat}:∀{xs:TL},xs.all (elZ c)=true->∃j:TY,xs=j.map nV/\∀g∈j,g<c
 | [],_=>⟨[],rfl,λg h=>by cases h⟩
 |x::r,h=>by
  rw[List.all_cons,ah] at h;obtain⟨j,e,J⟩:=Zi3 h.2;cases x with
  |int z=>
   have q:(decide (0<=z) && decide (z<(c:Int)))=true:=h.1;rw[ah] at q;have M:=of_decide_eq_true q.1;have O:=of_decide_eq_true q.2;obtain⟨k,rfl⟩:=bM M;refine⟨k::j,by rw[e];rfl,λg h=>?_⟩;rcases aD.mp h with rfl|h
   ·omega
   ·exact J g h
  |_=>cases h.1
inductive Zl0 (vs:TL) (H:Hp) (Q:VK) (E03:XK):Prop
 |mk (y:V):(vs=[y])->(ItV H y)->(Q (.bl (isN y)) H)->Zl0 vs H Q E03
inductive ZgW (vs:TL) (H:Hp) (Q:VK) (E03:XK):Prop
 |mk (x:V) (o:Option TL) (c:Nat):(vs=[x,.int (c:Nat)])->(Tg H x o)->(∀H',Zw H H'->Q (.bl (arB c o)) H')->ZgW vs H Q E03
theorem Zf5 {X:Cx}(K:aa)(j:X.A.units+64<cLine)(q:X.K=K:=by rfl):X8 X (compareOp .Eq) (_root_.L2.I_op_eqD K):=q▸Zmm j
theorem ZmA:∀ns:TY,ba (ns.map λk:Nat=>aI (k:Int))=true
 | []=>rfl
 |n::ns=>ZmA ns
theorem ZmB:∀ns:TY,aV (ns.map λk:Nat=>aI (k:Int))=0
 | []=>rfl
 |n::ns=>by
  show max 0 (aV (ns.map λk:Nat=>aI (k:Int)))=0;rw[ZmB ns];rfl
theorem Zbk (ns:TY):bq (Vl ns)=true:=by
 unfold bq Vl;have j:eV (.tuple (ns.map λk:Nat=>aI (k:Int)))=true:=ZmA ns;have q:bU (.tuple (ns.map λk:Nat=>aI (k:Int)))<=64:=by
  show aV (ns.map λk:Nat=>aI (k:Int))+1<=64;rw[ZmB ns];omega
 simp only[j,dG,bV,decide_eq_true_eq];exact q
theorem ZmW (a b:TY):c7 (Vl a) (Vl b)=decide (a=b):=by
 rw[<-Zov a b];unfold Vl nI;rw[aC,aC];rfl
def ZhO (c:Nat)(o:Option TL):Prop:=∃j:TY,o=some (j.map nV)/\j.length=c/\(∀g∈j,g<c)/\(∀k,k<c->k∈j)/\j.getD 0 1=0
inductive ZgR (vs:TL) (H:Hp) (Q:VK) (E03:XK):Prop
 |mk (x:V) (o:Option TL) (c:Nat):(vs=[x,.int (c:Nat)])->(1<=c)->(c<=60)->(Tg H x o)->(∀b H',Zw H H'->(b=true↔ZhO c o)->Q (.bl b) H')->ZgR vs H Q E03
def YK (j:TY):TV:=j.map λk:Nat=>(k:Int)
theorem Vo (j:TY):(YK j).map V.int=j.map nV:=by
 unfold YK;rw[aC];rfl
theorem Jw {a b:TY}(h:a.map nV=b.map nV):a=b:=by
 have:(a.map nV).map (λv:V=>match v with | .int z=>z.toNat|_=>0)=(b.map nV).map (λv:V=>match v with | .int z=>z.toNat|_=>0):=by rw[h]
 rw[aC,aC] at this;have e:∀l:TY,l.map ((λv:V=>match v with | .int z=>z.toNat|_=>0) ∘ nV)=l:=λl=>by
  conv=>rhs;rw[<-lM l]
  refine aQ λk _=>?_;show ((k:Int)).toNat=k;exact Zj k
 rwa [e,e] at this
section
variable {P:Program}{w:World}{K:aa}{mg:TR}{base:Heap}
theorem Zoe {f:Addr}{fd:FuncData}(F:Wu K "is_whole" "is_whole" Zg5 f fd)(T:Bl mg):Z2 P w K mg base Z9 1 f fd ["thing"] Zl0:=by
 refine F.ok (FS (N:=["thing"])) (λO H Q E h=>?_) (λU A J s H O Q E hr h=>?_)
 ·obtain⟨y,rfl,_⟩:=h;rfl
 ·obtain⟨y,rfl,Y,q⟩:=h
  refine⟨_,Zx (ZE (Xm (cb (Zik K "int") T.isi (pc (vn 0) (pc (tyv "int" T.int) Zs))) (Ur (Zmi (cb (Zik K "bool") T.isi (pc (vn 0) (pc (tyv "bool" T.bool) Zs))))))),?_⟩;obtain⟨n,M,e⟩:=Y.kd (K:=K);refine⟨_,rfl,_,n,rfl,M,_,rfl,Z1 (λj=>?_) (λj=>?_)⟩
  ·refine⟨_,rfl,_,n,rfl,M,_,rfl,?_⟩
   rw[j,dG] at e;rw[e];exact q
  ·have j:U9 n "int"=false:=by simpa using j
   rw[j,jZ] at e;have q:=q;rw[<-e] at q;exact q
theorem Zmx {f:Addr}{fd:FuncData}(F:Wu K "are_things" "are_things" Zlg f fd)(T:Bl mg)(GW:Fn P w K mg base Z9 1 "is_whole" ["thing"] Zl0):Z2 P w K mg base Z9 2 f fd ["thing", "count"] ZgW:=by
 refine F.ok (FS (N:=["thing", "count"])) (λvs H Q E h=>?_) (λm6 A O s H vs Q E hr h=>?_)
 ·obtain⟨x,o,c,rfl,_⟩:=h;rfl
 ·obtain⟨x,o,c,rfl,hx,q⟩:=h
  refine⟨_,Zx (ZE (Xm (cb (Zoj K) T.isi (pc (vn 0) (pc (tyv "tuple" T.tuple) Zs)))
   (Ur (cb (ZiZ rfl) T.all (pc (cmp ["x"] [1] ["x", "count"] rfl (itT K (vn 0)) (λ_ _ _ _ _=>gn 0) (λ_ _ _ _ _=>ZQ)
    (λ_ _ _ _ _=>Xm (Yz GW hr ZF (pc (vn 0) Zs)) (Ur (ZhK Zlj Zav Zv (vn 0) (vn 1))))) Zs))))),?_⟩
  cases o with
  |none=>
   obtain⟨n,U,e⟩:=Tg.kd (K:=K) hx;refine⟨_,rfl,.inr ⟨_,n,rfl,U,_,rfl,?_⟩⟩;rw[e];exact Zd8 (by decide) (q H (Zw.refl H))
  |some xs=>
   obtain⟨a,rfl,Y,hl,he⟩:=hx;refine⟨_,rfl,.inl ⟨a,_,rfl,Y,_,rfl,ZmP rfl ?_⟩⟩;refine⟨_,rfl,a,rfl,⟨_,Y.sq⟩,?_⟩;refine Jn (YM (K:=K) Y.sq) [some (.int c)] rfl (λy=>.bl (elZ c y)) (by omega) (λi y J hy s R h1=>?_) (λD J hD s m5=>?_)
   ·have U:=(he y (av hy)).mono s
    refine⟨_,rfl,y,rfl,U,_,rfl,?_⟩;cases y with
    |int z=>
     refine ZmP rfl ?_;refine⟨_,rfl,_,_,rfl,rfl,_,rfl,?_⟩;have M:=h1 J (Zw.refl _);refine Z1 (λj=>?_) (λj=>?_)
     ·refine⟨_,rfl,_,_,rfl,rfl,?_⟩
      have e:elZ c (.int z)=decide (z<(c:Int)):=by show (decide (0<=z) && decide (z<(c:Int)))=_;rw[j];rfl
      rw[e] at M;exact M
     ·have j:decide (0<=z)=false:=by simpa using j
      have e:elZ c (.int z)=false:=by show (decide (0<=z) && decide (z<(c:Int)))=_;rw[j];rfl
      rw[e] at M;exact M
    |_=>exact Zd8 (λz=>by cases z) (h1 J (Zw.refl _))
   ·refine⟨D,xs.map (elZ c),rfl,.of ?_,?_⟩
    ·rw[m5,aC];rfl
    ·have:(xs.map (elZ c)).all id=xs.all (elZ c):=by rw[kI];rfl
     rw[this];exact q J s
theorem Zh1 {f:Addr}{fd:FuncData}(F:Wu K "is_order" "is_order" Zhi f fd)(T:Bl mg)(GA:Fn P w K mg base Z9 2 "are_things" ["thing", "count"] ZgW):Z2 P w K mg base Z9 3 f fd ["thing", "count"] ZgR:=by
 refine F.ok (FS (N:=["thing", "count"])) (λvs H Q E h=>?_) (λm9 A m6 s H vs Q E hr h=>?_)
 ·obtain⟨x,o,c,rfl,_⟩:=h;rfl
 ·obtain⟨x,o,c,rfl,c1,n6,hx,q⟩:=h
  refine⟨_,Zx (ZE (Xm (Yz GA hr ZF (pc (vn 0) (pc (vn 1) Zs))) (Xm (W1 WH (cb (Yr K) T.len (pc (vn 0) Zs)) (vn 1) (ZI _)) (Xm (W1 WH (cb Zgp T.len (pc (ct (Zgn rfl) T.set (pc (vn 0) Zs)) Zs)) (vn 1) (ZI _)) (Ur (W1 WH (ZB (Wa K) (vn 0) Zv (λ_ _=>rfl)) Zv (ZI _))))))),?_⟩;refine⟨_,rfl,_,rfl,x,o,c,rfl,hx,λH1 s1=>⟨_,rfl,Z1 (λha=>?_) (λha=>?_)⟩⟩
  ·cases o with
   |none=>cases ha
   |some xs=>
    obtain⟨a,rfl,hx,hl,he⟩:=hx;obtain⟨J,rfl,hg⟩:=Zi3 ha;rw[Za] at hl;have m5:=hx.mono s1;have n8:∀hs:TY,J.map nV=hs.map nV->hs=J:=λhs e=>(Jw e).symm;have m7:∀z∈YK J,0<=z/\z<(c:Int):=λz hz=>by
     obtain⟨k,hk,rfl⟩:=az.mp hz;have:=hg k hk;exact⟨by omega,by omega⟩
    have O:(YK J).length=J.length:=fN ..;refine⟨_,rfl,a,_,rfl,.inr m5.sq,_,rfl,rfl,_,rfl,Z1 (λM=>?_) (λM=>?_)⟩
    ·have M:V.int ((J.map nV).length:Int)=V.int (c:Int):=of_decide_eq_true M
     injection M with M;rw[Za] at M;have M:J.length=c:=by omega
     refine⟨_,rfl,a,YK J,rfl,by rw[Vo];exact m5.sq,by omega,λp np=>⟨p,_,_,rfl,Zu,_,rfl,rfl,_,rfl,Z1 (λY=>?_) (λY=>?_)⟩⟩
     ·have Y:V.int ((Yy (YK J) (YK J).length).length:Int)=V.int (c:Int):=of_decide_eq_true Y
      injection Y with Y;have Y:(Yy (YK J) (YK J).length).length=(YK J).length:=by omega
      have U:=(ZcF (YK J)).mp ⟨λz hz=>by rw[O,M];exact m7 z hz,Y⟩;have s2:=s1.trans (Zw.upd (H:=H1) (o:=.set (λk=>(Yy (YK J) (YK J).length).any (· == k)) (Yy (YK J) (YK J).length).length) np);obtain⟨g0,gr,rfl⟩:∃g0 gr,J=g0::gr:=by
       cases J with
       |nil=>simp at M;omega
       |cons g0 gr=>exact⟨g0,gr,rfl⟩
      refine⟨_,rfl,a,_,0,.int (g0:Nat),rfl,rfl,(m5.mono (Zw.upd np)).sq,ZA (j:=0) rfl,rfl,q _ _ s2 ?_⟩;rw[decide_eq_true_iff];constructor
      ·intro e
       injection e with e;refine⟨g0::gr,rfl,M,hg,λk hk=>?_,?_⟩
       ·have:=U k (by rw[O,M];exact hk)
        obtain⟨k',m8,e'⟩:=az.mp this;have:k'=k:=by omega
        exact this▸m8
       ·show g0=0
        omega
      ·rintro⟨hs,e,_,_,_,e0⟩
       injection e with e;have e:=Jw e;subst e;have e0:g0=0:=e0;rw[e0];rfl
     ·have Y:¬V.int ((Yy (YK J) (YK J).length).length:Int)=V.int (c:Int):=λz=>Y (decide_eq_true z)
      refine q _ _ (s1.trans (Zw.upd np)) ⟨λz=>(by cases z),?_⟩;rintro⟨hs,e,_,_,U,_⟩;injection e with e;have e:=Jw e;subst e;refine absurd ?_ Y;have:=((ZcF (YK J)).mpr λk hk=>az.mpr ⟨k,U k (by omega),rfl⟩).2;rw[this,O,M]
    ·have M:¬V.int ((J.map nV).length:Int)=V.int (c:Int):=λz=>M (decide_eq_true z)
     refine q _ _ s1 ⟨λz=>(by cases z),?_⟩;rintro⟨hs,e,e2,_⟩;injection e with e;have e:=Jw e;subst e;refine absurd ?_ M;rw[Za,e2]
  ·refine q _ _ s1 ⟨λz=>(by cases z),?_⟩
   rintro⟨J,rfl,_,hg,_⟩;refine absurd ?_ ha;show (J.map nV).all (elZ c)=true;rw[kI,aR];intro k hk;have:=hg k hk;show (decide (0<=((k:Nat):Int)) && decide (((k:Nat):Int)<(c:Int)))=true;rw[decide_eq_true (by omega),decide_eq_true (by omega)];rfl
end
noncomputable abbrev Zla:Stmt:=top 19
noncomputable abbrev ZnY:Stmt:=top 18
theorem Zbv {c:Nat}{q:TY}(c1:1<=c)(hl:q.length=c)(hg:∀g∈q,g<c)(U:∀k,k<c->k∈q)(h0:q.getD 0 1=0):Ord c q:=by
 have M:∀k,k<c->pos q k<c/\q[pos q k]?=some k:=λk O=>by
  have J:q.findIdx (· == k)<q.length:=cM ⟨k,U k O,by simp⟩;have Y:=cN (xs:=q) (p:=(· == k)) (w:=J);exact⟨by unfold pos;omega,by unfold pos;rw[Zf J,eq_of_beq Y]⟩
 have on:∀i,i<c->∃k,k<c/\pos q k=i:=λi hi=>by
  have p:=VQ (Zbz (n:=c) (f:=pos q) λa b U hb h=>by
   have J:=(M a U).2;rw[h,(M b hb).2] at J;exact (ax J).symm) (λx hx=>by
   obtain⟨k,O,rfl⟩:=az.mp hx;exact (M k (af.mp O)).1) (by rw[Za,Zg])
  obtain⟨k,O,e⟩:=az.mp (p.mem_iff.mpr (af.mpr hi));exact⟨k,af.mp O,e⟩
 refine⟨hl,?_,U,hg,?_⟩
 ·rw[jY,gh]
  intro i j hi hj ij e;obtain⟨a,m5,rfl⟩:=on i (by omega);obtain⟨b,m6,rfl⟩:=on j (by omega);have J:=(M a m5).2;have Y:=(M b m6).2;rw[Zf hi] at J;rw[Zf hj,<-e,J] at Y;rw[ax Y] at ij;omega
 ·rw[Zb,Zf (by omega)] at h0 ⊢
  exact h0
theorem XT {c:Nat}{o:Option TL}(q:1<=c):ZhO c o↔∃j:TY,o=some (j.map nV)/\Ord c j:=by
 constructor
 ·rintro⟨j,e,J,M,U,Y⟩
  exact⟨j,e,Zbv q J M U Y⟩
 ·rintro⟨j,e,O⟩
  refine⟨j,e,O.len,O.lt,O.all,?_⟩;have:=O.z;rw[Zb,Zf (by rw[O.len];exact q)] at this ⊢;exact this
def WI {α:Type}(d0:α)(j:TY)(xs:List α):List α:=(ae xs.length).map λd=>xs.getD (pos j d) d0
theorem XX:∀yss:X0,ba (yss.map dTI)=true/\aV (yss.map dTI)<=10
 | []=>⟨rfl,aU _⟩
 |q::yss=>by
  obtain⟨a,b⟩:=XX yss;rw[aB];have d1:∀j:TV,aV (j.map aI)=0:=λj=>by
   induction j with
   |nil=>rfl
   |cons n j J=>rw[aB,aV,J];rfl
  have M:aV (q.map λj=>c6 (j.map aI))<=5:=by
   induction q with
   |nil=>exact aU _
   |cons n j J=>
    rw[aB,aV,bU,d1];omega
  have e:(dTI q).depth=aV (q.map λj=>c6 (j.map aI))+1:=rfl;refine⟨by rw[ba,a,bV];exact Wz q,?_⟩;rw[aV,e];omega
theorem Zfd {a b:TZ}(h:(dTI a).eqv (dTI b)=true):a=b:=by
 have q:∀x y:TV,c7 (.tuple (x.map aI)) (.tuple (y.map aI))=decide (x=y):=λx y=>by
  show di _ _=_;exact iC _ _
 have J:∀a b:TZ,di (a.map λj=>c6 (j.map aI)) (b.map λj=>c6 (j.map aI))=true->a=b:=λa=>by
  induction a with
  |nil=>
   intro b h;cases b with
   |nil=>rfl
   |cons y b=>cases h
  |cons x a M=>
   intro b h;cases b with
   |nil=>cases h
   |cons y b=>
    rw[aB,aB,di,ah,q,decide_eq_true_eq] at h;rw[h.1,M b h.2]
 exact J _ _ h
theorem ZkI {a b:X0}:(dTb a).eqv (dTb b)=true↔a=b:=by
 constructor
 ·have j:∀a b:X0,di (a.map dTI) (b.map dTI)=true->a=b:=λa=>by
   induction a with
   |nil=>
    intro b h;cases b with
    |nil=>rfl
    |cons y b=>cases h
   |cons x a q=>
    intro b h;cases b with
    |nil=>cases h
    |cons y b=>
     rw[aB,aB,di,ah] at h;rw[Zfd h.1,q b h.2]
  exact λh=>j a b h
 ·rintro rfl
  exact jN _ (XX a).1
theorem VM (a:X0):bq (dTb a)=true:=by
 obtain⟨j,J⟩:=XX a;have M:(dTb a).depth<=60:=by
  unfold dTb;rw[bU];omega
 have q:(dTb a).canLay0=true:=j;unfold bq;simp only[q,dG,bV,decide_eq_true_eq];omega
theorem Zih {α q:Type}{f:α->q}{d0:α}{d1:q}{j:TY}{xs:List α}(O:Ord xs.length j):WI d1 j (xs.map f)=(WI d0 j xs).map f:=by
 unfold WI;rw[aC,Za];refine aQ λd J=>?_;have:=(Yb O (af.mp J)).1;show (xs.map f).getD (pos j d) d1=f (xs.getD (pos j d) d0);rw[Zb,Zc,Zb,Zf this];rfl
theorem UC {α:Type}{d0:α}{j:TY}{xs:List α}:(WI d0 j xs).length=xs.length:=by
 unfold WI;rw[Za,Zg]
theorem Zfy {H:Hp}{a D:Addr}{ys:TZ}{zs:TL}{o:HO}(h:RowT H a ys)(J:H D=some (.lst zs)):RowT (upd H D o) a ys:=by
 obtain⟨M,j,O,U⟩:=h;refine⟨M,by rw[Zy (λz=>by rw[z,J] at j;cases j)];exact j,O,λi c Y=>?_⟩;obtain⟨y,e1,q⟩:=U i c Y;exact⟨y,e1,by rw[Zy (λz=>by rw[z,J] at q;cases q)];exact q⟩
inductive ZdG (vs:TL) (H:Hp) (Q:VK) (E03:XK):Prop
 |mk (a b:Addr) (xs:TL) (gs:TY):(vs=[.ref a,.ref b])->(H a=some (.tup xs))->(Tz H b (gs.map nV))->(Ord xs.length gs)->(xs.length<=60)->(∀l H',H l=none->Zw H H'->H' l=some (.tup (WI .non gs xs))->Q (.ref l) H')->ZdG vs H Q E03
def FrA (H:Hp)(r:Addr)(n:Nat)(j:TY)(yss:X0):Prop:=∃c q:Addr,H r=some (.tup [.int n,.ref c,.ref q])/\H c=some (.tup (j.map nV))/\Zdo H q yss
def Zku (J M:Nat)(q O:TY)(U Y:X0)(o:Option TL):Prop:=J=M/\∃j:TY,o=some (j.map nV)/\Ord q.length j/\WI 0 j q=O/\(U.map (WI [] j)).Perm Y
def FrP (j:TY)(yss:X0):Prop:=1<=j.length/\j.length<=60/\(∀q∈yss,q.length=j.length)/\yss.length<=60/\yss.Pairwise (λa b=>PyZ.Xx b a=false)
inductive ZgU (vs:TL) (H:Hp) (Q:VK) (E03:XK):Prop
 |mk (r1 r2:Addr) (x:V) (n1 n2:Nat) (z1 z2:TY) (y1 y2:X0) (o:Option TL):(vs=[.ref r1,.ref r2,x])->(FrA H r1 n1 z1 y1)->(FrA H r2 n2 z2 y2)->(FrP z1 y1)->(FrP z2 y2)->(Tg H x o)->((∀a xs,x=.ref a->o=some xs->xs≠[]->Tz H a xs))->(∀b H',Zw H H'->(b=true↔Zku n1 n2 z1 z2 y1 y2 o)->Q (.bl b) H')->ZgU vs H Q E03
section
variable {P:Program}{w:World}{K:aa}{mg:TR}{base:Heap}
theorem Zj7 {f:Addr}{fd:FuncData}(F:Wu K "laid" "laid" Zla f fd)(T:Bl mg):Z2 P w K mg base Z9 1 f fd ["row", "match"] ZdG:=by
 refine F.ok (FS (N:=["row", "match"])) (λvs H Q E h=>?_) (λm6 A m5 s H vs Q E hr h=>?_)
 ·obtain⟨a,b,xs,U,rfl,_⟩:=h;rfl
 ·obtain⟨a,b,xs,U,rfl,ha,hb,O,m7,q⟩:=h
  refine⟨_,Zx (ZE (ct ZL T.tuple (pc (cmp ["d"] [0,1] ["d", "row", "match"] rfl (J9 T.range (pc (cb (Yr K) T.len (pc (vn 0) Zs)) Zs)) (λ_ _ _ _ _=>gn 0) (λ_ _ _ _ _=>ZQ) (λ_ _ _ _ _=>ZB (Wa K) (vn 1) (ZdX f8 eQ f7 (ZlQ K) (vn 2) (pc (vn 0) Zs)) (λ_ _=>rfl))) Zs))),?_⟩
  have Ja:=Ja;refine⟨_,rfl,a,_,rfl,.inr (.of ha),_,rfl,by omega,by omega,?_⟩;rw[Zj];refine Y8 (Jr 0 xs.length) [some (.ref a),some (.ref b)] rfl (λd=>xs.getD (pos U d) .non) (by rw[Za,Z8];omega) (λd y hy H' J R k=>?_) (λD H' nD J hD=>?_)
  ·obtain⟨hd,rfl⟩:=XN hy
   obtain⟨Y,p2⟩:=Yb O hd;have hz:=hb.mono J;refine⟨_,rfl,_,rfl,⟨_,_,rfl,hz⟩,_,rfl,b,_,.int ((d:Nat):Int),pos U d,rfl,rfl,hz.sq,rfl,?_,by rw[Za,O.len];exact Y,λz j=>?_,λm z hm j=>?_,?_⟩
   ·refine aR.mpr λv hv=>?_
    obtain⟨k,_,rfl⟩:=az.mp hv;rfl
   ·rw[Zc,ZR (by rw[O.len];exact Y),p2] at j
    cases j;show decide ((d:Int)=(d:Int))=true;exact decide_eq_true rfl
   ·have M:m<xs.length:=by omega
    rw[Zc,ZR (by rw[O.len];exact M)] at j;cases j;show decide (((U.getD m 0:Nat):Int)=(d:Int))=false;refine decide_eq_false λe=>?_;have:=inj O M Y (by rw[p2];omega);omega
   ·exact⟨a,_,_,_,rfl,rfl,.of (J _ _ ha),ZA (by rw[Zb,Zf Y];rfl),k H' (Zw.refl _)⟩
  ·rw[Za,Z8] at hD
   refine⟨D,_,rfl,.inl ⟨.of hD,λl nl=>?_⟩⟩;exact q l _ (J.free nl) (J.trans (Zw.upd nl)) Zu
theorem Zmv {f:Addr}{fd:FuncData}(F:Wu K "is_match" "is_match" ZnY f fd)(T:Bl mg)(T2:Zaf mg)(n6:Fn P w K mg base Z9 3 "is_order" ["thing", "count"] ZgR)(GL:Fn P w K mg base Z9 1 "laid" ["row", "match"] ZdG):Z2 P w K mg base Z9 4 f fd ["one", "other", "thing"] ZgU:=by
 refine F.ok (FS (N:=["one", "other", "thing"])) (λvs H Q E h=>?_) (λo7 A n8 s H vs Q E hr h=>?_)
 ·obtain⟨r1,r2,x,n1,n2,z1,z2,Y,y2,o,rfl,_⟩:=h;rfl
 ·obtain⟨r1,r2,x,n1,n2,z1,z2,Y,y2,o,rfl,⟨c1,q1,f1,g1,t1⟩,⟨c2,q2,f2,g2,t2⟩,⟨l1,m6,rl,yl,_⟩,⟨_,_,_,_,n9⟩,hx,hz,q⟩:=h
  refine⟨_,Zt (Yx (Uk (ZH WG (ZB (Wa K) (vn 0) Zv (λ_ _=>rfl)) (ZB (Wa K) (vn 1) Zv (λ_ _=>rfl)) (ZI _)) (Uk (Zbr (JM (Yz n6 hr ZF (pc (vn 2) (pc (cb (Yr K) T.len (pc (ZB (Wa K) (vn 0) Zv (λ_ _=>rfl)) Zs)) Zs))))) (Uj (ZH (neC K hr.units) (Yz GL hr ZF (pc (ZB (Wa K) (vn 0) Zv (λ_ _=>rfl)) (pc (vn 2) Zs))) (ZB (Wa K) (vn 1) Zv (λ_ _=>rfl)) (ZI _))))).pt (Zx (ZE Jk)) ZT)
   (Zx (ZE (W1 (Zf5 K hr.units) (ct ZL T.tuple (pc (cb (UV hr.units) T2.sorted (pc (cmp ["row"] [2] ["row", "thing"] rfl (itT K (ZB (Wa K) (vn 0) Zv (λ_ _=>rfl))) (λ_ _ _ _ _=>gn 0) (λ_ _ _ _ _=>ZQ) (λ_ _ _ _ _=>Yz GL hr ZF (pc (vn 0) (pc (vn 1) Zs)))) Zs)) Zs)) (ZB (Wa K) (vn 1) Zv (λ_ _=>rfl)) (ZI _)))),?_⟩
  have Ja:=Ja;refine⟨_,rfl,r1,_,_,_,rfl,rfl,.of f1,rfl,_,rfl,r2,_,_,_,rfl,rfl,.of f2,rfl,rfl,_,rfl,?_⟩;refine Z1 (λh=>?_) (λh=>?_)
  ·refine q false H (Zw.refl _) ⟨λz=>(by cases z),λ⟨e,_⟩=>absurd h (by rw[e];simp)⟩
  have en:n1=n2:=by
   have:decide (V.int (n1:Int)=V.int (n2:Int))=true:=by simpa using h
   injection (of_decide_eq_true this) with e;omega
  clear h;refine⟨_,rfl,_,rfl,r1,_,_,_,rfl,rfl,.of f1,rfl,c1,_,rfl,.inr (.of g1),x,o,(z1.map nV).length,rfl,by rw[Za];exact l1,by rw[Za];exact m6,hx,λb H1 s1 hb=>?_⟩;rw[Za] at hb;refine⟨_,rfl,?_⟩;cases b with
  |false=>
   refine Z1 (λ_=>?_) (λh=>absurd rfl h);exact q false H1 s1 ⟨λz=>(by cases z),λ⟨_,J,e,O,_⟩=>hb.mpr ((XT l1).mpr ⟨J,e,O⟩)⟩
  |true=>
   refine Z1 (λh=>absurd h (by decide)) (λ_=>?_);obtain⟨J,rfl,O⟩:=(XT l1).mp (hb.mp rfl);obtain⟨a,rfl,_⟩:=hx;have ne:J.map nV≠[]:=λz=>by
    have:=congrArg a6 z;rw[Za,O.len,eG] at this;omega
   have ha:=hz a _ rfl rfl ne;refine⟨_,rfl,r1,_,_,_,rfl,rfl,.of (s1 _ _ f1),rfl,_,rfl,c1,a,z1.map nV,J,rfl,s1 _ _ g1,ha.mono s1,by rw[Za];exact O,by rw[Za];exact m6,λl H2 nl s2 h2=>?_⟩;rw[Zih (d0:=0) O] at h2;have M:=s1.trans s2;refine⟨_,rfl,r2,_,_,_,rfl,rfl,.of (M _ _ f2),rfl,_,_,Zhy h2,Zhy (M _ _ g2),Zbk _,Zbk _,_,rfl,?_⟩;rw[ZmW];by_cases U:¬WI 0 J z1=z2
   ·rw[decide_eq_false U]
    refine Z1 (λ_=>?_) (λh=>absurd rfl h);refine q false H2 M ⟨λz=>(by cases z),λ⟨_,o0,e,_,e2,_⟩=>?_⟩;injection e with e;rw[Jw e] at U;exact absurd e2 U
   have U:=Decidable.not_not.mp U;rw[decide_eq_true U];refine Z1 (λh=>absurd h (by decide)) (λ_=>?_);obtain⟨cs,d1,d2,d3⟩:=id t1;refine⟨_,rfl,r1,_,_,_,rfl,rfl,.of (M _ _ f1),rfl,q1,rfl,⟨_,.of (M _ _ d1)⟩,?_⟩;refine Y7 (W:=Addr) id (λi w H=>RowT H w (WI [] J (Y.getD i []))) (λ_ _=>True) (YM (K:=K) (.of (M _ _ d1))) [some (.ref a)] rfl (by rw[Za,d2];omega) (λi w H H' s h=>h.mono s) (λ_ _ _ _ _=>trivial) (λi w H0 H1 D o ys o8 h _ _ h2=>Zfy h h2) (λi y hy H3 s3 R k=>?_) (λD ws H3 nD s3 hD wl hw _=>?_)
   ·obtain⟨c,hc,rfl⟩:=Ve hy
    obtain⟨ys,e1,RT⟩:=d3 i c hc;have ly:=rl ys (av e1);obtain⟨m7,u1,u2,u3⟩:=RT.mono (M.trans s3);have O':Ord m7.length J:=by rw[u2,ly];exact O
    refine⟨_,rfl,_,rfl,c,a,_,J,rfl,u1,(ha.mono M).mono s3,by rw[Za];exact O',by rw[Za,u2,ly];exact m6,λl H4 nl s4 h4=>k l H4 s4 ?_ trivial⟩;rw[Zih (d0:=0) O'] at h4;have ey:Y.getD i []=ys:=by rw[Zb,e1];rfl
    rw[ey];refine⟨_,h4,by rw[UC,UC,u2],λj d hd=>?_⟩;have hj:j<m7.length:=by
     have:=(ac.mp hd).1;rw[UC] at this;exact this
    unfold WI at hd ⊢;rw[Zc,ai hj] at hd;cases hd;have hp:=(Yb O' hj).1;obtain⟨yy,w1,w2⟩:=u3 (pos J j) (m7.getD (pos J j) 0) (ZR hp);refine⟨yy,?_,s4 _ _ w2⟩;rw[Zc,ai (by omega)];show some (ys.getD (pos J j) [])=_;rw[Zb,w1];rfl
   ·rw[Za,d2] at wl
    have m9:∀(i:Nat) (c:Addr),ws[i]?=some c->∃ys,(Y.map (WI [] J))[i]?=some ys/\ys≠[]/\RowT H3 c ys:=λi c hi=>by
     have m5:i<Y.length:=by rw[<-wl];exact (ac.mp hi).1
     refine⟨WI [] J (Y.getD i []),by rw[Zc,Zf m5,Zb,Zf m5];rfl,λz=>?_,(hw i c hi).1⟩;have:=congrArg a6 z;rw[UC,rl _ (by rw[Zb,Zf m5];exact bh m5),eG] at this;omega
    refine⟨D,ws,Y.map (WI [] J),rfl,.inl hD,by rw[Za];exact wl,by omega,m9,λDs js o5 pm pj=>?_⟩;refine⟨Ds,_,rfl,.inl ⟨.of Zu,λl4 o6=>?_⟩⟩;have s4:=(Zw.upd (o:=.lst ((js.map λi=>ws.getD i 0).map V.ref)) o5).trans (Zw.upd (o:=.tup ((js.map λi=>ws.getD i 0).map V.ref)) o6);have h4:=Zu (H:=upd H3 Ds (.lst ((js.map λi=>ws.getD i 0).map V.ref))) (a:=l4) (o:=.tup ((js.map λi=>ws.getD i 0).map V.ref));generalize upd (upd H3 Ds (.lst ((js.map λi=>ws.getD i 0).map V.ref))) l4 (.tup ((js.map λi=>ws.getD i 0).map V.ref))=H4 at s4 h4 ⊢;have m8:=(M.trans s3).trans s4;have A4:Zdo H4 l4 (js.map λi=>(Y.map (WI [] J)).getD i []):=by
     refine⟨_,h4,by rw[Za,Za],λi d hd=>?_⟩;rw[Zc] at hd;cases ej:js[i]? with
     |none=>rw[ej] at hd;cases hd
     |some k=>
      rw[ej] at hd;cases hd;have hk:k<ws.length:=af.mp (pm.mem_iff.mp (av ej));obtain⟨ys,e1,_,e2⟩:=m9 k _ (ZR hk);refine⟨_,by rw[Zc,ej];rfl,?_⟩;show RowT H4 _ ((Y.map (WI [] J)).getD k []);rw[Zb,e1];exact e2.mono s4
    refine⟨_,rfl,r2,_,_,_,rfl,rfl,.of (m8 _ _ f2),rfl,_,_,ZaX A4,ZaX (t2.mono m8),VM _,VM _,q _ H4 m8 ?_⟩;rw[ZkI];have pz:(js.map λi=>(Y.map (WI [] J)).getD i []).Perm (Y.map (WI [] J)):=by
     have h:=pm.map λi=>(Y.map (WI [] J)).getD i [];refine h.trans (lN (aY λi=>?_));rw[Zc];by_cases hi:i<ws.length
     ·rw[ai hi,Zf (by rw[Za];omega)]
      show some ((Y.map (WI [] J)).getD i [])=_;rw[Zb,Zf (by rw[Za];omega)];rfl
     ·rw[ag (by rw[Zg];omega),ag (by rw[Za];omega)]
      rfl
    constructor
    ·intro e
     rw[e] at pz;exact⟨en,J,rfl,O,U,pz.symm⟩
    ·rintro⟨_,o0,e,_,_,p2⟩
     injection e with e;rw[<-Jw e] at p2;exact ZgJ (pz.trans p2) pj n9
end
end C55
namespace PyZ
open PySem PySem.Spec PyProof.Rows
variable {prog:Program}{w:World}{A:Around}{E:TU}{s:Shared}
theorem Zbe {l:Addr}{vs:List Value}{ns:TV}{Q:TU}(O:lf s.heap l vs.toArray)(U:bB vs ns)(M:vs.length<64)
  (h:∀(out:Array Value) (j:TV),bB out.toList j->j.Perm ns->j.Pairwise (· ≤ ·)->Q (.ref (s.heap.objs.size+1)) {s with heap:=sortedAll s.heap vs out}) :
  wpAny (model prog w) A (call (.builtin "sorted") [.ref l]) Q E s:=by
 have Ja:sizeLine=16777216:=by decide
 refine eL kh jP jQ (jR _) ?_;unfold cB.«sorted»;refine Zl (m:=checkCount "sorted" 1 1 _) (Zm ?_);refine Zl (JR O (by omega) ?_);refine Zl (fP ?_);have q:((s.heap.push (seqObj "list" #[] 0)).update s.heap.objs.size (a7 (· ++ vs.toArray))).objs.size=s.heap.objs.size+1:=by
  rw[fo,kU]
 have J:(((s.heap.push (seqObj "list" #[] 0)).update s.heap.objs.size (a7 (· ++ vs.toArray))).push (seqObj "list" vs.toArray 0)).get? (s.heap.objs.size+1)=some (seqObj "list" vs.toArray 0):=by
  rw[<-q];exact Zo _ rfl
 show wpAny _ _ _ _ _ {s with heap:=((s.heap.push (seqObj "list" #[] 0)).update s.heap.objs.size (a7 (· ++ vs.toArray))).push (seqObj "list" vs.toArray 0)};rw[q];refine Zl (bZ (bm i6 ⟨_,J,rfl⟩ iN (list_sort_tree J U M λout j Y a2 a3=>⟨_,rfl,?_⟩) (i7 _)));exact Zm ⟨_,rfl,h out j Y a2 a3⟩
end PyZ
namespace L2
open PySem PySem.Spec PyProof.Rows
section
variable {X:Cx}
inductive I_call_sortIT (K:aa) (xs:TL) (H:Hp) (Q:VK):Prop
 |mk (a:Addr) (ns:TV):(xs=[.ref a])->(Xw K H a (ns.map V.int))->(ns.length<64)->(∀l ns',H l=none->bJ ns' ns->ns'.Pairwise (· ≤ ·)->Q (.ref l) (upd H l (.lst (ns'.map V.int))))->I_call_sortIT K xs H Q
theorem Zdl (K:aa)(hK:X.K=K:=by rfl):Yd X (.builtin "sorted") (_root_.L2.I_call_sortIT K):=by
 subst hK;intro O s σ H xs us Q I r h;obtain⟨a,ns,rfl,hq,m5,q⟩:=h;obtain⟨u,rfl,ru⟩:=vals1 r;cases ru;obtain⟨j,Y,p,hz⟩:=I.tuple hq;have hl:j.length=ns.length:=by rw[<-Y.length,Za]
 have Ja:=Ja;refine PyZ.Zbe p (ns:=ns) (VS Y) (by omega) λout J h1 h2 h3=>?_;obtain⟨e1,he⟩:=sortedAll_at s.heap j out;have U:∀b o,s.heap.get? b=some o->(sortedAll s.heap j out).get? b=some o:=λb o e=>sortedAll_old e;generalize sortedAll s.heap j out=h' at he U ⊢;have M:s.heap.objs.size<=s.heap.objs.size+1:=fH _;generalize s.heap.objs.size+1=D at he M ⊢;have fin:=q D J (I.hok.fresh M) h2 h3;have I':Inv X O σ (upd H D (.lst (J.map V.int))) {s with heap:=h',toks:=s.toks}:=I.laid (a:=D) (o:=.lst (J.map V.int)) (t':=s.toks) U M ⟨by rw[Za,h2.length_eq];omega,out.toList,e1,ZaT h1,by simpa using he⟩;exact⟨.ref D,_,I',rfl,fin⟩
end
end L2
namespace PyZ
open PySem PySem.Spec PyProof.Rows MeetsSeq SeqAt
theorem U7 (l:Addr)(items:Array Value)(n:Nat)(x:Value)(e:Value->Bool)(j:Nat)(hj:j<items.size)(m5:e items[j]=true)(k:Nat)(U:items.size<=sizeLine) :
  ∀i:Nat,j-i=k->i<=j->(∀m (hm:m<items.size),i<=m->m<j->e items[m]=false)->Meets (cB.«list.remove.loop» ⟨[.ref l,x,rawInt i],[]⟩)
   (λA R s=>s.heap.get? l=some {cls:=.type "list",dict:=none,data:=.seq items n,slots:=#[]}/\(∀y,y∈items->j5 A.in1 s y x (e y))/\R (.ok (.ret .none)) {s with heap:=s.heap.update l (a7 λxs=>xs.eraseIdxIfInBounds j)}):=by
 induction k with
 |zero=>
  intro i hk m6 J q w A R s h;obtain⟨hp,g,d,tk,os⟩:=s;obtain⟨O,he,h⟩:=h;have Y:i=j:=by omega
  subst Y
  wp_walk using wpAny_loadPart' O
  have hi:items[((i:Nat):Int).toNat]?=some items[i]:=by simp[hj]
  rw[hi];refine Zl (he _ (i8 hj) q w _ _ ?_);rw[m5];have m7:(items.eraseIdxIfInBounds i).size<=sizeLine+1:=aW (size_erased items _) (Nat.le_succ_of_le U)
  wp_walk using (kq O rfl (hz:=U) (_hz':=m7)),wpAny_loadPart' O
  simpa using h
 |succ k ih=>
  intro i hk m6 J q w A R s h;obtain⟨hp,g,d,tk,os⟩:=s;obtain⟨O,he,h⟩:=h;have M:i<items.size:=by omega
  wp_walk using wpAny_loadPart' O
  have hi:items[((i:Nat):Int).toNat]?=some items[i]:=by simp[M]
  have hc:((i:Int)+1)=((i+1:Nat):Int):=by push_cast;rfl
  rw[hi];refine Zl (he _ (i8 M) q w _ _ ?_);rw[J i M (Zq _) (by omega)]
  wp_walk
  rw[hc];exact⟨cW g8 _,bv entry_remove_loop (by
   rw[bw g8 _];exact ih (i+1) (by omega) (by omega) (λm hm h1 h2=>J m hm (by omega) h2) q w A R _ ⟨O,he,h⟩)⟩
theorem U8 (l:Addr)(items:Array Value)(n:Nat)(x:Value)(e:Value->Bool)(j:Nat)(hj:j<items.size)
  (J:e items[j]=true) (M:∀m (U:m<items.size),m<j->e items[m]=false) (O:items.size<=sizeLine) :
  Meets (cB.«list.remove» ⟨[.ref l,x],[]⟩)
   (λA R s=>s.heap.get? l=some {cls:=.type "list",dict:=none,data:=.seq items n,slots:=#[]}/\(∀y,y∈items->j5 A.in1 s y x (e y))/\R (.ok (.ret .none)) {s with heap:=s.heap.update l (a7 λxs=>xs.eraseIdxIfInBounds j)}):=by
 intro q w A R s h;obtain⟨hp,g,d,tk,os⟩:=s;obtain⟨Y,he,h⟩:=h
 wp_walk using wpAny_loadPart' Y
 exact⟨cW g8 _,bv entry_remove_loop (by
  rw[bw g8 _];exact U7 l items n x e j hj J _ O 0 rfl (aU _) (λm U _ h2=>M m U h2) q w A R _ ⟨Y,he,h⟩)⟩
end PyZ
namespace L2
open PySem PySem.Spec PyProof.Rows
section
variable {X:Cx}
inductive ZhD (K:aa) (x:V) (vs:TL) (H:Hp) (Q:VK):Prop
 |mk (p:_) (xs:_) (ds:_) (dy:_) (y:_) (j:Nat):(x=.ref p)->(vs=[y])->(H p=some (.lst xs))->(Wf K H xs ds)->(Vs K H y dy)->(ba ds=true)->(dy.canLay0=true)->(dy.depth<=60)->(j<ds.length)->((∀d,ds[j]?=some d->d.eqv dy=true))->((∀m d,m<j->ds[m]?=some d->d.eqv dy=false))->(Q .non (upd H p (.lst (xs.eraseIdx j))))->ZhD K x vs H Q
theorem Zd2 (hu:X.A.units+64<cLine):MtM X "list.remove" (ZhD X.K):=by
 intro m6 s σ H x vs v us Q I rx rv h;obtain⟨p,xs,ds,dy,y,j,rfl,rfl,hp,hs,hd,c1,c2,dp,hj,h1,h2,q⟩:=h;cases rx;obtain⟨u,rfl,ru⟩:=rv.one;obtain⟨z,J,n,r,hl,e⟩:=I.lstM hp;obtain⟨bs,r1⟩:=I.reads hd ru;obtain⟨as,ra⟩:=I.readsAll hs r;have hm:=lW ds J as c1 ra;have hlen:J.length=ds.length:=by rw[<-hm,Za]
 have M:∀(m:Nat) (U:m<J.toArray.size),ds[m]?=some (iY s.heap J.toArray[m]):=λm U=>by
  have Y:m<J.length:=by simpa using U
  rw[<-hm,Zc,Zf Y];simp
 have O:j<J.toArray.size:=by rw[Zh,hlen];exact hj
 refine gL kP ⟨_,e,rfl⟩ F.entry_list_remove (F.args_list_remove_2 _ _) (PyZ.U8 p J.toArray n u (λy=>(iY s.heap y).eqv dy) j O (h1 _ (M j O)) (λm U m5=>h2 m _ m5 (M m U)) (by rw[Zh];omega)) ⟨e,mC (by simpa using ra) r1 c1 c2 (by omega),?_⟩;refine⟨.non,_,I.lset (its':=J.eraseIdx j) hp e ?_ (r.eraseIdx j) ?_,rfl,q⟩
 ·show J.toArray.eraseIdxIfInBounds j=(J.eraseIdx j).toArray
  rw[List.eraseIdxIfInBounds_toArray]
 ·have:=ZaA xs j
  omega
theorem Zof (K:aa)(j:X.A.units+64<cLine)(q:X.K=K:=by rfl):MtM X "list.remove" (ZhD K):=q▸Zd2 j
end
end L2
namespace C55
open PySem L2 PySem.Spec PyProof.Rows
open Tb Pm
noncomputable abbrev ZnW:Stmt:=top 50
noncomputable abbrev ZnX:Stmt:=top 51
def dL (ns:TV):cP:=.list (ns.map aI)
theorem ZpW (a b:TV):c7 (dL a) (dL b)=decide (a=b):=iC a b
theorem Zcj (ns:TV):bq (dL ns)=true:=by
 have j:ba (ns.map aI)=true:=Wd ns;have q:aV (ns.map aI)=0:=by
  induction ns with
  |nil=>rfl
  |cons n ns J=>
   rw[aB,aV,J (Wd ns)];rfl
 unfold bq;have M:(dL ns).canLay0=true:=j;have O:(dL ns).depth<=60:=by
  unfold dL;rw[bU,q];decide
 simp only[M,dG,bV,decide_eq_true_eq];omega
theorem Zin:∀{xs:TL},(∀y∈xs,isN y=true)->∃j:TV,xs=j.map V.int
 | [],_=>⟨[],rfl⟩
 |x::r,h=>by
  obtain⟨j,e⟩:=Zin λy q=>h y (aE _ q);have J:=h x aA;cases x with
  |int z=>exact⟨z::j,by rw[e];rfl⟩
  |_=>cases J
theorem Ze6 {a b:TV}(h:a.map V.int=b.map V.int):a=b:=by
 have:=congrArg (gU λv:V=>match v with | .int z=>z|_=>0) h
 rw[aC,aC] at this;have i:∀l:TV,l.map ((λv:V=>match v with | .int z=>z|_=>0) ∘ V.int)=l:=λl=>by
  conv=>rhs;rw[<-lM l]
  rfl
 rwa [i,i] at this
theorem Zkr {c:Nat}{zs j:TV}(c1:1<=c)(hl:zs.length=c)(M:j.Perm zs)(hs:j.Pairwise (· ≤ ·)):(j=YC 0 c/\zs.getD 0 1=0)↔ZhO c (some (zs.map V.int)):=by
 have U:YC 0 c=(ae c).map λk:Nat=>(k:Int):=by
  unfold YC;exact aQ λk _=>dA _
 constructor
 ·rintro⟨e,h0⟩
  rw[e,U] at M;have Y:∀z,z∈zs↔∃k:Nat,k<c/\z=(k:Int):=λz=>by
   rw[<-M.mem_iff,az];exact⟨λ⟨k,q,e⟩=>⟨k,af.mp q,e.symm⟩,λ⟨k,q,e⟩=>⟨k,af.mpr q,e.symm⟩⟩
  have ez:zs=YK (zs.map Int.toNat):=by
   unfold YK;rw[aC]
   conv=>lhs;rw[<-lM zs]
   refine aQ λz hz=>?_;obtain⟨k,_,rfl⟩:=(Y z).mp hz;rfl
  refine⟨zs.map Int.toNat,by rw[<-Vo,<-ez],by rw[Za,hl],λg hg=>?_,λk q=>?_,?_⟩
  ·obtain⟨z,hz,rfl⟩:=az.mp hg
   obtain⟨k,q,rfl⟩:=(Y z).mp hz;exact q
  ·exact az.mpr ⟨k,(Y k).mpr ⟨k,q,rfl⟩,rfl⟩
  ·cases zs with
   |nil=>simp at hl;omega
   |cons z zs=>
    have h0:z=0:=h0;rw[h0];rfl
 ·rintro⟨gs,e,h1,h2,h3,J⟩
  injection e with e;rw[<-Vo] at e;have e:zs=YK gs:=Ze6 e;subst e;have O:=Zbv c1 h1 h2 h3 J;have p2:j.Perm (YC 0 c):=by
   rw[U];exact M.trans ((VQ O.nd h2 h1).map _)
  refine⟨jz (le:=λa b:Int=>a<=b) (λa b _ _ x y=>by omega) hs ?_ p2,?_⟩
  ·rw[U,eY]
   refine eZ.imp λh=>?_;omega
  ·cases gs with
   |nil=>simp at h1;omega
   |cons g gs=>
    have J:g=0:=J;rw[J];rfl
def dLN (ns:TY):cP:=.list (ns.map λk:Nat=>aI (k:Int))
def dLI (ys:TZ):cP:=.list (ys.map λj=>c6 (j.map aI))
theorem Zow (a b:TY):c7 (dLN a) (dLN b)=decide (a=b):=ZmW a b
theorem Zci (ns:TY):bq (dLN ns)=true:=by
 have:=Zbk ns;unfold bq at this ⊢;exact this
theorem ZiG {a b:TZ}:(dTI a).eqv (dTI b)=decide (a=b):=by
 by_cases h:a=b
 ·rw[decide_eq_true h,h]
  exact jN _ (Wz b)
 ·rw[decide_eq_false h]
  cases e:(dTI a).eqv (dTI b) with
  |false=>rfl
  |true=>exact absurd (Zfd e) h
theorem Zox (a b:TZ):c7 (dLI a) (dLI b)=decide (a=b):=ZiG (a:=a) (b:=b)
theorem ZoC (ys:TZ):(dTI ys).depth<=10:=by
 have:=(XX [ys]).2;rw[aB,aV] at this;omega
theorem Zch (ys:TZ):bq (dLI ys)=true:=by
 have j:(dLI ys).canLay0=true:=Wz ys;have q:(dLI ys).depth<=10:=ZoC ys;unfold bq;simp only[j,dG,bV,decide_eq_true_eq];omega
theorem ZeL:∀{a b:TN},a.map V.ref=b.map V.ref->a=b
 | [],[],_=>rfl
 | [],_::_,h=>by cases h
 |_::_,[],h=>by cases h
 |x::a,y::b,h=>by
  rw[aB,aB] at h;injection h with j q;injection j with j;rw[j,ZeL q]
theorem Zaq {H:Hp}{c:Addr}{ys J:TZ}(h:RowT H c ys)(h':RowT H c J):ys=J:=by
 obtain⟨U,Y,h2,h3⟩:=h;obtain⟨ds,q,k2,k3⟩:=h';rw[Y] at q;injection q with q;injection q with q;have e:=ZeL q;subst e;refine aY λi=>?_;cases M:U[i]? with
 |none=>
  rw[ag (by rw[<-h2];exact cK.mp M),ag (by rw[<-k2];exact cK.mp M)]
 |some d=>
  obtain⟨y,e1,e2⟩:=h3 i d M;obtain⟨y',O,j⟩:=k3 i d M;rw[e2] at j;injection j with j;injection j with j;rw[e1,O,Ze6 j]
theorem ZbH {α:Type}{d0:α}{j:TY}{xs ys:List α}(O:Ord xs.length j)(hl:ys.length=xs.length):WI d0 j xs=ys↔(ae xs.length).map (λk=>ys.getD (j.getD k 0) d0)=xs:=by
 have Y:∀k,k<xs.length->j.getD k 0<xs.length:=λk hk=>Ym O hk;constructor
 ·rintro rfl
  refine aY λi=>?_;rw[Zc];by_cases q:i<xs.length
  ·rw[ai q,Zf q]
   have M:=Y i q;show some ((WI d0 j xs).getD (j.getD i 0) d0)=_;unfold WI;rw[Zb,Zc,ai M];obtain⟨J,p2⟩:=Yb O M;have e:pos j (j.getD i 0)=i:=inj O J q (by rw[p2]);show some (xs.getD (pos j (j.getD i 0)) d0)=_;rw[e,Zb,Zf q];rfl
  ·rw[ag (by rw[Zg];omega),ag (by omega)]
   rfl
 ·intro h
  refine aY λd=>?_;unfold WI;rw[Zc];by_cases U:d<xs.length
  ·rw[ai U]
   obtain⟨J,p2⟩:=Yb O U;show some (xs.getD (pos j d) d0)=_;rw[<-h,Zb,Zc,ai (by exact J),Zf (by omega)];show some (ys.getD (j.getD (pos j d) 0) d0)=_;rw[p2,Zb,Zf (by omega)];rfl
  ·rw[ag (by rw[Zg];omega),ag (by omega)]
   rfl
inductive ZgT (vs:TL) (H:Hp) (Q:VK) (E03:XK):Prop
 |mk (r1 r2:Addr) (x:V) (n1 n2:Nat) (z1 z2:TY) (y1 y2:X0) (o:Option TL):(vs=[.ref r1,.ref r2,x])->(FrA H r1 n1 z1 y1)->(FrA H r2 n2 z2 y2)->(FrP z1 y1)->(FrP z2 y2)->(Tg H x o)->(∀b H',Zw H H'->(b=true↔Zku n1 n2 z1 z2 y1 y2 o)->Q (.bl b) H')->ZgT vs H Q E03
inductive ZgS (vs:TL) (H:Hp) (Q:VK) (E03:XK):Prop
 |mk (x:V) (o:Option TL) (c:Nat):(vs=[.int (c:Nat),x])->(1<=c)->(c<=60)->(Tg H x o)->(∀b H',Zw H H'->(b=true↔ZhO c o)->Q (.bl b) H')->ZgS vs H Q E03
section
variable {P:Program}{w:World}{K:aa}{mg:TR}{base:Heap}
theorem Zmt {f:Addr}{fd:FuncData}(F:Wu K "_law_is_laying" "_law_is_laying" ZnW f fd)(T:Bl mg)(T2:Zaf mg):Z2 P w K mg base Z9 1 f fd ["_law_many", "_law_thing"] ZgS:=by
 refine F.ok (FS (N:=["_law_many", "_law_thing", "_law_one"])) (λvs H Q E h=>?_) (λn8 A m7 s H vs Q E hr h=>?_)
 ·obtain⟨x,o,c,rfl,_⟩:=h;rfl
 ·obtain⟨x,o,c,rfl,c1,n9,hx,q⟩:=h
  refine⟨_,Zt (Yx (Uk (Zbr (JM (cb (Zoj K) T.isi (pc (vn 1) (pc (tyv "tuple" T.tuple) Zs))))) (Uj (ZH WG (cb (Yr K) T.len (pc (vn 1) Zs)) (vn 0) (ZI _)))).pt (Zx (ZE Jk)) ZT)
   (Zt (ZV ao rfl (itT K (vn 1)) (gn 2)
   (Zx (Yx (Uk (Zbr (JM (cb (Zik K "int") T.isi (pc (vn 2) (pc (tyv "int" T.int) Zs))))) (Uj (JM (cb (Zik K "bool") T.isi (pc (vn 2) (pc (tyv "bool" T.bool) Zs)))))).pt (Zx (ZE Jk)) ZT)))
   (Zx (ZE (Xm (W1 (Zf5 K hr.units) (cb (Zdl K) T2.sorted (pc (vn 1) Zs)) (ct (Xj rfl) T.list (pc (ct JU T.range (pc (vn 0) Zs)) Zs)) (ZI _)) (Ur (W1 WH (ZB (Wa K) (vn 1) Zv (λ_ _=>rfl)) Zv (ZI _))))))),?_⟩
  have Ja:=Ja;have no:∀J,Zw H J->¬ZhO c o->Q (.bl false) J:=λJ s h=>q false J s ⟨λz=>(by cases z),λz=>absurd z h⟩;cases o with
  |none=>
   obtain⟨n,hk,e⟩:=Tg.kd (K:=K) hx;refine⟨_,rfl,.inr ⟨_,n,rfl,hk,_,rfl,?_⟩⟩;rw[e];exact ZmP rfl (no H (Zw.refl H) λ⟨_,e,_⟩=>by cases e)
  |some xs=>
   obtain⟨a,rfl,ha,hl,he⟩:=hx;refine⟨_,rfl,.inl ⟨a,_,rfl,ha,_,rfl,Zd8 (by decide) ?_⟩⟩;refine⟨_,rfl,a,_,rfl,.inr ha.sq,_,rfl,rfl,_,rfl,Z1 (λh=>?_) (λh=>?_)⟩
   ·refine no H (Zw.refl H) λ⟨gs,e,M,_⟩=>?_
    injection e with e;rw[e,Za,M] at h;exact absurd h (by simp)
   have lc:xs.length=c:=by
    have:decide (V.int (xs.length:Int)=V.int (c:Int))=true:=by simpa using h
    injection (of_decide_eq_true this) with e;omega
   refine⟨_,rfl,a,rfl,⟨_,ha.sq⟩,?_⟩;refine W5 (H0:=H) (YM (K:=K) ha.sq) (λi O J=>∃v:TK,O=[some (.int (c:Nat)),some (.ref a),v]/\J=H/\∀y∈xs.take i,isN y=true) ⟨_,rfl,rfl,λy hy=>by cases hy⟩ (λi O J ⟨_,_,e,_⟩=>e▸Zw.refl _) (λi y O J hy ⟨v,e,e2,hi⟩=>?_) (λO J ⟨v,e,e2,hi⟩=>?_)
   ·subst e e2
    have m8:=he y (av hy);obtain⟨n,hk,en⟩:=m8.kd (K:=K);have m6:isN y=false->Q (.bl false) J:=λe=>no J (Zw.refl _) λ⟨gs,e1,_⟩=>by
     injection e1 with e1;have hm:=av hy;rw[e1] at hm;obtain⟨k,_,rfl⟩:=az.mp hm;cases e
    refine⟨_,rfl,_,n,rfl,hk,_,rfl,Z1 (λM=>?_) (λM=>?_)⟩
    ·refine m6 ?_
     have M:U9 n "int"=false:=by simpa using M
     rw[<-en,M];rfl
    ·have M:U9 n "int"=true:=by simpa using M
     rw[M,dG] at en;refine⟨_,rfl,_,n,rfl,hk,_,rfl,Z1 (λY=>?_) (λY=>?_)⟩
     ·refine m6 ?_
      rw[<-en,Y];rfl
     ·have Y:U9 n "bool"=false:=by simpa using Y
      rw[Y] at en;refine⟨_,rfl,rfl,λz hz=>?_⟩;rw[cx,hy] at hz;rcases bu.mp hz with hz|hz
      ·exact hi z hz
      ·rw[aM.mp hz]
       exact en.symm
   ·subst e e2
    rw[cD] at hi;obtain⟨zs,rfl⟩:=Zin hi;rw[Za] at lc;refine⟨_,rfl,a,zs,rfl,ha.sq,by omega,λl U nl hp hs=>?_⟩;have s1:=Zw.upd (H:=J) (o:=.lst (U.map V.int)) nl;have M:=Zu (H:=J) (a:=l) (o:=.lst (U.map V.int));generalize upd J l (.lst (U.map V.int))=H1 at s1 M ⊢;refine⟨_,rfl,_,rfl,λr0 m9=>⟨r0,0,_,rfl,Zu,⟨by omega,by omega,by omega,by omega⟩,by omega,λl2 n6=>?_⟩⟩;rw[show ((c:Int)-0).toNat=c by omega];have s2:=(Zw.upd (H:=H1) (o:=.rng 0 (c:Int)) m9).trans (Zw.upd (o:=.lst ((YC 0 c).map V.int)) n6);have Y:=Zu (H:=upd H1 r0 (.rng 0 (c:Int))) (a:=l2) (o:=.lst ((YC 0 c).map V.int));generalize upd (upd H1 r0 (.rng 0 (c:Int))) l2 (.lst ((YC 0 c).map V.int))=H2 at s2 Y ⊢;have m5:=s1.trans s2;refine⟨_,_,.lst (.of (s2 _ _ M)) (Wf.ints _),.lst (.of Y) (Wf.ints _),Zcj _,Zcj _,_,rfl,?_⟩;have L:=Zkr c1 lc hp hs;have ev:=ZpW U (YC 0 c);unfold dL at ev;rw[ev];refine Z1 (λh3=>?_) (λh3=>?_)
    ·obtain⟨z0,zr,rfl⟩:∃z0 zr,zs=z0::zr:=by
      cases zs with
      |nil=>simp at lc;omega
      |cons z0 zr=>exact⟨z0,zr,rfl⟩
     refine⟨_,rfl,a,_,0,.int z0,rfl,rfl,(ha.mono m5).sq,ZA (j:=0) rfl,rfl,q _ _ m5 ?_⟩;rw[<-L,decide_eq_true_iff];have h3:=of_decide_eq_true h3;constructor
     ·intro e
      injection e with e;exact⟨h3,e⟩
     ·rintro⟨_,e⟩
      have e:z0=0:=e;rw[e]
    ·exact no H2 m5 λz=>h3 (decide_eq_true (L.mpr z).1)
theorem Zms {f:Addr}{fd:FuncData}(F:Wu K "_law_is_match" "_law_is_match" ZnX f fd)(T:Bl mg)(T2:Zaf mg)(r8:Fn P w K mg base Z9 1 "_law_is_laying" ["_law_many", "_law_thing"] ZgS):Z2 P w K mg base Z9 2 f fd ["_law_one", "_law_other", "_law_thing"] ZgT:=by
 refine F.ok (FS (N:=["_law_one", "_law_other", "_law_thing", "_law_left", "_law_row", "_law_some"])) (λvs H Q E h=>?_) (λcdv A r9 s H vs Q E hr h=>?_)
 ·obtain⟨r1,r2,x,n1,n2,U,z2,y1,y2,o,rfl,_⟩:=h;rfl
 ·obtain⟨r1,r2,x,n1,n2,U,z2,y1,y2,o,rfl,⟨c1,q1,f1,g1,t1⟩,⟨c2,q2,f2,g2,t2⟩,⟨l1,t0,rl,yl,_⟩,⟨_,_,t6,yl2,_⟩,hx,q⟩:=h
  refine⟨_,Zt (Yx (Uk (ZH WG (ZB (Wa K) (vn 0) Zv (λ_ _=>rfl)) (ZB (Wa K) (vn 1) Zv (λ_ _=>rfl)) (ZI _)) (Uk (ZH WG (cb (Yr K) T.len (pc (ZB (Wa K) (vn 0) Zv (λ_ _=>rfl)) Zs)) (cb (Yr K) T.len (pc (ZB (Wa K) (vn 1) Zv (λ_ _=>rfl)) Zs)) (ZI _)) (Uj (Zbr (JM (Yz r8 hr ZF (pc (cb (Yr K) T.len (pc (ZB (Wa K) (vn 0) Zv (λ_ _=>rfl)) Zs)) (pc (vn 2) Zs)))))))).pt (Zx (ZE Jk)) ZT)
   (Zt (Yx (ZH (neC K hr.units) (cmp ["_law_k"] [0] ["_law_k", "_law_one"] rfl (J9 T.range (pc (cb (Yr K) T.len (pc (vn 2) Zs)) Zs)) (λ_ _ _ _ _=>gn 0) (λ_ _ _ _ _=>ZQ) (λ_ _ _ _ _=>ZB (Wa K) (ZB (Wa K) (vn 1) Zv (λ_ _=>rfl)) (vn 0) (λ_ _=>rfl))) (cmp ["_law_d"] [1] ["_law_d", "_law_other"] rfl (itT K (vn 2)) (λ_ _ _ _ _=>gn 0) (λ_ _ _ _ _=>ZQ) (λ_ _ _ _ _=>ZB (Wa K) (ZB (Wa K) (vn 1) Zv (λ_ _=>rfl)) (vn 0) (λ_ _=>rfl))) (ZI _)) (Zx (ZE Jk)) ZT)
   (Zt (ZG 3 rfl (ct (lstK K) T.list (pc (ZB (Wa K) (vn 1) Zv (λ_ _=>rfl)) Zs)))
   (Zt (ZV ao rfl (itT K (ZB (Wa K) (vn 0) Zv (λ_ _=>rfl))) (gnf 4 rfl)
   (Zt (Zg3 5 ["_law_line"] [2,4] ["_law_line", "_law_thing", "_law_row"] rfl rfl (itL K (vn 3)) (λ_ _ _ _ _=>gnf 0 rfl) (λ_ _ _ _ _=>ZjO (ZH (Zf5 K hr.units) (cmp ["_law_d"] [0] ["_law_d", "_law_line"] rfl (itT K (vn 1)) (λ_ _ _ _ _=>gn 0) (λ_ _ _ _ _=>ZQ) (λ_ _ _ _ _=>ZB (Wa K) (vn 1) (vn 0) (λ_ _=>rfl))) (ct (lstK K) (by exact T.list) (pc (vn 2) Zs)) (ZI _))) (λ_ _ _ _ _=>vn 0))
   (Zt (Yx (ZH (Zf5 K hr.units) (vn 5) (ZK Zs) (ZI _)) (Zx (ZE Jk)) ZT)
   (Zx (Yq (Wh aG kP PySem.F.type_list_remove (Zof K hr.units) (vn 3) (pc (ZB (WB K) (vn 5) Zv (λ_ _=>rfl)) Zs)))))))
   (Zx (ZE (W1 (Zf5 K hr.units) (vn 3) (ZK Zs) (ZI _))))))),?_⟩
  have Ja:=Ja;have no:∀Y,Zw H Y->¬Zku n1 n2 U z2 y1 y2 o->Q (.bl false) Y:=λY s h=>q false Y s ⟨λz=>(by cases z),λz=>absurd z h⟩;refine⟨_,rfl,r1,_,_,_,rfl,rfl,.of f1,rfl,_,rfl,r2,_,_,_,rfl,rfl,.of f2,rfl,rfl,_,rfl,?_⟩;refine Z1 (λh=>?_) (λh=>?_)
  ·exact no H (Zw.refl _) λ⟨e,_⟩=>absurd h (by rw[e];simp)
  have en:n1=n2:=by
   have:decide (V.int (n1:Int)=V.int (n2:Int))=true:=by simpa using h
   injection (of_decide_eq_true this) with e;omega
  clear h;refine⟨_,rfl,r1,_,_,_,rfl,rfl,.of f1,rfl,c1,_,rfl,.inr (.of g1),_,rfl,r2,_,_,_,rfl,rfl,.of f2,rfl,c2,_,rfl,.inr (.of g2),rfl,_,rfl,?_⟩;rw[Za,Za];refine Z1 (λh=>?_) (λh=>?_)
  ·exact no H (Zw.refl _) λ⟨_,M,_,_,e,_⟩=>absurd h (by rw[<-e,UC];simp)
  have el:U.length=z2.length:=by
   have:decide (V.int (U.length:Int)=V.int (z2.length:Int))=true:=by simpa using h
   injection (of_decide_eq_true this) with e;omega
  clear h;refine⟨_,rfl,r1,_,_,_,rfl,rfl,.of f1,rfl,c1,_,rfl,.inr (.of g1),_,rfl,x,o,U.length,by rw[Za];rfl,l1,t0,hx,λb H1 s1 hb=>?_⟩;refine⟨_,rfl,?_⟩;cases b with
  |false=>
   refine Z1 (λ_=>?_) (λh=>absurd rfl h);exact no H1 s1 λ⟨_,M,e,O,_⟩=>absurd (hb.mpr ((XT l1).mpr ⟨M,e,O⟩)) (by decide)
  |true=>
   refine Z1 (λh=>absurd h (by decide)) (λ_=>?_);obtain⟨M,rfl,O⟩:=(XT l1).mp (hb.mp rfl);obtain⟨a,rfl,ha,_⟩:=hx;have gl:∀k,k<U.length->(M.map nV)[k]?=some (nV (M.getD k 0)):=λk hk=>by
    rw[Zc,ZR (by rw[O.len];exact hk)];rfl
   refine⟨_,rfl,a,_,rfl,.inr (ha.mono s1).sq,_,rfl,by rw[Za,O.len];omega,by rw[Za,O.len];omega,?_⟩;rw[Za,O.len,Zj];refine Y8 (Jr 0 U.length) [some (.ref r1)] rfl (λk=>nV (U.getD k 0)) (by rw[Za,Z8];omega) (λk y hy Y s' R kk=>?_) (λD1 H2 t7 s2 m8=>?_)
   ·obtain⟨hk,rfl⟩:=XN hy
    have s':=s1.trans s';exact⟨_,rfl,r1,_,_,_,rfl,rfl,.of (s' _ _ f1),rfl,_,rfl,c1,_,_,_,rfl,rfl,.of (s' _ _ g1),ZA (by rw[Zc,ZR hk];rfl),kk Y (Zw.refl _)⟩
   rw[Za,Z8] at m8;have s2:=s1.trans s2;refine⟨_,rfl,a,rfl,⟨_,(ha.mono s2).sq⟩,?_⟩;refine Y8 (YM (K:=K) (ha.mono s2).sq) [some (.ref r2)] rfl (λk=>nV (z2.getD (M.getD k 0) 0)) (by rw[Za,O.len];omega) (λk y hy Y s' R kk=>?_) (λD2 H3 nD2 s3 o7=>?_)
   ·have hk:k<U.length:=by
     have:=(ac.mp hy).1;rw[Za,O.len] at this;exact this
    rw[gl k hk] at hy;cases hy;have s':=s2.trans s';exact⟨_,rfl,r2,_,_,_,rfl,rfl,.of (s' _ _ f2),rfl,_,rfl,c2,_,_,_,rfl,rfl,.of (s' _ _ g2),ZA (by rw[Zc,ZR (by rw[<-el];exact Ym O hk)];rfl),kk Y (Zw.refl _)⟩
   rw[Za,O.len] at o7;have n9:∀(Y:Hp) (D:Addr) (f:Nat->Nat),Y D=some (.lst ((ae U.length).map λk=>nV (f k)))->Vs K Y (.ref D) (dLN ((ae U.length).map f)):=λY D f h=>by
    refine .lst (.of h) ?_;have:=Wf.ints (K:=K) (H:=Y) (YK ((ae U.length).map f));unfold YK at this;rw[aC,aC,aC] at this;exact this
   refine⟨_,_,n9 _ _ _ (s3 _ _ m8),n9 _ _ _ o7,Zci _,Zci _,_,rfl,?_⟩;have s3:=s2.trans s3;rw[Zow];have ez:(ae U.length).map (λk=>U.getD k 0)=U:=by
    refine aY λi=>?_;rw[Zc];by_cases hi:i<U.length
    ·rw[ai hi,Zf hi]
     show some (U.getD i 0)=_;rw[Zb,Zf hi];rfl
    ·rw[ag (by rw[Zg];omega),ag (by omega)]
     rfl
   rw[ez];have LZ:=ZbH (d0:=0) O el.symm;refine Z1 (λh=>?_) (λh=>?_)
   ·refine no H3 s3 λ⟨_,o8,e,_,e2,_⟩=>?_
    injection e with e;rw[<-Jw e] at e2;have:=LZ.mp e2;rw[decide_eq_true this.symm] at h;cases h
   have t8:WI 0 M U=z2:=LZ.mpr (by
    have:decide (U=gU (λk=>z2.getD (M.getD k 0) 0) (ae U.length))=true:=by simpa using h
    exact (of_decide_eq_true this).symm)
   clear h LZ ez n9;obtain⟨cs,d1,d2,d3⟩:=id t1;obtain⟨es,t9,u5,u9⟩:=id t2;refine⟨_,rfl,r2,_,_,_,rfl,rfl,.of (s3 _ _ f2),rfl,q2,_,rfl,.inr (.of (s3 _ _ t9)),λL nL=>?_⟩;have HL:H L=none:=s3.free nL;have s4:=s3.trans (Zw.upd (o:=.lst (es.map V.ref)) nL);have o9:=Zu (H:=H3) (a:=L) (o:=.lst (es.map V.ref));generalize upd H3 L (.lst (es.map V.ref))=H4 at s4 o9 ⊢;refine⟨_,rfl,r1,_,_,_,rfl,rfl,.of (s4 _ _ f1),rfl,q1,rfl,⟨_,.of (s4 _ _ d1)⟩,?_⟩;refine W5 (H0:=H) (YM (K:=K) (.of d1)) (λi n8 Y=>∃(v4 v5:TK) (ls:TN) (J:X0),n8=[some (.ref r1),some (.ref r2),some (.ref a),some (.ref L),v4,v5]/\Zw H Y/\Y L=some (.lst (ls.map V.ref))/\ls.length=J.length/\(∀(i:Nat) c,ls[i]?=some c->∃ys,J[i]?=some ys/\RowT H c ys)/\y2.Perm ((y1.take i).map (WI [] M)++J)) ⟨_,_,es,y2,rfl,s4,o9,u5,u9,cO _⟩ (λi n8 Y ⟨_,_,_,_,_,s,_⟩=>s) (λi y n8 Y hy ⟨v4,v5,ls,J,e,s5,m9,n6,m6,pm⟩=>?_) (λn8 Y ⟨v4,v5,ls,J,e,s5,m9,n6,m6,pm⟩=>?_)
   ·subst e
    obtain⟨c,hc,rfl⟩:=Ve hy;obtain⟨row,e1,RT⟩:=d3 i c hc;have lr:=rl row (av e1);have lyy:J.length<=60:=by
     have:=pm.length_eq;rw[Zd] at this;omega
    have Or:Ord row.length M:=by rw[lr];exact O
    obtain⟨pf,o0⟩:∃pf:V->Bool,∀d,pf (.ref d)=true↔RowT H d (WI [] M row):=⟨λv=>@decide (∃d,v=.ref d/\RowT H d (WI [] M row)) (gc _),λd=>by
     show @decide _ (gc _)=true↔_;rw[@decide_eq_true_iff _ (gc _)];exact⟨λ⟨d',e,h⟩=>by injection e with e;rw[e];exact h,λh=>⟨d,rfl,h⟩⟩⟩
    refine⟨_,rfl,L,rfl,⟨_,.of m9⟩,?_⟩;refine Zgh (YY (K:=K) (.of m9)) [some (.ref a),some (.ref c)] rfl pf (λv=>v) (by rw[Za];omega) (λj v H6 hv s6 R R' hp hn=>?_) (λD H6 nD s6 hD=>?_)
    ·obtain⟨d,hd,rfl⟩:=Ve hv
     obtain⟨m5,e2,RL⟩:=m6 j d hd;have ll:m5.length=U.length:=by rw[el];exact t6 m5 (pm.mem_iff.mpr (aT _ (av e2)))
     have s6:=s5.trans s6;obtain⟨ds,u1,u2,u3⟩:=RL.mono s6;refine⟨_,rfl,a,rfl,⟨_,(ha.mono s6).sq⟩,?_⟩;refine Y8 (YM (K:=K) (ha.mono s6).sq) [some (.ref d)] rfl (λk=>V.ref (ds.getD (M.getD k 0) 0)) (by rw[Za,O.len];omega) (λk y hy Y s' R kk=>?_) (λD1 H7 t7 s7 m8=>?_)
     ·have hk:k<U.length:=by
       have:=(ac.mp hy).1;rw[Za,O.len] at this;exact this
      rw[gl k hk] at hy;cases hy;exact⟨_,rfl,_,rfl,d,_,_,_,rfl,rfl,.of (s' _ _ u1),ZA (by rw[Zc,ZR (by rw[u2,ll];exact Ym O hk)];rfl),kk Y (Zw.refl _)⟩
     rw[Za,O.len] at m8;obtain⟨p4,w1,w2,w3⟩:=RT.mono (s6.trans s7);refine⟨_,rfl,c,_,rfl,.inr (.of w1),λl2 w8=>?_⟩;obtain⟨H8,w9,s8,h8⟩:=Jl (o:=.lst (p4.map V.ref)) w8;rw[w9];have o5:=s7.trans s8;have x0:Vs K H8 (.ref D1) (dLI ((ae row.length).map λk=>m5.getD (M.getD k 0) [])):=by
      have h:=s8 _ _ m8;have e:((ae U.length).map λk=>V.ref (ds.getD (M.getD k 0) 0))=((ae U.length).map λk=>ds.getD (M.getD k 0) 0).map V.ref:=by rw[aC];rfl
      rw[e] at h;rw[lr];refine .lst (.of h) (VN _ _ (by rw[Za,Za]) λk b hb=>?_);have hk:k<U.length:=by
       have:=(ac.mp hb).1;rw[Za,Zg] at this;exact this
      rw[Zc,ai hk] at hb ⊢;cases hb;obtain⟨y,y1,y2⟩:=u3 (M.getD k 0) (ds.getD (M.getD k 0) 0) (ZR (by rw[u2,ll];exact Ym O hk));refine⟨y,?_,o5 _ _ y2⟩;show some (m5.getD (M.getD k 0) [])=_;rw[Zb,y1];rfl
     refine⟨_,_,x0,.lst (.of h8) (VN p4 row w2 λk b hb=>let ⟨y,y1,y2⟩:=w3 k b hb;⟨y,y1,s8 _ _ y2⟩),Zch _,Zch row,_,rfl,?_⟩;have ev:=Zox ((ae row.length).map λk=>m5.getD (M.getD k 0) []) row;unfold dLI at ev ⊢;rw[ev];have LA:=ZbH (d0:=[]) (ys:=m5) Or (by rw[ll,lr]);refine Z1 (λh=>?_) (λh=>?_)
     ·have e3:=LA.mpr (of_decide_eq_true h)
      exact⟨_,rfl,hp ((o0 d).mpr (by rw[e3];exact RL)) H8 o5⟩
     ·refine hn ?_ H8 o5
      cases ep:pf (.ref d) with
      |false=>rfl
      |true=>exact absurd (decide_eq_true (LA.mp (Zaq ((o0 d).mp ep) RL))) h
    ·have x9:=s5.trans s6
     rw[List.map_id',List.filter_map] at hD;generalize p6:ls.filter (pf ∘ V.ref)=rs at hD;have hm:∀d,d∈rs↔d∈ls/\RowT H d (WI [] M row):=λd=>by
      rw[<-p6,fM];exact and_congr_right λ_=>o0 d
     have ey:y1=y1.take i++row::y1.drop (i+1):=by
      obtain⟨hi,e⟩:=ac.mp e1;rw[<-e,List.getElem_cons_drop,List.take_append_drop]
     have e5:((y1.take i).map (WI [] M)++(WI [] M row::(y1.drop (i+1)).map (WI [] M)))=y1.map (WI [] M):=by
      conv=>rhs;rw[ey]
      rw[aN,aB]
     refine⟨_,rfl,(by show 0<=sizeLine;omega),λl3 o6=>?_⟩;obtain⟨H7,y4,s7,h7⟩:=Jl (o:=.lst []) o6;rw[y4];have m7:=x9.trans s7;have rlen:rs.length<=60:=by
      have:=lu (pf ∘ V.ref) ls;rw[p6] at this;omega
     have y6:Vs K H7 (.ref D) (.list ((aw rs.length (WI [] M row)).map dTI)):=.lst (.of (s7 _ _ hD)) (Ui rs _ (by rw[Ze]) λk b hb=>⟨WI [] M row,by rw[eS,if_pos (ac.mp hb).1],((hm b).mp (av hb)).2.mono m7⟩);refine⟨_,_,y6,.lst (.of h7) .nil,VM (aw rs.length (WI [] M row)),by decide,_,rfl,?_⟩;cases rs with
     |nil=>
      refine Z1 (λ_=>?_) (λh=>absurd rfl h);refine no H7 m7 λ⟨_,o8,e,_,_,p2⟩=>?_;injection e with e;rw[<-Jw e,<-e5] at p2;have p3:=(List.perm_append_left_iff _).mp (p2.trans pm);obtain⟨k,hk⟩:=bx (p3.mem_iff.mp aA);have p7:k<ls.length:=by rw[n6];exact (ac.mp hk).1
      obtain⟨ys,e2,RY⟩:=m6 k (ls.getD k 0) (ZR p7);rw[hk] at e2;cases e2;have:=(hm (ls.getD k 0)).mpr ⟨av (ZR p7),RY⟩;cases this
     |cons d0 rr=>
      refine Z1 (λh=>(by cases h)) (λ_=>?_);obtain⟨y8,RD⟩:=(hm d0).mp aA;have y9:WI [] M row∈J:=by
       obtain⟨k,hk⟩:=bx y8;obtain⟨ys,e2,RY⟩:=m6 k d0 hk;rw[Zaq RD RY];exact av e2
      have jl:J.findIdx (· == WI [] M row)<J.length:=cM ⟨_,y9,by simp⟩;have jv:=cN (xs:=J) (p:=(· == WI [] M row)) (w:=jl);have jn:∀m,m<J.findIdx (· == WI [] M row)->∀(hm:m<J.length),J[m]≠WI [] M row:=λm hm hl e=>by
       have:=kE (p:=(· == WI [] M row)) (xs:=J) hm;rw[e] at this;simp at this
      generalize J.findIdx (· == WI [] M row)=j at jl jv jn;have jv:J[j]=WI [] M row:=eq_of_beq jv;have p8:H7 L=some (.lst (ls.map V.ref)):=s7 _ _ (s6 _ _ m9);refine⟨_,rfl,.inl ⟨rfl,_,.of p8⟩,_,rfl,D,_,_,_,rfl,rfl,.of (s7 _ _ hD),ZA (j:=0) rfl,L,_,J.map dTI,dTI (WI [] M row),.ref d0,j,rfl,rfl,p8,Ui ls J n6 λk b hb=>?_,ZeF (RD.mono m7),(XX J).1,Wz _,aW (ZoC _) (by decide),by rw[Za];exact jl,λd hd=>?_,λm d hm hd=>?_,?_⟩
      ·obtain⟨ys,U,z2⟩:=m6 k b hb
       exact⟨ys,U,z2.mono m7⟩
      ·rw[Zc,Zf jl,jv] at hd
       cases hd;rw[ZiG];exact decide_eq_true rfl
      ·have p9:m<J.length:=by omega
       rw[Zc,Zf p9] at hd;cases hd;rw[ZiG];exact decide_eq_false (jn m hm p9)
      ·refine⟨_,_,ls.eraseIdx j,J.eraseIdx j,rfl,m7.updr HL,by rw[Zu,ji,ji,aN,ko,List.map_drop],by rw[fz,fz,n6],λk b hb=>?_,?_⟩
       ·rw[List.getElem?_eraseIdx] at hb ⊢
        by_cases r6:k<j
        ·rw[if_pos r6] at hb ⊢
         exact m6 k b hb
        ·rw[if_neg r6] at hb ⊢
         exact m6 (k+1) b hb
       ·refine pm.trans ?_
        have p1:J.Perm (WI [] M row::J.eraseIdx j):=by
         have:=PyS.JA (Zf jl);rw[jv] at this;exact this.symm
        have e6:(y1.take (i+1)).map (WI [] M)=(y1.take i).map (WI [] M)++[WI [] M row]:=by
         rw[cx,e1,aN];rfl
        rw[e6,gx];exact p1.append_left _
   ·subst e
    have el2:(cs.map V.ref).length=y1.length:=by rw[Za,d2]
    rw[el2,cD] at pm;refine⟨_,rfl,(by show 0<=sizeLine;omega),λl3 o6=>?_⟩;have s7:=Zw.upd (H:=Y) (o:=.lst []) o6;have h7:=Zu (H:=Y) (a:=l3) (o:=.lst []);generalize upd Y l3 (.lst [])=H7 at s7 h7 ⊢;have m7:=s5.trans s7;refine⟨_,_,.lst (.of (s7 _ _ m9)) (Ui ls J n6 λk b hb=>?_),.lst (.of h7) .nil,VM J,by decide,q _ H7 m7 ?_⟩
    ·obtain⟨ys,U,z2⟩:=m6 k b hb
     exact⟨ys,U,z2.mono m7⟩
    ·cases J with
     |nil=>
      rw[ip] at pm;exact⟨λ_=>⟨en,M,rfl,O,t8,pm.symm⟩,λ_=>rfl⟩
     |cons ys J=>
      refine⟨λh=>(by cases h),λ⟨_,o8,e,_,_,p2⟩=>?_⟩;injection e with e;rw[<-Jw e] at p2;have:=(p2.trans pm).length_eq;rw[Zd,Zi] at this;omega
end
end C55
namespace L2
open PySem PySem.Spec PyProof.Rows
section
variable {X:Cx}{e:Expr}{te ts:TE}{st:Expr}{pos p2:Pos}
def Zpv (K:aa)(te ts:TE):TE:=λq H Q=>te q H λx J=>ts q J λi j=>i=.int (-1)/\∃a y z,x=.ref a/\Wp K j a [y,z]/\∀p,j p=none->Q (.ref p) (upd j p (.lst [z,y]))
theorem Zmh (K:aa)(he:PE X e te)(hs:PE X st ts)(hK:X.K=K:=by rfl):PE X (.Subscript e (.Slice none none (some st) p2) pos) (Zpv K te ts):=by
 subst hK;intro j s M H Q I h;refine kZ (Yh (he j s M H _ I h) λv s1 ⟨x,H1,I1,r1,q1⟩=>?_);refine wpAny_Slice ?_;rw[lR];refine Zm ?_;rw[evalPart_some];refine Zm ?_;refine Yh (hs j s1 M H1 _ I1 q1) λu J ⟨i,H3,I3,r3,q3⟩=>?_;obtain⟨rfl,a,y,z,rfl,hx,q⟩:=q3;obtain⟨tk,rfl⟩:=r3;cases r1;have O:Inv X j M H3 {J with heap:=J.heap.push {cls:=.type "slice",data:=.fields #[.none,.none,.int (-1) tk]}}:=I3.kept (t':=J.toks) λb ob q=>Zn _ q;obtain⟨m5,r,U,Y⟩:=O.list hx;show wpAny (model X.prog X.w) X.A (subscriptTail e (.Slice none none (some st) p2) (.ref a) (.ref J.heap.objs.size)) (EP X j M Q) X.xe {J with heap:=J.heap.push {cls:=.type "slice",data:=.fields #[.none,.none,.int (-1) tk]}};refine tail_any (ops:=[.ref a,.ref J.heap.objs.size]) U.isList.typeIs jI.lookup ?_ (by with_unfolding_all rfl);obtain⟨u1,u2,rfl,r1,r2⟩:=r.two;refine lO U.isList (jB ..) .none .none (.int (-1) tk) (by simp) ?_ (by rw[Zh];exact Y);have e:slicePick [u1,u2].toArray none none (some (-1))=[u2,u1].toArray:=by with_unfolding_all rfl
 rw[e];refine⟨.ref _,_,O.laid (t':=J.toks) (o:=.lst [z,y]) (λb ob q=>Zn _ q) (Zq _) ?_,rfl,q _ (O.hok.fresh (Zq _))⟩;exact⟨Y,_,0,.cons r2 (.cons r1 .nil),Zo _ rfl⟩
inductive Zor (K:aa) (n:Nat) (t:TGs) (v:V) (σ:L2.St) (H:Hp) (Q:(L2.St->Hp->Prop)):Prop
 |mk (a:_) (xs:_):(v=.ref a)->(Wp K H a xs)->(xs.length=n)->(t xs σ H Q)->Zor K n t v σ H Q
theorem Zoa {q:List Expr}{k:Nat}{t:TGs}{n:Nat}(K:aa)(hc:X.calm=true)(h:PGs X q t)(hK:X.K=K:=by rfl)
  (hn:(assignEach q X.env).length=n:=by rfl) (J:(assignEach q X.env).findIdx? (·.1)=none:=by rfl):PG X (.Tuple q k pos) (Zor K n t):=by
 subst hK;intro j s U H v u Q I r M;obtain⟨a,xs,e1,hq,hl,M⟩:=M;subst e1;cases r;obtain⟨O,Y,ht,hz⟩:=I.list hq;rw[assign_Tuple];refine Zl (ie ?_);unfold unpack;have hs:(assignEach q X.env).length=O.toArray.size:=by rw[hn,<-hl,Y.length,Zh]
 rw[hs,J];refine Zl (bZ (PySem.W.kun_itemsOf (I.ok.hd hc) ht.isList λh' hx=>?_));have I1:Inv X j U H {s with heap:=h'}:=I.kept (t':=s.toks) λb o e=>hx b o (ar (Zp e)) e;exact h j _ U H xs _ Q I1 (by simpa using Y) M
end
section
variable {X:Cx}{pos:Pos}
theorem Zob (i j:Nat){x y:Str}{a b:Expr}{Y:TA}{J M pt:Pos}{kt O q}(hc:X.calm=true)(ha:PA X [a,b] Y)(hN:WU X.N=true:=by kernel_rfl)(hi:X.N[i]?=some x:=by rfl)(hj:X.N[j]?=some y:=by rfl)(U:i≠j:=by decide)
  (hx:X.env.scope.names.lookup x=some .local:=by rfl) (hy:X.env.scope.names.lookup y=some .local:=by rfl)
  (hw:swappedStores [.Tuple [.Name x J,.Name y M] kt pt] (.Tuple [a,b] O q) X.env=pure (some [x,y]):=by rfl)
  (hs:swapsWithSole [.Tuple [.Name x J,.Name y M] kt pt] (.Tuple [a,b] O q) pos.line X.env=pure false:=by rfl) :
  PS X (.Assign [.Tuple [.Name x J,.Name y M] kt pt] (.Tuple [a,b] O q) pos) (ZnG i j Y):=Zme hc (Z7 hN) hi hj U hx hy ha hw hs
end
end L2
namespace C55
open PySem L2 PySem.Spec PyProof.Rows
open Tb Pm
noncomputable abbrev ZnT:Stmt:=top 49
noncomputable abbrev Zk7:Stmt:=top 52
def UY (H:Hp)(c:Addr):Prop:=∃j q:Addr,H c=some (.tup [.ref j,.ref q])/\H j=some (.tup [.int 0,.int 1])/\H q=some (.tup [.int 1,.int 0])
theorem UY.mono {H j:Hp}{c:Addr}(s:Zw H j)(h:UY H c):UY j c:=by
 obtain⟨q,r1,a,b,d⟩:=h;exact⟨q,r1,s _ _ a,s _ _ b,s _ _ d⟩
theorem UY.at {H:Hp}{c:Addr}(h:UY H c)(a b:Nat):∃(j r1 r:Addr) (xs:TL),H c=some (.tup [.ref j,.ref r1])/\Xu [V.ref j,V.ref r1] ((a:Int) % 2)=some (.ref r)/\H r=some (.tup xs)/\Xu xs ((b:Int) % 2)=some (.int (ZP ZaU (a % 2) (b % 2):Nat)):=by
 obtain⟨j,r1,q,M,O⟩:=h;have U:(a:Int) % 2=((a % 2:Nat):Int):=by omega
 have Y:(b:Int) % 2=((b % 2:Nat):Int):=by omega
 rw[U,Y];have J:a % 2=0\/a % 2=1:=by omega
 have hb:b % 2=0\/b % 2=1:=by omega
 rcases J with J|J <;> rcases hb with hb|hb <;> rw[J,hb]
 ·exact⟨j,r1,j,_,q,rfl,M,rfl⟩
 ·exact⟨j,r1,j,_,q,rfl,M,rfl⟩
 ·exact⟨j,r1,r1,_,q,rfl,O,rfl⟩
 ·exact⟨j,r1,r1,_,q,rfl,O,rfl⟩
def tgV (t:T9)(a b:Nat):Nat:=ZP t (a / 2) (b / 2)*2+ZP ZaU (a % 2) (b % 2)
theorem Zk4 (t:T9):tgT t ZaU=(ae (t.length*2)).map λa=>(ae (t.length*2)).map λb=>tgV t a b:=rfl
inductive ZgO (vs:TL) (H:Hp) (Q:VK) (E03:XK):Prop
 |mk (g c:Addr) (t:T9):(vs=[.ref g,.ref c])->(GT H g t)->(PW t)->(t.length<=30)->(UY H c)->(∀g' H',Zw H H'->GT H' g' (tgT t ZaU)->Q (.ref g') H')->ZgO vs H Q E03
inductive ZdD (vs:TL) (H:Hp) (Q:VK) (E03:XK):Prop
 |mk (p q:Addr) (b:Nat):(vs=[.ref p])->(Y0 H p q b)->(b+10<2 ^ 60)->(∀L g1 g2 t1 t2 H',Tk p H H'->Y0 H' p q (b+10)->H' L=some (.lst [.ref g1,.ref g2])->GT H' g1 t1->GT H' g2 t2->MkC t1->MkC t2->Q (.ref L) H')->ZdD vs H Q E03
def sm5:T9:=[[8,2,3,0],[8,2,7,4],[8,2,7,0],[4,2,3,0],[4,2,3,2]]
theorem ZgZ:sm5.all (λx=>smB x && smC.contains x)=true:=by decide +kernel
theorem Vi {x:TY}(h:smC.contains x=true):MkC (twX x):=bN _ (az.mpr ⟨x,ay.mp h,rfl⟩)
theorem GT.updL {H:Hp}{g D:Addr}{t:T9}{zs:TL}{o:HO}(h:GT H g t)(q:H D=some (.lst zs)):GT (upd H D o) g t:=by
 obtain⟨J,j,M,O⟩:=h;exact⟨J,by rw[Zy (λz=>by rw[z,q] at j;cases j)];exact j,M,λi r U=>Tz.updL (O i r U) q⟩
section
variable {P:Program}{w:World}{K:aa}{mg:TR}{base:Heap}
theorem Zmp {f:Addr}{fd:FuncData}(F:Wu K "_law_together" "_law_together" ZnT f fd)(T:Bl mg):Z2 P w K mg base Z9 1 f fd ["_law_one", "_law_other"] ZgO:=by
 refine F.ok (FS (N:=["_law_one", "_law_other", "_law_many", "_law_rows", "_law_a", "_law_line", "_law_b", "_law_first"])) (λvs H Q E h=>?_) (λn8 A m9 s H vs Q E hr h=>?_)
 ·obtain⟨g,c,t,rfl,_⟩:=h;rfl
 ·obtain⟨g,c,t,rfl,G0,Pt,n9,T2,q⟩:=h
  refine⟨_,Zt (ZG 2 rfl (cb (Yr K) T.len (pc (vn 1) Zs)))
   (Zt (ZG 3 rfl (ZK Zs))
   (Zt (ZV ao rfl (J9 T.range (pc (Zz ZS (cb (Yr K) T.len (pc (vn 0) Zs)) (vn 2)) Zs)) (gn 4)
   (Zt (ZG 5 rfl (ZK Zs))
   (Zt (ZV ao rfl (J9 T.range (pc (Zz ZS (cb (Yr K) T.len (pc (vn 0) Zs)) (vn 2)) Zs)) (gn 6)
   (Zt (ZG 7 rfl (ZB (Wa K) (ZB (Wa K) (vn 0) (Zz Wi (vn 4) (vn 2)) (λ_ _=>rfl)) (Zz Wi (vn 6) (vn 2)) (λ_ _=>rfl)))
   (Zx (Yq (Wh aG aO aS ZZ (vn 5) (pc (Zz YG (Zz ZS (vn 7) (vn 2)) (ZB (Wa K) (ZB (Wa K) (vn 1) (Zz ZX (vn 4) (vn 2)) (λ_ _=>rfl)) (Zz ZX (vn 6) (vn 2)) (λ_ _=>rfl))) Zs))))))
   (Zx (Yq (Wh aG aO aS ZZ (vn 3) (pc (ct (XC K) T.tuple (pc (vn 5) Zs)) Zs)))))))
   (Zx (ZE (ct ZL T.tuple (pc (vn 3) Zs)))))),?_⟩
  have sz:=Ja;obtain⟨gs,u1,u2,_⟩:=id G0;have el:(gs.map V.ref).length=t.length:=by rw[Za,u2]
  obtain⟨r0,r1,c1,_,_⟩:=id T2;refine⟨_,rfl,c,_,rfl,.inr (.of c1),?_⟩;refine⟨WK,λJ m6=>?_⟩;have s3:=Zw.upd (H:=H) (o:=.lst []) m6;have h3:upd H J (.lst []) J=some (.lst ([]:TL)):=Zu;generalize upd H J (.lst [])=H3 at s3 h3 ⊢;refine⟨_,rfl,g,_,rfl,.inr (.of (s3 _ _ u1)),_,rfl,_,_,rfl,rfl,.inr ⟨by show -2 ^ 64<(2:Int);decide,by show (2:Int)<2 ^ 64;decide⟩,_,rfl,?_,?_,?_⟩
  ·show -4611686018427387904<=((gs.map V.ref).length:Int)*2
   omega
  ·show ((gs.map V.ref).length:Int)*2<_
   rw[el];omega
  rw[el];have e2:((t.length:Int)*([V.ref r0,V.ref r1].length:Nat))=((t.length*2:Nat):Int):=by rw[aJ];rfl
  rw[e2,Zj];refine YD (λa j H'=>∃(rs:TN) (v4 v5 O U:TK),j=[some (.ref g),some (.ref c),some (.int 2),some (.ref J),v4,v5,O,U]/\Zw H H'/\H' J=some (.lst (rs.map V.ref))/\rs.length=a/\∀(i:Nat) x,rs[i]?=some x->Tz H' x (((ae (t.length*2)).map λb=>tgV t i b).map nV)) ⟨[],_,_,_,_,rfl,s3,h3,rfl,λi x h=>by cases h⟩ ?_ ?_
  ·rintro a j H4 ha ⟨rs,v4,v5,O,U,rfl,s4,h4,rl,Y⟩
   rw[show (0:Int)+(a:Int)=(a:Int) by omega];refine⟨WK,λLn m7=>?_⟩;have s5:=Zw.upd (H:=H4) (o:=.lst []) m7;have h5:upd H4 Ln (.lst []) Ln=some (.lst ((ae 0).map λb=>nV (tgV t a b))):=Zu;generalize upd H4 Ln (.lst [])=H5 at s5 h5 ⊢;refine⟨_,rfl,g,_,rfl,.inr (.of ((s4.trans s5) _ _ u1)),_,rfl,_,_,rfl,rfl,.inr ⟨by decide,by decide⟩,_,rfl,?_,?_,?_⟩
   ·omega
   ·rw[el]
    omega
   rw[el];have e2:((t.length:Int)*2)=((t.length*2:Nat):Int):=by rw[aJ];rfl
   rw[e2,Zj];refine YD (λb j H'=>∃(O U:TK),j=[some (.ref g),some (.ref c),some (.int 2),some (.ref J),some (.int (a:Nat)),some (.ref Ln),O,U]/\Zw H4 H'/\H' Ln=some (.lst ((ae b).map λb=>nV (tgV t a b)))) ⟨_,_,rfl,s5,h5⟩ ?_ ?_
   ·rintro b j H6 hb ⟨O,U,rfl,s6,h6⟩
    rw[show (0:Int)+(b:Int)=(b:Int) by omega];have m8:=s4.trans s6;have a2:a / 2<t.length:=by omega
    have b2:b / 2<t.length:=by omega
    obtain⟨q1,q2,q3,_,q4,q5,q6⟩:=(G0.mono m8).at Pt a2;have ed:(a:Int) / 2=((a / 2:Nat):Int):=by omega
    have eb:(b:Int) / 2=((b / 2:Nat):Int):=by omega
    refine⟨_,rfl,_,rfl,_,rfl,_,_,rfl,rfl,⟨by omega,by omega⟩,g,_,_,_,rfl,rfl,.of q3,by rw[ed];exact q4,_,rfl,_,rfl,_,_,rfl,rfl,⟨by omega,by omega⟩,q2,_,_,_,rfl,rfl,q5.sq,by rw[eb];exact q6 _ b2,?_⟩;have o0:=Pt.lt _ _ a2 b2;obtain⟨o5,o6,r',xs,w1,w2,w3,w4⟩:=(T2.mono m8).at a b;refine⟨_,rfl,.inl ⟨rfl,_,.of h6⟩,_,rfl,_,rfl,_,_,rfl,rfl,.inr ⟨by decide,by decide⟩,_,rfl,_,rfl,_,rfl,_,_,rfl,rfl,(by show (0:Int)<2;decide),c,_,_,_,rfl,rfl,.of w1,w2,_,rfl,_,rfl,_,_,rfl,rfl,(by show (0:Int)<2;decide),r',_,_,_,rfl,rfl,.of w3,w4,_,_,rfl,rfl,Ln,_,_,rfl,rfl,h6,by rw[Za,Zg];omega,?_⟩;refine⟨_,_,rfl,s6.updr m7,?_⟩;rw[Zu,ck,aN];rfl
   ·rintro j H6 ⟨O,U,rfl,s6,h6⟩
    have n6:=s6 _ _ h4;refine⟨_,rfl,.inl ⟨rfl,_,.of n6⟩,_,rfl,Ln,_,rfl,.of h6,λl H7 nl s7 hz=>?_⟩;have m5:=s6.trans s7;have h7:=m5 _ _ h4;refine⟨J,_,_,rfl,rfl,h7,by rw[Za,rl];omega,?_⟩;have ez:((ae (t.length*2)).map λb=>nV (tgV t a b))=((ae (t.length*2)).map λb=>tgV t a b).map nV:=by rw[aC];rfl
    rw[ez] at hz;refine⟨rs++[l],_,_,_,_,rfl,(s4.trans m5).updr m6,by rw[Zu,aN];rfl,by rw[Zd,rl];rfl,λi x M=>?_⟩;by_cases hi:i<rs.length
    ·rw[ak hi] at M
     exact Tz.updL ((Y i x M).mono m5) h7
    ·have hl:=(ac.mp M).1
     rw[Zd,Zk] at hl;have ei:i=rs.length:=by omega
     rw[aq (by omega),ei,cr] at M;cases M;rw[ei,rl];exact Tz.updL hz h7
  ·rintro j H4 ⟨rs,v4,v5,O,U,rfl,s4,h4,rl,Y⟩
   refine⟨_,rfl,J,_,rfl,.inl ⟨.of h4,λg' ng=>?_⟩⟩;have s5:=Zw.upd (H:=H4) (o:=.tup (rs.map V.ref)) ng;refine q g' _ (s4.trans s5) ⟨rs,Zu,by rw[Zk4,Za,Zg,rl],λi x M=>?_⟩;have hi:i<t.length*2:=by rw[<-rl];exact (ac.mp M).1
   have er:(tgT t ZaU).getD i []=(ae (t.length*2)).map λb=>tgV t i b:=by rw[Zk4,Zb,Zc,ai hi];rfl
   rw[er];exact (Y i x M).mono s5
theorem Zj3 {f:Addr}{fd:FuncData}(F:Wu K "_law_pair" "_law_pair" Zk7 f fd)(T:Bl mg)(GD:Fn P w K mg base Z9 1 "_law_draw" ["_law_feed_here", "_law_many"] Va)(m5:Fn P w K mg base Z9 1 "_law_twisted" ["_law_m", "_law_k", "_law_r", "_law_c"] VL)(GG:Fn P w K mg base Z9 2 "_law_group" ["_law_feed_here", "_law_most"] Ua)(p4:Fn P w K mg base Z9 1 "_law_together" ["_law_one", "_law_other"] ZgO):Z2 P w K mg base Z9 3 f fd ["_law_feed_here"] ZdD:=by
 refine F.ok (FS (N:=["_law_feed_here", "_law_some", "_law_way", "_law_rare", "_law_first", "_law_second", "_law_two", "_law_one"])) (λvs H Q E h=>?_) (λy6 A t0 s H vs Q E O h=>?_)
 ·obtain⟨p,q,b,rfl,_⟩:=h;rfl
 ·obtain⟨p,q,b,rfl,T0,hb,k⟩:=h
  refine Zfl (Xl (ZcC 1 rfl (ZcB (Xd (Yj [8,2,3,0] (qa qi (qa qi (qa qi (qa qi ZW)))) (by rfl)) (Xd (Yj [8,2,7,4] (qa qi (qa qi (qa qi (qa qi ZW)))) (by rfl)) (Xd (Yj [8,2,7,0] (qa qi (qa qi (qa qi (qa qi ZW)))) (by rfl)) (Xd (Yj [4,2,3,0] (qa qi (qa qi (qa qi (qa qi ZW)))) (by rfl)) (Xd (Yj [4,2,3,2] (qa qi (qa qi (qa qi (qa qi ZW)))) (by rfl)) XQ)))))))
   ⟨Zt (ZG 2 rfl (Yz GD O ZF (pc (vn 0) (pc Zv Zs))))
   (Zt (Yx (ZH WH (vn 2) Zv (ZI _)) (Zt (ZG 3 rfl (ZK (pc (Yz m5 O ZF (pc Zv (pc Zv (pc Zv (pc Zv Zs))))) (pc (Yz m5 O ZF (pc Zv (pc Zv (pc Zv (pc Zv Zs))))) Zs))))
   (Zx (ZE (ZB (WB K) (ZK (pc (vn 3) (pc (Zmh K (vn 3) (Xf W9 Zv)) Zs))) (Yz GD O ZF (pc (vn 0) (pc Zv Zs))) (λ_ _=>rfl))))) ZT)
   (Zt (Yx (ZH WH (vn 2) Zv (ZI _)) (Zt (Zob 4 5 rfl (pc (Yz GD O ZF (pc (vn 0) (pc Zv Zs))) (pc (Yz GD O ZF (pc (vn 0) (pc Zv Zs))) Zs)))
   (Zx (ZE (cmp ["_law_at"] [1] ["_law_at", "_law_some"] rfl (itT K (WC (pc (vn 4) (pc (vn 5) Zs)))) (λ_ _ _ _ _=>gn 0) (λ_ _ _ _ _=>ZQ) (λ_ _ _ _ _=>Yz m5 O ZF (pc (ZB (Wa K) (ZB (WB K) (vn 1) (vn 0) (λ_ _=>rfl)) Zv (λ_ _=>rfl)) (pc (ZB (Wa K) (ZB (WB K) (vn 1) (vn 0) (λ_ _=>rfl)) Zv (λ_ _=>rfl)) (pc (ZB (Wa K) (ZB (WB K) (vn 1) (vn 0) (λ_ _=>rfl)) Zv (λ_ _=>rfl)) (pc (ZB (Wa K) (ZB (WB K) (vn 1) (vn 0) (λ_ _=>rfl)) Zv (λ_ _=>rfl)) Zs))))))))) ZT)
   (Zt (Yx (ZH WH (vn 2) Zv (ZI _)) (Zt (Zob 4 5 rfl (pc (Zz YG Zv (Yz GD O ZF (pc (vn 0) (pc Zv Zs)))) (pc (Zz YG Zv (Yz GD O ZF (pc (vn 0) (pc Zv Zs)))) Zs)))
   (Zx (ZE (cmp ["_law_at"] [1] ["_law_at", "_law_some"] rfl (itT K (WC (pc (vn 4) (pc (vn 5) Zs)))) (λ_ _ _ _ _=>gn 0) (λ_ _ _ _ _=>ZQ) (λ_ _ _ _ _=>Yz m5 O ZF (pc (ZB (Wa K) (ZB (WB K) (vn 1) (vn 0) (λ_ _=>rfl)) Zv (λ_ _=>rfl)) (pc (ZB (Wa K) (ZB (WB K) (vn 1) (vn 0) (λ_ _=>rfl)) Zv (λ_ _=>rfl)) (pc (ZB (Wa K) (ZB (WB K) (vn 1) (vn 0) (λ_ _=>rfl)) Zv (λ_ _=>rfl)) (pc (ZB (Wa K) (ZB (WB K) (vn 1) (vn 0) (λ_ _=>rfl)) Zv (λ_ _=>rfl)) Zs))))))))) ZT)
   (Zt (Yx (ZH WH (vn 2) Zv (ZI _)) (Zt (ZG 6 rfl (WC (pc (WC (pc Zv (pc Zv Zs))) (pc (WC (pc Zv (pc Zv Zs))) Zs))))
   (Zt (ZG 3 rfl (ZK (pc (Yz m5 O ZF (pc Zv (pc Zv (pc Zv (pc Zv Zs))))) (pc (Yz p4 O ZF (pc (Yz m5 O ZF (pc Zv (pc Zv (pc Zv (pc Zv Zs))))) (pc (vn 6) Zs))) Zs))))
   (Zt (Yq (Wh aG aO aS ZZ (vn 3) (pc (Yz p4 O ZF (pc (Yz m5 O ZF (pc Zv (pc Zv (pc Zv (pc Zv Zs))))) (pc (vn 6) Zs))) Zs)))
   (Zx (ZE (ZK (pc (ZB (WB K) (vn 3) (Yz GD O ZF (pc (vn 0) (pc Zv Zs))) (λ_ _=>rfl)) (pc (ZB (WB K) (vn 3) (Yz GD O ZF (pc (vn 0) (pc Zv Zs))) (λ_ _=>rfl)) Zs)))))))) ZT)
   (Zt (ZG 7 rfl (Yz GG O ZF (pc (vn 0) (pc Zv Zs))))
   (Zt (Yx (ZH Zav (vn 2) Zv (ZI _)) (Zx (ZE (ZK (pc (vn 7) (pc (vn 7) Zs))))) ZT)
   (Zx (ZE (ZK (pc (vn 7) (pc (Yz GG O ZF (pc (vn 0) (pc Zv Zs))) Zs)))))))))))⟩) ?_
  refine⟨?_⟩;have sz:=Ja;refine XL (JI sm5 (by decide) (by decide) λb1 H1 s1 l1 i1 S1 n1=>?_);have t1:=s1.trans (Zw.upd (o:=.lst (b1.map V.ref)) n1);have R1:TupsAt (upd H1 S1 (.lst (b1.map V.ref))) S1 b1 sm5:=⟨Zu,l1,λi b hb=>Zw.upd (o:=.lst (b1.map V.ref)) n1 _ _ (i1 i b hb)⟩;generalize upd H1 S1 (.lst (b1.map V.ref))=G1 at t1 R1 ⊢;refine⟨_,rfl,p,q,_,b,rfl,T0.mono t1,by omega,by decide,by decide,λr H2 r0 r1 k2 T2=>?_⟩;have R2:TupsAt H2 S1 b1 sm5:=⟨k2.lst (T0.mono t1) R1.1,R1.2.1,λi b hb=>k2.tup (T0.mono t1) (R1.2.2 i b hb)⟩;have kk:=(Tk.of t1).trans k2;clear R1 i1 s1;refine⟨_,rfl,rfl,_,rfl,Z1 (λhw=>?_) (λhw=>?_)⟩
  ·refine⟨6,1,1,0,rfl,by decide,by decide,by decide,by decide,by decide,by decide,by decide,λY H3 s3 G3=>?_⟩
   refine⟨6,2,5,0,rfl,by decide,by decide,by decide,by decide,by decide,by decide,by decide,λg2 H4 s4 G4=>?_⟩;refine⟨WK,λL nL=>?_⟩;obtain⟨H5,o6,U,h5⟩:=Jl (o:=.lst [.ref Y,.ref g2]) nL;rw[o6];refine⟨_,rfl,_,rfl,_,rfl,rfl,L,_,_,rfl,.of h5,λL2 t6=>?_⟩;obtain⟨H6,t7,s6,h6⟩:=Jl (o:=.lst [.ref g2,.ref Y]) t6;rw[t7];refine⟨WK,λL3 t8=>?_⟩;obtain⟨H7,o7,s7,h7⟩:=Jl (o:=.lst [.ref L,.ref L2]) t8;rw[o7];have p6:=((s3.trans s4).trans (U.trans s6)).trans s7;have T7:=T2.mono p6;refine⟨_,rfl,p,q,_,_,rfl,T7,by omega,by decide,by decide,λr' H8 m6 m7 k8 T8=>?_⟩;have p7:=GT.tk T7 k8 (G3.mono ((s4.trans U).trans (s6.trans s7)));have p8:=GT.tk T7 k8 (G4.mono ((U.trans s6).trans s7));have kf:=(kk.trans (Tk.of p6)).trans k8;have m1:MkC (twT 6 1 1 0):=Vi (x:=[6,1,1,0]) (by decide);have m2:MkC (twT 6 2 5 0):=Vi (x:=[6,2,5,0]) (by decide);have:r'=0\/r'=1:=by omega
   rcases this with rfl|rfl
   ·exact⟨L3,_,0,.ref L,rfl,rfl,.of (k8.lst T7 h7),ZA (j:=0) rfl,k L Y g2 _ _ H8 kf (T8.le (by omega)) (k8.lst T7 ((s6.trans s7) _ _ h5)) p7 p8 m1 m2⟩
   ·exact⟨L3,_,1,.ref L2,rfl,rfl,.of (k8.lst T7 h7),ZA (j:=1) rfl,k L2 g2 Y _ _ H8 kf (T8.le (by omega)) (k8.lst T7 (s7 _ _ h6)) p8 p7 m2 m1⟩
  refine⟨_,rfl,rfl,_,rfl,Z1 (λhw=>?_) (λhw=>?_)⟩
  case' refine_1=>
   refine⟨_,rfl,p,q,_,_,rfl,T2,by omega,by decide,by decide,λx1 H3 a0 a1 k3 T3=>?_⟩;refine⟨_,rfl,p,q,_,_,rfl,T3,by omega,by decide,by decide,λx2 H4 b0 t9 k4 T4=>⟨_,_,rfl,?_⟩⟩;obtain⟨j1,o8,rfl⟩:∃j:Nat,j<5/\x1=(j:Int):=⟨x1.toNat,by omega,by omega⟩;obtain⟨j2,o9,rfl⟩:∃j:Nat,j<5/\x2=(j:Int):=⟨x2.toNat,by omega,by omega⟩
   skip
  case' refine_2=>
   refine⟨_,rfl,rfl,_,rfl,Z1 (λhw=>?_) (λhw=>?_)⟩
   case' refine_1=>
    refine⟨_,rfl,p,q,_,_,rfl,T2,by omega,by decide,by decide,λx1 H3 a0 a1 k3 T3=>⟨_,_,rfl,rfl,?_⟩⟩;refine⟨_,rfl,p,q,_,_,rfl,T3,by omega,by decide,by decide,λx2 H4 b0 t9 k4 T4=>⟨_,_,rfl,rfl,_,_,rfl,?_⟩⟩;obtain⟨j1,o8,e1⟩:∃j:Nat,j<5/\3+x1=(j:Int):=⟨(3+x1).toNat,by omega,by omega⟩;obtain⟨j2,o9,e2⟩:∃j:Nat,j<5/\3+x2=(j:Int):=⟨(3+x2).toNat,by omega,by omega⟩
    try dsimp only
    rw[e1,e2]
   case' refine_2=>
    refine⟨_,rfl,rfl,_,rfl,Z1 (λhw=>?_) (λhw=>?_)⟩
    case' refine_1=>
     exact by
      refine⟨WK,λm6 u5=>⟨WK,λm7 p9=>⟨WK,λc nc=>?_⟩⟩⟩;have sA:=Zw.upd (H:=H2) (o:=.tup [.int 0,.int 1]) u5;have hA:=Zu (H:=H2) (a:=m6) (o:=.tup [.int 0,.int 1]);generalize upd H2 m6 (.tup [.int 0,.int 1])=HA at sA hA p9 nc ⊢;have sB:=Zw.upd (H:=HA) (o:=.tup [.int 1,.int 0]) p9;have hB:=Zu (H:=HA) (a:=m7) (o:=.tup [.int 1,.int 0]);generalize upd HA m7 (.tup [.int 1,.int 0])=HB at sB hB nc ⊢;have sC:=Zw.upd (H:=HB) (o:=.tup [.ref m6,.ref m7]) nc;have TW:UY (upd HB c (.tup [.ref m6,.ref m7])) c:=⟨m6,m7,Zu,sC _ _ (sB _ _ hA),sC _ _ hB⟩;generalize upd HB c (.tup [.ref m6,.ref m7])=H3 at sC TW ⊢;have s3:=(sA.trans sB).trans sC;have m0:MkC (twT 4 4 3 0):=Vi (x:=[4,4,3,0]) (by decide);have m1:MkC (twT 4 2 3 0):=Vi (x:=[4,2,3,0]) (by decide);have m2:MkC (twT 4 2 3 2):=Vi (x:=[4,2,3,2]) (by decide);refine⟨4,4,3,0,rfl,by decide,by decide,by decide,by decide,by decide,by decide,by decide,λg0 H4 s4 G4=>?_⟩;refine⟨4,2,3,0,rfl,by decide,by decide,by decide,by decide,by decide,by decide,by decide,λga H5 U G5=>?_⟩;refine⟨_,rfl,ga,c,_,rfl,G5,Uv m1,by decide,TW.mono (s4.trans U),λY H6 s6 G6=>?_⟩;refine⟨WK,λL nL=>?_⟩;obtain⟨H7,o7,s7,h7⟩:=Jl (o:=.lst [.ref g0,.ref Y]) nL;rw[o7];have r6:=(s4.trans U).trans (s6.trans s7);refine⟨_,rfl,.inl ⟨rfl,_,.of h7⟩,?_⟩;refine⟨4,2,3,2,rfl,by decide,by decide,by decide,by decide,by decide,by decide,by decide,λgb H8 s8 G8=>?_⟩;refine⟨_,rfl,gb,c,_,rfl,G8,Uv m2,by decide,TW.mono (r6.trans s8),λg2 H9 s9 G9=>?_⟩;have n9:=s8.trans s9;have h9:=n9 _ _ h7;refine⟨L,_,_,rfl,rfl,h9,(by show 2<sizeLine;decide),?_⟩;have LH:H2 L=none:=((s3.trans (s4.trans U)).trans s6).free nL;have sX:Zw H2 (upd H9 L (.lst ([V.ref g0,.ref Y]++[.ref g2]))):=((s3.trans r6).trans n9).updr LH;have hX:upd H9 L (.lst ([V.ref g0,.ref Y]++[.ref g2])) L=some (.lst [.ref g0,.ref Y,.ref g2]):=Zu;have q0:=GT.updL (o:=.lst ([V.ref g0,.ref Y]++[.ref g2])) (G4.mono (((U.trans s6).trans s7).trans n9)) h9;have q1:=GT.updL (o:=.lst ([V.ref g0,.ref Y]++[.ref g2])) (G6.mono (s7.trans n9)) h9;have q2:=GT.updL (o:=.lst ([V.ref g0,.ref Y]++[.ref g2])) G9 h9;generalize upd H9 L (.lst ([V.ref g0,.ref Y]++[.ref g2]))=HX at sX hX q0 q1 q2 ⊢;have o5:∀r:Int,0<=r->r<3->∃g t,Xu [V.ref g0,.ref Y,.ref g2] r=some (.ref g)/\MkC t/\∀H',GT H' g0 (twT 4 4 3 0)->GT H' Y (tgT (twT 4 2 3 0) ZaU)->GT H' g2 (tgT (twT 4 2 3 2) ZaU)->GT H' g t:=λr h0 h1=>by
       have:r=0\/r=1\/r=2:=by omega
       rcases this with rfl|rfl|rfl
       ·exact⟨g0,_,ZA (j:=0) rfl,m0,λ_ a _ _=>a⟩
       ·exact⟨Y,_,ZA (j:=1) rfl,aT _ aA,λ_ _ a _=>a⟩
       ·exact⟨g2,_,ZA (j:=2) rfl,aT _ (aE _ aA),λ_ _ _ a=>a⟩
      have TX:=T2.mono sX;refine⟨_,rfl,_,rfl,p,q,_,_,rfl,TX,by omega,by decide,by decide,λy1 Y1 u9 w8 m8 n6=>?_⟩;obtain⟨ga,ta,ea,ma,fa⟩:=o5 y1 u9 w8;refine⟨L,_,_,_,rfl,rfl,.of (m8.lst TX hX),ea,?_⟩;refine⟨_,rfl,_,rfl,p,q,_,_,rfl,n6,by omega,by decide,by decide,λy2 Y2 w9 x0 n8 x9=>?_⟩;obtain⟨gb,tb,eb,mb,fb⟩:=o5 y2 w9 x0;refine⟨L,_,_,_,rfl,rfl,.of (n8.lst n6 (m8.lst TX hX)),eb,?_⟩;refine⟨WK,λL' y4=>?_⟩;have sY:=Zw.upd (H:=Y2) (o:=.lst [.ref ga,.ref gb]) y4;have q0:=(GT.tk n6 n8 (GT.tk TX m8 q0)).mono sY;have q1:=(GT.tk n6 n8 (GT.tk TX m8 q1)).mono sY;have q2:=(GT.tk n6 n8 (GT.tk TX m8 q2)).mono sY;exact k L' ga gb ta tb _ ((((kk.trans (Tk.of sX)).trans m8).trans n8).trans (Tk.of sY)) ((x9.mono sY).le (by omega)) Zu (fa _ q0 q1 q2) (fb _ q0 q1 q2) ma mb
    case' refine_2=>
     exact by
      refine⟨_,rfl,p,q,_,14,rfl,T2,by omega,by decide,by decide,λg t H3 k3 T3 G3 mk=>?_⟩;refine⟨_,rfl,_,_,rfl,rfl,_,rfl,Z1 (λ_=>?_) (λ_=>?_)⟩
      ·refine⟨_,rfl,_,rfl,WK,λL nL=>?_⟩
       have s4:=Zw.upd (H:=H3) (o:=.lst [.ref g,.ref g]) nL;exact k L g g t t _ ((kk.trans k3).trans (Tk.of s4)) ((T3.mono s4).le (by omega)) Zu (G3.mono s4) (G3.mono s4) mk mk
      ·refine⟨_,rfl,_,rfl,p,q,_,14,rfl,T3,by omega,by decide,by decide,λg' t' H4 k4 T4 G4 mk'=>?_⟩
       refine⟨WK,λL nL=>?_⟩;have U:=Zw.upd (H:=H4) (o:=.lst [.ref g,.ref g']) nL;exact k L g g' t t' _ (((kk.trans k3).trans k4).trans (Tk.of U)) ((T4.mono U).le (by omega)) Zu ((GT.tk T3 k4 G3).mono U) (G4.mono U) mk mk'
  all_goals
   have R4:TupsAt H4 S1 b1 sm5:=⟨k4.lst T3 (k3.lst T2 R2.1),R2.2.1,λi b hb=>k4.tup T3 (k3.tup T2 (R2.2.2 i b hb))⟩;refine⟨_,rfl,_,rfl,WK,λc nc=>?_⟩;obtain⟨H5,o6,U,h5⟩:=Jl (o:=.tup [.int (j1:Nat),.int (j2:Nat)]) nc;rw[o6];refine⟨c,rfl,⟨_,.of h5⟩,?_⟩;refine Y7 (W:=Addr) id (λi w H=>GT H w (twX (sm5.getD ([j1,j2].getD i 0) []))) (λ_ _=>True) (YM (K:=K) (.of h5)) [some (.ref S1)] rfl (by show 2<=1000;decide) (λi w H H' s h=>h.mono s) (λ_ _ _ _ _=>trivial) (λi w H0 H1 D o ys y8 h _ _ h2=>GT.updL h h2) (λi y hy H6 s6 R kR=>?_) (λD ws H6 nD s6 hD wl hw _=>?_)
   ·obtain⟨j,hj,ej,ei⟩:∃j:Nat,j<5/\y=.int (j:Nat)/\[j1,j2].getD i 0=j:=by
     match i,hy with
     |0,hy=>exact⟨j1,o8,(ax hy).symm,rfl⟩
     |1,hy=>exact⟨j2,o9,(ax hy).symm,rfl⟩
     |i+2,hy=>cases hy
    subst ej;rw[ei] at kR;have r8:j<sm5.length:=hj;have R6:=R4.mono (U.trans s6);obtain⟨a,ha,o0,m9⟩:=R6.get r8;have hs:=aR.mp ZgZ _ (ZmD r8);rw[ah] at hs;obtain⟨hs,hc⟩:=hs;unfold smB at hs;simp only[ah,decide_eq_true_eq] at hs;obtain⟨⟨⟨⟨⟨⟨⟨x1,x2⟩,x3⟩,x4⟩,x5⟩,x6⟩,x7⟩,x8⟩:=hs;generalize sm5.getD j []=x at m9 x1 x2 x3 x4 x5 x6 x7 x8 kR;rw[Zos x1] at m9;refine⟨_,rfl,_,rfl,S1,_,_,_,rfl,rfl,.of R6.1,o0,a,_,_,_,rfl,rfl,.of m9,ZA (j:=0) rfl,_,rfl,_,rfl,S1,_,_,_,rfl,rfl,.of R6.1,o0,a,_,_,_,rfl,rfl,.of m9,ZA (j:=1) rfl,_,rfl,_,rfl,S1,_,_,_,rfl,rfl,.of R6.1,o0,a,_,_,_,rfl,rfl,.of m9,ZA (j:=2) rfl,_,rfl,_,rfl,S1,_,_,_,rfl,rfl,.of R6.1,o0,a,_,_,_,rfl,rfl,.of m9,ZA (j:=3) rfl,?_⟩;exact⟨x.getD 0 0,x.getD 1 0,x.getD 2 0,x.getD 3 0,rfl,x2,x3,x4,x5,x6,x7,x8,λg H7 s7 G7=>kR g H7 s7 G7 trivial⟩
   ·obtain⟨w0,w1,rfl⟩:∃w0 w1,ws=[w0,w1]:=by
     match ws,wl with
     | [w0,w1],_=>exact⟨w0,w1,rfl⟩
    have r9:∀j,j<5->MkC (twX (sm5.getD j [])):=λj hj=>by
     have hs:=aR.mp ZgZ _ (ZmD (show j<sm5.length from hj));rw[ah] at hs;exact Vi hs.2
    exact k D w0 w1 _ _ H6 (((kk.trans k3).trans k4).trans (Tk.of (U.trans s6))) ((T4.mono (U.trans s6)).le (by omega)) hD (hw 0 w0 rfl).1 (hw 1 w1 rfl).1 (r9 j1 o8) (r9 j2 o9)
end
noncomputable abbrev ZnS:Stmt:=top 54
noncomputable abbrev Zle:Stmt:=top 53
inductive ZgN (vs:TL) (H:Hp) (Q:VK) (E03:XK):Prop
 |mk (L:Addr) (xs:TL):(vs=[.ref L])->(H L=some (.lst xs))->(∀l H',H l=none->Zw H H'->Tz H' l xs->Q (.ref l) H')->ZgN vs H Q E03
def TgZ (H:Hp)(x:V)(o:Option TL):Prop:=Tg H x o/\∀a j,x=.ref a->o=some j->j≠[]->Tz H a j
inductive ZdK (vs:TL) (H:Hp) (Q:VK) (E03:XK):Prop
 |mk (p q a:Addr) (b:Nat) (gs:TY):(vs=[.ref p,.int (gs.length:Nat),.ref a])->(Y0 H p q b)->(b+100<2 ^ 60)->(Tz H a (gs.map nV))->(1<=gs.length)->(gs.length<=60)->((∀g∈gs,g<=60))->(∀x o H',Tk p H H'->Y0 H' p q (b+100)->TgZ H' x o->Q x H')->ZdK vs H Q E03
theorem Tz.tk {H j:Hp}{p q g:Addr}{b:Nat}{ys:TL}(T:Y0 H p q b)(d:Tk p H j)(h:Tz H g ys):Tz j g ys:=by
 obtain⟨o,J,M⟩:=h;exact⟨o,d _ _ J (T.ne J λ_ z=>by cases z),M⟩
theorem JH {H:Hp}{l:Addr}{xs:TL}(h:Tz H l xs)(q:xs.length<=300)(hi:∀y∈xs,ItV H y):TgZ H (.ref l) (some xs):=⟨⟨l,rfl,.inr h,q,hi⟩,λa J e j _=>by
 injection e with e;injection j with j;subst e j;exact h⟩
theorem itN (H:Hp){k:Nat}(h:k<=60):ItV H (nV k):=.inl ⟨k,rfl,by
 have:(60:Nat)<2 ^ 200:=by decide
 omega⟩
theorem Zc4 (H:Hp){j:TY}(h:∀g∈j,g<=60):∀y∈j.map nV,ItV H y:=λy q=>by
 obtain⟨k,J,rfl⟩:=az.mp q;exact itN H (h k J)
section
variable {P:Program}{w:World}{K:aa}{mg:TR}{base:Heap}
theorem Zmo {f:Addr}{fd:FuncData}(F:Wu K "_law_tuple_of" "_law_tuple_of" ZnS f fd)(T:Bl mg):Z2 P w K mg base Z9 1 f fd ["_law_row"] ZgN:=by
 refine F.ok (FS (N:=["_law_row"])) (λJ H Q E h=>?_) (λM A j s H J Q E hr h=>?_)
 ·obtain⟨L,xs,rfl,_⟩:=h;rfl
 ·obtain⟨L,xs,rfl,O,q⟩:=h
  refine⟨_,Zx (ZE (ct (XC K) T.tuple (pc (vn 0) Zs))),?_⟩;exact⟨_,rfl,L,_,rfl,.of O,λl U Y s' hz=>q l U Y s' hz⟩
theorem Zkd {f:Addr}{fd:FuncData}(F:Wu K "_law_bent" "_law_bent" Zle f fd)(T:Bl mg)(GD:Fn P w K mg base Z9 1 "_law_draw" ["_law_feed_here", "_law_many"] Va)(GO:Fn P w K mg base Z9 2 "_law_order" ["_law_feed_here", "_law_many"] XF)(o7:Fn P w K mg base Z9 1 "_law_tuple_of" ["_law_row"] ZgN):Z2 P w K mg base Z9 3 f fd ["_law_feed_here", "_law_many", "_law_match"] ZdK:=by
 refine F.ok (FS (N:=["_law_feed_here", "_law_many", "_law_match", "_law_at", "_law_to", "_law_way", "_law_found"])) (λvs H Q E h=>?_) (λt7 A o8 s H vs Q E hr h=>?_)
 ·obtain⟨p,q,a,b,J,rfl,_⟩:=h;rfl
 ·obtain⟨p,q,a,b,J,rfl,T0,hb,ha,g1,m6,hg,k⟩:=h
  refine⟨_,Zt (ZG 3 rfl (Yz GD hr ZF (pc (vn 0) (pc (vn 1) Zs))))
   (Zt (ZG 4 rfl (Yz GD hr ZF (pc (vn 0) (pc (vn 1) Zs))))
   (Zt (ZG 5 rfl (Yz GD hr ZF (pc (vn 0) (pc Zv Zs))))
   (Zt (ZG 6 rfl (ct (lstK K) T.list (pc (vn 2) Zs)))
   (Zt (Yx (ZH Zav (vn 5) Zv (ZI _)) (Zt (Js (WC (pc (ZB (WB K) (vn 6) (vn 4) (λ_ _=>rfl)) (pc (ZB (WB K) (vn 6) (vn 3) (λ_ _=>rfl)) Zs))) (Zbu rfl (YJ (Jt (vn 6) (vn 3) YB) (YJ (Jt (vn 6) (vn 4) YB) XS))))
   (Zx (ZE (ct (XC K) T.tuple (pc (vn 6) Zs))))) ZT)
   (Zt (Yx (ZH WH (vn 5) Zv (ZI _)) (Zx (ZE (Yz o7 hr ZF (pc (Yz GO hr ZF (pc (vn 0) (pc (vn 1) Zs))) Zs)))) ZT)
   (Zt (Yx (ZH WH (vn 5) Zv (ZI _)) (Zx (ZE (ZB (WB K) (ZK (pc (vn 6) (pc (ct (XC K) T.tuple (pc (Uq Zbj (vn 6) (Zbs Zv) Zbt) Zs)) (pc (ct (XC K) T.tuple (pc (Zz Ut (vn 6) (ZK (pc (vn 1) Zs))) Zs)) Zs)))) (Zz ZX (vn 4) Zv) (λ_ _=>rfl)))) ZT)
   (Zt (Yx (ZH WH (vn 5) Zv (ZI _)) (Zt (Js (ZB (WB K) (ZK (pc Jk (pc (Xf W9 Zv) (pc (vn 1) (pc (ZB (WB K) (vn 6) (vn 4) (λ_ _=>rfl)) (pc ZhJ Zs)))))) (Yz GD hr ZF (pc (vn 0) (pc Zv Zs))) (λ_ _=>rfl)) (Jt (vn 6) (vn 3) YB))
   (Zx (ZE (ct (XC K) T.tuple (pc (vn 6) Zs))))) ZT)
   (Zx (ZE (ZB (WB K) (ZK (pc (vn 2) (pc (vn 2) (pc ZhJ (pc (WC Zs) (pc Zv (pc WD Zs))))))) (Yz GD hr ZF (pc (vn 0) (pc Zv Zs))) (λ_ _=>rfl))))))))))),?_⟩
  have Ja:=Ja;refine⟨_,rfl,_,rfl,p,q,_,b,rfl,T0,by omega,by omega,by omega,λx1 H1 a0 a1 k1 T1=>?_⟩;refine⟨_,rfl,_,rfl,p,q,_,_,rfl,T1,by omega,by omega,by omega,λx2 H2 b0 b1 k2 T2=>?_⟩;refine⟨_,rfl,p,q,_,_,rfl,T2,by omega,by decide,by decide,λx3 H3 c0 c1 k3 T3=>?_⟩;have m8:=Tz.tk T2 k3 (Tz.tk T1 k2 (Tz.tk T0 k1 ha));refine⟨_,rfl,a,_,rfl,.inr m8.sq,λL nL=>?_⟩;obtain⟨H4,o9,s4,h4⟩:=Jl (o:=.lst (J.map nV)) nL;rw[o9];have T4:=T3.mono s4;have p4:=m8.mono s4;have p6:=(k1.trans k2).trans k3;have np:=T3.neN nL;clear k1 k2 k3 T1 T2 m8;obtain⟨j1,n9,rfl⟩:∃j:Nat,j<J.length/\x1=(j:Int):=⟨x1.toNat,by omega,by omega⟩;obtain⟨Y,m7,rfl⟩:∃j:Nat,j<J.length/\x2=(j:Int):=⟨x2.toNat,by omega,by omega⟩;have at':∀j,j<J.length->Xu (J.map nV) (j:Int)=some (nV (J.getD j 0)):=λj hj=>ZA (by rw[Zc,ZR hj];rfl);have m9:∀j,j<J.length->J.getD j 0<=60:=λj hj=>hg _ (av (ZR hj));have lm:(J.map nV).length=J.length:=fN ..;have ks:∀(H5:Hp) (x:V) (o:Option TL),Tk p H3 H5->Y0 H5 p q (b+100)->TgZ H5 x o->Q x H5:=λH5 x o k5 t5 g5=>k x o H5 (p6.trans k5) t5 g5;refine⟨_,rfl,_,_,rfl,rfl,_,rfl,Z1 (λhw=>?_) (λhw=>?_)⟩
  ·refine⟨_,rfl,_,rfl,L,_,_,_,rfl,rfl,.of h4,at' Y m7,_,rfl,_,rfl,L,_,_,_,rfl,rfl,.of h4,at' j1 n9,WK,λc nc=>?_⟩
   have s5:=Zw.upd (H:=H4) (o:=.tup [nV (J.getD Y 0),nV (J.getD j1 0)]) nc;have h5:=s5 _ _ h4;have o0:upd H4 c (.tup [nV (J.getD Y 0),nV (J.getD j1 0)]) c=some (.tup [nV (J.getD Y 0),nV (J.getD j1 0)]):=Zu;have T5:=T4.mono s5;generalize upd H4 c (.tup [nV (J.getD Y 0),nV (J.getD j1 0)])=H5 at s5 h5 o0 T5 ⊢;refine⟨c,_,rfl,.of o0,rfl,_,_,rfl,_,rfl,_,rfl,L,_,_,j1,rfl,rfl,h5,Wy (by omega),_,_,rfl,_,rfl,_,rfl,L,_,_,Y,rfl,rfl,Zu,Wy (by rw[aX];omega),rfl,?_⟩;refine⟨_,rfl,L,_,rfl,.of Zu,λl O nl s7 hz=>ks O (.ref l) (some _) ((((Tk.of (s4.trans s5)).updN nL).updN nL).trans (Tk.of s7)) (((T5.put np.1 np.2).put np.1 np.2).mono s7 |>.le (by omega)) (JH hz (by rw[aX,aX];omega) λy U=>?_)⟩;rcases gm U with U|rfl
   ·rcases gm U with U|rfl
    ·exact Zc4 O hg y U
    ·exact itN O (m9 _ m7)
   ·exact itN O (m9 _ n9)
  refine⟨_,rfl,rfl,_,rfl,Z1 (λhw=>?_) (λhw=>?_)⟩
  ·refine⟨_,rfl,_,rfl,p,q,_,J.length,rfl,T4,by omega,g1,m6,λo os H5 k5 T5 O5 no h5=>⟨o,_,rfl,h5,λl H6 nl s6 hz=>?_⟩⟩
   exact ks H6 (.ref l) (some _) (((Tk.of s4).trans k5).trans (Tk.of s6)) ((T5.mono s6).le (by omega)) (JH hz (by rw[Za,O5.len];omega) (Zc4 H6 λg hg=>by
    have:=O5.lt g hg;omega))
  refine⟨_,rfl,rfl,_,rfl,Z1 (λhw=>?_) (λhw=>?_)⟩
  ·refine⟨_,rfl,_,rfl,_,rfl,L,_,rfl,.of h4,λp1 p7=>?_⟩
   obtain⟨H5,m5,s5,h5⟩:=Jl (o:=.lst (ZbS (J.map nV) (some 1) none)) p7;rw[m5];refine⟨p1,_,rfl,.of h5,λl1 H6 t8 s6 p8=>?_⟩;refine⟨_,rfl,_,rfl,WK,λm nm=>?_⟩;obtain⟨O,p9,s7,h7⟩:=Jl (o:=.lst [.int (J.length:Nat)]) nm;rw[p9];have o5:=(s5.trans s6).trans s7;refine⟨L,m,_,_,rfl,rfl,o5 _ _ h4,h7,by rw[lm];show J.length+1<=sizeLine;omega,λN nN=>?_⟩;obtain⟨H8,r6,s8,h8⟩:=Jl (o:=.lst (J.map nV++[.int (J.length:Nat)])) nN;rw[r6];refine⟨N,_,rfl,.of h8,λl2 H9 t9 s9 r8=>?_⟩;refine⟨WK,λLL r9=>?_⟩;obtain⟨HA,t0,sA,hA⟩:=Jl (o:=.lst [.ref L,.ref l1,.ref l2]) r9;rw[t0];have o6:=(s8.trans s9).trans sA;have n6:=o5.trans o6;have em:(Y:Int) % 3=((Y % 3:Nat):Int):=by omega
   have kA:Tk p H3 HA:=Tk.of (s4.trans n6);have TA:=(T4.mono n6).le (show b+1+1+1<=b+100 by omega);obtain⟨v,o,hv,gz⟩:∃(v:V) (o:Option TL),Xu [V.ref L,.ref l1,.ref l2] ((Y:Int) % 3)=some v/\TgZ HA v o:=by
    have:Y % 3=0\/Y % 3=1\/Y % 3=2:=by omega
    rcases this with e|e|e
    ·exact⟨.ref L,none,by rw[em,e];exact ZA (j:=0) rfl,.inr (.inl ⟨L,J,rfl,n6 _ _ h4,m6,λg h=>aW (hg g h) (by decide)⟩),λ_ _ _ z=>by cases z⟩
    ·refine⟨.ref l1,_,by rw[em,e];exact ZA (j:=1) rfl,JH (p8.mono (s7.trans o6)) (aW (VB _ _ _) (by omega)) λy U=>?_⟩
     exact Zc4 HA hg y (List.mem_of_mem_drop (List.mem_of_mem_take U))
    ·refine⟨.ref l2,_,by rw[em,e];exact ZA (j:=2) rfl,JH (r8.mono sA) (by rw[Zd,lm];show J.length+1<=300;omega) λy U=>?_⟩
     rcases bu.mp U with U|U
     ·exact Zc4 HA hg y U
     ·rw[aM.mp U]
      exact itN HA m6
   exact⟨_,rfl,_,_,rfl,rfl,(by show (0:Int)<3;decide),LL,_,_,v,rfl,rfl,.of hA,hv,ks HA v o kA TA gz⟩
  refine⟨_,rfl,rfl,_,rfl,Z1 (λhw=>?_) (λhw=>?_)⟩
  ·refine⟨_,rfl,_,rfl,_,rfl,_,rfl,L,_,_,_,rfl,rfl,.of h4,at' Y m7,WK,λM nM=>?_⟩
   obtain⟨H5,m5,s5,h5⟩:=Jl (o:=.lst [.bl true,.int (-1),.int (J.length:Nat),nV (J.getD Y 0),.non]) nM;rw[m5];have T5:=T4.mono s5;refine⟨_,rfl,p,q,_,_,rfl,T5,by omega,by decide,by decide,λr H6 r0 r1 k6 T6=>?_⟩;have h6:=k6.lst T5 (s5 _ _ h4);obtain⟨v,hv,iv⟩:∃v,Xu [V.bl true,.int (-1),.int (J.length:Nat),nV (J.getD Y 0),.non] r=some v/\∀H,ItV H v:=by
    have:r=0\/r=1\/r=2\/r=3\/r=4:=by omega
    rcases this with rfl|rfl|rfl|rfl|rfl
    ·exact⟨_,ZA (j:=0) rfl,λH=>.inr (.inl ⟨true,rfl⟩)⟩
    ·exact⟨_,ZA (j:=1) rfl,λH=>.inl ⟨-1,rfl,by decide⟩⟩
    ·exact⟨_,ZA (j:=2) rfl,λH=>itN H m6⟩
    ·exact⟨_,ZA (j:=3) rfl,λH=>itN H (m9 _ m7)⟩
    ·exact⟨_,ZA (j:=4) rfl,λH=>.inr (.inr (.inl rfl))⟩
   refine⟨M,_,_,v,rfl,rfl,.of (k6.lst T5 h5),hv,_,rfl,_,rfl,L,_,_,j1,rfl,rfl,h6,Wy (by omega),?_⟩;refine⟨_,rfl,L,_,rfl,.of Zu,λl O nl s7 hz=>ks O (.ref l) (some _) ((((Tk.of (s4.trans s5)).trans k6).updN nL).trans (Tk.of s7)) (((T6.put np.1 np.2).mono s7).le (by omega)) (JH hz (by rw[aX];omega) λy U=>?_)⟩;rcases gm U with U|rfl
   ·exact Zc4 O hg y U
   ·exact iv O
  ·refine⟨_,rfl,_,rfl,WK,λc nc=>?_⟩
   obtain⟨H5,m5,s5,h5⟩:=Jl (o:=.tup []) nc;rw[m5];refine⟨WK,λM nM=>?_⟩;obtain⟨H6,t6,s6,h6⟩:=Jl (o:=.lst [.ref a,.ref a,.non,.ref c,.int 0,.str "alike"]) nM;rw[t6];have n8:=s5.trans s6;have T6:=T4.mono n8;refine⟨_,rfl,p,q,_,_,rfl,T6,by omega,by decide,by decide,λr O r0 r1 k7 T7=>?_⟩;have h7:=k7.lst T6 h6;have kf:=(Tk.of (s4.trans n8)).trans k7;have Tf:=T7.le (show b+1+1+1+1<=b+100 by omega);have za:TgZ O (.ref a) (some (J.map nV)):=JH (Tz.tk T6 k7 (p4.mono n8)) (by omega) (Zc4 O hg);have nn:∀x,Tg O x none->TgZ O x none:=λx h=>⟨h,λ_ _ _ z=>by cases z⟩;have:r=0\/r=1\/r=2\/r=3\/r=4\/r=5:=by omega
   rcases this with rfl|rfl|rfl|rfl|rfl|rfl
   ·exact⟨M,_,_,_,rfl,rfl,.of h7,ZA (j:=0) rfl,ks O _ _ kf Tf za⟩
   ·exact⟨M,_,_,_,rfl,rfl,.of h7,ZA (j:=1) rfl,ks O _ _ kf Tf za⟩
   ·exact⟨M,_,_,_,rfl,rfl,.of h7,ZA (j:=2) rfl,ks O _ none kf Tf (nn _ (.inl rfl))⟩
   ·exact⟨M,_,_,_,rfl,rfl,.of h7,ZA (j:=3) rfl,ks O _ (some []) kf Tf ⟨⟨c,rfl,.inl (k7.tup T6 (s6 _ _ h5)),aU _,λy U=>by cases U⟩,λ_ xs _ e n=>absurd (ax e).symm n⟩⟩
   ·exact⟨M,_,_,_,rfl,rfl,.of h7,ZA (j:=4) rfl,ks O _ none kf Tf (nn _ (.inr (.inr (.inl rfl))))⟩
   ·exact⟨M,_,_,_,rfl,rfl,.of h7,ZA (j:=5) rfl,ks O _ none kf Tf (nn _ (.inr (.inr (.inr rfl))))⟩
end
section
variable {t:T9}{o o1 o2:TY}{n p m:Nat}{e ω φ:Nat->Nat->Nat}{z:Nat}{dg:Nat->Nat}
theorem ZkP (P:PW t)(O:Ord t.length o){x y:Nat}(j:x<t.length)(q:y<t.length):YW (ren t o) x=YW (ren t o) y↔YW t (o.getD x 0)=YW t (o.getD y 0):=by
 have M:=Wc P O;have len:(ren t o).length=t.length:=YF O;have J:=ZbZ M (u:=y) (x:=x) (by rw[len];exact q) (by rw[len];exact j);have U:=ZbZ P (u:=o.getD y 0) (x:=o.getD x 0) (Ym O q) (Ym O j);rw[Zhr P O q j,U] at J;rw[<-decide_eq_true_eq (p:=YW (ren t o) x=_),<-decide_eq_true_eq (p:=YW t _=_),J]
theorem ZdW {n i:Nat}(O:Ord n o)(j:i<n):pos o (o.getD i 0)=i:=by
 obtain⟨a,b⟩:=Yb O (Ym O j);exact inj O a j b
theorem ZbN {f:Nat->Nat}{i:Nat}{os:TY}(j:i<os.length):(os.map f).getD i 0=f (os.getD i 0):=by
 rw[Zb,Zc,ZR j];rfl
theorem Us {n:Nat}(M:1<=n)(j:Ord n o1)(q:Ord n o2):Ord n (o1.map (pos o2)):=by
 refine Zbv M (by rw[Za,j.len]) (λg O=>?_) (λk J=>?_) ?_
 ·obtain⟨v,U,rfl⟩:=az.mp O
  exact (Yb q (j.lt v U)).1
 ·exact az.mpr ⟨o2.getD k 0,j.all _ (Ym q J),ZdW q J⟩
 ·have h:(o1.map (pos o2))[0]?=some (pos o2 (o1.getD 0 0)):=by
   rw[Zc,ZR (by rw[j.len];omega)];rfl
  rw[Zb,h,j.z];show pos o2 0=0;have:=ZdW q (i:=0) (by omega);rw[q.z] at this;exact this
theorem Zcv (P:PW t)(j:Ord t.length o1)(q:Ord t.length o2):ren (ren t o2) (o1.map (pos o2))=ren t o1:=by
 have M:=Us P.n1 j q;have O:∀v,v<t.length->pos (o1.map (pos o2)) (pos o2 v)=pos o1 v:=λv U=>by
  obtain⟨a,b⟩:=Yb j U;have h:=ZdW M a;rw[ZbN (by rw[j.len];exact a),b] at h;exact h
 show (o1.map (pos o2)).map (λa=>(o1.map (pos o2)).map λb=>pos (o1.map (pos o2)) (ZP (ren t o2) a b))=o1.map λa=>o1.map λb=>pos o1 (ZP t a b);rw[aC];refine aQ λa J=>?_;show (o1.map (pos o2)).map (λb=>pos (o1.map (pos o2)) (ZP (ren t o2) (pos o2 a) b))=_;rw[aC];refine aQ λb hb=>?_;show pos (o1.map (pos o2)) (ZP (ren t o2) (pos o2 a) (pos o2 b))=_;obtain⟨Y,a2⟩:=Yb q (j.lt a J);obtain⟨b1,b2⟩:=Yb q (j.lt b hb);rw[VR q Y b1,a2,b2,O _ (P.lt _ _ (j.lt a J) (j.lt b hb))]
theorem Zdj (P:PW t)(O:Ord t.length o)(D:TD t n p m e ω φ z dg):Ord m ((ae m).map (Wo t o)):=by
 have len:(ren t o).length=t.length:=YF O;have P':=Wc P O;have D':=D.ren P O;have U:=YU P;have j:=YU P';rw[<-D.cd.mc] at U;rw[<-D'.cd.mc] at j;have J:∀c,c<m->ZM (ren t o) c<t.length:=λc q=>by have:=j.rl c q;rw[len] at this;exact this
 have lt:∀c,c<m->Wo t o c<m:=λc q=>U.lt _ (Ym O (J c q));have inj:∀a b,a<m->b<m->Wo t o a=Wo t o b->a=b:=λa b Y hb h=>by
  have:=(ZkP P O (J a Y) (J b hb)).mpr h;rw[j.rn a Y,j.rn b hb] at this;exact this
 have M:=D.cd.m1;have nd:=Zbz inj;have hl:∀x∈(ae m).map (Wo t o),x<m:=λx hx=>by
  obtain⟨c,q,rfl⟩:=az.mp hx;exact lt c (af.mp q)
 have ln:((ae m).map (Wo t o)).length=m:=by rw[Za,Zg]
 refine⟨ln,nd,λv hv=>(VQ nd hl ln).mem_iff.mpr (af.mpr hv),hl,?_⟩;have r0:ZM (ren t o) 0=0:=(j.z _ (j.rl 0 M)).mp (j.rn 0 M);rw[Zb,Zc,ai M];show Wo t o 0=0;unfold Wo;rw[r0,O.z];exact (U.z 0 P.n1).mpr rfl
theorem Zgl (P:PW t)(j:Ord t.length o1)(J:Ord t.length o2)(D:TD t n p m e ω φ z dg){c:Nat}(M:c<m):Wo (ren t o2) (o1.map (pos o2)) c=YW (ren t o2) (pos o2 (o1.getD (ZM (ren t o1) c) 0)):=by
 have q:=YU (Wc P j);rw[<-(D.ren P j).cd.mc] at q;have h:=q.rl c M;rw[YF j] at h;unfold Wo;rw[Zcv P j J,ZbN (by rw[j.len];exact h)]
theorem Zki (P:PW t)(q:Ord t.length o1)(J:Ord t.length o2)(D:TD t n p m e ω φ z dg){y1 y2:X0}(h1:y1.Perm ((ae m).map (Wb (ren t o1) n p m (λs x=>e s (o1.getD x 0)) z dg)))(h2:y2.Perm ((ae m).map (Wb (ren t o2) n p m (λs x=>e s (o2.getD x 0)) z dg))) :
  Zku n n ((ZC (ren t o1) (ren t o1).length).map a6) ((ZC (ren t o2) (ren t o2).length).map a6) y1 y2 (some (((ae m).map (Wo (ren t o2) (o1.map (pos o2)))).map nV)):=by
 have P2:=Wc P J;have D1:=D.ren P q;have Y:=D.ren P J;have U:(ren t o2).length=t.length:=YF J;have O':Ord (ren t o2).length (o1.map (pos o2)):=by rw[U];exact Us P.n1 q J
 have eR:=Zcv P q J;have Og:=Zdj P2 O' Y;have l1:((ZC (ren t o1) (ren t o1).length).map a6).length=m:=by rw[Za,D1.cd.mc]
 have l2:((ZC (ren t o2) (ren t o2).length).map a6).length=m:=by rw[Za,Y.cd.mc]
 have gg:∀c,c<m->((ae m).map (Wo (ren t o2) (o1.map (pos o2)))).getD c 0=Wo (ren t o2) (o1.map (pos o2)) c:=λc j=>by
  rw[Zb,Zc,ai j];rfl
 have ee:(λs x=>(λs x=>e s (o2.getD x 0)) s ((o1.map (pos o2)).getD x 0))=λs x=>e s (o1.getD x 0):=by
  funext s x;show e s (o2.getD ((o1.map (pos o2)).getD x 0) 0)=_;by_cases hx:x<t.length
  ·rw[ZbN (by rw[q.len];exact hx),(Yb J (Ym q hx)).2]
  ·rw[Zb (l:=o1.map _),Zb (l:=o1),ag (by rw[Za,q.len];omega),ag (by rw[q.len];omega)]
   show e s (o2.getD 0 0)=e s 0;rw[J.z]
 refine⟨rfl,_,rfl,by rw[l1];exact Og,(ZbH (by rw[l1];exact Og) (by rw[l1,l2])).mpr ?_,?_⟩
 ·rw[l1]
  refine aY λc=>?_;rw[Zc,Zc];by_cases j:c<m
  ·have M:c<(ZC (ren t o1) (ren t o1).length).length:=by rw[<-D1.cd.mc];exact j
   have O:=Zg0 P2 O' (c:=c) (by rw[eR];exact M);rw[eR] at O;have hg:Wo (ren t o2) (o1.map (pos o2)) c<(ZC (ren t o2) (ren t o2).length).length:=by
    have:=Ym Og j;rw[gg c j] at this;rw[<-Y.cd.mc];exact this
   rw[ai j,Zf M];show some (((ZC (ren t o2) (ren t o2).length).map a6).getD (((ae m).map (Wo (ren t o2) (o1.map (pos o2)))).getD c 0) 0)=_;rw[gg c j,Zb,Zc,Zf hg];rw[Zb,Zf M,Zb,Zf hg] at O;exact congrArg some O.symm
  ·rw[ag (by rw[Zg];omega),ag (by rw[<-D1.cd.mc];omega)]
   rfl
 ·refine (h1.map _).trans (List.Perm.trans (lN ?_) h2.symm)
  rw[aC];refine aQ λs O=>?_;have O:=af.mp O;have rr:=ZjA P2 O' Y O;rw[eR,ee] at rr;show WI [] _ (Wb (ren t o1) n p m (λs x=>e s (o1.getD x 0)) z dg s)=_;have ll:(Wb (ren t o1) n p m (λs x=>e s (o1.getD x 0)) z dg s).length=m:=by unfold Wb;rw[Za,Zg]
  refine (ZbH (by rw[ll];exact Og) (by rw[ll];unfold Wb;rw[Za,Zg])).mpr ?_;rw[ll,rr];refine aQ λc j=>?_;rw[gg c (af.mp j)]
end
theorem ZeI {X:Cx}(K:aa){k:Nat}(j:Jo k X.A)(q:X.K=K:=by rfl):Yd X (.builtin "repr") (_root_.L2.I_call_repr K):=q▸Zgo j
theorem Zhx {K:aa}{H:Hp}:∀{rs:TN}{j:T9},rs.length=j.length->(∀(i:Nat) r,rs[i]?=some r->Tz H r ((j.getD i []).map nV))->Wf K H (rs.map V.ref) (j.map Vl)
 | [],[],_,_=>.nil
 | [],_::_,h,_=>by cases h
 |_::_,[],h,_=>by cases h
 |r::rs,c::j,h,g=>.cons (.tup (g 0 r rfl).sq (by
   have:=Wf.ints (K:=K) (H:=H) (YK c);unfold YK at this;rw[aC,aC] at this;exact this)) (Zhx (cJ h) λi b hb=>g (i+1) b hb)
theorem Zls {K:aa}{H:Hp}{g:Addr}{t:T9}(G:GT H g t):Vs K H (.ref g) (dCs t):=by
 obtain⟨M,j,q,J⟩:=G;exact .tup (.of j) (Zhx q J)
theorem Zd6:∀t:T9,ba (t.map Vl)=true/\aV (t.map Vl)<=5
 | []=>⟨rfl,aU _⟩
 |r::t=>by
  obtain⟨a,b⟩:=Zd6 t;have e:(Vl r).depth=aV (r.map λk:Nat=>aI (k:Int))+1:=rfl;rw[ZmB] at e;rw[aB];refine⟨by rw[ba,a,bV];exact ZmA r,?_⟩;rw[aV,e];omega
theorem Zew (t:T9):bq (dCs t)=true:=by
 obtain⟨j,J⟩:=Zd6 t;have q:(dCs t).canLay0=true:=j;have M:(dCs t).depth<=60:=by
  unfold dCs;rw[bU];omega
 unfold bq;simp only[q,dG,bV,decide_eq_true_eq];omega
theorem ZpX (a b:T9):(dCs a).eqv (dCs b)=true↔a=b:=by
 constructor
 ·have j:∀a b:T9,di (a.map Vl) (b.map Vl)=true->a=b:=λa=>by
   induction a with
   |nil=>
    intro b h;cases b with
    |nil=>rfl
    |cons y b=>cases h
   |cons x a q=>
    intro b h;cases b with
    |nil=>cases h
    |cons y b=>
     rw[aB,aB,di,ah,ZmW,decide_eq_true_eq] at h;rw[h.1,q b h.2]
  exact λh=>j a b h
 ·rintro rfl
  exact jN _ (Zd6 a).1
theorem FrA.mono {H j:Hp}{r:Addr}{n:Nat}{zs:TY}{yss:X0}(s:Zw H j)(h:FrA H r n zs yss):FrA j r n zs yss:=by
 obtain⟨c,q,a,b,d⟩:=h;exact⟨c,q,s _ _ a,s _ _ b,d.mono s⟩
theorem FrA.chg {H J:Hp}{r:Addr}{n:Nat}{zs:TY}{yss:X0}(s:∀a xs,H a=some (.tup xs)->J a=some (.tup xs))(h:FrA H r n zs yss):FrA J r n zs yss:=by
 obtain⟨c,q,a,b,cs,d1,M,O⟩:=h;refine⟨c,q,s _ _ a,s _ _ b,cs,s _ _ d1,M,λi c U=>?_⟩;obtain⟨Y,e1,ds,u1,u2,u3⟩:=O i c U;refine⟨Y,e1,ds,s _ _ u1,u2,λj d hd=>?_⟩;obtain⟨y,y1,y2⟩:=u3 j d hd;exact⟨y,y1,s _ _ y2⟩
structure Dq where
 n:Nat
 p:Nat
 m:Nat
 e:Nat->Nat->Nat
 ω:Nat->Nat->Nat
 φ:Nat->Nat->Nat
 z:Nat
 dg:Nat->Nat
def Dq.rn (d:Dq)(o:TY):Dq:=⟨d.n,d.p,d.m,λs x=>d.e s (o.getD x 0),λs x=>d.ω s (o.getD x 0),λs x=>d.φ s (o.getD x 0),d.z,d.dg⟩
def TQ (t:T9)(d:Dq):Prop:=TD t d.n d.p d.m d.e d.ω d.φ d.z d.dg
def FrG (H:Hp)(r:Addr)(t:T9)(d:Dq):Prop:=∃j,FrA H r d.n ((ZC t t.length).map a6) j/\j.Perm ((ae d.m).map (Wb t d.n d.p d.m d.e d.z d.dg))/\j.Pairwise (λa b=>PyZ.Xx b a=false)
theorem FrG.mono {H j:Hp}{r:Addr}{t:T9}{d:Dq}(s:Zw H j)(h:FrG H r t d):FrG j r t d:=by
 obtain⟨y,a,b⟩:=h;exact⟨y,a.mono s,b⟩
theorem FrG.chg {H j:Hp}{r:Addr}{t:T9}{d:Dq}(s:∀a xs,H a=some (.tup xs)->j a=some (.tup xs))(h:FrG H r t d):FrG j r t d:=by
 obtain⟨y,a,b⟩:=h;exact⟨y,a.chg s,b⟩
theorem ZgC {H:Hp}{D:Addr}{zs:TL}{o:HO}(j:H D=some (.lst zs)):∀a xs,H a=some (.tup xs)->upd H D o a=some (.tup xs):=λa xs h=>by
 rw[Zy (λz=>by rw[z,j] at h;cases h)];exact h
theorem frP {t:T9}{d:Dq}(P:PW t)(D:TQ t d){yss:X0}(h:yss.Perm ((ae d.m).map (Wb t d.n d.p d.m d.e d.z d.dg)))(j:yss.Pairwise (λa b=>PyZ.Xx b a=false)):FrP ((ZC t t.length).map a6) yss:=by
 have mc:=D.cd.mc;have M:=D.cd.m1;have:=Wn (t:=t) t.length;have:=P.n60;have q:((ZC t t.length).map a6).length=d.m:=by rw[Za,mc]
 refine⟨by omega,by omega,λO J=>?_,by rw[h.length_eq,Za,Zg];omega,j⟩;obtain⟨s,_,rfl⟩:=az.mp (h.mem_iff.mp J);unfold Wb;rw[Za,Zg,q]
theorem ZnC {t:T9}(h:MkC t):∃d:Dq,TQ t d/\d.m<=10:=by
 obtain⟨n,p,m,e,ω,φ,z,dg,j,D⟩:=Zkj h;exact⟨⟨n,p,m,e,ω,φ,z,dg⟩,D,j⟩
theorem ZiA (b:Bool):Zjc (.bool b):=by
 have sz:=Ja;cases b
 ·exact⟨rfl,rfl,by decide,by rw[<-sz];decide⟩
 ·exact⟨rfl,rfl,by decide,by rw[<-sz];decide⟩
inductive Zcf (K:aa) (vs:TL) (H:Hp) (Q:VK) (E03:XK):Prop
 |mk (a:Addr) (ns:TV):(vs=[.ref a])->(Wp K H a (ns.map V.int))->(ns.length<=63)->(∀H',Q (.bl true) H')->Zcf K vs H Q E03
section
variable {P:Program}{w:World}{K:aa}{mg:TR}{base:Heap}
theorem Zmu {f:Addr}{fd:FuncData}(F:Wu K "law" "law" Zl3 f fd)(T:Bl mg)(T2:Zaf mg)(GFe:Fn P w K mg base Z9 1 "_law_feed" ["_law_script"] (ZdI K))(GPa:Fn P w K mg base Z9 3 "_law_pair" ["_law_feed_here"] ZdD)(GO:Fn P w K mg base Z9 2 "_law_order" ["_law_feed_here", "_law_many"] XF)
  (GR:Fn P w K mg base Z9 1 "_law_renamed_by" ["_law_order_here", "_law_group_here"] Za3) (GC:Fn P w K mg base Z9 1 "_law_classes" ["_law_group_here"] ZdJ) (GTa:Fn P w K mg base Z9 7 "table_of" ["group"] ZaZ) (GRo:Fn P w K mg base Z9 1 "_law_round" ["_law_group_here"] V8) (GF:Fn P w K mg base Z9 6 "frame_of" ["group", "table"] Zba)
  (GM:Fn P w K mg base Z9 4 "is_match" ["one", "other", "thing"] ZgU) (GLm:Fn P w K mg base Z9 2 "_law_is_match" ["_law_one", "_law_other", "_law_thing"] ZgT) (GB:Fn P w K mg base Z9 3 "_law_bent" ["_law_feed_here", "_law_many", "_law_match"] ZdK) :
  Z2 P w K mg base Z9 8 f fd ["_law_script"] (Zcf K):=by
 refine F.ok (FS (N:=["_law_script", "_law_feed_here", "_law_first", "_law_second", "_law_orders", "_law_groups", "_law_frames", "_law_group_here", "_law_table", "_law_frame", "_law_many", "_law_match", "_law_met", "_law_turn", "_law_thing"])) (λvs H Q E h=>?_) (λcdv A outer s H vs Q E U h=>?_)
 ·obtain⟨a,ns,rfl,_⟩:=h;rfl
 ·obtain⟨a,ns,rfl,hS,hl,q⟩:=h
  have hu:(A.deeper (envOfC "law" (Z5 Zl3) s.heap.objs.size f cdv)).units+1<cLine:=by have:=U.un;omega
  refine⟨_,Zt (ZG 1 rfl (Yz GFe U ZF (pc (vn 0) Zs)))
   (Zt (Js (Yz GPa U ZF (pc (vn 1) Zs)) (Zoa K rfl (YJ (gn 2) (YJ (gn 3) XS))))
   (Zt (ZG 4 rfl (ZK (pc (Yz GO U ZF (pc (vn 1) (pc (cb (Yr K) T.len (pc (vn 2) Zs)) Zs))) (pc (Yz GO U ZF (pc (vn 1) (pc (cb (Yr K) T.len (pc (vn 3) Zs)) Zs))) Zs))))
   (Zt (ZG 5 rfl (ZK (pc (Yz GR U ZF (pc (ZB (WB K) (vn 4) Zv (λ_ _=>rfl)) (pc (vn 2) Zs))) (pc (Yz GR U ZF (pc (ZB (WB K) (vn 4) Zv (λ_ _=>rfl)) (pc (vn 3) Zs))) Zs))))
   (Zt (ZG 6 rfl (ZK Zs))
   (Zt (ZV ao rfl (itL K (vn 5)) (gn 7)
   (Zt (ZG 8 rfl (Yz GTa U ZF (pc (vn 7) Zs)))
   (Zt (ZG 9 rfl (Yz GF U ZF (pc (vn 7) (pc (vn 8) Zs))))
   (Zt (Yx (ZH WG (cb (ZeI K U) T.repr (pc (vn 9) Zs)) (cb (ZeI K U) T.repr (pc (WC (pc (Yz GRo U ZF (pc (vn 7) Zs)) (pc (ct ZL T.tuple (pc (cmp ["_law_one"] [] ["_law_one"] rfl (itL K (ZB (Wa K) (Yz GC U ZF (pc (vn 7) Zs)) Zv (λ_ _=>rfl))) (λ_ _ _ _ _=>gn 0) (λ_ _ _ _ _=>ZQ) (λ_ _ _ _ _=>cb (Yr K) (by exact T.len) (pc (vn 0) Zs))) Zs)) (pc (vn 8) Zs)))) Zs)) (ZI _)) (Zx (ZE Jk)) ZT)
   (Zx (Yq (Wh aG aO aS ZZ (vn 6) (pc (vn 9) Zs))))))))
   (Zt (ZG 10 rfl (cb (Yr K) T.len (pc (ZB (Wa K) (ZB (WB K) (vn 6) Zv (λ_ _=>rfl)) Zv (λ_ _=>rfl)) Zs)))
   (Zt (ZG 11 rfl (ct (VG rfl) T.tuple (pc (ct JU T.range (pc (vn 10) Zs)) Zs)))
   (Zt (Yx (ZH (Zf5 K U.units) (vn 2) (vn 3) (ZI _)) (Zt (ZG 12 rfl (ZB (Wa K) (Yz GC U ZF (pc (ZB (WB K) (vn 5) Zv (λ_ _=>rfl)) Zs)) Zv (λ_ _=>rfl)))
   (Zt (ZG 11 rfl (ct (XC K) T.tuple (pc (cmp ["_law_one"] [12,4] ["_law_one", "_law_met", "_law_orders"] rfl (itL K (ZB (Wa K) (Yz GC U ZF (pc (ZB (WB K) (vn 5) Zv (λ_ _=>rfl)) Zs)) Zv (λ_ _=>rfl))) (λ_ _ _ _ _=>gn 0) (λ_ _ _ _ _=>ZQ) (λ_ _ _ _ _=>J1 hu (vn 1) (ZhM K aG ii jX (Zog K U.units) (ZB (WB K) (vn 2) Zv (λ_ _=>rfl)) (pc (ZB (WB K) (ZB (WB K) (vn 2) Zv (λ_ _=>rfl)) (ZB (WB K) (vn 0) Zv (λ_ _=>rfl)) (λ_ _=>rfl)) Zs)) (λ_ _=>rfl))) Zs)))
   (Zx (Yx (ZH ZfH (Yz GM U ZF (pc (ZB (WB K) (vn 6) Zv (λ_ _=>rfl)) (pc (ZB (WB K) (vn 6) Zv (λ_ _=>rfl)) (pc (vn 11) Zs)))) Jk (ZI _)) (Zx (ZE Jk)) ZT)))) ZT)
   (Zt (ZV ao rfl (J9 T.range (pc Zv Zs)) (gn 13)
   (Zt (ZG 14 rfl (ZcG (ZH WH (vn 13) Zv (ZI _)) (vn 11) (Yz GB U ZF (pc (vn 1) (pc (vn 10) (pc (vn 11) Zs))))))
   (Zx (Yx (ZH WG (cb (ZeI K U) T.repr (pc (Yz GM U ZF (pc (ZB (WB K) (vn 6) Zv (λ_ _=>rfl)) (pc (ZB (WB K) (vn 6) Zv (λ_ _=>rfl)) (pc (vn 14) Zs)))) Zs)) (cb (ZeI K U) T.repr (pc (Yz GLm U ZF (pc (ZB (WB K) (vn 6) Zv (λ_ _=>rfl)) (pc (ZB (WB K) (vn 6) Zv (λ_ _=>rfl)) (pc (vn 14) Zs)))) Zs)) (ZI _)) (Zx (ZE Jk)) ZT))))
   (Zx (ZE Jk))))))))))),?_⟩
  have sz:=Ja;refine⟨_,rfl,a,ns,rfl,hS,λp q' H1 s1 np T1=>?_⟩;refine⟨_,rfl,p,q',0,rfl,T1,by decide,λL g1 g2 t1 t2 H2 k2 T2' h2 G1 G2 m1 m2=>?_⟩;refine⟨L,_,rfl,.of h2,rfl,_,_,rfl,_,_,rfl,rfl,?_⟩;have P1:=Uv m1;have P2:=Uv m2;have x9:∀(H:Hp) (g:Addr) (t:T9),GT H g t->∃gs:TN,H g=some (.tup (gs.map V.ref))/\(gs.map V.ref).length=t.length:=λH g t ⟨gs,u1,u2,_⟩=>⟨gs,u1,by rw[Za,u2]⟩;obtain⟨gs1,u1,e1⟩:=x9 _ _ _ G1;refine⟨_,rfl,_,rfl,g1,_,rfl,.inr (.of u1),p,q',_,t1.length,by rw[e1];rfl,T2',by decide,P1.n1,P1.n60,λo1 M H3 k3 T3 O1 no1 h3=>?_⟩;have G13:=GT.tk T2' k3 G1;have G23:=GT.tk T2' k3 G2;obtain⟨gs2,u2,e2⟩:=x9 _ _ _ G23;have n1:=P1.n60;have n2:=P2.n60;refine⟨_,rfl,_,rfl,g2,_,rfl,.inr (.of u2),p,q',_,t2.length,by rw[e2];rfl,T3,by omega,P2.n1,P2.n60,λo2 J H4 k4 T4 O2 no2 h4=>?_⟩;have G14:=GT.tk T3 k4 G13;have G24:=GT.tk T3 k4 G23;have h34:=k4.lst T3 h3;refine⟨WK,λLo nLo=>?_⟩;obtain⟨H5,eH5,s5,h5⟩:=Jl (o:=.lst [.ref o1,.ref o2]) nLo;rw[eH5];refine⟨_,rfl,Lo,_,_,_,rfl,rfl,.of h5,ZA (j:=0) rfl,_,rfl,o1,g1,t1,M,rfl,s5 _ _ h34,G14.mono s5,P1,O1,λgA H6 s6 GA=>?_⟩;refine⟨_,rfl,Lo,_,_,_,rfl,rfl,.of (s6 _ _ h5),ZA (j:=1) rfl,_,rfl,o2,g2,t2,J,rfl,(s5.trans s6) _ _ h4,G24.mono (s5.trans s6),P2,O2,λgB H7 s7 GB'=>?_⟩;refine⟨WK,λLg nLg=>?_⟩;obtain⟨H8,eH8,s8,h8⟩:=Jl (o:=.lst [.ref gA,.ref gB]) nLg;rw[eH8];have o5:=(s5.trans s6).trans (s7.trans s8);have T8:=T4.mono o5;have h58:=(s6.trans (s7.trans s8)) _ _ h5;have ho1:=o5 _ _ h34;have ho2:=o5 _ _ h4;have GA8:=GA.mono (s7.trans s8);have GB8:=GB'.mono s8;have G18:=G14.mono o5;have G28:=G24.mono o5;clear s1 k2 T1 h2 k3 k4 T3 T4 h3 h4 h34 s5 s6 s7 s8 o5 h5 G13 G23 G14 G24 G1 G2 GA GB' u1 u2 e1 e2;obtain⟨d1,D1,m10⟩:=ZnC m1;obtain⟨d2,D2,m20,dd⟩:∃d2:Dq,TQ t2 d2/\d2.m<=10/\(t1=t2->d1=d2):=by
   by_cases h:t1=t2
   ·exact⟨d1,h▸D1,m10,λ_=>rfl⟩
   ·obtain⟨d,a,b⟩:=ZnC m2
    exact⟨d,a,b,λz=>absurd z h⟩
  have PA:=Wc P1 O1;have PB:=Wc P2 O2;have DA:TQ (ren t1 M) (d1.rn M):=D1.ren P1 O1;have DB:TQ (ren t2 J) (d2.rn J):=D2.ren P2 O2;refine⟨WK,λLf nLf=>?_⟩;obtain⟨H9,eH9,s9,h9⟩:=Jl (o:=.lst []) nLf;rw[eH9];obtain⟨tt,dt,gt,f0,f1⟩:∃(tt:Nat->T9) (dt:Nat->Dq) (gt:Nat->Addr),(tt 0=ren t1 M/\dt 0=d1.rn M/\gt 0=gA)/\tt 1=ren t2 J/\dt 1=d2.rn J/\gt 1=gB:=⟨λi=>if i=0 then ren t1 M else ren t2 J,λi=>if i=0 then d1.rn M else d2.rn J,λi=>if i=0 then gA else gB,⟨rfl,rfl,rfl⟩,rfl,rfl,rfl⟩
  have fam:∀i,i<2->GT H8 (gt i) (tt i)/\PW (tt i)/\TQ (tt i) (dt i)/\(dt i).m<=10:=λi hi=>by
   have:i=0\/i=1:=by omega
   rcases this with rfl|rfl
   ·rw[f0.1,f0.2.1,f0.2.2];exact⟨GA8,PA,DA,m10⟩
   ·rw[f1.1,f1.2.1,f1.2.2];exact⟨GB8,PB,DB,m20⟩
  refine⟨_,rfl,Lg,rfl,⟨_,.of (s9 _ _ h8)⟩,?_⟩;refine W5 (H0:=H8) (YY (K:=K) (.of h8)) (λi m9 H'=>∃(VW:TN) (v7 v8 v9:TK),m9=[some (.ref a),some (.ref p),some (.ref g1),some (.ref g2),some (.ref Lo),some (.ref Lg),some (.ref Lf),v7,v8,v9,none,none,none,none,none]/\Zw H8 H'/\H' Lf=some (.lst (VW.map V.ref))/\VW.length=i/\∀(j:Nat) r,VW[j]?=some r->FrG H' r (tt j) (dt j)) ⟨[],_,_,_,rfl,s9,h9,rfl,λj r h=>by cases h⟩ (λi m9 H' ⟨_,_,_,_,_,s,_⟩=>s) (λi y m9 u5 hy ⟨VW,v7,v8,v9,e,o6,o7,fl,hf⟩=>?_) (λm9 u5 ⟨VW,v7,v8,v9,e,o6,o7,fl,hf⟩=>?_)
  ·subst e
   have hi:i<2:=(ac.mp hy).1;obtain⟨G0,P0,D0,mm⟩:=fam i hi;obtain rfl:y=.ref (gt i):=by
    have:i=0\/i=1:=by omega
    rcases this with rfl|rfl
    ·rw[f0.2.2];exact (ax hy).symm
    ·rw[f1.2.2];exact (ax hy).symm
   have app:∀(H':Hp) (r:Addr),Zw u5 H'->FrG H' r (tt i) (dt i)->∀(j:Nat) x,(VW++[r])[j]?=some x->FrG (upd H' Lf (.lst (VW.map V.ref++[.ref r]))) x (tt j) (dt j):=λH' r s' U j x hx=>by
    have hL:=s' _ _ o7;by_cases hj:j<VW.length
    ·rw[ak hj] at hx
     exact ((hf j x hx).mono s').chg (ZgC hL)
    ·have hl:=(ac.mp hx).1
     rw[Zd,Zk] at hl;have ej:j=i:=by omega
     rw[aq (by omega),ej,fl,cr] at hx;cases hx;rw[ej];exact U.chg (ZgC hL)
   clear hf hy;generalize tt i=t at G0 P0 D0 app;generalize dt i=d at D0 mm app;generalize gt i=g at G0 ⊢;have u9:∀a,a<t.length->Rd t a (rdT t a):=λa ha=>by
    obtain⟨r,R⟩:=P0.rd a ha;rw[Zbq R];exact R
   have n60:=P0.n60;have mc:=D0.cd.mc;refine⟨_,rfl,g,t,_,_,_,_,_,_,_,_,rfl,G0.mono o6,P0,D0,λr1 xss H11 n6 A11 y4 hs11=>?_⟩;have O:=o6.trans n6;refine⟨_,rfl,_,rfl,g,.ref r1,t,_,rfl,G0.mono O,P0,u9,λfr rr cc m7 n8 L12 hcc hrr=>?_⟩;obtain rfl:=D0.round u9 L12;have m6:=O.trans n8;have fitT:=ZjB D0 mm y4;have y6:Zjc (dFr d.n ((ZC t t.length).map a6) xss):=by
    refine ZmR D0.n60 (by rw[Za,<-mc];exact mm) (λx hx=>?_) fitT;obtain⟨cl,hcl,rfl⟩:=az.mp hx;obtain⟨c,hc⟩:=bx hcl;have hc':=(ac.mp hc).1;have e:=ZiR P0 hc';rw[Zb,hc] at e;have e:cl=ZU t (ZM t c):=e;rw[e];exact aW (ZbY _) n60
   refine⟨_,rfl,_,_,rfl,Zlv hrr hcc (A11.mono n8),y6,?_⟩;refine⟨_,rfl,g,t,_,rfl,G0.mono m6,P0,u9,λf2 p8 o8 L13=>?_⟩;obtain rfl:=D0.round u9 L13;refine⟨_,rfl,g,t,rfl,G0.mono (m6.trans o8),P0,λc2 Lc Dc bs kv H14 Y h14 p9 hD14 hv14=>?_⟩;refine⟨c2,_,_,_,rfl,rfl,.of h14,ZA (j:=0) rfl,Lc,rfl,⟨_,.of p9.1⟩,?_⟩;refine Y8 (YY (K:=K) (.of p9.1)) [] rfl (λc=>nV (((ZC t t.length).getD c []).length)) (by rw[Za,p9.2.1,<-mc];omega) (λc y hy H' s' R' kk=>?_) (λDz H15 nDz o9 hDz=>?_)
   ·obtain⟨b,hb,rfl⟩:=Ve hy
    have r6:=(p9.2.2 c b hb).2;refine⟨_,rfl,b,_,rfl,.inl (.of (s' _ _ r6)),?_⟩;rw[Za];exact kk H' (Zw.refl _)
   ·rw[Za,p9.2.1] at hDz
    refine⟨Dz,_,rfl,.inl ⟨.of hDz,λszA nsz=>?_⟩⟩;have ez:((ae (ZC t t.length).length).map λc=>nV (((ZC t t.length).getD c []).length))=((ZC t t.length).map a6).map nV:=by
     rw[aC];refine aY λc=>?_;rw[Zc,Zc];by_cases hc:c<(ZC t t.length).length
     ·rw[ai hc,Zf hc]
      show some (nV (((ZC t t.length).getD c []).length))=_;rw[Zb,Zf hc];rfl
     ·rw[ag (by rw[Zg];omega),ag (by omega)]
      rfl
    rw[ez];obtain⟨H16,eH16,w8,h16⟩:=Jl (o:=.tup (((ZC t t.length).map a6).map nV)) nsz;rw[eH16];refine⟨_,rfl,WK,λfrA nfr=>?_⟩;obtain⟨H17,eH17,s17,h17⟩:=Jl (o:=.tup [.int d.n,.ref szA,.ref r1]) nfr;rw[eH17];have m5:=((o8.trans Y).trans (o9.trans w8)).trans s17;refine⟨_,_,rfl,Zlv h17 (s17 _ _ h16) (A11.mono (n8.trans m5)),y6,rfl,_,rfl,Zd8 (by simp) ?_⟩;have n9:=(n6.trans n8).trans m5;have r8:=n9 _ _ o7;have FG:FrG H17 rr t d:=⟨xss,⟨cc,r1,m5 _ _ hrr,m5 _ _ hcc,A11.mono (n8.trans m5)⟩,y4,hs11⟩;refine⟨_,rfl,.inl ⟨rfl,_,.of r8⟩,_,rfl,Lf,_,_,rfl,rfl,r8,by rw[Za,fl];omega,?_⟩;exact⟨VW++[rr],_,_,_,rfl,(o6.trans n9).updr nLf,by rw[Zu,aN];rfl,by rw[Zd,fl];rfl,app H17 rr n9 FG⟩
  ·subst e
   obtain⟨r0,r1,rfl⟩:∃r0 r1,VW=[r0,r1]:=by
    match VW,fl with
    | [r0,r1],_=>exact⟨r0,r1,rfl⟩
   have FA:=hf 0 r0 rfl;have FB:=hf 1 r1 rfl;rw[f0.1,f0.2.1] at FA;rw[f1.1,f1.2.1] at FB;clear hf fam;have mA:=DA.cd.mc;have mA:d1.m=(ZC (ren t1 M) (ren t1 M).length).length:=mA;have m1':1<=d1.m:=DA.cd.m1;obtain⟨yA,XA,pA,sA⟩:=FA;obtain⟨yB,XB,pB,sB⟩:=FB;obtain⟨cA,qA,fA1,fA2,tA⟩:=id XA;refine⟨_,rfl,Lf,_,_,_,rfl,rfl,.of o7,ZA (j:=0) rfl,r0,_,_,_,rfl,rfl,.of fA1,ZA (j:=1) rfl,cA,_,rfl,.inr (.of fA2),?_⟩;rw[Za,Za,<-mA];refine⟨_,rfl,_,rfl,λrg nrg=>⟨rg,0,_,rfl,Zu,⟨by omega,by omega,by omega,by omega⟩,by omega,λam H11 nam n6 hz=>?_⟩⟩;rw[show ((d1.m:Int)-0).toNat=d1.m by omega,ZjD] at hz;have n6:=(Zw.upd (H:=u5) (o:=.rng 0 (d1.m:Int)) nrg).trans n6;have O:=o6.trans n6;have r9:=frP PA DA pA sA;have t0:=frP PB DB pB sB;have TB:Y0 u5 p q' 200:=(T8.mono o6).le (by omega);refine⟨_,rfl,_,rfl,_,_,Zls (G18.mono O),Zls (G28.mono O),Zew _,Zew _,_,rfl,Z1 (λw9=>?_) (λw9=>?_)⟩
   case' refine_1=>
    have e12:=(ZpX _ _).mp w9;subst e12;obtain rfl:=dd rfl;have hLo:=O _ _ h58;refine⟨_,rfl,Lg,_,_,_,rfl,rfl,.of (O _ _ h8),ZA (j:=1) rfl,gB,_,rfl,GB8.mono O,PB,λc2 L2 Dm bs2 kv2 m7 n8 w9 R12 hD12 hv12=>?_⟩;refine⟨c2,_,_,_,rfl,rfl,.of w9,ZA (j:=1) rfl,?_⟩;have m6:=O.trans n8;refine⟨_,rfl,Lg,_,_,_,rfl,rfl,.of (m6 _ _ h8),ZA (j:=0) rfl,gA,_,rfl,GA8.mono m6,PA,λc3 L3 D3 bs3 kv3 p8 o8 h13 p6 hD13 hv13=>?_⟩;refine⟨c3,_,_,_,rfl,rfl,.of h13,ZA (j:=0) rfl,L3,rfl,⟨_,.of p6.1⟩,?_⟩;have t6:=m6.trans o8;have lA:(ren t1 M).length=t1.length:=YF O1;have lB:(ren t1 J).length=t1.length:=YF O2;refine Y8 (YY (K:=K) (.of p6.1)) [some (.ref Dm),some (.ref Lo)] rfl (λc=>nV (YW (ren t1 J) (pos J (M.getD (ZM (ren t1 M) c) 0)))) (by rw[Za,p6.2.1,<-mA];omega) (λc y hy H' s' R' kk=>?_) (λD4 H14 nD4 Y hD4=>?_)
    ·obtain⟨b,hb,rfl⟩:=Ve hy
     have hc:c<(ZC (ren t1 M) (ren t1 M).length).length:=by rw[<-p6.2.1];exact (ac.mp hb).1
     have r6:=s' _ _ (p6.2.2 c b hb).2;obtain⟨e1,e2⟩:=X3 PA hc;rw[lA] at e2;have hr0:ZM (ren t1 M) c<t1.length:=by unfold ZM;rw[lA];rw[lA] at e1;exact e2
     have g0:(((ZC (ren t1 M) (ren t1 M).length).getD c []).map nV)[0]?=some (nV (ZM (ren t1 M) c)):=by
      rw[Zc,ZR (hU e1)];rfl
     have go:(M.map nV)[ZM (ren t1 M) c]?=some (nV (M.getD (ZM (ren t1 M) c) 0)):=by
      rw[Zc,ZR (by rw[O1.len];exact hr0)];rfl
     have hv:=Ym O1 hr0;generalize M.getD (ZM (ren t1 M) c) 0=v at go hv kk;obtain⟨pl,pv⟩:=Yb O2 hv;have hL':=s' _ _ (t6 _ _ h58);have ho1':=s' _ _ (t6 _ _ ho1);have y8:=s' _ _ (t6 _ _ ho2);have eo:J.map nV=(J.map λk:Nat=>((k:Nat):Int)).map V.int:=by rw[aC];rfl
     refine⟨_,rfl,_,rfl,Lo,_,_,_,rfl,rfl,.of hL',ZA (j:=1) rfl,.inl ⟨rfl,_,.of y8⟩,_,rfl,Lo,_,_,_,rfl,rfl,.of hL',ZA (j:=0) rfl,_,rfl,b,_,_,_,rfl,rfl,.of r6,ZA (j:=0) g0,o1,_,_,_,rfl,rfl,.of ho1',ZA go,?_⟩;refine⟨o2,(J.map λk:Nat=>((k:Nat):Int)).map V.int,(J.map λk:Nat=>((k:Nat):Int)).map aI,.int (v:Nat),.int (v:Nat),pos J v,rfl,rfl,by rw[<-eo];exact y8,Wf.ints _,.int _,Wd _,rfl,by simp[bU],by rw[Za,Za,O2.len];exact pl,λd t7=>?_,λm d hm t7=>?_,?_⟩
     ·have ho:=ZR (o:=J) (i:=pos J v) (by rw[O2.len];exact pl)
      rw[Zc,Zc,ho,pv] at t7;cases t7;rw[VX];exact decide_eq_true rfl
     ·have hm':m<J.length:=by rw[O2.len];omega
      have ho:=ZR (o:=J) hm';rw[Zc,Zc,ho] at t7;cases t7;rw[VX];refine decide_eq_false λz=>?_;have z:((J.getD m 0:Nat):Int)=((v:Nat):Int):=z;have:=inj O2 (i:=m) (j:=pos J v) (by omega) pl (by rw[pv];omega);omega
     ·have hg:=Xb.k (k:=.inl ((pos J v:Nat):Int)) (s' _ _ (o8 _ _ hD12))
      rw[hv12 _ (by rw[lB];exact pl)] at hg;exact⟨Dm,_,rfl,hg,kk H' (Zw.refl _)⟩
    rw[Za,p6.2.1,<-mA] at hD4;refine⟨D4,_,rfl,.of hD4,λam H15 nam o9 t8=>?_⟩;have eg:((ae d1.m).map λc=>nV (YW (ren t1 J) (pos J (M.getD (ZM (ren t1 M) c) 0))))=((ae d1.m).map (Wo (ren t1 J) (M.map (pos J)))).map nV:=by
     rw[aC];refine aQ λc hc=>?_;show _=nV (Wo (ren t1 J) (M.map (pos J)) c);rw[Zgl P1 O1 O2 D1 (af.mp hc)]
    rw[eg] at t8;have Og:Ord d1.m ((ae d1.m).map (Wo (ren t1 J) (M.map (pos J)))):=Zdj PB (o:=M.map (pos J)) (by rw[lB];exact Us P1.n1 O1 O2) DB;have s1115:=(n8.trans o8).trans (Y.trans o9);have m8:=n6.trans s1115;have t9:∀g∈(ae d1.m).map (Wo (ren t1 J) (M.map (pos J))),g<=60:=λg hg=>by
     have:=Og.lt g hg;have:g<d1.m:=this;omega
    have o0:=m8 _ _ o7;have gz:=JH t8 (by rw[Za,Og.len];omega) (Zc4 H15 t9);refine⟨_,rfl,Lf,_,_,_,rfl,rfl,.of o0,ZA (j:=0) rfl,_,rfl,Lf,_,_,_,rfl,rfl,.of o0,ZA (j:=1) rfl,_,rfl,r0,r1,.ref am,_,_,_,_,_,_,_,rfl,XA.mono m8,XB.mono m8,r9,t0,gz.1,gz.2,λb H16 w8 hb=>?_⟩;have bt:=hb.mpr (Zki P1 O1 O2 D1 pA pB);subst bt;refine⟨_,_,rfl,rfl,_,rfl,Zd8 (by decide) ?_⟩;have x0:=t8.mono w8;have sm:=m8.trans w8;have gl:((ae d1.m).map (Wo (ren t1 J) (M.map (pos J)))).length=d1.m:=Og.len;generalize (ae d1.m).map (Wo (ren t1 J) (M.map (pos J)))=gs at x0 gl t9;generalize H16=Hm at sm x0 ⊢
   case' refine_2=>
    obtain⟨gs,Hm,sm,x0,gl,t9⟩:∃(gs:TY) (Hm:Hp),Hm=H11/\Tz Hm am (gs.map nV)/\gs.length=d1.m/\∀g∈gs,g<=60:=⟨ae d1.m,H11,rfl,hz,Zg,λg hg=>by
     have:=af.mp hg;omega⟩
    subst sm;have sm:=n6
   all_goals
    refine⟨_,rfl,by decide,by decide,?_⟩;refine YD (λi m9 H'=>∃v12 v13 v14:TK,m9=[some (.ref a),some (.ref p),some (.ref g1),some (.ref g2),some (.ref Lo),some (.ref Lg),some (.ref Lf),v7,v8,v9,some (.int (d1.m:Nat)),some (.ref am),v12,v13,v14]/\Tk p Hm H'/\Y0 H' p q' (200+100*i)) ⟨_,_,_,rfl,Tk.refl,TB.mono sm⟩ ?_ ?_
    ·rintro i m9 m7 hi ⟨v12,v13,v14,rfl,k12,T12⟩
     have hi:i<10:=hi;have y9:=Tz.tk (TB.mono sm) k12 x0;refine⟨_,rfl,rfl,_,rfl,Z1 (λh0=>⟨_,rfl,?_⟩) (λh0=>⟨_,rfl,_,rfl,_,rfl,p,q',am,200+100*i,gs,by rw[gl];rfl,T12,by omega,y9,by omega,by omega,t9,λx o p8 k13 T13 gz=>?_⟩)⟩
     case' refine_2=>have ex:x=x:=rfl
     case' refine_1=>
      obtain⟨x,o,ex,gz⟩:∃(x:V) (o:Option TL),x=.ref am/\TgZ m7 x o:=⟨_,some (gs.map nV),rfl,JH y9 (by rw[Za];omega) (Zc4 m7 t9)⟩;obtain⟨p8,e13⟩:∃H',H'=m7:=⟨m7,rfl⟩;have k13:Tk p m7 p8:=by rw[e13];exact Tk.refl
      have T13:Y0 p8 p q' (200+100*i+100):=by rw[e13];exact T12.le (by omega)
      rw[<-e13] at gz ⊢
     all_goals
      have kM:=k12.trans k13;have TM:=TB.mono sm;have o0:=kM.lst TM (sm _ _ o7);have xa:=(XA.mono sm).chg λa xs h=>kM.tup TM h;have xb:=(XB.mono sm).chg λa xs h=>kM.tup TM h;refine⟨_,rfl,Lf,_,_,_,rfl,rfl,.of o0,ZA (j:=0) rfl,_,rfl,Lf,_,_,_,rfl,rfl,.of o0,ZA (j:=1) rfl,_,rfl,r0,r1,x,_,_,_,_,_,_,o,by simp[ex],xa,xb,r9,t0,gz.1,gz.2,λb H14 Y hb=>?_⟩;refine⟨_,_,rfl,.bl b,ZiA b,?_⟩;refine⟨_,rfl,Lf,_,_,_,rfl,rfl,.of (Y _ _ o0),ZA (j:=0) rfl,_,rfl,Lf,_,_,_,rfl,rfl,.of (Y _ _ o0),ZA (j:=1) rfl,_,rfl,r0,r1,x,_,_,_,_,_,_,o,by simp[ex],xa.mono Y,xb.mono Y,r9,t0,gz.1.mono Y,λb' H15 o9 r6=>?_⟩;have bb:b'=b:=by
       rw[dF,r6,hb]
      subst bb;refine⟨_,_,rfl,.bl _,ZiA _,rfl,_,rfl,Zd8 (by simp) ?_⟩;exact⟨_,_,_,rfl,kM.trans (Tk.of (Y.trans o9)),(T13.mono (Y.trans o9)).le (by omega)⟩
    ·rintro m9 m7 ⟨v12,v13,v14,rfl,k12,T12⟩
     exact q m7
end
theorem all_mk {l:gy}{w:World}{K:aa}{h:Heap}{mg:TR}{fa:Addr}(X:K.In h)(G:h.Ns mainGlobals mg)(hfa:mg "law"=some (.ref fa))
  (d1:ZD K "_law_feed" Zld) (d2:ZD K "_law_draw" Zhm) (d3:ZD K "_law_twisted" Zg7) (d4:ZD K "_law_group" Zhj) (d5:ZD K "_law_together" ZnT) (d6:ZD K "_law_pair" Zk7) (d7:ZD K "_law_order" Zhe) (d8:ZD K "_law_renamed_by" Zhc) (d9:ZD K "_law_classes" Zco) (d10:ZD K "round_of" Zha) (d11:ZD K "full_round" Zlc) (d12:ZD K "fit_prime" ZnZ) (d13:ZD K "root_powers" Zhb) (d14:ZD K "back" Zlf) (d15:ZD K "turned_by" Zex) (d16:ZD K "turnings" Zao) (d17:ZD K "classes_of" Uc) (d18:ZD K "holders" Zlb) (d19:ZD K "class_numbers" Zcn) (d20:ZD K "power_walks" Zg6) (d21:ZD K "counts_of" ZeB) (d22:ZD K "less_often" Zk8) (d23:ZD K "back_by" ZeC) (d24:ZD K "last_part" Zk9) (d25:ZD K "parts_by" Zhd) (d26:ZD K "taken_apart" Zhn) (d27:ZD K "first_of" Zhl) (d28:ZD K "primes_of" N55.Zez) (d29:ZD K "stretched" N55.ZnU) (d30:ZD K "quotient" N55.ZnV) (d31:ZD K "least_sum" N55.Zhh) (d32:ZD K "number_of" N55.Zhf) (d33:ZD K "number_at" Zhg) (d34:ZD K "table_of" Zg8) (d35:ZD K "_law_round" Zey) (d36:ZD K "sizes_of" Zg9) (d37:ZD K "frame_of" Zhk) (d38:ZD K "is_whole" Zg5) (d39:ZD K "are_things" Zlg) (d40:ZD K "is_order" Zhi) (d41:ZD K "laid" Zla) (d42:ZD K "is_match" ZnY) (d43:ZD K "_law_is_laying" ZnW) (d44:ZD K "_law_is_match" ZnX) (d45:ZD K "_law_tuple_of" ZnS) (d46:ZD K "_law_bent" Zle) (d47:ZD K "law" Zl3)
  (z1:bd K mainGlobals "list"=some none) (z2:bd K mainGlobals "len"=some none) (z3:bd K mainGlobals "range"=some none) (z4:bd K mainGlobals "tuple"=some none) (z5:bd K mainGlobals "sorted"=some none) (z6:bd K mainGlobals "abs"=some none) (z7:bd K mainGlobals "isinstance"=some none) (z8:bd K mainGlobals "all"=some none) (z9:bd K mainGlobals "set"=some none) (z10:bd K mainGlobals "repr"=some none) (z11:bd K mainGlobals "any"=some none) (z12:bd K mainGlobals "int"=some none) (z13:bd K mainGlobals "bool"=some none) (z14:bd K mainGlobals "enumerate"=some none) (z15:bd K mainGlobals "zip"=some none) (z16:bd K mainGlobals "sum"=some none) (z17:bd K mainGlobals "max"=some none) :
  ∃O:FuncData,(∀(s:Shared) (v:Value),ja s O ⟨[v],[]⟩ [("_law_script",v)])/\∀base:Heap,K.In base->base.Ns mainGlobals mg->Z2 l.prog w K mg base Z9 8 fa O ["_law_script"] (Zcf K):=by
 have J:BlB mg:=⟨au X G z1,au X G z2,au X G z3,au X G z4,au X G z5⟩;have j:Bl mg:=⟨au X G z1,au X G z2,au X G z6,au X G z3,au X G z4,au X G z7,au X G z8,au X G z9,au X G z10,au X G z11,au X G z12,au X G z13⟩;have q:Zaf mg:=⟨au X G z5,au X G z14⟩;have m9:BlT mg:=⟨au X G z15,au X G z16⟩;have m6:N55.Bl mg:=⟨au X G z1,au X G z2,au X G z6,au X G z3,au X G z4,au X G z7,au X G z8,au X G z9,au X G z10,au X G z11,au X G z12,au X G z13⟩;have n6:N55.Bl2 mg:=⟨au X G z14,au X G z17⟩;refine d47.law X G hfa (λbase f O nb kb F=>?_) (λ_ _ _ _ _ _ _ _=>.of_eq rfl);have fn:=@ZD.fn l.prog w K mg base h;have r8:=fn d1 X G (λf O F=>Zka F J) (λ_ _ _ _ _ _=>bd1 λ_=>rfl);have U:=fn d2 X G (λf O F=>Zkb F J) (λ_ _ _ _ _ _=>U3 λ_ _=>rfl);have m5:=fn d3 X G (λf O F=>ZhR F J) (λ_ _ _ _ _ _=>bd4 λ_ _ _ _=>rfl);have p7:=fn d4 X G (λf O F=>ZfM F J U m5) (λ_ _ _ _ _ _=>U3 λ_ _=>rfl);have o5:=fn d5 X G (λf O F=>Zmp F j) (λ_ _ _ _ _ _=>U3 λ_ _=>rfl);have r9:=fn d6 X G (λf O F=>Zj3 F j U m5 p7 o5) (λ_ _ _ _ _ _=>bd1 λ_=>rfl);have m7:=fn d7 X G (λf O F=>ZfL F J U) (λ_ _ _ _ _ _=>U3 λ_ _=>rfl);have n8:=fn d8 X G (λf O F=>ZhW F J) (λ_ _ _ _ _ _=>U3 λ_ _=>rfl);have o8:=fn d9 X G (λf O F=>Zkc F J (au X G z9)) (λ_ _ _ _ _ _=>bd1 λ_=>rfl);have x9:=fn d10 X G (λf O F=>ZhU F) (λ_ _ _ _ _ _=>U3 λ_ _=>rfl);have m8:=fn d11 X G (λf O F=>Zj9 F j x9) (λ_ _ _ _ _ _=>bd1 λ_=>rfl);have t0:=fn d12 X G (λf O F=>Zmw F j) (λ_ _ _ _ _ _=>U3 λ_ _=>rfl);have o9:=fn d13 X G (λf O F=>ZhV F j) (λ_ _ _ _ _ _=>U3 λ_ _=>rfl);have g_back:=fn d14 X G (λf O F=>Zke F) (λ_ _ _ _ _ _=>U3 λ_ _=>rfl);have t6:=fn d15 X G (λf O F=>ZfI F g_back) (λ_ _ _ _ _ _=>bd3 λ_ _ _=>rfl);have y4:=fn d16 X G (λf O F=>ZcJ F j q t6) (λ_ _ _ _ _ _=>U3 λ_ _=>rfl);have M:=fn d17 X G (λf O F=>ZdY F j y4) (λ_ _ _ _ _ _=>bd1 λ_=>rfl);have g_holders:=fn d18 X G (λf O F=>Zj8 F j q) (λ_ _ _ _ _ _=>U3 λ_ _=>rfl);have Y:=fn d19 X G (λf O F=>Zj4 F j M g_holders) (λ_ _ _ _ _ _=>bd1 λ_=>rfl);have p4:=fn d20 X G (λf O F=>ZhQ F Y M) (λ_ _ _ _ _ _=>bd1 λ_=>rfl);have t7:=fn d21 X G (λf O F=>ZfN F j q M Y) (λ_ _ _ _ _ _=>bd1 λ_=>rfl);have p8:=fn d22 X G (λf O F=>Zj5 F m9) (λ_ _ _ _ _ _=>bd4 λ_ _ _ _=>rfl);have n9:=fn d23 X G (λf O F=>ZfO F) (λ_ _ _ _ _ _=>U3 λ_ _=>rfl);have t8:=fn d24 X G (λf O F=>Zj6 F j p8 n9) (λ_ _ _ _ _ _=>bd3 λ_ _ _=>rfl);have y6:=fn d25 X G (λf O F=>ZhX F j m9 t8) (λ_ _ _ _ _ _=>bd3 λ_ _ _=>rfl);have p6:=fn d26 X G (λf O F=>Zh4 F j y6) (λ_ _ _ _ _ _=>U3 λ_ _=>rfl);have y8:=fn d27 X G (λf O F=>Zh3 F) (λ_ _ _ _ _ _=>bd3 λ_ _ _=>rfl);have t9:=fn d28 X G (λf O F=>N55.ZfK F m6) (λ_ _ _ _ _ _=>bd1 λ_=>rfl);have u5:=fn d29 X G (λf O F=>N55.Zmq F m6 n6) (λ_ _ _ _ _ _=>U3 λ_ _=>rfl);have y9:=fn d30 X G (λf O F=>N55.Zmr F m6 n6) (λ_ _ _ _ _ _=>U3 λ_ _=>rfl);have u9:=fn d31 X G (λf O F=>N55.Zh0 F t9 u5 y9) (λ_ _ _ _ _ _=>bd1 λ_=>rfl);have w8:=fn d32 X G (λf O F=>N55.ZhY F m6 n6 u9) (λ_ _ _ _ _ _=>U3 λ_ _=>rfl);have w9:=fn d33 X G (λf O F=>ZhZ F j q m9 n9 w8) (λ_ _ _ _ _ _=>bd5 λ_ _ _ _ _=>rfl);have g_table_of:=fn d34 X G (λf O F=>ZhS F j q m8 t0 o9 p4 t7 p6 n9 y8 w9) (λ_ _ _ _ _ _=>bd1 λ_=>rfl);have p9:=fn d35 X G (λf O F=>ZfJ F J) (λ_ _ _ _ _ _=>bd1 λ_=>rfl);have g_sizes_of:=fn d36 X G (λf O F=>ZhT F j M) (λ_ _ _ _ _ _=>bd1 λ_=>rfl);have g_frame_of:=fn d37 X G (λf O F=>Zh2 F m8 g_sizes_of) (λ_ _ _ _ _ _=>U3 λ_ _=>rfl);have g_is_whole:=fn d38 X G (λf O F=>Zoe F j) (λ_ _ _ _ _ _=>bd1 λ_=>rfl);have r6:=fn d39 X G (λf O F=>Zmx F j g_is_whole) (λ_ _ _ _ _ _=>U3 λ_ _=>rfl);have g_is_order:=fn d40 X G (λf O F=>Zh1 F j r6) (λ_ _ _ _ _ _=>U3 λ_ _=>rfl);have g_laid:=fn d41 X G (λf O F=>Zj7 F j) (λ_ _ _ _ _ _=>U3 λ_ _=>rfl);have g_is_match:=fn d42 X G (λf O F=>Zmv F j q g_is_order g_laid) (λ_ _ _ _ _ _=>bd3 λ_ _ _=>rfl);have o0:=fn d43 X G (λf O F=>Zmt F j q) (λ_ _ _ _ _ _=>U3 λ_ _=>rfl);have o6:=fn d44 X G (λf O F=>Zms F j q o0) (λ_ _ _ _ _ _=>bd3 λ_ _ _=>rfl);have o7:=fn d45 X G (λf O F=>Zmo F j) (λ_ _ _ _ _ _=>bd1 λ_=>rfl);have x0:=fn d46 X G (λf O F=>Zkd F j U m7 o7) (λ_ _ _ _ _ _=>bd3 λ_ _ _=>rfl);exact Zmu F j q r8 r9 m7 n8 o8 g_table_of p9 g_frame_of g_is_match o6 x0
theorem walk {l:gy}{q:Program}{loose:List Str}{Y:TR->Heap->Prop}{M:World->Heap->Prop}{d:DefRec}{K:Params->aa}(hn:l.most=some 63)(J:d.params.defaults=[])
  (hY:∀(w:World) (h:Heap),M w h->(K w.params).In h)
  (F:∀(w:World) (j:TR) (O:Addr) (h:Heap),(K w.params).In h->h.Ns mainGlobals j->j d.name=some (.ref O)->
   ∃U:FuncData,(∀(s:Shared) (u:Value),ja s U ⟨[u],[]⟩ [("_law_script",u)])/\∀base:Heap,(K w.params).In base->base.Ns mainGlobals j->Z2 l.prog w (K w.params) j base Z9 8 O U ["_law_script"] (Zcf (K w.params))) :
  lV q loose Y M l.row.toRowW d [] (λf vs=>lS f vs):=
 L2.ZaS (n:=63) (k:=8) (x:="_law_script") (CX:=λ_=>Z9) (sp:=λw=>Zcf (K w.params)) hn (by decide) J ⟨rfl,by decide,by decide,rfl⟩ hY F (λ_ _ a ns hl _ hS=>⟨a,ns,rfl,hS,hl,λ_=>rfl⟩) λ_ _ _ _ _ z=>z
end C55
namespace PySem.W.Fast
theorem tw15294185793019467095:0=0:=rfl
theorem tw16454546352972635605:0=0:=rfl
theorem tw16234050319409626196:0=0:=rfl
theorem tw7738226343293089305:0=0:=rfl
theorem tw10616597420727292521:0=0:=rfl
theorem tw11708880207299705026:0=0:=rfl
theorem tw12196185026814139819:0=0:=rfl
theorem tw6359043956484867643:0=0:=rfl
theorem tw6276014986815243117:0=0:=rfl
theorem tw5311127526517258225:0=0:=rfl
theorem tw16082136696181874762:0=0:=rfl
theorem tw11355831689906005372:0=0:=rfl
theorem tw11667030395776734139:0=0:=rfl
theorem tw6587845978547571082:0=0:=rfl
theorem tw1594560172949554681:0=0:=rfl
theorem tw17116188409148434943:0=0:=rfl
theorem tw18033984587219714122:0=0:=rfl
theorem tw12077181720811306706:0=0:=rfl
theorem tw10043090001628690651:0=0:=rfl
theorem tw10871128315869064688:0=0:=rfl
theorem tw7434068468136517622:0=0:=rfl
theorem tw5781474970420146569:0=0:=rfl
theorem tw17039066753341645259:0=0:=rfl
theorem tw18153302161904022173:0=0:=rfl
theorem tw6301539175914628743:0=0:=rfl
theorem tw15370918502750022032:0=0:=rfl
theorem tw14106246006510640110:0=0:=rfl
theorem tw6679042117477957379:0=0:=rfl
theorem tw4135201250936857425:0=0:=rfl
theorem tw17979237251379454609:0=0:=rfl
theorem tw18068777999362923248:0=0:=rfl
theorem tw661257178378995375:0=0:=rfl
theorem tw12718375786686290427:0=0:=rfl
theorem tw9062767510706240996:0=0:=rfl
theorem tw9736052945764907144:0=0:=rfl
theorem tw15941236169085386613:0=0:=rfl
theorem tw2969910568130923154:0=0:=rfl
theorem tw8158892500292579171:0=0:=rfl
theorem tw6391602875720956927:0=0:=rfl
theorem tw13761293317152529055:0=0:=rfl
theorem tw4333231668669853241:0=0:=rfl
theorem tw11468627967136028683:0=0:=rfl
theorem tw3567911513650897234:0=0:=rfl
theorem tw3344699772494749977:0=0:=rfl
theorem tw10381282323534236808:0=0:=rfl
theorem tw4772253196408950154:0=0:=rfl
theorem tw10197135397388531433:0=0:=rfl
theorem tw11117945835892575378:0=0:=rfl
theorem tw13146137946131883023:0=0:=rfl
theorem tw2097621688065157182:0=0:=rfl
theorem tw4165103853680010590:0=0:=rfl
theorem tw9593707382684446484:0=0:=rfl
theorem tw15940429545474793176:0=0:=rfl
theorem tw14800524406872921547:0=0:=rfl
theorem tw16651874260693987367:0=0:=rfl
theorem tw2189650948815938676:0=0:=rfl
theorem tw15798578355198337381:0=0:=rfl
theorem tw16515703236865203620:0=0:=rfl
theorem tw6764083215043387245:0=0:=rfl
theorem tw4259208298641855016:0=0:=rfl
theorem tw11553265345055874085:0=0:=rfl
theorem tw13310624066045496177:0=0:=rfl
theorem tw10334709610553422176:0=0:=rfl
theorem tw17889306936720406506:0=0:=rfl
theorem tw8122858168441617612:0=0:=rfl
theorem tw6965362037030483891:0=0:=rfl
theorem tw10810282912923368149:0=0:=rfl
theorem tw16421052380157618754:0=0:=rfl
theorem tw4206244958057107753:0=0:=rfl
theorem tw16299691056482210143:0=0:=rfl
theorem tw18198084478905211567:0=0:=rfl
theorem tw8840909666367628036:0=0:=rfl
theorem tw14240218091953981765:0=0:=rfl
theorem tw11912847125903221430:0=0:=rfl
theorem tw16715436197852332361:0=0:=rfl
theorem tw3726925974665751041:0=0:=rfl
theorem tw7161217121729274148:0=0:=rfl
theorem tw12766986414816482878:0=0:=rfl
theorem tw11069569757192312455:0=0:=rfl
theorem tw16381303005328137587:0=0:=rfl
theorem tw18276873798559902728:0=0:=rfl
theorem tw5188857854336194404:0=0:=rfl
theorem tw11459994082814323064:0=0:=rfl
theorem tw3916533912892636251:0=0:=rfl
theorem tw9070853745690938092:0=0:=rfl
theorem tw8689859895303753139:0=0:=rfl
theorem tw5109822888199117189:0=0:=rfl
theorem tw5662598821358812490:0=0:=rfl
theorem tw8480304504384811677:0=0:=rfl
theorem tw5856555312885654905:0=0:=rfl
theorem tw6211858583343512614:0=0:=rfl
theorem tw9801438755896698279:0=0:=rfl
theorem tw6802780975881559851:0=0:=rfl
theorem tw11447520803628876203:0=0:=rfl
theorem tw2960134585003883208:0=0:=rfl
theorem tw8328366260116766048:0=0:=rfl
theorem tw18176604132548362840:0=0:=rfl
theorem tw1658748634338062078:0=0:=rfl
theorem tw6939242050979873523:0=0:=rfl
theorem tw5869058790782014518:0=0:=rfl
theorem tw12136012022068879452:0=0:=rfl
theorem tw14709896563419810113:0=0:=rfl
theorem tw7195698924861363187:0=0:=rfl
theorem tw5059606519915888305:0=0:=rfl
theorem tw2019669521047396132:0=0:=rfl
theorem tw15938715267551980795:0=0:=rfl
theorem tw4441426286017973250:0=0:=rfl
theorem tw16962223710035024237:0=0:=rfl
theorem tw9014592671230737543:0=0:=rfl
theorem tw6620840226163752794:0=0:=rfl
theorem tw7768677061224422853:0=0:=rfl
theorem tw550219740642280753:0=0:=rfl
theorem tw4101784164507537029:0=0:=rfl
theorem tw14202146896576811106:0=0:=rfl
theorem tw12733524069732520767:0=0:=rfl
theorem tw13474409133165070564:0=0:=rfl
theorem tw17646169081659985587:0=0:=rfl
theorem tw12163423659253549353:0=0:=rfl
theorem tw1520262901930666687:0=0:=rfl
theorem tw8125518084039873453:0=0:=rfl
theorem tw9635844224564231981:0=0:=rfl
theorem tw8176439133537342671:0=0:=rfl
theorem tw12162029081814241922:0=0:=rfl
theorem tw14630911012941762028:0=0:=rfl
theorem tw17941684703927230398:0=0:=rfl
theorem tw6793140450593068287:0=0:=rfl
theorem tw13148562179512549018:0=0:=rfl
theorem tw452532538512200740:0=0:=rfl
theorem tw9708057989776898729:0=0:=rfl
theorem tw9186472864420968746:0=0:=rfl
theorem tw11046828197512337811:0=0:=rfl
theorem tw11613348367249367706:0=0:=rfl
theorem tw16252531165854561214:0=0:=rfl
theorem tw16071673396511120299:0=0:=rfl
theorem tw17524498218198128706:0=0:=rfl
theorem tw15954242106191585832:0=0:=rfl
theorem tw11797915658094918131:0=0:=rfl
theorem tw17904507952606804857:0=0:=rfl
theorem tw4655559456491749758:0=0:=rfl
theorem tw1065581407846743595:0=0:=rfl
theorem tw2002257316908899240:0=0:=rfl
theorem tw4925110157423415395:0=0:=rfl
theorem tw2100853194021544175:0=0:=rfl
theorem tw5140627476376488658:0=0:=rfl
theorem tw8568645364292465461:0=0:=rfl
theorem tw3466018990370763604:0=0:=rfl
theorem tw1345916390475354575:0=0:=rfl
theorem tw489409126593067116:0=0:=rfl
theorem tw13112526776428573201:0=0:=rfl
theorem tw9364642232138439685:0=0:=rfl
theorem tw3119505793972995266:0=0:=rfl
theorem tw14228905180898071939:0=0:=rfl
theorem tw8566022453788697483:0=0:=rfl
theorem tw14069409964875995153:0=0:=rfl
theorem tw16819770548523168309:0=0:=rfl
theorem tw5709884512289183178:0=0:=rfl
theorem tw11630985776383764906:0=0:=rfl
theorem tw8055673053688818896:0=0:=rfl
theorem tw10829236414319579985:0=0:=rfl
theorem tw5624756211545194490:0=0:=rfl
theorem tw10871287908047230406:0=0:=rfl
theorem tw6315838593612166227:0=0:=rfl
theorem tw2435466011587240603:0=0:=rfl
theorem tw160352970090033672:0=0:=rfl
theorem tw6820520678600825005:0=0:=rfl
theorem tw15021749206847464187:0=0:=rfl
theorem tw6449927324137442306:0=0:=rfl
theorem tw8827029361993725354:0=0:=rfl
theorem tw832645397759350751:0=0:=rfl
theorem tw3453665771952699084:0=0:=rfl
theorem tw10339720210828907105:0=0:=rfl
theorem tw6592692238942002304:0=0:=rfl
theorem tw14219122428748703149:0=0:=rfl
theorem tw1291437771835805635:0=0:=rfl
theorem tw2341178809284779835:0=0:=rfl
theorem tw7118905279681409031:0=0:=rfl
theorem tw5703978716555061677:0=0:=rfl
theorem tw13362222753520721149:0=0:=rfl
theorem tw5046307940389152952:0=0:=rfl
theorem tw13413969573227455403:0=0:=rfl
theorem tw11659552273817688447:0=0:=rfl
theorem tw644337143660509345:0=0:=rfl
theorem tw61832375971509836:0=0:=rfl
theorem tw306633728653089891:0=0:=rfl
theorem tw14103608622505500971:0=0:=rfl
theorem tw4060293405023019555:0=0:=rfl
theorem tw2891446301960477708:0=0:=rfl
theorem tw3495853813147665484:0=0:=rfl
theorem tw5720990389332579930:0=0:=rfl
theorem tw6873746330049077495:0=0:=rfl
theorem tw8768632093796117585:0=0:=rfl
theorem tw9343600417550039965:0=0:=rfl
theorem tw8247160716825991774:0=0:=rfl
theorem tw11009045907939793737:0=0:=rfl
theorem tw445337875163781290:0=0:=rfl
theorem tw17416441018511940664:0=0:=rfl
theorem tw6491352954809077695:0=0:=rfl
theorem tw14486037997958039434:0=0:=rfl
theorem tw9975479776947984643:0=0:=rfl
theorem tw13125733151556882991:0=0:=rfl
theorem tw3296484476328262873:0=0:=rfl
theorem tw3889936701344832123:0=0:=rfl
theorem tw5407602513084886220:0=0:=rfl
theorem tw1800551120663311522:0=0:=rfl
theorem tw15142936827019351727:0=0:=rfl
theorem tw9895916385991139767:0=0:=rfl
theorem tw11739712289573373518:0=0:=rfl
theorem tw373087920018988363:0=0:=rfl
theorem tw1400578497341855654:0=0:=rfl
theorem tw5153779307247865272:0=0:=rfl
theorem tw5020816076354065968:0=0:=rfl
theorem tw10635845760332237304:0=0:=rfl
theorem tw6538287429956954338:0=0:=rfl
theorem tw7567856375383338648:0=0:=rfl
theorem tw1508678254395187316:0=0:=rfl
theorem tw2692556336287317929:0=0:=rfl
theorem tw17740208248551282993:0=0:=rfl
theorem tw2488552333465721215:0=0:=rfl
theorem tw8986385299543164707:0=0:=rfl
theorem tw7867862073205289124:0=0:=rfl
theorem tw3291797870103388185:0=0:=rfl
theorem tw18410034854858331477:0=0:=rfl
theorem tw14046545788653303858:0=0:=rfl
theorem tw3939813024553134376:0=0:=rfl
theorem tw15056199753063284986:0=0:=rfl
theorem tw7348930085188956734:0=0:=rfl
theorem tw14611785535591880935:0=0:=rfl
theorem tw11793396359743147954:0=0:=rfl
theorem tw1148397106069781684:0=0:=rfl
theorem tw4189617718469134180:0=0:=rfl
theorem tw11922893893381740944:0=0:=rfl
theorem tw6096098947890852254:0=0:=rfl
theorem tw27226951738254142:0=0:=rfl
theorem tw10570890913764403186:0=0:=rfl
theorem tw10022153866569421616:0=0:=rfl
theorem tw8662035316047422780:0=0:=rfl
theorem tw18336520544917704590:0=0:=rfl
theorem tw1650145052190531903:0=0:=rfl
theorem tw11940079968787847352:0=0:=rfl
theorem tw17235028826730984467:0=0:=rfl
theorem tw6863896810661233964:0=0:=rfl
theorem tw4790667444744964670:0=0:=rfl
theorem tw10519024981063165737:0=0:=rfl
theorem tw11271778225033557366:0=0:=rfl
theorem tw4315512202857865828:0=0:=rfl
theorem tw8874230755983415969:0=0:=rfl
theorem tw10986616330650154666:0=0:=rfl
theorem tw2265348672491635099:0=0:=rfl
theorem tw7308563930072651429:0=0:=rfl
theorem tw14403436088054735306:0=0:=rfl
theorem tw9810372781919294090:0=0:=rfl
theorem tw7452447263000306986:0=0:=rfl
theorem tw7859268376354290100:0=0:=rfl
theorem tw1362367301765360865:0=0:=rfl
theorem tw15702270263871813138:0=0:=rfl
theorem tw12165874903581674398:0=0:=rfl
theorem tw12761146363423470232:0=0:=rfl
theorem tw8135584491000711273:0=0:=rfl
theorem tw17032000196920780732:0=0:=rfl
theorem tw15346398459681035539:0=0:=rfl
theorem tw12712808559899438538:0=0:=rfl
theorem tw8413717624791846515:0=0:=rfl
theorem tw3962644489524035191:0=0:=rfl
theorem tw17260499864702714756:0=0:=rfl
theorem tw18186833423527561910:0=0:=rfl
theorem tw16359284377980247924:0=0:=rfl
theorem tw10483523631396698206:0=0:=rfl
theorem tw11754875294504280239:0=0:=rfl
theorem tw3576386978089809766:0=0:=rfl
theorem tw13837258080015862675:0=0:=rfl
theorem tw2791506197918650276:0=0:=rfl
theorem tw10967164483437437213:0=0:=rfl
theorem tw16148648243878988194:0=0:=rfl
theorem tw5538973154994161340:0=0:=rfl
theorem tw4552928533063677284:0=0:=rfl
theorem tw12505894091604911872:0=0:=rfl
theorem tw9900760773999738965:0=0:=rfl
end PySem.W.Fast
open PySem PySem.W PyProof.Rows
set_option maxRecDepth 100000 in
set_option maxHeartbeats 0 in
theorem PySem.Challenge.cw_classtab_k55_matches_holds : PySem.Challenge.rw_classtab_k55_matches.Holds := by
 w_on;o_law;k_head;(case hw=>w_witness2)
 k_fill
 refine C55.walk (l:=PySem.Challenge.rw_classtab_k55_matches) rfl rfl (fun w h Y=>PySem.W.kIn_of Y) ?F
 case F=>
  intro w mg fa h KX G hmg
  refine' C55.all_mk KX G hmg (L2.ZD.mk ?_ ?_ ?_ ?_) (L2.ZD.mk ?_ ?_ ?_ ?_) (L2.ZD.mk ?_ ?_ ?_ ?_) (L2.ZD.mk ?_ ?_ ?_ ?_) (L2.ZD.mk ?_ ?_ ?_ ?_) (L2.ZD.mk ?_ ?_ ?_ ?_) (L2.ZD.mk ?_ ?_ ?_ ?_) (L2.ZD.mk ?_ ?_ ?_ ?_) (L2.ZD.mk ?_ ?_ ?_ ?_) (L2.ZD.mk ?_ ?_ ?_ ?_) (L2.ZD.mk ?_ ?_ ?_ ?_) (L2.ZD.mk ?_ ?_ ?_ ?_) (L2.ZD.mk ?_ ?_ ?_ ?_) (L2.ZD.mk ?_ ?_ ?_ ?_) (L2.ZD.mk ?_ ?_ ?_ ?_) (L2.ZD.mk ?_ ?_ ?_ ?_) (L2.ZD.mk ?_ ?_ ?_ ?_) (L2.ZD.mk ?_ ?_ ?_ ?_) (L2.ZD.mk ?_ ?_ ?_ ?_) (L2.ZD.mk ?_ ?_ ?_ ?_) (L2.ZD.mk ?_ ?_ ?_ ?_) (L2.ZD.mk ?_ ?_ ?_ ?_) (L2.ZD.mk ?_ ?_ ?_ ?_) (L2.ZD.mk ?_ ?_ ?_ ?_) (L2.ZD.mk ?_ ?_ ?_ ?_) (L2.ZD.mk ?_ ?_ ?_ ?_) (L2.ZD.mk ?_ ?_ ?_ ?_) (L2.ZD.mk ?_ ?_ ?_ ?_) (L2.ZD.mk ?_ ?_ ?_ ?_) (L2.ZD.mk ?_ ?_ ?_ ?_) (L2.ZD.mk ?_ ?_ ?_ ?_) (L2.ZD.mk ?_ ?_ ?_ ?_) (L2.ZD.mk ?_ ?_ ?_ ?_) (L2.ZD.mk ?_ ?_ ?_ ?_) (L2.ZD.mk ?_ ?_ ?_ ?_) (L2.ZD.mk ?_ ?_ ?_ ?_) (L2.ZD.mk ?_ ?_ ?_ ?_) (L2.ZD.mk ?_ ?_ ?_ ?_) (L2.ZD.mk ?_ ?_ ?_ ?_) (L2.ZD.mk ?_ ?_ ?_ ?_) (L2.ZD.mk ?_ ?_ ?_ ?_) (L2.ZD.mk ?_ ?_ ?_ ?_) (L2.ZD.mk ?_ ?_ ?_ ?_) (L2.ZD.mk ?_ ?_ ?_ ?_) (L2.ZD.mk ?_ ?_ ?_ ?_) (L2.ZD.mk ?_ ?_ ?_ ?_) (L2.ZD.mk ?_ ?_ ?_ ?_) ?_ ?_ ?_ ?_ ?_ ?_ ?_ ?_ ?_ ?_ ?_ ?_ ?_ ?_ ?_ ?_ ?_
  any_goals k_is
  all_goals kernel_rfl
